/- Frame: the landed way back: the halves of a stamp, stamps that are alike, what is between the stamps. -/
import Derived.Test.YtfnkeknnlndjcaaFrmPut
namespace Go.Proofs.Ytfnkeknnlndjcaa.Frm
open Go.RowKit
open Go.Sort
open Kit
open Oct
open Chk
open Rng
set_option linter.unusedVariables false

set_option maxHeartbeats 1000000 in
theorem equal_any (a1 a2 : Option Addr) (n1 n2 c1 c2 : Nat) (l1 l2 : Bs) (w : World) (h1 : l1.length = n1) (h2 : l2.length = n2) (e1 : a1 = none → n1 = 0) (e2 : a2 = none → n2 = 0) (r1 : RowB w a1 l1) (r2 : RowB w a2 l2) :
    Calls Try.prog 31 #[.slice a1 n1 c1, .slice a2 n2 c2] w fun e w' => e = .returned (.bool (decide (l1 = l2))) ∧ w = w' := by
  have k1 : (convert 22 9 (.slice a1 n1 c1)).run Try.prog w = .ok (.string ⟨l1.toArray⟩) w := conv_row Try.underlying22 Try.underlying5 Try.underlying9 h1 e1 r1
  have k2 : (convert 22 9 (.slice a2 n2 c2)).run Try.prog w = .ok (.string ⟨l2.toArray⟩) w := conv_row Try.underlying22 Try.underlying5 Try.underlying9 h2 e2 r2
  by_cases h : l1 = l2
  · subst h
    have hd := Lib.hid (decide_eq_true (rfl : l1 = l1))
    clear h1 h2 e1 e2 r1 r2
    go_enter Try.func31, Try.ntmps31
    go_wp2
    go_ret
    exact ⟨ret_bool (by simp), rfl⟩
  · have hd := Lib.hid (decide_eq_false h)
    clear h1 h2 e1 e2 r1 r2
    go_enter Try.func31, Try.ntmps31
    go_wp2
    go_ret
    refine ⟨ret_bool ?_, rfl⟩
    rw [hd.out]
    simp [h]
theorem equal_at (v1 v2 : Value) (n : Nat) (l1 l2 : Bs) (w : World) (h1 : l1.length = n) (h2 : l2.length = n) (r1 : AtB w v1 n l1) (r2 : AtB w v2 n l2) :
    Calls Try.prog 31 #[v1, v2] w fun e w' => e = .returned (.bool (decide (l1 = l2))) ∧ w = w' := by
  obtain ⟨b1, o1, c1, rfl, _, _, q1⟩ := r1
  obtain ⟨b2, o2, c2, rfl, _, _, q2⟩ := r2
  exact equal_any _ _ n n c1 c2 l1 l2 w h1 h2 (fun e => by cases e) (fun e => by cases e) q1 q2

theorem run_cv_u64 (z : Int) (N : Nat) (hz : toU64 z = N) (w : World) : (convert 3 47 (.int .i64 z)).run Try.prog w = .ok (.int .u64 (N : Nat)) w := by
  subst hz
  simp [go_sem]
  exact wrap_u z
theorem toU_toI (N : Nat) (h : N < 18446744073709551616) : toU64 (toI64 N) = N := by unfold toU64 toI64; split <;> omega
theorem and_half (N : Nat) (h : N < 18446744073709551616) : Go.bits .and .u64 (N : Int) 4294967295 = ((N % 4294967296 : Nat) : Int) := by
  have := bits_and_u64_nat N 4294967295 h (by omega)
  rw [show ((4294967295 : Nat) : Int) = 4294967295 from rfl] at this
  rw [this, show (4294967295 : Nat) = 2 ^ 32 - 1 from rfl, Nat.and_two_pow_sub_one_eq_mod]
set_option maxHeartbeats 1000000 in
theorem halves_any (v : Value) (e q : Nat) (he : e < 4294967296) (hq : q < 4294967296) (w : World) (h : AtB w v 8 (mark e q)) :
    Calls Try.prog 21 #[v] w fun e' w' => e' = .returned (.tuple #[.int .i64 (e : Nat), .int .i64 (q : Nat)]) ∧ Below w.heap.size w w' := by
  obtain ⟨b, o, c, rfl, h1, h2, h3⟩ := h
  have hN : e * 4294967296 + q < 18446744073709551616 := by omega
  have hr : rInt (some (mark e q)) = (toI64 (e * 4294967296 + q), some []) := by
    simp only [rInt]
    rw [if_pos (by rw [mark_length]; omega), List.take_of_length_le (by rw [mark_length]; omega), List.drop_of_length_le (by rw [mark_length]; omega), ← mark_be e q hq, numB_be8 _ hN]
  have HA := Lib.hid (and_half _ hN)
  have HM := Lib.hid (show ((e * 4294967296 + q : Nat) : Int) / 4294967296 = (e : Nat) ∧ (((e * 4294967296 + q) % 4294967296 : Nat) : Int) = (q : Nat) from ⟨by omega, by omega⟩)
  obtain ⟨z, hz⟩ : ∃ z, z = toI64 (e * 4294967296 + q) := ⟨_, rfl⟩
  have hzu : toU64 z = e * 4294967296 + q := by rw [hz]; exact toU_toI _ hN
  rw [← hz] at hr
  obtain ⟨N, hNN⟩ : ∃ N, N = e * 4294967296 + q := ⟨_, rfl⟩
  rw [← hNN] at hzu HA HM hN
  have HR := Lib.hid hr
  have HZ := Lib.hid (fun W => run_cv_u64 z N hzu W)
  clear hz hr hzu hNN
  go_enter Try.func21, Try.ntmps21
  go_wp2_with fail
  refine (new_any (some ⟨b, o, none⟩) 8 c (mark e q) w (mark_length e q) (fun h => by cases h) h3 (by omega)).mono ?_
  rintro e1 w1 ⟨p, rfl, hR, hb⟩
  have HB := Lib.hid hb
  have hp := rdr_ge hR
  go_wp2_with fail
  refine (int_rdr_is hR HR.out).mono ?_
  rintro e2 w2 ⟨rfl, hR2, hg⟩
  have HB2 := Lib.hid (HB.out.trans (grown_below hg HB.out.size hp))
  have hcv := HZ.out w2
  clear hR hb hg hR2 hp
  go_wp2
  go_ret2
  refine ⟨?_, HB2.out⟩
  have hq2 : wrap64 (q : Int) = q := by unfold wrap64; omega
  show Ending.returned (.tuple #[.int .i64 ((N : Int) / 4294967296), .int .i64 (wrap64 (Go.bits .and .u64 (N : Int) 4294967295))]) = _
  rw [HA.out, HM.out.1, HM.out.2, hq2]

def StampR (K : Nat) (l : Bs) (e' : Ending) : Prop := ∃ r : Bool, e' = .returned (.bool r) ∧ (r = true ↔ ∀ i, i < K → stampL l i = stampL l 0)
set_option maxHeartbeats 2000000 in
theorem stamped_any (b o len cap K : Nat) (l : Bs) (w : World) (hl : l.length = len) (hK : 32 * K ≤ len) (hc : len ≤ cap) (hm : cap ≤ maxLen) (hE : RowB w (some ⟨b, o, none⟩) l) :
    Calls Try.prog 29 #[.slice (some ⟨b, o, none⟩) len cap, .int .i64 (K : Nat)] w fun e' w' => StampR K l e' ∧ w = w' := by
  have HE := Lib.hid hE
  have HC := Lib.hid (And.intro hl (And.intro hc hm))
  unfold maxLen at hm
  clear hE hl
  go_enter Try.func29, Try.ntmps29
  go_wp2
  go_loop [7] (fun iv => ∃ k : Nat, k ≤ K ∧ iv = .int .i64 k ∧ ∀ i, i < k → stampL l i = stampL l 0) (fun iv => K - (intOf iv).toNat)
  case atStart => exact ⟨0, Nat.zero_le _, rfl, fun i hi => by omega⟩
  case round =>
    obtain ⟨k, hk, rfl, hall⟩ := hrel
    have HAll := Lib.hid hall
    clear hall
    by_cases hlt : k < K
    · go_wp2_with fail
      refine (stampAt_any b o len cap k l w HC.out.1 (by omega) HC.out.2.1 HC.out.2.2 HE.out).mono ?_
      rintro e1 w1 ⟨v1, rfl, hv1, rfl⟩
      have HV1 := Lib.hid hv1
      clear hv1
      go_wp2_with fail
      refine (stampAt_any b o len cap 0 l w HC.out.1 (by omega) HC.out.2.1 HC.out.2.2 HE.out).mono ?_
      rintro e2 w2 ⟨v2, rfl, hv2, rfl⟩
      have HV2 := Lib.hid hv2
      clear hv2
      go_wp2_with fail
      refine (equal_at v1 v2 8 _ _ w (stampL_length (by rw [HC.out.1]; omega)) (stampL_length (by rw [HC.out.1]; omega)) HV1.out HV2.out).mono ?_
      rintro e3 w3 ⟨rfl, rfl⟩
      by_cases heq : stampL l k = stampL l 0
      · rw [decide_eq_true heq]
        have HQ := Lib.hid heq
        clear heq
        go_wp2
        go_round
        case rel => exact ⟨k + 1, by omega, by go_num, fun i hi => by
          rcases Nat.lt_or_ge i k with h | h
          · exact HAll.out i h
          · obtain rfl : i = k := by omega
            exact HQ.out⟩
        case measure => simp [intOf]; omega
      · rw [decide_eq_false heq]
        have HQ := Lib.hid heq
        clear heq
        go_wp2
        go_ret
        exact ⟨⟨false, rfl, ⟨(fun h => by cases h), fun h => absurd (h k hlt) HQ.out⟩⟩, rfl⟩
    · obtain rfl : k = K := by omega
      go_wp2
      go_ret
      exact ⟨⟨true, rfl, ⟨fun _ => HAll.out, fun _ => rfl⟩⟩, rfl⟩

/-- A round that appends one list. -/
def phiOne (W w0 : World) (base B : Nat) (rows : List (Option Addr × Bs)) (boxes : List (Nat × TypeId × Value)) (f k1 : Bs) (v : Value) : Nat → List Value → World → Prop
  | 0, _, w => w = W.drew
  | 1, vs, w => ∃ u, vs = [u] ∧ Mid w0 base B rows boxes (f ++ k1) w v u ∧ KeepsOthers W w
  | _, _, w => Inv9 w0 base B rows boxes (f ++ k1) w ∧ KeepsOthers W w
theorem one_v0 {W w0 w : World} {base B : Nat} {rows : List (Option Addr × Bs)} {boxes : List (Nat × TypeId × Value)} {f k1 : Bs} {v : Value} {j : Nat} {vs : List Value} (hM : Mid w0 base B rows boxes f W v v) (hj : j ≤ 0) (h : phiOne W w0 base B rows boxes f k1 v j vs w) : w.cell? ⟨B, 0, none⟩ = some v := by
  match j, hj with
  | 0, _ => obtain rfl : w = W.drew := h; exact (mid_drew hM).box.cell
theorem dataL_flat (s : Bs) : ∀ k, 32 * k ≤ s.length → (List.range k).flatMap (fun i => (s.drop (32 * i)).take 24) = dataL s k
  | 0, _ => rfl
  | k + 1, h => by rw [List.range_succ, List.flatMap_append, dataL_flat s k (by omega), ← dataL_succ (s := s) (k := k) (by omega)]; simp

attribute [local go_sem] Oper.semAt_some
set_option maxRecDepth 100000 in
set_option maxHeartbeats 8000000 in
theorem dataIn_any (b o cap K : Nat) (l : Bs) (w : World) (hK : 1 ≤ K) (hl : 32 * K ≤ l.length) (hm : l.length ≤ 1900) (hc : 32 * K ≤ cap) (hcm : cap ≤ maxLen) (hE : RowB w (some ⟨b, o, none⟩) l) :
    Calls Try.prog 30 #[.slice (some ⟨b, o, none⟩) (32 * K) cap] w fun e' w' => ∃ v, e' = .returned v ∧ OwnB w' w.heap.size v (dataL l K) ∧ Below w.heap.size w w' := by
  have HE := Lib.hid hE
  have hblt := Kit.row_lt encB_len (by omega) hE (by omega)
  clear hE
  unfold maxLen at hcm
  refine (callsIn_wide (n := 9)).1 ?_
  refine callsIn_of_wp_marks Try.func30 rfl trivial ?_ rfl
  simp only [Try.ntmps30, List.size_toArray, List.length_cons, List.length_nil, Nat.reduceAdd, Nat.reduceSub, Array.replicate_succ, Array.replicate_zero, List.push_toArray, List.append_toArray, List.nil_append, List.cons_append]
  gi_wp2_with fail
  refine ⟨trivial, callsIn_wide.2 ((pieces_any (some ⟨b, o, none⟩) (32 * K) cap 32 _).mono ?_)⟩
  rintro e4 w5 ⟨rfl, rfl⟩
  simp only [World.size_alloc]
  gi_wp2_with fail
  obtain ⟨ROWS, hROWS⟩ : ∃ R, R = ([(some ⟨b, o, none⟩, l)] : List (Option Addr × Bs)) := ⟨_, rfl⟩
  obtain ⟨BOXES, hBOXES⟩ : ∃ R, R = ([(w.heap.size + 1, tB, .slice (some ⟨b, o, none⟩) (32 * K) cap), (w.heap.size + 1 + 1, 3, .int .i64 32)] : List (Nat × TypeId × Value)) := ⟨_, rfl⟩
  have HMem : Hid (((some ⟨b, o, none⟩ : Option Addr), l) ∈ ROWS ∧ (w.heap.size + 1, tB, Value.slice (some ⟨b, o, none⟩) (32 * K) cap) ∈ BOXES ∧ (w.heap.size + 1 + 1, 3, Value.int .i64 32) ∈ BOXES) := Lib.hid (by rw [hROWS, hBOXES]; simp)
  have HM : Hid (Mid w w.heap.size w.heap.size ROWS BOXES []
      (((w.alloc (.cells #[.slice none 0 0] 22)).alloc (.cells #[.slice (some ⟨b, o, none⟩) (32 * K) cap] 22)).alloc (.cells #[.int .i64 32] 3)) (.slice none 0 0) (.slice none 0 0)) := Lib.hid (by
    have b0 := Boxed.new w tB (.slice none 0 0)
    have b1 := Boxed.new (w.alloc (.cells #[.slice none 0 0] tB)) tB (.slice (some ⟨b, o, none⟩) (32 * K) cap)
    have b2 := Boxed.new ((w.alloc (.cells #[.slice none 0 0] tB)).alloc (.cells #[.slice (some ⟨b, o, none⟩) (32 * K) cap] tB)) 3 (.int .i64 32)
    simp only [World.size_alloc] at b1 b2
    refine ⟨(b0.alloc _).alloc _, owns_nil _ _ _, (fun i h => by cases h), ?_, ?_, ?_, ⟨Nat.le_refl _, Nat.le_refl _⟩, (((below_alloc w _).alloc (by simp) _).alloc (by simp; omega) _)⟩
    · intro r hr q' hq'
      rw [hROWS] at hr
      simp only [List.mem_cons, List.not_mem_nil, or_false] at hr
      subst hr
      injection hq' with hq'
      subst hq'
      exact ⟨by simp [Value.ownBlock], by simp only [World.size_alloc]; omega⟩
    · intro r hr
      rw [hROWS] at hr
      simp only [List.mem_cons, List.not_mem_nil, or_false] at hr
      subst hr
      exact row_alloc (row_alloc (row_alloc HE.out _) _) _
    · intro x hx
      rw [hBOXES] at hx
      simp only [List.mem_cons, List.not_mem_nil, or_false] at hx
      rcases hx with rfl | rfl
      · exact ⟨by simp, ne_u8, b1.alloc _⟩
      · exact ⟨by simp; omega, (by show (3 : Nat) ≠ 5; decide), b2⟩)
  have HSt := Lib.hid (And.intro ((HM.out.bx _ HMem.out.2.1).2.2) ((HM.out.bx _ HMem.out.2.2).2.2))
  have hfg : ∀ k, k < K → ((l.drop (32 * k)).take 24).length = 24 := fun k hk => by rw [List.length_take, List.length_drop]; omega
  have HFG := Lib.hid hfg
  have HC := Lib.hid (And.intro hc (And.intro hl hm))
  clear hROWS hBOXES hfg
  refine wpIn_rangeFunc_ownF rfl (by omega) (gf := 24) (lb := #[.pointer (some ⟨w.heap.size + 1, 0, none⟩), .pointer (some ⟨w.heap.size + 1 + 1, 0, none⟩)]) rfl trivial (enters_of Try.func24 (by kernel_rfl) rfl)
    (pieces_stops Fence.wide 8 trivial rfl (by omega) (w.heap.size + 1) (w.heap.size + 1 + 1) b o (32 * K) cap 32 K _ (by omega) rfl (by omega) hc (by unfold maxLen; omega) HSt.out) (fun h k => kps_t h k) (fun _ _ _ _ _ hl hc _ => kps_b hl hc) (Below.refl _ _) (fun _ => rfl)
    (fun pre W => Inv9 w w.heap.size w.heap.size ROWS BOXES (FP (fun i => (l.drop (32 * i)).take 24) pre) W)
    (fun _ _ _ => False)
    (inv_from w w.heap.size w.heap.size _ _ _ (fun pre => FP (fun i => (l.drop (32 * i)).take 24) pre) (by simp only [World.size_alloc]; omega))
    (fun _ _ _ _ _ hs _ _ => hs)
    ⟨_, HM.out⟩
    (fun x => { tmps := #[.slice (some ⟨b, o, none⟩) (32 * K) cap, undef, .slice none 0 0, .pointer (some ⟨w.heap.size, 0, none⟩), .slice (some ⟨b, o + 32 * x.1, none⟩) 32 (cap - 32 * x.1),
          .slice (some ⟨b, o, none⟩) (32 * K) cap, .func (.func 24) #[] #[.pointer (some ⟨w.heap.size + 1, 0, none⟩), .pointer (some ⟨w.heap.size + 1 + 1, 0, none⟩)],
          .slice (some ⟨b, o + 32 * x.1, none⟩) 32 (cap - 32 * x.1), undef, undef, undef, undef, undef], defers := [] }) ?assign ?body ?done ?stop
  case assign =>
    intro l0 x W Kc hKc
    unfold encP
    gi_wp2
    exact hKc
  case body =>
    rintro l0 pre x W ⟨v, hMd⟩ hlen
    refine wpIn_block ?_
    obtain ⟨va, vc, rfl, _⟩ := own_row hMd.own
    have hfl := fp_length HFG.out pre
    have hrp := row_take (row_from (hMd.row _ HMem.out.1) (32 * x.1)) 24
    have HFS := Lib.hid (fp_snoc (fun i => (l.drop (32 * i)).take 24) pre x)
    have hcl := HFG.out x.1 x.2
    have hx32 : 32 * x.1 + 32 ≤ 32 * K := by have := x.2; omega
    have HC2 := Lib.hid (show 24 ≤ cap - 32 * x.1 ∧ 32 ≤ cap - 32 * x.1 from ⟨by omega, by omega⟩)
    obtain ⟨k1, hk1⟩ : ∃ k, k = (l.drop (32 * x.1)).take 24 := ⟨_, rfl⟩
    obtain ⟨f, hf⟩ : ∃ f, f = FP (fun i => (l.drop (32 * i)).take 24) pre := ⟨_, rfl⟩
    rw [← hk1] at hrp hcl
    rw [← hf] at hMd hfl
    have HMd := Lib.hid hMd
    have HK1 := Lib.hid (And.intro hcl hrp)
    have HF := Lib.hid (show f.length ≤ 24 * 100 by rw [hfl]; omega)
    have HEq := Lib.hid (And.intro hk1 hf)
    clear hMd hfl hrp hcl hk1 hf
    refine Rng.region_in (by kernel_rfl) (by kernel_rfl) (Rng.lets_block (Rng.lets_own _ _ _ _ _)) (Chn.any_chain (fun idx => match idx with | 0 => some (.slice va f.length vc) | 1 => some (.slice (some ⟨b, o + 32 * x.1, none⟩) 32 (cap - 32 * x.1)) | 2 => some (.slice (some ⟨b, o + 32 * x.1, none⟩) 24 (cap - 32 * x.1)) | _ => none) [3, 4] (phiOne W w w.heap.size w.heap.size ROWS BOXES f k1 (.slice va f.length vc)) (by kernel_rfl) (by kernel_rfl) (by kernel_rfl) (by kernel_rfl) (by decide) (by kernel_rfl) (rfl) ?_ ?_)
    · refine ⟨?_, ?_, ?_, ?_, ?_, trivial⟩
      · intro a ww jj vs c hj0 hΦ
        have hj : jj ≤ 0 := Nat.le_trans hj0 (of_decide_eq_true (by kernel_rfl))
        refine .inl ⟨Rel.wanted_free (by kernel_rfl) _, ?_⟩
        exact Rel.wp_ld _ _ rfl (c.old 3 (v := .pointer (some ⟨w.heap.size, 0, none⟩)) (by kernel_rfl) (by kernel_rfl)) (run_ld_sl (one_v0 HMd.out hj hΦ)) ⟨rfl, rfl⟩
      · intro a ww jj vs c hj0 hΦ
        have hj : jj ≤ 0 := Nat.le_trans hj0 (of_decide_eq_true (by kernel_rfl))
        refine .inl ⟨Rel.wanted_free (by kernel_rfl) _, ?_⟩
        exact Rel.wp_mv _ rfl ⟨congrArg (a.put _) (c.old 4 (v := .slice (some ⟨b, o + 32 * x.1, none⟩) 32 (cap - 32 * x.1)) (by kernel_rfl) (by kernel_rfl)), rfl⟩
      · intro a ww jj vs c hj0 hΦ
        have hj : jj ≤ 0 := Nat.le_trans hj0 (of_decide_eq_true (by kernel_rfl))
        refine .inl ⟨Rel.wanted_free (by kernel_rfl) _, ?_⟩
        exact Rel.wp_sl _ _ _ _ _ rfl (c.get 1 9 (by kernel_rfl) rfl) rfl rfl rfl (run_cut _ 32 24 _ (by omega) HC2.out.2 ww) ⟨rfl, rfl⟩
      · refine ⟨0, rfl, ?_⟩
        intro a ww c hΦ
        have h : (phiOne W w w.heap.size w.heap.size ROWS BOXES f k1 (.slice va f.length vc)) 0 [] ww := hΦ
        clear hΦ
        refine ⟨Rel.wanted_free (by kernel_rfl) _, ?_⟩
        obtain rfl : ww = W.drew := h
        obtain ⟨u, wz, hr, hm9, hk9, _⟩ := mid_run (mid_drew HMd.out) 22 (c := cap - 32 * x.1) HK1.out.1 HK1.out.2 (fun h => by cases h) (by have := HF.out; omega)
        exact Chn.wp_ap _ _ _ rfl (c.get 0 8 (by kernel_rfl) rfl) (c.get 2 10 (by kernel_rfl) rfl) hr ⟨_, rfl, u, rfl, hm9, (KeepsOthers.drew W).trans hk9⟩
      · refine ⟨1, rfl, ?_⟩
        intro a ww c hΦ
        have h : (phiOne W w w.heap.size w.heap.size ROWS BOXES f k1 (.slice va f.length vc)) 1 [Rel.slot a 11] ww := hΦ
        clear hΦ
        refine ⟨Rel.wanted_free (by kernel_rfl) _, ?_⟩
        obtain ⟨u, hu, hm8, hk8⟩ := h
        injection hu with hu _
        obtain ⟨ua, uc, hue, _⟩ := own_row hm8.own
        subst hue
        exact Chn.wp_st _ _ _ rfl (c.old 3 (v := .pointer (some ⟨w.heap.size, 0, none⟩)) (by kernel_rfl) (by kernel_rfl)) hu (run_st_sl hm8.box.cell hm8.box.frozen) ⟨undef, rfl, ⟨_, mid_store hm8⟩, hk8.trans (KeepsOthers.setCell _ _ _)⟩
    intro a w9 hbase hroom hdef hΦ hV
    have h : (phiOne W w w.heap.size w.heap.size ROWS BOXES f k1 (.slice va f.length vc)) 2 [Rel.slot a 11, undef] w9 := hΦ
    clear hbase hroom hdef hΦ hV
    obtain ⟨⟨v9, hM9⟩, hk9⟩ := (show Inv9 w w.heap.size w.heap.size ROWS BOXES (f ++ k1) w9 ∧ KeepsOthers W w9 from h)
    refine ⟨hk9, fun _ => ⟨(hM9.bx _ HMem.out.2.1).2.2, (hM9.bx _ HMem.out.2.2).2.2⟩, v9, ?_⟩
    rw [HFS.out, ← HEq.out.1, ← HEq.out.2]
    exact hM9
  case done =>
    rintro D ys W hD hys ⟨v, hM⟩ hKd
    have hF : FP (fun i => (l.drop (32 * i)).take 24) ys = dataL l K := by
      rw [fp_map, hys, dataL_flat l K HC.out.2.1]
    rw [hF] at hM
    obtain ⟨va, vc, rfl, _⟩ := own_row hM.own
    have c9 := hM.box.cell
    have HM9 := Lib.hid hM
    clear hM hF
    gi_wp2
    refine ⟨by simp, .inl ⟨_, _, rfl, run_takeDeferred hKd, ?_⟩⟩
    exact ⟨_, results_tmp rfl _ _ _, .slice va (dataL l K).length vc, rfl, ownsRow_putObj HM9.out.own _ hKd rfl, HM9.out.bel.trans (belowK_b (w := w) (Nat.le_refl _) W D _ _ (by simp only [World.size_alloc] at hD; omega) hKd rfl rfl)⟩
  case stop =>
    rintro D c pre W _ _ h _
    exact h.elim
end Go.Proofs.Ytfnkeknnlndjcaa.Frm
