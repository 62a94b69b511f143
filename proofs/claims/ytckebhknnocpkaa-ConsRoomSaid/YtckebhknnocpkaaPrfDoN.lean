/- Profile, the landed: New and Fit. -/
import Derived.Test.YtckebhknnocpkaaPrfDoS
import Derived.Test.YtckebhknnocpkaaPrfFtD
namespace Go.Proofs.Ytckebhknnocpkaa.Prf
set_option maxRecDepth 100000
open Go.RowKit
open Go.Sort
open Kit
open Tre (Lst inI lst_keep lst_take lst_at lst_new lst_none i64_wf cells_int below_drewN')
set_option linter.unusedVariables false
variable {w w' : World}

theorem ty_ch : Nest.Ty encCh 2 Try.prog 54 53 (.agg #[.int .i64 0, .int .i64 0]) 16 := ⟨encCh_len, by omega, encCh_one, Try.underlying54, info_ch, rfl⟩
theorem val_tk {p : List St} {k : Nat} {s : St} (t : Int) (h : p[k]? = some s) : val (p.take (k + 1)) t = if s.tick ≤ t then s.free else val (p.take k) t := by
  obtain ⟨hk, e⟩ := List.getElem?_eq_some_iff.1 h
  rw [List.take_succ_eq_append_getElem hk, e, val_snoc]
theorem chB_take {now : Int} {l : List Bz} {k : Nat} {b : Bz} (h : l[k]? = some b) : chB now (l.take (k + 1)) = chB now (l.take k) ++ [⟨now, -b.nodes⟩, ⟨b.till, b.nodes⟩] := by
  obtain ⟨hk, e⟩ := List.getElem?_eq_some_iff.1 h
  rw [List.take_succ_eq_append_getElem hk, e, chB_snoc]

set_option maxHeartbeats 16000000 in
theorem fit_any (W : World) (nodes long : Int) (a : Option Addr) (n c : Nat) (p : List St) (hlo : Tk long) (h : Steps W a n c p) (hp : Pf p) :
    Calls Try.prog 20 #[.slice a n c, .int .i64 nodes, .int .i64 long] W fun e W' => ∃ m b, e = .returned (.tuple #[.int .i64 m, .bool b]) ∧ IsF p nodes long m b ∧ Below W.heap.size W W' := by
  have HL := Lib.hid (And.intro h (And.intro h.len hp))
  have hn1 : n ≤ 1000 := by rw [← h.len]; exact hp.len
  have hL1 : 1 ≤ longOf long := by unfold longOf; split <;> omega
  have hL2 : max long 1 = longOf long := by unfold longOf; split <;> omega
  obtain ⟨L, hL⟩ : ∃ L, L = longOf long := ⟨_, rfl⟩
  rw [← hL] at hL1 hL2
  have HLL := Lib.hid hL
  clear h hp hlo hL
  go_enter Try.func20, Try.ntmps20
  go_wp2_with fail
  go_loopw [8, 9, 14] (fun f b i wr => ∃ (k : Nat) (fv : Int) (bv : Bool), k ≤ n ∧ i = .int .i64 (k : Nat) ∧ f = .int .i64 fv ∧ b = .bool bv ∧ FitS p nodes L k fv bv ∧ Below W.heap.size W wr) (fun _ _ i _ => n - (intOf i).toNat)
  case atStart => exact ⟨0, 0, false, Nat.zero_le _, rfl, rfl, rfl, fitS_start, Below.refl _ _⟩
  case round =>
    obtain ⟨k, fv, bv, hk, rfl, rfl, rfl, hf, hb⟩ := hrel
    have HO := Lib.hid (And.intro hf hb)
    have hfr : 0 ≤ fv ∧ fv ≤ 1125899906842624 := by
      rcases fitS_mem hf with rfl | ⟨s, hs, rfl⟩
      · omega
      · exact HL.out.2.2.tick s hs
    clear hf hb
    by_cases hlt : k < n
    · have hkl : k < p.length := by rw [HL.out.2.1]; exact hlt
      obtain ⟨b, o, rfl⟩ := lst_at HL.out.1 (by omega)
      obtain ⟨q0, q1⟩ := step_cells (lst_keep encS_len HL.out.1 HO.out.2) hkl
      have hget := List.getElem?_eq_getElem hkl
      have htk := HL.out.2.2.tick p[k] (List.getElem_mem hkl)
      generalize p[k] = s at *
      obtain ⟨s0, s1⟩ := s
      obtain ⟨t0, t1⟩ := htk
      simp only at q0 q1 t0 t1
      have HG := Lib.hid hget
      have HB1 := Lib.hid (below_keep HO.out.2 (below_alloc wr (.cells #[.int .i64 s0, .int .i64 s1] 57)))
      clear hget hkl
      cases bv with
      | false =>
        by_cases hsn : s1 < nodes
        · have HN := Lib.hid (fitS_few hL1 HL.out.2.2.norm HO.out.1 HG.out hsn (fun h => by cases h))
          go_wp2_with fail
          go_roundw
          case rel => exact ⟨k + 1, 0, false, by omega, by go_num, rfl, rfl, HN.out, HB1.out⟩
          case measure => simp [intOf]; omega
        · have HN := Lib.hid (fitS_first HO.out.1 HG.out hsn)
          go_wp2_with fail
          go_roundw
          case rel => exact ⟨k + 1, s0, true, by omega, by go_num, rfl, rfl, HN.out, HB1.out⟩
          case measure => simp [intOf]; omega
      | true =>
        by_cases hlg : L ≤ s0 - fv
        · have HN := Lib.hid (fitS_found (long := long) (start := fv) HL.out.2.2.norm (by rw [← HLL.out]; exact HO.out.1) HG.out (by rw [← HLL.out]; exact hlg))
          go_wp2_with fail
          go_ret2
          exact ⟨fv, true, rfl, HN.out, HB1.out⟩
        · by_cases hsn : s1 < nodes
          · have HN := Lib.hid (fitS_few hL1 HL.out.2.2.norm HO.out.1 HG.out hsn (fun _ => by simp only; omega))
            go_wp2_with fail
            go_roundw
            case rel => exact ⟨k + 1, 0, false, by omega, by go_num, rfl, rfl, HN.out, HB1.out⟩
            case measure => simp [intOf]; omega
          · have HN := Lib.hid (fitS_more HO.out.1 HG.out hsn)
            go_wp2_with fail
            go_roundw
            case rel => exact ⟨k + 1, fv, true, by omega, by go_num, rfl, rfl, HN.out, HB1.out⟩
            case measure => simp [intOf]; omega
    · obtain rfl : n = k := by omega
      have HE := Lib.hid (fitS_end (long := long) (b := bv) (start := fv) HL.out.2.2.norm (by rw [HL.out.2.1, ← HLL.out]; exact HO.out.1))
      go_wp2_with fail
      go_ret2
      exact ⟨fv, bv, rfl, HE.out, HO.out.2⟩

set_option maxHeartbeats 16000000 in
theorem new_own (W : World) (now total : Int) (a : Option Addr) (n c : Nat) (l : List Bz) (hnow : Tk now) (htot : Nd total) (h : Busys W a n c l) (hm : ∀ b ∈ l, b.may) (hn : n ≤ 500) :
    Calls Try.prog 19 #[.int .i64 now, .int .i64 total, .slice a n c] W fun e W' => ∃ a c p, e = .returned (.slice a p.length c) ∧ Steps W' a p.length c p ∧ IsP p (newF total l) now ∧ Below W.heap.size W W' ∧ OwS W' W.heap.size (.slice a p.length c) p := by
  have HL := Lib.hid (And.intro h (And.intro h.len hm))
  have HT := Lib.hid htot
  have HEm := Lib.hid (And.intro (own_litC W W.heap.size ⟨now, total⟩ (Nat.le_refl _)) (below_alloc W (.cells #[.int .i64 now, .int .i64 total] 53)))
  clear h hm htot hnow
  go_enter Try.func19, Try.ntmps19
  go_wp2_with fail
  go_loopw [7, 16] (fun v i wr => ∃ k : Nat, k ≤ n ∧ i = .int .i64 (k : Nat) ∧ OwC wr W.heap.size v (chN now total (l.take k)) ∧ Below W.heap.size W wr) (fun _ i _ => n - (intOf i).toNat)
  case atStart => exact ⟨0, Nat.zero_le _, rfl, HEm.out.1, HEm.out.2⟩
  case round =>
    obtain ⟨k, hk, rfl, ho, hb⟩ := hrel
    have HO := Lib.hid (And.intro ho hb)
    clear ho hb
    by_cases hlt : k < n
    · have hkl : k < l.length := by rw [HL.out.2.1]; exact hlt
      obtain ⟨b, o, rfl⟩ := lst_at HL.out.1 (by omega)
      obtain ⟨q0, q1⟩ := busy_cells (lst_keep encZ_len HL.out.1 HO.out.2) hkl
      have hct := chB_take (now := now) (List.getElem?_eq_getElem hkl)
      have hmy := (HL.out.2.2 l[k] (List.getElem_mem hkl)).2
      generalize l[k] = x at *
      obtain ⟨x0, x1⟩ := x
      obtain ⟨m0, m1⟩ := hmy
      simp only at q0 q1 hct m0 m1
      have hcn : chN now total (l.take (k + 1)) = chN now total (l.take k) ++ [⟨now, -x1⟩, ⟨x0, x1⟩] := by
        unfold chN
        rw [hct]
        rfl
      have hcl : (chN now total (l.take k)).length ≤ 1001 := by
        unfold chN
        rw [List.length_cons, chB_len, List.length_take]
        omega
      have HCn := Lib.hid (And.intro hcn (show (chN now total (l.take k)).length + 2 ≤ 100000 by omega))
      have hb1 := below_alloc wr (.cells #[.int .i64 x0, .int .i64 x1] 36)
      have HA := Lib.hid (And.intro (own_keepC HO.out.1 hb1) (below_keep HO.out.2 hb1))
      clear hcn hcl hct hkl hb1
      go_wp2_with (first | (at_builtin; refine Nest.many_arm ty_ch rfl (.tmp 20) (.tmp 31) rfl (wr.alloc (.cells #[.int .i64 x0, .int .i64 x1] 36)) #[.int .i64 now, .int .i64 (-x1), .int .i64 x0, .int .i64 x1] rfl [(⟨now, -x1⟩ : Ch), ⟨x0, x1⟩] 2 rfl rfl W.heap.size _ (chN now total (l.take k)) rfl HA.out.1 (wr.heap.size + 1) (by simp) rfl HCn.out.2 (by omega) HA.out.2.size ?_; intro v9 w9 ho9 hb9 _; have HE := Lib.hid (And.intro ho9 (HA.out.2.trans hb9)); clear ho9 hb9) | fail)
      go_roundw
      case rel => exact ⟨k + 1, by omega, by go_num, by rw [HCn.out.1]; exact HE.out.1, HE.out.2⟩
      case measure => simp [intOf]; omega
    · obtain rfl : n = k := by omega
      have htk : l.take n = l := List.take_of_length_le (by rw [HL.out.2.1]; exact Nat.le_refl _)
      rw [htk] at HO
      have HS := Lib.hid (steps_own _ _ now _ (chN now total l) ⟨_, List.mem_cons_self .., Int.le_refl _⟩ HO.out.1 HO.out.2.size (by unfold chN; rw [List.length_cons, chB_len, HL.out.2.1]; omega) (fun c hc => by
        obtain ⟨t0, t1⟩ := HT.out
        rcases List.mem_cons.1 hc with rfl | hc
        · simp only; omega
        · have := chB_mem (K := 1048576) (fun b hb => (HL.out.2.2 b hb).2) c hc
          omega))
      clear htk
      go_wp2_with fail
      refine HS.out.mono ?_
      rintro e w2 ⟨a2, c2, p, rfl, h1, h2, h3, h4, h5⟩
      have HR := Lib.hid (And.intro h1 (And.intro (isP_congr h2 fun t ht => chN_sum ht l) (And.intro (HO.out.2.trans h4) (Foot.owns_le h5 HO.out.2.size))))
      obtain ⟨m, hm⟩ : ∃ m, m = p.length := ⟨_, rfl⟩
      rw [← hm] at HR ⊢
      have HM := Lib.hid hm
      clear h1 h2 h3 h4 h5 hm HS
      go_wp2_with fail
      go_ret
      exact ⟨a2, c2, p, by rw [← HM.out]; rfl, by rw [← HM.out]; exact HR.out.1, HR.out.2.1, HR.out.2.2.1, by rw [← HM.out]; exact HR.out.2.2.2⟩
theorem new_any (W : World) (now total : Int) (a : Option Addr) (n c : Nat) (l : List Bz) (hnow : Tk now) (htot : Nd total) (h : Busys W a n c l) (hm : ∀ b ∈ l, b.may) (hn : n ≤ 500) :
    Calls Try.prog 19 #[.int .i64 now, .int .i64 total, .slice a n c] W fun e W' => ∃ a c p, e = .returned (.slice a p.length c) ∧ Steps W' a p.length c p ∧ IsP p (newF total l) now ∧ Below W.heap.size W W' :=
  (new_own W now total a n c l hnow htot h hm hn).mono fun _ _ ⟨a, c, p, h1, h2, h3, h4, _⟩ => ⟨a, c, p, h1, h2, h3, h4⟩
end Go.Proofs.Ytckebhknnocpkaa.Prf
