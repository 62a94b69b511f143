/- Profile, the landed: New, At and Fit. -/
import Derived.Test.YthpeahphnegedaaPrfDoS
import Derived.Test.YthpeahphnegedaaPrfFtD
namespace Go.Proofs.Ythpeahphnegedaa.Prf
set_option maxRecDepth 100000
open Go.RowKit
open Go.Sort
open Kit
open Tre (Lst inI lst_keep lst_take lst_at lst_new lst_none i64_wf cells_int below_drewN')
set_option linter.unusedVariables false
variable {w w' : World}

theorem ty_ch : Nest.Ty encCh 2 Try.prog 52 51 (.agg #[.int .i64 0, .int .i64 0]) 16 := ⟨encCh_len, by omega, encCh_one, Try.underlying52, info_ch, rfl⟩
theorem val_tk {p : List St} {k : Nat} {s : St} (t : Int) (h : p[k]? = some s) : val (p.take (k + 1)) t = if s.tick ≤ t then s.free else val (p.take k) t := by
  obtain ⟨hk, e⟩ := List.getElem?_eq_some_iff.1 h
  rw [List.take_succ_eq_append_getElem hk, e, val_snoc]
theorem chB_take {now : Int} {l : List Bz} {k : Nat} {b : Bz} (h : l[k]? = some b) : chB now (l.take (k + 1)) = chB now (l.take k) ++ [⟨now, -b.nodes⟩, ⟨b.till, b.nodes⟩] := by
  obtain ⟨hk, e⟩ := List.getElem?_eq_some_iff.1 h
  rw [List.take_succ_eq_append_getElem hk, e, chB_snoc]

set_option maxHeartbeats 8000000 in
theorem at_any (W : World) (t : Int) (a : Option Addr) (n c : Nat) (p : List St) (h : Steps W a n c p) (hp : Pf p) :
    Calls Try.prog 16 #[.slice a n c, .int .i64 t] W fun e W' => e = .returned (.int .i64 (val p t)) ∧ Below W.heap.size W W' := by
  have HL := Lib.hid (And.intro h h.len)
  have hn1 : n ≤ 1000 := by rw [← h.len]; exact hp.len
  clear h hp
  go_enter Try.func16, Try.ntmps16
  go_wp2_with fail
  go_loopw [5, 10] (fun f i wr => ∃ (k : Nat) (fv : Int), k ≤ n ∧ i = .int .i64 (k : Nat) ∧ f = .int .i64 fv ∧ fv = val (p.take k) t ∧ Below W.heap.size W wr) (fun _ i _ => n - (intOf i).toNat)
  case atStart => exact ⟨0, 0, Nat.zero_le _, rfl, rfl, rfl, Below.refl _ _⟩
  case round =>
    obtain ⟨k, fv, hk, rfl, rfl, hf, hb⟩ := hrel
    have HO := Lib.hid (And.intro hf hb)
    clear hf hb
    by_cases hlt : k < n
    · have hkl : k < p.length := by rw [HL.out.2]; exact hlt
      obtain ⟨b, o, rfl⟩ := lst_at HL.out.1 (by omega)
      obtain ⟨q0, q1⟩ := step_cells (lst_keep encS_len HL.out.1 HO.out.2) hkl
      have hvt := val_tk t (List.getElem?_eq_getElem hkl)
      generalize p[k] = s at *
      obtain ⟨s0, s1⟩ := s
      simp only at q0 q1 hvt
      rw [← HO.out.1] at hvt
      have HVt := Lib.hid hvt
      have HB1 := Lib.hid (below_keep HO.out.2 (below_alloc wr (.cells #[.int .i64 s0, .int .i64 s1] 49)))
      clear hvt hkl
      by_cases hst : s0 ≤ t
      · have HE := Lib.hid (show s1 = val (p.take (k + 1)) t by rw [HVt.out, if_pos hst])
        go_wp2_with fail
        go_roundw
        case rel => exact ⟨k + 1, s1, by omega, by go_num, rfl, HE.out, HB1.out⟩
        case measure => simp [intOf]; omega
      · have HE := Lib.hid (show fv = val (p.take (k + 1)) t by rw [HVt.out, if_neg hst])
        go_wp2_with fail
        go_roundw
        case rel => exact ⟨k + 1, fv, by omega, by go_num, rfl, HE.out, HB1.out⟩
        case measure => simp [intOf]; omega
    · obtain rfl : n = k := by omega
      have HE := Lib.hid (show fv = val p t by rw [HO.out.1, List.take_of_length_le (by rw [HL.out.2]; exact Nat.le_refl _)])
      go_wp2_with fail
      go_ret
      exact ⟨by rw [← HE.out]; rfl, HO.out.2⟩

set_option maxHeartbeats 16000000 in
theorem fit_any (W : World) (nodes long : Int) (a : Option Addr) (n c : Nat) (p : List St) (hlo : Tk long) (h : Steps W a n c p) (hp : Pf p) :
    Calls Try.prog 20 #[.slice a n c, .int .i64 nodes, .int .i64 long] W fun e W' => ∃ m b, e = .returned (.tuple #[.int .i64 m, .bool b]) ∧ IsF p nodes long m b ∧ Below W.heap.size W W' := by
  have HL := Lib.hid (And.intro h (And.intro h.len hp))
  have hn1 : n ≤ 1000 := by rw [← h.len]; exact hp.len
  have hL1 : 1 ≤ longOf long := by unfold longOf; split <;> omega
  have hL2 : max long 1 = longOf long := by unfold longOf; split <;> omega
  obtain ⟨L, hL⟩ : ∃ L, L = longOf long := ⟨_, rfl⟩
  rw [← hL] at hL1 hL2
  have HLL := Lib.hid hL
  clear h hp hlo hL
  go_enter Try.func20, Try.ntmps20
  go_wp2_with fail
  go_loopw [8, 9, 14] (fun f b i wr => ∃ (k : Nat) (fv : Int) (bv : Bool), k ≤ n ∧ i = .int .i64 (k : Nat) ∧ f = .int .i64 fv ∧ b = .bool bv ∧ FitS p nodes L k fv bv ∧ Below W.heap.size W wr) (fun _ _ i _ => n - (intOf i).toNat)
  case atStart => exact ⟨0, 0, false, Nat.zero_le _, rfl, rfl, rfl, fitS_start, Below.refl _ _⟩
  case round =>
    obtain ⟨k, fv, bv, hk, rfl, rfl, rfl, hf, hb⟩ := hrel
    have HO := Lib.hid (And.intro hf hb)
    have hfr : 0 ≤ fv ∧ fv ≤ 1125899906842624 := by
      rcases fitS_mem hf with rfl | ⟨s, hs, rfl⟩
      · omega
      · exact HL.out.2.2.tick s hs
    clear hf hb
    by_cases hlt : k < n
    · have hkl : k < p.length := by rw [HL.out.2.1]; exact hlt
      obtain ⟨b, o, rfl⟩ := lst_at HL.out.1 (by omega)
      obtain ⟨q0, q1⟩ := step_cells (lst_keep encS_len HL.out.1 HO.out.2) hkl
      have hget := List.getElem?_eq_getElem hkl
      have htk := HL.out.2.2.tick p[k] (List.getElem_mem hkl)
      generalize p[k] = s at *
      obtain ⟨s0, s1⟩ := s
      obtain ⟨t0, t1⟩ := htk
      simp only at q0 q1 t0 t1
      have HG := Lib.hid hget
      have HB1 := Lib.hid (below_keep HO.out.2 (below_alloc wr (.cells #[.int .i64 s0, .int .i64 s1] 49)))
      clear hget hkl
      cases bv with
      | false =>
        by_cases hsn : s1 < nodes
        · have HN := Lib.hid (fitS_few hL1 HL.out.2.2.norm HO.out.1 HG.out hsn (fun h => by cases h))
          go_wp2_with fail
          go_roundw
          case rel => exact ⟨k + 1, 0, false, by omega, by go_num, rfl, rfl, HN.out, HB1.out⟩
          case measure => simp [intOf]; omega
        · have HN := Lib.hid (fitS_first HO.out.1 HG.out hsn)
          go_wp2_with fail
          go_roundw
          case rel => exact ⟨k + 1, s0, true, by omega, by go_num, rfl, rfl, HN.out, HB1.out⟩
          case measure => simp [intOf]; omega
      | true =>
        by_cases hlg : L ≤ s0 - fv
        · have HN := Lib.hid (fitS_found (long := long) (start := fv) HL.out.2.2.norm (by rw [← HLL.out]; exact HO.out.1) HG.out (by rw [← HLL.out]; exact hlg))
          go_wp2_with fail
          go_ret2
          exact ⟨fv, true, rfl, HN.out, HB1.out⟩
        · by_cases hsn : s1 < nodes
          · have HN := Lib.hid (fitS_few hL1 HL.out.2.2.norm HO.out.1 HG.out hsn (fun _ => by simp only; omega))
            go_wp2_with fail
            go_roundw
            case rel => exact ⟨k + 1, 0, false, by omega, by go_num, rfl, rfl, HN.out, HB1.out⟩
            case measure => simp [intOf]; omega
          · have HN := Lib.hid (fitS_more HO.out.1 HG.out hsn)
            go_wp2_with fail
            go_roundw
            case rel => exact ⟨k + 1, fv, true, by omega, by go_num, rfl, rfl, HN.out, HB1.out⟩
            case measure => simp [intOf]; omega
    · obtain rfl : n = k := by omega
      have HE := Lib.hid (fitS_end (long := long) (b := bv) (start := fv) HL.out.2.2.norm (by rw [HL.out.2.1, ← HLL.out]; exact HO.out.1))
      go_wp2_with fail
      go_ret2
      exact ⟨fv, bv, rfl, HE.out, HO.out.2⟩

set_option maxHeartbeats 16000000 in
theorem new_any (W : World) (now total : Int) (a : Option Addr) (n c : Nat) (l : List Bz) (hnow : Tk now) (htot : Nd total) (h : Busys W a n c l) (hm : ∀ b ∈ l, b.may) (hn : n ≤ 500) :
    Calls Try.prog 17 #[.int .i64 now, .int .i64 total, .slice a n c] W fun e W' => ∃ a c p, e = .returned (.slice a p.length c) ∧ Steps W' a p.length c p ∧ IsP p (newF total l) now ∧ Below W.heap.size W W' := by
  have HL := Lib.hid (And.intro h (And.intro h.len hm))
  have HT := Lib.hid htot
  have HEm := Lib.hid (And.intro (own_litC W W.heap.size ⟨now, total⟩ (Nat.le_refl _)) (below_alloc W (.cells #[.int .i64 now, .int .i64 total] 51)))
  clear h hm htot hnow
  go_enter Try.func17, Try.ntmps17
  go_wp2_with fail
  go_loopw [7, 16] (fun v i wr => ∃ k : Nat, k ≤ n ∧ i = .int .i64 (k : Nat) ∧ OwC wr W.heap.size v (chN now total (l.take k)) ∧ Below W.heap.size W wr) (fun _ i _ => n - (intOf i).toNat)
  case atStart => exact ⟨0, Nat.zero_le _, rfl, HEm.out.1, HEm.out.2⟩
  case round =>
    obtain ⟨k, hk, rfl, ho, hb⟩ := hrel
    have HO := Lib.hid (And.intro ho hb)
    clear ho hb
    by_cases hlt : k < n
    · have hkl : k < l.length := by rw [HL.out.2.1]; exact hlt
      obtain ⟨b, o, rfl⟩ := lst_at HL.out.1 (by omega)
      obtain ⟨q0, q1⟩ := busy_cells (lst_keep encZ_len HL.out.1 HO.out.2) hkl
      have hct := chB_take (now := now) (List.getElem?_eq_getElem hkl)
      have hmy := (HL.out.2.2 l[k] (List.getElem_mem hkl)).2
      generalize l[k] = x at *
      obtain ⟨x0, x1⟩ := x
      obtain ⟨m0, m1⟩ := hmy
      simp only at q0 q1 hct m0 m1
      have hcn : chN now total (l.take (k + 1)) = chN now total (l.take k) ++ [⟨now, -x1⟩, ⟨x0, x1⟩] := by
        unfold chN
        rw [hct]
        rfl
      have hcl : (chN now total (l.take k)).length ≤ 1001 := by
        unfold chN
        rw [List.length_cons, chB_len, List.length_take]
        omega
      have HCn := Lib.hid (And.intro hcn (show (chN now total (l.take k)).length + 2 ≤ 100000 by omega))
      have hb1 := below_alloc wr (.cells #[.int .i64 x0, .int .i64 x1] 37)
      have HA := Lib.hid (And.intro (own_keepC HO.out.1 hb1) (below_keep HO.out.2 hb1))
      clear hcn hcl hct hkl hb1
      go_wp2_with (first | (at_builtin; refine Nest.many_arm ty_ch rfl (.tmp 20) (.tmp 31) rfl (wr.alloc (.cells #[.int .i64 x0, .int .i64 x1] 37)) #[.int .i64 now, .int .i64 (-x1), .int .i64 x0, .int .i64 x1] rfl [(⟨now, -x1⟩ : Ch), ⟨x0, x1⟩] 2 rfl rfl W.heap.size _ (chN now total (l.take k)) rfl HA.out.1 (wr.heap.size + 1) (by simp) rfl HCn.out.2 (by omega) HA.out.2.size ?_; intro v9 w9 ho9 hb9 _; have HE := Lib.hid (And.intro ho9 (HA.out.2.trans hb9)); clear ho9 hb9) | fail)
      go_roundw
      case rel => exact ⟨k + 1, by omega, by go_num, by rw [HCn.out.1]; exact HE.out.1, HE.out.2⟩
      case measure => simp [intOf]; omega
    · obtain rfl : n = k := by omega
      have htk : l.take n = l := List.take_of_length_le (by rw [HL.out.2.1]; exact Nat.le_refl _)
      rw [htk] at HO
      have HS := Lib.hid (steps_any _ _ now _ (chN now total l) ⟨_, List.mem_cons_self .., Int.le_refl _⟩ HO.out.1 HO.out.2.size (by unfold chN; rw [List.length_cons, chB_len, HL.out.2.1]; omega) (fun c hc => by
        obtain ⟨t0, t1⟩ := HT.out
        rcases List.mem_cons.1 hc with rfl | hc
        · simp only; omega
        · have := chB_mem (K := 1048576) (fun b hb => (HL.out.2.2 b hb).2) c hc
          omega))
      clear htk
      go_wp2_with fail
      refine HS.out.mono ?_
      rintro e w2 ⟨a2, c2, p, rfl, h1, h2, h3, h4⟩
      have HR := Lib.hid (And.intro h1 (And.intro (isP_congr h2 fun t ht => chN_sum ht l) (HO.out.2.trans h4)))
      obtain ⟨m, hm⟩ : ∃ m, m = p.length := ⟨_, rfl⟩
      rw [← hm] at HR ⊢
      have HM := Lib.hid hm
      clear h1 h2 h3 h4 hm HS
      go_wp2_with fail
      go_ret
      exact ⟨a2, c2, p, by rw [← HM.out]; rfl, by rw [← HM.out]; exact HR.out.1, HR.out.2.1, HR.out.2.2⟩
end Go.Proofs.Ythpeahphnegedaa.Prf
