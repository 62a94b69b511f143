/- Ledger, the landed: what is wrong with legs, whatever is in their accounts. -/
import Derived.Test.YtmlbdmfmaebdeaaLedIs
import Derived.Test.YtmlbdmfmaebdeaaLedScn
namespace Go.Proofs.Ytmlbdmfmaebdeaa.Led
set_option maxRecDepth 100000
open Go.RowKit
open Go.Sort
open Kit
open Mon
open Tre
set_option linter.unusedVariables false
variable {w w' : World}

set_option maxHeartbeats 8000000 in
theorem pre_any (W : World) (a : Option Addr) (n c : Nat) (a2 : Option Addr) (n2 c2 : Nat) (legs : List Lg) (hn : n ≤ 100) (hG : Legs W a2 n2 c2 legs) (hok : ∀ x ∈ legs, x.ok) (hn2 : n2 ≤ 100) :
    Calls Try.prog 18 #[.slice a n c, .slice a2 n2 c2] W fun e W' => e = .returned (.int .i64 (preE (1 + 3 * n) legs)) ∧ Below W.heap.size W W' := by
  have HG := Lib.hid (And.intro hG (And.intro hG.len hok))
  obtain ⟨m, hm⟩ : ∃ m, m = 1 + 3 * n := ⟨_, rfl⟩
  rw [← hm]
  have HM := Lib.hid hm
  clear hG hok hm
  go_enter Try.func18, Try.ntmps18
  go_wp2_with fail
  go_loopw [5, 12] (fun v i wr => ∃ k : Nat, k ≤ n2 ∧ i = .int .i64 (k : Nat) ∧ scanE m (legs.take k) = 0 ∧ OwI wr W.heap.size v (amts (legs.take k)) ∧ Below W.heap.size W wr) (fun _ i _ => n2 - (intOf i).toNat)
  case atStart => exact ⟨0, Nat.zero_le _, rfl, rfl, owns_nil _ _ _, Below.refl _ _⟩
  case round =>
    obtain ⟨k, hk, rfl, hsc, hown, hb⟩ := hrel
    have HO := Lib.hid (And.intro hsc (And.intro hown hb))
    clear hsc hown hb
    by_cases hlt : k < n2
    · have hkl : k < legs.length := by rw [HG.out.2.1]; exact hlt
      obtain ⟨b2, o2, rfl⟩ := lst_at HG.out.1 (by omega)
      have hget := List.getElem?_eq_getElem hkl
      obtain ⟨q0, q1⟩ := leg_cells (lst_keep encG_len HG.out.1 HO.out.2.2) hkl
      obtain ⟨s4, s3, s0⟩ := scan_at HO.out.1 hget
      have ham := amts_take hget
      generalize legs[k] = x at *
      obtain ⟨ac, am⟩ := x
      simp only at q0 q1 s4 s3 s0 ham
      have HX := Lib.hid (And.intro s4 (And.intro s3 (And.intro s0 ham)))
      have hb1 := below_alloc wr (.cells #[.int .i64 ac, .int .i64 am] 43)
      have HB1 := Lib.hid (below_keep HO.out.2.2 hb1)
      clear s4 s3 s0 ham hget
      by_cases hbd : ac < 0 ∨ (m : Int) ≤ ac
      · have HR := Lib.hid (pre_scan (HX.out.1 hbd) (by decide))
        have HC := Lib.hid (is_no (wr.alloc (.cells #[.int .i64 ac, .int .i64 am] 43)) a n c ac hn (by have := HM.out; omega))
        clear hbd
        go_wp2_with fail
        refine HC.out.mono ?_
        rintro e w1 ⟨rfl, rfl⟩
        go_wp2_with fail
        go_ret
        exact ⟨by rw [HR.out]; rfl, HB1.out⟩
      · have HC := Lib.hid (is_yes (wr.alloc (.cells #[.int .i64 ac, .int .i64 am] 43)) a n c ac hn (by omega) (by have := HM.out; omega))
        by_cases hz : am = 0
        · have HR := Lib.hid (pre_scan (HX.out.2.1 hbd hz) (by decide))
          subst hz
          clear hbd
          go_wp2_with fail
          refine HC.out.mono ?_
          rintro e w1 ⟨rfl, rfl⟩
          go_wp2_with fail
          go_ret
          exact ⟨by rw [HR.out]; rfl, HB1.out⟩
        · have HS := Lib.hid (HX.out.2.2.1 hbd hz)
          have hz2 : (am == 0) = false := beq_false_of_ne hz
          clear hbd hz
          have hlx : (amts (legs.take k)).length ≤ 100 := by
            unfold amts
            rw [List.length_map, List.length_take]; omega
          obtain ⟨lx, hx⟩ : ∃ y, y = amts (legs.take k) := ⟨_, rfl⟩
          rw [← hx] at HO HX hlx
          have hb2 := below_alloc (wr.alloc (.cells #[.int .i64 ac, .int .i64 am] 43)) (.cells #[.int .i64 am] 3)
          have HA1 := Lib.hid (own_chg' (own_chg' HO.out.2.1 hb1) hb2)
          have HA2 := Lib.hid (show Kit.Row encI 1 _ (some ⟨wr.heap.size + 1, 0, none⟩) [am] from row_new encI_len (wr.alloc (.cells #[.int .i64 ac, .int .i64 am] 43)) [am] #[.int .i64 am] 3 _ (by simp) rfl)
          have HA3 := Lib.hid (below_keep HB1.out hb2)
          have HD1 := Lib.hid (show lx.length + 1 ≤ maxLen by unfold maxLen; omega)
          have HD2 := Lib.hid (show (lx.length + 1) * 8 ≤ 140737488355328 by omega)
          clear hx hlx hb1 hb2
          go_wp2_with fail
          refine HC.out.mono ?_
          rintro e w1 ⟨rfl, rfl⟩
          go_wp2_with (first | (at_builtin; refine Two.append_apart encI_len Nat.zero_lt_one encI_one rfl (.tmp 24) (.tmp 27) 34 3 rfl Try.underlying34 (.int .i64 0) 8 info_i rfl W.heap.size _ lx rfl HA1.out (some ⟨wr.heap.size + 1, 0, none⟩) 1 1 [am] rfl rfl HA2.out (fun h => by cases h) HD1.out HD2.out HA3.out.size ?_; intro v9 w9 ho9 hg9 hx9; have HB9 := Lib.hid (HA3.out.trans (Two.below_grown HA1.out hg9 HA3.out.size)); have HO9 := Lib.hid ho9; clear ho9 hg9 hx9) | fail)
          go_roundw
          case rel => exact ⟨k + 1, by omega, by go_num, HS.out, by rw [HX.out.2.2.2]; exact HO9.out, HB9.out⟩
          case measure => simp [intOf]; omega
    · obtain rfl : n2 = k := by omega
      have htk : legs.take n2 = legs := List.take_of_length_le (by rw [HG.out.2.1]; exact Nat.le_refl _)
      rw [htk] at HO
      by_cases hmany : n2 < 1 ∨ 64 < n2
      · have HR := Lib.hid (pre_many HO.out.1 (by rw [HG.out.2.1]; exact hmany))
        have hor : n2 = 0 ∨ (((n2 : Int) == 0) = false ∧ (64 : Int) < (n2 : Int)) := by
          rcases hmany with h | h
          · exact .inl (by omega)
          · exact .inr ⟨beq_false_of_ne (by omega), by omega⟩
        clear hmany
        rcases hor with t1 | ⟨t1, t2⟩
        · subst t1
          go_wp2_with fail
          go_ret
          exact ⟨by rw [HR.out]; rfl, HO.out.2.2⟩
        · go_wp2_with fail
          go_ret
          exact ⟨by rw [HR.out]; rfl, HO.out.2.2⟩
      · have t1 : ((n2 : Int) == 0) = false := beq_false_of_ne (by omega)
        have t2 : ¬ (64 : Int) < (n2 : Int) := by omega
        have hmany2 : ¬ (legs.length < 1 ∨ 64 < legs.length) := by rw [HG.out.2.1]; exact hmany
        have HMany := Lib.hid hmany2
        clear hmany hmany2
        obtain ⟨a10, c10, rfl, g1', g2', g3', g4'⟩ := owns_row encI_len HO.out.2.1
        have hel : Elems wr a10 (amts legs) := ints_elems ⟨rfl, g1', g2', fun e => ⟨by have := g3' e; omega, g3' e⟩, g4'⟩
        have HE := Lib.hid (And.intro hel (show (amts legs).length ≤ maxLen from Nat.le_trans g1' g2'))
        obtain ⟨na, hna⟩ : ∃ na, na = (amts legs).length := ⟨_, rfl⟩
        rw [← hna]
        have HNa := Lib.hid hna
        have HB := Lib.hid (And.intro HO.out.1 HO.out.2.2)
        clear g1' g2' g3' g4' hel hna HO htk
        go_wp2_with fail
        refine (add_any a10 na c10 (amts legs) wr HNa.out.symm (by rw [HNa.out]; exact HE.out.2) HE.out.1).mono ?_
        rintro e w3 ⟨rfl, rfl⟩
        by_cases hae : addE (amts legs) = 0
        · by_cases han : addN (amts legs) = 0
          · have HR := Lib.hid (pre_ok HB.out.1 HMany.out hae han)
            rw [hae, han]
            clear hae han
            go_wp2_with fail
            go_ret
            exact ⟨by rw [HR.out]; rfl, HB.out.2⟩
          · have HR := Lib.hid (pre_sum HB.out.1 HMany.out hae han)
            rw [hae]
            have han2 : (addN (amts legs) == 0) = false := beq_false_of_ne han
            generalize addN (amts legs) = sn at *
            clear hae han
            go_wp2_with fail
            go_ret
            exact ⟨by rw [HR.out]; rfl, HB.out.2⟩
        · have HR := Lib.hid (pre_add HB.out.1 HMany.out hae)
          have he2 : addE (amts legs) = 2 := by
            rcases addE_two (amts legs) with h | h
            · exact absurd h hae
            · exact h
          rw [he2]
          clear hae he2
          go_wp2_with fail
          go_ret
          exact ⟨by rw [HR.out]; rfl, HB.out.2⟩
end Go.Proofs.Ytmlbdmfmaebdeaa.Led
