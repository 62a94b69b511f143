/- Ledger, the landed: what is in an account behind its legs; a list of allocations cloned. -/
import Derived.Test.YtmlbdmfmaebdeaaLedIs
import Derived.Test.YtmlbdmfmaebdeaaLedScn
namespace Go.Proofs.Ytmlbdmfmaebdeaa.Led
set_option maxRecDepth 100000
open Go.RowKit
open Go.Sort
open Kit
open Mon
open Tre
set_option linter.unusedVariables false
variable {w w' : World}

/-- An account's amount, and its legs'. -/
def mineY (y : Int) (legs : List Lg) (k : Nat) : List Int := y :: of legs k
def behE (y : Int) (legs : List Lg) (k : Nat) : Int := if addE (mineY y legs k) ≠ 0 then addE (mineY y legs k) else if bad k (addN (mineY y legs k)) then 7 else 0
def behN (y : Int) (legs : List Lg) (k : Nat) : Int := if behE y legs k = 0 then addN (mineY y legs k) else 0
theorem beh_add {y : Int} {legs : List Lg} {k : Nat} (h : ¬ addE (mineY y legs k) = 0) : behE y legs k = 2 ∧ behN y legs k = 0 ∧ addE (mineY y legs k) = 2 ∧ addN (mineY y legs k) = 0 := by
  have h2 : addE (mineY y legs k) = 2 := by
    rcases addE_two (mineY y legs k) with h3 | h3
    · exact absurd h3 h
    · exact h3
  have e : behE y legs k = 2 := by unfold behE; rw [if_pos h, h2]
  refine ⟨e, ?_, h2, addN_err h⟩
  unfold behN; rw [e]; rfl
theorem beh_bad {y : Int} {legs : List Lg} {k : Nat} (h : addE (mineY y legs k) = 0) (h2 : bad k (addN (mineY y legs k)) = true) : behE y legs k = 7 ∧ behN y legs k = 0 := by
  have e : behE y legs k = 7 := by unfold behE; rw [if_neg (by simpa using h), if_pos h2]
  refine ⟨e, ?_⟩
  unfold behN; rw [e]; rfl
theorem beh_ok {y : Int} {legs : List Lg} {k : Nat} (h : addE (mineY y legs k) = 0) (h2 : bad k (addN (mineY y legs k)) = false) : behE y legs k = 0 ∧ behN y legs k = addN (mineY y legs k) := by
  have e : behE y legs k = 0 := by unfold behE; rw [if_neg (by simpa using h), if_neg (by rw [h2]; exact Bool.false_ne_true)]
  refine ⟨e, ?_⟩
  unfold behN; rw [if_pos e]
theorem may_any (W : World) (k : Nat) (x : Int) (b : Bool) (hb : bad k x = !b) : Calls Try.prog 28 #[.int .i64 (k : Nat), .int .i64 x] W fun e w' => e = .returned (.bool b) ∧ W = w' := by
  by_cases hk : k = 0
  · subst hk
    refine may_world W x b ?_
    unfold bad at hb
    cases b <;> simp at hb ⊢ <;> omega
  · refine may_alloc W (k : Nat) x b (beq_false_of_ne (by omega)) ?_
    unfold bad at hb
    have : 0 < k := by omega
    cases b <;> simp [hk, this] at hb ⊢ <;> omega

set_option maxHeartbeats 8000000 in
theorem beh_any (W : World) (k : Nat) (y : Int) (a2 : Option Addr) (n2 c2 : Nat) (legs : List Lg) (hG : Legs W a2 n2 c2 legs) (hn2 : n2 ≤ 100) :
    Calls Try.prog 22 #[.int .i64 (k : Nat), .int .i64 y, .slice a2 n2 c2] W fun e W' => e = .returned (.tuple #[.int .i64 (behN y legs k), .int .i64 (behE y legs k)]) ∧ Below W.heap.size W W' := by
  have HG := Lib.hid (And.intro hG hG.len)
  clear hG
  go_enter Try.func22, Try.ntmps22
  go_wp2_with fail
  go_loopw [8, 17] (fun v i wr => ∃ q : Nat, q ≤ n2 ∧ i = .int .i64 (q : Nat) ∧ OwI wr W.heap.size v (y :: of (legs.take q) k) ∧ Below W.heap.size W wr) (fun _ i _ => n2 - (intOf i).toNat)
  case atStart => exact ⟨0, Nat.zero_le _, rfl, owns_lit W y W.heap.size (Nat.le_refl _), below_alloc _ _⟩
  case round =>
    obtain ⟨q, hq, rfl, hown, hb⟩ := hrel
    have HO := Lib.hid (And.intro hown hb)
    clear hown hb
    by_cases hlt : q < n2
    · have hql : q < legs.length := by rw [HG.out.2]; exact hlt
      obtain ⟨b2, o2, rfl⟩ := lst_at HG.out.1 (by omega)
      have hget := List.getElem?_eq_getElem hql
      obtain ⟨q0, q1⟩ := leg_cells (lst_keep encG_len HG.out.1 HO.out.2) hql
      have hot := of_take (k := k) hget
      generalize legs[q] = x at *
      obtain ⟨ac, am⟩ := x
      simp only at q0 q1 hot
      have hb1 := below_alloc wr (.cells #[.int .i64 ac, .int .i64 am] 43)
      have HB1 := Lib.hid (below_keep HO.out.2 hb1)
      clear hget
      by_cases hac : ac = (k : Int)
      · have HOt := Lib.hid (show of (legs.take (q + 1)) k = of (legs.take q) k ++ [am] by rw [hot, if_pos hac])
        have hlx : (of (legs.take q) k).length ≤ 100 := by
          have h1 := of_len (legs.take q) k
          rw [List.length_take] at h1
          omega
        subst hac
        obtain ⟨lx, hx⟩ : ∃ z, z = of (legs.take q) k := ⟨_, rfl⟩
        rw [← hx] at HO HOt hlx
        have hb2 := below_alloc (wr.alloc (.cells #[.int .i64 (k : Nat), .int .i64 am] 43)) (.cells #[.int .i64 am] 3)
        have HA1 := Lib.hid (own_chg' (own_chg' HO.out.1 hb1) hb2)
        have HA2 := Lib.hid (show Kit.Row encI 1 _ (some ⟨wr.heap.size + 1, 0, none⟩) [am] from row_new encI_len (wr.alloc (.cells #[.int .i64 (k : Nat), .int .i64 am] 43)) [am] #[.int .i64 am] 3 _ (by simp) rfl)
        have HA3 := Lib.hid (below_keep HB1.out hb2)
        have HD1 := Lib.hid (show (y :: lx).length + 1 ≤ maxLen by unfold maxLen; simp; omega)
        have HD2 := Lib.hid (show ((y :: lx).length + 1) * 8 ≤ 140737488355328 by simp; omega)
        clear hx hlx hot hb1 hb2
        go_wp2_with (first | (at_builtin; refine Two.append_apart encI_len Nat.zero_lt_one encI_one rfl (.tmp 25) (.tmp 28) 34 3 rfl Try.underlying34 (.int .i64 0) 8 info_i rfl W.heap.size _ (y :: lx) rfl HA1.out (some ⟨wr.heap.size + 1, 0, none⟩) 1 1 [am] rfl rfl HA2.out (fun h => by cases h) HD1.out HD2.out HA3.out.size ?_; intro v9 w9 ho9 hg9 hx9; have HB9 := Lib.hid (HA3.out.trans (Two.below_grown HA1.out hg9 HA3.out.size)); have HO9 := Lib.hid ho9; clear ho9 hg9 hx9) | fail)
        go_roundw
        case rel => exact ⟨q + 1, by omega, by go_num, by rw [HOt.out]; exact HO9.out, HB9.out⟩
        case measure => simp [intOf]; omega
      · have HOt := Lib.hid (show of (legs.take (q + 1)) k = of (legs.take q) k by rw [hot, if_neg hac, List.append_nil])
        have hne : (ac == (k : Int)) = false := beq_false_of_ne hac
        have HA1 := Lib.hid (own_chg' HO.out.1 hb1)
        clear hac hot hb1
        go_wp2_with fail
        go_roundw
        case rel => exact ⟨q + 1, by omega, by go_num, by rw [HOt.out]; exact HA1.out, HB1.out⟩
        case measure => simp [intOf]; omega
    · obtain rfl : n2 = q := by omega
      have htk : legs.take n2 = legs := List.take_of_length_le (by rw [HG.out.2]; exact Nat.le_refl _)
      rw [htk] at HO
      have HO2 : Hid (OwI wr W.heap.size _ (mineY y legs k) ∧ Below W.heap.size W wr) := HO
      clear HO
      obtain ⟨a15, c15, rfl, s1, s2, s3, s4⟩ := owns_row encI_len HO2.out.1
      have hel : Elems wr a15 (mineY y legs k) := ints_elems ⟨rfl, s1, s2, fun e => ⟨by have := s3 e; omega, s3 e⟩, s4⟩
      have HEm := Lib.hid (And.intro hel (show (mineY y legs k).length ≤ maxLen from Nat.le_trans s1 s2))
      obtain ⟨nm, hnm⟩ : ∃ nm, nm = (mineY y legs k).length := ⟨_, rfl⟩
      rw [← hnm]
      have HNm := Lib.hid hnm
      have HB := Lib.hid HO2.out.2
      clear htk hel s1 s2 s3 s4 hnm HO2
      go_wp2_with fail
      refine (add_any a15 nm c15 (mineY y legs k) wr HNm.out.symm (by rw [HNm.out]; exact HEm.out.2) HEm.out.1).mono ?_
      rintro e w3 ⟨rfl, rfl⟩
      by_cases hae : addE (mineY y legs k) = 0
      · rw [hae]
        cases hbad : bad k (addN (mineY y legs k)) with
        | true =>
          have HR := Lib.hid (beh_bad hae hbad)
          have HC := Lib.hid (may_any wr k (addN (mineY y legs k)) false hbad)
          clear hbad hae
          generalize addN (mineY y legs k) = sn at *
          go_wp2_with fail
          refine HC.out.mono ?_
          rintro e w4 ⟨rfl, rfl⟩
          go_wp2_with fail
          go_ret2
          exact ⟨by rw [HR.out.1, HR.out.2]; rfl, HB.out⟩
        | false =>
          have HR := Lib.hid (beh_ok hae hbad)
          have HC := Lib.hid (may_any wr k (addN (mineY y legs k)) true hbad)
          clear hbad hae
          generalize addN (mineY y legs k) = sn at *
          go_wp2_with fail
          refine HC.out.mono ?_
          rintro e w4 ⟨rfl, rfl⟩
          go_wp2_with fail
          go_ret2
          exact ⟨by rw [HR.out.1, HR.out.2]; rfl, HB.out⟩
      · have HR := Lib.hid (beh_add hae)
        rw [HR.out.2.2.1, HR.out.2.2.2]
        clear hae
        go_wp2_with fail
        go_ret2
        exact ⟨by rw [HR.out.1, HR.out.2.1]; rfl, HB.out⟩
end Go.Proofs.Ytmlbdmfmaebdeaa.Led
