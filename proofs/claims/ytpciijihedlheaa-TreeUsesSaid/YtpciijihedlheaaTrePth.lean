/- Tree: the landed Path, and whether a number stands in a list of numbers, as they run. -/
import Derived.Test.YtpciijihedlheaaTreTwo
namespace Go.Proofs.Ytpciijihedlheaa.Tre
set_option maxRecDepth 100000
open Go.RowKit
open Go.Sort
open Kit
open Mon
set_option linter.unusedVariables false
variable {w w' : World}

/-! ### Path -/

theorem lit_row (w : World) (k : Int) : Kit.Row encI 1 (w.alloc (.cells #[.int .i64 k] 3)) (some ⟨w.heap.size, 0, none⟩) [k] := by
  obtain ⟨a', c', e', _, _, _, hrow⟩ := owns_row encI_len (owns_lit w k w.heap.size (Nat.le_refl _))
  cases e'
  exact hrow

set_option maxHeartbeats 4000000 in
theorem path_any (l : List Fd) (hok : ∀ x ∈ l, x.ok) (a : Option Addr) (n c : Nat) (w : World) (h : Funds w a n c l) (hn : n ≤ 100) (f : Int) :
    Calls Try.prog 12 #[.slice a n c, .int .i64 f] w fun e w' => ∃ v, e = .returned v ∧ NewI w' w.heap.size v (path l f) ∧ Below w.heap.size w w' := by
  have HP := Lib.hid (show path l f = [] ++ (if f < (n : Int) then path l f else []) by
    by_cases hf : f < (n : Int)
    · rw [if_pos hf]; rfl
    · rw [if_neg hf, path_far (.inr (by rw [h.len]; omega))]; rfl)
  have HL := Lib.hid (And.intro h h.len)
  clear h
  go_enter Try.func12, Try.ntmps12
  go_wp2_with fail
  go_loopw [1, 5, 6] (fun fv v bv wr => ∃ (fc : Int) (m : Nat) (done : List Int), fv = .int .i64 fc ∧ bv = .int .i64 (m : Nat) ∧ m ≤ n ∧ done.length + m ≤ n ∧ path l f = done ++ (if fc < (m : Int) then path l fc else []) ∧ OwI wr w.heap.size v done ∧ Below w.heap.size w wr) (fun _ _ bv _ => (intOf bv).toNat)
  case atStart => exact ⟨f, n, [], rfl, rfl, Nat.le_refl _, by simp, HP.out, owns_nil _ _ _, Below.refl _ _⟩
  case round =>
    obtain ⟨fc, m, done, rfl, rfl, hmn, hdl, hpt, hown, hb⟩ := hrel
    have HO := Lib.hid (And.intro hpt (And.intro hown (And.intro hb hdl)))
    clear hpt hown hb hdl
    by_cases h0 : 0 ≤ fc
    · by_cases hlt : fc < (m : Int)
      · obtain ⟨k, rfl⟩ : ∃ k : Nat, fc = k := ⟨fc.toNat, by omega⟩
        have hkn : k < n := by omega
        have hkl : k < l.length := by rw [HL.out.2]; exact hkn
        obtain ⟨b, o, rfl⟩ := lst_at HL.out.1 (by omega)
        have HF := Lib.hid (fun (wz : World) (hz : Below w.heap.size w wz) => (fund_cells (lst_keep encF_len HL.out.1 hz) hkl).2.1)
        have hpa := path_at (List.getElem?_eq_getElem hkl)
        generalize l[k] = x at *
        obtain ⟨nm, pr, lm⟩ := x
        simp only at HF hpa
        have HPa := Lib.hid (show path l f = (done ++ [(k : Int)]) ++ (if pr < (k : Int) then path l pr else []) by
          rw [HO.out.1, if_pos hlt, hpa, List.append_assoc]; rfl)
        have HA1 := Lib.hid (own_chg' HO.out.2.1 (below_alloc wr (.cells #[.int .i64 (k : Nat)] 3)))
        have HA2 := Lib.hid (lit_row wr (k : Nat))
        have HA3 := Lib.hid (below_keep HO.out.2.2.1 (below_alloc wr (.cells #[.int .i64 (k : Nat)] 3)))
        have HD1 := Lib.hid (show done.length + 1 ≤ maxLen by have := HO.out.2.2.2; unfold maxLen; omega)
        have HD2 := Lib.hid (show (done.length + 1) * 8 ≤ 140737488355328 by have := HO.out.2.2.2; omega)
        have HD3 := Lib.hid (show (done ++ [(k : Int)]).length + k ≤ n by have := HO.out.2.2.2; rw [List.length_append]; simp; omega)
        clear hpa
        go_wp2_with (first | (at_builtin; refine Two.append_apart encI_len Nat.zero_lt_one encI_one rfl (.tmp 16) (.tmp 18) 29 3 rfl Try.underlying29 (.int .i64 0) 8 info_i rfl w.heap.size _ done rfl HA1.out (some ⟨wr.heap.size, 0, none⟩) 1 1 [((k : Nat) : Int)] rfl rfl HA2.out (fun h => by cases h) HD1.out HD2.out HA3.out.size ?_; intro v9 w9 ho9 hg9 _; have HB9 := Lib.hid (HA3.out.trans (Two.below_grown HA1.out hg9 HA3.out.size)); have HO9 := Lib.hid ho9; have q9 := HF.out w9 HB9.out; clear ho9 hg9) | fail)
        go_quiet (fail)
        go_wp2_with fail
        go_roundw
        case rel => exact ⟨pr, k, done ++ [(k : Int)], rfl, rfl, by omega, HD3.out, HPa.out, own_chg' HO9.out (below_drewN' _ _), below_keep HB9.out (below_drewN' _ _)⟩
        case measure => simp [intOf]; omega
      · have HPa := Lib.hid (show path l f = done by rw [HO.out.1, if_neg hlt, List.append_nil])
        have hge : ¬ fc < (m : Int) := hlt
        go_wp2_with fail
        go_ret
        exact ⟨_, rfl, by rw [HPa.out]; exact newI_own HO.out.2.1, HO.out.2.2.1⟩
    · have HPa := Lib.hid (show path l f = done by rw [HO.out.1, path_neg (by omega)]; simp)
      go_wp2_with fail
      go_ret
      exact ⟨_, rfl, by rw [HPa.out]; exact newI_own HO.out.2.1, HO.out.2.2.1⟩

/-! ### Does a number stand in a list? -/

set_option maxHeartbeats 1000000 in
theorem index_any (l : List Int) (a : Option Addr) (n c : Nat) (w : World) (h : IntsL w a n c l) (x : Int) :
    Calls Try.prog 27 #[.slice a n c, .int .i64 x] w fun e w' => ∃ j : Int, e = .returned (.int .i64 j) ∧ (0 ≤ j ↔ x ∈ l) ∧ w = w' := by
  have hm1 : n ≤ 9223372036854775807 := by have := h.cap; have := h.max; unfold maxLen at this; omega
  have HL := Lib.hid (And.intro h h.len)
  clear h
  go_enter Try.func27, Try.ntmps27
  go_wp2_with fail
  go_loop [5, 8] (fun _ i => ∃ k : Nat, k ≤ n ∧ i = .int .i64 (k : Nat) ∧ Hid (x ∉ l.take k)) (fun _ i => n - (intOf i).toNat)
  case atStart => exact ⟨0, Nat.zero_le _, rfl, Lib.hid (by simp)⟩
  case round =>
    obtain ⟨k, hk, rfl, hno⟩ := hrel
    by_cases hlt : k < n
    · have hkl : k < l.length := by rw [HL.out.2]; exact hlt
      obtain ⟨b, o, rfl⟩ := lst_at HL.out.1 (by omega)
      have q := int_cell HL.out.1 hkl
      have HTk := Lib.hid (List.take_succ_eq_append_getElem hkl)
      have HMe := Lib.hid (List.getElem_mem hkl)
      generalize l[k] = y at *
      by_cases he : x = y
      · subst he
        go_wp2_with fail
        go_ret
        exact ⟨_, rfl, ⟨fun _ => HMe.out, fun _ => by omega⟩, rfl⟩
      · have HE := Lib.hid he
        have hne : (x == y) = false := beq_false_of_ne he
        clear he
        go_wp2_with fail
        go_round
        case rel => exact ⟨k + 1, by omega, by go_num, Lib.hid (by
          rw [HTk.out, List.mem_append, List.mem_singleton]
          rintro (h | h)
          · exact hno.out h
          · exact HE.out h)⟩
        case measure => simp [intOf]; omega
    · obtain rfl : k = n := by omega
      have hN := hno.out
      rw [List.take_of_length_le (by rw [HL.out.2]; exact Nat.le_refl _)] at hN
      have HN := Lib.hid hN
      clear hN
      go_wp2_with fail
      go_ret
      exact ⟨_, rfl, ⟨fun h => by omega, fun h => absurd h HN.out⟩, rfl⟩
theorem contains_any (l : List Int) (a : Option Addr) (n c : Nat) (w : World) (h : IntsL w a n c l) (x : Int) :
    Calls Try.prog 20 #[.slice a n c, .int .i64 x] w fun e w' => e = .returned (.bool (l.contains x)) ∧ w = w' := by
  have HL := Lib.hid h
  clear h
  go_enter Try.func20, Try.ntmps20
  go_wp2_with fail
  refine (index_any l a n c w HL.out x).mono ?_
  rintro e w1 ⟨j, rfl, hj, rfl⟩
  by_cases h0 : 0 ≤ j
  · have HC := Lib.hid (show l.contains x = true by simpa using hj.1 h0)
    clear hj
    go_wp2_with fail
    go_ret
    exact ⟨by rw [HC.out]; first | rfl | exact ret_bool (decide_eq_true h0) | exact ret_bool (decide_eq_false (by omega)), rfl⟩
  · have HC := Lib.hid (show l.contains x = false by
      have : x ∉ l := fun h => h0 (hj.2 h)
      simpa using this)
    clear hj
    go_wp2_with fail
    go_ret
    exact ⟨by rw [HC.out]; first | rfl | exact ret_bool (decide_eq_true h0) | exact ret_bool (decide_eq_false (by omega)), rfl⟩
end Go.Proofs.Ytpciijihedlheaa.Tre
