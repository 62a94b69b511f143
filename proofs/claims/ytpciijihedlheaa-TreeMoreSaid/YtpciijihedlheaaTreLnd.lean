/- Tree: the landed Good, as it runs. -/
import Derived.Test.YtpciijihedlheaaTrePth
import Derived.Test.YtpciijihedlheaaTreGd
namespace Go.Proofs.Ytpciijihedlheaa.Tre
set_option maxRecDepth 100000
open Go.RowKit
open Go.Sort
open Kit
open Mon
set_option linter.unusedVariables false
variable {w w' : World}

/-! ### A fund by itself -/

theorem boxed_fund (w : World) (nm : ByteArray) (pr lm : Int) :
    (w.alloc (.cells #[.string nm, .int .i64 pr, .int .i64 lm] 40)).cell? ⟨w.heap.size, 0, none⟩ = some (.string nm) ∧ (w.alloc (.cells #[.string nm, .int .i64 pr, .int .i64 lm] 40)).cell? ⟨w.heap.size, 1, none⟩ = some (.int .i64 pr) ∧ (w.alloc (.cells #[.string nm, .int .i64 pr, .int .i64 lm] 40)).cell? ⟨w.heap.size, 2, none⟩ = some (.int .i64 lm) := by
  refine ⟨?_, ?_, ?_⟩
  all_goals
    rw [World.cell?_alloc_new]
    rfl
set_option maxHeartbeats 4000000 in
theorem maylie_no (nm : ByteArray) (pr lm : Int) (hs : nm.size ≤ maxLen) (k : Nat) (w : World) (hbad : bad1 k ⟨nm, pr, lm⟩) :
    Calls Try.prog 18 #[.agg #[.string nm, .int .i64 pr, .int .i64 lm], .int .i64 (k : Nat)] w fun e w' => e = .returned (.bool false) ∧ Below w.heap.size w w' := by
  have hs2 : nm.size ≤ 9223372036854775807 := by unfold maxLen at hs; omega
  have hor : (¬ (1 : Int) ≤ (nm.size : Int)) ∨ ((1 : Int) ≤ (nm.size : Int) ∧ ¬ (nm.size : Int) ≤ 16) ∨ ((1 : Int) ≤ (nm.size : Int) ∧ (nm.size : Int) ≤ 16 ∧ ¬ -1 ≤ pr) ∨ ((1 : Int) ≤ (nm.size : Int) ∧ (nm.size : Int) ≤ 16 ∧ -1 ≤ pr ∧ ¬ pr < (k : Int)) ∨ ((1 : Int) ≤ (nm.size : Int) ∧ (nm.size : Int) ≤ 16 ∧ -1 ≤ pr ∧ pr < (k : Int) ∧ ¬ 0 ≤ lm) ∨ ((1 : Int) ≤ (nm.size : Int) ∧ (nm.size : Int) ≤ 16 ∧ -1 ≤ pr ∧ pr < (k : Int) ∧ 0 ≤ lm ∧ ¬ lm ≤ 1152921504606846976) := by
    unfold bad1 at hbad
    simp only at hbad
    omega
  clear hbad
  obtain ⟨c0, c1, c2⟩ := boxed_fund w nm pr lm
  have HB := Lib.hid (below_alloc w (.cells #[.string nm, .int .i64 pr, .int .i64 lm] 40))
  rcases hor with h1 | ⟨h1, h2⟩ | ⟨h1, h2, h3⟩ | ⟨h1, h2, h3, h4⟩ | ⟨h1, h2, h3, h4, h5⟩ | ⟨h1, h2, h3, h4, h5, h6⟩
  · have d1 := decide_eq_false h1
    go_enter Try.func18, Try.ntmps18
    go_wp2_with fail
    go_ret
    exact ⟨rfl, HB.out⟩
  · have d2 := decide_eq_false h2
    go_enter Try.func18, Try.ntmps18
    go_wp2_with fail
    go_ret
    exact ⟨rfl, HB.out⟩
  · have d3 := decide_eq_false h3
    go_enter Try.func18, Try.ntmps18
    go_wp2_with fail
    go_ret
    exact ⟨rfl, HB.out⟩
  · have d4 := decide_eq_false h4
    go_enter Try.func18, Try.ntmps18
    go_wp2_with fail
    go_ret
    exact ⟨rfl, HB.out⟩
  · have d5 := decide_eq_false h5
    go_enter Try.func18, Try.ntmps18
    go_wp2_with fail
    go_ret
    exact ⟨rfl, HB.out⟩
  · have d6 := decide_eq_false h6
    go_enter Try.func18, Try.ntmps18
    go_wp2_with fail
    go_ret
    exact ⟨rfl, HB.out⟩
set_option maxHeartbeats 4000000 in
theorem maylie_yes (nm : ByteArray) (pr lm : Int) (hs : nm.size ≤ maxLen) (k : Nat) (w : World) (hbad : ¬ bad1 k ⟨nm, pr, lm⟩) :
    Calls Try.prog 18 #[.agg #[.string nm, .int .i64 pr, .int .i64 lm], .int .i64 (k : Nat)] w fun e w' => e = .returned (.bool true) ∧ Below w.heap.size w w' := by
  have hs2 : nm.size ≤ 9223372036854775807 := by unfold maxLen at hs; omega
  have hor : (1 : Int) ≤ (nm.size : Int) ∧ (nm.size : Int) ≤ 16 ∧ -1 ≤ pr ∧ pr < (k : Int) ∧ 0 ≤ lm ∧ lm ≤ 1152921504606846976 := by
    unfold bad1 at hbad
    simp only at hbad
    omega
  clear hbad
  obtain ⟨h1, h2, h3, h4, h5, h6⟩ := hor
  obtain ⟨c0, c1, c2⟩ := boxed_fund w nm pr lm
  have HB := Lib.hid (below_alloc w (.cells #[.string nm, .int .i64 pr, .int .i64 lm] 40))
  go_enter Try.func18, Try.ntmps18
  go_wp2_with fail
  go_ret
  exact ⟨rfl, HB.out⟩

/-! ### Has one of the funds that name? -/

theorem named1_yes {w : World} (nm : ByteArray) (pr lm : Int) (bx : Nat) (hb : w.cell? ⟨bx, 0, none⟩ = some (.string nm)) :
    Calls Try.prog 26 #[.agg #[.string nm, .int .i64 pr, .int .i64 lm], .pointer (some ⟨bx, 0, none⟩)] w fun e w' => e = .returned (.bool true) ∧ Below w.heap.size w w' := by
  obtain ⟨c0, _, _⟩ := boxed_fund w nm pr lm
  have c1 := cell_alloc hb (o := .cells #[.string nm, .int .i64 pr, .int .i64 lm] 40)
  have HB := Lib.hid (below_alloc w (.cells #[.string nm, .int .i64 pr, .int .i64 lm] 40))
  go_enter Try.func26, Try.ntmps26
  go_wp2_with fail
  go_ret
  exact ⟨by first | rfl | simp, HB.out⟩
theorem named1_no {w : World} (nm nm2 : ByteArray) (pr lm : Int) (bx : Nat) (hb : w.cell? ⟨bx, 0, none⟩ = some (.string nm2)) (hne : nm ≠ nm2) :
    Calls Try.prog 26 #[.agg #[.string nm, .int .i64 pr, .int .i64 lm], .pointer (some ⟨bx, 0, none⟩)] w fun e w' => e = .returned (.bool false) ∧ Below w.heap.size w w' := by
  obtain ⟨c0, _, _⟩ := boxed_fund w nm pr lm
  have c1 := cell_alloc hb (o := .cells #[.string nm, .int .i64 pr, .int .i64 lm] 40)
  have HB := Lib.hid (below_alloc w (.cells #[.string nm, .int .i64 pr, .int .i64 lm] 40))
  have hq := name_ne hne
  clear hne
  go_enter Try.func26, Try.ntmps26
  go_wp2_with fail
  go_ret
  exact ⟨rfl, HB.out⟩
theorem fund_range {b o n c k : Nat} {l : List Fd} (h : Funds w (some ⟨b, o, none⟩) n c l) (hk : k < l.length) {x : Fd} (hx : l[k] = x) : w.rangeAt b (o + k * 3) (encF x) := by
  intro j v hv
  have hj : j < 3 := (List.getElem?_eq_some_iff.1 hv).1
  rw [row_cell h.row hk hx hj]
  exact hv

set_option maxHeartbeats 1000000 in
theorem findex_any {w : World} (aa : Option Addr) (n c : Nat) (l : List Fd) (h : Funds w aa n c l) (nm : ByteArray) (bx : Nat) (hb : w.cell? ⟨bx, 0, none⟩ = some (.string nm)) :
    Calls Try.prog 30 #[.slice aa n c, .func (.func 26) #[] #[.pointer (some ⟨bx, 0, none⟩)]] w fun e w' => ∃ j : Int, e = .returned (.int .i64 j) ∧ (0 ≤ j ↔ ∃ x ∈ l, x.name = nm) ∧ Below w.heap.size w w' := by
  have hm : n ≤ 9223372036854775807 := by have := h.cap; have := h.max; unfold maxLen at this; omega
  have HE := Lib.hid (And.intro h h.len)
  have HB := Lib.hid hb
  clear h hb
  go_enter Try.func30, Try.ntmps30
  go_wp2_with fail
  go_loopw [5, 8] (fun _ iv wx => ∃ k : Nat, k ≤ n ∧ iv = .int .i64 (k : Nat) ∧ Below w.heap.size w wx ∧ ∀ x ∈ l.take k, x.name ≠ nm) (fun _ iv _ => n - (intOf iv).toNat)
  case atStart => exact ⟨0, Nat.zero_le _, rfl, Below.refl _ _, by simp⟩
  case round =>
    obtain ⟨k, hk, rfl, hbl, hno⟩ := hrel
    have HBl := Lib.hid hbl
    have HNo := Lib.hid hno
    clear hno
    by_cases hlt : k < n
    · have hkl : k < l.length := by rw [HE.out.2]; exact hlt
      obtain ⟨b, o, rfl⟩ := lst_at HE.out.1 (by omega)
      have hrg := fund_range (lst_keep encF_len HE.out.1 hbl) hkl rfl
      have htk : l.take (k + 1) = l.take k ++ [l[k]] := List.take_succ_eq_append_getElem hkl
      have hmem : l[k] ∈ l := List.getElem_mem hkl
      generalize l[k] = x at *
      obtain ⟨nx, pr, lm⟩ := x
      have HTk := Lib.hid htk
      have HRg := Lib.hid hrg
      have HSz : Hid ((Try.prog.info? 40).map (·.size) = some (encF ⟨nx, pr, lm⟩).length) := Lib.hid (by rw [encF_len]; kernel_rfl)
      have HMe := Lib.hid hmem
      have hbx := cell_keep hbl HB.out
      clear hbl htk hmem hrg
      by_cases hq : nx = nm
      · subst hq
        have HC := Lib.hid (named1_yes nx pr lm bx hbx)
        clear hbx
        go_wp2_with (first | (refine wpList_load_mid rfl 40 (.tmp 14) rfl b (o + k * 3) rfl (encF ⟨nx, pr, lm⟩) _ HRg.out Try.underlying40 rfl HSz.out ?_) | (go_at_call 26; refine HC.out.mono ?_; rintro e w2 ⟨rfl, hb2⟩; have HB2 := Lib.hid (below_keep HBl.out hb2); clear hb2) | fail)
        go_ret
        exact ⟨_, rfl, ⟨fun _ => ⟨_, HMe.out, rfl⟩, fun _ => by omega⟩, HB2.out⟩
      · have HC := Lib.hid (named1_no nx nm pr lm bx hbx hq)
        have HQ := Lib.hid hq
        clear hq hbx
        go_wp2_with (first | (refine wpList_load_mid rfl 40 (.tmp 14) rfl b (o + k * 3) rfl (encF ⟨nx, pr, lm⟩) _ HRg.out Try.underlying40 rfl HSz.out ?_) | (go_at_call 26; refine HC.out.mono ?_; rintro e w2 ⟨rfl, hb2⟩; have HB2 := Lib.hid (below_keep HBl.out hb2); clear hb2) | fail)
        go_roundw
        case rel =>
          refine ⟨k + 1, by omega, by go_num, HB2.out, ?_⟩
          rw [HTk.out]
          intro y hy
          rcases List.mem_append.1 hy with hy | hy
          · exact HNo.out y hy
          · simp at hy; subst hy; exact HQ.out
        case measure => simp [intOf]; omega
    · obtain rfl : k = n := by omega
      have HF : Hid (¬ ∃ x ∈ l, x.name = nm) := Lib.hid (fun ⟨x, hx, he⟩ => HNo.out x (by rw [List.take_of_length_le (by rw [HE.out.2]; exact Nat.le_refl _)]; exact hx) he)
      clear hbl
      go_wp2_with fail
      go_ret
      exact ⟨_, rfl, ⟨fun h => by omega, fun h => absurd h HF.out⟩, HBl.out⟩
theorem fcontains_any {w : World} (aa : Option Addr) (n c : Nat) (l : List Fd) (h : Funds w aa n c l) (nm : ByteArray) (bx : Nat) (hb : w.cell? ⟨bx, 0, none⟩ = some (.string nm)) :
    Calls Try.prog 25 #[.slice aa n c, .func (.func 26) #[] #[.pointer (some ⟨bx, 0, none⟩)]] w fun e w' => ∃ r : Bool, e = .returned (.bool r) ∧ (r = true ↔ ∃ x ∈ l, x.name = nm) ∧ Below w.heap.size w w' := by
  have HI := Lib.hid (findex_any aa n c l h nm bx hb)
  clear h hb
  go_enter Try.func25, Try.ntmps25
  go_wp2_with fail
  refine HI.out.mono ?_
  rintro e w1 ⟨j, rfl, hj, hb⟩
  have HJ := Lib.hid (And.intro hj hb)
  clear hj hb
  go_wp2_with fail
  go_ret
  exact ⟨_, rfl, by rw [← HJ.out.1]; first | exact decide_eq_true_iff | simp, HJ.out.2⟩
theorem named_any {w : World} (aa : Option Addr) (n c : Nat) (l : List Fd) (h : Funds w aa n c l) (nm : ByteArray) :
    Calls Try.prog 19 #[.slice aa n c, .string nm] w fun e w' => ∃ r : Bool, e = .returned (.bool r) ∧ (r = true ↔ ∃ x ∈ l, x.name = nm) ∧ Below w.heap.size w w' := by
  have hb0 := below_alloc w (.cells #[.string nm] 9)
  have HI := Lib.hid (fcontains_any aa n c l (lst_keep encF_len h hb0) nm w.heap.size (World.cell?_alloc_new w _ _ 0))
  have hmf : ∀ (fn : Fn) (first cap : Array Value) (w : World), (Instr.makeFunc fn first cap).run Try.prog w = .ok (.func fn first cap) w := fun _ _ _ _ => rfl
  have HB := Lib.hid hb0
  clear h hb0
  go_enter Try.func19, Try.ntmps19
  go_wp2_with fail
  refine HI.out.mono ?_
  rintro e w2 ⟨j, rfl, hj, hb2⟩
  have HJ := Lib.hid hj
  have HB2 := Lib.hid (below_keep HB.out hb2)
  clear hj hb2
  go_wp2_with fail
  go_ret
  exact ⟨j, rfl, HJ.out, HB2.out⟩
end Go.Proofs.Ytpciijihedlheaa.Tre
