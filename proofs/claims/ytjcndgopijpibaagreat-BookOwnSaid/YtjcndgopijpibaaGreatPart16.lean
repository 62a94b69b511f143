/- Common to the claims of this seat, part 16: texts that were written one by one, laid behind one another. -/
import Derived.Lib.QuietBelow
import Derived.Test.YtjcndgopijpibaaGreatPart11
import Derived.Test.YtjcndgopijpibaaGreatPart15
/- Tree: the landed Good, as it runs. -/
namespace Go.Proofs.YtjcndgopijpibaaGreat.Tre
set_option maxRecDepth 100000
open Go.RowKit
open Go.Sort
open Kit
open Mon
set_option linter.unusedVariables false
variable {w w' : World}
theorem boxed_fund (w : World) (nm : ByteArray) (pr lm : Int) :
    (w.alloc (.cells #[.string nm, .int .i64 pr, .int .i64 lm] 81)).cell? ⟨w.heap.size, 0, none⟩ = some (.string nm) ∧ (w.alloc (.cells #[.string nm, .int .i64 pr, .int .i64 lm] 81)).cell? ⟨w.heap.size, 1, none⟩ = some (.int .i64 pr) ∧ (w.alloc (.cells #[.string nm, .int .i64 pr, .int .i64 lm] 81)).cell? ⟨w.heap.size, 2, none⟩ = some (.int .i64 lm) := by
  refine ⟨?_, ?_, ?_⟩
  all_goals
    rw [World.cell?_alloc_new]
    rfl
set_option maxHeartbeats 4000000 in
theorem maylie_no (nm : ByteArray) (pr lm : Int) (hs : nm.size ≤ maxLen) (k : Nat) (w : World) (hbad : bad1 k ⟨nm, pr, lm⟩) :
    Calls Tryz.prog 118 #[.agg #[.string nm, .int .i64 pr, .int .i64 lm], .int .i64 (k : Nat)] w fun e w' => e = .returned (.bool false) ∧ Below w.heap.size w w' := by
  have hs2 : nm.size ≤ 9223372036854775807 := by unfold maxLen at hs; omega
  have hor : (¬ (1 : Int) ≤ (nm.size : Int)) ∨ ((1 : Int) ≤ (nm.size : Int) ∧ ¬ (nm.size : Int) ≤ 16) ∨ ((1 : Int) ≤ (nm.size : Int) ∧ (nm.size : Int) ≤ 16 ∧ ¬ -1 ≤ pr) ∨ ((1 : Int) ≤ (nm.size : Int) ∧ (nm.size : Int) ≤ 16 ∧ -1 ≤ pr ∧ ¬ pr < (k : Int)) ∨ ((1 : Int) ≤ (nm.size : Int) ∧ (nm.size : Int) ≤ 16 ∧ -1 ≤ pr ∧ pr < (k : Int) ∧ ¬ 0 ≤ lm) ∨ ((1 : Int) ≤ (nm.size : Int) ∧ (nm.size : Int) ≤ 16 ∧ -1 ≤ pr ∧ pr < (k : Int) ∧ 0 ≤ lm ∧ ¬ lm ≤ 1152921504606846976) := by
    unfold bad1 at hbad
    simp only at hbad
    omega
  clear hbad
  obtain ⟨c0, c1, c2⟩ := boxed_fund w nm pr lm
  have HB := Lib.hid (below_alloc w (.cells #[.string nm, .int .i64 pr, .int .i64 lm] 81))
  rcases hor with h1 | ⟨h1, h2⟩ | ⟨h1, h2, h3⟩ | ⟨h1, h2, h3, h4⟩ | ⟨h1, h2, h3, h4, h5⟩ | ⟨h1, h2, h3, h4, h5, h6⟩
  · have d1 := decide_eq_false h1
    go_enter Tryz.func118, Tryz.ntmps118
    go_wp2_with fail
    go_ret
    exact ⟨rfl, HB.out⟩
  · have d2 := decide_eq_false h2
    go_enter Tryz.func118, Tryz.ntmps118
    go_wp2_with fail
    go_ret
    exact ⟨rfl, HB.out⟩
  · have d3 := decide_eq_false h3
    go_enter Tryz.func118, Tryz.ntmps118
    go_wp2_with fail
    go_ret
    exact ⟨rfl, HB.out⟩
  · have d4 := decide_eq_false h4
    go_enter Tryz.func118, Tryz.ntmps118
    go_wp2_with fail
    go_ret
    exact ⟨rfl, HB.out⟩
  · have d5 := decide_eq_false h5
    go_enter Tryz.func118, Tryz.ntmps118
    go_wp2_with fail
    go_ret
    exact ⟨rfl, HB.out⟩
  · have d6 := decide_eq_false h6
    go_enter Tryz.func118, Tryz.ntmps118
    go_wp2_with fail
    go_ret
    exact ⟨rfl, HB.out⟩
set_option maxHeartbeats 4000000 in
theorem maylie_yes (nm : ByteArray) (pr lm : Int) (hs : nm.size ≤ maxLen) (k : Nat) (w : World) (hbad : ¬ bad1 k ⟨nm, pr, lm⟩) :
    Calls Tryz.prog 118 #[.agg #[.string nm, .int .i64 pr, .int .i64 lm], .int .i64 (k : Nat)] w fun e w' => e = .returned (.bool true) ∧ Below w.heap.size w w' := by
  have hs2 : nm.size ≤ 9223372036854775807 := by unfold maxLen at hs; omega
  have hor : (1 : Int) ≤ (nm.size : Int) ∧ (nm.size : Int) ≤ 16 ∧ -1 ≤ pr ∧ pr < (k : Int) ∧ 0 ≤ lm ∧ lm ≤ 1152921504606846976 := by
    unfold bad1 at hbad
    simp only at hbad
    omega
  clear hbad
  obtain ⟨h1, h2, h3, h4, h5, h6⟩ := hor
  obtain ⟨c0, c1, c2⟩ := boxed_fund w nm pr lm
  have HB := Lib.hid (below_alloc w (.cells #[.string nm, .int .i64 pr, .int .i64 lm] 81))
  go_enter Tryz.func118, Tryz.ntmps118
  go_wp2_with fail
  go_ret
  exact ⟨rfl, HB.out⟩
theorem named1_yes {w : World} (nm : ByteArray) (pr lm : Int) (bx : Nat) (hb : w.cell? ⟨bx, 0, none⟩ = some (.string nm)) :
    Calls Tryz.prog 141 #[.agg #[.string nm, .int .i64 pr, .int .i64 lm], .pointer (some ⟨bx, 0, none⟩)] w fun e w' => e = .returned (.bool true) ∧ Below w.heap.size w w' := by
  obtain ⟨c0, _, _⟩ := boxed_fund w nm pr lm
  have c1 := cell_alloc hb (o := .cells #[.string nm, .int .i64 pr, .int .i64 lm] 81)
  have HB := Lib.hid (below_alloc w (.cells #[.string nm, .int .i64 pr, .int .i64 lm] 81))
  go_enter Tryz.func141, Tryz.ntmps141
  go_wp2_with fail
  go_ret
  exact ⟨by first | rfl | simp, HB.out⟩
theorem named1_no {w : World} (nm nm2 : ByteArray) (pr lm : Int) (bx : Nat) (hb : w.cell? ⟨bx, 0, none⟩ = some (.string nm2)) (hne : nm ≠ nm2) :
    Calls Tryz.prog 141 #[.agg #[.string nm, .int .i64 pr, .int .i64 lm], .pointer (some ⟨bx, 0, none⟩)] w fun e w' => e = .returned (.bool false) ∧ Below w.heap.size w w' := by
  obtain ⟨c0, _, _⟩ := boxed_fund w nm pr lm
  have c1 := cell_alloc hb (o := .cells #[.string nm, .int .i64 pr, .int .i64 lm] 81)
  have HB := Lib.hid (below_alloc w (.cells #[.string nm, .int .i64 pr, .int .i64 lm] 81))
  have hq := name_ne hne
  clear hne
  go_enter Tryz.func141, Tryz.ntmps141
  go_wp2_with fail
  go_ret
  exact ⟨rfl, HB.out⟩
theorem fund_range {b o n c k : Nat} {l : List Fd} (h : Funds w (some ⟨b, o, none⟩) n c l) (hk : k < l.length) {x : Fd} (hx : l[k] = x) : w.rangeAt b (o + k * 3) (encF x) := by
  intro j v hv
  have hj : j < 3 := (List.getElem?_eq_some_iff.1 hv).1
  rw [row_cell h.row hk hx hj]
  exact hv
set_option maxHeartbeats 1000000 in
theorem findex_any {w : World} (aa : Option Addr) (n c : Nat) (l : List Fd) (h : Funds w aa n c l) (nm : ByteArray) (bx : Nat) (hb : w.cell? ⟨bx, 0, none⟩ = some (.string nm)) :
    Calls Tryz.prog 160 #[.slice aa n c, .func (.func 141) #[] #[.pointer (some ⟨bx, 0, none⟩)]] w fun e w' => ∃ j : Int, e = .returned (.int .i64 j) ∧ (0 ≤ j ↔ ∃ x ∈ l, x.name = nm) ∧ Below w.heap.size w w' := by
  have hm : n ≤ 9223372036854775807 := by have := h.cap; have := h.max; unfold maxLen at this; omega
  have HE := Lib.hid (And.intro h h.len)
  have HB := Lib.hid hb
  clear h hb
  go_enter Tryz.func160, Tryz.ntmps160
  go_wp2_with fail
  go_loopw [5, 8] (fun _ iv wx => ∃ k : Nat, k ≤ n ∧ iv = .int .i64 (k : Nat) ∧ Below w.heap.size w wx ∧ ∀ x ∈ l.take k, x.name ≠ nm) (fun _ iv _ => n - (intOf iv).toNat)
  case atStart => exact ⟨0, Nat.zero_le _, rfl, Below.refl _ _, by simp⟩
  case round =>
    obtain ⟨k, hk, rfl, hbl, hno⟩ := hrel
    have HBl := Lib.hid hbl
    have HNo := Lib.hid hno
    clear hno
    by_cases hlt : k < n
    · have hkl : k < l.length := by rw [HE.out.2]; exact hlt
      obtain ⟨b, o, rfl⟩ := lst_at HE.out.1 (by omega)
      have hrg := fund_range (lst_keep encF_len HE.out.1 hbl) hkl rfl
      have htk : l.take (k + 1) = l.take k ++ [l[k]] := List.take_succ_eq_append_getElem hkl
      have hmem : l[k] ∈ l := List.getElem_mem hkl
      generalize l[k] = x at *
      obtain ⟨nx, pr, lm⟩ := x
      have HTk := Lib.hid htk
      have HRg := Lib.hid hrg
      have HSz : Hid ((Tryz.prog.info? 81).map (·.size) = some (encF ⟨nx, pr, lm⟩).length) := Lib.hid (by rw [encF_len]; kernel_rfl)
      have HMe := Lib.hid hmem
      have hbx := cell_keep hbl HB.out
      clear hbl htk hmem hrg
      by_cases hq : nx = nm
      · subst hq
        have HC := Lib.hid (named1_yes nx pr lm bx hbx)
        clear hbx
        go_wp2_with (first | (refine wpList_load_mid rfl 81 (.tmp 14) rfl b (o + k * 3) rfl (encF ⟨nx, pr, lm⟩) _ HRg.out Tryz.underlying81 rfl HSz.out ?_) | (go_at_call 141; refine HC.out.mono ?_; rintro e w2 ⟨rfl, hb2⟩; have HB2 := Lib.hid (below_keep HBl.out hb2); clear hb2) | fail)
        go_ret
        exact ⟨_, rfl, ⟨fun _ => ⟨_, HMe.out, rfl⟩, fun _ => by omega⟩, HB2.out⟩
      · have HC := Lib.hid (named1_no nx nm pr lm bx hbx hq)
        have HQ := Lib.hid hq
        clear hq hbx
        go_wp2_with (first | (refine wpList_load_mid rfl 81 (.tmp 14) rfl b (o + k * 3) rfl (encF ⟨nx, pr, lm⟩) _ HRg.out Tryz.underlying81 rfl HSz.out ?_) | (go_at_call 141; refine HC.out.mono ?_; rintro e w2 ⟨rfl, hb2⟩; have HB2 := Lib.hid (below_keep HBl.out hb2); clear hb2) | fail)
        go_roundw
        case rel =>
          refine ⟨k + 1, by omega, by go_num, HB2.out, ?_⟩
          rw [HTk.out]
          intro y hy
          rcases List.mem_append.1 hy with hy | hy
          · exact HNo.out y hy
          · simp at hy; subst hy; exact HQ.out
        case measure => simp [intOf]; omega
    · obtain rfl : k = n := by omega
      have HF : Hid (¬ ∃ x ∈ l, x.name = nm) := Lib.hid (fun ⟨x, hx, he⟩ => HNo.out x (by rw [List.take_of_length_le (by rw [HE.out.2]; exact Nat.le_refl _)]; exact hx) he)
      clear hbl
      go_wp2_with fail
      go_ret
      exact ⟨_, rfl, ⟨fun h => by omega, fun h => absurd h HF.out⟩, HBl.out⟩
theorem fcontains_any {w : World} (aa : Option Addr) (n c : Nat) (l : List Fd) (h : Funds w aa n c l) (nm : ByteArray) (bx : Nat) (hb : w.cell? ⟨bx, 0, none⟩ = some (.string nm)) :
    Calls Tryz.prog 140 #[.slice aa n c, .func (.func 141) #[] #[.pointer (some ⟨bx, 0, none⟩)]] w fun e w' => ∃ r : Bool, e = .returned (.bool r) ∧ (r = true ↔ ∃ x ∈ l, x.name = nm) ∧ Below w.heap.size w w' := by
  have HI := Lib.hid (findex_any aa n c l h nm bx hb)
  clear h hb
  go_enter Tryz.func140, Tryz.ntmps140
  go_wp2_with fail
  refine HI.out.mono ?_
  rintro e w1 ⟨j, rfl, hj, hb⟩
  have HJ := Lib.hid (And.intro hj hb)
  clear hj hb
  go_wp2_with fail
  go_ret
  exact ⟨_, rfl, by rw [← HJ.out.1]; first | exact decide_eq_true_iff | simp, HJ.out.2⟩
theorem named_any {w : World} (aa : Option Addr) (n c : Nat) (l : List Fd) (h : Funds w aa n c l) (nm : ByteArray) :
    Calls Tryz.prog 119 #[.slice aa n c, .string nm] w fun e w' => ∃ r : Bool, e = .returned (.bool r) ∧ (r = true ↔ ∃ x ∈ l, x.name = nm) ∧ Below w.heap.size w w' := by
  have hb0 := below_alloc w (.cells #[.string nm] 9)
  have HI := Lib.hid (fcontains_any aa n c l (lst_keep encF_len h hb0) nm w.heap.size (World.cell?_alloc_new w _ _ 0))
  have hmf : ∀ (fn : Fn) (first cap : Array Value) (w : World), (Instr.makeFunc fn first cap).run Tryz.prog w = .ok (.func fn first cap) w := fun _ _ _ _ => rfl
  have HB := Lib.hid hb0
  clear h hb0
  go_enter Tryz.func119, Tryz.ntmps119
  go_wp2_with fail
  refine HI.out.mono ?_
  rintro e w2 ⟨j, rfl, hj, hb2⟩
  have HJ := Lib.hid hj
  have HB2 := Lib.hid (below_keep HB.out hb2)
  clear hj hb2
  go_wp2_with fail
  go_ret
  exact ⟨j, rfl, HJ.out, HB2.out⟩
end Go.Proofs.YtjcndgopijpibaaGreat.Tre
/- Tree: the landed Good, as it runs. -/
namespace Go.Proofs.YtjcndgopijpibaaGreat.Tre
set_option maxRecDepth 100000
open Go.RowKit
open Go.Sort
open Kit
open Mon
set_option linter.unusedVariables false
variable {w w' : World}
theorem named_is {w : World} (aa : Option Addr) (n c : Nat) (l : List Fd) (h : Funds w aa n c l) (nm : ByteArray) (b : Bool) (hb : b = true ↔ ∃ x ∈ l, x.name = nm) :
    Calls Tryz.prog 119 #[.slice aa n c, .string nm] w fun e w' => e = .returned (.bool b) ∧ Below w.heap.size w w' := by
  refine (named_any aa n c l h nm).mono ?_
  rintro e w1 ⟨r, rfl, hr, hb1⟩
  refine ⟨?_, hb1⟩
  have : r = b := by
    cases r with
    | true => exact (hb.2 (hr.1 rfl)).symm
    | false =>
      cases b with
      | false => rfl
      | true => exact absurd (hr.2 (hb.1 rfl)) Bool.false_ne_true
  rw [this]
theorem ok_bad {l : List Fd} {i : Nat} {x : Fd} (h : bad1 i x) : okAt l i x = false := by
  cases hc : okAt l i x with
  | false => rfl
  | true => exact absurd h ((okAt_iff l i x).1 hc).1
theorem ok_named {l : List Fd} {i : Nat} {x : Fd} (h : ∃ y ∈ l.take i, y.name = x.name) : okAt l i x = false := by
  obtain ⟨y, hy, he⟩ := h
  cases hc : okAt l i x with
  | false => rfl
  | true => exact absurd he (((okAt_iff l i x).1 hc).2 y hy)
set_option maxHeartbeats 8000000 in
theorem good_any (l : List Fd) (hok : ∀ x ∈ l, x.ok) (a : Option Addr) (n c : Nat) (w : World) (h : Funds w a n c l) (hn : n ≤ 100) :
    Calls Tryz.prog 89 #[.slice a n c] w fun e w' => e = .returned (.bool (goodB l)) ∧ Below w.heap.size w w' := by
  have hcap : n ≤ c := h.cap
  have HL := Lib.hid (And.intro h (And.intro hok h.len))
  clear h hok
  by_cases h8 : n ≤ 8
  · have h8i : ¬ (8 : Int) < (n : Int) := by omega
    go_enter Tryz.func89, Tryz.ntmps89
    go_wp2_with fail
    go_loopw [3, 4, 10] (fun _ _ i wr => ∃ k : Nat, k ≤ n ∧ i = .int .i64 (k : Nat) ∧ okTo l k = true ∧ Below w.heap.size w wr) (fun _ _ i _ => n - (intOf i).toNat)
    case atStart => exact ⟨0, Nat.zero_le _, rfl, rfl, Below.refl _ _⟩
    case round =>
      obtain ⟨k, hk, rfl, hto, hb⟩ := hrel
      have HO := Lib.hid (And.intro hto hb)
      clear hto hb
      by_cases hlt : k < n
      · have hkl : k < l.length := by rw [HL.out.2.2]; exact hlt
        obtain ⟨b, o, rfl⟩ := lst_at HL.out.1 (by omega)
        have hF := lst_keep encF_len HL.out.1 HO.out.2
        obtain ⟨q0, q1, q2⟩ := fund_cells hF hkl
        have hxk := HL.out.2.1 l[k] (List.getElem_mem hkl)
        have hget := List.getElem?_eq_getElem hkl
        generalize l[k] = x at *
        obtain ⟨nm, pr, lm⟩ := x
        have HX := Lib.hid (And.intro hget (And.intro (okTo_succ l hget) (okAt_iff l k ⟨nm, pr, lm⟩)))
        simp only at q0 q1 q2
        have HXk := Lib.hid hxk
        obtain ⟨W, hW⟩ : ∃ W : World, W = wr.alloc (.cells #[.string nm, .int .i64 pr, .int .i64 lm] 81) := ⟨_, rfl⟩
        have hbW : Below wr.heap.size wr W := by rw [hW]; exact below_alloc _ _
        obtain ⟨c0, c1, c2⟩ := boxed_fund wr nm pr lm
        rw [← hW] at c0 c1 c2
        have k0 : ∀ d os, (grow (redrawn W d) os).cell? ⟨wr.heap.size, 0, none⟩ = some (.string nm) := fun d os => cell_regrown c0 d os
        have k1 : ∀ d os, (grow (redrawn W d) os).cell? ⟨wr.heap.size, 1, none⟩ = some (.int .i64 pr) := fun d os => cell_regrown c1 d os
        have k2 : ∀ d os, (grow (redrawn W d) os).cell? ⟨wr.heap.size, 2, none⟩ = some (.int .i64 lm) := fun d os => cell_regrown c2 d os
        have i0 : (0 : Int) ≤ (k : Int) := by omega
        have i1 : (k : Int) ≤ (c : Int) := by omega
        have HTk : Hid (Funds W (some ⟨b, o, none⟩) k c (l.take k)) := Lib.hid (lst_take (lst_keep encF_len hF hbW) k (by omega))
        have HW := Lib.hid hW
        have HBW := Lib.hid (below_keep HO.out.2 hbW)
        clear hget hF hxk hW hbW c0 c1 c2
        by_cases hbad : bad1 k ⟨nm, pr, lm⟩
        · have HBad := Lib.hid (show goodB l = false from good_false (okTo_false hkl HX.out.1 (ok_bad hbad)))
          have cM := fun d os => Calls.regrown_of (w := W) (d := d) (os := os) (maylie_no nm pr lm HXk.out.1 k _ hbad)
          clear hbad
          go_wp2_with fail
          rw [← HW.out]
          refine wp_region_quiet_below (by kernel_rfl) (by kernel_rfl) ?_
          repeat (go_big_quiet_step (first | (with_reducible exact cM _ _)))
          refine wpQuiet_nil ?_
          intro _ hw'
          obtain ⟨⟨dq, osq⟩, hw''⟩ := hw'
          subst hw''
          go_wp2_with fail
          go_ret
          exact ⟨by rw [HBad.out]; rfl, below_keep HBW.out (below_regrown W dq osq)⟩
        · have cM := fun d os => Calls.regrown_of (w := W) (d := d) (os := os) (maylie_yes nm pr lm HXk.out.1 k _ hbad)
          have HNb := Lib.hid hbad
          clear hbad
          by_cases hnm : ∃ y ∈ l.take k, y.name = nm
          · have HBad := Lib.hid (show goodB l = false from good_false (okTo_false hkl HX.out.1 (ok_named hnm)))
            have cN := fun d os => Calls.regrown_of (w := W) (d := d) (os := os) (named_is _ k c (l.take k) (lst_keep encF_len HTk.out (below_regrown W d os)) nm true ⟨fun _ => hnm, fun _ => rfl⟩)
            clear hnm
            go_wp2_with fail
            rw [← HW.out]
            refine wp_region_quiet_below (by kernel_rfl) (by kernel_rfl) ?_
            repeat (go_big_quiet_step (first | (with_reducible exact cM _ _) | (with_reducible exact cN _ _)))
            refine wpQuiet_nil ?_
            intro _ hw'
            obtain ⟨⟨dq, osq⟩, hw''⟩ := hw'
            subst hw''
            go_wp2_with fail
            go_ret
            exact ⟨by rw [HBad.out]; rfl, below_keep HBW.out (below_regrown W dq osq)⟩
          · have HNo := Lib.hid hnm
            have cN := fun d os => Calls.regrown_of (w := W) (d := d) (os := os) (named_is _ k c (l.take k) (lst_keep encF_len HTk.out (below_regrown W d os)) nm false ⟨fun h => absurd h Bool.false_ne_true, fun h => absurd h hnm⟩)
            have HK := Lib.hid (show okTo l (k + 1) = true by
              rw [HX.out.2.1, HO.out.1, Bool.true_and]
              exact HX.out.2.2.2 ⟨HNb.out, fun y hy e => HNo.out ⟨y, hy, e⟩⟩)
            clear hnm
            go_wp2_with fail
            rw [← HW.out]
            refine wp_region_quiet_below (by kernel_rfl) (by kernel_rfl) ?_
            repeat (go_big_quiet_step (first | (with_reducible exact cM _ _) | (with_reducible exact cN _ _)))
            refine wpQuiet_nil ?_
            intro _ hw'
            obtain ⟨⟨dq, osq⟩, hw''⟩ := hw'
            subst hw''
            go_wp2_with fail
            go_roundw
            case rel => exact ⟨k + 1, by omega, by go_num, HK.out, below_keep HBW.out (below_regrown W dq osq)⟩
            case measure => simp [intOf]; omega
      · obtain rfl : k = n := by omega
        have HG := Lib.hid (show goodB l = true by unfold goodB; rw [HL.out.2.2, HO.out.1, Bool.and_true]; exact decide_eq_true h8)
        go_wp2_with fail
        go_ret
        exact ⟨by rw [HG.out]; rfl, HO.out.2⟩
  · have h8i : (8 : Int) < (n : Int) := by omega
    have HG := Lib.hid (show goodB l = false by unfold goodB; rw [HL.out.2.2, decide_eq_false h8]; rfl)
    go_enter Tryz.func89, Tryz.ntmps89
    go_wp2_with fail
    go_ret
    exact ⟨by rw [HG.out]; rfl, Below.refl _ _⟩
end Go.Proofs.YtjcndgopijpibaaGreat.Tre
/- Book, the landed: a fund more. -/
namespace Go.Proofs.YtjcndgopijpibaaGreat.Bok
set_option maxRecDepth 100000
open Go.RowKit
open Go.Sort
open Kit
open Foot
open Tre (Lst inI lst_keep lst_at lst_new lst_none encF encF_len encL_len IntsL goodB)
open Led (Lg encG encG_len)
open Snp (Sn Sv encK encK_len encK_one)
set_option linter.unusedVariables false
variable {w w' W0 W : World} {B : Nat}
set_option maxHeartbeats 16000000 in
theorem addFund_any (y : Sv) (hc : Cal W0 W B y) (hn : y.funds.length ≤ 8) (hok : ∀ x ∈ y.funds, x.ok) (sq tm kd : Int) (ky nm : ByteArray) (aa ga : Option Addr) (cp gn gc : Nat) (hnm : nm.size ≤ maxLen) (p0 p1 : Int) (hp : inI p0 ∧ inI p1) (hA : IntsL W aa 2 cp [p0, p1]) :
    Calls Tryz.prog 64 #[.pointer (some ⟨B, 0, none⟩), .agg #[.int .i64 sq, .int .i64 tm, .int .i64 kd, .string ky, .string nm, .slice aa 2 cp, .slice ga gn gc]] W (ErrP W0 B (bankE y.t 1 nm [p0, p1]) (bankS y.t 1 nm [p0, p1])) := by
  obtain ⟨ba, oa, rfl⟩ := lst_at hA (by omega)
  have hfl : y.f.n = y.funds.length := (own_lst encF_len hc.bo.o.f).len.symm
  have HE := Lib.hid (show bankE y.t 1 nm [p0, p1] = if 8 ≤ y.funds.length then 14 else if goodB (y.funds ++ [⟨nm, p0, p1⟩]) then 0 else 1 from rfl)
  have HSL := Lib.hid (show bankS y.t 1 nm [p0, p1] = { y.t with funds := y.funds ++ [⟨nm, p0, p1⟩] } from rfl)
  have hba := below_alloc W (.cells #[.int .i64 sq, .int .i64 tm, .int .i64 kd, .string ky, .string nm, .slice (some ⟨ba, oa, none⟩) 2 cp, .slice ga gn gc] 34)
  have htb := tx_box W sq tm kd ky nm (some ⟨ba, oa, none⟩) ga 2 cp gn gc
  obtain ⟨wa, hwa⟩ : ∃ z, z = W.alloc (.cells #[.int .i64 sq, .int .i64 tm, .int .i64 kd, .string ky, .string nm, .slice (some ⟨ba, oa, none⟩) 2 cp, .slice ga gn gc] 34) := ⟨_, rfl⟩
  rw [← hwa] at htb hba
  have HWa := Lib.hid hwa
  have hA2 := lst_keep Tre.encI_len hA hba
  have q0 : wa.cell? ⟨ba, oa, none⟩ = some (.int .i64 p0) := Tre.int_cell hA2 (k := 0) (by simp)
  have q1 : wa.cell? ⟨ba, oa + 1, none⟩ = some (.int .i64 p1) := Tre.int_cell hA2 (k := 1) (by simp)
  have k4 : wa.cell? ⟨W.heap.size, 4, none⟩ = some (.string nm) := Arr.blk_cell htb 4
  have k5 : wa.cell? ⟨W.heap.size, 5, none⟩ = some (.slice (some ⟨ba, oa, none⟩) 2 cp) := Arr.blk_cell htb 5
  have hca := hc.keep hba
  have HBo := Lib.hid hca
  have p3 : wa.cell? ⟨B, 3, none⟩ = some (.slice y.f.a y.f.n y.f.c) := Arr.blk_cell hca.bo.b 3
  have HQ := Lib.hid (show wa.cell? ⟨B, 3, none⟩ = some (.slice y.f.a y.f.n y.f.c) ∧ wa.cell? ⟨W.heap.size, 4, none⟩ = some (.string nm) ∧ wa.cell? ⟨W.heap.size, 5, none⟩ = some (.slice (some ⟨ba, oa, none⟩) 2 cp) ∧ wa.cell? ⟨ba, oa, none⟩ = some (.int .i64 p0) ∧ wa.cell? ⟨ba, oa + 1, none⟩ = some (.int .i64 p1) from ⟨p3, k4, k5, q0, q1⟩)
  have HFl := Lib.hid hfl
  have HOk := Lib.hid (And.intro hok (And.intro hnm hp))
  have hgeW := Lib.hid hca.below.size
  clear hA hA2 htb hba hwa hok hnm hp hfl hca hc q0 q1 k4 k5
  go_enter Tryz.func64, Tryz.ntmps64
  go_upto_region 1 with fail
  rw [← HWa.out]
  by_cases h8 : 8 ≤ y.funds.length
  · have HE2 := Lib.hid (show bankE y.t 1 nm [p0, p1] = 14 by rw [HE.out, if_pos h8])
    have h8n : (8 : Int) ≤ (y.f.n : Int) := by rw [HFl.out]; omega
    clear HE h8 hn
    go_wp2_with fail
    go_ret
    exact ⟨y, by rw [HE2.out]; rfl, (fun h => by rw [HE2.out] at h; exact absurd h (by decide)), HBo.out.below⟩
  · have h8n : ¬ (8 : Int) ≤ (y.f.n : Int) := by rw [HFl.out]; omega
    have HO := Lib.hid (show Owns encF 3 81 wa W0.heap.size (.slice y.f.a y.f.n y.f.c) y.funds ∧ W0.heap.size ≤ wa.heap.size ∧ y.funds.length + 1 ≤ 100000 from ⟨HBo.out.bo.o.f, hgeW.out, by omega⟩)
    go_upto_region 3 with fail
    clear p3
    refine Chn.wp_region_chain (fun idx => match idx with | 0 => some (.pointer (some ⟨B, 0, none⟩)) | 1 => some (.pointer (some ⟨B, 0, none⟩)) | 2 => some (.pointer (some ⟨B, 0, none⟩)) | 3 => some (.pointer (some ⟨B, 3, none⟩)) | 4 => some (.slice y.f.a y.f.n y.f.c) | 5 => some (.pointer (some ⟨W.heap.size, 4, none⟩)) | 6 => some (.string nm) | 7 => some (.pointer (some ⟨W.heap.size, 5, none⟩)) | 8 => some (.slice (some ⟨ba, oa, none⟩) 2 cp) | 9 => some (.pointer (some ⟨ba, oa, none⟩)) | 10 => some (.int .i64 p0) | 11 => some (.pointer (some ⟨W.heap.size, 5, none⟩)) | 12 => some (.slice (some ⟨ba, oa, none⟩) 2 cp) | 13 => some (.pointer (some ⟨ba, oa + 1, none⟩)) | 14 => some (.int .i64 p1) | 15 => some (.agg #[.string nm, .int .i64 p0, .int .i64 p1]) | 18 => some (.pointer (some ⟨B, 0, none⟩)) | 19 => some (.pointer (some ⟨B, 3, none⟩)) | _ => none) [16, 17, 20] (phiB encF 3 81 wa W0.heap.size (.slice y.f.a y.f.n y.f.c) y.funds (⟨nm, p0, p1⟩ : Tre.Fd) B 3) (by kernel_rfl) (by kernel_rfl) (by kernel_rfl) (by kernel_rfl) (by kernel_rfl) (by decide) (by kernel_rfl) (rfl) ?_ ?_
    · refine ⟨?_, ?_, ?_, ?_, ?_, ?_, ?_, ?_, ?_, ?_, ?_, ?_, ?_, ?_, ?_, ?_, ?_, ?_, ?_, ?_, ?_, trivial⟩
      · intro a ww jj vs c hj0 hΦ
        have hj : jj ≤ 2 := Nat.le_trans hj0 (of_decide_eq_true (by kernel_rfl))
        refine .inl ⟨Rel.wanted_free (by kernel_rfl) _, ?_⟩
        exact Rel.wp_mv _ rfl ⟨congrArg (a.put _) (c.old 0 (v := .pointer (some ⟨B, 0, none⟩)) (by kernel_rfl) (by kernel_rfl)), rfl⟩
      · intro a ww jj vs c hj0 hΦ
        have hj : jj ≤ 1 := Nat.le_trans hj0 (of_decide_eq_true (by kernel_rfl))
        refine .inl ⟨Rel.wanted_free (by kernel_rfl) _, ?_⟩
        exact Rel.wp_mv _ rfl ⟨congrArg (a.put _) (c.old 0 (v := .pointer (some ⟨B, 0, none⟩)) (by kernel_rfl) (by kernel_rfl)), rfl⟩
      · intro a ww jj vs c hj0 hΦ
        have hj : jj ≤ 1 := Nat.le_trans hj0 (of_decide_eq_true (by kernel_rfl))
        refine .inl ⟨Rel.wanted_free (by kernel_rfl) _, ?_⟩
        exact Chn.wp_nc _ rfl (c.get 1 12 (by kernel_rfl) rfl) ⟨rfl, rfl⟩
      · intro a ww jj vs c hj0 hΦ
        have hj : jj ≤ 1 := Nat.le_trans hj0 (of_decide_eq_true (by kernel_rfl))
        refine .inl ⟨Rel.wanted_free (by kernel_rfl) _, ?_⟩
        exact Chn.wp_fa _ _ _ rfl (c.get 2 13 (by kernel_rfl) rfl) (by simp [go_sem]) ⟨rfl, rfl⟩
      · intro a ww jj vs c hj0 hΦ
        have hj : jj ≤ 1 := Nat.le_trans hj0 (of_decide_eq_true (by kernel_rfl))
        refine .inl ⟨Rel.wanted_free (by kernel_rfl) _, ?_⟩
        exact Rel.wp_ld _ _ rfl (c.get 3 14 (by kernel_rfl) rfl) (run_ld_f (phiB_cell (by omega) hΦ HQ.out.1)) ⟨rfl, rfl⟩
      · intro a ww jj vs c hj0 hΦ
        have hj : jj ≤ 0 := Nat.le_trans hj0 (of_decide_eq_true (by kernel_rfl))
        refine .inl ⟨Rel.wanted_free (by kernel_rfl) _, ?_⟩
        exact Chn.wp_fa _ _ _ rfl (c.old 3 (v := .pointer (some ⟨W.heap.size, 0, none⟩)) (by kernel_rfl) (by kernel_rfl)) (by simp [go_sem]) ⟨rfl, rfl⟩
      · intro a ww jj vs c hj0 hΦ
        have hj : jj ≤ 0 := Nat.le_trans hj0 (of_decide_eq_true (by kernel_rfl))
        refine .inl ⟨Rel.wanted_free (by kernel_rfl) _, ?_⟩
        exact Rel.wp_ld _ _ rfl (c.get 5 16 (by kernel_rfl) rfl) (run_ldS (phiB_cell (by omega) hΦ HQ.out.2.1)) ⟨rfl, rfl⟩
      · intro a ww jj vs c hj0 hΦ
        have hj : jj ≤ 0 := Nat.le_trans hj0 (of_decide_eq_true (by kernel_rfl))
        refine .inl ⟨Rel.wanted_free (by kernel_rfl) _, ?_⟩
        exact Chn.wp_fa _ _ _ rfl (c.old 3 (v := .pointer (some ⟨W.heap.size, 0, none⟩)) (by kernel_rfl) (by kernel_rfl)) (by simp [go_sem]) ⟨rfl, rfl⟩
      · intro a ww jj vs c hj0 hΦ
        have hj : jj ≤ 0 := Nat.le_trans hj0 (of_decide_eq_true (by kernel_rfl))
        refine .inl ⟨Rel.wanted_free (by kernel_rfl) _, ?_⟩
        exact Rel.wp_ld _ _ rfl (c.get 7 18 (by kernel_rfl) rfl) (run_ldIs (phiB_cell (by omega) hΦ HQ.out.2.2.1)) ⟨rfl, rfl⟩
      · intro a ww jj vs c hj0 hΦ
        have hj : jj ≤ 0 := Nat.le_trans hj0 (of_decide_eq_true (by kernel_rfl))
        refine .inl ⟨Rel.wanted_free (by kernel_rfl) _, ?_⟩
        exact Rel.wp_ia _ _ _ rfl (c.get 8 19 (by kernel_rfl) rfl) rfl (run_iaN 0 (by omega) ww) ⟨rfl, rfl⟩
      · intro a ww jj vs c hj0 hΦ
        have hj : jj ≤ 0 := Nat.le_trans hj0 (of_decide_eq_true (by kernel_rfl))
        refine .inl ⟨Rel.wanted_free (by kernel_rfl) _, ?_⟩
        exact Rel.wp_ld _ _ rfl (c.get 9 20 (by kernel_rfl) rfl) (run_ldI (phiB_cell (by omega) hΦ HQ.out.2.2.2.1)) ⟨rfl, rfl⟩
      · intro a ww jj vs c hj0 hΦ
        have hj : jj ≤ 0 := Nat.le_trans hj0 (of_decide_eq_true (by kernel_rfl))
        refine .inl ⟨Rel.wanted_free (by kernel_rfl) _, ?_⟩
        exact Chn.wp_fa _ _ _ rfl (c.old 3 (v := .pointer (some ⟨W.heap.size, 0, none⟩)) (by kernel_rfl) (by kernel_rfl)) (by simp [go_sem]) ⟨rfl, rfl⟩
      · intro a ww jj vs c hj0 hΦ
        have hj : jj ≤ 0 := Nat.le_trans hj0 (of_decide_eq_true (by kernel_rfl))
        refine .inl ⟨Rel.wanted_free (by kernel_rfl) _, ?_⟩
        exact Rel.wp_ld _ _ rfl (c.get 11 22 (by kernel_rfl) rfl) (run_ldIs (phiB_cell (by omega) hΦ HQ.out.2.2.1)) ⟨rfl, rfl⟩
      · intro a ww jj vs c hj0 hΦ
        have hj : jj ≤ 0 := Nat.le_trans hj0 (of_decide_eq_true (by kernel_rfl))
        refine .inl ⟨Rel.wanted_free (by kernel_rfl) _, ?_⟩
        exact Rel.wp_ia _ _ _ rfl (c.get 12 23 (by kernel_rfl) rfl) rfl (run_iaN 1 (by omega) ww) ⟨rfl, rfl⟩
      · intro a ww jj vs c hj0 hΦ
        have hj : jj ≤ 0 := Nat.le_trans hj0 (of_decide_eq_true (by kernel_rfl))
        refine .inl ⟨Rel.wanted_free (by kernel_rfl) _, ?_⟩
        exact Rel.wp_ld _ _ rfl (c.get 13 24 (by kernel_rfl) rfl) (run_ldI (phiB_cell (by omega) hΦ HQ.out.2.2.2.2)) ⟨rfl, rfl⟩
      · intro a ww jj vs c hj0 hΦ
        have hj : jj ≤ 0 := Nat.le_trans hj0 (of_decide_eq_true (by kernel_rfl))
        refine .inl ⟨Rel.wanted_free (by kernel_rfl) _, ?_⟩
        exact wp_bd3B _ _ _ _ rfl (c.get 6 17 (by kernel_rfl) rfl) (c.get 10 21 (by kernel_rfl) rfl) (c.get 14 25 (by kernel_rfl) rfl) (run_bd_f _ _ _ _) ⟨rfl, rfl⟩
      · refine ⟨0, rfl, ?_⟩
        intro a ww c hΦ
        have h : (phiB encF 3 81 wa W0.heap.size (.slice y.f.a y.f.n y.f.c) y.funds (⟨nm, p0, p1⟩ : Tre.Fd) B 3) 0 [] ww := hΦ
        clear hΦ
        refine ⟨Rel.wanted_free (by kernel_rfl) _, ?_⟩
        have hw : ww = wa.drew := h
        subst hw
        exact Chn.wp_bs1 _ _ rfl (c.get 15 26 (by kernel_rfl) rfl) (run_bs_f _ _ _ _) ⟨_, rfl, rfl, rfl⟩
      · refine ⟨1, rfl, ?_⟩
        intro a ww c hΦ
        have h : (phiB encF 3 81 wa W0.heap.size (.slice y.f.a y.f.n y.f.c) y.funds (⟨nm, p0, p1⟩ : Tre.Fd) B 3) 1 [Rel.slot a 27] ww := hΦ
        clear hΦ
        refine ⟨Rel.wanted_free (by kernel_rfl) _, ?_⟩
        obtain ⟨hu, hw⟩ := h
        obtain ⟨v, w3, hx, hm⟩ := phiB_app tyF2 (y := (⟨nm, p0, p1⟩ : Tre.Fd)) 23 HO.out.1 HO.out.2.1 HO.out.2.2 (by omega) hw
        exact Chn.wp_ap _ _ _ rfl (c.get 4 15 (by kernel_rfl) rfl) hu hx ⟨_, rfl, hm⟩
      · intro a ww jj vs c hj0 hΦ
        have hj : jj ≤ 2 := Nat.le_trans hj0 (of_decide_eq_true (by kernel_rfl))
        refine .inl ⟨Rel.wanted_free (by kernel_rfl) _, ?_⟩
        exact Chn.wp_nc _ rfl (c.get 0 11 (by kernel_rfl) rfl) ⟨rfl, rfl⟩
      · intro a ww jj vs c hj0 hΦ
        have hj : jj ≤ 2 := Nat.le_trans hj0 (of_decide_eq_true (by kernel_rfl))
        refine .inl ⟨Rel.wanted_free (by kernel_rfl) _, ?_⟩
        exact Chn.wp_fa _ _ _ rfl (c.get 18 29 (by kernel_rfl) rfl) (by simp [go_sem]) ⟨rfl, rfl⟩
      · refine ⟨2, rfl, ?_⟩
        intro a ww c hΦ
        have h : (phiB encF 3 81 wa W0.heap.size (.slice y.f.a y.f.n y.f.c) y.funds (⟨nm, p0, p1⟩ : Tre.Fd) B 3) 2 [Rel.slot a 27, Rel.slot a 28] ww := hΦ
        clear hΦ
        refine ⟨Rel.wanted_free (by kernel_rfl) _, ?_⟩
        obtain ⟨⟨ax, nx, cx, hx⟩, h1, h2⟩ := h
        rw [hx] at h1
        have hbx := blk_typed HBo.out.bo.b h2 (typed_own HO.out.1 (by decide))
        exact Chn.wp_st _ _ _ rfl (c.get 19 30 (by kernel_rfl) rfl) hx (run_st_f (u := .slice y.f.a y.f.n y.f.c) (by rw [Arr.blk_cell hbx]; rfl) (Arr.blk_frozen hbx 3)) ⟨undef, rfl, ax, nx, cx, ww, h1, h2, rfl⟩
    intro a w5 hbase hroom hdef hΦ hV
    have h : (phiB encF 3 81 wa W0.heap.size (.slice y.f.a y.f.n y.f.c) y.funds (⟨nm, p0, p1⟩ : Tre.Fd) B 3) 3 [Rel.slot a 27, Rel.slot a 28, undef] w5 := hΦ
    rw [Chn.act_puts [11, 12, 13, 14, 15, 16, 17, 18, 19, 20, 21, 22, 23, 24, 25, 26, 27, 28, 29, 30] hbase hroom hdef (by kernel_rfl)]
    clear hbase hroom hdef hΦ hV
    simp only [List.foldl_cons, List.foldl_nil]
    generalize Rel.slot a 11 = u11 at *
    generalize Rel.slot a 12 = u12 at *
    generalize Rel.slot a 13 = u13 at *
    generalize Rel.slot a 14 = u14 at *
    generalize Rel.slot a 15 = u15 at *
    generalize Rel.slot a 16 = u16 at *
    generalize Rel.slot a 17 = u17 at *
    generalize Rel.slot a 18 = u18 at *
    generalize Rel.slot a 19 = u19 at *
    generalize Rel.slot a 20 = u20 at *
    generalize Rel.slot a 21 = u21 at *
    generalize Rel.slot a 22 = u22 at *
    generalize Rel.slot a 23 = u23 at *
    generalize Rel.slot a 24 = u24 at *
    generalize Rel.slot a 25 = u25 at *
    generalize Rel.slot a 26 = u26 at *
    generalize Rel.slot a 27 = u27 at *
    generalize Rel.slot a 28 = u28 at *
    generalize Rel.slot a 29 = u29 at *
    generalize Rel.slot a 30 = u30 at *
    obtain ⟨ax, nx, cx, hb5, hw5⟩ := bo_f HBo.out.bo hgeW.out h
    obtain ⟨y2, hy2⟩ : ∃ q, q = withF y ⟨nm, p0, p1⟩ ax nx cx := ⟨_, rfl⟩
    rw [← hy2] at hb5
    have HS2 := Lib.hid (show y2.t = { y.t with funds := y.funds ++ [⟨nm, p0, p1⟩] } ∧ y2.funds = y.funds ++ [⟨nm, p0, p1⟩] by rw [hy2]; exact ⟨rfl, rfl⟩)
    have hLs : Tre.Funds w5 y2.f.a y2.f.n y2.f.c y2.funds := own_lst encF_len hb5.o.f
    have HG := Lib.hid (Tre.good_any y2.funds (fun q hq => by
      rw [HS2.out.2] at hq
      rcases List.mem_append.1 hq with hq | hq
      · exact HOk.out.1 q hq
      · rw [List.mem_singleton] at hq
        subst hq
        exact ⟨HOk.out.2.1, HOk.out.2.2.1, HOk.out.2.2.2⟩) y2.f.a y2.f.n y2.f.c w5 hLs (by have h1 := hLs.len; rw [HS2.out.2, List.length_append] at h1; simp at h1; omega))
    have p6 := Arr.blk_cell hb5.b 3
    simp only [Snp.encV, List.getElem?_cons_zero, List.getElem?_cons_succ] at p6
    have H5 := Lib.hid (And.intro hb5 (HBo.out.below.trans hw5))
    clear h hLs hb5 hw5 hy2
    go_wp2_with fail
    refine HG.out.mono ?_
    rintro e w7 ⟨rfl, hb7⟩
    have H7 := Lib.hid (And.intro (H5.out.1.keep hb7) (below_keep H5.out.2 hb7))
    rw [HS2.out.2]
    clear hb7 H5 HG p6
    cases hg : goodB (y.funds ++ [⟨nm, p0, p1⟩]) with
    | false =>
      have HE2 := Lib.hid (show bankE y.t 1 nm [p0, p1] = 1 by rw [HE.out, if_neg h8, hg]; rfl)
      clear hg h8 h8n hn HE
      go_wp2_with fail
      go_ret
      exact ⟨y2, by rw [HE2.out]; rfl, (fun h => by rw [HE2.out] at h; exact absurd h (by decide)), H7.out.2⟩
    | true =>
      have HE2 := Lib.hid (show bankE y.t 1 nm [p0, p1] = 0 by rw [HE.out, if_neg h8, hg]; rfl)
      clear hg h8 h8n hn HE
      go_wp2_with fail
      go_ret
      exact ⟨y2, by rw [HE2.out]; rfl, (fun h => ⟨by rw [HSL.out]; exact HS2.out.1, H7.out.1⟩), H7.out.2⟩
end Go.Proofs.YtjcndgopijpibaaGreat.Bok
