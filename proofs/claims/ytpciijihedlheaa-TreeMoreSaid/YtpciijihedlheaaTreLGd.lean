/- Tree: the landed Good, as it runs. -/
import Derived.Test.YtpciijihedlheaaTreLnd
import Derived.Lib.QuietBelow
namespace Go.Proofs.Ytpciijihedlheaa.Tre
set_option maxRecDepth 100000
open Go.RowKit
open Go.Sort
open Kit
open Mon
set_option linter.unusedVariables false
variable {w w' : World}

theorem named_is {w : World} (aa : Option Addr) (n c : Nat) (l : List Fd) (h : Funds w aa n c l) (nm : ByteArray) (b : Bool) (hb : b = true ↔ ∃ x ∈ l, x.name = nm) :
    Calls Try.prog 19 #[.slice aa n c, .string nm] w fun e w' => e = .returned (.bool b) ∧ Below w.heap.size w w' := by
  refine (named_any aa n c l h nm).mono ?_
  rintro e w1 ⟨r, rfl, hr, hb1⟩
  refine ⟨?_, hb1⟩
  have : r = b := by
    cases r with
    | true => exact (hb.2 (hr.1 rfl)).symm
    | false =>
      cases b with
      | false => rfl
      | true => exact absurd (hr.2 (hb.1 rfl)) Bool.false_ne_true
  rw [this]
theorem ok_bad {l : List Fd} {i : Nat} {x : Fd} (h : bad1 i x) : okAt l i x = false := by
  cases hc : okAt l i x with
  | false => rfl
  | true => exact absurd h ((okAt_iff l i x).1 hc).1
theorem ok_named {l : List Fd} {i : Nat} {x : Fd} (h : ∃ y ∈ l.take i, y.name = x.name) : okAt l i x = false := by
  obtain ⟨y, hy, he⟩ := h
  cases hc : okAt l i x with
  | false => rfl
  | true => exact absurd he (((okAt_iff l i x).1 hc).2 y hy)
set_option maxHeartbeats 8000000 in
theorem good_any (l : List Fd) (hok : ∀ x ∈ l, x.ok) (a : Option Addr) (n c : Nat) (w : World) (h : Funds w a n c l) (hn : n ≤ 100) :
    Calls Try.prog 9 #[.slice a n c] w fun e w' => e = .returned (.bool (goodB l)) ∧ Below w.heap.size w w' := by
  have hcap : n ≤ c := h.cap
  have HL := Lib.hid (And.intro h (And.intro hok h.len))
  clear h hok
  by_cases h8 : n ≤ 8
  · have h8i : ¬ (8 : Int) < (n : Int) := by omega
    go_enter Try.func9, Try.ntmps9
    go_wp2_with fail
    go_loopw [3, 4, 10] (fun _ _ i wr => ∃ k : Nat, k ≤ n ∧ i = .int .i64 (k : Nat) ∧ okTo l k = true ∧ Below w.heap.size w wr) (fun _ _ i _ => n - (intOf i).toNat)
    case atStart => exact ⟨0, Nat.zero_le _, rfl, rfl, Below.refl _ _⟩
    case round =>
      obtain ⟨k, hk, rfl, hto, hb⟩ := hrel
      have HO := Lib.hid (And.intro hto hb)
      clear hto hb
      by_cases hlt : k < n
      · have hkl : k < l.length := by rw [HL.out.2.2]; exact hlt
        obtain ⟨b, o, rfl⟩ := lst_at HL.out.1 (by omega)
        have hF := lst_keep encF_len HL.out.1 HO.out.2
        obtain ⟨q0, q1, q2⟩ := fund_cells hF hkl
        have hxk := HL.out.2.1 l[k] (List.getElem_mem hkl)
        have hget := List.getElem?_eq_getElem hkl
        generalize l[k] = x at *
        obtain ⟨nm, pr, lm⟩ := x
        have HX := Lib.hid (And.intro hget (And.intro (okTo_succ l hget) (okAt_iff l k ⟨nm, pr, lm⟩)))
        simp only at q0 q1 q2
        have HXk := Lib.hid hxk
        obtain ⟨W, hW⟩ : ∃ W : World, W = wr.alloc (.cells #[.string nm, .int .i64 pr, .int .i64 lm] 40) := ⟨_, rfl⟩
        have hbW : Below wr.heap.size wr W := by rw [hW]; exact below_alloc _ _
        obtain ⟨c0, c1, c2⟩ := boxed_fund wr nm pr lm
        rw [← hW] at c0 c1 c2
        have k0 : ∀ d os, (grow (redrawn W d) os).cell? ⟨wr.heap.size, 0, none⟩ = some (.string nm) := fun d os => cell_regrown c0 d os
        have k1 : ∀ d os, (grow (redrawn W d) os).cell? ⟨wr.heap.size, 1, none⟩ = some (.int .i64 pr) := fun d os => cell_regrown c1 d os
        have k2 : ∀ d os, (grow (redrawn W d) os).cell? ⟨wr.heap.size, 2, none⟩ = some (.int .i64 lm) := fun d os => cell_regrown c2 d os
        have i0 : (0 : Int) ≤ (k : Int) := by omega
        have i1 : (k : Int) ≤ (c : Int) := by omega
        have HTk : Hid (Funds W (some ⟨b, o, none⟩) k c (l.take k)) := Lib.hid (lst_take (lst_keep encF_len hF hbW) k (by omega))
        have HW := Lib.hid hW
        have HBW := Lib.hid (below_keep HO.out.2 hbW)
        clear hget hF hxk hW hbW c0 c1 c2
        by_cases hbad : bad1 k ⟨nm, pr, lm⟩
        · have HBad := Lib.hid (show goodB l = false from good_false (okTo_false hkl HX.out.1 (ok_bad hbad)))
          have cM := fun d os => Calls.regrown_of (w := W) (d := d) (os := os) (maylie_no nm pr lm HXk.out.1 k _ hbad)
          clear hbad
          go_wp2_with fail
          rw [← HW.out]
          refine wp_region_quiet_below (by kernel_rfl) (by kernel_rfl) ?_
          repeat (go_big_quiet_step (first | (with_reducible exact cM _ _)))
          refine wpQuiet_nil ?_
          intro _ hw'
          obtain ⟨⟨dq, osq⟩, hw''⟩ := hw'
          subst hw''
          go_wp2_with fail
          go_ret
          exact ⟨by rw [HBad.out]; rfl, below_keep HBW.out (below_regrown W dq osq)⟩
        · have cM := fun d os => Calls.regrown_of (w := W) (d := d) (os := os) (maylie_yes nm pr lm HXk.out.1 k _ hbad)
          have HNb := Lib.hid hbad
          clear hbad
          by_cases hnm : ∃ y ∈ l.take k, y.name = nm
          · have HBad := Lib.hid (show goodB l = false from good_false (okTo_false hkl HX.out.1 (ok_named hnm)))
            have cN := fun d os => Calls.regrown_of (w := W) (d := d) (os := os) (named_is _ k c (l.take k) (lst_keep encF_len HTk.out (below_regrown W d os)) nm true ⟨fun _ => hnm, fun _ => rfl⟩)
            clear hnm
            go_wp2_with fail
            rw [← HW.out]
            refine wp_region_quiet_below (by kernel_rfl) (by kernel_rfl) ?_
            repeat (go_big_quiet_step (first | (with_reducible exact cM _ _) | (with_reducible exact cN _ _)))
            refine wpQuiet_nil ?_
            intro _ hw'
            obtain ⟨⟨dq, osq⟩, hw''⟩ := hw'
            subst hw''
            go_wp2_with fail
            go_ret
            exact ⟨by rw [HBad.out]; rfl, below_keep HBW.out (below_regrown W dq osq)⟩
          · have HNo := Lib.hid hnm
            have cN := fun d os => Calls.regrown_of (w := W) (d := d) (os := os) (named_is _ k c (l.take k) (lst_keep encF_len HTk.out (below_regrown W d os)) nm false ⟨fun h => absurd h Bool.false_ne_true, fun h => absurd h hnm⟩)
            have HK := Lib.hid (show okTo l (k + 1) = true by
              rw [HX.out.2.1, HO.out.1, Bool.true_and]
              exact HX.out.2.2.2 ⟨HNb.out, fun y hy e => HNo.out ⟨y, hy, e⟩⟩)
            clear hnm
            go_wp2_with fail
            rw [← HW.out]
            refine wp_region_quiet_below (by kernel_rfl) (by kernel_rfl) ?_
            repeat (go_big_quiet_step (first | (with_reducible exact cM _ _) | (with_reducible exact cN _ _)))
            refine wpQuiet_nil ?_
            intro _ hw'
            obtain ⟨⟨dq, osq⟩, hw''⟩ := hw'
            subst hw''
            go_wp2_with fail
            go_roundw
            case rel => exact ⟨k + 1, by omega, by go_num, HK.out, below_keep HBW.out (below_regrown W dq osq)⟩
            case measure => simp [intOf]; omega
      · obtain rfl : k = n := by omega
        have HG := Lib.hid (show goodB l = true by unfold goodB; rw [HL.out.2.2, HO.out.1, Bool.and_true]; exact decide_eq_true h8)
        go_wp2_with fail
        go_ret
        exact ⟨by rw [HG.out]; rfl, HO.out.2⟩
  · have h8i : (8 : Int) < (n : Int) := by omega
    have HG := Lib.hid (show goodB l = false by unfold goodB; rw [HL.out.2.2, decide_eq_false h8]; rfl)
    go_enter Try.func9, Try.ntmps9
    go_wp2_with fail
    go_ret
    exact ⟨by rw [HG.out]; rfl, Below.refl _ _⟩
end Go.Proofs.Ytpciijihedlheaa.Tre
