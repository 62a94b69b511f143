/- Tree: the document's Good, as it runs. -/
import Derived.Test.YtpciijihedlheaaTreRef
import Derived.Test.YtpciijihedlheaaArrs
namespace Go.Proofs.Ytpciijihedlheaa.Tre
set_option maxRecDepth 100000
open Go.RowKit
open Go.Sort
open Kit
open Mon
set_option linter.unusedVariables false
variable {w w' : World}

theorem name_ne {a b : ByteArray} (h : a ≠ b) : (a.toList == b.toList) = false :=
  beq_false_of_ne (fun e => h (by
    rw [ByteArray.toList_eq, ByteArray.toList_eq] at e
    exact ByteArray.ext (Array.toList_inj.1 e)))
/-- What is wrong with a fund by itself. -/
def bad1 (i : Nat) (x : Fd) : Prop := x.name.size < 1 ∨ (16 < x.name.size) ∨ x.par < -1 ∨ (i : Int) ≤ x.par ∨ x.lim < 0 ∨ 1152921504606846976 < x.lim
theorem okAt_iff (l : List Fd) (i : Nat) (x : Fd) : okAt l i x = true ↔ ¬ bad1 i x ∧ ∀ y ∈ l.take i, y.name ≠ x.name := by
  unfold okAt bad1
  simp only [Bool.and_eq_true, decide_eq_true_eq, List.all_eq_true]
  constructor
  · rintro ⟨⟨⟨⟨⟨⟨h1, h2⟩, h3⟩, h4⟩, h5⟩, h6⟩, h7⟩
    exact ⟨by omega, h7⟩
  · rintro ⟨h, h7⟩
    exact ⟨⟨⟨⟨⟨⟨by omega, by omega⟩, by omega⟩, by omega⟩, by omega⟩, by omega⟩, h7⟩
theorem okTo_false {l : List Fd} {i n : Nat} {x : Fd} (hi : i < n) (hx : l[i]? = some x) (h : okAt l i x = false) : okTo l n = false := by
  cases hc : okTo l n with
  | false => rfl
  | true => rw [okTo_at hc hi hx] at h; cases h
theorem good_false {l : List Fd} (h : okTo l l.length = false) : goodB l = false := by unfold goodB; rw [h, Bool.and_false]

set_option maxHeartbeats 8000000 in
theorem rgood_any (l : List Fd) (hok : ∀ x ∈ l, x.ok) (a : Option Addr) (n c : Nat) (w : World) (h : Funds w a n c l) (hn : n ≤ 100) :
    Calls Try.prog 10 #[.slice a n c] w fun e w' => e = .returned (.bool (goodB l)) ∧ Below w.heap.size w w' := by
  have HL := Lib.hid (And.intro h (And.intro hok h.len))
  clear h hok
  go_enter Try.func10, Try.ntmps10
  go_wp2_with fail
  go_loopw [3] (fun i wr => ∃ k : Nat, k ≤ n ∧ i = .int .i64 (k : Nat) ∧ okTo l k = true ∧ Below w.heap.size w wr) (fun i _ => n - (intOf i).toNat)
  case atStart => exact ⟨0, Nat.zero_le _, rfl, rfl, Below.refl _ _⟩
  case round =>
    obtain ⟨k, hk, rfl, hto, hb⟩ := hrel
    have HO := Lib.hid (And.intro hto hb)
    clear hto hb
    by_cases hlt : k < n
    · have hkl : k < l.length := by rw [HL.out.2.2]; exact hlt
      obtain ⟨b, o, rfl⟩ := lst_at HL.out.1 (by omega)
      have hF := lst_keep encF_len HL.out.1 HO.out.2
      obtain ⟨q0, q1, q2⟩ := fund_cells hF hkl
      have hxk := HL.out.2.1 l[k] (List.getElem_mem hkl)
      have hget := List.getElem?_eq_getElem hkl
      generalize l[k] = x at *
      obtain ⟨nm, pr, lm⟩ := x
      simp only at q0 q1 q2
      obtain ⟨hs1, ⟨hp1, hp2⟩, hl1, hl2⟩ := hxk
      simp only at hs1 hp1 hp2 hl1 hl2
      have hs2 : nm.size ≤ 9223372036854775807 := by unfold maxLen at hs1; omega
      have HX := Lib.hid (And.intro hget (And.intro (okTo_succ l hget) (okAt_iff l k ⟨nm, pr, lm⟩)))
      clear hget hF
      by_cases hbad : bad1 k ⟨nm, pr, lm⟩
      · have HBad := Lib.hid (show goodB l = false from good_false (okTo_false hkl HX.out.1 (by
          cases hc : okAt l k ⟨nm, pr, lm⟩ with
          | false => rfl
          | true => exact absurd hbad (HX.out.2.2.1 hc).1)))
        have hor : ((nm.size : Int) < 1) ∨ (¬ (nm.size : Int) < 1 ∧ (16 : Int) < nm.size) ∨ (¬ (nm.size : Int) < 1 ∧ ¬ (16 : Int) < nm.size ∧ pr < -1) ∨ (¬ (nm.size : Int) < 1 ∧ ¬ (16 : Int) < nm.size ∧ ¬ pr < -1 ∧ (k : Int) - 1 < pr) ∨ (¬ (nm.size : Int) < 1 ∧ ¬ (16 : Int) < nm.size ∧ ¬ pr < -1 ∧ ¬ (k : Int) - 1 < pr ∧ lm < 0) ∨ (¬ (nm.size : Int) < 1 ∧ ¬ (16 : Int) < nm.size ∧ ¬ pr < -1 ∧ ¬ (k : Int) - 1 < pr ∧ ¬ lm < 0 ∧ 1152921504606846976 < lm) := by
          unfold bad1 at hbad
          simp only at hbad
          omega
        clear hbad
        rcases hor with h1 | ⟨h1, h2⟩ | ⟨h1, h2, h3⟩ | ⟨h1, h2, h3, h4⟩ | ⟨h1, h2, h3, h4, h5⟩ | ⟨h1, h2, h3, h4, h5, h6⟩
        all_goals
          go_wp2_with fail
          go_ret
          exact ⟨by rw [HBad.out]; rfl, below_keep HO.out.2 (below_alloc _ _)⟩
      · have hg1 : ¬ (nm.size : Int) < 1 ∧ ¬ (16 : Int) < nm.size ∧ ¬ pr < -1 ∧ ¬ (k : Int) - 1 < pr ∧ ¬ lm < 0 ∧ ¬ 1152921504606846976 < lm := by
          unfold bad1 at hbad
          simp only at hbad
          omega
        obtain ⟨g1, g2, g3, g4, g5, g6⟩ := hg1
        have HNb := Lib.hid hbad
        clear hbad
        go_upto_region 5 with fail
        obtain ⟨w2, hw2⟩ : ∃ x, x = wr.alloc (.cells #[.string nm, .int .i64 pr, .int .i64 lm] 40) := ⟨_, rfl⟩
        rw [← hw2]
        have hb2 : Below wr.heap.size wr w2 := by rw [hw2]; exact below_alloc _ _
        have hblk : Arr.Blk w2 wr.heap.size 40 [.string nm, .int .i64 pr, .int .i64 lm] := by rw [hw2]; exact Arr.blk_new wr _ _ [.string nm, .int .i64 pr, .int .i64 lm] rfl
        have r0 := Arr.blk_cell hblk 0
        have r1 := Arr.blk_cell hblk 1
        have r2 := Arr.blk_cell hblk 2
        simp only [List.getElem?_cons_zero, List.getElem?_cons_succ] at r0 r1 r2
        have H2 := Lib.hid (And.intro hb2 (And.intro r0 (lst_keep encF_len HL.out.1 (below_keep HO.out.2 hb2))))
        clear hw2 hb2 hblk q0 q1 q2
        go_wp2_with fail
        go_loopw [5] (fun i wz => ∃ j : Nat, j ≤ k ∧ i = .int .i64 (j : Nat) ∧ (∀ y ∈ l.take j, y.name ≠ nm) ∧ Below w2.heap.size w2 wz) (fun i _ => k - (intOf i).toNat)
        case atStart => exact ⟨0, Nat.zero_le _, rfl, (fun y hy => by simp at hy), Below.refl _ _⟩
        case round =>
          obtain ⟨j, hj, rfl, hall, hbz⟩ := hrel
          have HI := Lib.hid (And.intro hall hbz)
          clear hall hbz r0 r1 r2
          by_cases hlt2 : j < k
          · have hjl : j < l.length := by omega
            obtain ⟨p0, _, _⟩ := fund_cells (lst_keep encF_len H2.out.2.2 HI.out.2) hjl
            have r0 := cell_keep HI.out.2 H2.out.2.1
            have hgj := List.getElem?_eq_getElem hjl
            have HTk := Lib.hid (List.take_succ_eq_append_getElem hjl)
            generalize l[j] = y at *
            obtain ⟨ym, yp, yl⟩ := y
            simp only at p0
            by_cases he : ym = nm
            · have HBad := Lib.hid (show goodB l = false from good_false (okTo_false hkl HX.out.1 (by
                cases hc : okAt l k ⟨nm, pr, lm⟩ with
                | false => rfl
                | true => exact absurd he ((HX.out.2.2.1 hc).2 ⟨ym, yp, yl⟩ (List.mem_iff_getElem?.2 ⟨j, by rw [List.getElem?_take_of_lt hlt2, hgj]⟩)))))
              have he2 : (ym.toList == nm.toList) = true := by rw [he]; exact beq_self_eq_true _
              clear he
              go_wp2_with fail
              go_quiet (fail)
              go_wp2_with fail
              go_ret
              exact ⟨by rw [HBad.out]; rfl, below_keep (below_keep HO.out.2 H2.out.1) (below_keep HI.out.2 (below_drewN' _ _))⟩
            · have hne2 : (ym.toList == nm.toList) = false := name_ne he
              have HNe := Lib.hid he
              clear he
              have HE2 := Lib.hid (show ∀ z ∈ l.take (j + 1), z.name ≠ nm by
                intro z hz
                rw [HTk.out, List.mem_append, List.mem_singleton] at hz
                rcases hz with hz | rfl
                · exact HI.out.1 z hz
                · exact HNe.out)
              go_wp2_with fail
              go_quiet (fail)
              go_wp2_with fail
              go_roundw
              case rel => exact ⟨j + 1, by omega, by go_num, HE2.out, below_keep HI.out.2 (below_drewN' _ _)⟩
              case measure => simp [intOf]; omega
          · obtain rfl : j = k := by omega
            have hokk : okTo l (j + 1) = true := by
              rw [HX.out.2.1, HO.out.1, Bool.true_and]
              exact HX.out.2.2.2 ⟨HNb.out, HI.out.1⟩
            have HK := Lib.hid (And.intro hokk (below_keep (below_keep HO.out.2 H2.out.1) HI.out.2))
            clear hokk
            go_wp2_with fail
            go_roundw
            case rel => exact ⟨j + 1, by omega, by go_num, HK.out.1, HK.out.2⟩
            case measure => simp [intOf]; omega
    · obtain rfl : k = n := by omega
      have HG := Lib.hid (show goodB l = decide (k ≤ 8) by unfold goodB; rw [HL.out.2.2, HO.out.1, Bool.and_true])
      by_cases h8 : k ≤ 8
      · have h8i : (k : Int) ≤ 8 := by omega
        have HD := Lib.hid (decide_eq_true h8)
        go_wp2_with fail
        go_ret
        exact ⟨by rw [HG.out, HD.out]; first | rfl | exact ret_bool (decide_eq_true h8i), HO.out.2⟩
      · have h8i : ¬ (k : Int) ≤ 8 := by omega
        have HD := Lib.hid (decide_eq_false h8)
        go_wp2_with fail
        go_ret
        exact ⟨by rw [HG.out, HD.out]; first | rfl | exact ret_bool (decide_eq_false h8i), HO.out.2⟩
end Go.Proofs.Ytpciijihedlheaa.Tre
