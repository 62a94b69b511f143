/- Plane: what the laws share: boxes as arguments; the fixed fact. -/
import Derived.Test.YtahkhkfmpnoneaaPlaRefA
import Derived.Test.YtahkhkfmpnoneaaOpens
namespace Go.Proofs.Ytahkhkfmpnoneaa.Pla
open Go.RowKit
open Go.Sort

theorem wide_of {n : Int} (h : (Lit.int .i64 n).wf = true) : Wide n := by
  simp [Lit.wf, IntKind.min, IntKind.max, IntKind.signed, IntKind.bits] at h
  unfold Wide; omega

def RBox (cs : List Value) (x : Bx) : Prop := cs = [.int .i64 x.t, .int .i64 x.n, .int .i64 x.l, .int .i64 x.m] ∧ x.wide ∧ (Lit.int .i64 x.t).wf = true ∧ (Lit.int .i64 x.n).wf = true ∧ (Lit.int .i64 x.l).wf = true ∧ (Lit.int .i64 x.m).wf = true
theorem cells_box : Try.prog.cellsOf 23 = 4 := by kernel_rfl
theorem cells_int : Try.prog.cellsOf 3 = 1 := by kernel_rfl
theorem opens_box {w : World} : Opn.Opens Try.prog w 23 RBox := by
  refine Opn.opens_struct Try.underlying23 fun cs hlen hf => ?_
  rw [cells_box] at hlen
  match cs, hlen with
  | [c0, c1, c2, c3], _ =>
    obtain ⟨t, h0, w0⟩ := hf 0 _ rfl _ _ (Opn.opens_int Try.underlying3)
    obtain ⟨n, h1, w1⟩ := hf 1 _ rfl _ _ (Opn.opens_int Try.underlying3)
    obtain ⟨l, h2, w2⟩ := hf 2 _ rfl _ _ (Opn.opens_int Try.underlying3)
    obtain ⟨m, h3, w3⟩ := hf 3 _ rfl _ _ (Opn.opens_int Try.underlying3)
    simp [cells_int] at h0 h1 h2 h3
    subst h0 h1 h2 h3
    exact ⟨⟨t, n, l, m⟩, rfl, ⟨wide_of w0, wide_of w1, wide_of w2, wide_of w3⟩, w0, w1, w2, w3⟩
theorem opens_boxes {w : World} : Opn.Opens Try.prog w 28 (Opn.RSlice RBox 4 w) := Opn.opens_slice Try.underlying28 cells_box (by omega) opens_box

theorem arr_of {c : Array Value} {l : List Value} (h : c.toList = l) : c = l.toArray := by cases c; simp at h; rw [h]

end Go.Proofs.Ytahkhkfmpnoneaa.Pla
