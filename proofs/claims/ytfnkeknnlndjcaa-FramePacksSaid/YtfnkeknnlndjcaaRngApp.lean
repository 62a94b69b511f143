/- The body of a range over a function that appends bytes to a list of the caller's own, which lies in a box. -/
import Derived.Test.YtfnkeknnlndjcaaRngIn
import Derived.Test.YtfnkeknnlndjcaaOctMade
namespace Go.Proofs.Ytfnkeknnlndjcaa.Rng
open Go.RowKit
open Kit
open Oct
set_option linter.unusedVariables false

abbrev tB : TypeId := 22
/-- While a round runs: the box B holds v, the list f is u; other bytes in memory, other boxes. -/
structure Mid (w0 : World) (base B : Nat) (rows : List (Option Addr × List UInt8)) (boxes : List (Nat × TypeId × Value)) (f : List UInt8) (W : World) (v u : Value) : Prop where
  box : Boxed W B tB v
  own : OwnB W base u f
  vnot : ∀ i : Int, v ≠ .int .u8 i
  far : ∀ r ∈ rows, ∀ q, r.1 = some q → u.ownBlock ≠ some q.block ∧ q.block < W.heap.size
  row : ∀ r ∈ rows, RowB W r.1 r.2
  bx : ∀ b ∈ boxes, b.1 ≠ B ∧ b.2.1 ≠ 5 ∧ Boxed W b.1 b.2.1 b.2.2
  low : base ≤ B ∧ base ≤ w0.heap.size
  bel : Below base w0 W
def Inv9 (w0 : World) (base B : Nat) (rows : List (Option Addr × List UInt8)) (boxes : List (Nat × TypeId × Value)) (f : List UInt8) (W : World) : Prop := ∃ v, Mid w0 base B rows boxes f W v v

theorem own_not_int {W : World} {base : Nat} {u : Value} {f : List UInt8} (h : OwnB W base u f) (i : Int) : u ≠ .int .u8 i := by
  obtain ⟨a, c, rfl, _⟩ := own_row h
  intro e; cases e
/-- A block with a byte in it is no box of something else. -/
theorem row_ne_box {W : World} {B : Nat} {t : TypeId} {v : Value} {a : Option Addr} {l : List UInt8} (hb : Boxed W B t v) (hv : ∀ i : Int, v ≠ .int .u8 i) (h : RowB W a l) (hl : l ≠ []) : ∀ q, a = some q → q.block ≠ B := by
  intro q hq e
  rcases h with h | ⟨b, off, h1, h2⟩
  · exact hl h
  · rw [h1] at hq
    injection hq with hq
    subst hq
    have hpos : 0 < l.length := by cases l with | nil => exact absurd rfl hl | cons x l => simp
    have h3 := h2 0 hpos 0 (by omega)
    simp only at e
    subst e
    rw [Nat.zero_mul, Nat.add_zero] at h3
    have hB : W.heap[b]? = some (.cells #[v] t (0, 0)) := hb
    unfold World.cell? at h3
    simp only [hB] at h3
    simp only [encB, List.getElem?_cons_zero] at h3
    cases off with
    | zero => simp at h3; exact hv _ h3
    | succ o => simp at h3
theorem row_grown {W W' : World} {row : Option Nat} {a : Option Addr} {l : List UInt8} (h : RowB W a l) (hg : W.grownBy W' row) (hrow : ∀ r, row = some r → ∃ o : Obj, W.heap[r]? = some o ∧ o.isCells = false) : RowB W' a l := by
  by_cases hl : l = []
  · exact .inl hl
  · refine row_far h hg fun q hq e => ?_
    obtain ⟨o, ho, hc⟩ := hrow q.block e.symm
    rcases h with h | ⟨b, off, h1, h2⟩
    · exact hl h
    · rw [h1] at hq
      injection hq with hq
      subst hq
      have hpos : 0 < l.length := by cases l with | nil => exact absurd rfl hl | cons x l => simp
      have h3 := h2 0 hpos 0 (by omega)
      simp only [encB, List.getElem?_cons_zero] at h3
      obtain ⟨o', ho', hc'⟩ := cells_of_cell h3
      simp only at ho ho'
      rw [ho] at ho'
      injection ho' with ho'
      subst ho'
      rw [hc] at hc'; cases hc'

variable {w0 W W' : World} {base B : Nat} {rows : List (Option Addr × List UInt8)} {boxes : List (Nat × TypeId × Value)} {f k : List UInt8} {v u u' : Value}
theorem own_cells (h : OwnB W base u f) : ∀ (j : Nat) (o : Obj), u.ownBlock = some j → W.heap[j]? = some o → o.isCells = true := by
  intro j o hj ho
  rcases h.2 with ⟨rfl, _⟩ | ⟨g, cap, cur, rfl, _, hgb, _⟩
  · simp [Value.ownBlock] at hj
  · obtain rfl : g = j := by simpa [Value.ownBlock] using hj
    rw [hgb] at ho; cases ho; rfl
theorem ne_u8 : tB ≠ 5 := by decide
/-- Bytes appended. -/
theorem mid_append (h : Mid w0 base B rows boxes f W v u) (ho : OwnB W' base u' k) (hg : W.grownBy W' u.ownBlock) (hu : u'.ownBlock = u.ownBlock ∨ u'.ownBlock = some W.heap.size) : Mid w0 base B rows boxes k W' v u' := by
  obtain ⟨h1, h2, h3, h4, h5, h6, h7, h8⟩ := h
  have hb : base ≤ W.heap.size := Nat.le_trans h7.2 h8.size
  refine ⟨h1.kept hg (h1.not_row ne_u8 h2), ho, h3, fun r hr q hq => ?_, fun r hr => row_far (h5 r hr) hg fun q hq e => (h4 r hr q hq).1 e.symm, fun b hb => ⟨(h6 b hb).1, (h6 b hb).2.1, (h6 b hb).2.2.kept hg ((h6 b hb).2.2.not_row (h6 b hb).2.1 h2)⟩, h7, h8.trans (Two.below_grown h2 hg hb)⟩
  have h9 := h4 r hr q hq
  refine ⟨?_, Nat.lt_of_lt_of_le h9.2 hg.size⟩
  rcases hu with hu | hu
  · rw [hu]; exact h9.1
  · rw [hu]; intro e; injection e with e; omega
theorem keeps_append (h : OwnB W base u f) (hg : W.grownBy W' u.ownBlock) : KeepsOthers W W' := KeepsOthers.of_grownBy hg fun j o e ho => own_cells h j o e ho
/-- The box is stored. -/
theorem mid_store (h : Mid w0 base B rows boxes f W v u) : Mid w0 base B rows boxes f (W.setCell ⟨B, 0, none⟩ u) u u := by
  obtain ⟨h1, h2, h3, h4, h5, h6, h7, h8⟩ := h
  have hg := grownBy_setCell' W B u
  refine ⟨h1.set u, World.ownsRow.kept h2 hg (.inr fun e => h1.not_row ne_u8 h2 e.symm), own_not_int h2, fun r hr q hq => ⟨(h4 r hr q hq).1, Nat.lt_of_lt_of_le (h4 r hr q hq).2 hg.size⟩, fun r hr => ?_, fun b hb => ⟨(h6 b hb).1, (h6 b hb).2.1, (h6 b hb).2.2.kept hg (fun e => (h6 b hb).1 (by injection e))⟩, h7, ?_⟩
  · by_cases hl : r.2 = []
    · rw [hl]; exact .inl rfl
    · exact row_far (h5 r hr) hg fun q hq e => row_ne_box h1 h3 (h5 r hr) hl q hq (by injection e)
  · exact h8.trans (grown_below hg (Nat.le_trans h7.2 h8.size) h7.1)
/-- What is no cells is turned. -/
theorem inv_from (w0 : World) (base B D : Nat) (rows : List (Option Addr × List UInt8)) (boxes : List (Nat × TypeId × Value)) {β : Type} (F : β → List UInt8) (hD : base ≤ D) : OwnFrom D (fun (s : β) W => Inv9 w0 base B rows boxes (F s) W) := by
  rintro s X Y row ⟨v, h1, h2, h3, h4, h5, h6, h7, h8⟩ hg hrow
  have hr : ∀ r, row = some r → ∃ o : Obj, X.heap[r]? = some o ∧ o.isCells = false := fun r e => (hrow r e).2
  have hbx : ∀ {b : Nat} {t : TypeId} {x : Value}, Boxed X b t x → Boxed Y b t x := fun {b t x} hb => hb.kept hg fun e => by
    obtain ⟨o, ho, hc⟩ := hr b e.symm
    rw [show X.heap[b]? = _ from hb] at ho; cases ho; cases hc
  refine ⟨v, hbx h1, World.ownsRow.kept h2 hg ?_, h3, fun r hr' q hq => ⟨(h4 r hr' q hq).1, Nat.lt_of_lt_of_le (h4 r hr' q hq).2 hg.size⟩, fun r hr' => row_grown (h5 r hr') hg hr, fun b hb => ⟨(h6 b hb).1, (h6 b hb).2.1, hbx (h6 b hb).2.2⟩, h7, h8.grown hg (Nat.le_trans h7.2 h8.size) fun k e => Nat.le_trans hD (hrow k e).1⟩
  rcases h2.2 with ⟨rfl, _⟩ | ⟨g, cap, cur, rfl, _, hgb, _⟩
  · exact .inl rfl
  · refine .inr fun e' => ?_
    obtain ⟨o, ho, hc⟩ := hr g (by simpa [Value.ownBlock] using e'.symm)
    rw [hgb] at ho; cases ho; cases hc
theorem inv_put (h : Inv9 w0 base B rows boxes f W) {l : Nat} {o : Obj} (o' : Obj) (hl : W.heap[l]? = some o) (ho : o.isCells = false) (hD : base ≤ l) : Inv9 w0 base B rows boxes f (W.putObj l o') :=
  inv_from w0 base B base rows boxes (fun _ : Unit => f) (Nat.le_refl _) () W _ (some l) h (grownBy_putObj' W l o') fun r e => by cases e; exact ⟨hD, o, hl, ho⟩
theorem inv_drew (h : Inv9 w0 base B rows boxes f W) : Inv9 w0 base B rows boxes f W.drew := by
  obtain ⟨v, h1, h2, h3, h4, h5, h6, h7, h8⟩ := h
  exact ⟨v, h1, h2, h3, h4, h5, h6, h7, h8.drew⟩
theorem run_ld_sl {a : Option Addr} {n c b : Nat} (h : W.cell? ⟨b, 0, none⟩ = some (.slice a n c)) : (Instr.loadAt tB (.pointer (some ⟨b, 0, none⟩))).run Try.prog W = .ok (.slice a n c) W := by
  simp [go_sem, h]
theorem run_st_sl {a : Option Addr} {n c b : Nat} {x : Value} (h : W.cell? ⟨b, 0, none⟩ = some x) (hf : W.frozen? ⟨b, 0, none⟩ = false) : (Instr.storeAt tB (.pointer (some ⟨b, 0, none⟩)) (.slice a n c)).run Try.prog W = .ok () (W.setCell ⟨b, 0, none⟩ (.slice a n c)) := by
  simp [go_sem, h, hf]
/-- 'append' to the list, as it runs. -/
theorem mid_run (h : Mid w0 base B rows boxes f W v u) (ty : TypeId) {ad : Option Addr} {m c : Nat} {k : List UInt8} (hk : k.length = m) (hrow : RowB W ad k) (hn : ad = none → m = 0 ∧ c = 0) (hm : f.length + m ≤ 1000000) :
    ∃ u' W', (Builtin.append_ #[tB, tB] ty #[u, .slice ad m c]).run Try.prog W = .ok u' W' ∧ Mid w0 base B rows boxes (f ++ k) W' v u' ∧ KeepsOthers W W' ∧ W.grownBy W' u.ownBlock := by
  obtain ⟨u', W', hr, h1, h2, h3⟩ := Two.run_append_apart (P := Try.prog) encB_len (by decide) encB_one tB ty 5 Try.underlying22 (.int .u8 0) 1 info8 rfl base u f h.own ad m c k hk hrow hn (by unfold maxLen; omega) (by omega) (Nat.le_trans h.low.2 h.bel.size)
  exact ⟨u', W', hr, mid_append h h1 h2 h3, keeps_append h.own h2, h2⟩
end Go.Proofs.Ytfnkeknnlndjcaa.Rng
