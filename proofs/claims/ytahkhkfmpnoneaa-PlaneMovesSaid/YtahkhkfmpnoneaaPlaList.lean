/- Plane: lists of boxes: meetsAny. -/
import Derived.Test.YtahkhkfmpnoneaaPlaMeets
namespace Go.Proofs.Ytahkhkfmpnoneaa.Pla
open Go.RowKit
open Go.Sort

/-- A box, as numbers. -/
structure Bx where
  t : Int
  n : Int
  l : Int
  m : Int

def Bx.zero : Bx := ⟨0, 0, 0, 0⟩
def Bx.wide (x : Bx) : Prop := Wide x.t ∧ Wide x.n ∧ Wide x.l ∧ Wide x.m
def Bx.good (x : Bx) : Bool := goodB x.t x.n x.l x.m
def Bx.meets (x y : Bx) : Bool := meetsB x.t x.n x.l x.m y.t y.n y.l y.m

/-- The boxes of a slice can be read. -/
def Boxes (w : World) (a : Option Addr) (l : List Bx) : Prop :=
  l = [] ∨ ∃ b off, a = some ⟨b, off, none⟩ ∧ ∀ j (h : j < l.length), w.cell? ⟨b, off + j * 4, none⟩ = some (.int .i64 l[j].t) ∧ w.cell? ⟨b, off + j * 4 + 1, none⟩ = some (.int .i64 l[j].n) ∧ w.cell? ⟨b, off + j * 4 + 2, none⟩ = some (.int .i64 l[j].l) ∧ w.cell? ⟨b, off + j * 4 + 3, none⟩ = some (.int .i64 l[j].m)

theorem boxes_lt {w : World} {a : Option Addr} {l : List Bx} (h : Boxes w a l) : l = [] ∨ ∃ b off, a = some ⟨b, off, none⟩ ∧ b < w.heap.size ∧ ∀ j (h : j < l.length), w.cell? ⟨b, off + j * 4, none⟩ = some (.int .i64 l[j].t) ∧ w.cell? ⟨b, off + j * 4 + 1, none⟩ = some (.int .i64 l[j].n) ∧ w.cell? ⟨b, off + j * 4 + 2, none⟩ = some (.int .i64 l[j].l) ∧ w.cell? ⟨b, off + j * 4 + 3, none⟩ = some (.int .i64 l[j].m) := by
  rcases h with h | ⟨b, off, h1, h2⟩
  · exact .inl h
  · by_cases hl : l = []
    · exact .inl hl
    · exact .inr ⟨b, off, h1, World.block_lt_of_cell? w _ (h2 0 (List.length_pos_iff.2 hl)).1, h2⟩

theorem boxes_below {w w' : World} {a : Option Addr} {l : List Bx} (h : Boxes w a l) (hb : Below w.heap.size w w') : Boxes w' a l := by
  rcases h with h | ⟨b, off, h1, h2⟩
  · exact .inl h
  · exact .inr ⟨b, off, h1, fun j hj => ⟨cell_keep hb (h2 j hj).1, cell_keep hb (h2 j hj).2.1, cell_keep hb (h2 j hj).2.2.1, cell_keep hb (h2 j hj).2.2.2⟩⟩

theorem boxes_at {w : World} {a : Option Addr} {l : List Bx} (h : Boxes w a l) {k : Nat} (hk : k < l.length) : ∃ b off, Hid (a = some ⟨b, off, none⟩) ∧ b < w.heap.size ∧ w.cell? ⟨b, off + k * 4, none⟩ = some (.int .i64 l[k].t) ∧ w.cell? ⟨b, off + k * 4 + 1, none⟩ = some (.int .i64 l[k].n) ∧ w.cell? ⟨b, off + k * 4 + 2, none⟩ = some (.int .i64 l[k].l) ∧ w.cell? ⟨b, off + k * 4 + 3, none⟩ = some (.int .i64 l[k].m) := by
  rcases boxes_lt h with h | ⟨b, off, h1, h2, h3⟩
  · subst h; simp at hk
  · exact ⟨b, off, h1, h2, h3 k hk⟩

theorem any_snoc (f : Bx → Bool) (l : List Bx) (k : Nat) (h : k < l.length) : (l.take (k + 1)).any f = ((l.take k).any f || f l[k]) := by
  rw [List.take_succ_eq_append_getElem h, List.any_append]; simp

set_option maxHeartbeats 1000000 in
theorem meetsAny_any (x : Bx) (a : Option Addr) (len cap : Nat) (L : List Bx) (w : World) (hx : x.wide) (hw : ∀ y ∈ L, y.wide) (hl : L.length = len) (hm : len ≤ maxLen) (hE : Boxes w a L) :
    Calls Try.prog 26 #[.agg #[.int .i64 x.t, .int .i64 x.n, .int .i64 x.l, .int .i64 x.m], .slice a len cap] w fun e w' => e = .returned (.bool (L.any fun y => y.meets x)) ∧ Below w.heap.size w w' := by
  unfold maxLen at hm
  obtain ⟨t, n, l, m⟩ := x
  have HL := Lib.hid hl
  have HE := Lib.hid hE
  clear hl hE
  go_enter Try.func26, Try.ntmps26
  go_wp2
  go_loopw [9] (fun i wr => ∃ k : Nat, k ≤ len ∧ i = .int .i64 k ∧ (L.take k).any (fun y => y.meets ⟨t, n, l, m⟩) = false ∧ Below w.heap.size w wr ∧ wr.cell? ⟨w.heap.size, 0, none⟩ = some (.int .i64 t) ∧ wr.cell? ⟨w.heap.size, 1, none⟩ = some (.int .i64 n) ∧ wr.cell? ⟨w.heap.size, 2, none⟩ = some (.int .i64 l) ∧ wr.cell? ⟨w.heap.size, 3, none⟩ = some (.int .i64 m)) (fun i _ => len - (intOf i).toNat)
  case atStart => exact ⟨0, Nat.zero_le _, rfl, rfl, (Below.refl _ _).alloc (Nat.le_refl _) _, by simp [go_sem], by simp [go_sem], by simp [go_sem], by simp [go_sem]⟩
  case round =>
    obtain ⟨k, hk, rfl, ha, hb, c0, c1, c2, c3⟩ := hrel
    by_cases hlt : k < len
    · have hkl : k < L.length := by rw [HL.out]; exact hlt
      obtain ⟨b, off, HA, hbl, d0, d1, d2, d3⟩ := boxes_at (boxes_below HE.out hb) hkl
      have ha' := HA.out
      subst ha'
      have hy := hw _ (List.getElem_mem hkl)
      have hsn := any_snoc (fun y => y.meets ⟨t, n, l, m⟩) L k hkl
      have hmem := List.getElem_mem hkl
      generalize hyy : L[k] = y at *
      obtain ⟨yt, yn, yl, ym⟩ := y
      have hc := fun W => meets_any yt yn yl ym t n l m W hy.1 hy.2.1 hy.2.2.1 hy.2.2.2 hx.1 hx.2.1 hx.2.2.1 hx.2.2.2
      cases h : meetsB yt yn yl ym t n l m with
      | false =>
        have HS : Hid ((L.take (k + 1)).any (fun y => y.meets ⟨t, n, l, m⟩) = false) := by
          rw [hsn, ha]; exact h
        rw [h] at hc
        have HB := Lib.hid hb
        have HC := Lib.hid hc
        have hwz : w.heap.size < wr.heap.size := World.block_lt_of_cell? wr _ c0
        clear hyy hmem hy hsn ha h hc hb
        go_wp2_with fail
        refine (HC.out _).mono ?_
        rintro e w1 ⟨rfl, hb⟩
        go_wp2_with fail
        have hb' : Below wr.heap.size wr w1 := ((Below.refl _ _).alloc (Nat.le_refl _) _).trans (hb.mono (by simp))
        go_roundw
        case rel => exact ⟨k + 1, by omega, by go_num, HS.out, below_keep HB.out hb', cell_keep hb' c0, cell_keep hb' c1, cell_keep hb' c2, cell_keep hb' c3⟩
        case measure => simp [intOf]; omega
      | true =>
        have HS : Hid (true = L.any (fun y => y.meets ⟨t, n, l, m⟩)) := by
          rw [eq_comm, List.any_eq_true]; exact ⟨_, hmem, h⟩
        rw [h] at hc
        have HB := Lib.hid hb
        have HC := Lib.hid hc
        have hwz : w.heap.size < wr.heap.size := World.block_lt_of_cell? wr _ c0
        clear hyy hmem hy hsn ha h hc hb
        go_wp2_with fail
        refine (HC.out _).mono ?_
        rintro e w1 ⟨rfl, hb⟩
        go_wp2_with fail
        go_ret
        exact ⟨ret_bool HS.out, below_keep HB.out (((Below.refl _ _).alloc (Nat.le_refl _) _).trans (hb.mono (by simp)))⟩
    · have HS : Hid (false = L.any (fun y => y.meets ⟨t, n, l, m⟩)) := by
        rw [List.take_of_length_le (by rw [HL.out]; omega)] at ha; exact ha.symm
      have HB := Lib.hid hb
      clear ha hb
      go_wp2
      go_ret
      exact ⟨ret_bool HS.out, HB.out⟩

end Go.Proofs.Ytahkhkfmpnoneaa.Pla
