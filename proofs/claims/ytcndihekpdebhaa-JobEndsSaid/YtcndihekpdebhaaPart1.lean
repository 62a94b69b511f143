/- Common to the claims of this seat, part 1: texts that were written one by one, laid behind one another. -/
import Derived.Deep.Slices
import Derived.ChangeArms
import Derived.ChangeOld
import Derived.Below
import Derived.Carry
import Derived.SizedLaws
import Derived.OwnWalk
import Derived.Laws.AppendOwn
import Derived.Laws.AppendOwnNone
import Derived.Laws.OwnMore
import Derived.Deep.RegionHeld
import Derived.Lib.QuietBelow
import Derived.Lib.Hide
import Derived.WalkKit
import Derived.Test.YtcndihekpdebhaaChecked
import Derived.BigFrame
import Derived.BigQuiet
import Derived.Deep.DeepCutAuto
import Derived.Deep.CutBlock
import Derived.WalkLawsBesides
import Derived.LoopTactic
import GoSem.Core.Float
import Derived.WalkSpells
import Derived.Deep.QuietTactic
import Derived.Deep.RegionHeld3
import Derived.Laws.FloatArith
import Derived.Laws.ComplexArith
import Derived.Outline
import Derived.Deep.DrawnRows
import Derived.Laws.BitsAllLaws
import Derived.Orders
import Derived.RegionTactic
import Derived.BigRegion
import Derived.Laws.Tables
import Derived.Laws.Rows
import Derived.Deep.MidRow
/- Arguments of any shape, opened to plain data: by the type, part by part. -/
namespace Go.Proofs.Ytcndihekpdebhaa.Opn
open Go.ChangeShapes Go.WideShapes Go.Deep Go.RowKit

/-- What is read of type t in world w is some plain datum that R tells of the cells. -/
def Opens (P : Program) (w : World) (t : TypeId) {α : Type} (R : List Value → α → Prop) : Prop :=
  ∀ (H : Type) (enc : TypeId × Value → H) (base : Nat) (spare : Nat → Bool) (held : Bool) (fuel : Nat) (cs : List Value) (x : DataW H × List MemPlace), DataW.trod enc P w base spare held fuel t cs = some x → ∃ a : α, R cs a

def RInt (k : IntKind) (cs : List Value) (n : Int) : Prop := cs = [.int k n] ∧ (Lit.int k n).wf = true
def RBool (cs : List Value) (b : Bool) : Prop := cs = [.bool b]
def RStr (cs : List Value) (s : ByteArray) : Prop := cs = [.string s] ∧ s.size ≤ maxLen

variable {P : Program} {w : World}
theorem opens_int {t : TypeId} {k : IntKind} (ht : P.underlying t = some (.int k)) : Opens P w t (RInt k) := by
  intro H enc base spare held fuel cs x h
  obtain ⟨n, h1, _, h2⟩ := DataW.trod_int ht h
  exact ⟨n, h1, h2⟩
theorem opens_bool {t : TypeId} (ht : P.underlying t = some .bool) : Opens P w t RBool := by
  intro H enc base spare held fuel cs x h
  obtain ⟨n, h1, _⟩ := DataW.trod_bool ht h
  exact ⟨n, h1⟩
theorem opens_str {t : TypeId} (ht : P.underlying t = some .string) : Opens P w t RStr := by
  intro H enc base spare held fuel cs x h
  obtain ⟨n, h1, _, h2⟩ := DataW.trod_string ht h
  exact ⟨n, h1, h2⟩
theorem Opens.mono {t : TypeId} {α β : Type} {R : List Value → α → Prop} {S : List Value → β → Prop} (h : Opens P w t R) (hs : ∀ cs a, R cs a → ∃ b, S cs b) : Opens P w t S := by
  intro H enc base spare held fuel cs x hx
  obtain ⟨a, ha⟩ := h H enc base spare held fuel cs x hx
  exact hs cs a ha

/-- A struct's cells, field by field. -/
theorem opens_struct {t : TypeId} {fs : Array Field} (ht : P.underlying t = some (.struct fs)) {α : Type} {R : List Value → α → Prop}
    (h : ∀ cs : List Value, cs.length = P.cellsOf t → (∀ (i : Nat) (f : Field), fs[i]? = some f → ∀ (β : Type) (S : List Value → β → Prop), Opens P w f.type S → ∃ b, S ((cs.drop f.offset).take (P.cellsOf f.type)) b) → ∃ a, R cs a) : Opens P w t R := by
  intro H enc base spare held fuel cs x hx
  obtain ⟨xs, n, _, _, hlen, hxl, hf⟩ := DataW.trod_struct ht hx
  refine h cs hlen fun i f hi β S hS => ?_
  have h1 := hf i f hi
  have hi' : i < fs.size := (Array.getElem?_eq_some_iff.1 hi).1
  rw [List.getElem?_eq_getElem (by omega)] at h1
  exact hS _ _ _ _ _ _ _ _ h1

/-- The elements of a list lie in memory. -/
def Cells {α : Type} (R : List Value → α → Prop) (size : Nat) (w : World) (a : Option Addr) (l : List α) : Prop :=
  l = [] ∨ ∃ b off, a = some ⟨b, off, none⟩ ∧ ∀ j (h : j < l.length), ∃ ecs : List Value, ecs.length = size ∧ R ecs l[j] ∧ ∀ i, i < size → w.cell? ⟨b, off + j * size + i, none⟩ = ecs[i]?

/-- A slice: nil, or it leads to its elements. -/
def RSlice {α : Type} (R : List Value → α → Prop) (size : Nat) (w : World) (cs : List Value) (l : List α) : Prop :=
  ∃ a len cap, cs = [.slice a len cap] ∧ l.length = len ∧ len ≤ cap ∧ cap ≤ maxLen ∧ (a = none → len = 0 ∧ cap = 0) ∧ Cells R size w a l

theorem list_of {α : Type} {n : Nat} {p : Nat → α → Prop} (h : ∀ i, i < n → ∃ x, p i x) : ∃ l : List α, l.length = n ∧ ∀ i (hi : i < l.length), p i l[i] := by
  induction n with
  | zero => exact ⟨[], rfl, fun i hi => absurd hi (Nat.not_lt_zero _)⟩
  | succ n ih =>
    obtain ⟨l, hl, hp⟩ := ih (fun i hi => h i (by omega))
    obtain ⟨x, hx⟩ := h n (by omega)
    refine ⟨l ++ [x], by simp [hl], fun i hi => ?_⟩
    by_cases hin : i < l.length
    · rw [List.getElem_append_left hin]; exact hp i hin
    · rw [List.length_append, List.length_singleton] at hi
      have : i = n := by omega
      subst this
      rw [List.getElem_append_right (by omega)]
      simpa [hl] using hx

theorem add_plain (b off k : Nat) : (⟨b, off, none⟩ : Addr).add k = ⟨b, off + k, none⟩ := by
  unfold Addr.add; split
  · subst_vars; rfl
  · rfl

theorem opens_slice {t e : TypeId} {α : Type} {R : List Value → α → Prop} {size : Nat} (ht : P.underlying t = some (.slice e)) (hc : P.cellsOf e = size) (hs : 0 < size) (he : Opens P w e R) : Opens P w t (RSlice R size w) := by
  intro H enc base spare held fuel cs x hx
  rcases open_slice ht hx with ⟨rfl, _⟩ | ⟨a, len, cap, m, n, D, Pl, rfl, _, hl, hm, hmm, _, hi⟩
  · exact ⟨[], none, 0, 0, rfl, rfl, Nat.le_refl _, by unfold maxLen; omega, fun _ => ⟨rfl, rfl⟩, .inl rfl⟩
  · have hlm : len ≤ m := by rw [hmm]; split <;> omega
    rw [hc] at hi
    obtain ⟨l, hll, hp⟩ := list_of (n := len) (p := fun i (y : α) => ∃ ecs : List Value, ecs.length = size ∧ R ecs y ∧ ∀ j, j < size → w.cell? ((a.add (i * size)).add j) = ecs[j]?) (fun i hil => by
      obtain ⟨cs', h1, h2⟩ := hi i (by omega)
      obtain ⟨_, h3, h4⟩ := World.cells?_some h1
      obtain ⟨y, hy⟩ := he _ _ _ _ _ _ _ _ h2
      exact ⟨y, cs', h3, hy, h4⟩)
    refine ⟨l, some a, len, cap, rfl, hll, hl, hm, (fun h => by cases h), ?_⟩
    by_cases h0 : len = 0
    · exact .inl (List.length_eq_zero_iff.1 (by omega))
    · obtain ⟨b, off, spot⟩ := a
      obtain ⟨ecs, e1, _, e3⟩ := hp 0 (by omega)
      have e4 := e3 0 hs
      rw [List.getElem?_eq_getElem (by omega)] at e4
      have hspot : spot = none := by
        have := World.cell?_spot e4
        simpa [Addr.add] using this
      subst hspot
      refine .inr ⟨b, off, rfl, fun j hj => ?_⟩
      obtain ⟨ecs, g1, g2, g3⟩ := hp j hj
      refine ⟨ecs, g1, g2, fun i hi => ?_⟩
      have := g3 i hi
      rw [add_plain, add_plain] at this
      exact this

/-- An argument, by its type. -/
theorem opens_arg {H : Type} {enc : TypeId × Value → H} {base : Nat} {spare : Nat → Bool} {held : Bool} {t : TypeId} {α : Type} {R : List Value → α → Prop} {v : Value} {d : DataW H} {ps : List MemPlace} (h : Opens P w t R) (hd : DataW.Trod enc P w base spare held t v d ps) : ∃ a, R v.cells.toList a := by
  obtain ⟨fuel, hf⟩ := hd
  exact h _ _ _ _ _ _ _ _ hf

/-- No more is read than memory bears. -/
theorem slice_sized {P : Program} {w : World} {H : Type} {enc : TypeId × Value → H} {base : Nat} {spare : Nat → Bool} {held : Bool} {t e : TypeId} {ts : List TypeId} {ds : List (DataW H)} {j b : Nat} {d : DataW H} {ps : List MemPlace} {a : Option Addr} {len cap : Nat}
    (hsz : (DataW.weightsEach P ts ds).all (· ≤ reachBytes) = true) (ht : ts[j]? = some t) (hd : ds[j]? = some d) (hu : P.underlying t = some (.slice e)) (hb : P.bytesOf e = b) (h : DataW.Trod enc P w base spare held t (.slice a len cap) d ps) : len * b ≤ 140737488351232 := by
  obtain ⟨fuel, hf⟩ := h
  rcases open_slice hu hf with ⟨e1, _⟩ | ⟨a', len', cap', m, n, D, Pl, e1, _, hl, _, hm, e2, _⟩
  · simp [Value.cells] at e1
    rw [e1.2.1]; omega
  · simp [Value.cells] at e1
    obtain ⟨_, rfl, rfl⟩ := e1
    injection e2 with e2 _
    have := sized_slice hsz ht (hd.trans (congrArg some e2)) hu
    rw [hb] at this
    simp only [List.length_map, List.length_range, reachBytes] at this
    exact Nat.le_trans (Nat.mul_le_mul_right _ (Nat.le_add_right _ _)) this
theorem string_sized {P : Program} {H : Type} {ts : List TypeId} {ds : List (DataW H)} {j : Nat} {t : TypeId} {s : ByteArray} {d : DataW H}
    (hsz : (DataW.weightsEach P ts ds).all (· ≤ reachBytes) = true) (ht : ts[j]? = some t) (hd : ds[j]? = some d) (he : d = .lit (.string s.data.toList)) : s.size ≤ 140737488351232 := by
  subst he
  have := sized_string hsz ht hd
  have e : s.data.toList.length = s.size := by rw [Array.length_toList]; rfl
  rw [e] at this
  exact this

end Go.Proofs.Ytcndihekpdebhaa.Opn
/- Common: worlds that grow, and lists of flat elements (each so many cells) that lie in memory: read, cut, made, appended to. -/
namespace Go.Proofs.Ytcndihekpdebhaa.Kit
open Go.RowKit
open Go.Sort

theorem ret_bool {a b : Bool} (h : a = b) : Ending.returned (.bool a) = .returned (.bool b) := by rw [h]
theorem ret_int {k : IntKind} {a b : Int} (h : a = b) : Ending.returned (.int k a) = .returned (.int k b) := by rw [h]
theorem bcell {W w1 : World} (hb : Below W.heap.size W w1) : (∀ b o, b < W.heap.size → w1.cell? ⟨b, o, none⟩ = W.cell? ⟨b, o, none⟩) ∧ (∀ b o, b < W.heap.size → w1.frozen? ⟨b, o, none⟩ = W.frozen? ⟨b, o, none⟩) :=
  ⟨fun b o h => hb.cell (p := ⟨b, o, none⟩) h, fun b o h => hb.frozen (p := ⟨b, o, none⟩) h⟩
theorem cell_keep {w1 w' : World} (hb : Below w1.heap.size w1 w') {b o : Nat} {v : Value} (h : w1.cell? ⟨b, o, none⟩ = some v) : w'.cell? ⟨b, o, none⟩ = some v := by
  rw [hb.cell (p := ⟨b, o, none⟩) (World.block_lt_of_cell? w1 _ h)]; exact h
theorem below_keep {w w1 w' : World} (h : Below w.heap.size w w1) (hb : Below w1.heap.size w1 w') : Below w.heap.size w w' := h.trans (hb.mono h.size)
theorem below_alloc (w : World) (o : Obj) : Below w.heap.size w (w.alloc o) := (Below.refl _ _).alloc (Nat.le_refl _) _
theorem below_drew (w : World) : Below w.heap.size w w.drew := (Below.refl _ _).drew
theorem cell_alloc {w : World} {a : Addr} {v : Value} {o : Obj} (h : w.cell? a = some v) : (w.alloc o).cell? a = some v := by
  rw [World.cell?_alloc_some _ _ _ (by rw [h]; rfl)]; exact h
theorem same_cell {w : World} {a : Addr} {u : Value} (h : w.cell? a = some u) (v : Value) : (w.setCell a v).cell? a = some v := World.cell?_setCell_same' w a v (by rw [h]; rfl)
theorem off_ne {p i j : Nat} (h : i ≠ j) : (⟨p, i, none⟩ : Addr) ≠ ⟨p, j, none⟩ := fun e => h (by injection e)
theorem set_far {w : World} {a x : Addr} {u v : Value} (hne : a.block ≠ x.block) (h : w.cell? x = some v) : (w.setCell a u).cell? x = some v := by rw [World.cell?_setCell_far _ _ _ _ hne]; exact h
theorem set_off {w : World} {b i j : Nat} {u v : Value} (hne : i ≠ j) (h : w.cell? ⟨b, j, none⟩ = some v) : (w.setCell ⟨b, i, none⟩ u).cell? ⟨b, j, none⟩ = some v := by rw [World.cell?_setCell_other _ _ _ _ (off_ne hne)]; exact h
theorem setCell_size (w : World) (a : Addr) (v : Value) : (w.setCell a v).heap.size = w.heap.size := by simp [World.setCell]
theorem add_plain (b off k : Nat) : (⟨b, off, none⟩ : Addr).add k = ⟨b, off + k, none⟩ := by
  unfold Addr.add; split
  · subst_vars; rfl
  · rfl

/-! ## Lists in memory -/

variable {α : Type} {enc : α → List Value} {size : Nat}

/-- The elements of a list, each by its cells. -/
def Row (enc : α → List Value) (size : Nat) (w : World) (a : Option Addr) (l : List α) : Prop :=
  l = [] ∨ ∃ b off, a = some ⟨b, off, none⟩ ∧ ∀ j (h : j < l.length) i, i < size → w.cell? ⟨b, off + j * size + i, none⟩ = (enc l[j])[i]?

theorem row_keep (hs : ∀ x, (enc x).length = size) {w w' : World} {a : Option Addr} {l : List α} (h : Row enc size w a l) (hb : Below w.heap.size w w') : Row enc size w' a l := by
  rcases h with h | ⟨b, off, h1, h2⟩
  · exact .inl h
  · refine .inr ⟨b, off, h1, fun j hj i hi => ?_⟩
    have e := h2 j hj i hi
    rw [List.getElem?_eq_getElem (by rw [hs]; exact hi)] at e ⊢
    exact cell_keep hb e

theorem row_some {w : World} {a : Option Addr} {l : List α} (h : Row enc size w a l) (hl : 0 < l.length) : ∃ b off, Hid (a = some ⟨b, off, none⟩) := by
  rcases h with rfl | ⟨b, off, h1, _⟩
  · simp at hl
  · exact ⟨b, off, h1⟩

theorem row_cell {w : World} {b off : Nat} {l : List α} (h : Row enc size w (some ⟨b, off, none⟩) l) {j : Nat} (hj : j < l.length) {x : α} (hx : l[j] = x) {i : Nat} (hi : i < size) : w.cell? ⟨b, off + j * size + i, none⟩ = (enc x)[i]? := by
  subst hx
  rcases h with rfl | ⟨b', off', h1, h2⟩
  · simp at hj
  · simp at h1
    obtain ⟨rfl, rfl⟩ := h1
    exact h2 j hj i hi

theorem row_lt (hs : ∀ x, (enc x).length = size) (hz : 0 < size) {w : World} {b off : Nat} {l : List α} (h : Row enc size w (some ⟨b, off, none⟩) l) (hl : 0 < l.length) : b < w.heap.size := by
  have e := row_cell h hl rfl hz
  rw [List.getElem?_eq_getElem (by rw [hs]; exact hz)] at e
  exact World.block_lt_of_cell? w _ e

theorem row_take {w : World} {a : Option Addr} {l : List α} (h : Row enc size w a l) (k : Nat) : Row enc size w a (l.take k) := by
  rcases h with h | ⟨b, off, h1, h2⟩
  · exact .inl (by rw [h]; simp)
  · refine .inr ⟨b, off, h1, fun j hj i hi => ?_⟩
    rw [List.length_take] at hj
    rw [List.getElem_take]
    exact h2 j (by omega) i hi

/-- A slice of a list from element k on. -/
theorem row_drop {w : World} {b off : Nat} {l : List α} (h : Row enc size w (some ⟨b, off, none⟩) l) (k : Nat) : Row enc size w (some ⟨b, off + k * size, none⟩) (l.drop k) := by
  rcases h with h | ⟨b', off', h1, h2⟩
  · exact .inl (by rw [h]; simp)
  · simp at h1
    obtain ⟨rfl, rfl⟩ := h1
    refine .inr ⟨_, _, rfl, fun j hj i hi => ?_⟩
    rw [List.length_drop] at hj
    rw [List.getElem_drop]
    have := h2 (k + j) (by omega) i hi
    rw [Nat.add_mul] at this
    rw [show off + k * size + j * size + i = off + (k * size + j * size) + i by omega]
    exact this

/-! ## A list of the call's own -/

def flat (enc : α → List Value) (l : List α) : List Value := l.flatMap enc
theorem flat_length (hs : ∀ x, (enc x).length = size) : ∀ l : List α, (flat enc l).length = l.length * size
  | [] => by simp [flat]
  | x :: l => by
    have := flat_length hs l
    unfold flat at this ⊢
    rw [List.flatMap_cons, List.length_append, this, hs, List.length_cons, Nat.add_mul]; omega
theorem flat_snoc (l : List α) (x : α) : flat enc (l ++ [x]) = flat enc l ++ enc x := by
  unfold flat; rw [List.flatMap_append]; simp
theorem flat_append (l k : List α) : flat enc (l ++ k) = flat enc l ++ flat enc k := by
  unfold flat; rw [List.flatMap_append]
theorem flat_at (hs : ∀ x, (enc x).length = size) : ∀ (l : List α) (j : Nat) (h : j < l.length) (i : Nat), i < size → (flat enc l)[j * size + i]? = (enc l[j])[i]?
  | x :: l, 0, _, i, hi => by
    show (enc x ++ flat enc l)[0 * size + i]? = _
    rw [Nat.zero_mul, Nat.zero_add, List.getElem?_append_left (by rw [hs]; exact hi)]; rfl
  | x :: l, j + 1, h, i, hi => by
    have h' : j < l.length := by simpa using h
    show (enc x ++ flat enc l)[(j + 1) * size + i]? = _
    rw [Nat.add_mul, Nat.one_mul, List.getElem?_append_right (by rw [hs]; omega), hs, show j * size + size + i - size = j * size + i by omega]
    exact flat_at hs l j h' i hi

def Owns (enc : α → List Value) (size : Nat) (e : TypeId) (w : World) (base : Nat) (v : Value) (l : List α) : Prop := w.ownsRow base e size v l.length (flat enc l)

theorem owns_row (hs : ∀ x, (enc x).length = size) {e : TypeId} {w : World} {base : Nat} {v : Value} {l : List α} (h : Owns enc size e w base v l) : ∃ a cap, v = .slice a l.length cap ∧ l.length ≤ cap ∧ cap ≤ maxLen ∧ (a = none → cap = 0) ∧ Row enc size w a l := by
  obtain ⟨h1, h2⟩ := h
  rcases h2 with ⟨rfl, h3⟩ | ⟨g, cap, cur, rfl, _, hg, hn, hm, hc, ht⟩
  · have hl : l = [] := List.length_eq_zero_iff.1 h3
    subst hl
    exact ⟨none, 0, rfl, Nat.le_refl _, by unfold maxLen; omega, fun _ => rfl, .inl rfl⟩
  · refine ⟨_, cap, rfl, hn, hm, (fun h => by cases h), .inr ⟨g, 0, rfl, fun j hj i hi => ?_⟩⟩
    have hlt : j * size + i < l.length * size := by
      have : (j + 1) * size ≤ l.length * size := Nat.mul_le_mul_right _ (by omega)
      rw [Nat.add_mul] at this; omega
    have e1 : (cur.toList.take (l.length * size))[j * size + i]? = (flat enc l)[j * size + i]? := by rw [ht]
    rw [List.getElem?_take, if_pos hlt, flat_at hs l j hj i hi] at e1
    rw [← e1]
    unfold World.cell?
    simp only [hg, Nat.zero_add]
    simp

theorem owns_alloc {e : TypeId} {w : World} {base : Nat} {v : Value} {l : List α} (h : Owns enc size e w base v l) (o : Obj) : Owns enc size e (w.alloc o) base v l := World.ownsRow.alloc h o
theorem owns_drew {e : TypeId} {w : World} {base : Nat} {v : Value} {l : List α} (h : Owns enc size e w base v l) : Owns enc size e w.drew base v l := h
theorem owns_nil (e : TypeId) (w : World) (base : Nat) : Owns enc size e w base (.slice none 0 0) [] := World.ownsRow_nil _ _ _ _

/-- append of a whole list (one new element, or another slice's) to a list of the call's own. -/
theorem append_row (hs : ∀ x, (enc x).length = size) (hz : 0 < size) (hone : ∀ x, ∀ u ∈ enc x, u.oneCell' = true) {P : Program} {w : World} {ops : Array Oper} {rest : List Oper} {o : Oper} {A : Act} {Q : Exit → Act → World → Prop} (hgd : o.guard = none) (s x : Operand) (t e : TypeId)
    (ho : o.op = .call { callee := .builtin .append, args := #[s, x], argTypes := #[t, t] }) (ht : P.underlying t = some (.slice e)) (z : Value) (bytes : Nat)
    (hinfo : (P.info? e).map (fun i => (i.zero, i.size, i.bytes)) = some (some z, size, bytes)) (hzs : z.cells.size = size)
    (base : Nat) (v : Value) (l : List α) (hv : A.eval s = v) (hown : Owns enc size e w base v l) (ad : Option Addr) (m c : Nat) (k : List α) (hx : A.eval x = .slice ad m c) (hk : k.length = m) (hrow : Row enc size w ad k) (hnil : ad = none → m = 0 ∧ c = 0)
    (h63 : l.length + m ≤ maxLen) (hbytes : (l.length + m) * bytes ≤ 140737488355328) (hbase : base ≤ w.heap.size)
    (h : ∀ v' w', Owns enc size e w' base v' (l ++ k) → Below base w w' → wpList P ops Q rest (A.put o.dst v') w') : wpList P ops Q (o :: rest) A w := by
  obtain ⟨i0, hi, hz0, hz1, hz2⟩ := info_parts hinfo
  cases ad with
  | none =>
    obtain ⟨rfl, rfl⟩ := hnil rfl
    obtain rfl : k = [] := List.length_eq_zero_iff.1 hk
    refine wpList_append_own_none hgd s x t ho base e i0 size ht hi v l.length _ hv hown hx (h v w (by rw [List.append_nil]; exact hown) (Below.refl _ _))
  | some q =>
    refine wpList_append_own _ hgd s x t ho base e i0 z size bytes ht hi hz0 hz1 hz2 hzs hz v l.length _ hv hown q m c (flat enc k) hx (by rw [flat_length hs, hk]) ?_ ?_ h63 hbytes hbase ?_
    · intro j u hj
      rcases hrow with rfl | ⟨b, off, h1, h2⟩
      · simp [flat] at hj
      · simp at h1
        subst h1
        have hjl : j < k.length * size := by rw [← flat_length hs]; exact (List.getElem?_eq_some_iff.1 hj).1
        have hd : j / size < k.length := by rw [Nat.div_lt_iff_lt_mul hz]; exact hjl
        have hm := Nat.mod_lt j hz
        have e1 := h2 (j / size) hd (j % size) hm
        rw [← flat_at hs k (j / size) hd (j % size) hm] at e1
        have e2 : j / size * size + j % size = j := by rw [Nat.mul_comm]; exact Nat.div_add_mod j size
        rw [Nat.add_assoc, e2, hj] at e1
        rw [add_plain]; exact e1
    · intro u hu
      obtain ⟨x, hx, hux⟩ := List.mem_flatMap.1 hu
      exact hone x u hux
    · intro v' w' h1 h2 _
      refine h v' w' ?_ ((Below.refl _ _).grown h2 hbase fun k hk => (hown.lt k hk).1)
      unfold Owns
      rw [flat_append, List.length_append, hk]
      exact h1

/-- A new list's cells. -/
theorem row_new (hs : ∀ x, (enc x).length = size) (w : World) (l : List α) (A : Array Value) (T : TypeId) (n : Nat) (hn : n = w.heap.size) (hA : A.toList = flat enc l) : Row enc size (w.alloc (.cells A T)) (some ⟨n, 0, none⟩) l := by
  subst hn
  refine .inr ⟨_, _, rfl, fun j hj i hi => ?_⟩
  rw [Nat.zero_add, World.cell?_alloc_new, ← flat_at hs l j hj i hi, ← hA]
  simp

/-- An argument's list. -/
theorem row_of_cells {R : List Value → α → Prop} (hR : ∀ cs x, R cs x → cs = enc x) {w : World} {a : Option Addr} {l : List α} (h : Opn.Cells R size w a l) : Row enc size w a l := by
  rcases h with h | ⟨b, off, h1, h2⟩
  · exact .inl h
  · refine .inr ⟨b, off, h1, fun j hj i hi => ?_⟩
    obtain ⟨ecs, _, h3, h4⟩ := h2 j hj
    rw [← hR ecs _ h3]
    exact h4 i hi
theorem all_of_cells {R : List Value → α → Prop} {p : α → Prop} (hR : ∀ cs x, R cs x → p x) {w : World} {a : Option Addr} {l : List α} (h : Opn.Cells R size w a l) : ∀ x ∈ l, p x := by
  rcases h with rfl | ⟨b, off, _, h2⟩
  · intro x hx; cases hx
  · intro x hx
    obtain ⟨j, hj, rfl⟩ := List.getElem_of_mem hx
    obtain ⟨ecs, _, h3, _⟩ := h2 j hj
    exact hR ecs _ h3

end Go.Proofs.Ytcndihekpdebhaa.Kit
/- Common: several lists of the call's own: an append to one of them leaves the others as they are, and apart from it. -/
namespace Go.Proofs.Ytcndihekpdebhaa.Two
open Go.RowKit
open Go.Sort
open Kit

/-- Where an append to a list of the call's own leaves it: in its block, or in a new one. -/
theorem append_where {P : Program} (w : World) (base : Nat) (t ty e : TypeId) (i : TypeInfo) (z : Value) (size bytes : Nat) (ht : P.underlying t = some (.slice e)) (hi : P.info? e = some i) (hz : i.zero = some z)
    (hsize : i.size = size) (hby : i.bytes = bytes) (hzs : z.cells.size = size) (hsz : 0 < size) (v : Value) (n : Nat) (xs : List Value) (hown : w.ownsRow base e size v n xs)
    (a : Addr) (m c : Nat) (news : List Value) (hl : news.length = m * size) (hnews : ∀ j u, news[j]? = some u → w.cell? (a.add j) = some u) (h1 : ∀ u ∈ news, u.oneCell' = true)
    (h63 : n + m ≤ maxLen) (hbytes : (n + m) * bytes ≤ 140737488355328) (hbase : base ≤ w.heap.size) :
    ∃ v' w', (Builtin.append_ #[t, t] ty #[v, .slice (some a) m c]).run P w = .ok v' w' ∧ w'.ownsRow base e size v' (n + m) (xs ++ news) ∧ w.grownBy w' v.ownBlock ∧ (v'.ownBlock = v.ownBlock ∨ v'.ownBlock = some w.heap.size) := by
  obtain ⟨v', w', hr, h2, h3, _⟩ := run_append_own (P := P) w base t ty e i z size bytes ht hi hz hsize hby hzs hsz v n xs hown a m c news hl hnews h1 h63 hbytes hbase
  refine ⟨v', w', hr, h2, h3, ?_⟩
  subst hsize hby
  have hsmall : n + m ≤ 9223372036854775807 := by simp only [maxLen] at h63; omega
  have out : ∀ {x y : Value} {wx wy : World} {r : Result Value}, r = .ok x wx → r = .ok y wy → x = y := by
    intro x y wx wy r hx hy
    rw [hx] at hy
    injection hy
  rcases hown.2 with ⟨rfl, rfl⟩ | ⟨g, cap, cur, rfl, _, hg, _, _, hcs, _⟩
  · by_cases hm : m = 0
    · subst hm
      have hn : news = [] := List.eq_nil_of_length_eq_zero (by simpa using hl)
      subst hn
      have hr0 : (Builtin.append_ #[t, t] ty #[.slice none 0 0, .slice (some a) 0 c]).run P w = .ok (.slice none 0 0) w := by
        simp [Builtin.append_, run_underlying ht, sizeOf, typeInfo, hi, Builtin.lenOf, Builtin.firstCells, loadCells, loadCellsFrom]
      exact .inl (by rw [out hr hr0])
    · have hr0 := run_append_nil (P := P) w t ty e i z ht hi hz a m c news hl hnews (by omega) (by omega) (by have hb := hbytes; simp only [Nat.zero_add] at hb; omega)
      exact .inr (by rw [out hr hr0]; rfl)
  · by_cases hroom : n + m ≤ cap
    · have hr0 := run_append_room (P := P) w t ty e i ht hi g n cap cur hg a m c news hl hnews h1 hroom (by rw [hl, hcs, ← Nat.add_mul]; exact Nat.mul_le_mul_right _ hroom)
      exact .inl (by rw [out hr hr0]; rfl)
    · have hr0 := run_append_grow (P := P) w t ty e i z ht hi hz ⟨g, 0, none⟩ n cap xs hown.1 (hown.cells (g := g) rfl) a m c news hl hnews (by omega) (by omega) (growslice_fits (by omega) hbytes)
      exact .inr (by rw [out hr hr0]; rfl)

variable {α : Type} {enc : α → List Value} {size : Nat}

/-- 'append' of a list to a list of the call's own, as it runs, and what becomes of the others. -/
theorem run_append_apart (hs : ∀ x, (enc x).length = size) (hz : 0 < size) (hone : ∀ x, ∀ u ∈ enc x, u.oneCell' = true) {P : Program} {w : World} (t ty e : TypeId) (ht : P.underlying t = some (.slice e)) (z : Value) (bytes : Nat)
    (hinfo : (P.info? e).map (fun i => (i.zero, i.size, i.bytes)) = some (some z, size, bytes)) (hzs : z.cells.size = size)
    (base : Nat) (v : Value) (l : List α) (hown : Owns enc size e w base v l) (ad : Option Addr) (m c : Nat) (k : List α) (hk : k.length = m) (hrow : Row enc size w ad k) (hnil : ad = none → m = 0 ∧ c = 0)
    (h63 : l.length + m ≤ maxLen) (hbytes : (l.length + m) * bytes ≤ 140737488355328) (hbase : base ≤ w.heap.size) :
    ∃ v' w', (Builtin.append_ #[t, t] ty #[v, .slice ad m c]).run P w = .ok v' w' ∧ Owns enc size e w' base v' (l ++ k) ∧ w.grownBy w' v.ownBlock ∧ (v'.ownBlock = v.ownBlock ∨ v'.ownBlock = some w.heap.size) := by
  obtain ⟨i0, hi, hz0, hz1, hz2⟩ := info_parts hinfo
  cases ad with
  | none =>
    obtain ⟨rfl, rfl⟩ := hnil rfl
    obtain rfl : k = [] := List.length_eq_zero_iff.1 hk
    exact ⟨v, w, run_append_owned_none (P := P) (w := w) base t ty e i0 size ht hi v l.length _ hown, by rw [List.append_nil]; exact hown, ⟨rfl, rfl, rfl, Nat.le_refl _, fun _ _ _ => rfl⟩, .inl rfl⟩
  | some q =>
    have hnews : ∀ j u, (flat enc k)[j]? = some u → w.cell? (q.add j) = some u := by
      intro j u hj
      rcases hrow with rfl | ⟨b, off, h1, h2⟩
      · simp [flat] at hj
      · simp at h1
        subst h1
        have hjl : j < k.length * size := by rw [← flat_length hs]; exact (List.getElem?_eq_some_iff.1 hj).1
        have hd : j / size < k.length := by rw [Nat.div_lt_iff_lt_mul hz]; exact hjl
        have hm := Nat.mod_lt j hz
        have e1 := h2 (j / size) hd (j % size) hm
        rw [← flat_at hs k (j / size) hd (j % size) hm] at e1
        have e2 : j / size * size + j % size = j := by rw [Nat.mul_comm]; exact Nat.div_add_mod j size
        rw [Nat.add_assoc, e2, hj] at e1
        rw [add_plain]; exact e1
    obtain ⟨v', w', hr, g2, g3, g4⟩ := append_where (P := P) w base t ty e i0 z size bytes ht hi hz0 hz1 hz2 hzs hz v l.length _ hown q m c (flat enc k) (by rw [flat_length hs, hk]) hnews
      (fun u hu => by obtain ⟨x, _, hux⟩ := List.mem_flatMap.1 hu; exact hone x u hux) h63 hbytes hbase
    refine ⟨v', w', hr, ?_, g3, g4⟩
    unfold Owns
    rw [flat_append, List.length_append, hk]
    exact g2
/-- The same in a walk. -/
theorem append_apart (hs : ∀ x, (enc x).length = size) (hz : 0 < size) (hone : ∀ x, ∀ u ∈ enc x, u.oneCell' = true) {P : Program} {w : World} {ops : Array Oper} {rest : List Oper} {o : Oper} {A : Act} {Q : Exit → Act → World → Prop} (hgd : o.guard = none) (s x : Operand) (t e : TypeId)
    (ho : o.op = .call { callee := .builtin .append, args := #[s, x], argTypes := #[t, t] }) (ht : P.underlying t = some (.slice e)) (z : Value) (bytes : Nat)
    (hinfo : (P.info? e).map (fun i => (i.zero, i.size, i.bytes)) = some (some z, size, bytes)) (hzs : z.cells.size = size)
    (base : Nat) (v : Value) (l : List α) (hv : A.eval s = v) (hown : Owns enc size e w base v l) (ad : Option Addr) (m c : Nat) (k : List α) (hx : A.eval x = .slice ad m c) (hk : k.length = m) (hrow : Row enc size w ad k) (hnil : ad = none → m = 0 ∧ c = 0)
    (h63 : l.length + m ≤ maxLen) (hbytes : (l.length + m) * bytes ≤ 140737488355328) (hbase : base ≤ w.heap.size)
    (h : ∀ v' w', Owns enc size e w' base v' (l ++ k) → w.grownBy w' v.ownBlock → (v'.ownBlock = v.ownBlock ∨ v'.ownBlock = some w.heap.size) → wpList P ops Q rest (A.put o.dst v') w') : wpList P ops Q (o :: rest) A w := by
  obtain ⟨v', w', hr, g2, g3, g4⟩ := run_append_apart (P := P) hs hz hone t o.type e ht z bytes hinfo hzs base v l hown ad m c k hk hrow hnil h63 hbytes hbase
  refine wpList_plain hgd fun K hK => ?_
  unfold Oper.wp execOp
  simp only [ho, resolve, invoke, builtin, Sem.run_bind, Sem.run_pure, Result.andThen_ok, List.map_toArray, List.map_cons, List.map_nil, hv, hx, hr]
  exact hK _ _ (h v' w' g2 g3 g4)

/-- Two values that own no block together. -/
def Apart (v u : Value) : Prop := u.ownBlock = none ∨ u.ownBlock ≠ v.ownBlock
theorem apart_symm {v u : Value} (h : Apart v u) : Apart u v := by
  unfold Apart at *
  rcases h with h | h
  · by_cases hv : v.ownBlock = none
    · exact .inl hv
    · exact .inr (by rw [h]; exact hv)
  · exact .inr (Ne.symm h)
theorem owns_kept {e : TypeId} {w w' : World} {base : Nat} {v u : Value} {l : List α} (h : Owns enc size e w base u l) (hg : w.grownBy w' v.ownBlock) (ha : Apart v u) : Owns enc size e w' base u l := World.ownsRow.kept h hg ha
theorem apart_kept {e : TypeId} {w : World} {base : Nat} {v v' u : Value} {l : List α} (h : Owns enc size e w base u l) (ha : Apart v u) (hv : v'.ownBlock = v.ownBlock ∨ v'.ownBlock = some w.heap.size) : Apart v' u := by
  unfold Apart at *
  rcases hv with hv | hv
  · rw [hv]; exact ha
  · by_cases hu : u.ownBlock = none
    · exact .inl hu
    · refine .inr fun e => ?_
      rw [hv] at e
      have := (World.ownsRow.lt h _ e).2
      omega
theorem below_grown {e : TypeId} {w w' : World} {base : Nat} {v : Value} {l : List α} (h : Owns enc size e w base v l) (hg : w.grownBy w' v.ownBlock) (hb : base ≤ w.heap.size) : Below base w w' :=
  (Below.refl _ _).grown hg hb fun k hk => (World.ownsRow.lt h k hk).1

end Go.Proofs.Ytcndihekpdebhaa.Two
/- A slice that can be read, of whatever elements; numbers of 64 bits. -/
namespace Go.Proofs.Ytcndihekpdebhaa.Tre
set_option maxRecDepth 100000
open Go.RowKit
open Go.Sort
open Kit
set_option linter.unusedVariables false

abbrev inI (n : Int) : Prop := -9223372036854775808 ≤ n ∧ n ≤ 9223372036854775807
/-- A slice that can be read. -/
structure Lst {α : Type} (enc : α → List Value) (size : Nat) (w : World) (a : Option Addr) (n c : Nat) (l : List α) : Prop where
  len : l.length = n
  cap : n ≤ c
  max : c ≤ maxLen
  nil : a = none → n = 0 ∧ c = 0
  row : Kit.Row enc size w a l
variable {w w' : World}
theorem below_drewN' (w : World) (n : Nat) : Below w.heap.size w (w.drewN n) := ⟨rfl, rfl, rfl, Nat.le_refl _, fun _ _ => rfl⟩
theorem lst_keep {α : Type} {enc : α → List Value} {size n c : Nat} {a : Option Addr} {l : List α} (hs : ∀ x, (enc x).length = size) (h : Lst enc size w a n c l) (hb : Below w.heap.size w w') : Lst enc size w' a n c l := ⟨h.len, h.cap, h.max, h.nil, row_keep hs h.row hb⟩
theorem lst_take {α : Type} {enc : α → List Value} {size n c : Nat} {a : Option Addr} {l : List α} (h : Lst enc size w a n c l) (m : Nat) (hm : m ≤ n) : Lst enc size w a m c (l.take m) :=
  ⟨by rw [List.length_take, h.len]; omega, Nat.le_trans hm h.cap, h.max, fun e => ⟨by have := h.nil e; omega, (h.nil e).2⟩, row_take h.row m⟩
theorem lst_at {α : Type} {enc : α → List Value} {size n c : Nat} {a : Option Addr} {l : List α} (h : Lst enc size w a n c l) (hn : 0 < n) : ∃ b o, a = some ⟨b, o, none⟩ := by
  rcases h.row with e | ⟨b, o, e, _⟩
  · have := h.len; rw [e] at this; simp at this; omega
  · exact ⟨b, o, e⟩
theorem cells_int : Try.prog.cellsOf 3 = 1 := by kernel_rfl
theorem i64_wf {n : Int} (h : (Lit.int .i64 n).wf = true) : inI n := by
  simp [Lit.wf, IntKind.min, IntKind.max, IntKind.signed, IntKind.bits] at h
  exact h
theorem u8_in {n : Int} (h : (Lit.int .u8 n).wf = true) : 0 ≤ n ∧ n ≤ 255 := by
  simp [Lit.wf, IntKind.min, IntKind.max, IntKind.signed, IntKind.bits] at h
  omega
theorem u32_in {n : Int} (h : (Lit.int .u32 n).wf = true) : 0 ≤ n ∧ n ≤ 4294967295 := by
  simp [Lit.wf, IntKind.min, IntKind.max, IntKind.signed, IntKind.bits] at h
  omega
theorem lst_new {α : Type} {enc : α → List Value} {size : Nat} (hs : ∀ x, (enc x).length = size) (w : World) (l : List α) (A : Array Value) (T : TypeId) (n m : Nat) (hn : n = w.heap.size) (hA : A.toList = flat enc l) (hm : l.length = m) (hl : m ≤ 1000) : Lst enc size (w.alloc (.cells A T)) (some ⟨n, 0, none⟩) m m l :=
  ⟨hm, Nat.le_refl _, by unfold maxLen; omega, (fun h => by cases h), row_new hs w l A T n hn hA⟩
theorem lst_none {α : Type} (enc : α → List Value) (size : Nat) (w : World) : Lst enc size w none 0 0 ([] : List α) := ⟨rfl, Nat.le_refl _, Nat.zero_le _, fun _ => ⟨rfl, rfl⟩, .inl rfl⟩

/-! ### Single operations -/

theorem run_ld2 {w : World} {a : Addr} {x : Int} (h : w.cell? a = some (.int .i64 x)) : (Instr.loadAt 3 (.pointer (some a))).run Try.prog w = .ok (.int .i64 x) w := by
  simp [go_sem, h]
end Go.Proofs.Ytcndihekpdebhaa.Tre
/- Draws in memory; an argument's list opened. -/
namespace Go.Proofs.Ytcndihekpdebhaa.Drw
set_option maxRecDepth 100000
open Go.RowKit
open Go.Sort
open Kit
open Tre (Lst inI lst_keep lst_take lst_at lst_new lst_none i64_wf cells_int)
set_option linter.unusedVariables false
variable {w w' : World}

structure Dw where
  alloc : Int
  amt : Int
def encD (d : Dw) : List Value := [.int .i64 d.alloc, .int .i64 d.amt]
theorem encD_len (d : Dw) : (encD d).length = 2 := rfl
theorem encD_one (x : Dw) : ∀ u ∈ encD x, u.oneCell' = true := by
  intro u hu
  simp [encD] at hu
  rcases hu with rfl | rfl <;> rfl
def Dw.ok (d : Dw) : Prop := inI d.alloc ∧ inI d.amt
abbrev Draws := Lst encD 2
theorem draw_cells {b o n c k : Nat} {l : List Dw} (h : Draws w (some ⟨b, o, none⟩) n c l) (hk : k < l.length) :
    w.cell? ⟨b, o + k * 2, none⟩ = some (.int .i64 l[k].alloc) ∧ w.cell? ⟨b, o + k * 2 + 1, none⟩ = some (.int .i64 l[k].amt) :=
  ⟨row_cell h.row hk rfl (i := 0) (by omega), row_cell h.row hk rfl (i := 1) (by omega)⟩
def RDw (cs : List Value) (x : Dw) : Prop := cs = encD x ∧ x.ok
theorem cells_draw : Try.prog.cellsOf 75 = 2 := by kernel_rfl
theorem opens_draw : Opn.Opens Try.prog w 75 RDw := by
  refine Opn.opens_struct Try.underlying75 fun cs hlen hf => ?_
  rw [cells_draw] at hlen
  match cs, hlen with
  | [c0, c1], _ =>
    obtain ⟨k0, h0, w0⟩ := hf 0 _ rfl _ _ (Opn.opens_int Try.underlying3)
    obtain ⟨k1, h1, w1⟩ := hf 1 _ rfl _ _ (Opn.opens_int Try.underlying3)
    simp [cells_int] at h0 h1
    subst h0 h1
    exact ⟨⟨k0, k1⟩, rfl, i64_wf w0, i64_wf w1⟩
theorem opens_draws : Opn.Opens Try.prog w 38 (Opn.RSlice RDw 2 w) := Opn.opens_slice Try.underlying38 cells_draw (by omega) opens_draw
theorem draws_arg {a : Option Addr} {len cap : Nat} {l : List Dw} (h : Opn.RSlice RDw 2 w [.slice a len cap] l) : Draws w a len cap l ∧ ∀ x ∈ l, x.ok := by
  obtain ⟨a', len', cap', he, hl, hc, hm, hn, hcs⟩ := h
  simp at he
  obtain ⟨rfl, rfl, rfl⟩ := he
  exact ⟨⟨hl, hc, hm, hn, Kit.row_of_cells (fun _ _ h => h.1) hcs⟩, Kit.all_of_cells (fun _ _ h => h.2) hcs⟩
theorem info_draw : (Try.prog.info? 75).map (fun i => (i.zero, i.size, i.bytes)) = some (some (.agg #[.int .i64 0, .int .i64 0]), 2, 16) := by kernel_rfl
theorem draw_row (w : World) (x y : Int) : Kit.Row encD 2 (w.alloc (.cells #[.int .i64 x, .int .i64 y] 75)) (some ⟨w.heap.size, 0, none⟩) [⟨x, y⟩] := row_new encD_len w [⟨x, y⟩] _ _ _ rfl rfl
end Go.Proofs.Ytcndihekpdebhaa.Drw
/- Jobs in memory; an argument's list opened. -/
namespace Go.Proofs.Ytcndihekpdebhaa.Job
set_option maxRecDepth 100000
open Go.RowKit
open Go.Sort
open Kit
open Tre (Lst inI lst_keep lst_take lst_at lst_new lst_none i64_wf cells_int)
open Drw (Dw encD encD_len Draws opens_draws draws_arg)
set_option linter.unusedVariables false
variable {w w' : World}

structure Jb where
  id : Int
  fund : Int
  nodes : Int
  wall : Int
  qos : Int
  prio : Int
  price : Int
  state : Int
  start : Int
  mask : Int
  used : Int
  draws : List Dw
def Jb.ok (t : Jb) : Prop := inI t.id ∧ inI t.fund ∧ inI t.nodes ∧ inI t.wall ∧ inI t.qos ∧ inI t.prio ∧ inI t.price ∧ inI t.state ∧ inI t.start ∧ inI t.mask ∧ inI t.used ∧ ∀ d ∈ t.draws, d.ok
/-- A job where it lies. -/
structure Jv where
  t : Jb
  a : Option Addr
  n : Nat
  c : Nat
def encJ (x : Jv) : List Value := [.int .i64 x.t.id, .int .i64 x.t.fund, .int .i64 x.t.nodes, .int .i64 x.t.wall, .int .i64 x.t.qos, .int .i64 x.t.prio, .int .i64 x.t.price, .int .i64 x.t.state, .int .i64 x.t.start, .int .i64 x.t.mask, .int .i64 x.t.used, .slice x.a x.n x.c]
abbrev valJ (x : Jv) : Value := .agg #[.int .i64 x.t.id, .int .i64 x.t.fund, .int .i64 x.t.nodes, .int .i64 x.t.wall, .int .i64 x.t.qos, .int .i64 x.t.prio, .int .i64 x.t.price, .int .i64 x.t.state, .int .i64 x.t.start, .int .i64 x.t.mask, .int .i64 x.t.used, .slice x.a x.n x.c]
theorem encJ_len (x : Jv) : (encJ x).length = 12 := rfl
theorem encJ_one (x : Jv) : ∀ u ∈ encJ x, u.oneCell' = true := by
  intro u hu
  simp [encJ] at hu
  rcases hu with rfl | rfl | rfl | rfl | rfl | rfl | rfl | rfl | rfl | rfl | rfl | rfl <;> rfl
def Jv.In (x : Jv) (w : World) : Prop := Draws w x.a x.n x.c x.t.draws
theorem job_keep {x : Jv} (h : x.In w) (hb : Below w.heap.size w w') : x.In w' := lst_keep encD_len h hb
def RJb (w : World) (cs : List Value) (x : Jv) : Prop := cs = encJ x ∧ x.In w ∧ x.t.ok
abbrev Jobs := Lst encJ 12
theorem job_cell {b o n c k : Nat} {l : List Jv} (h : Jobs w (some ⟨b, o, none⟩) n c l) (hk : k < l.length) (i : Nat) (hi : i < 12) : w.cell? ⟨b, o + k * 12 + i, none⟩ = (encJ l[k])[i]? := by
  have := row_cell h.row hk rfl (i := i) hi
  exact this
theorem cells_job : Try.prog.cellsOf 40 = 12 := by kernel_rfl
theorem cells_draws : Try.prog.cellsOf 38 = 1 := by kernel_rfl
theorem opens_job : Opn.Opens Try.prog w 40 (RJb w) := by
  refine Opn.opens_struct Try.underlying40 fun cs hlen hf => ?_
  rw [cells_job] at hlen
  match cs, hlen with
  | [d0, d1, d2, d3, d4, d5, d6, d7, d8, d9, d10, d11], _ =>
    obtain ⟨k0, h0, w0⟩ := hf 0 _ rfl _ _ (Opn.opens_int Try.underlying3)
    obtain ⟨k1, h1, w1⟩ := hf 1 _ rfl _ _ (Opn.opens_int Try.underlying3)
    obtain ⟨k2, h2, w2⟩ := hf 2 _ rfl _ _ (Opn.opens_int Try.underlying3)
    obtain ⟨k3, h3, w3⟩ := hf 3 _ rfl _ _ (Opn.opens_int Try.underlying3)
    obtain ⟨k4, h4, w4⟩ := hf 4 _ rfl _ _ (Opn.opens_int Try.underlying3)
    obtain ⟨k5, h5, w5⟩ := hf 5 _ rfl _ _ (Opn.opens_int Try.underlying3)
    obtain ⟨k6, h6, w6⟩ := hf 6 _ rfl _ _ (Opn.opens_int Try.underlying3)
    obtain ⟨k7, h7, w7⟩ := hf 7 _ rfl _ _ (Opn.opens_int Try.underlying3)
    obtain ⟨k8, h8, w8⟩ := hf 8 _ rfl _ _ (Opn.opens_int Try.underlying3)
    obtain ⟨k9, h9, w9⟩ := hf 9 _ rfl _ _ (Opn.opens_int Try.underlying3)
    obtain ⟨k10, h10, w10⟩ := hf 10 _ rfl _ _ (Opn.opens_int Try.underlying3)
    obtain ⟨k11, h11⟩ := hf 11 _ rfl _ _ opens_draws
    simp [cells_int, cells_draws] at h0 h1 h2 h3 h4 h5 h6 h7 h8 h9 h10 h11
    obtain ⟨a5, n5, c5, e5, -⟩ := id h11
    injection e5 with e5
    subst h0 h1 h2 h3 h4 h5 h6 h7 h8 h9 h10 e5
    obtain ⟨g5, o5⟩ := draws_arg h11
    exact ⟨⟨⟨k0, k1, k2, k3, k4, k5, k6, k7, k8, k9, k10, k11⟩, a5, n5, c5⟩, rfl, g5, i64_wf w0, i64_wf w1, i64_wf w2, i64_wf w3, i64_wf w4, i64_wf w5, i64_wf w6, i64_wf w7, i64_wf w8, i64_wf w9, i64_wf w10, o5⟩
theorem opens_jobs : Opn.Opens Try.prog w 22 (Opn.RSlice (RJb w) 12 w) := Opn.opens_slice Try.underlying22 cells_job (by omega) opens_job
theorem jobs_arg {a : Option Addr} {len cap : Nat} {l : List Jv} (h : Opn.RSlice (RJb w) 12 w [.slice a len cap] l) : Jobs w a len cap l ∧ (∀ x ∈ l, x.In w) ∧ ∀ x ∈ l, x.t.ok := by
  obtain ⟨a', len', cap', he, hl, hc, hm, hn, hcs⟩ := h
  simp at he
  obtain ⟨rfl, rfl, rfl⟩ := he
  exact ⟨⟨hl, hc, hm, hn, Kit.row_of_cells (fun _ _ h => h.1) hcs⟩, Kit.all_of_cells (fun _ _ h => h.2.1) hcs, Kit.all_of_cells (fun _ _ h => h.2.2) hcs⟩
end Go.Proofs.Ytcndihekpdebhaa.Job
/- Order: the places of those that are queued, each behind all that are ahead of it (mathematics). -/
namespace Go.Proofs.Ytcndihekpdebhaa.Ord
open Job (Jb)
set_option linter.unusedVariables false

/-- Is the job at one place ahead of that at another one? -/
def aheadJ (x y : Jb) (a b : Nat) : Prop := y.prio < x.prio ∨ (x.prio = y.prio ∧ (x.id < y.id ∨ (x.id = y.id ∧ a < b)))
instance (x y : Jb) (a b : Nat) : Decidable (aheadJ x y a b) := by unfold aheadJ; infer_instance
def lt (l : List Jb) (a b : Nat) : Prop := match l[a]?, l[b]? with | some x, some y => aheadJ x y a b | _, _ => False
instance (l : List Jb) (a b : Nat) : Decidable (lt l a b) := by unfold lt; split <;> infer_instance
def isQ (l : List Jb) (n : Nat) : Bool := match l[n]? with | some x => x.state == 1 | none => false
/-- Behind how many of the first k. -/
def place (l : List Jb) (n : Nat) (out : List Nat) : Nat → Nat
  | 0 => 0
  | k + 1 => match out[k]? with | some m => if lt l n m then place l n out k else k + 1 | none => k + 1
def insN (l : List Jb) (n : Nat) (out : List Nat) : List Nat := out.take (place l n out out.length) ++ [n] ++ out.drop (place l n out out.length)
def ordTo (l : List Jb) : Nat → List Nat
  | 0 => []
  | n + 1 => if isQ l n then insN l n (ordTo l n) else ordTo l n
def ord (l : List Jb) : List Nat := ordTo l l.length

theorem lt_trans {l : List Jb} {a b c : Nat} (h1 : lt l a b) (h2 : lt l b c) : lt l a c := by
  unfold lt at *
  cases ha : l[a]? with
  | none => rw [ha] at h1; exact h1.elim
  | some x => cases hb : l[b]? with
    | none => rw [ha, hb] at h1; exact h1.elim
    | some y => cases hc : l[c]? with
      | none => rw [hb, hc] at h2; exact h2.elim
      | some z =>
        rw [ha, hb] at h1
        rw [hb, hc] at h2
        simp only [aheadJ] at h1 h2 ⊢
        omega
theorem lt_irrefl {l : List Jb} {a : Nat} : ¬ lt l a a := by
  unfold lt
  cases ha : l[a]? with
  | none => exact id
  | some x => simp only [aheadJ]; omega
theorem lt_total {l : List Jb} {a b : Nat} (ha : a < l.length) (hb : b < l.length) (hne : a ≠ b) (h : ¬ lt l a b) : lt l b a := by
  unfold lt at *
  rw [List.getElem?_eq_getElem ha, List.getElem?_eq_getElem hb] at *
  simp only [aheadJ] at h ⊢
  omega
theorem place_le (l : List Jb) (n : Nat) (out : List Nat) : ∀ k, place l n out k ≤ k
  | 0 => Nat.le_refl _
  | k + 1 => by
    have := place_le l n out k
    rw [place]
    split
    · split <;> omega
    · omega
/-- All from that place on are behind it. -/
theorem place_behind (l : List Jb) (n : Nat) (out : List Nat) : ∀ k, k ≤ out.length → ∀ i, place l n out k ≤ i → i < k → ∀ m, out[i]? = some m → lt l n m
  | 0, _, i, _, hi, _, _ => by omega
  | k + 1, hk, i, h, hi, m, hm => by
    rw [place, List.getElem?_eq_getElem (by omega)] at h
    simp only at h
    by_cases hl : lt l n out[k]
    · rw [if_pos hl] at h
      by_cases e : i = k
      · subst e
        rw [List.getElem?_eq_getElem (by omega)] at hm
        injection hm with hm
        rwa [← hm]
      · exact place_behind l n out k (by omega) i h (by omega) m hm
    · rw [if_neg hl] at h; omega
/-- The one ahead of that place is not. -/
theorem place_ahead (l : List Jb) (n : Nat) (out : List Nat) : ∀ k, k ≤ out.length → 0 < place l n out k → ∃ m, out[place l n out k - 1]? = some m ∧ ¬ lt l n m
  | 0, _, h => by rw [place] at h; omega
  | k + 1, hk, h => by
    have ih := place_ahead l n out k (by omega)
    have e : place l n out (k + 1) = if lt l n out[k] then place l n out k else k + 1 := by
      rw [place, List.getElem?_eq_getElem (show k < out.length by omega)]
    rw [e] at h ⊢
    by_cases hl : lt l n out[k]
    · rw [if_pos hl] at h ⊢; exact ih h
    · rw [if_neg hl]; exact ⟨_, by rw [Nat.add_sub_cancel, List.getElem?_eq_getElem (show k < out.length by omega)], hl⟩
theorem ins_mem {l : List Jb} {n m : Nat} {out : List Nat} : m ∈ insN l n out ↔ m = n ∨ m ∈ out := by
  unfold insN
  rw [List.mem_append, List.mem_append, List.mem_singleton]
  have h : m ∈ out ↔ m ∈ out.take (place l n out out.length) ∨ m ∈ out.drop (place l n out out.length) := by
    rw [← List.mem_append, List.take_append_drop]
  rw [h]
  constructor
  · rintro ((h | h) | h)
    · exact .inr (.inl h)
    · exact .inl h
    · exact .inr (.inr h)
  · rintro (h | h | h)
    · exact .inl (.inr h)
    · exact .inl (.inl h)
    · exact .inr h
theorem ord_mem (l : List Jb) : ∀ (n m : Nat), m ∈ ordTo l n ↔ m < n ∧ isQ l m = true
  | 0, m => by simp [ordTo]
  | n + 1, m => by
    have ih := ord_mem l n m
    rw [ordTo]
    by_cases hq : isQ l n = true
    · rw [if_pos hq, ins_mem, ih]
      constructor
      · rintro (h | h)
        · subst h; exact ⟨by omega, hq⟩
        · exact ⟨by omega, h.2⟩
      · rintro ⟨h1, h2⟩
        by_cases e : m = n
        · exact .inl e
        · exact .inr ⟨by omega, h2⟩
    · rw [if_neg hq, ih]
      constructor
      · rintro ⟨h1, h2⟩; exact ⟨by omega, h2⟩
      · rintro ⟨h1, h2⟩
        refine ⟨?_, h2⟩
        by_cases e : m = n
        · subst e; exact absurd h2 hq
        · omega
theorem isQ_lt {l : List Jb} {n : Nat} (h : isQ l n = true) : n < l.length := by
  unfold isQ at h
  cases hn : l[n]? with
  | none => rw [hn] at h; cases h
  | some x => exact (List.getElem?_eq_some_iff.1 hn).1
theorem ins_sorted {l : List Jb} {n : Nat} {out : List Nat} (h : out.Pairwise (lt l)) (hn : n < l.length) (hm : ∀ m ∈ out, m < l.length ∧ m ≠ n) : (insN l n out).Pairwise (lt l) := by
  unfold insN
  have hpl := place_le l n out out.length
  rw [List.append_assoc]
  refine List.pairwise_append.2 ⟨h.sublist (List.take_sublist _ _), ?_, ?_⟩
  · rw [List.singleton_append]
    refine List.pairwise_cons.2 ⟨fun m hmm => ?_, h.sublist (List.drop_sublist _ _)⟩
    obtain ⟨i, hi, e⟩ := List.getElem_of_mem hmm
    rw [List.length_drop] at hi
    rw [List.getElem_drop] at e
    exact place_behind l n out out.length (Nat.le_refl _) (place l n out out.length + i) (by omega) (by omega) m (by rw [← e, List.getElem?_eq_getElem (by omega)])
  · intro x hx y hy
    -- x is ahead of n
    obtain ⟨i, hi, e⟩ := List.getElem_of_mem hx
    rw [List.length_take] at hi
    rw [List.getElem_take] at e
    obtain ⟨m, hm1, hm2⟩ := place_ahead l n out out.length (Nat.le_refl _) (by omega)
    have hlm := List.getElem?_eq_some_iff.1 hm1
    have hmm : m ∈ out := by rw [← hlm.2]; exact List.getElem_mem _
    have h1 : lt l m n := lt_total hn (hm m hmm).1 (fun e => (hm m hmm).2 e.symm) hm2
    have h2 : lt l x n := by
      by_cases e2 : i = place l n out out.length - 1
      · have : x = m := by rw [← e, ← hlm.2]; simp only [e2]
        rw [this]; exact h1
      · have h3 := List.pairwise_iff_getElem.1 h i (place l n out out.length - 1) (by omega) (by omega) (by omega)
        rw [e, hlm.2] at h3
        exact lt_trans h3 h1
    rw [List.singleton_append] at hy
    rcases List.mem_cons.1 hy with e3 | hy
    · rw [e3]; exact h2
    · obtain ⟨k, hk, e4⟩ := List.getElem_of_mem hy
      rw [List.length_drop] at hk
      rw [List.getElem_drop] at e4
      exact lt_trans h2 (place_behind l n out out.length (Nat.le_refl _) (place l n out out.length + k) (by omega) (by omega) y (by rw [← e4, List.getElem?_eq_getElem (by omega)]))
theorem ord_sorted (l : List Jb) : ∀ n, (ordTo l n).Pairwise (lt l)
  | 0 => List.Pairwise.nil
  | n + 1 => by
    rw [ordTo]
    by_cases hq : isQ l n = true
    · rw [if_pos hq]
      refine ins_sorted (ord_sorted l n) (isQ_lt hq) fun m hm => ?_
      obtain ⟨h1, h2⟩ := (ord_mem l n m).1 hm
      exact ⟨isQ_lt h2, by omega⟩
    · rw [if_neg hq]; exact ord_sorted l n
/-- Two that are in order and have the same are one. -/
theorem sorted_one {l : List Jb} : ∀ {a b : List Nat}, a.Pairwise (lt l) → b.Pairwise (lt l) → (∀ m, m ∈ a ↔ m ∈ b) → a = b
  | [], [], _, _, _ => rfl
  | [], y :: b, _, _, h => by have := (h y).2 (List.mem_cons_self ..); cases this
  | x :: a, [], _, _, h => by have := (h x).1 (List.mem_cons_self ..); cases this
  | x :: a, y :: b, ha, hb, h => by
    obtain ⟨a1, a2⟩ := List.pairwise_cons.1 ha
    obtain ⟨b1, b2⟩ := List.pairwise_cons.1 hb
    have e : x = y := by
      rcases List.mem_cons.1 ((h x).1 (List.mem_cons_self ..)) with e | hx
      · exact e
      · rcases List.mem_cons.1 ((h y).2 (List.mem_cons_self ..)) with e | hy
        · exact e.symm
        · exact absurd (lt_trans (a1 y hy) (b1 x hx)) lt_irrefl
    subst e
    rw [sorted_one a2 b2 fun m => ?_]
    constructor
    · intro hm
      rcases List.mem_cons.1 ((h m).1 (List.mem_cons_of_mem _ hm)) with e | hm2
      · subst e; exact absurd (a1 m hm) lt_irrefl
      · exact hm2
    · intro hm
      rcases List.mem_cons.1 ((h m).2 (List.mem_cons_of_mem _ hm)) with e | hm2
      · subst e; exact absurd (b1 m hm) lt_irrefl
      · exact hm2
end Go.Proofs.Ytcndihekpdebhaa.Ord
/- Order: what the laws ask (mathematics): how many, none twice, no later one ahead; one that is queued no more. -/
namespace Go.Proofs.Ytcndihekpdebhaa.Ord
open Job (Jb Jv)
set_option linter.unusedVariables false

def ts (l : List Jv) : List Jb := l.map (·.t)
def places (l : List Jb) : List Int := (ord l).map fun (n : Nat) => (n : Int)
/-- How many of the first n are queued. -/
def qTo (l : List Jb) : Nat → Nat
  | 0 => 0
  | n + 1 => qTo l n + (if isQ l n then 1 else 0)
theorem ins_len (l : List Jb) (n : Nat) (out : List Nat) : (insN l n out).length = out.length + 1 := by
  have := place_le l n out out.length
  unfold insN
  rw [List.length_append, List.length_append, List.length_take, List.length_drop]
  simp
  omega
theorem ord_len (l : List Jb) : ∀ n, (ordTo l n).length = qTo l n
  | 0 => rfl
  | n + 1 => by
    rw [ordTo, qTo]
    by_cases h : isQ l n = true
    · rw [if_pos h, if_pos h, ins_len, ord_len l n]
    · rw [if_neg h, if_neg h, ord_len l n]; rfl
theorem q_le (l : List Jb) : ∀ n, qTo l n ≤ n
  | 0 => Nat.le_refl _
  | n + 1 => by
    have := q_le l n
    rw [qTo]
    split <;> omega
theorem ord_at {l : List Jb} {k m : Nat} (h : (ord l)[k]? = some m) : ∃ x, l[m]? = some x ∧ x.state = 1 ∧ m < l.length := by
  have hm : m ∈ ord l := List.mem_of_getElem? h
  obtain ⟨h1, h2⟩ := (ord_mem l l.length m).1 hm
  unfold isQ at h2
  cases hx : l[m]? with
  | none => rw [hx] at h2; cases h2
  | some x => rw [hx] at h2; exact ⟨x, rfl, by simpa using h2, h1⟩
/-- None twice; no later one is ahead. -/
theorem ord_apart {l : List Jb} {i j a b : Nat} {x y : Jb} (hij : i < j) (ha : (ord l)[i]? = some a) (hb : (ord l)[j]? = some b) (hx : l[a]? = some x) (hy : l[b]? = some y) : a ≠ b ∧ ¬ x.prio < y.prio ∧ (x.prio = y.prio → ¬ y.id < x.id) := by
  obtain ⟨h1, e1⟩ := List.getElem?_eq_some_iff.1 ha
  obtain ⟨h2, e2⟩ := List.getElem?_eq_some_iff.1 hb
  have h := List.pairwise_iff_getElem.1 (ord_sorted l l.length) i j h1 h2 hij
  have e1' : (ordTo l l.length)[i] = a := e1
  have e2' : (ordTo l l.length)[j] = b := e2
  rw [e1', e2'] at h
  refine ⟨fun e => ?_, ?_⟩
  · subst e; exact lt_irrefl h
  · unfold lt at h
    rw [hx, hy] at h
    simp only [aheadJ] at h
    omega
/-- One is queued no more. -/
def heldAt (l : List Jb) (m : Nat) (s : Int) : List Jb := match l[m]? with | some x => l.set m { x with state := s } | none => l
theorem held_get (l : List Jb) (m : Nat) (s : Int) (n : Nat) : (heldAt l m s)[n]? = if n = m then (l[m]?).map (fun x => { x with state := s }) else l[n]? := by
  unfold heldAt
  cases hx : l[m]? with
  | none =>
    by_cases e : n = m
    · subst e; rw [if_pos rfl]; exact hx
    · rw [if_neg e]
  | some x =>
    have hm := (List.getElem?_eq_some_iff.1 hx).1
    simp only
    by_cases e : n = m
    · subst e
      rw [if_pos rfl, List.getElem?_set_self hm]; rfl
    · rw [if_neg e, List.getElem?_set_ne (fun h => e h.symm)]
theorem held_len (l : List Jb) (m : Nat) (s : Int) : (heldAt l m s).length = l.length := by
  unfold heldAt
  split <;> simp
theorem held_q {l : List Jb} {m : Nat} {s : Int} (hs : s ≠ 1) (n : Nat) : isQ (heldAt l m s) n = (isQ l n && n != m) := by
  unfold isQ
  rw [held_get]
  by_cases e : n = m
  · subst e
    rw [if_pos rfl]
    cases l[n]? with
    | none => rfl
    | some x => simp [hs]
  · rw [if_neg e]
    cases l[n]? with
    | none => rfl
    | some x => simp [e]
theorem held_key (l : List Jb) (m : Nat) (s : Int) (n : Nat) : ((heldAt l m s)[n]?).map (fun x => (x.prio, x.id)) = (l[n]?).map (fun x => (x.prio, x.id)) := by
  rw [held_get]
  by_cases e : n = m
  · subst e
    rw [if_pos rfl, Option.map_map]; rfl
  · rw [if_neg e]
theorem lt_key {l l' : List Jb} (h : ∀ n : Nat, (l'[n]?).map (fun x => (x.prio, x.id)) = (l[n]?).map (fun x => (x.prio, x.id))) (a b : Nat) : lt l' a b ↔ lt l a b := by
  have ha := h a
  have hb := h b
  unfold lt
  cases h1 : l'[a]? with
  | none => cases h2 : l[a]? with
    | none => exact Iff.rfl
    | some x => rw [h1, h2] at ha; cases ha
  | some x' => cases h2 : l[a]? with
    | none => rw [h1, h2] at ha; cases ha
    | some x =>
      cases h3 : l'[b]? with
      | none => cases h4 : l[b]? with
        | none => exact Iff.rfl
        | some y => rw [h3, h4] at hb; cases hb
      | some y' => cases h4 : l[b]? with
        | none => rw [h3, h4] at hb; cases hb
        | some y =>
          rw [h1, h2] at ha
          rw [h3, h4] at hb
          simp only [Option.map_some, Option.some.injEq, Prod.mk.injEq] at ha hb
          simp only [aheadJ, ha.1, ha.2, hb.1, hb.2]
theorem split_at {α : Type} {l : List α} {k : Nat} {m : α} (h : l[k]? = some m) : l = l.take k ++ m :: l.drop (k + 1) := by
  obtain ⟨hk, e⟩ := List.getElem?_eq_some_iff.1 h
  rw [← e, List.getElem_cons_drop, List.take_append_drop]
theorem ord_less {l : List Jb} {k m : Nat} {s : Int} (hs : s ≠ 1) (h : (ord l)[k]? = some m) : ord (heldAt l m s) = (ord l).take k ++ (ord l).drop (k + 1) := by
  have hsp := split_at h
  have hpw := ord_sorted l l.length
  have hpw' : (ord l).Pairwise (lt l) := hpw
  have hpw2 := hpw'
  rw [hsp] at hpw2
  obtain ⟨p1, p2, p3⟩ := List.pairwise_append.1 hpw2
  obtain ⟨p4, p5⟩ := List.pairwise_cons.1 p2
  refine sorted_one (l := l) ?_ ?_ fun x => ?_
  · exact (ord_sorted (heldAt l m s) _).imp fun {a b} => (lt_key (held_key l m s) a b).1
  · refine List.pairwise_append.2 ⟨p1, p5, fun x hx y hy => p3 x hx y (List.mem_cons_of_mem _ hy)⟩
  · show x ∈ ordTo _ _ ↔ _
    rw [ord_mem, held_len, held_q hs, List.mem_append]
    have hmem : x ∈ ord l ↔ x < l.length ∧ isQ l x = true := ord_mem l l.length x
    have hmem2 : x ∈ ord l ↔ x ∈ (ord l).take k ∨ x = m ∨ x ∈ (ord l).drop (k + 1) := by
      conv => lhs; rw [hsp]
      rw [List.mem_append, List.mem_cons]
    constructor
    · rintro ⟨h1, h2⟩
      simp at h2
      rcases hmem2.1 (hmem.2 ⟨h1, h2.1⟩) with h3 | h3 | h3
      · exact .inl h3
      · exact absurd h3 h2.2
      · exact .inr h3
    · intro h3
      have hne : x ≠ m := by
        rcases h3 with h3 | h3
        · intro e; subst e; exact lt_irrefl (p3 x h3 x (List.mem_cons_self ..))
        · intro e; subst e; exact lt_irrefl (p4 x h3)
      obtain ⟨h4, h5⟩ := hmem.1 (hmem2.2 (h3.imp id .inr))
      exact ⟨h4, by simp [h5, hne]⟩
end Go.Proofs.Ytcndihekpdebhaa.Ord
/- Whole numbers below 2^53 as float64: each is read as it is; order and sums are exact. -/
namespace Go.Proofs.Ytcndihekpdebhaa.Flo
open Ieee

/-- The word of a whole number. -/
def near (n : Int) : Nat := Ieee.double.nearest (decide (n < 0)) n.natAbs 0

theorem shl (a b : Nat) : a <<< b = a * 2 ^ b := Nat.shiftLeft_eq a b

theorem cut_exact (neg : Bool) (x d : Nat) (hx : 0 < x) : Toward.even.cut neg (x * 2 ^ d) d = x := by
  have hp : 0 < 2 ^ d := Nat.two_pow_pos d
  have h1 : d ≤ (x * 2 ^ d).log2 := by
    rw [Nat.le_log2 (by have := Nat.mul_pos hx hp; omega)]
    exact Nat.le_mul_of_pos_left _ hx
  unfold Toward.cut
  rw [Nat.min_eq_left (by omega), shl, Nat.one_mul]
  simp only [Nat.mul_mod_left, Nat.mul_div_cancel _ hp]
  simp

theorem log_shift {m : Nat} (h0 : 0 < m) (k : Nat) : (m * 2 ^ k).log2 = m.log2 + k := by
  have h1 : 2 ^ m.log2 ≤ m := Nat.log2_self_le (by omega)
  have h2 : m < 2 ^ (m.log2 + 1) := Nat.lt_log2_self
  have hm : m * 2 ^ k ≠ 0 := by have := Nat.mul_pos h0 (Nat.two_pow_pos k); omega
  apply Nat.le_antisymm
  · have : (m * 2 ^ k).log2 < m.log2 + k + 1 := by
      rw [Nat.log2_lt hm]
      calc m * 2 ^ k < 2 ^ (m.log2 + 1) * 2 ^ k := Nat.mul_lt_mul_of_pos_right h2 (Nat.two_pow_pos _)
        _ = 2 ^ (m.log2 + k + 1) := by rw [← Nat.pow_add]; congr 1; omega
    omega
  · rw [Nat.le_log2 hm]
    calc 2 ^ (m.log2 + k) = 2 ^ m.log2 * 2 ^ k := Nat.pow_add _ _ _
      _ ≤ m * 2 ^ k := Nat.mul_le_mul_right _ h1

theorem log_bounds {m : Nat} (h0 : 0 < m) (h : m < 9007199254740992) : m.log2 ≤ 52 ∧ 4503599627370496 ≤ m * 2 ^ (52 - m.log2) ∧ m * 2 ^ (52 - m.log2) < 9007199254740992 := by
  have h1 : m.log2 < 53 := (Nat.log2_lt (by omega)).2 h
  have h2 : 2 ^ m.log2 ≤ m := Nat.log2_self_le (by omega)
  have h3 : m < 2 ^ (m.log2 + 1) := Nat.lt_log2_self
  refine ⟨by omega, ?_, ?_⟩
  · calc 4503599627370496 = 2 ^ m.log2 * 2 ^ (52 - m.log2) := by rw [← Nat.pow_add, show m.log2 + (52 - m.log2) = 52 by omega]
      _ ≤ m * 2 ^ (52 - m.log2) := Nat.mul_le_mul_right _ h2
  · calc m * 2 ^ (52 - m.log2) < 2 ^ (m.log2 + 1) * 2 ^ (52 - m.log2) := Nat.mul_lt_mul_of_pos_right h3 (Nat.two_pow_pos _)
      _ = 9007199254740992 := by rw [← Nat.pow_add, show m.log2 + 1 + (52 - m.log2) = 53 by omega]

/-- The word, whatever power of two has been taken out. -/
theorem nearest_shift (neg : Bool) (m k : Nat) (h0 : 0 < m) (h : m < 9007199254740992) :
    Ieee.double.nearest neg (m * 2 ^ k) (-(k : Int)) = Ieee.double.word neg ((m.log2 + 1022) * 4503599627370496 + m * 2 ^ (52 - m.log2)) := by
  obtain ⟨hL, hlo, hhi⟩ := log_bounds h0 h
  have hp : 0 < 2 ^ k := Nat.two_pow_pos k
  have hm : ¬ m * 2 ^ k = 0 := by have := Nat.mul_pos h0 hp; omega
  have hlog : (m * 2 ^ k).log2 = m.log2 + k := log_shift h0 k
  have hleast : Ieee.double.leastPlace = -1074 := by decide
  have hlast : max (-(k : Int) + ((m * 2 ^ k).log2 : Nat) - (Ieee.double.fractionBits : Nat)) Ieee.double.leastPlace = (m.log2 : Int) - 52 := by
    rw [hlog, hleast, show Ieee.double.fractionBits = 52 from rfl]; omega
  unfold Format.nearest
  rw [if_neg hm]
  simp only [hlast]
  have hkept : Toward.even.cut neg ((m * 2 ^ k) <<< (-(k : Int) - ((m.log2 : Int) - 52)).toNat) (((m.log2 : Int) - 52) - -(k : Int)).toNat = m * 2 ^ (52 - m.log2) := by
    by_cases hk : k ≤ 52 - m.log2
    · rw [show (-(k : Int) - ((m.log2 : Int) - 52)).toNat = 52 - m.log2 - k by omega, show (((m.log2 : Int) - 52) - -(k : Int)).toNat = 0 by omega, shl, Nat.mul_assoc, ← Nat.pow_add,
        show k + (52 - m.log2 - k) = 52 - m.log2 by omega]
      have := cut_exact neg (m * 2 ^ (52 - m.log2)) 0 (by omega)
      simpa using this
    · rw [show (-(k : Int) - ((m.log2 : Int) - 52)).toNat = 0 by omega, show (((m.log2 : Int) - 52) - -(k : Int)).toNat = k - (52 - m.log2) by omega, shl, Nat.pow_zero, Nat.mul_one]
      have := cut_exact neg (m * 2 ^ (52 - m.log2)) (k - (52 - m.log2)) (by omega)
      rw [Nat.mul_assoc, ← Nat.pow_add, show 52 - m.log2 + (k - (52 - m.log2)) = k by omega] at this
      exact this
  rw [hkept, hleast, show ((m.log2 : Int) - 52 - -1074).toNat = m.log2 + 1022 by omega, show Ieee.double.binade = 4503599627370496 by decide, show Ieee.double.infRung = 9218868437227405312 by decide]
  rw [Nat.min_eq_left (by omega)]

theorem nearest_zero (neg : Bool) (k : Int) : Ieee.double.nearest neg 0 k = Ieee.double.word neg 0 := by
  unfold Format.nearest; rw [if_pos rfl]

theorem read_word (neg : Bool) (L x : Nat) (hL : L ≤ 52) (hlo : 4503599627370496 ≤ x) (hhi : x < 9007199254740992) :
    Ieee.double.read (Ieee.double.word neg ((L + 1022) * 4503599627370496 + x)) = .number neg x ((L : Int) - 52) := by
  have hsw : Ieee.double.signWeight = 9223372036854775808 := by decide
  have hb : Ieee.double.binade = 4503599627370496 := by decide
  have hi : Ieee.double.infRung = 9218868437227405312 := by decide
  have hleast : Ieee.double.leastPlace = -1074 := by decide
  have hr : (L + 1022) * 4503599627370496 + x < 9223372036854775808 := by omega
  unfold Format.read Format.word
  rw [hsw, hb, hi, hleast]
  obtain ⟨r, hq⟩ : ∃ r, r = (L + 1022) * 4503599627370496 + x := ⟨_, rfl⟩
  rw [← hq] at hr ⊢
  have h1 : (if neg = true then 9223372036854775808 + r else r) % 9223372036854775808 = r := by cases neg <;> simp <;> omega
  have h2 : ((if neg = true then 9223372036854775808 + r else r) / 9223372036854775808 % 2 == 1) = neg := by
    cases neg
    · have : r / 9223372036854775808 = 0 := Nat.div_eq_of_lt hr
      simp [this]
    · have : (9223372036854775808 + r) / 9223372036854775808 = 1 := by omega
      simp [this]
  simp only [h1, h2]
  rw [if_neg (by omega), if_pos (by omega)]
  have h3 : r / 4503599627370496 = L + 1023 := by omega
  have h4 : 4503599627370496 + r % 4503599627370496 = x := by omega
  rw [h3, h4]
  exact congrArg (Datum.number neg x) (by omega)

theorem read_zero (neg : Bool) : Ieee.double.read (Ieee.double.word neg 0) = .number neg 0 (-1074) := by cases neg <;> rfl

/-- A whole number below 2^53 is read as it is. -/
theorem read_near (n : Int) (h : n.natAbs < 9007199254740992) : ∃ d : Nat, Ieee.double.read (near n) = .number (decide (n < 0)) (n.natAbs * 2 ^ d) (-(d : Int)) := by
  by_cases h0 : n = 0
  · subst h0
    obtain ⟨d, hd⟩ : ∃ d : Nat, d = 1074 := ⟨_, rfl⟩
    refine ⟨d, ?_⟩
    unfold near
    rw [show Int.natAbs 0 = 0 from rfl, nearest_zero, read_zero, Nat.zero_mul]
    congr 1
    omega
  · obtain ⟨hL, hlo, hhi⟩ := log_bounds (m := n.natAbs) (by omega) h
    refine ⟨52 - n.natAbs.log2, ?_⟩
    have e := nearest_shift (decide (n < 0)) n.natAbs 0 (by omega) h
    rw [Nat.pow_zero, Nat.mul_one] at e
    unfold near
    rw [show Ieee.double.nearest (decide (n < 0)) n.natAbs 0 = _ from e, read_word _ _ _ hL hlo hhi]
    congr 1
    omega

theorem signed_near (n : Int) (d M : Nat) (h : d ≤ M) : signed (decide (n < 0)) (n.natAbs * 2 ^ d) (M - d) = n * (2 : Int) ^ M := by
  unfold signed
  rw [shl, Nat.mul_assoc, ← Nat.pow_add, show d + (M - d) = M by omega]
  by_cases hn : n < 0
  · simp only [hn, decide_true, if_true]
    rw [show (n.natAbs : Nat) = (-n).toNat by omega]
    push_cast
    rw [Int.toNat_of_nonneg (by omega), Int.neg_mul, Int.neg_neg]
  · simp only [hn, decide_false]
    rw [show (n.natAbs : Nat) = n.toNat by omega]
    push_cast
    rw [Int.toNat_of_nonneg (by omega)]

theorem order_near (a b : Int) (ha : a.natAbs < 9007199254740992) (hb : b.natAbs < 9007199254740992) : Ieee.double.order (near a) (near b) = some (compare a b) := by
  obtain ⟨d, hd⟩ := read_near a ha
  obtain ⟨e, he⟩ := read_near b hb
  unfold Format.order
  rw [hd, he]
  show some (compare _ _) = _
  rw [show (-(d : Int) - min (-(d : Int)) (-(e : Int))).toNat = max d e - d by omega, show (-(e : Int) - min (-(d : Int)) (-(e : Int))).toNat = max d e - e by omega]
  rw [signed_near a d _ (by omega), signed_near b e _ (by omega)]
  have hp : (0 : Int) < 2 ^ (max d e) := by exact_mod_cast Nat.two_pow_pos _
  congr 1
  rcases Int.lt_trichotomy a b with h | h | h
  · have h1 := Int.mul_lt_mul_of_pos_right h hp
    rw [Int.compare_eq_lt.2 h, Int.compare_eq_lt.2 h1]
  · subst h; rw [Int.compare_eq_eq.2 rfl, Int.compare_eq_eq.2 rfl]
  · have h1 := Int.mul_lt_mul_of_pos_right h hp
    rw [Int.compare_eq_gt.2 h, Int.compare_eq_gt.2 h1]

/-- What is written of a whole number with a power of two taken out. -/
theorem write_near (n : Int) (M : Nat) (h : n.natAbs < 9007199254740992) : Ieee.double.write (.number (decide (n < 0)) (n * (2 : Int) ^ M).natAbs (-(M : Int))) = near n := by
  unfold Format.write near
  simp only
  rw [Int.natAbs_mul, show ((2 : Int) ^ M).natAbs = 2 ^ M by rw [Int.natAbs_pow]; rfl]
  by_cases h0 : n = 0
  · subst h0; simp [nearest_zero]
  · rw [nearest_shift _ _ _ (by omega) h]
    have e := nearest_shift (decide (n < 0)) n.natAbs 0 (by omega) h
    rw [Nat.pow_zero, Nat.mul_one] at e
    exact e.symm

theorem add_near (a b : Int) (ha : a.natAbs < 9007199254740992) (hb : b.natAbs < 9007199254740992) (hab : (a + b).natAbs < 9007199254740992) : Ieee.double.add (near a) (near b) = some (near (a + b)) := by
  obtain ⟨d, hd⟩ := read_near a ha
  obtain ⟨e, he⟩ := read_near b hb
  unfold Format.add
  rw [hd, he]
  unfold Datum.sum
  simp only
  rw [show (-(d : Int) - min (-(d : Int)) (-(e : Int))).toNat = max d e - d by omega, show (-(e : Int) - min (-(d : Int)) (-(e : Int))).toNat = max d e - e by omega]
  rw [signed_near a d _ (by omega), signed_near b e _ (by omega), ← Int.add_mul, show min (-(d : Int)) (-(e : Int)) = -((max d e : Nat) : Int) by omega]
  have hp : (0 : Int) < 2 ^ (max d e) := by exact_mod_cast Nat.two_pow_pos _
  rw [Option.map_some]
  congr 1
  rw [← write_near (a + b) (max d e) hab]
  congr 2
  by_cases h0 : a + b = 0
  · rw [h0, Int.zero_mul, if_pos rfl]
    by_cases h1 : a < 0
    · have : ¬ b < 0 := by omega
      simp [this]
    · simp [h1]
  · have h1 : ¬ (a + b) * 2 ^ (max d e) = 0 := by
      intro h
      rcases Int.mul_eq_zero.1 h with h | h <;> omega
    rw [if_neg h1]
    rw [decide_eq_decide]
    constructor
    · intro h
      by_cases h2 : a + b < 0
      · exact h2
      · have := Int.mul_nonneg (show 0 ≤ a + b by omega) (Int.le_of_lt hp); omega
    · intro h; exact Int.mul_neg_of_neg_of_pos h hp

end Go.Proofs.Ytcndihekpdebhaa.Flo
/- Whole numbers of any 64-bit size as float64: beyond 2^53 they lie beyond every smaller one; products; back to integers. -/
namespace Go.Proofs.Ytcndihekpdebhaa.Flo
open Ieee

/-- A normal word read, its place a whole number. -/
theorem read_word' (neg : Bool) (d x : Nat) (hd : d ≤ 60) (hlo : 4503599627370496 ≤ x) (hhi : x < 9007199254740992) :
    Ieee.double.read (Ieee.double.word neg ((d + 1074) * 4503599627370496 + x)) = .number neg x (d : Int) := by
  have hsw : Ieee.double.signWeight = 9223372036854775808 := by decide
  have hb : Ieee.double.binade = 4503599627370496 := by decide
  have hi : Ieee.double.infRung = 9218868437227405312 := by decide
  have hleast : Ieee.double.leastPlace = -1074 := by decide
  have hr : (d + 1074) * 4503599627370496 + x < 9223372036854775808 := by omega
  unfold Format.read Format.word
  rw [hsw, hb, hi, hleast]
  obtain ⟨r, hq⟩ : ∃ r, r = (d + 1074) * 4503599627370496 + x := ⟨_, rfl⟩
  rw [← hq] at hr ⊢
  have h1 : (if neg = true then 9223372036854775808 + r else r) % 9223372036854775808 = r := by cases neg <;> simp <;> omega
  have h2 : ((if neg = true then 9223372036854775808 + r else r) / 9223372036854775808 % 2 == 1) = neg := by
    cases neg
    · have : r / 9223372036854775808 = 0 := Nat.div_eq_of_lt hr
      simp [this]
    · have : (9223372036854775808 + r) / 9223372036854775808 = 1 := by omega
      simp [this]
  simp only [h1, h2]
  rw [if_neg (by omega), if_pos (by omega)]
  have h3 : r / 4503599627370496 = d + 1075 := by omega
  have h4 : 4503599627370496 + r % 4503599627370496 = x := by omega
  rw [h3, h4]
  exact congrArg (Datum.number neg x) (by omega)

theorem cut_bounds (neg : Bool) (n d : Nat) (h : n.log2 = 52 + d) (h0 : 0 < n) : 4503599627370496 ≤ Toward.even.cut neg n d ∧ Toward.even.cut neg n d ≤ 9007199254740992 := by
  have h1 : 2 ^ n.log2 ≤ n := Nat.log2_self_le (by omega)
  have h2 : n < 2 ^ (n.log2 + 1) := Nat.lt_log2_self
  have hp : 0 < 2 ^ d := Nat.two_pow_pos d
  rw [h, Nat.pow_add] at h1
  rw [h, show 52 + d + 1 = 53 + d by omega, Nat.pow_add] at h2
  have hlo : 4503599627370496 ≤ n / 2 ^ d := by
    rw [Nat.le_div_iff_mul_le hp]; exact h1
  have hhi : n / 2 ^ d < 9007199254740992 := by
    rw [Nat.div_lt_iff_lt_mul hp]; exact h2
  unfold Toward.cut
  rw [Nat.min_eq_left (by omega), shl, Nat.one_mul]
  simp only
  generalize (decide (2 ^ d < 2 * (n % 2 ^ d)) || (2 ^ d == 2 * (n % 2 ^ d) && n / 2 ^ d % 2 == 1)) = c
  have : c.toNat ≤ 1 := by cases c <;> simp
  omega

/-- Beyond 2^53: read as some number that is at least 2^53. -/
theorem read_big (n : Int) (h : 9007199254740992 ≤ n.natAbs) (hh : n.natAbs < 18446744073709551616) :
    ∃ (x e : Nat), Ieee.double.read (near n) = .number (decide (n < 0)) x (e : Int) ∧ 9007199254740992 ≤ x * 2 ^ e := by
  have hL1 : 53 ≤ n.natAbs.log2 := (Nat.le_log2 (by omega)).2 h
  have hL2 : n.natAbs.log2 < 64 := (Nat.log2_lt (by omega)).2 hh
  obtain ⟨d, hd⟩ : ∃ d, n.natAbs.log2 = 52 + d := ⟨n.natAbs.log2 - 52, by omega⟩
  obtain ⟨hc1, hc2⟩ := cut_bounds (decide (n < 0)) n.natAbs d hd (by omega)
  generalize hq : Toward.even.cut (decide (n < 0)) n.natAbs d = q at hc1 hc2
  have hleast : Ieee.double.leastPlace = -1074 := by decide
  have e : near n = Ieee.double.word (decide (n < 0)) ((d + 1074) * 4503599627370496 + q) := by
    unfold near Format.nearest
    rw [if_neg (by omega)]
    have hlast : max ((0 : Int) + (n.natAbs.log2 : Nat) - (Ieee.double.fractionBits : Nat)) Ieee.double.leastPlace = (d : Int) := by
      rw [hleast, hd, show Ieee.double.fractionBits = 52 from rfl]; omega
    simp only [hlast]
    rw [show ((0 : Int) - (d : Int)).toNat = 0 by omega, show ((d : Int) - 0).toNat = d by omega, shl, Nat.pow_zero, Nat.mul_one, hq, hleast,
      show ((d : Int) - -1074).toNat = d + 1074 by omega, show Ieee.double.binade = 4503599627370496 by decide, show Ieee.double.infRung = 9218868437227405312 by decide, Nat.min_eq_left (by omega)]
  have hd1 : 1 ≤ d := by omega
  have hd2 : d < 12 := by omega
  by_cases h53 : q = 9007199254740992
  · refine ⟨4503599627370496, d + 1, ?_, ?_⟩
    · have := read_word' (decide (n < 0)) (d + 1) 4503599627370496 (by omega) (by omega) (by omega)
      rw [e, h53, show (d + 1074) * 4503599627370496 + 9007199254740992 = (d + 1 + 1074) * 4503599627370496 + 4503599627370496 by omega]
      exact this
    · have : 2 ^ 1 ≤ 2 ^ (d + 1) := Nat.pow_le_pow_right (by omega) (by omega)
      omega
  · refine ⟨q, d, ?_, ?_⟩
    · rw [e]; exact read_word' (decide (n < 0)) d q (by omega) hc1 (by omega)
    · have : 2 ^ 1 ≤ 2 ^ d := Nat.pow_le_pow_right (by omega) (by omega)
      have := Nat.mul_le_mul hc1 this
      omega

theorem order_big (n m : Int) (h : 9007199254740992 ≤ n.natAbs) (hh : n.natAbs < 18446744073709551616) (hm : m.natAbs < 9007199254740992) :
    Ieee.double.order (near n) (near m) = some (compare n m) ∧ Ieee.double.order (near m) (near n) = some (compare m n) := by
  obtain ⟨x, e, hx, hx2⟩ := read_big n h hh
  obtain ⟨d, hd⟩ := read_near m hm
  have hp : (0 : Int) < 2 ^ d := by exact_mod_cast Nat.two_pow_pos _
  have hpn : 0 < 2 ^ d := Nat.two_pow_pos d
  have hS : signed (decide (m < 0)) (m.natAbs * 2 ^ d) 0 = m * (2 : Int) ^ d := by
    have := signed_near m d d (Nat.le_refl _); rwa [Nat.sub_self] at this
  have hB : signed (decide (n < 0)) x (e + d) = if n < 0 then -(((x * 2 ^ e * 2 ^ d : Nat)) : Int) else ((x * 2 ^ e * 2 ^ d : Nat) : Int) := by
    unfold signed; rw [shl, Nat.pow_add, ← Nat.mul_assoc]
    by_cases hn : n < 0 <;> simp [hn]
  generalize x * 2 ^ e = y at hx2 hB
  have hmy : (m.natAbs : Int) * 2 ^ d < ((y * 2 ^ d : Nat) : Int) := by
    have := Nat.mul_lt_mul_of_pos_right (show m.natAbs < y by omega) hpn
    push_cast
    exact_mod_cast this
  have hm1 : m * 2 ^ d ≤ (m.natAbs : Int) * 2 ^ d := Int.mul_le_mul_of_nonneg_right (by omega) (by omega)
  have hm2 : -(m.natAbs : Int) * 2 ^ d ≤ m * 2 ^ d := Int.mul_le_mul_of_nonneg_right (by omega) (by omega)
  rw [Int.neg_mul] at hm2
  unfold Format.order
  rw [hx, hd]
  constructor
  · show some (compare _ _) = _
    rw [show ((e : Int) - min (e : Int) (-(d : Int))).toNat = e + d by omega, show (-(d : Int) - min (e : Int) (-(d : Int))).toNat = 0 by omega, hS, hB]
    congr 1
    by_cases hn : n < 0
    · rw [if_pos hn, Int.compare_eq_lt.2 (show n < m by omega), Int.compare_eq_lt.2 (by omega)]
    · rw [if_neg hn, Int.compare_eq_gt.2 (show m < n by omega), Int.compare_eq_gt.2 (by omega)]
  · show some (compare _ _) = _
    rw [show ((e : Int) - min (-(d : Int)) (e : Int)).toNat = e + d by omega, show (-(d : Int) - min (-(d : Int)) (e : Int)).toNat = 0 by omega, hS, hB]
    congr 1
    by_cases hn : n < 0
    · rw [if_pos hn, Int.compare_eq_gt.2 (show n < m by omega), Int.compare_eq_gt.2 (by omega)]
    · rw [if_neg hn, Int.compare_eq_lt.2 (show m < n by omega), Int.compare_eq_lt.2 (by omega)]

/-- Order of two 64-bit numbers of which one is below 2^53. -/
theorem order_one (n m : Int) (hh : n.natAbs < 18446744073709551616) (hm : m.natAbs < 9007199254740992) :
    Ieee.double.order (near n) (near m) = some (compare n m) ∧ Ieee.double.order (near m) (near n) = some (compare m n) := by
  by_cases h : 9007199254740992 ≤ n.natAbs
  · exact order_big n m h hh hm
  · exact ⟨order_near n m (by omega) hm, order_near m n hm (by omega)⟩

theorem num_eq {s t : Bool} {m n : Nat} {e f : Int} (h1 : s = t) (h2 : m = n) (h3 : e = f) : Datum.number s m e = .number t n f := by subst h1 h2 h3; rfl

theorem mul_near (a b : Int) (ha : a.natAbs < 9007199254740992) (hb : b.natAbs < 9007199254740992) (ha0 : 0 ≤ a) (hb0 : 0 ≤ b) (hab : (a * b).natAbs < 9007199254740992) :
    Ieee.double.mul (near a) (near b) = some (near (a * b)) := by
  obtain ⟨d, hd⟩ := read_near a ha
  obtain ⟨e, he⟩ := read_near b hb
  unfold Format.mul
  rw [hd, he]
  unfold Datum.product
  simp only [Option.map_some]
  congr 1
  rw [← write_near (a * b) (d + e) hab]
  have h0 : 0 ≤ a * b := Int.mul_nonneg ha0 hb0
  have h1 : (decide (a < 0) ^^ decide (b < 0)) = decide (a * b < 0) := by
    have e1 : decide (a < 0) = false := by simp; omega
    have e2 : decide (b < 0) = false := by simp; omega
    have e3 : decide (a * b < 0) = false := by simp; omega
    rw [e1, e2, e3]; rfl
  have h2 : a.natAbs * 2 ^ d * (b.natAbs * 2 ^ e) = (a * b * (2 : Int) ^ (d + e)).natAbs := by
    rw [Int.natAbs_mul, Int.natAbs_mul, show ((2 : Int) ^ (d + e)).natAbs = 2 ^ (d + e) by rw [Int.natAbs_pow]; rfl, Nat.pow_add]
    rw [Nat.mul_mul_mul_comm]
  have h3 : -(d : Int) + -(e : Int) = -((d + e : Nat) : Int) := by omega
  exact congrArg Ieee.double.write (num_eq h1 h2 h3)

theorem toInt_near (n : Int) (h : n.natAbs < 9007199254740992) : (Ieee.double.read (near n)).toInt .zero = some n := by
  obtain ⟨d, hd⟩ := read_near n h
  rw [hd]
  unfold Datum.toInt Datum.integral
  simp only
  have e : Toward.zero.cut (decide (n < 0)) ((n.natAbs * 2 ^ d) <<< (-(d : Int)).toNat) (- -(d : Int)).toNat = n.natAbs := by
    rw [show (-(d : Int)).toNat = 0 by omega, show (- -(d : Int)).toNat = d by omega, shl, Nat.pow_zero, Nat.mul_one]
    unfold Toward.cut
    by_cases h0 : n.natAbs = 0
    · simp [h0]
    · have h1 : d ≤ (n.natAbs * 2 ^ d).log2 := by
        rw [log_shift (by omega)]; omega
      rw [Nat.min_eq_left (by omega), shl, Nat.one_mul]
      simp [Nat.mul_div_cancel _ (Nat.two_pow_pos d)]
  rw [e]
  unfold signed
  rw [shl, Nat.pow_zero, Nat.mul_one]
  by_cases hn : n < 0
  · simp only [hn, decide_true, if_true]; congr 1; omega
  · simp only [hn, decide_false]; simp; omega

end Go.Proofs.Ytcndihekpdebhaa.Flo
/- Plane: boxes as whole numbers. -/
namespace Go.Proofs.Ytcndihekpdebhaa.Pla

/-- May a box be? -/
def goodB (t n l m : Int) : Bool := decide (0 ≤ t ∧ t ≤ 1099511627776 ∧ 1 ≤ l ∧ l ≤ 1048576 ∧ 0 ≤ n ∧ n ≤ 31 ∧ 1 ≤ m ∧ m ≤ 32 ∧ n + m ≤ 32)
theorem goodB_iff {t n l m : Int} : goodB t n l m = true ↔ 0 ≤ t ∧ t ≤ 1099511627776 ∧ 1 ≤ l ∧ l ≤ 1048576 ∧ 0 ≤ n ∧ n ≤ 31 ∧ 1 ≤ m ∧ m ≤ 32 ∧ n + m ≤ 32 := by
  unfold goodB; rw [decide_eq_true_iff]

/-- Do two that may be meet? -/
def crossB (t n l m t' n' l' m' : Int) : Bool := decide (t < t' + l' ∧ t' < t + l ∧ n < n' + m' ∧ n' < n + m)
theorem crossB_iff {t n l m t' n' l' m' : Int} : crossB t n l m t' n' l' m' = true ↔ t < t' + l' ∧ t' < t + l ∧ n < n' + m' ∧ n' < n + m := by
  unfold crossB; rw [decide_eq_true_iff]
def meetsB (t n l m t' n' l' m' : Int) : Bool := goodB t n l m && goodB t' n' l' m' && crossB t n l m t' n' l' m'
def areaN (t n l m : Int) : Int := if goodB t n l m = true then l * m else 0

theorem crossB_comm (t n l m t' n' l' m' : Int) : crossB t n l m t' n' l' m' = crossB t' n' l' m' t n l m := by
  rw [Bool.eq_iff_iff, crossB_iff, crossB_iff]; omega
theorem meetsB_comm (t n l m t' n' l' m' : Int) : meetsB t n l m t' n' l' m' = meetsB t' n' l' m' t n l m := by
  unfold meetsB; rw [crossB_comm, Bool.and_comm (goodB t n l m)]

theorem area_bound {l m : Int} (h1 : 1 ≤ l) (h2 : l ≤ 1048576) (h3 : 1 ≤ m) (h4 : m ≤ 32) : 1 ≤ l * m ∧ l * m ≤ 33554432 := by
  constructor
  · have := Int.mul_le_mul h1 h3 (by omega) (by omega); omega
  · have := Int.mul_le_mul h2 h4 (by omega) (by omega); omega

/-! ## Floats -/

def leF (x y : Nat) : Bool := FloatKind.f64.format.order x y == some .lt || FloatKind.f64.format.order x y == some .eq
def ltF (x y : Nat) : Bool := FloatKind.f64.format.order x y == some .lt

def Lit64 (n : Int) : Prop := n.natAbs < 18446744073709551616
theorem leF_near {a b : Int} (h : (a.natAbs < 18446744073709551616 ∧ b.natAbs < 9007199254740992) ∨ (b.natAbs < 18446744073709551616 ∧ a.natAbs < 9007199254740992)) : leF (Flo.near a) (Flo.near b) = decide (a ≤ b) := by
  have e : Ieee.double.order (Flo.near a) (Flo.near b) = some (compare a b) := by
    rcases h with ⟨h1, h2⟩ | ⟨h1, h2⟩
    · exact (Flo.order_one a b h1 h2).1
    · exact (Flo.order_one b a h1 h2).2
  show (Ieee.double.order (Flo.near a) (Flo.near b) == some .lt || Ieee.double.order (Flo.near a) (Flo.near b) == some .eq) = _
  rw [e]
  rcases Int.lt_trichotomy a b with h | h | h
  · rw [Int.compare_eq_lt.2 h, decide_eq_true (by omega)]; rfl
  · rw [Int.compare_eq_eq.2 h, decide_eq_true (by omega)]; rfl
  · rw [Int.compare_eq_gt.2 h, decide_eq_false (by omega)]; rfl

theorem ltF_near {a b : Int} (h1 : a.natAbs < 9007199254740992) (h2 : b.natAbs < 9007199254740992) : ltF (Flo.near a) (Flo.near b) = decide (a < b) := by
  have e := Flo.order_near a b h1 h2
  show (Ieee.double.order (Flo.near a) (Flo.near b) == some .lt) = _
  rw [e]
  rcases Int.lt_trichotomy a b with h | h | h
  · rw [Int.compare_eq_lt.2 h, decide_eq_true (by omega)]; rfl
  · rw [Int.compare_eq_eq.2 h, decide_eq_false (by omega)]; rfl
  · rw [Int.compare_eq_gt.2 h, decide_eq_false (by omega)]; rfl

theorem near_0 : Flo.near 0 = 0 := by decide
theorem near_1 : Flo.near 1 = 4607182418800017408 := by decide
theorem near_31 : Flo.near 31 = 4629418941960159232 := by decide
theorem near_32 : Flo.near 32 = 4629700416936869888 := by decide
theorem near_wall : Flo.near 1048576 = 4697254411347427328 := by decide
theorem near_time : Flo.near 1099511627776 = 4787326403894837248 := by decide

end Go.Proofs.Ytcndihekpdebhaa.Pla
/- Plane: boxes in memory. -/
namespace Go.Proofs.Ytcndihekpdebhaa.Pla
open Go.RowKit
open Go.Sort

theorem cell_keep {w1 w' : World} (hb : Below w1.heap.size w1 w') {b o : Nat} {v : Value} (h : w1.cell? ⟨b, o, none⟩ = some v) : w'.cell? ⟨b, o, none⟩ = some v := by
  rw [hb.cell (p := ⟨b, o, none⟩) (World.block_lt_of_cell? w1 _ h)]; exact h
theorem below_keep {w w1 w' : World} (h : Below w.heap.size w w1) (hb : Below w1.heap.size w1 w') : Below w.heap.size w w' := h.trans (hb.mono h.size)
def Wide (a : Int) : Prop := a.natAbs < 18446744073709551616
/-- A box, as numbers. -/
structure Bx where
  t : Int
  n : Int
  l : Int
  m : Int
def Bx.zero : Bx := ⟨0, 0, 0, 0⟩
def Bx.wide (x : Bx) : Prop := Wide x.t ∧ Wide x.n ∧ Wide x.l ∧ Wide x.m
def Bx.good (x : Bx) : Bool := goodB x.t x.n x.l x.m
def Bx.meets (x y : Bx) : Bool := meetsB x.t x.n x.l x.m y.t y.n y.l y.m
/-- The boxes of a slice can be read. -/
def Boxes (w : World) (a : Option Addr) (l : List Bx) : Prop :=
  l = [] ∨ ∃ b off, a = some ⟨b, off, none⟩ ∧ ∀ j (h : j < l.length), w.cell? ⟨b, off + j * 4, none⟩ = some (.int .i64 l[j].t) ∧ w.cell? ⟨b, off + j * 4 + 1, none⟩ = some (.int .i64 l[j].n) ∧ w.cell? ⟨b, off + j * 4 + 2, none⟩ = some (.int .i64 l[j].l) ∧ w.cell? ⟨b, off + j * 4 + 3, none⟩ = some (.int .i64 l[j].m)
theorem boxes_lt {w : World} {a : Option Addr} {l : List Bx} (h : Boxes w a l) : l = [] ∨ ∃ b off, a = some ⟨b, off, none⟩ ∧ b < w.heap.size ∧ ∀ j (h : j < l.length), w.cell? ⟨b, off + j * 4, none⟩ = some (.int .i64 l[j].t) ∧ w.cell? ⟨b, off + j * 4 + 1, none⟩ = some (.int .i64 l[j].n) ∧ w.cell? ⟨b, off + j * 4 + 2, none⟩ = some (.int .i64 l[j].l) ∧ w.cell? ⟨b, off + j * 4 + 3, none⟩ = some (.int .i64 l[j].m) := by
  rcases h with h | ⟨b, off, h1, h2⟩
  · exact .inl h
  · by_cases hl : l = []
    · exact .inl hl
    · exact .inr ⟨b, off, h1, World.block_lt_of_cell? w _ (h2 0 (List.length_pos_iff.2 hl)).1, h2⟩
theorem boxes_below {w w' : World} {a : Option Addr} {l : List Bx} (h : Boxes w a l) (hb : Below w.heap.size w w') : Boxes w' a l := by
  rcases h with h | ⟨b, off, h1, h2⟩
  · exact .inl h
  · exact .inr ⟨b, off, h1, fun j hj => ⟨cell_keep hb (h2 j hj).1, cell_keep hb (h2 j hj).2.1, cell_keep hb (h2 j hj).2.2.1, cell_keep hb (h2 j hj).2.2.2⟩⟩
theorem boxes_at {w : World} {a : Option Addr} {l : List Bx} (h : Boxes w a l) {k : Nat} (hk : k < l.length) : ∃ b off, Hid (a = some ⟨b, off, none⟩) ∧ b < w.heap.size ∧ w.cell? ⟨b, off + k * 4, none⟩ = some (.int .i64 l[k].t) ∧ w.cell? ⟨b, off + k * 4 + 1, none⟩ = some (.int .i64 l[k].n) ∧ w.cell? ⟨b, off + k * 4 + 2, none⟩ = some (.int .i64 l[k].l) ∧ w.cell? ⟨b, off + k * 4 + 3, none⟩ = some (.int .i64 l[k].m) := by
  rcases boxes_lt h with h | ⟨b, off, h1, h2, h3⟩
  · subst h; simp at hk
  · exact ⟨b, off, h1, h2, h3 k hk⟩
end Go.Proofs.Ytcndihekpdebhaa.Pla
/- Plane: runs of nodes, plain; a list of boxes that a call makes; the boxes of some nodes. -/
namespace Go.Proofs.Ytcndihekpdebhaa.Pla
set_option maxRecDepth 100000
open Go.RowKit
open Go.Sort

/-- Bit n of a whole number. -/
def bitB (a : Int) (n : Nat) : Bool := bits BinOp.and IntKind.i64 (a / 2 ^ n) 1 == 1

theorem and_one (x : Int) : bits BinOp.and IntKind.i64 x 1 = x % 2 := by
  have h : (BitVec.ofInt 64 x &&& BitVec.ofInt 64 1).toNat = (x % 2).toNat := by
    rw [BitVec.toNat_and, show (BitVec.ofInt 64 1).toNat = 1 from rfl, nat_mask1, BitVec.toNat_ofInt]
    omega
  show IntKind.i64.wrap ((BitVec.ofInt 64 x &&& BitVec.ofInt 64 1).toNat : Int) = _
  rw [h]
  have e := IntWalk.i64_in ((x % 2).toNat : Int) (by omega)
  rw [e]; omega
theorem bitB_not (a : Int) (n : Nat) : (bits BinOp.and IntKind.i64 (a / 2 ^ n) 1 == 0) = !bitB a n := by
  unfold bitB
  rw [and_one]
  rcases Int.emod_two_eq (a / 2 ^ n) with h | h <;> rw [h] <;> rfl
theorem bitB_mod (a : Int) (n : Nat) : bitB a n = decide (a / 2 ^ n % 2 = 1) := by
  unfold bitB
  rw [and_one]
  rcases Int.emod_two_eq (a / 2 ^ n) with h | h <;> rw [h] <;> rfl

def bump : List (Nat × Nat) → List (Nat × Nat)
  | [] => []
  | [(a, k)] => [(a, k + 1)]
  | x :: y :: l => x :: bump (y :: l)

theorem bump_snoc (l : List (Nat × Nat)) (a k : Nat) : bump (l ++ [(a, k)]) = l ++ [(a, k + 1)] := by
  induction l with
  | nil => rfl
  | cons x l ih =>
    cases l with
    | nil => rfl
    | cons y l => rw [List.cons_append, List.cons_append, bump, ← List.cons_append, ih]; rfl

/-- The runs among the first n. -/
def runs (f : Nat → Bool) : Nat → List (Nat × Nat)
  | 0 => []
  | n + 1 => if f n = true then (if 0 < n ∧ f (n - 1) = true then bump (runs f n) else runs f n ++ [(n, 1)]) else runs f n

theorem runs_skip {f : Nat → Bool} {n : Nat} (h : f n = false) : runs f (n + 1) = runs f n := by
  rw [runs, if_neg (by rw [h]; simp)]
theorem runs_new {f : Nat → Bool} {n : Nat} (h : f n = true) (h0 : n = 0 ∨ f (n - 1) = false) : runs f (n + 1) = runs f n ++ [(n, 1)] := by
  rw [runs, if_pos h, if_neg]
  rintro ⟨h1, h2⟩
  rcases h0 with h0 | h0
  · omega
  · rw [h0] at h2; cases h2
theorem runs_more {f : Nat → Bool} {n : Nat} (h : f n = true) (h0 : 0 < n) (h1 : f (n - 1) = true) : runs f (n + 1) = bump (runs f n) := by
  rw [runs, if_pos h, if_pos ⟨h0, h1⟩]
theorem runs_run {f : Nat → Bool} {a : Nat} (h0 : a = 0 ∨ f (a - 1) = false) : ∀ k, (∀ i, i < k + 1 → f (a + i) = true) → runs f (a + (k + 1)) = runs f a ++ [(a, k + 1)] := by
  intro k
  induction k with
  | zero => intro h; exact runs_new (h 0 (by omega)) h0
  | succ k ih =>
    intro h
    rw [show a + (k + 1 + 1) = (a + (k + 1)) + 1 by omega, runs_more (h (k + 1) (by omega)) (by omega) (by rw [show a + (k + 1) - 1 = a + k by omega]; exact h k (by omega)), ih (fun i hi => h i (by omega)), bump_snoc]
theorem bump_length : ∀ l : List (Nat × Nat), (bump l).length = l.length
  | [] => rfl
  | [_] => rfl
  | x :: y :: l => by rw [bump, List.length_cons, bump_length (y :: l)]; rfl
theorem runs_length (f : Nat → Bool) : ∀ n, (runs f n).length ≤ n
  | 0 => Nat.le_refl _
  | n + 1 => by
    have := runs_length f n
    rw [runs]; split
    · split
      · rw [bump_length]; omega
      · rw [List.length_append]; simp; omega
    · omega

/-! ## A list of boxes of the call's own -/

def boxCells (l : List Bx) : List Value := l.flatMap fun x => [.int .i64 x.t, .int .i64 x.n, .int .i64 x.l, .int .i64 x.m]
theorem boxCells_length : ∀ l : List Bx, (boxCells l).length = l.length * 4
  | [] => rfl
  | x :: l => by
    have := boxCells_length l
    unfold boxCells at this ⊢
    rw [List.flatMap_cons, List.length_append, this, List.length_cons]; simp; omega
theorem boxCells_snoc (l : List Bx) (x : Bx) : boxCells (l ++ [x]) = boxCells l ++ [.int .i64 x.t, .int .i64 x.n, .int .i64 x.l, .int .i64 x.m] := by
  unfold boxCells; rw [List.flatMap_append]; simp
theorem boxCells_at : ∀ (l : List Bx) (j : Nat) (h : j < l.length), (boxCells l)[j * 4]? = some (.int .i64 l[j].t) ∧ (boxCells l)[j * 4 + 1]? = some (.int .i64 l[j].n) ∧ (boxCells l)[j * 4 + 2]? = some (.int .i64 l[j].l) ∧ (boxCells l)[j * 4 + 3]? = some (.int .i64 l[j].m)
  | x :: l, 0, _ => by unfold boxCells; exact ⟨rfl, rfl, rfl, rfl⟩
  | x :: l, j + 1, h => by
    have h' : j < l.length := by simpa using h
    have := boxCells_at l j h'
    have e : boxCells (x :: l) = [.int .i64 x.t, .int .i64 x.n, .int .i64 x.l, .int .i64 x.m] ++ boxCells l := rfl
    have g : ∀ i, (boxCells (x :: l))[4 + i]? = (boxCells l)[i]? := fun i => by
      rw [e, List.getElem?_append_right (by simp)]; simp
    rw [show (j + 1) * 4 = 4 + j * 4 by omega, show 4 + j * 4 + 1 = 4 + (j * 4 + 1) by omega, show 4 + j * 4 + 2 = 4 + (j * 4 + 2) by omega, show 4 + j * 4 + 3 = 4 + (j * 4 + 3) by omega, g, g, g, g]
    exact this

def Owns (w : World) (base : Nat) (v : Value) (l : List Bx) : Prop := w.ownsRow base 52 4 v l.length (boxCells l)

theorem owns_boxes {w : World} {base : Nat} {v : Value} {l : List Bx} (h : Owns w base v l) : ∃ a cap, v = .slice a l.length cap ∧ l.length ≤ cap ∧ cap ≤ maxLen ∧ (a = none → cap = 0) ∧ Boxes w a l := by
  obtain ⟨h1, h2⟩ := h
  rcases h2 with ⟨rfl, h3⟩ | ⟨g, cap, cur, rfl, _, hg, hn, hm, hs, ht⟩
  · have hl : l = [] := List.length_eq_zero_iff.1 h3
    subst hl
    exact ⟨none, 0, rfl, Nat.le_refl _, by unfold maxLen; omega, fun _ => rfl, .inl rfl⟩
  · refine ⟨_, cap, rfl, hn, hm, (fun h => by cases h), .inr ⟨g, 0, rfl, fun j hj => ?_⟩⟩
    have e : ∀ i, i < l.length * 4 → w.cell? ⟨g, i, none⟩ = (boxCells l)[i]? := fun i hi => by
      have : (cur.toList.take (l.length * 4))[i]? = (boxCells l)[i]? := by rw [ht]
      rw [List.getElem?_take, if_pos hi] at this
      unfold World.cell?
      simp only [hg]
      simpa using this
    have := boxCells_at l j hj
    rw [Nat.zero_add, e _ (by omega), e _ (by omega), e _ (by omega), e _ (by omega)]
    exact this

theorem info_box : (Try.prog.info? 52).map (fun i => (i.zero, i.size, i.bytes)) = some (some (.agg #[.int .i64 0, .int .i64 0, .int .i64 0, .int .i64 0]), 4, 32) := by kernel_rfl

theorem wpList_append_box {w : World} {ops : Array Oper} {rest : List Oper} {o : Oper} {A : Act} {Q : Exit → Act → World → Prop} (hgd : o.guard = none) (s x : Operand)
    (ho : o.op = .call { callee := .builtin .append, args := #[s, x], argTypes := #[31, 31] })
    (base : Nat) (v : Value) (l : List Bx) (hs : A.eval s = v) (hown : Owns w base v l) (g : Nat) (hx : A.eval x = .slice (some ⟨g, 0, none⟩) 1 1) (y : Bx)
    (hy : w.cell? ⟨g, 0, none⟩ = some (.int .i64 y.t) ∧ w.cell? ⟨g, 1, none⟩ = some (.int .i64 y.n) ∧ w.cell? ⟨g, 2, none⟩ = some (.int .i64 y.l) ∧ w.cell? ⟨g, 3, none⟩ = some (.int .i64 y.m))
    (hsz : l.length ≤ 1000000) (hbase : base ≤ w.heap.size)
    (h : ∀ v' w', Owns w' base v' (l ++ [y]) → Below base w w' → wpList Try.prog ops Q rest (A.put o.dst v') w') : wpList Try.prog ops Q (o :: rest) A w := by
  obtain ⟨i0, hi, hz0, hz1, hz2⟩ := info_parts info_box
  refine wpList_append_own _ hgd s x 31 ho base 52 i0 (.agg #[.int .i64 0, .int .i64 0, .int .i64 0, .int .i64 0]) 4 32 Try.underlying31 hi hz0 hz1 hz2 rfl (by decide) v l.length _ hs hown ⟨g, 0, none⟩ 1 1 [.int .i64 y.t, .int .i64 y.n, .int .i64 y.l, .int .i64 y.m] hx rfl ?_ ?_ (by unfold maxLen; omega) (by omega) hbase ?_
  · intro j u hj
    have e : (⟨g, 0, none⟩ : Addr).add j = ⟨g, j, none⟩ := by
      unfold Addr.add; split
      · subst_vars; rfl
      · simp
    rw [e]
    obtain ⟨h0, h1, h2, h3⟩ := hy
    match j, hj with
    | 0, hj => simp at hj; rw [h0, hj]
    | 1, hj => simp at hj; rw [h1, hj]
    | 2, hj => simp at hj; rw [h2, hj]
    | 3, hj => simp at hj; rw [h3, hj]
  · intro u hu
    simp at hu
    rcases hu with rfl | rfl | rfl | rfl <;> rfl
  · intro v' w' h1 h2 _
    refine h v' w' ?_ ((Below.refl _ _).grown h2 hbase fun k hk => ?_)
    · unfold Owns; rw [boxCells_snoc, List.length_append]; exact h1
    · exact (hown.lt k hk).1

theorem owns_alloc {w : World} {base : Nat} {v : Value} {l : List Bx} (h : Owns w base v l) (o : Obj) : Owns (w.alloc o) base v l := World.ownsRow.alloc h o

/-- The boxes of some runs. -/
def boxesOf (tick long : Int) (l : List (Nat × Nat)) : List Bx := l.map fun r => ⟨tick, r.1, long, r.2⟩
theorem boxesOf_snoc (tick long : Int) (l : List (Nat × Nat)) (r : Nat × Nat) : boxesOf tick long (l ++ [r]) = boxesOf tick long l ++ [⟨tick, r.1, long, r.2⟩] := by unfold boxesOf; rw [List.map_append]; rfl
def rowsL (tick long mask : Int) : List Bx := if goodB tick 0 long 1 = true then boxesOf tick long (runs (bitB mask) 32) else []
/-- What a call that makes a list of boxes leaves. -/
def OutBoxes (w : World) (l : List Bx) (e : Ending) (w' : World) : Prop := ∃ a cap, e = .returned (.slice a l.length cap) ∧ l.length ≤ cap ∧ cap ≤ maxLen ∧ (a = none → cap = 0) ∧ Boxes w' a l ∧ Below w.heap.size w w'
theorem out_owns {w w' : World} {base : Nat} {v : Value} {l k : List Bx} (h : Owns w' base v l) (hb : Below w.heap.size w w') (hk : l = k) : OutBoxes w k (.returned v) w' := by
  subst hk
  obtain ⟨a, cap, rfl, h1, h2, h3, h4⟩ := owns_boxes h
  exact ⟨a, cap, rfl, h1, h2, h3, h4, hb⟩
theorem out_nil (w : World) {w' : World} (hb : Below w.heap.size w w') {k : List Bx} (hk : [] = k) : OutBoxes w k (.returned (.slice none 0 0)) w' := by
  subst hk; exact ⟨none, 0, rfl, Nat.le_refl _, by unfold maxLen; omega, (fun _ => rfl), .inl rfl, hb⟩
end Go.Proofs.Ytcndihekpdebhaa.Pla
/- Profile: steps as what is free at each tick (mathematics). -/
namespace Go.Proofs.Ytcndihekpdebhaa.Prf
set_option linter.unusedVariables false

structure St where
  tick : Int
  free : Int
structure Bz where
  till : Int
  nodes : Int
/-- How many are free at a tick: the last step that has begun. -/
def valA : Int → List St → Int → Int
  | acc, [], _ => acc
  | acc, s :: l, t => valA (if s.tick ≤ t then s.free else acc) l t
def val (p : List St) (t : Int) : Int := valA 0 p t
theorem valA_snoc (s : St) (t : Int) : ∀ (l : List St) (acc : Int), valA acc (l ++ [s]) t = if s.tick ≤ t then s.free else valA acc l t
  | [], acc => rfl
  | a :: l, acc => by
    rw [List.cons_append, valA, valA_snoc s t l]; rfl
theorem val_snoc (l : List St) (s : St) (t : Int) : val (l ++ [s]) t = if s.tick ≤ t then s.free else val l t := valA_snoc s t l 0
theorem valA_cons (acc : Int) (s : St) (l : List St) (t : Int) : valA acc (s :: l) t = valA (if s.tick ≤ t then s.free else acc) l t := rfl
theorem valA_far {t : Int} : ∀ {l : List St} {acc : Int}, (∀ s ∈ l, t < s.tick) → valA acc l t = acc
  | [], _, _ => rfl
  | a :: l, acc, h => by
    rw [valA, if_neg (by have := h a (List.mem_cons_self ..); omega)]
    exact valA_far fun s hs => h s (List.mem_cons_of_mem _ hs)
/-- Ticks rise; no two steps beside one another have the same. -/
def Norm : List St → Prop
  | [] => True
  | [_] => True
  | a :: b :: l => a.tick < b.tick ∧ a.free ≠ b.free ∧ Norm (b :: l)
theorem norm_tail : ∀ {a : St} {l : List St}, Norm (a :: l) → Norm l
  | _, [], _ => trivial
  | _, _ :: _, h => h.2.2
theorem norm_lt : ∀ {l : List St} {a : St}, Norm (a :: l) → ∀ s ∈ l, a.tick < s.tick
  | [], _, _ => fun s hs => by cases hs
  | b :: l, a, h => fun s hs => by
    obtain ⟨h1, _, h3⟩ := h
    rcases List.mem_cons.1 hs with rfl | hs
    · exact h1
    · have := norm_lt h3 s hs
      omega
theorem norm_snoc : ∀ {l : List St} {s : St}, Norm l → (∀ a, l.getLast? = some a → a.tick < s.tick ∧ a.free ≠ s.free) → Norm (l ++ [s])
  | [], _, _, _ => trivial
  | [a], s, _, h => ⟨(h a rfl).1, (h a rfl).2, trivial⟩
  | a :: b :: l, s, hn, h => ⟨hn.1, hn.2.1, norm_snoc (l := b :: l) hn.2.2 fun c hc => h c (by rw [List.getLast?_cons_cons]; exact hc)⟩
/-- A profile is told by what is free. -/
theorem norm_one : ∀ (p q : List St) (acc : Int) (a b : St), Norm (a :: p) → Norm (b :: q) → a.tick = b.tick → (∀ t, a.tick ≤ t → valA acc (a :: p) t = valA acc (b :: q) t) → a :: p = b :: q := by
  intro p
  induction p with
  | nil =>
    intro q acc a b hp hq hab h
    have hf : a.free = b.free := by
      have h0 := h a.tick (Int.le_refl _)
      rw [valA_cons acc a, valA_cons acc b, if_pos (Int.le_refl _), if_pos (show b.tick ≤ a.tick by omega), valA_far (norm_lt hp), valA_far (fun s hs => by have := norm_lt hq s hs; omega)] at h0
      exact h0
    cases q with
    | nil =>
      cases a; cases b
      simp only at hab hf
      subst hab hf
      rfl
    | cons d q =>
      have h1 := hq.1
      have h0 := h d.tick (by omega)
      rw [valA_cons acc a, valA_cons acc b, valA_cons _ d, if_pos (show a.tick ≤ d.tick by omega), if_pos (Int.le_refl _), valA_far (norm_lt hq.2.2)] at h0
      exact absurd (hf.symm.trans h0) hq.2.1
  | cons c p ih =>
    intro q acc a b hp hq hab h
    have hf : a.free = b.free := by
      have h0 := h a.tick (Int.le_refl _)
      rw [valA_cons acc a, valA_cons acc b, if_pos (Int.le_refl _), if_pos (show b.tick ≤ a.tick by omega), valA_far (norm_lt hp), valA_far (fun s hs => by have := norm_lt hq s hs; omega)] at h0
      exact h0
    obtain rfl : a = b := by
      cases a; cases b
      simp only at hab hf
      subst hab hf
      rfl
    have h1 := hp.1
    have h' : ∀ t, a.tick ≤ t → valA a.free (c :: p) t = valA a.free q t := fun t ht => by
      have h0 := h t ht
      rw [valA_cons acc, valA_cons acc, if_pos ht] at h0
      exact h0
    cases q with
    | nil =>
      have h0 := h' c.tick (by omega)
      rw [valA_cons, if_pos (Int.le_refl _), valA_far (norm_lt hp.2.2)] at h0
      exact absurd h0.symm hp.2.1
    | cons d q =>
      have h2 := hq.1
      have hcd : c.tick = d.tick := by
        rcases Int.lt_trichotomy c.tick d.tick with hlt | heq | hgt
        · have h0 := h' c.tick (by omega)
          rw [valA_cons, if_pos (Int.le_refl _), valA_far (norm_lt hp.2.2), valA_far (l := d :: q) (fun s hs => by
            rcases List.mem_cons.1 hs with rfl | hs
            · exact hlt
            · have := norm_lt hq.2.2 s hs; omega)] at h0
          exact absurd h0.symm hp.2.1
        · exact heq
        · have h0 := h' d.tick (by omega)
          rw [valA_far (l := c :: p) (fun s hs => by
            rcases List.mem_cons.1 hs with rfl | hs
            · exact hgt
            · have := norm_lt hp.2.2 s hs; omega), valA_cons, if_pos (Int.le_refl _), valA_far (norm_lt hq.2.2)] at h0
          exact absurd h0 hq.2.1
      rw [ih q a.free c d hp.2.2 hq.2.2 hcd fun t ht => h' t (by omega)]

/-! ### Steps at some ticks, of which those that change nothing are left out -/

def lastF (l : List St) : Option Int := l.getLast?.map (·.free)
def mk1 (out : List St) (t f : Int) : List St := if lastF out = some f then out else out ++ [⟨t, f⟩]
def madeL (F : Int → Int) (ts : List Int) : List St := ts.foldl (fun out t => mk1 out t (F t)) []
theorem made_snoc (F : Int → Int) (ts : List Int) (t : Int) : madeL F (ts ++ [t]) = mk1 (madeL F ts) t (F t) := by
  unfold madeL
  rw [List.foldl_append]; rfl
/-- What they come to: rising ticks from the first one on, of a function that does not change between them. -/
theorem made_spec (F : Int → Int) : ∀ (ts : List Int), ts.Pairwise (· < ·) →
    Norm (madeL F ts) ∧ (madeL F ts).length ≤ ts.length ∧ (∀ s ∈ madeL F ts, s.tick ∈ ts ∧ s.free = F s.tick) ∧ (∀ u, ts.getLast? = some u → lastF (madeL F ts) = some (F u)) ∧ (∀ u, ts.head? = some u → ∃ l, madeL F ts = ⟨u, F u⟩ :: l) ∧
    ∀ t u, u ∈ ts → u ≤ t → (∀ x ∈ ts, x ≤ t → x ≤ u) → val (madeL F ts) t = F u := by
  intro ts
  induction h : ts.reverse generalizing ts with
  | nil =>
    obtain rfl : ts = [] := by simpa using h
    intro _
    exact ⟨trivial, Nat.le_refl _, (fun s hs => by cases hs), (fun u hu => by cases hu), (fun u hu => by cases hu), fun t u hu => by cases hu⟩
  | cons x r ih =>
    obtain rfl : ts = r.reverse ++ [x] := by
      have := congrArg List.reverse h
      simpa using this
    intro hp
    obtain ⟨hp1, -, hp2⟩ := List.pairwise_append.1 hp
    have hlt : ∀ y ∈ r.reverse, y < x := fun y hy => hp2 y hy x (List.mem_singleton.2 rfl)
    obtain ⟨g1, g2, g3, g4, g5, g6⟩ := ih r.reverse (by simp) hp1
    rw [made_snoc]
    unfold mk1
    by_cases hl : lastF (madeL F r.reverse) = some (F x)
    · rw [if_pos hl]
      have hne : r.reverse ≠ [] := by
        intro e
        rw [e] at hl
        simp [madeL, lastF] at hl
      refine ⟨g1, by rw [List.length_append]; omega, fun s hs => ⟨List.mem_append_left _ (g3 s hs).1, (g3 s hs).2⟩, fun u hu => ?_, fun u hu => ?_, fun t u hu hut hmx => ?_⟩
      · rw [List.getLast?_append] at hu
        simp at hu
        subst hu
        exact hl
      · obtain ⟨y0, l0, e0⟩ := List.exists_cons_of_ne_nil hne
        rw [e0] at hu
        exact g5 u (by rw [e0]; exact hu)
      · by_cases hux : u = x
        · subst hux
          obtain ⟨y, hy⟩ : ∃ y, r.reverse.getLast? = some y := ⟨_, List.getLast?_eq_some_getLast hne⟩
          have hyF := g4 y hy
          rw [hl] at hyF
          injection hyF with hyF
          have hym := List.mem_of_getLast? hy
          rw [g6 t y hym (by have := hlt y hym; omega) fun z hz hzt => ?_, hyF]
          have hz2 : z = y ∨ z < y := by
            obtain ⟨l', hl'⟩ := List.getLast?_eq_some_iff.1 hy
            rw [hl'] at hz hp1
            rcases List.mem_append.1 hz with hz | hz
            · exact .inr ((List.pairwise_append.1 hp1).2.2 z hz y (List.mem_singleton.2 rfl))
            · exact .inl (List.mem_singleton.1 hz)
          omega
        · have hum : u ∈ r.reverse := by
            rcases List.mem_append.1 hu with h | h
            · exact h
            · exact absurd (List.mem_singleton.1 h) hux
          exact g6 t u hum hut fun z hz hzt => hmx z (List.mem_append_left _ hz) hzt
    · rw [if_neg hl]
      refine ⟨norm_snoc g1 fun a ha => ⟨?_, ?_⟩, by have := g2; simp only [List.length_append, List.length_singleton]; omega, fun s hs => ?_, fun u hu => ?_, fun u hu => ?_, fun t u hu hut hmx => ?_⟩
      · exact hlt _ (g3 a (List.mem_of_getLast? ha)).1
      · intro e
        apply hl
        unfold lastF
        rw [ha]
        exact congrArg some e
      · rcases List.mem_append.1 hs with hs | hs
        · exact ⟨List.mem_append_left _ (g3 s hs).1, (g3 s hs).2⟩
        · rw [List.mem_singleton] at hs
          subst hs
          exact ⟨List.mem_append_right _ (List.mem_singleton.2 rfl), rfl⟩
      · rw [List.getLast?_append] at hu
        simp at hu
        subst hu
        unfold lastF
        rw [List.getLast?_append]
        simp
      · by_cases hne : r.reverse = []
        · rw [hne] at hu ⊢
          simp at hu
          subst hu
          exact ⟨[], rfl⟩
        · obtain ⟨y0, l0, e0⟩ := List.exists_cons_of_ne_nil hne
          rw [e0] at hu
          obtain ⟨l', hl'⟩ := g5 u (by rw [e0]; exact hu)
          exact ⟨l' ++ [⟨x, F x⟩], by rw [hl']; rfl⟩
      · rw [val_snoc]
        by_cases hux : u = x
        · subst hux
          rw [if_pos hut]
        · have hum : u ∈ r.reverse := by
            rcases List.mem_append.1 hu with h | h
            · exact h
            · exact absurd (List.mem_singleton.1 h) hux
          rw [if_neg]
          · exact g6 t u hum hut fun z hz hzt => hmx z (List.mem_append_left _ hz) hzt
          · intro hxt
            have := hmx x (List.mem_append_right _ (List.mem_singleton.2 rfl)) hxt
            have := hlt u hum
            omega
end Go.Proofs.Ytcndihekpdebhaa.Prf
/- Pool: nodes as the bits of a number (mathematics). -/
namespace Go.Proofs.Ytcndihekpdebhaa.Poo
open Tre (inI)
set_option linter.unusedVariables false

/-- The bits that count. -/
def lo (m : Int) : Nat := (m % 4294967296).toNat
def cntTo (U : Nat) : Nat → Nat
  | 0 => 0
  | j + 1 => cntTo U j + (if U.testBit j then 1 else 0)
def cnt (U : Nat) : Nat := cntTo U 32
/-- The n lowest, as far as bit j. -/
def pick (U n : Nat) : Nat → Nat
  | 0 => 0
  | j + 1 => pick U n j + (if U.testBit j = true ∧ cntTo U j < n then 2 ^ j else 0)
def takeOk (U : Nat) (n : Int) : Bool := decide (0 ≤ n ∧ n ≤ (cnt U : Int))
def takeV (U : Nat) (n : Int) : Nat := if takeOk U n then pick U n.toNat 32 else 0
def allN (n : Int) : Nat := 2 ^ (min 32 n.toNat) - 1

theorem cnt_le (U : Nat) : ∀ j, cntTo U j ≤ j
  | 0 => Nat.le_refl _
  | j + 1 => by
    have := cnt_le U j
    rw [cntTo]
    split <;> omega
theorem cnt_mono (U i : Nat) : ∀ d, cntTo U i ≤ cntTo U (i + d)
  | 0 => Nat.le_refl _
  | d + 1 => by
    have := cnt_mono U i d
    rw [show i + (d + 1) = (i + d) + 1 by omega, cntTo]
    omega
theorem cnt_mono' {U i j : Nat} (h : i ≤ j) : cntTo U i ≤ cntTo U j := by
  have := cnt_mono U i (j - i)
  rwa [show i + (j - i) = j by omega] at this
theorem pick_lt (U n : Nat) : ∀ j, pick U n j < 2 ^ j
  | 0 => by rw [pick]; decide
  | j + 1 => by
    have := pick_lt U n j
    rw [pick, Nat.pow_succ]
    split <;> omega
theorem pick_bit (U n : Nat) : ∀ J j, (pick U n J).testBit j = decide (j < J ∧ U.testBit j = true ∧ cntTo U j < n)
  | 0, j => by simp [pick]
  | J + 1, j => by
    have ih := pick_bit U n J j
    have hlt := pick_lt U n J
    rw [pick]
    by_cases hc : U.testBit J = true ∧ cntTo U J < n
    · rw [if_pos hc, Nat.add_comm]
      by_cases hj : j = J
      · subst hj
        rw [Nat.testBit_two_pow_add_eq, Nat.testBit_lt_two_pow hlt]
        simp [hc.1, hc.2]
      · by_cases hlt2 : j < J
        · rw [Nat.testBit_two_pow_add_gt hlt2, ih, decide_eq_decide]
          constructor
          · rintro ⟨_, h⟩; exact ⟨by omega, h⟩
          · rintro ⟨_, h⟩; exact ⟨hlt2, h⟩
        · rw [Nat.testBit_lt_two_pow (Nat.lt_of_lt_of_le (show 2 ^ J + pick U n J < 2 ^ (J + 1) by rw [Nat.pow_succ]; omega) (Nat.pow_le_pow_right (by decide) (by omega)))]
          symm
          rw [decide_eq_false_iff_not]
          rintro ⟨h, _⟩
          omega
    · rw [if_neg hc, Nat.add_zero, ih, decide_eq_decide]
      constructor
      · rintro ⟨_, h⟩; exact ⟨by omega, h⟩
      · rintro ⟨h1, h⟩
        refine ⟨?_, h⟩
        by_cases e : j = J
        · subst e; exact absurd h hc
        · omega
theorem cnt_congr {U V : Nat} : ∀ j, (∀ i, i < j → U.testBit i = V.testBit i) → cntTo U j = cntTo V j
  | 0, _ => rfl
  | j + 1, h => by rw [cntTo, cntTo, cnt_congr j fun i hi => h i (by omega), h j (by omega)]
theorem cnt_pick (U n : Nat) : ∀ j, j ≤ 32 → cntTo (pick U n 32) j = min (cntTo U j) n
  | 0, _ => by simp [cntTo]
  | j + 1, h => by
    rw [cntTo, cntTo, cnt_pick U n j (by omega), pick_bit]
    by_cases h1 : U.testBit j = true
    · by_cases h2 : cntTo U j < n
      · rw [if_pos (by simp [h1, h2]; omega), if_pos h1]; omega
      · rw [if_neg (by simp [h1, h2]), if_pos h1]; omega
    · rw [if_neg (by simp [h1]), if_neg h1, Nat.add_zero, Nat.add_zero]
/-- What is left. -/
theorem cnt_rest {U R n : Nat} (hR : ∀ j, j < 32 → R.testBit j = (U.testBit j && !(pick U n 32).testBit j)) : ∀ j, j ≤ 32 → cntTo R j = cntTo U j - n
  | 0, _ => by simp [cntTo]
  | j + 1, h => by
    have ih := cnt_rest hR j (by omega)
    rw [cntTo, cntTo, ih, hR j (by omega), pick_bit]
    by_cases h1 : U.testBit j = true
    · by_cases h2 : cntTo U j < n
      · rw [if_neg (by simp [h1, h2]; omega), if_pos h1]; omega
      · rw [if_pos (by simp [h1, h2]), if_pos h1]; omega
    · rw [if_neg (by simp [h1]), if_neg h1]; omega
theorem pick_done (U n : Nat) {j : Nat} (hj : n ≤ cntTo U j) : ∀ d, pick U n (j + d) = pick U n j
  | 0 => rfl
  | d + 1 => by
    rw [show j + (d + 1) = (j + d) + 1 by omega, pick, pick_done U n hj d, if_neg (fun h => by have := cnt_mono U j d; omega), Nat.add_zero]
theorem lo_lt (m : Int) : lo m < 4294967296 := by unfold lo; omega
theorem lo_nat {u : Nat} (h : u < 4294967296) : lo (u : Int) = u := by unfold lo; omega
/-- A bit of the number is a bit that counts. -/
theorem lo_bit (m : Int) {k : Nat} (hk : k < 32) : (lo m).testBit k = decide (m / 2 ^ k % 2 = 1) := by
  rw [Nat.testBit_eq_decide_div_mod_eq, decide_eq_decide]
  have e : m / 2 ^ k % 2 = ((lo m / 2 ^ k % 2 : Nat) : Int) := by
    have h1 : ((lo m : Nat) : Int) = m % 4294967296 := by unfold lo; omega
    rw [Int.natCast_emod, Int.natCast_ediv, Int.natCast_pow, h1]
    have h3 : m = 4294967296 * (m / 4294967296) + m % 4294967296 := by omega
    generalize m % 4294967296 = r at h3 ⊢
    generalize m / 4294967296 = q at h3
    subst h3
    obtain ⟨d, hd⟩ : ∃ d, 32 = k + 1 + d := ⟨31 - k, by omega⟩
    have e32 : (4294967296 : Int) = 2 ^ k * (2 * 2 ^ d) := by
      rw [show (4294967296 : Int) = 2 ^ 32 from rfl, hd, Int.pow_add, Int.pow_add, Int.mul_assoc]; rfl
    have hp : (2 : Int) ^ k ≠ 0 := Int.ne_of_gt (Int.pow_pos (by decide))
    rw [e32, Int.mul_assoc, Int.add_comm, Int.add_mul_ediv_left _ _ hp, Int.mul_assoc, Int.add_mul_emod_self_left]
    rfl
  rw [e]
  omega
/-- What was taken first, and then what of the rest, is what is taken at once. -/
theorem pick_two {U R m n : Nat} (hR : ∀ j, j < 32 → R.testBit j = (U.testBit j && !(pick U m 32).testBit j)) (j : Nat) : (pick U (m + n) 32).testBit j = ((pick U m 32).testBit j || (pick R n 32).testBit j) := by
  rw [pick_bit, pick_bit, pick_bit]
  by_cases h0 : j < 32
  · rw [hR j h0, cnt_rest hR j (by omega), pick_bit]
    by_cases h1 : U.testBit j = true
    · simp [h0, h1]
      by_cases h2 : cntTo U j < m
      · simp [h2]; omega
      · simp [h2]; rw [← Bool.decide_and, decide_eq_decide]; omega
    · simp [h1]
  · simp [h0]
theorem pick_apart {U R m n : Nat} (hR : ∀ j, j < 32 → R.testBit j = (U.testBit j && !(pick U m 32).testBit j)) (j : Nat) : ((pick U m 32).testBit j && (pick R n 32).testBit j) = false := by
  rw [pick_bit R]
  by_cases h0 : j < 32
  · rw [hR j h0]
    cases (pick U m 32).testBit j <;> simp
  · simp [h0]
/-- What stays is not lower. -/
theorem pick_low {U R n p : Nat} (hR : ∀ j, j < 32 → R.testBit j = (U.testBit j && !(pick U n 32).testBit j)) (hp : p < 32) (h : R.testBit p = true) : pick U n 32 < 2 ^ p := by
  refine Nat.lt_pow_two_of_testBit _ fun j hj => ?_
  rw [hR p hp, pick_bit] at h
  rw [pick_bit, decide_eq_false_iff_not]
  rintro ⟨_, h1, h2⟩
  have := cnt_mono' (U := U) hj
  simp [hp] at h
  rcases h with ⟨h3, h4 | h4⟩
  · rw [h3] at h4; cases h4
  · omega
end Go.Proofs.Ytcndihekpdebhaa.Poo
/- Job: where a job is, which nodes are had, whether one may be (mathematics). -/
namespace Go.Proofs.Ytcndihekpdebhaa.Job
open Drw (Dw)
set_option linter.unusedVariables false

def runB (j : Jb) : Bool := j.state == 3
def firstId (id : Int) : List Jb → Option Nat
  | [] => none
  | j :: l => if j.id = id then some 0 else (firstId id l).map (· + 1)
def findI (l : List Jb) (id : Int) : Int := match firstId id l with | none => -1 | some k => (k : Nat)
def orW (x y : Int) : Int := bits BinOp.or IntKind.i64 x y
def maskS (a : Int) (j : Jb) : Int := if runB j = true then orW a j.mask else a
def maskL (l : List Jb) : Int := l.foldl maskS 0
def drawsOk (l : List Dw) : Bool := decide (l.length ≤ 16) && l.all (fun d => decide (0 ≤ d.alloc ∧ d.alloc ≤ 15 ∧ 1 ≤ d.amt ∧ d.amt ≤ 1152921504606846976)) && decide ((l.map (·.alloc)).Nodup)
def goodJ (j : Jb) : Bool :=
  decide (1 ≤ j.id ∧ 0 ≤ j.fund ∧ j.fund ≤ 7 ∧ 1 ≤ j.nodes ∧ j.nodes ≤ 32 ∧ 1 ≤ j.wall ∧ j.wall ≤ 1048576 ∧ 0 ≤ j.qos ∧ j.qos ≤ 7 ∧ 0 ≤ j.prio ∧ j.prio ≤ 1048576 ∧ 0 ≤ j.price ∧ j.price ≤ 1099511627776) &&
  (if j.state = 1 ∨ j.state = 2 then decide (j.start = 0 ∧ j.mask = 0 ∧ j.used = 0 ∧ j.draws.length = 0)
   else decide (0 ≤ j.start ∧ j.start ≤ 1099511627776) && drawsOk j.draws &&
     (if j.state = 3 then decide (0 ≤ j.mask ∧ j.mask < 4294967296 ∧ (Poo.cnt (Poo.lo j.mask) : Int) = j.nodes ∧ j.used = 0) else decide (j.state = 4 ∧ j.mask = 0 ∧ 0 ≤ j.used ∧ j.used ≤ j.wall)))
end Go.Proofs.Ytcndihekpdebhaa.Job
/- Job: what jobs have, and when they end (mathematics). -/
namespace Go.Proofs.Ytcndihekpdebhaa.Job
open Go.RowKit
open Pla (Bx rowsL)
open Prf (Bz)
open Drw (Dw)
set_option linter.unusedVariables false

def endJ (j : Jb) : Int := j.start + j.wall
def busyL (l : List Jb) : List Bz := (l.filter runB).map fun j => ⟨endJ j, j.nodes⟩
def boxesL (l : List Jb) : List Bx := (l.filter runB).flatMap fun j => rowsL j.start j.wall j.mask
/-- As Order has it: the least end first, then the least ID. -/
def dueT (now : Int) (j : Jb) : Jb := { j with prio := -(endJ j), state := if runB j = true ∧ endJ j ≤ now then 1 else 0 }
def dueP (now : Int) (l : List Jb) : List Nat := Ord.ord (l.map (dueT now))
def idAt (l : List Jb) (m : Nat) : Int := match l[m]? with | some x => x.id | none => 0
def dueL (now : Int) (l : List Jb) : List Int := (dueP now l).map (idAt l)
/-- Times that may be. -/
def okT (j : Jb) : Prop := (0 ≤ j.start ∧ j.start ≤ 1125899906842624) ∧ 0 ≤ j.wall ∧ j.wall ≤ 1125899906842624

/-! ### One more -/

theorem filter_take {α : Type} (p : α → Bool) {l : List α} {k : Nat} {x : α} (h : l[k]? = some x) : (l.take (k + 1)).filter p = if p x = true then (l.take k).filter p ++ [x] else (l.take k).filter p := by
  obtain ⟨hk, e⟩ := List.getElem?_eq_some_iff.1 h
  rw [List.take_succ_eq_append_getElem hk, e, List.filter_append]
  cases hp : p x <;> simp [hp]
theorem busy_take {l : List Jb} {k : Nat} {x : Jb} (h : l[k]? = some x) : busyL (l.take (k + 1)) = if runB x = true then busyL (l.take k) ++ [⟨endJ x, x.nodes⟩] else busyL (l.take k) := by
  unfold busyL
  rw [filter_take runB h]
  split
  · rw [List.map_append]; rfl
  · rfl
theorem boxes_take {l : List Jb} {k : Nat} {x : Jb} (h : l[k]? = some x) : boxesL (l.take (k + 1)) = if runB x = true then boxesL (l.take k) ++ rowsL x.start x.wall x.mask else boxesL (l.take k) := by
  unfold boxesL
  rw [filter_take runB h]
  split
  · rw [List.flatMap_append]; simp
  · rfl
theorem mask_take {l : List Jb} {k : Nat} {x : Jb} (h : l[k]? = some x) : maskL (l.take (k + 1)) = maskS (maskL (l.take k)) x := by
  obtain ⟨hk, e⟩ := List.getElem?_eq_some_iff.1 h
  unfold maskL
  rw [List.take_succ_eq_append_getElem hk, e, List.foldl_append]; rfl
theorem busy_len (l : List Jb) : (busyL l).length ≤ l.length := by
  unfold busyL
  rw [List.length_map]
  exact List.length_filter_le _ _
theorem boxes_len (l : List Jb) : (boxesL l).length ≤ 32 * l.length := by
  unfold boxesL
  have h1 := List.length_filter_le runB l
  have key : ∀ l : List Jb, (l.flatMap fun j => rowsL j.start j.wall j.mask).length ≤ 32 * l.length := by
    intro l
    induction l with
    | nil => exact Nat.le_refl _
    | cons x l ih =>
      rw [List.flatMap_cons, List.length_append, List.length_cons]
      have : (rowsL x.start x.wall x.mask).length ≤ 32 := by
        unfold rowsL
        split
        · unfold Pla.boxesOf
          rw [List.length_map]
          exact Pla.runs_length _ _
        · exact Nat.zero_le _
      omega
  have := key (l.filter runB)
  omega
theorem findF_step {id : Int} {l : List Jb} {k : Nat} {x : Jb} (h : l[k]? = some x) : (firstId id (l.drop k)).map (· + k) = if x.id = id then some k else (firstId id (l.drop (k + 1))).map (· + (k + 1)) := by
  obtain ⟨hk, e⟩ := List.getElem?_eq_some_iff.1 h
  rw [List.drop_eq_getElem_cons hk, e, firstId]
  by_cases hx : x.id = id
  · rw [if_pos hx, if_pos hx]; simp
  · rw [if_neg hx, if_neg hx]
    cases firstId id (l.drop (k + 1)) with
    | none => rfl
    | some m => simp only [Option.map_some]; congr 1; omega
theorem due_isQ {now : Int} {l : List Jb} {k : Nat} {x : Jb} (h : l[k]? = some x) : Ord.isQ (l.map (dueT now)) k = (runB x && decide (endJ x ≤ now)) := by
  have e : (l.map (dueT now))[k]? = some (dueT now x) := by rw [List.getElem?_map, h]; rfl
  unfold Ord.isQ
  rw [e]
  show ((if runB x = true ∧ endJ x ≤ now then (1 : Int) else 0) == 1) = _
  by_cases h1 : runB x = true
  · by_cases h2 : endJ x ≤ now
    · rw [if_pos ⟨h1, h2⟩, h1, decide_eq_true h2]; rfl
    · rw [if_neg (fun h => h2 h.2), h1, decide_eq_false h2]; rfl
  · rw [if_neg (fun h => h1 h.1)]
    rw [Bool.not_eq_true] at h1
    rw [h1]; rfl
theorem due_lt {now : Int} {l : List Jb} {a b : Nat} {x y : Jb} (ha : l[a]? = some x) (hb : l[b]? = some y) : Ord.lt (l.map (dueT now)) a b ↔ endJ x < endJ y ∨ (endJ x = endJ y ∧ (x.id < y.id ∨ (x.id = y.id ∧ a < b))) := by
  unfold Ord.lt
  rw [List.getElem?_map, List.getElem?_map, ha, hb]
  simp only [Option.map_some, Ord.aheadJ, dueT]
  omega
theorem due_mem {now : Int} {l : List Jb} {m : Nat} : m ∈ dueP now l ↔ ∃ x, l[m]? = some x ∧ runB x = true ∧ endJ x ≤ now := by
  unfold dueP Ord.ord
  rw [Ord.ord_mem, List.length_map]
  constructor
  · rintro ⟨h1, h2⟩
    refine ⟨l[m], List.getElem?_eq_getElem h1, ?_⟩
    rw [due_isQ (List.getElem?_eq_getElem h1), Bool.and_eq_true, decide_eq_true_iff] at h2
    exact h2
  · rintro ⟨x, hx, h1, h2⟩
    exact ⟨(List.getElem?_eq_some_iff.1 hx).1, by rw [due_isQ hx, h1, decide_eq_true h2]; rfl⟩
theorem due_len (now : Int) (l : List Jb) : (dueP now l).length ≤ l.length := by
  unfold dueP Ord.ord
  rw [Ord.ord_len, List.length_map]
  exact Ord.q_le _ _
/-- Those due by one tick are the first of those due by a later one. -/
theorem due_first {now later : Int} (h : now ≤ later) (l : List Jb) : ∃ r, dueP later l = dueP now l ++ r := by
  have s2 : (dueP later l).Pairwise (Ord.lt (l.map (dueT later))) := Ord.ord_sorted _ _
  have s1 : (dueP now l).Pairwise (Ord.lt (l.map (dueT now))) := Ord.ord_sorted _ _
  have sub1 : ∀ a b, a ∈ dueP now l → b ∈ dueP now l → Ord.lt (l.map (dueT now)) a b → Ord.lt (l.map (dueT later)) a b := by
    intro a b ha hb hlt
    obtain ⟨x, hx, -, -⟩ := due_mem.1 ha
    obtain ⟨y, hy, -, -⟩ := due_mem.1 hb
    exact (due_lt hx hy).2 ((due_lt hx hy).1 hlt)
  have s1' : (dueP now l).Pairwise (Ord.lt (l.map (dueT later))) := s1.imp_of_mem fun ha hb hlt => sub1 _ _ ha hb hlt
  obtain ⟨q, hq⟩ : ∃ q : Nat → Bool, q = fun m => match l[m]? with | some x => decide (endJ x ≤ now) | none => false := ⟨_, rfl⟩
  have hqd : ∀ m, q m = true ↔ ∃ x, l[m]? = some x ∧ endJ x ≤ now := fun m => by
    rw [hq]
    cases hm : l[m]? with
    | none => simp [hm]
    | some x => simp [hm]
  refine ⟨(dueP later l).filter fun m => !q m, ?_⟩
  refine Ord.sorted_one s2 ?_ fun m => ?_
  · rw [List.pairwise_append]
    refine ⟨s1', s2.filter _, fun a ha b hb => ?_⟩
    obtain ⟨x, hx, -, hxe⟩ := due_mem.1 ha
    rw [List.mem_filter] at hb
    obtain ⟨y, hy, -, -⟩ := due_mem.1 hb.1
    have hn : ¬ endJ y ≤ now := fun hle => by
      have : q b = true := (hqd b).2 ⟨y, hy, hle⟩
      rw [this] at hb
      simp at hb
    exact (due_lt hx hy).2 (.inl (by omega))
  · rw [List.mem_append, List.mem_filter]
    constructor
    · intro hm
      obtain ⟨x, hx, hr, hle⟩ := due_mem.1 hm
      by_cases hn : endJ x ≤ now
      · exact .inl (due_mem.2 ⟨x, hx, hr, hn⟩)
      · refine .inr ⟨hm, ?_⟩
        have : q m = false := by
          rw [Bool.eq_false_iff]
          intro hh
          obtain ⟨y, hy, hye⟩ := (hqd m).1 hh
          rw [hx] at hy
          injection hy with hy
          rw [← hy] at hye
          exact hn hye
        rw [this]; rfl
    · rintro (hm | ⟨hm, -⟩)
      · obtain ⟨x, hx, hr, hle⟩ := due_mem.1 hm
        exact due_mem.2 ⟨x, hx, hr, by omega⟩
      · exact hm
end Go.Proofs.Ytcndihekpdebhaa.Job
/- Profile: what New, Take and Fit are to be, by what is free at each tick (mathematics). -/
namespace Go.Proofs.Ytcndihekpdebhaa.Prf
set_option linter.unusedVariables false

/-- p is the profile of F from u on. -/
structure IsP (p : List St) (F : Int → Int) (u : Int) : Prop where
  norm : Norm p
  head : ∃ f l, p = ⟨u, f⟩ :: l
  fn : ∀ t, u ≤ t → val p t = F t
theorem isP_one {p q : List St} {F : Int → Int} {u : Int} (hp : IsP p F u) (hq : IsP q F u) : p = q := by
  obtain ⟨h1, ⟨f, l, rfl⟩, h3⟩ := hp
  obtain ⟨k1, ⟨g, m, rfl⟩, k3⟩ := hq
  refine norm_one l m 0 _ _ h1 k1 rfl fun t ht => ?_
  have := h3 t ht
  rw [← k3 t ht] at this
  exact this
theorem isP_congr {p : List St} {F G : Int → Int} {u : Int} (h : IsP p F u) (hFG : ∀ t, u ≤ t → F t = G t) : IsP p G u := ⟨h.norm, h.head, fun t ht => (h.fn t ht).trans (hFG t ht)⟩

/-! ### Ticks -/

/-- The ticks from one on at which something may change, rising. -/
structure IsT (u : Int) (more ts : List Int) : Prop where
  up : ts.Pairwise (· < ·)
  head : ts.head? = some u
  mem : ∀ x, x ∈ ts ↔ x = u ∨ (x ∈ more ∧ u < x)
theorem greatest {t : Int} : ∀ {ts : List Int} {u : Int}, u ∈ ts → u ≤ t → ∃ v, v ∈ ts ∧ v ≤ t ∧ ∀ x ∈ ts, x ≤ t → x ≤ v
  | [], u, h, _ => by cases h
  | y :: ts, u, h, hu => by
    by_cases hy : y ≤ t
    · by_cases hex : ∃ z, z ∈ ts ∧ z ≤ t
      · obtain ⟨z, hz, hzt⟩ := hex
        obtain ⟨v, h1, h2, h3⟩ := greatest hz hzt
        by_cases hyv : y ≤ v
        · exact ⟨v, List.mem_cons_of_mem _ h1, h2, fun x hx hxt => by
            rcases List.mem_cons.1 hx with rfl | hx
            · exact hyv
            · exact h3 x hx hxt⟩
        · exact ⟨y, List.mem_cons_self .., hy, fun x hx hxt => by
            rcases List.mem_cons.1 hx with rfl | hx
            · exact Int.le_refl _
            · have := h3 x hx hxt; omega⟩
      · exact ⟨y, List.mem_cons_self .., hy, fun x hx hxt => by
          rcases List.mem_cons.1 hx with rfl | hx
          · exact Int.le_refl _
          · exact absurd ⟨x, hx, hxt⟩ hex⟩
    · rcases List.mem_cons.1 h with rfl | h
      · exact absurd hu hy
      · obtain ⟨v, h1, h2, h3⟩ := greatest h hu
        exact ⟨v, List.mem_cons_of_mem _ h1, h2, fun x hx hxt => by
          rcases List.mem_cons.1 hx with rfl | hx
          · exact absurd hxt hy
          · exact h3 x hx hxt⟩
/-- Steps made at the ticks of a function that changes at none but them. -/
theorem made_isP {u : Int} {more ts : List Int} {F : Int → Int} (h : IsT u more ts) (hF : ∀ a b, u ≤ a → a ≤ b → (∀ x ∈ more, ¬ (a < x ∧ x ≤ b)) → F a = F b) : IsP (madeL F ts) F u ∧ (madeL F ts).length ≤ ts.length := by
  obtain ⟨g1, g2, g3, g4, g5, g6⟩ := made_spec F ts h.up
  obtain ⟨l, hl⟩ := g5 u h.head
  refine ⟨⟨g1, ⟨_, l, hl⟩, fun t ht => ?_⟩, g2⟩
  obtain ⟨v, h1, h2, h3⟩ := greatest ((h.mem u).2 (.inl rfl)) ht
  rw [g6 t v h1 h2 h3]
  have huv : u ≤ v := by
    rcases (h.mem v).1 h1 with e | ⟨_, e⟩ <;> omega
  refine hF v t huv h2 fun x hx ⟨hvx, hxt⟩ => ?_
  have := h3 x ((h.mem x).2 (.inr ⟨hx, by omega⟩)) hxt
  omega
theorem isT_len {u : Int} {more : List Int} : ∀ {ts : List Int}, IsT u more ts → ts.length ≤ more.length + 1 := by
  have hk : ∀ (ts l : List Int), ts.Pairwise (· < ·) → (∀ x ∈ ts, x ∈ l) → ts.length ≤ l.length := by
    intro ts
    induction ts with
    | nil => intro l _ _; simp
    | cons a ts ih =>
      intro l hp hs
      obtain ⟨h1, h2⟩ := List.pairwise_cons.1 hp
      have ha := hs a (List.mem_cons_self ..)
      have := ih (l.erase a) h2 fun x hx => (List.mem_erase_of_ne (by have := h1 x hx; omega)).2 (hs x (List.mem_cons_of_mem _ hx))
      rw [List.length_erase_of_mem ha] at this
      have hpos : 0 < l.length := List.length_pos_of_mem ha
      rw [List.length_cons]
      omega
  intro ts h
  have := hk ts (u :: more) h.up fun x hx => by
    rcases (h.mem x).1 hx with rfl | ⟨hx, _⟩
    · exact List.mem_cons_self ..
    · exact List.mem_cons_of_mem _ hx
  simpa using this

/-! ### New -/

def busyN : List Bz → Int → Int
  | [], _ => 0
  | b :: l, t => (if t < b.till then b.nodes else 0) + busyN l t
def newF (total : Int) (l : List Bz) (t : Int) : Int := total - busyN l t
theorem busyN_same {a b : Int} (hab : a ≤ b) : ∀ {l : List Bz}, (∀ x ∈ l.map (·.till), ¬ (a < x ∧ x ≤ b)) → busyN l a = busyN l b
  | [], _ => rfl
  | y :: l, h => by
    rw [busyN, busyN, busyN_same hab fun x hx => h x (List.mem_cons_of_mem _ hx)]
    have h1 := h y.till (List.mem_cons_self ..)
    congr 1
    by_cases ha : a < y.till
    · rw [if_pos ha, if_pos (by omega)]
    · rw [if_neg ha, if_neg (by omega)]
theorem new_isP {u total : Int} {l : List Bz} {ts : List Int} (h : IsT u (l.map (·.till)) ts) : IsP (madeL (newF total l) ts) (newF total l) u ∧ (madeL (newF total l) ts).length ≤ l.length + 1 := by
  obtain ⟨h1, h2⟩ := made_isP (F := newF total l) h fun a b _ hab hx => by
    unfold newF
    rw [busyN_same hab hx]
  have h3 := isT_len h
  rw [List.length_map] at h3
  exact ⟨h1, by omega⟩
theorem busyN_snoc (b : Bz) (t : Int) : ∀ l : List Bz, busyN (l ++ [b]) t = busyN l t + (if t < b.till then b.nodes else 0)
  | [] => by simp [busyN]
  | y :: l => by
    rw [List.cons_append, busyN, busyN, busyN_snoc b t l]
    omega
theorem busyN_le {K : Int} (hK : 0 ≤ K) {t : Int} : ∀ {l : List Bz}, (∀ b ∈ l, 0 ≤ b.nodes ∧ b.nodes ≤ K) → 0 ≤ busyN l t ∧ busyN l t ≤ l.length * K
  | [], _ => by simp [busyN]
  | y :: l, h => by
    have h1 := busyN_le hK (t := t) (l := l) fun b hb => h b (List.mem_cons_of_mem _ hb)
    have h2 := h y (List.mem_cons_self ..)
    rw [busyN, List.length_cons]
    have h3 : ((l.length + 1 : Nat) : Int) * K = l.length * K + K := by
      rw [Int.natCast_add, Int.add_mul]; simp
    rw [h3]
    split <;> omega

/-! ### Take -/

def takeF (p : List St) (at' long nodes : Int) (t : Int) : Int := val p t - (if at' ≤ t ∧ t < at' + long then nodes else 0)
theorem valA_same {a b : Int} (hab : a ≤ b) : ∀ {p : List St} {acc : Int}, (∀ x ∈ p.map (·.tick), ¬ (a < x ∧ x ≤ b)) → valA acc p a = valA acc p b
  | [], _, _ => rfl
  | s :: p, acc, h => by
    have h1 := h s.tick (List.mem_cons_self ..)
    rw [valA_cons, valA_cons]
    by_cases ha : s.tick ≤ a
    · rw [if_pos ha, if_pos (by omega)]
      exact valA_same hab fun x hx => h x (List.mem_cons_of_mem _ hx)
    · rw [if_neg ha, if_neg (by omega)]
      exact valA_same hab fun x hx => h x (List.mem_cons_of_mem _ hx)
theorem take_isP {u at' long nodes : Int} {p : List St} {ts : List Int} (hl : 0 ≤ long) (h : IsT u (at' :: (at' + long) :: p.map (·.tick)) ts) : IsP (madeL (takeF p at' long nodes) ts) (takeF p at' long nodes) u ∧ (madeL (takeF p at' long nodes) ts).length ≤ p.length + 3 := by
  obtain ⟨h1, h2⟩ := made_isP (F := takeF p at' long nodes) h fun a b _ hab hx => by
    unfold takeF
    have e1 : val p a = val p b := valA_same hab fun x hx2 => hx x (List.mem_cons_of_mem _ (List.mem_cons_of_mem _ hx2))
    have e2 := hx at' (List.mem_cons_self ..)
    have e3 := hx (at' + long) (List.mem_cons_of_mem _ (List.mem_cons_self ..))
    rw [e1]
    congr 1
    by_cases hc : at' ≤ a ∧ a < at' + long
    · rw [if_pos hc, if_pos (by omega)]
    · rw [if_neg hc, if_neg (by omega)]
  have h3 := isT_len h
  simp only [List.length_cons, List.length_map] at h3
  exact ⟨h1, by omega⟩

/-! ### What steps may be -/

/-- A step behind the first stands where the function changes. -/
theorem isP_ticks {p : List St} {F : Int → Int} {u : Int} (h : IsP p F u) : ∀ s ∈ p, u ≤ s.tick ∧ s.free = F s.tick ∧ (s.tick = u ∨ F (s.tick - 1) ≠ F s.tick) := by
  obtain ⟨hn, ⟨f, l, rfl⟩, hf⟩ := h
  have key : ∀ (l : List St) (acc : Int) (a : St), Norm (a :: l) → ∀ s ∈ l, a.tick < s.tick ∧ valA acc (a :: l) s.tick = s.free ∧ valA acc (a :: l) (s.tick - 1) ≠ s.free := by
    intro l
    induction l with
    | nil => intro acc a _ s hs; cases hs
    | cons b l ih =>
      intro acc a hn s hs
      have hab := hn.1
      rw [valA_cons acc, valA_cons acc]
      rcases List.mem_cons.1 hs with rfl | hs
      · refine ⟨hab, ?_, ?_⟩
        · rw [valA_cons, if_pos (Int.le_refl _), valA_far (norm_lt hn.2.2)]
        · rw [if_pos (by omega), valA_cons, if_neg (by omega), valA_far (fun x hx => by have := norm_lt hn.2.2 x hx; omega)]
          exact hn.2.1
      · obtain ⟨h1, h2, h3⟩ := ih (if a.tick ≤ s.tick then a.free else acc) b hn.2.2 s hs
        obtain ⟨_, _, h4⟩ := ih (if a.tick ≤ s.tick - 1 then a.free else acc) b hn.2.2 s hs
        exact ⟨by omega, h2, h4⟩
  intro s hs
  rcases List.mem_cons.1 hs with rfl | hs
  · refine ⟨Int.le_refl _, ?_, .inl rfl⟩
    have := hf u (Int.le_refl _)
    unfold val at this
    rw [valA_cons, if_pos (Int.le_refl _), valA_far (norm_lt hn)] at this
    exact this
  · obtain ⟨h1, h2, h3⟩ := key l 0 _ hn s hs
    have e1 := hf s.tick (by simp only at h1; omega)
    have e2 := hf (s.tick - 1) (by simp only at h1; omega)
    unfold val at e1 e2
    rw [h2] at e1
    refine ⟨by simp only at h1; omega, e1, .inr ?_⟩
    rw [← e2, ← e1]
    exact h3

/-! ### Fit -/

def fitsAt (p : List St) (nodes long m : Int) : Prop := ∀ t, m ≤ t → t < m + long → nodes ≤ val p t
def longOf (long : Int) : Int := if long < 1 then 1 else long
/-- The least tick from which on so many are free for so long; or none. -/
def IsF (p : List St) (nodes long n : Int) (ok : Bool) : Prop :=
  (ok = true ∧ ∃ a l, p = a :: l ∧ a.tick ≤ n ∧ fitsAt p nodes (longOf long) n ∧ ∀ m, a.tick ≤ m → m < n → ¬ fitsAt p nodes (longOf long) m) ∨
  (ok = false ∧ n = 0 ∧ ∀ a l, p = a :: l → ∀ m, a.tick ≤ m → ¬ fitsAt p nodes (longOf long) m)
theorem isF_one {p : List St} {nodes long n m : Int} {b c : Bool} (h : IsF p nodes long n b) (k : IsF p nodes long m c) : n = m ∧ b = c := by
  rcases h with ⟨rfl, a, l, rfl, h1, h2, h3⟩ | ⟨rfl, rfl, h1⟩
  · rcases k with ⟨rfl, a', l', e, k1, k2, k3⟩ | ⟨rfl, rfl, k1⟩
    · injection e with e1 e2
      subst e1
      refine ⟨?_, rfl⟩
      rcases Int.lt_trichotomy n m with hlt | heq | hgt
      · exact absurd h2 (k3 n h1 hlt)
      · exact heq
      · exact absurd k2 (h3 m k1 hgt)
    · exact absurd h2 (k1 a l rfl n h1)
  · rcases k with ⟨rfl, a, l, rfl, k1, k2, k3⟩ | ⟨rfl, rfl, _⟩
    · exact absurd k2 (h1 a l rfl m k1)
    · exact ⟨rfl, rfl⟩
end Go.Proofs.Ytcndihekpdebhaa.Prf
/- Profile: Fit step by step is Fit tick by tick (mathematics). -/
namespace Go.Proofs.Ytcndihekpdebhaa.Prf
set_option linter.unusedVariables false

theorem valA_append (t : Int) (C : List St) : ∀ (A : List St) (acc : Int), valA acc (A ++ C) t = valA (valA acc A t) C t
  | [], _ => rfl
  | a :: A, acc => by rw [List.cons_append, valA_cons, valA_append t C A, valA_cons]
theorem val_drop {p B : List St} {i : Nat} {s : St} {t : Int} (h : p.drop i = s :: B) (hs : s.tick ≤ t) : val p t = valA s.free B t := by
  unfold val
  conv => lhs; rw [← List.take_append_drop i p, h]
  rw [valA_append, valA_cons, if_pos hs]
/-- From a step on, as long as steps begin ahead of a tick: are so many free? -/
def runB (nodes lim : Int) : List St → Bool
  | [] => true
  | b :: B => if b.tick < lim then (if b.free < nodes then false else runB nodes lim B) else true
theorem run_far {nodes lim : Int} : ∀ {B : List St}, (∀ s ∈ B, lim ≤ s.tick) → runB nodes lim B = true
  | [], _ => rfl
  | b :: B, h => by rw [runB, if_neg (by have := h b (List.mem_cons_self ..); omega)]
theorem run_iff {nodes lim : Int} : ∀ (B : List St) (s : St), Norm (s :: B) → s.tick < lim → (runB nodes lim (s :: B) = true ↔ ∀ t, s.tick ≤ t → t < lim → nodes ≤ valA s.free B t)
  | [], s, _, hl => by
    rw [runB, if_pos hl, runB]
    constructor
    · intro h t _ _
      show nodes ≤ s.free
      by_cases hf : s.free < nodes
      · rw [if_pos hf] at h; cases h
      · omega
    · intro h
      have h0 : nodes ≤ s.free := h s.tick (Int.le_refl _) hl
      rw [if_neg (by omega)]
  | b :: B, s, hn, hl => by
    have hsb := hn.1
    rw [runB, if_pos hl]
    constructor
    · intro h t h1 h2
      by_cases hf : s.free < nodes
      · rw [if_pos hf] at h; cases h
      · rw [if_neg hf] at h
        rw [valA_cons]
        by_cases hb : b.tick ≤ t
        · rw [if_pos hb]
          exact (run_iff B b hn.2.2 (by omega)).1 h t hb h2
        · rw [if_neg hb, valA_far (fun x hx => by have := norm_lt hn.2.2 x hx; omega)]
          omega
    · intro h
      have h0 := h s.tick (Int.le_refl _) hl
      rw [valA_far (norm_lt hn)] at h0
      rw [if_neg (by omega)]
      by_cases hb : b.tick < lim
      · refine (run_iff B b hn.2.2 hb).2 fun t h1 h2 => ?_
        have := h t (by omega) h2
        rw [valA_cons, if_pos h1] at this
        exact this
      · rw [runB, if_neg hb]
theorem norm_drop : ∀ {p : List St} (i : Nat), Norm p → Norm (p.drop i)
  | [], _, _ => by rw [List.drop_nil]; trivial
  | _ :: _, 0, h => h
  | _ :: p, i + 1, h => norm_drop (p := p) i (norm_tail h)
theorem step_fits {p B : List St} {i : Nat} {s : St} {nodes long : Int} (hn : Norm p) (h : p.drop i = s :: B) (hl : 1 ≤ long) : runB nodes (s.tick + long) (p.drop i) = true ↔ fitsAt p nodes long s.tick := by
  have hn2 := norm_drop i hn
  rw [h] at hn2 ⊢
  rw [run_iff B s hn2 (by omega)]
  unfold fitsAt
  constructor
  · intro k t h1 h2
    rw [val_drop h h1]
    exact k t h1 h2
  · intro k t h1 h2
    have := k t h1 h2
    rwa [val_drop h h1] at this
/-- Where so many fit they fit from the step on in which that lies. -/
theorem fit_step {p : List St} {nodes long m u : Int} (h : fitsAt p nodes long m) (hl : 1 ≤ long) (hu : u ∈ p.map (·.tick)) (hum : u ≤ m) : ∃ v, v ∈ p.map (·.tick) ∧ v ≤ m ∧ fitsAt p nodes long v := by
  obtain ⟨v, h1, h2, h3⟩ := greatest hu hum
  refine ⟨v, h1, h2, fun t k1 k2 => ?_⟩
  by_cases htm : t ≤ m
  · have e : val p t = val p m := valA_same htm fun x hx ⟨hx1, hx2⟩ => by
      have := h3 x hx hx2
      omega
    rw [e]
    exact h m (Int.le_refl _) (by omega)
  · exact h t (by omega) (by omega)
theorem norm_ticks : ∀ {p : List St}, Norm p → p.Pairwise fun a b => a.tick < b.tick
  | [], _ => List.Pairwise.nil
  | a :: p, h => List.Pairwise.cons (norm_lt h) (norm_ticks (norm_tail h))
/-- The first step that fits is the least tick; none, if no step does. -/
theorem fit_found {p B : List St} {i : Nat} {s : St} {nodes long : Int} (hn : Norm p) (h : p.drop i = s :: B) (hno : ∀ x ∈ p.take i, ¬ fitsAt p nodes (longOf long) x.tick) (hf : fitsAt p nodes (longOf long) s.tick) : IsF p nodes long s.tick true := by
  have hl : 1 ≤ longOf long := by unfold longOf; split <;> omega
  have hp := norm_ticks hn
  rw [← List.take_append_drop i p, h] at hp
  obtain ⟨-, hp2, hp3⟩ := List.pairwise_append.1 hp
  have hmem : ∀ x ∈ p, x.tick < s.tick → x ∈ p.take i := fun x hx hlt => by
    rw [← List.take_append_drop i p, h] at hx
    rcases List.mem_append.1 hx with hx | hx
    · exact hx
    · rcases List.mem_cons.1 hx with rfl | hx
      · omega
      · have := (List.pairwise_cons.1 hp2).1 x hx; omega
  have hsp : s ∈ p := List.mem_of_mem_drop (i := i) (by rw [h]; exact List.mem_cons_self ..)
  refine .inl ⟨rfl, ?_⟩
  cases p with
  | nil => cases hsp
  | cons a l =>
    refine ⟨a, l, rfl, ?_, hf, fun m h1 h2 h3 => ?_⟩
    · rcases List.mem_cons.1 hsp with rfl | hs
      · exact Int.le_refl _
      · have := norm_lt hn s hs; omega
    · obtain ⟨v, k1, k2, k3⟩ := fit_step h3 hl (u := a.tick) (List.mem_map.2 ⟨a, List.mem_cons_self .., rfl⟩) h1
      obtain ⟨x, hx, rfl⟩ := List.mem_map.1 k1
      exact hno x (hmem x hx (by omega)) k3
theorem fit_none {p : List St} {nodes long : Int} (hno : ∀ x ∈ p, ¬ fitsAt p nodes (longOf long) x.tick) : IsF p nodes long 0 false := by
  have hl : 1 ≤ longOf long := by unfold longOf; split <;> omega
  refine .inr ⟨rfl, rfl, fun a l hp m h1 h3 => ?_⟩
  obtain ⟨v, k1, k2, k3⟩ := fit_step h3 hl (u := a.tick) (List.mem_map.2 ⟨a, by rw [hp]; exact List.mem_cons_self .., rfl⟩) h1
  obtain ⟨x, hx, rfl⟩ := List.mem_map.1 k1
  exact hno x hx k3
end Go.Proofs.Ytcndihekpdebhaa.Prf
/- Lists of numbers in memory: read, made, a call's own. -/
namespace Go.Proofs.Ytcndihekpdebhaa.Tre
set_option maxRecDepth 100000
open Go.RowKit
open Go.Sort
open Kit
set_option linter.unusedVariables false

def encI (n : Int) : List Value := [.int .i64 n]
theorem encI_len (x : Int) : (encI x).length = 1 := rfl
theorem encI_one (x : Int) : ∀ u ∈ encI x, u.oneCell' = true := by
  intro u hu
  simp [encI] at hu
  subst hu; rfl
variable {w w' : World}
abbrev IntsL := Lst encI 1
theorem int_cell {b o n c k : Nat} {l : List Int} (h : IntsL w (some ⟨b, o, none⟩) n c l) (hk : k < l.length) : w.cell? ⟨b, o + k, none⟩ = some (.int .i64 l[k]) := by
  have := row_cell h.row hk rfl (i := 0) (by omega)
  simpa [encI] using this
/-- Numbers in new memory. -/
def NewI (w : World) (base : Nat) (v : Value) (l : List Int) : Prop := ∃ a c, v = .slice a l.length c ∧ IntsL w a l.length c l ∧ ∀ q, a = some q → base ≤ q.block ∧ q.block < w.heap.size
theorem newI_keep {base : Nat} {v : Value} {l : List Int} (h : NewI w base v l) (hb : Below w.heap.size w w') : NewI w' base v l := by
  obtain ⟨a, c, e, h1, h2⟩ := h
  exact ⟨a, c, e, lst_keep encI_len h1 hb, fun q hq => ⟨(h2 q hq).1, Nat.lt_of_lt_of_le (h2 q hq).2 hb.size⟩⟩
theorem newI_le {base base' : Nat} {v : Value} {l : List Int} (h : NewI w base v l) (hb : base' ≤ base) : NewI w base' v l := by
  obtain ⟨a, c, e, h1, h2⟩ := h
  exact ⟨a, c, e, h1, fun q hq => ⟨Nat.le_trans hb (h2 q hq).1, (h2 q hq).2⟩⟩
theorem newI_nil (w : World) (base : Nat) : NewI w base (.slice none 0 0) [] := ⟨none, 0, rfl, ⟨rfl, Nat.le_refl _, Nat.zero_le _, (fun _ => ⟨rfl, rfl⟩), .inl rfl⟩, fun q hq => by cases hq⟩
theorem newI_own {base : Nat} {v : Value} {l : List Int} (h : Owns encI 1 3 w base v l) : NewI w base v l := by
  obtain ⟨a, c, rfl, h1, h2, h3, h4⟩ := owns_row encI_len h
  refine ⟨a, c, rfl, ⟨rfl, h1, h2, fun e => ⟨by have := h3 e; omega, h3 e⟩, h4⟩, fun q hq => ?_⟩
  subst hq
  exact World.ownsRow.lt h q.block rfl
theorem owns_lit (w : World) (f : Int) (base : Nat) (hb : base ≤ w.heap.size) : Owns encI 1 3 (w.alloc (.cells #[.int .i64 f] 3)) base (.slice (some ⟨w.heap.size, 0, none⟩) 1 1) [f] :=
  ⟨rfl, .inr ⟨w.heap.size, 1, _, rfl, hb, heap_alloc_new w _, Nat.le_refl _, by unfold maxLen; omega, rfl, rfl⟩⟩
theorem info_i : (Try.prog.info? 3).map (fun i => (i.zero, i.size, i.bytes)) = some (some (.int .i64 0), 1, 8) := by kernel_rfl

theorem own_chg' {base : Nat} {v : Value} {l : List Int} (h : Owns encI 1 3 w base v l) (hb : Below w.heap.size w w') : Owns encI 1 3 w' base v l := by
  rcases h with ⟨h1, h2 | ⟨g, cap, cur, e1, e2, e3, e4, e5, e6, e7⟩⟩
  · exact ⟨h1, .inl h2⟩
  · exact ⟨h1, .inr ⟨g, cap, cur, e1, e2, by rw [hb.block g (Array.getElem?_eq_some_iff.1 e3).1]; exact e3, e4, e5, e6, e7⟩⟩
theorem lit_row (w : World) (k : Int) : Kit.Row encI 1 (w.alloc (.cells #[.int .i64 k] 3)) (some ⟨w.heap.size, 0, none⟩) [k] := by
  obtain ⟨a', c', e', _, _, _, hrow⟩ := owns_row encI_len (owns_lit w k w.heap.size (Nat.le_refl _))
  cases e'
  exact hrow

theorem lit2_row (w : World) (x y : Int) : Kit.Row encI 1 (w.alloc (.cells #[.int .i64 x, .int .i64 y] 3)) (some ⟨w.heap.size, 0, none⟩) [x, y] := row_new encI_len w [x, y] _ _ _ rfl rfl
abbrev OwI (w : World) (base : Nat) (v : Value) (l : List Int) : Prop := Owns encI 1 3 w base v l
theorem run_bs_i (x : Int) (w : World) : (Instr.buildSlice 34 1 #[(0, .int .i64 x)]).run Try.prog w = .ok (.slice (some ⟨w.heap.size, 0, none⟩) 1 1) (w.alloc (.cells #[.int .i64 x] 3)) := by
  simp [go_sem]
end Go.Proofs.Ytcndihekpdebhaa.Tre
/- A region that draws its order, by an invariant: what holds whenever some of its operations have come up. -/
namespace Go.Proofs.Ytcndihekpdebhaa.Reg

variable {P : Program} {ops : Array Oper} {Q : Exit → Act → World → Prop} {md : Region.Mode}

theorem ready_false {listed : Array Bool} {i : Nat} (h : i ∈ Region.ready md ops listed) : listed.getD i true = false := by
  unfold Region.ready at h
  simp only [List.mem_filter, Bool.and_eq_true] at h
  simpa using h.2.1

theorem getD_false {listed : Array Bool} {i : Nat} (h : listed.getD i true = false) : ∃ hi : i < listed.size, listed[i] = false := by
  by_cases hi : i < listed.size
  · simp [hi] at h; exact ⟨hi, h⟩
  · simp [hi] at h

theorem wpAny_inv {I : Array Bool → Act → World → Prop} (hdone : ∀ listed a w, I listed a w → Region.ready md ops listed = [] → Q .normal a w)
    (hstep : ∀ listed a w i, I listed a w → i ∈ Region.ready md ops listed → wpOp P ops Q i (I (listed.setIfInBounds i true)) a w) :
    ∀ (fuel : Nat) (listed : Array Bool) (a : Act) (w : World), I listed a w → listed.toList.count false ≤ fuel → wpAny P md ops Q fuel listed a w := by
  intro fuel
  induction fuel with
  | zero =>
    intro listed a w hI hc
    have hr : Region.ready md ops listed = [] := by
      cases h : Region.ready md ops listed with
      | nil => rfl
      | cons i l =>
        obtain ⟨hi, he⟩ := getD_false (ready_false (md := md) (ops := ops) (listed := listed) (i := i) (by rw [h]; simp))
        have : false ∈ listed.toList := by rw [← he]; simp
        have := List.count_pos_iff.2 this
        omega
    exact ⟨hr, hdone listed a w hI hr⟩
  | succ fuel ih =>
    intro listed a w hI hc
    refine ⟨hdone listed a w hI, fun i hi => wpOp_mono (fun a' w' h' => ih _ a' w' h' ?_) (hstep listed a w i hI hi)⟩
    obtain ⟨hlt, he⟩ := getD_false (ready_false hi)
    rw [Array.toList_setIfInBounds, List.count_set (by simpa using hlt)]
    have hf : false ∈ listed.toList := by rw [← he]; simp
    have := List.count_pos_iff.2 hf
    simp only [Array.getElem_toList, he, beq_self_eq_true, if_true, show (true == false) = false from rfl, Bool.false_eq_true, if_false]
    omega

/-- All ways of a region. -/
theorem any_inv {a : Act} {w : World} (I : Array Bool → Act → World → Prop) (h0 : I (Array.replicate ops.size false) a w.drew)
    (hdone : ∀ listed a w, I listed a w → Region.ready md ops listed = [] → Q .normal a w)
    (hstep : ∀ listed a w i, I listed a w → i ∈ Region.ready md ops listed → wpOp P ops Q i (I (listed.setIfInBounds i true)) a w) : wpAny P md ops Q ops.size (Array.replicate ops.size false) a w.drew :=
  wpAny_inv hdone hstep _ _ _ _ h0 (by simp)
/-- The whole region. -/
theorem wp_region_inv {id : Nat} {a : Act} {w : World} (I : Array Bool → Act → World → Prop) (hm : P.follows .mixedOrders = true) (h0 : I (Array.replicate ops.size false) a w.drew)
    (hdone : ∀ listed a w, I listed a w → Region.ready .any ops listed = [] → Q .normal a w)
    (hstep : ∀ listed a w i, I listed a w → i ∈ Region.ready .any ops listed → wpOp P ops Q i (I (listed.setIfInBounds i true)) a w) : (Code.region id ops true).wp P Q a w :=
  wp_region_any hm (any_inv I h0 hdone hstep)

/-- Where nothing may come up any more, whatever waits for nothing that has not come up has come up. -/
theorem none_ready {listed : Array Bool} {i : Nat} {o : Oper} (hs : listed.size = ops.size) (h : Region.ready md ops listed = []) (ho : ops[i]? = some o)
    (hd : ∀ e ∈ o.after, Region.binds md e = true → listed.getD e.on false = true) : listed.getD i false = true := by
  have hi : i < listed.size := by rw [hs]; exact (Array.getElem?_eq_some_iff.1 ho).1
  cases hb : listed[i] with
  | true => simp [hi, hb]
  | false =>
    have : i ∈ Region.ready md ops listed := mem_ready.2 ⟨by simp [hi, hb], o, ho, hd⟩
    rw [h] at this
    cases this

end Go.Proofs.Ytcndihekpdebhaa.Reg
/- A region that draws its order and whose values hang on the memory that its own calls make: one look at each operation, what it leaves told by what holds of its slot. -/
namespace Go.Proofs.Ytcndihekpdebhaa.Rel
open Go.RowKit

/-- What a slot holds: it stays so while the world goes on. -/
structure Kd (G : World → World → Prop) where
  p : World → Value → Prop
  st : ∀ w w' v, G w w' → p w v → p w' v
def Kd.is {G : World → World → Prop} (v : Value) : Kd G := ⟨fun _ u => u = v, fun _ _ _ _ h => h⟩
def Kd.any {G : World → World → Prop} : Kd G := ⟨fun _ _ => True, fun _ _ _ _ h => h⟩

/-- The world goes on: what was there stays. -/
def Gr (w w' : World) : Prop := Below w.heap.size w w'
theorem gr_refl (w : World) : Gr w w := Below.refl _ _

def slot (a : Act) (d : Tmp) : Value := a.tmps.getD d undef
theorem eval_tmp {a : Act} {d : Tmp} {v : Value} (h : slot a d = v) : a.eval (.tmp d) = v := h

/-- Does operation o wait for operation j? -/
def waits (o : Oper) (j : Nat) : Bool := o.after.toList.any fun e => e.on == j && Region.binds .any e
def unwritten (ops : Array Oper) (s : Tmp) : Bool := ops.toList.all fun o => o.dst != some s
/-- A table of what the slots hold. -/
def tab {G : World → World → Prop} (l : List (Kd G)) (i : Nat) : Kd G := l.getD i Kd.any
/-- Each operation writes a slot of its own. -/
def apartB : List Oper → Bool
  | [] => true
  | o :: l => o.dst.isSome && l.all (fun x => x.dst != o.dst) && apartB l

section
variable {P : Program} {ops : Array Oper} {Q : Exit → Act → World → Prop} {G : World → World → Prop} {V : Nat → Kd G} {J : Array Bool → World → Prop} {a0 : Act}

/-- What is known when operation k, o, comes up. -/
structure Cx (ops : Array Oper) (V : Nat → Kd G) (J : Array Bool → World → Prop) (a0 : Act) (k : Nat) (o : Oper) (L : Array Bool) (a : Act) (w : World) : Prop where
  size : L.size = ops.size
  free : L.getD k true = false
  base : ∀ s, unwritten ops s = true → slot a s = slot a0 s
  room : a.tmps.size = a0.tmps.size
  inv : J L w
  dep : ∀ (j : Nat) (o' : Oper) (d : Tmp), ops[j]? = some o' → o'.dst = some d → waits o j = true → (V j).p w (slot a d)
  came : ∀ j, waits o j = true → L.getD j false = true
  chain : ∀ (j : Nat) (o' : Oper) (i : Nat), ops[j]? = some o' → L.getD j false = true → waits o' i = true → L.getD i false = true

/-- By Bools that the kernel reckons: operation j writes slot d, and o waits for it; o is carried out where j yields b. -/
def depB (ops : Array Oper) (o : Oper) (j : Nat) (d : Tmp) : Bool := waits o j && (match ops.toList[j]? with | some o' => o'.dst == some d | none => false)
def wantB (ops : Array Oper) (o : Oper) (j : Nat) (b : Bool) (d : Tmp) : Bool := (match o.guard with | some (j', b') => j' == j && b' == b | none => false) && (match ops.toList[j]? with | some o' => o'.dst == some d | none => false)
def waitsAt (ops : Array Oper) (j i : Nat) : Bool := match ops.toList[j]? with | some o' => waits o' i | none => false
def freeB (o : Oper) : Bool := o.guard.isNone
theorem Cx.get {k : Nat} {o : Oper} {L : Array Bool} {a : Act} {w : World} (c : Cx ops V J a0 k o L a w) (j : Nat) (d : Tmp) (h : depB ops o j d = true) : (V j).p w (slot a d) := by
  unfold depB at h
  simp only [Bool.and_eq_true] at h
  cases ho : ops.toList[j]? with
  | none => rw [ho] at h; simp at h
  | some o' =>
    rw [ho] at h
    exact c.dep j o' d (by simpa using ho) (by simpa using h.2) h.1
/-- What came ahead of what has come. -/
theorem Cx.via {k : Nat} {o : Oper} {L : Array Bool} {a : Act} {w : World} (c : Cx ops V J a0 k o L a w) (j i : Nat) (h : waitsAt ops j i = true) (hj : L.getD j false = true) : L.getD i false = true := by
  unfold waitsAt at h
  cases ho : ops.toList[j]? with
  | none => rw [ho] at h; cases h
  | some o' =>
    rw [ho] at h
    exact c.chain j o' i (by simpa using ho) hj h
theorem Cx.old {k : Nat} {o : Oper} {L : Array Bool} {a : Act} {w : World} (c : Cx ops V J a0 k o L a w) (s : Tmp) {v : Value} (h : unwritten ops s = true) (hv : slot a0 s = v) : slot a s = v := (c.base s h).trans hv

/-- What it leaves. -/
def Left (V : Nat → Kd G) (J : Array Bool → World → Prop) (k : Nat) (o : Oper) (L : Array Bool) (a : Act) (w : World) (a' : Act) (w' : World) : Prop :=
  ∃ v, a' = a.put o.dst v ∧ G w w' ∧ (V k).p w' v ∧ J (L.setIfInBounds k true) w'

def Step (P : Program) (ops : Array Oper) (Q : Exit → Act → World → Prop) (V : Nat → Kd G) (J : Array Bool → World → Prop) (a0 : Act) (k : Nat) (o : Oper) : Prop :=
  ∀ L a w, Cx ops V J a0 k o L a w →
    (Region.wanted o (yielded ops a.tmps) = true ∧ o.wp P a w (Left V J k o L a w) Q) ∨
    (Region.wanted o (yielded ops a.tmps) = false ∧ (V k).p w undef ∧ J (L.setIfInBounds k true) w)

def Steps (P : Program) (ops : Array Oper) (Q : Exit → Act → World → Prop) (V : Nat → Kd G) (J : Array Bool → World → Prop) (a0 : Act) : Nat → List Oper → Prop
  | _, [] => True
  | k, o :: l => Step P ops Q V J a0 k o ∧ Steps P ops Q V J a0 (k + 1) l

theorem steps_at (l : List Oper) : ∀ (k : Nat), Steps P ops Q V J a0 k l → ∀ (j : Nat) (o : Oper), l[j]? = some o → Step P ops Q V J a0 (k + j) o := by
  induction l with
  | nil => intro k _ j o e; simp at e
  | cons x l ih =>
    intro k h j o e
    cases j with
    | zero =>
      simp at e; subst e
      exact h.1
    | succ j =>
      have := ih (k + 1) h.2 j o (by simpa using e)
      rw [show k + (j + 1) = k + 1 + j by omega]; exact this

theorem apart_at (l : List Oper) : apartB l = true → ∀ (i j : Nat) (o o' : Oper), l[i]? = some o → l[j]? = some o' → i ≠ j → o.dst ≠ o'.dst := by
  induction l with
  | nil => intro _ i j o o' e; simp at e
  | cons x l ih =>
    intro h i j o o' e e' hne
    simp only [apartB, Bool.and_eq_true, List.all_eq_true, bne_iff_ne, ne_eq] at h
    cases i with
    | zero =>
      cases j with
      | zero => exact absurd rfl hne
      | succ j =>
        simp at e e'; subst e
        exact fun he => h.1.2 _ (List.mem_of_getElem? e') he.symm
    | succ i =>
      cases j with
      | zero =>
        simp at e e'; subst e'
        exact h.1.2 _ (List.mem_of_getElem? e)
      | succ j => exact ih h.2 i j o o' (by simpa using e) (by simpa using e') (by omega)

theorem apart_some (l : List Oper) : apartB l = true → ∀ (i : Nat) (o : Oper), l[i]? = some o → ∃ d, o.dst = some d := by
  intro h i o e
  induction l generalizing i with
  | nil => simp at e
  | cons x l ih =>
    simp only [apartB, Bool.and_eq_true] at h
    cases i with
    | zero =>
      simp at e; subst e
      exact Option.isSome_iff_exists.1 h.1.1
    | succ i => exact ih h.2 i (by simpa using e)

/-- Each operation waits for earlier ones alone. -/
def orderB : Nat → List Oper → Bool
  | _, [] => true
  | k, o :: l => (o.after.all fun e => !(Region.binds .any e) || decide (e.on < k)) && orderB (k + 1) l
theorem order_at (l : List Oper) : ∀ (k : Nat), orderB k l = true → ∀ (j : Nat) (o : Oper), l[j]? = some o → ∀ e ∈ o.after, Region.binds .any e = true → e.on < k + j := by
  induction l with
  | nil => intro k _ j o e; simp at e
  | cons x l ih =>
    intro k h j o e
    simp only [orderB, Bool.and_eq_true] at h
    cases j with
    | zero =>
      simp at e; subst e
      intro e he hb
      have := h.1
      rw [Array.all_eq_true'] at this
      have := this e he
      rw [hb] at this
      simpa using this
    | succ j =>
      intro e' he hb
      have := ih (k + 1) h.2 j o (by simpa using e) e' he hb
      omega

theorem slot_put_ne {a : Act} {d s : Tmp} {v : Value} (h : d ≠ s) : slot (a.put (some d) v) s = slot a s := by
  unfold slot Act.put
  simp only [Array.getD_eq_getD_getElem?]
  rw [Array.getElem?_setIfInBounds_ne h]
theorem slot_put {a : Act} {d : Tmp} {v : Value} (h : d < a.tmps.size) : slot (a.put (some d) v) d = v := by
  unfold slot Act.put
  simp [h]
theorem put_size (a : Act) (d : Option Tmp) (v : Value) : (a.put d v).tmps.size = a.tmps.size := by
  unfold Act.put; split <;> simp
theorem put_defers (a : Act) (d : Option Tmp) (v : Value) : (a.put d v).defers = a.defers := by
  unfold Act.put; split <;> rfl

/-- The frame behind a region: the slots in 'loose' as they are, all others as they were. -/
theorem act_mix {a : Act} (loose : List Nat) (hb : ∀ s, unwritten ops s = true → slot a s = slot a0 s) (hr : a.tmps.size = a0.tmps.size) (hd : a.defers = a0.defers)
    (hl : ((List.range a0.tmps.size).all fun i => loose.contains i || unwritten ops i) = true) :
    a = { tmps := ((List.range a0.tmps.size).map fun i => cond (loose.contains i) (slot a i) (slot a0 i)).toArray, defers := a0.defers } := by
  obtain ⟨tm, df⟩ := a
  simp only at hr hd
  subst hd
  congr 1
  apply Array.ext
  · simpa using hr
  · intro i h1 h2
    have hi : i < a0.tmps.size := by omega
    have h3 := List.all_eq_true.1 hl i (List.mem_range.2 hi)
    have hs : slot { tmps := tm, defers := a0.defers } i = tm[i] := by
      unfold slot
      simp [h1]
    simp only [List.getElem_toArray, List.getElem_map, List.getElem_range]
    cases hc : loose.contains i with
    | true => simp only [cond_true]; exact hs.symm
    | false =>
      rw [hc] at h3
      simp only [cond_false]
      rw [← hb i (by simpa using h3)]
      exact hs.symm

/-- Whatever has come up. -/
def Inv (ops : Array Oper) (V : Nat → Kd G) (J : Array Bool → World → Prop) (a0 : Act) (L : Array Bool) (a : Act) (w : World) : Prop :=
  L.size = ops.size ∧ (∀ s, unwritten ops s = true → slot a s = slot a0 s) ∧ a.tmps.size = a0.tmps.size ∧ a.defers = a0.defers ∧ J L w ∧
  (∀ (j : Nat) (o : Oper) (d : Tmp), ops[j]? = some o → o.dst = some d → L.getD j false = true → (V j).p w (slot a d)) ∧
  ∀ (j : Nat) (o' : Oper) (i : Nat), ops[j]? = some o' → L.getD j false = true → waits o' i = true → L.getD i false = true

theorem unwritten_ne {s : Tmp} (h : unwritten ops s = true) {i : Nat} {o : Oper} (ho : ops[i]? = some o) : o.dst ≠ some s := by
  unfold unwritten at h
  have := List.all_eq_true.1 h o (by simpa using Array.mem_of_getElem? ho)
  simpa using this

theorem inv_step {k : Nat} {o : Oper} {L : Array Bool} {a : Act} {w w' : World} {v : Value} (hap : apartB ops.toList = true) (hsz : ∀ (i : Nat) (o : Oper) (d : Tmp), ops[i]? = some o → o.dst = some d → d < a0.tmps.size)
    (ho : ops[k]? = some o) (hk : L.getD k true = false) (hcm : ∀ j, waits o j = true → L.getD j false = true) (hI : Inv ops V J a0 L a w) (hG : G w w') (hv : (V k).p w' v) (hJ : J (L.setIfInBounds k true) w') : Inv ops V J a0 (L.setIfInBounds k true) (a.put o.dst v) w' := by
  obtain ⟨h1, h2, h3, h4, h5, h6, h7⟩ := hI
  have hset : ∀ i, L.getD i false = true → (L.setIfInBounds k true).getD i false = true := by
    intro i hi
    by_cases hik : k = i
    · subst hik
      obtain ⟨hs, _⟩ := Reg.getD_false hk
      simp [hs]
    · simpa [hik] using hi
  obtain ⟨d, hd⟩ := apart_some ops.toList hap k o (by simpa using ho)
  have hdn := hsz k o d ho hd
  refine ⟨by simp [h1], fun s hs => ?_, by rw [put_size]; exact h3, by rw [put_defers]; exact h4, hJ, fun j o' d' ho' hd' hl => ?_, fun j o' i ho' hl hw => ?_⟩
  · rw [hd, slot_put_ne (fun e => unwritten_ne hs ho (by rw [hd, e]))]
    exact h2 s hs
  · by_cases hjk : j = k
    · subst hjk
      rw [ho] at ho'
      injection ho' with ho'
      subst ho'
      rw [hd] at hd'
      injection hd' with hd'
      subst hd'
      rw [hd, slot_put (by rw [h3]; exact hdn)]
      exact hv
    · have hne := apart_at ops.toList hap k j o o' (by simpa using ho) (by simpa using ho') (Ne.symm hjk)
      rw [hd, slot_put_ne (fun e => hne (by rw [hd, hd', e]))]
      refine (V j).st w w' _ hG (h6 j o' d' ho' hd' ?_)
      simpa [Ne.symm hjk] using hl
  · by_cases hjk : j = k
    · subst hjk
      rw [ho] at ho'
      injection ho' with ho'
      subst ho'
      exact hset i (hcm i hw)
    · exact hset i (h7 j o' i ho' (by simpa [Ne.symm hjk] using hl) hw)

/-- THE LAW. -/
theorem wp_region_rel {id : Nat} {w : World} {l : List Oper} (V : Nat → Kd G) (J : Array Bool → World → Prop) (hm : P.follows .mixedOrders = true) (hap : apartB l = true) (hor : orderB 0 l = true) (hsz : (l.all fun o => match o.dst with | some d => decide (d < a0.tmps.size) | none => true) = true)
    (hGr : ∀ w, G w w) (h0 : J (Array.replicate l.length false) w.drew) (hsteps : Steps P l.toArray Q V J a0 0 l)
    (hdone : ∀ a w, (∀ s, unwritten l.toArray s = true → slot a s = slot a0 s) → a.tmps.size = a0.tmps.size → a.defers = a0.defers → J (Array.replicate l.length true) w → (∀ (j : Nat) (o : Oper) (d : Tmp), l[j]? = some o → o.dst = some d → (V j).p w (slot a d)) → Q .normal a w) :
    (Code.region id l.toArray true).wp P Q a0 w := by
  have hsz' : ∀ (i : Nat) (o : Oper) (d : Tmp), l.toArray[i]? = some o → o.dst = some d → d < a0.tmps.size := by
    intro i o d ho hd
    have := List.all_eq_true.1 hsz o (List.mem_of_getElem? (by simpa using ho))
    rw [hd] at this
    simpa using this
  refine Reg.wp_region_inv (Inv l.toArray V J a0) hm ?_ ?_ ?_
  · exact ⟨by simp, fun _ _ => rfl, rfl, rfl, h0, fun j o d _ _ hl => by
      by_cases hj : j < l.length <;> simp [hj] at hl, fun j o i _ hl _ => by
      by_cases hj : j < l.length <;> simp [hj] at hl⟩
  · intro L a' w' hI hready
    obtain ⟨h1, h2, h3, h4, h5, h6, h7⟩ := hI
    have hall : ∀ j, j < l.length → L.getD j false = true := by
      intro j
      induction j using Nat.strongRecOn with
      | _ j ih =>
        intro hj
        have ho : l[j]? = some l[j] := List.getElem?_eq_getElem hj
        refine Reg.none_ready (by exact h1) hready (o := l[j]) (by simp) fun e he hb => ?_
        have hlt := order_at l 0 hor j _ ho e he hb
        exact ih e.on (by omega) (by omega)
    have hL : L = Array.replicate l.length true := by
      apply Array.ext
      · simpa using h1
      · intro i hi1 hi2
        have := hall i (by simpa using hi2)
        simp [hi1] at this
        simp [this]
    subst hL
    exact hdone a' w' h2 h3 h4 h5 fun j o d hj hd => h6 j o d (by simpa using hj) hd (hall j (by
      rcases Nat.lt_or_ge j l.length with h | h
      · exact h
      · rw [List.getElem?_eq_none h] at hj; cases hj))
  · intro L a' w' i hI hi
    obtain ⟨hun, o, ho, hdep⟩ := mem_ready.1 hi
    have hI' := hI
    obtain ⟨h1, h2, h3, h4, h5, h6, h7⟩ := hI
    have hcame : ∀ j, waits o j = true → L.getD j false = true := by
      intro j hj
      unfold waits at hj
      obtain ⟨e, he, hb⟩ := List.any_eq_true.1 hj
      simp only [Bool.and_eq_true, beq_iff_eq] at hb
      have := hdep e (by simpa using he) hb.2
      rw [hb.1] at this
      exact this
    have hs := steps_at l 0 hsteps i o (by simpa using ho)
    rw [Nat.zero_add] at hs
    replace hs := hs L a' w' ⟨h1, hun, h2, h3, h5, fun j o' d hj hd hw => h6 j o' d hj hd (hcame j hw), hcame, h7⟩
    unfold wpOp
    simp only [ho]
    rcases hs with ⟨hw, hs⟩ | ⟨hw, hv, hJ⟩
    · rw [if_pos hw]
      exact .inl (Oper.wp_mono (fun a'' w'' ⟨v, ha, hG, hv, hJ⟩ => by subst ha; exact inv_step (by simpa using hap) hsz' ho hun hcame hI' hG hv hJ) hs)
    · rw [if_neg (by rw [hw]; exact Bool.false_ne_true)]
      exact inv_step (by simpa using hap) hsz' ho hun hcame hI' (hGr w') hv hJ

/-! ### One operation -/

variable {o : Oper} {a : Act} {w : World} {K : Act → World → Prop}
theorem wp_mv (x : Operand) (ho : o.op = .move x) (h : K (a.put o.dst (a.eval x)) w) : o.wp P a w K Q := by
  unfold Oper.wp; rw [BigFrame.run_move x ho]; exact h
theorem wp_as (x : Operand) (ho : o.op = .assign x) (h : K (a.put o.dst (a.eval x)) w) : o.wp P a w K Q := by
  unfold Oper.wp; rw [BigFrame.run_assign x ho]; exact h
theorem wp_pk (c x y : Operand) (ho : o.op = .pick c x y) {b : Bool} (hc : a.eval c = .bool b) (h : K (a.put o.dst (if b then a.eval x else a.eval y)) w) : o.wp P a w K Q := by
  unfold Oper.wp execOp
  simp only [ho, hc]
  exact h
theorem wp_cv (s d : TypeId) (x : Operand) (ho : o.op = .convert s d x) {v u : Value} {w' : World} (hx : a.eval x = v) (hr : (convert s d v).run P w = .ok u w') (h : K (a.put o.dst u) w') : o.wp P a w K Q := by
  unfold Oper.wp execOp
  simp only [ho, hx, Sem.run_bind, hr]
  exact h
theorem wp_bo (k : BinOp) (t t' : TypeId) (x y : Operand) (ho : o.op = .binOp k t x y t') {vx vy u : Value} {w' : World} (hx : a.eval x = vx) (hy : a.eval y = vy)
    (hr : (do eqGuard k t x y vx vy; binOp k t vx vy : Sem Value).run P w = .ok u w') (h : K (a.put o.dst u) w') : o.wp P a w K Q := by
  unfold Oper.wp execOp
  simp only [ho, hx, hy]
  rw [Sem.run_bind, hr]
  exact h
theorem wp_cl (f : FuncId) (xs : List Operand) (ts : Array TypeId) (ho : o.op = .call { callee := .value (.func f), args := xs.toArray, argTypes := ts }) {fn : Func} (hf : P.funcs[f]? = some fn) (hk : (fn.body.isSome && !(fn.name == "runtime.NumGoroutine")) = true) (hc : Calls P f (xs.map a.eval).toArray w fun e w' => ∃ v, e = .returned v ∧ K (a.put o.dst v) w') : o.wp P a w K Q := by
  unfold Oper.wp execOp
  simp only [ho]
  simp [resolve, Deferred.ofValue, invoke, Act.eval]
  have hr : (callFunc f (xs.map a.eval).toArray).run P w = .ok (.enter f (xs.map a.eval).toArray) w := by
    simp only [Bool.and_eq_true, Bool.not_eq_true', Option.isSome_iff_exists] at hk
    obtain ⟨⟨c, hb⟩, hn⟩ := hk
    have hn' : ¬ fn.name = "runtime.NumGoroutine" := by simpa using hn
    simp [callFunc, hf, hb, hn']
  rw [hr]
  refine hc.mono fun e w' ⟨v, he, hK⟩ => ?_
  subst he
  exact hK
theorem wp_ld (t : TypeId) (x : Operand) (ho : o.op = .load t x) {v u : Value} {w' : World} (hx : a.eval x = v) (hr : (Instr.loadAt t v).run P w = .ok u w') (h : K (a.put o.dst u) w') : o.wp P a w K Q := by
  unfold Oper.wp execOp
  simp only [ho, hx, Sem.run_bind, hr]
  exact h
theorem wp_ia (t : TypeId) (x y : Operand) (ho : o.op = .indexAddr t x y) {vx vy u : Value} {w' : World} (hx : a.eval x = vx) (hy : a.eval y = vy) (hr : (Instr.indexAt t vx vy).run P w = .ok u w') (h : K (a.put o.dst u) w') : o.wp P a w K Q := by
  unfold Oper.wp execOp
  simp only [ho, hx, hy, Sem.run_bind, hr]
  exact h
theorem wp_sl (t : TypeId) (x : Operand) (lo hi mx : Option Operand) (ho : o.op = .slice t x lo hi mx) {vx u : Value} {vl vh vm : Option Value} {w' : World} (hx : a.eval x = vx) (hl : lo.map a.eval = vl) (hh : hi.map a.eval = vh) (hm : mx.map a.eval = vm) (hr : (Instr.sliceAt t vx vl vh vm).run P w = .ok u w') (h : K (a.put o.dst u) w') : o.wp P a w K Q := by
  unfold Oper.wp execOp
  simp only [ho, hx, hl, hh, hm, Sem.run_bind, hr]
  exact h
theorem wp_ex (t : Operand) (ix : Nat) (ho : o.op = .extract t ix) {v u : Value} {w' : World} (hx : a.eval t = v) (hr : (Instr.extract v ix).run P w = .ok u w') (h : K (a.put o.dst u) w') : o.wp P a w K Q := by
  unfold Oper.wp execOp
  simp only [ho, hx, Sem.run_bind, hr]
  exact h
theorem wp_len (x : Operand) (t : TypeId) (ho : o.op = .call { callee := .builtin .len, args := #[x], argTypes := #[t] }) {ad : Option Addr} {n c : Nat} (hx : a.eval x = .slice ad n c) (hr : (Builtin.len_ #[t] o.type #[.slice ad n c]).run P w = .ok (.int .i64 n) w) (h : K (a.put o.dst (.int .i64 n)) w) : o.wp P a w K Q := by
  unfold Oper.wp execOp
  simp only [ho]
  simp [resolve, invoke, builtin, hx]
  rw [hr]
  exact h

theorem wanted_free (hg : freeB o = true) (y : Nat → Option Bool) : Region.wanted o y = true := by
  unfold freeB at hg
  unfold Region.wanted
  rw [Option.isNone_iff_eq_none.1 hg]
theorem wanted_none (hg : o.guard = none) (y : Nat → Option Bool) : Region.wanted o y = true := by unfold Region.wanted; rw [hg]
theorem wanted_is {j : Nat} {b b' : Bool} {d : Tmp} (hg : o.guard = some (j, b)) {oj : Oper} (hj : ops[j]? = some oj) (hd : oj.dst = some d) (hv : slot a d = .bool b') : Region.wanted o (yielded ops a.tmps) = (b' == b) := by
  have hr : a.tmps[d]? = some (.bool b') := by
    unfold slot at hv
    rw [Array.getD_eq_getD_getElem?] at hv
    cases h : a.tmps[d]? with
    | none => rw [h] at hv; cases hv
    | some v => rw [h] at hv; simp at hv; rw [hv]
  unfold Region.wanted yielded
  simp only [hg, hj, Option.bind_some, hd, hr]
  cases b <;> cases b' <;> rfl
theorem wanted_by {j : Nat} {b : Bool} {d : Tmp} (h : wantB ops o j b d = true) (hv : slot a d = .bool b) : Region.wanted o (yielded ops a.tmps) = true := by
  unfold wantB at h
  simp only [Bool.and_eq_true] at h
  obtain ⟨h1, h2⟩ := h
  cases hg : o.guard with
  | none => rw [hg] at h1; cases h1
  | some g =>
    obtain ⟨j', b'⟩ := g
    rw [hg] at h1
    simp only [Bool.and_eq_true, beq_iff_eq] at h1
    obtain ⟨rfl, rfl⟩ := h1
    cases ho : ops.toList[j']? with
    | none => rw [ho] at h2; cases h2
    | some o' =>
      rw [ho] at h2
      rw [wanted_is hg (by simpa using ho) (by simpa using h2) hv]
      simp

end
end Go.Proofs.Ytcndihekpdebhaa.Rel
/- A region that draws its order: some operations make or write memory, each of these waits for the one ahead of it; all others only read: what is read is told ahead of the region, what is made is told step by step. -/
namespace Go.Proofs.Ytcndihekpdebhaa.Chn
open Go.RowKit
open Rel

/-- Each operation that writes a slot writes one of its own. -/
def apartC : List Oper → Bool
  | [] => true
  | o :: l => (o.dst.isNone || l.all (fun x => x.dst != o.dst)) && apartC l
theorem apartC_at (l : List Oper) : apartC l = true → ∀ (i j : Nat) (o o' : Oper) (d : Tmp), l[i]? = some o → l[j]? = some o' → i ≠ j → o.dst = some d → o'.dst ≠ some d := by
  induction l with
  | nil => intro _ i j o o' d e; simp at e
  | cons x l ih =>
    intro h i j o o' d e e' hne hd
    simp only [apartC, Bool.and_eq_true, Bool.or_eq_true, List.all_eq_true, bne_iff_ne, ne_eq] at h
    cases i with
    | zero =>
      cases j with
      | zero => exact absurd rfl hne
      | succ j =>
        simp at e e'; subst e
        rcases h.1 with h1 | h1
        · rw [hd] at h1; cases h1
        · intro he
          exact h1 _ (List.mem_of_getElem? e') (he.trans hd.symm)
    | succ i =>
      cases j with
      | zero =>
        simp at e e'; subst e'
        intro he
        rcases h.1 with h1 | h1
        · rw [he] at h1; cases h1
        · exact h1 _ (List.mem_of_getElem? e) (hd.trans he.symm)
      | succ j => exact ih h.2 i j o o' d (by simpa using e) (by simpa using e') (by omega) hd

variable {P : Program} {l : List Oper} {Q : Exit → Act → World → Prop} {V : Nat → Option Value} {ch : List Nat} {Φ : Nat → List Value → World → Prop} {a0 : Act}

/-- What an operation has left. -/
def out (l : List Oper) (a : Act) (k : Nat) : Value := match l[k]? with
  | some o => (match o.dst with | some d => slot a d | none => undef)
  | none => undef
/-- Each operation of the chain waits for the one ahead of it. -/
def chainB (l : List Oper) : List Nat → Bool
  | i :: j :: r => (match l[j]? with | some o => waits o i | none => false) && chainB l (j :: r)
  | _ => true
/-- What operation k waits for. -/
def depsOf (l : List Oper) (k : Nat) : List Nat := match l[k]? with
  | some o => o.after.toList.filterMap fun e => if Region.binds .any e then some e.on else none
  | none => []
theorem depsOf_waits {l : List Oper} {k i : Nat} (h : i ∈ depsOf l k) : ∃ o, l[k]? = some o ∧ waits o i = true := by
  unfold depsOf at h
  cases hk : l[k]? with
  | none => rw [hk] at h; cases h
  | some o =>
    rw [hk] at h
    refine ⟨o, rfl, ?_⟩
    obtain ⟨e, he, hi⟩ := List.mem_filterMap.1 h
    unfold waits
    refine List.any_eq_true.2 ⟨e, he, ?_⟩
    split at hi
    · rename_i hb
      injection hi with hi
      simp [hi, hb]
    · cases hi
/-- And what these wait for. -/
def needs (l : List Oper) : Nat → List Nat → List Nat
  | 0, N => N
  | i + 1, N => needs l i (if N.contains i then depsOf l i ++ N else N)
theorem needs_came {l : List Oper} {L : Array Bool} (h6 : ∀ (j : Nat) (o' : Oper) (i : Nat), l[j]? = some o' → L.getD j false = true → waits o' i = true → L.getD i false = true) : ∀ (i : Nat) (N : List Nat), (∀ x ∈ N, L.getD x false = true) → ∀ x ∈ needs l i N, L.getD x false = true
  | 0, N, hN => hN
  | i + 1, N, hN => by
    unfold needs
    refine needs_came h6 i _ ?_
    split
    · rename_i hc
      have hi := hN i (List.contains_iff_mem.1 hc)
      intro x hx
      rcases List.mem_append.1 hx with hx | hx
      · obtain ⟨o, ho, hw⟩ := depsOf_waits hx
        exact h6 i o x ho hi hw
      · exact hN x hx
    · exact hN
def needsB (l : List Oper) (x k : Nat) : Bool := (needs l x (depsOf l x)).contains k
theorem needsB_came {l : List Oper} {L : Array Bool} (h6 : ∀ (j : Nat) (o' : Oper) (i : Nat), l[j]? = some o' → L.getD j false = true → waits o' i = true → L.getD i false = true) {x k : Nat} (h : needsB l x k = true) (hx : L.getD x false = true) : L.getD k false = true :=
  needs_came h6 x (depsOf l x) (fun y hy => by obtain ⟨o, ho, hw⟩ := depsOf_waits hy; exact h6 x o y ho hx hw) k (List.contains_iff_mem.1 h)
/-- The last phase in which operation k may come up. -/
def till (l : List Oper) (k : Nat) : List Nat → Nat
  | [] => 0
  | i :: r => if needsB l i k then 0 else till l k r + 1

/-- Whoever writes slot s waits for operation k. -/
def earlyB (l : List Oper) (k : Nat) (s : Tmp) : Bool := (List.range l.length).all fun j => (match l[j]? with | some o => o.dst != some s || needsB l j k | none => true)
theorem early_at {l : List Oper} {k : Nat} {s : Tmp} (h : earlyB l k s = true) {j : Nat} {o : Oper} (ho : l[j]? = some o) (hd : o.dst = some s) : needsB l j k = true := by
  have hj := (List.getElem?_eq_some_iff.1 ho).1
  have := List.all_eq_true.1 h j (List.mem_range.2 hj)
  rw [ho] at this
  simpa [hd] using this
/-- What is known when operation k comes up. -/
structure Cx (l : List Oper) (V : Nat → Option Value) (a0 : Act) (k : Nat) (o : Oper) (a : Act) : Prop where
  base : ∀ s, earlyB l k s = true → slot a s = slot a0 s
  room : a.tmps.size = a0.tmps.size
  dep : ∀ (j : Nat) (o' : Oper) (d : Tmp) (v : Value), l[j]? = some o' → o'.dst = some d → waits o j = true → V j = some v → slot a d = v
theorem Cx.old {k : Nat} {o : Oper} {a : Act} (c : Cx l V a0 k o a) (s : Tmp) {v : Value} (h : earlyB l k s = true) (hv : slot a0 s = v) : slot a s = v := (c.base s h).trans hv
def depB (l : List Oper) (o : Oper) (j : Nat) (d : Tmp) : Bool := waits o j && (match l[j]? with | some o' => o'.dst == some d | none => false)
theorem Cx.get {k : Nat} {o : Oper} {a : Act} (c : Cx l V a0 k o a) (j : Nat) (d : Tmp) {v : Value} (h : depB l o j d = true) (hv : V j = some v) : slot a d = v := by
  unfold depB at h
  simp only [Bool.and_eq_true] at h
  cases ho : l[j]? with
  | none => rw [ho] at h; simp at h
  | some o' =>
    rw [ho] at h
    exact c.dep j o' d v ho (by simpa using h.2) h.1 hv

/-- An operation that reads: it leaves v, whatever has been made so far. -/
def Reads (P : Program) (l : List Oper) (Q : Exit → Act → World → Prop) (V : Nat → Option Value) (ch : List Nat) (Φ : Nat → List Value → World → Prop) (a0 : Act) (k : Nat) (o : Oper) (v : Value) : Prop :=
  ∀ a w j vs, Cx l V a0 k o a → j ≤ till l k ch → Φ j vs w →
    (Region.wanted o (yielded l.toArray a.tmps) = true ∧ o.wp P a w (fun a' w' => a' = a.put o.dst v ∧ w' = w) Q) ∨ (Region.wanted o (yielded l.toArray a.tmps) = false ∧ v = undef)
/-- Operation number i of the chain. -/
def Makes (P : Program) (l : List Oper) (Q : Exit → Act → World → Prop) (V : Nat → Option Value) (ch : List Nat) (Φ : Nat → List Value → World → Prop) (a0 : Act) (i k : Nat) (o : Oper) : Prop :=
  ∀ a w, Cx l V a0 k o a → Φ i ((ch.take i).map (out l a)) w →
    Region.wanted o (yielded l.toArray a.tmps) = true ∧ o.wp P a w (fun a' w' => ∃ v, a' = a.put o.dst v ∧ Φ (i + 1) ((ch.take i).map (out l a) ++ [if o.dst.isSome then v else undef]) w') Q
def Steps (P : Program) (l : List Oper) (Q : Exit → Act → World → Prop) (V : Nat → Option Value) (ch : List Nat) (Φ : Nat → List Value → World → Prop) (a0 : Act) : Nat → List Oper → Prop
  | _, [] => True
  | k, o :: r => (match V k with
    | some v => Reads P l Q V ch Φ a0 k o v
    | none => ∃ i, ch[i]? = some k ∧ Makes P l Q V ch Φ a0 i k o) ∧ Steps P l Q V ch Φ a0 (k + 1) r
theorem steps_at (r : List Oper) : ∀ (k : Nat), Steps P l Q V ch Φ a0 k r → ∀ (j : Nat) (o : Oper), r[j]? = some o → (match V (k + j) with
    | some v => Reads P l Q V ch Φ a0 (k + j) o v
    | none => ∃ i, ch[i]? = some (k + j) ∧ Makes P l Q V ch Φ a0 i (k + j) o) := by
  induction r with
  | nil => intro k _ j o e; simp at e
  | cons x r ih =>
    intro k h j o e
    cases j with
    | zero =>
      simp at e; subst e
      exact h.1
    | succ j =>
      have := ih (k + 1) h.2 j o (by simpa using e)
      rw [show k + (j + 1) = k + 1 + j by omega]; exact this

structure Inv (l : List Oper) (V : Nat → Option Value) (ch : List Nat) (Φ : Nat → List Value → World → Prop) (a0 : Act) (L : Array Bool) (a : Act) (w : World) : Prop where
  size : L.size = l.length
  base : ∀ s, (∀ (j : Nat) (o : Oper), l[j]? = some o → o.dst = some s → L.getD j false = false) → slot a s = slot a0 s
  room : a.tmps.size = a0.tmps.size
  defs : a.defers = a0.defers
  vals : ∀ (k : Nat) (o : Oper) (d : Tmp) (v : Value), l[k]? = some o → o.dst = some d → L.getD k false = true → V k = some v → slot a d = v
  came : ∀ (j : Nat) (o' : Oper) (i : Nat), l[j]? = some o' → L.getD j false = true → waits o' i = true → L.getD i false = true
  phase : ∃ j, j ≤ ch.length ∧ (∀ (i k : Nat), ch[i]? = some k → L.getD k false = decide (i < j)) ∧ Φ j ((ch.take j).map (out l a)) w

theorem getD_set {L : Array Bool} {k i : Nat} (h : L.getD k true = false) : (L.setIfInBounds k true).getD i false = (decide (i = k) || L.getD i false) := by
  by_cases hik : i = k
  · subst hik
    obtain ⟨hs, _⟩ := Reg.getD_false h
    simp [hs]
  · simp [hik, Ne.symm hik]

theorem till_at (k : Nat) : ∀ (ch : List Nat) (j : Nat), (∀ i x, i < j → ch[i]? = some x → needsB l x k = false) → j ≤ ch.length → j ≤ till l k ch
  | [], j, _, hj => by simp at hj; omega
  | x :: r, 0, _, _ => Nat.zero_le _
  | x :: r, j + 1, h, hj => by
    unfold till
    rw [h 0 x (by omega) rfl]
    simp only [Bool.false_eq_true, if_false]
    exact Nat.succ_le_succ (till_at k r j (fun i y hi hy => h (i + 1) y (by omega) (by simpa using hy)) (by simpa using hj))

theorem chain_at : ∀ (ch : List Nat), chainB l ch = true → ∀ (i x y : Nat) (o : Oper), ch[i]? = some x → ch[i + 1]? = some y → l[y]? = some o → waits o x = true
  | [], _, i, x, y, o, e, _, _ => by simp at e
  | [a], _, i, x, y, o, e, e', _ => by simp at e'
  | a :: b :: r, h, i, x, y, o, e, e', ho => by
    simp only [chainB, Bool.and_eq_true] at h
    cases i with
    | zero =>
      simp at e e'
      subst e e'
      rw [ho] at h
      exact h.1
    | succ i => exact chain_at (b :: r) h.2 i x y o (by simpa using e) (by simpa using e') ho

theorem out_put {a : Act} {k i : Nat} {o : Oper} {v : Value} (hap : apartC l = true) (ho : l[k]? = some o) (hne : i ≠ k) : out l (a.put o.dst v) i = out l a i := by
  unfold out
  cases hi : l[i]? with
  | none => rfl
  | some o' =>
    simp only
    cases hd : o'.dst with
    | none => rfl
    | some d =>
      simp only
      cases hk : o.dst with
      | none => rfl
      | some d' =>
        refine slot_put_ne fun e => ?_
        subst e
        exact apartC_at l hap i k o' o d' hi ho hne hd hk

/-- What stays whoever comes up. -/
theorem inv_put {k : Nat} {o : Oper} {L : Array Bool} {a : Act} {w w' : World} {v : Value} (hap : apartC l = true) (hsz : ∀ (i : Nat) (o : Oper) (d : Tmp), l[i]? = some o → o.dst = some d → d < a0.tmps.size)
    (ho : l[k]? = some o) (hk : L.getD k true = false) (hcm : ∀ j, waits o j = true → L.getD j false = true) (hI : Inv l V ch Φ a0 L a w) (hv : ∀ u, V k = some u → v = u)
    (hph : ∃ j, j ≤ ch.length ∧ (∀ (i x : Nat), ch[i]? = some x → (L.setIfInBounds k true).getD x false = decide (i < j)) ∧ Φ j ((ch.take j).map (out l (a.put o.dst v))) w') : Inv l V ch Φ a0 (L.setIfInBounds k true) (a.put o.dst v) w' := by
  obtain ⟨h1, h2, h3, h4, h5, h6, _⟩ := hI
  refine ⟨by simp [h1], fun s hs => ?_, by rw [put_size]; exact h3, by rw [put_defers]; exact h4, fun j o' d u hj hd hl hu => ?_, fun j o' i hj hl hw => ?_, hph⟩
  · have hs' : ∀ (j : Nat) (o : Oper), l[j]? = some o → o.dst = some s → L.getD j false = false := fun j o' hj hd => by
      have := hs j o' hj hd
      rw [getD_set hk, Bool.or_eq_false_iff] at this
      exact this.2
    cases hd : o.dst with
    | none => exact h2 s hs'
    | some d =>
      rw [slot_put_ne (fun e => by
        subst e
        have := hs k o ho hd
        rw [getD_set hk] at this
        simp at this)]
      exact h2 s hs'
  · rw [getD_set hk] at hl
    by_cases hjk : j = k
    · subst hjk
      rw [ho] at hj
      injection hj with hj
      subst hj
      rw [hd, slot_put (by rw [h3]; exact hsz j o d ho hd)]
      exact hv u hu
    · have hl' : L.getD j false = true := by simpa [hjk] using hl
      cases hd' : o.dst with
      | none => exact h5 j o' d u hj hd hl' hu
      | some d' =>
        rw [slot_put_ne fun e => by subst e; exact apartC_at l hap j k o' o d' hj ho hjk hd hd']
        exact h5 j o' d u hj hd hl' hu
  · rw [getD_set hk] at hl ⊢
    by_cases hjk : j = k
    · subst hjk
      rw [ho] at hj
      injection hj with hj
      subst hj
      rw [hcm i hw]; simp
    · rw [h6 j o' i hj (by simpa [hjk] using hl) hw]; simp

/-- All ways of such a region. -/
theorem any_chain {w : World} (V : Nat → Option Value) (ch : List Nat) (Φ : Nat → List Value → World → Prop) (hap : apartC l = true) (hor : orderB 0 l = true) (hsz : (l.all fun o => match o.dst with | some d => decide (d < a0.tmps.size) | none => true) = true)
    (hch : chainB l ch = true) (hnd : ch.Nodup) (hnv : (ch.all fun k => (V k).isNone && decide (k < l.length)) = true) (h0 : Φ 0 [] w.drew) (hsteps : Steps P l Q V ch Φ a0 0 l)
    (hdone : ∀ a w, (∀ s, unwritten l.toArray s = true → slot a s = slot a0 s) → a.tmps.size = a0.tmps.size → a.defers = a0.defers → Φ ch.length (ch.map (out l a)) w → (∀ (k : Nat) (o : Oper) (d : Tmp) (v : Value), l[k]? = some o → o.dst = some d → V k = some v → slot a d = v) → Q .normal a w) :
    wpAny P .any l.toArray Q l.toArray.size (Array.replicate l.toArray.size false) a0 w.drew := by
  have hsz' : ∀ (i : Nat) (o : Oper) (d : Tmp), l[i]? = some o → o.dst = some d → d < a0.tmps.size := by
    intro i o d ho hd
    have := List.all_eq_true.1 hsz o (List.mem_of_getElem? ho)
    rw [hd] at this
    simpa using this
  have hnv' : ∀ (i k : Nat), ch[i]? = some k → V k = none ∧ k < l.length := by
    intro i k hk
    have := List.all_eq_true.1 hnv k (List.mem_of_getElem? hk)
    simpa using this
  refine Reg.any_inv (Inv l V ch Φ a0) ?_ ?_ ?_
  · refine ⟨by simp, fun _ _ => rfl, rfl, rfl, fun k o d v _ _ hl => ?_, fun j o i _ hl => ?_, 0, Nat.zero_le _, fun i k hk => ?_, h0⟩
    · by_cases hk : k < l.length <;> simp [hk] at hl
    · by_cases hj : j < l.length <;> simp [hj] at hl
    · by_cases hkl : k < l.length <;> simp [hkl]
  · intro L a' w' hI hready
    obtain ⟨h1, h2, h3, h4, h5, h6, j, hj, hph, hΦ⟩ := hI
    have hall : ∀ j, j < l.length → L.getD j false = true := by
      intro j
      induction j using Nat.strongRecOn with
      | _ j ih =>
        intro hj
        have ho : l[j]? = some l[j] := List.getElem?_eq_getElem hj
        refine Reg.none_ready (by simpa using h1) hready (o := l[j]) (by simp) fun e he hb => ?_
        have hlt := order_at l 0 hor j _ ho e he hb
        exact ih e.on (by omega) (by omega)
    have hjl : j = ch.length := by
      rcases Nat.lt_or_ge j ch.length with h | h
      · have hk : ch[j]? = some ch[j] := List.getElem?_eq_getElem h
        have := hph j ch[j] hk
        rw [hall _ (hnv' j _ hk).2] at this
        simp at this
      · omega
    subst hjl
    rw [List.take_length] at hΦ
    have h2' : ∀ s, unwritten l.toArray s = true → slot a' s = slot a0 s := fun s hs => h2 s fun j o ho hd => absurd hd (unwritten_ne (ops := l.toArray) hs (i := j) (o := o) (by simpa using ho))
    refine hdone a' w' h2' h3 h4 hΦ fun k o d v ho hd hv => h5 k o d v ho hd (hall k ?_) hv
    exact (List.getElem?_eq_some_iff.1 ho).1
  · intro L a' w' k hI hk
    obtain ⟨hun, o, ho', hdep⟩ := mem_ready.1 hk
    have ho : l[k]? = some o := by simpa using ho'
    have hI' := hI
    obtain ⟨h1, h2, h3, h4, h5, h6, j, hj, hph, hΦ⟩ := hI
    have hcame : ∀ j, waits o j = true → L.getD j false = true := by
      intro j hj
      unfold waits at hj
      obtain ⟨e, he, hb⟩ := List.any_eq_true.1 hj
      simp only [Bool.and_eq_true, beq_iff_eq] at hb
      have := hdep e (by simpa using he) hb.2
      rw [hb.1] at this
      exact this
    have hun' : L.getD k false = false := by
      obtain ⟨hs, hf⟩ := Reg.getD_false hun
      simp [hs, hf]
    have hearly : ∀ s, earlyB l k s = true → slot a' s = slot a0 s := fun s hs => h2 s fun j o' hj hd => by
      have hn := early_at hs hj hd
      rw [Bool.eq_false_iff]
      intro hl
      have := needsB_came h6 hn hl
      rw [hun'] at this
      exact Bool.false_ne_true this
    have cx : Cx l V a0 k o a' := ⟨hearly, h3, fun j o' d v hj hd hw hv => h5 j o' d v hj hd (hcame j hw) hv⟩
    have hs := steps_at l 0 hsteps k o ho
    rw [Nat.zero_add] at hs
    unfold wpOp
    simp only [ho']
    cases hV : V k with
    | some v =>
      rw [hV] at hs
      have hnc : ∀ (i x : Nat), ch[i]? = some x → x ≠ k := fun i x hx e => by
        subst e
        rw [(hnv' i x hx).1] at hV; cases hV
      have htill : j ≤ till l k ch := till_at k ch j (fun i x hi hx => by
        rw [Bool.eq_false_iff]
        intro hw
        have h7 := hph i x hx
        rw [decide_eq_true hi] at h7
        have := needsB_came h6 hw h7
        rw [hun'] at this; cases this) hj
      have hph' : ∃ j, j ≤ ch.length ∧ (∀ (i x : Nat), ch[i]? = some x → (L.setIfInBounds k true).getD x false = decide (i < j)) ∧ Φ j ((ch.take j).map (out l (a'.put o.dst v))) w' := by
        refine ⟨j, hj, fun i x hx => ?_, ?_⟩
        · rw [getD_set hun, hph i x hx, decide_eq_false (hnc i x hx), Bool.false_or]
        · rw [List.map_congr_left (g := out l a')]
          · exact hΦ
          · intro x hx
            obtain ⟨i, hi⟩ := List.mem_iff_getElem?.1 (List.mem_of_mem_take hx)
            exact out_put hap ho (hnc i x hi)
      rcases hs a' w' j _ cx htill hΦ with ⟨hw, hs⟩ | ⟨hw, hv⟩
      · rw [if_pos hw]
        refine .inl (Oper.wp_mono (fun a'' w'' ⟨ha, hw''⟩ => ?_) hs)
        subst ha hw''
        exact inv_put hap hsz' ho hun hcame hI' (fun u hu => by rw [hV] at hu; injection hu) hph'
      · rw [if_neg (by rw [hw]; exact Bool.false_ne_true)]
        subst hv
        exact inv_put hap hsz' ho hun hcame hI' (fun u hu => by rw [hV] at hu; injection hu) hph'
    | none =>
      rw [hV] at hs
      obtain ⟨i, hi, hs⟩ := hs
      have hij : i = j := by
        have h7 := hph i k hi
        rw [hun'] at h7
        have h8 : ¬ i < j := by
          intro h; rw [decide_eq_true h] at h7; cases h7
        cases i with
        | zero => omega
        | succ i =>
          have hil : i < ch.length := by have := (List.getElem?_eq_some_iff.1 hi).1; omega
          have h9 := chain_at ch hch i ch[i] k o (List.getElem?_eq_getElem hil) hi ho
          have h10 := hph i ch[i] (List.getElem?_eq_getElem hil)
          rw [hcame _ h9] at h10
          have : i < j := by simpa using h10.symm
          omega
      subst hij
      obtain ⟨hw, hs⟩ := hs a' w' cx hΦ
      rw [if_pos hw]
      refine .inl (Oper.wp_mono (fun a'' w'' ⟨v, ha, hΦ'⟩ => ?_) hs)
      subst ha
      have hil : i < ch.length := (List.getElem?_eq_some_iff.1 hi).1
      have hik : ch[i] = k := (List.getElem?_eq_some_iff.1 hi).2
      refine inv_put hap hsz' ho hun hcame hI' (fun u hu => by rw [hV] at hu; cases hu) ⟨i + 1, hil, fun i' x hx => ?_, ?_⟩
      · rw [getD_set hun, hph i' x hx]
        by_cases he : x = k
        · subst he
          have hi'l : i' < ch.length := (List.getElem?_eq_some_iff.1 hx).1
          have hi'k : ch[i'] = x := (List.getElem?_eq_some_iff.1 hx).2
          have : i' = i := (List.getElem_inj hnd).1 (hi'k.trans hik.symm)
          subst this
          simp
        · have : i' ≠ i := fun e => he (by subst e; rw [hi] at hx; injection hx with hx; exact hx.symm)
          rw [decide_eq_false he, Bool.false_or, decide_eq_decide]
          omega
      · rw [List.take_succ_eq_append_getElem hil, List.map_append, List.map_cons, List.map_nil, hik]
        have hm1 : (ch.take i).map (out l (a'.put o.dst v)) = (ch.take i).map (out l a') := List.map_congr_left fun x hx => by
          obtain ⟨i', hi'⟩ := List.mem_iff_getElem?.1 hx
          refine out_put hap ho fun e => ?_
          subst e
          have hlt : i' < i := by
            have := (List.getElem?_eq_some_iff.1 hi').1
            rw [List.length_take] at this; omega
          rw [List.getElem?_take, if_pos hlt] at hi'
          have hi'l : i' < ch.length := by omega
          rw [List.getElem?_eq_getElem hi'l] at hi'
          injection hi' with hi'
          have := (List.getElem_inj hnd).1 (hi'.trans hik.symm)
          omega
        rw [hm1]
        have hout : out l (a'.put o.dst v) k = if o.dst.isSome then v else undef := by
          unfold out
          rw [ho]
          simp only
          cases hd : o.dst with
          | none => rfl
          | some d =>
            show slot (a'.put (some d) v) d = v
            exact slot_put (by rw [h3]; exact hsz' k o d ho hd)
        rw [hout]
        exact hΦ'

/-- THE LAW. -/
theorem wp_region_chain {id : Nat} {w : World} (V : Nat → Option Value) (ch : List Nat) (Φ : Nat → List Value → World → Prop) (hm : P.follows .mixedOrders = true) (hap : apartC l = true) (hor : orderB 0 l = true) (hsz : (l.all fun o => match o.dst with | some d => decide (d < a0.tmps.size) | none => true) = true)
    (hch : chainB l ch = true) (hnd : ch.Nodup) (hnv : (ch.all fun k => (V k).isNone && decide (k < l.length)) = true) (h0 : Φ 0 [] w.drew) (hsteps : Steps P l Q V ch Φ a0 0 l)
    (hdone : ∀ a w, (∀ s, unwritten l.toArray s = true → slot a s = slot a0 s) → a.tmps.size = a0.tmps.size → a.defers = a0.defers → Φ ch.length (ch.map (out l a)) w → (∀ (k : Nat) (o : Oper) (d : Tmp) (v : Value), l[k]? = some o → o.dst = some d → V k = some v → slot a d = v) → Q .normal a w) :
    (Code.region id l.toArray true).wp P Q a0 w :=
  wp_region_any hm (any_chain V ch Φ hap hor hsz hch hnd hnv h0 hsteps hdone)

/-- The frame behind a region: what it wrote, put into the frame ahead of it. -/
theorem puts_at (a : Act) : ∀ (ds : List Tmp) (b : Act) (i : Nat), (ds.foldl (fun A d => A.put (some d) (slot a d)) b).tmps[i]? = if i ∈ ds ∧ i < b.tmps.size then some (slot a i) else b.tmps[i]?
  | [], b, i => by simp
  | d :: ds, b, i => by
    rw [List.foldl_cons, puts_at a ds (b.put (some d) (slot a d)) i, put_size]
    by_cases h1 : i ∈ ds ∧ i < b.tmps.size
    · rw [if_pos h1, if_pos ⟨List.mem_cons_of_mem _ h1.1, h1.2⟩]
    · rw [if_neg h1]
      by_cases h2 : i = d
      · subst h2
        by_cases h3 : i < b.tmps.size
        · rw [if_pos ⟨List.mem_cons_self, h3⟩]
          simp [Act.put, h3]
        · rw [if_neg fun h => h3 h.2]
          simp [Act.put, h3]
      · have h4 : (b.put (some d) (slot a d)).tmps[i]? = b.tmps[i]? := by
          simp only [Act.put]
          rw [Array.getElem?_setIfInBounds_ne (fun e => h2 e.symm)]
        rw [h4, if_neg]
        rintro ⟨h5, h6⟩
        rcases List.mem_cons.1 h5 with h5 | h5
        · exact h2 h5
        · exact h1 ⟨h5, h6⟩
theorem puts_defers (a : Act) : ∀ (ds : List Tmp) (b : Act), (ds.foldl (fun A d => A.put (some d) (slot a d)) b).defers = b.defers
  | [], b => rfl
  | d :: ds, b => by rw [List.foldl_cons, puts_defers a ds, put_defers]
theorem act_puts {a : Act} (ds : List Tmp) (hb : ∀ s, unwritten l.toArray s = true → slot a s = slot a0 s) (hr : a.tmps.size = a0.tmps.size) (hd : a.defers = a0.defers)
    (hl : ((List.range a0.tmps.size).all fun i => ds.contains i || unwritten l.toArray i) = true) : a = ds.foldl (fun A d => A.put (some d) (slot a d)) a0 := by
  have hp := puts_at a ds a0
  have hpd := puts_defers a ds a0
  generalize ds.foldl (fun A d => A.put (some d) (slot a d)) a0 = b at *
  obtain ⟨tm, df⟩ := a
  obtain ⟨tb, db⟩ := b
  simp only at hd hpd
  subst hd hpd
  congr 1
  apply Array.ext_getElem?
  intro i
  have h1 := hp i
  simp only at h1
  rw [h1]
  by_cases hi : i < a0.tmps.size
  · have h3 := List.all_eq_true.1 hl i (List.mem_range.2 hi)
    have hit : i < tm.size := by simp only at hr; omega
    have hs : slot { tmps := tm, defers := a0.defers } i = tm[i] := by
      unfold slot
      simp [hit]
    by_cases hc : i ∈ ds
    · rw [if_pos ⟨hc, hi⟩, hs, Array.getElem?_eq_getElem hit]
    · rw [if_neg fun h => hc h.1]
      have hu : unwritten l.toArray i = true := by
        rcases Bool.or_eq_true _ _ ▸ h3 with h4 | h4
        · exact absurd (List.contains_iff_mem.1 h4) hc
        · exact h4
      have h5 := hb i hu
      rw [hs] at h5
      have h6 : slot a0 i = a0.tmps[i] := by
        unfold slot
        simp [hi]
      rw [Array.getElem?_eq_getElem hit, Array.getElem?_eq_getElem hi, h5, h6]
  · rw [if_neg fun h => hi h.2, Array.getElem?_eq_none (by simp only at hr; omega), Array.getElem?_eq_none (by omega)]

/-! ### One operation more -/

theorem wanted_not {o : Oper} {a : Act} {ops : Array Oper} {j : Nat} {b : Bool} {d : Tmp} (h : wantB ops o j b d = true) (hv : slot a d = .bool (!b)) : Region.wanted o (yielded ops a.tmps) = false := by
  unfold wantB at h
  simp only [Bool.and_eq_true] at h
  obtain ⟨h1, h2⟩ := h
  cases hg : o.guard with
  | none => rw [hg] at h1; cases h1
  | some g =>
    obtain ⟨j', b'⟩ := g
    rw [hg] at h1
    simp only [Bool.and_eq_true, beq_iff_eq] at h1
    obtain ⟨rfl, rfl⟩ := h1
    cases ho : ops.toList[j']? with
    | none => rw [ho] at h2; cases h2
    | some o' =>
      rw [ho] at h2
      rw [wanted_is hg (by simpa using ho) (by simpa using h2) hv]
      cases b' <;> rfl

section
variable {o : Oper} {a : Act} {w : World} {K : Act → World → Prop}
theorem wp_nc (x : Operand) (ho : o.op = .nilCheck x) {p : Addr} (hx : a.eval x = .pointer (some p)) (h : K (a.put o.dst (.pointer (some p))) w) : o.wp P a w K Q := by
  unfold Oper.wp execOp
  simp only [ho, hx]
  exact h
theorem wp_fa (s : TypeId) (x : Operand) (f : Nat) (ho : o.op = .fieldAddr s x f) {v u : Value} {w' : World} (hx : a.eval x = v) (hr : (Instr.fieldAt s v f).run P w = .ok u w') (h : K (a.put o.dst u) w') : o.wp P a w K Q := by
  unfold Oper.wp execOp
  simp only [ho, hx, Sem.run_bind, hr]
  exact h
theorem wp_st (t : TypeId) (x y : Operand) (ho : o.op = .store t x y) {vx vy : Value} {w' : World} (hx : a.eval x = vx) (hy : a.eval y = vy) (hr : (Instr.storeAt t vx vy).run P w = .ok () w') (h : K (a.put o.dst undef) w') : o.wp P a w K Q := by
  unfold Oper.wp execOp
  simp only [ho, hx, hy, Sem.run_bind, hr]
  exact h
theorem wp_bs (t : TypeId) (n : Nat) (parts : Array (Nat × Operand)) (ho : o.op = .buildSlice t n parts) {u : Value} {w' : World} (hr : (Instr.buildSlice t n (parts.map fun (i, x) => (i, a.eval x))).run P w = .ok u w') (h : K (a.put o.dst u) w') : o.wp P a w K Q := by
  unfold Oper.wp execOp
  simp only [ho, Sem.run_bind, hr]
  exact h
theorem wp_bs0 (t : TypeId) (ho : o.op = .buildSlice t 0 #[]) {u : Value} {w' : World} (hr : (Instr.buildSlice t 0 #[]).run P w = .ok u w') (h : K (a.put o.dst u) w') : o.wp P a w K Q :=
  wp_bs t 0 _ ho (by simpa using hr) h
theorem wp_bs1 (t : TypeId) (x : Operand) (ho : o.op = .buildSlice t 1 #[(0, x)]) {v u : Value} {w' : World} (hx : a.eval x = v) (hr : (Instr.buildSlice t 1 #[(0, v)]).run P w = .ok u w') (h : K (a.put o.dst u) w') : o.wp P a w K Q :=
  wp_bs t 1 _ ho (by subst hx; simpa using hr) h
theorem wp_bd2 (t : TypeId) (i j : Nat) (x y : Operand) (ho : o.op = .build t #[(i, x), (j, y)]) {v u r : Value} {w' : World} (hx : a.eval x = v) (hy : a.eval y = u) (hr : (Instr.build t #[(i, v), (j, u)]).run P w = .ok r w') (h : K (a.put o.dst r) w') : o.wp P a w K Q := by
  subst hx hy
  unfold Oper.wp execOp
  have hm : (#[(i, x), (j, y)] : Array (Nat × Operand)).map (fun (i, x) => (i, a.eval x)) = #[(i, a.eval x), (j, a.eval y)] := by simp
  simp only [ho, Sem.run_bind, hm, hr]
  exact h
theorem wp_bd (t : TypeId) (parts : Array (Nat × Operand)) (ho : o.op = .build t parts) {u : Value} {w' : World} (hr : (Instr.build t (parts.map fun (i, x) => (i, a.eval x))).run P w = .ok u w') (h : K (a.put o.dst u) w') : o.wp P a w K Q := by
  unfold Oper.wp execOp
  simp only [ho, Sem.run_bind, hr]
  exact h
theorem wp_ms (t : TypeId) (x y : Operand) (ho : o.op = .makeSlice t x y) {vx vy u : Value} {w' : World} (hx : a.eval x = vx) (hy : a.eval y = vy) (hr : (Instr.makeSlice t vx vy).run P w = .ok u w') (h : K (a.put o.dst u) w') : o.wp P a w K Q := by
  unfold Oper.wp execOp
  simp only [ho, hx, hy, Sem.run_bind, hr]
  exact h
theorem wp_uo (k : UnOp) (t : TypeId) (x : Operand) (ho : o.op = .unOp k t x) {vx u : Value} {w' : World} (hx : a.eval x = vx) (hr : (Op.unary k vx).run P w = .ok u w') (h : K (a.put o.dst u) w') : o.wp P a w K Q := by
  unfold Oper.wp execOp
  simp only [ho, hx, Sem.run_bind, hr]
  exact h
theorem wp_ap (s x : Operand) (t : TypeId) (ho : o.op = .call { callee := .builtin .append, args := #[s, x], argTypes := #[t, t] }) {vs vx u : Value} {w' : World} (hs : a.eval s = vs) (hx : a.eval x = vx) (hr : (Builtin.append_ #[t, t] o.type #[vs, vx]).run P w = .ok u w') (h : K (a.put o.dst u) w') : o.wp P a w K Q := by
  unfold Oper.wp execOp
  simp only [ho]
  simp [resolve, invoke, builtin, hs, hx]
  rw [hr]
  exact h
end

end Go.Proofs.Ytcndihekpdebhaa.Chn
/- A region that draws its order, by what each slot holds (as RegRel) and by an invariant that sees the slots too: for lists that grow within the region. -/
namespace Go.Proofs.Ytcndihekpdebhaa.Rel
open Go.RowKit

section
variable {P : Program} {ops : Array Oper} {Q : Exit → Act → World → Prop} {G : World → World → Prop} {V : Nat → Kd G} {J : Array Bool → (Tmp → Value) → World → Prop} {a0 : Act}

abbrev Cs (ops : Array Oper) (V : Nat → Kd G) (a0 : Act) (k : Nat) (o : Oper) (L : Array Bool) (a : Act) (w : World) : Prop := Cx ops V (fun _ _ => True) a0 k o L a w
/-- What it leaves. -/
def LeftS (V : Nat → Kd G) (J : Array Bool → (Tmp → Value) → World → Prop) (k : Nat) (o : Oper) (L : Array Bool) (a : Act) (w : World) (a' : Act) (w' : World) : Prop :=
  ∃ v, a' = a.put o.dst v ∧ G w w' ∧ (V k).p w' v ∧ J (L.setIfInBounds k true) (slot (a.put o.dst v)) w'
def StepS (P : Program) (ops : Array Oper) (Q : Exit → Act → World → Prop) (V : Nat → Kd G) (J : Array Bool → (Tmp → Value) → World → Prop) (a0 : Act) (k : Nat) (o : Oper) : Prop :=
  ∀ L a w, Cs ops V a0 k o L a w → J L (slot a) w →
    (Region.wanted o (yielded ops a.tmps) = true ∧ o.wp P a w (LeftS V J k o L a w) Q) ∨
    (Region.wanted o (yielded ops a.tmps) = false ∧ (V k).p w undef ∧ J (L.setIfInBounds k true) (slot (a.put o.dst undef)) w)
def StepsS (P : Program) (ops : Array Oper) (Q : Exit → Act → World → Prop) (V : Nat → Kd G) (J : Array Bool → (Tmp → Value) → World → Prop) (a0 : Act) : Nat → List Oper → Prop
  | _, [] => True
  | k, o :: l => StepS P ops Q V J a0 k o ∧ StepsS P ops Q V J a0 (k + 1) l
theorem stepsS_at (l : List Oper) : ∀ (k : Nat), StepsS P ops Q V J a0 k l → ∀ (j : Nat) (o : Oper), l[j]? = some o → StepS P ops Q V J a0 (k + j) o := by
  induction l with
  | nil => intro k _ j o e; simp at e
  | cons x l ih =>
    intro k h j o e
    cases j with
    | zero =>
      simp at e; subst e
      exact h.1
    | succ j =>
      have := ih (k + 1) h.2 j o (by simpa using e)
      rw [show k + (j + 1) = k + 1 + j by omega]; exact this

/-- THE LAW. -/
theorem wp_region_see {id : Nat} {w : World} {l : List Oper} (V : Nat → Kd G) (J : Array Bool → (Tmp → Value) → World → Prop) (hm : P.follows .mixedOrders = true) (hap : apartB l = true) (hor : orderB 0 l = true) (hsz : (l.all fun o => match o.dst with | some d => decide (d < a0.tmps.size) | none => true) = true)
    (hGr : ∀ w, G w w) (h0 : J (Array.replicate l.length false) (slot a0) w.drew) (hsteps : StepsS P l.toArray Q V J a0 0 l)
    (hdone : ∀ a w, (∀ s, unwritten l.toArray s = true → slot a s = slot a0 s) → a.tmps.size = a0.tmps.size → a.defers = a0.defers → J (Array.replicate l.length true) (slot a) w → (∀ (j : Nat) (o : Oper) (d : Tmp), l[j]? = some o → o.dst = some d → (V j).p w (slot a d)) → Q .normal a w) :
    (Code.region id l.toArray true).wp P Q a0 w := by
  have hsz' : ∀ (i : Nat) (o : Oper) (d : Tmp), l.toArray[i]? = some o → o.dst = some d → d < a0.tmps.size := by
    intro i o d ho hd
    have := List.all_eq_true.1 hsz o (List.mem_of_getElem? (by simpa using ho))
    rw [hd] at this
    simpa using this
  refine Reg.wp_region_inv (fun L a w => Inv l.toArray V (fun _ _ => True) a0 L a w ∧ J L (slot a) w) hm ?_ ?_ ?_
  · exact ⟨⟨by simp, fun _ _ => rfl, rfl, rfl, trivial, fun j o d _ _ hl => by
      by_cases hj : j < l.length <;> simp [hj] at hl, fun j o i _ hl _ => by
      by_cases hj : j < l.length <;> simp [hj] at hl⟩, by simpa using h0⟩
  · intro L a' w' hI hready
    obtain ⟨⟨h1, h2, h3, h4, _, h6, h7⟩, h5⟩ := hI
    have hall : ∀ j, j < l.length → L.getD j false = true := by
      intro j
      induction j using Nat.strongRecOn with
      | _ j ih =>
        intro hj
        have ho : l[j]? = some l[j] := List.getElem?_eq_getElem hj
        refine Reg.none_ready (by exact h1) hready (o := l[j]) (by simp) fun e he hb => ?_
        have hlt := order_at l 0 hor j _ ho e he hb
        exact ih e.on (by omega) (by omega)
    have hL : L = Array.replicate l.length true := by
      apply Array.ext
      · simpa using h1
      · intro i hi1 hi2
        have := hall i (by simpa using hi2)
        simp [hi1] at this
        simp [this]
    subst hL
    exact hdone a' w' h2 h3 h4 h5 fun j o d hj hd => h6 j o d (by simpa using hj) hd (hall j (by
      rcases Nat.lt_or_ge j l.length with h | h
      · exact h
      · rw [List.getElem?_eq_none h] at hj; cases hj))
  · intro L a' w' i hI hi
    obtain ⟨hI, hJ0⟩ := hI
    obtain ⟨hun, o, ho, hdep⟩ := mem_ready.1 hi
    have hI' := hI
    obtain ⟨h1, h2, h3, h4, h5, h6, h7⟩ := hI
    have hcame : ∀ j, waits o j = true → L.getD j false = true := by
      intro j hj
      unfold waits at hj
      obtain ⟨e, he, hb⟩ := List.any_eq_true.1 hj
      simp only [Bool.and_eq_true, beq_iff_eq] at hb
      have := hdep e (by simpa using he) hb.2
      rw [hb.1] at this
      exact this
    have hs := stepsS_at l 0 hsteps i o (by simpa using ho)
    rw [Nat.zero_add] at hs
    replace hs := hs L a' w' ⟨h1, hun, h2, h3, h5, fun j o' d hj hd hw => h6 j o' d hj hd (hcame j hw), hcame, h7⟩ hJ0
    unfold wpOp
    simp only [ho]
    rcases hs with ⟨hw, hs⟩ | ⟨hw, hv, hJ⟩
    · rw [if_pos hw]
      exact .inl (Oper.wp_mono (fun a'' w'' ⟨v, ha, hG, hv, hJ⟩ => by subst ha; exact ⟨inv_step (by simpa using hap) hsz' ho hun hcame hI' hG hv trivial, hJ⟩) hs)
    · rw [if_neg (by rw [hw]; exact Bool.false_ne_true)]
      exact ⟨inv_step (by simpa using hap) hsz' ho hun hcame hI' (hGr w') hv trivial, hJ⟩
end

/-! ### Words for what J sees -/

theorem set_ne {L : Array Bool} {k i : Nat} (h : k ≠ i) : (L.setIfInBounds k true).getD i false = L.getD i false := by
  rw [Array.getD_eq_getD_getElem?, Array.getElem?_setIfInBounds, if_neg h, ← Array.getD_eq_getD_getElem?]
theorem set_eq {L : Array Bool} {k n : Nat} (h : L.size = n) (hk : k < n) : (L.setIfInBounds k true).getD k false = true := by
  subst h
  simp [hk]
theorem free_no {L : Array Bool} {k : Nat} (h : L.getD k true = false) : L.getD k false = false := by
  by_cases hk : k < L.size
  · simp [hk] at h ⊢; exact h
  · simp [hk]
/-- Whatever waits for what comes up has not come up; nor has what waits for such. -/
theorem Cx.later {ops : Array Oper} {G : World → World → Prop} {V : Nat → Kd G} {J : Array Bool → World → Prop} {a0 : Act} {k : Nat} {o : Oper} {L : Array Bool} {a : Act} {w : World} (c : Cx ops V J a0 k o L a w) (j : Nat) (h : waitsAt ops j k = true) : L.getD j false = false := by
  cases hj : L.getD j false with
  | false => rfl
  | true =>
    have := c.via j k h hj
    rw [free_no c.free] at this
    cases this
theorem Cx.later2 {ops : Array Oper} {G : World → World → Prop} {V : Nat → Kd G} {J : Array Bool → World → Prop} {a0 : Act} {k : Nat} {o : Oper} {L : Array Bool} {a : Act} {w : World} (c : Cx ops V J a0 k o L a w) (j i : Nat) (h : waitsAt ops j i = true) (hi : L.getD i false = false) : L.getD j false = false := by
  cases hj : L.getD j false with
  | false => rfl
  | true =>
    have := c.via j i h hj
    rw [hi] at this
    cases this
/-- The world goes on, whatever it changes. -/
def Gt (_ _ : World) : Prop := True
theorem gt_refl (w : World) : Gt w w := trivial
end Go.Proofs.Ytcndihekpdebhaa.Rel
/- Up to three appends within one another, append(append(append(v, x..), y..), z..), in a region that draws its order: the parts are lists made in the region, or such that were there. -/
namespace Go.Proofs.Ytcndihekpdebhaa.Nest
open Go.RowKit
open Go.Sort
open Kit
open Rel (slot)
set_option linter.unusedVariables false
variable {α : Type} {enc : α → List Value} {size : Nat} {T : TypeId} {w0 w w' : World} {v0 vd : Value} {l0 p1 p2 p3 : List α}

def cur (b1 b2 b3 : Bool) (v0 u1 u2 u3 : Value) : Value := cond b3 u3 (cond b2 u2 (cond b1 u1 v0))
def lst (b1 b2 b3 : Bool) (l0 p1 p2 p3 : List α) : List α := cond b3 (l0 ++ p1 ++ p2 ++ p3) (cond b2 (l0 ++ p1 ++ p2) (cond b1 (l0 ++ p1) l0))
/-- A part that can be read, whatever is written into v's block. -/
def Part (enc : α → List Value) (size : Nat) (w : World) (v t : Value) (p : List α) : Prop :=
  ∃ ad c, t = .slice ad p.length c ∧ Kit.Row enc size w ad p ∧ (ad = none → p.length = 0 ∧ c = 0) ∧ ∀ q, ad = some q → p ≠ [] → v.ownBlock ≠ some q.block ∧ q.block < w.heap.size
def Lit (enc : α → List Value) (size : Nat) (w : World) (c b : Bool) (v t : Value) (p : List α) : Prop := c = true → b = false → Part enc size w v t p
theorem row_grown (hs : ∀ x, (enc x).length = size) {ad : Option Addr} {l : List α} {r : Option Nat} (h : Kit.Row enc size w ad l) (hg : w.grownBy w' r) (hq : ∀ q, ad = some q → l ≠ [] → r ≠ some q.block ∧ q.block < w.heap.size) : Kit.Row enc size w' ad l := by
  by_cases hl : l = []
  · exact .inl hl
  rcases h with h | ⟨b, off, h1, h2⟩
  · exact .inl h
  · refine .inr ⟨b, off, h1, fun j hj i hi => ?_⟩
    rw [← h2 j hj i hi]
    obtain ⟨g1, g2⟩ := hq _ h1 hl
    exact World.cell?_of_block (hg.block b g2 (Ne.symm g1))
theorem part_on (hs : ∀ x, (enc x).length = size) {v t : Value} {p : List α} (h : Part enc size w v t p) (hb : Below w.heap.size w w') : Part enc size w' v t p := by
  obtain ⟨ad, c, e, hr, hn, hq⟩ := h
  exact ⟨ad, c, e, row_keep hs hr hb, hn, fun q hq' hl => ⟨(hq q hq' hl).1, Nat.lt_of_lt_of_le (hq q hq' hl).2 hb.size⟩⟩
theorem part_grown (hs : ∀ x, (enc x).length = size) {v t u : Value} {p : List α} (h : Part enc size w v t p) (hg : w.grownBy w' v.ownBlock) (hu : u.ownBlock = v.ownBlock ∨ u.ownBlock = some w.heap.size) : Part enc size w' u t p := by
  obtain ⟨ad, c, e, hr, hn, hq⟩ := h
  refine ⟨ad, c, e, row_grown hs hr hg hq, hn, fun q hq' hl => ⟨?_, Nat.lt_of_lt_of_le (hq q hq' hl).2 hg.size⟩⟩
  obtain ⟨g1, g2⟩ := hq q hq' hl
  rcases hu with hu | hu
  · rw [hu]; exact g1
  · rw [hu]
    intro e
    injection e with e
    omega
theorem own_on {base : Nat} {v : Value} {l : List α} (h : Owns enc size T w base v l) (hb : Below w.heap.size w w') : Owns enc size T w' base v l := by
  rcases h with ⟨h1, h2 | ⟨g, cap, cur, e1, e2, e3, e4, e5, e6, e7⟩⟩
  · exact ⟨h1, .inl h2⟩
  · exact ⟨h1, .inr ⟨g, cap, cur, e1, e2, by rw [hb.block g (Array.getElem?_eq_some_iff.1 e3).1]; exact e3, e4, e5, e6, e7⟩⟩
theorem own_lt {base : Nat} {v : Value} {l : List α} (h : Owns enc size T w base v l) (g : Nat) (hg : v.ownBlock = some g) : g < w.heap.size := (World.ownsRow.lt h g hg).2

/-- The indices and slots: appends i1 d1, i2 d2, i3 d3; parts m1 t1, m2 t2, m3 t3; the last assignment ia, of slot dl to slot da. Where there are only two appends i3, m3, d3, t3 are beyond all. -/
structure At where
  i1 : Nat
  d1 : Nat
  i2 : Nat
  d2 : Nat
  i3 : Nat
  d3 : Nat
  m1 : Nat
  t1 : Nat
  m2 : Nat
  t2 : Nat
  m3 : Nat
  t3 : Nat
  ia : Nat
  da : Nat
  dl : Nat
def At.idx (n : At) : List Nat := [n.i1, n.i2, n.i3, n.m1, n.m2, n.m3, n.ia]
def At.dst (n : At) : List Nat := [n.d1, n.d2, n.d3, n.t1, n.t2, n.t3, n.da, n.dl]
structure J (n : At) (enc : α → List Value) (size : Nat) (T : TypeId) (w0 : World) (v0 vd : Value) (l0 p1 p2 p3 : List α) (L : Array Bool) (s : Nat → Value) (w : World) : Prop where
  below : Below w0.heap.size w0 w
  own : Owns enc size T w w0.heap.size (cur (L.getD n.i1 false) (L.getD n.i2 false) (L.getD n.i3 false) v0 (s n.d1) (s n.d2) (s n.d3)) (lst (L.getD n.i1 false) (L.getD n.i2 false) (L.getD n.i3 false) l0 p1 p2 p3)
  one : Lit enc size w (L.getD n.m1 false) (L.getD n.i1 false) (cur (L.getD n.i1 false) (L.getD n.i2 false) (L.getD n.i3 false) v0 (s n.d1) (s n.d2) (s n.d3)) (s n.t1) p1
  two : Lit enc size w (L.getD n.m2 false) (L.getD n.i2 false) (cur (L.getD n.i1 false) (L.getD n.i2 false) (L.getD n.i3 false) v0 (s n.d1) (s n.d2) (s n.d3)) (s n.t2) p2
  three : Lit enc size w (L.getD n.m3 false) (L.getD n.i3 false) (cur (L.getD n.i1 false) (L.getD n.i2 false) (L.getD n.i3 false) v0 (s n.d1) (s n.d2) (s n.d3)) (s n.t3) p3
  old : L.getD n.ia false = false → s n.da = vd
  new : L.getD n.ia false = true → s n.da = s n.dl
theorem lit_on (hs : ∀ x, (enc x).length = size) {c b : Bool} {v t : Value} {p : List α} (h : Lit enc size w c b v t p) (hb : Below w.heap.size w w') : Lit enc size w' c b v t p := fun h1 h2 => part_on hs (h h1 h2) hb
/-- At the start. -/
theorem start (n : At) (k : Nat) (s : Nat → Value) (hd : s n.da = vd) (ho : Owns enc size T w w0.heap.size v0 l0) (hb : Below w0.heap.size w0 w) : J n enc size T w0 v0 vd l0 p1 p2 p3 (Array.replicate k false) s w := by
  have e : ∀ i, (Array.replicate k false).getD i false = false := by
    intro i
    by_cases h : i < k <;> simp [h]
  refine ⟨hb, ?_, ?_, ?_, ?_, fun _ => hd, fun h => by rw [e] at h; cases h⟩
  · rw [e, e, e]; exact ho
  · intro h; rw [e] at h; cases h
  · intro h; rw [e] at h; cases h
  · intro h; rw [e] at h; cases h
variable {n : At} {L : Array Bool} {a : Act}
def farB (k : Nat) (l : List Nat) : Bool := l.all fun i => k != i
/-- An operation that is none of these. -/
theorem go (hs : ∀ x, (enc x).length = size) {k d : Nat} {v : Value} (h : J n enc size T w0 v0 vd l0 p1 p2 p3 L (slot a) w) (hk : farB k n.idx = true) (hd : farB d n.dst = true) (hb : Below w.heap.size w w') : J n enc size T w0 v0 vd l0 p1 p2 p3 (L.setIfInBounds k true) (slot (a.put (some d) v)) w' := by
  simp only [farB, At.idx, At.dst, List.all_cons, List.all_nil, Bool.and_true, Bool.and_eq_true, bne_iff_ne, ne_eq] at hk hd
  obtain ⟨k1, k2, k3, k4, k5, k6, k7⟩ := hk
  obtain ⟨d1, d2, d3, d4, d5, d6, d7, d8⟩ := hd
  obtain ⟨h1, h2, h3, h4, h5, h6, h7⟩ := h
  refine ⟨h1.trans (hb.mono h1.size), ?_, ?_, ?_, ?_, ?_, ?_⟩
  all_goals simp only [Rel.set_ne k1, Rel.set_ne k2, Rel.set_ne k3, Rel.set_ne k4, Rel.set_ne k5, Rel.set_ne k6, Rel.set_ne k7, Rel.slot_put_ne d1, Rel.slot_put_ne d2, Rel.slot_put_ne d3, Rel.slot_put_ne d4, Rel.slot_put_ne d5, Rel.slot_put_ne d6, Rel.slot_put_ne d7, Rel.slot_put_ne d8]
  · exact own_on h2 hb
  · exact lit_on hs h3 hb
  · exact lit_on hs h4 hb
  · exact lit_on hs h5 hb
  · exact h6
  · exact h7
/-- A part comes up. -/
theorem mk1 (hs : ∀ x, (enc x).length = size) {u : Value} (h : J n enc size T w0 v0 vd l0 p1 p2 p3 L (slot a) w) (hk : farB n.m1 [n.i1, n.i2, n.i3, n.m2, n.m3, n.ia] = true) (hd : farB n.t1 [n.d1, n.d2, n.d3, n.t2, n.t3, n.da, n.dl] = true) (ht : n.t1 < a.tmps.size) (hb : Below w.heap.size w w')
    (hp : ∀ v, (∀ g, v.ownBlock = some g → g < w.heap.size ∧ w0.heap.size ≤ g) → Part enc size w' v u p1) : J n enc size T w0 v0 vd l0 p1 p2 p3 (L.setIfInBounds n.m1 true) (slot (a.put (some n.t1) u)) w' := by
  simp only [farB, List.all_cons, List.all_nil, Bool.and_true, Bool.and_eq_true, bne_iff_ne, ne_eq] at hk hd
  obtain ⟨k1, k2, k3, k4, k5, k6⟩ := hk
  obtain ⟨d1, d2, d3, d4, d5, d6, d7⟩ := hd
  obtain ⟨h1, h2, h3, h4, h5, h6, h7⟩ := h
  refine ⟨h1.trans (hb.mono h1.size), ?_, ?_, ?_, ?_, ?_, ?_⟩
  all_goals simp only [Rel.set_ne k1, Rel.set_ne k2, Rel.set_ne k3, Rel.set_ne k4, Rel.set_ne k5, Rel.set_ne k6, Rel.slot_put ht, Rel.slot_put_ne d1, Rel.slot_put_ne d2, Rel.slot_put_ne d3, Rel.slot_put_ne d4, Rel.slot_put_ne d5, Rel.slot_put_ne d6, Rel.slot_put_ne d7]
  · exact own_on h2 hb
  · exact fun _ _ => hp _ fun g hg => (World.ownsRow.lt h2 g hg).symm
  · exact lit_on hs h4 hb
  · exact lit_on hs h5 hb
  · exact h6
  · exact h7
theorem mk2 (hs : ∀ x, (enc x).length = size) {u : Value} (h : J n enc size T w0 v0 vd l0 p1 p2 p3 L (slot a) w) (hk : farB n.m2 [n.i1, n.i2, n.i3, n.m1, n.m3, n.ia] = true) (hd : farB n.t2 [n.d1, n.d2, n.d3, n.t1, n.t3, n.da, n.dl] = true) (ht : n.t2 < a.tmps.size) (hb : Below w.heap.size w w')
    (hp : ∀ v, (∀ g, v.ownBlock = some g → g < w.heap.size ∧ w0.heap.size ≤ g) → Part enc size w' v u p2) : J n enc size T w0 v0 vd l0 p1 p2 p3 (L.setIfInBounds n.m2 true) (slot (a.put (some n.t2) u)) w' := by
  simp only [farB, List.all_cons, List.all_nil, Bool.and_true, Bool.and_eq_true, bne_iff_ne, ne_eq] at hk hd
  obtain ⟨k1, k2, k3, k4, k5, k6⟩ := hk
  obtain ⟨d1, d2, d3, d4, d5, d6, d7⟩ := hd
  obtain ⟨h1, h2, h3, h4, h5, h6, h7⟩ := h
  refine ⟨h1.trans (hb.mono h1.size), ?_, ?_, ?_, ?_, ?_, ?_⟩
  all_goals simp only [Rel.set_ne k1, Rel.set_ne k2, Rel.set_ne k3, Rel.set_ne k4, Rel.set_ne k5, Rel.set_ne k6, Rel.slot_put ht, Rel.slot_put_ne d1, Rel.slot_put_ne d2, Rel.slot_put_ne d3, Rel.slot_put_ne d4, Rel.slot_put_ne d5, Rel.slot_put_ne d6, Rel.slot_put_ne d7]
  · exact own_on h2 hb
  · exact lit_on hs h3 hb
  · exact fun _ _ => hp _ fun g hg => (World.ownsRow.lt h2 g hg).symm
  · exact lit_on hs h5 hb
  · exact h6
  · exact h7
theorem mk3 (hs : ∀ x, (enc x).length = size) {u : Value} (h : J n enc size T w0 v0 vd l0 p1 p2 p3 L (slot a) w) (hk : farB n.m3 [n.i1, n.i2, n.i3, n.m1, n.m2, n.ia] = true) (hd : farB n.t3 [n.d1, n.d2, n.d3, n.t1, n.t2, n.da, n.dl] = true) (ht : n.t3 < a.tmps.size) (hb : Below w.heap.size w w')
    (hp : ∀ v, (∀ g, v.ownBlock = some g → g < w.heap.size ∧ w0.heap.size ≤ g) → Part enc size w' v u p3) : J n enc size T w0 v0 vd l0 p1 p2 p3 (L.setIfInBounds n.m3 true) (slot (a.put (some n.t3) u)) w' := by
  simp only [farB, List.all_cons, List.all_nil, Bool.and_true, Bool.and_eq_true, bne_iff_ne, ne_eq] at hk hd
  obtain ⟨k1, k2, k3, k4, k5, k6⟩ := hk
  obtain ⟨d1, d2, d3, d4, d5, d6, d7⟩ := hd
  obtain ⟨h1, h2, h3, h4, h5, h6, h7⟩ := h
  refine ⟨h1.trans (hb.mono h1.size), ?_, ?_, ?_, ?_, ?_, ?_⟩
  all_goals simp only [Rel.set_ne k1, Rel.set_ne k2, Rel.set_ne k3, Rel.set_ne k4, Rel.set_ne k5, Rel.set_ne k6, Rel.slot_put ht, Rel.slot_put_ne d1, Rel.slot_put_ne d2, Rel.slot_put_ne d3, Rel.slot_put_ne d4, Rel.slot_put_ne d5, Rel.slot_put_ne d6, Rel.slot_put_ne d7]
  · exact own_on h2 hb
  · exact lit_on hs h3 hb
  · exact lit_on hs h4 hb
  · exact fun _ _ => hp _ fun g hg => (World.ownsRow.lt h2 g hg).symm
  · exact h6
  · exact h7
/-- A list made in the region is a part. -/
theorem part_new (hs : ∀ x, (enc x).length = size) (w : World) (p : List α) (A : Array Value) (hA : A.toList = flat enc p) (c : Nat) (v : Value) (hv : ∀ g, v.ownBlock = some g → g < w.heap.size ∧ w0.heap.size ≤ g) : Part enc size (w.alloc (.cells A T)) v (.slice (some ⟨w.heap.size, 0, none⟩) p.length c) p :=
  ⟨_, _, rfl, row_new hs w p A T _ rfl hA, (fun h => by cases h), fun q hq _ => by
    injection hq with hq
    subst hq
    refine ⟨fun e => ?_, by simp⟩
    have h : w.heap.size < w.heap.size := (hv _ e).1
    omega⟩
/-- A list that was there ahead of all is a part. -/
theorem part_old (hs : ∀ x, (enc x).length = size) {ad : Option Addr} {c : Nat} {p : List α} (hr : Kit.Row enc size w0 ad p) (hn : ad = none → p.length = 0 ∧ c = 0) (hq : ∀ q, ad = some q → p ≠ [] → q.block < w0.heap.size) (hb : Below w0.heap.size w0 w) (v : Value) (hv : ∀ g, v.ownBlock = some g → g < w.heap.size ∧ w0.heap.size ≤ g) : Part enc size w v (.slice ad p.length c) p :=
  ⟨ad, c, rfl, row_keep hs hr hb, hn, fun q hq' hl => ⟨fun e => by
    have h1 := (hv _ e).2
    have h2 := hq q hq' hl
    omega, Nat.lt_of_lt_of_le (hq q hq' hl) hb.size⟩⟩

/-! ### The appends -/

/-- What append needs to know of the type. -/
structure Ty (enc : α → List Value) (size : Nat) (P : Program) (t T : TypeId) (z : Value) (bytes : Nat) : Prop where
  hs : ∀ x, (enc x).length = size
  hz : 0 < size
  one : ∀ x, ∀ u ∈ enc x, u.oneCell' = true
  und : P.underlying t = some (.slice T)
  info : (P.info? T).map (fun i => (i.zero, i.size, i.bytes)) = some (some z, size, bytes)
  zero : z.cells.size = size
variable {P : Program} {t : TypeId} {z : Value} {bytes : Nat}
theorem step (H : Ty enc size P t T z bytes) {v u : Value} {l p : List α} (ho : Owns enc size T w w0.heap.size v l) (hp : Part enc size w v u p) (h63 : l.length + p.length ≤ maxLen) (hby : (l.length + p.length) * bytes ≤ 140737488355328) (hb : w0.heap.size ≤ w.heap.size) (ty : TypeId) :
    ∃ v9 w9, (Builtin.append_ #[t, t] ty #[v, u]).run P w = .ok v9 w9 ∧ Owns enc size T w9 w0.heap.size v9 (l ++ p) ∧ w.grownBy w9 v.ownBlock ∧ (v9.ownBlock = v.ownBlock ∨ v9.ownBlock = some w.heap.size) ∧ Below w0.heap.size w w9 := by
  obtain ⟨ad, c, rfl, hr, hn, _⟩ := hp
  obtain ⟨v9, w9, h1, h2, h3, h4⟩ := Two.run_append_apart (P := P) H.hs H.hz H.one (w := w) t ty T H.und z bytes H.info H.zero w0.heap.size v l ho ad p.length c p rfl hr hn h63 hby hb
  exact ⟨v9, w9, h1, h2, h3, h4, Two.below_grown ho h3 hb⟩
theorem ap1 (H : Ty enc size P t T z bytes) (h : J n enc size T w0 v0 vd l0 p1 p2 p3 L (slot a) w) (hk : farB n.i1 [n.i2, n.i3, n.m1, n.m2, n.m3, n.ia] = true) (hd : farB n.d1 [n.d2, n.d3, n.t1, n.t2, n.t3, n.da] = true) (ht : n.d1 < a.tmps.size) (hi : n.i1 < L.size)
    (f1 : L.getD n.i1 false = false) (f2 : L.getD n.i2 false = false) (f3 : L.getD n.i3 false = false) (g1 : L.getD n.m1 false = true) (ga : L.getD n.ia false = false) (h63 : l0.length + p1.length ≤ maxLen) (hby : (l0.length + p1.length) * bytes ≤ 140737488355328) (ty : TypeId) :
    ∃ v9 w9, (Builtin.append_ #[t, t] ty #[v0, slot a n.t1]).run P w = .ok v9 w9 ∧ J n enc size T w0 v0 vd l0 p1 p2 p3 (L.setIfInBounds n.i1 true) (slot (a.put (some n.d1) v9)) w9 := by
  simp only [farB, List.all_cons, List.all_nil, Bool.and_true, Bool.and_eq_true, bne_iff_ne, ne_eq] at hk hd
  obtain ⟨k1, k2, k3, k4, k5, k6⟩ := hk
  obtain ⟨d1, d2, d3, d4, d5, d6⟩ := hd
  obtain ⟨h1, h2, h3, h4, h5, h6, h7⟩ := h
  rw [f1, f2, f3] at h2 h3 h4 h5
  obtain ⟨v9, w9, e1, e2, e3, e4, e5⟩ := step H h2 (h3 g1 rfl) h63 hby h1.size ty
  refine ⟨v9, w9, e1, h1.trans e5, ?_, ?_, ?_, ?_, ?_, ?_⟩
  all_goals simp only [Rel.set_ne k1, Rel.set_ne k2, Rel.set_ne k3, Rel.set_ne k4, Rel.set_ne k5, Rel.set_ne k6, Rel.set_eq rfl hi, Rel.slot_put ht, Rel.slot_put_ne d1, Rel.slot_put_ne d2, Rel.slot_put_ne d3, Rel.slot_put_ne d4, Rel.slot_put_ne d5, Rel.slot_put_ne d6, f2, f3]
  · exact e2
  · exact fun _ h => by cases h
  · exact fun hc hb => part_grown H.hs (h4 hc hb) e3 e4
  · exact fun hc hb => part_grown H.hs (h5 hc hb) e3 e4
  · exact h6
  · intro h; rw [ga] at h; cases h
/-- The list is made within the region: nothing, in memory of its own. -/
theorem emp (hs : ∀ x, (enc x).length = size) (h : J n enc size T w0 v0 vd [] [] p2 p3 L (slot a) w) (hk : farB n.i1 [n.i2, n.i3, n.m1, n.m2, n.m3, n.ia] = true) (hd : farB n.d1 [n.d2, n.d3, n.t1, n.t2, n.t3, n.da] = true) (ht : n.d1 < a.tmps.size) (hi : n.i1 < L.size)
    (f1 : L.getD n.i1 false = false) (f2 : L.getD n.i2 false = false) (f3 : L.getD n.i3 false = false) (ga : L.getD n.ia false = false) :
    J n enc size T w0 v0 vd [] [] p2 p3 (L.setIfInBounds n.i1 true) (slot (a.put (some n.d1) (.slice (some ⟨w.heap.size, 0, none⟩) 0 0))) (w.alloc (.cells #[] T)) := by
  simp only [farB, List.all_cons, List.all_nil, Bool.and_true, Bool.and_eq_true, bne_iff_ne, ne_eq] at hk hd
  obtain ⟨k1, k2, k3, k4, k5, k6⟩ := hk
  obtain ⟨d1, d2, d3, d4, d5, d6⟩ := hd
  obtain ⟨h1, h2, h3, h4, h5, h6, h7⟩ := h
  rw [f1, f2, f3] at h2 h3 h4 h5
  have hb := below_alloc w (.cells #[] T)
  have hg : ∀ v : Value, w.grownBy (w.alloc (.cells #[] T)) v.ownBlock := fun v => ⟨hb.os, hb.tape, hb.output, hb.size, fun k hk _ => hb.block k hk⟩
  refine ⟨h1.trans (hb.mono h1.size), ?_, ?_, ?_, ?_, ?_, ?_⟩
  all_goals simp only [Rel.set_ne k1, Rel.set_ne k2, Rel.set_ne k3, Rel.set_ne k4, Rel.set_ne k5, Rel.set_ne k6, Rel.set_eq rfl hi, Rel.slot_put ht, Rel.slot_put_ne d1, Rel.slot_put_ne d2, Rel.slot_put_ne d3, Rel.slot_put_ne d4, Rel.slot_put_ne d5, Rel.slot_put_ne d6, f2, f3]
  · show Owns enc size T _ w0.heap.size (.slice (some ⟨w.heap.size, 0, none⟩) 0 0) []
    exact ⟨by simp [flat], .inr ⟨w.heap.size, 0, _, rfl, h1.size, heap_alloc_new w _, Nat.le_refl _, by unfold maxLen; omega, by simp, by simp [flat]⟩⟩
  · exact fun _ h => by cases h
  · exact fun hc hb' => part_grown hs (h4 hc hb') (hg _) (.inr rfl)
  · exact fun hc hb' => part_grown hs (h5 hc hb') (hg _) (.inr rfl)
  · exact h6
  · intro h; rw [ga] at h; cases h
theorem ap2 (H : Ty enc size P t T z bytes) (h : J n enc size T w0 v0 vd l0 p1 p2 p3 L (slot a) w) (hk : farB n.i2 [n.i1, n.i3, n.m1, n.m2, n.m3, n.ia] = true) (hd : farB n.d2 [n.d1, n.d3, n.t1, n.t2, n.t3, n.da] = true) (ht : n.d2 < a.tmps.size) (hi : n.i2 < L.size)
    (f1 : L.getD n.i1 false = true) (f2 : L.getD n.i2 false = false) (f3 : L.getD n.i3 false = false) (g1 : L.getD n.m2 false = true) (ga : L.getD n.ia false = false) (h63 : (l0 ++ p1).length + p2.length ≤ maxLen) (hby : ((l0 ++ p1).length + p2.length) * bytes ≤ 140737488355328) (ty : TypeId) :
    ∃ v9 w9, (Builtin.append_ #[t, t] ty #[slot a n.d1, slot a n.t2]).run P w = .ok v9 w9 ∧ J n enc size T w0 v0 vd l0 p1 p2 p3 (L.setIfInBounds n.i2 true) (slot (a.put (some n.d2) v9)) w9 := by
  simp only [farB, List.all_cons, List.all_nil, Bool.and_true, Bool.and_eq_true, bne_iff_ne, ne_eq] at hk hd
  obtain ⟨k1, k2, k3, k4, k5, k6⟩ := hk
  obtain ⟨d1, d2, d3, d4, d5, d6⟩ := hd
  obtain ⟨h1, h2, h3, h4, h5, h6, h7⟩ := h
  rw [f1, f2, f3] at h2 h4 h5
  obtain ⟨v9, w9, e1, e2, e3, e4, e5⟩ := step H h2 (h4 g1 rfl) h63 hby h1.size ty
  refine ⟨v9, w9, e1, h1.trans e5, ?_, ?_, ?_, ?_, ?_, ?_⟩
  all_goals simp only [Rel.set_ne k1, Rel.set_ne k2, Rel.set_ne k3, Rel.set_ne k4, Rel.set_ne k5, Rel.set_ne k6, Rel.set_eq rfl hi, Rel.slot_put ht, Rel.slot_put_ne d1, Rel.slot_put_ne d2, Rel.slot_put_ne d3, Rel.slot_put_ne d4, Rel.slot_put_ne d5, Rel.slot_put_ne d6, f1, f3]
  · exact e2
  · exact fun _ h => by cases h
  · exact fun _ h => by cases h
  · exact fun hc hb => part_grown H.hs (h5 hc hb) e3 e4
  · exact h6
  · intro h; rw [ga] at h; cases h
theorem ap3 (H : Ty enc size P t T z bytes) (h : J n enc size T w0 v0 vd l0 p1 p2 p3 L (slot a) w) (hk : farB n.i3 [n.i1, n.i2, n.m1, n.m2, n.m3, n.ia] = true) (hd : farB n.d3 [n.d1, n.d2, n.t1, n.t2, n.t3, n.da] = true) (ht : n.d3 < a.tmps.size) (hi : n.i3 < L.size)
    (f1 : L.getD n.i1 false = true) (f2 : L.getD n.i2 false = true) (f3 : L.getD n.i3 false = false) (g1 : L.getD n.m3 false = true) (ga : L.getD n.ia false = false) (h63 : (l0 ++ p1 ++ p2).length + p3.length ≤ maxLen) (hby : ((l0 ++ p1 ++ p2).length + p3.length) * bytes ≤ 140737488355328) (ty : TypeId) :
    ∃ v9 w9, (Builtin.append_ #[t, t] ty #[slot a n.d2, slot a n.t3]).run P w = .ok v9 w9 ∧ J n enc size T w0 v0 vd l0 p1 p2 p3 (L.setIfInBounds n.i3 true) (slot (a.put (some n.d3) v9)) w9 := by
  simp only [farB, List.all_cons, List.all_nil, Bool.and_true, Bool.and_eq_true, bne_iff_ne, ne_eq] at hk hd
  obtain ⟨k1, k2, k3, k4, k5, k6⟩ := hk
  obtain ⟨d1, d2, d3, d4, d5, d6⟩ := hd
  obtain ⟨h1, h2, h3, h4, h5, h6, h7⟩ := h
  rw [f1, f2, f3] at h2 h5
  obtain ⟨v9, w9, e1, e2, e3, e4, e5⟩ := step H h2 (h5 g1 rfl) h63 hby h1.size ty
  refine ⟨v9, w9, e1, h1.trans e5, ?_, ?_, ?_, ?_, ?_, ?_⟩
  all_goals simp only [Rel.set_ne k1, Rel.set_ne k2, Rel.set_ne k3, Rel.set_ne k4, Rel.set_ne k5, Rel.set_ne k6, Rel.set_eq rfl hi, Rel.slot_put ht, Rel.slot_put_ne d1, Rel.slot_put_ne d2, Rel.slot_put_ne d3, Rel.slot_put_ne d4, Rel.slot_put_ne d5, Rel.slot_put_ne d6, f1, f2]
  · exact e2
  · exact fun _ h => by cases h
  · exact fun _ h => by cases h
  · exact fun _ h => by cases h
  · exact h6
  · intro h; rw [ga] at h; cases h
/-- The assignment. -/
theorem asg (h : J n enc size T w0 v0 vd l0 p1 p2 p3 L (slot a) w) (hk : farB n.ia [n.i1, n.i2, n.i3, n.m1, n.m2, n.m3] = true) (hd : farB n.da [n.d1, n.d2, n.d3, n.t1, n.t2, n.t3, n.dl] = true) (ht : n.da < a.tmps.size) (hi : n.ia < L.size) : J n enc size T w0 v0 vd l0 p1 p2 p3 (L.setIfInBounds n.ia true) (slot (a.put (some n.da) (slot a n.dl))) w := by
  simp only [farB, List.all_cons, List.all_nil, Bool.and_true, Bool.and_eq_true, bne_iff_ne, ne_eq] at hk hd
  obtain ⟨k1, k2, k3, k4, k5, k6⟩ := hk
  obtain ⟨d1, d2, d3, d4, d5, d6, d7⟩ := hd
  obtain ⟨h1, h2, h3, h4, h5, h6, h7⟩ := h
  refine ⟨h1, ?_, ?_, ?_, ?_, ?_, ?_⟩
  all_goals simp only [Rel.set_ne k1, Rel.set_ne k2, Rel.set_ne k3, Rel.set_ne k4, Rel.set_ne k5, Rel.set_ne k6, Rel.set_eq rfl hi, Rel.slot_put ht, Rel.slot_put_ne d1, Rel.slot_put_ne d2, Rel.slot_put_ne d3, Rel.slot_put_ne d4, Rel.slot_put_ne d5, Rel.slot_put_ne d6, Rel.slot_put_ne d7]
  · exact h2
  · exact h3
  · exact h4
  · exact h5
  · intro h; cases h
  · intro _; trivial
theorem all_true {k i : Nat} (h : i < k) : (Array.replicate k true).getD i false = true := by simp [h]
theorem all_far {k i : Nat} (h : k ≤ i) : (Array.replicate k true).getD i false = false := by
  have : ¬ i < k := by omega
  simp [this]
/-- At the end: of three, of two. -/
theorem end3 {k : Nat} (h : J n enc size T w0 v0 vd l0 p1 p2 p3 (Array.replicate k true) (slot a) w) (hi : n.i3 < k) (ha : n.ia < k) (hl : n.dl = n.d3) : Below w0.heap.size w0 w ∧ Owns enc size T w w0.heap.size (slot a n.da) (l0 ++ p1 ++ p2 ++ p3) := by
  refine ⟨h.below, ?_⟩
  rw [h.new (all_true ha), hl]
  have := h.own
  rw [all_true hi] at this
  exact this
theorem end2 {k : Nat} (h : J n enc size T w0 v0 vd l0 p1 p2 p3 (Array.replicate k true) (slot a) w) (hi : n.i2 < k) (hf : k ≤ n.i3) (ha : n.ia < k) (hl : n.dl = n.d2) : Below w0.heap.size w0 w ∧ Owns enc size T w w0.heap.size (slot a n.da) (l0 ++ p1 ++ p2) := by
  refine ⟨h.below, ?_⟩
  rw [h.new (all_true ha), hl]
  have := h.own
  rw [all_true hi, all_far hf] at this
  exact this
theorem end1 {k : Nat} (h : J n enc size T w0 v0 vd l0 p1 p2 p3 (Array.replicate k true) (slot a) w) (hi : n.i1 < k) (hf2 : k ≤ n.i2) (hf : k ≤ n.i3) (ha : n.ia < k) (hl : n.dl = n.d1) : Below w0.heap.size w0 w ∧ Owns enc size T w w0.heap.size (slot a n.da) (l0 ++ p1) := by
  refine ⟨h.below, ?_⟩
  rw [h.new (all_true ha), hl]
  have := h.own
  rw [all_true hi, all_far hf2, all_far hf] at this
  exact this
theorem far_no (h : J n enc size T w0 v0 vd l0 p1 p2 p3 L (slot a) w) {i : Nat} (hi : L.size ≤ i) : L.getD i false = false := by
  have : ¬ i < L.size := by omega
  simp [this]
end Go.Proofs.Ytcndihekpdebhaa.Nest
/- Profile: what is busy, in memory; an argument opened. -/
namespace Go.Proofs.Ytcndihekpdebhaa.Prf
set_option maxRecDepth 100000
open Go.RowKit
open Go.Sort
open Kit
open Tre (Lst inI lst_keep lst_take lst_at lst_new lst_none i64_wf cells_int)
set_option linter.unusedVariables false
variable {w w' : World}

def encZ (b : Bz) : List Value := [.int .i64 b.till, .int .i64 b.nodes]
theorem encZ_len (b : Bz) : (encZ b).length = 2 := rfl
theorem encZ_one (x : Bz) : ∀ u ∈ encZ x, u.oneCell' = true := by
  intro u hu
  simp [encZ] at hu
  rcases hu with rfl | rfl <;> rfl
abbrev Busys := Lst encZ 2
theorem busy_cells {b o n c k : Nat} {l : List Bz} (h : Busys w (some ⟨b, o, none⟩) n c l) (hk : k < l.length) :
    w.cell? ⟨b, o + k * 2, none⟩ = some (.int .i64 l[k].till) ∧ w.cell? ⟨b, o + k * 2 + 1, none⟩ = some (.int .i64 l[k].nodes) :=
  ⟨row_cell h.row hk rfl (i := 0) (by omega), row_cell h.row hk rfl (i := 1) (by omega)⟩
theorem info_busy : (Try.prog.info? 48).map (fun i => (i.zero, i.size, i.bytes)) = some (some (.agg #[.int .i64 0, .int .i64 0]), 2, 16) := by kernel_rfl
def Bz.ok (b : Bz) : Prop := inI b.till ∧ inI b.nodes
def RBz (cs : List Value) (x : Bz) : Prop := cs = encZ x ∧ x.ok
theorem cells_busy : Try.prog.cellsOf 48 = 2 := by kernel_rfl
theorem opens_busy : Opn.Opens Try.prog w 48 RBz := by
  refine Opn.opens_struct Try.underlying48 fun cs hlen hf => ?_
  rw [cells_busy] at hlen
  match cs, hlen with
  | [c0, c1], _ =>
    obtain ⟨k0, h0, w0⟩ := hf 0 _ rfl _ _ (Opn.opens_int Try.underlying3)
    obtain ⟨k1, h1, w1⟩ := hf 1 _ rfl _ _ (Opn.opens_int Try.underlying3)
    simp [cells_int] at h0 h1
    subst h0 h1
    exact ⟨⟨k0, k1⟩, rfl, i64_wf w0, i64_wf w1⟩
theorem opens_busys : Opn.Opens Try.prog w 28 (Opn.RSlice RBz 2 w) := Opn.opens_slice Try.underlying28 cells_busy (by omega) opens_busy
theorem busys_arg {a : Option Addr} {len cap : Nat} {l : List Bz} (h : Opn.RSlice RBz 2 w [.slice a len cap] l) : Busys w a len cap l ∧ ∀ x ∈ l, x.ok := by
  obtain ⟨a', len', cap', he, hl, hc, hm, hn, hcs⟩ := h
  simp at he
  obtain ⟨rfl, rfl, rfl⟩ := he
  exact ⟨⟨hl, hc, hm, hn, Kit.row_of_cells (fun _ _ h => h.1) hcs⟩, Kit.all_of_cells (fun _ _ h => h.2) hcs⟩

/-! ### What may be -/

/-- Ticks from 0 to 2^50, nodes from 0 to 2^20. -/
def Tk (t : Int) : Prop := 0 ≤ t ∧ t ≤ 1125899906842624
def Nd (n : Int) : Prop := 0 ≤ n ∧ n ≤ 1048576
def Bz.may (b : Bz) : Prop := Tk b.till ∧ Nd b.nodes
theorem busy_take {l : List Bz} {k : Nat} {x : Bz} (t : Int) (h : l[k]? = some x) : busyN (l.take (k + 1)) t = busyN (l.take k) t + (if t < x.till then x.nodes else 0) := by
  obtain ⟨hk, e⟩ := List.getElem?_eq_some_iff.1 h
  rw [List.take_succ_eq_append_getElem hk, e, busyN_snoc]
theorem busy_bound {l : List Bz} (h : ∀ b ∈ l, b.may) (k : Nat) (hk : k ≤ 1000) (t : Int) : 0 ≤ busyN (l.take k) t ∧ busyN (l.take k) t ≤ 1048576000 := by
  obtain ⟨h1, h2⟩ := busyN_le (K := 1048576) (by omega) (t := t) (l := l.take k) fun b hb => (h b (List.mem_of_mem_take hb)).2
  refine ⟨h1, Int.le_trans h2 ?_⟩
  have : (l.take k).length ≤ 1000 := by rw [List.length_take]; omega
  have h3 : ((l.take k).length : Int) * 1048576 ≤ 1000 * 1048576 := Int.mul_le_mul_of_nonneg_right (by omega) (by omega)
  omega
end Go.Proofs.Ytcndihekpdebhaa.Prf
/- Boxes in memory, as lists of elements of four cells. -/
namespace Go.Proofs.Ytcndihekpdebhaa.Bxm
set_option maxRecDepth 100000
open Go.RowKit
open Go.Sort
open Kit
open Pla (Bx)
open Tre (Lst lst_keep)
set_option linter.unusedVariables false
variable {w w' : World}

def encX (x : Bx) : List Value := [.int .i64 x.t, .int .i64 x.n, .int .i64 x.l, .int .i64 x.m]
theorem encX_len (x : Bx) : (encX x).length = 4 := rfl
theorem encX_one (x : Bx) : ∀ u ∈ encX x, u.oneCell' = true := by
  intro u hu
  simp [encX] at hu
  rcases hu with rfl | rfl | rfl | rfl <;> rfl
abbrev Bxs := Lst encX 4
theorem box_cells {b o n c k : Nat} {l : List Bx} (h : Bxs w (some ⟨b, o, none⟩) n c l) (hk : k < l.length) :
    w.cell? ⟨b, o + k * 4, none⟩ = some (.int .i64 l[k].t) ∧ w.cell? ⟨b, o + k * 4 + 1, none⟩ = some (.int .i64 l[k].n) ∧ w.cell? ⟨b, o + k * 4 + 2, none⟩ = some (.int .i64 l[k].l) ∧ w.cell? ⟨b, o + k * 4 + 3, none⟩ = some (.int .i64 l[k].m) :=
  ⟨row_cell h.row hk rfl (i := 0) (by omega), row_cell h.row hk rfl (i := 1) (by omega), row_cell h.row hk rfl (i := 2) (by omega), row_cell h.row hk rfl (i := 3) (by omega)⟩
/-- The elder words. -/
theorem of_boxes {a : Option Addr} {l : List Bx} (h : Pla.Boxes w a l) : Kit.Row encX 4 w a l := by
  rcases h with h | ⟨b, off, h1, h2⟩
  · exact .inl h
  · refine .inr ⟨b, off, h1, fun j hj i hi => ?_⟩
    obtain ⟨c0, c1, c2, c3⟩ := h2 j hj
    match i, hi with
    | 0, _ => exact c0
    | 1, _ => exact c1
    | 2, _ => exact c2
    | 3, _ => exact c3
theorem to_boxes {a : Option Addr} {l : List Bx} (h : Kit.Row encX 4 w a l) : Pla.Boxes w a l := by
  rcases h with h | ⟨b, off, h1, h2⟩
  · exact .inl h
  · exact .inr ⟨b, off, h1, fun j hj => ⟨h2 j hj 0 (by omega), h2 j hj 1 (by omega), h2 j hj 2 (by omega), h2 j hj 3 (by omega)⟩⟩
theorem out_lst {l : List Bx} {e : Ending} (h : Pla.OutBoxes w l e w') : ∃ a c, e = .returned (.slice a l.length c) ∧ Bxs w' a l.length c l ∧ Below w.heap.size w w' := by
  obtain ⟨a, cap, rfl, h1, h2, h3, h4, h5⟩ := h
  refine ⟨a, cap, rfl, ⟨rfl, h1, h2, fun ha => ?_, of_boxes h4⟩, h5⟩
  have := h3 ha
  omega
end Go.Proofs.Ytcndihekpdebhaa.Bxm
/- Job: what the program must do. -/
namespace Go.Proofs.Ytcndihekpdebhaa.Job
set_option maxRecDepth 100000
open Go.RowKit
open Go.Sort
open Kit
open Tre (Lst inI lst_keep NewI)
open Prf (Bz Busys)
open Pla (Bx)
open Bxm (Bxs)
open Go.Proofs.Ytcndihekpdebhaa.Ord (ts)
set_option linter.unusedVariables false
variable {w w' : World}

/-- WHAT THE PROGRAM'S JOBS MUST DO. -/
structure Prog : Prop where
  find : ∀ (W : World) (a : Option Addr) (n c : Nat) (l : List Jv) (id : Int), Jobs W a n c l → n ≤ 100 →
    Calls Try.prog 8 #[.slice a n c, .int .i64 id] W fun e W' => e = .returned (.int .i64 (findI (ts l) id)) ∧ Below W.heap.size W W'
  good : ∀ (W : World) (x : Jv), x.In W → x.t.ok →
    Calls Try.prog 21 #[valJ x] W fun e W' => e = .returned (.bool (goodJ x.t)) ∧ Below W.heap.size W W'
  mask : ∀ (W : World) (a : Option Addr) (n c : Nat) (l : List Jv), Jobs W a n c l → n ≤ 100 →
    Calls Try.prog 10 #[.slice a n c] W fun e W' => e = .returned (.int .i64 (maskL (ts l))) ∧ Below W.heap.size W W'
  busy : ∀ (W : World) (a : Option Addr) (n c : Nat) (l : List Jv), Jobs W a n c l → n ≤ 100 → (∀ x ∈ l, okT x.t) →
    Calls Try.prog 13 #[.slice a n c] W fun e W' => ∃ a c, e = .returned (.slice a (busyL (ts l)).length c) ∧ Busys W' a (busyL (ts l)).length c (busyL (ts l)) ∧ Below W.heap.size W W'
  boxes : ∀ (W : World) (a : Option Addr) (n c : Nat) (l : List Jv), Jobs W a n c l → n ≤ 100 → (∀ x ∈ l, okT x.t) →
    Calls Try.prog 16 #[.slice a n c] W fun e W' => ∃ a c, e = .returned (.slice a (boxesL (ts l)).length c) ∧ Bxs W' a (boxesL (ts l)).length c (boxesL (ts l)) ∧ Below W.heap.size W W'
  due : ∀ (W : World) (a : Option Addr) (n c : Nat) (l : List Jv) (now : Int), Jobs W a n c l → n ≤ 40 → (∀ x ∈ l, okT x.t) →
    Calls Try.prog 19 #[.slice a n c, .int .i64 now] W fun e W' => ∃ v, e = .returned v ∧ NewI W' W.heap.size v (dueL now (ts l)) ∧ Below W.heap.size W W'
end Go.Proofs.Ytcndihekpdebhaa.Job
/- Common: arrays: blocks of cells that are the call's own. -/
namespace Go.Proofs.Ytcndihekpdebhaa.Arr
open Go.RowKit
open Go.Sort
open Kit

/-- A block's cells. -/
def Blk (w : World) (b : Nat) (t : TypeId) (cs : List Value) : Prop := w.heap[b]? = some (.cells cs.toArray t (0, 0))
theorem blk_cell {w : World} {b : Nat} {t : TypeId} {cs : List Value} (h : Blk w b t cs) (j : Nat) : w.cell? ⟨b, j, none⟩ = cs[j]? := by
  unfold Blk at h
  simp [World.cell?, h]
theorem blk_frozen {w : World} {b : Nat} {t : TypeId} {cs : List Value} (h : Blk w b t cs) (j : Nat) : w.frozen? ⟨b, j, none⟩ = false := by
  unfold Blk at h
  simp [World.frozen?, h]
theorem blk_lt {w : World} {b : Nat} {t : TypeId} {cs : List Value} (h : Blk w b t cs) : b < w.heap.size := (Array.getElem?_eq_some_iff.1 h).1
theorem blk_row {w : World} {b : Nat} {t : TypeId} {cs : List Value} (h : Blk w b t cs) (ds : List Value) : Blk (w.setRow b ds.toArray) b t ds := setRow_heap w b _ _ t _ h
theorem blk_row_far {w : World} {b b' : Nat} {t : TypeId} {cs : List Value} (h : Blk w b t cs) (hne : b ≠ b') (ds : Array Value) : Blk (w.setRow b' ds) b t cs := by
  unfold Blk; rw [setRow_other w b' b ds hne]; exact h
theorem blk_set {w : World} {b : Nat} {t : TypeId} {cs : List Value} (h : Blk w b t cs) (i : Nat) (v : Value) : Blk (w.setCell ⟨b, i, none⟩ v) b t (cs.set i v) := by
  rw [setCell_eq_setRow w b i _ t _ v h]
  have := blk_row h (cs.set i v)
  simpa using this
theorem blk_set_far {w : World} {b b' : Nat} {t : TypeId} {cs : List Value} (h : Blk w b t cs) (hne : b ≠ b') (i : Nat) (v : Value) : Blk (w.setCell ⟨b', i, none⟩ v) b t cs := by
  unfold Blk World.setCell at *
  simp [Array.getElem?_modify, Ne.symm hne, h]
theorem blk_new (w : World) (b : Nat) (t : TypeId) (cs : List Value) (h : b = w.heap.size) : Blk (w.alloc (.cells cs.toArray t)) b t cs := by
  subst h
  unfold Blk World.alloc
  simp
theorem blk_alloc {w : World} {b : Nat} {t : TypeId} {cs : List Value} (h : Blk w b t cs) (o : Obj) : Blk (w.alloc o) b t cs := by
  have hlt := blk_lt h
  unfold Blk World.alloc at *
  simp [Array.getElem?_push, Nat.ne_of_lt hlt, h]
theorem blk_below {w w' : World} {B b : Nat} {t : TypeId} {cs : List Value} (h : Blk w b t cs) (hb : Below B w w') (hlt : b < B) : Blk w' b t cs := by
  unfold Blk; rw [hb.block b hlt]; exact h
theorem below_set {w w' : World} {B b : Nat} (h : Below B w w') (hb : B ≤ b) (i : Nat) (v : Value) : Below B w (w'.setCell ⟨b, i, none⟩ v) := by
  refine ⟨h.os, h.tape, h.output, by rw [setCell_size]; exact h.size, fun k hk => ?_⟩
  rw [← h.block k hk]
  unfold World.setCell
  have : b ≠ k := by omega
  simp [Array.getElem?_modify, this]
theorem below_row {w w' : World} {B b : Nat} (h : Below B w w') (hb : B ≤ b) (ds : Array Value) : Below B w (w'.setRow b ds) := by
  refine ⟨h.os, h.tape, h.output, by rw [setRow_size]; exact h.size, fun k hk => ?_⟩
  rw [← h.block k hk, setRow_other _ _ _ _ (by omega)]

/-- A whole array is written. -/
theorem wpList_store_blk {P : Program} {ops : Array Oper} {rest : List Oper} {o : Oper} {a : Act} {w : World} {Q : Exit → Act → World → Prop} (hgd : o.guard = none) (ty : TypeId) (x y : Operand) (ho : o.op = .store ty x y)
    (g : Nat) (ds : List Value) (hx : a.eval x = .pointer (some ⟨g, 0, none⟩)) (hy : a.eval y = .agg ds.toArray) (cs : List Value) (t : TypeId) (hB : Blk w g t cs) (hi : (P.info? ty).map (·.size) = some ds.length)
    (hold : cs.length = ds.length) (h1 : ds.all (·.oneCell') = true) (B : Nat) (hb : B ≤ g)
    (h : ∀ w', Blk w' g t ds → Below B w w' → wpList P ops Q rest (a.put o.dst undef) w') : wpList P ops Q (o :: rest) a w :=
  wpList_store_row hgd ty x y ho g ds.toArray hx hy t cs.toArray hB (by simpa using hi) (by simpa using hold) (by simpa using h1) (h _ (blk_row hB ds) (below_row (Below.refl _ _) hb _))
/-- A whole array is read. -/
theorem wpList_load_blk {P : Program} {ops : Array Oper} {rest : List Oper} {o : Oper} {a : Act} {w : World} {Q : Exit → Act → World → Prop} (hgd : o.guard = none) (ty : TypeId) (x : Operand) (ho : o.op = .load ty x)
    (g : Nat) (hx : a.eval x = .pointer (some ⟨g, 0, none⟩)) (cs : List Value) (t : TypeId) (hB : Blk w g t cs) (d : TypeDesc) (hu : P.underlying ty = some d) (hd : (match d with | .struct _ | .array _ _ => true | _ => false) = true)
    (hi : (P.info? ty).map (·.size) = some cs.length)
    (h : wpList P ops Q rest (a.put o.dst (.agg cs.toArray)) w) : wpList P ops Q (o :: rest) a w :=
  wpList_load_row hgd ty x ho g hx t cs.toArray (0, 0) d hB hu hd (by simpa using hi) h

end Go.Proofs.Ytcndihekpdebhaa.Arr
/- Jobs in memory: one loaded, one in a box. -/
namespace Go.Proofs.Ytcndihekpdebhaa.Job
set_option maxRecDepth 100000
open Go.RowKit
open Go.Sort
open Kit
open Tre (Lst)
set_option linter.unusedVariables false
variable {w w' : World}

def zeroJ : List Value := [.int .i64 0, .int .i64 0, .int .i64 0, .int .i64 0, .int .i64 0, .int .i64 0, .int .i64 0, .int .i64 0, .int .i64 0, .int .i64 0, .int .i64 0, .slice none 0 0]
theorem info_job12 : (Try.prog.info? 40).map (·.size) = some 12 := by kernel_rfl
theorem info_jobs : (Try.prog.info? 40).map (fun i => (i.zero, i.size, i.bytes)) = some (some (.agg #[.int .i64 0, .int .i64 0, .int .i64 0, .int .i64 0, .int .i64 0, .int .i64 0, .int .i64 0, .int .i64 0, .int .i64 0, .int .i64 0, .int .i64 0, .slice none 0 0]), 12, 112) := by kernel_rfl
theorem one12 (x : Jv) : (encJ x).toArray.all (·.oneCell') = true := by
  rw [List.all_toArray, List.all_eq_true]
  exact encJ_one x
theorem run_ij {b o n c k : Nat} (h : k < n) (w : World) : (Instr.indexAt 22 (.slice (some ⟨b, o, none⟩) n c) (.int .i64 (k : Nat))).run Try.prog w = .ok (.pointer (some ⟨b, o + k * 12, none⟩)) w := by
  simp [go_sem, h]
theorem job_range {b o n c k : Nat} {l : List Jv} {x : Jv} (h : Jobs w (some ⟨b, o, none⟩) n c l) (hx : l[k]? = some x) : w.rangeAt b (o + k * 12) (encJ x) := by
  obtain ⟨hk, e⟩ := List.getElem?_eq_some_iff.1 hx
  intro i v hv
  have hi : i < 12 := (List.getElem?_eq_some_iff.1 hv).1
  have := job_cell h hk i hi
  rw [e, hv] at this
  exact this
theorem range_keep {b o : Nat} {cs : List Value} (hb : Below w.heap.size w w') (h : w.rangeAt b o cs) : w'.rangeAt b o cs := fun i v hv => cell_keep hb (h i v hv)
/-- The cells that are asked for most. -/
theorem job_cells {b o n c k : Nat} {l : List Jv} {x : Jv} (h : Jobs w (some ⟨b, o, none⟩) n c l) (hx : l[k]? = some x) :
    w.cell? ⟨b, o + k * 12, none⟩ = some (.int .i64 x.t.id) ∧ w.cell? ⟨b, o + k * 12 + 2, none⟩ = some (.int .i64 x.t.nodes) ∧ w.cell? ⟨b, o + k * 12 + 3, none⟩ = some (.int .i64 x.t.wall) ∧ w.cell? ⟨b, o + k * 12 + 7, none⟩ = some (.int .i64 x.t.state) ∧
      w.cell? ⟨b, o + k * 12 + 8, none⟩ = some (.int .i64 x.t.start) ∧ w.cell? ⟨b, o + k * 12 + 9, none⟩ = some (.int .i64 x.t.mask) := by
  obtain ⟨hk, e⟩ := List.getElem?_eq_some_iff.1 hx
  have h2 := fun i hi => job_cell h hk i hi
  rw [e] at h2
  exact ⟨h2 0 (by omega), h2 2 (by omega), h2 3 (by omega), h2 7 (by omega), h2 8 (by omega), h2 9 (by omega)⟩
end Go.Proofs.Ytcndihekpdebhaa.Job
/- A cell of an element of an own list written. -/
namespace Go.Proofs.Ytcndihekpdebhaa.Kit
open Go.RowKit
open Go.Sort
variable {α : Type} {enc : α → List Value} {size : Nat}

theorem flat_put (hs : ∀ x, (enc x).length = size) {i : Nat} (hi : i < size) (f : α → α) (u : Value) (hf : ∀ a, enc (f a) = (enc a).set i u) : ∀ (l : List α) (k : Nat) (a : α), l[k]? = some a → (flat enc l).set (k * size + i) u = flat enc (l.set k (f a))
  | [], k, a, h => by simp at h
  | x :: l, 0, a, h => by
    simp at h
    subst h
    have e : flat enc (x :: l) = enc x ++ flat enc l := rfl
    have e2 : flat enc ((x :: l).set 0 (f x)) = enc (f x) ++ flat enc l := rfl
    rw [e, e2, hf, List.set_append, if_pos (by rw [hs]; omega), Nat.zero_mul, Nat.zero_add]
  | x :: l, k + 1, a, h => by
    rw [List.getElem?_cons_succ] at h
    have ih := flat_put hs hi f u hf l k a h
    have e : flat enc (x :: l) = enc x ++ flat enc l := rfl
    have e2 : flat enc ((x :: l).set (k + 1) (f a)) = enc x ++ flat enc (l.set k (f a)) := rfl
    have e3 : (k + 1) * size + i = size + (k * size + i) := by rw [Nat.add_mul, Nat.one_mul]; omega
    rw [e, e2, ← ih, List.set_append, if_neg (by rw [hs, e3]; omega), hs, e3, show size + (k * size + i) - size = k * size + i by omega]
/-- An own list with something in it is a block of its own. -/
theorem owns_at {e : TypeId} {w : World} {base : Nat} {v : Value} {l : List α} (hs : ∀ x, (enc x).length = size) (h : Owns enc size e w base v l) (hl : 1 ≤ l.length) : ∃ g cap, v = .slice (some ⟨g, 0, none⟩) l.length cap ∧ base ≤ g ∧ l.length ≤ cap ∧ cap ≤ maxLen := by
  obtain ⟨a, c, hv, hc, hcm, hn, hrow⟩ := owns_row hs h
  rcases h.2 with ⟨_, h0⟩ | ⟨g, cap, cur, hv2, hg, _⟩
  · omega
  · rw [hv] at hv2
    injection hv2 with e1 e2 e3
    subst e1
    exact ⟨g, c, hv, hg, hc, hcm⟩
theorem owns_put {e : TypeId} {w : World} {base g n cap : Nat} {l : List α} (hs : ∀ x, (enc x).length = size) (h : Owns enc size e w base (.slice (some ⟨g, 0, none⟩) n cap) l) (hnl : l.length = n) {k i : Nat} {a : α} (ha : l[k]? = some a) (hi : i < size) (f : α → α) (u : Value) (hf : ∀ a, enc (f a) = (enc a).set i u) :
    w.cell? ⟨g, k * size + i, none⟩ = (enc a)[i]? ∧ w.frozen? ⟨g, k * size + i, none⟩ = false ∧ Owns enc size e (w.setCell ⟨g, k * size + i, none⟩ u) base (.slice (some ⟨g, 0, none⟩) n cap) (l.set k (f a)) := by
  subst hnl
  have hk := (List.getElem?_eq_some_iff.1 ha).1
  have he := (List.getElem?_eq_some_iff.1 ha).2
  have hfl := flat_length hs l
  have hlt : k * size + i < l.length * size := by
    have : (k + 1) * size ≤ l.length * size := Nat.mul_le_mul_right _ (by omega)
    rw [Nat.add_mul, Nat.one_mul] at this; omega
  unfold Owns at h ⊢
  refine ⟨?_, ?_, ?_⟩
  · rw [h.cellAt _ hlt, flat_at hs l k hk i hi, he]
  · exact h.frozenAt _
  · have := (h.stored (k * size + i) u).1
    rw [flat_put hs hi f u hf l k a ha] at this
    rw [List.length_set]
    exact this
theorem size_setCell (w : World) (a : Addr) (v : Value) : (w.setCell a v).heap.size = w.heap.size := by simp [World.setCell]
end Go.Proofs.Ytcndihekpdebhaa.Kit
