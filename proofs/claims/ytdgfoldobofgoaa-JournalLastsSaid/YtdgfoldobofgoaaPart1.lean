/- Common to the claims of this seat, part 1: texts that were written one by one, laid behind one another. -/
import Derived.Deep.Slices
import Derived.ChangeArms
import Derived.ChangeOld
import Derived.Below
import Derived.Carry
import Derived.SizedLaws
import Derived.OwnWalk
import Derived.Laws.AppendOwn
import Derived.Laws.AppendOwnNone
import Derived.Laws.OwnMore
import Derived.Deep.RegionHeld
import Derived.Lib.QuietBelow
import Derived.Lib.Hide
import Derived.WalkKit
import Derived.Test.YtdgfoldobofgoaaChecked
import Derived.ProofKit
import Derived.Lib.AppendStr
import Derived.Deep.DeepAppendWide
import Derived.Laws.IdiomStrings
import Derived.Laws.BitsAllLaws
import Derived.Laws.BytesArg
import Derived.Laws.Tables
import Derived.Laws.Rows
import Derived.Orders
import Derived.RegionTactic
import Derived.BigRegion
import Derived.BigFrame
import Derived.BigQuiet
import Derived.Deep.DeepCutAuto
import Derived.Deep.CutBlock
import Derived.WalkLawsBesides
import Derived.LoopTactic
import Derived.Lib.SmallJoins
/- Arguments of any shape, opened to plain data: by the type, part by part. -/
namespace Go.Proofs.Ytdgfoldobofgoaa.Opn
open Go.ChangeShapes Go.WideShapes Go.Deep Go.RowKit

/-- What is read of type t in world w is some plain datum that R tells of the cells. -/
def Opens (P : Program) (w : World) (t : TypeId) {α : Type} (R : List Value → α → Prop) : Prop :=
  ∀ (H : Type) (enc : TypeId × Value → H) (base : Nat) (spare : Nat → Bool) (held : Bool) (fuel : Nat) (cs : List Value) (x : DataW H × List MemPlace), DataW.trod enc P w base spare held fuel t cs = some x → ∃ a : α, R cs a

def RInt (k : IntKind) (cs : List Value) (n : Int) : Prop := cs = [.int k n] ∧ (Lit.int k n).wf = true
def RBool (cs : List Value) (b : Bool) : Prop := cs = [.bool b]
def RStr (cs : List Value) (s : ByteArray) : Prop := cs = [.string s] ∧ s.size ≤ maxLen

variable {P : Program} {w : World}
theorem opens_int {t : TypeId} {k : IntKind} (ht : P.underlying t = some (.int k)) : Opens P w t (RInt k) := by
  intro H enc base spare held fuel cs x h
  obtain ⟨n, h1, _, h2⟩ := DataW.trod_int ht h
  exact ⟨n, h1, h2⟩
theorem opens_bool {t : TypeId} (ht : P.underlying t = some .bool) : Opens P w t RBool := by
  intro H enc base spare held fuel cs x h
  obtain ⟨n, h1, _⟩ := DataW.trod_bool ht h
  exact ⟨n, h1⟩
theorem opens_str {t : TypeId} (ht : P.underlying t = some .string) : Opens P w t RStr := by
  intro H enc base spare held fuel cs x h
  obtain ⟨n, h1, _, h2⟩ := DataW.trod_string ht h
  exact ⟨n, h1, h2⟩
theorem Opens.mono {t : TypeId} {α β : Type} {R : List Value → α → Prop} {S : List Value → β → Prop} (h : Opens P w t R) (hs : ∀ cs a, R cs a → ∃ b, S cs b) : Opens P w t S := by
  intro H enc base spare held fuel cs x hx
  obtain ⟨a, ha⟩ := h H enc base spare held fuel cs x hx
  exact hs cs a ha

/-- A struct's cells, field by field. -/
theorem opens_struct {t : TypeId} {fs : Array Field} (ht : P.underlying t = some (.struct fs)) {α : Type} {R : List Value → α → Prop}
    (h : ∀ cs : List Value, cs.length = P.cellsOf t → (∀ (i : Nat) (f : Field), fs[i]? = some f → ∀ (β : Type) (S : List Value → β → Prop), Opens P w f.type S → ∃ b, S ((cs.drop f.offset).take (P.cellsOf f.type)) b) → ∃ a, R cs a) : Opens P w t R := by
  intro H enc base spare held fuel cs x hx
  obtain ⟨xs, n, _, _, hlen, hxl, hf⟩ := DataW.trod_struct ht hx
  refine h cs hlen fun i f hi β S hS => ?_
  have h1 := hf i f hi
  have hi' : i < fs.size := (Array.getElem?_eq_some_iff.1 hi).1
  rw [List.getElem?_eq_getElem (by omega)] at h1
  exact hS _ _ _ _ _ _ _ _ h1

/-- The elements of a list lie in memory. -/
def Cells {α : Type} (R : List Value → α → Prop) (size : Nat) (w : World) (a : Option Addr) (l : List α) : Prop :=
  l = [] ∨ ∃ b off, a = some ⟨b, off, none⟩ ∧ ∀ j (h : j < l.length), ∃ ecs : List Value, ecs.length = size ∧ R ecs l[j] ∧ ∀ i, i < size → w.cell? ⟨b, off + j * size + i, none⟩ = ecs[i]?

/-- A slice: nil, or it leads to its elements. -/
def RSlice {α : Type} (R : List Value → α → Prop) (size : Nat) (w : World) (cs : List Value) (l : List α) : Prop :=
  ∃ a len cap, cs = [.slice a len cap] ∧ l.length = len ∧ len ≤ cap ∧ cap ≤ maxLen ∧ (a = none → len = 0 ∧ cap = 0) ∧ Cells R size w a l

theorem list_of {α : Type} {n : Nat} {p : Nat → α → Prop} (h : ∀ i, i < n → ∃ x, p i x) : ∃ l : List α, l.length = n ∧ ∀ i (hi : i < l.length), p i l[i] := by
  induction n with
  | zero => exact ⟨[], rfl, fun i hi => absurd hi (Nat.not_lt_zero _)⟩
  | succ n ih =>
    obtain ⟨l, hl, hp⟩ := ih (fun i hi => h i (by omega))
    obtain ⟨x, hx⟩ := h n (by omega)
    refine ⟨l ++ [x], by simp [hl], fun i hi => ?_⟩
    by_cases hin : i < l.length
    · rw [List.getElem_append_left hin]; exact hp i hin
    · rw [List.length_append, List.length_singleton] at hi
      have : i = n := by omega
      subst this
      rw [List.getElem_append_right (by omega)]
      simpa [hl] using hx

theorem add_plain (b off k : Nat) : (⟨b, off, none⟩ : Addr).add k = ⟨b, off + k, none⟩ := by
  unfold Addr.add; split
  · subst_vars; rfl
  · rfl

theorem opens_slice {t e : TypeId} {α : Type} {R : List Value → α → Prop} {size : Nat} (ht : P.underlying t = some (.slice e)) (hc : P.cellsOf e = size) (hs : 0 < size) (he : Opens P w e R) : Opens P w t (RSlice R size w) := by
  intro H enc base spare held fuel cs x hx
  rcases open_slice ht hx with ⟨rfl, _⟩ | ⟨a, len, cap, m, n, D, Pl, rfl, _, hl, hm, hmm, _, hi⟩
  · exact ⟨[], none, 0, 0, rfl, rfl, Nat.le_refl _, by unfold maxLen; omega, fun _ => ⟨rfl, rfl⟩, .inl rfl⟩
  · have hlm : len ≤ m := by rw [hmm]; split <;> omega
    rw [hc] at hi
    obtain ⟨l, hll, hp⟩ := list_of (n := len) (p := fun i (y : α) => ∃ ecs : List Value, ecs.length = size ∧ R ecs y ∧ ∀ j, j < size → w.cell? ((a.add (i * size)).add j) = ecs[j]?) (fun i hil => by
      obtain ⟨cs', h1, h2⟩ := hi i (by omega)
      obtain ⟨_, h3, h4⟩ := World.cells?_some h1
      obtain ⟨y, hy⟩ := he _ _ _ _ _ _ _ _ h2
      exact ⟨y, cs', h3, hy, h4⟩)
    refine ⟨l, some a, len, cap, rfl, hll, hl, hm, (fun h => by cases h), ?_⟩
    by_cases h0 : len = 0
    · exact .inl (List.length_eq_zero_iff.1 (by omega))
    · obtain ⟨b, off, spot⟩ := a
      obtain ⟨ecs, e1, _, e3⟩ := hp 0 (by omega)
      have e4 := e3 0 hs
      rw [List.getElem?_eq_getElem (by omega)] at e4
      have hspot : spot = none := by
        have := World.cell?_spot e4
        simpa [Addr.add] using this
      subst hspot
      refine .inr ⟨b, off, rfl, fun j hj => ?_⟩
      obtain ⟨ecs, g1, g2, g3⟩ := hp j hj
      refine ⟨ecs, g1, g2, fun i hi => ?_⟩
      have := g3 i hi
      rw [add_plain, add_plain] at this
      exact this

/-- An argument, by its type. -/
theorem opens_arg {H : Type} {enc : TypeId × Value → H} {base : Nat} {spare : Nat → Bool} {held : Bool} {t : TypeId} {α : Type} {R : List Value → α → Prop} {v : Value} {d : DataW H} {ps : List MemPlace} (h : Opens P w t R) (hd : DataW.Trod enc P w base spare held t v d ps) : ∃ a, R v.cells.toList a := by
  obtain ⟨fuel, hf⟩ := hd
  exact h _ _ _ _ _ _ _ _ hf

/-- No more is read than memory bears. -/
theorem slice_sized {P : Program} {w : World} {H : Type} {enc : TypeId × Value → H} {base : Nat} {spare : Nat → Bool} {held : Bool} {t e : TypeId} {ts : List TypeId} {ds : List (DataW H)} {j b : Nat} {d : DataW H} {ps : List MemPlace} {a : Option Addr} {len cap : Nat}
    (hsz : (DataW.weightsEach P ts ds).all (· ≤ reachBytes) = true) (ht : ts[j]? = some t) (hd : ds[j]? = some d) (hu : P.underlying t = some (.slice e)) (hb : P.bytesOf e = b) (h : DataW.Trod enc P w base spare held t (.slice a len cap) d ps) : len * b ≤ 140737488351232 := by
  obtain ⟨fuel, hf⟩ := h
  rcases open_slice hu hf with ⟨e1, _⟩ | ⟨a', len', cap', m, n, D, Pl, e1, _, hl, _, hm, e2, _⟩
  · simp [Value.cells] at e1
    rw [e1.2.1]; omega
  · simp [Value.cells] at e1
    obtain ⟨_, rfl, rfl⟩ := e1
    injection e2 with e2 _
    have := sized_slice hsz ht (hd.trans (congrArg some e2)) hu
    rw [hb] at this
    simp only [List.length_map, List.length_range, reachBytes] at this
    exact Nat.le_trans (Nat.mul_le_mul_right _ (Nat.le_add_right _ _)) this
theorem string_sized {P : Program} {H : Type} {ts : List TypeId} {ds : List (DataW H)} {j : Nat} {t : TypeId} {s : ByteArray} {d : DataW H}
    (hsz : (DataW.weightsEach P ts ds).all (· ≤ reachBytes) = true) (ht : ts[j]? = some t) (hd : ds[j]? = some d) (he : d = .lit (.string s.data.toList)) : s.size ≤ 140737488351232 := by
  subst he
  have := sized_string hsz ht hd
  have e : s.data.toList.length = s.size := by rw [Array.length_toList]; rfl
  rw [e] at this
  exact this

end Go.Proofs.Ytdgfoldobofgoaa.Opn
/- Common: worlds that grow, and lists of flat elements (each so many cells) that lie in memory: read, cut, made, appended to. -/
namespace Go.Proofs.Ytdgfoldobofgoaa.Kit
open Go.RowKit
open Go.Sort

theorem ret_bool {a b : Bool} (h : a = b) : Ending.returned (.bool a) = .returned (.bool b) := by rw [h]
theorem ret_int {k : IntKind} {a b : Int} (h : a = b) : Ending.returned (.int k a) = .returned (.int k b) := by rw [h]
theorem bcell {W w1 : World} (hb : Below W.heap.size W w1) : (∀ b o, b < W.heap.size → w1.cell? ⟨b, o, none⟩ = W.cell? ⟨b, o, none⟩) ∧ (∀ b o, b < W.heap.size → w1.frozen? ⟨b, o, none⟩ = W.frozen? ⟨b, o, none⟩) :=
  ⟨fun b o h => hb.cell (p := ⟨b, o, none⟩) h, fun b o h => hb.frozen (p := ⟨b, o, none⟩) h⟩
theorem cell_keep {w1 w' : World} (hb : Below w1.heap.size w1 w') {b o : Nat} {v : Value} (h : w1.cell? ⟨b, o, none⟩ = some v) : w'.cell? ⟨b, o, none⟩ = some v := by
  rw [hb.cell (p := ⟨b, o, none⟩) (World.block_lt_of_cell? w1 _ h)]; exact h
theorem below_keep {w w1 w' : World} (h : Below w.heap.size w w1) (hb : Below w1.heap.size w1 w') : Below w.heap.size w w' := h.trans (hb.mono h.size)
theorem below_alloc (w : World) (o : Obj) : Below w.heap.size w (w.alloc o) := (Below.refl _ _).alloc (Nat.le_refl _) _
theorem below_drew (w : World) : Below w.heap.size w w.drew := (Below.refl _ _).drew
theorem cell_alloc {w : World} {a : Addr} {v : Value} {o : Obj} (h : w.cell? a = some v) : (w.alloc o).cell? a = some v := by
  rw [World.cell?_alloc_some _ _ _ (by rw [h]; rfl)]; exact h
theorem same_cell {w : World} {a : Addr} {u : Value} (h : w.cell? a = some u) (v : Value) : (w.setCell a v).cell? a = some v := World.cell?_setCell_same' w a v (by rw [h]; rfl)
theorem off_ne {p i j : Nat} (h : i ≠ j) : (⟨p, i, none⟩ : Addr) ≠ ⟨p, j, none⟩ := fun e => h (by injection e)
theorem set_far {w : World} {a x : Addr} {u v : Value} (hne : a.block ≠ x.block) (h : w.cell? x = some v) : (w.setCell a u).cell? x = some v := by rw [World.cell?_setCell_far _ _ _ _ hne]; exact h
theorem set_off {w : World} {b i j : Nat} {u v : Value} (hne : i ≠ j) (h : w.cell? ⟨b, j, none⟩ = some v) : (w.setCell ⟨b, i, none⟩ u).cell? ⟨b, j, none⟩ = some v := by rw [World.cell?_setCell_other _ _ _ _ (off_ne hne)]; exact h
theorem setCell_size (w : World) (a : Addr) (v : Value) : (w.setCell a v).heap.size = w.heap.size := by simp [World.setCell]
theorem add_plain (b off k : Nat) : (⟨b, off, none⟩ : Addr).add k = ⟨b, off + k, none⟩ := by
  unfold Addr.add; split
  · subst_vars; rfl
  · rfl

/-! ## Lists in memory -/

variable {α : Type} {enc : α → List Value} {size : Nat}

/-- The elements of a list, each by its cells. -/
def Row (enc : α → List Value) (size : Nat) (w : World) (a : Option Addr) (l : List α) : Prop :=
  l = [] ∨ ∃ b off, a = some ⟨b, off, none⟩ ∧ ∀ j (h : j < l.length) i, i < size → w.cell? ⟨b, off + j * size + i, none⟩ = (enc l[j])[i]?

theorem row_keep (hs : ∀ x, (enc x).length = size) {w w' : World} {a : Option Addr} {l : List α} (h : Row enc size w a l) (hb : Below w.heap.size w w') : Row enc size w' a l := by
  rcases h with h | ⟨b, off, h1, h2⟩
  · exact .inl h
  · refine .inr ⟨b, off, h1, fun j hj i hi => ?_⟩
    have e := h2 j hj i hi
    rw [List.getElem?_eq_getElem (by rw [hs]; exact hi)] at e ⊢
    exact cell_keep hb e

theorem row_some {w : World} {a : Option Addr} {l : List α} (h : Row enc size w a l) (hl : 0 < l.length) : ∃ b off, Hid (a = some ⟨b, off, none⟩) := by
  rcases h with rfl | ⟨b, off, h1, _⟩
  · simp at hl
  · exact ⟨b, off, h1⟩

theorem row_cell {w : World} {b off : Nat} {l : List α} (h : Row enc size w (some ⟨b, off, none⟩) l) {j : Nat} (hj : j < l.length) {x : α} (hx : l[j] = x) {i : Nat} (hi : i < size) : w.cell? ⟨b, off + j * size + i, none⟩ = (enc x)[i]? := by
  subst hx
  rcases h with rfl | ⟨b', off', h1, h2⟩
  · simp at hj
  · simp at h1
    obtain ⟨rfl, rfl⟩ := h1
    exact h2 j hj i hi

theorem row_lt (hs : ∀ x, (enc x).length = size) (hz : 0 < size) {w : World} {b off : Nat} {l : List α} (h : Row enc size w (some ⟨b, off, none⟩) l) (hl : 0 < l.length) : b < w.heap.size := by
  have e := row_cell h hl rfl hz
  rw [List.getElem?_eq_getElem (by rw [hs]; exact hz)] at e
  exact World.block_lt_of_cell? w _ e

theorem row_take {w : World} {a : Option Addr} {l : List α} (h : Row enc size w a l) (k : Nat) : Row enc size w a (l.take k) := by
  rcases h with h | ⟨b, off, h1, h2⟩
  · exact .inl (by rw [h]; simp)
  · refine .inr ⟨b, off, h1, fun j hj i hi => ?_⟩
    rw [List.length_take] at hj
    rw [List.getElem_take]
    exact h2 j (by omega) i hi

/-- A slice of a list from element k on. -/
theorem row_drop {w : World} {b off : Nat} {l : List α} (h : Row enc size w (some ⟨b, off, none⟩) l) (k : Nat) : Row enc size w (some ⟨b, off + k * size, none⟩) (l.drop k) := by
  rcases h with h | ⟨b', off', h1, h2⟩
  · exact .inl (by rw [h]; simp)
  · simp at h1
    obtain ⟨rfl, rfl⟩ := h1
    refine .inr ⟨_, _, rfl, fun j hj i hi => ?_⟩
    rw [List.length_drop] at hj
    rw [List.getElem_drop]
    have := h2 (k + j) (by omega) i hi
    rw [Nat.add_mul] at this
    rw [show off + k * size + j * size + i = off + (k * size + j * size) + i by omega]
    exact this

/-! ## A list of the call's own -/

def flat (enc : α → List Value) (l : List α) : List Value := l.flatMap enc
theorem flat_length (hs : ∀ x, (enc x).length = size) : ∀ l : List α, (flat enc l).length = l.length * size
  | [] => by simp [flat]
  | x :: l => by
    have := flat_length hs l
    unfold flat at this ⊢
    rw [List.flatMap_cons, List.length_append, this, hs, List.length_cons, Nat.add_mul]; omega
theorem flat_snoc (l : List α) (x : α) : flat enc (l ++ [x]) = flat enc l ++ enc x := by
  unfold flat; rw [List.flatMap_append]; simp
theorem flat_append (l k : List α) : flat enc (l ++ k) = flat enc l ++ flat enc k := by
  unfold flat; rw [List.flatMap_append]
theorem flat_at (hs : ∀ x, (enc x).length = size) : ∀ (l : List α) (j : Nat) (h : j < l.length) (i : Nat), i < size → (flat enc l)[j * size + i]? = (enc l[j])[i]?
  | x :: l, 0, _, i, hi => by
    show (enc x ++ flat enc l)[0 * size + i]? = _
    rw [Nat.zero_mul, Nat.zero_add, List.getElem?_append_left (by rw [hs]; exact hi)]; rfl
  | x :: l, j + 1, h, i, hi => by
    have h' : j < l.length := by simpa using h
    show (enc x ++ flat enc l)[(j + 1) * size + i]? = _
    rw [Nat.add_mul, Nat.one_mul, List.getElem?_append_right (by rw [hs]; omega), hs, show j * size + size + i - size = j * size + i by omega]
    exact flat_at hs l j h' i hi

def Owns (enc : α → List Value) (size : Nat) (e : TypeId) (w : World) (base : Nat) (v : Value) (l : List α) : Prop := w.ownsRow base e size v l.length (flat enc l)

theorem owns_row (hs : ∀ x, (enc x).length = size) {e : TypeId} {w : World} {base : Nat} {v : Value} {l : List α} (h : Owns enc size e w base v l) : ∃ a cap, v = .slice a l.length cap ∧ l.length ≤ cap ∧ cap ≤ maxLen ∧ (a = none → cap = 0) ∧ Row enc size w a l := by
  obtain ⟨h1, h2⟩ := h
  rcases h2 with ⟨rfl, h3⟩ | ⟨g, cap, cur, rfl, _, hg, hn, hm, hc, ht⟩
  · have hl : l = [] := List.length_eq_zero_iff.1 h3
    subst hl
    exact ⟨none, 0, rfl, Nat.le_refl _, by unfold maxLen; omega, fun _ => rfl, .inl rfl⟩
  · refine ⟨_, cap, rfl, hn, hm, (fun h => by cases h), .inr ⟨g, 0, rfl, fun j hj i hi => ?_⟩⟩
    have hlt : j * size + i < l.length * size := by
      have : (j + 1) * size ≤ l.length * size := Nat.mul_le_mul_right _ (by omega)
      rw [Nat.add_mul] at this; omega
    have e1 : (cur.toList.take (l.length * size))[j * size + i]? = (flat enc l)[j * size + i]? := by rw [ht]
    rw [List.getElem?_take, if_pos hlt, flat_at hs l j hj i hi] at e1
    rw [← e1]
    unfold World.cell?
    simp only [hg, Nat.zero_add]
    simp

theorem owns_alloc {e : TypeId} {w : World} {base : Nat} {v : Value} {l : List α} (h : Owns enc size e w base v l) (o : Obj) : Owns enc size e (w.alloc o) base v l := World.ownsRow.alloc h o
theorem owns_drew {e : TypeId} {w : World} {base : Nat} {v : Value} {l : List α} (h : Owns enc size e w base v l) : Owns enc size e w.drew base v l := h
theorem owns_nil (e : TypeId) (w : World) (base : Nat) : Owns enc size e w base (.slice none 0 0) [] := World.ownsRow_nil _ _ _ _

/-- append of a whole list (one new element, or another slice's) to a list of the call's own. -/
theorem append_row (hs : ∀ x, (enc x).length = size) (hz : 0 < size) (hone : ∀ x, ∀ u ∈ enc x, u.oneCell' = true) {P : Program} {w : World} {ops : Array Oper} {rest : List Oper} {o : Oper} {A : Act} {Q : Exit → Act → World → Prop} (hgd : o.guard = none) (s x : Operand) (t e : TypeId)
    (ho : o.op = .call { callee := .builtin .append, args := #[s, x], argTypes := #[t, t] }) (ht : P.underlying t = some (.slice e)) (z : Value) (bytes : Nat)
    (hinfo : (P.info? e).map (fun i => (i.zero, i.size, i.bytes)) = some (some z, size, bytes)) (hzs : z.cells.size = size)
    (base : Nat) (v : Value) (l : List α) (hv : A.eval s = v) (hown : Owns enc size e w base v l) (ad : Option Addr) (m c : Nat) (k : List α) (hx : A.eval x = .slice ad m c) (hk : k.length = m) (hrow : Row enc size w ad k) (hnil : ad = none → m = 0 ∧ c = 0)
    (h63 : l.length + m ≤ maxLen) (hbytes : (l.length + m) * bytes ≤ 140737488355328) (hbase : base ≤ w.heap.size)
    (h : ∀ v' w', Owns enc size e w' base v' (l ++ k) → Below base w w' → wpList P ops Q rest (A.put o.dst v') w') : wpList P ops Q (o :: rest) A w := by
  obtain ⟨i0, hi, hz0, hz1, hz2⟩ := info_parts hinfo
  cases ad with
  | none =>
    obtain ⟨rfl, rfl⟩ := hnil rfl
    obtain rfl : k = [] := List.length_eq_zero_iff.1 hk
    refine wpList_append_own_none hgd s x t ho base e i0 size ht hi v l.length _ hv hown hx (h v w (by rw [List.append_nil]; exact hown) (Below.refl _ _))
  | some q =>
    refine wpList_append_own _ hgd s x t ho base e i0 z size bytes ht hi hz0 hz1 hz2 hzs hz v l.length _ hv hown q m c (flat enc k) hx (by rw [flat_length hs, hk]) ?_ ?_ h63 hbytes hbase ?_
    · intro j u hj
      rcases hrow with rfl | ⟨b, off, h1, h2⟩
      · simp [flat] at hj
      · simp at h1
        subst h1
        have hjl : j < k.length * size := by rw [← flat_length hs]; exact (List.getElem?_eq_some_iff.1 hj).1
        have hd : j / size < k.length := by rw [Nat.div_lt_iff_lt_mul hz]; exact hjl
        have hm := Nat.mod_lt j hz
        have e1 := h2 (j / size) hd (j % size) hm
        rw [← flat_at hs k (j / size) hd (j % size) hm] at e1
        have e2 : j / size * size + j % size = j := by rw [Nat.mul_comm]; exact Nat.div_add_mod j size
        rw [Nat.add_assoc, e2, hj] at e1
        rw [add_plain]; exact e1
    · intro u hu
      obtain ⟨x, hx, hux⟩ := List.mem_flatMap.1 hu
      exact hone x u hux
    · intro v' w' h1 h2 _
      refine h v' w' ?_ ((Below.refl _ _).grown h2 hbase fun k hk => (hown.lt k hk).1)
      unfold Owns
      rw [flat_append, List.length_append, hk]
      exact h1

/-- A new list's cells. -/
theorem row_new (hs : ∀ x, (enc x).length = size) (w : World) (l : List α) (A : Array Value) (T : TypeId) (n : Nat) (hn : n = w.heap.size) (hA : A.toList = flat enc l) : Row enc size (w.alloc (.cells A T)) (some ⟨n, 0, none⟩) l := by
  subst hn
  refine .inr ⟨_, _, rfl, fun j hj i hi => ?_⟩
  rw [Nat.zero_add, World.cell?_alloc_new, ← flat_at hs l j hj i hi, ← hA]
  simp

/-- An argument's list. -/
theorem row_of_cells {R : List Value → α → Prop} (hR : ∀ cs x, R cs x → cs = enc x) {w : World} {a : Option Addr} {l : List α} (h : Opn.Cells R size w a l) : Row enc size w a l := by
  rcases h with h | ⟨b, off, h1, h2⟩
  · exact .inl h
  · refine .inr ⟨b, off, h1, fun j hj i hi => ?_⟩
    obtain ⟨ecs, _, h3, h4⟩ := h2 j hj
    rw [← hR ecs _ h3]
    exact h4 i hi
theorem all_of_cells {R : List Value → α → Prop} {p : α → Prop} (hR : ∀ cs x, R cs x → p x) {w : World} {a : Option Addr} {l : List α} (h : Opn.Cells R size w a l) : ∀ x ∈ l, p x := by
  rcases h with rfl | ⟨b, off, _, h2⟩
  · intro x hx; cases hx
  · intro x hx
    obtain ⟨j, hj, rfl⟩ := List.getElem_of_mem hx
    obtain ⟨ecs, _, h3, _⟩ := h2 j hj
    exact hR ecs _ h3

end Go.Proofs.Ytdgfoldobofgoaa.Kit
/- Octet: bytes as plain data: a number's eight bytes, and what bytes come to. -/
namespace Go.Proofs.Ytdgfoldobofgoaa.Oct
open Go.RowKit
open Go.Sort

/-- A byte's cell. -/
def encB (b : UInt8) : List Value := [.int .u8 (b.toNat : Int)]
theorem encB_len (b : UInt8) : (encB b).length = 1 := rfl
theorem encB_one (b : UInt8) : ∀ u ∈ encB b, u.oneCell' = true := by
  intro u hu
  simp [encB] at hu
  subst hu; rfl

/-- Bytes that lie in memory. -/
abbrev RowB (w : World) (a : Option Addr) (l : List UInt8) : Prop := Kit.Row encB 1 w a l

/-- The k lowest bytes, the highest of them first. -/
def beB : Nat → Nat → List UInt8
  | 0, _ => []
  | k + 1, n => UInt8.ofNat (n / 256 ^ k) :: beB k n
theorem beB_length : ∀ k n, (beB k n).length = k
  | 0, _ => rfl
  | k + 1, n => by simp [beB, beB_length k n]

/-- What bytes come to, on top of m. -/
def numF (m : Nat) (l : List UInt8) : Nat := l.foldl (fun n b => (n * 256 + b.toNat) % 18446744073709551616) m
def numB (l : List UInt8) : Nat := numF 0 l
theorem numF_snoc (m : Nat) (l : List UInt8) (b : UInt8) : numF m (l ++ [b]) = (numF m l * 256 + b.toNat) % 18446744073709551616 := by
  unfold numF; rw [List.foldl_append]; rfl
theorem numF_lt (m : Nat) (hm : m < 18446744073709551616) (l : List UInt8) : numF m l < 18446744073709551616 := by
  rcases List.eq_nil_or_concat l with rfl | ⟨l', b, rfl⟩
  · exact hm
  · rw [List.concat_eq_append, numF_snoc]; exact Nat.mod_lt _ (by decide)
theorem numB_lt (l : List UInt8) : numB l < 18446744073709551616 := numF_lt 0 (by decide) l

theorem u8_of (n : Nat) : (UInt8.ofNat n).toNat = n % 256 := by simp

theorem numF_be : ∀ (k n m : Nat), (m * 256 ^ k + n % 256 ^ k) < 18446744073709551616 → numF m (beB k n) = m * 256 ^ k + n % 256 ^ k
  | 0, n, m, _ => by simp [numF, beB, Nat.mod_one]
  | k + 1, n, m, h => by
    show numF ((m * 256 + (UInt8.ofNat (n / 256 ^ k)).toNat) % 18446744073709551616) (beB k n) = _
    rw [u8_of]
    have e1 : n % 256 ^ (k + 1) = n % 256 ^ k + 256 ^ k * (n / 256 ^ k % 256) := by rw [Nat.pow_succ, Nat.mod_mul]
    have e2 : m * 256 ^ (k + 1) = m * 256 * 256 ^ k := by rw [Nat.pow_succ]; ac_rfl
    have e3 : (m * 256 + n / 256 ^ k % 256) * 256 ^ k = m * 256 * 256 ^ k + 256 ^ k * (n / 256 ^ k % 256) := by rw [Nat.add_mul]; ac_rfl
    have hp : 0 < 256 ^ k := Nat.pow_pos (by decide)
    have e4 : m * 256 + n / 256 ^ k % 256 ≤ (m * 256 + n / 256 ^ k % 256) * 256 ^ k := Nat.le_mul_of_pos_right _ hp
    have hlt : m * 256 + n / 256 ^ k % 256 < 18446744073709551616 := by omega
    rw [Nat.mod_eq_of_lt hlt]
    rw [numF_be k n _ (by omega)]
    omega

/-- Eight bytes come back as the number that they are of. -/
theorem numB_be8 (n : Nat) (h : n < 18446744073709551616) : numB (beB 8 n) = n := by
  have e := numF_be 8 n 0 (by simp; omega)
  unfold numB
  rw [e]
  simp; omega
theorem numB_be2 (n : Nat) (h : n < 65536) : numB (beB 2 n) = n := by
  have e := numF_be 2 n 0 (by simp; omega)
  unfold numB
  rw [e]
  simp; omega
theorem numB_two (l : List UInt8) (h : l.length = 2) : numB l < 65536 := by
  match l, h with
  | [a, b], _ =>
    have := a.toNat_lt; have := b.toNat_lt
    simp [numB, numF]; omega

end Go.Proofs.Ytdgfoldobofgoaa.Oct
/- Common: several lists of the call's own: an append to one of them leaves the others as they are, and apart from it. -/
namespace Go.Proofs.Ytdgfoldobofgoaa.Two
open Go.RowKit
open Go.Sort
open Kit

/-- Where an append to a list of the call's own leaves it: in its block, or in a new one. -/
theorem append_where {P : Program} (w : World) (base : Nat) (t ty e : TypeId) (i : TypeInfo) (z : Value) (size bytes : Nat) (ht : P.underlying t = some (.slice e)) (hi : P.info? e = some i) (hz : i.zero = some z)
    (hsize : i.size = size) (hby : i.bytes = bytes) (hzs : z.cells.size = size) (hsz : 0 < size) (v : Value) (n : Nat) (xs : List Value) (hown : w.ownsRow base e size v n xs)
    (a : Addr) (m c : Nat) (news : List Value) (hl : news.length = m * size) (hnews : ∀ j u, news[j]? = some u → w.cell? (a.add j) = some u) (h1 : ∀ u ∈ news, u.oneCell' = true)
    (h63 : n + m ≤ maxLen) (hbytes : (n + m) * bytes ≤ 140737488355328) (hbase : base ≤ w.heap.size) :
    ∃ v' w', (Builtin.append_ #[t, t] ty #[v, .slice (some a) m c]).run P w = .ok v' w' ∧ w'.ownsRow base e size v' (n + m) (xs ++ news) ∧ w.grownBy w' v.ownBlock ∧ (v'.ownBlock = v.ownBlock ∨ v'.ownBlock = some w.heap.size) := by
  obtain ⟨v', w', hr, h2, h3, _⟩ := run_append_own (P := P) w base t ty e i z size bytes ht hi hz hsize hby hzs hsz v n xs hown a m c news hl hnews h1 h63 hbytes hbase
  refine ⟨v', w', hr, h2, h3, ?_⟩
  subst hsize hby
  have hsmall : n + m ≤ 9223372036854775807 := by simp only [maxLen] at h63; omega
  have out : ∀ {x y : Value} {wx wy : World} {r : Result Value}, r = .ok x wx → r = .ok y wy → x = y := by
    intro x y wx wy r hx hy
    rw [hx] at hy
    injection hy
  rcases hown.2 with ⟨rfl, rfl⟩ | ⟨g, cap, cur, rfl, _, hg, _, _, hcs, _⟩
  · by_cases hm : m = 0
    · subst hm
      have hn : news = [] := List.eq_nil_of_length_eq_zero (by simpa using hl)
      subst hn
      have hr0 : (Builtin.append_ #[t, t] ty #[.slice none 0 0, .slice (some a) 0 c]).run P w = .ok (.slice none 0 0) w := by
        simp [Builtin.append_, run_underlying ht, sizeOf, typeInfo, hi, Builtin.lenOf, Builtin.firstCells, loadCells, loadCellsFrom]
      exact .inl (by rw [out hr hr0])
    · have hr0 := run_append_nil (P := P) w t ty e i z ht hi hz a m c news hl hnews (by omega) (by omega) (by have hb := hbytes; simp only [Nat.zero_add] at hb; omega)
      exact .inr (by rw [out hr hr0]; rfl)
  · by_cases hroom : n + m ≤ cap
    · have hr0 := run_append_room (P := P) w t ty e i ht hi g n cap cur hg a m c news hl hnews h1 hroom (by rw [hl, hcs, ← Nat.add_mul]; exact Nat.mul_le_mul_right _ hroom)
      exact .inl (by rw [out hr hr0]; rfl)
    · have hr0 := run_append_grow (P := P) w t ty e i z ht hi hz ⟨g, 0, none⟩ n cap xs hown.1 (hown.cells (g := g) rfl) a m c news hl hnews (by omega) (by omega) (growslice_fits (by omega) hbytes)
      exact .inr (by rw [out hr hr0]; rfl)

variable {α : Type} {enc : α → List Value} {size : Nat}

/-- 'append' of a list to a list of the call's own, as it runs, and what becomes of the others. -/
theorem run_append_apart (hs : ∀ x, (enc x).length = size) (hz : 0 < size) (hone : ∀ x, ∀ u ∈ enc x, u.oneCell' = true) {P : Program} {w : World} (t ty e : TypeId) (ht : P.underlying t = some (.slice e)) (z : Value) (bytes : Nat)
    (hinfo : (P.info? e).map (fun i => (i.zero, i.size, i.bytes)) = some (some z, size, bytes)) (hzs : z.cells.size = size)
    (base : Nat) (v : Value) (l : List α) (hown : Owns enc size e w base v l) (ad : Option Addr) (m c : Nat) (k : List α) (hk : k.length = m) (hrow : Row enc size w ad k) (hnil : ad = none → m = 0 ∧ c = 0)
    (h63 : l.length + m ≤ maxLen) (hbytes : (l.length + m) * bytes ≤ 140737488355328) (hbase : base ≤ w.heap.size) :
    ∃ v' w', (Builtin.append_ #[t, t] ty #[v, .slice ad m c]).run P w = .ok v' w' ∧ Owns enc size e w' base v' (l ++ k) ∧ w.grownBy w' v.ownBlock ∧ (v'.ownBlock = v.ownBlock ∨ v'.ownBlock = some w.heap.size) := by
  obtain ⟨i0, hi, hz0, hz1, hz2⟩ := info_parts hinfo
  cases ad with
  | none =>
    obtain ⟨rfl, rfl⟩ := hnil rfl
    obtain rfl : k = [] := List.length_eq_zero_iff.1 hk
    exact ⟨v, w, run_append_owned_none (P := P) (w := w) base t ty e i0 size ht hi v l.length _ hown, by rw [List.append_nil]; exact hown, ⟨rfl, rfl, rfl, Nat.le_refl _, fun _ _ _ => rfl⟩, .inl rfl⟩
  | some q =>
    have hnews : ∀ j u, (flat enc k)[j]? = some u → w.cell? (q.add j) = some u := by
      intro j u hj
      rcases hrow with rfl | ⟨b, off, h1, h2⟩
      · simp [flat] at hj
      · simp at h1
        subst h1
        have hjl : j < k.length * size := by rw [← flat_length hs]; exact (List.getElem?_eq_some_iff.1 hj).1
        have hd : j / size < k.length := by rw [Nat.div_lt_iff_lt_mul hz]; exact hjl
        have hm := Nat.mod_lt j hz
        have e1 := h2 (j / size) hd (j % size) hm
        rw [← flat_at hs k (j / size) hd (j % size) hm] at e1
        have e2 : j / size * size + j % size = j := by rw [Nat.mul_comm]; exact Nat.div_add_mod j size
        rw [Nat.add_assoc, e2, hj] at e1
        rw [add_plain]; exact e1
    obtain ⟨v', w', hr, g2, g3, g4⟩ := append_where (P := P) w base t ty e i0 z size bytes ht hi hz0 hz1 hz2 hzs hz v l.length _ hown q m c (flat enc k) (by rw [flat_length hs, hk]) hnews
      (fun u hu => by obtain ⟨x, _, hux⟩ := List.mem_flatMap.1 hu; exact hone x u hux) h63 hbytes hbase
    refine ⟨v', w', hr, ?_, g3, g4⟩
    unfold Owns
    rw [flat_append, List.length_append, hk]
    exact g2
/-- The same in a walk. -/
theorem append_apart (hs : ∀ x, (enc x).length = size) (hz : 0 < size) (hone : ∀ x, ∀ u ∈ enc x, u.oneCell' = true) {P : Program} {w : World} {ops : Array Oper} {rest : List Oper} {o : Oper} {A : Act} {Q : Exit → Act → World → Prop} (hgd : o.guard = none) (s x : Operand) (t e : TypeId)
    (ho : o.op = .call { callee := .builtin .append, args := #[s, x], argTypes := #[t, t] }) (ht : P.underlying t = some (.slice e)) (z : Value) (bytes : Nat)
    (hinfo : (P.info? e).map (fun i => (i.zero, i.size, i.bytes)) = some (some z, size, bytes)) (hzs : z.cells.size = size)
    (base : Nat) (v : Value) (l : List α) (hv : A.eval s = v) (hown : Owns enc size e w base v l) (ad : Option Addr) (m c : Nat) (k : List α) (hx : A.eval x = .slice ad m c) (hk : k.length = m) (hrow : Row enc size w ad k) (hnil : ad = none → m = 0 ∧ c = 0)
    (h63 : l.length + m ≤ maxLen) (hbytes : (l.length + m) * bytes ≤ 140737488355328) (hbase : base ≤ w.heap.size)
    (h : ∀ v' w', Owns enc size e w' base v' (l ++ k) → w.grownBy w' v.ownBlock → (v'.ownBlock = v.ownBlock ∨ v'.ownBlock = some w.heap.size) → wpList P ops Q rest (A.put o.dst v') w') : wpList P ops Q (o :: rest) A w := by
  obtain ⟨v', w', hr, g2, g3, g4⟩ := run_append_apart (P := P) hs hz hone t o.type e ht z bytes hinfo hzs base v l hown ad m c k hk hrow hnil h63 hbytes hbase
  refine wpList_plain hgd fun K hK => ?_
  unfold Oper.wp execOp
  simp only [ho, resolve, invoke, builtin, Sem.run_bind, Sem.run_pure, Result.andThen_ok, List.map_toArray, List.map_cons, List.map_nil, hv, hx, hr]
  exact hK _ _ (h v' w' g2 g3 g4)

/-- Two values that own no block together. -/
def Apart (v u : Value) : Prop := u.ownBlock = none ∨ u.ownBlock ≠ v.ownBlock
theorem apart_symm {v u : Value} (h : Apart v u) : Apart u v := by
  unfold Apart at *
  rcases h with h | h
  · by_cases hv : v.ownBlock = none
    · exact .inl hv
    · exact .inr (by rw [h]; exact hv)
  · exact .inr (Ne.symm h)
theorem owns_kept {e : TypeId} {w w' : World} {base : Nat} {v u : Value} {l : List α} (h : Owns enc size e w base u l) (hg : w.grownBy w' v.ownBlock) (ha : Apart v u) : Owns enc size e w' base u l := World.ownsRow.kept h hg ha
theorem apart_kept {e : TypeId} {w : World} {base : Nat} {v v' u : Value} {l : List α} (h : Owns enc size e w base u l) (ha : Apart v u) (hv : v'.ownBlock = v.ownBlock ∨ v'.ownBlock = some w.heap.size) : Apart v' u := by
  unfold Apart at *
  rcases hv with hv | hv
  · rw [hv]; exact ha
  · by_cases hu : u.ownBlock = none
    · exact .inl hu
    · refine .inr fun e => ?_
      rw [hv] at e
      have := (World.ownsRow.lt h _ e).2
      omega
theorem below_grown {e : TypeId} {w w' : World} {base : Nat} {v : Value} {l : List α} (h : Owns enc size e w base v l) (hg : w.grownBy w' v.ownBlock) (hb : base ≤ w.heap.size) : Below base w w' :=
  (Below.refl _ _).grown hg hb fun k hk => (World.ownsRow.lt h k hk).1

end Go.Proofs.Ytdgfoldobofgoaa.Two
/- Bytes: what lies in memory, what is a call's own, what is appended to it; bytes as arguments. -/
namespace Go.Proofs.Ytdgfoldobofgoaa.Oct
open Go.RowKit
open Go.Sort
open Kit
set_option linter.unusedVariables false

theorem row_far {w w' : World} {a : Option Addr} {l : List UInt8} {g : Option Nat} (h : RowB w a l) (hg : w.grownBy w' g) (hne : ∀ q, a = some q → some q.block ≠ g) : RowB w' a l := by
  rcases h with h | ⟨b, off, h1, h2⟩
  · exact .inl h
  · refine .inr ⟨b, off, h1, fun j hj i hi => ?_⟩
    have e := h2 j hj i hi
    rw [List.getElem?_eq_getElem (by rw [encB_len]; exact hi)] at e ⊢
    exact hg.cell e (hne ⟨b, off, none⟩ h1)
theorem grown_setCell (w : World) (p j : Nat) (v : Value) : w.grownBy (w.setCell ⟨p, j, none⟩ v) (some p) := by
  refine ⟨rfl, rfl, rfl, by rw [setCell_size]; exact Nat.le_refl _, fun k _ hk => ?_⟩
  have hne : p ≠ k := fun e => hk (by rw [e])
  unfold World.setCell
  simp [Array.getElem?_modify, hne]
theorem grown_trans {w w1 w2 : World} {g : Option Nat} (h : w.grownBy w1 g) (k : w1.grownBy w2 g) : w.grownBy w2 g :=
  ⟨k.os.trans h.os, k.tape.trans h.tape, k.output.trans h.output, Nat.le_trans h.size k.size, fun i hi hn => (k.block i (Nat.lt_of_lt_of_le hi h.size) hn).trans (h.block i hi hn)⟩
theorem grown_below {w w' : World} {B g : Nat} (h : w.grownBy w' (some g)) (hB : B ≤ w.heap.size) (hg : B ≤ g) : Below B w w' :=
  ⟨h.os, h.tape, h.output, h.size, fun k hk => h.block k (by omega) (by intro e; injection e; omega)⟩
theorem row_setCell {w : World} {a : Option Addr} {l : List UInt8} {p j : Nat} {v : Value} (h : RowB w a l) (hne : ∀ q, a = some q → q.block ≠ p) : RowB (w.setCell ⟨p, j, none⟩ v) a l :=
  row_far h (grown_setCell _ _ _ _) (fun q hq e => hne q hq (by injection e))
theorem frozen_of_block {w w' : World} {b o : Nat} (h : w'.heap[b]? = w.heap[b]?) : w'.frozen? ⟨b, o, none⟩ = w.frozen? ⟨b, o, none⟩ := World.frozen?_of_block h
theorem info8 : (Try.prog.info? 5).map (fun i => (i.zero, i.size, i.bytes)) = some (some (.int .u8 0), 1, 1) := by kernel_rfl
/-- A list of bytes of the call's own. -/
abbrev OwnB (w : World) (base : Nat) (v : Value) (l : List UInt8) : Prop := Kit.Owns encB 1 5 w base v l
def cellsB (l : List UInt8) : List Value := l.map fun b => Value.int .u8 (b.toNat : Int)
theorem flat_cells : ∀ l : List UInt8, Kit.flat encB l = cellsB l
  | [] => rfl
  | b :: l => by
    show encB b ++ Kit.flat encB l = _
    rw [flat_cells l]; rfl
theorem cellsB_length (l : List UInt8) : (cellsB l).length = l.length := by simp [cellsB]
theorem cellsB_one (l : List UInt8) : ∀ u ∈ cellsB l, u.oneCell' = true := by
  intro u hu
  simp only [cellsB, List.mem_map] at hu
  obtain ⟨b, _, rfl⟩ := hu
  rfl
theorem cellsB_append (l k : List UInt8) : cellsB (l ++ k) = cellsB l ++ cellsB k := by simp [cellsB]
theorem own_iff {w : World} {base : Nat} {v : Value} {l : List UInt8} : OwnB w base v l ↔ w.ownsRow base 5 1 v l.length (cellsB l) := by
  unfold OwnB Kit.Owns; rw [flat_cells]
/-- The cells of a list that lies in memory. -/
theorem row_cells {w : World} {a : Option Addr} {l : List UInt8} (h : RowB w a l) : ∀ ad, a = some ad → ∀ j u, (cellsB l)[j]? = some u → w.cell? (ad.add j) = some u := by
  intro ad had j u hu
  have hj : j < l.length := by rw [← cellsB_length]; exact (List.getElem?_eq_some_iff.1 hu).1
  rcases h with rfl | ⟨b, off, h1, h2⟩
  · simp at hj
  · rw [h1] at had
    injection had with had
    subst had
    rw [add_plain]
    have := h2 j hj 0 (by omega)
    simp only [cellsB, List.getElem?_map, List.getElem?_eq_getElem hj, Option.map_some] at hu
    injection hu with hu
    subst hu
    simpa [encB] using this
theorem one_cell (w : World) {u v : Value} {T : TypeId} (h : u = v) : ∀ (j : Nat) (x : Value), [v][j]? = some x → (w.alloc (.cells #[u] T)).cell? ((⟨w.heap.size, 0, none⟩ : Addr).add j) = some x := by
  intro j x hj
  subst h
  rw [add_plain, World.cell?_alloc_new]
  cases j with
  | zero => simpa using hj
  | succ j => simp at hj
theorem own_row {w : World} {base : Nat} {v : Value} {l : List UInt8} (h : OwnB w base v l) : ∃ a cap, v = .slice a l.length cap ∧ l.length ≤ cap ∧ cap ≤ maxLen ∧ (a = none → cap = 0) ∧ RowB w a l := Kit.owns_row encB_len h
/-- 'append' of bytes to bytes of the call's own. -/
theorem append_b {w : World} {ops : Array Oper} {rest : List Oper} {o : Oper} {A : Act} {Q : Exit → Act → World → Prop} (hgd : o.guard = none) (s x : Operand)
    (ho : o.op = .call { callee := .builtin .append, args := #[s, x], argTypes := #[27, 27] })
    (base : Nat) (v : Value) (l : List UInt8) (hv : A.eval s = v) (hown : OwnB w base v l) (ad : Option Addr) (m c : Nat) (k : List UInt8) (hx : A.eval x = .slice ad m c) (hk : k.length = m) (hrow : RowB w ad k) (hnil : ad = none → m = 0 ∧ c = 0)
    (hbytes : l.length + m ≤ 150000000000000) (hbase : base ≤ w.heap.size)
    (h : ∀ v' w', OwnB w' base v' (l ++ k) → Below base w w' → wpList Try.prog ops Q rest (A.put o.dst v') w') : wpList Try.prog ops Q (o :: rest) A w := by
  obtain ⟨i0, hi, hz0, hz1, hz2⟩ := info_parts info8
  cases ad with
  | none =>
    obtain ⟨rfl, rfl⟩ := hnil rfl
    obtain rfl : k = [] := List.length_eq_zero_iff.1 hk
    exact wpList_append_own_none hgd s x _ ho base 5 i0 1 Try.underlying27 hi v l.length _ hv hown hx (h v w (by rw [List.append_nil]; exact hown) (Below.refl _ _))
  | some q =>
    refine wpList_append_own_wide _ hgd s x _ ho base 5 i0 (.int .u8 0) 1 1 Try.underlying27 hi hz0 hz1 hz2 rfl (by decide) v l.length _ hv (own_iff.1 hown) q m c (cellsB k) hx (by rw [cellsB_length, hk, Nat.mul_one]) (row_cells hrow q rfl) (cellsB_one k) (by unfold maxLen; omega) (by omega) hbase ?_
    intro v' w' h1 h2 _
    refine h v' w' (own_iff.2 (by rw [List.length_append, hk, cellsB_append]; exact h1)) ((Below.refl _ _).grown h2 hbase fun k hk => ((own_iff.1 hown).lt k hk).1)
/-- The same, with what becomes of other lists of the call's own. -/
theorem append_b2 {w : World} {ops : Array Oper} {rest : List Oper} {o : Oper} {A : Act} {Q : Exit → Act → World → Prop} (hgd : o.guard = none) (s x : Operand)
    (ho : o.op = .call { callee := .builtin .append, args := #[s, x], argTypes := #[27, 27] })
    (base : Nat) (v : Value) (l : List UInt8) (hv : A.eval s = v) (hown : OwnB w base v l) (ad : Option Addr) (m c : Nat) (k : List UInt8) (hx : A.eval x = .slice ad m c) (hk : k.length = m) (hrow : RowB w ad k) (hnil : ad = none → m = 0 ∧ c = 0)
    (hbytes : l.length + m ≤ 140737488355328) (hbase : base ≤ w.heap.size)
    (h : ∀ v' w', OwnB w' base v' (l ++ k) → w.grownBy w' v.ownBlock → (v'.ownBlock = v.ownBlock ∨ v'.ownBlock = some w.heap.size) → wpList Try.prog ops Q rest (A.put o.dst v') w') : wpList Try.prog ops Q (o :: rest) A w :=
  Two.append_apart encB_len (by decide) encB_one hgd s x _ 5 ho Try.underlying27 (.int .u8 0) 1 info8 rfl base v l hv hown ad m c k hx hk hrow hnil (by unfold maxLen; omega) (by omega) hbase h
theorem own_empty (w : World) (base : Nat) (hb : base ≤ w.heap.size) : OwnB (w.alloc (.cells #[] 5)) base (.slice (some ⟨w.heap.size, 0, none⟩) 0 0) [] :=
  own_iff.2 (World.ownsRow_made w #[] 0 hb (by unfold maxLen; omega) rfl)
theorem row_alloc {w : World} {a : Option Addr} {l : List UInt8} (h : RowB w a l) (o : Obj) : RowB (w.alloc o) a l := row_keep encB_len h (below_alloc w o)
theorem row_one (w : World) {v : Value} {b : UInt8} {T : TypeId} (h : v = .int .u8 (b.toNat : Int)) : RowB (w.alloc (.cells #[v] T)) (some ⟨w.heap.size, 0, none⟩) [b] :=
  Kit.row_new encB_len w [b] #[v] T _ rfl (by subst h; rfl)
theorem row_two (w : World) {v v' : Value} {b b' : UInt8} {T : TypeId} (h : v = .int .u8 (b.toNat : Int)) (h' : v' = .int .u8 (b'.toNat : Int)) : RowB (w.alloc (.cells #[v, v'] T)) (some ⟨w.heap.size, 0, none⟩) [b, b'] :=
  Kit.row_new encB_len w [b, b'] #[v, v'] T _ rfl (by subst h h'; rfl)
theorem be_shift (n k : Nat) : beB (k + 1) n = UInt8.ofNat (n / 2 ^ (8 * k)) :: beB k n := by
  show UInt8.ofNat (n / 256 ^ k) :: _ = _
  rw [show (256 : Nat) = 2 ^ 8 from rfl, ← Nat.pow_mul]
theorem byte_val (n k : Nat) : Value.int .u8 ((n : Int) / 2 ^ (8 * k) % 256) = .int .u8 ((UInt8.ofNat (n / 2 ^ (8 * k))).toNat : Int) := by
  rw [u8_of, Int.natCast_emod, Int.natCast_ediv, Int.natCast_pow]; rfl
/-- '[]byte("..")' of a constant. -/
theorem row_mark (w : World) (C : Array Value) (T : TypeId) (fr : Nat × Nat) (l : List UInt8) (hC : C.toList = cellsB l) : RowB (w.alloc (.cells C T fr)) (some ⟨w.heap.size, 0, none⟩) l := by
  refine .inr ⟨_, _, rfl, fun j hj i hi => ?_⟩
  have : i = 0 := by omega
  subst this
  have e : C[j]? = (cellsB l)[j]? := by rw [← hC]; simp
  rw [Nat.mul_one, Nat.zero_add, Nat.add_zero, World.cell?_alloc_mark, e]
  simp [encB, cellsB, List.getElem?_eq_getElem hj]
/-- '[]byte(s)' lies in memory. -/
theorem row_string (w : World) (s : ByteArray) (cap : Nat) (T : TypeId) (fr : Nat × Nat) : RowB (w.alloc (.cells (bytesRow s cap) T fr)) (some ⟨w.heap.size, 0, none⟩) s.data.toList := by
  refine .inr ⟨_, _, rfl, fun j hj i hi => ?_⟩
  have : i = 0 := by omega
  subst this
  rw [Nat.mul_one, Nat.zero_add, Nat.add_zero, World.cell?_alloc_mark, bytesRow_at s cap j (by simpa using hj)]
  simp [encB]
def RByte (cs : List Value) (b : UInt8) : Prop := cs = encB b
theorem cells_u8 : Try.prog.cellsOf 5 = 1 := by kernel_rfl
theorem opens_byte {w : World} : Opn.Opens Try.prog w 5 RByte :=
  Opn.Opens.mono (Opn.opens_int Try.underlying5) fun cs n ⟨h, hw⟩ => ⟨UInt8.ofNat n.toNat, by
    simp [Lit.wf, IntKind.min, IntKind.max, IntKind.signed, IntKind.bits] at hw
    subst h
    unfold RByte encB
    rw [u8_of]
    congr 2
    omega⟩
theorem opens_bytes {w : World} : Opn.Opens Try.prog w 27 (Opn.RSlice RByte 1 w) := Opn.opens_slice Try.underlying27 cells_u8 (by omega) opens_byte
/-- A slice of bytes that came in. -/
theorem bytes_arg {w : World} {a : Option Addr} {len cap : Nat} {l : List UInt8} (h : Opn.RSlice RByte 1 w [.slice a len cap] l) : l.length = len ∧ len ≤ cap ∧ cap ≤ maxLen ∧ (a = none → len = 0 ∧ cap = 0) ∧ RowB w a l := by
  obtain ⟨a', len', cap', he, hl, hc, hm, hn, hcs⟩ := h
  simp at he
  obtain ⟨rfl, rfl, rfl⟩ := he
  exact ⟨hl, hc, hm, hn, Kit.row_of_cells (fun _ _ h => h) hcs⟩
/-- One byte of the call's own is changed. -/
theorem own_set {w : World} {base g n cap : Nat} {l : List UInt8} (h : OwnB w base (.slice (some ⟨g, 0, none⟩) n cap) l) (hn : l.length = n) {i : Nat} (hi : i < n) {x : UInt8} (hx : l[i]? = some x) (b : UInt8) :
    w.cell? ⟨g, i, none⟩ = some (.int .u8 (x.toNat : Int)) ∧ w.frozen? ⟨g, i, none⟩ = false ∧
      OwnB (w.setCell ⟨g, i, none⟩ (.int .u8 (b.toNat : Int))) base (.slice (some ⟨g, 0, none⟩) n cap) (l.set i b) ∧ w.grownBy (w.setCell ⟨g, i, none⟩ (.int .u8 (b.toNat : Int))) (some g) := by
  subst hn
  have ho := own_iff.1 h
  refine ⟨?_, ho.frozenAt i, ?_, (ho.stored i _).2⟩
  · rw [ho.cellAt i (by omega)]
    simp [cellsB, List.getElem?_map, hx]
  · refine own_iff.2 ?_
    rw [List.length_set]
    have e : cellsB (l.set i b) = (cellsB l).set i (.int .u8 (b.toNat : Int)) := by unfold cellsB; rw [List.map_set]
    rw [e]
    exact (ho.stored i _).1
theorem own_row' {w : World} {base g n cap : Nat} {l : List UInt8} (h : OwnB w base (.slice (some ⟨g, 0, none⟩) n cap) l) : RowB w (some ⟨g, 0, none⟩) l := by
  obtain ⟨a', c', he, _, _, _, h6⟩ := own_row h
  injection he with e1 _ _
  subst e1
  exact h6
theorem row_below {w w' : World} {B : Nat} {a : Option Addr} {l : List UInt8} (h : RowB w a l) (hb : Below B w w') (hlt : ∀ q, a = some q → q.block < B) : RowB w' a l := by
  rcases h with h | ⟨b, off, h1, h2⟩
  · exact .inl h
  · refine .inr ⟨b, off, h1, fun j hj i hi => ?_⟩
    rw [hb.cell (p := ⟨b, off + j * 1 + i, none⟩) (hlt ⟨b, off, none⟩ h1)]
    exact h2 j hj i hi
theorem row_belowAt {w w' : World} {B g off : Nat} {l : List UInt8} (h : RowB w (some ⟨g, off, none⟩) l) (hb : Below B w w') (hlt : g < B) : RowB w' (some ⟨g, off, none⟩) l :=
  row_below h hb fun q hq => by injection hq with hq; subst hq; exact hlt
theorem own_keep {w w' : World} {base : Nat} {v : Value} {l : List UInt8} (h : OwnB w base v l) (hb : Below w.heap.size w w') : OwnB w' base v l :=
  own_iff.2 ((own_iff.1 h).kept (row := none) ⟨hb.os, hb.tape, hb.output, hb.size, fun k hk _ => hb.block k hk⟩ (by cases v.ownBlock <;> simp))
theorem xor_byte (x : UInt8) (t : Nat) (ht : t < 256) : bits .xor .u8 (x.toNat : Int) (t : Int) = ((UInt8.ofNat (x.toNat ^^^ t)).toNat : Int) := by
  have hx := x.toNat_lt
  rw [u8_xor_nat _ _ hx ht, u8_of, Nat.mod_eq_of_lt]
  exact Nat.xor_lt_two_pow (n := 8) hx ht

/-- 'string(b)'. -/
theorem conv_row {P : Program} {src dst e : TypeId} (hs : P.underlying src = some (.slice e)) (he : P.underlying e = some (.int .u8)) (hd : P.underlying dst = some .string)
    {w : World} {a : Option Addr} {len cap : Nat} {l : List UInt8} (hl : l.length = len) (hn : a = none → len = 0) (h : RowB w a l) :
    (convert src dst (.slice a len cap)).run P w = .ok (.string ⟨l.toArray⟩) w := by
  subst hl
  cases a with
  | none =>
    have : l = [] := List.length_eq_zero_iff.1 (hn rfl)
    subst this
    exact run_convert_bytes_nil w src e hs he _ _ dst hd
  | some q =>
    refine run_convert_bytes_back w src dst e q cap l hs he hd fun j hj => ?_
    rcases h with rfl | ⟨b, off, h1, h2⟩
    · simp at hj
    · simp at h1
      subst h1
      rw [add_plain]
      have := h2 j hj 0 (by omega)
      simpa [encB] using this

end Go.Proofs.Ytdgfoldobofgoaa.Oct
/- Check: sums of bits, as plain mathematics: a sum that is turned bit by bit; bits that differ within 32 of one another have unlike sums. -/
namespace Go.Proofs.Ytdgfoldobofgoaa.Chk
set_option linter.unusedVariables false

def poly : BitVec 32 := 0x04C11DB7#32

/-- Doubled, and turned where the highest bit falls out. -/
def Z (x : BitVec 32) : BitVec 32 := (x <<< 1) ^^^ (if x.msb then poly else 0#32)
theorem shl_xor (x y : BitVec 32) : (x ^^^ y) <<< 1 = (x <<< 1) ^^^ (y <<< 1) := by
  apply BitVec.eq_of_getLsbD_eq
  intro i hi
  simp only [BitVec.getLsbD_shiftLeft, BitVec.getLsbD_xor]
  by_cases h : i < 1 <;> simp [h, hi]
theorem Z_xor (x y : BitVec 32) : Z (x ^^^ y) = Z x ^^^ Z y := by
  unfold Z
  rw [shl_xor, BitVec.msb_xor]
  generalize x <<< 1 = a
  generalize y <<< 1 = b
  generalize poly = p
  apply BitVec.eq_of_getLsbD_eq
  intro i hi
  cases x.msb <;> cases y.msb <;> simp only [Bool.false_xor, Bool.true_xor, Bool.xor_false, Bool.not_true, if_true, Bool.false_eq_true, if_false, BitVec.getLsbD_xor, BitVec.getLsbD_zero] <;>
    cases a.getLsbD i <;> cases b.getLsbD i <;> cases p.getLsbD i <;> rfl
theorem Z_zero : Z 0#32 = 0#32 := by decide
theorem xor_eq_zero {x y : BitVec 32} (h : x ^^^ y = 0#32) : x = y := by
  have e : (x ^^^ y) ^^^ y = 0#32 ^^^ y := by rw [h]
  rw [BitVec.xor_assoc, BitVec.xor_self, BitVec.xor_zero, BitVec.zero_xor] at e
  exact e
theorem Z_eq_zero {d : BitVec 32} (h : Z d = 0#32) : d = 0#32 := by
  unfold Z at h
  cases hm : d.msb with
  | true =>
    rw [hm] at h
    have h0 := congrArg (fun v => v.getLsbD 0) h
    simp [poly] at h0
  | false =>
    rw [hm] at h
    simp only [Bool.false_eq_true, if_false, BitVec.xor_zero] at h
    apply BitVec.eq_of_getLsbD_eq
    intro i hi
    by_cases h31 : i = 31
    · subst h31
      have : d.getLsbD 31 = d.msb := by simp [BitVec.msb_eq_getLsbD_last]
      rw [this, hm]; simp
    · have h0 := congrArg (fun v => v.getLsbD (i + 1)) h
      have hi2 : i + 1 < 32 := by omega
      simp [hi2] at h0
      rw [BitVec.getLsbD_eq_getElem hi, h0]; simp
theorem Z_inj {x y : BitVec 32} (h : Z x = Z y) : x = y := by
  apply xor_eq_zero
  apply Z_eq_zero
  rw [Z_xor, h, BitVec.xor_self]

/-- The highest bit. -/
def hi1 (b : Bool) : BitVec 32 := if b then 0x80000000#32 else 0#32
/-- One bit. -/
def bitZ (s : BitVec 32) (b : Bool) : BitVec 32 := Z (s ^^^ hi1 b)
theorem bitZ_inj {s t : BitVec 32} {b : Bool} (h : bitZ s b = bitZ t b) : s = t := by
  have e := Z_inj h
  have : (s ^^^ hi1 b) ^^^ hi1 b = (t ^^^ hi1 b) ^^^ hi1 b := by rw [e]
  rwa [BitVec.xor_assoc, BitVec.xor_assoc, BitVec.xor_self, BitVec.xor_zero, BitVec.xor_zero] at this
def bitsZ (s : BitVec 32) (l : List Bool) : BitVec 32 := l.foldl bitZ s
theorem bitsZ_append (s : BitVec 32) (l k : List Bool) : bitsZ s (l ++ k) = bitsZ (bitsZ s l) k := by unfold bitsZ; rw [List.foldl_append]
theorem bitsZ_inj : ∀ (l : List Bool) {s t : BitVec 32}, bitsZ s l = bitsZ t l → s = t
  | [], _, _, h => h
  | b :: l, s, t, h => bitZ_inj (bitsZ_inj l h)

/-- As many steps without a bit. -/
def Zn : Nat → BitVec 32 → BitVec 32
  | 0, x => x
  | n + 1, x => Zn n (Z x)
theorem Zn_inj : ∀ (n : Nat) {x y : BitVec 32}, Zn n x = Zn n y → x = y
  | 0, _, _, h => h
  | n + 1, _, _, h => Z_inj (Zn_inj n h)
theorem Zn_xor : ∀ (n : Nat) (x y : BitVec 32), Zn n (x ^^^ y) = Zn n x ^^^ Zn n y
  | 0, _, _ => rfl
  | n + 1, x, y => by show Zn n (Z (x ^^^ y)) = _; rw [Z_xor, Zn_xor n]; rfl

/-- Bits, the first of them highest. -/
def top : List Bool → BitVec 32
  | [] => 0#32
  | b :: l => hi1 b ^^^ (top l >>> 1)
theorem top_low : ∀ (l : List Bool) (i : Nat), i + l.length < 32 → (top l).getLsbD i = false
  | [], i, _ => by simp [top]
  | b :: l, i, h => by
    have h' : i + 1 + l.length < 32 := by rw [List.length_cons] at h; omega
    have := top_low l (i + 1) h'
    have h31 : i < 31 := by rw [List.length_cons] at h; omega
    unfold top
    rw [BitVec.getLsbD_xor, BitVec.getLsbD_ushiftRight, Nat.add_comm 1 i, this]
    cases b
    · simp [hi1]
    · have e : (0x80000000#32 : BitVec 32) = 1#32 <<< 31 := by decide
      simp only [hi1, if_true, Bool.xor_false]
      rw [e, BitVec.getLsbD_shiftLeft]
      simp [h31]
theorem Z_shr {x : BitVec 32} (h : x.getLsbD 0 = false) : Z (x >>> 1) = x := by
  have hm : (x >>> 1).msb = false := by
    rw [BitVec.msb_eq_getLsbD_last, BitVec.getLsbD_ushiftRight]
    simp
  unfold Z
  rw [hm]
  simp only [Bool.false_eq_true, if_false, BitVec.xor_zero]
  apply BitVec.eq_of_getLsbD_eq
  intro i hi
  rw [BitVec.getLsbD_shiftLeft, BitVec.getLsbD_ushiftRight]
  cases i with
  | zero => simpa using h.symm
  | succ i => simp [hi, Nat.add_comm]
/-- Up to 32 bits at once. -/
theorem bitsZ_top : ∀ (l : List Bool) (s : BitVec 32), l.length ≤ 32 → bitsZ s l = Zn l.length (s ^^^ top l)
  | [], s, _ => by simp [bitsZ, Zn, top]
  | b :: l, s, h => by
    have hl : l.length ≤ 31 := by rw [List.length_cons] at h; omega
    show bitsZ (bitZ s b) l = Zn l.length (Z (s ^^^ (hi1 b ^^^ (top l >>> 1))))
    rw [bitsZ_top l _ (by omega), ← BitVec.xor_assoc, Z_xor, Z_shr (top_low l 0 (by omega))]
    rfl
theorem top_inj : ∀ (l k : List Bool), l.length = k.length → l.length ≤ 32 → top l = top k → l = k
  | [], [], _, _, _ => rfl
  | b :: l, c :: k, hl, h32, h => by
    simp only [List.length_cons, Nat.add_right_cancel_iff] at hl
    have h31 : l.length ≤ 31 := by rw [List.length_cons] at h32; omega
    have hb : b = c := by
      have e := congrArg (fun v => v.getLsbD 31) h
      simp only [top, BitVec.getLsbD_xor, BitVec.getLsbD_ushiftRight] at e
      cases b <;> cases c <;> simp [hi1] at e <;> rfl
    subst hb
    have e : top l >>> 1 = top k >>> 1 := by
      have := congrArg (fun v => hi1 b ^^^ v) h
      simp only [top] at this
      rwa [← BitVec.xor_assoc, ← BitVec.xor_assoc, BitVec.xor_self, BitVec.zero_xor, BitVec.zero_xor] at this
    have e2 : top l = top k := by
      rw [← Z_shr (top_low l 0 (by omega)), ← Z_shr (top_low k 0 (by omega)), e]
    rw [top_inj l k hl (by omega) e2]

/-- Bits that differ within 32 of one another have unlike sums. -/
theorem burst (s : BitVec 32) (x y : List Bool) (k : Nat) (hl : x.length = y.length) (h : ∀ j, x[j]? ≠ y[j]? → k ≤ j ∧ j < k + 32) : bitsZ s x = bitsZ s y ↔ x = y := by
  constructor
  · intro he
    have e1 : x.take k = y.take k := by
      apply List.ext_getElem?
      intro j
      rw [List.getElem?_take, List.getElem?_take]
      by_cases hj : j < k
      · rw [if_pos hj, if_pos hj]
        by_cases hq : x[j]? = y[j]?
        · exact hq
        · have := (h j hq).1; omega
      · rw [if_neg hj, if_neg hj]
    have e3 : (x.drop k).drop 32 = (y.drop k).drop 32 := by
      apply List.ext_getElem?
      intro j
      rw [List.getElem?_drop, List.getElem?_drop, List.getElem?_drop, List.getElem?_drop]
      by_cases hq : x[k + (32 + j)]? = y[k + (32 + j)]?
      · exact hq
      · have := (h _ hq).2; omega
    have d : ∀ z : List Bool, bitsZ s z = bitsZ (bitsZ (bitsZ s (z.take k)) ((z.drop k).take 32)) ((z.drop k).drop 32) := by
      intro z
      rw [← bitsZ_append, ← bitsZ_append, List.take_append_drop, List.take_append_drop]
    rw [d x, d y, e1, e3] at he
    have he2 := bitsZ_inj _ he
    have hlx : ((x.drop k).take 32).length ≤ 32 := by rw [List.length_take]; omega
    have hly : ((y.drop k).take 32).length ≤ 32 := by rw [List.length_take]; omega
    have hlm : ((x.drop k).take 32).length = ((y.drop k).take 32).length := by rw [List.length_take, List.length_take, List.length_drop, List.length_drop, hl]
    rw [bitsZ_top _ _ hlx, bitsZ_top _ _ hly, hlm] at he2
    have he3 := Zn_inj _ he2
    have he4 : top ((x.drop k).take 32) = top ((y.drop k).take 32) := by
      have := congrArg (fun v => bitsZ s (y.take k) ^^^ v) he3
      rwa [← BitVec.xor_assoc, ← BitVec.xor_assoc, BitVec.xor_self, BitVec.zero_xor, BitVec.zero_xor] at this
    have e2 := top_inj _ _ hlm hlx he4
    rw [← List.take_append_drop k x, ← List.take_append_drop k y, ← List.take_append_drop 32 (x.drop k), ← List.take_append_drop 32 (y.drop k), e1, e2, e3]
  · intro e; rw [e]

end Go.Proofs.Ytdgfoldobofgoaa.Chk
/- Check: sums of bytes: bit by bit, and a byte at once; bits that are turned. -/
namespace Go.Proofs.Ytdgfoldobofgoaa.Chk
set_option linter.unusedVariables false

/-- A byte's bits, the highest first. -/
def bitsOf (b : UInt8) : List Bool := [b.toNat.testBit 7, b.toNat.testBit 6, b.toNat.testBit 5, b.toNat.testBit 4, b.toNat.testBit 3, b.toNat.testBit 2, b.toNat.testBit 1, b.toNat.testBit 0]
theorem bitsOf_length (b : UInt8) : (bitsOf b).length = 8 := rfl
theorem bitsOf_at (b : UInt8) (r : Nat) (h : r < 8) : (bitsOf b)[r]? = some (b.toNat.testBit (7 - r)) := by
  match r, h with
  | 0, _ => rfl
  | 1, _ => rfl
  | 2, _ => rfl
  | 3, _ => rfl
  | 4, _ => rfl
  | 5, _ => rfl
  | 6, _ => rfl
  | 7, _ => rfl
def bits (l : List UInt8) : List Bool := l.flatMap bitsOf
theorem bits_append (l k : List UInt8) : bits (l ++ k) = bits l ++ bits k := by simp [bits]
theorem bits_length : ∀ l : List UInt8, (bits l).length = 8 * l.length
  | [] => rfl
  | b :: l => by
    show (bitsOf b ++ bits l).length = _
    rw [List.length_append, bits_length l, bitsOf_length, List.length_cons]; omega
theorem bits_at : ∀ (l : List UInt8) (q r : Nat), r < 8 → (bits l)[8 * q + r]? = (l[q]?).bind fun b => (bitsOf b)[r]?
  | [], q, r, h => by simp [bits]
  | b :: l, 0, r, h => by
    show (bitsOf b ++ bits l)[8 * 0 + r]? = _
    rw [Nat.mul_zero, Nat.zero_add, List.getElem?_append_left (by rw [bitsOf_length]; exact h)]
    rfl
  | b :: l, q + 1, r, h => by
    show (bitsOf b ++ bits l)[8 * (q + 1) + r]? = _
    rw [List.getElem?_append_right (by rw [bitsOf_length]; omega), bitsOf_length, show 8 * (q + 1) + r - 8 = 8 * q + r by omega, bits_at l q r h]
    rfl
theorem bitsOf_inj {b c : UInt8} (h : bitsOf b = bitsOf c) : b = c := by
  apply UInt8.toNat.inj
  have hb := b.toNat_lt
  have hc := c.toNat_lt
  apply Nat.eq_of_testBit_eq
  intro i
  by_cases hi : i < 8
  · have h1 := bitsOf_at b (7 - i) (by omega)
    have h2 := bitsOf_at c (7 - i) (by omega)
    rw [h, h2, show 7 - (7 - i) = i by omega] at h1
    injection h1 with h1
    exact h1.symm
  · have hp : 2 ^ 8 ≤ 2 ^ i := Nat.pow_le_pow_right (by decide) (by omega)
    rw [Nat.testBit_lt_two_pow (by omega), Nat.testBit_lt_two_pow (by omega)]
theorem bits_inj : ∀ (l k : List UInt8), bits l = bits k → l = k
  | [], [], _ => rfl
  | [], c :: k, h => by have := congrArg List.length h; rw [bits_length, bits_length] at this; simp at this
  | b :: l, [], h => by have := congrArg List.length h; rw [bits_length, bits_length] at this; simp at this
  | b :: l, c :: k, h => by
    have h' : bitsOf b ++ bits l = bitsOf c ++ bits k := h
    have h2 := List.append_inj h' (by rw [bitsOf_length, bitsOf_length])
    rw [bitsOf_inj h2.1, bits_inj l k h2.2]

/-- The sum of bytes, from a sum on. -/
def crc (s : BitVec 32) (l : List UInt8) : BitVec 32 := bitsZ s (bits l)
theorem crc_append (s : BitVec 32) (l k : List UInt8) : crc s (l ++ k) = crc (crc s l) k := by unfold crc; rw [bits_append, bitsZ_append]
theorem crc_nil (s : BitVec 32) : crc s [] = s := rfl
theorem crc_snoc (s : BitVec 32) (l : List UInt8) (b : UInt8) : crc s (l ++ [b]) = bitsZ (crc s l) (bitsOf b) := by
  rw [crc_append]
  show bitsZ _ (bitsOf b ++ []) = _
  rw [List.append_nil]

/-- Bytes that differ within 32 bits of one another. -/
theorem crc_burst (s : BitVec 32) (x y : List UInt8) (k : Nat) (hl : x.length = y.length) (h : ∀ j, (bits x)[j]? ≠ (bits y)[j]? → k ≤ j ∧ j < k + 32) : crc s x = crc s y ↔ x = y := by
  unfold crc
  rw [burst s (bits x) (bits y) k (by rw [bits_length, bits_length, hl]) h]
  exact ⟨bits_inj x y, fun e => by rw [e]⟩

/-- Four bytes behind any others. -/
theorem crc_four (s : BitVec 32) (x m n : List UInt8) (hm : m.length = 4) (hn : n.length = 4) : crc s (x ++ m) = crc s (x ++ n) ↔ m = n := by
  rw [crc_burst s (x ++ m) (x ++ n) (8 * x.length) (by rw [List.length_append, List.length_append, hm, hn])]
  · exact ⟨fun e => List.append_cancel_left e, fun e => by rw [e]⟩
  · intro j hj
    rw [bits_append, bits_append] at hj
    by_cases h1 : j < 8 * x.length
    · rw [List.getElem?_append_left (by rw [bits_length]; exact h1), List.getElem?_append_left (by rw [bits_length]; exact h1)] at hj
      exact absurd rfl hj
    · refine ⟨by omega, ?_⟩
      rcases Nat.lt_or_ge j (8 * x.length + 32) with h2 | h2
      · exact h2
      · rw [List.getElem?_eq_none (by rw [List.length_append, bits_length, bits_length, hm]; omega), List.getElem?_eq_none (by rw [List.length_append, bits_length, bits_length, hn]; omega)] at hj
        exact absurd rfl hj

/-! ### As numbers -/

def polyN : Nat := 79764919
/-- One bit, as numbers. -/
def bitN (s c : Nat) : Nat := if s / 2147483648 = c then s * 2 % 4294967296 else (s * 2 % 4294967296) ^^^ polyN
theorem toNat_shl1 (x : BitVec 32) : (x <<< 1).toNat = x.toNat * 2 % 4294967296 := by
  rw [BitVec.toNat_shiftLeft, Nat.shiftLeft_eq]
theorem msb_div (x : BitVec 32) : x.msb = decide (x.toNat / 2147483648 = 1) := by
  have h := x.isLt
  rw [BitVec.msb_eq_decide, decide_eq_decide]
  omega
theorem hi1_shl (b : Bool) : hi1 b <<< 1 = 0#32 := by cases b <;> decide
theorem hi1_msb (b : Bool) : (hi1 b).msb = b := by cases b <;> decide
theorem bitZ_toNat (s : BitVec 32) (b : Bool) : (bitZ s b).toNat = bitN s.toNat b.toNat := by
  have h := s.isLt
  unfold bitZ Z bitN
  rw [shl_xor, hi1_shl, BitVec.xor_zero, BitVec.msb_xor, hi1_msb, msb_div, BitVec.toNat_xor, toNat_shl1]
  have e : poly.toNat = polyN := by decide
  by_cases h1 : s.toNat / 2147483648 = 1
  · cases b
    · simp [h1, e]
    · simp [h1]
  · have h0 : s.toNat / 2147483648 = 0 := by omega
    cases b
    · simp [h0]
    · simp [h0, e]

/-- A byte at once: what falls out picks one of 256 sums. -/
theorem Zn_shl : ∀ (n : Nat) (x : BitVec 32), (∀ i, 32 ≤ i + n → x.getLsbD i = false) → Zn n x = x <<< n
  | 0, x, _ => by simp [Zn]
  | n + 1, x, h => by
    have hm : x.msb = false := by rw [BitVec.msb_eq_getLsbD_last]; exact h 31 (by omega)
    have hz : Z x = x <<< 1 := by
      unfold Z; rw [hm]; simp
    show Zn n (Z x) = _
    rw [hz, Zn_shl n]
    · rw [Nat.add_comm, BitVec.shiftLeft_add]
    · intro i hi
      rw [BitVec.getLsbD_shiftLeft]
      by_cases h0 : i < 1
      · simp [h0]
      · rw [h (i - 1) (by omega)]; simp

def wide (b : UInt8) : BitVec 32 := BitVec.ofNat 32 b.toNat
theorem top_bitsOf (b : UInt8) : top (bitsOf b) = wide b <<< 24 := by
  have : ∀ n : Fin 256, top (bitsOf (UInt8.ofNat n.val)) = BitVec.ofNat 32 n.val <<< 24 := by decide +kernel
  have h := this ⟨b.toNat, b.toNat_lt⟩
  simp only at h
  rw [show UInt8.ofNat b.toNat = b from by simp] at h
  exact h
theorem byte_step (s : BitVec 32) (b : UInt8) : bitsZ s (bitsOf b) = (s <<< 8) ^^^ Zn 8 (((s >>> 24) ^^^ wide b) <<< 24) := by
  rw [bitsZ_top _ _ (by rw [bitsOf_length]; omega), bitsOf_length, top_bitsOf]
  have e : s ^^^ (wide b <<< 24) = (((s >>> 24) ^^^ wide b) <<< 24) ^^^ (s &&& 0xFFFFFF#32) := by
    apply BitVec.eq_of_getLsbD_eq
    intro i hi
    have hc : (0xFFFFFF#32 : BitVec 32).getLsbD i = decide (i < 24) := by
      have : ∀ i : Fin 32, (0xFFFFFF#32 : BitVec 32).getLsbD i.val = decide (i.val < 24) := by decide
      exact this ⟨i, hi⟩
    simp only [BitVec.getLsbD_xor, BitVec.getLsbD_shiftLeft, BitVec.getLsbD_ushiftRight, BitVec.getLsbD_and, hc]
    by_cases h : i < 24
    · simp [h]
    · simp [h, hi, show 24 + (i - 24) = i by omega]
  have e2 : Zn 8 (s &&& 0xFFFFFF#32) = s <<< 8 := by
    have hc : ∀ i, i < 32 → (0xFFFFFF#32 : BitVec 32).getLsbD i = decide (i < 24) := by
      intro i hi
      have : ∀ i : Fin 32, (0xFFFFFF#32 : BitVec 32).getLsbD i.val = decide (i.val < 24) := by decide
      exact this ⟨i, hi⟩
    rw [Zn_shl 8]
    · apply BitVec.eq_of_getLsbD_eq
      intro i hi
      rw [BitVec.getLsbD_shiftLeft, BitVec.getLsbD_shiftLeft, BitVec.getLsbD_and, hc _ (by omega)]
      by_cases h8 : i < 8
      · simp [h8]
      · simp [h8, show i - 8 < 24 by omega]
    · intro i hi
      rw [BitVec.getLsbD_and]
      by_cases h32 : i < 32
      · rw [hc i h32, decide_eq_false (by omega), Bool.and_false]
      · rw [BitVec.getLsbD_of_ge _ _ (by omega)]; rfl
  rw [e, Zn_xor, e2, BitVec.xor_comm]

end Go.Proofs.Ytdgfoldobofgoaa.Chk
/- Frame: records in sectors, as plain data. -/
namespace Go.Proofs.Ytdgfoldobofgoaa.Frm
open Oct
open Chk
set_option linter.unusedVariables false

abbrev Bs := List UInt8
theorem getD_is {α : Type} {l : List α} {i : Nat} {d x : α} (h : l[i]? = some x) : l.getD i d = x := by simp [List.getD, h]
theorem getD_past {α : Type} {l : List α} {i : Nat} {d : α} (h : l.length ≤ i) : l.getD i d = d := by simp [List.getD, List.getElem?_eq_none h]

/-- How many sectors a record of n bytes has. -/
def secs (n : Nat) : Nat := (n + 29) / 24
def secsI (n : Int) : Nat := if n < 0 ∨ 65535 < n then 0 else secs n.toNat
theorem secs_pos (n : Nat) : 0 < secs n := by unfold secs; omega
theorem secs_room (n : Nat) : n + 6 ≤ 24 * secs n := by unfold secs; omega
theorem secs_least (n k : Nat) (h : 1 ≤ k) (h2 : k < secs n) : 24 * k < n + 6 := by unfold secs at h2; omega

/-- The first i bytes of data, the stamp behind each 24. -/
def packN (d mk : Bs) : Nat → Bs
  | 0 => []
  | i + 1 => packN d mk i ++ [d.getD i 0] ++ (if i % 24 = 23 then mk else [])
theorem packN_succ (d mk : Bs) (i : Nat) : packN d mk (i + 1) = packN d mk i ++ [d.getD i 0] ++ (if i % 24 = 23 then mk else []) := rfl
theorem packN_le {d mk : Bs} (hm : mk.length = 8) : ∀ i, (packN d mk i).length ≤ 9 * i
  | 0 => by simp [packN]
  | i + 1 => by
    have := packN_le (d := d) hm i
    rw [packN_succ, List.length_append, List.length_append]
    split <;> simp only [List.length_cons, List.length_nil] <;> omega
/-- 24 bytes of the data. -/
def chunk (d : Bs) (k : Nat) : Bs := (List.range 24).map fun j => d.getD (24 * k + j) 0
theorem chunk_length (d : Bs) (k : Nat) : (chunk d k).length = 24 := by simp [chunk]
theorem packN_some (d mk : Bs) (k : Nat) : ∀ j, j ≤ 23 → packN d mk (24 * k + j) = packN d mk (24 * k) ++ (List.range j).map fun i => d.getD (24 * k + i) 0
  | 0, _ => by simp
  | j + 1, h => by
    rw [← Nat.add_assoc, packN_succ, packN_some d mk k j (by omega), if_neg (by omega), List.append_nil, List.range_succ, List.map_append, List.append_assoc]; rfl
theorem packN_sector (d mk : Bs) (k : Nat) : packN d mk (24 * (k + 1)) = packN d mk (24 * k) ++ chunk d k ++ mk := by
  rw [show 24 * (k + 1) = (24 * k + 23) + 1 by omega, packN_succ, packN_some d mk k 23 (by omega), if_pos (by omega)]
  unfold chunk
  rw [List.range_succ (n := 23), List.map_append]
  simp only [List.append_assoc, List.map_cons, List.map_nil]
theorem packN_length {d mk : Bs} (hm : mk.length = 8) : ∀ k, (packN d mk (24 * k)).length = 32 * k
  | 0 => rfl
  | k + 1 => by rw [packN_sector, List.length_append, List.length_append, packN_length hm k, chunk_length, hm]; omega
theorem packN_more (d mk : Bs) (k : Nat) : ∀ j, ∃ t, packN d mk (24 * (k + j)) = packN d mk (24 * k) ++ t
  | 0 => ⟨[], by simp⟩
  | j + 1 => by
    obtain ⟨t, ht⟩ := packN_more d mk k j
    rw [← Nat.add_assoc, packN_sector, ht, List.append_assoc, List.append_assoc]
    exact ⟨_, rfl⟩
/-- Sector q: its bytes. -/
theorem packN_data {d mk : Bs} (hm : mk.length = 8) {k q r : Nat} (hq : q < k) (hr : r < 24) : (packN d mk (24 * k))[32 * q + r]? = some (d.getD (24 * q + r) 0) := by
  obtain ⟨t, ht⟩ := packN_more d mk (q + 1) (k - (q + 1))
  rw [show q + 1 + (k - (q + 1)) = k by omega] at ht
  rw [ht, packN_sector, List.append_assoc, List.append_assoc, List.getElem?_append_right (by rw [packN_length hm]; omega), packN_length hm, show 32 * q + r - 32 * q = r by omega, List.getElem?_append_left (by rw [chunk_length]; exact hr)]
  simp [chunk, hr]
theorem packN_stamp {d mk : Bs} (hm : mk.length = 8) {k q r : Nat} (hq : q < k) (hr : r < 8) : (packN d mk (24 * k))[32 * q + 24 + r]? = mk[r]? := by
  obtain ⟨t, ht⟩ := packN_more d mk (q + 1) (k - (q + 1))
  rw [show q + 1 + (k - (q + 1)) = k by omega] at ht
  rw [ht, packN_sector, List.append_assoc, List.append_assoc, List.getElem?_append_right (by rw [packN_length hm]; omega), packN_length hm, show 32 * q + 24 + r - 32 * q = 24 + r by omega, List.getElem?_append_right (by rw [chunk_length]; omega), chunk_length, show 24 + r - 24 = r by omega, List.getElem?_append_left (by omega)]

def mark (e q : Nat) : Bs := beB 4 e ++ beB 4 q
theorem mark_length (e q : Nat) : (mark e q).length = 8 := by simp [mark, beB_length]
/-- The sum of a record. -/
def sumR (e q : Nat) (b : Bs) : Nat := (crc 0xffffffff#32 (mark e q ++ beB 2 b.length ++ b)).toNat
def dataB (e q : Nat) (b : Bs) : Bs := beB 2 b.length ++ beB 4 (sumR e q b) ++ b
theorem dataB_length (e q : Nat) (b : Bs) : (dataB e q b).length = b.length + 6 := by simp [dataB, beB_length]; omega
def packB (e q : Nat) (b : Bs) : Bs := packN (dataB e q b) (mark e q) (24 * secs b.length)
theorem packB_length (e q : Nat) (b : Bs) : (packB e q b).length = 32 * secs b.length := packN_length (mark_length e q) _

def two (s : Bs) : Nat := 256 * (s.getD 0 0).toNat + (s.getD 1 0).toNat
def numK (s : Bs) (o : Nat) : Nat → Nat
  | 0 => 0
  | k + 1 => numK s o k * 256 + (s.getD (o + k) 0).toNat
def bodyB (s : Bs) (n : Nat) : Bs := (List.range n).map fun i => s.getD ((6 + i) / 24 * 32 + (6 + i) % 24) 0
theorem bodyB_length (s : Bs) (n : Nat) : (bodyB s n).length = n := by simp [bodyB]
theorem bodyB_succ (s : Bs) (n : Nat) : bodyB s (n + 1) = bodyB s n ++ [s.getD ((6 + n) / 24 * 32 + (6 + n) % 24) 0] := by unfold bodyB; rw [List.range_succ, List.map_append]; rfl
/-- The record with which s begins: epoch, number, bytes, sectors. -/
def unpackB (s : Bs) : Option (Nat × Nat × Bs × Nat) :=
  if s.length < 32 then none else if s.length < 32 * secs (two s) then none else
    if packB (numK s 24 4) (numK s 28 4) (bodyB s (two s)) = s.take (32 * secs (two s)) then some (numK s 24 4, numK s 28 4, bodyB s (two s), secs (two s)) else none
theorem two_lt (s : Bs) : two s < 65536 := by unfold two; have := (s.getD 0 0).toNat_lt; have := (s.getD 1 0).toNat_lt; omega
theorem numK_lt (s : Bs) (o : Nat) : ∀ k, numK s o k < 256 ^ k
  | 0 => by simp [numK]
  | k + 1 => by
    have := numK_lt s o k
    have := (s.getD (o + k) 0).toNat_lt
    simp only [numK, Nat.pow_succ]
    omega

theorem beB_at : ∀ (k n r : Nat), r < k → (beB k n)[r]? = some (UInt8.ofNat (n / 256 ^ (k - 1 - r)))
  | 0, n, r, h => by omega
  | k + 1, n, 0, h => by simp [beB]
  | k + 1, n, r + 1, h => by
    show (beB k n)[r]? = _
    rw [beB_at k n r (by omega)]
    congr 4; omega
theorem getD_left {l : Bs} {m : Bs} {i : Nat} (h : i < l.length) : (l ++ m).getD i 0 = l.getD i 0 := by simp [List.getD, List.getElem?_append_left h]
theorem pack_data {e q : Nat} {b rest : Bs} {i : Nat} (hi : i < b.length + 6) : (packB e q b ++ rest).getD (i / 24 * 32 + i % 24) 0 = (dataB e q b).getD i 0 := by
  have hk := secs_room b.length
  have hq : i / 24 < secs b.length := by omega
  have := packN_data (d := dataB e q b) (mark_length e q) hq (Nat.mod_lt i (by omega : 0 < 24))
  rw [getD_left (by rw [packB_length]; omega)]
  unfold packB
  rw [show i / 24 * 32 + i % 24 = 32 * (i / 24) + i % 24 by omega, getD_is this, show 24 * (i / 24) + i % 24 = i by omega]
theorem data_two {e q : Nat} {b : Bs} {i : Nat} (hi : i < 2) : (dataB e q b).getD i 0 = UInt8.ofNat (b.length / 256 ^ (1 - i)) := by
  unfold dataB
  rw [List.append_assoc, getD_left (by rw [beB_length]; exact hi)]
  exact getD_is (by rw [beB_at 2 b.length i hi])
theorem two_pack {e q : Nat} {b rest : Bs} (hb : b.length < 65536) : two (packB e q b ++ rest) = b.length := by
  unfold two
  have h0 := pack_data (e := e) (q := q) (b := b) (rest := rest) (i := 0) (by omega)
  have h1 := pack_data (e := e) (q := q) (b := b) (rest := rest) (i := 1) (by omega)
  simp only [Nat.zero_div, Nat.zero_mul, Nat.zero_mod, Nat.add_zero] at h0
  simp only [show 1 / 24 * 32 + 1 % 24 = 1 from rfl] at h1
  rw [h0, h1, data_two (by omega), data_two (by omega), u8_of, u8_of]
  simp
  omega
theorem body_pack {e q : Nat} {b rest : Bs} : bodyB (packB e q b ++ rest) b.length = b := by
  apply List.ext_getElem?
  intro i
  by_cases hi : i < b.length
  · unfold bodyB
    rw [List.getElem?_map, List.getElem?_range hi, Option.map_some, pack_data (by omega)]
    unfold dataB
    rw [List.getD, List.getElem?_append_right (by rw [List.length_append, beB_length, beB_length]; omega)]
    simp only [List.length_append, beB_length]
    rw [show 6 + i - (2 + 4) = i by omega, List.getElem?_eq_getElem hi, Option.getD_some]
  · rw [List.getElem?_eq_none (by rw [bodyB_length]; omega), List.getElem?_eq_none (by omega)]
theorem stamp_at {e q : Nat} {b rest : Bs} {r : Nat} (hr : r < 8) : (packB e q b ++ rest).getD (24 + r) 0 = (mark e q).getD r 0 := by
  have h1 := secs_pos b.length
  have := packN_stamp (d := dataB e q b) (mark_length e q) (k := secs b.length) (q := 0) h1 hr
  rw [Nat.mul_zero, Nat.zero_add] at this
  rw [getD_left (by rw [packB_length]; omega), List.getD, List.getD, ← this]; rfl
theorem four_be (s : Bs) (o n : Nat) (hn : n < 4294967296) (h : ∀ r, r < 4 → s.getD (o + r) 0 = UInt8.ofNat (n / 256 ^ (3 - r))) : numK s o 4 = n := by
  have h0 := h 0 (by omega)
  have h1 := h 1 (by omega)
  have h2 := h 2 (by omega)
  have h3 := h 3 (by omega)
  simp only [numK]
  rw [h0, h1, h2, h3, u8_of, u8_of, u8_of, u8_of]
  simp
  omega
theorem epoch_pack {e q : Nat} {b rest : Bs} (he : e < 4294967296) : numK (packB e q b ++ rest) 24 4 = e :=
  four_be _ 24 e he fun r hr => by
    rw [stamp_at (by omega)]
    unfold mark
    rw [getD_left (by rw [beB_length]; exact hr)]
    exact getD_is (beB_at 4 e r hr)
theorem seq_pack {e q : Nat} {b rest : Bs} (hq : q < 4294967296) : numK (packB e q b ++ rest) 28 4 = q :=
  four_be _ 28 q hq fun r hr => by
    rw [show 28 + r = 24 + (4 + r) by omega, stamp_at (by omega)]
    unfold mark
    rw [List.getD, List.getElem?_append_right (by rw [beB_length]; omega), beB_length, show 4 + r - 4 = r by omega, beB_at 4 q r hr]; rfl
/-- A record comes back of its sectors, whatever lies behind. -/
theorem unpack_pack {e q : Nat} {b : Bs} (rest : Bs) (he : e < 4294967296) (hq : q < 4294967296) (hb : b.length < 65536) : unpackB (packB e q b ++ rest) = some (e, q, b, secs b.length) := by
  have hl := packB_length e q b
  have h1 := secs_pos b.length
  unfold unpackB
  rw [two_pack hb, epoch_pack he, seq_pack hq, body_pack, if_neg (by rw [List.length_append]; omega), if_neg (by rw [List.length_append]; omega), if_pos (by rw [List.take_append_of_le_length (by omega), List.take_of_length_le (by omega)])]
/-- Cut off it does not. -/
theorem unpack_cut {e q : Nat} {b : Bs} {m : Nat} (hb : b.length < 65536) (hm : m < 32 * secs b.length) : unpackB ((packB e q b).take m) = none := by
  have hl := packB_length e q b
  unfold unpackB
  by_cases h : m < 32
  · rw [if_pos (by rw [List.length_take]; omega)]
  · have h2 : two ((packB e q b).take m) = b.length := by
      have := two_pack (e := e) (q := q) (b := b) (rest := []) hb
      rw [List.append_nil] at this
      rw [← this]
      unfold two
      simp only [List.getD, List.getElem?_take]
      rw [if_pos (by omega), if_pos (by omega)]
    rw [h2, if_neg (by rw [List.length_take]; omega), if_pos (by rw [List.length_take]; omega)]
/-- What comes back is what s begins with. -/
theorem unpack_some {s : Bs} {e q k : Nat} {b : Bs} (h : unpackB s = some (e, q, b, k)) : e < 4294967296 ∧ q < 4294967296 ∧ b.length < 65536 ∧ k = secs b.length ∧ 32 * k ≤ s.length ∧ packB e q b = s.take (32 * k) := by
  unfold unpackB at h
  split at h
  · cases h
  · split at h
    · cases h
    · split at h
      · rename_i h3
        injection h with h
        injection h with h4 h
        injection h with h5 h
        injection h with h6 h7
        subst h4 h5 h6 h7
        have e1 := numK_lt s 24 4
        have e2 := numK_lt s 28 4
        refine ⟨by simpa using e1, by simpa using e2, by rw [bodyB_length]; exact two_lt s, by rw [bodyB_length], by omega, h3⟩
      · cases h
theorem zeros_none : unpackB (List.replicate 64 0) = none := by decide +kernel
end Go.Proofs.Ytdgfoldobofgoaa.Frm
/- Disk: what a disk is, as plain data: sectors for good, sectors as they are, which are cached, in which order; and a log of what was written. -/
namespace Go.Proofs.Ytdgfoldobofgoaa.Dsk
set_option linter.unusedVariables false

abbrev Sec := List UInt8

theorem snocRec {α : Type} {motive : List α → Prop} (nil : motive []) (snoc : ∀ l x, motive l → motive (l ++ [x])) (l : List α) : motive l := by
  have key : ∀ n (l : List α), l.length = n → motive l := by
    intro n
    induction n with
    | zero => intro l h; rw [List.length_eq_zero_iff.1 h]; exact nil
    | succ n ih =>
      intro l h
      rcases List.eq_nil_or_concat l with rfl | ⟨l', x, rfl⟩
      · exact nil
      · rw [List.concat_eq_append] at h ⊢
        exact snoc l' x (ih l' (by simpa using h))
  exact key _ l rfl
theorem getD_at {α : Type} {l : List α} {i : Nat} {d : α} (h : i < l.length) : l.getD i d = l[i] := by simp [List.getD, h]
theorem getD_mem {α : Type} {l : List α} {i : Nat} {d : α} (h : i < l.length) : l.getD i d ∈ l := by rw [getD_at h]; exact List.getElem_mem _

/-- What is written last. -/
def logNow (g : List Sec) (log : List (Nat × Sec)) : List Sec := log.foldl (fun g x => g.set x.1 x.2) g
/-- Which sectors are cached, as each was first. -/
def logOrd (log : List (Nat × Sec)) : List Nat := log.foldl (fun o x => if x.1 ∈ o then o else o ++ [x.1]) []
theorem logNow_snoc (g : List Sec) (log : List (Nat × Sec)) (x : Nat × Sec) : logNow g (log ++ [x]) = (logNow g log).set x.1 x.2 := by unfold logNow; rw [List.foldl_append]; rfl
theorem logOrd_snoc (log : List (Nat × Sec)) (x : Nat × Sec) : logOrd (log ++ [x]) = if x.1 ∈ logOrd log then logOrd log else logOrd log ++ [x.1] := by unfold logOrd; rw [List.foldl_append]; rfl
theorem logNow_length (g : List Sec) (log : List (Nat × Sec)) : (logNow g log).length = g.length := by
  induction log using snocRec with
  | nil => rfl
  | snoc l x ih => rw [logNow_snoc, List.length_set, ih]
theorem mem_logOrd (log : List (Nat × Sec)) (i : Nat) : i ∈ logOrd log ↔ ∃ x ∈ log, x.1 = i := by
  induction log using snocRec with
  | nil => simp [logOrd]
  | snoc l x ih =>
    rw [logOrd_snoc]
    by_cases h : x.1 ∈ logOrd l
    · rw [if_pos h, ih]
      constructor
      · rintro ⟨y, hy, e⟩; exact ⟨y, List.mem_append_left _ hy, e⟩
      · rintro ⟨y, hy, e⟩
        rcases List.mem_append.1 hy with hy | hy
        · exact ⟨y, hy, e⟩
        · simp at hy; subst hy; subst e; exact ih.1 h
    · rw [if_neg h, List.mem_append, ih]
      constructor
      · rintro (⟨y, hy, e⟩ | hy)
        · exact ⟨y, List.mem_append_left _ hy, e⟩
        · simp at hy; exact ⟨x, by simp, hy.symm⟩
      · rintro ⟨y, hy, e⟩
        rcases List.mem_append.1 hy with hy | hy
        · exact .inl ⟨y, hy, e⟩
        · simp at hy; subst hy; exact .inr (by simp [e])
theorem logOrd_nodup (log : List (Nat × Sec)) : (logOrd log).Nodup := by
  induction log using snocRec with
  | nil => simp [logOrd]
  | snoc l x ih =>
    rw [logOrd_snoc]
    split
    · exact ih
    · rename_i h
      rw [List.nodup_append]
      exact ⟨ih, by simp, by intro a ha b hb; simp at hb; subst hb; intro e; exact h (e ▸ ha)⟩
theorem logNow_other (g : List Sec) (log : List (Nat × Sec)) (i : Nat) (h : i ∉ logOrd log) : (logNow g log)[i]? = g[i]? := by
  induction log using snocRec with
  | nil => rfl
  | snoc l x ih =>
    have hx : x.1 ≠ i := fun e => h ((mem_logOrd _ _).2 ⟨x, by simp, e⟩)
    have hl : i ∉ logOrd l := fun hm => h ((mem_logOrd _ _).2 (by obtain ⟨y, hy, e⟩ := (mem_logOrd _ _).1 hm; exact ⟨y, List.mem_append_left _ hy, e⟩))
    rw [logNow_snoc, List.getElem?_set_ne hx, ih hl]
/-- What was written there does not hang on what was there. -/
theorem logNow_same (g g' : List Sec) (hg : g.length = g'.length) (log : List (Nat × Sec)) (i : Nat) (h : i ∈ logOrd log) : (logNow g log)[i]? = (logNow g' log)[i]? := by
  induction log using snocRec with
  | nil => simp [logOrd] at h
  | snoc l x ih =>
    rw [logNow_snoc, logNow_snoc]
    by_cases hx : x.1 = i
    · subst hx
      rw [List.getElem?_set, List.getElem?_set, logNow_length, logNow_length, hg, if_pos rfl, if_pos rfl]
    · rw [List.getElem?_set_ne hx, List.getElem?_set_ne hx]
      refine ih ?_
      obtain ⟨y, hy, e⟩ := (mem_logOrd _ _).1 h
      rcases List.mem_append.1 hy with hy | hy
      · exact (mem_logOrd _ _).2 ⟨y, hy, e⟩
      · simp at hy; subst hy; exact absurd e hx

/-- A disk. -/
structure DS where
  good : List Sec
  now : List Sec
  order : List Nat
  fuse : Int

def burnt (f : Int) : Int := if 0 < f then f - 1 else f
def inR (i : Int) (n : Nat) : Prop := 0 ≤ i ∧ i < n
instance (i : Int) (n : Nat) : Decidable (inR i n) := by unfold inR; exact inferInstance

def DS.write (s : DS) (i : Int) (b : Sec) : Int × DS :=
  if ¬ (inR i s.good.length ∧ b.length = 32) then (1, s) else if s.fuse = 0 then (10, s) else
    (0, { s with now := s.now.set i.toNat b, order := if i.toNat ∈ s.order then s.order else s.order ++ [i.toNat], fuse := burnt s.fuse })
def DS.read (s : DS) (i : Int) : Sec × Int := if inR i s.good.length then (s.now.getD i.toNat [], 0) else ([], 1)
def DS.flush (s : DS) : Int × DS := if s.fuse = 0 then (10, s) else (0, { s with good := s.now, order := [], fuse := burnt s.fuse })

def bitOf (keep : Int) (n : Nat) : Bool := (keep % 18446744073709551616).toNat.testBit n
/-- How many bytes of cached sector number n are as they were written. -/
def many (keep torn cut : Int) (n : Nat) : Nat := if (n : Int) = torn then (if cut < 32 then cut.toNat else 32) else if n < 62 ∧ bitOf keep n = true then 32 else 0
def mix (m : Nat) (old new : Sec) : Sec := new.take m ++ old.drop m
/-- The first n cached sectors are settled. -/
def settle (keep torn cut : Int) (now : List Sec) (order : List Nat) : Nat → List Sec → List Sec
  | 0, g => g
  | n + 1, g => let g' := settle keep torn cut now order n g; let i := order.getD n 0; g'.set i (mix (many keep torn cut n) (g'.getD i []) (now.getD i []))
def DS.crash (s : DS) (keep torn cut : Int) : DS := let g := settle keep torn cut s.now s.order s.order.length s.good; { good := g, now := g, order := [], fuse := -1 }
def DS.new (n : Int) : DS := let g := List.replicate (if n < 1024 then n.toNat else 1024) (List.replicate 32 (0 : UInt8)); { good := g, now := g, order := [], fuse := -1 }

/-- What always holds. -/
structure DS.Ok (s : DS) : Prop where
  len : s.now.length = s.good.length
  small : s.good.length ≤ 1024
  good32 : ∀ l ∈ s.good, l.length = 32
  now32 : ∀ l ∈ s.now, l.length = 32
  ordLt : ∀ i ∈ s.order, i < s.good.length
  nodup : s.order.Nodup
  rest : ∀ i, i ∉ s.order → s.now[i]? = s.good[i]?

theorem many_le (keep torn cut : Int) (n : Nat) : many keep torn cut n ≤ 32 := by
  unfold many
  split
  · split <;> omega
  · split <;> omega
theorem mix_length {m : Nat} {old new : Sec} (h1 : old.length = 32) (h2 : new.length = 32) (hm : m ≤ 32) : (mix m old new).length = 32 := by
  unfold mix; rw [List.length_append, List.length_take, List.length_drop]; omega
theorem settle_length (keep torn cut : Int) (now : List Sec) (order : List Nat) (n : Nat) (g : List Sec) : (settle keep torn cut now order n g).length = g.length := by
  induction n with
  | zero => rfl
  | succ n ih => simp only [settle]; rw [List.length_set, ih]
theorem settle_32 (keep torn cut : Int) (now : List Sec) (order : List Nat) (g : List Sec) (hn : ∀ l ∈ now, l.length = 32) (hg : ∀ l ∈ g, l.length = 32) (hl : now.length = g.length) (ho : ∀ i ∈ order, i < g.length) :
    ∀ n, n ≤ order.length → ∀ l ∈ settle keep torn cut now order n g, l.length = 32
  | 0, _ => hg
  | n + 1, h => by
    intro l hm
    simp only [settle] at hm
    have ih := settle_32 keep torn cut now order g hn hg hl ho n (by omega)
    have hi : order.getD n 0 < g.length := by
      exact ho _ (getD_mem (by omega))
    rcases List.mem_or_eq_of_mem_set hm with hm | rfl
    · exact ih l hm
    · refine mix_length ?_ ?_ (many_le _ _ _ _)
      · refine ih _ ?_
        have hlt : order.getD n 0 < (settle keep torn cut now order n g).length := by rw [settle_length]; exact hi
        exact getD_mem hlt
      · refine hn _ ?_
        have hlt : order.getD n 0 < now.length := by omega
        exact getD_mem hlt

theorem new_ok (n : Int) : (DS.new n).Ok := by
  have hl : (if n < 1024 then n.toNat else 1024) ≤ 1024 := by split <;> omega
  refine ⟨rfl, by simpa [DS.new] using hl, ?_, ?_, by simp [DS.new], by simp [DS.new], by simp [DS.new]⟩ <;>
  · intro l h
    simp only [DS.new] at h
    rw [(List.mem_replicate.1 h).2, List.length_replicate]
theorem write_ok {s : DS} (h : s.Ok) (i : Int) (b : Sec) : (s.write i b).2.Ok := by
  unfold DS.write
  split
  · exact h
  · rename_i h1
    simp only [Decidable.not_not] at h1
    split
    · exact h
    · obtain ⟨⟨h2, h3⟩, h4⟩ := h1
      have hi : i.toNat < s.good.length := by have : 0 ≤ i := h2; omega
      refine ⟨by simp [h.len], h.small, h.good32, ?_, ?_, ?_, ?_⟩
      · intro l hm
        rcases List.mem_or_eq_of_mem_set hm with hm | rfl
        · exact h.now32 l hm
        · exact h4
      · intro j hj
        simp only at hj
        split at hj
        · exact h.ordLt j hj
        · rcases List.mem_append.1 hj with hj | hj
          · exact h.ordLt j hj
          · simp at hj; subst hj; exact hi
      · show (if _ then _ else _ : List Nat).Nodup
        split
        · exact h.nodup
        · rename_i hn
          rw [List.nodup_append]
          exact ⟨h.nodup, by simp, by intro a ha c hc; simp at hc; subst hc; intro e; exact hn (e ▸ ha)⟩
      · intro j hj
        simp only at hj
        have hj1 : j ∉ s.order ∧ j ≠ i.toNat := by
          split at hj
          · rename_i hm; exact ⟨hj, fun e => hj (e ▸ hm)⟩
          · exact ⟨fun hm => hj (List.mem_append_left _ hm), fun e => hj (by simp [e])⟩
        show (s.now.set i.toNat b)[j]? = _
        rw [List.getElem?_set_ne (Ne.symm hj1.2)]
        exact h.rest j hj1.1
theorem flush_ok {s : DS} (h : s.Ok) : s.flush.2.Ok := by
  unfold DS.flush
  split
  · exact h
  · exact ⟨rfl, by simpa [h.len] using h.small, h.now32, h.now32, by simp, by simp, by simp⟩
theorem crash_ok {s : DS} (h : s.Ok) (keep torn cut : Int) : (s.crash keep torn cut).Ok := by
  have h32 := settle_32 keep torn cut s.now s.order s.good h.now32 h.good32 h.len h.ordLt s.order.length (Nat.le_refl _)
  exact ⟨rfl, by simpa [DS.crash, settle_length] using h.small, h32, h32, by simp [DS.crash], by simp [DS.crash], by simp [DS.crash]⟩
theorem fuse_ok {s : DS} (h : s.Ok) (f : Int) : ({ s with fuse := f } : DS).Ok := ⟨h.len, h.small, h.good32, h.now32, h.ordLt, h.nodup, h.rest⟩

/-- What is not cached stays in a crash. -/
theorem settle_other (keep torn cut : Int) (now : List Sec) (order : List Nat) (g : List Sec) (i : Nat) (h : i ∉ order) : ∀ n, n ≤ order.length → (settle keep torn cut now order n g)[i]? = g[i]?
  | 0, _ => rfl
  | n + 1, hn => by
    simp only [settle]
    have : order.getD n 0 ∈ order := getD_mem (by omega)
    rw [List.getElem?_set_ne (fun e => h (by rw [← e]; exact this)), settle_other keep torn cut now order g i h n (by omega)]
/-- What is cached is settled once. -/
theorem settle_at (keep torn cut : Int) (now : List Sec) (order : List Nat) (g : List Sec) (hd : order.Nodup) (ho : ∀ i ∈ order, i < g.length) : ∀ n, n ≤ order.length → ∀ k (hk : k < order.length), (settle keep torn cut now order n g)[order[k]]? = if k < n then some (mix (many keep torn cut k) (g.getD order[k] []) (now.getD order[k] [])) else g[order[k]]?
  | 0, _, k, hk => by simp [settle]
  | n + 1, hn, k, hk => by
    have hnl : n < order.length := by omega
    have hgd : order.getD n 0 = order[n] := by simp [List.getD, List.getElem?_eq_getElem hnl]
    have ih := settle_at keep torn cut now order g hd ho n (by omega)
    simp only [settle]
    rw [hgd]
    by_cases he : k = n
    · subst he
      have hlt : order[k] < (settle keep torn cut now order k g).length := by rw [settle_length]; exact ho _ (List.getElem_mem _)
      rw [List.getElem?_set_self hlt, if_pos (by omega)]
      have h2 := ih k hk
      rw [if_neg (by omega)] at h2
      simp only [List.getD, h2]
    · have hne : order[n] ≠ order[k] := fun e => he ((List.getElem_inj hd).1 e).symm
      rw [List.getElem?_set_ne hne, ih k hk]
      by_cases h3 : k < n
      · rw [if_pos h3, if_pos (by omega)]
      · rw [if_neg h3, if_neg (by omega)]

/-! ### A log tells a disk -/

def ofLog (good : List Sec) (log : List (Nat × Sec)) (fuse : Int) : DS := { good, now := logNow good log, order := logOrd log, fuse }

end Go.Proofs.Ytdgfoldobofgoaa.Dsk
/- Disk: what a crash leaves of each sector. -/
namespace Go.Proofs.Ytdgfoldobofgoaa.Dsk
set_option linter.unusedVariables false

theorem mix_none (old new : Sec) : mix 0 old new = old := by simp [mix]
theorem mix_whole {old new : Sec} (h1 : old.length = 32) (h2 : new.length = 32) : mix 32 old new = new := by
  unfold mix
  rw [List.take_of_length_le (by omega), List.drop_of_length_le (by omega), List.append_nil]
theorem mix_at {old new : Sec} {m k : Nat} (h1 : old.length = 32) (h2 : new.length = 32) (hm : m ≤ 32) : (mix m old new)[k]? = if k < m then new[k]? else old[k]? := by
  unfold mix
  rw [List.getElem?_append, List.length_take]
  by_cases h : k < m
  · rw [if_pos (by omega), if_pos h, List.getElem?_take_of_lt h]
  · rw [if_neg (by omega), if_neg h, List.getElem?_drop, Nat.min_eq_left (by omega)]
    congr 1; omega
/-- From the first byte on that is not as it was written, all are as they were for good. -/
theorem drop_mixed {old new : Sec} {m k : Nat} (h1 : old.length = 32) (h2 : new.length = 32) (hm : m ≤ 32) (hne : (mix m old new)[k]? ≠ new[k]?) : (mix m old new).drop k = old.drop k := by
  have hmk : m ≤ k := by
    by_cases h : k < m
    · exact absurd (by rw [mix_at h1 h2 hm, if_pos h]) hne
    · omega
  apply List.ext_getElem?
  intro i
  rw [List.getElem?_drop, List.getElem?_drop, mix_at h1 h2 hm, if_neg (by omega)]

/-- Each sector is a mixture; but for one it is the one or the other. -/
theorem crash_at {s : DS} (ok : s.Ok) (keep torn cut : Int) {i : Nat} (hi : i < s.good.length) :
    ∃ m, m ≤ 32 ∧ (s.crash keep torn cut).good.getD i [] = mix m (s.good.getD i []) (s.now.getD i []) ∧ ((s.crash keep torn cut).good.getD i [] ≠ s.good.getD i [] → (s.crash keep torn cut).good.getD i [] ≠ s.now.getD i [] → i = s.order.getD torn.toNat 0) := by
  have hg : (s.good.getD i []).length = 32 := ok.good32 _ (getD_mem hi)
  have hn : (s.now.getD i []).length = 32 := ok.now32 _ (getD_mem (by rw [ok.len]; exact hi))
  have hc : (s.crash keep torn cut).good = settle keep torn cut s.now s.order s.order.length s.good := rfl
  by_cases h : i ∈ s.order
  · obtain ⟨k, hk, rfl⟩ := List.getElem_of_mem h
    have e := settle_at keep torn cut s.now s.order s.good ok.nodup ok.ordLt s.order.length (Nat.le_refl _) k hk
    rw [if_pos hk] at e
    have e' : (s.crash keep torn cut).good.getD s.order[k] [] = mix (many keep torn cut k) (s.good.getD s.order[k] []) (s.now.getD s.order[k] []) := by rw [hc, List.getD, e]; rfl
    refine ⟨_, many_le keep torn cut k, e', fun h1 h2 => ?_⟩
    rw [e'] at h1 h2
    by_cases ht : (k : Int) = torn
    · rw [← ht]
      show _ = s.order.getD ((k : Int).toNat) 0
      rw [Int.toNat_natCast, getD_at hk]
    · exfalso
      unfold many at h1 h2
      rw [if_neg ht] at h1 h2
      split at h1
      · rename_i hb
        rw [if_pos hb] at h2
        exact h2 (mix_whole hg hn)
      · exact h1 (mix_none _ _)
  · have e := settle_other keep torn cut s.now s.order s.good i h s.order.length (Nat.le_refl _)
    have e' : (s.crash keep torn cut).good.getD i [] = s.good.getD i [] := by rw [hc, List.getD, e]; rfl
    exact ⟨0, by omega, by rw [e', mix_none], fun h1 => absurd e' h1⟩
/-- What is not cached stays. -/
theorem crash_other {s : DS} (keep torn cut : Int) {i : Nat} (h : i ∉ s.order) : (s.crash keep torn cut).good.getD i [] = s.good.getD i [] := by
  have e := settle_other keep torn cut s.now s.order s.good i h s.order.length (Nat.le_refl _)
  show (settle _ _ _ _ _ _ _).getD i [] = _
  rw [List.getD, e]; rfl
theorem crash_length (s : DS) (keep torn cut : Int) : (s.crash keep torn cut).good.length = s.good.length := by show (settle _ _ _ _ _ _ _).length = _; rw [settle_length]
theorem crash_read (s : DS) (keep torn cut : Int) {i : Nat} (hi : i < s.good.length) : (s.crash keep torn cut).read i = ((s.crash keep torn cut).good.getD i [], 0) := by
  unfold DS.read
  rw [if_pos (show inR (i : Int) (s.crash keep torn cut).good.length from ⟨by omega, by rw [crash_length]; omega⟩)]
  rfl
/-- Without a fuse. -/
theorem write_free {s : DS} (hf : s.fuse = -1) (i : Int) (b : Sec) : (s.write i b).2.fuse = -1 ∧ (s.write i b).2.good = s.good ∧ ((s.write i b = (1, s)) ∨ ((s.write i b).1 = 0 ∧ inR i s.good.length ∧ ∀ j, j ≠ i.toNat → (j ∈ (s.write i b).2.order ↔ j ∈ s.order))) := by
  unfold DS.write
  split
  · exact ⟨hf, rfl, .inl rfl⟩
  · rename_i h
    simp only [Decidable.not_not] at h
    rw [if_neg (by omega)]
    refine ⟨by show burnt s.fuse = -1; rw [hf]; rfl, rfl, .inr ⟨rfl, h.1, fun j hj => ?_⟩⟩
    show j ∈ (if _ then _ else _ : List Nat) ↔ _
    split
    · rfl
    · simp [hj]
theorem flush_free {s : DS} (hf : s.fuse = -1) (ok : s.Ok) : s.flush.1 = 0 ∧ s.flush.2.fuse = -1 ∧ s.flush.2.order = [] ∧ s.flush.2.good = s.now ∧ s.flush.2.now = s.now := by
  unfold DS.flush
  rw [if_neg (by omega)]
  exact ⟨rfl, by show burnt s.fuse = -1; rw [hf]; rfl, rfl, rfl, rfl⟩
theorem write_good_length (s : DS) (i : Int) (b : Sec) : (s.write i b).2.good.length = s.good.length := by
  unfold DS.write
  split
  · rfl
  · split <;> rfl

end Go.Proofs.Ytdgfoldobofgoaa.Dsk
/- Journal: records in sectors of which each may be torn, or lost: what comes back is the record whole, or nothing of its epoch. -/
namespace Go.Proofs.Ytdgfoldobofgoaa.Jrn
open Oct
open Chk
open Frm
open Dsk (Sec mix mix_at mix_length)
set_option linter.unusedVariables false

/-! ### Sums -/

theorem crc_inj {s t : BitVec 32} {y : Bs} (h : crc s y = crc t y) : s = t := bitsZ_inj (Chk.bits y) h
/-- Four bytes in the midst tell. -/
theorem crc_mid (s : BitVec 32) (x m n y : Bs) (hm : m.length = 4) (hn : n.length = 4) (h : crc s (x ++ m ++ y) = crc s (x ++ n ++ y)) : m = n := by
  rw [crc_append, crc_append s (x ++ n) y] at h
  exact (crc_four s x m n hm hn).1 (crc_inj h)
theorem numF_be4 (n : Nat) (h : n < 4294967296) : numF 0 (beB 4 n) = n := by
  rw [numF_be 4 n 0 (by simp; omega)]
  simp; omega
theorem be4_inj {m n : Nat} (hm : m < 4294967296) (hn : n < 4294967296) (h : beB 4 m = beB 4 n) : m = n := by
  rw [← numF_be4 m hm, h, numF_be4 n hn]

/-! ### A record's sectors -/

def secB (d mk : Bs) (j : Nat) : Sec := chunk d j ++ mk
def secsB (e q : Nat) (b : Bs) : List Sec := (List.range (secs b.length)).map (secB (dataB e q b) (Frm.mark e q))
theorem secsB_length (e q : Nat) (b : Bs) : (secsB e q b).length = secs b.length := by simp [secsB]
theorem packN_flat (d mk : Bs) : ∀ k, packN d mk (24 * k) = ((List.range k).map (secB d mk)).flatten
  | 0 => rfl
  | k + 1 => by
    rw [packN_sector, packN_flat d mk k, List.range_succ, List.map_append, List.flatten_append, List.append_assoc]
    simp [secB]
theorem secsB_flat (e q : Nat) (b : Bs) : (secsB e q b).flatten = packB e q b := (packN_flat _ _ _).symm
theorem secB_length (d : Bs) (e q j : Nat) : (secB d (Frm.mark e q) j).length = 32 := by unfold secB; rw [List.length_append, chunk_length, mark_length]
theorem secsB_at {e q : Nat} {b : Bs} {j : Nat} (h : j < secs b.length) : (secsB e q b)[j]? = some (secB (dataB e q b) (Frm.mark e q) j) := by
  unfold secsB
  rw [List.getElem?_map, List.getElem?_range h]; rfl

theorem flat_length32 : ∀ cs : List Sec, (∀ c ∈ cs, c.length = 32) → cs.flatten.length = 32 * cs.length
  | [], _ => rfl
  | c :: cs, h => by
    rw [List.flatten_cons, List.length_append, h c (by simp), flat_length32 cs fun c hc => h c (by simp [hc]), List.length_cons]; omega
theorem flat_inj : ∀ (cs ds : List Sec), cs.length = ds.length → (∀ c ∈ cs, c.length = 32) → (∀ d ∈ ds, d.length = 32) → cs.flatten = ds.flatten → cs = ds
  | [], [], _, _, _, _ => rfl
  | c :: cs, d :: ds, hl, hc, hd, h => by
    rw [List.flatten_cons, List.flatten_cons] at h
    obtain ⟨h1, h2⟩ := List.append_inj h (by rw [hc c (by simp), hd d (by simp)])
    rw [h1, flat_inj cs ds (by simpa using hl) (fun x hx => hc x (by simp [hx])) (fun x hx => hd x (by simp [hx])) h2]

/-! ### Stamps -/

theorem numK_congr {s t : Bs} {o : Nat} : ∀ k, (∀ r, r < k → s.getD (o + r) 0 = t.getD (o + r) 0) → numK s o k = numK t o k
  | 0, _ => rfl
  | k + 1, h => by
    simp only [numK]
    rw [numK_congr k fun r hr => h r (by omega), h k (by omega)]
theorem numK_left {s t : Bs} {o k : Nat} (h : o + k ≤ s.length) : numK (s ++ t) o k = numK s o k := numK_congr k fun r hr => getD_left (by omega)
/-- A number of four bytes that is below 256: three bytes 0. -/
theorem small4 {s : Bs} {o : Nat} (h : numK s o 4 < 256) : (s.getD o 0).toNat = 0 ∧ (s.getD (o + 1) 0).toNat = 0 ∧ (s.getD (o + 2) 0).toNat = 0 ∧ (s.getD (o + 3) 0).toNat = numK s o 4 := by
  simp only [numK, Nat.add_zero] at h ⊢
  omega
theorem mix_getD {o n : Sec} {m r : Nat} (ho : o.length = 32) (hn : n.length = 32) (hm : m ≤ 32) : (mix m o n).getD r 0 = if r < m then n.getD r 0 else o.getD r 0 := by
  rw [List.getD, mix_at ho hn hm]
  split <;> rfl
/-- A torn sector has the new epoch only if all its data are new, and the epoch's bytes. -/
theorem torn_epoch {o n : Sec} {m E : Nat} (ho : o.length = 32) (hn : n.length = 32) (hm : m ≤ 32) (hE : E < 256) (hnE : numK n 24 4 = E) (hos : numK o 24 4 < 256) (hne : numK o 24 4 ≠ E) (hc : numK (mix m o n) 24 4 = E) : 28 ≤ m := by
  rcases Nat.lt_or_ge m 28 with h | h
  · exfalso
    obtain ⟨n0, n1, n2, n3⟩ := small4 (s := n) (o := 24) (by omega)
    obtain ⟨o0, o1, o2, o3⟩ := small4 hos
    have c0 := mix_getD (r := 24) ho hn hm
    have c1 := mix_getD (r := 25) ho hn hm
    have c2 := mix_getD (r := 26) ho hn hm
    have c3 := mix_getD (r := 27) ho hn hm
    rw [if_neg (by omega)] at c3
    have z0 : ((mix m o n).getD 24 0).toNat = 0 := by rw [c0]; split <;> assumption
    have z1 : ((mix m o n).getD 25 0).toNat = 0 := by rw [c1]; split <;> assumption
    have z2 : ((mix m o n).getD 26 0).toNat = 0 := by rw [c2]; split <;> assumption
    simp only [numK, Nat.add_zero, Nat.reduceAdd] at hc
    rw [z0, z1, z2, c3] at hc
    simp only [Nat.reduceAdd] at o3
    omega
  · exact h

theorem secB_epoch {d : Bs} {e q j : Nat} (he : e < 4294967296) : numK (secB d (Frm.mark e q) j) 24 4 = e := by
  refine four_be _ 24 e he fun r hr => ?_
  unfold secB Frm.mark
  rw [List.getD, List.getElem?_append_right (by rw [chunk_length]; omega), chunk_length, show 24 + r - 24 = r by omega, List.getElem?_append_left (by rw [beB_length]; exact hr), beB_at 4 e r hr]; rfl
theorem take24 {o n : Sec} {m : Nat} (h : 24 ≤ m) (ho : o.length = 32) (hn : n.length = 32) (hm : m ≤ 32) : (mix m o n).take 24 = n.take 24 := by
  apply List.ext_getElem?
  intro i
  rw [List.getElem?_take, List.getElem?_take]
  split
  · rw [mix_at ho hn hm, if_pos (by omega)]
  · rfl
theorem secB_take (d : Bs) (e q j : Nat) : (secB d (Frm.mark e q) j).take 24 = chunk d j := by
  unfold secB
  rw [List.take_append_of_le_length (by rw [chunk_length]; exact Nat.le_refl _), List.take_of_length_le (by rw [chunk_length]; exact Nat.le_refl _)]
/-- Data by their pieces. -/
theorem data_chunks {d d' : Bs} {K : Nat} (hl : d.length = d'.length) (hK : d.length ≤ 24 * K) (h : ∀ j, j < K → chunk d j = chunk d' j) : d = d' := by
  apply List.ext_getElem?
  intro i
  by_cases hi : i < d.length
  · have hc := h (i / 24) (by omega)
    have e1 : (chunk d (i / 24))[i % 24]? = some (d.getD i 0) := by simp [chunk, Nat.mod_lt i (show 0 < 24 by omega), show 24 * (i / 24) + i % 24 = i by omega]
    have e2 : (chunk d' (i / 24))[i % 24]? = some (d'.getD i 0) := by simp [chunk, Nat.mod_lt i (show 0 < 24 by omega), show 24 * (i / 24) + i % 24 = i by omega]
    rw [hc, e2] at e1
    injection e1 with e1
    rw [List.getElem?_eq_getElem hi, List.getElem?_eq_getElem (by omega)]
    simp [List.getD, hi, show i < d'.length by omega] at e1
    rw [e1]
  · rw [List.getElem?_eq_none (by omega), List.getElem?_eq_none (by omega)]

theorem data_inj {e q q' : Nat} {b b' : Bs} (hq : q < 4294967296) (hq' : q' < 4294967296) (hl : b'.length = b.length) (h : dataB e q' b' = dataB e q b) : q' = q ∧ b' = b := by
  unfold dataB at h
  rw [hl] at h
  obtain ⟨h1, h2⟩ := List.append_inj h (by simp [beB_length])
  obtain ⟨_, h3⟩ := List.append_inj h1 rfl
  refine ⟨?_, h2⟩
  have hs := be4_inj (by unfold sumR; exact (crc _ _).isLt) (by unfold sumR; exact (crc _ _).isLt) h3
  unfold sumR at hs
  have hc := BitVec.eq_of_toNat_eq hs
  subst h2
  have e1 : ∀ x : Nat, Frm.mark e x ++ beB 2 b'.length ++ b' = beB 4 e ++ beB 4 x ++ (beB 2 b'.length ++ b') := fun x => by unfold Frm.mark; simp only [List.append_assoc]
  rw [e1 q', e1 q] at hc
  exact be4_inj hq' hq (crc_mid _ _ _ _ _ (beB_length 4 _) (beB_length 4 _) hc)

/-- Each sector a mixture of an old one, of another epoch, and of the record's own. -/
def Torn (E q : Nat) (b : Bs) (cs : List Sec) : Prop := cs.length = secs b.length ∧ ∀ (j : Nat) (c : Sec), cs[j]? = some c → ∃ m o, m ≤ 32 ∧ o.length = 32 ∧ numK o 24 4 < 256 ∧ numK o 24 4 ≠ E ∧ c = mix m o (secB (dataB E q b) (Frm.mark E q) j)
theorem torn_len {E q : Nat} {b : Bs} {cs : List Sec} (h : Torn E q b cs) : ∀ c ∈ cs, c.length = 32 := by
  intro c hc
  obtain ⟨j, hj, rfl⟩ := List.getElem_of_mem hc
  obtain ⟨m, o, hm, ho, _, _, e⟩ := h.2 j cs[j] (List.getElem?_eq_getElem hj)
  rw [e]
  exact mix_length ho (secB_length _ _ _ _) hm

/-- THE LAW OF TORN RECORDS. -/
theorem torn_record {E q : Nat} {b : Bs} {cs : List Sec} {rest : Bs} {q' k' : Nat} {b' : Bs} (hE : E < 256) (hq : q < 4294967296) (hb : b.length < 65536) (ht : Torn E q b cs) (hu : unpackB (cs.flatten ++ rest) = some (E, q', b', k')) : q' = q ∧ b' = b ∧ k' = secs b.length ∧ cs = secsB E q b := by
  obtain ⟨u1, u2, u3, u4, u5, u6⟩ := unpack_some hu
  have hK := secs_pos b.length
  have hl := torn_len ht
  have hfl := flat_length32 cs hl
  rw [ht.1] at hfl
  have h32 : ∀ j, j < secs b.length → numK (secB (dataB E q b) (Frm.mark E q) j) 24 4 = E := fun j _ => secB_epoch (by omega)
  -- what a sector of the new epoch holds
  have key : ∀ (j : Nat) (c : Sec), cs[j]? = some c → numK c 24 4 = E → c.take 24 = chunk (dataB E q b) j := fun j c hc he => by
    obtain ⟨m, o, hm, ho, hos, hoe, e⟩ := ht.2 j c hc
    have hn := secB_length (dataB E q b) E q j
    rw [e] at he ⊢
    have h28 := torn_epoch ho hn hm hE (secB_epoch (by omega)) hos hoe he
    rw [take24 (by omega) ho hn hm, secB_take]
  -- the first sector: the length
  have hc0 : 0 < cs.length := by rw [ht.1]; exact hK
  obtain ⟨c0, cs', hcs⟩ : ∃ c0 cs', cs = c0 :: cs' := by
    cases cs with
    | nil => cases hc0
    | cons c0 cs' => exact ⟨c0, cs', rfl⟩
  have h0l : c0.length = 32 := hl c0 (by rw [hcs]; simp)
  have hk1 := secs_pos b'.length
  have hpe : packB E q' b' = (cs.flatten ++ rest).take (32 * k') := u6
  have hge : ∀ i, i < 32 → (packB E q' b').getD i 0 = c0.getD i 0 := fun i hi => by
    rw [hpe, List.getD, List.getElem?_take_of_lt (by omega), hcs, List.flatten_cons, List.append_assoc, List.getElem?_append_left (by omega)]; rfl
  have he0 : numK c0 24 4 = E := by
    have h1 := epoch_pack (e := E) (q := q') (b := b') (rest := []) u1
    rw [List.append_nil] at h1
    rw [← h1]
    exact (numK_congr 4 fun r hr => hge (24 + r) (by omega)).symm
  have hd0 := key 0 c0 (by rw [hcs]; rfl) he0
  have htwo : two c0 = b.length := by
    have h1 := two_pack (e := E) (q := q) (b := b) (rest := []) hb
    rw [List.append_nil] at h1
    have hg : ∀ i, i < 2 → c0.getD i 0 = (packB E q b).getD i 0 := fun i hi => by
      have e1 : c0[i]? = (c0.take 24)[i]? := by rw [List.getElem?_take_of_lt (by omega)]
      rw [List.getD, e1, hd0, ← secsB_flat]
      have hs : secsB E q b = secB (dataB E q b) (Frm.mark E q) 0 :: (secsB E q b).tail := by
        have := secsB_at (e := E) (q := q) hK
        cases hh : secsB E q b with
        | nil => rw [hh] at this; cases this
        | cons x xs =>
          rw [hh] at this
          simp at this
          rw [this]; rfl
      rw [hs, List.flatten_cons, List.getD, List.getElem?_append_left (by rw [secB_length]; omega)]
      unfold secB
      rw [List.getElem?_append_left (by rw [chunk_length]; omega)]
    rw [← h1]
    unfold two
    rw [hg 0 (by omega), hg 1 (by omega)]
  have hbl : b'.length = b.length := by
    have h1 := two_pack (e := E) (q := q') (b := b') (rest := []) u3
    rw [List.append_nil] at h1
    rw [← h1, ← htwo]
    unfold two
    rw [hge 0 (by omega), hge 1 (by omega)]
  have hkk : k' = secs b.length := by rw [u4, hbl]
  -- all sectors are those of the record that came back
  have hcs2 : cs = secsB E q' b' := by
    refine flat_inj _ _ (by rw [ht.1, secsB_length, hbl]) hl (fun d hd => ?_) ?_
    · unfold secsB at hd
      obtain ⟨j, _, rfl⟩ := List.mem_map.1 hd
      exact secB_length _ _ _ _
    · rw [secsB_flat, hpe, hkk, List.take_append_of_le_length (by omega), List.take_of_length_le (by omega)]
  have hdat : dataB E q' b' = dataB E q b := by
    refine data_chunks (K := secs b.length) (by rw [dataB_length, dataB_length, hbl]) (by rw [dataB_length, hbl]; exact secs_room _) fun j hj => ?_
    have e1 : cs[j]? = some (secB (dataB E q' b') (Frm.mark E q') j) := by rw [hcs2]; exact secsB_at (by rw [hbl]; exact hj)
    have := key j _ e1 (secB_epoch (by omega))
    rw [secB_take] at this
    exact this
  obtain ⟨e1, e2⟩ := data_inj hq u2 hbl hdat
  refine ⟨e1, e2, hkk, ?_⟩
  rw [hcs2, e1, e2]

end Go.Proofs.Ytdgfoldobofgoaa.Jrn
/- Journal: sums of messages of which some single bytes are unlike: bytes of an epoch, a number and a count, each below 64. -/
namespace Go.Proofs.Ytdgfoldobofgoaa.Jrn
open Oct
open Chk
open Frm
set_option linter.unusedVariables false

/-- A byte, ahead. -/
def tv (n : Nat) : BitVec 32 := BitVec.ofNat 32 n <<< 24
theorem tv_xor (a b : Nat) : tv a ^^^ tv b = tv (a ^^^ b) := by
  unfold tv
  rw [BitVec.ofNat_xor, BitVec.shiftLeft_xor_distrib]
theorem crc_one (s : BitVec 32) (n : Nat) (h : n < 256) : crc s [UInt8.ofNat n] = Zn 8 (s ^^^ tv n) := by
  have e : crc s [UInt8.ofNat n] = bitsZ s (bitsOf (UInt8.ofNat n)) := by unfold crc Chk.bits; simp
  rw [e, bitsZ_top _ _ (by rw [bitsOf_length]; omega), bitsOf_length, top_bitsOf]
  unfold wide tv
  rw [u8_of, Nat.mod_eq_of_lt h]
theorem Zn_more (m n : Nat) (x : BitVec 32) : Zn (m + n) x = Zn n (Zn m x) := by
  induction m generalizing x with
  | zero => rw [Nat.zero_add]; rfl
  | succ m ih => rw [show m + 1 + n = (m + n) + 1 by omega]; exact ih (Z x)
theorem crc_lin : ∀ (l : Bs) (s d : BitVec 32), crc (s ^^^ d) l = crc s l ^^^ Zn (8 * l.length) d
  | [], s, d => rfl
  | y :: l, s, d => by
    have hy : y = UInt8.ofNat y.toNat := by simp
    have h1 : ∀ t, crc t (y :: l) = crc (Zn 8 (t ^^^ tv y.toNat)) l := fun t => by
      rw [show y :: l = [y] ++ l from rfl, crc_append]
      congr 1
      rw [← crc_one t y.toNat y.toNat_lt]; simp
    rw [h1, h1, show s ^^^ d ^^^ tv y.toNat = (s ^^^ tv y.toNat) ^^^ d by rw [BitVec.xor_assoc, BitVec.xor_comm d, ← BitVec.xor_assoc], Zn_xor, crc_lin l, List.length_cons, ← Zn_more, show 8 + 8 * l.length = 8 * (l.length + 1) by omega]
/-- One byte in the midst is another. -/
theorem crc_swap (s : BitVec 32) (a r : Bs) (m n : Nat) (hm : m < 256) (hn : n < 256) : crc s (a ++ UInt8.ofNat m :: r) = crc s (a ++ UInt8.ofNat n :: r) ^^^ Zn (8 * (r.length + 1)) (tv (m ^^^ n)) := by
  have h : ∀ x, x < 256 → crc s (a ++ UInt8.ofNat x :: r) = crc (Zn 8 (crc s a ^^^ tv x)) r := fun x hx => by
    rw [crc_append, show UInt8.ofNat x :: r = [UInt8.ofNat x] ++ r from rfl, crc_append, crc_one _ x hx]
  rw [h m hm, h n hn, show crc s a ^^^ tv m = (crc s a ^^^ tv n) ^^^ tv (m ^^^ n) by rw [← tv_xor, BitVec.xor_assoc, ← BitVec.xor_assoc (tv n), BitVec.xor_comm (tv n), BitVec.xor_assoc, BitVec.xor_self, BitVec.xor_zero], Zn_xor, crc_lin, ← Zn_more, show 8 + 8 * r.length = 8 * (r.length + 1) by omega]

/-! ### Reckoned -/

def zN : Nat → Nat → Nat
  | 0, s => s
  | n + 1, s => zN n (if s / 2147483648 = 1 then (s * 2 % 4294967296) ^^^ polyN else s * 2 % 4294967296)
theorem Z_nat (z : BitVec 32) : (Z z).toNat = if z.toNat / 2147483648 = 1 then (z.toNat * 2 % 4294967296) ^^^ polyN else z.toNat * 2 % 4294967296 := by
  have h := bitZ_toNat z false
  have e : bitZ z false = Z z := by unfold bitZ; rw [show hi1 false = 0#32 from rfl, BitVec.xor_zero]
  have hz := z.isLt
  rw [e] at h
  rw [h, bitN]
  by_cases h1 : z.toNat / 2147483648 = 1
  · rw [if_pos h1, if_neg (by rw [h1]; decide)]
  · rw [if_neg h1, if_pos (by show _ = 0; omega)]
theorem Zn_nat : ∀ (n : Nat) (z : BitVec 32), (Zn n z).toNat = zN n z.toNat
  | 0, z => rfl
  | n + 1, z => by
    show (Zn n (Z z)).toNat = zN n _
    rw [Zn_nat n (Z z), Z_nat]
theorem tv_nat (n : Nat) (h : n < 256) : (tv n).toNat = n * 16777216 := by
  unfold tv
  rw [BitVec.toNat_shiftLeft, BitVec.toNat_ofNat, Nat.shiftLeft_eq]
  omega
set_option maxRecDepth 100000 in
theorem chk_pairs : ((List.range 64).all fun x => x == 0 || (List.range 64).all fun y => (zN 64 (x * 16777216) ^^^ zN 32 (y * 16777216)) % 16777216 != 0) = true := by decide +kernel
set_option maxRecDepth 100000 in
theorem chk_low : ((List.range 64).all fun y => y == 0 || zN 40 (y * 16777216) % 256 != 0) = true := by decide +kernel

theorem xor_lt64 {a b : Nat} (ha : a < 64) (hb : b < 64) : a ^^^ b < 64 := Nat.xor_lt_two_pow (n := 6) ha hb
theorem xor_ne {a b : Nat} (h : a ≠ b) : a ^^^ b ≠ 0 := fun e => h (by
  have := congrArg (· ^^^ b) e
  simpa [Nat.xor_assoc] using this)

/-- What a checkpoint's sum is of. -/
def msg (e q c : Nat) : Bs := Frm.mark e q ++ beB 2 2 ++ beB 2 c
theorem be_low4 (n : Nat) (h : n < 256) : beB 4 n = [0, 0, 0, UInt8.ofNat n] := by
  have z : ∀ k, n < 256 ^ k → n / 256 ^ k = 0 := fun k hk => Nat.div_eq_of_lt hk
  simp only [beB]
  rw [z 3 (by omega), z 2 (by omega), z 1 (by omega), Nat.pow_zero, Nat.div_one]
  rfl
theorem be_low2 (n : Nat) (h : n < 256) : beB 2 n = [0, UInt8.ofNat n] := by
  simp only [beB]
  rw [Nat.div_eq_of_lt (by omega : n < 256 ^ 1), Nat.pow_zero, Nat.div_one]
  rfl
theorem msg_is (e q c : Nat) (he : e < 256) (hq : q < 256) (hc : c < 256) : msg e q c = [0, 0, 0, UInt8.ofNat e, 0, 0, 0, UInt8.ofNat q, 0, 2, 0, UInt8.ofNat c] := by
  unfold msg Frm.mark
  rw [be_low4 e he, be_low4 q hq, be_low2 c hc, be_low2 2 (by omega)]
  rfl
theorem msg_diff (s : BitVec 32) (e q c e' q' c' : Nat) (he : e < 256) (hq : q < 256) (hc : c < 256) (he' : e' < 256) (hq' : q' < 256) (hc' : c' < 256) :
    crc s (msg e q c) = crc s (msg e' q' c') ^^^ (Zn 72 (tv (e ^^^ e')) ^^^ Zn 40 (tv (q ^^^ q')) ^^^ Zn 8 (tv (c ^^^ c'))) := by
  rw [msg_is e q c he hq hc, msg_is e' q' c' he' hq' hc']
  have h1 := crc_swap s [0, 0, 0] [0, 0, 0, UInt8.ofNat q, 0, 2, 0, UInt8.ofNat c] e e' he he'
  have h2 := crc_swap s [0, 0, 0, UInt8.ofNat e', 0, 0, 0] [0, 2, 0, UInt8.ofNat c] q q' hq hq'
  have h3 := crc_swap s [0, 0, 0, UInt8.ofNat e', 0, 0, 0, UInt8.ofNat q', 0, 2, 0] [] c c' hc hc'
  have h1' : crc s [0, 0, 0, UInt8.ofNat e, 0, 0, 0, UInt8.ofNat q, 0, 2, 0, UInt8.ofNat c] = crc s [0, 0, 0, UInt8.ofNat e', 0, 0, 0, UInt8.ofNat q, 0, 2, 0, UInt8.ofNat c] ^^^ Zn 72 (tv (e ^^^ e')) := h1
  have h2' : crc s [0, 0, 0, UInt8.ofNat e', 0, 0, 0, UInt8.ofNat q, 0, 2, 0, UInt8.ofNat c] = crc s [0, 0, 0, UInt8.ofNat e', 0, 0, 0, UInt8.ofNat q', 0, 2, 0, UInt8.ofNat c] ^^^ Zn 40 (tv (q ^^^ q')) := h2
  have h3' : crc s [0, 0, 0, UInt8.ofNat e', 0, 0, 0, UInt8.ofNat q', 0, 2, 0, UInt8.ofNat c] = crc s [0, 0, 0, UInt8.ofNat e', 0, 0, 0, UInt8.ofNat q', 0, 2, 0, UInt8.ofNat c'] ^^^ Zn 8 (tv (c ^^^ c')) := h3
  clear h1 h2 h3
  rw [h1', h2', h3']
  generalize crc s [0, 0, 0, UInt8.ofNat e', 0, 0, 0, UInt8.ofNat q', 0, 2, 0, UInt8.ofNat c'] = A
  generalize Zn 72 (tv (e ^^^ e')) = B
  generalize Zn 40 (tv (q ^^^ q')) = C
  generalize Zn 8 (tv (c ^^^ c')) = D
  rw [BitVec.xor_assoc, BitVec.xor_assoc, BitVec.xor_comm D, BitVec.xor_comm C B]

/-- Two numbers that are unlike: the sums' lowest bytes are. -/
theorem low_byte (e q k c : Nat) (he : e < 256) (hq : q < 64) (hk : k < 64) (hc : c < 256) (hne : k ≠ q) (s : BitVec 32) : (crc s (msg e k c)).toNat % 256 ≠ (crc s (msg e q c)).toNat % 256 := by
  intro h
  have hd := msg_diff s e k c e q c he (by omega) hc he (by omega) hc
  rw [Nat.xor_self, Nat.xor_self, show tv 0 = 0#32 from rfl] at hd
  have hz : ∀ n, Zn n 0#32 = 0#32 := fun n => by
    induction n with
    | zero => rfl
    | succ n ih => show Zn n (Z 0#32) = _; rw [Z_zero]; exact ih
  rw [hz, hz, BitVec.zero_xor, BitVec.xor_zero] at hd
  have hx := xor_lt64 hk hq
  have hx0 := xor_ne hne
  have hl := List.all_eq_true.1 chk_low (k ^^^ q) (List.mem_range.2 hx)
  have hl' : zN 40 ((k ^^^ q) * 16777216) % 256 ≠ 0 := by simpa [hx0] using hl
  apply hl'
  have hn := congrArg BitVec.toNat hd
  rw [BitVec.toNat_xor, Zn_nat, tv_nat _ (by omega)] at hn
  rw [hn] at h
  have h2 : ∀ a b : Nat, (a ^^^ b) % 256 = a % 256 → b % 256 = 0 := fun a b hab => by
    have e1 : (a ^^^ b) % 2 ^ 8 = a % 2 ^ 8 ^^^ b % 2 ^ 8 := Nat.xor_mod_two_pow
    rw [show (2 : Nat) ^ 8 = 256 from rfl, hab] at e1
    have e3 := congrArg (a % 256 ^^^ ·) e1
    simp only [Nat.xor_self, ← Nat.xor_assoc, Nat.zero_xor] at e3
    exact e3.symm
  exact h2 _ _ h
/-- Two epochs that are unlike: the sums are, whatever the numbers and the counts. -/
theorem sums_unlike (e q c e' q' c' : Nat) (he : e < 64) (hq : q < 64) (hc : c < 256) (he' : e' < 64) (hq' : q' < 64) (hc' : c' < 256) (hne : e ≠ e') (s : BitVec 32) : crc s (msg e q c) ≠ crc s (msg e' q' c') := by
  intro h
  have hd := msg_diff s e q c e' q' c' (by omega) (by omega) hc (by omega) (by omega) hc'
  rw [h] at hd
  have h0 : Zn 72 (tv (e ^^^ e')) ^^^ Zn 40 (tv (q ^^^ q')) ^^^ Zn 8 (tv (c ^^^ c')) = 0#32 := by
    have := congrArg (crc s (msg e' q' c') ^^^ ·) hd
    simp only [BitVec.xor_self, ← BitVec.xor_assoc, BitVec.zero_xor] at this
    exact this.symm
  have h1 : Zn 8 (Zn 64 (tv (e ^^^ e')) ^^^ Zn 32 (tv (q ^^^ q')) ^^^ tv (c ^^^ c')) = 0#32 := by
    rw [Zn_xor, Zn_xor, ← Zn_more, ← Zn_more]; exact h0
  have hz : ∀ n, Zn n 0#32 = 0#32 := fun n => by
    induction n with
    | zero => rfl
    | succ n ih => show Zn n (Z 0#32) = _; rw [Z_zero]; exact ih
  have h2 : Zn 64 (tv (e ^^^ e')) ^^^ Zn 32 (tv (q ^^^ q')) ^^^ tv (c ^^^ c') = 0#32 := Zn_inj 8 (by rw [h1, hz])
  have h3 := xor_eq_zero h2
  have hx := xor_lt64 he he'
  have hy := xor_lt64 hq hq'
  have hcx : c ^^^ c' < 256 := Nat.xor_lt_two_pow (n := 8) hc hc'
  have hn := congrArg BitVec.toNat h3
  rw [BitVec.toNat_xor, Zn_nat, Zn_nat, tv_nat _ (by omega), tv_nat _ (by omega), tv_nat _ hcx] at hn
  have hl := List.all_eq_true.1 chk_pairs (e ^^^ e') (List.mem_range.2 hx)
  have hl2 : ((List.range 64).all fun y => (zN 64 ((e ^^^ e') * 16777216) ^^^ zN 32 (y * 16777216)) % 16777216 != 0) = true := by simpa [xor_ne hne] using hl
  have hl3 := List.all_eq_true.1 hl2 (q ^^^ q') (List.mem_range.2 hy)
  rw [hn] at hl3
  simp at hl3
end Go.Proofs.Ytdgfoldobofgoaa.Jrn
/- Journal: a log of records, for good and as it is; what a crash leaves of it, and what is read then. -/
namespace Go.Proofs.Ytdgfoldobofgoaa.Jrn
open Oct
open Chk
open Frm
open Dsk (Sec mix mix_at mix_length mix_whole mix_none)
set_option linter.unusedVariables false

/-- The records of epoch E behind number q, one behind the other, as far as there are such. -/
def recs (E : Nat) : Nat → Nat → List Sec → List Bs
  | 0, _, _ => []
  | f + 1, q, L => match unpackB L.flatten with
    | some (e, q', b, k) => if e = E ∧ q' = q + 1 then b :: recs E f (q + 1) (L.drop k) else []
    | none => []
/-- How many sectors records have. -/
def span (W : List Bs) : Nat := (W.map fun b => secs b.length).sum
theorem span_append (W V : List Bs) : span (W ++ V) = span W + span V := by simp [span]
theorem span_take_le (W : List Bs) (m : Nat) : span (W.take m) ≤ span W := by
  have := span_append (W.take m) (W.drop m)
  rw [List.take_append_drop] at this
  omega

/-- An old sector: of another epoch. -/
def Old (E : Nat) (c : Sec) : Prop := c.length = 32 ∧ numK c 24 4 < 256 ∧ numK c 24 4 ≠ E
/-- No record of epoch E begins there. -/
def Ends (E : Nat) (L : List Sec) : Prop := ∀ c, L.head? = some c → c.length = 32 ∧ numK c 24 4 ≠ E
theorem unpack_epoch {s b : Bs} {e q k : Nat} (h : unpackB s = some (e, q, b, k)) : e = numK s 24 4 ∧ 32 ≤ s.length := by
  unfold unpackB at h
  split at h
  · cases h
  · split at h
    · cases h
    · split at h
      · injection h with h
        injection h with h _
        exact ⟨h.symm, by omega⟩
      · cases h
theorem ends_recs {E q : Nat} {L : List Sec} (h : Ends E L) : ∀ f, recs E f q L = []
  | 0 => rfl
  | f + 1 => by
    simp only [recs]
    cases hu : unpackB L.flatten with
    | none => rfl
    | some x =>
      obtain ⟨e, q', b, k⟩ := x
      obtain ⟨h1, h2⟩ := unpack_epoch hu
      cases L with
      | nil => simp at h2
      | cons c L =>
        obtain ⟨h3, h4⟩ := h c rfl
        rw [List.flatten_cons, numK_left (by omega)] at h1
        simp only
        rw [if_neg (fun hh => h4 (by rw [← h1]; exact hh.1))]

/-- A log behind a crash: the first K records whole, the others each whole, or not of its epoch. -/
inductive LogT (E : Nat) : Nat → Nat → List Bs → List Sec → Prop
  | nil (q : Nat) (R : List Sec) (h : Ends E R) : LogT E q 0 [] R
  | sure (q K : Nat) (b : Bs) (W : List Bs) (L : List Sec) (hb : b.length < 65536) (hq : q + 1 < 4294967296) (h : LogT E (q + 1) K W L) : LogT E q (K + 1) (b :: W) (secsB E (q + 1) b ++ L)
  | torn (q : Nat) (b : Bs) (W : List Bs) (C L : List Sec) (hb : b.length < 65536) (hq : q + 1 < 4294967296) (hC : Torn E (q + 1) b C) (h : LogT E (q + 1) 0 W L) : LogT E q 0 (b :: W) (C ++ L)

/-- What is read: some first records, all that are sure among them. -/
theorem recs_log {E : Nat} (hE : E < 256) {q K : Nat} {W : List Bs} {L : List Sec} (h : LogT E q K W L) : ∀ f, W.length < f → ∃ m, K ≤ m ∧ m ≤ W.length ∧ recs E f q L = W.take m := by
  induction h with
  | nil q R h => exact fun f _ => ⟨0, Nat.le_refl _, Nat.le_refl _, by rw [ends_recs h]; rfl⟩
  | sure q K b W L hb hq h ih =>
    intro f hf
    cases f with
    | zero => omega
    | succ f =>
      obtain ⟨m, h1, h2, h3⟩ := ih f (by simp only [List.length_cons] at hf; omega)
      have hu : unpackB (secsB E (q + 1) b ++ L).flatten = some (E, q + 1, b, secs b.length) := by
        rw [List.flatten_append, secsB_flat]
        exact unpack_pack _ (by omega) hq hb
      refine ⟨m + 1, by omega, by simp only [List.length_cons]; omega, ?_⟩
      simp only [recs, hu]
      rw [if_pos (by simp), List.drop_left' (secsB_length _ _ _), h3]; rfl
  | torn q b W C L hb hq hC h ih =>
    intro f hf
    cases f with
    | zero => omega
    | succ f =>
      obtain ⟨m, h1, h2, h3⟩ := ih f (by simp only [List.length_cons] at hf; omega)
      simp only [recs]
      cases hu : unpackB (C ++ L).flatten with
      | none => exact ⟨0, Nat.le_refl _, Nat.zero_le _, rfl⟩
      | some x =>
        obtain ⟨e, q', b', k⟩ := x
        simp only
        by_cases he : e = E ∧ q' = q + 1
        · obtain ⟨rfl, rfl⟩ := he
          rw [List.flatten_append] at hu
          obtain ⟨_, rfl, rfl, rfl⟩ := torn_record hE hq hb hC hu
          refine ⟨m + 1, by omega, by simp only [List.length_cons]; omega, ?_⟩
          rw [if_pos ⟨rfl, rfl⟩, List.drop_left' (secsB_length _ _ _), h3]; rfl
        · rw [if_neg he]
          exact ⟨0, Nat.le_refl _, Nat.zero_le _, rfl⟩

/-- A log as it is for good, and as it is: K records are for good; of the others' places each old sector is of another epoch. -/
inductive LogN (E : Nat) : Nat → Nat → List Bs → List Sec → List Sec → Prop
  | nil (q : Nat) (R : List Sec) (h : Ends E R) : LogN E q 0 [] R R
  | sure (q K : Nat) (b : Bs) (W : List Bs) (g n : List Sec) (hb : b.length < 65536) (hq : q + 1 < 4294967296) (h : LogN E (q + 1) K W g n) : LogN E q (K + 1) (b :: W) (secsB E (q + 1) b ++ g) (secsB E (q + 1) b ++ n)
  | fresh (q : Nat) (b : Bs) (W : List Bs) (G g n : List Sec) (hb : b.length < 65536) (hq : q + 1 < 4294967296) (hl : G.length = secs b.length) (hG : ∀ o ∈ G, Old E o) (h : LogN E (q + 1) 0 W g n) : LogN E q 0 (b :: W) (G ++ g) (secsB E (q + 1) b ++ n)

/-- What a crash may leave. -/
def Mixed (g n c : List Sec) : Prop := c.length = g.length ∧ ∀ (i : Nat) (x y z : Sec), g[i]? = some x → n[i]? = some y → c[i]? = some z → ∃ m, m ≤ 32 ∧ z = mix m x y
theorem secsB_32 {e q : Nat} {b : Bs} : ∀ c ∈ secsB e q b, c.length = 32 := by
  intro c hc
  unfold secsB at hc
  obtain ⟨j, _, rfl⟩ := List.mem_map.1 hc
  exact secB_length _ _ _ _
theorem mix_same {x : Sec} {m : Nat} : mix m x x = x := by unfold mix; exact List.take_append_drop m x
theorem mixed_split {G g N n c : List Sec} (hl : G.length = N.length) (h : Mixed (G ++ g) (N ++ n) c) : ∃ C c', c = C ++ c' ∧ Mixed G N C ∧ Mixed g n c' := by
  refine ⟨c.take G.length, c.drop G.length, (List.take_append_drop _ _).symm, ⟨by rw [List.length_take, h.1, List.length_append]; omega, fun i x y z hx hy hz => ?_⟩, ⟨by rw [List.length_drop, h.1, List.length_append]; omega, fun i x y z hx hy hz => ?_⟩⟩
  · have hi := (List.getElem?_eq_some_iff.1 hx).1
    have hi2 := (List.getElem?_eq_some_iff.1 hy).1
    rw [List.getElem?_take_of_lt hi] at hz
    exact h.2 i x y z (by rw [List.getElem?_append_left hi]; exact hx) (by rw [List.getElem?_append_left hi2]; exact hy) hz
  · rw [List.getElem?_drop] at hz
    exact h.2 (G.length + i) x y z (by rw [List.getElem?_append_right (by omega), show G.length + i - G.length = i by omega]; exact hx) (by rw [List.getElem?_append_right (by omega), show G.length + i - N.length = i by omega]; exact hy) hz
theorem mixed_same {g c : List Sec} (h : Mixed g g c) : c = g := by
  apply List.ext_getElem?
  intro i
  by_cases hi : i < g.length
  · have hc : i < c.length := by rw [h.1]; exact hi
    obtain ⟨m, _, e⟩ := h.2 i g[i] g[i] c[i] (List.getElem?_eq_getElem hi) (List.getElem?_eq_getElem hi) (List.getElem?_eq_getElem hc)
    rw [mix_same] at e
    rw [List.getElem?_eq_getElem hi, List.getElem?_eq_getElem hc, e]
  · rw [List.getElem?_eq_none (by rw [h.1]; omega), List.getElem?_eq_none (by omega)]
/-- A crash. -/
theorem log_crash {E q K : Nat} {W : List Bs} {g n : List Sec} (h : LogN E q K W g n) : ∀ c, Mixed g n c → LogT E q K W c := by
  induction h with
  | nil q R h =>
    intro c hc
    rw [mixed_same hc]
    exact .nil q R h
  | sure q K b W g n hb hq h ih =>
    intro c hc
    obtain ⟨C, c', rfl, h1, h2⟩ := mixed_split rfl hc
    rw [mixed_same h1]
    exact .sure q K b W c' hb hq (ih c' h2)
  | fresh q b W G g n hb hq hl hG h ih =>
    intro c hc
    obtain ⟨C, c', rfl, h1, h2⟩ := mixed_split (by rw [hl, secsB_length]) hc
    refine .torn q b W C c' hb hq ⟨by rw [h1.1, hl], fun j z hz => ?_⟩ (ih c' h2)
    have hj : j < C.length := (List.getElem?_eq_some_iff.1 hz).1
    have hjG : j < G.length := by rw [← h1.1]; exact hj
    obtain ⟨m, hm, e⟩ := h1.2 j G[j] _ z (List.getElem?_eq_getElem hjG) (secsB_at (by omega)) hz
    obtain ⟨o1, o2, o3⟩ := hG G[j] (List.getElem_mem hjG)
    exact ⟨m, G[j], hm, o1, o2, o3, e⟩
/-- A flush: all records are for good. -/
theorem log_flush {E q K : Nat} {W : List Bs} {g n : List Sec} (h : LogN E q K W g n) : LogN E q W.length W n n := by
  induction h with
  | nil q R h => exact .nil q R h
  | sure q K b W g n hb hq h ih => exact .sure q _ b W n n hb hq ih
  | fresh q b W G g n hb hq hl hG h ih => exact .sure q _ b W n n hb hq ih
theorem log_len {E q K : Nat} {W : List Bs} {g n : List Sec} (h : LogN E q K W g n) : g.length = n.length ∧ span W ≤ n.length ∧ K ≤ W.length := by
  induction h with
  | nil q R h => exact ⟨rfl, by simp [span], Nat.le_refl _⟩
  | sure q K b W g n hb hq h ih =>
    obtain ⟨h1, h2, h3⟩ := ih
    refine ⟨by simp [h1], ?_, by simp; omega⟩
    rw [List.length_append, secsB_length]
    have : span (b :: W) = secs b.length + span W := by simp [span]
    omega
  | fresh q b W G g n hb hq hl hG h ih =>
    obtain ⟨h1, h2, h3⟩ := ih
    refine ⟨by rw [List.length_append, List.length_append, hl, secsB_length, h1], ?_, by simp⟩
    rw [List.length_append, secsB_length]
    have : span (b :: W) = secs b.length + span W := by simp [span]
    omega
/-- One more record, where all sectors behind the log are old. -/
theorem log_append {E q K : Nat} {W : List Bs} {g n : List Sec} (h : LogN E q K W g n) : ∀ (b : Bs), b.length < 65536 → q + W.length + 1 < 4294967296 → span W + secs b.length ≤ n.length → (∀ o ∈ g.drop (span W), Old E o) → g.drop (span W) = n.drop (span W) →
    LogN E q K (W ++ [b]) g (n.take (span W) ++ secsB E (q + W.length + 1) b ++ n.drop (span W + secs b.length)) := by
  induction h with
  | nil q R h =>
    intro b hb hq hl hO he
    simp only [span, List.map_nil, List.sum_nil, List.drop_zero, List.take_zero, List.nil_append, Nat.zero_add, List.length_nil, Nat.add_zero] at hl hO hq ⊢
    have hR : R = R.take (secs b.length) ++ R.drop (secs b.length) := (List.take_append_drop _ _).symm
    have hx := LogN.fresh (E := E) q b [] (R.take (secs b.length)) (R.drop (secs b.length)) (R.drop (secs b.length)) hb hq (by rw [List.length_take]; omega) (fun o ho => hO o (List.mem_of_mem_take ho)) (.nil (q + 1) _ fun c hc => by
      have : c ∈ R.drop (secs b.length) := List.mem_of_mem_head? (by rw [hc]; rfl)
      obtain ⟨o1, _, o3⟩ := hO c (List.mem_of_mem_drop this)
      exact ⟨o1, o3⟩)
    rw [← hR] at hx
    exact hx
  | sure q K x W g n hb hq h ih =>
    intro b hb' hq' hl hO he
    have hs : span (x :: W) = secs x.length + span W := by simp [span]
    have hx := secsB_length E (q + 1) x
    rw [hs] at hl hO he ⊢
    rw [List.length_append, hx] at hl
    have d1 : ∀ (L : List Sec) (k : Nat), (secsB E (q + 1) x ++ L).drop (secs x.length + k) = L.drop k := fun L k => by rw [← List.drop_drop, List.drop_left' hx]
    have t1 : ∀ (L : List Sec) (k : Nat), (secsB E (q + 1) x ++ L).take (secs x.length + k) = secsB E (q + 1) x ++ L.take k := fun L k => by rw [List.take_append, hx, List.take_of_length_le (by omega), show secs x.length + k - secs x.length = k by omega]
    rw [d1] at hO
    rw [d1, d1] at he
    have := ih b hb' (by simp only [List.length_cons] at hq'; omega) (by omega) hO he
    rw [t1, Nat.add_assoc (secs x.length) (span W) (secs b.length), d1, List.cons_append, List.append_assoc, List.append_assoc]
    rw [List.append_assoc, show q + 1 + W.length + 1 = q + (x :: W).length + 1 by simp only [List.length_cons]; omega] at this
    exact .sure q K x (W ++ [b]) _ _ hb hq this
  | fresh q x W G g n hb hq hGl hG h ih =>
    intro b hb' hq' hl hO he
    have hs : span (x :: W) = secs x.length + span W := by simp [span]
    have hx := secsB_length E (q + 1) x
    rw [hs] at hl hO he ⊢
    rw [List.length_append, hx] at hl
    have d1 : ∀ (L : List Sec) (k : Nat), (secsB E (q + 1) x ++ L).drop (secs x.length + k) = L.drop k := fun L k => by rw [← List.drop_drop, List.drop_left' hx]
    have d2 : ∀ (L : List Sec) (k : Nat), (G ++ L).drop (secs x.length + k) = L.drop k := fun L k => by rw [← List.drop_drop, List.drop_left' hGl]
    have t1 : ∀ (L : List Sec) (k : Nat), (secsB E (q + 1) x ++ L).take (secs x.length + k) = secsB E (q + 1) x ++ L.take k := fun L k => by rw [List.take_append, hx, List.take_of_length_le (by omega), show secs x.length + k - secs x.length = k by omega]
    rw [d2] at hO
    rw [d2, d1] at he
    have := ih b hb' (by simp only [List.length_cons] at hq'; omega) (by omega) hO he
    rw [t1, Nat.add_assoc (secs x.length) (span W) (secs b.length), d1, List.cons_append, List.append_assoc, List.append_assoc]
    rw [List.append_assoc, show q + 1 + W.length + 1 = q + (x :: W).length + 1 by simp only [List.length_cons]; omega] at this
    exact .fresh q x (W ++ [b]) G _ _ hb hq hGl hG this

end Go.Proofs.Ytdgfoldobofgoaa.Jrn
/- Journal: a checkpoint's sector, and what may lie in the place that has not the disk's checkpoint. -/
namespace Go.Proofs.Ytdgfoldobofgoaa.Jrn
open Oct
open Chk
open Frm
open Dsk (Sec mix mix_at mix_length mix_whole mix_none)
set_option linter.unusedVariables false

/-- A sector with the data of a checkpoint (its epoch, its number, how many records there were), and a stamp of its epoch and some number. -/
def jk (e Q c k : Nat) : Sec := secB (dataB e Q (beB 2 c)) (Frm.mark e k) 0
abbrev ckS (e Q c : Nat) : Sec := jk e Q c Q
theorem jk_length (e Q c k : Nat) : (jk e Q c k).length = 32 := secB_length _ _ _ _
theorem jk_epoch {e Q c k : Nat} (he : e < 4294967296) : numK (jk e Q c k) 24 4 = e := secB_epoch he
theorem secB_at_data (d mk : Bs) {i : Nat} (h : i < 24) : (secB d mk 0).getD i 0 = d.getD i 0 := by
  unfold secB
  rw [getD_left (by rw [chunk_length]; exact h)]
  simp [chunk, List.getD, h]
theorem secB_at_stamp (d mk : Bs) (r : Nat) : (secB d mk 0).getD (24 + r) 0 = mk.getD r 0 := by
  unfold secB
  rw [List.getD, List.getElem?_append_right (by rw [chunk_length]; omega), chunk_length, show 24 + r - 24 = r by omega, List.getD]
theorem mark_seq (e k r : Nat) : (Frm.mark e k).getD (4 + r) 0 = (beB 4 k).getD r 0 := by
  unfold Frm.mark
  rw [List.getD, List.getElem?_append_right (by rw [beB_length]; omega), beB_length, show 4 + r - 4 = r by omega, List.getD]
theorem secB_seq {d : Bs} {e q : Nat} (hq : q < 4294967296) : numK (secB d (Frm.mark e q) 0) 28 4 = q := by
  refine four_be _ 28 q hq fun r hr => ?_
  rw [show 28 + r = 24 + (4 + r) by omega, secB_at_stamp, mark_seq, getD_is (beB_at 4 q r hr)]
theorem jk_seq {e Q c k : Nat} (hk : k < 4294967296) : numK (jk e Q c k) 28 4 = k := secB_seq hk

theorem data_sum (e q : Nat) (b : Bs) {r : Nat} (h : r < 4) : (dataB e q b).getD (2 + r) 0 = UInt8.ofNat (sumR e q b / 256 ^ (3 - r)) := by
  unfold dataB
  rw [List.append_assoc, List.getD, List.getElem?_append_right (by rw [beB_length]; omega), beB_length, show 2 + r - 2 = r by omega, List.getElem?_append_left (by rw [beB_length]; exact h), beB_at 4 _ r h]; rfl
theorem data_body (e q : Nat) (b : Bs) (r : Nat) : (dataB e q b).getD (6 + r) 0 = b.getD r 0 := by
  unfold dataB
  rw [List.getD, List.getElem?_append_right (by rw [List.length_append, beB_length, beB_length]; omega), List.length_append, beB_length, beB_length, show 6 + r - (2 + 4) = r by omega, List.getD]
theorem sum_msg (e q c : Nat) : sumR e q (beB 2 c) = (crc 0xffffffff#32 (msg e q c)).toNat := by
  unfold sumR msg
  rw [beB_length]
theorem two_of (b : Bs) (c : Nat) (hc : c < 256) (hl : b.length = 2) (h0 : b.getD 0 0 = 0) (h1 : b.getD 1 0 = UInt8.ofNat c) : b = beB 2 c := by
  rw [be_low2 c hc]
  match b, hl with
  | [x, y], _ => simp at h0 h1; rw [h0, h1]

/-- A record of two bytes has one sector. -/
theorem valid_two {X rest : Bs} {e q k : Nat} {b : Bs} (hX : X.length = 32) (h2 : two X = 2) (hu : unpackB (X ++ rest) = some (e, q, b, k)) : k = 1 ∧ b.length = 2 ∧ e < 4294967296 ∧ q < 4294967296 ∧ X = secB (dataB e q b) (Frm.mark e q) 0 := by
  obtain ⟨u1, u2, u3, u4, u5, u6⟩ := unpack_some hu
  have hk := secs_pos b.length
  have hl : b.length = 2 := by
    have h1 := two_pack (e := e) (q := q) (b := b) (rest := []) u3
    rw [List.append_nil, u6] at h1
    rw [← h1, ← h2]
    unfold two
    have g : ∀ i, i < 2 → ((X ++ rest).take (32 * k)).getD i 0 = X.getD i 0 := fun i hi => by
      rw [List.getD, List.getElem?_take_of_lt (by omega), List.getElem?_append_left (by omega), List.getD]
    rw [g 0 (by omega), g 1 (by omega)]
  have hk1 : k = 1 := by rw [u4, hl]; rfl
  refine ⟨hk1, hl, u1, u2, ?_⟩
  rw [hk1, List.take_append_of_le_length (by omega), List.take_of_length_le (by omega)] at u6
  rw [← u6]
  unfold packB
  rw [hl, show secs 2 = 0 + 1 from rfl, packN_sector]; rfl

/-- What a torn checkpoint over a torn one leaves: no record. -/
def HighX (Q c e Q1 c1 k m : Nat) (X : Sec) : Prop := e < 63 ∧ Q < 64 ∧ c < 256 ∧ Q1 < 64 ∧ k < 64 ∧ k ≠ Q1 ∧ c1 < 256 ∧ m ≤ 27 ∧ X = mix m (jk e Q1 c1 k) (ckS (e + 1) Q c)
theorem jk_zero {e Q c k : Nat} (he : e < 256) {r : Nat} (hr : r < 3) : (jk e Q c k).getD (24 + r) 0 = 0 := by
  unfold jk
  rw [secB_at_stamp]
  unfold Frm.mark
  rw [getD_left (by rw [beB_length]; omega), be_low4 e he]
  match r, hr with
  | 0, _ => rfl
  | 1, _ => rfl
  | 2, _ => rfl
theorem high_stamp {Q c e Q1 c1 k m : Nat} {X : Sec} (h : HighX Q c e Q1 c1 k m X) : X.length = 32 ∧ numK X 24 4 = e ∧ numK X 28 4 = k ∧ two X = 2 := by
  obtain ⟨h1, h2, h3, h4, h5, h6, h7, h8, rfl⟩ := h
  have hj := jk_length e Q1 c1 k
  have hn := jk_length (e + 1) Q c Q
  have hg := fun r => mix_getD (r := r) hj hn (show m ≤ 32 by omega)
  refine ⟨mix_length hj hn (by omega), ?_, ?_, ?_⟩
  · refine (numK_congr 4 fun r hr => ?_).trans (jk_epoch (e := e) (Q := Q1) (c := c1) (k := k) (by omega))
    rw [hg]
    by_cases h3 : r < 3
    · split
      · rw [jk_zero (by omega) h3, jk_zero (by omega) h3]
      · rfl
    · rw [if_neg (by omega)]
  · exact (numK_congr 4 fun r hr => by rw [hg, if_neg (by omega)]).trans (jk_seq (e := e) (Q := Q1) (c := c1) (k := k) (by omega))
  · have d : ∀ (e Q c k i : Nat), i < 2 → (jk e Q c k).getD i 0 = UInt8.ofNat (2 / 256 ^ (1 - i)) := fun e Q c k i hi => by
      unfold jk
      rw [secB_at_data _ _ (by omega), data_two hi, beB_length]
    unfold two
    rw [hg, hg]
    have e0 : (if 0 < m then (ckS (e + 1) Q c).getD 0 0 else (jk e Q1 c1 k).getD 0 0) = UInt8.ofNat (2 / 256 ^ (1 - 0)) := by split <;> exact d _ _ _ _ 0 (by omega)
    have e1 : (if 1 < m then (ckS (e + 1) Q c).getD 1 0 else (jk e Q1 c1 k).getD 1 0) = UInt8.ofNat (2 / 256 ^ (1 - 1)) := by split <;> exact d _ _ _ _ 1 (by omega)
    rw [e0, e1]
    decide
theorem high_none {Q c e Q1 c1 k m : Nat} {X rest : Bs} (h : HighX Q c e Q1 c1 k m X) : unpackB (X ++ rest) = none := by
  obtain ⟨hX, he, hk, h2⟩ := high_stamp h
  cases hu : unpackB (X ++ rest) with
  | none => rfl
  | some x =>
    exfalso
    obtain ⟨e', q', b, kk⟩ := x
    obtain ⟨_, hb, b1, b2, hXe⟩ := valid_two hX h2 hu
    obtain ⟨h1, h2', h3, h4, h5, h6, h7, h8, hm⟩ := h
    rw [hXe] at he hk
    rw [secB_epoch b1] at he
    rw [secB_seq b2] at hk
    subst he hk
    have hj := jk_length e' Q1 c1 q'
    have hn := jk_length (e' + 1) Q c Q
    -- byte by byte
    have hd : ∀ i, i < 24 → (dataB e' q' b).getD i 0 = if i < m then (dataB (e' + 1) Q (beB 2 c)).getD i 0 else (dataB e' Q1 (beB 2 c1)).getD i 0 := fun i hi => by
      have h9 := mix_getD (r := i) hj hn (show m ≤ 32 by omega)
      rw [← hm, hXe, secB_at_data _ _ hi] at h9
      rw [h9]
      split
      · unfold jk; rw [secB_at_data _ _ hi]
      · unfold jk; rw [secB_at_data _ _ hi]
    by_cases hm5 : m ≤ 5
    · have hb0 := hd 6 (by omega)
      have hb1 := hd 7 (by omega)
      rw [if_neg (by omega), show 6 = 6 + 0 from rfl, data_body, data_body, be_low2 c1 h7] at hb0
      rw [if_neg (by omega), show 7 = 6 + 1 from rfl, data_body, data_body, be_low2 c1 h7] at hb1
      have hbb := two_of b c1 h7 hb hb0 hb1
      have hs := hd 5 (by omega)
      rw [if_neg (by omega), show 5 = 2 + 3 from rfl, data_sum _ _ _ (by omega), data_sum _ _ _ (by omega), hbb, sum_msg, sum_msg, show 3 - 3 = 0 from rfl, Nat.pow_zero, Nat.div_one, Nat.div_one] at hs
      have hs' := congrArg UInt8.toNat hs
      rw [u8_of, u8_of] at hs'
      exact low_byte e' Q1 q' c1 (by omega) h4 h5 h7 h6 _ hs'
    · have hbv : ∃ c2, c2 < 256 ∧ b = beB 2 c2 := by
        have hb0 := hd 6 (by omega)
        have hb1 := hd 7 (by omega)
        rw [show 6 = 6 + 0 from rfl, data_body, data_body, data_body, be_low2 c1 h7, be_low2 c h3] at hb0
        rw [show 7 = 6 + 1 from rfl, data_body, data_body, data_body, be_low2 c1 h7, be_low2 c h3] at hb1
        have z : b.getD 0 0 = 0 := by rw [hb0]; split <;> rfl
        by_cases h7m : 7 < m
        · rw [if_pos (by omega)] at hb1
          exact ⟨c, h3, two_of b c h3 hb z hb1⟩
        · rw [if_neg (by omega)] at hb1
          exact ⟨c1, h7, two_of b c1 h7 hb z hb1⟩
      obtain ⟨c2, hc2, rfl⟩ := hbv
      have hs : ∀ r, r < 4 → UInt8.ofNat (sumR e' q' (beB 2 c2) / 256 ^ (3 - r)) = UInt8.ofNat (sumR (e' + 1) Q (beB 2 c) / 256 ^ (3 - r)) := fun r hr => by
        have := hd (2 + r) (by omega)
        rw [if_pos (by omega), data_sum _ _ _ hr, data_sum _ _ _ hr] at this
        exact this
      have hbe : beB 4 (sumR e' q' (beB 2 c2)) = beB 4 (sumR (e' + 1) Q (beB 2 c)) := by
        apply List.ext_getElem?
        intro r
        by_cases hr : r < 4
        · rw [beB_at 4 _ r hr, beB_at 4 _ r hr]
          exact congrArg some (hs r hr)
        · rw [List.getElem?_eq_none (by rw [beB_length]; omega), List.getElem?_eq_none (by rw [beB_length]; omega)]
      have hse := be4_inj (by unfold sumR; exact (crc _ _).isLt) (by unfold sumR; exact (crc _ _).isLt) hbe
      rw [sum_msg, sum_msg] at hse
      exact sums_unlike e' q' c2 (e' + 1) Q c (by omega) h5 hc2 (by omega) h2' h3 (by omega) _ (BitVec.eq_of_toNat_eq hse)

/-! ### The other place -/

/-- What lies in the place that has not the disk's checkpoint (of epoch E): something of a lower epoch, or something torn that is no record; M: no epoch is greater. -/
def Low (E : Nat) (X : Sec) : Prop := X.length = 32 ∧ numK X 24 4 < E ∧ numK X 28 4 < 64
def High (E M Q c : Nat) (X : Sec) : Prop := ∃ e Q1 c1 k m, E < e ∧ e ≤ M ∧ HighX Q c e Q1 c1 k m X
def Other (E M Q c : Nat) (X : Sec) : Prop := Low E X ∨ High E M Q c X
theorem other_length {E M Q c : Nat} {X : Sec} (h : Other E M Q c X) : X.length = 32 := by
  rcases h with h | ⟨e, Q1, c1, k, m, _, _, h⟩
  · exact h.1
  · exact (high_stamp h).1
theorem mix_mix {m m' : Nat} {o n : Sec} (ho : o.length = 32) (hn : n.length = 32) (hm : m ≤ 32) (hm' : m' ≤ 32) : mix m' (mix m o n) n = mix (max m m') o n := by
  apply List.ext_getElem?
  intro i
  rw [mix_at (mix_length ho hn hm) hn hm', mix_at ho hn hm, mix_at ho hn (by omega)]
  by_cases h1 : i < m'
  · rw [if_pos h1, if_pos (by omega)]
  · rw [if_neg h1]
    by_cases h2 : i < m
    · rw [if_pos h2, if_pos (by omega)]
    · rw [if_neg h2, if_neg (by omega)]
/-- A checkpoint's sector torn behind its epoch: it is the checkpoint's, or its data with another number. -/
theorem torn_late {X : Sec} {e Q c m : Nat} (hX : X.length = 32) (he : e < 64) (hQ : Q < 64) (hs : numK X 28 4 < 64) (h1 : 28 ≤ m) (h2 : m ≤ 31) : mix m X (ckS e Q c) = jk e Q c (numK X 28 4) := by
  have hn := jk_length e Q c Q
  apply List.ext_getElem?
  intro i
  rw [mix_at hX hn (by omega)]
  by_cases hi : i < 28
  · rw [if_pos (by omega)]
    have hJ0 : ∀ k, (jk e Q c k)[i]? = (chunk (dataB e Q (beB 2 c)) 0 ++ beB 4 e)[i]? := fun k => by
      unfold jk secB Frm.mark
      rw [← List.append_assoc]
      exact List.getElem?_append_left (by rw [List.length_append, chunk_length, beB_length]; omega)
    rw [hJ0, hJ0]
  · by_cases h32 : i < 32
    · obtain ⟨r, rfl⟩ : ∃ r, i = 28 + r := ⟨i - 28, by omega⟩
      obtain ⟨z0, z1, z2, z3⟩ := small4 (s := X) (o := 28) (by omega)
      have hXr : ∀ r, r < 4 → X[28 + r]? = (beB 4 (numK X 28 4))[r]? := fun r hr => by
        rw [be_low4 _ (by omega)]
        have hg : X[28 + r]? = some (X.getD (28 + r) 0) := by simp [List.getD, show 28 + r < X.length by omega]
        rw [hg]
        obtain rfl | rfl | rfl | rfl : r = 0 ∨ r = 1 ∨ r = 2 ∨ r = 3 := by omega
        · exact congrArg some (UInt8.toNat.inj (by rw [Nat.add_zero, z0]; rfl))
        · exact congrArg some (UInt8.toNat.inj (by rw [z1]; rfl))
        · exact congrArg some (UInt8.toNat.inj (by rw [z2]; rfl))
        · exact congrArg some (UInt8.toNat.inj (by rw [z3, u8_of]; omega))
      have hJ : ∀ k r, (jk e Q c k)[28 + r]? = (beB 4 k)[r]? := fun k r => by
        unfold jk secB Frm.mark
        rw [List.getElem?_append_right (by rw [chunk_length]; omega), chunk_length, List.getElem?_append_right (by rw [beB_length]; omega), beB_length]
        congr 1; omega
      rw [hJ, hJ, hXr r (by omega)]
      split
      · have hr : r < 3 := by omega
        rw [be_low4 Q (by omega), be_low4 _ (by omega)]
        match r, hr with
        | 0, _ => rfl
        | 1, _ => rfl
        | 2, _ => rfl
      · rfl
    · rw [if_neg (by omega), List.getElem?_eq_none (by omega), List.getElem?_eq_none (by rw [jk_length]; omega)]
theorem low_early {X : Sec} {E e Q c m : Nat} (h : Low E X) (he : e < 64) (hE : E ≤ 256) (hm : m ≤ 27) : Low E (mix m X (ckS e Q c)) := by
  obtain ⟨h1, h2, h3⟩ := h
  have hn := jk_length e Q c Q
  have hg := fun r => mix_getD (r := r) h1 hn (show m ≤ 32 by omega)
  obtain ⟨z0, z1, z2, z3⟩ := small4 (s := X) (o := 24) (by omega)
  refine ⟨mix_length h1 hn (by omega), ?_, ?_⟩
  · have : numK (mix m X (ckS e Q c)) 24 4 = numK X 24 4 := numK_congr 4 fun r hr => by
      rw [hg]
      by_cases h3 : r < 3
      · split
        · rw [jk_zero (by omega) h3]
          apply UInt8.toNat.inj
          obtain rfl | rfl | rfl : r = 0 ∨ r = 1 ∨ r = 2 := by omega
          · rw [Nat.add_zero, z0]; rfl
          · rw [z1]; rfl
          · rw [z2]; rfl
        · rfl
      · rw [if_neg (by omega)]
    rw [this]; exact h2
  · have : numK (mix m X (ckS e Q c)) 28 4 = numK X 28 4 := numK_congr 4 fun r hr => by rw [hg, if_neg (by omega)]
    rw [this]; exact h3
/-- What an attempt at a checkpoint that a crash cut short may leave of the other place: the checkpoint whole, or what may lie there. -/
theorem other_crash {E M Q c Q' c' e m : Nat} {X : Sec} (h : Other E M Q c X) (hHigh : High E M Q c X → Q' = Q ∧ c' = c) (he : E < e) (hX : ∀ x, numK X 24 4 = x → x < e ∧ (E < x → e = x + 1)) (he2 : e < 63) (hQ' : Q' < 64) (hc' : c' < 256) (hm : m ≤ 32) (Q2 c2 : Nat) (hQ2 : Q2 < 64) (hc2 : c2 < 256) (hcl : High E M Q c X → Q2 = Q ∧ c2 = c) :
    mix m X (ckS e Q' c') = ckS e Q' c' ∨ Other E e Q2 c2 (mix m X (ckS e Q' c')) := by
  have hXl := other_length h
  by_cases h32 : m = 32
  · exact .inl (by rw [h32, mix_whole hXl (jk_length _ _ _ _)])
  by_cases h28 : 28 ≤ m
  · have hs : numK X 28 4 < 64 := by
      rcases h with h | ⟨_, _, _, k, _, _, _, h⟩
      · exact h.2.2
      · rw [(high_stamp h).2.2.1]; exact h.2.2.2.2.1
    rw [torn_late hXl (by omega) hQ' hs h28 (by omega)]
    by_cases hk : numK X 28 4 = Q'
    · exact .inl (by rw [hk])
    · refine .inr (.inr ⟨e, Q', c', numK X 28 4, 0, he, Nat.le_refl _, he2, hQ2, hc2, hQ', hs, hk, hc', by omega, ?_⟩)
      rw [mix_none]
  · right
    rcases h with h | ⟨e1, Q1, c1, k, m1, g1, g2, h⟩
    · exact .inl (low_early h (by omega) (by omega) (by omega))
    · have hh : High E M Q c X := ⟨e1, Q1, c1, k, m1, g1, g2, h⟩
      obtain ⟨rfl, rfl⟩ := hHigh hh
      obtain ⟨rfl, rfl⟩ := hcl hh
      obtain ⟨h1, h2⟩ := hX _ (high_stamp h).2.1
      have he1 := h2 g1
      subst he1
      obtain ⟨a1, a2, a3, a4, a5, a6, a7, a8, rfl⟩ := h
      refine .inr ⟨e1, Q1, c1, k, max m1 m, g1, by omega, a1, a2, a3, a4, a5, a6, a7, by omega, ?_⟩
      exact mix_mix (jk_length _ _ _ _) (jk_length _ _ _ _) (by omega) hm
theorem other_none {E M Q c : Nat} {X rest : Bs} {e q k : Nat} {b : Bs} (h : Other E M Q c X) (hu : unpackB (X ++ rest) = some (e, q, b, k)) : e < E := by
  rcases h with h | ⟨_, _, _, _, _, _, _, h⟩
  · obtain ⟨h1, _⟩ := unpack_epoch hu
    rw [numK_left (by rw [h.1]; omega)] at h1
    rw [h1]; exact h.2.1
  · rw [high_none h] at hu
    cases hu
theorem other_epoch {E M Q c : Nat} {X : Sec} (h : Other E M Q c X) : numK X 24 4 < E ∨ (E < numK X 24 4 ∧ numK X 24 4 ≤ M) := by
  rcases h with h | ⟨_, _, _, _, _, h1, h2, h⟩
  · exact .inl h.2.1
  · rw [(high_stamp h).2.1]; exact .inr ⟨h1, h2⟩
end Go.Proofs.Ytdgfoldobofgoaa.Jrn
/- Journal: what a journal is, as plain data, beside its disk; what its calls do. -/
namespace Go.Proofs.Ytdgfoldobofgoaa.Jrn
open Oct
open Chk
open Frm
open Dsk (Sec DS mix mix_at mix_length mix_whole mix_none)
set_option linter.unusedVariables false

structure JS where
  slot : Nat
  place : Nat
  epoch : Nat
  seq : Nat
  next : Nat
  opened : Bool
  down : Bool

/-- Sectors laid over others. -/
def over (n : List Sec) (a : Nat) (cs : List Sec) : List Sec := n.take a ++ cs ++ n.drop (a + cs.length)
theorem over_length {n cs : List Sec} {a : Nat} (h : a + cs.length ≤ n.length) : (over n a cs).length = n.length := by simp [over]; omega
theorem over_at {n cs : List Sec} {a : Nat} (h : a + cs.length ≤ n.length) (i : Nat) : (over n a cs)[i]? = if i < a then n[i]? else if i < a + cs.length then cs[i - a]? else n[i]? := by
  have h1 : (n.take a).length = a := by rw [List.length_take]; omega
  unfold over
  by_cases ha : i < a
  · rw [if_pos ha, List.append_assoc, List.getElem?_append_left (by omega), List.getElem?_take_of_lt ha]
  · rw [if_neg ha]
    by_cases hb : i < a + cs.length
    · rw [if_pos hb, List.getElem?_append_left (by rw [List.length_append]; omega), List.getElem?_append_right (by omega), h1]
    · rw [if_neg hb, List.getElem?_append_right (by rw [List.length_append]; omega), List.length_append, h1, List.getElem?_drop]
      congr 1; omega
/-- All is written; or some of it. Without a fuse none is refused. -/
structure Put (s s' : DS) (a : Nat) (cs : List Sec) : Prop where
  good : s'.good = s.good
  now : s'.now = over s.now a cs
  ok : s'.Ok
  fuse : s.fuse = -1 → s'.fuse = -1
structure Half (s s' : DS) (a : Nat) (cs : List Sec) : Prop where
  good : s'.good = s.good
  len : s'.now.length = s.now.length
  now : ∀ i : Nat, s'.now[i]? = s.now[i]? ∨ s'.now[i]? = (over s.now a cs)[i]?
  ok : s'.Ok
  fuse : s.fuse ≠ -1
structure Sure (s s' : DS) (n : List Sec) : Prop where
  good : s'.good = n
  now : s'.now = n
  ok : s'.Ok
  fuse : s.fuse = -1 → s'.fuse = -1
/-- The disk's last epoch. -/
def lastE (c : List Sec) : Nat := (c.map fun x => numK x 24 4).foldl max 0
theorem foldl_max (l : List Nat) : ∀ a, a ≤ l.foldl max a ∧ (∀ x ∈ l, x ≤ l.foldl max a) ∧ (l.foldl max a = a ∨ l.foldl max a ∈ l) := by
  induction l with
  | nil => intro a; exact ⟨Nat.le_refl _, (fun x h => by cases h), .inl rfl⟩
  | cons y l ih =>
    intro a
    obtain ⟨h1, h2, h3⟩ := ih (max a y)
    refine ⟨by simp only [List.foldl_cons]; omega, fun x hx => ?_, ?_⟩
    · simp only [List.foldl_cons]
      rcases List.mem_cons.1 hx with rfl | hx
      · omega
      · exact h2 x hx
    · simp only [List.foldl_cons]
      rcases h3 with h3 | h3
      · rw [h3]
        rcases Nat.le_total a y with h | h
        · rw [Nat.max_eq_right h]; exact .inr (by simp)
        · rw [Nat.max_eq_left h]; exact .inl rfl
      · exact .inr (by simp [h3])
theorem last_ge {c : List Sec} {x : Sec} (h : x ∈ c) : numK x 24 4 ≤ lastE c := (foldl_max _ 0).2.1 _ (List.mem_map.2 ⟨x, h, rfl⟩)
theorem last_is (c : List Sec) : lastE c = 0 ∨ ∃ x ∈ c, numK x 24 4 = lastE c := by
  rcases (foldl_max (c.map fun x => numK x 24 4) 0).2.2 with h | h
  · exact .inl h
  · obtain ⟨x, hx, e⟩ := List.mem_map.1 h
    exact .inr ⟨x, hx, e⟩

/-- The disk's checkpoint: its place, its epoch, its number, its bytes. -/
def placeB (c : List Sec) (slot i : Nat) : Bs := ((c.drop (i * slot)).take slot).flatten
def pick (c : List Sec) (slot : Nat) : Option (Nat × Nat × Nat × Bs) := match unpackB (placeB c slot 0), unpackB (placeB c slot 1) with
  | none, none => none
  | some (e, q, b, _), none => some (0, e, q, b)
  | none, some (e, q, b, _) => some (1, e, q, b)
  | some (e, q, b, _), some (e', q', b', _) => if e < e' then some (1, e', q', b') else some (0, e, q, b)
def listed (c : List Sec) (slot E Q : Nat) : List Bs := recs E (c.length + 1) Q (c.drop (2 * slot))
def partOk (n : Nat) (slot : Int) : Prop := 1 ≤ slot ∧ 2 * slot < n
instance (n : Nat) (slot : Int) : Decidable (partOk n slot) := by unfold partOk; exact inferInstance

/-- What calls do: Format, Open (whose disk stays), Checkpoint, Append, Commit: the error, the journal and the disk behind it. -/
inductive FormatR (s : DS) (slot : Int) (b : Bs) : Nat → DS → Prop
  | arg (h : ¬ partOk s.good.length slot) : FormatR s slot b 1 s
  | big (h : partOk s.good.length slot) (h1 : 65535 < b.length) : FormatR s slot b 2 s
  | full (h : partOk s.good.length slot) (h1 : b.length ≤ 65535) (h2 : slot < secs b.length) : FormatR s slot b 5 s
  | done (s' : DS) (h : partOk s.good.length slot) (h1 : b.length ≤ 65535) (h2 : (secs b.length : Int) ≤ slot) (hs : Sure s s' (over s.now 0 (secsB 1 0 b))) : FormatR s slot b 0 s'
  | down (s' : DS) (h : partOk s.good.length slot) (h1 : b.length ≤ 65535) (h2 : (secs b.length : Int) ≤ slot) (hs : Half s s' 0 (secsB 1 0 b)) : FormatR s slot b 10 s'
inductive OpenR (s : DS) (slot : Int) : Nat → Option (JS × Bs × List Bs) → Prop
  | arg (h : ¬ partOk s.good.length slot) : OpenR s slot 1 none
  | lost (h : partOk s.good.length slot) (h1 : pick s.now slot.toNat = none) : OpenR s slot 15 none
  | done (p E Q : Nat) (b : Bs) (h : partOk s.good.length slot) (h1 : pick s.now slot.toNat = some (p, E, Q, b)) :
      OpenR s slot 0 (some ({ slot := slot.toNat, place := p, epoch := E, seq := Q + (listed s.now slot.toNat E Q).length, next := 2 * slot.toNat + span (listed s.now slot.toNat E Q), opened := false, down := false }, b, listed s.now slot.toNat E Q))
inductive CkR (j : JS) (s : DS) (b : Bs) : Nat → JS → DS → Prop
  | dead (h : j.down = true) : CkR j s b 10 j s
  | big (h : j.down = false) (h1 : 65535 < b.length ∨ 4294967295 ≤ lastE s.now) : CkR j s b 2 j s
  | full (h : j.down = false) (h1 : ¬ (65535 < b.length ∨ 4294967295 ≤ lastE s.now)) (h2 : j.slot < secs b.length) : CkR j s b 5 j s
  | done (s' : DS) (h : j.down = false) (h1 : ¬ (65535 < b.length ∨ 4294967295 ≤ lastE s.now)) (h2 : secs b.length ≤ j.slot) (hs : Sure s s' (over s.now ((1 - j.place) * j.slot) (secsB (lastE s.now + 1) j.seq b))) :
      CkR j s b 0 { j with epoch := lastE s.now + 1, place := 1 - j.place, next := 2 * j.slot, opened := true } s'
  | down (s' : DS) (h : j.down = false) (h1 : ¬ (65535 < b.length ∨ 4294967295 ≤ lastE s.now)) (h2 : secs b.length ≤ j.slot) (hs : Half s s' ((1 - j.place) * j.slot) (secsB (lastE s.now + 1) j.seq b)) :
      CkR j s b 10 { j with down := true } s'
inductive ApR (j : JS) (s : DS) (b : Bs) : Nat → JS → DS → Prop
  | dead (h : j.down = true) : ApR j s b 10 j s
  | closed (h : j.down = false) (h1 : j.opened = false) : ApR j s b 9 j s
  | big (h : j.down = false) (h1 : j.opened = true) (h2 : 65535 < b.length ∨ 4294967295 ≤ j.seq) : ApR j s b 2 j s
  | full (h : j.down = false) (h1 : j.opened = true) (h2 : ¬ (65535 < b.length ∨ 4294967295 ≤ j.seq)) (h3 : s.good.length < j.next + secs b.length) : ApR j s b 5 j s
  | done (s' : DS) (h : j.down = false) (h1 : j.opened = true) (h2 : ¬ (65535 < b.length ∨ 4294967295 ≤ j.seq)) (h3 : j.next + secs b.length ≤ s.good.length) (hs : Put s s' j.next (secsB j.epoch (j.seq + 1) b)) :
      ApR j s b 0 { j with seq := j.seq + 1, next := j.next + secs b.length } s'
  | down (s' : DS) (h : j.down = false) (h1 : j.opened = true) (h2 : ¬ (65535 < b.length ∨ 4294967295 ≤ j.seq)) (h3 : j.next + secs b.length ≤ s.good.length) (hs : Half s s' j.next (secsB j.epoch (j.seq + 1) b)) :
      ApR j s b 10 { j with down := true } s'
inductive CoR (j : JS) (s : DS) : Nat → JS → DS → Prop
  | dead (h : j.down = true) : CoR j s 10 j s
  | closed (h : j.down = false) (h1 : j.opened = false) : CoR j s 9 j s
  | done (s' : DS) (h : j.down = false) (h1 : j.opened = true) (hs : Sure s s' s.now) : CoR j s 0 j s'
  | down (s' : DS) (h : j.down = false) (h1 : j.opened = true) (hs : s'.good = s.good ∧ s'.now = s.now ∧ s'.Ok) (hf : s.fuse ≠ -1) : CoR j s 10 { j with down := true } s'
end Go.Proofs.Ytdgfoldobofgoaa.Jrn
/- Common: bytes that are made: 'make([]byte, n)', all 0. -/
namespace Go.Proofs.Ytdgfoldobofgoaa.Oct
open Go.RowKit
open Go.Sort
open Kit
set_option linter.unusedVariables false
theorem run_make_b (n : Nat) (z : Int) (hz : z = (n : Int)) (hn : n ≤ 1000000) (w : World) : (Instr.makeSlice 27 (.int .i64 z) (.int .i64 z)).run Try.prog w = .ok (.slice (some ⟨w.heap.size, 0, none⟩) n n) (w.alloc (.cells (madeCells #[.int .u8 0] n) 5)) := by
  subst hz
  obtain ⟨i0, hi, hz0, hz1, hz2⟩ := info_parts info8
  have := run_make (P := Try.prog) w 27 5 i0 (.int .u8 0) Try.underlying27 hi hz0 .i64 .i64 n n (by omega) (by omega) (by rw [hz2]; omega) (by omega)
  rw [hz1, Nat.mul_one] at this
  exact this
theorem made_b (n : Nat) : (madeCells #[Value.int .u8 0] n).toList = cellsB (List.replicate n 0) := by
  apply List.ext_getElem
  · simp [madeCells, cellsB]
  · intro i h1 h2
    simp [madeCells, cellsB, Nat.mod_one]
theorem own_made_b (w : World) (base n : Nat) (hb : base ≤ w.heap.size) (hn : n ≤ maxLen) : OwnB (w.alloc (.cells (madeCells #[.int .u8 0] n) 5)) base (.slice (some ⟨w.heap.size, 0, none⟩) n n) (List.replicate n 0) := by
  refine own_iff.2 ⟨by rw [cellsB_length, Nat.mul_one], .inr ⟨_, n, _, by rw [List.length_replicate], hb, heap_alloc_new w _, by rw [List.length_replicate]; exact Nat.le_refl _, hn, by rw [size_madeCells, Nat.mul_one], ?_⟩⟩
  rw [made_b, List.length_replicate, Nat.mul_one, List.take_of_length_le]
  rw [cellsB_length, List.length_replicate]; exact Nat.le_refl _
theorem own_lt {w : World} {base g n c : Nat} {l : List UInt8} (h : OwnB w base (.slice (some ⟨g, 0, none⟩) n c) l) : base ≤ g ∧ g < w.heap.size := World.ownsRow.lt h g rfl
theorem own_le {w : World} {base base' : Nat} {v : Value} {l : List UInt8} (h : OwnB w base v l) (hb : base' ≤ base) : OwnB w base' v l := ⟨h.1, h.2.imp id fun ⟨g, cap, cur, h1, h2, h3⟩ => ⟨g, cap, cur, h1, Nat.le_trans hb h2, h3⟩⟩
theorem run_cut (a : Option Addr) (n m c : Nat) (h1 : m ≤ n) (h2 : n ≤ c) (w : World) : (Instr.sliceAt 27 (.slice a n c) none (some (.int .i64 m)) none).run Try.prog w = .ok (.slice a m c) w := by
  simp [go_sem]
  intro h; omega
theorem run_cv_byte (x : UInt8) (w : World) : (convert 5 3 (.int .u8 (x.toNat : Int))).run Try.prog w = .ok (.int .i64 (x.toNat : Int)) w := by
  have := x.toNat_lt
  simp [go_sem]
  rw [IntKind.wrap_i64]; omega
theorem run_ld_byte {w : World} {a : Addr} {x : UInt8} (h : w.cell? a = some (.int .u8 (x.toNat : Int))) : (Instr.loadAt 5 (.pointer (some a))).run Try.prog w = .ok (.int .u8 (x.toNat : Int)) w := by
  simp [go_sem, h]
theorem run_at_b (b o n c k : Nat) (h : k < n) (w : World) : (Instr.indexAt 27 (.slice (some ⟨b, o, none⟩) n c) (.int .i64 (k : Nat))).run Try.prog w = .ok (.pointer (some ⟨b, o + k, none⟩)) w := by
  simp [go_sem]
  omega
/-- Byte k of a list in memory. -/
theorem byte_at {w : World} {b o k : Nat} {l : List UInt8} (h : RowB w (some ⟨b, o, none⟩) l) (hk : k < l.length) : w.cell? ⟨b, o + k, none⟩ = some (.int .u8 ((l.getD k 0).toNat : Int)) := by
  have := row_cell h hk rfl (i := 0) (by omega)
  simp only [encB, Nat.add_zero, Nat.mul_one, List.getElem?_cons_zero] at this
  rw [this]
  simp [List.getD, hk]
theorem row_at {w : World} {a : Option Addr} {l : List UInt8} (h : RowB w a l) (hl : 0 < l.length) : ∃ b o, a = some ⟨b, o, none⟩ := by
  rcases h with h | ⟨b, o, e, _⟩
  · rw [h] at hl; cases hl
  · exact ⟨b, o, e⟩
/-- A list of the call's own that is not empty: where it lies. -/
theorem own_form {w : World} {base : Nat} {v : Value} {l : List UInt8} (h : OwnB w base v l) (hl : 0 < l.length) : ∃ g c, v = .slice (some ⟨g, 0, none⟩) l.length c ∧ RowB w (some ⟨g, 0, none⟩) l ∧ base ≤ g ∧ g < w.heap.size ∧ l.length ≤ c ∧ c ≤ maxLen := by
  obtain ⟨a, c, rfl, h1, h2, h3, h4⟩ := own_row h
  rcases h.2 with ⟨e, _⟩ | ⟨g, cap, cur, e, h5, h6, _⟩
  · injection e with e
    have := h3 e; omega
  · injection e with e
    subst e
    exact ⟨g, c, rfl, h4, h5, (Array.getElem?_eq_some_iff.1 h6).1, h1, h2⟩
/-- Bytes that were made, or none: in memory that is new. -/
def NewB (w : World) (base : Nat) (v : Value) (l : List UInt8) : Prop := ∃ a cap, v = .slice a l.length cap ∧ l.length ≤ cap ∧ cap ≤ maxLen ∧ (a = none → l.length = 0 ∧ cap = 0) ∧ RowB w a l ∧ ∀ q, a = some q → base ≤ q.block ∧ q.block < w.heap.size
theorem new_own {w : World} {base : Nat} {v : Value} {l : List UInt8} (h : OwnB w base v l) : NewB w base v l := by
  obtain ⟨a, c, rfl, h1, h2, h3, h4⟩ := own_row h
  refine ⟨a, c, rfl, h1, h2, fun e => ⟨by have := h3 e; omega, h3 e⟩, h4, fun q hq => ?_⟩
  subst hq
  exact World.ownsRow.lt h q.block rfl
theorem new_nil (w : World) (base : Nat) : NewB w base (.slice none 0 0) [] := ⟨none, 0, rfl, Nat.le_refl _, by unfold maxLen; omega, fun _ => ⟨rfl, rfl⟩, .inl rfl, fun q hq => by cases hq⟩
end Go.Proofs.Ytdgfoldobofgoaa.Oct
/- Frame: what its calls answer, and what a program's frame is to do, whatever its code. -/
namespace Go.Proofs.Ytdgfoldobofgoaa.Frm
open Go.RowKit
open Go.Sort
open Kit
open Oct
open Chk
set_option linter.unusedVariables false

theorem results_tmp5 {fn : Func} {t u v x y : Tmp} (h : fn.results = #[.tmp t, .tmp u, .tmp v, .tmp x, .tmp y]) (tmps : Array Value) (P : Program) (w : World) :
    (results fn tmps).run P w = .ok (.tuple #[tmps.getD t undef, tmps.getD u undef, tmps.getD v undef, tmps.getD x undef, tmps.getD y undef]) w := by
  simp [results, h]
/-- What Unpack answers: epoch, number, bytes, sectors, error. -/
def ansU (s : Bs) : Nat × Nat × Bs × Nat × Nat := match unpackB s with | some (e, q, b, k) => (e, q, b, k, 0) | none => (0, 0, [], 0, 3)
theorem ansU_none {s : Bs} (h : unpackB s = none) : ansU s = (0, 0, [], 0, 3) := by unfold ansU; rw [h]
theorem ansU_some {s b : Bs} {e q k : Nat} (h : unpackB s = some (e, q, b, k)) : ansU s = (e, q, b, k, 0) := by unfold ansU; rw [h]

def inE (e q : Int) : Prop := (0 ≤ e ∧ e < 4294967296) ∧ (0 ≤ q ∧ q < 4294967296)
instance (e q : Int) : Decidable (inE e q) := by unfold inE; exact inferInstance
/-- What Pack answers. -/
def packA (e q : Int) (l : Bs) : Bs × Nat := if inE e q then (packB e.toNat q.toNat l, 0) else ([], 1)
abbrev PackR (w : World) (e q : Int) (l : Bs) (e' : Ending) (w' : World) : Prop := ∃ v, e' = .returned (.tuple #[v, .int .i64 ((packA e q l).2 : Nat)]) ∧ NewB w' w.heap.size v (packA e q l).1 ∧ Below w.heap.size w w'
abbrev UnpN (w : World) (s : Bs) (e' : Ending) (w' : World) : Prop := ∃ v, e' = .returned (.tuple #[.int .i64 ((ansU s).1 : Nat), .int .i64 ((ansU s).2.1 : Nat), v, .int .i64 ((ansU s).2.2.2.1 : Nat), .int .i64 ((ansU s).2.2.2.2 : Nat)]) ∧ NewB w' w.heap.size v (ansU s).2.2.1 ∧ Below w.heap.size w w'
/-- A slice that can be read. -/
structure Arg (w : World) (aa : Option Addr) (n c : Nat) (l : Bs) : Prop where
  len : l.length = n
  cap : n ≤ c
  max : c ≤ maxLen
  nil : aa = none → n = 0 ∧ c = 0
  row : RowB w aa l
theorem arg_keep {w w' : World} {aa : Option Addr} {len cap : Nat} {l : Bs} (h : Arg w aa len cap l) (hb : Below w.heap.size w w') : Arg w' aa len cap l := ⟨h.len, h.cap, h.max, h.nil, row_keep encB_len h.row hb⟩
theorem arg_take {w : World} {aa : Option Addr} {len cap : Nat} {l : Bs} (h : Arg w aa len cap l) (m : Nat) (hm : m ≤ len) : Arg w aa m cap (l.take m) :=
  ⟨by rw [List.length_take, h.len]; omega, Nat.le_trans hm h.cap, h.max, fun e => ⟨by have := h.nil e; omega, (h.nil e).2⟩, row_take h.row m⟩
theorem arg_new {w : World} {base : Nat} {v : Value} {l : Bs} (h : NewB w base v l) : ∃ a cap, v = .slice a l.length cap ∧ Arg w a l.length cap l := by
  obtain ⟨a, c, rfl, h1, h2, h3, h4, _⟩ := h
  exact ⟨a, c, rfl, rfl, h1, h2, h3, h4⟩

structure Prog : Prop where
  sectors : ∀ (n : Int) (w : World), -9223372036854775808 ≤ n ∧ n ≤ 9223372036854775807 → Calls Try.prog 34 #[.int .i64 n] w fun e w' => e = .returned (.int .i64 (secsI n : Nat)) ∧ Below w.heap.size w w'
  pack : ∀ (e q : Int) (aa : Option Addr) (len cap : Nat) (l : Bs) (w : World), -9223372036854775808 ≤ e ∧ e ≤ 9223372036854775807 → -9223372036854775808 ≤ q ∧ q ≤ 9223372036854775807 → Arg w aa len cap l → len ≤ 3000 →
    Calls Try.prog 35 #[.int .i64 e, .int .i64 q, .slice aa len cap] w fun e' w' => PackR w e q l e' w'
  unpack : ∀ (aa : Option Addr) (len cap : Nat) (l : Bs) (w : World), Arg w aa len cap l → len ≤ 4000 → Calls Try.prog 37 #[.slice aa len cap] w fun e' w' => UnpN w l e' w'

end Go.Proofs.Ytdgfoldobofgoaa.Frm
/- Common: arrays: blocks of cells that are the call's own. -/
namespace Go.Proofs.Ytdgfoldobofgoaa.Arr
open Go.RowKit
open Go.Sort
open Kit

/-- A block's cells. -/
def Blk (w : World) (b : Nat) (t : TypeId) (cs : List Value) : Prop := w.heap[b]? = some (.cells cs.toArray t (0, 0))
theorem blk_cell {w : World} {b : Nat} {t : TypeId} {cs : List Value} (h : Blk w b t cs) (j : Nat) : w.cell? ⟨b, j, none⟩ = cs[j]? := by
  unfold Blk at h
  simp [World.cell?, h]
theorem blk_frozen {w : World} {b : Nat} {t : TypeId} {cs : List Value} (h : Blk w b t cs) (j : Nat) : w.frozen? ⟨b, j, none⟩ = false := by
  unfold Blk at h
  simp [World.frozen?, h]
theorem blk_lt {w : World} {b : Nat} {t : TypeId} {cs : List Value} (h : Blk w b t cs) : b < w.heap.size := (Array.getElem?_eq_some_iff.1 h).1
theorem blk_row {w : World} {b : Nat} {t : TypeId} {cs : List Value} (h : Blk w b t cs) (ds : List Value) : Blk (w.setRow b ds.toArray) b t ds := setRow_heap w b _ _ t _ h
theorem blk_row_far {w : World} {b b' : Nat} {t : TypeId} {cs : List Value} (h : Blk w b t cs) (hne : b ≠ b') (ds : Array Value) : Blk (w.setRow b' ds) b t cs := by
  unfold Blk; rw [setRow_other w b' b ds hne]; exact h
theorem blk_set {w : World} {b : Nat} {t : TypeId} {cs : List Value} (h : Blk w b t cs) (i : Nat) (v : Value) : Blk (w.setCell ⟨b, i, none⟩ v) b t (cs.set i v) := by
  rw [setCell_eq_setRow w b i _ t _ v h]
  have := blk_row h (cs.set i v)
  simpa using this
theorem blk_set_far {w : World} {b b' : Nat} {t : TypeId} {cs : List Value} (h : Blk w b t cs) (hne : b ≠ b') (i : Nat) (v : Value) : Blk (w.setCell ⟨b', i, none⟩ v) b t cs := by
  unfold Blk World.setCell at *
  simp [Array.getElem?_modify, Ne.symm hne, h]
theorem blk_new (w : World) (b : Nat) (t : TypeId) (cs : List Value) (h : b = w.heap.size) : Blk (w.alloc (.cells cs.toArray t)) b t cs := by
  subst h
  unfold Blk World.alloc
  simp
theorem blk_alloc {w : World} {b : Nat} {t : TypeId} {cs : List Value} (h : Blk w b t cs) (o : Obj) : Blk (w.alloc o) b t cs := by
  have hlt := blk_lt h
  unfold Blk World.alloc at *
  simp [Array.getElem?_push, Nat.ne_of_lt hlt, h]
theorem blk_below {w w' : World} {B b : Nat} {t : TypeId} {cs : List Value} (h : Blk w b t cs) (hb : Below B w w') (hlt : b < B) : Blk w' b t cs := by
  unfold Blk; rw [hb.block b hlt]; exact h
theorem below_set {w w' : World} {B b : Nat} (h : Below B w w') (hb : B ≤ b) (i : Nat) (v : Value) : Below B w (w'.setCell ⟨b, i, none⟩ v) := by
  refine ⟨h.os, h.tape, h.output, by rw [setCell_size]; exact h.size, fun k hk => ?_⟩
  rw [← h.block k hk]
  unfold World.setCell
  have : b ≠ k := by omega
  simp [Array.getElem?_modify, this]
theorem below_row {w w' : World} {B b : Nat} (h : Below B w w') (hb : B ≤ b) (ds : Array Value) : Below B w (w'.setRow b ds) := by
  refine ⟨h.os, h.tape, h.output, by rw [setRow_size]; exact h.size, fun k hk => ?_⟩
  rw [← h.block k hk, setRow_other _ _ _ _ (by omega)]

/-- A whole array is written. -/
theorem wpList_store_blk {P : Program} {ops : Array Oper} {rest : List Oper} {o : Oper} {a : Act} {w : World} {Q : Exit → Act → World → Prop} (hgd : o.guard = none) (ty : TypeId) (x y : Operand) (ho : o.op = .store ty x y)
    (g : Nat) (ds : List Value) (hx : a.eval x = .pointer (some ⟨g, 0, none⟩)) (hy : a.eval y = .agg ds.toArray) (cs : List Value) (t : TypeId) (hB : Blk w g t cs) (hi : (P.info? ty).map (·.size) = some ds.length)
    (hold : cs.length = ds.length) (h1 : ds.all (·.oneCell') = true) (B : Nat) (hb : B ≤ g)
    (h : ∀ w', Blk w' g t ds → Below B w w' → wpList P ops Q rest (a.put o.dst undef) w') : wpList P ops Q (o :: rest) a w :=
  wpList_store_row hgd ty x y ho g ds.toArray hx hy t cs.toArray hB (by simpa using hi) (by simpa using hold) (by simpa using h1) (h _ (blk_row hB ds) (below_row (Below.refl _ _) hb _))
/-- A whole array is read. -/
theorem wpList_load_blk {P : Program} {ops : Array Oper} {rest : List Oper} {o : Oper} {a : Act} {w : World} {Q : Exit → Act → World → Prop} (hgd : o.guard = none) (ty : TypeId) (x : Operand) (ho : o.op = .load ty x)
    (g : Nat) (hx : a.eval x = .pointer (some ⟨g, 0, none⟩)) (cs : List Value) (t : TypeId) (hB : Blk w g t cs) (d : TypeDesc) (hu : P.underlying ty = some d) (hd : (match d with | .struct _ | .array _ _ => true | _ => false) = true)
    (hi : (P.info? ty).map (·.size) = some cs.length)
    (h : wpList P ops Q rest (a.put o.dst (.agg cs.toArray)) w) : wpList P ops Q (o :: rest) a w :=
  wpList_load_row hgd ty x ho g hx t cs.toArray (0, 0) d hB hu hd (by simpa using hi) h

end Go.Proofs.Ytdgfoldobofgoaa.Arr
/- Common: objects in memory, each with the blocks that are its own: what a call changes lies in these, or is new. -/
namespace Go.Proofs.Ytdgfoldobofgoaa.Foot
open Go.RowKit
open Go.Sort
open Kit
set_option linter.unusedVariables false

/-- Only these blocks are changed; others may be new. -/
structure Chg (F : Nat → Prop) (w w' : World) : Prop where
  os : w'.os = w.os
  tape : w'.tape = w.tape
  output : w'.output = w.output
  size : w.heap.size ≤ w'.heap.size
  block : ∀ k, k < w.heap.size → ¬ F k → w'.heap[k]? = w.heap[k]?

/-- These blocks, and the new ones. -/
def More (F : Nat → Prop) (w w' : World) (k : Nat) : Prop := F k ∨ (w.heap.size ≤ k ∧ k < w'.heap.size)

variable {F G : Nat → Prop} {w w1 w2 w' : World}
theorem chg_refl (F : Nat → Prop) (w : World) : Chg F w w := ⟨rfl, rfl, rfl, Nat.le_refl _, fun _ _ _ => rfl⟩
theorem chg_mono (h : Chg F w w') (hf : ∀ k, k < w.heap.size → F k → G k) : Chg G w w' := ⟨h.os, h.tape, h.output, h.size, fun k hk hg => h.block k hk fun h' => hg (hf k hk h')⟩
theorem chg_trans (h : Chg F w w1) (k : Chg G w1 w2) (hg : ∀ x, G x → F x ∨ w.heap.size ≤ x) : Chg F w w2 :=
  ⟨k.os.trans h.os, k.tape.trans h.tape, k.output.trans h.output, Nat.le_trans h.size k.size, fun x hx hf => (k.block x (Nat.lt_of_lt_of_le hx h.size) fun h' => by
    rcases hg x h' with h1 | h1
    · exact hf h1
    · omega).trans (h.block x hx hf)⟩
theorem chg_more (h : Chg F w w1) (k : Chg (More F w w1) w1 w2) : Chg F w w2 := chg_trans h k fun _ hx => hx.imp id fun h => h.1
theorem chg_alloc (h : Chg F w w1) (o : Obj) : Chg F w (w1.alloc o) :=
  ⟨h.os, h.tape, h.output, by have := h.size; simp; omega, fun k hk hf => (Below.heap_alloc w1 o k (Nat.lt_of_lt_of_le hk h.size)).trans (h.block k hk hf)⟩
theorem chg_drew (h : Chg F w w1) : Chg F w w1.drew := ⟨h.os, h.tape, h.output, h.size, h.block⟩
theorem chg_set (h : Chg F w w1) {b : Nat} (hb : F b ∨ w.heap.size ≤ b) (i : Nat) (v : Value) : Chg F w (w1.setCell ⟨b, i, none⟩ v) :=
  ⟨h.os, h.tape, h.output, by rw [setCell_size]; exact h.size, fun k hk hf => (Below.heap_setCell w1 _ v k fun e => by
    subst e
    rcases hb with h1 | h1
    · exact hf h1
    · omega).trans (h.block k hk hf)⟩
theorem chg_row (h : Chg F w w1) {b : Nat} (hb : F b ∨ w.heap.size ≤ b) (ds : Array Value) : Chg F w (w1.setRow b ds) :=
  ⟨h.os, h.tape, h.output, by rw [setRow_size]; exact h.size, fun k hk hf => (setRow_other w1 b k ds fun e => by
    subst e
    rcases hb with h1 | h1
    · exact hf h1
    · omega).trans (h.block k hk hf)⟩
theorem chg_grown (h : Chg F w w1) {row : Option Nat} (hg : w1.grownBy w2 row) (hr : ∀ k, row = some k → F k ∨ w.heap.size ≤ k) : Chg F w w2 :=
  chg_trans h (G := fun k => some k = row) ⟨hg.os, hg.tape, hg.output, hg.size, fun k hk hn => hg.block k hk hn⟩ fun x hx => hr x hx.symm
theorem chg_below (h : Chg F w w') {B : Nat} (hF : ∀ k, F k → B ≤ k) (hB : B ≤ w.heap.size) : Below B w w' := ⟨h.os, h.tape, h.output, h.size, fun k hk => h.block k (by omega) fun h' => by have := hF k h'; omega⟩
theorem below_chg {B : Nat} (h : Below B w w') : Chg (fun k => B ≤ k) w w' := ⟨h.os, h.tape, h.output, h.size, fun k _ hf => h.block k (by omega)⟩
/-- What makes memory alone changes nothing. -/
theorem new_chg (h : Below w.heap.size w w') (F : Nat → Prop) : Chg F w w' := ⟨h.os, h.tape, h.output, h.size, fun k hk _ => h.block k hk⟩

theorem more_old {k : Nat} (h : F k) : More F w w' k := .inl h
theorem more_new {k : Nat} (h1 : w.heap.size ≤ k) (h2 : k < w'.heap.size) : More F w w' k := .inr ⟨h1, h2⟩
theorem more_up (h : w1.heap.size ≤ w2.heap.size) {k : Nat} (hk : More F w w1 k) : More F w w2 k := hk.imp id fun h' => ⟨h'.1, by omega⟩
theorem more_more (h : w.heap.size ≤ w1.heap.size) (h2 : w1.heap.size ≤ w2.heap.size) {k : Nat} (hk : More (More F w w1) w1 w2 k) : More F w w2 k := by
  rcases hk with (hk | hk) | hk
  · exact .inl hk
  · exact .inr ⟨hk.1, by omega⟩
  · exact .inr ⟨by omega, hk.2⟩
theorem more_lt (hF : ∀ k, F k → k < w.heap.size) (h : w.heap.size ≤ w'.heap.size) {k : Nat} (hk : More F w w' k) : k < w'.heap.size := by
  rcases hk with hk | hk
  · have := hF k hk; omega
  · exact hk.2
theorem more_ge {B : Nat} (hF : ∀ k, F k → B ≤ k) (h : B ≤ w.heap.size) {k : Nat} (hk : More F w w' k) : B ≤ k := by
  rcases hk with hk | hk
  · exact hF k hk
  · omega
/-- Two that have nothing in common, and the one grows. -/
theorem more_apart (hG : ∀ k, G k → k < w.heap.size) (ha : ∀ k, F k → ¬ G k) {k : Nat} (hk : More F w w' k) : ¬ G k := by
  intro hg
  rcases hk with hk | hk
  · exact ha k hk hg
  · have := hG k hg; omega

/-! ### What stays -/

theorem cell_chg (h : Chg F w w') {b o : Nat} {v : Value} (hc : w.cell? ⟨b, o, none⟩ = some v) (hb : ¬ F b) : w'.cell? ⟨b, o, none⟩ = some v := by
  rw [World.cell?_of_block (w := w) (a := ⟨b, o, none⟩) (h.block b (World.block_lt_of_cell? w _ hc) hb)]; exact hc
theorem blk_chg (h : Chg F w w') {b : Nat} {t : TypeId} {cs : List Value} (hc : Arr.Blk w b t cs) (hb : ¬ F b) : Arr.Blk w' b t cs := by
  unfold Arr.Blk
  rw [h.block b (Arr.blk_lt hc) hb]; exact hc
theorem own_chg {α : Type} {enc : α → List Value} {size : Nat} {e : TypeId} {base : Nat} {v : Value} {l : List α} (h : Chg F w w') (ho : Owns enc size e w base v l) (hb : ∀ g, v.ownBlock = some g → ¬ F g) : Owns enc size e w' base v l := by
  refine ⟨ho.1, ?_⟩
  rcases ho.2 with hn | ⟨g, cap, cur, rfl, h1, hg, rest⟩
  · exact .inl hn
  · refine .inr ⟨g, cap, cur, rfl, h1, ?_, rest⟩
    rw [h.block g (Array.getElem?_eq_some_iff.1 hg).1 (hb g rfl)]
    exact hg
theorem row_chg {α : Type} {enc : α → List Value} {size : Nat} (hs : ∀ x, (enc x).length = size) {b off : Nat} {l : List α} (h : Chg F w w') (hr : Row enc size w (some ⟨b, off, none⟩) l) (hb : ¬ F b) : Row enc size w' (some ⟨b, off, none⟩) l := by
  rcases hr with hr | ⟨b', off', h1, h2⟩
  · exact .inl hr
  · injection h1 with h1
    injection h1 with h1 h3
    subst h1 h3
    refine .inr ⟨b, off, rfl, fun j hj i hi => ?_⟩
    have e := h2 j hj i hi
    rw [List.getElem?_eq_getElem (by rw [hs]; exact hi)] at e ⊢
    exact cell_chg h e hb

/-! ### Blocks of unlike elements are unlike -/

theorem own_type {α : Type} {enc : α → List Value} {size : Nat} {e : TypeId} {base : Nat} {v : Value} {l : List α} (ho : Owns enc size e w base v l) {g : Nat} (hg : v.ownBlock = some g) : ∃ cur, w.heap[g]? = some (.cells cur e (0, 0)) := by
  rcases ho.2 with ⟨rfl, _⟩ | ⟨g', cap, cur, rfl, _, h1, _⟩
  · cases hg
  · injection hg with hg
    subst hg
    exact ⟨cur, h1⟩
theorem type_ne {b g : Nat} {t e : TypeId} {cs cur : Array Value} (h1 : w.heap[b]? = some (.cells cs t (0, 0))) (h2 : w.heap[g]? = some (.cells cur e (0, 0))) (hne : t ≠ e) : b ≠ g := by
  intro he
  subst he
  rw [h1] at h2
  injection h2 with h2
  injection h2 with _ h3 _
  exact hne h3
theorem own_set_far {α : Type} {enc : α → List Value} {size : Nat} {e : TypeId} {base : Nat} {v : Value} {l : List α} (ho : Owns enc size e w base v l) {b : Nat} (hb : ∀ g, v.ownBlock = some g → g ≠ b) (i : Nat) (u : Value) : Owns enc size e (w.setCell ⟨b, i, none⟩ u) base v l :=
  own_chg (chg_set (F := fun k => k = b) (chg_refl _ w) (.inl rfl) i u) ho hb

theorem owns_le {α : Type} {enc : α → List Value} {size : Nat} {e : TypeId} {base base' : Nat} {v : Value} {l : List α} (h : Owns enc size e w base v l) (hb : base' ≤ base) : Owns enc size e w base' v l :=
  ⟨h.1, h.2.imp id fun ⟨g, cap, cur, h1, h2, h3⟩ => ⟨g, cap, cur, h1, by omega, h3⟩⟩
/-- All these blocks hold elements of a type that is not e. -/
def Typed (G : Nat → Prop) (w : World) (e : TypeId) : Prop := ∀ k, G k → ∃ cur t, w.heap[k]? = some (.cells cur t (0, 0)) ∧ t ≠ e
theorem own_typed {α : Type} {enc : α → List Value} {size : Nat} {e : TypeId} {base : Nat} {v : Value} {l : List α} (ho : Owns enc size e w base v l) (hc : Chg G w w') (ht : Typed G w e) : Owns enc size e w' base v l :=
  own_chg hc ho fun g hg hG => by
    obtain ⟨cur, t, h1, h2⟩ := ht g hG
    obtain ⟨cur', h3⟩ := own_type ho hg
    exact type_ne h1 h3 h2 rfl
theorem blk_typed {b : Nat} {t : TypeId} {cs : List Value} (h : Arr.Blk w b t cs) (hc : Chg G w w') (ht : Typed G w t) : Arr.Blk w' b t cs :=
  blk_chg hc h fun hG => by
    obtain ⟨cur, t', h1, h2⟩ := ht b hG
    exact type_ne h1 h h2 rfl
theorem typed_one {b : Nat} {t e : TypeId} {cs : Array Value} (h : w.heap[b]? = some (.cells cs t (0, 0))) (hne : t ≠ e) : Typed (fun k => k = b) w e := fun k hk => by subst hk; exact ⟨_, _, h, hne⟩
theorem typed_own {α : Type} {enc : α → List Value} {size : Nat} {t e : TypeId} {base : Nat} {v : Value} {l : List α} (ho : Owns enc size t w base v l) (hne : t ≠ e) : Typed (fun k => some k = v.ownBlock) w e := fun k hk => by
  obtain ⟨cur, h⟩ := own_type ho hk.symm
  exact ⟨_, _, h, hne⟩
theorem grown_chg {row : Option Nat} (h : w.grownBy w' row) : Chg (fun k => some k = row) w w' := ⟨h.os, h.tape, h.output, h.size, fun k hk hn => h.block k hk hn⟩
theorem set_chg (w : World) (b i : Nat) (v : Value) : Chg (fun k => k = b) w (w.setCell ⟨b, i, none⟩ v) := chg_set (F := fun k => k = b) (chg_refl _ w) (.inl rfl) i v

end Go.Proofs.Ytdgfoldobofgoaa.Foot
/- A region that draws its order, by an invariant: what holds whenever some of its operations have come up. -/
namespace Go.Proofs.Ytdgfoldobofgoaa.Reg

variable {P : Program} {ops : Array Oper} {Q : Exit → Act → World → Prop} {md : Region.Mode}

theorem ready_false {listed : Array Bool} {i : Nat} (h : i ∈ Region.ready md ops listed) : listed.getD i true = false := by
  unfold Region.ready at h
  simp only [List.mem_filter, Bool.and_eq_true] at h
  simpa using h.2.1

theorem getD_false {listed : Array Bool} {i : Nat} (h : listed.getD i true = false) : ∃ hi : i < listed.size, listed[i] = false := by
  by_cases hi : i < listed.size
  · simp [hi] at h; exact ⟨hi, h⟩
  · simp [hi] at h

theorem wpAny_inv {I : Array Bool → Act → World → Prop} (hdone : ∀ listed a w, I listed a w → Region.ready md ops listed = [] → Q .normal a w)
    (hstep : ∀ listed a w i, I listed a w → i ∈ Region.ready md ops listed → wpOp P ops Q i (I (listed.setIfInBounds i true)) a w) :
    ∀ (fuel : Nat) (listed : Array Bool) (a : Act) (w : World), I listed a w → listed.toList.count false ≤ fuel → wpAny P md ops Q fuel listed a w := by
  intro fuel
  induction fuel with
  | zero =>
    intro listed a w hI hc
    have hr : Region.ready md ops listed = [] := by
      cases h : Region.ready md ops listed with
      | nil => rfl
      | cons i l =>
        obtain ⟨hi, he⟩ := getD_false (ready_false (md := md) (ops := ops) (listed := listed) (i := i) (by rw [h]; simp))
        have : false ∈ listed.toList := by rw [← he]; simp
        have := List.count_pos_iff.2 this
        omega
    exact ⟨hr, hdone listed a w hI hr⟩
  | succ fuel ih =>
    intro listed a w hI hc
    refine ⟨hdone listed a w hI, fun i hi => wpOp_mono (fun a' w' h' => ih _ a' w' h' ?_) (hstep listed a w i hI hi)⟩
    obtain ⟨hlt, he⟩ := getD_false (ready_false hi)
    rw [Array.toList_setIfInBounds, List.count_set (by simpa using hlt)]
    have hf : false ∈ listed.toList := by rw [← he]; simp
    have := List.count_pos_iff.2 hf
    simp only [Array.getElem_toList, he, beq_self_eq_true, if_true, show (true == false) = false from rfl, Bool.false_eq_true, if_false]
    omega

/-- All ways of a region. -/
theorem any_inv {a : Act} {w : World} (I : Array Bool → Act → World → Prop) (h0 : I (Array.replicate ops.size false) a w.drew)
    (hdone : ∀ listed a w, I listed a w → Region.ready md ops listed = [] → Q .normal a w)
    (hstep : ∀ listed a w i, I listed a w → i ∈ Region.ready md ops listed → wpOp P ops Q i (I (listed.setIfInBounds i true)) a w) : wpAny P md ops Q ops.size (Array.replicate ops.size false) a w.drew :=
  wpAny_inv hdone hstep _ _ _ _ h0 (by simp)
/-- The whole region. -/
theorem wp_region_inv {id : Nat} {a : Act} {w : World} (I : Array Bool → Act → World → Prop) (hm : P.follows .mixedOrders = true) (h0 : I (Array.replicate ops.size false) a w.drew)
    (hdone : ∀ listed a w, I listed a w → Region.ready .any ops listed = [] → Q .normal a w)
    (hstep : ∀ listed a w i, I listed a w → i ∈ Region.ready .any ops listed → wpOp P ops Q i (I (listed.setIfInBounds i true)) a w) : (Code.region id ops true).wp P Q a w :=
  wp_region_any hm (any_inv I h0 hdone hstep)

/-- Where nothing may come up any more, whatever waits for nothing that has not come up has come up. -/
theorem none_ready {listed : Array Bool} {i : Nat} {o : Oper} (hs : listed.size = ops.size) (h : Region.ready md ops listed = []) (ho : ops[i]? = some o)
    (hd : ∀ e ∈ o.after, Region.binds md e = true → listed.getD e.on false = true) : listed.getD i false = true := by
  have hi : i < listed.size := by rw [hs]; exact (Array.getElem?_eq_some_iff.1 ho).1
  cases hb : listed[i] with
  | true => simp [hi, hb]
  | false =>
    have : i ∈ Region.ready md ops listed := mem_ready.2 ⟨by simp [hi, hb], o, ho, hd⟩
    rw [h] at this
    cases this

end Go.Proofs.Ytdgfoldobofgoaa.Reg
/- A region that draws its order and whose values hang on the memory that its own calls make: one look at each operation, what it leaves told by what holds of its slot. -/
namespace Go.Proofs.Ytdgfoldobofgoaa.Rel
open Go.RowKit

/-- What a slot holds: it stays so while the world goes on. -/
structure Kd (G : World → World → Prop) where
  p : World → Value → Prop
  st : ∀ w w' v, G w w' → p w v → p w' v
def Kd.is {G : World → World → Prop} (v : Value) : Kd G := ⟨fun _ u => u = v, fun _ _ _ _ h => h⟩
def Kd.any {G : World → World → Prop} : Kd G := ⟨fun _ _ => True, fun _ _ _ _ h => h⟩

/-- The world goes on: what was there stays. -/
def Gr (w w' : World) : Prop := Below w.heap.size w w'
theorem gr_refl (w : World) : Gr w w := Below.refl _ _

def slot (a : Act) (d : Tmp) : Value := a.tmps.getD d undef
theorem eval_tmp {a : Act} {d : Tmp} {v : Value} (h : slot a d = v) : a.eval (.tmp d) = v := h

/-- Does operation o wait for operation j? -/
def waits (o : Oper) (j : Nat) : Bool := o.after.toList.any fun e => e.on == j && Region.binds .any e
def unwritten (ops : Array Oper) (s : Tmp) : Bool := ops.toList.all fun o => o.dst != some s
/-- A table of what the slots hold. -/
def tab {G : World → World → Prop} (l : List (Kd G)) (i : Nat) : Kd G := l.getD i Kd.any
/-- Each operation writes a slot of its own. -/
def apartB : List Oper → Bool
  | [] => true
  | o :: l => o.dst.isSome && l.all (fun x => x.dst != o.dst) && apartB l

section
variable {P : Program} {ops : Array Oper} {Q : Exit → Act → World → Prop} {G : World → World → Prop} {V : Nat → Kd G} {J : Array Bool → World → Prop} {a0 : Act}

/-- What is known when operation k, o, comes up. -/
structure Cx (ops : Array Oper) (V : Nat → Kd G) (J : Array Bool → World → Prop) (a0 : Act) (k : Nat) (o : Oper) (L : Array Bool) (a : Act) (w : World) : Prop where
  size : L.size = ops.size
  free : L.getD k true = false
  base : ∀ s, unwritten ops s = true → slot a s = slot a0 s
  room : a.tmps.size = a0.tmps.size
  inv : J L w
  dep : ∀ (j : Nat) (o' : Oper) (d : Tmp), ops[j]? = some o' → o'.dst = some d → waits o j = true → (V j).p w (slot a d)
  came : ∀ j, waits o j = true → L.getD j false = true
  chain : ∀ (j : Nat) (o' : Oper) (i : Nat), ops[j]? = some o' → L.getD j false = true → waits o' i = true → L.getD i false = true

/-- By Bools that the kernel reckons: operation j writes slot d, and o waits for it; o is carried out where j yields b. -/
def depB (ops : Array Oper) (o : Oper) (j : Nat) (d : Tmp) : Bool := waits o j && (match ops.toList[j]? with | some o' => o'.dst == some d | none => false)
def wantB (ops : Array Oper) (o : Oper) (j : Nat) (b : Bool) (d : Tmp) : Bool := (match o.guard with | some (j', b') => j' == j && b' == b | none => false) && (match ops.toList[j]? with | some o' => o'.dst == some d | none => false)
def waitsAt (ops : Array Oper) (j i : Nat) : Bool := match ops.toList[j]? with | some o' => waits o' i | none => false
def freeB (o : Oper) : Bool := o.guard.isNone
theorem Cx.get {k : Nat} {o : Oper} {L : Array Bool} {a : Act} {w : World} (c : Cx ops V J a0 k o L a w) (j : Nat) (d : Tmp) (h : depB ops o j d = true) : (V j).p w (slot a d) := by
  unfold depB at h
  simp only [Bool.and_eq_true] at h
  cases ho : ops.toList[j]? with
  | none => rw [ho] at h; simp at h
  | some o' =>
    rw [ho] at h
    exact c.dep j o' d (by simpa using ho) (by simpa using h.2) h.1
/-- What came ahead of what has come. -/
theorem Cx.via {k : Nat} {o : Oper} {L : Array Bool} {a : Act} {w : World} (c : Cx ops V J a0 k o L a w) (j i : Nat) (h : waitsAt ops j i = true) (hj : L.getD j false = true) : L.getD i false = true := by
  unfold waitsAt at h
  cases ho : ops.toList[j]? with
  | none => rw [ho] at h; cases h
  | some o' =>
    rw [ho] at h
    exact c.chain j o' i (by simpa using ho) hj h
theorem Cx.old {k : Nat} {o : Oper} {L : Array Bool} {a : Act} {w : World} (c : Cx ops V J a0 k o L a w) (s : Tmp) {v : Value} (h : unwritten ops s = true) (hv : slot a0 s = v) : slot a s = v := (c.base s h).trans hv

/-- What it leaves. -/
def Left (V : Nat → Kd G) (J : Array Bool → World → Prop) (k : Nat) (o : Oper) (L : Array Bool) (a : Act) (w : World) (a' : Act) (w' : World) : Prop :=
  ∃ v, a' = a.put o.dst v ∧ G w w' ∧ (V k).p w' v ∧ J (L.setIfInBounds k true) w'

def Step (P : Program) (ops : Array Oper) (Q : Exit → Act → World → Prop) (V : Nat → Kd G) (J : Array Bool → World → Prop) (a0 : Act) (k : Nat) (o : Oper) : Prop :=
  ∀ L a w, Cx ops V J a0 k o L a w →
    (Region.wanted o (yielded ops a.tmps) = true ∧ o.wp P a w (Left V J k o L a w) Q) ∨
    (Region.wanted o (yielded ops a.tmps) = false ∧ (V k).p w undef ∧ J (L.setIfInBounds k true) w)

def Steps (P : Program) (ops : Array Oper) (Q : Exit → Act → World → Prop) (V : Nat → Kd G) (J : Array Bool → World → Prop) (a0 : Act) : Nat → List Oper → Prop
  | _, [] => True
  | k, o :: l => Step P ops Q V J a0 k o ∧ Steps P ops Q V J a0 (k + 1) l

theorem steps_at (l : List Oper) : ∀ (k : Nat), Steps P ops Q V J a0 k l → ∀ (j : Nat) (o : Oper), l[j]? = some o → Step P ops Q V J a0 (k + j) o := by
  induction l with
  | nil => intro k _ j o e; simp at e
  | cons x l ih =>
    intro k h j o e
    cases j with
    | zero =>
      simp at e; subst e
      exact h.1
    | succ j =>
      have := ih (k + 1) h.2 j o (by simpa using e)
      rw [show k + (j + 1) = k + 1 + j by omega]; exact this

theorem apart_at (l : List Oper) : apartB l = true → ∀ (i j : Nat) (o o' : Oper), l[i]? = some o → l[j]? = some o' → i ≠ j → o.dst ≠ o'.dst := by
  induction l with
  | nil => intro _ i j o o' e; simp at e
  | cons x l ih =>
    intro h i j o o' e e' hne
    simp only [apartB, Bool.and_eq_true, List.all_eq_true, bne_iff_ne, ne_eq] at h
    cases i with
    | zero =>
      cases j with
      | zero => exact absurd rfl hne
      | succ j =>
        simp at e e'; subst e
        exact fun he => h.1.2 _ (List.mem_of_getElem? e') he.symm
    | succ i =>
      cases j with
      | zero =>
        simp at e e'; subst e'
        exact h.1.2 _ (List.mem_of_getElem? e)
      | succ j => exact ih h.2 i j o o' (by simpa using e) (by simpa using e') (by omega)

theorem apart_some (l : List Oper) : apartB l = true → ∀ (i : Nat) (o : Oper), l[i]? = some o → ∃ d, o.dst = some d := by
  intro h i o e
  induction l generalizing i with
  | nil => simp at e
  | cons x l ih =>
    simp only [apartB, Bool.and_eq_true] at h
    cases i with
    | zero =>
      simp at e; subst e
      exact Option.isSome_iff_exists.1 h.1.1
    | succ i => exact ih h.2 i (by simpa using e)

/-- Each operation waits for earlier ones alone. -/
def orderB : Nat → List Oper → Bool
  | _, [] => true
  | k, o :: l => (o.after.all fun e => !(Region.binds .any e) || decide (e.on < k)) && orderB (k + 1) l
theorem order_at (l : List Oper) : ∀ (k : Nat), orderB k l = true → ∀ (j : Nat) (o : Oper), l[j]? = some o → ∀ e ∈ o.after, Region.binds .any e = true → e.on < k + j := by
  induction l with
  | nil => intro k _ j o e; simp at e
  | cons x l ih =>
    intro k h j o e
    simp only [orderB, Bool.and_eq_true] at h
    cases j with
    | zero =>
      simp at e; subst e
      intro e he hb
      have := h.1
      rw [Array.all_eq_true'] at this
      have := this e he
      rw [hb] at this
      simpa using this
    | succ j =>
      intro e' he hb
      have := ih (k + 1) h.2 j o (by simpa using e) e' he hb
      omega

theorem slot_put_ne {a : Act} {d s : Tmp} {v : Value} (h : d ≠ s) : slot (a.put (some d) v) s = slot a s := by
  unfold slot Act.put
  simp only [Array.getD_eq_getD_getElem?]
  rw [Array.getElem?_setIfInBounds_ne h]
theorem slot_put {a : Act} {d : Tmp} {v : Value} (h : d < a.tmps.size) : slot (a.put (some d) v) d = v := by
  unfold slot Act.put
  simp [h]
theorem put_size (a : Act) (d : Option Tmp) (v : Value) : (a.put d v).tmps.size = a.tmps.size := by
  unfold Act.put; split <;> simp
theorem put_defers (a : Act) (d : Option Tmp) (v : Value) : (a.put d v).defers = a.defers := by
  unfold Act.put; split <;> rfl

/-- The frame behind a region: the slots in 'loose' as they are, all others as they were. -/
theorem act_mix {a : Act} (loose : List Nat) (hb : ∀ s, unwritten ops s = true → slot a s = slot a0 s) (hr : a.tmps.size = a0.tmps.size) (hd : a.defers = a0.defers)
    (hl : ((List.range a0.tmps.size).all fun i => loose.contains i || unwritten ops i) = true) :
    a = { tmps := ((List.range a0.tmps.size).map fun i => cond (loose.contains i) (slot a i) (slot a0 i)).toArray, defers := a0.defers } := by
  obtain ⟨tm, df⟩ := a
  simp only at hr hd
  subst hd
  congr 1
  apply Array.ext
  · simpa using hr
  · intro i h1 h2
    have hi : i < a0.tmps.size := by omega
    have h3 := List.all_eq_true.1 hl i (List.mem_range.2 hi)
    have hs : slot { tmps := tm, defers := a0.defers } i = tm[i] := by
      unfold slot
      simp [h1]
    simp only [List.getElem_toArray, List.getElem_map, List.getElem_range]
    cases hc : loose.contains i with
    | true => simp only [cond_true]; exact hs.symm
    | false =>
      rw [hc] at h3
      simp only [cond_false]
      rw [← hb i (by simpa using h3)]
      exact hs.symm

/-- Whatever has come up. -/
def Inv (ops : Array Oper) (V : Nat → Kd G) (J : Array Bool → World → Prop) (a0 : Act) (L : Array Bool) (a : Act) (w : World) : Prop :=
  L.size = ops.size ∧ (∀ s, unwritten ops s = true → slot a s = slot a0 s) ∧ a.tmps.size = a0.tmps.size ∧ a.defers = a0.defers ∧ J L w ∧
  (∀ (j : Nat) (o : Oper) (d : Tmp), ops[j]? = some o → o.dst = some d → L.getD j false = true → (V j).p w (slot a d)) ∧
  ∀ (j : Nat) (o' : Oper) (i : Nat), ops[j]? = some o' → L.getD j false = true → waits o' i = true → L.getD i false = true

theorem unwritten_ne {s : Tmp} (h : unwritten ops s = true) {i : Nat} {o : Oper} (ho : ops[i]? = some o) : o.dst ≠ some s := by
  unfold unwritten at h
  have := List.all_eq_true.1 h o (by simpa using Array.mem_of_getElem? ho)
  simpa using this

theorem inv_step {k : Nat} {o : Oper} {L : Array Bool} {a : Act} {w w' : World} {v : Value} (hap : apartB ops.toList = true) (hsz : ∀ (i : Nat) (o : Oper) (d : Tmp), ops[i]? = some o → o.dst = some d → d < a0.tmps.size)
    (ho : ops[k]? = some o) (hk : L.getD k true = false) (hcm : ∀ j, waits o j = true → L.getD j false = true) (hI : Inv ops V J a0 L a w) (hG : G w w') (hv : (V k).p w' v) (hJ : J (L.setIfInBounds k true) w') : Inv ops V J a0 (L.setIfInBounds k true) (a.put o.dst v) w' := by
  obtain ⟨h1, h2, h3, h4, h5, h6, h7⟩ := hI
  have hset : ∀ i, L.getD i false = true → (L.setIfInBounds k true).getD i false = true := by
    intro i hi
    by_cases hik : k = i
    · subst hik
      obtain ⟨hs, _⟩ := Reg.getD_false hk
      simp [hs]
    · simpa [hik] using hi
  obtain ⟨d, hd⟩ := apart_some ops.toList hap k o (by simpa using ho)
  have hdn := hsz k o d ho hd
  refine ⟨by simp [h1], fun s hs => ?_, by rw [put_size]; exact h3, by rw [put_defers]; exact h4, hJ, fun j o' d' ho' hd' hl => ?_, fun j o' i ho' hl hw => ?_⟩
  · rw [hd, slot_put_ne (fun e => unwritten_ne hs ho (by rw [hd, e]))]
    exact h2 s hs
  · by_cases hjk : j = k
    · subst hjk
      rw [ho] at ho'
      injection ho' with ho'
      subst ho'
      rw [hd] at hd'
      injection hd' with hd'
      subst hd'
      rw [hd, slot_put (by rw [h3]; exact hdn)]
      exact hv
    · have hne := apart_at ops.toList hap k j o o' (by simpa using ho) (by simpa using ho') (Ne.symm hjk)
      rw [hd, slot_put_ne (fun e => hne (by rw [hd, hd', e]))]
      refine (V j).st w w' _ hG (h6 j o' d' ho' hd' ?_)
      simpa [Ne.symm hjk] using hl
  · by_cases hjk : j = k
    · subst hjk
      rw [ho] at ho'
      injection ho' with ho'
      subst ho'
      exact hset i (hcm i hw)
    · exact hset i (h7 j o' i ho' (by simpa [Ne.symm hjk] using hl) hw)

/-- THE LAW. -/
theorem wp_region_rel {id : Nat} {w : World} {l : List Oper} (V : Nat → Kd G) (J : Array Bool → World → Prop) (hm : P.follows .mixedOrders = true) (hap : apartB l = true) (hor : orderB 0 l = true) (hsz : (l.all fun o => match o.dst with | some d => decide (d < a0.tmps.size) | none => true) = true)
    (hGr : ∀ w, G w w) (h0 : J (Array.replicate l.length false) w.drew) (hsteps : Steps P l.toArray Q V J a0 0 l)
    (hdone : ∀ a w, (∀ s, unwritten l.toArray s = true → slot a s = slot a0 s) → a.tmps.size = a0.tmps.size → a.defers = a0.defers → J (Array.replicate l.length true) w → (∀ (j : Nat) (o : Oper) (d : Tmp), l[j]? = some o → o.dst = some d → (V j).p w (slot a d)) → Q .normal a w) :
    (Code.region id l.toArray true).wp P Q a0 w := by
  have hsz' : ∀ (i : Nat) (o : Oper) (d : Tmp), l.toArray[i]? = some o → o.dst = some d → d < a0.tmps.size := by
    intro i o d ho hd
    have := List.all_eq_true.1 hsz o (List.mem_of_getElem? (by simpa using ho))
    rw [hd] at this
    simpa using this
  refine Reg.wp_region_inv (Inv l.toArray V J a0) hm ?_ ?_ ?_
  · exact ⟨by simp, fun _ _ => rfl, rfl, rfl, h0, fun j o d _ _ hl => by
      by_cases hj : j < l.length <;> simp [hj] at hl, fun j o i _ hl _ => by
      by_cases hj : j < l.length <;> simp [hj] at hl⟩
  · intro L a' w' hI hready
    obtain ⟨h1, h2, h3, h4, h5, h6, h7⟩ := hI
    have hall : ∀ j, j < l.length → L.getD j false = true := by
      intro j
      induction j using Nat.strongRecOn with
      | _ j ih =>
        intro hj
        have ho : l[j]? = some l[j] := List.getElem?_eq_getElem hj
        refine Reg.none_ready (by exact h1) hready (o := l[j]) (by simp) fun e he hb => ?_
        have hlt := order_at l 0 hor j _ ho e he hb
        exact ih e.on (by omega) (by omega)
    have hL : L = Array.replicate l.length true := by
      apply Array.ext
      · simpa using h1
      · intro i hi1 hi2
        have := hall i (by simpa using hi2)
        simp [hi1] at this
        simp [this]
    subst hL
    exact hdone a' w' h2 h3 h4 h5 fun j o d hj hd => h6 j o d (by simpa using hj) hd (hall j (by
      rcases Nat.lt_or_ge j l.length with h | h
      · exact h
      · rw [List.getElem?_eq_none h] at hj; cases hj))
  · intro L a' w' i hI hi
    obtain ⟨hun, o, ho, hdep⟩ := mem_ready.1 hi
    have hI' := hI
    obtain ⟨h1, h2, h3, h4, h5, h6, h7⟩ := hI
    have hcame : ∀ j, waits o j = true → L.getD j false = true := by
      intro j hj
      unfold waits at hj
      obtain ⟨e, he, hb⟩ := List.any_eq_true.1 hj
      simp only [Bool.and_eq_true, beq_iff_eq] at hb
      have := hdep e (by simpa using he) hb.2
      rw [hb.1] at this
      exact this
    have hs := steps_at l 0 hsteps i o (by simpa using ho)
    rw [Nat.zero_add] at hs
    replace hs := hs L a' w' ⟨h1, hun, h2, h3, h5, fun j o' d hj hd hw => h6 j o' d hj hd (hcame j hw), hcame, h7⟩
    unfold wpOp
    simp only [ho]
    rcases hs with ⟨hw, hs⟩ | ⟨hw, hv, hJ⟩
    · rw [if_pos hw]
      exact .inl (Oper.wp_mono (fun a'' w'' ⟨v, ha, hG, hv, hJ⟩ => by subst ha; exact inv_step (by simpa using hap) hsz' ho hun hcame hI' hG hv hJ) hs)
    · rw [if_neg (by rw [hw]; exact Bool.false_ne_true)]
      exact inv_step (by simpa using hap) hsz' ho hun hcame hI' (hGr w') hv hJ

/-! ### One operation -/

variable {o : Oper} {a : Act} {w : World} {K : Act → World → Prop}
theorem wp_mv (x : Operand) (ho : o.op = .move x) (h : K (a.put o.dst (a.eval x)) w) : o.wp P a w K Q := by
  unfold Oper.wp; rw [BigFrame.run_move x ho]; exact h
theorem wp_as (x : Operand) (ho : o.op = .assign x) (h : K (a.put o.dst (a.eval x)) w) : o.wp P a w K Q := by
  unfold Oper.wp; rw [BigFrame.run_assign x ho]; exact h
theorem wp_pk (c x y : Operand) (ho : o.op = .pick c x y) {b : Bool} (hc : a.eval c = .bool b) (h : K (a.put o.dst (if b then a.eval x else a.eval y)) w) : o.wp P a w K Q := by
  unfold Oper.wp execOp
  simp only [ho, hc]
  exact h
theorem wp_cv (s d : TypeId) (x : Operand) (ho : o.op = .convert s d x) {v u : Value} {w' : World} (hx : a.eval x = v) (hr : (convert s d v).run P w = .ok u w') (h : K (a.put o.dst u) w') : o.wp P a w K Q := by
  unfold Oper.wp execOp
  simp only [ho, hx, Sem.run_bind, hr]
  exact h
theorem wp_bo (k : BinOp) (t t' : TypeId) (x y : Operand) (ho : o.op = .binOp k t x y t') {vx vy u : Value} {w' : World} (hx : a.eval x = vx) (hy : a.eval y = vy)
    (hr : (do eqGuard k t x y vx vy; binOp k t vx vy : Sem Value).run P w = .ok u w') (h : K (a.put o.dst u) w') : o.wp P a w K Q := by
  unfold Oper.wp execOp
  simp only [ho, hx, hy]
  rw [Sem.run_bind, hr]
  exact h
theorem wp_cl (f : FuncId) (xs : List Operand) (ts : Array TypeId) (ho : o.op = .call { callee := .value (.func f), args := xs.toArray, argTypes := ts }) {fn : Func} (hf : P.funcs[f]? = some fn) (hk : (fn.body.isSome && !(fn.name == "runtime.NumGoroutine")) = true) (hc : Calls P f (xs.map a.eval).toArray w fun e w' => ∃ v, e = .returned v ∧ K (a.put o.dst v) w') : o.wp P a w K Q := by
  unfold Oper.wp execOp
  simp only [ho]
  simp [resolve, Deferred.ofValue, invoke, Act.eval]
  have hr : (callFunc f (xs.map a.eval).toArray).run P w = .ok (.enter f (xs.map a.eval).toArray) w := by
    simp only [Bool.and_eq_true, Bool.not_eq_true', Option.isSome_iff_exists] at hk
    obtain ⟨⟨c, hb⟩, hn⟩ := hk
    have hn' : ¬ fn.name = "runtime.NumGoroutine" := by simpa using hn
    simp [callFunc, hf, hb, hn']
  rw [hr]
  refine hc.mono fun e w' ⟨v, he, hK⟩ => ?_
  subst he
  exact hK
theorem wp_ld (t : TypeId) (x : Operand) (ho : o.op = .load t x) {v u : Value} {w' : World} (hx : a.eval x = v) (hr : (Instr.loadAt t v).run P w = .ok u w') (h : K (a.put o.dst u) w') : o.wp P a w K Q := by
  unfold Oper.wp execOp
  simp only [ho, hx, Sem.run_bind, hr]
  exact h
theorem wp_ia (t : TypeId) (x y : Operand) (ho : o.op = .indexAddr t x y) {vx vy u : Value} {w' : World} (hx : a.eval x = vx) (hy : a.eval y = vy) (hr : (Instr.indexAt t vx vy).run P w = .ok u w') (h : K (a.put o.dst u) w') : o.wp P a w K Q := by
  unfold Oper.wp execOp
  simp only [ho, hx, hy, Sem.run_bind, hr]
  exact h
theorem wp_sl (t : TypeId) (x : Operand) (lo hi mx : Option Operand) (ho : o.op = .slice t x lo hi mx) {vx u : Value} {vl vh vm : Option Value} {w' : World} (hx : a.eval x = vx) (hl : lo.map a.eval = vl) (hh : hi.map a.eval = vh) (hm : mx.map a.eval = vm) (hr : (Instr.sliceAt t vx vl vh vm).run P w = .ok u w') (h : K (a.put o.dst u) w') : o.wp P a w K Q := by
  unfold Oper.wp execOp
  simp only [ho, hx, hl, hh, hm, Sem.run_bind, hr]
  exact h
theorem wp_ex (t : Operand) (ix : Nat) (ho : o.op = .extract t ix) {v u : Value} {w' : World} (hx : a.eval t = v) (hr : (Instr.extract v ix).run P w = .ok u w') (h : K (a.put o.dst u) w') : o.wp P a w K Q := by
  unfold Oper.wp execOp
  simp only [ho, hx, Sem.run_bind, hr]
  exact h
theorem wp_len (x : Operand) (t : TypeId) (ho : o.op = .call { callee := .builtin .len, args := #[x], argTypes := #[t] }) {ad : Option Addr} {n c : Nat} (hx : a.eval x = .slice ad n c) (hr : (Builtin.len_ #[t] o.type #[.slice ad n c]).run P w = .ok (.int .i64 n) w) (h : K (a.put o.dst (.int .i64 n)) w) : o.wp P a w K Q := by
  unfold Oper.wp execOp
  simp only [ho]
  simp [resolve, invoke, builtin, hx]
  rw [hr]
  exact h

theorem wanted_free (hg : freeB o = true) (y : Nat → Option Bool) : Region.wanted o y = true := by
  unfold freeB at hg
  unfold Region.wanted
  rw [Option.isNone_iff_eq_none.1 hg]
theorem wanted_none (hg : o.guard = none) (y : Nat → Option Bool) : Region.wanted o y = true := by unfold Region.wanted; rw [hg]
theorem wanted_is {j : Nat} {b b' : Bool} {d : Tmp} (hg : o.guard = some (j, b)) {oj : Oper} (hj : ops[j]? = some oj) (hd : oj.dst = some d) (hv : slot a d = .bool b') : Region.wanted o (yielded ops a.tmps) = (b' == b) := by
  have hr : a.tmps[d]? = some (.bool b') := by
    unfold slot at hv
    rw [Array.getD_eq_getD_getElem?] at hv
    cases h : a.tmps[d]? with
    | none => rw [h] at hv; cases hv
    | some v => rw [h] at hv; simp at hv; rw [hv]
  unfold Region.wanted yielded
  simp only [hg, hj, Option.bind_some, hd, hr]
  cases b <;> cases b' <;> rfl
theorem wanted_by {j : Nat} {b : Bool} {d : Tmp} (h : wantB ops o j b d = true) (hv : slot a d = .bool b) : Region.wanted o (yielded ops a.tmps) = true := by
  unfold wantB at h
  simp only [Bool.and_eq_true] at h
  obtain ⟨h1, h2⟩ := h
  cases hg : o.guard with
  | none => rw [hg] at h1; cases h1
  | some g =>
    obtain ⟨j', b'⟩ := g
    rw [hg] at h1
    simp only [Bool.and_eq_true, beq_iff_eq] at h1
    obtain ⟨rfl, rfl⟩ := h1
    cases ho : ops.toList[j']? with
    | none => rw [ho] at h2; cases h2
    | some o' =>
      rw [ho] at h2
      rw [wanted_is hg (by simpa using ho) (by simpa using h2) hv]
      simp

end
end Go.Proofs.Ytdgfoldobofgoaa.Rel
/- A region that draws its order: some operations make or write memory, each of these waits for the one ahead of it; all others only read: what is read is told ahead of the region, what is made is told step by step. -/
namespace Go.Proofs.Ytdgfoldobofgoaa.Chn
open Go.RowKit
open Rel

/-- Each operation that writes a slot writes one of its own. -/
def apartC : List Oper → Bool
  | [] => true
  | o :: l => (o.dst.isNone || l.all (fun x => x.dst != o.dst)) && apartC l
theorem apartC_at (l : List Oper) : apartC l = true → ∀ (i j : Nat) (o o' : Oper) (d : Tmp), l[i]? = some o → l[j]? = some o' → i ≠ j → o.dst = some d → o'.dst ≠ some d := by
  induction l with
  | nil => intro _ i j o o' d e; simp at e
  | cons x l ih =>
    intro h i j o o' d e e' hne hd
    simp only [apartC, Bool.and_eq_true, Bool.or_eq_true, List.all_eq_true, bne_iff_ne, ne_eq] at h
    cases i with
    | zero =>
      cases j with
      | zero => exact absurd rfl hne
      | succ j =>
        simp at e e'; subst e
        rcases h.1 with h1 | h1
        · rw [hd] at h1; cases h1
        · intro he
          exact h1 _ (List.mem_of_getElem? e') (he.trans hd.symm)
    | succ i =>
      cases j with
      | zero =>
        simp at e e'; subst e'
        intro he
        rcases h.1 with h1 | h1
        · rw [he] at h1; cases h1
        · exact h1 _ (List.mem_of_getElem? e) (hd.trans he.symm)
      | succ j => exact ih h.2 i j o o' d (by simpa using e) (by simpa using e') (by omega) hd

variable {P : Program} {l : List Oper} {Q : Exit → Act → World → Prop} {V : Nat → Option Value} {ch : List Nat} {Φ : Nat → List Value → World → Prop} {a0 : Act}

/-- What an operation has left. -/
def out (l : List Oper) (a : Act) (k : Nat) : Value := match l[k]? with
  | some o => (match o.dst with | some d => slot a d | none => undef)
  | none => undef
/-- Each operation of the chain waits for the one ahead of it. -/
def chainB (l : List Oper) : List Nat → Bool
  | i :: j :: r => (match l[j]? with | some o => waits o i | none => false) && chainB l (j :: r)
  | _ => true
/-- What operation k waits for. -/
def depsOf (l : List Oper) (k : Nat) : List Nat := match l[k]? with
  | some o => o.after.toList.filterMap fun e => if Region.binds .any e then some e.on else none
  | none => []
theorem depsOf_waits {l : List Oper} {k i : Nat} (h : i ∈ depsOf l k) : ∃ o, l[k]? = some o ∧ waits o i = true := by
  unfold depsOf at h
  cases hk : l[k]? with
  | none => rw [hk] at h; cases h
  | some o =>
    rw [hk] at h
    refine ⟨o, rfl, ?_⟩
    obtain ⟨e, he, hi⟩ := List.mem_filterMap.1 h
    unfold waits
    refine List.any_eq_true.2 ⟨e, he, ?_⟩
    split at hi
    · rename_i hb
      injection hi with hi
      simp [hi, hb]
    · cases hi
/-- And what these wait for. -/
def needs (l : List Oper) : Nat → List Nat → List Nat
  | 0, N => N
  | i + 1, N => needs l i (if N.contains i then depsOf l i ++ N else N)
theorem needs_came {l : List Oper} {L : Array Bool} (h6 : ∀ (j : Nat) (o' : Oper) (i : Nat), l[j]? = some o' → L.getD j false = true → waits o' i = true → L.getD i false = true) : ∀ (i : Nat) (N : List Nat), (∀ x ∈ N, L.getD x false = true) → ∀ x ∈ needs l i N, L.getD x false = true
  | 0, N, hN => hN
  | i + 1, N, hN => by
    unfold needs
    refine needs_came h6 i _ ?_
    split
    · rename_i hc
      have hi := hN i (List.contains_iff_mem.1 hc)
      intro x hx
      rcases List.mem_append.1 hx with hx | hx
      · obtain ⟨o, ho, hw⟩ := depsOf_waits hx
        exact h6 i o x ho hi hw
      · exact hN x hx
    · exact hN
def needsB (l : List Oper) (x k : Nat) : Bool := (needs l x (depsOf l x)).contains k
theorem needsB_came {l : List Oper} {L : Array Bool} (h6 : ∀ (j : Nat) (o' : Oper) (i : Nat), l[j]? = some o' → L.getD j false = true → waits o' i = true → L.getD i false = true) {x k : Nat} (h : needsB l x k = true) (hx : L.getD x false = true) : L.getD k false = true :=
  needs_came h6 x (depsOf l x) (fun y hy => by obtain ⟨o, ho, hw⟩ := depsOf_waits hy; exact h6 x o y ho hx hw) k (List.contains_iff_mem.1 h)
/-- The last phase in which operation k may come up. -/
def till (l : List Oper) (k : Nat) : List Nat → Nat
  | [] => 0
  | i :: r => if needsB l i k then 0 else till l k r + 1

/-- Whoever writes slot s waits for operation k. -/
def earlyB (l : List Oper) (k : Nat) (s : Tmp) : Bool := (List.range l.length).all fun j => (match l[j]? with | some o => o.dst != some s || needsB l j k | none => true)
theorem early_at {l : List Oper} {k : Nat} {s : Tmp} (h : earlyB l k s = true) {j : Nat} {o : Oper} (ho : l[j]? = some o) (hd : o.dst = some s) : needsB l j k = true := by
  have hj := (List.getElem?_eq_some_iff.1 ho).1
  have := List.all_eq_true.1 h j (List.mem_range.2 hj)
  rw [ho] at this
  simpa [hd] using this
/-- What is known when operation k comes up. -/
structure Cx (l : List Oper) (V : Nat → Option Value) (a0 : Act) (k : Nat) (o : Oper) (a : Act) : Prop where
  base : ∀ s, earlyB l k s = true → slot a s = slot a0 s
  room : a.tmps.size = a0.tmps.size
  dep : ∀ (j : Nat) (o' : Oper) (d : Tmp) (v : Value), l[j]? = some o' → o'.dst = some d → waits o j = true → V j = some v → slot a d = v
theorem Cx.old {k : Nat} {o : Oper} {a : Act} (c : Cx l V a0 k o a) (s : Tmp) {v : Value} (h : earlyB l k s = true) (hv : slot a0 s = v) : slot a s = v := (c.base s h).trans hv
def depB (l : List Oper) (o : Oper) (j : Nat) (d : Tmp) : Bool := waits o j && (match l[j]? with | some o' => o'.dst == some d | none => false)
theorem Cx.get {k : Nat} {o : Oper} {a : Act} (c : Cx l V a0 k o a) (j : Nat) (d : Tmp) {v : Value} (h : depB l o j d = true) (hv : V j = some v) : slot a d = v := by
  unfold depB at h
  simp only [Bool.and_eq_true] at h
  cases ho : l[j]? with
  | none => rw [ho] at h; simp at h
  | some o' =>
    rw [ho] at h
    exact c.dep j o' d v ho (by simpa using h.2) h.1 hv

/-- An operation that reads: it leaves v, whatever has been made so far. -/
def Reads (P : Program) (l : List Oper) (Q : Exit → Act → World → Prop) (V : Nat → Option Value) (ch : List Nat) (Φ : Nat → List Value → World → Prop) (a0 : Act) (k : Nat) (o : Oper) (v : Value) : Prop :=
  ∀ a w j vs, Cx l V a0 k o a → j ≤ till l k ch → Φ j vs w →
    (Region.wanted o (yielded l.toArray a.tmps) = true ∧ o.wp P a w (fun a' w' => a' = a.put o.dst v ∧ w' = w) Q) ∨ (Region.wanted o (yielded l.toArray a.tmps) = false ∧ v = undef)
/-- Operation number i of the chain. -/
def Makes (P : Program) (l : List Oper) (Q : Exit → Act → World → Prop) (V : Nat → Option Value) (ch : List Nat) (Φ : Nat → List Value → World → Prop) (a0 : Act) (i k : Nat) (o : Oper) : Prop :=
  ∀ a w, Cx l V a0 k o a → Φ i ((ch.take i).map (out l a)) w →
    Region.wanted o (yielded l.toArray a.tmps) = true ∧ o.wp P a w (fun a' w' => ∃ v, a' = a.put o.dst v ∧ Φ (i + 1) ((ch.take i).map (out l a) ++ [if o.dst.isSome then v else undef]) w') Q
def Steps (P : Program) (l : List Oper) (Q : Exit → Act → World → Prop) (V : Nat → Option Value) (ch : List Nat) (Φ : Nat → List Value → World → Prop) (a0 : Act) : Nat → List Oper → Prop
  | _, [] => True
  | k, o :: r => (match V k with
    | some v => Reads P l Q V ch Φ a0 k o v
    | none => ∃ i, ch[i]? = some k ∧ Makes P l Q V ch Φ a0 i k o) ∧ Steps P l Q V ch Φ a0 (k + 1) r
theorem steps_at (r : List Oper) : ∀ (k : Nat), Steps P l Q V ch Φ a0 k r → ∀ (j : Nat) (o : Oper), r[j]? = some o → (match V (k + j) with
    | some v => Reads P l Q V ch Φ a0 (k + j) o v
    | none => ∃ i, ch[i]? = some (k + j) ∧ Makes P l Q V ch Φ a0 i (k + j) o) := by
  induction r with
  | nil => intro k _ j o e; simp at e
  | cons x r ih =>
    intro k h j o e
    cases j with
    | zero =>
      simp at e; subst e
      exact h.1
    | succ j =>
      have := ih (k + 1) h.2 j o (by simpa using e)
      rw [show k + (j + 1) = k + 1 + j by omega]; exact this

structure Inv (l : List Oper) (V : Nat → Option Value) (ch : List Nat) (Φ : Nat → List Value → World → Prop) (a0 : Act) (L : Array Bool) (a : Act) (w : World) : Prop where
  size : L.size = l.length
  base : ∀ s, (∀ (j : Nat) (o : Oper), l[j]? = some o → o.dst = some s → L.getD j false = false) → slot a s = slot a0 s
  room : a.tmps.size = a0.tmps.size
  defs : a.defers = a0.defers
  vals : ∀ (k : Nat) (o : Oper) (d : Tmp) (v : Value), l[k]? = some o → o.dst = some d → L.getD k false = true → V k = some v → slot a d = v
  came : ∀ (j : Nat) (o' : Oper) (i : Nat), l[j]? = some o' → L.getD j false = true → waits o' i = true → L.getD i false = true
  phase : ∃ j, j ≤ ch.length ∧ (∀ (i k : Nat), ch[i]? = some k → L.getD k false = decide (i < j)) ∧ Φ j ((ch.take j).map (out l a)) w

theorem getD_set {L : Array Bool} {k i : Nat} (h : L.getD k true = false) : (L.setIfInBounds k true).getD i false = (decide (i = k) || L.getD i false) := by
  by_cases hik : i = k
  · subst hik
    obtain ⟨hs, _⟩ := Reg.getD_false h
    simp [hs]
  · simp [hik, Ne.symm hik]

theorem till_at (k : Nat) : ∀ (ch : List Nat) (j : Nat), (∀ i x, i < j → ch[i]? = some x → needsB l x k = false) → j ≤ ch.length → j ≤ till l k ch
  | [], j, _, hj => by simp at hj; omega
  | x :: r, 0, _, _ => Nat.zero_le _
  | x :: r, j + 1, h, hj => by
    unfold till
    rw [h 0 x (by omega) rfl]
    simp only [Bool.false_eq_true, if_false]
    exact Nat.succ_le_succ (till_at k r j (fun i y hi hy => h (i + 1) y (by omega) (by simpa using hy)) (by simpa using hj))

theorem chain_at : ∀ (ch : List Nat), chainB l ch = true → ∀ (i x y : Nat) (o : Oper), ch[i]? = some x → ch[i + 1]? = some y → l[y]? = some o → waits o x = true
  | [], _, i, x, y, o, e, _, _ => by simp at e
  | [a], _, i, x, y, o, e, e', _ => by simp at e'
  | a :: b :: r, h, i, x, y, o, e, e', ho => by
    simp only [chainB, Bool.and_eq_true] at h
    cases i with
    | zero =>
      simp at e e'
      subst e e'
      rw [ho] at h
      exact h.1
    | succ i => exact chain_at (b :: r) h.2 i x y o (by simpa using e) (by simpa using e') ho

theorem out_put {a : Act} {k i : Nat} {o : Oper} {v : Value} (hap : apartC l = true) (ho : l[k]? = some o) (hne : i ≠ k) : out l (a.put o.dst v) i = out l a i := by
  unfold out
  cases hi : l[i]? with
  | none => rfl
  | some o' =>
    simp only
    cases hd : o'.dst with
    | none => rfl
    | some d =>
      simp only
      cases hk : o.dst with
      | none => rfl
      | some d' =>
        refine slot_put_ne fun e => ?_
        subst e
        exact apartC_at l hap i k o' o d' hi ho hne hd hk

/-- What stays whoever comes up. -/
theorem inv_put {k : Nat} {o : Oper} {L : Array Bool} {a : Act} {w w' : World} {v : Value} (hap : apartC l = true) (hsz : ∀ (i : Nat) (o : Oper) (d : Tmp), l[i]? = some o → o.dst = some d → d < a0.tmps.size)
    (ho : l[k]? = some o) (hk : L.getD k true = false) (hcm : ∀ j, waits o j = true → L.getD j false = true) (hI : Inv l V ch Φ a0 L a w) (hv : ∀ u, V k = some u → v = u)
    (hph : ∃ j, j ≤ ch.length ∧ (∀ (i x : Nat), ch[i]? = some x → (L.setIfInBounds k true).getD x false = decide (i < j)) ∧ Φ j ((ch.take j).map (out l (a.put o.dst v))) w') : Inv l V ch Φ a0 (L.setIfInBounds k true) (a.put o.dst v) w' := by
  obtain ⟨h1, h2, h3, h4, h5, h6, _⟩ := hI
  refine ⟨by simp [h1], fun s hs => ?_, by rw [put_size]; exact h3, by rw [put_defers]; exact h4, fun j o' d u hj hd hl hu => ?_, fun j o' i hj hl hw => ?_, hph⟩
  · have hs' : ∀ (j : Nat) (o : Oper), l[j]? = some o → o.dst = some s → L.getD j false = false := fun j o' hj hd => by
      have := hs j o' hj hd
      rw [getD_set hk, Bool.or_eq_false_iff] at this
      exact this.2
    cases hd : o.dst with
    | none => exact h2 s hs'
    | some d =>
      rw [slot_put_ne (fun e => by
        subst e
        have := hs k o ho hd
        rw [getD_set hk] at this
        simp at this)]
      exact h2 s hs'
  · rw [getD_set hk] at hl
    by_cases hjk : j = k
    · subst hjk
      rw [ho] at hj
      injection hj with hj
      subst hj
      rw [hd, slot_put (by rw [h3]; exact hsz j o d ho hd)]
      exact hv u hu
    · have hl' : L.getD j false = true := by simpa [hjk] using hl
      cases hd' : o.dst with
      | none => exact h5 j o' d u hj hd hl' hu
      | some d' =>
        rw [slot_put_ne fun e => by subst e; exact apartC_at l hap j k o' o d' hj ho hjk hd hd']
        exact h5 j o' d u hj hd hl' hu
  · rw [getD_set hk] at hl ⊢
    by_cases hjk : j = k
    · subst hjk
      rw [ho] at hj
      injection hj with hj
      subst hj
      rw [hcm i hw]; simp
    · rw [h6 j o' i hj (by simpa [hjk] using hl) hw]; simp

/-- All ways of such a region. -/
theorem any_chain {w : World} (V : Nat → Option Value) (ch : List Nat) (Φ : Nat → List Value → World → Prop) (hap : apartC l = true) (hor : orderB 0 l = true) (hsz : (l.all fun o => match o.dst with | some d => decide (d < a0.tmps.size) | none => true) = true)
    (hch : chainB l ch = true) (hnd : ch.Nodup) (hnv : (ch.all fun k => (V k).isNone && decide (k < l.length)) = true) (h0 : Φ 0 [] w.drew) (hsteps : Steps P l Q V ch Φ a0 0 l)
    (hdone : ∀ a w, (∀ s, unwritten l.toArray s = true → slot a s = slot a0 s) → a.tmps.size = a0.tmps.size → a.defers = a0.defers → Φ ch.length (ch.map (out l a)) w → (∀ (k : Nat) (o : Oper) (d : Tmp) (v : Value), l[k]? = some o → o.dst = some d → V k = some v → slot a d = v) → Q .normal a w) :
    wpAny P .any l.toArray Q l.toArray.size (Array.replicate l.toArray.size false) a0 w.drew := by
  have hsz' : ∀ (i : Nat) (o : Oper) (d : Tmp), l[i]? = some o → o.dst = some d → d < a0.tmps.size := by
    intro i o d ho hd
    have := List.all_eq_true.1 hsz o (List.mem_of_getElem? ho)
    rw [hd] at this
    simpa using this
  have hnv' : ∀ (i k : Nat), ch[i]? = some k → V k = none ∧ k < l.length := by
    intro i k hk
    have := List.all_eq_true.1 hnv k (List.mem_of_getElem? hk)
    simpa using this
  refine Reg.any_inv (Inv l V ch Φ a0) ?_ ?_ ?_
  · refine ⟨by simp, fun _ _ => rfl, rfl, rfl, fun k o d v _ _ hl => ?_, fun j o i _ hl => ?_, 0, Nat.zero_le _, fun i k hk => ?_, h0⟩
    · by_cases hk : k < l.length <;> simp [hk] at hl
    · by_cases hj : j < l.length <;> simp [hj] at hl
    · by_cases hkl : k < l.length <;> simp [hkl]
  · intro L a' w' hI hready
    obtain ⟨h1, h2, h3, h4, h5, h6, j, hj, hph, hΦ⟩ := hI
    have hall : ∀ j, j < l.length → L.getD j false = true := by
      intro j
      induction j using Nat.strongRecOn with
      | _ j ih =>
        intro hj
        have ho : l[j]? = some l[j] := List.getElem?_eq_getElem hj
        refine Reg.none_ready (by simpa using h1) hready (o := l[j]) (by simp) fun e he hb => ?_
        have hlt := order_at l 0 hor j _ ho e he hb
        exact ih e.on (by omega) (by omega)
    have hjl : j = ch.length := by
      rcases Nat.lt_or_ge j ch.length with h | h
      · have hk : ch[j]? = some ch[j] := List.getElem?_eq_getElem h
        have := hph j ch[j] hk
        rw [hall _ (hnv' j _ hk).2] at this
        simp at this
      · omega
    subst hjl
    rw [List.take_length] at hΦ
    have h2' : ∀ s, unwritten l.toArray s = true → slot a' s = slot a0 s := fun s hs => h2 s fun j o ho hd => absurd hd (unwritten_ne (ops := l.toArray) hs (i := j) (o := o) (by simpa using ho))
    refine hdone a' w' h2' h3 h4 hΦ fun k o d v ho hd hv => h5 k o d v ho hd (hall k ?_) hv
    exact (List.getElem?_eq_some_iff.1 ho).1
  · intro L a' w' k hI hk
    obtain ⟨hun, o, ho', hdep⟩ := mem_ready.1 hk
    have ho : l[k]? = some o := by simpa using ho'
    have hI' := hI
    obtain ⟨h1, h2, h3, h4, h5, h6, j, hj, hph, hΦ⟩ := hI
    have hcame : ∀ j, waits o j = true → L.getD j false = true := by
      intro j hj
      unfold waits at hj
      obtain ⟨e, he, hb⟩ := List.any_eq_true.1 hj
      simp only [Bool.and_eq_true, beq_iff_eq] at hb
      have := hdep e (by simpa using he) hb.2
      rw [hb.1] at this
      exact this
    have hun' : L.getD k false = false := by
      obtain ⟨hs, hf⟩ := Reg.getD_false hun
      simp [hs, hf]
    have hearly : ∀ s, earlyB l k s = true → slot a' s = slot a0 s := fun s hs => h2 s fun j o' hj hd => by
      have hn := early_at hs hj hd
      rw [Bool.eq_false_iff]
      intro hl
      have := needsB_came h6 hn hl
      rw [hun'] at this
      exact Bool.false_ne_true this
    have cx : Cx l V a0 k o a' := ⟨hearly, h3, fun j o' d v hj hd hw hv => h5 j o' d v hj hd (hcame j hw) hv⟩
    have hs := steps_at l 0 hsteps k o ho
    rw [Nat.zero_add] at hs
    unfold wpOp
    simp only [ho']
    cases hV : V k with
    | some v =>
      rw [hV] at hs
      have hnc : ∀ (i x : Nat), ch[i]? = some x → x ≠ k := fun i x hx e => by
        subst e
        rw [(hnv' i x hx).1] at hV; cases hV
      have htill : j ≤ till l k ch := till_at k ch j (fun i x hi hx => by
        rw [Bool.eq_false_iff]
        intro hw
        have h7 := hph i x hx
        rw [decide_eq_true hi] at h7
        have := needsB_came h6 hw h7
        rw [hun'] at this; cases this) hj
      have hph' : ∃ j, j ≤ ch.length ∧ (∀ (i x : Nat), ch[i]? = some x → (L.setIfInBounds k true).getD x false = decide (i < j)) ∧ Φ j ((ch.take j).map (out l (a'.put o.dst v))) w' := by
        refine ⟨j, hj, fun i x hx => ?_, ?_⟩
        · rw [getD_set hun, hph i x hx, decide_eq_false (hnc i x hx), Bool.false_or]
        · rw [List.map_congr_left (g := out l a')]
          · exact hΦ
          · intro x hx
            obtain ⟨i, hi⟩ := List.mem_iff_getElem?.1 (List.mem_of_mem_take hx)
            exact out_put hap ho (hnc i x hi)
      rcases hs a' w' j _ cx htill hΦ with ⟨hw, hs⟩ | ⟨hw, hv⟩
      · rw [if_pos hw]
        refine .inl (Oper.wp_mono (fun a'' w'' ⟨ha, hw''⟩ => ?_) hs)
        subst ha hw''
        exact inv_put hap hsz' ho hun hcame hI' (fun u hu => by rw [hV] at hu; injection hu) hph'
      · rw [if_neg (by rw [hw]; exact Bool.false_ne_true)]
        subst hv
        exact inv_put hap hsz' ho hun hcame hI' (fun u hu => by rw [hV] at hu; injection hu) hph'
    | none =>
      rw [hV] at hs
      obtain ⟨i, hi, hs⟩ := hs
      have hij : i = j := by
        have h7 := hph i k hi
        rw [hun'] at h7
        have h8 : ¬ i < j := by
          intro h; rw [decide_eq_true h] at h7; cases h7
        cases i with
        | zero => omega
        | succ i =>
          have hil : i < ch.length := by have := (List.getElem?_eq_some_iff.1 hi).1; omega
          have h9 := chain_at ch hch i ch[i] k o (List.getElem?_eq_getElem hil) hi ho
          have h10 := hph i ch[i] (List.getElem?_eq_getElem hil)
          rw [hcame _ h9] at h10
          have : i < j := by simpa using h10.symm
          omega
      subst hij
      obtain ⟨hw, hs⟩ := hs a' w' cx hΦ
      rw [if_pos hw]
      refine .inl (Oper.wp_mono (fun a'' w'' ⟨v, ha, hΦ'⟩ => ?_) hs)
      subst ha
      have hil : i < ch.length := (List.getElem?_eq_some_iff.1 hi).1
      have hik : ch[i] = k := (List.getElem?_eq_some_iff.1 hi).2
      refine inv_put hap hsz' ho hun hcame hI' (fun u hu => by rw [hV] at hu; cases hu) ⟨i + 1, hil, fun i' x hx => ?_, ?_⟩
      · rw [getD_set hun, hph i' x hx]
        by_cases he : x = k
        · subst he
          have hi'l : i' < ch.length := (List.getElem?_eq_some_iff.1 hx).1
          have hi'k : ch[i'] = x := (List.getElem?_eq_some_iff.1 hx).2
          have : i' = i := (List.getElem_inj hnd).1 (hi'k.trans hik.symm)
          subst this
          simp
        · have : i' ≠ i := fun e => he (by subst e; rw [hi] at hx; injection hx with hx; exact hx.symm)
          rw [decide_eq_false he, Bool.false_or, decide_eq_decide]
          omega
      · rw [List.take_succ_eq_append_getElem hil, List.map_append, List.map_cons, List.map_nil, hik]
        have hm1 : (ch.take i).map (out l (a'.put o.dst v)) = (ch.take i).map (out l a') := List.map_congr_left fun x hx => by
          obtain ⟨i', hi'⟩ := List.mem_iff_getElem?.1 hx
          refine out_put hap ho fun e => ?_
          subst e
          have hlt : i' < i := by
            have := (List.getElem?_eq_some_iff.1 hi').1
            rw [List.length_take] at this; omega
          rw [List.getElem?_take, if_pos hlt] at hi'
          have hi'l : i' < ch.length := by omega
          rw [List.getElem?_eq_getElem hi'l] at hi'
          injection hi' with hi'
          have := (List.getElem_inj hnd).1 (hi'.trans hik.symm)
          omega
        rw [hm1]
        have hout : out l (a'.put o.dst v) k = if o.dst.isSome then v else undef := by
          unfold out
          rw [ho]
          simp only
          cases hd : o.dst with
          | none => rfl
          | some d =>
            show slot (a'.put (some d) v) d = v
            exact slot_put (by rw [h3]; exact hsz' k o d ho hd)
        rw [hout]
        exact hΦ'

/-- THE LAW. -/
theorem wp_region_chain {id : Nat} {w : World} (V : Nat → Option Value) (ch : List Nat) (Φ : Nat → List Value → World → Prop) (hm : P.follows .mixedOrders = true) (hap : apartC l = true) (hor : orderB 0 l = true) (hsz : (l.all fun o => match o.dst with | some d => decide (d < a0.tmps.size) | none => true) = true)
    (hch : chainB l ch = true) (hnd : ch.Nodup) (hnv : (ch.all fun k => (V k).isNone && decide (k < l.length)) = true) (h0 : Φ 0 [] w.drew) (hsteps : Steps P l Q V ch Φ a0 0 l)
    (hdone : ∀ a w, (∀ s, unwritten l.toArray s = true → slot a s = slot a0 s) → a.tmps.size = a0.tmps.size → a.defers = a0.defers → Φ ch.length (ch.map (out l a)) w → (∀ (k : Nat) (o : Oper) (d : Tmp) (v : Value), l[k]? = some o → o.dst = some d → V k = some v → slot a d = v) → Q .normal a w) :
    (Code.region id l.toArray true).wp P Q a0 w :=
  wp_region_any hm (any_chain V ch Φ hap hor hsz hch hnd hnv h0 hsteps hdone)

/-- The frame behind a region: what it wrote, put into the frame ahead of it. -/
theorem puts_at (a : Act) : ∀ (ds : List Tmp) (b : Act) (i : Nat), (ds.foldl (fun A d => A.put (some d) (slot a d)) b).tmps[i]? = if i ∈ ds ∧ i < b.tmps.size then some (slot a i) else b.tmps[i]?
  | [], b, i => by simp
  | d :: ds, b, i => by
    rw [List.foldl_cons, puts_at a ds (b.put (some d) (slot a d)) i, put_size]
    by_cases h1 : i ∈ ds ∧ i < b.tmps.size
    · rw [if_pos h1, if_pos ⟨List.mem_cons_of_mem _ h1.1, h1.2⟩]
    · rw [if_neg h1]
      by_cases h2 : i = d
      · subst h2
        by_cases h3 : i < b.tmps.size
        · rw [if_pos ⟨List.mem_cons_self, h3⟩]
          simp [Act.put, h3]
        · rw [if_neg fun h => h3 h.2]
          simp [Act.put, h3]
      · have h4 : (b.put (some d) (slot a d)).tmps[i]? = b.tmps[i]? := by
          simp only [Act.put]
          rw [Array.getElem?_setIfInBounds_ne (fun e => h2 e.symm)]
        rw [h4, if_neg]
        rintro ⟨h5, h6⟩
        rcases List.mem_cons.1 h5 with h5 | h5
        · exact h2 h5
        · exact h1 ⟨h5, h6⟩
theorem puts_defers (a : Act) : ∀ (ds : List Tmp) (b : Act), (ds.foldl (fun A d => A.put (some d) (slot a d)) b).defers = b.defers
  | [], b => rfl
  | d :: ds, b => by rw [List.foldl_cons, puts_defers a ds, put_defers]
theorem act_puts {a : Act} (ds : List Tmp) (hb : ∀ s, unwritten l.toArray s = true → slot a s = slot a0 s) (hr : a.tmps.size = a0.tmps.size) (hd : a.defers = a0.defers)
    (hl : ((List.range a0.tmps.size).all fun i => ds.contains i || unwritten l.toArray i) = true) : a = ds.foldl (fun A d => A.put (some d) (slot a d)) a0 := by
  have hp := puts_at a ds a0
  have hpd := puts_defers a ds a0
  generalize ds.foldl (fun A d => A.put (some d) (slot a d)) a0 = b at *
  obtain ⟨tm, df⟩ := a
  obtain ⟨tb, db⟩ := b
  simp only at hd hpd
  subst hd hpd
  congr 1
  apply Array.ext_getElem?
  intro i
  have h1 := hp i
  simp only at h1
  rw [h1]
  by_cases hi : i < a0.tmps.size
  · have h3 := List.all_eq_true.1 hl i (List.mem_range.2 hi)
    have hit : i < tm.size := by simp only at hr; omega
    have hs : slot { tmps := tm, defers := a0.defers } i = tm[i] := by
      unfold slot
      simp [hit]
    by_cases hc : i ∈ ds
    · rw [if_pos ⟨hc, hi⟩, hs, Array.getElem?_eq_getElem hit]
    · rw [if_neg fun h => hc h.1]
      have hu : unwritten l.toArray i = true := by
        rcases Bool.or_eq_true _ _ ▸ h3 with h4 | h4
        · exact absurd (List.contains_iff_mem.1 h4) hc
        · exact h4
      have h5 := hb i hu
      rw [hs] at h5
      have h6 : slot a0 i = a0.tmps[i] := by
        unfold slot
        simp [hi]
      rw [Array.getElem?_eq_getElem hit, Array.getElem?_eq_getElem hi, h5, h6]
  · rw [if_neg fun h => hi h.2, Array.getElem?_eq_none (by simp only at hr; omega), Array.getElem?_eq_none (by omega)]

/-! ### One operation more -/

theorem wanted_not {o : Oper} {a : Act} {ops : Array Oper} {j : Nat} {b : Bool} {d : Tmp} (h : wantB ops o j b d = true) (hv : slot a d = .bool (!b)) : Region.wanted o (yielded ops a.tmps) = false := by
  unfold wantB at h
  simp only [Bool.and_eq_true] at h
  obtain ⟨h1, h2⟩ := h
  cases hg : o.guard with
  | none => rw [hg] at h1; cases h1
  | some g =>
    obtain ⟨j', b'⟩ := g
    rw [hg] at h1
    simp only [Bool.and_eq_true, beq_iff_eq] at h1
    obtain ⟨rfl, rfl⟩ := h1
    cases ho : ops.toList[j']? with
    | none => rw [ho] at h2; cases h2
    | some o' =>
      rw [ho] at h2
      rw [wanted_is hg (by simpa using ho) (by simpa using h2) hv]
      cases b' <;> rfl

section
variable {o : Oper} {a : Act} {w : World} {K : Act → World → Prop}
theorem wp_nc (x : Operand) (ho : o.op = .nilCheck x) {p : Addr} (hx : a.eval x = .pointer (some p)) (h : K (a.put o.dst (.pointer (some p))) w) : o.wp P a w K Q := by
  unfold Oper.wp execOp
  simp only [ho, hx]
  exact h
theorem wp_fa (s : TypeId) (x : Operand) (f : Nat) (ho : o.op = .fieldAddr s x f) {v u : Value} {w' : World} (hx : a.eval x = v) (hr : (Instr.fieldAt s v f).run P w = .ok u w') (h : K (a.put o.dst u) w') : o.wp P a w K Q := by
  unfold Oper.wp execOp
  simp only [ho, hx, Sem.run_bind, hr]
  exact h
theorem wp_st (t : TypeId) (x y : Operand) (ho : o.op = .store t x y) {vx vy : Value} {w' : World} (hx : a.eval x = vx) (hy : a.eval y = vy) (hr : (Instr.storeAt t vx vy).run P w = .ok () w') (h : K (a.put o.dst undef) w') : o.wp P a w K Q := by
  unfold Oper.wp execOp
  simp only [ho, hx, hy, Sem.run_bind, hr]
  exact h
theorem wp_bs (t : TypeId) (n : Nat) (parts : Array (Nat × Operand)) (ho : o.op = .buildSlice t n parts) {u : Value} {w' : World} (hr : (Instr.buildSlice t n (parts.map fun (i, x) => (i, a.eval x))).run P w = .ok u w') (h : K (a.put o.dst u) w') : o.wp P a w K Q := by
  unfold Oper.wp execOp
  simp only [ho, Sem.run_bind, hr]
  exact h
theorem wp_bs0 (t : TypeId) (ho : o.op = .buildSlice t 0 #[]) {u : Value} {w' : World} (hr : (Instr.buildSlice t 0 #[]).run P w = .ok u w') (h : K (a.put o.dst u) w') : o.wp P a w K Q :=
  wp_bs t 0 _ ho (by simpa using hr) h
theorem wp_bs1 (t : TypeId) (x : Operand) (ho : o.op = .buildSlice t 1 #[(0, x)]) {v u : Value} {w' : World} (hx : a.eval x = v) (hr : (Instr.buildSlice t 1 #[(0, v)]).run P w = .ok u w') (h : K (a.put o.dst u) w') : o.wp P a w K Q :=
  wp_bs t 1 _ ho (by subst hx; simpa using hr) h
theorem wp_bd2 (t : TypeId) (i j : Nat) (x y : Operand) (ho : o.op = .build t #[(i, x), (j, y)]) {v u r : Value} {w' : World} (hx : a.eval x = v) (hy : a.eval y = u) (hr : (Instr.build t #[(i, v), (j, u)]).run P w = .ok r w') (h : K (a.put o.dst r) w') : o.wp P a w K Q := by
  subst hx hy
  unfold Oper.wp execOp
  have hm : (#[(i, x), (j, y)] : Array (Nat × Operand)).map (fun (i, x) => (i, a.eval x)) = #[(i, a.eval x), (j, a.eval y)] := by simp
  simp only [ho, Sem.run_bind, hm, hr]
  exact h
theorem wp_bd (t : TypeId) (parts : Array (Nat × Operand)) (ho : o.op = .build t parts) {u : Value} {w' : World} (hr : (Instr.build t (parts.map fun (i, x) => (i, a.eval x))).run P w = .ok u w') (h : K (a.put o.dst u) w') : o.wp P a w K Q := by
  unfold Oper.wp execOp
  simp only [ho, Sem.run_bind, hr]
  exact h
theorem wp_ms (t : TypeId) (x y : Operand) (ho : o.op = .makeSlice t x y) {vx vy u : Value} {w' : World} (hx : a.eval x = vx) (hy : a.eval y = vy) (hr : (Instr.makeSlice t vx vy).run P w = .ok u w') (h : K (a.put o.dst u) w') : o.wp P a w K Q := by
  unfold Oper.wp execOp
  simp only [ho, hx, hy, Sem.run_bind, hr]
  exact h
theorem wp_uo (k : UnOp) (t : TypeId) (x : Operand) (ho : o.op = .unOp k t x) {vx u : Value} {w' : World} (hx : a.eval x = vx) (hr : (Op.unary k vx).run P w = .ok u w') (h : K (a.put o.dst u) w') : o.wp P a w K Q := by
  unfold Oper.wp execOp
  simp only [ho, hx, Sem.run_bind, hr]
  exact h
theorem wp_ap (s x : Operand) (t : TypeId) (ho : o.op = .call { callee := .builtin .append, args := #[s, x], argTypes := #[t, t] }) {vs vx u : Value} {w' : World} (hs : a.eval s = vs) (hx : a.eval x = vx) (hr : (Builtin.append_ #[t, t] o.type #[vs, vx]).run P w = .ok u w') (h : K (a.put o.dst u) w') : o.wp P a w K Q := by
  unfold Oper.wp execOp
  simp only [ho]
  simp [resolve, invoke, builtin, hs, hx]
  rw [hr]
  exact h
end

end Go.Proofs.Ytdgfoldobofgoaa.Chn
/- Disk: what the program's disk is to do, whatever it is in memory (what stages without the document's disk need of it). -/
namespace Go.Proofs.Ytdgfoldobofgoaa.Dsk
open Go.RowKit
open Go.Sort
open Kit
open Oct
open Foot
set_option linter.unusedVariables false

/-- A fuse, below 0: none. -/
def nf (f : Int) : Int := if f < 0 then -1 else f
theorem nf_zero (f : Int) : nf f = 0 ↔ f = 0 := by unfold nf; split <;> omega
theorem burnt_nf (f : Int) : burnt (nf f) = nf (burnt f) := by
  unfold burnt nf
  by_cases h : f < 0
  · rw [if_pos h, if_neg (by omega : ¬ (0 : Int) < -1), if_neg (by omega : ¬ 0 < f), if_pos h]
  · rw [if_neg h]
    by_cases h0 : 0 < f
    · rw [if_pos h0, if_neg (by omega)]
    · rw [if_neg h0, if_neg h]
theorem burnt_in {f : Int} (h : -9223372036854775808 ≤ f ∧ f ≤ 9223372036854775807) : -9223372036854775808 ≤ burnt f ∧ burnt f ≤ 9223372036854775807 := by unfold burnt; split <;> omega

/-- Bytes that were read: in a block of their own. -/
def RdB (w : World) (base : Nat) (v : Value) (l : List UInt8) : Prop := ∃ a cap, v = .slice a l.length cap ∧ l.length ≤ cap ∧ cap ≤ maxLen ∧ (a = none → cap = 0) ∧ RowB w a l ∧ ∀ q, a = some q → q = ⟨q.block, 0, none⟩ ∧ base ≤ q.block ∧ q.block < w.heap.size
theorem rd_row {w : World} {base : Nat} {v : Value} {l : List UInt8} (h : RdB w base v l) : ∃ a cap, v = .slice a l.length cap ∧ l.length ≤ cap ∧ cap ≤ maxLen ∧ (a = none → cap = 0) ∧ RowB w a l := by
  obtain ⟨a, cap, h1, h2, h3, h4, h5, _⟩ := h
  exact ⟨a, cap, h1, h2, h3, h4, h5⟩

/-- What the program's disk is to do, whatever it is in memory. -/
structure Prog (D : World → (Nat → Prop) → Nat → DS → Prop) : Prop where
  mono : ∀ {w : World} {F G : Nat → Prop} {p : Nat} {s : DS}, D w F p s → (∀ k, F k → G k) → D w G p s
  chg : ∀ {w w' : World} {F G : Nat → Prop} {p : Nat} {s : DS}, D w F p s → Chg G w w' → (∀ k, F k → ¬ G k) → D w' F p s
  ok : ∀ {w : World} {F : Nat → Prop} {p : Nat} {s : DS}, D w F p s → s.Ok
  new : ∀ (n : Int) (w : World), -9223372036854775808 ≤ n → n ≤ 9223372036854775807 →
    Calls Try.prog 7 #[.int .i64 n] w fun e w' => ∃ p, e = .returned (.pointer (some ⟨p, 0, none⟩)) ∧ D w' (More (fun _ => False) w w') p (DS.new n) ∧ Below w.heap.size w w'
  size : ∀ {w : World} {F : Nat → Prop} {p : Nat} {s : DS}, D w F p s → Calls Try.prog 22 #[.pointer (some ⟨p, 0, none⟩)] w fun e w' => e = .returned (.int .i64 s.good.length) ∧ Below w.heap.size w w'
  write : ∀ {w : World} {F : Nat → Prop} {p : Nat} {s : DS}, D w F p s → (∀ k, F k → k < w.heap.size) → ∀ (i : Int) (aa : Option Addr) (len cc : Nat) (l : Sec), -9223372036854775808 ≤ i ∧ i ≤ 9223372036854775807 → l.length = len → len ≤ cc → cc ≤ maxLen → (aa = none → len = 0 ∧ cc = 0) → RowB w aa l → (∀ q, aa = some q → ¬ F q.block) →
    Calls Try.prog 45 #[.pointer (some ⟨p, 0, none⟩), .int .i64 i, .slice aa len cc] w fun e w' => e = .returned (.int .i64 (s.write i l).1) ∧ D w' (More F w w') p (s.write i l).2 ∧ Chg F w w'
  read : ∀ {w : World} {F : Nat → Prop} {p : Nat} {s : DS}, D w F p s → ∀ (i : Int), -9223372036854775808 ≤ i ∧ i ≤ 9223372036854775807 →
    Calls Try.prog 38 #[.pointer (some ⟨p, 0, none⟩), .int .i64 i] w fun e w' => ∃ v, e = .returned (.tuple #[v, .int .i64 (s.read i).2]) ∧ RdB w' w.heap.size v (s.read i).1 ∧ Below w.heap.size w w'
  flush : ∀ {w : World} {F : Nat → Prop} {p : Nat} {s : DS}, D w F p s → (∀ k, F k → k < w.heap.size) →
    Calls Try.prog 31 #[.pointer (some ⟨p, 0, none⟩)] w fun e w' => e = .returned (.int .i64 s.flush.1) ∧ D w' (More F w w') p s.flush.2 ∧ Chg F w w'
  fuse : ∀ {w : World} {F : Nat → Prop} {p : Nat} {s : DS}, D w F p s → (∀ k, F k → k < w.heap.size) → ∀ (n : Int), -9223372036854775808 ≤ n ∧ n ≤ 9223372036854775807 →
    Calls Try.prog 13 #[.pointer (some ⟨p, 0, none⟩), .int .i64 n] w fun e w' => e = .returned (.tuple #[]) ∧ D w' (More F w w') p { s with fuse := nf n } ∧ Chg F w w'
  crash : ∀ {w : World} {F : Nat → Prop} {p : Nat} {s : DS}, D w F p s → (∀ k, F k → k < w.heap.size) → ∀ (keep torn cut : Int), -9223372036854775808 ≤ keep ∧ keep ≤ 9223372036854775807 → -9223372036854775808 ≤ torn ∧ torn ≤ 9223372036854775807 → -9223372036854775808 ≤ cut ∧ cut ≤ 9223372036854775807 →
    Calls Try.prog 11 #[.pointer (some ⟨p, 0, none⟩), .int .i64 keep, .int .i64 torn, .int .i64 cut] w fun e w' => e = .returned (.tuple #[]) ∧ D w' (More F w w') p (s.crash keep torn cut) ∧ Chg F w w'

variable {D : World → (Nat → Prop) → Nat → DS → Prop}
theorem set_far {L : Array Bool} {i k : Nat} (h : k ≠ i) : (L.setIfInBounds k true).getD i false = L.getD i false := by simp [h]
theorem set_it {L : Array Bool} {i : Nat} (h : L.getD i true = false) : (L.setIfInBounds i true).getD i false = true := by
  obtain ⟨hi, _⟩ := Reg.getD_false h
  simp [hi]
theorem free_it {L : Array Bool} {i : Nat} (h : L.getD i true = false) : L.getD i false = false := by
  obtain ⟨hi, he⟩ := Reg.getD_false h
  simp [hi, he]
/-- A disk alone, its blocks from B on. -/
structure OneF (D : World → (Nat → Prop) → Nat → DS → Prop) (B : Nat) (w : World) (F : Nat → Prop) (p : Nat) (s : DS) : Prop where
  d : D w F p s
  lt : ∀ k, F k → B ≤ k ∧ k < w.heap.size
theorem one_keep (hD : Prog D) {B p : Nat} {w w' : World} {F : Nat → Prop} {s : DS} (h : OneF D B w F p s) (hb : Below w.heap.size w w') : OneF D B w' F p s :=
  ⟨hD.chg h.d (new_chg hb (fun _ => False)) (fun _ _ => id), fun k hk => ⟨(h.lt k hk).1, Nat.lt_of_lt_of_le (h.lt k hk).2 hb.size⟩⟩
theorem one_more (hD : Prog D) {B p : Nat} {w w' : World} {F : Nat → Prop} {s s' : DS} (h : OneF D B w F p s) (h1 : D w' (More F w w') p s') (hC : Chg F w w') (hB : B ≤ w.heap.size) : OneF D B w' (More F w w') p s' :=
  ⟨h1, fun k hk => ⟨more_ge (fun k hk => (h.lt k hk).1) hB hk, more_lt (fun k hk => (h.lt k hk).2) hC.size hk⟩⟩
theorem one_below {B p : Nat} {w w' : World} {F : Nat → Prop} {s : DS} (h : OneF D B w F p s) (hC : Chg F w w') (hB : B ≤ w.heap.size) : Below B w w' := chg_below hC (fun k hk => (h.lt k hk).1) hB

/-- Bytes that lie apart from F. -/
structure Far (F : Nat → Prop) (w : World) (a : Option Addr) (l : List UInt8) : Prop where
  row : RowB w a l
  far : ∀ q, a = some q → ¬ F q.block ∧ q.block < w.heap.size
theorem far_own {F : Nat → Prop} {w : World} {base : Nat} {v : Value} {l : List UInt8} (h : RdB w base v l) (hF : ∀ k, F k → k < base) : ∃ a c, v = .slice a l.length c ∧ (a = none → l.length = 0) ∧ Far F w a l := by
  obtain ⟨a, c, rfl, h1, _, h3, h4, h5⟩ := h
  refine ⟨a, c, rfl, fun e => by have := h3 e; omega, h4, fun q hq => ?_⟩
  obtain ⟨_, h6, h7⟩ := h5 q hq
  exact ⟨fun hf => by have := hF _ hf; omega, h7⟩
theorem far_chg {F : Nat → Prop} {w w' : World} {a : Option Addr} {l : List UInt8} (h : Far F w a l) (hC : Chg F w w') : Far (More F w w') w' a l := by
  refine ⟨?_, fun q hq => ⟨fun hf => hf.elim (h.far q hq).1 fun h' => by have := (h.far q hq).2; omega, Nat.lt_of_lt_of_le (h.far q hq).2 hC.size⟩⟩
  rcases h.row with e | ⟨b, o, e, h2⟩
  · exact .inl e
  · subst e
    exact row_chg encB_len hC (.inr ⟨b, o, rfl, h2⟩) (h.far _ rfl).1
theorem far_keep {F : Nat → Prop} {w w' : World} {a : Option Addr} {l : List UInt8} (h : Far F w a l) (hb : Below w.heap.size w w') : Far F w' a l :=
  ⟨row_keep encB_len h.row hb, fun q hq => ⟨(h.far q hq).1, Nat.lt_of_lt_of_le (h.far q hq).2 hb.size⟩⟩

theorem own_at {α : Type} {enc : α → List Value} {size : Nat} (hs : ∀ x, (enc x).length = size) {e : TypeId} {w : World} {base n c : Nat} {a : Option Addr} {l : List α} (h : Owns enc size e w base (.slice a n c) l) (hl : 0 < l.length) : ∃ g, a = some ⟨g, 0, none⟩ ∧ n = l.length ∧ n ≤ c ∧ Row enc size w (some ⟨g, 0, none⟩) l := by
  obtain ⟨a', c', he, h1, _, h3, h4⟩ := owns_row hs h
  injection he with e1 e2 e3
  subst e1 e2 e3
  rcases h.2 with ⟨h5, h6⟩ | ⟨g, cap, cur, h5, _⟩
  · omega
  · injection h5 with h5 _ _
    exact ⟨g, h5, rfl, h1, by rw [← h5]; exact h4⟩
theorem run_ld_i {w : World} {a : Addr} {n : Int} (h : w.cell? a = some (.int .i64 n)) : (Instr.loadAt 3 (.pointer (some a))).run Try.prog w = .ok (.int .i64 n) w := by
  simp [go_sem, h]

end Go.Proofs.Ytdgfoldobofgoaa.Dsk
