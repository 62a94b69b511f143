/- Common to the claims of this seat, part 1: texts that were written one by one, laid behind one another. -/
import Derived.Deep.Slices
import Derived.ChangeArms
import Derived.ChangeOld
import Derived.Below
import Derived.Carry
import Derived.SizedLaws
import Derived.OwnWalk
import Derived.Laws.AppendOwn
import Derived.Laws.AppendOwnNone
import Derived.Laws.OwnMore
import Derived.Deep.RegionHeld
import Derived.Lib.QuietBelow
import Derived.Lib.Hide
import Derived.WalkKit
import Derived.Test.YtjcndgopijpibaaGreatChecked
import Derived.BigFrame
import Derived.BigQuiet
import Derived.Deep.DeepCutAuto
import Derived.Deep.CutBlock
import Derived.WalkLawsBesides
import Derived.LoopTactic
/- Arguments of any shape, opened to plain data: by the type, part by part. -/
namespace Go.Proofs.YtjcndgopijpibaaGreat.Opn
open Go.ChangeShapes Go.WideShapes Go.Deep Go.RowKit
def Opens (P : Program) (w : World) (t : TypeId) {α : Type} (R : List Value → α → Prop) : Prop :=
  ∀ (H : Type) (enc : TypeId × Value → H) (base : Nat) (spare : Nat → Bool) (held : Bool) (fuel : Nat) (cs : List Value) (x : DataW H × List MemPlace), DataW.trod enc P w base spare held fuel t cs = some x → ∃ a : α, R cs a
def RInt (k : IntKind) (cs : List Value) (n : Int) : Prop := cs = [.int k n] ∧ (Lit.int k n).wf = true
def RStr (cs : List Value) (s : ByteArray) : Prop := cs = [.string s] ∧ s.size ≤ maxLen
variable {P : Program} {w : World}
theorem opens_int {t : TypeId} {k : IntKind} (ht : P.underlying t = some (.int k)) : Opens P w t (RInt k) := by
  intro H enc base spare held fuel cs x h
  obtain ⟨n, h1, _, h2⟩ := DataW.trod_int ht h
  exact ⟨n, h1, h2⟩
theorem opens_str {t : TypeId} (ht : P.underlying t = some .string) : Opens P w t RStr := by
  intro H enc base spare held fuel cs x h
  obtain ⟨n, h1, _, h2⟩ := DataW.trod_string ht h
  exact ⟨n, h1, h2⟩
theorem Opens.mono {t : TypeId} {α β : Type} {R : List Value → α → Prop} {S : List Value → β → Prop} (h : Opens P w t R) (hs : ∀ cs a, R cs a → ∃ b, S cs b) : Opens P w t S := by
  intro H enc base spare held fuel cs x hx
  obtain ⟨a, ha⟩ := h H enc base spare held fuel cs x hx
  exact hs cs a ha
theorem opens_struct {t : TypeId} {fs : Array Field} (ht : P.underlying t = some (.struct fs)) {α : Type} {R : List Value → α → Prop}
    (h : ∀ cs : List Value, cs.length = P.cellsOf t → (∀ (i : Nat) (f : Field), fs[i]? = some f → ∀ (β : Type) (S : List Value → β → Prop), Opens P w f.type S → ∃ b, S ((cs.drop f.offset).take (P.cellsOf f.type)) b) → ∃ a, R cs a) : Opens P w t R := by
  intro H enc base spare held fuel cs x hx
  obtain ⟨xs, n, _, _, hlen, hxl, hf⟩ := DataW.trod_struct ht hx
  refine h cs hlen fun i f hi β S hS => ?_
  have h1 := hf i f hi
  have hi' : i < fs.size := (Array.getElem?_eq_some_iff.1 hi).1
  rw [List.getElem?_eq_getElem (by omega)] at h1
  exact hS _ _ _ _ _ _ _ _ h1
def Cells {α : Type} (R : List Value → α → Prop) (size : Nat) (w : World) (a : Option Addr) (l : List α) : Prop :=
  l = [] ∨ ∃ b off, a = some ⟨b, off, none⟩ ∧ ∀ j (h : j < l.length), ∃ ecs : List Value, ecs.length = size ∧ R ecs l[j] ∧ ∀ i, i < size → w.cell? ⟨b, off + j * size + i, none⟩ = ecs[i]?
def RSlice {α : Type} (R : List Value → α → Prop) (size : Nat) (w : World) (cs : List Value) (l : List α) : Prop :=
  ∃ a len cap, cs = [.slice a len cap] ∧ l.length = len ∧ len ≤ cap ∧ cap ≤ maxLen ∧ (a = none → len = 0 ∧ cap = 0) ∧ Cells R size w a l
theorem list_of {α : Type} {n : Nat} {p : Nat → α → Prop} (h : ∀ i, i < n → ∃ x, p i x) : ∃ l : List α, l.length = n ∧ ∀ i (hi : i < l.length), p i l[i] := by
  induction n with
  | zero => exact ⟨[], rfl, fun i hi => absurd hi (Nat.not_lt_zero _)⟩
  | succ n ih =>
    obtain ⟨l, hl, hp⟩ := ih (fun i hi => h i (by omega))
    obtain ⟨x, hx⟩ := h n (by omega)
    refine ⟨l ++ [x], by simp [hl], fun i hi => ?_⟩
    by_cases hin : i < l.length
    · rw [List.getElem_append_left hin]; exact hp i hin
    · rw [List.length_append, List.length_singleton] at hi
      have : i = n := by omega
      subst this
      rw [List.getElem_append_right (by omega)]
      simpa [hl] using hx
theorem add_plain (b off k : Nat) : (⟨b, off, none⟩ : Addr).add k = ⟨b, off + k, none⟩ := by
  unfold Addr.add; split
  · subst_vars; rfl
  · rfl
theorem opens_slice {t e : TypeId} {α : Type} {R : List Value → α → Prop} {size : Nat} (ht : P.underlying t = some (.slice e)) (hc : P.cellsOf e = size) (hs : 0 < size) (he : Opens P w e R) : Opens P w t (RSlice R size w) := by
  intro H enc base spare held fuel cs x hx
  rcases open_slice ht hx with ⟨rfl, _⟩ | ⟨a, len, cap, m, n, D, Pl, rfl, _, hl, hm, hmm, _, hi⟩
  · exact ⟨[], none, 0, 0, rfl, rfl, Nat.le_refl _, by unfold maxLen; omega, fun _ => ⟨rfl, rfl⟩, .inl rfl⟩
  · have hlm : len ≤ m := by rw [hmm]; split <;> omega
    rw [hc] at hi
    obtain ⟨l, hll, hp⟩ := list_of (n := len) (p := fun i (y : α) => ∃ ecs : List Value, ecs.length = size ∧ R ecs y ∧ ∀ j, j < size → w.cell? ((a.add (i * size)).add j) = ecs[j]?) (fun i hil => by
      obtain ⟨cs', h1, h2⟩ := hi i (by omega)
      obtain ⟨_, h3, h4⟩ := World.cells?_some h1
      obtain ⟨y, hy⟩ := he _ _ _ _ _ _ _ _ h2
      exact ⟨y, cs', h3, hy, h4⟩)
    refine ⟨l, some a, len, cap, rfl, hll, hl, hm, (fun h => by cases h), ?_⟩
    by_cases h0 : len = 0
    · exact .inl (List.length_eq_zero_iff.1 (by omega))
    · obtain ⟨b, off, spot⟩ := a
      obtain ⟨ecs, e1, _, e3⟩ := hp 0 (by omega)
      have e4 := e3 0 hs
      rw [List.getElem?_eq_getElem (by omega)] at e4
      have hspot : spot = none := by
        have := World.cell?_spot e4
        simpa [Addr.add] using this
      subst hspot
      refine .inr ⟨b, off, rfl, fun j hj => ?_⟩
      obtain ⟨ecs, g1, g2, g3⟩ := hp j hj
      refine ⟨ecs, g1, g2, fun i hi => ?_⟩
      have := g3 i hi
      rw [add_plain, add_plain] at this
      exact this
theorem opens_arg {H : Type} {enc : TypeId × Value → H} {base : Nat} {spare : Nat → Bool} {held : Bool} {t : TypeId} {α : Type} {R : List Value → α → Prop} {v : Value} {d : DataW H} {ps : List MemPlace} (h : Opens P w t R) (hd : DataW.Trod enc P w base spare held t v d ps) : ∃ a, R v.cells.toList a := by
  obtain ⟨fuel, hf⟩ := hd
  exact h _ _ _ _ _ _ _ _ hf
end Go.Proofs.YtjcndgopijpibaaGreat.Opn
/- Common: worlds that grow, and lists of flat elements (each so many cells) that lie in memory: read, cut, made, appended to. -/
namespace Go.Proofs.YtjcndgopijpibaaGreat.Kit
open Go.RowKit
open Go.Sort
theorem ret_bool {a b : Bool} (h : a = b) : Ending.returned (.bool a) = .returned (.bool b) := by rw [h]
theorem ret_int {k : IntKind} {a b : Int} (h : a = b) : Ending.returned (.int k a) = .returned (.int k b) := by rw [h]
theorem cell_keep {w1 w' : World} (hb : Below w1.heap.size w1 w') {b o : Nat} {v : Value} (h : w1.cell? ⟨b, o, none⟩ = some v) : w'.cell? ⟨b, o, none⟩ = some v := by
  rw [hb.cell (p := ⟨b, o, none⟩) (World.block_lt_of_cell? w1 _ h)]; exact h
theorem below_keep {w w1 w' : World} (h : Below w.heap.size w w1) (hb : Below w1.heap.size w1 w') : Below w.heap.size w w' := h.trans (hb.mono h.size)
theorem below_alloc (w : World) (o : Obj) : Below w.heap.size w (w.alloc o) := (Below.refl _ _).alloc (Nat.le_refl _) _
theorem below_drew (w : World) : Below w.heap.size w w.drew := (Below.refl _ _).drew
theorem cell_alloc {w : World} {a : Addr} {v : Value} {o : Obj} (h : w.cell? a = some v) : (w.alloc o).cell? a = some v := by
  rw [World.cell?_alloc_some _ _ _ (by rw [h]; rfl)]; exact h
theorem same_cell {w : World} {a : Addr} {u : Value} (h : w.cell? a = some u) (v : Value) : (w.setCell a v).cell? a = some v := World.cell?_setCell_same' w a v (by rw [h]; rfl)
theorem off_ne {p i j : Nat} (h : i ≠ j) : (⟨p, i, none⟩ : Addr) ≠ ⟨p, j, none⟩ := fun e => h (by injection e)
theorem set_far {w : World} {a x : Addr} {u v : Value} (hne : a.block ≠ x.block) (h : w.cell? x = some v) : (w.setCell a u).cell? x = some v := by rw [World.cell?_setCell_far _ _ _ _ hne]; exact h
theorem set_off {w : World} {b i j : Nat} {u v : Value} (hne : i ≠ j) (h : w.cell? ⟨b, j, none⟩ = some v) : (w.setCell ⟨b, i, none⟩ u).cell? ⟨b, j, none⟩ = some v := by rw [World.cell?_setCell_other _ _ _ _ (off_ne hne)]; exact h
theorem setCell_size (w : World) (a : Addr) (v : Value) : (w.setCell a v).heap.size = w.heap.size := by simp [World.setCell]
theorem add_plain (b off k : Nat) : (⟨b, off, none⟩ : Addr).add k = ⟨b, off + k, none⟩ := by
  unfold Addr.add; split
  · subst_vars; rfl
  · rfl
variable {α : Type} {enc : α → List Value} {size : Nat}
def Row (enc : α → List Value) (size : Nat) (w : World) (a : Option Addr) (l : List α) : Prop :=
  l = [] ∨ ∃ b off, a = some ⟨b, off, none⟩ ∧ ∀ j (h : j < l.length) i, i < size → w.cell? ⟨b, off + j * size + i, none⟩ = (enc l[j])[i]?
theorem row_keep (hs : ∀ x, (enc x).length = size) {w w' : World} {a : Option Addr} {l : List α} (h : Row enc size w a l) (hb : Below w.heap.size w w') : Row enc size w' a l := by
  rcases h with h | ⟨b, off, h1, h2⟩
  · exact .inl h
  · refine .inr ⟨b, off, h1, fun j hj i hi => ?_⟩
    have e := h2 j hj i hi
    rw [List.getElem?_eq_getElem (by rw [hs]; exact hi)] at e ⊢
    exact cell_keep hb e
theorem row_cell {w : World} {b off : Nat} {l : List α} (h : Row enc size w (some ⟨b, off, none⟩) l) {j : Nat} (hj : j < l.length) {x : α} (hx : l[j] = x) {i : Nat} (hi : i < size) : w.cell? ⟨b, off + j * size + i, none⟩ = (enc x)[i]? := by
  subst hx
  rcases h with rfl | ⟨b', off', h1, h2⟩
  · simp at hj
  · simp at h1
    obtain ⟨rfl, rfl⟩ := h1
    exact h2 j hj i hi
theorem row_lt (hs : ∀ x, (enc x).length = size) (hz : 0 < size) {w : World} {b off : Nat} {l : List α} (h : Row enc size w (some ⟨b, off, none⟩) l) (hl : 0 < l.length) : b < w.heap.size := by
  have e := row_cell h hl rfl hz
  rw [List.getElem?_eq_getElem (by rw [hs]; exact hz)] at e
  exact World.block_lt_of_cell? w _ e
theorem row_take {w : World} {a : Option Addr} {l : List α} (h : Row enc size w a l) (k : Nat) : Row enc size w a (l.take k) := by
  rcases h with h | ⟨b, off, h1, h2⟩
  · exact .inl (by rw [h]; simp)
  · refine .inr ⟨b, off, h1, fun j hj i hi => ?_⟩
    rw [List.length_take] at hj
    rw [List.getElem_take]
    exact h2 j (by omega) i hi
theorem row_drop {w : World} {b off : Nat} {l : List α} (h : Row enc size w (some ⟨b, off, none⟩) l) (k : Nat) : Row enc size w (some ⟨b, off + k * size, none⟩) (l.drop k) := by
  rcases h with h | ⟨b', off', h1, h2⟩
  · exact .inl (by rw [h]; simp)
  · simp at h1
    obtain ⟨rfl, rfl⟩ := h1
    refine .inr ⟨_, _, rfl, fun j hj i hi => ?_⟩
    rw [List.length_drop] at hj
    rw [List.getElem_drop]
    have := h2 (k + j) (by omega) i hi
    rw [Nat.add_mul] at this
    rw [show off + k * size + j * size + i = off + (k * size + j * size) + i by omega]
    exact this
def flat (enc : α → List Value) (l : List α) : List Value := l.flatMap enc
theorem flat_length (hs : ∀ x, (enc x).length = size) : ∀ l : List α, (flat enc l).length = l.length * size
  | [] => by simp [flat]
  | x :: l => by
    have := flat_length hs l
    unfold flat at this ⊢
    rw [List.flatMap_cons, List.length_append, this, hs, List.length_cons, Nat.add_mul]; omega
theorem flat_snoc (l : List α) (x : α) : flat enc (l ++ [x]) = flat enc l ++ enc x := by
  unfold flat; rw [List.flatMap_append]; simp
theorem flat_append (l k : List α) : flat enc (l ++ k) = flat enc l ++ flat enc k := by
  unfold flat; rw [List.flatMap_append]
theorem flat_at (hs : ∀ x, (enc x).length = size) : ∀ (l : List α) (j : Nat) (h : j < l.length) (i : Nat), i < size → (flat enc l)[j * size + i]? = (enc l[j])[i]?
  | x :: l, 0, _, i, hi => by
    show (enc x ++ flat enc l)[0 * size + i]? = _
    rw [Nat.zero_mul, Nat.zero_add, List.getElem?_append_left (by rw [hs]; exact hi)]; rfl
  | x :: l, j + 1, h, i, hi => by
    have h' : j < l.length := by simpa using h
    show (enc x ++ flat enc l)[(j + 1) * size + i]? = _
    rw [Nat.add_mul, Nat.one_mul, List.getElem?_append_right (by rw [hs]; omega), hs, show j * size + size + i - size = j * size + i by omega]
    exact flat_at hs l j h' i hi
def Owns (enc : α → List Value) (size : Nat) (e : TypeId) (w : World) (base : Nat) (v : Value) (l : List α) : Prop := w.ownsRow base e size v l.length (flat enc l)
theorem owns_row (hs : ∀ x, (enc x).length = size) {e : TypeId} {w : World} {base : Nat} {v : Value} {l : List α} (h : Owns enc size e w base v l) : ∃ a cap, v = .slice a l.length cap ∧ l.length ≤ cap ∧ cap ≤ maxLen ∧ (a = none → cap = 0) ∧ Row enc size w a l := by
  obtain ⟨h1, h2⟩ := h
  rcases h2 with ⟨rfl, h3⟩ | ⟨g, cap, cur, rfl, _, hg, hn, hm, hc, ht⟩
  · have hl : l = [] := List.length_eq_zero_iff.1 h3
    subst hl
    exact ⟨none, 0, rfl, Nat.le_refl _, by unfold maxLen; omega, fun _ => rfl, .inl rfl⟩
  · refine ⟨_, cap, rfl, hn, hm, (fun h => by cases h), .inr ⟨g, 0, rfl, fun j hj i hi => ?_⟩⟩
    have hlt : j * size + i < l.length * size := by
      have : (j + 1) * size ≤ l.length * size := Nat.mul_le_mul_right _ (by omega)
      rw [Nat.add_mul] at this; omega
    have e1 : (cur.toList.take (l.length * size))[j * size + i]? = (flat enc l)[j * size + i]? := by rw [ht]
    rw [List.getElem?_take, if_pos hlt, flat_at hs l j hj i hi] at e1
    rw [← e1]
    unfold World.cell?
    simp only [hg, Nat.zero_add]
    simp
theorem owns_alloc {e : TypeId} {w : World} {base : Nat} {v : Value} {l : List α} (h : Owns enc size e w base v l) (o : Obj) : Owns enc size e (w.alloc o) base v l := World.ownsRow.alloc h o
theorem owns_nil (e : TypeId) (w : World) (base : Nat) : Owns enc size e w base (.slice none 0 0) [] := World.ownsRow_nil _ _ _ _
theorem row_new (hs : ∀ x, (enc x).length = size) (w : World) (l : List α) (A : Array Value) (T : TypeId) (n : Nat) (hn : n = w.heap.size) (hA : A.toList = flat enc l) : Row enc size (w.alloc (.cells A T)) (some ⟨n, 0, none⟩) l := by
  subst hn
  refine .inr ⟨_, _, rfl, fun j hj i hi => ?_⟩
  rw [Nat.zero_add, World.cell?_alloc_new, ← flat_at hs l j hj i hi, ← hA]
  simp
theorem row_of_cells {R : List Value → α → Prop} (hR : ∀ cs x, R cs x → cs = enc x) {w : World} {a : Option Addr} {l : List α} (h : Opn.Cells R size w a l) : Row enc size w a l := by
  rcases h with h | ⟨b, off, h1, h2⟩
  · exact .inl h
  · refine .inr ⟨b, off, h1, fun j hj i hi => ?_⟩
    obtain ⟨ecs, _, h3, h4⟩ := h2 j hj
    rw [← hR ecs _ h3]
    exact h4 i hi
theorem all_of_cells {R : List Value → α → Prop} {p : α → Prop} (hR : ∀ cs x, R cs x → p x) {w : World} {a : Option Addr} {l : List α} (h : Opn.Cells R size w a l) : ∀ x ∈ l, p x := by
  rcases h with rfl | ⟨b, off, _, h2⟩
  · intro x hx; cases hx
  · intro x hx
    obtain ⟨j, hj, rfl⟩ := List.getElem_of_mem hx
    obtain ⟨ecs, _, h3, _⟩ := h2 j hj
    exact hR ecs _ h3
end Go.Proofs.YtjcndgopijpibaaGreat.Kit
/- Common: several lists of the call's own: an append to one of them leaves the others as they are, and apart from it. -/
namespace Go.Proofs.YtjcndgopijpibaaGreat.Two
open Go.RowKit
open Go.Sort
open Kit
theorem append_where {P : Program} (w : World) (base : Nat) (t ty e : TypeId) (i : TypeInfo) (z : Value) (size bytes : Nat) (ht : P.underlying t = some (.slice e)) (hi : P.info? e = some i) (hz : i.zero = some z)
    (hsize : i.size = size) (hby : i.bytes = bytes) (hzs : z.cells.size = size) (hsz : 0 < size) (v : Value) (n : Nat) (xs : List Value) (hown : w.ownsRow base e size v n xs)
    (a : Addr) (m c : Nat) (news : List Value) (hl : news.length = m * size) (hnews : ∀ j u, news[j]? = some u → w.cell? (a.add j) = some u) (h1 : ∀ u ∈ news, u.oneCell' = true)
    (h63 : n + m ≤ maxLen) (hbytes : (n + m) * bytes ≤ 140737488355328) (hbase : base ≤ w.heap.size) :
    ∃ v' w', (Builtin.append_ #[t, t] ty #[v, .slice (some a) m c]).run P w = .ok v' w' ∧ w'.ownsRow base e size v' (n + m) (xs ++ news) ∧ w.grownBy w' v.ownBlock ∧ (v'.ownBlock = v.ownBlock ∨ v'.ownBlock = some w.heap.size) := by
  obtain ⟨v', w', hr, h2, h3, _⟩ := run_append_own (P := P) w base t ty e i z size bytes ht hi hz hsize hby hzs hsz v n xs hown a m c news hl hnews h1 h63 hbytes hbase
  refine ⟨v', w', hr, h2, h3, ?_⟩
  subst hsize hby
  have hsmall : n + m ≤ 9223372036854775807 := by simp only [maxLen] at h63; omega
  have out : ∀ {x y : Value} {wx wy : World} {r : Result Value}, r = .ok x wx → r = .ok y wy → x = y := by
    intro x y wx wy r hx hy
    rw [hx] at hy
    injection hy
  rcases hown.2 with ⟨rfl, rfl⟩ | ⟨g, cap, cur, rfl, _, hg, _, _, hcs, _⟩
  · by_cases hm : m = 0
    · subst hm
      have hn : news = [] := List.eq_nil_of_length_eq_zero (by simpa using hl)
      subst hn
      have hr0 : (Builtin.append_ #[t, t] ty #[.slice none 0 0, .slice (some a) 0 c]).run P w = .ok (.slice none 0 0) w := by
        simp [Builtin.append_, run_underlying ht, sizeOf, typeInfo, hi, Builtin.lenOf, Builtin.firstCells, loadCells, loadCellsFrom]
      exact .inl (by rw [out hr hr0])
    · have hr0 := run_append_nil (P := P) w t ty e i z ht hi hz a m c news hl hnews (by omega) (by omega) (by have hb := hbytes; simp only [Nat.zero_add] at hb; omega)
      exact .inr (by rw [out hr hr0]; rfl)
  · by_cases hroom : n + m ≤ cap
    · have hr0 := run_append_room (P := P) w t ty e i ht hi g n cap cur hg a m c news hl hnews h1 hroom (by rw [hl, hcs, ← Nat.add_mul]; exact Nat.mul_le_mul_right _ hroom)
      exact .inl (by rw [out hr hr0]; rfl)
    · have hr0 := run_append_grow (P := P) w t ty e i z ht hi hz ⟨g, 0, none⟩ n cap xs hown.1 (hown.cells (g := g) rfl) a m c news hl hnews (by omega) (by omega) (growslice_fits (by omega) hbytes)
      exact .inr (by rw [out hr hr0]; rfl)
variable {α : Type} {enc : α → List Value} {size : Nat}
theorem run_append_apart (hs : ∀ x, (enc x).length = size) (hz : 0 < size) (hone : ∀ x, ∀ u ∈ enc x, u.oneCell' = true) {P : Program} {w : World} (t ty e : TypeId) (ht : P.underlying t = some (.slice e)) (z : Value) (bytes : Nat)
    (hinfo : (P.info? e).map (fun i => (i.zero, i.size, i.bytes)) = some (some z, size, bytes)) (hzs : z.cells.size = size)
    (base : Nat) (v : Value) (l : List α) (hown : Owns enc size e w base v l) (ad : Option Addr) (m c : Nat) (k : List α) (hk : k.length = m) (hrow : Row enc size w ad k) (hnil : ad = none → m = 0 ∧ c = 0)
    (h63 : l.length + m ≤ maxLen) (hbytes : (l.length + m) * bytes ≤ 140737488355328) (hbase : base ≤ w.heap.size) :
    ∃ v' w', (Builtin.append_ #[t, t] ty #[v, .slice ad m c]).run P w = .ok v' w' ∧ Owns enc size e w' base v' (l ++ k) ∧ w.grownBy w' v.ownBlock ∧ (v'.ownBlock = v.ownBlock ∨ v'.ownBlock = some w.heap.size) := by
  obtain ⟨i0, hi, hz0, hz1, hz2⟩ := info_parts hinfo
  cases ad with
  | none =>
    obtain ⟨rfl, rfl⟩ := hnil rfl
    obtain rfl : k = [] := List.length_eq_zero_iff.1 hk
    exact ⟨v, w, run_append_owned_none (P := P) (w := w) base t ty e i0 size ht hi v l.length _ hown, by rw [List.append_nil]; exact hown, ⟨rfl, rfl, rfl, Nat.le_refl _, fun _ _ _ => rfl⟩, .inl rfl⟩
  | some q =>
    have hnews : ∀ j u, (flat enc k)[j]? = some u → w.cell? (q.add j) = some u := by
      intro j u hj
      rcases hrow with rfl | ⟨b, off, h1, h2⟩
      · simp [flat] at hj
      · simp at h1
        subst h1
        have hjl : j < k.length * size := by rw [← flat_length hs]; exact (List.getElem?_eq_some_iff.1 hj).1
        have hd : j / size < k.length := by rw [Nat.div_lt_iff_lt_mul hz]; exact hjl
        have hm := Nat.mod_lt j hz
        have e1 := h2 (j / size) hd (j % size) hm
        rw [← flat_at hs k (j / size) hd (j % size) hm] at e1
        have e2 : j / size * size + j % size = j := by rw [Nat.mul_comm]; exact Nat.div_add_mod j size
        rw [Nat.add_assoc, e2, hj] at e1
        rw [add_plain]; exact e1
    obtain ⟨v', w', hr, g2, g3, g4⟩ := append_where (P := P) w base t ty e i0 z size bytes ht hi hz0 hz1 hz2 hzs hz v l.length _ hown q m c (flat enc k) (by rw [flat_length hs, hk]) hnews
      (fun u hu => by obtain ⟨x, _, hux⟩ := List.mem_flatMap.1 hu; exact hone x u hux) h63 hbytes hbase
    refine ⟨v', w', hr, ?_, g3, g4⟩
    unfold Owns
    rw [flat_append, List.length_append, hk]
    exact g2
theorem append_apart (hs : ∀ x, (enc x).length = size) (hz : 0 < size) (hone : ∀ x, ∀ u ∈ enc x, u.oneCell' = true) {P : Program} {w : World} {ops : Array Oper} {rest : List Oper} {o : Oper} {A : Act} {Q : Exit → Act → World → Prop} (hgd : o.guard = none) (s x : Operand) (t e : TypeId)
    (ho : o.op = .call { callee := .builtin .append, args := #[s, x], argTypes := #[t, t] }) (ht : P.underlying t = some (.slice e)) (z : Value) (bytes : Nat)
    (hinfo : (P.info? e).map (fun i => (i.zero, i.size, i.bytes)) = some (some z, size, bytes)) (hzs : z.cells.size = size)
    (base : Nat) (v : Value) (l : List α) (hv : A.eval s = v) (hown : Owns enc size e w base v l) (ad : Option Addr) (m c : Nat) (k : List α) (hx : A.eval x = .slice ad m c) (hk : k.length = m) (hrow : Row enc size w ad k) (hnil : ad = none → m = 0 ∧ c = 0)
    (h63 : l.length + m ≤ maxLen) (hbytes : (l.length + m) * bytes ≤ 140737488355328) (hbase : base ≤ w.heap.size)
    (h : ∀ v' w', Owns enc size e w' base v' (l ++ k) → w.grownBy w' v.ownBlock → (v'.ownBlock = v.ownBlock ∨ v'.ownBlock = some w.heap.size) → wpList P ops Q rest (A.put o.dst v') w') : wpList P ops Q (o :: rest) A w := by
  obtain ⟨v', w', hr, g2, g3, g4⟩ := run_append_apart (P := P) hs hz hone t o.type e ht z bytes hinfo hzs base v l hown ad m c k hk hrow hnil h63 hbytes hbase
  refine wpList_plain hgd fun K hK => ?_
  unfold Oper.wp execOp
  simp only [ho, resolve, invoke, builtin, Sem.run_bind, Sem.run_pure, Result.andThen_ok, List.map_toArray, List.map_cons, List.map_nil, hv, hx, hr]
  exact hK _ _ (h v' w' g2 g3 g4)
def Apart (v u : Value) : Prop := u.ownBlock = none ∨ u.ownBlock ≠ v.ownBlock
theorem below_grown {e : TypeId} {w w' : World} {base : Nat} {v : Value} {l : List α} (h : Owns enc size e w base v l) (hg : w.grownBy w' v.ownBlock) (hb : base ≤ w.heap.size) : Below base w w' :=
  (Below.refl _ _).grown hg hb fun k hk => (World.ownsRow.lt h k hk).1
end Go.Proofs.YtjcndgopijpibaaGreat.Two
/- A slice that can be read, of whatever elements; numbers of 64 bits. -/
namespace Go.Proofs.YtjcndgopijpibaaGreat.Tre
set_option maxRecDepth 100000
open Go.RowKit
open Go.Sort
open Kit
set_option linter.unusedVariables false
abbrev inI (n : Int) : Prop := -9223372036854775808 ≤ n ∧ n ≤ 9223372036854775807
structure Lst {α : Type} (enc : α → List Value) (size : Nat) (w : World) (a : Option Addr) (n c : Nat) (l : List α) : Prop where
  len : l.length = n
  cap : n ≤ c
  max : c ≤ maxLen
  nil : a = none → n = 0 ∧ c = 0
  row : Kit.Row enc size w a l
variable {w w' : World}
theorem below_drewN' (w : World) (n : Nat) : Below w.heap.size w (w.drewN n) := ⟨rfl, rfl, rfl, Nat.le_refl _, fun _ _ => rfl⟩
theorem lst_keep {α : Type} {enc : α → List Value} {size n c : Nat} {a : Option Addr} {l : List α} (hs : ∀ x, (enc x).length = size) (h : Lst enc size w a n c l) (hb : Below w.heap.size w w') : Lst enc size w' a n c l := ⟨h.len, h.cap, h.max, h.nil, row_keep hs h.row hb⟩
theorem lst_take {α : Type} {enc : α → List Value} {size n c : Nat} {a : Option Addr} {l : List α} (h : Lst enc size w a n c l) (m : Nat) (hm : m ≤ n) : Lst enc size w a m c (l.take m) :=
  ⟨by rw [List.length_take, h.len]; omega, Nat.le_trans hm h.cap, h.max, fun e => ⟨by have := h.nil e; omega, (h.nil e).2⟩, row_take h.row m⟩
theorem lst_at {α : Type} {enc : α → List Value} {size n c : Nat} {a : Option Addr} {l : List α} (h : Lst enc size w a n c l) (hn : 0 < n) : ∃ b o, a = some ⟨b, o, none⟩ := by
  rcases h.row with e | ⟨b, o, e, _⟩
  · have := h.len; rw [e] at this; simp at this; omega
  · exact ⟨b, o, e⟩
theorem cells_int : Tryz.prog.cellsOf 3 = 1 := by kernel_rfl
theorem i64_wf {n : Int} (h : (Lit.int .i64 n).wf = true) : inI n := by
  simp [Lit.wf, IntKind.min, IntKind.max, IntKind.signed, IntKind.bits] at h
  exact h
theorem u32_in {n : Int} (h : (Lit.int .u32 n).wf = true) : 0 ≤ n ∧ n ≤ 4294967295 := by
  simp [Lit.wf, IntKind.min, IntKind.max, IntKind.signed, IntKind.bits] at h
  omega
theorem lst_new {α : Type} {enc : α → List Value} {size : Nat} (hs : ∀ x, (enc x).length = size) (w : World) (l : List α) (A : Array Value) (T : TypeId) (n m : Nat) (hn : n = w.heap.size) (hA : A.toList = flat enc l) (hm : l.length = m) (hl : m ≤ 1000) : Lst enc size (w.alloc (.cells A T)) (some ⟨n, 0, none⟩) m m l :=
  ⟨hm, Nat.le_refl _, by unfold maxLen; omega, (fun h => by cases h), row_new hs w l A T n hn hA⟩
theorem lst_none {α : Type} (enc : α → List Value) (size : Nat) (w : World) : Lst enc size w none 0 0 ([] : List α) := ⟨rfl, Nat.le_refl _, Nat.zero_le _, fun _ => ⟨rfl, rfl⟩, .inl rfl⟩
theorem run_ld2 {w : World} {a : Addr} {x : Int} (h : w.cell? a = some (.int .i64 x)) : (Instr.loadAt 3 (.pointer (some a))).run Tryz.prog w = .ok (.int .i64 x) w := by
  simp [go_sem, h]
end Go.Proofs.YtjcndgopijpibaaGreat.Tre
/- Funds in memory; an argument's list opened. -/
namespace Go.Proofs.YtjcndgopijpibaaGreat.Tre
set_option maxRecDepth 100000
open Go.RowKit
open Go.Sort
open Kit
set_option linter.unusedVariables false
structure Fd where
  name : ByteArray
  par : Int
  lim : Int
def encF (x : Fd) : List Value := [.string x.name, .int .i64 x.par, .int .i64 x.lim]
theorem encF_len (x : Fd) : (encF x).length = 3 := rfl
def Fd.ok (x : Fd) : Prop := x.name.size ≤ maxLen ∧ inI x.par ∧ inI x.lim
variable {w w' : World}
abbrev Funds := Lst encF 3
theorem fund_cells {b o n c k : Nat} {l : List Fd} (h : Funds w (some ⟨b, o, none⟩) n c l) (hk : k < l.length) :
    w.cell? ⟨b, o + k * 3, none⟩ = some (.string l[k].name) ∧ w.cell? ⟨b, o + k * 3 + 1, none⟩ = some (.int .i64 l[k].par) ∧ w.cell? ⟨b, o + k * 3 + 2, none⟩ = some (.int .i64 l[k].lim) :=
  ⟨row_cell h.row hk rfl (i := 0) (by omega), row_cell h.row hk rfl (i := 1) (by omega), row_cell h.row hk rfl (i := 2) (by omega)⟩
def RFd (cs : List Value) (x : Fd) : Prop := cs = encF x ∧ x.ok
theorem cells_fund : Tryz.prog.cellsOf 81 = 3 := by kernel_rfl
theorem cells_str : Tryz.prog.cellsOf 9 = 1 := by kernel_rfl
theorem opens_fund : Opn.Opens Tryz.prog w 81 RFd := by
  refine Opn.opens_struct Tryz.underlying81 fun cs hlen hf => ?_
  rw [cells_fund] at hlen
  match cs, hlen with
  | [c0, c1, c2], _ =>
    obtain ⟨d, h0, w0⟩ := hf 0 _ rfl _ _ (Opn.opens_str Tryz.underlying9)
    obtain ⟨k, h1, w1⟩ := hf 1 _ rfl _ _ (Opn.opens_int Tryz.underlying3)
    obtain ⟨t, h2, w2⟩ := hf 2 _ rfl _ _ (Opn.opens_int Tryz.underlying3)
    simp [cells_int, cells_str] at h0 h1 h2
    subst h0 h1 h2
    exact ⟨⟨d, k, t⟩, rfl, w0, i64_wf w1, i64_wf w2⟩
theorem opens_funds : Opn.Opens Tryz.prog w 23 (Opn.RSlice RFd 3 w) := Opn.opens_slice Tryz.underlying23 cells_fund (by omega) opens_fund
theorem funds_arg {a : Option Addr} {len cap : Nat} {l : List Fd} (h : Opn.RSlice RFd 3 w [.slice a len cap] l) : Funds w a len cap l ∧ ∀ x ∈ l, x.ok := by
  obtain ⟨a', len', cap', he, hl, hc, hm, hn, hcs⟩ := h
  simp at he
  obtain ⟨rfl, rfl, rfl⟩ := he
  exact ⟨⟨hl, hc, hm, hn, Kit.row_of_cells (fun _ _ h => h.1) hcs⟩, Kit.all_of_cells (fun _ _ h => h.2) hcs⟩
end Go.Proofs.YtjcndgopijpibaaGreat.Tre
/- Allocations in memory; an argument's list opened. -/
namespace Go.Proofs.YtjcndgopijpibaaGreat.Tre
set_option maxRecDepth 100000
open Go.RowKit
open Go.Sort
open Kit
set_option linter.unusedVariables false
structure Al where
  fund : Int
  from' : Int
  till : Int
  avail : Int
  lien : Int
  spent : Int
def encL (a : Al) : List Value := [.int .i64 a.fund, .int .i64 a.from', .int .i64 a.till, .int .i64 a.avail, .int .i64 a.lien, .int .i64 a.spent]
theorem encL_len (x : Al) : (encL x).length = 6 := rfl
def Al.ok (a : Al) : Prop := inI a.fund ∧ inI a.from' ∧ inI a.till ∧ inI a.avail ∧ inI a.lien ∧ inI a.spent
variable {w w' : World}
abbrev Allocs := Lst encL 6
theorem alloc_cells6 {b o n c k : Nat} {l : List Al} (h : Allocs w (some ⟨b, o, none⟩) n c l) (hk : k < l.length) :
    w.cell? ⟨b, o + k * 6, none⟩ = some (.int .i64 l[k].fund) ∧ w.cell? ⟨b, o + k * 6 + 1, none⟩ = some (.int .i64 l[k].from') ∧ w.cell? ⟨b, o + k * 6 + 2, none⟩ = some (.int .i64 l[k].till) ∧ w.cell? ⟨b, o + k * 6 + 3, none⟩ = some (.int .i64 l[k].avail) ∧ w.cell? ⟨b, o + k * 6 + 4, none⟩ = some (.int .i64 l[k].lien) ∧ w.cell? ⟨b, o + k * 6 + 5, none⟩ = some (.int .i64 l[k].spent) :=
  ⟨row_cell h.row hk rfl (i := 0) (by omega), row_cell h.row hk rfl (i := 1) (by omega), row_cell h.row hk rfl (i := 2) (by omega), row_cell h.row hk rfl (i := 3) (by omega), row_cell h.row hk rfl (i := 4) (by omega), row_cell h.row hk rfl (i := 5) (by omega)⟩
def RAl (cs : List Value) (x : Al) : Prop := cs = encL x ∧ x.ok
theorem cells_alloc : Tryz.prog.cellsOf 65 = 6 := by kernel_rfl
theorem opens_alloc : Opn.Opens Tryz.prog w 65 RAl := by
  refine Opn.opens_struct Tryz.underlying65 fun cs hlen hf => ?_
  rw [cells_alloc] at hlen
  match cs, hlen with
  | [c0, c1, c2, c3, c4, c5], _ =>
    obtain ⟨k0, h0, w0⟩ := hf 0 _ rfl _ _ (Opn.opens_int Tryz.underlying3)
    obtain ⟨k1, h1, w1⟩ := hf 1 _ rfl _ _ (Opn.opens_int Tryz.underlying3)
    obtain ⟨k2, h2, w2⟩ := hf 2 _ rfl _ _ (Opn.opens_int Tryz.underlying3)
    obtain ⟨k3, h3, w3⟩ := hf 3 _ rfl _ _ (Opn.opens_int Tryz.underlying3)
    obtain ⟨k4, h4, w4⟩ := hf 4 _ rfl _ _ (Opn.opens_int Tryz.underlying3)
    obtain ⟨k5, h5, w5⟩ := hf 5 _ rfl _ _ (Opn.opens_int Tryz.underlying3)
    simp [cells_int] at h0 h1 h2 h3 h4 h5
    subst h0 h1 h2 h3 h4 h5
    exact ⟨⟨k0, k1, k2, k3, k4, k5⟩, rfl, i64_wf w0, i64_wf w1, i64_wf w2, i64_wf w3, i64_wf w4, i64_wf w5⟩
theorem opens_allocs : Opn.Opens Tryz.prog w 24 (Opn.RSlice RAl 6 w) := Opn.opens_slice Tryz.underlying24 cells_alloc (by omega) opens_alloc
theorem allocs_arg {a : Option Addr} {len cap : Nat} {l : List Al} (h : Opn.RSlice RAl 6 w [.slice a len cap] l) : Allocs w a len cap l ∧ ∀ x ∈ l, x.ok := by
  obtain ⟨a', len', cap', he, hl, hc, hm, hn, hcs⟩ := h
  simp at he
  obtain ⟨rfl, rfl, rfl⟩ := he
  exact ⟨⟨hl, hc, hm, hn, Kit.row_of_cells (fun _ _ h => h.1) hcs⟩, Kit.all_of_cells (fun _ _ h => h.2) hcs⟩
theorem encL_one (x : Al) : ∀ u ∈ encL x, u.oneCell' = true := by
  intro u hu
  simp [encL] at hu
  rcases hu with rfl | rfl | rfl | rfl | rfl | rfl <;> rfl
theorem info_al : (Tryz.prog.info? 65).map (fun i => (i.zero, i.size, i.bytes)) = some (some (.agg #[.int .i64 0, .int .i64 0, .int .i64 0, .int .i64 0, .int .i64 0, .int .i64 0]), 6, 48) := by kernel_rfl
end Go.Proofs.YtjcndgopijpibaaGreat.Tre
/- Rates in memory; an argument's list opened. -/
namespace Go.Proofs.YtjcndgopijpibaaGreat.Rte
set_option maxRecDepth 100000
open Go.RowKit
open Go.Sort
open Kit
open Tre
set_option linter.unusedVariables false
structure Rt where
  qos : Int
  from' : Int
  price : Int
variable {w w' : World}
def encR (r : Rt) : List Value := [.int .i64 r.qos, .int .i64 r.from', .int .i64 r.price]
theorem encR_len (g : Rt) : (encR g).length = 3 := rfl
theorem encR_one (x : Rt) : ∀ u ∈ encR x, u.oneCell' = true := by
  intro u hu
  simp [encR] at hu
  rcases hu with rfl | rfl | rfl <;> rfl
def Rt.ok (r : Rt) : Prop := inI r.qos ∧ inI r.from' ∧ inI r.price
abbrev Rates := Lst encR 3
theorem rate_cells {b o n c k : Nat} {l : List Rt} (h : Rates w (some ⟨b, o, none⟩) n c l) (hk : k < l.length) :
    w.cell? ⟨b, o + k * 3, none⟩ = some (.int .i64 l[k].qos) ∧ w.cell? ⟨b, o + k * 3 + 1, none⟩ = some (.int .i64 l[k].from') ∧ w.cell? ⟨b, o + k * 3 + 2, none⟩ = some (.int .i64 l[k].price) :=
  ⟨row_cell h.row hk rfl (i := 0) (by omega), row_cell h.row hk rfl (i := 1) (by omega), row_cell h.row hk rfl (i := 2) (by omega)⟩
def RRt (cs : List Value) (x : Rt) : Prop := cs = encR x ∧ x.ok
theorem cells_rate : Tryz.prog.cellsOf 83 = 3 := by kernel_rfl
theorem opens_rate : Opn.Opens Tryz.prog w 83 RRt := by
  refine Opn.opens_struct Tryz.underlying83 fun cs hlen hf => ?_
  rw [cells_rate] at hlen
  match cs, hlen with
  | [c0, c1, c2], _ =>
    obtain ⟨k0, h0, w0⟩ := hf 0 _ rfl _ _ (Opn.opens_int Tryz.underlying3)
    obtain ⟨k1, h1, w1⟩ := hf 1 _ rfl _ _ (Opn.opens_int Tryz.underlying3)
    obtain ⟨k2, h2, w2⟩ := hf 2 _ rfl _ _ (Opn.opens_int Tryz.underlying3)
    simp [cells_int] at h0 h1 h2
    subst h0 h1 h2
    exact ⟨⟨k0, k1, k2⟩, rfl, i64_wf w0, i64_wf w1, i64_wf w2⟩
theorem opens_rates : Opn.Opens Tryz.prog w 25 (Opn.RSlice RRt 3 w) := Opn.opens_slice Tryz.underlying25 cells_rate (by omega) opens_rate
theorem rates_arg {a : Option Addr} {len cap : Nat} {l : List Rt} (h : Opn.RSlice RRt 3 w [.slice a len cap] l) : Rates w a len cap l ∧ ∀ x ∈ l, x.ok := by
  obtain ⟨a', len', cap', he, hl, hc, hm, hn, hcs⟩ := h
  simp at he
  obtain ⟨rfl, rfl, rfl⟩ := he
  exact ⟨⟨hl, hc, hm, hn, Kit.row_of_cells (fun _ _ h => h.1) hcs⟩, Kit.all_of_cells (fun _ _ h => h.2) hcs⟩
end Go.Proofs.YtjcndgopijpibaaGreat.Rte
/- Draws in memory; an argument's list opened. -/
namespace Go.Proofs.YtjcndgopijpibaaGreat.Drw
set_option maxRecDepth 100000
open Go.RowKit
open Go.Sort
open Kit
open Tre (Lst inI lst_keep lst_take lst_at lst_new lst_none i64_wf cells_int)
set_option linter.unusedVariables false
variable {w w' : World}
structure Dw where
  alloc : Int
  amt : Int
def encD (d : Dw) : List Value := [.int .i64 d.alloc, .int .i64 d.amt]
theorem encD_len (d : Dw) : (encD d).length = 2 := rfl
theorem encD_one (x : Dw) : ∀ u ∈ encD x, u.oneCell' = true := by
  intro u hu
  simp [encD] at hu
  rcases hu with rfl | rfl <;> rfl
def Dw.ok (d : Dw) : Prop := inI d.alloc ∧ inI d.amt
abbrev Draws := Lst encD 2
theorem draw_cells {b o n c k : Nat} {l : List Dw} (h : Draws w (some ⟨b, o, none⟩) n c l) (hk : k < l.length) :
    w.cell? ⟨b, o + k * 2, none⟩ = some (.int .i64 l[k].alloc) ∧ w.cell? ⟨b, o + k * 2 + 1, none⟩ = some (.int .i64 l[k].amt) :=
  ⟨row_cell h.row hk rfl (i := 0) (by omega), row_cell h.row hk rfl (i := 1) (by omega)⟩
def RDw (cs : List Value) (x : Dw) : Prop := cs = encD x ∧ x.ok
theorem cells_draw : Tryz.prog.cellsOf 63 = 2 := by kernel_rfl
theorem opens_draw : Opn.Opens Tryz.prog w 63 RDw := by
  refine Opn.opens_struct Tryz.underlying63 fun cs hlen hf => ?_
  rw [cells_draw] at hlen
  match cs, hlen with
  | [c0, c1], _ =>
    obtain ⟨k0, h0, w0⟩ := hf 0 _ rfl _ _ (Opn.opens_int Tryz.underlying3)
    obtain ⟨k1, h1, w1⟩ := hf 1 _ rfl _ _ (Opn.opens_int Tryz.underlying3)
    simp [cells_int] at h0 h1
    subst h0 h1
    exact ⟨⟨k0, k1⟩, rfl, i64_wf w0, i64_wf w1⟩
theorem opens_draws : Opn.Opens Tryz.prog w 56 (Opn.RSlice RDw 2 w) := Opn.opens_slice Tryz.underlying56 cells_draw (by omega) opens_draw
theorem draws_arg {a : Option Addr} {len cap : Nat} {l : List Dw} (h : Opn.RSlice RDw 2 w [.slice a len cap] l) : Draws w a len cap l ∧ ∀ x ∈ l, x.ok := by
  obtain ⟨a', len', cap', he, hl, hc, hm, hn, hcs⟩ := h
  simp at he
  obtain ⟨rfl, rfl, rfl⟩ := he
  exact ⟨⟨hl, hc, hm, hn, Kit.row_of_cells (fun _ _ h => h.1) hcs⟩, Kit.all_of_cells (fun _ _ h => h.2) hcs⟩
theorem info_draw : (Tryz.prog.info? 63).map (fun i => (i.zero, i.size, i.bytes)) = some (some (.agg #[.int .i64 0, .int .i64 0]), 2, 16) := by kernel_rfl
theorem draw_row (w : World) (x y : Int) : Kit.Row encD 2 (w.alloc (.cells #[.int .i64 x, .int .i64 y] 63)) (some ⟨w.heap.size, 0, none⟩) [⟨x, y⟩] := row_new encD_len w [⟨x, y⟩] _ _ _ rfl rfl
end Go.Proofs.YtjcndgopijpibaaGreat.Drw
