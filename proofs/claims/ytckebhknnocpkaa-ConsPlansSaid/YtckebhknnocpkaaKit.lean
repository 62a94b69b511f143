/- Common: worlds that grow, and lists of flat elements (each so many cells) that lie in memory: read, cut, made, appended to. -/
import Derived.OwnWalk
import Derived.Below
import Derived.Laws.AppendOwn
import Derived.Laws.AppendOwnNone
import Derived.Laws.OwnMore
import Derived.Deep.RegionHeld
import Derived.Lib.QuietBelow
import Derived.Lib.Hide
import Derived.WalkKit
import Derived.Test.YtckebhknnocpkaaOpens
namespace Go.Proofs.Ytckebhknnocpkaa.Kit
open Go.RowKit
open Go.Sort

theorem ret_bool {a b : Bool} (h : a = b) : Ending.returned (.bool a) = .returned (.bool b) := by rw [h]
theorem ret_int {k : IntKind} {a b : Int} (h : a = b) : Ending.returned (.int k a) = .returned (.int k b) := by rw [h]
theorem bcell {W w1 : World} (hb : Below W.heap.size W w1) : (∀ b o, b < W.heap.size → w1.cell? ⟨b, o, none⟩ = W.cell? ⟨b, o, none⟩) ∧ (∀ b o, b < W.heap.size → w1.frozen? ⟨b, o, none⟩ = W.frozen? ⟨b, o, none⟩) :=
  ⟨fun b o h => hb.cell (p := ⟨b, o, none⟩) h, fun b o h => hb.frozen (p := ⟨b, o, none⟩) h⟩
theorem cell_keep {w1 w' : World} (hb : Below w1.heap.size w1 w') {b o : Nat} {v : Value} (h : w1.cell? ⟨b, o, none⟩ = some v) : w'.cell? ⟨b, o, none⟩ = some v := by
  rw [hb.cell (p := ⟨b, o, none⟩) (World.block_lt_of_cell? w1 _ h)]; exact h
theorem below_keep {w w1 w' : World} (h : Below w.heap.size w w1) (hb : Below w1.heap.size w1 w') : Below w.heap.size w w' := h.trans (hb.mono h.size)
theorem below_alloc (w : World) (o : Obj) : Below w.heap.size w (w.alloc o) := (Below.refl _ _).alloc (Nat.le_refl _) _
theorem below_drew (w : World) : Below w.heap.size w w.drew := (Below.refl _ _).drew
theorem cell_alloc {w : World} {a : Addr} {v : Value} {o : Obj} (h : w.cell? a = some v) : (w.alloc o).cell? a = some v := by
  rw [World.cell?_alloc_some _ _ _ (by rw [h]; rfl)]; exact h
theorem same_cell {w : World} {a : Addr} {u : Value} (h : w.cell? a = some u) (v : Value) : (w.setCell a v).cell? a = some v := World.cell?_setCell_same' w a v (by rw [h]; rfl)
theorem off_ne {p i j : Nat} (h : i ≠ j) : (⟨p, i, none⟩ : Addr) ≠ ⟨p, j, none⟩ := fun e => h (by injection e)
theorem set_far {w : World} {a x : Addr} {u v : Value} (hne : a.block ≠ x.block) (h : w.cell? x = some v) : (w.setCell a u).cell? x = some v := by rw [World.cell?_setCell_far _ _ _ _ hne]; exact h
theorem set_off {w : World} {b i j : Nat} {u v : Value} (hne : i ≠ j) (h : w.cell? ⟨b, j, none⟩ = some v) : (w.setCell ⟨b, i, none⟩ u).cell? ⟨b, j, none⟩ = some v := by rw [World.cell?_setCell_other _ _ _ _ (off_ne hne)]; exact h
theorem setCell_size (w : World) (a : Addr) (v : Value) : (w.setCell a v).heap.size = w.heap.size := by simp [World.setCell]
theorem add_plain (b off k : Nat) : (⟨b, off, none⟩ : Addr).add k = ⟨b, off + k, none⟩ := by
  unfold Addr.add; split
  · subst_vars; rfl
  · rfl

/-! ## Lists in memory -/

variable {α : Type} {enc : α → List Value} {size : Nat}

/-- The elements of a list, each by its cells. -/
def Row (enc : α → List Value) (size : Nat) (w : World) (a : Option Addr) (l : List α) : Prop :=
  l = [] ∨ ∃ b off, a = some ⟨b, off, none⟩ ∧ ∀ j (h : j < l.length) i, i < size → w.cell? ⟨b, off + j * size + i, none⟩ = (enc l[j])[i]?

theorem row_keep (hs : ∀ x, (enc x).length = size) {w w' : World} {a : Option Addr} {l : List α} (h : Row enc size w a l) (hb : Below w.heap.size w w') : Row enc size w' a l := by
  rcases h with h | ⟨b, off, h1, h2⟩
  · exact .inl h
  · refine .inr ⟨b, off, h1, fun j hj i hi => ?_⟩
    have e := h2 j hj i hi
    rw [List.getElem?_eq_getElem (by rw [hs]; exact hi)] at e ⊢
    exact cell_keep hb e

theorem row_some {w : World} {a : Option Addr} {l : List α} (h : Row enc size w a l) (hl : 0 < l.length) : ∃ b off, Hid (a = some ⟨b, off, none⟩) := by
  rcases h with rfl | ⟨b, off, h1, _⟩
  · simp at hl
  · exact ⟨b, off, h1⟩

theorem row_cell {w : World} {b off : Nat} {l : List α} (h : Row enc size w (some ⟨b, off, none⟩) l) {j : Nat} (hj : j < l.length) {x : α} (hx : l[j] = x) {i : Nat} (hi : i < size) : w.cell? ⟨b, off + j * size + i, none⟩ = (enc x)[i]? := by
  subst hx
  rcases h with rfl | ⟨b', off', h1, h2⟩
  · simp at hj
  · simp at h1
    obtain ⟨rfl, rfl⟩ := h1
    exact h2 j hj i hi

theorem row_lt (hs : ∀ x, (enc x).length = size) (hz : 0 < size) {w : World} {b off : Nat} {l : List α} (h : Row enc size w (some ⟨b, off, none⟩) l) (hl : 0 < l.length) : b < w.heap.size := by
  have e := row_cell h hl rfl hz
  rw [List.getElem?_eq_getElem (by rw [hs]; exact hz)] at e
  exact World.block_lt_of_cell? w _ e

theorem row_take {w : World} {a : Option Addr} {l : List α} (h : Row enc size w a l) (k : Nat) : Row enc size w a (l.take k) := by
  rcases h with h | ⟨b, off, h1, h2⟩
  · exact .inl (by rw [h]; simp)
  · refine .inr ⟨b, off, h1, fun j hj i hi => ?_⟩
    rw [List.length_take] at hj
    rw [List.getElem_take]
    exact h2 j (by omega) i hi

/-- A slice of a list from element k on. -/
theorem row_drop {w : World} {b off : Nat} {l : List α} (h : Row enc size w (some ⟨b, off, none⟩) l) (k : Nat) : Row enc size w (some ⟨b, off + k * size, none⟩) (l.drop k) := by
  rcases h with h | ⟨b', off', h1, h2⟩
  · exact .inl (by rw [h]; simp)
  · simp at h1
    obtain ⟨rfl, rfl⟩ := h1
    refine .inr ⟨_, _, rfl, fun j hj i hi => ?_⟩
    rw [List.length_drop] at hj
    rw [List.getElem_drop]
    have := h2 (k + j) (by omega) i hi
    rw [Nat.add_mul] at this
    rw [show off + k * size + j * size + i = off + (k * size + j * size) + i by omega]
    exact this

/-! ## A list of the call's own -/

def flat (enc : α → List Value) (l : List α) : List Value := l.flatMap enc
theorem flat_length (hs : ∀ x, (enc x).length = size) : ∀ l : List α, (flat enc l).length = l.length * size
  | [] => by simp [flat]
  | x :: l => by
    have := flat_length hs l
    unfold flat at this ⊢
    rw [List.flatMap_cons, List.length_append, this, hs, List.length_cons, Nat.add_mul]; omega
theorem flat_snoc (l : List α) (x : α) : flat enc (l ++ [x]) = flat enc l ++ enc x := by
  unfold flat; rw [List.flatMap_append]; simp
theorem flat_append (l k : List α) : flat enc (l ++ k) = flat enc l ++ flat enc k := by
  unfold flat; rw [List.flatMap_append]
theorem flat_at (hs : ∀ x, (enc x).length = size) : ∀ (l : List α) (j : Nat) (h : j < l.length) (i : Nat), i < size → (flat enc l)[j * size + i]? = (enc l[j])[i]?
  | x :: l, 0, _, i, hi => by
    show (enc x ++ flat enc l)[0 * size + i]? = _
    rw [Nat.zero_mul, Nat.zero_add, List.getElem?_append_left (by rw [hs]; exact hi)]; rfl
  | x :: l, j + 1, h, i, hi => by
    have h' : j < l.length := by simpa using h
    show (enc x ++ flat enc l)[(j + 1) * size + i]? = _
    rw [Nat.add_mul, Nat.one_mul, List.getElem?_append_right (by rw [hs]; omega), hs, show j * size + size + i - size = j * size + i by omega]
    exact flat_at hs l j h' i hi

def Owns (enc : α → List Value) (size : Nat) (e : TypeId) (w : World) (base : Nat) (v : Value) (l : List α) : Prop := w.ownsRow base e size v l.length (flat enc l)

theorem owns_row (hs : ∀ x, (enc x).length = size) {e : TypeId} {w : World} {base : Nat} {v : Value} {l : List α} (h : Owns enc size e w base v l) : ∃ a cap, v = .slice a l.length cap ∧ l.length ≤ cap ∧ cap ≤ maxLen ∧ (a = none → cap = 0) ∧ Row enc size w a l := by
  obtain ⟨h1, h2⟩ := h
  rcases h2 with ⟨rfl, h3⟩ | ⟨g, cap, cur, rfl, _, hg, hn, hm, hc, ht⟩
  · have hl : l = [] := List.length_eq_zero_iff.1 h3
    subst hl
    exact ⟨none, 0, rfl, Nat.le_refl _, by unfold maxLen; omega, fun _ => rfl, .inl rfl⟩
  · refine ⟨_, cap, rfl, hn, hm, (fun h => by cases h), .inr ⟨g, 0, rfl, fun j hj i hi => ?_⟩⟩
    have hlt : j * size + i < l.length * size := by
      have : (j + 1) * size ≤ l.length * size := Nat.mul_le_mul_right _ (by omega)
      rw [Nat.add_mul] at this; omega
    have e1 : (cur.toList.take (l.length * size))[j * size + i]? = (flat enc l)[j * size + i]? := by rw [ht]
    rw [List.getElem?_take, if_pos hlt, flat_at hs l j hj i hi] at e1
    rw [← e1]
    unfold World.cell?
    simp only [hg, Nat.zero_add]
    simp

theorem owns_alloc {e : TypeId} {w : World} {base : Nat} {v : Value} {l : List α} (h : Owns enc size e w base v l) (o : Obj) : Owns enc size e (w.alloc o) base v l := World.ownsRow.alloc h o
theorem owns_drew {e : TypeId} {w : World} {base : Nat} {v : Value} {l : List α} (h : Owns enc size e w base v l) : Owns enc size e w.drew base v l := h
theorem owns_nil (e : TypeId) (w : World) (base : Nat) : Owns enc size e w base (.slice none 0 0) [] := World.ownsRow_nil _ _ _ _

/-- append of a whole list (one new element, or another slice's) to a list of the call's own. -/
theorem append_row (hs : ∀ x, (enc x).length = size) (hz : 0 < size) (hone : ∀ x, ∀ u ∈ enc x, u.oneCell' = true) {P : Program} {w : World} {ops : Array Oper} {rest : List Oper} {o : Oper} {A : Act} {Q : Exit → Act → World → Prop} (hgd : o.guard = none) (s x : Operand) (t e : TypeId)
    (ho : o.op = .call { callee := .builtin .append, args := #[s, x], argTypes := #[t, t] }) (ht : P.underlying t = some (.slice e)) (z : Value) (bytes : Nat)
    (hinfo : (P.info? e).map (fun i => (i.zero, i.size, i.bytes)) = some (some z, size, bytes)) (hzs : z.cells.size = size)
    (base : Nat) (v : Value) (l : List α) (hv : A.eval s = v) (hown : Owns enc size e w base v l) (ad : Option Addr) (m c : Nat) (k : List α) (hx : A.eval x = .slice ad m c) (hk : k.length = m) (hrow : Row enc size w ad k) (hnil : ad = none → m = 0 ∧ c = 0)
    (h63 : l.length + m ≤ maxLen) (hbytes : (l.length + m) * bytes ≤ 140737488355328) (hbase : base ≤ w.heap.size)
    (h : ∀ v' w', Owns enc size e w' base v' (l ++ k) → Below base w w' → wpList P ops Q rest (A.put o.dst v') w') : wpList P ops Q (o :: rest) A w := by
  obtain ⟨i0, hi, hz0, hz1, hz2⟩ := info_parts hinfo
  cases ad with
  | none =>
    obtain ⟨rfl, rfl⟩ := hnil rfl
    obtain rfl : k = [] := List.length_eq_zero_iff.1 hk
    refine wpList_append_own_none hgd s x t ho base e i0 size ht hi v l.length _ hv hown hx (h v w (by rw [List.append_nil]; exact hown) (Below.refl _ _))
  | some q =>
    refine wpList_append_own _ hgd s x t ho base e i0 z size bytes ht hi hz0 hz1 hz2 hzs hz v l.length _ hv hown q m c (flat enc k) hx (by rw [flat_length hs, hk]) ?_ ?_ h63 hbytes hbase ?_
    · intro j u hj
      rcases hrow with rfl | ⟨b, off, h1, h2⟩
      · simp [flat] at hj
      · simp at h1
        subst h1
        have hjl : j < k.length * size := by rw [← flat_length hs]; exact (List.getElem?_eq_some_iff.1 hj).1
        have hd : j / size < k.length := by rw [Nat.div_lt_iff_lt_mul hz]; exact hjl
        have hm := Nat.mod_lt j hz
        have e1 := h2 (j / size) hd (j % size) hm
        rw [← flat_at hs k (j / size) hd (j % size) hm] at e1
        have e2 : j / size * size + j % size = j := by rw [Nat.mul_comm]; exact Nat.div_add_mod j size
        rw [Nat.add_assoc, e2, hj] at e1
        rw [add_plain]; exact e1
    · intro u hu
      obtain ⟨x, hx, hux⟩ := List.mem_flatMap.1 hu
      exact hone x u hux
    · intro v' w' h1 h2 _
      refine h v' w' ?_ ((Below.refl _ _).grown h2 hbase fun k hk => (hown.lt k hk).1)
      unfold Owns
      rw [flat_append, List.length_append, hk]
      exact h1

/-- A new list's cells. -/
theorem row_new (hs : ∀ x, (enc x).length = size) (w : World) (l : List α) (A : Array Value) (T : TypeId) (n : Nat) (hn : n = w.heap.size) (hA : A.toList = flat enc l) : Row enc size (w.alloc (.cells A T)) (some ⟨n, 0, none⟩) l := by
  subst hn
  refine .inr ⟨_, _, rfl, fun j hj i hi => ?_⟩
  rw [Nat.zero_add, World.cell?_alloc_new, ← flat_at hs l j hj i hi, ← hA]
  simp

/-- An argument's list. -/
theorem row_of_cells {R : List Value → α → Prop} (hR : ∀ cs x, R cs x → cs = enc x) {w : World} {a : Option Addr} {l : List α} (h : Opn.Cells R size w a l) : Row enc size w a l := by
  rcases h with h | ⟨b, off, h1, h2⟩
  · exact .inl h
  · refine .inr ⟨b, off, h1, fun j hj i hi => ?_⟩
    obtain ⟨ecs, _, h3, h4⟩ := h2 j hj
    rw [← hR ecs _ h3]
    exact h4 i hi
theorem all_of_cells {R : List Value → α → Prop} {p : α → Prop} (hR : ∀ cs x, R cs x → p x) {w : World} {a : Option Addr} {l : List α} (h : Opn.Cells R size w a l) : ∀ x ∈ l, p x := by
  rcases h with rfl | ⟨b, off, _, h2⟩
  · intro x hx; cases hx
  · intro x hx
    obtain ⟨j, hj, rfl⟩ := List.getElem_of_mem hx
    obtain ⟨ecs, _, h3, _⟩ := h2 j hj
    exact hR ecs _ h3

end Go.Proofs.Ytckebhknnocpkaa.Kit
