/- Common to the claims of this seat, part 1: texts that were written one by one, laid behind one another. -/
import Derived.Deep.Slices
import Derived.ChangeArms
import Derived.ChangeOld
import Derived.Below
import Derived.Carry
import Derived.SizedLaws
import Derived.OwnWalk
import Derived.Laws.AppendOwn
import Derived.Laws.AppendOwnNone
import Derived.Laws.OwnMore
import Derived.Deep.RegionHeld
import Derived.Lib.QuietBelow
import Derived.Lib.Hide
import Derived.WalkKit
import Derived.Test.YtghglgodkknlnaaChecked
import Derived.BigFrame
import Derived.BigQuiet
import Derived.Deep.DeepCutAuto
import Derived.Deep.CutBlock
import Derived.WalkLawsBesides
import Derived.LoopTactic
import Derived.WalkSpells
import Derived.Deep.QuietTactic
import Derived.Orders
import Derived.RegionTactic
import Derived.BigRegion
import Derived.Laws.Tables
import Derived.Laws.Rows
/- Arguments of any shape, opened to plain data: by the type, part by part. -/
namespace Go.Proofs.Ytghglgodkknlnaa.Opn
open Go.ChangeShapes Go.WideShapes Go.Deep Go.RowKit

/-- What is read of type t in world w is some plain datum that R tells of the cells. -/
def Opens (P : Program) (w : World) (t : TypeId) {α : Type} (R : List Value → α → Prop) : Prop :=
  ∀ (H : Type) (enc : TypeId × Value → H) (base : Nat) (spare : Nat → Bool) (held : Bool) (fuel : Nat) (cs : List Value) (x : DataW H × List MemPlace), DataW.trod enc P w base spare held fuel t cs = some x → ∃ a : α, R cs a

def RInt (k : IntKind) (cs : List Value) (n : Int) : Prop := cs = [.int k n] ∧ (Lit.int k n).wf = true
def RBool (cs : List Value) (b : Bool) : Prop := cs = [.bool b]
def RStr (cs : List Value) (s : ByteArray) : Prop := cs = [.string s] ∧ s.size ≤ maxLen

variable {P : Program} {w : World}
theorem opens_int {t : TypeId} {k : IntKind} (ht : P.underlying t = some (.int k)) : Opens P w t (RInt k) := by
  intro H enc base spare held fuel cs x h
  obtain ⟨n, h1, _, h2⟩ := DataW.trod_int ht h
  exact ⟨n, h1, h2⟩
theorem opens_bool {t : TypeId} (ht : P.underlying t = some .bool) : Opens P w t RBool := by
  intro H enc base spare held fuel cs x h
  obtain ⟨n, h1, _⟩ := DataW.trod_bool ht h
  exact ⟨n, h1⟩
theorem opens_str {t : TypeId} (ht : P.underlying t = some .string) : Opens P w t RStr := by
  intro H enc base spare held fuel cs x h
  obtain ⟨n, h1, _, h2⟩ := DataW.trod_string ht h
  exact ⟨n, h1, h2⟩
theorem Opens.mono {t : TypeId} {α β : Type} {R : List Value → α → Prop} {S : List Value → β → Prop} (h : Opens P w t R) (hs : ∀ cs a, R cs a → ∃ b, S cs b) : Opens P w t S := by
  intro H enc base spare held fuel cs x hx
  obtain ⟨a, ha⟩ := h H enc base spare held fuel cs x hx
  exact hs cs a ha

/-- A struct's cells, field by field. -/
theorem opens_struct {t : TypeId} {fs : Array Field} (ht : P.underlying t = some (.struct fs)) {α : Type} {R : List Value → α → Prop}
    (h : ∀ cs : List Value, cs.length = P.cellsOf t → (∀ (i : Nat) (f : Field), fs[i]? = some f → ∀ (β : Type) (S : List Value → β → Prop), Opens P w f.type S → ∃ b, S ((cs.drop f.offset).take (P.cellsOf f.type)) b) → ∃ a, R cs a) : Opens P w t R := by
  intro H enc base spare held fuel cs x hx
  obtain ⟨xs, n, _, _, hlen, hxl, hf⟩ := DataW.trod_struct ht hx
  refine h cs hlen fun i f hi β S hS => ?_
  have h1 := hf i f hi
  have hi' : i < fs.size := (Array.getElem?_eq_some_iff.1 hi).1
  rw [List.getElem?_eq_getElem (by omega)] at h1
  exact hS _ _ _ _ _ _ _ _ h1

/-- The elements of a list lie in memory. -/
def Cells {α : Type} (R : List Value → α → Prop) (size : Nat) (w : World) (a : Option Addr) (l : List α) : Prop :=
  l = [] ∨ ∃ b off, a = some ⟨b, off, none⟩ ∧ ∀ j (h : j < l.length), ∃ ecs : List Value, ecs.length = size ∧ R ecs l[j] ∧ ∀ i, i < size → w.cell? ⟨b, off + j * size + i, none⟩ = ecs[i]?

/-- A slice: nil, or it leads to its elements. -/
def RSlice {α : Type} (R : List Value → α → Prop) (size : Nat) (w : World) (cs : List Value) (l : List α) : Prop :=
  ∃ a len cap, cs = [.slice a len cap] ∧ l.length = len ∧ len ≤ cap ∧ cap ≤ maxLen ∧ (a = none → len = 0 ∧ cap = 0) ∧ Cells R size w a l

theorem list_of {α : Type} {n : Nat} {p : Nat → α → Prop} (h : ∀ i, i < n → ∃ x, p i x) : ∃ l : List α, l.length = n ∧ ∀ i (hi : i < l.length), p i l[i] := by
  induction n with
  | zero => exact ⟨[], rfl, fun i hi => absurd hi (Nat.not_lt_zero _)⟩
  | succ n ih =>
    obtain ⟨l, hl, hp⟩ := ih (fun i hi => h i (by omega))
    obtain ⟨x, hx⟩ := h n (by omega)
    refine ⟨l ++ [x], by simp [hl], fun i hi => ?_⟩
    by_cases hin : i < l.length
    · rw [List.getElem_append_left hin]; exact hp i hin
    · rw [List.length_append, List.length_singleton] at hi
      have : i = n := by omega
      subst this
      rw [List.getElem_append_right (by omega)]
      simpa [hl] using hx

theorem add_plain (b off k : Nat) : (⟨b, off, none⟩ : Addr).add k = ⟨b, off + k, none⟩ := by
  unfold Addr.add; split
  · subst_vars; rfl
  · rfl

theorem opens_slice {t e : TypeId} {α : Type} {R : List Value → α → Prop} {size : Nat} (ht : P.underlying t = some (.slice e)) (hc : P.cellsOf e = size) (hs : 0 < size) (he : Opens P w e R) : Opens P w t (RSlice R size w) := by
  intro H enc base spare held fuel cs x hx
  rcases open_slice ht hx with ⟨rfl, _⟩ | ⟨a, len, cap, m, n, D, Pl, rfl, _, hl, hm, hmm, _, hi⟩
  · exact ⟨[], none, 0, 0, rfl, rfl, Nat.le_refl _, by unfold maxLen; omega, fun _ => ⟨rfl, rfl⟩, .inl rfl⟩
  · have hlm : len ≤ m := by rw [hmm]; split <;> omega
    rw [hc] at hi
    obtain ⟨l, hll, hp⟩ := list_of (n := len) (p := fun i (y : α) => ∃ ecs : List Value, ecs.length = size ∧ R ecs y ∧ ∀ j, j < size → w.cell? ((a.add (i * size)).add j) = ecs[j]?) (fun i hil => by
      obtain ⟨cs', h1, h2⟩ := hi i (by omega)
      obtain ⟨_, h3, h4⟩ := World.cells?_some h1
      obtain ⟨y, hy⟩ := he _ _ _ _ _ _ _ _ h2
      exact ⟨y, cs', h3, hy, h4⟩)
    refine ⟨l, some a, len, cap, rfl, hll, hl, hm, (fun h => by cases h), ?_⟩
    by_cases h0 : len = 0
    · exact .inl (List.length_eq_zero_iff.1 (by omega))
    · obtain ⟨b, off, spot⟩ := a
      obtain ⟨ecs, e1, _, e3⟩ := hp 0 (by omega)
      have e4 := e3 0 hs
      rw [List.getElem?_eq_getElem (by omega)] at e4
      have hspot : spot = none := by
        have := World.cell?_spot e4
        simpa [Addr.add] using this
      subst hspot
      refine .inr ⟨b, off, rfl, fun j hj => ?_⟩
      obtain ⟨ecs, g1, g2, g3⟩ := hp j hj
      refine ⟨ecs, g1, g2, fun i hi => ?_⟩
      have := g3 i hi
      rw [add_plain, add_plain] at this
      exact this

/-- An argument, by its type. -/
theorem opens_arg {H : Type} {enc : TypeId × Value → H} {base : Nat} {spare : Nat → Bool} {held : Bool} {t : TypeId} {α : Type} {R : List Value → α → Prop} {v : Value} {d : DataW H} {ps : List MemPlace} (h : Opens P w t R) (hd : DataW.Trod enc P w base spare held t v d ps) : ∃ a, R v.cells.toList a := by
  obtain ⟨fuel, hf⟩ := hd
  exact h _ _ _ _ _ _ _ _ hf

/-- No more is read than memory bears. -/
theorem slice_sized {P : Program} {w : World} {H : Type} {enc : TypeId × Value → H} {base : Nat} {spare : Nat → Bool} {held : Bool} {t e : TypeId} {ts : List TypeId} {ds : List (DataW H)} {j b : Nat} {d : DataW H} {ps : List MemPlace} {a : Option Addr} {len cap : Nat}
    (hsz : (DataW.weightsEach P ts ds).all (· ≤ reachBytes) = true) (ht : ts[j]? = some t) (hd : ds[j]? = some d) (hu : P.underlying t = some (.slice e)) (hb : P.bytesOf e = b) (h : DataW.Trod enc P w base spare held t (.slice a len cap) d ps) : len * b ≤ 140737488351232 := by
  obtain ⟨fuel, hf⟩ := h
  rcases open_slice hu hf with ⟨e1, _⟩ | ⟨a', len', cap', m, n, D, Pl, e1, _, hl, _, hm, e2, _⟩
  · simp [Value.cells] at e1
    rw [e1.2.1]; omega
  · simp [Value.cells] at e1
    obtain ⟨_, rfl, rfl⟩ := e1
    injection e2 with e2 _
    have := sized_slice hsz ht (hd.trans (congrArg some e2)) hu
    rw [hb] at this
    simp only [List.length_map, List.length_range, reachBytes] at this
    exact Nat.le_trans (Nat.mul_le_mul_right _ (Nat.le_add_right _ _)) this
theorem string_sized {P : Program} {H : Type} {ts : List TypeId} {ds : List (DataW H)} {j : Nat} {t : TypeId} {s : ByteArray} {d : DataW H}
    (hsz : (DataW.weightsEach P ts ds).all (· ≤ reachBytes) = true) (ht : ts[j]? = some t) (hd : ds[j]? = some d) (he : d = .lit (.string s.data.toList)) : s.size ≤ 140737488351232 := by
  subst he
  have := sized_string hsz ht hd
  have e : s.data.toList.length = s.size := by rw [Array.length_toList]; rfl
  rw [e] at this
  exact this

end Go.Proofs.Ytghglgodkknlnaa.Opn
/- Money, plain: sums and products of whole numbers, cut off where one of them, or what has come together, lies outside -2^60 .. 2^60. Imports nothing of the program. -/
namespace Go.Proofs.Ytghglgodkknlnaa.Mon

def fitsB (n : Int) : Bool := decide (-1152921504606846976 ≤ n ∧ n ≤ 1152921504606846976)

theorem fitsB_iff {n : Int} : fitsB n = true ↔ (-1152921504606846976 ≤ n ∧ n ≤ 1152921504606846976) := by
  unfold fitsB; exact decide_eq_true_iff

theorem fitsB_no {n : Int} : fitsB n = false ↔ ¬ (-1152921504606846976 ≤ n ∧ n ≤ 1152921504606846976) := by
  unfold fitsB; exact decide_eq_false_iff_not

/-- A fold that gives up. -/
def foldF (f : Int → Int → Int) : Int → List Int → Option Int
  | s, [] => some s
  | s, x :: r => if fitsB x = true ∧ fitsB (f s x) = true then foldF f (f s x) r else none

def addF (l : List Int) : Option Int := foldF (fun a b => a + b) 0 l
def mulF (l : List Int) : Option Int := foldF (fun a b => a * b) 1 l
def outN (o : Option Int) : Int := o.getD 0
def outE (o : Option Int) : Int := if o.isSome then 0 else 2
def addN (l : List Int) : Int := outN (addF l)
def addE (l : List Int) : Int := outE (addF l)
def mulN (l : List Int) : Int := outN (mulF l)
def mulE (l : List Int) : Int := outE (mulF l)

/-- What is left comes to what all comes to. -/
def Rest (f : Int → Int → Int) (t : Option Int) (l : List Int) (s : Int) (k : Nat) : Prop := foldF f s (l.drop k) = t

theorem drop_at {l : List Int} {k : Nat} (h : k < l.length) : l.drop k = l.getD k 0 :: l.drop (k + 1) := by
  rw [List.drop_eq_getElem_cons h]
  simp [List.getD, List.getElem?_eq_getElem h]

theorem rest_step {f : Int → Int → Int} {t : Option Int} {l : List Int} {s : Int} {k : Nat} (h : Rest f t l s k) (hk : k < l.length) (h1 : fitsB (l.getD k 0) = true) (h2 : fitsB (f s (l.getD k 0)) = true) :
    Rest f t l (f s (l.getD k 0)) (k + 1) := by
  unfold Rest at h ⊢
  rw [drop_at hk, foldF, if_pos ⟨h1, h2⟩] at h
  exact h

theorem rest_no1 {f : Int → Int → Int} {t : Option Int} {l : List Int} {s : Int} {k : Nat} (h : Rest f t l s k) (hk : k < l.length) (h1 : fitsB (l.getD k 0) = false) : t = none := by
  unfold Rest at h
  rw [drop_at hk, foldF, if_neg (by simp only [h1]; simp)] at h
  exact h.symm

theorem rest_no2 {f : Int → Int → Int} {t : Option Int} {l : List Int} {s : Int} {k : Nat} (h : Rest f t l s k) (hk : k < l.length) (h2 : fitsB (f s (l.getD k 0)) = false) : t = none := by
  unfold Rest at h
  rw [drop_at hk, foldF, if_neg (by simp only [h2]; simp)] at h
  exact h.symm

theorem rest_end {f : Int → Int → Int} {t : Option Int} {l : List Int} {s : Int} {k : Nat} (h : Rest f t l s k) (hk : l.length ≤ k) : t = some s := by
  unfold Rest at h
  rw [List.drop_of_length_le hk, foldF] at h
  exact h.symm

theorem none_N {t : Option Int} (h : t = none) : outN t = 0 := by rw [h]; rfl
theorem none_E {t : Option Int} (h : t = none) : outE t = 2 := by rw [h]; rfl
theorem some_N {t : Option Int} {s : Int} (h : t = some s) : outN t = s := by rw [h]; rfl
theorem some_E {t : Option Int} {s : Int} (h : t = some s) : outE t = 0 := by rw [h]; rfl

theorem out_cases (t : Option Int) : (t = none ∧ outN t = 0 ∧ outE t = 2) ∨ (∃ s, t = some s ∧ outN t = s ∧ outE t = 0) := by
  cases t with
  | none => exact .inl ⟨rfl, rfl, rfl⟩
  | some s => exact .inr ⟨s, rfl, rfl, rfl⟩

theorem foldF_fits {f : Int → Int → Int} {l : List Int} : ∀ {s r : Int}, fitsB s = true → foldF f s l = some r → fitsB r = true := by
  induction l with
  | nil => intro s r hs h; rw [foldF] at h; cases h; exact hs
  | cons x l ih =>
    intro s r hs h
    rw [foldF] at h
    split at h
    · rename_i hc; exact ih hc.2 h
    · cases h

/-! ## Products -/

/-- A number without its sign. -/
def abs (n : Int) : Int := (n.natAbs : Int)
theorem abs_neg {n : Int} (h : n < 0) : abs n = -n := by unfold abs; omega
theorem abs_pos {n : Int} (h : ¬ n < 0) : abs n = n := by unfold abs; omega
theorem abs_ge (n : Int) : 0 ≤ abs n := by unfold abs; omega

theorem fitsB_abs (n : Int) : fitsB n = decide (abs n ≤ 1152921504606846976) := by
  unfold fitsB abs
  rw [Bool.eq_iff_iff]; simp only [decide_eq_true_iff]; omega

theorem abs_mul (a b : Int) : abs (a * b) = abs a * abs b := by
  unfold abs; rw [Int.natAbs_mul]; simp

theorem quot_iff (a b : Int) (hb : ¬ b = 0) : (abs a ≤ 1152921504606846976 / abs b) ↔ fitsB (a * b) = true := by
  rw [fitsB_abs, decide_eq_true_iff, abs_mul]
  have hp : 0 < abs b := by unfold abs; omega
  exact Int.le_ediv_iff_mul_le hp

theorem fits_zero (a : Int) : fitsB (a * 0) = true := by rw [Int.mul_zero]; decide

end Go.Proofs.Ytghglgodkknlnaa.Mon
/- Common: worlds that grow, and lists of flat elements (each so many cells) that lie in memory: read, cut, made, appended to. -/
namespace Go.Proofs.Ytghglgodkknlnaa.Kit
open Go.RowKit
open Go.Sort

theorem ret_bool {a b : Bool} (h : a = b) : Ending.returned (.bool a) = .returned (.bool b) := by rw [h]
theorem ret_int {k : IntKind} {a b : Int} (h : a = b) : Ending.returned (.int k a) = .returned (.int k b) := by rw [h]
theorem bcell {W w1 : World} (hb : Below W.heap.size W w1) : (∀ b o, b < W.heap.size → w1.cell? ⟨b, o, none⟩ = W.cell? ⟨b, o, none⟩) ∧ (∀ b o, b < W.heap.size → w1.frozen? ⟨b, o, none⟩ = W.frozen? ⟨b, o, none⟩) :=
  ⟨fun b o h => hb.cell (p := ⟨b, o, none⟩) h, fun b o h => hb.frozen (p := ⟨b, o, none⟩) h⟩
theorem cell_keep {w1 w' : World} (hb : Below w1.heap.size w1 w') {b o : Nat} {v : Value} (h : w1.cell? ⟨b, o, none⟩ = some v) : w'.cell? ⟨b, o, none⟩ = some v := by
  rw [hb.cell (p := ⟨b, o, none⟩) (World.block_lt_of_cell? w1 _ h)]; exact h
theorem below_keep {w w1 w' : World} (h : Below w.heap.size w w1) (hb : Below w1.heap.size w1 w') : Below w.heap.size w w' := h.trans (hb.mono h.size)
theorem below_alloc (w : World) (o : Obj) : Below w.heap.size w (w.alloc o) := (Below.refl _ _).alloc (Nat.le_refl _) _
theorem below_drew (w : World) : Below w.heap.size w w.drew := (Below.refl _ _).drew
theorem cell_alloc {w : World} {a : Addr} {v : Value} {o : Obj} (h : w.cell? a = some v) : (w.alloc o).cell? a = some v := by
  rw [World.cell?_alloc_some _ _ _ (by rw [h]; rfl)]; exact h
theorem same_cell {w : World} {a : Addr} {u : Value} (h : w.cell? a = some u) (v : Value) : (w.setCell a v).cell? a = some v := World.cell?_setCell_same' w a v (by rw [h]; rfl)
theorem off_ne {p i j : Nat} (h : i ≠ j) : (⟨p, i, none⟩ : Addr) ≠ ⟨p, j, none⟩ := fun e => h (by injection e)
theorem set_far {w : World} {a x : Addr} {u v : Value} (hne : a.block ≠ x.block) (h : w.cell? x = some v) : (w.setCell a u).cell? x = some v := by rw [World.cell?_setCell_far _ _ _ _ hne]; exact h
theorem set_off {w : World} {b i j : Nat} {u v : Value} (hne : i ≠ j) (h : w.cell? ⟨b, j, none⟩ = some v) : (w.setCell ⟨b, i, none⟩ u).cell? ⟨b, j, none⟩ = some v := by rw [World.cell?_setCell_other _ _ _ _ (off_ne hne)]; exact h
theorem setCell_size (w : World) (a : Addr) (v : Value) : (w.setCell a v).heap.size = w.heap.size := by simp [World.setCell]
theorem add_plain (b off k : Nat) : (⟨b, off, none⟩ : Addr).add k = ⟨b, off + k, none⟩ := by
  unfold Addr.add; split
  · subst_vars; rfl
  · rfl

/-! ## Lists in memory -/

variable {α : Type} {enc : α → List Value} {size : Nat}

/-- The elements of a list, each by its cells. -/
def Row (enc : α → List Value) (size : Nat) (w : World) (a : Option Addr) (l : List α) : Prop :=
  l = [] ∨ ∃ b off, a = some ⟨b, off, none⟩ ∧ ∀ j (h : j < l.length) i, i < size → w.cell? ⟨b, off + j * size + i, none⟩ = (enc l[j])[i]?

theorem row_keep (hs : ∀ x, (enc x).length = size) {w w' : World} {a : Option Addr} {l : List α} (h : Row enc size w a l) (hb : Below w.heap.size w w') : Row enc size w' a l := by
  rcases h with h | ⟨b, off, h1, h2⟩
  · exact .inl h
  · refine .inr ⟨b, off, h1, fun j hj i hi => ?_⟩
    have e := h2 j hj i hi
    rw [List.getElem?_eq_getElem (by rw [hs]; exact hi)] at e ⊢
    exact cell_keep hb e

theorem row_some {w : World} {a : Option Addr} {l : List α} (h : Row enc size w a l) (hl : 0 < l.length) : ∃ b off, Hid (a = some ⟨b, off, none⟩) := by
  rcases h with rfl | ⟨b, off, h1, _⟩
  · simp at hl
  · exact ⟨b, off, h1⟩

theorem row_cell {w : World} {b off : Nat} {l : List α} (h : Row enc size w (some ⟨b, off, none⟩) l) {j : Nat} (hj : j < l.length) {x : α} (hx : l[j] = x) {i : Nat} (hi : i < size) : w.cell? ⟨b, off + j * size + i, none⟩ = (enc x)[i]? := by
  subst hx
  rcases h with rfl | ⟨b', off', h1, h2⟩
  · simp at hj
  · simp at h1
    obtain ⟨rfl, rfl⟩ := h1
    exact h2 j hj i hi

theorem row_lt (hs : ∀ x, (enc x).length = size) (hz : 0 < size) {w : World} {b off : Nat} {l : List α} (h : Row enc size w (some ⟨b, off, none⟩) l) (hl : 0 < l.length) : b < w.heap.size := by
  have e := row_cell h hl rfl hz
  rw [List.getElem?_eq_getElem (by rw [hs]; exact hz)] at e
  exact World.block_lt_of_cell? w _ e

theorem row_take {w : World} {a : Option Addr} {l : List α} (h : Row enc size w a l) (k : Nat) : Row enc size w a (l.take k) := by
  rcases h with h | ⟨b, off, h1, h2⟩
  · exact .inl (by rw [h]; simp)
  · refine .inr ⟨b, off, h1, fun j hj i hi => ?_⟩
    rw [List.length_take] at hj
    rw [List.getElem_take]
    exact h2 j (by omega) i hi

/-- A slice of a list from element k on. -/
theorem row_drop {w : World} {b off : Nat} {l : List α} (h : Row enc size w (some ⟨b, off, none⟩) l) (k : Nat) : Row enc size w (some ⟨b, off + k * size, none⟩) (l.drop k) := by
  rcases h with h | ⟨b', off', h1, h2⟩
  · exact .inl (by rw [h]; simp)
  · simp at h1
    obtain ⟨rfl, rfl⟩ := h1
    refine .inr ⟨_, _, rfl, fun j hj i hi => ?_⟩
    rw [List.length_drop] at hj
    rw [List.getElem_drop]
    have := h2 (k + j) (by omega) i hi
    rw [Nat.add_mul] at this
    rw [show off + k * size + j * size + i = off + (k * size + j * size) + i by omega]
    exact this

/-! ## A list of the call's own -/

def flat (enc : α → List Value) (l : List α) : List Value := l.flatMap enc
theorem flat_length (hs : ∀ x, (enc x).length = size) : ∀ l : List α, (flat enc l).length = l.length * size
  | [] => by simp [flat]
  | x :: l => by
    have := flat_length hs l
    unfold flat at this ⊢
    rw [List.flatMap_cons, List.length_append, this, hs, List.length_cons, Nat.add_mul]; omega
theorem flat_snoc (l : List α) (x : α) : flat enc (l ++ [x]) = flat enc l ++ enc x := by
  unfold flat; rw [List.flatMap_append]; simp
theorem flat_append (l k : List α) : flat enc (l ++ k) = flat enc l ++ flat enc k := by
  unfold flat; rw [List.flatMap_append]
theorem flat_at (hs : ∀ x, (enc x).length = size) : ∀ (l : List α) (j : Nat) (h : j < l.length) (i : Nat), i < size → (flat enc l)[j * size + i]? = (enc l[j])[i]?
  | x :: l, 0, _, i, hi => by
    show (enc x ++ flat enc l)[0 * size + i]? = _
    rw [Nat.zero_mul, Nat.zero_add, List.getElem?_append_left (by rw [hs]; exact hi)]; rfl
  | x :: l, j + 1, h, i, hi => by
    have h' : j < l.length := by simpa using h
    show (enc x ++ flat enc l)[(j + 1) * size + i]? = _
    rw [Nat.add_mul, Nat.one_mul, List.getElem?_append_right (by rw [hs]; omega), hs, show j * size + size + i - size = j * size + i by omega]
    exact flat_at hs l j h' i hi

def Owns (enc : α → List Value) (size : Nat) (e : TypeId) (w : World) (base : Nat) (v : Value) (l : List α) : Prop := w.ownsRow base e size v l.length (flat enc l)

theorem owns_row (hs : ∀ x, (enc x).length = size) {e : TypeId} {w : World} {base : Nat} {v : Value} {l : List α} (h : Owns enc size e w base v l) : ∃ a cap, v = .slice a l.length cap ∧ l.length ≤ cap ∧ cap ≤ maxLen ∧ (a = none → cap = 0) ∧ Row enc size w a l := by
  obtain ⟨h1, h2⟩ := h
  rcases h2 with ⟨rfl, h3⟩ | ⟨g, cap, cur, rfl, _, hg, hn, hm, hc, ht⟩
  · have hl : l = [] := List.length_eq_zero_iff.1 h3
    subst hl
    exact ⟨none, 0, rfl, Nat.le_refl _, by unfold maxLen; omega, fun _ => rfl, .inl rfl⟩
  · refine ⟨_, cap, rfl, hn, hm, (fun h => by cases h), .inr ⟨g, 0, rfl, fun j hj i hi => ?_⟩⟩
    have hlt : j * size + i < l.length * size := by
      have : (j + 1) * size ≤ l.length * size := Nat.mul_le_mul_right _ (by omega)
      rw [Nat.add_mul] at this; omega
    have e1 : (cur.toList.take (l.length * size))[j * size + i]? = (flat enc l)[j * size + i]? := by rw [ht]
    rw [List.getElem?_take, if_pos hlt, flat_at hs l j hj i hi] at e1
    rw [← e1]
    unfold World.cell?
    simp only [hg, Nat.zero_add]
    simp

theorem owns_alloc {e : TypeId} {w : World} {base : Nat} {v : Value} {l : List α} (h : Owns enc size e w base v l) (o : Obj) : Owns enc size e (w.alloc o) base v l := World.ownsRow.alloc h o
theorem owns_drew {e : TypeId} {w : World} {base : Nat} {v : Value} {l : List α} (h : Owns enc size e w base v l) : Owns enc size e w.drew base v l := h
theorem owns_nil (e : TypeId) (w : World) (base : Nat) : Owns enc size e w base (.slice none 0 0) [] := World.ownsRow_nil _ _ _ _

/-- append of a whole list (one new element, or another slice's) to a list of the call's own. -/
theorem append_row (hs : ∀ x, (enc x).length = size) (hz : 0 < size) (hone : ∀ x, ∀ u ∈ enc x, u.oneCell' = true) {P : Program} {w : World} {ops : Array Oper} {rest : List Oper} {o : Oper} {A : Act} {Q : Exit → Act → World → Prop} (hgd : o.guard = none) (s x : Operand) (t e : TypeId)
    (ho : o.op = .call { callee := .builtin .append, args := #[s, x], argTypes := #[t, t] }) (ht : P.underlying t = some (.slice e)) (z : Value) (bytes : Nat)
    (hinfo : (P.info? e).map (fun i => (i.zero, i.size, i.bytes)) = some (some z, size, bytes)) (hzs : z.cells.size = size)
    (base : Nat) (v : Value) (l : List α) (hv : A.eval s = v) (hown : Owns enc size e w base v l) (ad : Option Addr) (m c : Nat) (k : List α) (hx : A.eval x = .slice ad m c) (hk : k.length = m) (hrow : Row enc size w ad k) (hnil : ad = none → m = 0 ∧ c = 0)
    (h63 : l.length + m ≤ maxLen) (hbytes : (l.length + m) * bytes ≤ 140737488355328) (hbase : base ≤ w.heap.size)
    (h : ∀ v' w', Owns enc size e w' base v' (l ++ k) → Below base w w' → wpList P ops Q rest (A.put o.dst v') w') : wpList P ops Q (o :: rest) A w := by
  obtain ⟨i0, hi, hz0, hz1, hz2⟩ := info_parts hinfo
  cases ad with
  | none =>
    obtain ⟨rfl, rfl⟩ := hnil rfl
    obtain rfl : k = [] := List.length_eq_zero_iff.1 hk
    refine wpList_append_own_none hgd s x t ho base e i0 size ht hi v l.length _ hv hown hx (h v w (by rw [List.append_nil]; exact hown) (Below.refl _ _))
  | some q =>
    refine wpList_append_own _ hgd s x t ho base e i0 z size bytes ht hi hz0 hz1 hz2 hzs hz v l.length _ hv hown q m c (flat enc k) hx (by rw [flat_length hs, hk]) ?_ ?_ h63 hbytes hbase ?_
    · intro j u hj
      rcases hrow with rfl | ⟨b, off, h1, h2⟩
      · simp [flat] at hj
      · simp at h1
        subst h1
        have hjl : j < k.length * size := by rw [← flat_length hs]; exact (List.getElem?_eq_some_iff.1 hj).1
        have hd : j / size < k.length := by rw [Nat.div_lt_iff_lt_mul hz]; exact hjl
        have hm := Nat.mod_lt j hz
        have e1 := h2 (j / size) hd (j % size) hm
        rw [← flat_at hs k (j / size) hd (j % size) hm] at e1
        have e2 : j / size * size + j % size = j := by rw [Nat.mul_comm]; exact Nat.div_add_mod j size
        rw [Nat.add_assoc, e2, hj] at e1
        rw [add_plain]; exact e1
    · intro u hu
      obtain ⟨x, hx, hux⟩ := List.mem_flatMap.1 hu
      exact hone x u hux
    · intro v' w' h1 h2 _
      refine h v' w' ?_ ((Below.refl _ _).grown h2 hbase fun k hk => (hown.lt k hk).1)
      unfold Owns
      rw [flat_append, List.length_append, hk]
      exact h1

/-- A new list's cells. -/
theorem row_new (hs : ∀ x, (enc x).length = size) (w : World) (l : List α) (A : Array Value) (T : TypeId) (n : Nat) (hn : n = w.heap.size) (hA : A.toList = flat enc l) : Row enc size (w.alloc (.cells A T)) (some ⟨n, 0, none⟩) l := by
  subst hn
  refine .inr ⟨_, _, rfl, fun j hj i hi => ?_⟩
  rw [Nat.zero_add, World.cell?_alloc_new, ← flat_at hs l j hj i hi, ← hA]
  simp

/-- An argument's list. -/
theorem row_of_cells {R : List Value → α → Prop} (hR : ∀ cs x, R cs x → cs = enc x) {w : World} {a : Option Addr} {l : List α} (h : Opn.Cells R size w a l) : Row enc size w a l := by
  rcases h with h | ⟨b, off, h1, h2⟩
  · exact .inl h
  · refine .inr ⟨b, off, h1, fun j hj i hi => ?_⟩
    obtain ⟨ecs, _, h3, h4⟩ := h2 j hj
    rw [← hR ecs _ h3]
    exact h4 i hi
theorem all_of_cells {R : List Value → α → Prop} {p : α → Prop} (hR : ∀ cs x, R cs x → p x) {w : World} {a : Option Addr} {l : List α} (h : Opn.Cells R size w a l) : ∀ x ∈ l, p x := by
  rcases h with rfl | ⟨b, off, _, h2⟩
  · intro x hx; cases hx
  · intro x hx
    obtain ⟨j, hj, rfl⟩ := List.getElem_of_mem hx
    obtain ⟨ecs, _, h3, _⟩ := h2 j hj
    exact hR ecs _ h3

end Go.Proofs.Ytghglgodkknlnaa.Kit
/- Common: several lists of the call's own: an append to one of them leaves the others as they are, and apart from it. -/
namespace Go.Proofs.Ytghglgodkknlnaa.Two
open Go.RowKit
open Go.Sort
open Kit

/-- Where an append to a list of the call's own leaves it: in its block, or in a new one. -/
theorem append_where {P : Program} (w : World) (base : Nat) (t ty e : TypeId) (i : TypeInfo) (z : Value) (size bytes : Nat) (ht : P.underlying t = some (.slice e)) (hi : P.info? e = some i) (hz : i.zero = some z)
    (hsize : i.size = size) (hby : i.bytes = bytes) (hzs : z.cells.size = size) (hsz : 0 < size) (v : Value) (n : Nat) (xs : List Value) (hown : w.ownsRow base e size v n xs)
    (a : Addr) (m c : Nat) (news : List Value) (hl : news.length = m * size) (hnews : ∀ j u, news[j]? = some u → w.cell? (a.add j) = some u) (h1 : ∀ u ∈ news, u.oneCell' = true)
    (h63 : n + m ≤ maxLen) (hbytes : (n + m) * bytes ≤ 140737488355328) (hbase : base ≤ w.heap.size) :
    ∃ v' w', (Builtin.append_ #[t, t] ty #[v, .slice (some a) m c]).run P w = .ok v' w' ∧ w'.ownsRow base e size v' (n + m) (xs ++ news) ∧ w.grownBy w' v.ownBlock ∧ (v'.ownBlock = v.ownBlock ∨ v'.ownBlock = some w.heap.size) := by
  obtain ⟨v', w', hr, h2, h3, _⟩ := run_append_own (P := P) w base t ty e i z size bytes ht hi hz hsize hby hzs hsz v n xs hown a m c news hl hnews h1 h63 hbytes hbase
  refine ⟨v', w', hr, h2, h3, ?_⟩
  subst hsize hby
  have hsmall : n + m ≤ 9223372036854775807 := by simp only [maxLen] at h63; omega
  have out : ∀ {x y : Value} {wx wy : World} {r : Result Value}, r = .ok x wx → r = .ok y wy → x = y := by
    intro x y wx wy r hx hy
    rw [hx] at hy
    injection hy
  rcases hown.2 with ⟨rfl, rfl⟩ | ⟨g, cap, cur, rfl, _, hg, _, _, hcs, _⟩
  · by_cases hm : m = 0
    · subst hm
      have hn : news = [] := List.eq_nil_of_length_eq_zero (by simpa using hl)
      subst hn
      have hr0 : (Builtin.append_ #[t, t] ty #[.slice none 0 0, .slice (some a) 0 c]).run P w = .ok (.slice none 0 0) w := by
        simp [Builtin.append_, run_underlying ht, sizeOf, typeInfo, hi, Builtin.lenOf, Builtin.firstCells, loadCells, loadCellsFrom]
      exact .inl (by rw [out hr hr0])
    · have hr0 := run_append_nil (P := P) w t ty e i z ht hi hz a m c news hl hnews (by omega) (by omega) (by have hb := hbytes; simp only [Nat.zero_add] at hb; omega)
      exact .inr (by rw [out hr hr0]; rfl)
  · by_cases hroom : n + m ≤ cap
    · have hr0 := run_append_room (P := P) w t ty e i ht hi g n cap cur hg a m c news hl hnews h1 hroom (by rw [hl, hcs, ← Nat.add_mul]; exact Nat.mul_le_mul_right _ hroom)
      exact .inl (by rw [out hr hr0]; rfl)
    · have hr0 := run_append_grow (P := P) w t ty e i z ht hi hz ⟨g, 0, none⟩ n cap xs hown.1 (hown.cells (g := g) rfl) a m c news hl hnews (by omega) (by omega) (growslice_fits (by omega) hbytes)
      exact .inr (by rw [out hr hr0]; rfl)

variable {α : Type} {enc : α → List Value} {size : Nat}

/-- 'append' of a list to a list of the call's own, as it runs, and what becomes of the others. -/
theorem run_append_apart (hs : ∀ x, (enc x).length = size) (hz : 0 < size) (hone : ∀ x, ∀ u ∈ enc x, u.oneCell' = true) {P : Program} {w : World} (t ty e : TypeId) (ht : P.underlying t = some (.slice e)) (z : Value) (bytes : Nat)
    (hinfo : (P.info? e).map (fun i => (i.zero, i.size, i.bytes)) = some (some z, size, bytes)) (hzs : z.cells.size = size)
    (base : Nat) (v : Value) (l : List α) (hown : Owns enc size e w base v l) (ad : Option Addr) (m c : Nat) (k : List α) (hk : k.length = m) (hrow : Row enc size w ad k) (hnil : ad = none → m = 0 ∧ c = 0)
    (h63 : l.length + m ≤ maxLen) (hbytes : (l.length + m) * bytes ≤ 140737488355328) (hbase : base ≤ w.heap.size) :
    ∃ v' w', (Builtin.append_ #[t, t] ty #[v, .slice ad m c]).run P w = .ok v' w' ∧ Owns enc size e w' base v' (l ++ k) ∧ w.grownBy w' v.ownBlock ∧ (v'.ownBlock = v.ownBlock ∨ v'.ownBlock = some w.heap.size) := by
  obtain ⟨i0, hi, hz0, hz1, hz2⟩ := info_parts hinfo
  cases ad with
  | none =>
    obtain ⟨rfl, rfl⟩ := hnil rfl
    obtain rfl : k = [] := List.length_eq_zero_iff.1 hk
    exact ⟨v, w, run_append_owned_none (P := P) (w := w) base t ty e i0 size ht hi v l.length _ hown, by rw [List.append_nil]; exact hown, ⟨rfl, rfl, rfl, Nat.le_refl _, fun _ _ _ => rfl⟩, .inl rfl⟩
  | some q =>
    have hnews : ∀ j u, (flat enc k)[j]? = some u → w.cell? (q.add j) = some u := by
      intro j u hj
      rcases hrow with rfl | ⟨b, off, h1, h2⟩
      · simp [flat] at hj
      · simp at h1
        subst h1
        have hjl : j < k.length * size := by rw [← flat_length hs]; exact (List.getElem?_eq_some_iff.1 hj).1
        have hd : j / size < k.length := by rw [Nat.div_lt_iff_lt_mul hz]; exact hjl
        have hm := Nat.mod_lt j hz
        have e1 := h2 (j / size) hd (j % size) hm
        rw [← flat_at hs k (j / size) hd (j % size) hm] at e1
        have e2 : j / size * size + j % size = j := by rw [Nat.mul_comm]; exact Nat.div_add_mod j size
        rw [Nat.add_assoc, e2, hj] at e1
        rw [add_plain]; exact e1
    obtain ⟨v', w', hr, g2, g3, g4⟩ := append_where (P := P) w base t ty e i0 z size bytes ht hi hz0 hz1 hz2 hzs hz v l.length _ hown q m c (flat enc k) (by rw [flat_length hs, hk]) hnews
      (fun u hu => by obtain ⟨x, _, hux⟩ := List.mem_flatMap.1 hu; exact hone x u hux) h63 hbytes hbase
    refine ⟨v', w', hr, ?_, g3, g4⟩
    unfold Owns
    rw [flat_append, List.length_append, hk]
    exact g2
/-- The same in a walk. -/
theorem append_apart (hs : ∀ x, (enc x).length = size) (hz : 0 < size) (hone : ∀ x, ∀ u ∈ enc x, u.oneCell' = true) {P : Program} {w : World} {ops : Array Oper} {rest : List Oper} {o : Oper} {A : Act} {Q : Exit → Act → World → Prop} (hgd : o.guard = none) (s x : Operand) (t e : TypeId)
    (ho : o.op = .call { callee := .builtin .append, args := #[s, x], argTypes := #[t, t] }) (ht : P.underlying t = some (.slice e)) (z : Value) (bytes : Nat)
    (hinfo : (P.info? e).map (fun i => (i.zero, i.size, i.bytes)) = some (some z, size, bytes)) (hzs : z.cells.size = size)
    (base : Nat) (v : Value) (l : List α) (hv : A.eval s = v) (hown : Owns enc size e w base v l) (ad : Option Addr) (m c : Nat) (k : List α) (hx : A.eval x = .slice ad m c) (hk : k.length = m) (hrow : Row enc size w ad k) (hnil : ad = none → m = 0 ∧ c = 0)
    (h63 : l.length + m ≤ maxLen) (hbytes : (l.length + m) * bytes ≤ 140737488355328) (hbase : base ≤ w.heap.size)
    (h : ∀ v' w', Owns enc size e w' base v' (l ++ k) → w.grownBy w' v.ownBlock → (v'.ownBlock = v.ownBlock ∨ v'.ownBlock = some w.heap.size) → wpList P ops Q rest (A.put o.dst v') w') : wpList P ops Q (o :: rest) A w := by
  obtain ⟨v', w', hr, g2, g3, g4⟩ := run_append_apart (P := P) hs hz hone t o.type e ht z bytes hinfo hzs base v l hown ad m c k hk hrow hnil h63 hbytes hbase
  refine wpList_plain hgd fun K hK => ?_
  unfold Oper.wp execOp
  simp only [ho, resolve, invoke, builtin, Sem.run_bind, Sem.run_pure, Result.andThen_ok, List.map_toArray, List.map_cons, List.map_nil, hv, hx, hr]
  exact hK _ _ (h v' w' g2 g3 g4)

/-- Two values that own no block together. -/
def Apart (v u : Value) : Prop := u.ownBlock = none ∨ u.ownBlock ≠ v.ownBlock
theorem apart_symm {v u : Value} (h : Apart v u) : Apart u v := by
  unfold Apart at *
  rcases h with h | h
  · by_cases hv : v.ownBlock = none
    · exact .inl hv
    · exact .inr (by rw [h]; exact hv)
  · exact .inr (Ne.symm h)
theorem owns_kept {e : TypeId} {w w' : World} {base : Nat} {v u : Value} {l : List α} (h : Owns enc size e w base u l) (hg : w.grownBy w' v.ownBlock) (ha : Apart v u) : Owns enc size e w' base u l := World.ownsRow.kept h hg ha
theorem apart_kept {e : TypeId} {w : World} {base : Nat} {v v' u : Value} {l : List α} (h : Owns enc size e w base u l) (ha : Apart v u) (hv : v'.ownBlock = v.ownBlock ∨ v'.ownBlock = some w.heap.size) : Apart v' u := by
  unfold Apart at *
  rcases hv with hv | hv
  · rw [hv]; exact ha
  · by_cases hu : u.ownBlock = none
    · exact .inl hu
    · refine .inr fun e => ?_
      rw [hv] at e
      have := (World.ownsRow.lt h _ e).2
      omega
theorem below_grown {e : TypeId} {w w' : World} {base : Nat} {v : Value} {l : List α} (h : Owns enc size e w base v l) (hg : w.grownBy w' v.ownBlock) (hb : base ≤ w.heap.size) : Below base w w' :=
  (Below.refl _ _).grown hg hb fun k hk => (World.ownsRow.lt h k hk).1

end Go.Proofs.Ytghglgodkknlnaa.Two
/- A slice that can be read, of whatever elements; numbers of 64 bits. -/
namespace Go.Proofs.Ytghglgodkknlnaa.Tre
set_option maxRecDepth 100000
open Go.RowKit
open Go.Sort
open Kit
set_option linter.unusedVariables false

abbrev inI (n : Int) : Prop := -9223372036854775808 ≤ n ∧ n ≤ 9223372036854775807
/-- A slice that can be read. -/
structure Lst {α : Type} (enc : α → List Value) (size : Nat) (w : World) (a : Option Addr) (n c : Nat) (l : List α) : Prop where
  len : l.length = n
  cap : n ≤ c
  max : c ≤ maxLen
  nil : a = none → n = 0 ∧ c = 0
  row : Kit.Row enc size w a l
variable {w w' : World}
theorem below_drewN' (w : World) (n : Nat) : Below w.heap.size w (w.drewN n) := ⟨rfl, rfl, rfl, Nat.le_refl _, fun _ _ => rfl⟩
theorem lst_keep {α : Type} {enc : α → List Value} {size n c : Nat} {a : Option Addr} {l : List α} (hs : ∀ x, (enc x).length = size) (h : Lst enc size w a n c l) (hb : Below w.heap.size w w') : Lst enc size w' a n c l := ⟨h.len, h.cap, h.max, h.nil, row_keep hs h.row hb⟩
theorem lst_take {α : Type} {enc : α → List Value} {size n c : Nat} {a : Option Addr} {l : List α} (h : Lst enc size w a n c l) (m : Nat) (hm : m ≤ n) : Lst enc size w a m c (l.take m) :=
  ⟨by rw [List.length_take, h.len]; omega, Nat.le_trans hm h.cap, h.max, fun e => ⟨by have := h.nil e; omega, (h.nil e).2⟩, row_take h.row m⟩
theorem lst_at {α : Type} {enc : α → List Value} {size n c : Nat} {a : Option Addr} {l : List α} (h : Lst enc size w a n c l) (hn : 0 < n) : ∃ b o, a = some ⟨b, o, none⟩ := by
  rcases h.row with e | ⟨b, o, e, _⟩
  · have := h.len; rw [e] at this; simp at this; omega
  · exact ⟨b, o, e⟩
theorem cells_int : Try.prog.cellsOf 3 = 1 := by kernel_rfl
theorem i64_wf {n : Int} (h : (Lit.int .i64 n).wf = true) : inI n := by
  simp [Lit.wf, IntKind.min, IntKind.max, IntKind.signed, IntKind.bits] at h
  exact h
theorem u8_in {n : Int} (h : (Lit.int .u8 n).wf = true) : 0 ≤ n ∧ n ≤ 255 := by
  simp [Lit.wf, IntKind.min, IntKind.max, IntKind.signed, IntKind.bits] at h
  omega
theorem u32_in {n : Int} (h : (Lit.int .u32 n).wf = true) : 0 ≤ n ∧ n ≤ 4294967295 := by
  simp [Lit.wf, IntKind.min, IntKind.max, IntKind.signed, IntKind.bits] at h
  omega
theorem lst_new {α : Type} {enc : α → List Value} {size : Nat} (hs : ∀ x, (enc x).length = size) (w : World) (l : List α) (A : Array Value) (T : TypeId) (n m : Nat) (hn : n = w.heap.size) (hA : A.toList = flat enc l) (hm : l.length = m) (hl : m ≤ 1000) : Lst enc size (w.alloc (.cells A T)) (some ⟨n, 0, none⟩) m m l :=
  ⟨hm, Nat.le_refl _, by unfold maxLen; omega, (fun h => by cases h), row_new hs w l A T n hn hA⟩
theorem lst_none {α : Type} (enc : α → List Value) (size : Nat) (w : World) : Lst enc size w none 0 0 ([] : List α) := ⟨rfl, Nat.le_refl _, Nat.zero_le _, fun _ => ⟨rfl, rfl⟩, .inl rfl⟩

/-! ### Single operations -/

theorem run_ld2 {w : World} {a : Addr} {x : Int} (h : w.cell? a = some (.int .i64 x)) : (Instr.loadAt 3 (.pointer (some a))).run Try.prog w = .ok (.int .i64 x) w := by
  simp [go_sem, h]
end Go.Proofs.Ytghglgodkknlnaa.Tre
/- Lists of numbers in memory: read, made, a call's own. -/
namespace Go.Proofs.Ytghglgodkknlnaa.Tre
set_option maxRecDepth 100000
open Go.RowKit
open Go.Sort
open Kit
set_option linter.unusedVariables false

def encI (n : Int) : List Value := [.int .i64 n]
theorem encI_len (x : Int) : (encI x).length = 1 := rfl
theorem encI_one (x : Int) : ∀ u ∈ encI x, u.oneCell' = true := by
  intro u hu
  simp [encI] at hu
  subst hu; rfl
variable {w w' : World}
abbrev IntsL := Lst encI 1
theorem int_cell {b o n c k : Nat} {l : List Int} (h : IntsL w (some ⟨b, o, none⟩) n c l) (hk : k < l.length) : w.cell? ⟨b, o + k, none⟩ = some (.int .i64 l[k]) := by
  have := row_cell h.row hk rfl (i := 0) (by omega)
  simpa [encI] using this
/-- Numbers in new memory. -/
def NewI (w : World) (base : Nat) (v : Value) (l : List Int) : Prop := ∃ a c, v = .slice a l.length c ∧ IntsL w a l.length c l ∧ ∀ q, a = some q → base ≤ q.block ∧ q.block < w.heap.size
theorem newI_keep {base : Nat} {v : Value} {l : List Int} (h : NewI w base v l) (hb : Below w.heap.size w w') : NewI w' base v l := by
  obtain ⟨a, c, e, h1, h2⟩ := h
  exact ⟨a, c, e, lst_keep encI_len h1 hb, fun q hq => ⟨(h2 q hq).1, Nat.lt_of_lt_of_le (h2 q hq).2 hb.size⟩⟩
theorem newI_le {base base' : Nat} {v : Value} {l : List Int} (h : NewI w base v l) (hb : base' ≤ base) : NewI w base' v l := by
  obtain ⟨a, c, e, h1, h2⟩ := h
  exact ⟨a, c, e, h1, fun q hq => ⟨Nat.le_trans hb (h2 q hq).1, (h2 q hq).2⟩⟩
theorem newI_nil (w : World) (base : Nat) : NewI w base (.slice none 0 0) [] := ⟨none, 0, rfl, ⟨rfl, Nat.le_refl _, Nat.zero_le _, (fun _ => ⟨rfl, rfl⟩), .inl rfl⟩, fun q hq => by cases hq⟩
theorem newI_own {base : Nat} {v : Value} {l : List Int} (h : Owns encI 1 3 w base v l) : NewI w base v l := by
  obtain ⟨a, c, rfl, h1, h2, h3, h4⟩ := owns_row encI_len h
  refine ⟨a, c, rfl, ⟨rfl, h1, h2, fun e => ⟨by have := h3 e; omega, h3 e⟩, h4⟩, fun q hq => ?_⟩
  subst hq
  exact World.ownsRow.lt h q.block rfl
theorem owns_lit (w : World) (f : Int) (base : Nat) (hb : base ≤ w.heap.size) : Owns encI 1 3 (w.alloc (.cells #[.int .i64 f] 3)) base (.slice (some ⟨w.heap.size, 0, none⟩) 1 1) [f] :=
  ⟨rfl, .inr ⟨w.heap.size, 1, _, rfl, hb, heap_alloc_new w _, Nat.le_refl _, by unfold maxLen; omega, rfl, rfl⟩⟩
theorem info_i : (Try.prog.info? 3).map (fun i => (i.zero, i.size, i.bytes)) = some (some (.int .i64 0), 1, 8) := by kernel_rfl

theorem own_chg' {base : Nat} {v : Value} {l : List Int} (h : Owns encI 1 3 w base v l) (hb : Below w.heap.size w w') : Owns encI 1 3 w' base v l := by
  rcases h with ⟨h1, h2 | ⟨g, cap, cur, e1, e2, e3, e4, e5, e6, e7⟩⟩
  · exact ⟨h1, .inl h2⟩
  · exact ⟨h1, .inr ⟨g, cap, cur, e1, e2, by rw [hb.block g (Array.getElem?_eq_some_iff.1 e3).1]; exact e3, e4, e5, e6, e7⟩⟩
theorem lit_row (w : World) (k : Int) : Kit.Row encI 1 (w.alloc (.cells #[.int .i64 k] 3)) (some ⟨w.heap.size, 0, none⟩) [k] := by
  obtain ⟨a', c', e', _, _, _, hrow⟩ := owns_row encI_len (owns_lit w k w.heap.size (Nat.le_refl _))
  cases e'
  exact hrow

theorem lit2_row (w : World) (x y : Int) : Kit.Row encI 1 (w.alloc (.cells #[.int .i64 x, .int .i64 y] 3)) (some ⟨w.heap.size, 0, none⟩) [x, y] := row_new encI_len w [x, y] _ _ _ rfl rfl
abbrev OwI (w : World) (base : Nat) (v : Value) (l : List Int) : Prop := Owns encI 1 3 w base v l
theorem run_bs_i (x : Int) (w : World) : (Instr.buildSlice 50 1 #[(0, .int .i64 x)]).run Try.prog w = .ok (.slice (some ⟨w.heap.size, 0, none⟩) 1 1) (w.alloc (.cells #[.int .i64 x] 3)) := by
  simp [go_sem]
end Go.Proofs.Ytghglgodkknlnaa.Tre
/- Allocations in memory; an argument's list opened. -/
namespace Go.Proofs.Ytghglgodkknlnaa.Tre
set_option maxRecDepth 100000
open Go.RowKit
open Go.Sort
open Kit
set_option linter.unusedVariables false

structure Al where
  fund : Int
  from' : Int
  till : Int
  avail : Int
  lien : Int
  spent : Int
def encL (a : Al) : List Value := [.int .i64 a.fund, .int .i64 a.from', .int .i64 a.till, .int .i64 a.avail, .int .i64 a.lien, .int .i64 a.spent]
theorem encL_len (x : Al) : (encL x).length = 6 := rfl
def Al.ok (a : Al) : Prop := inI a.fund ∧ inI a.from' ∧ inI a.till ∧ inI a.avail ∧ inI a.lien ∧ inI a.spent
variable {w w' : World}
abbrev Allocs := Lst encL 6
theorem alloc_cells {b o n c k : Nat} {l : List Al} (h : Allocs w (some ⟨b, o, none⟩) n c l) (hk : k < l.length) :
    w.cell? ⟨b, o + k * 6, none⟩ = some (.int .i64 l[k].fund) ∧ w.cell? ⟨b, o + k * 6 + 4, none⟩ = some (.int .i64 l[k].lien) ∧ w.cell? ⟨b, o + k * 6 + 5, none⟩ = some (.int .i64 l[k].spent) :=
  ⟨row_cell h.row hk rfl (i := 0) (by omega), row_cell h.row hk rfl (i := 4) (by omega), row_cell h.row hk rfl (i := 5) (by omega)⟩
theorem alloc_cells6 {b o n c k : Nat} {l : List Al} (h : Allocs w (some ⟨b, o, none⟩) n c l) (hk : k < l.length) :
    w.cell? ⟨b, o + k * 6, none⟩ = some (.int .i64 l[k].fund) ∧ w.cell? ⟨b, o + k * 6 + 1, none⟩ = some (.int .i64 l[k].from') ∧ w.cell? ⟨b, o + k * 6 + 2, none⟩ = some (.int .i64 l[k].till) ∧ w.cell? ⟨b, o + k * 6 + 3, none⟩ = some (.int .i64 l[k].avail) ∧ w.cell? ⟨b, o + k * 6 + 4, none⟩ = some (.int .i64 l[k].lien) ∧ w.cell? ⟨b, o + k * 6 + 5, none⟩ = some (.int .i64 l[k].spent) :=
  ⟨row_cell h.row hk rfl (i := 0) (by omega), row_cell h.row hk rfl (i := 1) (by omega), row_cell h.row hk rfl (i := 2) (by omega), row_cell h.row hk rfl (i := 3) (by omega), row_cell h.row hk rfl (i := 4) (by omega), row_cell h.row hk rfl (i := 5) (by omega)⟩
theorem fund_cell' {b o n c k : Nat} {l : List Al} {x : Al} (h : Allocs w (some ⟨b, o, none⟩) n c l) (hk : l[k]? = some x) : w.cell? ⟨b, o + k * 6, none⟩ = some (.int .i64 x.fund) := by
  obtain ⟨h1, h2⟩ := List.getElem?_eq_some_iff.1 hk
  rw [(alloc_cells6 h h1).1, h2]

/-! ### Arguments -/

def RAl (cs : List Value) (x : Al) : Prop := cs = encL x ∧ x.ok
theorem cells_alloc : Try.prog.cellsOf 53 = 6 := by kernel_rfl
theorem opens_alloc : Opn.Opens Try.prog w 53 RAl := by
  refine Opn.opens_struct Try.underlying53 fun cs hlen hf => ?_
  rw [cells_alloc] at hlen
  match cs, hlen with
  | [c0, c1, c2, c3, c4, c5], _ =>
    obtain ⟨k0, h0, w0⟩ := hf 0 _ rfl _ _ (Opn.opens_int Try.underlying3)
    obtain ⟨k1, h1, w1⟩ := hf 1 _ rfl _ _ (Opn.opens_int Try.underlying3)
    obtain ⟨k2, h2, w2⟩ := hf 2 _ rfl _ _ (Opn.opens_int Try.underlying3)
    obtain ⟨k3, h3, w3⟩ := hf 3 _ rfl _ _ (Opn.opens_int Try.underlying3)
    obtain ⟨k4, h4, w4⟩ := hf 4 _ rfl _ _ (Opn.opens_int Try.underlying3)
    obtain ⟨k5, h5, w5⟩ := hf 5 _ rfl _ _ (Opn.opens_int Try.underlying3)
    simp [cells_int] at h0 h1 h2 h3 h4 h5
    subst h0 h1 h2 h3 h4 h5
    exact ⟨⟨k0, k1, k2, k3, k4, k5⟩, rfl, i64_wf w0, i64_wf w1, i64_wf w2, i64_wf w3, i64_wf w4, i64_wf w5⟩
theorem opens_allocs : Opn.Opens Try.prog w 23 (Opn.RSlice RAl 6 w) := Opn.opens_slice Try.underlying23 cells_alloc (by omega) opens_alloc
theorem allocs_arg {a : Option Addr} {len cap : Nat} {l : List Al} (h : Opn.RSlice RAl 6 w [.slice a len cap] l) : Allocs w a len cap l ∧ ∀ x ∈ l, x.ok := by
  obtain ⟨a', len', cap', he, hl, hc, hm, hn, hcs⟩ := h
  simp at he
  obtain ⟨rfl, rfl, rfl⟩ := he
  exact ⟨⟨hl, hc, hm, hn, Kit.row_of_cells (fun _ _ h => h.1) hcs⟩, Kit.all_of_cells (fun _ _ h => h.2) hcs⟩

/-! ### Lists of the call's own -/

theorem encL_one (x : Al) : ∀ u ∈ encL x, u.oneCell' = true := by
  intro u hu
  simp [encL] at hu
  rcases hu with rfl | rfl | rfl | rfl | rfl | rfl <;> rfl
theorem info_al : (Try.prog.info? 53).map (fun i => (i.zero, i.size, i.bytes)) = some (some (.agg #[.int .i64 0, .int .i64 0, .int .i64 0, .int .i64 0, .int .i64 0, .int .i64 0]), 6, 48) := by kernel_rfl
end Go.Proofs.Ytghglgodkknlnaa.Tre
/- Money: what each function of package money answers, call by call. -/
namespace Go.Proofs.Ytghglgodkknlnaa.Mon
open Go.RowKit

theorem ret_int {k : IntKind} {a b : Int} (h : a = b) : Ending.returned (.int k a) = .returned (.int k b) := by rw [h]
theorem ret_two {a b c d : Int} (h : a = c) (g : b = d) : Ending.returned (.tuple #[.int .i64 a, .int .i64 b]) = .returned (.tuple #[.int .i64 c, .int .i64 d]) := by rw [h, g]

theorem fits_yes (n : Int) (w : World) (h : fitsB n = true) : Calls Try.prog 49 #[.int .i64 n] w fun e w' => e = .returned (.bool true) ∧ w = w' := by
  obtain ⟨h1, h2⟩ := fitsB_iff.1 h
  clear h
  go_enter Try.func49, Try.ntmps49
  go_wp2
  go_ret
  exact ⟨rfl, rfl⟩

theorem fits_no (n : Int) (w : World) (h : fitsB n = false) : Calls Try.prog 49 #[.int .i64 n] w fun e w' => e = .returned (.bool false) ∧ w = w' := by
  have h1 := fitsB_no.1 h
  clear h
  by_cases h2 : -1152921504606846976 ≤ n
  · have h3 : decide (n ≤ 1152921504606846976) = false := by simp; omega
    clear h1
    go_enter Try.func49, Try.ntmps49
    go_wp2
    go_ret
    exact ⟨rfl, rfl⟩
  · have h3 : decide (-1152921504606846976 ≤ n) = false := by simp; omega
    clear h1
    go_enter Try.func49, Try.ntmps49
    go_wp2
    go_ret
    exact ⟨rfl, rfl⟩

/-- The numbers of a slice can be read. -/
def Elems (w : World) (a : Option Addr) (l : List Int) : Prop :=
  l = [] ∨ ∃ b off, a = some ⟨b, off, none⟩ ∧ ∀ j, j < l.length → w.cell? ⟨b, off + j, none⟩ = some (.int .i64 (l.getD j 0))

set_option maxHeartbeats 400000 in
theorem add_any (a : Option Addr) (len cap : Nat) (l : List Int) (w : World) (hl : l.length = len) (hm : len ≤ maxLen) (hE : Elems w a l) :
    Calls Try.prog 32 #[.slice a len cap] w fun e w' => e = .returned (.tuple #[.int .i64 (addN l), .int .i64 (addE l)]) ∧ w = w' := by
  unfold maxLen at hm
  have h00 : fitsB 0 = true := by decide
  have hr0 : Rest (fun a b => a + b) (addF l) l 0 0 := rfl
  have HL := Lib.hid hl
  have HE := Lib.hid hE
  have H00 := Lib.hid h00
  clear hl hE h00
  go_enter Try.func32, Try.ntmps32
  go_wp2
  go_loop [4, 9] (fun t i => ∃ k : Nat, ∃ s : Int, k ≤ len ∧ i = .int .i64 k ∧ t = .int .i64 s ∧ Hid (fitsB s = true) ∧ Rest (fun a b => a + b) (addF l) l s k) (fun _ i => len - (intOf i).toNat)
  case atStart => exact ⟨0, 0, Nat.zero_le _, rfl, rfl, H00, hr0⟩
  case round =>
    obtain ⟨k, s, hk, rfl, rfl, hs, hr⟩ := hrel
    by_cases hlt : k < len
    · have hkl : k < l.length := by rw [HL.out]; exact hlt
      obtain ⟨b, off, HA, hc⟩ : ∃ b off, Hid (a = some ⟨b, off, none⟩) ∧ w.cell? ⟨b, off + k, none⟩ = some (.int .i64 (l.getD k 0)) := by
        rcases HE.out with h | ⟨b, off, h, hj⟩
        · rw [h] at hkl; simp at hkl
        · exact ⟨b, off, h, hj k hkl⟩
      have ha := HA.out
      subst ha
      generalize hx : l.getD k 0 = x at *
      have HX := Lib.hid hx
      clear hx
      cases h1 : fitsB x with
      | false =>
        have H1 := Lib.hid h1
        clear h1
        have Hn := Lib.hid (rest_no1 hr hkl (by rw [HX.out]; exact H1.out))
        go_wp2_with (go_at_call 49; refine (fits_no _ _ H1.out).mono ?_; rintro e w' ⟨rfl, rfl⟩)
        go_ret2
        exact ⟨ret_two (none_N Hn.out).symm (none_E Hn.out).symm, rfl⟩
      | true =>
        have hx2 := fitsB_iff.1 h1
        have hs2 := fitsB_iff.1 hs.out
        obtain ⟨hx3, hx4⟩ := hx2
        obtain ⟨hs3, hs4⟩ := hs2
        have H1 := Lib.hid h1
        clear h1
        cases h2 : fitsB (s + x) with
        | false =>
          have H2 := Lib.hid h2
          clear h2
          have Hn := Lib.hid (rest_no2 hr hkl (by rw [HX.out]; exact H2.out))
          go_wp2_with fail
          refine (fits_yes _ _ H1.out).mono ?_
          rintro e w' ⟨rfl, rfl⟩
          go_wp2_with fail
          refine (fits_no _ _ H2.out).mono ?_
          rintro e w' ⟨rfl, rfl⟩
          go_wp2_with fail
          go_ret2
          exact ⟨ret_two (none_N Hn.out).symm (none_E Hn.out).symm, rfl⟩
        | true =>
          have H2 := Lib.hid h2
          clear h2
          have hn : Rest (fun a b => a + b) (addF l) l (s + x) (k + 1) := by
            have := rest_step hr hkl (by rw [HX.out]; exact H1.out) (by rw [HX.out]; exact H2.out)
            rw [HX.out] at this; exact this
          go_wp2_with fail
          refine (fits_yes _ _ H1.out).mono ?_
          rintro e w' ⟨rfl, rfl⟩
          go_wp2_with fail
          refine (fits_yes _ _ H2.out).mono ?_
          rintro e w' ⟨rfl, rfl⟩
          go_wp2_with fail
          go_round
          case rel => exact ⟨k + 1, s + x, by omega, by go_num, rfl, H2, hn⟩
          case measure => simp [intOf]; omega
    · have Hn := Lib.hid (rest_end hr (by rw [HL.out]; omega))
      go_wp2
      go_ret2
      exact ⟨ret_two (some_N Hn.out).symm (some_E Hn.out).symm, rfl⟩

end Go.Proofs.Ytghglgodkknlnaa.Mon
/- Allocations and lists of numbers in memory: read, cut, made, written; an argument's list opened. -/
namespace Go.Proofs.Ytghglgodkknlnaa.Tre
set_option maxRecDepth 100000
open Go.RowKit
open Go.Sort
open Kit
open Mon
set_option linter.unusedVariables false

variable {w w' : World}
theorem ints_elems {a : Option Addr} {n c : Nat} {l : List Int} (h : IntsL w a n c l) : Elems w a l := by
  rcases h.row with e | ⟨b, o, e, h2⟩
  · exact .inl e
  · subst e
    refine .inr ⟨b, o, rfl, fun j hj => ?_⟩
    rw [int_cell h hj]
    simp [List.getD, hj]
theorem flat_set : ∀ (l : List Al) (k : Nat) (a : Al) (s : Int), l[k]? = some a → (flat encL l).set (k * 6 + 5) (.int .i64 s) = flat encL (l.set k { a with spent := s })
  | [], k, a, s, h => by simp at h
  | x :: l, 0, a, s, h => by
    simp at h
    subst h
    rfl
  | x :: l, k + 1, a, s, h => by
    rw [List.getElem?_cons_succ] at h
    have ih := flat_set l k a s h
    have e : flat encL (x :: l) = encL x ++ flat encL l := rfl
    have e2 : flat encL ((x :: l).set (k + 1) { a with spent := s }) = encL x ++ flat encL (l.set k { a with spent := s }) := rfl
    rw [e, e2, ← ih, List.set_append, if_neg (by rw [encL_len]; omega), encL_len]
    congr 2
    omega
theorem owns_spend {base : Nat} {v : Value} {l : List Al} (h : Owns encL 6 53 w base v l) {k : Nat} {a : Al} (ha : l[k]? = some a) (s : Int) :
    ∃ g cap, v = .slice (some ⟨g, 0, none⟩) l.length cap ∧ base ≤ g ∧ l.length ≤ cap ∧ w.cell? ⟨g, k * 6 + 5, none⟩ = some (.int .i64 a.spent) ∧ w.frozen? ⟨g, k * 6 + 5, none⟩ = false ∧ Owns encL 6 53 (w.setCell ⟨g, k * 6 + 5, none⟩ (.int .i64 s)) base v (l.set k { a with spent := s }) := by
  have hk := (List.getElem?_eq_some_iff.1 ha).1
  have he := (List.getElem?_eq_some_iff.1 ha).2
  have hf := flat_length encL_len l
  unfold Owns at h ⊢
  have hh := h
  rcases h.2 with ⟨_, h0⟩ | ⟨g, cap, cur, rfl, hg, _, hn, _⟩
  · omega
  · refine ⟨g, cap, rfl, hg, hn, ?_, ?_, ?_⟩
    · rw [hh.cellAt _ (by omega), flat_at encL_len l k hk 5 (by omega), he]; rfl
    · exact hh.frozenAt _
    · have := (hh.stored (k * 6 + 5) (.int .i64 s)).1
      rw [flat_set l k a s ha] at this
      rw [List.length_set]
      exact this
theorem own_slice {base : Nat} {v : Value} {l : List Al} {m : Nat} (h : Owns encL 6 53 w base v l) (hm : l.length = m) (h1 : 1 ≤ m) : ∃ g c, v = .slice (some ⟨g, 0, none⟩) m c ∧ Allocs w (some ⟨g, 0, none⟩) m c l := by
  subst hm
  obtain ⟨a, c, hv, hc, hcm, hn, hrow⟩ := owns_row encL_len h
  rcases h.2 with ⟨_, h0⟩ | ⟨g, cap, cur, hv2, _⟩
  · omega
  · rw [hv] at hv2
    injection hv2 with e1 e2 e3
    subst e1
    exact ⟨g, c, hv, rfl, hc, hcm, (fun e => by cases e), hrow⟩
theorem own_empty_al (w : World) (base : Nat) (hb : base ≤ w.heap.size) : Owns encL 6 53 (w.alloc (.cells #[] 53)) base (.slice (some ⟨w.heap.size, 0, none⟩) 0 0) [] :=
  ⟨rfl, .inr ⟨w.heap.size, 0, _, rfl, hb, heap_alloc_new w _, Nat.le_refl _, by unfold maxLen; omega, rfl, rfl⟩⟩

/-! ### Single operations -/

theorem run_ia2 {b o n c k : Nat} (h : k < n) (w : World) : (Instr.indexAt 23 (.slice (some ⟨b, o, none⟩) n c) (.int .i64 k)).run Try.prog w = .ok (.pointer (some ⟨b, o + k * 6, none⟩)) w := by
  simp [go_sem, h]
end Go.Proofs.Ytghglgodkknlnaa.Tre
/- Funds in memory; an argument's list opened. -/
namespace Go.Proofs.Ytghglgodkknlnaa.Tre
set_option maxRecDepth 100000
open Go.RowKit
open Go.Sort
open Kit
set_option linter.unusedVariables false

structure Fd where
  name : ByteArray
  par : Int
  lim : Int
def encF (x : Fd) : List Value := [.string x.name, .int .i64 x.par, .int .i64 x.lim]
theorem encF_len (x : Fd) : (encF x).length = 3 := rfl
def Fd.ok (x : Fd) : Prop := x.name.size ≤ maxLen ∧ inI x.par ∧ inI x.lim
variable {w w' : World}
abbrev Funds := Lst encF 3
theorem fund_cells {b o n c k : Nat} {l : List Fd} (h : Funds w (some ⟨b, o, none⟩) n c l) (hk : k < l.length) :
    w.cell? ⟨b, o + k * 3, none⟩ = some (.string l[k].name) ∧ w.cell? ⟨b, o + k * 3 + 1, none⟩ = some (.int .i64 l[k].par) ∧ w.cell? ⟨b, o + k * 3 + 2, none⟩ = some (.int .i64 l[k].lim) :=
  ⟨row_cell h.row hk rfl (i := 0) (by omega), row_cell h.row hk rfl (i := 1) (by omega), row_cell h.row hk rfl (i := 2) (by omega)⟩

/-! ### Arguments -/

def RFd (cs : List Value) (x : Fd) : Prop := cs = encF x ∧ x.ok
theorem cells_fund : Try.prog.cellsOf 64 = 3 := by kernel_rfl
theorem cells_str : Try.prog.cellsOf 9 = 1 := by kernel_rfl
theorem opens_fund : Opn.Opens Try.prog w 64 RFd := by
  refine Opn.opens_struct Try.underlying64 fun cs hlen hf => ?_
  rw [cells_fund] at hlen
  match cs, hlen with
  | [c0, c1, c2], _ =>
    obtain ⟨d, h0, w0⟩ := hf 0 _ rfl _ _ (Opn.opens_str Try.underlying9)
    obtain ⟨k, h1, w1⟩ := hf 1 _ rfl _ _ (Opn.opens_int Try.underlying3)
    obtain ⟨t, h2, w2⟩ := hf 2 _ rfl _ _ (Opn.opens_int Try.underlying3)
    simp [cells_int, cells_str] at h0 h1 h2
    subst h0 h1 h2
    exact ⟨⟨d, k, t⟩, rfl, w0, i64_wf w1, i64_wf w2⟩
theorem opens_funds : Opn.Opens Try.prog w 22 (Opn.RSlice RFd 3 w) := Opn.opens_slice Try.underlying22 cells_fund (by omega) opens_fund
theorem funds_arg {a : Option Addr} {len cap : Nat} {l : List Fd} (h : Opn.RSlice RFd 3 w [.slice a len cap] l) : Funds w a len cap l ∧ ∀ x ∈ l, x.ok := by
  obtain ⟨a', len', cap', he, hl, hc, hm, hn, hcs⟩ := h
  simp at he
  obtain ⟨rfl, rfl, rfl⟩ := he
  exact ⟨⟨hl, hc, hm, hn, Kit.row_of_cells (fun _ _ h => h.1) hcs⟩, Kit.all_of_cells (fun _ _ h => h.2) hcs⟩
end Go.Proofs.Ytghglgodkknlnaa.Tre
/- Tree: funds and allocations as plain data: paths, which funds may be, what is used, which limit does not hold. -/
namespace Go.Proofs.Ytghglgodkknlnaa.Tre
open Mon
set_option linter.unusedVariables false


/-! ### Paths -/

def up (l : List Fd) : Nat → Nat → List Nat
  | 0, _ => []
  | n + 1, f => match l[f]? with
    | none => []
    | some x => f :: (if 0 ≤ x.par ∧ x.par < (f : Int) then up l n x.par.toNat else [])
/-- A fund, its parent, and so on. -/
def pathN (l : List Fd) (f : Nat) : List Nat := up l (f + 1) f
def path (l : List Fd) (f : Int) : List Int := if 0 ≤ f then (pathN l f.toNat).map (fun (k : Nat) => (k : Int)) else []
theorem up_fuel (l : List Fd) : ∀ (n f : Nat), f < n → up l n f = pathN l f := by
  intro n
  induction n using Nat.strongRecOn with
  | _ n ih =>
    intro f hf
    obtain ⟨m, rfl⟩ : ∃ m, n = m + 1 := ⟨n - 1, by omega⟩
    unfold pathN
    simp only [up]
    cases hx : l[f]? with
    | none => rfl
    | some x =>
      simp only
      by_cases hp : 0 ≤ x.par ∧ x.par < (f : Int)
      · rw [if_pos hp, if_pos hp]
        have h1 : x.par.toNat < f := by omega
        congr 1
        rcases Nat.lt_or_ge f m with h | h
        · rw [ih m (by omega) _ (by omega), ih f (by omega) _ h1]
        · obtain rfl : m = f := by omega
          rfl
      · rw [if_neg hp, if_neg hp]
theorem pathN_none {l : List Fd} {f : Nat} (h : l.length ≤ f) : pathN l f = [] := by
  unfold pathN; simp only [up]; rw [List.getElem?_eq_none h]
theorem pathN_some {l : List Fd} {f : Nat} {x : Fd} (h : l[f]? = some x) : pathN l f = f :: (if 0 ≤ x.par ∧ x.par < (f : Int) then pathN l x.par.toNat else []) := by
  conv => lhs; unfold pathN
  simp only [up, h]
  by_cases hp : 0 ≤ x.par ∧ x.par < (f : Int)
  · rw [if_pos hp, if_pos hp, up_fuel l f _ (by omega)]
  · rw [if_neg hp, if_neg hp]
theorem path_neg {l : List Fd} {f : Int} (h : f < 0) : path l f = [] := by unfold path; rw [if_neg (by omega)]
theorem path_nat (l : List Fd) (f : Nat) : path l (f : Int) = (pathN l f).map (fun (k : Nat) => (k : Int)) := by unfold path; rw [if_pos (by omega), Int.toNat_natCast]
theorem path_far {l : List Fd} {f : Int} (h : f < 0 ∨ (l.length : Int) ≤ f) : path l f = [] := by
  rcases h with h | h
  · exact path_neg h
  · obtain ⟨n, rfl⟩ : ∃ n : Nat, f = n := ⟨f.toNat, by omega⟩
    rw [path_nat, pathN_none (by omega)]; rfl
theorem path_at {l : List Fd} {f : Nat} {x : Fd} (h : l[f]? = some x) : path l (f : Int) = (f : Int) :: (if x.par < (f : Int) then path l x.par else []) := by
  rw [path_nat, pathN_some h, List.map_cons]
  congr 1
  by_cases h1 : x.par < (f : Int)
  · rw [if_pos h1]
    by_cases h0 : 0 ≤ x.par
    · rw [if_pos ⟨h0, h1⟩]
      unfold path
      rw [if_pos h0]
    · rw [if_neg (fun h => h0 h.1), path_neg (by omega)]; rfl
  · rw [if_neg h1, if_neg (fun h => h1 h.2)]; rfl
/-- Whatever stands in a path has the rest as its own. -/
theorem pathN_drop (l : List Fd) : ∀ (f i k : Nat), (pathN l f)[i]? = some k → (pathN l f).drop i = pathN l k := by
  intro f
  induction f using Nat.strongRecOn with
  | _ f ih =>
    intro i k h
    cases hx : l[f]? with
    | none => rw [pathN_none (List.getElem?_eq_none_iff.1 hx)] at h; simp at h
    | some x =>
      have e := pathN_some hx
      cases i with
      | zero =>
        rw [e] at h
        simp at h
        subst h
        rw [List.drop_zero]
      | succ i =>
        rw [e, List.getElem?_cons_succ] at h
        rw [e, List.drop_succ_cons]
        by_cases hp : 0 ≤ x.par ∧ x.par < (f : Int)
        · rw [if_pos hp] at h ⊢
          exact ih _ (by omega) i k h
        · rw [if_neg hp] at h; simp at h
theorem pathN_lt (l : List Fd) : ∀ (f k : Nat), k ∈ pathN l f → k ≤ f ∧ k < l.length := by
  intro f
  induction f using Nat.strongRecOn with
  | _ f ih =>
    intro k h
    cases hx : l[f]? with
    | none => rw [pathN_none (List.getElem?_eq_none_iff.1 hx)] at h; cases h
    | some x =>
      rw [pathN_some hx] at h
      rcases List.mem_cons.1 h with rfl | h
      · exact ⟨Nat.le_refl _, (List.getElem?_eq_some_iff.1 hx).1⟩
      · by_cases hp : 0 ≤ x.par ∧ x.par < (f : Int)
        · rw [if_pos hp] at h
          obtain ⟨h1, h2⟩ := ih _ (by omega) k h
          exact ⟨by omega, h2⟩
        · rw [if_neg hp] at h; cases h
theorem pathN_length (l : List Fd) (f : Nat) : (pathN l f).length ≤ f + 1 := by
  induction f using Nat.strongRecOn with
  | _ f ih =>
    cases hx : l[f]? with
    | none => rw [pathN_none (List.getElem?_eq_none_iff.1 hx)]; exact Nat.zero_le _
    | some x =>
      rw [pathN_some hx, List.length_cons]
      by_cases hp : 0 ≤ x.par ∧ x.par < (f : Int)
      · rw [if_pos hp]
        have := ih x.par.toNat (by omega)
        omega
      · rw [if_neg hp]; simp
/-- Two that follow one another. -/
theorem pathN_next {l : List Fd} {f i k m : Nat} (h : (pathN l f)[i]? = some k) (h2 : (pathN l f)[i + 1]? = some m) : ∃ x, l[k]? = some x ∧ x.par = (m : Int) ∧ m < k := by
  have hd := pathN_drop l f i k h
  have h3 : (pathN l k)[1]? = some m := by rw [← hd, List.getElem?_drop]; exact h2
  cases hx : l[k]? with
  | none => rw [pathN_none (List.getElem?_eq_none_iff.1 hx)] at h3; simp at h3
  | some x =>
    refine ⟨x, rfl, ?_⟩
    rw [pathN_some hx, List.getElem?_cons_succ] at h3
    by_cases hp : 0 ≤ x.par ∧ x.par < (k : Int)
    · rw [if_pos hp] at h3
      cases hy : l[x.par.toNat]? with
      | none => rw [pathN_none (List.getElem?_eq_none_iff.1 hy)] at h3; simp at h3
      | some y =>
        rw [pathN_some hy, List.getElem?_cons_zero] at h3
        injection h3 with h3
        exact ⟨by omega, by omega⟩
    · rw [if_neg hp] at h3; simp at h3

/-! ### Which funds may be -/

def okAt (l : List Fd) (i : Nat) (x : Fd) : Bool :=
  decide (1 ≤ x.name.size) && decide (x.name.size ≤ 16) && decide (-1 ≤ x.par) && decide (x.par < (i : Int)) && decide (0 ≤ x.lim) && decide (x.lim ≤ 1152921504606846976) && (l.take i).all fun y => decide (y.name ≠ x.name)
def okTo (l : List Fd) (n : Nat) : Bool := (List.range n).all fun i => match l[i]? with | some x => okAt l i x | none => true
def goodB (l : List Fd) : Bool := decide (l.length ≤ 8) && okTo l l.length
theorem okTo_succ (l : List Fd) {n : Nat} {x : Fd} (h : l[n]? = some x) : okTo l (n + 1) = (okTo l n && okAt l n x) := by
  unfold okTo
  rw [List.range_succ, List.all_append]
  simp [h]
theorem okTo_at {l : List Fd} {n i : Nat} {x : Fd} (h : okTo l n = true) (hi : i < n) (hx : l[i]? = some x) : okAt l i x = true := by
  have := List.all_eq_true.1 h i (List.mem_range.2 hi)
  rw [hx] at this
  exact this
theorem good_at {l : List Fd} {i : Nat} {x : Fd} (h : goodB l = true) (hx : l[i]? = some x) : -1 ≤ x.par ∧ x.par < (i : Int) ∧ 0 ≤ x.lim ∧ x.lim ≤ 1152921504606846976 := by
  unfold goodB at h
  rw [Bool.and_eq_true] at h
  have := okTo_at h.2 (List.getElem?_eq_some_iff.1 hx).1 hx
  unfold okAt at this
  simp only [Bool.and_eq_true, decide_eq_true_eq] at this
  omega
/-- Of funds that may be a path ends at one that has none above it. -/
theorem good_last {l : List Fd} (hg : goodB l = true) : ∀ {f : Nat} {x : Fd}, l[f]? = some x → ∃ k y, (pathN l f).getLast? = some k ∧ l[k]? = some y ∧ y.par = -1 := by
  intro f
  induction f using Nat.strongRecOn with
  | _ f ih =>
    intro x hx
    obtain ⟨h1, h2, _⟩ := good_at hg hx
    rw [pathN_some hx]
    by_cases hp : 0 ≤ x.par ∧ x.par < (f : Int)
    · rw [if_pos hp]
      have hlt : x.par.toNat < f := by omega
      have hlen := (List.getElem?_eq_some_iff.1 hx).1
      obtain ⟨k, y, e1, e2, e3⟩ := ih _ hlt (List.getElem?_eq_getElem (show x.par.toNat < l.length by omega))
      refine ⟨k, y, ?_, e2, e3⟩
      rw [List.getLast?_cons, e1]; rfl
    · rw [if_neg hp]
      exact ⟨f, x, rfl, hx, by omega⟩

/-! ### What is used -/

def amounts (l : List Fd) (al : List Al) (f : Int) : List Int := al.flatMap fun a => if (path l a.fund).contains f then [a.lien, a.spent] else []
def useN (l : List Fd) (al : List Al) (f : Int) : Int := if 0 ≤ f ∧ f < l.length then addN (amounts l al f) else 0
def useE (l : List Fd) (al : List Al) (f : Int) : Int := if 0 ≤ f ∧ f < l.length then addE (amounts l al f) else 4
def overAt (l : List Fd) (al : List Al) (i : Nat) (x : Fd) : Bool := decide (0 < x.lim) && (decide (useE l al i ≠ 0) || decide (x.lim < useN l al i))
/-- The first fund from place i on whose limit does not hold. -/
def overFrom (l : List Fd) (al : List Al) : Nat → Nat → Int
  | 0, _ => -1
  | n + 1, i => match l[i]? with
    | some x => if overAt l al i x then (i : Int) else overFrom l al n (i + 1)
    | none => -1
def over (l : List Fd) (al : List Al) : Int := overFrom l al l.length 0
theorem amounts_snoc {l : List Fd} {al : List Al} {f : Int} {k : Nat} {a : Al} (h : al[k]? = some a) : amounts l (al.take (k + 1)) f = amounts l (al.take k) f ++ (if (path l a.fund).contains f then [a.lien, a.spent] else []) := by
  have hk := (List.getElem?_eq_some_iff.1 h).1
  have he : al[k] = a := (List.getElem?_eq_some_iff.1 h).2
  unfold amounts
  rw [List.take_succ_eq_append_getElem hk, List.flatMap_append, he]
  simp
theorem foldF_small : ∀ (l : List Int) (s : Int), (∀ x ∈ l, 0 ≤ x) → 0 ≤ s → s + l.sum ≤ 1152921504606846976 → foldF (fun a b => a + b) s l = some (s + l.sum)
  | [], s, _, _, _ => by simp [foldF]
  | x :: l, s, h, hs, hm => by
    have hx := h x (by simp)
    have hl : 0 ≤ l.sum := by
      clear hm
      induction l with
      | nil => simp
      | cons y l ih =>
        rw [List.sum_cons]
        have := h y (by simp)
        have := ih fun z hz => h z (by rcases List.mem_cons.1 hz with rfl | hz <;> simp [*])
        omega
    rw [List.sum_cons] at hm ⊢
    have h1 : fitsB x = true := by rw [fitsB_iff]; omega
    have h2 : fitsB (s + x) = true := by rw [fitsB_iff]; omega
    simp only [foldF, h1, h2]
    simp
    rw [foldF_small l (s + x) (fun z hz => h z (by simp [hz])) (by omega) (by omega)]
    congr 1
    omega
theorem add_small {l : List Int} (h : ∀ x ∈ l, 0 ≤ x) (hm : l.sum ≤ 1152921504606846976) : addN l = l.sum ∧ addE l = 0 := by
  have := foldF_small l 0 h (Int.le_refl _) (by omega)
  rw [Int.zero_add] at this
  exact ⟨some_N this, some_E this⟩
end Go.Proofs.Ytghglgodkknlnaa.Tre
/- Legs in memory; an argument's list opened. -/
namespace Go.Proofs.Ytghglgodkknlnaa.Led
set_option maxRecDepth 100000
open Go.RowKit
open Go.Sort
open Kit
open Tre
set_option linter.unusedVariables false

variable {w w' : World}

structure Lg where
  acct : Int
  amt : Int
def encG (g : Lg) : List Value := [.int .i64 g.acct, .int .i64 g.amt]
theorem encG_len (g : Lg) : (encG g).length = 2 := rfl
theorem encG_one (x : Lg) : ∀ u ∈ encG x, u.oneCell' = true := by
  intro u hu
  simp [encG] at hu
  rcases hu with rfl | rfl <;> rfl
def Lg.ok (g : Lg) : Prop := inI g.acct ∧ inI g.amt
abbrev Legs := Lst encG 2
theorem leg_cells {b o n c k : Nat} {l : List Lg} (h : Legs w (some ⟨b, o, none⟩) n c l) (hk : k < l.length) :
    w.cell? ⟨b, o + k * 2, none⟩ = some (.int .i64 l[k].acct) ∧ w.cell? ⟨b, o + k * 2 + 1, none⟩ = some (.int .i64 l[k].amt) :=
  ⟨row_cell h.row hk rfl (i := 0) (by omega), row_cell h.row hk rfl (i := 1) (by omega)⟩
def RLg (cs : List Value) (x : Lg) : Prop := cs = encG x ∧ x.ok
theorem cells_leg : Try.prog.cellsOf 68 = 2 := by kernel_rfl
theorem opens_leg : Opn.Opens Try.prog w 68 RLg := by
  refine Opn.opens_struct Try.underlying68 fun cs hlen hf => ?_
  rw [cells_leg] at hlen
  match cs, hlen with
  | [c0, c1], _ =>
    obtain ⟨k0, h0, w0⟩ := hf 0 _ rfl _ _ (Opn.opens_int Try.underlying3)
    obtain ⟨k1, h1, w1⟩ := hf 1 _ rfl _ _ (Opn.opens_int Try.underlying3)
    simp [cells_int] at h0 h1
    subst h0 h1
    exact ⟨⟨k0, k1⟩, rfl, i64_wf w0, i64_wf w1⟩
theorem opens_legs : Opn.Opens Try.prog w 46 (Opn.RSlice RLg 2 w) := Opn.opens_slice Try.underlying46 cells_leg (by omega) opens_leg
theorem legs_arg {a : Option Addr} {len cap : Nat} {l : List Lg} (h : Opn.RSlice RLg 2 w [.slice a len cap] l) : Legs w a len cap l ∧ ∀ x ∈ l, x.ok := by
  obtain ⟨a', len', cap', he, hl, hc, hm, hn, hcs⟩ := h
  simp at he
  obtain ⟨rfl, rfl, rfl⟩ := he
  exact ⟨⟨hl, hc, hm, hn, Kit.row_of_cells (fun _ _ h => h.1) hcs⟩, Kit.all_of_cells (fun _ _ h => h.2) hcs⟩
theorem info_leg : (Try.prog.info? 68).map (fun i => (i.zero, i.size, i.bytes)) = some (some (.agg #[.int .i64 0, .int .i64 0]), 2, 16) := by kernel_rfl
end Go.Proofs.Ytghglgodkknlnaa.Led
/- Ledger: accounts and legs as plain data: what is posted, and why not; that it comes to nothing; that it goes back. -/
namespace Go.Proofs.Ytghglgodkknlnaa.Led
open Mon
open Tre (Al)
set_option linter.unusedVariables false

def three (a : Al) : List Int := [a.avail, a.lien, a.spent]
/-- All amounts, by their accounts' numbers. -/
def flatN (w : Int) (al : List Al) : List Int := w :: al.flatMap three
theorem flat_len (w : Int) : ∀ al : List Al, (flatN w al).length = 1 + 3 * al.length
  | [] => rfl
  | a :: al => by
    have ih := flat_len w al
    unfold flatN at ih ⊢
    simp only [List.length_cons, List.flatMap_cons, List.length_append, three, List.length_nil] at ih ⊢
    omega
theorem flat_snoc (w : Int) (al : List Al) (a : Al) : flatN w (al ++ [a]) = flatN w al ++ [a.avail] ++ [a.lien] ++ [a.spent] := by
  unfold flatN
  rw [List.flatMap_append]
  simp [three]
theorem flat_at0 (w : Int) (al : List Al) : (flatN w al)[0]? = some w := rfl
theorem flat_at : ∀ (al : List Al) (i : Nat) (a : Al) (w : Int), al[i]? = some a → (flatN w al)[1 + 3 * i]? = some a.avail ∧ (flatN w al)[2 + 3 * i]? = some a.lien ∧ (flatN w al)[3 + 3 * i]? = some a.spent
  | [], i, a, w, h => by simp at h
  | x :: al, 0, a, w, h => by
    simp at h; subst h
    exact ⟨rfl, rfl, rfl⟩
  | x :: al, i + 1, a, w, h => by
    rw [List.getElem?_cons_succ] at h
    obtain ⟨h1, h2, h3⟩ := flat_at al i a x.spent h
    have e : flatN w (x :: al) = w :: x.avail :: x.lien :: flatN x.spent al := rfl
    rw [e]
    refine ⟨?_, ?_, ?_⟩
    · rw [show 1 + 3 * (i + 1) = (1 + 3 * i) + 1 + 1 + 1 by omega]; simpa using h1
    · rw [show 2 + 3 * (i + 1) = (2 + 3 * i) + 1 + 1 + 1 by omega]; simpa using h2
    · rw [show 3 + 3 * (i + 1) = (3 + 3 * i) + 1 + 1 + 1 by omega]; simpa using h3

/-! ### Sums -/

theorem fold_iff : ∀ (l : List Int) (s t : Int), foldF (fun a b => a + b) s l = some t ↔ (∀ x ∈ l, fitsB x = true) ∧ (∀ k, k < l.length → fitsB (s + (l.take (k + 1)).sum) = true) ∧ t = s + l.sum
  | [], s, t => by
    simp [foldF]
    exact eq_comm
  | x :: l, s, t => by
    rw [foldF]
    constructor
    · intro h
      split at h
      · rename_i hc
        obtain ⟨h1, h2, h3⟩ := (fold_iff l (s + x) t).1 h
        refine ⟨fun y hy => ?_, fun k hk => ?_, ?_⟩
        · rcases List.mem_cons.1 hy with rfl | hy
          · exact hc.1
          · exact h1 y hy
        · cases k with
          | zero => simpa using hc.2
          | succ k =>
            have := h2 k (by simpa using hk)
            rw [List.take_succ_cons, List.sum_cons, ← Int.add_assoc]; exact this
        · rw [h3, List.sum_cons, Int.add_assoc]
      · cases h
    · rintro ⟨h1, h2, h3⟩
      have hc : fitsB x = true ∧ fitsB (s + x) = true := ⟨h1 x (by simp), by simpa using h2 0 (by simp)⟩
      rw [if_pos hc]
      refine (fold_iff l (s + x) t).2 ⟨fun y hy => h1 y (by simp [hy]), fun k hk => ?_, ?_⟩
      · have := h2 (k + 1) (by simpa using hk)
        rw [List.take_succ_cons, List.sum_cons, ← Int.add_assoc] at this
        exact this
      · rw [h3, List.sum_cons, Int.add_assoc]
theorem addE_iff {l : List Int} : addE l = 0 ↔ (∀ x ∈ l, fitsB x = true) ∧ ∀ k, k < l.length → fitsB (l.take (k + 1)).sum = true := by
  unfold addE addF
  have hi := fold_iff l 0
  cases h : foldF (fun a b => a + b) 0 l with
  | none =>
    constructor
    · intro h; cases h
    · rintro ⟨h1, h2⟩
      have := (hi (0 + l.sum)).2 ⟨h1, fun k hk => by rw [Int.zero_add]; exact h2 k hk, rfl⟩
      rw [h] at this; cases this
  | some t =>
    obtain ⟨h1, h2, _⟩ := (hi t).1 h
    exact ⟨fun _ => ⟨h1, fun k hk => by have := h2 k hk; rwa [Int.zero_add] at this⟩, fun _ => rfl⟩
theorem addN_sum {l : List Int} (h : addE l = 0) : addN l = l.sum := by
  unfold addE at h
  unfold addN
  unfold addF at h ⊢
  cases hf : foldF (fun a b => a + b) 0 l with
  | none => rw [hf] at h; cases h
  | some t =>
    obtain ⟨_, _, h3⟩ := (fold_iff l 0 t).1 hf
    rw [Int.zero_add] at h3
    exact h3
theorem addE_two (l : List Int) : addE l = 0 ∨ addE l = 2 := by
  unfold addE outE
  split
  · exact .inl rfl
  · exact .inr rfl
theorem addN_err {l : List Int} (h : ¬ addE l = 0) : addN l = 0 := by
  unfold addE outE at h
  unfold addN
  cases hf : addF l with
  | none => rfl
  | some t => rw [hf] at h; exact absurd rfl h

/-! ### Post -/

def scanE (n : Nat) : List Lg → Int
  | [] => 0
  | g :: l => if g.acct < 0 ∨ (n : Int) ≤ g.acct then 4 else if g.amt = 0 then 3 else scanE n l
def amts (legs : List Lg) : List Int := legs.map (·.amt)
def named (legs : List Lg) (k : Nat) : Bool := legs.any fun g => g.acct == (k : Int)
def of (legs : List Lg) (k : Nat) : List Int := (legs.filter fun g => g.acct == (k : Int)).map (·.amt)
def mine (fl : List Int) (legs : List Lg) (k : Nat) : List Int := fl.getD k 0 :: of legs k
def bad (k : Nat) (n : Int) : Bool := (k == 0 && decide (0 < n)) || (decide (0 < k) && decide (n < 0))
def acctE (fl : List Int) (legs : List Lg) (k : Nat) : Int := if named legs k then (if addE (mine fl legs k) ≠ 0 then addE (mine fl legs k) else if bad k (addN (mine fl legs k)) then 7 else 0) else 0
def acctN (fl : List Int) (legs : List Lg) (k : Nat) : Int := if named legs k then addN (mine fl legs k) else fl.getD k 0
/-- The first error of the accounts from k on. -/
def accsE (fl : List Int) (legs : List Lg) : Nat → Nat → Int
  | 0, _ => 0
  | n + 1, k => if acctE fl legs k ≠ 0 then acctE fl legs k else accsE fl legs n (k + 1)
def preE (n : Nat) (legs : List Lg) : Int :=
  if scanE n legs ≠ 0 then scanE n legs else if legs.length < 1 ∨ 64 < legs.length then 3 else if addE (amts legs) ≠ 0 then addE (amts legs) else if addN (amts legs) ≠ 0 then 3 else 0
def postE (w : Int) (al : List Al) (legs : List Lg) : Int :=
  if preE (1 + 3 * al.length) legs ≠ 0 then preE (1 + 3 * al.length) legs else accsE (flatN w al) legs (1 + 3 * al.length) 0
def postF (w : Int) (al : List Al) (legs : List Lg) : List Int := (List.range (1 + 3 * al.length)).map (acctN (flatN w al) legs)
def setOne (F : List Int) (a : Al) (i : Nat) : Al := { a with avail := F.getD (1 + 3 * i) 0, lien := F.getD (2 + 3 * i) 0, spent := F.getD (3 + 3 * i) 0 }
def setFrom (F : List Int) : Nat → List Al → List Al
  | _, [] => []
  | i, a :: al => setOne F a i :: setFrom F (i + 1) al
def setA (F : List Int) (al : List Al) : List Al := setFrom F 0 al
def postW (w : Int) (al : List Al) (legs : List Lg) : Int := if postE w al legs = 0 then (postF w al legs).getD 0 0 else 0
def postA (w : Int) (al : List Al) (legs : List Lg) : List Al := if postE w al legs = 0 then setA (postF w al legs) al else []

theorem postW_ok {w : Int} {al : List Al} {legs : List Lg} (h : postE w al legs = 0) : postW w al legs = (postF w al legs).getD 0 0 := by unfold postW; rw [if_pos h]
theorem postA_ok {w : Int} {al : List Al} {legs : List Lg} (h : postE w al legs = 0) : postA w al legs = setA (postF w al legs) al := by unfold postA; rw [if_pos h]
theorem postW_no {w : Int} {al : List Al} {legs : List Lg} (h : ¬ postE w al legs = 0) : postW w al legs = 0 := by unfold postW; rw [if_neg h]
theorem postA_no {w : Int} {al : List Al} {legs : List Lg} (h : ¬ postE w al legs = 0) : postA w al legs = [] := by unfold postA; rw [if_neg h]
theorem setFrom_len (F : List Int) : ∀ (al : List Al) (i : Nat), (setFrom F i al).length = al.length
  | [], _ => rfl
  | a :: al, i => by simp [setFrom, setFrom_len F al (i + 1)]
theorem setA_len (F : List Int) (al : List Al) : (setA F al).length = al.length := setFrom_len F al 0
theorem setFrom_at (F : List Int) : ∀ (al : List Al) (i j : Nat) (a : Al), al[j]? = some a → (setFrom F i al)[j]? = some (setOne F a (i + j))
  | [], i, j, a, h => by simp at h
  | x :: al, i, 0, a, h => by
    simp at h; subst h; rfl
  | x :: al, i, j + 1, a, h => by
    rw [List.getElem?_cons_succ] at h
    have := setFrom_at F al (i + 1) j a h
    rw [setFrom, List.getElem?_cons_succ, this, show i + 1 + j = i + (j + 1) by omega]
theorem setA_at {F : List Int} {al : List Al} {j : Nat} {a : Al} (h : al[j]? = some a) : (setA F al)[j]? = some (setOne F a j) := by
  have := setFrom_at F al 0 j a h
  rwa [Nat.zero_add] at this
theorem postF_len (w : Int) (al : List Al) (legs : List Lg) : (postF w al legs).length = 1 + 3 * al.length := by simp [postF]
theorem postF_at (w : Int) (al : List Al) (legs : List Lg) {k : Nat} (h : k < 1 + 3 * al.length) : (postF w al legs)[k]? = some (acctN (flatN w al) legs k) := by
  simp [postF, h]
theorem list_ext {l k : List Int} (hl : l.length = k.length) (h : ∀ (i : Nat) (x : Int), l[i]? = some x → k[i]? = some x) : l = k := by
  apply List.ext_getElem?
  intro i
  cases hx : l[i]? with
  | some x => exact (h i x hx).symm
  | none =>
    rw [List.getElem?_eq_none_iff] at hx
    rw [List.getElem?_eq_none (by omega)]
theorem getD_at {l : List Int} {i : Nat} {x : Int} (h : l[i]? = some x) : l.getD i 0 = x := by simp [List.getD, h]
theorem flat_cases {al : List Al} {w : Int} {k : Nat} (h : k < 1 + 3 * al.length) : k = 0 ∨ ∃ i a, i < al.length ∧ al[i]? = some a ∧ (k = 1 + 3 * i ∨ k = 2 + 3 * i ∨ k = 3 + 3 * i) := by
  rcases Nat.eq_zero_or_pos k with h0 | h0
  · exact .inl h0
  · refine .inr ⟨(k - 1) / 3, _, by omega, List.getElem?_eq_getElem (by omega), by omega⟩
/-- Amounts that were set are those that there are. -/
theorem flat_setA {F : List Int} {al : List Al} (hF : F.length = 1 + 3 * al.length) : flatN (F.getD 0 0) (setA F al) = F := by
  symm
  apply list_ext
  · rw [hF, flat_len, setA_len]
  · intro k x hx
    have hk := (List.getElem?_eq_some_iff.1 hx).1
    rcases flat_cases (w := 0) (show k < 1 + 3 * al.length by omega) with rfl | ⟨i, a, hi, ha, hc⟩
    · rw [flat_at0, getD_at hx]
    · obtain ⟨g1, g2, g3⟩ := flat_at (setA F al) i (setOne F a i) (F.getD 0 0) (setA_at ha)
      rcases hc with rfl | rfl | rfl
      · rw [g1]; exact congrArg some (getD_at hx)
      · rw [g2]; exact congrArg some (getD_at hx)
      · rw [g3]; exact congrArg some (getD_at hx)
theorem setA_flat {w : Int} {al : List Al} : setA (flatN w al) al = al := by
  apply List.ext_getElem?
  intro j
  cases ha : al[j]? with
  | none =>
    rw [List.getElem?_eq_none_iff] at ha
    rw [List.getElem?_eq_none (by rw [setA_len]; exact ha)]
  | some a =>
    rw [setA_at ha]
    obtain ⟨g1, g2, g3⟩ := flat_at al j a w ha
    unfold setOne
    rw [getD_at g1, getD_at g2, getD_at g3]
theorem setA_setA {F G : List Int} {al : List Al} : setA G (setA F al) = setA G al := by
  apply List.ext_getElem?
  intro j
  cases ha : al[j]? with
  | none =>
    rw [List.getElem?_eq_none_iff] at ha
    rw [List.getElem?_eq_none (by rw [setA_len, setA_len]; exact ha), List.getElem?_eq_none (by rw [setA_len]; exact ha)]
  | some a => rw [setA_at (setA_at ha), setA_at ha]; rfl

/-! ### What holds of what was posted -/

theorem scan_iff {n : Nat} : ∀ {legs : List Lg}, scanE n legs = 0 ↔ ∀ g ∈ legs, 0 ≤ g.acct ∧ g.acct < (n : Int) ∧ g.amt ≠ 0
  | [] => by simp [scanE]
  | g :: l => by
    have ih := @scan_iff n l
    rw [scanE]
    by_cases h1 : g.acct < 0 ∨ (n : Int) ≤ g.acct
    · rw [if_pos h1]
      constructor
      · intro h; cases h
      · intro h
        obtain ⟨h2, h3, _⟩ := h g (by simp)
        omega
    · rw [if_neg h1]
      by_cases h2 : g.amt = 0
      · rw [if_pos h2]
        constructor
        · intro h; cases h
        · intro h; exact absurd h2 (h g (by simp)).2.2
      · rw [if_neg h2, ih]
        constructor
        · intro h x hx
          rcases List.mem_cons.1 hx with rfl | hx
          · exact ⟨by omega, by omega, h2⟩
          · exact h x hx
        · intro h x hx
          exact h x (by simp [hx])
theorem accs_iff {fl : List Int} {legs : List Lg} : ∀ {n k : Nat}, accsE fl legs n k = 0 ↔ ∀ j, k ≤ j → j < k + n → acctE fl legs j = 0
  | 0, k => by
    simp only [accsE]
    exact ⟨fun _ j h1 h2 => by omega, fun _ => trivial⟩
  | n + 1, k => by
    have ih := @accs_iff fl legs n (k + 1)
    rw [accsE]
    by_cases h : acctE fl legs k = 0
    · rw [if_neg (by simpa using h), ih]
      constructor
      · intro h2 j h3 h4
        by_cases hj : j = k
        · rw [hj]; exact h
        · exact h2 j (by omega) (by omega)
      · intro h2 j h3 h4
        exact h2 j (by omega) (by omega)
    · rw [if_pos h]
      constructor
      · intro h2; exact absurd h2 h
      · intro h2; exact absurd (h2 k (by omega) (by omega)) h
theorem pre_iff {n : Nat} {legs : List Lg} : preE n legs = 0 ↔ (∀ g ∈ legs, 0 ≤ g.acct ∧ g.acct < (n : Int) ∧ g.amt ≠ 0) ∧ 1 ≤ legs.length ∧ legs.length ≤ 64 ∧ addE (amts legs) = 0 ∧ (amts legs).sum = 0 := by
  unfold preE
  by_cases h1 : scanE n legs = 0
  · rw [if_neg (by simpa using h1)]
    have h1' := scan_iff.1 h1
    by_cases h2 : legs.length < 1 ∨ 64 < legs.length
    · rw [if_pos h2]
      exact ⟨(fun h => by cases h), fun h => by omega⟩
    · rw [if_neg h2]
      by_cases h3 : addE (amts legs) = 0
      · rw [if_neg (by simpa using h3)]
        have h4 := addN_sum h3
        by_cases h5 : addN (amts legs) = 0
        · rw [if_neg (by simpa using h5)]
          exact ⟨fun _ => ⟨h1', by omega, by omega, h3, by rw [← h4]; exact h5⟩, fun _ => rfl⟩
        · rw [if_pos h5]
          exact ⟨(fun h => by cases h), fun h => absurd (h4.trans h.2.2.2.2) h5⟩
      · rw [if_pos h3]
        exact ⟨fun h => absurd h h3, fun h => absurd h.2.2.2.1 h3⟩
  · rw [if_pos h1]
    exact ⟨fun h => absurd h h1, fun h => absurd (scan_iff.2 h.1) h1⟩
theorem post_iff {w : Int} {al : List Al} {legs : List Lg} : postE w al legs = 0 ↔ preE (1 + 3 * al.length) legs = 0 ∧ ∀ k, k < 1 + 3 * al.length → acctE (flatN w al) legs k = 0 := by
  unfold postE
  by_cases h : preE (1 + 3 * al.length) legs = 0
  · rw [if_neg (by simpa using h), accs_iff]
    exact ⟨fun h2 => ⟨h, fun k hk => h2 k (Nat.zero_le _) (by omega)⟩, fun h2 k _ hk => h2.2 k (by omega)⟩
  · rw [if_pos h]
    exact ⟨fun h2 => absurd h2 h, fun h2 => absurd h2.1 h⟩
theorem of_nil {legs : List Lg} {k : Nat} (h : named legs k = false) : of legs k = [] := by
  unfold of
  unfold named at h
  rw [List.filter_eq_nil_iff.2 (fun g hg => by
    have := List.any_eq_false.1 h g hg
    simpa using this)]
  rfl
theorem named_of {legs : List Lg} {k : Nat} (h : named legs k = true) : 1 ≤ (of legs k).length := by
  unfold named at h
  obtain ⟨g, hg, he⟩ := List.any_eq_true.1 h
  unfold of
  rw [List.length_map]
  exact List.length_pos_of_mem (List.mem_filter.2 ⟨hg, he⟩)
/-- An account behind it: what it had, and what its legs come to. -/
theorem acct_sum {fl : List Int} {legs : List Lg} {k : Nat} (h : acctE fl legs k = 0) : acctN fl legs k = fl.getD k 0 + (of legs k).sum := by
  unfold acctE at h
  unfold acctN
  by_cases hn : named legs k = true
  · rw [if_pos hn] at h ⊢
    by_cases he : addE (mine fl legs k) = 0
    · rw [addN_sum he]; rfl
    · rw [if_pos he] at h; exact absurd h he
  · rw [if_neg hn, of_nil (by simpa using hn)]; simp
theorem sum_range_of : ∀ (legs : List Lg) (n : Nat), (∀ g ∈ legs, 0 ≤ g.acct ∧ g.acct < (n : Int)) → ((List.range n).map fun k => (of legs k).sum).sum = (amts legs).sum
  | [], n, _ => by
    have : ∀ n : Nat, ((List.range n).map fun k => (of [] k).sum).sum = 0 := by
      intro n
      induction n with
      | zero => rfl
      | succ n ih => rw [List.range_succ, List.map_append, List.sum_append, ih]; rfl
    exact this n
  | g :: l, n, h => by
    have ih := sum_range_of l n fun x hx => h x (by simp [hx])
    obtain ⟨h1, h2⟩ := h g (by simp)
    have key : ∀ m : Nat, ((List.range m).map fun k => (of (g :: l) k).sum).sum = ((List.range m).map fun k => (of l k).sum).sum + if g.acct < (m : Int) then g.amt else 0 := by
      intro m
      induction m with
      | zero =>
        rw [if_neg (by omega)]; rfl
      | succ m ihm =>
        rw [List.range_succ, List.map_append, List.sum_append, List.map_append, List.sum_append, ihm]
        have e : (of (g :: l) m).sum = (if g.acct = (m : Int) then g.amt else 0) + (of l m).sum := by
          unfold of
          rw [List.filter_cons]
          by_cases hg : g.acct = (m : Int)
          · rw [if_pos (by simpa using hg), if_pos hg]; simp
          · rw [if_neg (by simpa using hg), if_neg hg]; simp
        simp only [List.map_cons, List.map_nil, List.sum_cons, List.sum_nil]
        rw [e]
        by_cases ha : g.acct < (m : Int)
        · rw [if_pos ha, if_neg (by omega), if_pos (by omega)]; omega
        · by_cases hb : g.acct = (m : Int)
          · rw [if_neg ha, if_pos hb, if_pos (by omega)]; omega
          · rw [if_neg ha, if_neg hb, if_neg (by omega)]; omega
    rw [key n, ih, if_pos h2]
    show _ = (g.amt :: amts l).sum
    rw [List.sum_cons]; omega
theorem sum_range_getD : ∀ (l : List Int), ((List.range l.length).map fun k => l.getD k 0).sum = l.sum := by
  intro l
  have : ((List.range l.length).map fun k => l.getD k 0) = l := by
    apply List.ext_getElem?
    intro i
    by_cases h : i < l.length
    · simp [h, List.getD]
    · rw [List.getElem?_eq_none (by simpa using h), List.getElem?_eq_none (by omega)]
  rw [this]
theorem sum_map_add {α : Type} (f g : α → Int) : ∀ l : List α, (l.map fun x => f x + g x).sum = (l.map f).sum + (l.map g).sum
  | [] => rfl
  | x :: l => by
    simp only [List.map_cons, List.sum_cons]
    rw [sum_map_add f g l]; omega
/-- All accounts together have what they had. -/
theorem post_zero {w : Int} {al : List Al} {legs : List Lg} (h : postE w al legs = 0) : (postF w al legs).sum = (flatN w al).sum := by
  obtain ⟨h1, h2⟩ := post_iff.1 h
  obtain ⟨h3, _, _, _, h7⟩ := pre_iff.1 h1
  have e : postF w al legs = (List.range (1 + 3 * al.length)).map fun k => (flatN w al).getD k 0 + (of legs k).sum := by
    unfold postF
    apply List.map_congr_left
    intro k hk
    exact acct_sum (h2 k (List.mem_range.1 hk))
  rw [e, sum_map_add, ← flat_len w al, sum_range_getD, sum_range_of _ _ (fun g hg => ⟨(h3 g hg).1, by rw [flat_len]; exact (h3 g hg).2.1⟩), h7]
  omega
/-- What was named has its sign; what was not is as it was. -/
theorem post_acct {w : Int} {al : List Al} {legs : List Lg} (h : postE w al legs = 0) {k : Nat} (hk : k < 1 + 3 * al.length) :
    (named legs k = false → acctN (flatN w al) legs k = (flatN w al).getD k 0) ∧ (named legs k = true → bad k (acctN (flatN w al) legs k) = false) := by
  have h2 := (post_iff.1 h).2 k hk
  constructor
  · intro hn
    unfold acctN
    rw [hn]; rfl
  · intro hn
    unfold acctE at h2
    unfold acctN
    rw [hn] at h2 ⊢
    simp only [if_true] at h2 ⊢
    by_cases he : addE (mine (flatN w al) legs k) = 0
    · rw [if_neg (by simpa using he)] at h2
      cases hb : bad k (addN (mine (flatN w al) legs k)) with
      | false => rfl
      | true => rw [hb] at h2; cases h2
    · rw [if_pos he] at h2
      exact absurd h2 he
end Go.Proofs.Ytghglgodkknlnaa.Led
/- Ledger: legs that were posted, and then turned, leave all as it was. -/
namespace Go.Proofs.Ytghglgodkknlnaa.Led
open Mon
open Tre (Al)
set_option linter.unusedVariables false

def turn (g : Lg) : Lg := ⟨g.acct, -g.amt⟩
def turned (legs : List Lg) : List Lg := (legs.map turn).reverse
def neg (l : List Int) : List Int := (l.map fun x => -x).reverse
theorem sum_neg : ∀ l : List Int, (l.map fun x => -x).sum = -l.sum
  | [] => rfl
  | x :: l => by
    rw [List.map_cons, List.sum_cons, List.sum_cons, sum_neg l]; omega
theorem sum_rev : ∀ l : List Int, l.reverse.sum = l.sum
  | [] => rfl
  | x :: l => by
    rw [List.reverse_cons, List.sum_append, sum_rev l, List.sum_cons, List.sum_cons, List.sum_nil]; omega
theorem sum_split (l : List Int) (m : Nat) : (l.take m).sum + (l.drop m).sum = l.sum := by
  rw [← List.sum_append, List.take_append_drop]
theorem neg_len (l : List Int) : (neg l).length = l.length := by simp [neg]
theorem neg_take (l : List Int) (k : Nat) : ((neg l).take k).sum = (l.take (l.length - k)).sum - l.sum := by
  unfold neg
  rw [List.take_reverse, sum_rev, List.length_map, ← List.map_drop, sum_neg]
  have := sum_split l (l.length - k)
  omega
theorem neg_sum (l : List Int) : (neg l).sum = -l.sum := by
  unfold neg
  rw [sum_rev, sum_neg]
theorem fits_neg {x : Int} (h : fitsB x = true) : fitsB (-x) = true := by
  rw [fitsB_iff] at h ⊢; omega
theorem neg_fits {l : List Int} (h : ∀ x ∈ l, fitsB x = true) : ∀ x ∈ neg l, fitsB x = true := by
  intro x hx
  unfold neg at hx
  rw [List.mem_reverse, List.mem_map] at hx
  obtain ⟨y, hy, rfl⟩ := hx
  exact fits_neg (h y hy)
theorem fits_0 : fitsB 0 = true := by decide
/-- What comes to nothing comes to nothing backwards, and fits. -/
theorem neg_add {l : List Int} (h : addE l = 0) (hs : l.sum = 0) : addE (neg l) = 0 ∧ (neg l).sum = 0 := by
  obtain ⟨h1, h2⟩ := addE_iff.1 h
  refine ⟨addE_iff.2 ⟨neg_fits h1, fun k hk => ?_⟩, by rw [neg_sum, hs]; rfl⟩
  rw [neg_len] at hk
  rw [neg_take, hs, Int.sub_zero]
  rcases Nat.eq_zero_or_pos (l.length - (k + 1)) with h0 | h0
  · rw [h0]; exact fits_0
  · have := h2 (l.length - (k + 1) - 1) (by omega)
    rwa [show l.length - (k + 1) - 1 + 1 = l.length - (k + 1) by omega] at this
/-- From what it came to, back. -/
theorem neg_mine {a : Int} {l : List Int} (h : addE (a :: l) = 0) : addE ((a + l.sum) :: neg l) = 0 ∧ addN ((a + l.sum) :: neg l) = a := by
  obtain ⟨h1, h2⟩ := addE_iff.1 h
  have hl : ∀ x ∈ l, fitsB x = true := fun x hx => h1 x (by simp [hx])
  have hp : ∀ m, m ≤ l.length → fitsB (a + (l.take m).sum) = true := by
    intro m hm
    have := h2 m (by simp; omega)
    rwa [List.take_succ_cons, List.sum_cons] at this
  have hE : addE ((a + l.sum) :: neg l) = 0 := by
    refine addE_iff.2 ⟨fun x hx => ?_, fun k hk => ?_⟩
    · rcases List.mem_cons.1 hx with rfl | hx
      · have := hp l.length (Nat.le_refl _)
        rwa [List.take_length] at this
      · exact neg_fits hl x hx
    · rw [List.take_succ_cons, List.sum_cons, neg_take]
      have := hp (l.length - k) (by omega)
      rwa [show a + (l.take (l.length - k)).sum = a + l.sum + ((l.take (l.length - k)).sum - l.sum) by omega] at this
  refine ⟨hE, ?_⟩
  rw [addN_sum hE, List.sum_cons, neg_sum]; omega
theorem turned_amts (legs : List Lg) : amts (turned legs) = neg (amts legs) := by
  unfold amts turned neg
  rw [List.map_reverse, List.map_map, List.map_map]
  rfl
theorem turned_of (legs : List Lg) (k : Nat) : of (turned legs) k = neg (of legs k) := by
  unfold of turned neg
  rw [List.filter_reverse, List.map_reverse, List.filter_map, List.map_map, List.map_map]
  rfl
theorem turned_named (legs : List Lg) (k : Nat) : named (turned legs) k = named legs k := by
  unfold named turned
  rw [List.any_reverse, List.any_map]
  rfl
theorem turned_len (legs : List Lg) : (turned legs).length = legs.length := by simp [turned]
theorem turned_pre {n : Nat} {legs : List Lg} (h : preE n legs = 0) : preE n (turned legs) = 0 := by
  obtain ⟨h1, h2, h3, h4, h5⟩ := pre_iff.1 h
  obtain ⟨h6, h7⟩ := neg_add h4 h5
  refine pre_iff.2 ⟨fun g hg => ?_, by rw [turned_len]; exact h2, by rw [turned_len]; exact h3, by rw [turned_amts]; exact h6, by rw [turned_amts]; exact h7⟩
  unfold turned at hg
  rw [List.mem_reverse, List.mem_map] at hg
  obtain ⟨x, hx, rfl⟩ := hg
  obtain ⟨g1, g2, g3⟩ := h1 x hx
  exact ⟨g1, g2, by unfold turn; simp only; omega⟩
/-- THE WAY BACK, by flat amounts. -/
theorem acct_back {fl F : List Int} {legs : List Lg} {k : Nat} (h : acctE fl legs k = 0) (hF : F.getD k 0 = acctN fl legs k) (hb : bad k (fl.getD k 0) = false) : acctE F (turned legs) k = 0 ∧ acctN F (turned legs) k = fl.getD k 0 := by
  have hs := acct_sum h
  unfold acctE acctN
  rw [turned_named]
  by_cases hn : named legs k = true
  · rw [if_pos hn, if_pos hn]
    unfold acctE at h
    rw [if_pos hn] at h
    have he : addE (mine fl legs k) = 0 := by
      by_cases he : addE (mine fl legs k) = 0
      · exact he
      · rw [if_pos he] at h; exact h
    have e : mine F (turned legs) k = (fl.getD k 0 + (of legs k).sum) :: neg (of legs k) := by
      unfold mine
      rw [hF, hs, turned_of]
    obtain ⟨g1, g2⟩ := neg_mine (a := fl.getD k 0) (l := of legs k) he
    rw [e, if_neg (by simpa using g1), g2, hb]
    exact ⟨rfl, rfl⟩
  · rw [if_neg hn, if_neg hn]
    refine ⟨rfl, ?_⟩
    rw [hF, hs, of_nil (by simpa using hn)]; simp
def Good0 (w : Int) (al : List Al) : Prop := w ≤ 0 ∧ ∀ a ∈ al, 0 ≤ a.avail ∧ 0 ≤ a.lien ∧ 0 ≤ a.spent
theorem good0_bad {w : Int} {al : List Al} (h : Good0 w al) {k : Nat} (hk : k < 1 + 3 * al.length) : bad k ((flatN w al).getD k 0) = false := by
  unfold bad
  rcases flat_cases (w := w) hk with rfl | ⟨i, a, hi, ha, hc⟩
  · rw [getD_at (flat_at0 w al)]
    have := h.1
    simp; omega
  · obtain ⟨h1, h2, h3⟩ := h.2 a (List.mem_of_getElem? ha)
    obtain ⟨g1, g2, g3⟩ := flat_at al i a w ha
    rcases hc with rfl | rfl | rfl
    · rw [getD_at g1]; simp; omega
    · rw [getD_at g2]; simp; omega
    · rw [getD_at g3]; simp; omega
theorem post_back {w : Int} {al : List Al} {legs : List Lg} (h : postE w al legs = 0) (hg : Good0 w al) :
    postE (postW w al legs) (postA w al legs) (turned legs) = 0 ∧ postW (postW w al legs) (postA w al legs) (turned legs) = w ∧ postA (postW w al legs) (postA w al legs) (turned legs) = al := by
  have eW : postW w al legs = (postF w al legs).getD 0 0 := postW_ok h
  have eA : postA w al legs = setA (postF w al legs) al := postA_ok h
  have hl : (setA (postF w al legs) al).length = al.length := setA_len _ _
  have hfl : flatN ((postF w al legs).getD 0 0) (setA (postF w al legs) al) = postF w al legs := flat_setA (postF_len w al legs)
  obtain ⟨h1, h2⟩ := post_iff.1 h
  have hk : ∀ k, k < 1 + 3 * al.length → acctE (postF w al legs) (turned legs) k = 0 ∧ acctN (postF w al legs) (turned legs) k = (flatN w al).getD k 0 := fun k hk =>
    acct_back (h2 k hk) (getD_at (postF_at w al legs hk)) (good0_bad hg hk)
  have hE : postE (postW w al legs) (postA w al legs) (turned legs) = 0 := by
    rw [eW, eA]
    refine post_iff.2 ⟨by rw [hl]; exact turned_pre h1, fun k hkk => ?_⟩
    rw [hfl]
    rw [hl] at hkk
    exact (hk k hkk).1
  have hF : postF (postW w al legs) (postA w al legs) (turned legs) = flatN w al := by
    rw [eW, eA]
    apply list_ext
    · rw [postF_len, hl, flat_len]
    · intro k x hx
      have hkk : k < 1 + 3 * (setA (postF w al legs) al).length := by
        have := (List.getElem?_eq_some_iff.1 hx).1
        rwa [postF_len] at this
      rw [postF_at _ _ _ hkk, hfl] at hx
      rw [hl] at hkk
      rw [(hk k hkk).2] at hx
      injection hx with hx
      rw [← hx]
      have : k < (flatN w al).length := by rw [flat_len]; exact hkk
      simp [List.getD, this]
  refine ⟨hE, ?_, ?_⟩
  · rw [postW_ok hE, hF]
    exact getD_at (flat_at0 w al)
  · rw [postA_ok hE, hF, eA, setA_setA, setA_flat]
end Go.Proofs.Ytghglgodkknlnaa.Led
/- Draws in memory; an argument's list opened. -/
namespace Go.Proofs.Ytghglgodkknlnaa.Drw
set_option maxRecDepth 100000
open Go.RowKit
open Go.Sort
open Kit
open Tre (Lst inI lst_keep lst_take lst_at lst_new lst_none i64_wf cells_int)
set_option linter.unusedVariables false
variable {w w' : World}

structure Dw where
  alloc : Int
  amt : Int
def encD (d : Dw) : List Value := [.int .i64 d.alloc, .int .i64 d.amt]
theorem encD_len (d : Dw) : (encD d).length = 2 := rfl
theorem encD_one (x : Dw) : ∀ u ∈ encD x, u.oneCell' = true := by
  intro u hu
  simp [encD] at hu
  rcases hu with rfl | rfl <;> rfl
def Dw.ok (d : Dw) : Prop := inI d.alloc ∧ inI d.amt
abbrev Draws := Lst encD 2
theorem draw_cells {b o n c k : Nat} {l : List Dw} (h : Draws w (some ⟨b, o, none⟩) n c l) (hk : k < l.length) :
    w.cell? ⟨b, o + k * 2, none⟩ = some (.int .i64 l[k].alloc) ∧ w.cell? ⟨b, o + k * 2 + 1, none⟩ = some (.int .i64 l[k].amt) :=
  ⟨row_cell h.row hk rfl (i := 0) (by omega), row_cell h.row hk rfl (i := 1) (by omega)⟩
def RDw (cs : List Value) (x : Dw) : Prop := cs = encD x ∧ x.ok
theorem cells_draw : Try.prog.cellsOf 44 = 2 := by kernel_rfl
theorem opens_draw : Opn.Opens Try.prog w 44 RDw := by
  refine Opn.opens_struct Try.underlying44 fun cs hlen hf => ?_
  rw [cells_draw] at hlen
  match cs, hlen with
  | [c0, c1], _ =>
    obtain ⟨k0, h0, w0⟩ := hf 0 _ rfl _ _ (Opn.opens_int Try.underlying3)
    obtain ⟨k1, h1, w1⟩ := hf 1 _ rfl _ _ (Opn.opens_int Try.underlying3)
    simp [cells_int] at h0 h1
    subst h0 h1
    exact ⟨⟨k0, k1⟩, rfl, i64_wf w0, i64_wf w1⟩
theorem opens_draws : Opn.Opens Try.prog w 26 (Opn.RSlice RDw 2 w) := Opn.opens_slice Try.underlying26 cells_draw (by omega) opens_draw
theorem draws_arg {a : Option Addr} {len cap : Nat} {l : List Dw} (h : Opn.RSlice RDw 2 w [.slice a len cap] l) : Draws w a len cap l ∧ ∀ x ∈ l, x.ok := by
  obtain ⟨a', len', cap', he, hl, hc, hm, hn, hcs⟩ := h
  simp at he
  obtain ⟨rfl, rfl, rfl⟩ := he
  exact ⟨⟨hl, hc, hm, hn, Kit.row_of_cells (fun _ _ h => h.1) hcs⟩, Kit.all_of_cells (fun _ _ h => h.2) hcs⟩
theorem info_draw : (Try.prog.info? 44).map (fun i => (i.zero, i.size, i.bytes)) = some (some (.agg #[.int .i64 0, .int .i64 0]), 2, 16) := by kernel_rfl
theorem draw_row (w : World) (x y : Int) : Kit.Row encD 2 (w.alloc (.cells #[.int .i64 x, .int .i64 y] 44)) (some ⟨w.heap.size, 0, none⟩) [⟨x, y⟩] := row_new encD_len w [⟨x, y⟩] _ _ _ rfl rfl
end Go.Proofs.Ytghglgodkknlnaa.Drw
/- Draw: what is drawn on which allocations, as plain data: the order of drawing, what is taken, and what it comes to. -/
namespace Go.Proofs.Ytghglgodkknlnaa.Drw
open Mon
open Tre (Al path)
open Led (Lg)
set_option linter.unusedVariables false

def openA (a : Al) (now : Int) : Bool := decide (0 < a.avail) && decide (a.from' ≤ now) && decide (now < a.till)
def cand (al : List Al) (f now : Int) (i : Nat) : Bool := match al[i]? with | some a => decide (a.fund = f) && openA a now | none => false
def tillOf (al : List Al) (i : Nat) : Int := match al[i]? with | some a => a.till | none => 0
def availOf (al : List Al) (i : Nat) : Int := match al[i]? with | some a => a.avail | none => 0
/-- The order of drawing within a fund. -/
def before (al : List Al) (i j : Nat) : Prop := tillOf al i < tillOf al j ∨ (tillOf al i = tillOf al j ∧ i < j)
def nextStep (al : List Al) (f now : Int) (done : Nat → Bool) (b : Option Nat) (i : Nat) : Option Nat :=
  if !done i && cand al f now i && (match b with | none => true | some b => decide (tillOf al i < tillOf al b)) then some i else b
/-- Which of the first n is drawn on first, of those that were not. -/
def nextTo (al : List Al) (f now : Int) (done : Nat → Bool) (n : Nat) : Option Nat := (List.range n).foldl (nextStep al f now done) none
def nextD (al : List Al) (f now : Int) (done : Nat → Bool) : Option Nat := nextTo al f now done al.length
theorem nextTo_succ (al : List Al) (f now : Int) (done : Nat → Bool) (n : Nat) : nextTo al f now done (n + 1) = nextStep al f now done (nextTo al f now done n) n := by
  unfold nextTo
  rw [List.range_succ, List.foldl_append]; rfl
theorem cand_lt {al : List Al} {f now : Int} {i : Nat} (h : cand al f now i = true) : i < al.length := by
  unfold cand at h
  cases ha : al[i]? with
  | none => rw [ha] at h; cases h
  | some a => exact (List.getElem?_eq_some_iff.1 ha).1
theorem nextTo_spec (al : List Al) (f now : Int) (done : Nat → Bool) : ∀ n, (nextTo al f now done n = none → ∀ i, i < n → cand al f now i = true → done i = true) ∧ (∀ b, nextTo al f now done n = some b → b < n ∧ cand al f now b = true ∧ done b = false ∧ ∀ i, i < n → cand al f now i = true → done i = false → i = b ∨ before al b i)
  | 0 => ⟨fun _ i hi => by omega, fun b hb => by cases hb⟩
  | n + 1 => by
    obtain ⟨h1, h2⟩ := nextTo_spec al f now done n
    rw [nextTo_succ]
    unfold nextStep
    cases hb : nextTo al f now done n with
    | none =>
      have h1' := h1 hb
      by_cases hc : (!done n && cand al f now n) = true
      · rw [if_pos (by simpa using hc)]
        have hc' : done n = false ∧ cand al f now n = true := by simpa using hc
        refine ⟨(fun h => by cases h), fun b hb2 => ?_⟩
        injection hb2 with hb2
        subst hb2
        refine ⟨by omega, hc'.2, hc'.1, fun i hi hci hdi => ?_⟩
        by_cases hin : i = n
        · exact .inl hin
        · have := h1' i (by omega) hci
          rw [this] at hdi; cases hdi
      · rw [if_neg (by simpa using hc)]
        refine ⟨fun _ i hi hci => ?_, fun b hb2 => by cases hb2⟩
        by_cases hin : i = n
        · subst hin
          rw [hci] at hc
          simpa using hc
        · exact h1' i (by omega) hci
    | some b0 =>
      obtain ⟨g1, g2, g3, g4⟩ := h2 b0 hb
      by_cases hc : (!done n && cand al f now n && decide (tillOf al n < tillOf al b0)) = true
      · rw [if_pos hc]
        have hc' : (done n = false ∧ cand al f now n = true) ∧ tillOf al n < tillOf al b0 := by simpa using hc
        refine ⟨(fun h => by cases h), fun b hb2 => ?_⟩
        injection hb2 with hb2
        subst hb2
        refine ⟨by omega, hc'.1.2, hc'.1.1, fun i hi hci hdi => ?_⟩
        by_cases hin : i = n
        · exact .inl hin
        · right
          rcases g4 i (by omega) hci hdi with rfl | h
          · exact .inl hc'.2
          · rcases h with h | ⟨h, _⟩
            · exact .inl (by omega)
            · exact .inl (by omega)
      · rw [if_neg hc]
        refine ⟨(fun h => by cases h), fun b hb2 => ?_⟩
        injection hb2 with hb2
        subst hb2
        refine ⟨by omega, g2, g3, fun i hi hci hdi => ?_⟩
        by_cases hin : i = n
        · subst hin
          right
          have : ¬ tillOf al i < tillOf al b0 := by
            intro hlt
            exact hc (by rw [hdi, hci]; simp [hlt])
          by_cases he : tillOf al b0 = tillOf al i
          · exact .inr ⟨he, g1⟩
          · exact .inl (by omega)
        · exact g4 i (by omega) hci hdi
theorem nextD_none {al : List Al} {f now : Int} {done : Nat → Bool} (h : nextD al f now done = none) : ∀ i, cand al f now i = true → done i = true := fun i hc => (nextTo_spec al f now done al.length).1 h i (cand_lt hc) hc
theorem nextD_some {al : List Al} {f now : Int} {done : Nat → Bool} {b : Nat} (h : nextD al f now done = some b) : cand al f now b = true ∧ done b = false ∧ ∀ i, cand al f now i = true → done i = false → i = b ∨ before al b i := by
  obtain ⟨_, h2, h3, h4⟩ := (nextTo_spec al f now done al.length).2 b h
  exact ⟨h2, h3, fun i hc hd => h4 i (cand_lt hc) hc hd⟩
theorem nextD_congr {al : List Al} {f now : Int} {d1 d2 : Nat → Bool} (h : ∀ i, cand al f now i = true → d1 i = d2 i) : nextD al f now d1 = nextD al f now d2 := by
  unfold nextD nextTo
  congr 1
  funext b i
  unfold nextStep
  cases hc : cand al f now i with
  | false => simp
  | true => rw [h i hc]
/-- The candidates of a fund, in the order of drawing: those that are left. -/
def sel (al : List Al) (f now : Int) : Nat → (Nat → Bool) → List Nat
  | 0, _ => []
  | k + 1, done => match nextD al f now done with
    | none => []
    | some i => i :: sel al f now k (fun j => done j || j == i)
def left (al : List Al) (f now : Int) (done : Nat → Bool) : Nat := ((List.range al.length).filter fun i => cand al f now i && !done i).length
theorem left_next {al : List Al} {f now : Int} {done : Nat → Bool} {b : Nat} (h : nextD al f now done = some b) : left al f now (fun j => done j || j == b) < left al f now done := by
  obtain ⟨h1, h2, _⟩ := nextD_some h
  unfold left
  have hb : b ∈ (List.range al.length).filter fun i => cand al f now i && !done i := by
    rw [List.mem_filter, List.mem_range]
    exact ⟨cand_lt h1, by rw [h1, h2]; rfl⟩
  have e : ((List.range al.length).filter fun i => cand al f now i && !(done i || i == b)) = ((List.range al.length).filter fun i => cand al f now i && !done i).filter fun i => i != b := by
    rw [List.filter_filter]
    congr 1
    funext i
    cases cand al f now i <;> cases done i <;> cases hi : i == b <;> simp [bne, hi]
  rw [e]
  have : ∀ (l : List Nat), b ∈ l → (l.filter fun i => i != b).length < l.length := by
    intro l
    induction l with
    | nil => intro h; cases h
    | cons x l ih =>
      intro hx
      rw [List.filter_cons]
      by_cases hxb : x = b
      · rw [if_neg (by simp [hxb]), List.length_cons]
        exact Nat.lt_succ_of_le (List.length_filter_le _ _)
      · rw [if_pos (by simp [hxb]), List.length_cons, List.length_cons]
        rcases List.mem_cons.1 hx with rfl | hx
        · exact absurd rfl hxb
        · exact Nat.succ_lt_succ (ih hx)
  exact this _ hb
/-- With enough fuel it is the same. -/
theorem sel_fuel {al : List Al} {f now : Int} : ∀ (n : Nat) {k : Nat} {done : Nat → Bool}, left al f now done ≤ n → left al f now done ≤ k → sel al f now n done = sel al f now k done
  | 0, 0, _, _, _ => rfl
  | 0, k + 1, done, h1, _ => by
    rw [sel, sel]
    cases h : nextD al f now done with
    | none => rfl
    | some b => have := left_next h; omega
  | n + 1, 0, done, _, h2 => by
    rw [sel, sel]
    cases h : nextD al f now done with
    | none => rfl
    | some b => have := left_next h; omega
  | n + 1, k + 1, done, h1, h2 => by
    rw [sel, sel]
    cases h : nextD al f now done with
    | none => rfl
    | some b =>
      have := left_next h
      simp only
      rw [sel_fuel n (k := k) (by omega) (by omega)]
theorem left_le (al : List Al) (f now : Int) (done : Nat → Bool) : left al f now done ≤ al.length := by
  unfold left
  have := List.length_filter_le (fun i => cand al f now i && !done i) (List.range al.length)
  rwa [List.length_range] at this
def ordF (al : List Al) (f now : Int) (done : Nat → Bool) : List Nat := sel al f now al.length done
theorem ordF_none {al : List Al} {f now : Int} {done : Nat → Bool} (h : nextD al f now done = none) : ordF al f now done = [] := by
  unfold ordF
  cases al.length with
  | zero => rfl
  | succ n => rw [sel, h]
theorem ordF_some {al : List Al} {f now : Int} {done : Nat → Bool} {b : Nat} (h : nextD al f now done = some b) : ordF al f now done = b :: ordF al f now (fun j => done j || j == b) := by
  unfold ordF
  have hb := cand_lt (nextD_some h).1
  have hl := left_next h
  have hle := left_le al f now done
  obtain ⟨m, hm⟩ : ∃ m, al.length = m + 1 := ⟨al.length - 1, by omega⟩
  conv => lhs; rw [hm]
  rw [sel, h]
  simp only
  rw [sel_fuel m (k := al.length) (by omega) (by omega)]
/-- What stands in it: the candidates that are left, each once, in order. -/
theorem ordF_spec {al : List Al} {f now : Int} : ∀ (n : Nat) {done : Nat → Bool}, left al f now done ≤ n → (∀ i, i ∈ ordF al f now done ↔ cand al f now i = true ∧ done i = false) ∧ (ordF al f now done).Pairwise (before al) := by
  intro n
  induction n with
  | zero =>
    intro done hn
    cases h : nextD al f now done with
    | none =>
      rw [ordF_none h]
      refine ⟨fun i => ⟨(fun h => by cases h), fun ⟨h1, h2⟩ => ?_⟩, List.Pairwise.nil⟩
      rw [nextD_none h i h1] at h2; cases h2
    | some b => have := left_next h; omega
  | succ n ih =>
    intro done hn
    cases h : nextD al f now done with
    | none =>
      rw [ordF_none h]
      refine ⟨fun i => ⟨(fun h => by cases h), fun ⟨h1, h2⟩ => ?_⟩, List.Pairwise.nil⟩
      rw [nextD_none h i h1] at h2; cases h2
    | some b =>
      obtain ⟨g1, g2, g3⟩ := nextD_some h
      have hl := left_next h
      obtain ⟨i1, i2⟩ := ih (done := fun j => done j || j == b) (by omega)
      rw [ordF_some h]
      refine ⟨fun i => ?_, List.Pairwise.cons (fun j hj => ?_) i2⟩
      · rw [List.mem_cons, i1]
        constructor
        · rintro (rfl | ⟨h1, h2⟩)
          · exact ⟨g1, g2⟩
          · have : done i = false ∧ ¬ i = b := by simpa using h2
            exact ⟨h1, this.1⟩
        · rintro ⟨h1, h2⟩
          by_cases hib : i = b
          · exact .inl hib
          · exact .inr ⟨h1, by simp [h2, hib]⟩
      · obtain ⟨h1, h2⟩ := (i1 j).1 hj
        have h3 : done j = false ∧ ¬ j = b := by simpa using h2
        rcases g3 j h1 h3.1 with rfl | h4
        · exact absurd rfl h3.2
        · exact h4
def none0 : Nat → Bool := fun _ => false
/-- The order of drawing along a path. -/
def order (al : List Al) (now : Int) (p : List Int) : List Nat := p.flatMap fun f => ordF al f now none0
/-- What is taken, in that order. -/
def takeD (al : List Al) : List Nat → Int → List Dw
  | [], _ => []
  | i :: r, a => if a ≤ 0 then [] else ⟨i, min (availOf al i) a⟩ :: takeD al r (a - min (availOf al i) a)
def restD (al : List Al) : List Nat → Int → Int
  | [], a => a
  | i :: r, a => if a ≤ 0 then a else restD al r (a - min (availOf al i) a)
def drawsE (fl : List Tre.Fd) (al : List Al) (f amount now : Int) : Int :=
  if path fl f = [] then 4 else if amount < 0 then 1 else if 0 < restD al (order al now (path fl f)) amount then 7 else 0
def drawsL (fl : List Tre.Fd) (al : List Al) (f amount now : Int) : List Dw := if drawsE fl al f amount now = 0 then takeD al (order al now (path fl f)) amount else []

/-! ### What an amount takes of draws -/

def chargeTo : List Dw → Int → Option (List Dw × Int)
  | [], a => some ([], a)
  | d :: r, a => if d.amt < 0 then none else match chargeTo r (a - min d.amt a) with
    | none => none
    | some (l, b) => some (⟨d.alloc, min d.amt a⟩ :: l, b)
def chargeE (l : List Dw) (a : Int) : Int := if a < 0 then 1 else match chargeTo l a with | none => 7 | some (_, b) => if 0 < b then 7 else 0
def chargeL (l : List Dw) (a : Int) : List Dw := if chargeE l a = 0 then (match chargeTo l a with | none => [] | some (k, _) => k) else []
def amtsD (l : List Dw) : List Int := l.map (·.amt)

/-! ### Legs -/

def legOf (d c : Dw) (f t r : Int) : List Lg :=
  if d.amt = 0 then [] else [⟨f + 3 * d.alloc, -d.amt⟩] ++ (if c.amt ≠ 0 then [⟨t + 3 * d.alloc, c.amt⟩] else []) ++ (if d.amt - c.amt ≠ 0 then [⟨r + 3 * d.alloc, d.amt - c.amt⟩] else [])
def legsD : List Dw → List Dw → Int → Int → Int → List Lg
  | d :: l, c :: k, f, t, r => legOf d c f t r ++ legsD l k f t r
  | _, _, _, _, _ => []
end Go.Proofs.Ytghglgodkknlnaa.Drw
/- Money: the document's Fits and Add. -/
namespace Go.Proofs.Ytghglgodkknlnaa.Mon
open Go.RowKit

theorem rfits_yes (n : Int) (w : World) (h : fitsB n = true) : Calls Try.prog 50 #[.int .i64 n] w fun e w' => e = .returned (.bool true) ∧ w = w' := by
  obtain ⟨h1, h2⟩ := fitsB_iff.1 h
  clear h
  go_enter Try.func50, Try.ntmps50
  go_wp2
  go_ret
  exact ⟨rfl, rfl⟩

theorem rfits_no (n : Int) (w : World) (h : fitsB n = false) : Calls Try.prog 50 #[.int .i64 n] w fun e w' => e = .returned (.bool false) ∧ w = w' := by
  have h1 := fitsB_no.1 h
  clear h
  by_cases h2 : -1152921504606846976 ≤ n
  · have h3 : decide (n ≤ 1152921504606846976) = false := by simp; omega
    clear h1
    go_enter Try.func50, Try.ntmps50
    go_wp2
    go_ret
    exact ⟨rfl, rfl⟩
  · have h3 : decide (-1152921504606846976 ≤ n) = false := by simp; omega
    clear h1
    go_enter Try.func50, Try.ntmps50
    go_wp2
    go_ret
    exact ⟨rfl, rfl⟩

set_option maxHeartbeats 1000000 in
theorem radd_any (a : Option Addr) (len cap : Nat) (l : List Int) (w : World) (hl : l.length = len) (hm : len ≤ maxLen) (hE : Elems w a l) :
    Calls Try.prog 33 #[.slice a len cap] w fun e w' => e = .returned (.tuple #[.int .i64 (addN l), .int .i64 (addE l)]) ∧ w = w' := by
  unfold maxLen at hm
  have h00 : fitsB 0 = true := by decide
  have hr0 : Rest (fun a b => a + b) (addF l) l 0 0 := rfl
  have HL := Lib.hid hl
  have HE := Lib.hid hE
  have H00 := Lib.hid h00
  clear hl hE h00
  go_enter Try.func33, Try.ntmps33
  go_wp2
  go_loop [4, 5] (fun t i => ∃ k : Nat, ∃ s : Int, k ≤ len ∧ i = .int .i64 k ∧ t = .int .i64 s ∧ Hid (fitsB s = true) ∧ Rest (fun a b => a + b) (addF l) l s k) (fun _ i => len - (intOf i).toNat)
  case atStart => exact ⟨0, 0, Nat.zero_le _, rfl, rfl, H00, hr0⟩
  case round =>
    obtain ⟨k, s, hk, rfl, rfl, hs, hr⟩ := hrel
    by_cases hlt : k < len
    · have hkl : k < l.length := by rw [HL.out]; exact hlt
      obtain ⟨b, off, HA, hc⟩ : ∃ b off, Hid (a = some ⟨b, off, none⟩) ∧ w.cell? ⟨b, off + k, none⟩ = some (.int .i64 (l.getD k 0)) := by
        rcases HE.out with h | ⟨b, off, h, hj⟩
        · rw [h] at hkl; simp at hkl
        · exact ⟨b, off, h, hj k hkl⟩
      have ha := HA.out
      subst ha
      generalize hx : l.getD k 0 = x at *
      have HX := Lib.hid hx
      clear hx
      cases h1 : fitsB x with
      | false =>
        have H1 := Lib.hid h1
        clear h1
        have Hn := Lib.hid (rest_no1 hr hkl (by rw [HX.out]; exact H1.out))
        go_wp2_with fail
        refine (rfits_no _ _ H1.out).mono ?_
        rintro e w' ⟨rfl, rfl⟩
        go_wp2_with fail
        go_ret2
        exact ⟨ret_two (none_N Hn.out).symm (none_E Hn.out).symm, rfl⟩
      | true =>
        have hx2 := fitsB_iff.1 h1
        have hs2 := fitsB_iff.1 hs.out
        obtain ⟨hx3, hx4⟩ := hx2
        obtain ⟨hs3, hs4⟩ := hs2
        have H1 := Lib.hid h1
        clear h1
        cases h2 : fitsB (s + x) with
        | false =>
          have hy := fitsB_no.1 h2
          have H2 := Lib.hid h2
          clear h2
          have Hn := Lib.hid (rest_no2 hr hkl (by rw [HX.out]; exact H2.out))
          rcases (show (0 < x ∧ 1152921504606846976 - x < s) ∨ (x < 0 ∧ s < -1152921504606846976 - x) by omega) with ⟨hz1, hz2⟩ | ⟨hz1, hz2⟩
          all_goals
            clear hy
            go_wp2_with fail
            refine (rfits_yes _ _ H1.out).mono ?_
            rintro e w' ⟨rfl, rfl⟩
            go_wp2_with fail
            go_ret2
            exact ⟨ret_two (none_N Hn.out).symm (none_E Hn.out).symm, rfl⟩
        | true =>
          have hy := fitsB_iff.1 h2
          have H2 := Lib.hid h2
          clear h2
          have hn : Rest (fun a b => a + b) (addF l) l (s + x) (k + 1) := by
            have := rest_step hr hkl (by rw [HX.out]; exact H1.out) (by rw [HX.out]; exact H2.out)
            rw [HX.out] at this; exact this
          rcases (show (0 < x ∧ s ≤ 1152921504606846976 - x) ∨ (x < 0 ∧ -1152921504606846976 - x ≤ s) ∨ (0 ≤ x ∧ x ≤ 0) by omega) with ⟨hz1, hz2⟩ | ⟨hz1, hz2⟩ | ⟨hz1, hz2⟩
          all_goals
            clear hy
            go_wp2_with fail
            refine (rfits_yes _ _ H1.out).mono ?_
            rintro e w' ⟨rfl, rfl⟩
            go_wp2_with fail
            go_round
            case rel => exact ⟨k + 1, s + x, by omega, by go_num, rfl, H2, hn⟩
            case measure => simp [intOf]; omega
    · have Hn := Lib.hid (rest_end hr (by rw [HL.out]; omega))
      go_wp2
      go_ret2
      exact ⟨ret_two (some_N Hn.out).symm (some_E Hn.out).symm, rfl⟩
end Go.Proofs.Ytghglgodkknlnaa.Mon
/- A region that draws its order, by an invariant: what holds whenever some of its operations have come up. -/
namespace Go.Proofs.Ytghglgodkknlnaa.Reg

variable {P : Program} {ops : Array Oper} {Q : Exit → Act → World → Prop} {md : Region.Mode}

theorem ready_false {listed : Array Bool} {i : Nat} (h : i ∈ Region.ready md ops listed) : listed.getD i true = false := by
  unfold Region.ready at h
  simp only [List.mem_filter, Bool.and_eq_true] at h
  simpa using h.2.1

theorem getD_false {listed : Array Bool} {i : Nat} (h : listed.getD i true = false) : ∃ hi : i < listed.size, listed[i] = false := by
  by_cases hi : i < listed.size
  · simp [hi] at h; exact ⟨hi, h⟩
  · simp [hi] at h

theorem wpAny_inv {I : Array Bool → Act → World → Prop} (hdone : ∀ listed a w, I listed a w → Region.ready md ops listed = [] → Q .normal a w)
    (hstep : ∀ listed a w i, I listed a w → i ∈ Region.ready md ops listed → wpOp P ops Q i (I (listed.setIfInBounds i true)) a w) :
    ∀ (fuel : Nat) (listed : Array Bool) (a : Act) (w : World), I listed a w → listed.toList.count false ≤ fuel → wpAny P md ops Q fuel listed a w := by
  intro fuel
  induction fuel with
  | zero =>
    intro listed a w hI hc
    have hr : Region.ready md ops listed = [] := by
      cases h : Region.ready md ops listed with
      | nil => rfl
      | cons i l =>
        obtain ⟨hi, he⟩ := getD_false (ready_false (md := md) (ops := ops) (listed := listed) (i := i) (by rw [h]; simp))
        have : false ∈ listed.toList := by rw [← he]; simp
        have := List.count_pos_iff.2 this
        omega
    exact ⟨hr, hdone listed a w hI hr⟩
  | succ fuel ih =>
    intro listed a w hI hc
    refine ⟨hdone listed a w hI, fun i hi => wpOp_mono (fun a' w' h' => ih _ a' w' h' ?_) (hstep listed a w i hI hi)⟩
    obtain ⟨hlt, he⟩ := getD_false (ready_false hi)
    rw [Array.toList_setIfInBounds, List.count_set (by simpa using hlt)]
    have hf : false ∈ listed.toList := by rw [← he]; simp
    have := List.count_pos_iff.2 hf
    simp only [Array.getElem_toList, he, beq_self_eq_true, if_true, show (true == false) = false from rfl, Bool.false_eq_true, if_false]
    omega

/-- All ways of a region. -/
theorem any_inv {a : Act} {w : World} (I : Array Bool → Act → World → Prop) (h0 : I (Array.replicate ops.size false) a w.drew)
    (hdone : ∀ listed a w, I listed a w → Region.ready md ops listed = [] → Q .normal a w)
    (hstep : ∀ listed a w i, I listed a w → i ∈ Region.ready md ops listed → wpOp P ops Q i (I (listed.setIfInBounds i true)) a w) : wpAny P md ops Q ops.size (Array.replicate ops.size false) a w.drew :=
  wpAny_inv hdone hstep _ _ _ _ h0 (by simp)
/-- The whole region. -/
theorem wp_region_inv {id : Nat} {a : Act} {w : World} (I : Array Bool → Act → World → Prop) (hm : P.follows .mixedOrders = true) (h0 : I (Array.replicate ops.size false) a w.drew)
    (hdone : ∀ listed a w, I listed a w → Region.ready .any ops listed = [] → Q .normal a w)
    (hstep : ∀ listed a w i, I listed a w → i ∈ Region.ready .any ops listed → wpOp P ops Q i (I (listed.setIfInBounds i true)) a w) : (Code.region id ops true).wp P Q a w :=
  wp_region_any hm (any_inv I h0 hdone hstep)

/-- Where nothing may come up any more, whatever waits for nothing that has not come up has come up. -/
theorem none_ready {listed : Array Bool} {i : Nat} {o : Oper} (hs : listed.size = ops.size) (h : Region.ready md ops listed = []) (ho : ops[i]? = some o)
    (hd : ∀ e ∈ o.after, Region.binds md e = true → listed.getD e.on false = true) : listed.getD i false = true := by
  have hi : i < listed.size := by rw [hs]; exact (Array.getElem?_eq_some_iff.1 ho).1
  cases hb : listed[i] with
  | true => simp [hi, hb]
  | false =>
    have : i ∈ Region.ready md ops listed := mem_ready.2 ⟨by simp [hi, hb], o, ho, hd⟩
    rw [h] at this
    cases this

end Go.Proofs.Ytghglgodkknlnaa.Reg
/- A region that draws its order and whose values hang on the memory that its own calls make: one look at each operation, what it leaves told by what holds of its slot. -/
namespace Go.Proofs.Ytghglgodkknlnaa.Rel
open Go.RowKit

/-- What a slot holds: it stays so while the world goes on. -/
structure Kd (G : World → World → Prop) where
  p : World → Value → Prop
  st : ∀ w w' v, G w w' → p w v → p w' v
def Kd.is {G : World → World → Prop} (v : Value) : Kd G := ⟨fun _ u => u = v, fun _ _ _ _ h => h⟩
def Kd.any {G : World → World → Prop} : Kd G := ⟨fun _ _ => True, fun _ _ _ _ h => h⟩

/-- The world goes on: what was there stays. -/
def Gr (w w' : World) : Prop := Below w.heap.size w w'
theorem gr_refl (w : World) : Gr w w := Below.refl _ _

def slot (a : Act) (d : Tmp) : Value := a.tmps.getD d undef
theorem eval_tmp {a : Act} {d : Tmp} {v : Value} (h : slot a d = v) : a.eval (.tmp d) = v := h

/-- Does operation o wait for operation j? -/
def waits (o : Oper) (j : Nat) : Bool := o.after.toList.any fun e => e.on == j && Region.binds .any e
def unwritten (ops : Array Oper) (s : Tmp) : Bool := ops.toList.all fun o => o.dst != some s
/-- A table of what the slots hold. -/
def tab {G : World → World → Prop} (l : List (Kd G)) (i : Nat) : Kd G := l.getD i Kd.any
/-- Each operation writes a slot of its own. -/
def apartB : List Oper → Bool
  | [] => true
  | o :: l => o.dst.isSome && l.all (fun x => x.dst != o.dst) && apartB l

section
variable {P : Program} {ops : Array Oper} {Q : Exit → Act → World → Prop} {G : World → World → Prop} {V : Nat → Kd G} {J : Array Bool → World → Prop} {a0 : Act}

/-- What is known when operation k, o, comes up. -/
structure Cx (ops : Array Oper) (V : Nat → Kd G) (J : Array Bool → World → Prop) (a0 : Act) (k : Nat) (o : Oper) (L : Array Bool) (a : Act) (w : World) : Prop where
  size : L.size = ops.size
  free : L.getD k true = false
  base : ∀ s, unwritten ops s = true → slot a s = slot a0 s
  room : a.tmps.size = a0.tmps.size
  inv : J L w
  dep : ∀ (j : Nat) (o' : Oper) (d : Tmp), ops[j]? = some o' → o'.dst = some d → waits o j = true → (V j).p w (slot a d)
  came : ∀ j, waits o j = true → L.getD j false = true
  chain : ∀ (j : Nat) (o' : Oper) (i : Nat), ops[j]? = some o' → L.getD j false = true → waits o' i = true → L.getD i false = true

/-- By Bools that the kernel reckons: operation j writes slot d, and o waits for it; o is carried out where j yields b. -/
def depB (ops : Array Oper) (o : Oper) (j : Nat) (d : Tmp) : Bool := waits o j && (match ops.toList[j]? with | some o' => o'.dst == some d | none => false)
def wantB (ops : Array Oper) (o : Oper) (j : Nat) (b : Bool) (d : Tmp) : Bool := (match o.guard with | some (j', b') => j' == j && b' == b | none => false) && (match ops.toList[j]? with | some o' => o'.dst == some d | none => false)
def waitsAt (ops : Array Oper) (j i : Nat) : Bool := match ops.toList[j]? with | some o' => waits o' i | none => false
def freeB (o : Oper) : Bool := o.guard.isNone
theorem Cx.get {k : Nat} {o : Oper} {L : Array Bool} {a : Act} {w : World} (c : Cx ops V J a0 k o L a w) (j : Nat) (d : Tmp) (h : depB ops o j d = true) : (V j).p w (slot a d) := by
  unfold depB at h
  simp only [Bool.and_eq_true] at h
  cases ho : ops.toList[j]? with
  | none => rw [ho] at h; simp at h
  | some o' =>
    rw [ho] at h
    exact c.dep j o' d (by simpa using ho) (by simpa using h.2) h.1
/-- What came ahead of what has come. -/
theorem Cx.via {k : Nat} {o : Oper} {L : Array Bool} {a : Act} {w : World} (c : Cx ops V J a0 k o L a w) (j i : Nat) (h : waitsAt ops j i = true) (hj : L.getD j false = true) : L.getD i false = true := by
  unfold waitsAt at h
  cases ho : ops.toList[j]? with
  | none => rw [ho] at h; cases h
  | some o' =>
    rw [ho] at h
    exact c.chain j o' i (by simpa using ho) hj h
theorem Cx.old {k : Nat} {o : Oper} {L : Array Bool} {a : Act} {w : World} (c : Cx ops V J a0 k o L a w) (s : Tmp) {v : Value} (h : unwritten ops s = true) (hv : slot a0 s = v) : slot a s = v := (c.base s h).trans hv

/-- What it leaves. -/
def Left (V : Nat → Kd G) (J : Array Bool → World → Prop) (k : Nat) (o : Oper) (L : Array Bool) (a : Act) (w : World) (a' : Act) (w' : World) : Prop :=
  ∃ v, a' = a.put o.dst v ∧ G w w' ∧ (V k).p w' v ∧ J (L.setIfInBounds k true) w'

def Step (P : Program) (ops : Array Oper) (Q : Exit → Act → World → Prop) (V : Nat → Kd G) (J : Array Bool → World → Prop) (a0 : Act) (k : Nat) (o : Oper) : Prop :=
  ∀ L a w, Cx ops V J a0 k o L a w →
    (Region.wanted o (yielded ops a.tmps) = true ∧ o.wp P a w (Left V J k o L a w) Q) ∨
    (Region.wanted o (yielded ops a.tmps) = false ∧ (V k).p w undef ∧ J (L.setIfInBounds k true) w)

def Steps (P : Program) (ops : Array Oper) (Q : Exit → Act → World → Prop) (V : Nat → Kd G) (J : Array Bool → World → Prop) (a0 : Act) : Nat → List Oper → Prop
  | _, [] => True
  | k, o :: l => Step P ops Q V J a0 k o ∧ Steps P ops Q V J a0 (k + 1) l

theorem steps_at (l : List Oper) : ∀ (k : Nat), Steps P ops Q V J a0 k l → ∀ (j : Nat) (o : Oper), l[j]? = some o → Step P ops Q V J a0 (k + j) o := by
  induction l with
  | nil => intro k _ j o e; simp at e
  | cons x l ih =>
    intro k h j o e
    cases j with
    | zero =>
      simp at e; subst e
      exact h.1
    | succ j =>
      have := ih (k + 1) h.2 j o (by simpa using e)
      rw [show k + (j + 1) = k + 1 + j by omega]; exact this

theorem apart_at (l : List Oper) : apartB l = true → ∀ (i j : Nat) (o o' : Oper), l[i]? = some o → l[j]? = some o' → i ≠ j → o.dst ≠ o'.dst := by
  induction l with
  | nil => intro _ i j o o' e; simp at e
  | cons x l ih =>
    intro h i j o o' e e' hne
    simp only [apartB, Bool.and_eq_true, List.all_eq_true, bne_iff_ne, ne_eq] at h
    cases i with
    | zero =>
      cases j with
      | zero => exact absurd rfl hne
      | succ j =>
        simp at e e'; subst e
        exact fun he => h.1.2 _ (List.mem_of_getElem? e') he.symm
    | succ i =>
      cases j with
      | zero =>
        simp at e e'; subst e'
        exact h.1.2 _ (List.mem_of_getElem? e)
      | succ j => exact ih h.2 i j o o' (by simpa using e) (by simpa using e') (by omega)

theorem apart_some (l : List Oper) : apartB l = true → ∀ (i : Nat) (o : Oper), l[i]? = some o → ∃ d, o.dst = some d := by
  intro h i o e
  induction l generalizing i with
  | nil => simp at e
  | cons x l ih =>
    simp only [apartB, Bool.and_eq_true] at h
    cases i with
    | zero =>
      simp at e; subst e
      exact Option.isSome_iff_exists.1 h.1.1
    | succ i => exact ih h.2 i (by simpa using e)

/-- Each operation waits for earlier ones alone. -/
def orderB : Nat → List Oper → Bool
  | _, [] => true
  | k, o :: l => (o.after.all fun e => !(Region.binds .any e) || decide (e.on < k)) && orderB (k + 1) l
theorem order_at (l : List Oper) : ∀ (k : Nat), orderB k l = true → ∀ (j : Nat) (o : Oper), l[j]? = some o → ∀ e ∈ o.after, Region.binds .any e = true → e.on < k + j := by
  induction l with
  | nil => intro k _ j o e; simp at e
  | cons x l ih =>
    intro k h j o e
    simp only [orderB, Bool.and_eq_true] at h
    cases j with
    | zero =>
      simp at e; subst e
      intro e he hb
      have := h.1
      rw [Array.all_eq_true'] at this
      have := this e he
      rw [hb] at this
      simpa using this
    | succ j =>
      intro e' he hb
      have := ih (k + 1) h.2 j o (by simpa using e) e' he hb
      omega

theorem slot_put_ne {a : Act} {d s : Tmp} {v : Value} (h : d ≠ s) : slot (a.put (some d) v) s = slot a s := by
  unfold slot Act.put
  simp only [Array.getD_eq_getD_getElem?]
  rw [Array.getElem?_setIfInBounds_ne h]
theorem slot_put {a : Act} {d : Tmp} {v : Value} (h : d < a.tmps.size) : slot (a.put (some d) v) d = v := by
  unfold slot Act.put
  simp [h]
theorem put_size (a : Act) (d : Option Tmp) (v : Value) : (a.put d v).tmps.size = a.tmps.size := by
  unfold Act.put; split <;> simp
theorem put_defers (a : Act) (d : Option Tmp) (v : Value) : (a.put d v).defers = a.defers := by
  unfold Act.put; split <;> rfl

/-- The frame behind a region: the slots in 'loose' as they are, all others as they were. -/
theorem act_mix {a : Act} (loose : List Nat) (hb : ∀ s, unwritten ops s = true → slot a s = slot a0 s) (hr : a.tmps.size = a0.tmps.size) (hd : a.defers = a0.defers)
    (hl : ((List.range a0.tmps.size).all fun i => loose.contains i || unwritten ops i) = true) :
    a = { tmps := ((List.range a0.tmps.size).map fun i => cond (loose.contains i) (slot a i) (slot a0 i)).toArray, defers := a0.defers } := by
  obtain ⟨tm, df⟩ := a
  simp only at hr hd
  subst hd
  congr 1
  apply Array.ext
  · simpa using hr
  · intro i h1 h2
    have hi : i < a0.tmps.size := by omega
    have h3 := List.all_eq_true.1 hl i (List.mem_range.2 hi)
    have hs : slot { tmps := tm, defers := a0.defers } i = tm[i] := by
      unfold slot
      simp [h1]
    simp only [List.getElem_toArray, List.getElem_map, List.getElem_range]
    cases hc : loose.contains i with
    | true => simp only [cond_true]; exact hs.symm
    | false =>
      rw [hc] at h3
      simp only [cond_false]
      rw [← hb i (by simpa using h3)]
      exact hs.symm

/-- Whatever has come up. -/
def Inv (ops : Array Oper) (V : Nat → Kd G) (J : Array Bool → World → Prop) (a0 : Act) (L : Array Bool) (a : Act) (w : World) : Prop :=
  L.size = ops.size ∧ (∀ s, unwritten ops s = true → slot a s = slot a0 s) ∧ a.tmps.size = a0.tmps.size ∧ a.defers = a0.defers ∧ J L w ∧
  (∀ (j : Nat) (o : Oper) (d : Tmp), ops[j]? = some o → o.dst = some d → L.getD j false = true → (V j).p w (slot a d)) ∧
  ∀ (j : Nat) (o' : Oper) (i : Nat), ops[j]? = some o' → L.getD j false = true → waits o' i = true → L.getD i false = true

theorem unwritten_ne {s : Tmp} (h : unwritten ops s = true) {i : Nat} {o : Oper} (ho : ops[i]? = some o) : o.dst ≠ some s := by
  unfold unwritten at h
  have := List.all_eq_true.1 h o (by simpa using Array.mem_of_getElem? ho)
  simpa using this

theorem inv_step {k : Nat} {o : Oper} {L : Array Bool} {a : Act} {w w' : World} {v : Value} (hap : apartB ops.toList = true) (hsz : ∀ (i : Nat) (o : Oper) (d : Tmp), ops[i]? = some o → o.dst = some d → d < a0.tmps.size)
    (ho : ops[k]? = some o) (hk : L.getD k true = false) (hcm : ∀ j, waits o j = true → L.getD j false = true) (hI : Inv ops V J a0 L a w) (hG : G w w') (hv : (V k).p w' v) (hJ : J (L.setIfInBounds k true) w') : Inv ops V J a0 (L.setIfInBounds k true) (a.put o.dst v) w' := by
  obtain ⟨h1, h2, h3, h4, h5, h6, h7⟩ := hI
  have hset : ∀ i, L.getD i false = true → (L.setIfInBounds k true).getD i false = true := by
    intro i hi
    by_cases hik : k = i
    · subst hik
      obtain ⟨hs, _⟩ := Reg.getD_false hk
      simp [hs]
    · simpa [hik] using hi
  obtain ⟨d, hd⟩ := apart_some ops.toList hap k o (by simpa using ho)
  have hdn := hsz k o d ho hd
  refine ⟨by simp [h1], fun s hs => ?_, by rw [put_size]; exact h3, by rw [put_defers]; exact h4, hJ, fun j o' d' ho' hd' hl => ?_, fun j o' i ho' hl hw => ?_⟩
  · rw [hd, slot_put_ne (fun e => unwritten_ne hs ho (by rw [hd, e]))]
    exact h2 s hs
  · by_cases hjk : j = k
    · subst hjk
      rw [ho] at ho'
      injection ho' with ho'
      subst ho'
      rw [hd] at hd'
      injection hd' with hd'
      subst hd'
      rw [hd, slot_put (by rw [h3]; exact hdn)]
      exact hv
    · have hne := apart_at ops.toList hap k j o o' (by simpa using ho) (by simpa using ho') (Ne.symm hjk)
      rw [hd, slot_put_ne (fun e => hne (by rw [hd, hd', e]))]
      refine (V j).st w w' _ hG (h6 j o' d' ho' hd' ?_)
      simpa [Ne.symm hjk] using hl
  · by_cases hjk : j = k
    · subst hjk
      rw [ho] at ho'
      injection ho' with ho'
      subst ho'
      exact hset i (hcm i hw)
    · exact hset i (h7 j o' i ho' (by simpa [Ne.symm hjk] using hl) hw)

/-- THE LAW. -/
theorem wp_region_rel {id : Nat} {w : World} {l : List Oper} (V : Nat → Kd G) (J : Array Bool → World → Prop) (hm : P.follows .mixedOrders = true) (hap : apartB l = true) (hor : orderB 0 l = true) (hsz : (l.all fun o => match o.dst with | some d => decide (d < a0.tmps.size) | none => true) = true)
    (hGr : ∀ w, G w w) (h0 : J (Array.replicate l.length false) w.drew) (hsteps : Steps P l.toArray Q V J a0 0 l)
    (hdone : ∀ a w, (∀ s, unwritten l.toArray s = true → slot a s = slot a0 s) → a.tmps.size = a0.tmps.size → a.defers = a0.defers → J (Array.replicate l.length true) w → (∀ (j : Nat) (o : Oper) (d : Tmp), l[j]? = some o → o.dst = some d → (V j).p w (slot a d)) → Q .normal a w) :
    (Code.region id l.toArray true).wp P Q a0 w := by
  have hsz' : ∀ (i : Nat) (o : Oper) (d : Tmp), l.toArray[i]? = some o → o.dst = some d → d < a0.tmps.size := by
    intro i o d ho hd
    have := List.all_eq_true.1 hsz o (List.mem_of_getElem? (by simpa using ho))
    rw [hd] at this
    simpa using this
  refine Reg.wp_region_inv (Inv l.toArray V J a0) hm ?_ ?_ ?_
  · exact ⟨by simp, fun _ _ => rfl, rfl, rfl, h0, fun j o d _ _ hl => by
      by_cases hj : j < l.length <;> simp [hj] at hl, fun j o i _ hl _ => by
      by_cases hj : j < l.length <;> simp [hj] at hl⟩
  · intro L a' w' hI hready
    obtain ⟨h1, h2, h3, h4, h5, h6, h7⟩ := hI
    have hall : ∀ j, j < l.length → L.getD j false = true := by
      intro j
      induction j using Nat.strongRecOn with
      | _ j ih =>
        intro hj
        have ho : l[j]? = some l[j] := List.getElem?_eq_getElem hj
        refine Reg.none_ready (by exact h1) hready (o := l[j]) (by simp) fun e he hb => ?_
        have hlt := order_at l 0 hor j _ ho e he hb
        exact ih e.on (by omega) (by omega)
    have hL : L = Array.replicate l.length true := by
      apply Array.ext
      · simpa using h1
      · intro i hi1 hi2
        have := hall i (by simpa using hi2)
        simp [hi1] at this
        simp [this]
    subst hL
    exact hdone a' w' h2 h3 h4 h5 fun j o d hj hd => h6 j o d (by simpa using hj) hd (hall j (by
      rcases Nat.lt_or_ge j l.length with h | h
      · exact h
      · rw [List.getElem?_eq_none h] at hj; cases hj))
  · intro L a' w' i hI hi
    obtain ⟨hun, o, ho, hdep⟩ := mem_ready.1 hi
    have hI' := hI
    obtain ⟨h1, h2, h3, h4, h5, h6, h7⟩ := hI
    have hcame : ∀ j, waits o j = true → L.getD j false = true := by
      intro j hj
      unfold waits at hj
      obtain ⟨e, he, hb⟩ := List.any_eq_true.1 hj
      simp only [Bool.and_eq_true, beq_iff_eq] at hb
      have := hdep e (by simpa using he) hb.2
      rw [hb.1] at this
      exact this
    have hs := steps_at l 0 hsteps i o (by simpa using ho)
    rw [Nat.zero_add] at hs
    replace hs := hs L a' w' ⟨h1, hun, h2, h3, h5, fun j o' d hj hd hw => h6 j o' d hj hd (hcame j hw), hcame, h7⟩
    unfold wpOp
    simp only [ho]
    rcases hs with ⟨hw, hs⟩ | ⟨hw, hv, hJ⟩
    · rw [if_pos hw]
      exact .inl (Oper.wp_mono (fun a'' w'' ⟨v, ha, hG, hv, hJ⟩ => by subst ha; exact inv_step (by simpa using hap) hsz' ho hun hcame hI' hG hv hJ) hs)
    · rw [if_neg (by rw [hw]; exact Bool.false_ne_true)]
      exact inv_step (by simpa using hap) hsz' ho hun hcame hI' (hGr w') hv hJ

/-! ### One operation -/

variable {o : Oper} {a : Act} {w : World} {K : Act → World → Prop}
theorem wp_mv (x : Operand) (ho : o.op = .move x) (h : K (a.put o.dst (a.eval x)) w) : o.wp P a w K Q := by
  unfold Oper.wp; rw [BigFrame.run_move x ho]; exact h
theorem wp_as (x : Operand) (ho : o.op = .assign x) (h : K (a.put o.dst (a.eval x)) w) : o.wp P a w K Q := by
  unfold Oper.wp; rw [BigFrame.run_assign x ho]; exact h
theorem wp_pk (c x y : Operand) (ho : o.op = .pick c x y) {b : Bool} (hc : a.eval c = .bool b) (h : K (a.put o.dst (if b then a.eval x else a.eval y)) w) : o.wp P a w K Q := by
  unfold Oper.wp execOp
  simp only [ho, hc]
  exact h
theorem wp_cv (s d : TypeId) (x : Operand) (ho : o.op = .convert s d x) {v u : Value} {w' : World} (hx : a.eval x = v) (hr : (convert s d v).run P w = .ok u w') (h : K (a.put o.dst u) w') : o.wp P a w K Q := by
  unfold Oper.wp execOp
  simp only [ho, hx, Sem.run_bind, hr]
  exact h
theorem wp_bo (k : BinOp) (t t' : TypeId) (x y : Operand) (ho : o.op = .binOp k t x y t') {vx vy u : Value} {w' : World} (hx : a.eval x = vx) (hy : a.eval y = vy)
    (hr : (do eqGuard k t x y vx vy; binOp k t vx vy : Sem Value).run P w = .ok u w') (h : K (a.put o.dst u) w') : o.wp P a w K Q := by
  unfold Oper.wp execOp
  simp only [ho, hx, hy]
  rw [Sem.run_bind, hr]
  exact h
theorem wp_cl (f : FuncId) (xs : List Operand) (ts : Array TypeId) (ho : o.op = .call { callee := .value (.func f), args := xs.toArray, argTypes := ts }) {fn : Func} (hf : P.funcs[f]? = some fn) (hk : (fn.body.isSome && !(fn.name == "runtime.NumGoroutine")) = true) (hc : Calls P f (xs.map a.eval).toArray w fun e w' => ∃ v, e = .returned v ∧ K (a.put o.dst v) w') : o.wp P a w K Q := by
  unfold Oper.wp execOp
  simp only [ho]
  simp [resolve, Deferred.ofValue, invoke, Act.eval]
  have hr : (callFunc f (xs.map a.eval).toArray).run P w = .ok (.enter f (xs.map a.eval).toArray) w := by
    simp only [Bool.and_eq_true, Bool.not_eq_true', Option.isSome_iff_exists] at hk
    obtain ⟨⟨c, hb⟩, hn⟩ := hk
    have hn' : ¬ fn.name = "runtime.NumGoroutine" := by simpa using hn
    simp [callFunc, hf, hb, hn']
  rw [hr]
  refine hc.mono fun e w' ⟨v, he, hK⟩ => ?_
  subst he
  exact hK
theorem wp_ld (t : TypeId) (x : Operand) (ho : o.op = .load t x) {v u : Value} {w' : World} (hx : a.eval x = v) (hr : (Instr.loadAt t v).run P w = .ok u w') (h : K (a.put o.dst u) w') : o.wp P a w K Q := by
  unfold Oper.wp execOp
  simp only [ho, hx, Sem.run_bind, hr]
  exact h
theorem wp_ia (t : TypeId) (x y : Operand) (ho : o.op = .indexAddr t x y) {vx vy u : Value} {w' : World} (hx : a.eval x = vx) (hy : a.eval y = vy) (hr : (Instr.indexAt t vx vy).run P w = .ok u w') (h : K (a.put o.dst u) w') : o.wp P a w K Q := by
  unfold Oper.wp execOp
  simp only [ho, hx, hy, Sem.run_bind, hr]
  exact h
theorem wp_sl (t : TypeId) (x : Operand) (lo hi mx : Option Operand) (ho : o.op = .slice t x lo hi mx) {vx u : Value} {vl vh vm : Option Value} {w' : World} (hx : a.eval x = vx) (hl : lo.map a.eval = vl) (hh : hi.map a.eval = vh) (hm : mx.map a.eval = vm) (hr : (Instr.sliceAt t vx vl vh vm).run P w = .ok u w') (h : K (a.put o.dst u) w') : o.wp P a w K Q := by
  unfold Oper.wp execOp
  simp only [ho, hx, hl, hh, hm, Sem.run_bind, hr]
  exact h
theorem wp_ex (t : Operand) (ix : Nat) (ho : o.op = .extract t ix) {v u : Value} {w' : World} (hx : a.eval t = v) (hr : (Instr.extract v ix).run P w = .ok u w') (h : K (a.put o.dst u) w') : o.wp P a w K Q := by
  unfold Oper.wp execOp
  simp only [ho, hx, Sem.run_bind, hr]
  exact h
theorem wp_len (x : Operand) (t : TypeId) (ho : o.op = .call { callee := .builtin .len, args := #[x], argTypes := #[t] }) {ad : Option Addr} {n c : Nat} (hx : a.eval x = .slice ad n c) (hr : (Builtin.len_ #[t] o.type #[.slice ad n c]).run P w = .ok (.int .i64 n) w) (h : K (a.put o.dst (.int .i64 n)) w) : o.wp P a w K Q := by
  unfold Oper.wp execOp
  simp only [ho]
  simp [resolve, invoke, builtin, hx]
  rw [hr]
  exact h

theorem wanted_free (hg : freeB o = true) (y : Nat → Option Bool) : Region.wanted o y = true := by
  unfold freeB at hg
  unfold Region.wanted
  rw [Option.isNone_iff_eq_none.1 hg]
theorem wanted_none (hg : o.guard = none) (y : Nat → Option Bool) : Region.wanted o y = true := by unfold Region.wanted; rw [hg]
theorem wanted_is {j : Nat} {b b' : Bool} {d : Tmp} (hg : o.guard = some (j, b)) {oj : Oper} (hj : ops[j]? = some oj) (hd : oj.dst = some d) (hv : slot a d = .bool b') : Region.wanted o (yielded ops a.tmps) = (b' == b) := by
  have hr : a.tmps[d]? = some (.bool b') := by
    unfold slot at hv
    rw [Array.getD_eq_getD_getElem?] at hv
    cases h : a.tmps[d]? with
    | none => rw [h] at hv; cases hv
    | some v => rw [h] at hv; simp at hv; rw [hv]
  unfold Region.wanted yielded
  simp only [hg, hj, Option.bind_some, hd, hr]
  cases b <;> cases b' <;> rfl
theorem wanted_by {j : Nat} {b : Bool} {d : Tmp} (h : wantB ops o j b d = true) (hv : slot a d = .bool b) : Region.wanted o (yielded ops a.tmps) = true := by
  unfold wantB at h
  simp only [Bool.and_eq_true] at h
  obtain ⟨h1, h2⟩ := h
  cases hg : o.guard with
  | none => rw [hg] at h1; cases h1
  | some g =>
    obtain ⟨j', b'⟩ := g
    rw [hg] at h1
    simp only [Bool.and_eq_true, beq_iff_eq] at h1
    obtain ⟨rfl, rfl⟩ := h1
    cases ho : ops.toList[j']? with
    | none => rw [ho] at h2; cases h2
    | some o' =>
      rw [ho] at h2
      rw [wanted_is hg (by simpa using ho) (by simpa using h2) hv]
      simp

end
end Go.Proofs.Ytghglgodkknlnaa.Rel
/- A region that draws its order: some operations make or write memory, each of these waits for the one ahead of it; all others only read: what is read is told ahead of the region, what is made is told step by step. -/
namespace Go.Proofs.Ytghglgodkknlnaa.Chn
open Go.RowKit
open Rel

/-- Each operation that writes a slot writes one of its own. -/
def apartC : List Oper → Bool
  | [] => true
  | o :: l => (o.dst.isNone || l.all (fun x => x.dst != o.dst)) && apartC l
theorem apartC_at (l : List Oper) : apartC l = true → ∀ (i j : Nat) (o o' : Oper) (d : Tmp), l[i]? = some o → l[j]? = some o' → i ≠ j → o.dst = some d → o'.dst ≠ some d := by
  induction l with
  | nil => intro _ i j o o' d e; simp at e
  | cons x l ih =>
    intro h i j o o' d e e' hne hd
    simp only [apartC, Bool.and_eq_true, Bool.or_eq_true, List.all_eq_true, bne_iff_ne, ne_eq] at h
    cases i with
    | zero =>
      cases j with
      | zero => exact absurd rfl hne
      | succ j =>
        simp at e e'; subst e
        rcases h.1 with h1 | h1
        · rw [hd] at h1; cases h1
        · intro he
          exact h1 _ (List.mem_of_getElem? e') (he.trans hd.symm)
    | succ i =>
      cases j with
      | zero =>
        simp at e e'; subst e'
        intro he
        rcases h.1 with h1 | h1
        · rw [he] at h1; cases h1
        · exact h1 _ (List.mem_of_getElem? e) (hd.trans he.symm)
      | succ j => exact ih h.2 i j o o' d (by simpa using e) (by simpa using e') (by omega) hd

variable {P : Program} {l : List Oper} {Q : Exit → Act → World → Prop} {V : Nat → Option Value} {ch : List Nat} {Φ : Nat → List Value → World → Prop} {a0 : Act}

/-- What an operation has left. -/
def out (l : List Oper) (a : Act) (k : Nat) : Value := match l[k]? with
  | some o => (match o.dst with | some d => slot a d | none => undef)
  | none => undef
/-- Each operation of the chain waits for the one ahead of it. -/
def chainB (l : List Oper) : List Nat → Bool
  | i :: j :: r => (match l[j]? with | some o => waits o i | none => false) && chainB l (j :: r)
  | _ => true
/-- What operation k waits for. -/
def depsOf (l : List Oper) (k : Nat) : List Nat := match l[k]? with
  | some o => o.after.toList.filterMap fun e => if Region.binds .any e then some e.on else none
  | none => []
theorem depsOf_waits {l : List Oper} {k i : Nat} (h : i ∈ depsOf l k) : ∃ o, l[k]? = some o ∧ waits o i = true := by
  unfold depsOf at h
  cases hk : l[k]? with
  | none => rw [hk] at h; cases h
  | some o =>
    rw [hk] at h
    refine ⟨o, rfl, ?_⟩
    obtain ⟨e, he, hi⟩ := List.mem_filterMap.1 h
    unfold waits
    refine List.any_eq_true.2 ⟨e, he, ?_⟩
    split at hi
    · rename_i hb
      injection hi with hi
      simp [hi, hb]
    · cases hi
/-- And what these wait for. -/
def needs (l : List Oper) : Nat → List Nat → List Nat
  | 0, N => N
  | i + 1, N => needs l i (if N.contains i then depsOf l i ++ N else N)
theorem needs_came {l : List Oper} {L : Array Bool} (h6 : ∀ (j : Nat) (o' : Oper) (i : Nat), l[j]? = some o' → L.getD j false = true → waits o' i = true → L.getD i false = true) : ∀ (i : Nat) (N : List Nat), (∀ x ∈ N, L.getD x false = true) → ∀ x ∈ needs l i N, L.getD x false = true
  | 0, N, hN => hN
  | i + 1, N, hN => by
    unfold needs
    refine needs_came h6 i _ ?_
    split
    · rename_i hc
      have hi := hN i (List.contains_iff_mem.1 hc)
      intro x hx
      rcases List.mem_append.1 hx with hx | hx
      · obtain ⟨o, ho, hw⟩ := depsOf_waits hx
        exact h6 i o x ho hi hw
      · exact hN x hx
    · exact hN
def needsB (l : List Oper) (x k : Nat) : Bool := (needs l x (depsOf l x)).contains k
theorem needsB_came {l : List Oper} {L : Array Bool} (h6 : ∀ (j : Nat) (o' : Oper) (i : Nat), l[j]? = some o' → L.getD j false = true → waits o' i = true → L.getD i false = true) {x k : Nat} (h : needsB l x k = true) (hx : L.getD x false = true) : L.getD k false = true :=
  needs_came h6 x (depsOf l x) (fun y hy => by obtain ⟨o, ho, hw⟩ := depsOf_waits hy; exact h6 x o y ho hx hw) k (List.contains_iff_mem.1 h)
/-- The last phase in which operation k may come up. -/
def till (l : List Oper) (k : Nat) : List Nat → Nat
  | [] => 0
  | i :: r => if needsB l i k then 0 else till l k r + 1

/-- Whoever writes slot s waits for operation k. -/
def earlyB (l : List Oper) (k : Nat) (s : Tmp) : Bool := (List.range l.length).all fun j => (match l[j]? with | some o => o.dst != some s || needsB l j k | none => true)
theorem early_at {l : List Oper} {k : Nat} {s : Tmp} (h : earlyB l k s = true) {j : Nat} {o : Oper} (ho : l[j]? = some o) (hd : o.dst = some s) : needsB l j k = true := by
  have hj := (List.getElem?_eq_some_iff.1 ho).1
  have := List.all_eq_true.1 h j (List.mem_range.2 hj)
  rw [ho] at this
  simpa [hd] using this
/-- What is known when operation k comes up. -/
structure Cx (l : List Oper) (V : Nat → Option Value) (a0 : Act) (k : Nat) (o : Oper) (a : Act) : Prop where
  base : ∀ s, earlyB l k s = true → slot a s = slot a0 s
  room : a.tmps.size = a0.tmps.size
  dep : ∀ (j : Nat) (o' : Oper) (d : Tmp) (v : Value), l[j]? = some o' → o'.dst = some d → waits o j = true → V j = some v → slot a d = v
theorem Cx.old {k : Nat} {o : Oper} {a : Act} (c : Cx l V a0 k o a) (s : Tmp) {v : Value} (h : earlyB l k s = true) (hv : slot a0 s = v) : slot a s = v := (c.base s h).trans hv
def depB (l : List Oper) (o : Oper) (j : Nat) (d : Tmp) : Bool := waits o j && (match l[j]? with | some o' => o'.dst == some d | none => false)
theorem Cx.get {k : Nat} {o : Oper} {a : Act} (c : Cx l V a0 k o a) (j : Nat) (d : Tmp) {v : Value} (h : depB l o j d = true) (hv : V j = some v) : slot a d = v := by
  unfold depB at h
  simp only [Bool.and_eq_true] at h
  cases ho : l[j]? with
  | none => rw [ho] at h; simp at h
  | some o' =>
    rw [ho] at h
    exact c.dep j o' d v ho (by simpa using h.2) h.1 hv

/-- An operation that reads: it leaves v, whatever has been made so far. -/
def Reads (P : Program) (l : List Oper) (Q : Exit → Act → World → Prop) (V : Nat → Option Value) (ch : List Nat) (Φ : Nat → List Value → World → Prop) (a0 : Act) (k : Nat) (o : Oper) (v : Value) : Prop :=
  ∀ a w j vs, Cx l V a0 k o a → j ≤ till l k ch → Φ j vs w →
    (Region.wanted o (yielded l.toArray a.tmps) = true ∧ o.wp P a w (fun a' w' => a' = a.put o.dst v ∧ w' = w) Q) ∨ (Region.wanted o (yielded l.toArray a.tmps) = false ∧ v = undef)
/-- Operation number i of the chain. -/
def Makes (P : Program) (l : List Oper) (Q : Exit → Act → World → Prop) (V : Nat → Option Value) (ch : List Nat) (Φ : Nat → List Value → World → Prop) (a0 : Act) (i k : Nat) (o : Oper) : Prop :=
  ∀ a w, Cx l V a0 k o a → Φ i ((ch.take i).map (out l a)) w →
    Region.wanted o (yielded l.toArray a.tmps) = true ∧ o.wp P a w (fun a' w' => ∃ v, a' = a.put o.dst v ∧ Φ (i + 1) ((ch.take i).map (out l a) ++ [if o.dst.isSome then v else undef]) w') Q
def Steps (P : Program) (l : List Oper) (Q : Exit → Act → World → Prop) (V : Nat → Option Value) (ch : List Nat) (Φ : Nat → List Value → World → Prop) (a0 : Act) : Nat → List Oper → Prop
  | _, [] => True
  | k, o :: r => (match V k with
    | some v => Reads P l Q V ch Φ a0 k o v
    | none => ∃ i, ch[i]? = some k ∧ Makes P l Q V ch Φ a0 i k o) ∧ Steps P l Q V ch Φ a0 (k + 1) r
theorem steps_at (r : List Oper) : ∀ (k : Nat), Steps P l Q V ch Φ a0 k r → ∀ (j : Nat) (o : Oper), r[j]? = some o → (match V (k + j) with
    | some v => Reads P l Q V ch Φ a0 (k + j) o v
    | none => ∃ i, ch[i]? = some (k + j) ∧ Makes P l Q V ch Φ a0 i (k + j) o) := by
  induction r with
  | nil => intro k _ j o e; simp at e
  | cons x r ih =>
    intro k h j o e
    cases j with
    | zero =>
      simp at e; subst e
      exact h.1
    | succ j =>
      have := ih (k + 1) h.2 j o (by simpa using e)
      rw [show k + (j + 1) = k + 1 + j by omega]; exact this

structure Inv (l : List Oper) (V : Nat → Option Value) (ch : List Nat) (Φ : Nat → List Value → World → Prop) (a0 : Act) (L : Array Bool) (a : Act) (w : World) : Prop where
  size : L.size = l.length
  base : ∀ s, (∀ (j : Nat) (o : Oper), l[j]? = some o → o.dst = some s → L.getD j false = false) → slot a s = slot a0 s
  room : a.tmps.size = a0.tmps.size
  defs : a.defers = a0.defers
  vals : ∀ (k : Nat) (o : Oper) (d : Tmp) (v : Value), l[k]? = some o → o.dst = some d → L.getD k false = true → V k = some v → slot a d = v
  came : ∀ (j : Nat) (o' : Oper) (i : Nat), l[j]? = some o' → L.getD j false = true → waits o' i = true → L.getD i false = true
  phase : ∃ j, j ≤ ch.length ∧ (∀ (i k : Nat), ch[i]? = some k → L.getD k false = decide (i < j)) ∧ Φ j ((ch.take j).map (out l a)) w

theorem getD_set {L : Array Bool} {k i : Nat} (h : L.getD k true = false) : (L.setIfInBounds k true).getD i false = (decide (i = k) || L.getD i false) := by
  by_cases hik : i = k
  · subst hik
    obtain ⟨hs, _⟩ := Reg.getD_false h
    simp [hs]
  · simp [hik, Ne.symm hik]

theorem till_at (k : Nat) : ∀ (ch : List Nat) (j : Nat), (∀ i x, i < j → ch[i]? = some x → needsB l x k = false) → j ≤ ch.length → j ≤ till l k ch
  | [], j, _, hj => by simp at hj; omega
  | x :: r, 0, _, _ => Nat.zero_le _
  | x :: r, j + 1, h, hj => by
    unfold till
    rw [h 0 x (by omega) rfl]
    simp only [Bool.false_eq_true, if_false]
    exact Nat.succ_le_succ (till_at k r j (fun i y hi hy => h (i + 1) y (by omega) (by simpa using hy)) (by simpa using hj))

theorem chain_at : ∀ (ch : List Nat), chainB l ch = true → ∀ (i x y : Nat) (o : Oper), ch[i]? = some x → ch[i + 1]? = some y → l[y]? = some o → waits o x = true
  | [], _, i, x, y, o, e, _, _ => by simp at e
  | [a], _, i, x, y, o, e, e', _ => by simp at e'
  | a :: b :: r, h, i, x, y, o, e, e', ho => by
    simp only [chainB, Bool.and_eq_true] at h
    cases i with
    | zero =>
      simp at e e'
      subst e e'
      rw [ho] at h
      exact h.1
    | succ i => exact chain_at (b :: r) h.2 i x y o (by simpa using e) (by simpa using e') ho

theorem out_put {a : Act} {k i : Nat} {o : Oper} {v : Value} (hap : apartC l = true) (ho : l[k]? = some o) (hne : i ≠ k) : out l (a.put o.dst v) i = out l a i := by
  unfold out
  cases hi : l[i]? with
  | none => rfl
  | some o' =>
    simp only
    cases hd : o'.dst with
    | none => rfl
    | some d =>
      simp only
      cases hk : o.dst with
      | none => rfl
      | some d' =>
        refine slot_put_ne fun e => ?_
        subst e
        exact apartC_at l hap i k o' o d' hi ho hne hd hk

/-- What stays whoever comes up. -/
theorem inv_put {k : Nat} {o : Oper} {L : Array Bool} {a : Act} {w w' : World} {v : Value} (hap : apartC l = true) (hsz : ∀ (i : Nat) (o : Oper) (d : Tmp), l[i]? = some o → o.dst = some d → d < a0.tmps.size)
    (ho : l[k]? = some o) (hk : L.getD k true = false) (hcm : ∀ j, waits o j = true → L.getD j false = true) (hI : Inv l V ch Φ a0 L a w) (hv : ∀ u, V k = some u → v = u)
    (hph : ∃ j, j ≤ ch.length ∧ (∀ (i x : Nat), ch[i]? = some x → (L.setIfInBounds k true).getD x false = decide (i < j)) ∧ Φ j ((ch.take j).map (out l (a.put o.dst v))) w') : Inv l V ch Φ a0 (L.setIfInBounds k true) (a.put o.dst v) w' := by
  obtain ⟨h1, h2, h3, h4, h5, h6, _⟩ := hI
  refine ⟨by simp [h1], fun s hs => ?_, by rw [put_size]; exact h3, by rw [put_defers]; exact h4, fun j o' d u hj hd hl hu => ?_, fun j o' i hj hl hw => ?_, hph⟩
  · have hs' : ∀ (j : Nat) (o : Oper), l[j]? = some o → o.dst = some s → L.getD j false = false := fun j o' hj hd => by
      have := hs j o' hj hd
      rw [getD_set hk, Bool.or_eq_false_iff] at this
      exact this.2
    cases hd : o.dst with
    | none => exact h2 s hs'
    | some d =>
      rw [slot_put_ne (fun e => by
        subst e
        have := hs k o ho hd
        rw [getD_set hk] at this
        simp at this)]
      exact h2 s hs'
  · rw [getD_set hk] at hl
    by_cases hjk : j = k
    · subst hjk
      rw [ho] at hj
      injection hj with hj
      subst hj
      rw [hd, slot_put (by rw [h3]; exact hsz j o d ho hd)]
      exact hv u hu
    · have hl' : L.getD j false = true := by simpa [hjk] using hl
      cases hd' : o.dst with
      | none => exact h5 j o' d u hj hd hl' hu
      | some d' =>
        rw [slot_put_ne fun e => by subst e; exact apartC_at l hap j k o' o d' hj ho hjk hd hd']
        exact h5 j o' d u hj hd hl' hu
  · rw [getD_set hk] at hl ⊢
    by_cases hjk : j = k
    · subst hjk
      rw [ho] at hj
      injection hj with hj
      subst hj
      rw [hcm i hw]; simp
    · rw [h6 j o' i hj (by simpa [hjk] using hl) hw]; simp

/-- All ways of such a region. -/
theorem any_chain {w : World} (V : Nat → Option Value) (ch : List Nat) (Φ : Nat → List Value → World → Prop) (hap : apartC l = true) (hor : orderB 0 l = true) (hsz : (l.all fun o => match o.dst with | some d => decide (d < a0.tmps.size) | none => true) = true)
    (hch : chainB l ch = true) (hnd : ch.Nodup) (hnv : (ch.all fun k => (V k).isNone && decide (k < l.length)) = true) (h0 : Φ 0 [] w.drew) (hsteps : Steps P l Q V ch Φ a0 0 l)
    (hdone : ∀ a w, (∀ s, unwritten l.toArray s = true → slot a s = slot a0 s) → a.tmps.size = a0.tmps.size → a.defers = a0.defers → Φ ch.length (ch.map (out l a)) w → (∀ (k : Nat) (o : Oper) (d : Tmp) (v : Value), l[k]? = some o → o.dst = some d → V k = some v → slot a d = v) → Q .normal a w) :
    wpAny P .any l.toArray Q l.toArray.size (Array.replicate l.toArray.size false) a0 w.drew := by
  have hsz' : ∀ (i : Nat) (o : Oper) (d : Tmp), l[i]? = some o → o.dst = some d → d < a0.tmps.size := by
    intro i o d ho hd
    have := List.all_eq_true.1 hsz o (List.mem_of_getElem? ho)
    rw [hd] at this
    simpa using this
  have hnv' : ∀ (i k : Nat), ch[i]? = some k → V k = none ∧ k < l.length := by
    intro i k hk
    have := List.all_eq_true.1 hnv k (List.mem_of_getElem? hk)
    simpa using this
  refine Reg.any_inv (Inv l V ch Φ a0) ?_ ?_ ?_
  · refine ⟨by simp, fun _ _ => rfl, rfl, rfl, fun k o d v _ _ hl => ?_, fun j o i _ hl => ?_, 0, Nat.zero_le _, fun i k hk => ?_, h0⟩
    · by_cases hk : k < l.length <;> simp [hk] at hl
    · by_cases hj : j < l.length <;> simp [hj] at hl
    · by_cases hkl : k < l.length <;> simp [hkl]
  · intro L a' w' hI hready
    obtain ⟨h1, h2, h3, h4, h5, h6, j, hj, hph, hΦ⟩ := hI
    have hall : ∀ j, j < l.length → L.getD j false = true := by
      intro j
      induction j using Nat.strongRecOn with
      | _ j ih =>
        intro hj
        have ho : l[j]? = some l[j] := List.getElem?_eq_getElem hj
        refine Reg.none_ready (by simpa using h1) hready (o := l[j]) (by simp) fun e he hb => ?_
        have hlt := order_at l 0 hor j _ ho e he hb
        exact ih e.on (by omega) (by omega)
    have hjl : j = ch.length := by
      rcases Nat.lt_or_ge j ch.length with h | h
      · have hk : ch[j]? = some ch[j] := List.getElem?_eq_getElem h
        have := hph j ch[j] hk
        rw [hall _ (hnv' j _ hk).2] at this
        simp at this
      · omega
    subst hjl
    rw [List.take_length] at hΦ
    have h2' : ∀ s, unwritten l.toArray s = true → slot a' s = slot a0 s := fun s hs => h2 s fun j o ho hd => absurd hd (unwritten_ne (ops := l.toArray) hs (i := j) (o := o) (by simpa using ho))
    refine hdone a' w' h2' h3 h4 hΦ fun k o d v ho hd hv => h5 k o d v ho hd (hall k ?_) hv
    exact (List.getElem?_eq_some_iff.1 ho).1
  · intro L a' w' k hI hk
    obtain ⟨hun, o, ho', hdep⟩ := mem_ready.1 hk
    have ho : l[k]? = some o := by simpa using ho'
    have hI' := hI
    obtain ⟨h1, h2, h3, h4, h5, h6, j, hj, hph, hΦ⟩ := hI
    have hcame : ∀ j, waits o j = true → L.getD j false = true := by
      intro j hj
      unfold waits at hj
      obtain ⟨e, he, hb⟩ := List.any_eq_true.1 hj
      simp only [Bool.and_eq_true, beq_iff_eq] at hb
      have := hdep e (by simpa using he) hb.2
      rw [hb.1] at this
      exact this
    have hun' : L.getD k false = false := by
      obtain ⟨hs, hf⟩ := Reg.getD_false hun
      simp [hs, hf]
    have hearly : ∀ s, earlyB l k s = true → slot a' s = slot a0 s := fun s hs => h2 s fun j o' hj hd => by
      have hn := early_at hs hj hd
      rw [Bool.eq_false_iff]
      intro hl
      have := needsB_came h6 hn hl
      rw [hun'] at this
      exact Bool.false_ne_true this
    have cx : Cx l V a0 k o a' := ⟨hearly, h3, fun j o' d v hj hd hw hv => h5 j o' d v hj hd (hcame j hw) hv⟩
    have hs := steps_at l 0 hsteps k o ho
    rw [Nat.zero_add] at hs
    unfold wpOp
    simp only [ho']
    cases hV : V k with
    | some v =>
      rw [hV] at hs
      have hnc : ∀ (i x : Nat), ch[i]? = some x → x ≠ k := fun i x hx e => by
        subst e
        rw [(hnv' i x hx).1] at hV; cases hV
      have htill : j ≤ till l k ch := till_at k ch j (fun i x hi hx => by
        rw [Bool.eq_false_iff]
        intro hw
        have h7 := hph i x hx
        rw [decide_eq_true hi] at h7
        have := needsB_came h6 hw h7
        rw [hun'] at this; cases this) hj
      have hph' : ∃ j, j ≤ ch.length ∧ (∀ (i x : Nat), ch[i]? = some x → (L.setIfInBounds k true).getD x false = decide (i < j)) ∧ Φ j ((ch.take j).map (out l (a'.put o.dst v))) w' := by
        refine ⟨j, hj, fun i x hx => ?_, ?_⟩
        · rw [getD_set hun, hph i x hx, decide_eq_false (hnc i x hx), Bool.false_or]
        · rw [List.map_congr_left (g := out l a')]
          · exact hΦ
          · intro x hx
            obtain ⟨i, hi⟩ := List.mem_iff_getElem?.1 (List.mem_of_mem_take hx)
            exact out_put hap ho (hnc i x hi)
      rcases hs a' w' j _ cx htill hΦ with ⟨hw, hs⟩ | ⟨hw, hv⟩
      · rw [if_pos hw]
        refine .inl (Oper.wp_mono (fun a'' w'' ⟨ha, hw''⟩ => ?_) hs)
        subst ha hw''
        exact inv_put hap hsz' ho hun hcame hI' (fun u hu => by rw [hV] at hu; injection hu) hph'
      · rw [if_neg (by rw [hw]; exact Bool.false_ne_true)]
        subst hv
        exact inv_put hap hsz' ho hun hcame hI' (fun u hu => by rw [hV] at hu; injection hu) hph'
    | none =>
      rw [hV] at hs
      obtain ⟨i, hi, hs⟩ := hs
      have hij : i = j := by
        have h7 := hph i k hi
        rw [hun'] at h7
        have h8 : ¬ i < j := by
          intro h; rw [decide_eq_true h] at h7; cases h7
        cases i with
        | zero => omega
        | succ i =>
          have hil : i < ch.length := by have := (List.getElem?_eq_some_iff.1 hi).1; omega
          have h9 := chain_at ch hch i ch[i] k o (List.getElem?_eq_getElem hil) hi ho
          have h10 := hph i ch[i] (List.getElem?_eq_getElem hil)
          rw [hcame _ h9] at h10
          have : i < j := by simpa using h10.symm
          omega
      subst hij
      obtain ⟨hw, hs⟩ := hs a' w' cx hΦ
      rw [if_pos hw]
      refine .inl (Oper.wp_mono (fun a'' w'' ⟨v, ha, hΦ'⟩ => ?_) hs)
      subst ha
      have hil : i < ch.length := (List.getElem?_eq_some_iff.1 hi).1
      have hik : ch[i] = k := (List.getElem?_eq_some_iff.1 hi).2
      refine inv_put hap hsz' ho hun hcame hI' (fun u hu => by rw [hV] at hu; cases hu) ⟨i + 1, hil, fun i' x hx => ?_, ?_⟩
      · rw [getD_set hun, hph i' x hx]
        by_cases he : x = k
        · subst he
          have hi'l : i' < ch.length := (List.getElem?_eq_some_iff.1 hx).1
          have hi'k : ch[i'] = x := (List.getElem?_eq_some_iff.1 hx).2
          have : i' = i := (List.getElem_inj hnd).1 (hi'k.trans hik.symm)
          subst this
          simp
        · have : i' ≠ i := fun e => he (by subst e; rw [hi] at hx; injection hx with hx; exact hx.symm)
          rw [decide_eq_false he, Bool.false_or, decide_eq_decide]
          omega
      · rw [List.take_succ_eq_append_getElem hil, List.map_append, List.map_cons, List.map_nil, hik]
        have hm1 : (ch.take i).map (out l (a'.put o.dst v)) = (ch.take i).map (out l a') := List.map_congr_left fun x hx => by
          obtain ⟨i', hi'⟩ := List.mem_iff_getElem?.1 hx
          refine out_put hap ho fun e => ?_
          subst e
          have hlt : i' < i := by
            have := (List.getElem?_eq_some_iff.1 hi').1
            rw [List.length_take] at this; omega
          rw [List.getElem?_take, if_pos hlt] at hi'
          have hi'l : i' < ch.length := by omega
          rw [List.getElem?_eq_getElem hi'l] at hi'
          injection hi' with hi'
          have := (List.getElem_inj hnd).1 (hi'.trans hik.symm)
          omega
        rw [hm1]
        have hout : out l (a'.put o.dst v) k = if o.dst.isSome then v else undef := by
          unfold out
          rw [ho]
          simp only
          cases hd : o.dst with
          | none => rfl
          | some d =>
            show slot (a'.put (some d) v) d = v
            exact slot_put (by rw [h3]; exact hsz' k o d ho hd)
        rw [hout]
        exact hΦ'

/-- THE LAW. -/
theorem wp_region_chain {id : Nat} {w : World} (V : Nat → Option Value) (ch : List Nat) (Φ : Nat → List Value → World → Prop) (hm : P.follows .mixedOrders = true) (hap : apartC l = true) (hor : orderB 0 l = true) (hsz : (l.all fun o => match o.dst with | some d => decide (d < a0.tmps.size) | none => true) = true)
    (hch : chainB l ch = true) (hnd : ch.Nodup) (hnv : (ch.all fun k => (V k).isNone && decide (k < l.length)) = true) (h0 : Φ 0 [] w.drew) (hsteps : Steps P l Q V ch Φ a0 0 l)
    (hdone : ∀ a w, (∀ s, unwritten l.toArray s = true → slot a s = slot a0 s) → a.tmps.size = a0.tmps.size → a.defers = a0.defers → Φ ch.length (ch.map (out l a)) w → (∀ (k : Nat) (o : Oper) (d : Tmp) (v : Value), l[k]? = some o → o.dst = some d → V k = some v → slot a d = v) → Q .normal a w) :
    (Code.region id l.toArray true).wp P Q a0 w :=
  wp_region_any hm (any_chain V ch Φ hap hor hsz hch hnd hnv h0 hsteps hdone)

/-- The frame behind a region: what it wrote, put into the frame ahead of it. -/
theorem puts_at (a : Act) : ∀ (ds : List Tmp) (b : Act) (i : Nat), (ds.foldl (fun A d => A.put (some d) (slot a d)) b).tmps[i]? = if i ∈ ds ∧ i < b.tmps.size then some (slot a i) else b.tmps[i]?
  | [], b, i => by simp
  | d :: ds, b, i => by
    rw [List.foldl_cons, puts_at a ds (b.put (some d) (slot a d)) i, put_size]
    by_cases h1 : i ∈ ds ∧ i < b.tmps.size
    · rw [if_pos h1, if_pos ⟨List.mem_cons_of_mem _ h1.1, h1.2⟩]
    · rw [if_neg h1]
      by_cases h2 : i = d
      · subst h2
        by_cases h3 : i < b.tmps.size
        · rw [if_pos ⟨List.mem_cons_self, h3⟩]
          simp [Act.put, h3]
        · rw [if_neg fun h => h3 h.2]
          simp [Act.put, h3]
      · have h4 : (b.put (some d) (slot a d)).tmps[i]? = b.tmps[i]? := by
          simp only [Act.put]
          rw [Array.getElem?_setIfInBounds_ne (fun e => h2 e.symm)]
        rw [h4, if_neg]
        rintro ⟨h5, h6⟩
        rcases List.mem_cons.1 h5 with h5 | h5
        · exact h2 h5
        · exact h1 ⟨h5, h6⟩
theorem puts_defers (a : Act) : ∀ (ds : List Tmp) (b : Act), (ds.foldl (fun A d => A.put (some d) (slot a d)) b).defers = b.defers
  | [], b => rfl
  | d :: ds, b => by rw [List.foldl_cons, puts_defers a ds, put_defers]
theorem act_puts {a : Act} (ds : List Tmp) (hb : ∀ s, unwritten l.toArray s = true → slot a s = slot a0 s) (hr : a.tmps.size = a0.tmps.size) (hd : a.defers = a0.defers)
    (hl : ((List.range a0.tmps.size).all fun i => ds.contains i || unwritten l.toArray i) = true) : a = ds.foldl (fun A d => A.put (some d) (slot a d)) a0 := by
  have hp := puts_at a ds a0
  have hpd := puts_defers a ds a0
  generalize ds.foldl (fun A d => A.put (some d) (slot a d)) a0 = b at *
  obtain ⟨tm, df⟩ := a
  obtain ⟨tb, db⟩ := b
  simp only at hd hpd
  subst hd hpd
  congr 1
  apply Array.ext_getElem?
  intro i
  have h1 := hp i
  simp only at h1
  rw [h1]
  by_cases hi : i < a0.tmps.size
  · have h3 := List.all_eq_true.1 hl i (List.mem_range.2 hi)
    have hit : i < tm.size := by simp only at hr; omega
    have hs : slot { tmps := tm, defers := a0.defers } i = tm[i] := by
      unfold slot
      simp [hit]
    by_cases hc : i ∈ ds
    · rw [if_pos ⟨hc, hi⟩, hs, Array.getElem?_eq_getElem hit]
    · rw [if_neg fun h => hc h.1]
      have hu : unwritten l.toArray i = true := by
        rcases Bool.or_eq_true _ _ ▸ h3 with h4 | h4
        · exact absurd (List.contains_iff_mem.1 h4) hc
        · exact h4
      have h5 := hb i hu
      rw [hs] at h5
      have h6 : slot a0 i = a0.tmps[i] := by
        unfold slot
        simp [hi]
      rw [Array.getElem?_eq_getElem hit, Array.getElem?_eq_getElem hi, h5, h6]
  · rw [if_neg fun h => hi h.2, Array.getElem?_eq_none (by simp only at hr; omega), Array.getElem?_eq_none (by omega)]

/-! ### One operation more -/

theorem wanted_not {o : Oper} {a : Act} {ops : Array Oper} {j : Nat} {b : Bool} {d : Tmp} (h : wantB ops o j b d = true) (hv : slot a d = .bool (!b)) : Region.wanted o (yielded ops a.tmps) = false := by
  unfold wantB at h
  simp only [Bool.and_eq_true] at h
  obtain ⟨h1, h2⟩ := h
  cases hg : o.guard with
  | none => rw [hg] at h1; cases h1
  | some g =>
    obtain ⟨j', b'⟩ := g
    rw [hg] at h1
    simp only [Bool.and_eq_true, beq_iff_eq] at h1
    obtain ⟨rfl, rfl⟩ := h1
    cases ho : ops.toList[j']? with
    | none => rw [ho] at h2; cases h2
    | some o' =>
      rw [ho] at h2
      rw [wanted_is hg (by simpa using ho) (by simpa using h2) hv]
      cases b' <;> rfl

section
variable {o : Oper} {a : Act} {w : World} {K : Act → World → Prop}
theorem wp_nc (x : Operand) (ho : o.op = .nilCheck x) {p : Addr} (hx : a.eval x = .pointer (some p)) (h : K (a.put o.dst (.pointer (some p))) w) : o.wp P a w K Q := by
  unfold Oper.wp execOp
  simp only [ho, hx]
  exact h
theorem wp_fa (s : TypeId) (x : Operand) (f : Nat) (ho : o.op = .fieldAddr s x f) {v u : Value} {w' : World} (hx : a.eval x = v) (hr : (Instr.fieldAt s v f).run P w = .ok u w') (h : K (a.put o.dst u) w') : o.wp P a w K Q := by
  unfold Oper.wp execOp
  simp only [ho, hx, Sem.run_bind, hr]
  exact h
theorem wp_st (t : TypeId) (x y : Operand) (ho : o.op = .store t x y) {vx vy : Value} {w' : World} (hx : a.eval x = vx) (hy : a.eval y = vy) (hr : (Instr.storeAt t vx vy).run P w = .ok () w') (h : K (a.put o.dst undef) w') : o.wp P a w K Q := by
  unfold Oper.wp execOp
  simp only [ho, hx, hy, Sem.run_bind, hr]
  exact h
theorem wp_bs (t : TypeId) (n : Nat) (parts : Array (Nat × Operand)) (ho : o.op = .buildSlice t n parts) {u : Value} {w' : World} (hr : (Instr.buildSlice t n (parts.map fun (i, x) => (i, a.eval x))).run P w = .ok u w') (h : K (a.put o.dst u) w') : o.wp P a w K Q := by
  unfold Oper.wp execOp
  simp only [ho, Sem.run_bind, hr]
  exact h
theorem wp_bs0 (t : TypeId) (ho : o.op = .buildSlice t 0 #[]) {u : Value} {w' : World} (hr : (Instr.buildSlice t 0 #[]).run P w = .ok u w') (h : K (a.put o.dst u) w') : o.wp P a w K Q :=
  wp_bs t 0 _ ho (by simpa using hr) h
theorem wp_bs1 (t : TypeId) (x : Operand) (ho : o.op = .buildSlice t 1 #[(0, x)]) {v u : Value} {w' : World} (hx : a.eval x = v) (hr : (Instr.buildSlice t 1 #[(0, v)]).run P w = .ok u w') (h : K (a.put o.dst u) w') : o.wp P a w K Q :=
  wp_bs t 1 _ ho (by subst hx; simpa using hr) h
theorem wp_bd2 (t : TypeId) (i j : Nat) (x y : Operand) (ho : o.op = .build t #[(i, x), (j, y)]) {v u r : Value} {w' : World} (hx : a.eval x = v) (hy : a.eval y = u) (hr : (Instr.build t #[(i, v), (j, u)]).run P w = .ok r w') (h : K (a.put o.dst r) w') : o.wp P a w K Q := by
  subst hx hy
  unfold Oper.wp execOp
  have hm : (#[(i, x), (j, y)] : Array (Nat × Operand)).map (fun (i, x) => (i, a.eval x)) = #[(i, a.eval x), (j, a.eval y)] := by simp
  simp only [ho, Sem.run_bind, hm, hr]
  exact h
theorem wp_bd (t : TypeId) (parts : Array (Nat × Operand)) (ho : o.op = .build t parts) {u : Value} {w' : World} (hr : (Instr.build t (parts.map fun (i, x) => (i, a.eval x))).run P w = .ok u w') (h : K (a.put o.dst u) w') : o.wp P a w K Q := by
  unfold Oper.wp execOp
  simp only [ho, Sem.run_bind, hr]
  exact h
theorem wp_ms (t : TypeId) (x y : Operand) (ho : o.op = .makeSlice t x y) {vx vy u : Value} {w' : World} (hx : a.eval x = vx) (hy : a.eval y = vy) (hr : (Instr.makeSlice t vx vy).run P w = .ok u w') (h : K (a.put o.dst u) w') : o.wp P a w K Q := by
  unfold Oper.wp execOp
  simp only [ho, hx, hy, Sem.run_bind, hr]
  exact h
theorem wp_uo (k : UnOp) (t : TypeId) (x : Operand) (ho : o.op = .unOp k t x) {vx u : Value} {w' : World} (hx : a.eval x = vx) (hr : (Op.unary k vx).run P w = .ok u w') (h : K (a.put o.dst u) w') : o.wp P a w K Q := by
  unfold Oper.wp execOp
  simp only [ho, hx, Sem.run_bind, hr]
  exact h
theorem wp_ap (s x : Operand) (t : TypeId) (ho : o.op = .call { callee := .builtin .append, args := #[s, x], argTypes := #[t, t] }) {vs vx u : Value} {w' : World} (hs : a.eval s = vs) (hx : a.eval x = vx) (hr : (Builtin.append_ #[t, t] o.type #[vs, vx]).run P w = .ok u w') (h : K (a.put o.dst u) w') : o.wp P a w K Q := by
  unfold Oper.wp execOp
  simp only [ho]
  simp [resolve, invoke, builtin, hs, hx]
  rw [hr]
  exact h
end

end Go.Proofs.Ytghglgodkknlnaa.Chn
/- A region that draws its order, by what each slot holds (as RegRel) and by an invariant that sees the slots too: for lists that grow within the region. -/
namespace Go.Proofs.Ytghglgodkknlnaa.Rel
open Go.RowKit

section
variable {P : Program} {ops : Array Oper} {Q : Exit → Act → World → Prop} {G : World → World → Prop} {V : Nat → Kd G} {J : Array Bool → (Tmp → Value) → World → Prop} {a0 : Act}

abbrev Cs (ops : Array Oper) (V : Nat → Kd G) (a0 : Act) (k : Nat) (o : Oper) (L : Array Bool) (a : Act) (w : World) : Prop := Cx ops V (fun _ _ => True) a0 k o L a w
/-- What it leaves. -/
def LeftS (V : Nat → Kd G) (J : Array Bool → (Tmp → Value) → World → Prop) (k : Nat) (o : Oper) (L : Array Bool) (a : Act) (w : World) (a' : Act) (w' : World) : Prop :=
  ∃ v, a' = a.put o.dst v ∧ G w w' ∧ (V k).p w' v ∧ J (L.setIfInBounds k true) (slot (a.put o.dst v)) w'
def StepS (P : Program) (ops : Array Oper) (Q : Exit → Act → World → Prop) (V : Nat → Kd G) (J : Array Bool → (Tmp → Value) → World → Prop) (a0 : Act) (k : Nat) (o : Oper) : Prop :=
  ∀ L a w, Cs ops V a0 k o L a w → J L (slot a) w →
    (Region.wanted o (yielded ops a.tmps) = true ∧ o.wp P a w (LeftS V J k o L a w) Q) ∨
    (Region.wanted o (yielded ops a.tmps) = false ∧ (V k).p w undef ∧ J (L.setIfInBounds k true) (slot (a.put o.dst undef)) w)
def StepsS (P : Program) (ops : Array Oper) (Q : Exit → Act → World → Prop) (V : Nat → Kd G) (J : Array Bool → (Tmp → Value) → World → Prop) (a0 : Act) : Nat → List Oper → Prop
  | _, [] => True
  | k, o :: l => StepS P ops Q V J a0 k o ∧ StepsS P ops Q V J a0 (k + 1) l
theorem stepsS_at (l : List Oper) : ∀ (k : Nat), StepsS P ops Q V J a0 k l → ∀ (j : Nat) (o : Oper), l[j]? = some o → StepS P ops Q V J a0 (k + j) o := by
  induction l with
  | nil => intro k _ j o e; simp at e
  | cons x l ih =>
    intro k h j o e
    cases j with
    | zero =>
      simp at e; subst e
      exact h.1
    | succ j =>
      have := ih (k + 1) h.2 j o (by simpa using e)
      rw [show k + (j + 1) = k + 1 + j by omega]; exact this

/-- THE LAW. -/
theorem wp_region_see {id : Nat} {w : World} {l : List Oper} (V : Nat → Kd G) (J : Array Bool → (Tmp → Value) → World → Prop) (hm : P.follows .mixedOrders = true) (hap : apartB l = true) (hor : orderB 0 l = true) (hsz : (l.all fun o => match o.dst with | some d => decide (d < a0.tmps.size) | none => true) = true)
    (hGr : ∀ w, G w w) (h0 : J (Array.replicate l.length false) (slot a0) w.drew) (hsteps : StepsS P l.toArray Q V J a0 0 l)
    (hdone : ∀ a w, (∀ s, unwritten l.toArray s = true → slot a s = slot a0 s) → a.tmps.size = a0.tmps.size → a.defers = a0.defers → J (Array.replicate l.length true) (slot a) w → (∀ (j : Nat) (o : Oper) (d : Tmp), l[j]? = some o → o.dst = some d → (V j).p w (slot a d)) → Q .normal a w) :
    (Code.region id l.toArray true).wp P Q a0 w := by
  have hsz' : ∀ (i : Nat) (o : Oper) (d : Tmp), l.toArray[i]? = some o → o.dst = some d → d < a0.tmps.size := by
    intro i o d ho hd
    have := List.all_eq_true.1 hsz o (List.mem_of_getElem? (by simpa using ho))
    rw [hd] at this
    simpa using this
  refine Reg.wp_region_inv (fun L a w => Inv l.toArray V (fun _ _ => True) a0 L a w ∧ J L (slot a) w) hm ?_ ?_ ?_
  · exact ⟨⟨by simp, fun _ _ => rfl, rfl, rfl, trivial, fun j o d _ _ hl => by
      by_cases hj : j < l.length <;> simp [hj] at hl, fun j o i _ hl _ => by
      by_cases hj : j < l.length <;> simp [hj] at hl⟩, by simpa using h0⟩
  · intro L a' w' hI hready
    obtain ⟨⟨h1, h2, h3, h4, _, h6, h7⟩, h5⟩ := hI
    have hall : ∀ j, j < l.length → L.getD j false = true := by
      intro j
      induction j using Nat.strongRecOn with
      | _ j ih =>
        intro hj
        have ho : l[j]? = some l[j] := List.getElem?_eq_getElem hj
        refine Reg.none_ready (by exact h1) hready (o := l[j]) (by simp) fun e he hb => ?_
        have hlt := order_at l 0 hor j _ ho e he hb
        exact ih e.on (by omega) (by omega)
    have hL : L = Array.replicate l.length true := by
      apply Array.ext
      · simpa using h1
      · intro i hi1 hi2
        have := hall i (by simpa using hi2)
        simp [hi1] at this
        simp [this]
    subst hL
    exact hdone a' w' h2 h3 h4 h5 fun j o d hj hd => h6 j o d (by simpa using hj) hd (hall j (by
      rcases Nat.lt_or_ge j l.length with h | h
      · exact h
      · rw [List.getElem?_eq_none h] at hj; cases hj))
  · intro L a' w' i hI hi
    obtain ⟨hI, hJ0⟩ := hI
    obtain ⟨hun, o, ho, hdep⟩ := mem_ready.1 hi
    have hI' := hI
    obtain ⟨h1, h2, h3, h4, h5, h6, h7⟩ := hI
    have hcame : ∀ j, waits o j = true → L.getD j false = true := by
      intro j hj
      unfold waits at hj
      obtain ⟨e, he, hb⟩ := List.any_eq_true.1 hj
      simp only [Bool.and_eq_true, beq_iff_eq] at hb
      have := hdep e (by simpa using he) hb.2
      rw [hb.1] at this
      exact this
    have hs := stepsS_at l 0 hsteps i o (by simpa using ho)
    rw [Nat.zero_add] at hs
    replace hs := hs L a' w' ⟨h1, hun, h2, h3, h5, fun j o' d hj hd hw => h6 j o' d hj hd (hcame j hw), hcame, h7⟩ hJ0
    unfold wpOp
    simp only [ho]
    rcases hs with ⟨hw, hs⟩ | ⟨hw, hv, hJ⟩
    · rw [if_pos hw]
      exact .inl (Oper.wp_mono (fun a'' w'' ⟨v, ha, hG, hv, hJ⟩ => by subst ha; exact ⟨inv_step (by simpa using hap) hsz' ho hun hcame hI' hG hv trivial, hJ⟩) hs)
    · rw [if_neg (by rw [hw]; exact Bool.false_ne_true)]
      exact ⟨inv_step (by simpa using hap) hsz' ho hun hcame hI' (hGr w') hv trivial, hJ⟩
end

/-! ### Words for what J sees -/

theorem set_ne {L : Array Bool} {k i : Nat} (h : k ≠ i) : (L.setIfInBounds k true).getD i false = L.getD i false := by
  rw [Array.getD_eq_getD_getElem?, Array.getElem?_setIfInBounds, if_neg h, ← Array.getD_eq_getD_getElem?]
theorem set_eq {L : Array Bool} {k n : Nat} (h : L.size = n) (hk : k < n) : (L.setIfInBounds k true).getD k false = true := by
  subst h
  simp [hk]
theorem free_no {L : Array Bool} {k : Nat} (h : L.getD k true = false) : L.getD k false = false := by
  by_cases hk : k < L.size
  · simp [hk] at h ⊢; exact h
  · simp [hk]
/-- Whatever waits for what comes up has not come up; nor has what waits for such. -/
theorem Cx.later {ops : Array Oper} {G : World → World → Prop} {V : Nat → Kd G} {J : Array Bool → World → Prop} {a0 : Act} {k : Nat} {o : Oper} {L : Array Bool} {a : Act} {w : World} (c : Cx ops V J a0 k o L a w) (j : Nat) (h : waitsAt ops j k = true) : L.getD j false = false := by
  cases hj : L.getD j false with
  | false => rfl
  | true =>
    have := c.via j k h hj
    rw [free_no c.free] at this
    cases this
theorem Cx.later2 {ops : Array Oper} {G : World → World → Prop} {V : Nat → Kd G} {J : Array Bool → World → Prop} {a0 : Act} {k : Nat} {o : Oper} {L : Array Bool} {a : Act} {w : World} (c : Cx ops V J a0 k o L a w) (j i : Nat) (h : waitsAt ops j i = true) (hi : L.getD i false = false) : L.getD j false = false := by
  cases hj : L.getD j false with
  | false => rfl
  | true =>
    have := c.via j i h hj
    rw [hi] at this
    cases this
/-- The world goes on, whatever it changes. -/
def Gt (_ _ : World) : Prop := True
theorem gt_refl (w : World) : Gt w w := trivial
end Go.Proofs.Ytghglgodkknlnaa.Rel
/- Up to three appends within one another, append(append(append(v, x..), y..), z..), in a region that draws its order: the parts are lists made in the region, or such that were there. -/
namespace Go.Proofs.Ytghglgodkknlnaa.Nest
open Go.RowKit
open Go.Sort
open Kit
open Rel (slot)
set_option linter.unusedVariables false
variable {α : Type} {enc : α → List Value} {size : Nat} {T : TypeId} {w0 w w' : World} {v0 vd : Value} {l0 p1 p2 p3 : List α}

def cur (b1 b2 b3 : Bool) (v0 u1 u2 u3 : Value) : Value := cond b3 u3 (cond b2 u2 (cond b1 u1 v0))
def lst (b1 b2 b3 : Bool) (l0 p1 p2 p3 : List α) : List α := cond b3 (l0 ++ p1 ++ p2 ++ p3) (cond b2 (l0 ++ p1 ++ p2) (cond b1 (l0 ++ p1) l0))
/-- A part that can be read, whatever is written into v's block. -/
def Part (enc : α → List Value) (size : Nat) (w : World) (v t : Value) (p : List α) : Prop :=
  ∃ ad c, t = .slice ad p.length c ∧ Kit.Row enc size w ad p ∧ (ad = none → p.length = 0 ∧ c = 0) ∧ ∀ q, ad = some q → p ≠ [] → v.ownBlock ≠ some q.block ∧ q.block < w.heap.size
def Lit (enc : α → List Value) (size : Nat) (w : World) (c b : Bool) (v t : Value) (p : List α) : Prop := c = true → b = false → Part enc size w v t p
theorem row_grown (hs : ∀ x, (enc x).length = size) {ad : Option Addr} {l : List α} {r : Option Nat} (h : Kit.Row enc size w ad l) (hg : w.grownBy w' r) (hq : ∀ q, ad = some q → l ≠ [] → r ≠ some q.block ∧ q.block < w.heap.size) : Kit.Row enc size w' ad l := by
  by_cases hl : l = []
  · exact .inl hl
  rcases h with h | ⟨b, off, h1, h2⟩
  · exact .inl h
  · refine .inr ⟨b, off, h1, fun j hj i hi => ?_⟩
    rw [← h2 j hj i hi]
    obtain ⟨g1, g2⟩ := hq _ h1 hl
    exact World.cell?_of_block (hg.block b g2 (Ne.symm g1))
theorem part_on (hs : ∀ x, (enc x).length = size) {v t : Value} {p : List α} (h : Part enc size w v t p) (hb : Below w.heap.size w w') : Part enc size w' v t p := by
  obtain ⟨ad, c, e, hr, hn, hq⟩ := h
  exact ⟨ad, c, e, row_keep hs hr hb, hn, fun q hq' hl => ⟨(hq q hq' hl).1, Nat.lt_of_lt_of_le (hq q hq' hl).2 hb.size⟩⟩
theorem part_grown (hs : ∀ x, (enc x).length = size) {v t u : Value} {p : List α} (h : Part enc size w v t p) (hg : w.grownBy w' v.ownBlock) (hu : u.ownBlock = v.ownBlock ∨ u.ownBlock = some w.heap.size) : Part enc size w' u t p := by
  obtain ⟨ad, c, e, hr, hn, hq⟩ := h
  refine ⟨ad, c, e, row_grown hs hr hg hq, hn, fun q hq' hl => ⟨?_, Nat.lt_of_lt_of_le (hq q hq' hl).2 hg.size⟩⟩
  obtain ⟨g1, g2⟩ := hq q hq' hl
  rcases hu with hu | hu
  · rw [hu]; exact g1
  · rw [hu]
    intro e
    injection e with e
    omega
theorem own_on {base : Nat} {v : Value} {l : List α} (h : Owns enc size T w base v l) (hb : Below w.heap.size w w') : Owns enc size T w' base v l := by
  rcases h with ⟨h1, h2 | ⟨g, cap, cur, e1, e2, e3, e4, e5, e6, e7⟩⟩
  · exact ⟨h1, .inl h2⟩
  · exact ⟨h1, .inr ⟨g, cap, cur, e1, e2, by rw [hb.block g (Array.getElem?_eq_some_iff.1 e3).1]; exact e3, e4, e5, e6, e7⟩⟩
theorem own_lt {base : Nat} {v : Value} {l : List α} (h : Owns enc size T w base v l) (g : Nat) (hg : v.ownBlock = some g) : g < w.heap.size := (World.ownsRow.lt h g hg).2

/-- The indices and slots: appends i1 d1, i2 d2, i3 d3; parts m1 t1, m2 t2, m3 t3; the last assignment ia, of slot dl to slot da. Where there are only two appends i3, m3, d3, t3 are beyond all. -/
structure At where
  i1 : Nat
  d1 : Nat
  i2 : Nat
  d2 : Nat
  i3 : Nat
  d3 : Nat
  m1 : Nat
  t1 : Nat
  m2 : Nat
  t2 : Nat
  m3 : Nat
  t3 : Nat
  ia : Nat
  da : Nat
  dl : Nat
def At.idx (n : At) : List Nat := [n.i1, n.i2, n.i3, n.m1, n.m2, n.m3, n.ia]
def At.dst (n : At) : List Nat := [n.d1, n.d2, n.d3, n.t1, n.t2, n.t3, n.da, n.dl]
structure J (n : At) (enc : α → List Value) (size : Nat) (T : TypeId) (w0 : World) (v0 vd : Value) (l0 p1 p2 p3 : List α) (L : Array Bool) (s : Nat → Value) (w : World) : Prop where
  below : Below w0.heap.size w0 w
  own : Owns enc size T w w0.heap.size (cur (L.getD n.i1 false) (L.getD n.i2 false) (L.getD n.i3 false) v0 (s n.d1) (s n.d2) (s n.d3)) (lst (L.getD n.i1 false) (L.getD n.i2 false) (L.getD n.i3 false) l0 p1 p2 p3)
  one : Lit enc size w (L.getD n.m1 false) (L.getD n.i1 false) (cur (L.getD n.i1 false) (L.getD n.i2 false) (L.getD n.i3 false) v0 (s n.d1) (s n.d2) (s n.d3)) (s n.t1) p1
  two : Lit enc size w (L.getD n.m2 false) (L.getD n.i2 false) (cur (L.getD n.i1 false) (L.getD n.i2 false) (L.getD n.i3 false) v0 (s n.d1) (s n.d2) (s n.d3)) (s n.t2) p2
  three : Lit enc size w (L.getD n.m3 false) (L.getD n.i3 false) (cur (L.getD n.i1 false) (L.getD n.i2 false) (L.getD n.i3 false) v0 (s n.d1) (s n.d2) (s n.d3)) (s n.t3) p3
  old : L.getD n.ia false = false → s n.da = vd
  new : L.getD n.ia false = true → s n.da = s n.dl
theorem lit_on (hs : ∀ x, (enc x).length = size) {c b : Bool} {v t : Value} {p : List α} (h : Lit enc size w c b v t p) (hb : Below w.heap.size w w') : Lit enc size w' c b v t p := fun h1 h2 => part_on hs (h h1 h2) hb
/-- At the start. -/
theorem start (n : At) (k : Nat) (s : Nat → Value) (hd : s n.da = vd) (ho : Owns enc size T w w0.heap.size v0 l0) (hb : Below w0.heap.size w0 w) : J n enc size T w0 v0 vd l0 p1 p2 p3 (Array.replicate k false) s w := by
  have e : ∀ i, (Array.replicate k false).getD i false = false := by
    intro i
    by_cases h : i < k <;> simp [h]
  refine ⟨hb, ?_, ?_, ?_, ?_, fun _ => hd, fun h => by rw [e] at h; cases h⟩
  · rw [e, e, e]; exact ho
  · intro h; rw [e] at h; cases h
  · intro h; rw [e] at h; cases h
  · intro h; rw [e] at h; cases h
variable {n : At} {L : Array Bool} {a : Act}
def farB (k : Nat) (l : List Nat) : Bool := l.all fun i => k != i
/-- An operation that is none of these. -/
theorem go (hs : ∀ x, (enc x).length = size) {k d : Nat} {v : Value} (h : J n enc size T w0 v0 vd l0 p1 p2 p3 L (slot a) w) (hk : farB k n.idx = true) (hd : farB d n.dst = true) (hb : Below w.heap.size w w') : J n enc size T w0 v0 vd l0 p1 p2 p3 (L.setIfInBounds k true) (slot (a.put (some d) v)) w' := by
  simp only [farB, At.idx, At.dst, List.all_cons, List.all_nil, Bool.and_true, Bool.and_eq_true, bne_iff_ne, ne_eq] at hk hd
  obtain ⟨k1, k2, k3, k4, k5, k6, k7⟩ := hk
  obtain ⟨d1, d2, d3, d4, d5, d6, d7, d8⟩ := hd
  obtain ⟨h1, h2, h3, h4, h5, h6, h7⟩ := h
  refine ⟨h1.trans (hb.mono h1.size), ?_, ?_, ?_, ?_, ?_, ?_⟩
  all_goals simp only [Rel.set_ne k1, Rel.set_ne k2, Rel.set_ne k3, Rel.set_ne k4, Rel.set_ne k5, Rel.set_ne k6, Rel.set_ne k7, Rel.slot_put_ne d1, Rel.slot_put_ne d2, Rel.slot_put_ne d3, Rel.slot_put_ne d4, Rel.slot_put_ne d5, Rel.slot_put_ne d6, Rel.slot_put_ne d7, Rel.slot_put_ne d8]
  · exact own_on h2 hb
  · exact lit_on hs h3 hb
  · exact lit_on hs h4 hb
  · exact lit_on hs h5 hb
  · exact h6
  · exact h7
/-- A part comes up. -/
theorem mk1 (hs : ∀ x, (enc x).length = size) {u : Value} (h : J n enc size T w0 v0 vd l0 p1 p2 p3 L (slot a) w) (hk : farB n.m1 [n.i1, n.i2, n.i3, n.m2, n.m3, n.ia] = true) (hd : farB n.t1 [n.d1, n.d2, n.d3, n.t2, n.t3, n.da, n.dl] = true) (ht : n.t1 < a.tmps.size) (hb : Below w.heap.size w w')
    (hp : ∀ v, (∀ g, v.ownBlock = some g → g < w.heap.size ∧ w0.heap.size ≤ g) → Part enc size w' v u p1) : J n enc size T w0 v0 vd l0 p1 p2 p3 (L.setIfInBounds n.m1 true) (slot (a.put (some n.t1) u)) w' := by
  simp only [farB, List.all_cons, List.all_nil, Bool.and_true, Bool.and_eq_true, bne_iff_ne, ne_eq] at hk hd
  obtain ⟨k1, k2, k3, k4, k5, k6⟩ := hk
  obtain ⟨d1, d2, d3, d4, d5, d6, d7⟩ := hd
  obtain ⟨h1, h2, h3, h4, h5, h6, h7⟩ := h
  refine ⟨h1.trans (hb.mono h1.size), ?_, ?_, ?_, ?_, ?_, ?_⟩
  all_goals simp only [Rel.set_ne k1, Rel.set_ne k2, Rel.set_ne k3, Rel.set_ne k4, Rel.set_ne k5, Rel.set_ne k6, Rel.slot_put ht, Rel.slot_put_ne d1, Rel.slot_put_ne d2, Rel.slot_put_ne d3, Rel.slot_put_ne d4, Rel.slot_put_ne d5, Rel.slot_put_ne d6, Rel.slot_put_ne d7]
  · exact own_on h2 hb
  · exact fun _ _ => hp _ fun g hg => (World.ownsRow.lt h2 g hg).symm
  · exact lit_on hs h4 hb
  · exact lit_on hs h5 hb
  · exact h6
  · exact h7
theorem mk2 (hs : ∀ x, (enc x).length = size) {u : Value} (h : J n enc size T w0 v0 vd l0 p1 p2 p3 L (slot a) w) (hk : farB n.m2 [n.i1, n.i2, n.i3, n.m1, n.m3, n.ia] = true) (hd : farB n.t2 [n.d1, n.d2, n.d3, n.t1, n.t3, n.da, n.dl] = true) (ht : n.t2 < a.tmps.size) (hb : Below w.heap.size w w')
    (hp : ∀ v, (∀ g, v.ownBlock = some g → g < w.heap.size ∧ w0.heap.size ≤ g) → Part enc size w' v u p2) : J n enc size T w0 v0 vd l0 p1 p2 p3 (L.setIfInBounds n.m2 true) (slot (a.put (some n.t2) u)) w' := by
  simp only [farB, List.all_cons, List.all_nil, Bool.and_true, Bool.and_eq_true, bne_iff_ne, ne_eq] at hk hd
  obtain ⟨k1, k2, k3, k4, k5, k6⟩ := hk
  obtain ⟨d1, d2, d3, d4, d5, d6, d7⟩ := hd
  obtain ⟨h1, h2, h3, h4, h5, h6, h7⟩ := h
  refine ⟨h1.trans (hb.mono h1.size), ?_, ?_, ?_, ?_, ?_, ?_⟩
  all_goals simp only [Rel.set_ne k1, Rel.set_ne k2, Rel.set_ne k3, Rel.set_ne k4, Rel.set_ne k5, Rel.set_ne k6, Rel.slot_put ht, Rel.slot_put_ne d1, Rel.slot_put_ne d2, Rel.slot_put_ne d3, Rel.slot_put_ne d4, Rel.slot_put_ne d5, Rel.slot_put_ne d6, Rel.slot_put_ne d7]
  · exact own_on h2 hb
  · exact lit_on hs h3 hb
  · exact fun _ _ => hp _ fun g hg => (World.ownsRow.lt h2 g hg).symm
  · exact lit_on hs h5 hb
  · exact h6
  · exact h7
theorem mk3 (hs : ∀ x, (enc x).length = size) {u : Value} (h : J n enc size T w0 v0 vd l0 p1 p2 p3 L (slot a) w) (hk : farB n.m3 [n.i1, n.i2, n.i3, n.m1, n.m2, n.ia] = true) (hd : farB n.t3 [n.d1, n.d2, n.d3, n.t1, n.t2, n.da, n.dl] = true) (ht : n.t3 < a.tmps.size) (hb : Below w.heap.size w w')
    (hp : ∀ v, (∀ g, v.ownBlock = some g → g < w.heap.size ∧ w0.heap.size ≤ g) → Part enc size w' v u p3) : J n enc size T w0 v0 vd l0 p1 p2 p3 (L.setIfInBounds n.m3 true) (slot (a.put (some n.t3) u)) w' := by
  simp only [farB, List.all_cons, List.all_nil, Bool.and_true, Bool.and_eq_true, bne_iff_ne, ne_eq] at hk hd
  obtain ⟨k1, k2, k3, k4, k5, k6⟩ := hk
  obtain ⟨d1, d2, d3, d4, d5, d6, d7⟩ := hd
  obtain ⟨h1, h2, h3, h4, h5, h6, h7⟩ := h
  refine ⟨h1.trans (hb.mono h1.size), ?_, ?_, ?_, ?_, ?_, ?_⟩
  all_goals simp only [Rel.set_ne k1, Rel.set_ne k2, Rel.set_ne k3, Rel.set_ne k4, Rel.set_ne k5, Rel.set_ne k6, Rel.slot_put ht, Rel.slot_put_ne d1, Rel.slot_put_ne d2, Rel.slot_put_ne d3, Rel.slot_put_ne d4, Rel.slot_put_ne d5, Rel.slot_put_ne d6, Rel.slot_put_ne d7]
  · exact own_on h2 hb
  · exact lit_on hs h3 hb
  · exact lit_on hs h4 hb
  · exact fun _ _ => hp _ fun g hg => (World.ownsRow.lt h2 g hg).symm
  · exact h6
  · exact h7
/-- A list made in the region is a part. -/
theorem part_new (hs : ∀ x, (enc x).length = size) (w : World) (p : List α) (A : Array Value) (hA : A.toList = flat enc p) (c : Nat) (v : Value) (hv : ∀ g, v.ownBlock = some g → g < w.heap.size ∧ w0.heap.size ≤ g) : Part enc size (w.alloc (.cells A T)) v (.slice (some ⟨w.heap.size, 0, none⟩) p.length c) p :=
  ⟨_, _, rfl, row_new hs w p A T _ rfl hA, (fun h => by cases h), fun q hq _ => by
    injection hq with hq
    subst hq
    refine ⟨fun e => ?_, by simp⟩
    have h : w.heap.size < w.heap.size := (hv _ e).1
    omega⟩
/-- A list that was there ahead of all is a part. -/
theorem part_old (hs : ∀ x, (enc x).length = size) {ad : Option Addr} {c : Nat} {p : List α} (hr : Kit.Row enc size w0 ad p) (hn : ad = none → p.length = 0 ∧ c = 0) (hq : ∀ q, ad = some q → p ≠ [] → q.block < w0.heap.size) (hb : Below w0.heap.size w0 w) (v : Value) (hv : ∀ g, v.ownBlock = some g → g < w.heap.size ∧ w0.heap.size ≤ g) : Part enc size w v (.slice ad p.length c) p :=
  ⟨ad, c, rfl, row_keep hs hr hb, hn, fun q hq' hl => ⟨fun e => by
    have h1 := (hv _ e).2
    have h2 := hq q hq' hl
    omega, Nat.lt_of_lt_of_le (hq q hq' hl) hb.size⟩⟩

/-! ### The appends -/

/-- What append needs to know of the type. -/
structure Ty (enc : α → List Value) (size : Nat) (P : Program) (t T : TypeId) (z : Value) (bytes : Nat) : Prop where
  hs : ∀ x, (enc x).length = size
  hz : 0 < size
  one : ∀ x, ∀ u ∈ enc x, u.oneCell' = true
  und : P.underlying t = some (.slice T)
  info : (P.info? T).map (fun i => (i.zero, i.size, i.bytes)) = some (some z, size, bytes)
  zero : z.cells.size = size
variable {P : Program} {t : TypeId} {z : Value} {bytes : Nat}
theorem step (H : Ty enc size P t T z bytes) {v u : Value} {l p : List α} (ho : Owns enc size T w w0.heap.size v l) (hp : Part enc size w v u p) (h63 : l.length + p.length ≤ maxLen) (hby : (l.length + p.length) * bytes ≤ 140737488355328) (hb : w0.heap.size ≤ w.heap.size) (ty : TypeId) :
    ∃ v9 w9, (Builtin.append_ #[t, t] ty #[v, u]).run P w = .ok v9 w9 ∧ Owns enc size T w9 w0.heap.size v9 (l ++ p) ∧ w.grownBy w9 v.ownBlock ∧ (v9.ownBlock = v.ownBlock ∨ v9.ownBlock = some w.heap.size) ∧ Below w0.heap.size w w9 := by
  obtain ⟨ad, c, rfl, hr, hn, _⟩ := hp
  obtain ⟨v9, w9, h1, h2, h3, h4⟩ := Two.run_append_apart (P := P) H.hs H.hz H.one (w := w) t ty T H.und z bytes H.info H.zero w0.heap.size v l ho ad p.length c p rfl hr hn h63 hby hb
  exact ⟨v9, w9, h1, h2, h3, h4, Two.below_grown ho h3 hb⟩
theorem ap1 (H : Ty enc size P t T z bytes) (h : J n enc size T w0 v0 vd l0 p1 p2 p3 L (slot a) w) (hk : farB n.i1 [n.i2, n.i3, n.m1, n.m2, n.m3, n.ia] = true) (hd : farB n.d1 [n.d2, n.d3, n.t1, n.t2, n.t3, n.da] = true) (ht : n.d1 < a.tmps.size) (hi : n.i1 < L.size)
    (f1 : L.getD n.i1 false = false) (f2 : L.getD n.i2 false = false) (f3 : L.getD n.i3 false = false) (g1 : L.getD n.m1 false = true) (ga : L.getD n.ia false = false) (h63 : l0.length + p1.length ≤ maxLen) (hby : (l0.length + p1.length) * bytes ≤ 140737488355328) (ty : TypeId) :
    ∃ v9 w9, (Builtin.append_ #[t, t] ty #[v0, slot a n.t1]).run P w = .ok v9 w9 ∧ J n enc size T w0 v0 vd l0 p1 p2 p3 (L.setIfInBounds n.i1 true) (slot (a.put (some n.d1) v9)) w9 := by
  simp only [farB, List.all_cons, List.all_nil, Bool.and_true, Bool.and_eq_true, bne_iff_ne, ne_eq] at hk hd
  obtain ⟨k1, k2, k3, k4, k5, k6⟩ := hk
  obtain ⟨d1, d2, d3, d4, d5, d6⟩ := hd
  obtain ⟨h1, h2, h3, h4, h5, h6, h7⟩ := h
  rw [f1, f2, f3] at h2 h3 h4 h5
  obtain ⟨v9, w9, e1, e2, e3, e4, e5⟩ := step H h2 (h3 g1 rfl) h63 hby h1.size ty
  refine ⟨v9, w9, e1, h1.trans e5, ?_, ?_, ?_, ?_, ?_, ?_⟩
  all_goals simp only [Rel.set_ne k1, Rel.set_ne k2, Rel.set_ne k3, Rel.set_ne k4, Rel.set_ne k5, Rel.set_ne k6, Rel.set_eq rfl hi, Rel.slot_put ht, Rel.slot_put_ne d1, Rel.slot_put_ne d2, Rel.slot_put_ne d3, Rel.slot_put_ne d4, Rel.slot_put_ne d5, Rel.slot_put_ne d6, f2, f3]
  · exact e2
  · exact fun _ h => by cases h
  · exact fun hc hb => part_grown H.hs (h4 hc hb) e3 e4
  · exact fun hc hb => part_grown H.hs (h5 hc hb) e3 e4
  · exact h6
  · intro h; rw [ga] at h; cases h
/-- The list is made within the region: nothing, in memory of its own. -/
theorem emp (hs : ∀ x, (enc x).length = size) (h : J n enc size T w0 v0 vd [] [] p2 p3 L (slot a) w) (hk : farB n.i1 [n.i2, n.i3, n.m1, n.m2, n.m3, n.ia] = true) (hd : farB n.d1 [n.d2, n.d3, n.t1, n.t2, n.t3, n.da] = true) (ht : n.d1 < a.tmps.size) (hi : n.i1 < L.size)
    (f1 : L.getD n.i1 false = false) (f2 : L.getD n.i2 false = false) (f3 : L.getD n.i3 false = false) (ga : L.getD n.ia false = false) :
    J n enc size T w0 v0 vd [] [] p2 p3 (L.setIfInBounds n.i1 true) (slot (a.put (some n.d1) (.slice (some ⟨w.heap.size, 0, none⟩) 0 0))) (w.alloc (.cells #[] T)) := by
  simp only [farB, List.all_cons, List.all_nil, Bool.and_true, Bool.and_eq_true, bne_iff_ne, ne_eq] at hk hd
  obtain ⟨k1, k2, k3, k4, k5, k6⟩ := hk
  obtain ⟨d1, d2, d3, d4, d5, d6⟩ := hd
  obtain ⟨h1, h2, h3, h4, h5, h6, h7⟩ := h
  rw [f1, f2, f3] at h2 h3 h4 h5
  have hb := below_alloc w (.cells #[] T)
  have hg : ∀ v : Value, w.grownBy (w.alloc (.cells #[] T)) v.ownBlock := fun v => ⟨hb.os, hb.tape, hb.output, hb.size, fun k hk _ => hb.block k hk⟩
  refine ⟨h1.trans (hb.mono h1.size), ?_, ?_, ?_, ?_, ?_, ?_⟩
  all_goals simp only [Rel.set_ne k1, Rel.set_ne k2, Rel.set_ne k3, Rel.set_ne k4, Rel.set_ne k5, Rel.set_ne k6, Rel.set_eq rfl hi, Rel.slot_put ht, Rel.slot_put_ne d1, Rel.slot_put_ne d2, Rel.slot_put_ne d3, Rel.slot_put_ne d4, Rel.slot_put_ne d5, Rel.slot_put_ne d6, f2, f3]
  · show Owns enc size T _ w0.heap.size (.slice (some ⟨w.heap.size, 0, none⟩) 0 0) []
    exact ⟨by simp [flat], .inr ⟨w.heap.size, 0, _, rfl, h1.size, heap_alloc_new w _, Nat.le_refl _, by unfold maxLen; omega, by simp, by simp [flat]⟩⟩
  · exact fun _ h => by cases h
  · exact fun hc hb' => part_grown hs (h4 hc hb') (hg _) (.inr rfl)
  · exact fun hc hb' => part_grown hs (h5 hc hb') (hg _) (.inr rfl)
  · exact h6
  · intro h; rw [ga] at h; cases h
theorem ap2 (H : Ty enc size P t T z bytes) (h : J n enc size T w0 v0 vd l0 p1 p2 p3 L (slot a) w) (hk : farB n.i2 [n.i1, n.i3, n.m1, n.m2, n.m3, n.ia] = true) (hd : farB n.d2 [n.d1, n.d3, n.t1, n.t2, n.t3, n.da] = true) (ht : n.d2 < a.tmps.size) (hi : n.i2 < L.size)
    (f1 : L.getD n.i1 false = true) (f2 : L.getD n.i2 false = false) (f3 : L.getD n.i3 false = false) (g1 : L.getD n.m2 false = true) (ga : L.getD n.ia false = false) (h63 : (l0 ++ p1).length + p2.length ≤ maxLen) (hby : ((l0 ++ p1).length + p2.length) * bytes ≤ 140737488355328) (ty : TypeId) :
    ∃ v9 w9, (Builtin.append_ #[t, t] ty #[slot a n.d1, slot a n.t2]).run P w = .ok v9 w9 ∧ J n enc size T w0 v0 vd l0 p1 p2 p3 (L.setIfInBounds n.i2 true) (slot (a.put (some n.d2) v9)) w9 := by
  simp only [farB, List.all_cons, List.all_nil, Bool.and_true, Bool.and_eq_true, bne_iff_ne, ne_eq] at hk hd
  obtain ⟨k1, k2, k3, k4, k5, k6⟩ := hk
  obtain ⟨d1, d2, d3, d4, d5, d6⟩ := hd
  obtain ⟨h1, h2, h3, h4, h5, h6, h7⟩ := h
  rw [f1, f2, f3] at h2 h4 h5
  obtain ⟨v9, w9, e1, e2, e3, e4, e5⟩ := step H h2 (h4 g1 rfl) h63 hby h1.size ty
  refine ⟨v9, w9, e1, h1.trans e5, ?_, ?_, ?_, ?_, ?_, ?_⟩
  all_goals simp only [Rel.set_ne k1, Rel.set_ne k2, Rel.set_ne k3, Rel.set_ne k4, Rel.set_ne k5, Rel.set_ne k6, Rel.set_eq rfl hi, Rel.slot_put ht, Rel.slot_put_ne d1, Rel.slot_put_ne d2, Rel.slot_put_ne d3, Rel.slot_put_ne d4, Rel.slot_put_ne d5, Rel.slot_put_ne d6, f1, f3]
  · exact e2
  · exact fun _ h => by cases h
  · exact fun _ h => by cases h
  · exact fun hc hb => part_grown H.hs (h5 hc hb) e3 e4
  · exact h6
  · intro h; rw [ga] at h; cases h
theorem ap3 (H : Ty enc size P t T z bytes) (h : J n enc size T w0 v0 vd l0 p1 p2 p3 L (slot a) w) (hk : farB n.i3 [n.i1, n.i2, n.m1, n.m2, n.m3, n.ia] = true) (hd : farB n.d3 [n.d1, n.d2, n.t1, n.t2, n.t3, n.da] = true) (ht : n.d3 < a.tmps.size) (hi : n.i3 < L.size)
    (f1 : L.getD n.i1 false = true) (f2 : L.getD n.i2 false = true) (f3 : L.getD n.i3 false = false) (g1 : L.getD n.m3 false = true) (ga : L.getD n.ia false = false) (h63 : (l0 ++ p1 ++ p2).length + p3.length ≤ maxLen) (hby : ((l0 ++ p1 ++ p2).length + p3.length) * bytes ≤ 140737488355328) (ty : TypeId) :
    ∃ v9 w9, (Builtin.append_ #[t, t] ty #[slot a n.d2, slot a n.t3]).run P w = .ok v9 w9 ∧ J n enc size T w0 v0 vd l0 p1 p2 p3 (L.setIfInBounds n.i3 true) (slot (a.put (some n.d3) v9)) w9 := by
  simp only [farB, List.all_cons, List.all_nil, Bool.and_true, Bool.and_eq_true, bne_iff_ne, ne_eq] at hk hd
  obtain ⟨k1, k2, k3, k4, k5, k6⟩ := hk
  obtain ⟨d1, d2, d3, d4, d5, d6⟩ := hd
  obtain ⟨h1, h2, h3, h4, h5, h6, h7⟩ := h
  rw [f1, f2, f3] at h2 h5
  obtain ⟨v9, w9, e1, e2, e3, e4, e5⟩ := step H h2 (h5 g1 rfl) h63 hby h1.size ty
  refine ⟨v9, w9, e1, h1.trans e5, ?_, ?_, ?_, ?_, ?_, ?_⟩
  all_goals simp only [Rel.set_ne k1, Rel.set_ne k2, Rel.set_ne k3, Rel.set_ne k4, Rel.set_ne k5, Rel.set_ne k6, Rel.set_eq rfl hi, Rel.slot_put ht, Rel.slot_put_ne d1, Rel.slot_put_ne d2, Rel.slot_put_ne d3, Rel.slot_put_ne d4, Rel.slot_put_ne d5, Rel.slot_put_ne d6, f1, f2]
  · exact e2
  · exact fun _ h => by cases h
  · exact fun _ h => by cases h
  · exact fun _ h => by cases h
  · exact h6
  · intro h; rw [ga] at h; cases h
/-- The assignment. -/
theorem asg (h : J n enc size T w0 v0 vd l0 p1 p2 p3 L (slot a) w) (hk : farB n.ia [n.i1, n.i2, n.i3, n.m1, n.m2, n.m3] = true) (hd : farB n.da [n.d1, n.d2, n.d3, n.t1, n.t2, n.t3, n.dl] = true) (ht : n.da < a.tmps.size) (hi : n.ia < L.size) : J n enc size T w0 v0 vd l0 p1 p2 p3 (L.setIfInBounds n.ia true) (slot (a.put (some n.da) (slot a n.dl))) w := by
  simp only [farB, List.all_cons, List.all_nil, Bool.and_true, Bool.and_eq_true, bne_iff_ne, ne_eq] at hk hd
  obtain ⟨k1, k2, k3, k4, k5, k6⟩ := hk
  obtain ⟨d1, d2, d3, d4, d5, d6, d7⟩ := hd
  obtain ⟨h1, h2, h3, h4, h5, h6, h7⟩ := h
  refine ⟨h1, ?_, ?_, ?_, ?_, ?_, ?_⟩
  all_goals simp only [Rel.set_ne k1, Rel.set_ne k2, Rel.set_ne k3, Rel.set_ne k4, Rel.set_ne k5, Rel.set_ne k6, Rel.set_eq rfl hi, Rel.slot_put ht, Rel.slot_put_ne d1, Rel.slot_put_ne d2, Rel.slot_put_ne d3, Rel.slot_put_ne d4, Rel.slot_put_ne d5, Rel.slot_put_ne d6, Rel.slot_put_ne d7]
  · exact h2
  · exact h3
  · exact h4
  · exact h5
  · intro h; cases h
  · intro _; trivial
theorem all_true {k i : Nat} (h : i < k) : (Array.replicate k true).getD i false = true := by simp [h]
theorem all_far {k i : Nat} (h : k ≤ i) : (Array.replicate k true).getD i false = false := by
  have : ¬ i < k := by omega
  simp [this]
/-- At the end: of three, of two. -/
theorem end3 {k : Nat} (h : J n enc size T w0 v0 vd l0 p1 p2 p3 (Array.replicate k true) (slot a) w) (hi : n.i3 < k) (ha : n.ia < k) (hl : n.dl = n.d3) : Below w0.heap.size w0 w ∧ Owns enc size T w w0.heap.size (slot a n.da) (l0 ++ p1 ++ p2 ++ p3) := by
  refine ⟨h.below, ?_⟩
  rw [h.new (all_true ha), hl]
  have := h.own
  rw [all_true hi] at this
  exact this
theorem end2 {k : Nat} (h : J n enc size T w0 v0 vd l0 p1 p2 p3 (Array.replicate k true) (slot a) w) (hi : n.i2 < k) (hf : k ≤ n.i3) (ha : n.ia < k) (hl : n.dl = n.d2) : Below w0.heap.size w0 w ∧ Owns enc size T w w0.heap.size (slot a n.da) (l0 ++ p1 ++ p2) := by
  refine ⟨h.below, ?_⟩
  rw [h.new (all_true ha), hl]
  have := h.own
  rw [all_true hi, all_far hf] at this
  exact this
theorem end1 {k : Nat} (h : J n enc size T w0 v0 vd l0 p1 p2 p3 (Array.replicate k true) (slot a) w) (hi : n.i1 < k) (hf2 : k ≤ n.i2) (hf : k ≤ n.i3) (ha : n.ia < k) (hl : n.dl = n.d1) : Below w0.heap.size w0 w ∧ Owns enc size T w w0.heap.size (slot a n.da) (l0 ++ p1) := by
  refine ⟨h.below, ?_⟩
  rw [h.new (all_true ha), hl]
  have := h.own
  rw [all_true hi, all_far hf2, all_far hf] at this
  exact this
theorem far_no (h : J n enc size T w0 v0 vd l0 p1 p2 p3 L (slot a) w) {i : Nat} (hi : L.size ≤ i) : L.getD i false = false := by
  have : ¬ i < L.size := by omega
  simp [this]
end Go.Proofs.Ytghglgodkknlnaa.Nest
/- Common: arrays: blocks of cells that are the call's own. -/
namespace Go.Proofs.Ytghglgodkknlnaa.Arr
open Go.RowKit
open Go.Sort
open Kit

/-- A block's cells. -/
def Blk (w : World) (b : Nat) (t : TypeId) (cs : List Value) : Prop := w.heap[b]? = some (.cells cs.toArray t (0, 0))
theorem blk_cell {w : World} {b : Nat} {t : TypeId} {cs : List Value} (h : Blk w b t cs) (j : Nat) : w.cell? ⟨b, j, none⟩ = cs[j]? := by
  unfold Blk at h
  simp [World.cell?, h]
theorem blk_frozen {w : World} {b : Nat} {t : TypeId} {cs : List Value} (h : Blk w b t cs) (j : Nat) : w.frozen? ⟨b, j, none⟩ = false := by
  unfold Blk at h
  simp [World.frozen?, h]
theorem blk_lt {w : World} {b : Nat} {t : TypeId} {cs : List Value} (h : Blk w b t cs) : b < w.heap.size := (Array.getElem?_eq_some_iff.1 h).1
theorem blk_row {w : World} {b : Nat} {t : TypeId} {cs : List Value} (h : Blk w b t cs) (ds : List Value) : Blk (w.setRow b ds.toArray) b t ds := setRow_heap w b _ _ t _ h
theorem blk_row_far {w : World} {b b' : Nat} {t : TypeId} {cs : List Value} (h : Blk w b t cs) (hne : b ≠ b') (ds : Array Value) : Blk (w.setRow b' ds) b t cs := by
  unfold Blk; rw [setRow_other w b' b ds hne]; exact h
theorem blk_set {w : World} {b : Nat} {t : TypeId} {cs : List Value} (h : Blk w b t cs) (i : Nat) (v : Value) : Blk (w.setCell ⟨b, i, none⟩ v) b t (cs.set i v) := by
  rw [setCell_eq_setRow w b i _ t _ v h]
  have := blk_row h (cs.set i v)
  simpa using this
theorem blk_set_far {w : World} {b b' : Nat} {t : TypeId} {cs : List Value} (h : Blk w b t cs) (hne : b ≠ b') (i : Nat) (v : Value) : Blk (w.setCell ⟨b', i, none⟩ v) b t cs := by
  unfold Blk World.setCell at *
  simp [Array.getElem?_modify, Ne.symm hne, h]
theorem blk_new (w : World) (b : Nat) (t : TypeId) (cs : List Value) (h : b = w.heap.size) : Blk (w.alloc (.cells cs.toArray t)) b t cs := by
  subst h
  unfold Blk World.alloc
  simp
theorem blk_alloc {w : World} {b : Nat} {t : TypeId} {cs : List Value} (h : Blk w b t cs) (o : Obj) : Blk (w.alloc o) b t cs := by
  have hlt := blk_lt h
  unfold Blk World.alloc at *
  simp [Array.getElem?_push, Nat.ne_of_lt hlt, h]
theorem blk_below {w w' : World} {B b : Nat} {t : TypeId} {cs : List Value} (h : Blk w b t cs) (hb : Below B w w') (hlt : b < B) : Blk w' b t cs := by
  unfold Blk; rw [hb.block b hlt]; exact h
theorem below_set {w w' : World} {B b : Nat} (h : Below B w w') (hb : B ≤ b) (i : Nat) (v : Value) : Below B w (w'.setCell ⟨b, i, none⟩ v) := by
  refine ⟨h.os, h.tape, h.output, by rw [setCell_size]; exact h.size, fun k hk => ?_⟩
  rw [← h.block k hk]
  unfold World.setCell
  have : b ≠ k := by omega
  simp [Array.getElem?_modify, this]
theorem below_row {w w' : World} {B b : Nat} (h : Below B w w') (hb : B ≤ b) (ds : Array Value) : Below B w (w'.setRow b ds) := by
  refine ⟨h.os, h.tape, h.output, by rw [setRow_size]; exact h.size, fun k hk => ?_⟩
  rw [← h.block k hk, setRow_other _ _ _ _ (by omega)]

/-- A whole array is written. -/
theorem wpList_store_blk {P : Program} {ops : Array Oper} {rest : List Oper} {o : Oper} {a : Act} {w : World} {Q : Exit → Act → World → Prop} (hgd : o.guard = none) (ty : TypeId) (x y : Operand) (ho : o.op = .store ty x y)
    (g : Nat) (ds : List Value) (hx : a.eval x = .pointer (some ⟨g, 0, none⟩)) (hy : a.eval y = .agg ds.toArray) (cs : List Value) (t : TypeId) (hB : Blk w g t cs) (hi : (P.info? ty).map (·.size) = some ds.length)
    (hold : cs.length = ds.length) (h1 : ds.all (·.oneCell') = true) (B : Nat) (hb : B ≤ g)
    (h : ∀ w', Blk w' g t ds → Below B w w' → wpList P ops Q rest (a.put o.dst undef) w') : wpList P ops Q (o :: rest) a w :=
  wpList_store_row hgd ty x y ho g ds.toArray hx hy t cs.toArray hB (by simpa using hi) (by simpa using hold) (by simpa using h1) (h _ (blk_row hB ds) (below_row (Below.refl _ _) hb _))
/-- A whole array is read. -/
theorem wpList_load_blk {P : Program} {ops : Array Oper} {rest : List Oper} {o : Oper} {a : Act} {w : World} {Q : Exit → Act → World → Prop} (hgd : o.guard = none) (ty : TypeId) (x : Operand) (ho : o.op = .load ty x)
    (g : Nat) (hx : a.eval x = .pointer (some ⟨g, 0, none⟩)) (cs : List Value) (t : TypeId) (hB : Blk w g t cs) (d : TypeDesc) (hu : P.underlying ty = some d) (hd : (match d with | .struct _ | .array _ _ => true | _ => false) = true)
    (hi : (P.info? ty).map (·.size) = some cs.length)
    (h : wpList P ops Q rest (a.put o.dst (.agg cs.toArray)) w) : wpList P ops Q (o :: rest) a w :=
  wpList_load_row hgd ty x ho g hx t cs.toArray (0, 0) d hB hu hd (by simpa using hi) h

end Go.Proofs.Ytghglgodkknlnaa.Arr
/- Ledger: legs in memory; arguments opened; what the ledger answers. -/
namespace Go.Proofs.Ytghglgodkknlnaa.Led
set_option maxRecDepth 100000
open Go.RowKit
open Go.Sort
open Kit
open Mon
open Tre
set_option linter.unusedVariables false
variable {w w' : World}

theorem tyI : Nest.Ty encI 1 Try.prog 50 3 (.int .i64 0) 8 := ⟨encI_len, Nat.zero_lt_one, encI_one, Try.underlying50, info_i, rfl⟩
theorem tyA : Nest.Ty encL 6 Try.prog 23 53 (.agg #[.int .i64 0, .int .i64 0, .int .i64 0, .int .i64 0, .int .i64 0, .int .i64 0]) 48 := ⟨encL_len, by omega, encL_one, Try.underlying23, info_al, rfl⟩
theorem tyG : Nest.Ty encG 2 Try.prog 46 68 (.agg #[.int .i64 0, .int .i64 0]) 16 := ⟨encG_len, by omega, encG_one, Try.underlying46, info_leg, rfl⟩

/-- Allocations of the call's own; or none. -/
def OutA (w : World) (base : Nat) (v : Value) (l : List Al) : Prop := Owns encL 6 53 w base v l ∨ (l = [] ∧ ∃ a c, v = .slice a 0 c ∧ c ≤ maxLen ∧ (a = none → c = 0))
theorem outA_lst {base : Nat} {v : Value} {l : List Al} (h : OutA w base v l) : ∃ a c, v = .slice a l.length c ∧ Allocs w a l.length c l := by
  rcases h with h | ⟨rfl, a, c, rfl, h1, h2⟩
  · obtain ⟨a, c, hv, hc, hm, hn, hrow⟩ := owns_row encL_len h
    exact ⟨a, c, hv, rfl, hc, hm, (fun e => ⟨by have := hn e; omega, hn e⟩), hrow⟩
  · exact ⟨a, c, rfl, rfl, Nat.zero_le _, h1, (fun e => ⟨rfl, h2 e⟩), .inl rfl⟩
theorem outA_keep {base : Nat} {v : Value} {l : List Al} (h : OutA w base v l) (hb : Below w.heap.size w w') : OutA w' base v l := by
  rcases h with h | h
  · exact .inl (Nest.own_on h hb)
  · exact .inr h
theorem outA_le {base base' : Nat} {v : Value} {l : List Al} (h : OutA w base v l) (hb : base' ≤ base) : OutA w base' v l := by
  rcases h with ⟨h1, h2 | ⟨g, cap, cur, e1, e2, e3⟩⟩ | h
  · exact .inl ⟨h1, .inl h2⟩
  · exact .inl ⟨h1, .inr ⟨g, cap, cur, e1, Nat.le_trans hb e2, e3⟩⟩
  · exact .inr h

/-- WHAT THE PROGRAM'S Post MUST DO. -/
abbrev PostC : Prop := ∀ (W : World) (wd : Int) (a : Option Addr) (n c : Nat) (al : List Al) (a2 : Option Addr) (n2 c2 : Nat) (legs : List Lg), inI wd → Allocs W a n c al → (∀ x ∈ al, x.ok) → n ≤ 100 → Legs W a2 n2 c2 legs → (∀ x ∈ legs, x.ok) → n2 ≤ 100 →
    Calls Try.prog 25 #[.int .i64 wd, .slice a n c, .slice a2 n2 c2] W fun e W' => ∃ v, e = .returned (.tuple #[.int .i64 (postW wd al legs), v, .int .i64 (postE wd al legs)]) ∧ OutA W' W.heap.size v (postA wd al legs) ∧ Below W.heap.size W W'
end Go.Proofs.Ytghglgodkknlnaa.Led
/- A cell of an element of an own list written. -/
namespace Go.Proofs.Ytghglgodkknlnaa.Kit
open Go.RowKit
open Go.Sort
variable {α : Type} {enc : α → List Value} {size : Nat}

theorem flat_put (hs : ∀ x, (enc x).length = size) {i : Nat} (hi : i < size) (f : α → α) (u : Value) (hf : ∀ a, enc (f a) = (enc a).set i u) : ∀ (l : List α) (k : Nat) (a : α), l[k]? = some a → (flat enc l).set (k * size + i) u = flat enc (l.set k (f a))
  | [], k, a, h => by simp at h
  | x :: l, 0, a, h => by
    simp at h
    subst h
    have e : flat enc (x :: l) = enc x ++ flat enc l := rfl
    have e2 : flat enc ((x :: l).set 0 (f x)) = enc (f x) ++ flat enc l := rfl
    rw [e, e2, hf, List.set_append, if_pos (by rw [hs]; omega), Nat.zero_mul, Nat.zero_add]
  | x :: l, k + 1, a, h => by
    rw [List.getElem?_cons_succ] at h
    have ih := flat_put hs hi f u hf l k a h
    have e : flat enc (x :: l) = enc x ++ flat enc l := rfl
    have e2 : flat enc ((x :: l).set (k + 1) (f a)) = enc x ++ flat enc (l.set k (f a)) := rfl
    have e3 : (k + 1) * size + i = size + (k * size + i) := by rw [Nat.add_mul, Nat.one_mul]; omega
    rw [e, e2, ← ih, List.set_append, if_neg (by rw [hs, e3]; omega), hs, e3, show size + (k * size + i) - size = k * size + i by omega]
/-- An own list with something in it is a block of its own. -/
theorem owns_at {e : TypeId} {w : World} {base : Nat} {v : Value} {l : List α} (hs : ∀ x, (enc x).length = size) (h : Owns enc size e w base v l) (hl : 1 ≤ l.length) : ∃ g cap, v = .slice (some ⟨g, 0, none⟩) l.length cap ∧ base ≤ g ∧ l.length ≤ cap ∧ cap ≤ maxLen := by
  obtain ⟨a, c, hv, hc, hcm, hn, hrow⟩ := owns_row hs h
  rcases h.2 with ⟨_, h0⟩ | ⟨g, cap, cur, hv2, hg, _⟩
  · omega
  · rw [hv] at hv2
    injection hv2 with e1 e2 e3
    subst e1
    exact ⟨g, c, hv, hg, hc, hcm⟩
theorem owns_put {e : TypeId} {w : World} {base g n cap : Nat} {l : List α} (hs : ∀ x, (enc x).length = size) (h : Owns enc size e w base (.slice (some ⟨g, 0, none⟩) n cap) l) (hnl : l.length = n) {k i : Nat} {a : α} (ha : l[k]? = some a) (hi : i < size) (f : α → α) (u : Value) (hf : ∀ a, enc (f a) = (enc a).set i u) :
    w.cell? ⟨g, k * size + i, none⟩ = (enc a)[i]? ∧ w.frozen? ⟨g, k * size + i, none⟩ = false ∧ Owns enc size e (w.setCell ⟨g, k * size + i, none⟩ u) base (.slice (some ⟨g, 0, none⟩) n cap) (l.set k (f a)) := by
  subst hnl
  have hk := (List.getElem?_eq_some_iff.1 ha).1
  have he := (List.getElem?_eq_some_iff.1 ha).2
  have hfl := flat_length hs l
  have hlt : k * size + i < l.length * size := by
    have : (k + 1) * size ≤ l.length * size := Nat.mul_le_mul_right _ (by omega)
    rw [Nat.add_mul, Nat.one_mul] at this; omega
  unfold Owns at h ⊢
  refine ⟨?_, ?_, ?_⟩
  · rw [h.cellAt _ hlt, flat_at hs l k hk i hi, he]
  · exact h.frozenAt _
  · have := (h.stored (k * size + i) u).1
    rw [flat_put hs hi f u hf l k a ha] at this
    rw [List.length_set]
    exact this
theorem size_setCell (w : World) (a : Addr) (v : Value) : (w.setCell a v).heap.size = w.heap.size := by simp [World.setCell]
end Go.Proofs.Ytghglgodkknlnaa.Kit
/- Draw: draws in memory; arguments opened; two lists of draws, and of legs, that are one (the document's Alike, Same). -/
namespace Go.Proofs.Ytghglgodkknlnaa.Drw
set_option maxRecDepth 100000
open Go.RowKit
open Go.Sort
open Kit
open Mon
open Tre (Lst inI lst_keep lst_take lst_at lst_new lst_none i64_wf cells_int Allocs IntsL below_drewN' encI encI_len encI_one OwI own_chg' info_i lit_row owns_lit ints_elems)
open Led (Lg encG encG_len encG_one Legs leg_cells opens_legs legs_arg info_leg)
set_option linter.unusedVariables false
variable {w w' : World}

/-- Something of the call's own, or nothing. -/
def OutL {α : Type} (enc : α → List Value) (size : Nat) (T : TypeId) (w : World) (base : Nat) (v : Value) (l : List α) : Prop := Owns enc size T w base v l ∨ (l = [] ∧ ∃ a c, v = .slice a 0 c ∧ c ≤ maxLen ∧ (a = none → c = 0))
abbrev OutD (w : World) (base : Nat) (v : Value) (l : List Dw) : Prop := OutL encD 2 44 w base v l
abbrev OutG (w : World) (base : Nat) (v : Value) (l : List Lg) : Prop := OutL encG 2 68 w base v l
theorem out_lst {α : Type} {enc : α → List Value} {size : Nat} (hs : ∀ x, (enc x).length = size) {T : TypeId} {base : Nat} {v : Value} {l : List α} (h : OutL enc size T w base v l) : ∃ a c, v = .slice a l.length c ∧ Lst enc size w a l.length c l := by
  rcases h with h | ⟨rfl, a, c, rfl, h1, h2⟩
  · obtain ⟨a, c, hv, hc, hm, hn, hrow⟩ := owns_row hs h
    exact ⟨a, c, hv, rfl, hc, hm, (fun e => ⟨by have := hn e; omega, hn e⟩), hrow⟩
  · exact ⟨a, c, rfl, rfl, Nat.zero_le _, h1, (fun e => ⟨rfl, h2 e⟩), .inl rfl⟩
theorem out_le {α : Type} {enc : α → List Value} {size : Nat} {T : TypeId} {base base' : Nat} {v : Value} {l : List α} (h : OutL enc size T w base v l) (hb : base' ≤ base) : OutL enc size T w base' v l := by
  rcases h with ⟨h1, h2 | ⟨g, cap, cur, e1, e2, e3⟩⟩ | h
  · exact .inl ⟨h1, .inl h2⟩
  · exact .inl ⟨h1, .inr ⟨g, cap, cur, e1, Nat.le_trans hb e2, e3⟩⟩
  · exact .inr h
theorem out_nil {α : Type} (enc : α → List Value) (size : Nat) (T : TypeId) (w : World) (base : Nat) : OutL enc size T w base (.slice none 0 0) [] := .inl (owns_nil _ _ _)
theorem own_empty {α : Type} (enc : α → List Value) (size : Nat) (T : TypeId) (w : World) (base : Nat) (hb : base ≤ w.heap.size) : Owns enc size T (w.alloc (.cells #[] T)) base (.slice (some ⟨w.heap.size, 0, none⟩) 0 0) [] :=
  ⟨by simp [flat], .inr ⟨w.heap.size, 0, _, rfl, hb, heap_alloc_new w _, Nat.le_refl _, by unfold maxLen; omega, by simp, by simp [flat]⟩⟩
theorem leg_row (w : World) (x y : Int) : Kit.Row encG 2 (w.alloc (.cells #[.int .i64 x, .int .i64 y] 68)) (some ⟨w.heap.size, 0, none⟩) [⟨x, y⟩] := row_new encG_len w [⟨x, y⟩] _ _ _ rfl rfl

set_option maxHeartbeats 4000000 in
theorem alike_any (a1 a2 : Option Addr) (n c1 c2 : Nat) (l : List Dw) (w : World) (h1 : Draws w a1 n c1 l) (h2 : Draws w a2 n c2 l) :
    Calls Try.prog 12 #[.slice a1 n c1, .slice a2 n c2] w fun e w' => e = .returned (.bool true) ∧ Below w.heap.size w w' := by
  have hm1 : n ≤ 9223372036854775807 := by have := h1.cap; have := h1.max; unfold maxLen at this; omega
  have HL := Lib.hid (And.intro h1 (And.intro h2 h1.len))
  clear h1 h2
  go_enter Try.func12, Try.ntmps12
  go_wp2_with fail
  go_loopw [5] (fun i wr => ∃ k : Nat, k ≤ n ∧ i = .int .i64 (k : Nat) ∧ Below w.heap.size w wr) (fun i _ => n - (intOf i).toNat)
  case atStart => exact ⟨0, Nat.zero_le _, rfl, Below.refl _ _⟩
  case round =>
    obtain ⟨k, hk, rfl, hb⟩ := hrel
    have HB := Lib.hid hb
    clear hb
    by_cases hlt : k < n
    · have hkl : k < l.length := by rw [HL.out.2.2]; exact hlt
      obtain ⟨b1, o1, rfl⟩ := lst_at HL.out.1 (by omega)
      obtain ⟨b2, o2, rfl⟩ := lst_at HL.out.2.1 (by omega)
      obtain ⟨p0, p1⟩ := draw_cells (lst_keep encD_len HL.out.1 HB.out) hkl
      obtain ⟨q0, q1⟩ := draw_cells (lst_keep encD_len HL.out.2.1 HB.out) hkl
      generalize l[k] = x at *
      obtain ⟨x0, x1⟩ := x
      simp only at p0 p1 q0 q1
      go_wp2_with fail
      go_quiet (fail)
      go_wp2_with fail
      go_roundw
      case rel => exact ⟨k + 1, by omega, by go_num, below_keep HB.out (below_drewN' _ _)⟩
      case measure => simp [intOf]; omega
    · obtain rfl : k = n := by omega
      go_wp2_with fail
      go_ret
      exact ⟨rfl, HB.out⟩
set_option maxHeartbeats 4000000 in
theorem sameg_any (a1 a2 : Option Addr) (n c1 c2 : Nat) (l : List Lg) (w : World) (h1 : Legs w a1 n c1 l) (h2 : Legs w a2 n c2 l) :
    Calls Try.prog 18 #[.slice a1 n c1, .slice a2 n c2] w fun e w' => e = .returned (.bool true) ∧ Below w.heap.size w w' := by
  have hm1 : n ≤ 9223372036854775807 := by have := h1.cap; have := h1.max; unfold maxLen at this; omega
  have HL := Lib.hid (And.intro h1 (And.intro h2 h1.len))
  clear h1 h2
  go_enter Try.func18, Try.ntmps18
  go_wp2_with fail
  go_loopw [5] (fun i wr => ∃ k : Nat, k ≤ n ∧ i = .int .i64 (k : Nat) ∧ Below w.heap.size w wr) (fun i _ => n - (intOf i).toNat)
  case atStart => exact ⟨0, Nat.zero_le _, rfl, Below.refl _ _⟩
  case round =>
    obtain ⟨k, hk, rfl, hb⟩ := hrel
    have HB := Lib.hid hb
    clear hb
    by_cases hlt : k < n
    · have hkl : k < l.length := by rw [HL.out.2.2]; exact hlt
      obtain ⟨b1, o1, rfl⟩ := lst_at HL.out.1 (by omega)
      obtain ⟨b2, o2, rfl⟩ := lst_at HL.out.2.1 (by omega)
      obtain ⟨p0, p1⟩ := leg_cells (lst_keep encG_len HL.out.1 HB.out) hkl
      obtain ⟨q0, q1⟩ := leg_cells (lst_keep encG_len HL.out.2.1 HB.out) hkl
      generalize l[k] = x at *
      obtain ⟨x0, x1⟩ := x
      simp only at p0 p1 q0 q1
      go_wp2_with fail
      go_quiet (fail)
      go_wp2_with fail
      go_roundw
      case rel => exact ⟨k + 1, by omega, by go_num, below_keep HB.out (below_drewN' _ _)⟩
      case measure => simp [intOf]; omega
    · obtain rfl : k = n := by omega
      go_wp2_with fail
      go_ret
      exact ⟨rfl, HB.out⟩
end Go.Proofs.Ytghglgodkknlnaa.Drw
/- Tree: sums of what is used: more that is spent, and a fund's parent. -/
namespace Go.Proofs.Ytghglgodkknlnaa.Tre
open Mon
set_option linter.unusedVariables false

theorem pathN_parent {l : List Fd} {f i : Nat} {x : Fd} (h : i ∈ pathN l f) (hx : l[i]? = some x) (h0 : 0 ≤ x.par) (h1 : x.par < (i : Int)) : x.par.toNat ∈ pathN l f := by
  obtain ⟨k, hk, e⟩ := List.getElem_of_mem h
  have hd := pathN_drop l f k i (by rw [List.getElem?_eq_getElem hk, e])
  have hi := (List.getElem?_eq_some_iff.1 hx).1
  have hp : x.par.toNat ∈ pathN l i := by
    rw [pathN_some hx, if_pos ⟨h0, h1⟩]
    have hlt : x.par.toNat < l.length := by omega
    rw [pathN_some (List.getElem?_eq_getElem hlt)]
    simp
  rw [← hd] at hp
  exact List.mem_of_mem_drop hp
theorem path_mem {l : List Fd} {f : Int} {i : Nat} : (i : Int) ∈ path l f ↔ 0 ≤ f ∧ i ∈ pathN l f.toNat := by
  unfold path
  by_cases h : 0 ≤ f
  · rw [if_pos h]
    constructor
    · intro hm
      obtain ⟨a, ha, e⟩ := List.mem_map.1 hm
      obtain rfl : a = i := by omega
      exact ⟨h, ha⟩
    · intro hm
      exact List.mem_map.2 ⟨i, hm.2, rfl⟩
  · rw [if_neg h]
    simp [h]
theorem path_parent {l : List Fd} {f : Int} {i : Nat} {x : Fd} (h : (i : Int) ∈ path l f) (hx : l[i]? = some x) (h0 : 0 ≤ x.par) (h1 : x.par < (i : Int)) : x.par ∈ path l f := by
  obtain ⟨h2, h3⟩ := path_mem.1 h
  have := path_mem.2 ⟨h2, pathN_parent h3 hx h0 h1⟩
  rwa [show ((x.par.toNat : Nat) : Int) = x.par by omega] at this
/-- What an allocation adds. -/
def part (l : List Fd) (f : Int) (a : Al) : Int := if (path l a.fund).contains f then a.lien + a.spent else 0
theorem amounts_sum (l : List Fd) (f : Int) : ∀ al : List Al, (amounts l al f).sum = (al.map (part l f)).sum
  | [] => rfl
  | a :: al => by
    have ih := amounts_sum l f al
    unfold amounts at ih ⊢
    rw [List.flatMap_cons, List.sum_append, ih, List.map_cons, List.sum_cons]
    congr 1
    unfold part
    split <;> simp
def smallA (a : Al) : Prop := (0 ≤ a.lien ∧ a.lien ≤ 1099511627776) ∧ (0 ≤ a.spent ∧ a.spent ≤ 1103806595072)
theorem part_small (l : List Fd) (f : Int) {a : Al} (h : smallA a) : 0 ≤ part l f a ∧ part l f a ≤ 2203318222848 := by
  obtain ⟨⟨h1, h2⟩, h3, h4⟩ := h
  unfold part
  split <;> omega
theorem parts_small (l : List Fd) (f : Int) : ∀ al : List Al, (∀ a ∈ al, smallA a) → 0 ≤ (al.map (part l f)).sum ∧ (al.map (part l f)).sum ≤ 2203318222848 * al.length
  | [], _ => by simp
  | a :: al, h => by
    obtain ⟨h1, h2⟩ := parts_small l f al fun x hx => h x (by simp [hx])
    obtain ⟨h3, h4⟩ := part_small l f (h a (by simp))
    rw [List.map_cons, List.sum_cons, List.length_cons]
    constructor
    · omega
    · rw [Int.natCast_add, Int.mul_add]; omega
theorem amounts_nonneg (l : List Fd) (al : List Al) (f : Int) (h : ∀ a ∈ al, smallA a) : ∀ x ∈ amounts l al f, 0 ≤ x := by
  intro x hx
  unfold amounts at hx
  obtain ⟨a, ha, hxa⟩ := List.mem_flatMap.1 hx
  obtain ⟨⟨h1, _⟩, h3, _⟩ := h a ha
  split at hxa
  · rcases List.mem_cons.1 hxa with rfl | hxa
    · exact h1
    · rcases List.mem_cons.1 hxa with rfl | hxa
      · exact h3
      · cases hxa
  · cases hxa
/-- With no amount below 0, and none great, all that is used comes to a sum. -/
theorem use_small {l : List Fd} {al : List Al} (h : ∀ a ∈ al, smallA a) (hl : al.length ≤ 20) {i : Nat} (hi : i < l.length) : useE l al i = 0 ∧ useN l al i = (al.map (part l i)).sum := by
  obtain ⟨h1, h2⟩ := parts_small l i al h
  have hs := amounts_sum l i al
  have := add_small (amounts_nonneg l al i h) (by rw [hs]; omega)
  unfold useE useN
  rw [if_pos ⟨by omega, by omega⟩, if_pos ⟨by omega, by omega⟩, this.1, this.2, hs]
  exact ⟨rfl, rfl⟩
theorem sum_set : ∀ (l : List Int) (k : Nat) (x : Int), k < l.length → (l.set k x).sum = l.sum - l.getD k 0 + x
  | [], k, x, h => by cases h
  | y :: l, 0, x, h => by simp; omega
  | y :: l, k + 1, x, h => by
    have := sum_set l k x (by simpa using h)
    rw [List.set_cons_succ, List.sum_cons, List.sum_cons, this]
    simp [List.getD]
    omega
def moreA (a : Al) (m : Int) : Al := { a with spent := a.spent + m }
/-- More that is spent is more that is used, by each fund above. -/
theorem use_more {l : List Fd} {al : List Al} {k : Nat} {a : Al} (ha : al[k]? = some a) (m : Int) (i : Int) : ((al.set k (moreA a m)).map (part l i)).sum = (al.map (part l i)).sum + if (path l a.fund).contains i then m else 0 := by
  have hk := (List.getElem?_eq_some_iff.1 ha).1
  have he := (List.getElem?_eq_some_iff.1 ha).2
  rw [List.map_set, sum_set _ _ _ (by simpa using hk)]
  have hg : (al.map (part l i)).getD k 0 = part l i a := by simp [List.getD, hk, he]
  rw [hg]
  unfold part moreA
  simp only
  split <;> omega
theorem sum_le {α : Type} (f g : α → Int) : ∀ al : List α, (∀ a ∈ al, f a ≤ g a) → (al.map f).sum ≤ (al.map g).sum
  | [], _ => by simp
  | a :: al, h => by
    have := sum_le f g al fun x hx => h x (by simp [hx])
    have := h a (by simp)
    simp only [List.map_cons, List.sum_cons]
    omega
/-- A fund is used at least as much as any that lies below it. -/
theorem use_parent {l : List Fd} {al : List Al} (h : ∀ a ∈ al, smallA a) {i : Nat} {x : Fd} (hx : l[i]? = some x) (h0 : 0 ≤ x.par) (h1 : x.par < (i : Int)) : (al.map (part l i)).sum ≤ (al.map (part l x.par)).sum := by
  refine sum_le _ _ al fun a ha => ?_
  obtain ⟨⟨h2, _⟩, h3, _⟩ := h a ha
  unfold part
  by_cases hc : (path l a.fund).contains (i : Int) = true
  · have hm : x.par ∈ path l a.fund := path_parent (by simpa using hc) hx h0 h1
    rw [if_pos hc, if_pos (by simpa using hm)]
    exact Int.le_refl _
  · rw [if_neg hc]
    split <;> omega
end Go.Proofs.Ytghglgodkknlnaa.Tre
/- Tree: funds, allocations and lists of numbers in memory (FdMem, Alc). -/
namespace Go.Proofs.Ytghglgodkknlnaa.Tre
set_option maxRecDepth 100000
open Go.RowKit
open Go.Sort
open Kit
open Mon
set_option linter.unusedVariables false

end Go.Proofs.Ytghglgodkknlnaa.Tre
/- Draw: what the program's draws must do. -/
namespace Go.Proofs.Ytghglgodkknlnaa.Drw
set_option maxRecDepth 100000
open Go.RowKit
open Go.Sort
open Kit
open Mon
open Tre (Al Lst inI Allocs Funds)
set_option linter.unusedVariables false

/-- Draws of allocations that there may be, and of amounts that fit. -/
def Sane (d : Dw) : Prop := 0 ≤ d.alloc ∧ d.alloc ≤ 15 ∧ -1152921504606846976 ≤ d.amt ∧ d.amt ≤ 1152921504606846976
/-- WHAT THE PROGRAM'S DRAWS MUST DO. -/
structure Prog : Prop where
  draws : ∀ (W : World) (fl : List Tre.Fd) (al : List Al) (a a2 : Option Addr) (n c n2 c2 : Nat) (f am now : Int), Funds W a n c fl → Allocs W a2 n2 c2 al → (∀ x ∈ fl, x.ok) → (∀ x ∈ al, x.ok) → n ≤ 20 → n2 ≤ 19 → inI f → inI am → inI now →
    Calls Try.prog 9 #[.slice a n c, .slice a2 n2 c2, .int .i64 f, .int .i64 am, .int .i64 now] W fun e W' => ∃ v, e = .returned (.tuple #[v, .int .i64 (drawsE fl al f am now)]) ∧ OutD W' W.heap.size v (drawsL fl al f am now) ∧ Below W.heap.size W W'
  charge : ∀ (W : World) (a : Option Addr) (n c : Nat) (l : List Dw) (am : Int), Draws W a n c l → (∀ x ∈ l, x.ok) → n ≤ 100 → inI am →
    Calls Try.prog 13 #[.slice a n c, .int .i64 am] W fun e W' => ∃ v, e = .returned (.tuple #[v, .int .i64 (chargeE l am)]) ∧ OutD W' W.heap.size v (chargeL l am) ∧ Below W.heap.size W W'
  total : ∀ (W : World) (a : Option Addr) (n c : Nat) (l : List Dw), Draws W a n c l → (∀ x ∈ l, x.ok) → n ≤ 100 →
    Calls Try.prog 15 #[.slice a n c] W fun e W' => e = .returned (.tuple #[.int .i64 (addN (amtsD l)), .int .i64 (addE (amtsD l))]) ∧ Below W.heap.size W W'
  lien : ∀ (W : World) (a : Option Addr) (n c : Nat) (l : List Dw), Draws W a n c l → (∀ x ∈ l, Sane x) → n ≤ 100 →
    Calls Try.prog 19 #[.slice a n c] W fun e W' => ∃ v, e = .returned v ∧ OutG W' W.heap.size v (legsD l l 1 2 0) ∧ Below W.heap.size W W'
  free : ∀ (W : World) (a : Option Addr) (n c : Nat) (l : List Dw), Draws W a n c l → (∀ x ∈ l, Sane x) → n ≤ 100 →
    Calls Try.prog 21 #[.slice a n c] W fun e W' => ∃ v, e = .returned v ∧ OutG W' W.heap.size v (legsD l l 2 1 0) ∧ Below W.heap.size W W'
  back : ∀ (W : World) (a : Option Addr) (n c : Nat) (l : List Dw), Draws W a n c l → (∀ x ∈ l, Sane x) → n ≤ 100 →
    Calls Try.prog 22 #[.slice a n c] W fun e W' => ∃ v, e = .returned v ∧ OutG W' W.heap.size v (legsD l l 3 1 0) ∧ Below W.heap.size W W'
  spend : ∀ (W : World) (a a2 : Option Addr) (n c n2 c2 : Nat) (l m : List Dw), Draws W a n c l → Draws W a2 n2 c2 m → (∀ x ∈ l, Sane x) → (∀ x ∈ m, Sane x) → (n = n2 → l.map Dw.alloc = m.map Dw.alloc) → n ≤ 100 → n2 ≤ 100 →
    Calls Try.prog 23 #[.slice a n c, .slice a2 n2 c2] W fun e W' => ∃ v, e = .returned v ∧ OutG W' W.heap.size v (if n = n2 then legsD l m 2 3 1 else []) ∧ Below W.heap.size W W'
end Go.Proofs.Ytghglgodkknlnaa.Drw
/- Draw: the laws' fixed fact, over any draws that do as they should. -/
namespace Go.Proofs.Ytghglgodkknlnaa.Drw
set_option maxRecDepth 100000
open Go.RowKit
open Go.Sort
open Kit
open Mon
open Tre (Al Lst inI lst_keep lst_take lst_at lst_new Allocs Funds encF encF_len encL encL_len path)
open Led (Lg encG encG_len Legs)
set_option linter.unusedVariables false
variable {w w' : World}
deriving instance DecidableEq for Dw

abbrev nmA : ByteArray := { data := #[97] }
abbrev f0 : List Tre.Fd := [⟨nmA, -1, 0⟩]
abbrev al0 : List Al := [⟨0, 0, 9, 5, 0, 0⟩, ⟨0, 0, 4, 5, 0, 0⟩]
abbrev d0 : List Dw := [⟨1, 5⟩, ⟨0, 2⟩]
abbrev ch0 : List Dw := [⟨1, 5⟩, ⟨0, 1⟩]
theorem aw_draws : drawsE f0 al0 0 7 0 = 0 ∧ drawsL f0 al0 0 7 0 = d0 := by decide +kernel
theorem aw_charge : chargeE d0 6 = 0 ∧ chargeL d0 6 = ch0 := by decide +kernel
theorem aw_legs : (legsD d0 d0 1 2 0).length = 4 ∧ (legsD d0 ch0 2 3 1).length = 5 ∧ (legsD d0 d0 2 1 0).length = 4 ∧ (legsD ch0 ch0 3 1 0).length = 4 := by decide +kernel
theorem inS {n : Int} (h : -100 ≤ n ∧ n ≤ 100) : inI n := by unfold inI; omega
theorem f0_ok : ∀ x ∈ f0, x.ok := by
  intro x hx; simp at hx; subst hx
  exact ⟨by show 1 ≤ maxLen; unfold maxLen; omega, inS (by decide), inS (by decide)⟩
theorem al0_ok : ∀ x ∈ al0, x.ok := by
  intro x hx; simp at hx
  rcases hx with rfl | rfl <;> exact ⟨inS (by decide), inS (by decide), inS (by decide), inS (by decide), inS (by decide), inS (by decide)⟩
theorem d0_sane : ∀ x ∈ d0, Sane x := by
  intro x hx; simp at hx
  rcases hx with rfl | rfl <;> (unfold Sane; simp)
theorem ch0_sane : ∀ x ∈ ch0, Sane x := by
  intro x hx; simp at hx
  rcases hx with rfl | rfl <;> (unfold Sane; simp)
theorem sane_ok {x : Dw} (h : Sane x) : x.ok := by
  obtain ⟨h1, h2, h3, h4⟩ := h
  exact ⟨by unfold inI; omega, by unfold inI; omega⟩
abbrev wA (w : World) : World := w.alloc (.cells #[.string nmA, .int .i64 (-1), .int .i64 0] 64)
abbrev cA : Array Value := #[.int .i64 0, .int .i64 0, .int .i64 9, .int .i64 5, .int .i64 0, .int .i64 0, .int .i64 0, .int .i64 0, .int .i64 4, .int .i64 5, .int .i64 0, .int .i64 0]
abbrev wB (w : World) : World := (wA w).alloc (.cells cA 53)
abbrev wC (w : World) (x : Int) : World := w.alloc (.cells #[.int .i64 1, .int .i64 5, .int .i64 0, .int .i64 x] 44)
theorem legs_num {v : Value} {base n : Nat} {l : List Lg} (h : OutG w base v l) (hn : l.length = n) : ∃ a c, v = .slice a n c := by
  obtain ⟨a, c, rfl, -⟩ := out_lst encG_len h
  exact ⟨a, c, by rw [hn]⟩

set_option maxHeartbeats 4000000 in
theorem awake_any (hP : Prog) (w : World) : Calls Try.prog 11 #[] w fun e w' => e = .returned (.bool true) ∧ Below w.heap.size w w' := by
  have H1 := Lib.hid (hP.draws (wB w) f0 al0 (some ⟨w.heap.size, 0, none⟩) (some ⟨w.heap.size + 1, 0, none⟩) 1 1 2 2 0 7 0 (lst_keep encF_len (lst_new encF_len w f0 _ _ _ 1 rfl rfl rfl (by omega)) (below_alloc (wA w) _)) (lst_new encL_len (wA w) al0 _ _ _ 2 (by simp) rfl rfl (by omega)) f0_ok al0_ok (by omega) (by omega) (inS (by decide)) (inS (by decide)) (inS (by decide)))
  rw [aw_draws.1, aw_draws.2] at H1
  have HB := Lib.hid (below_keep (below_alloc w (.cells #[.string nmA, .int .i64 (-1), .int .i64 0] 64)) (below_alloc (wA w) (.cells cA 53)))
  go_enter Try.func11, Try.ntmps11
  go_wp2_with fail
  refine H1.out.mono ?_
  rintro e w2 ⟨v2, rfl, ho2, hb2⟩
  obtain ⟨x2, c2, rfl, hD2⟩ := out_lst encD_len ho2
  simp only [List.length_cons, List.length_nil, Nat.zero_add, Nat.reduceAdd] at hD2 ⊢
  have HB2 := Lib.hid (And.intro (below_keep HB.out hb2) hD2)
  have H2 := Lib.hid (hP.charge w2 x2 2 c2 d0 6 hD2 (fun x hx => sane_ok (d0_sane x hx)) (by omega) (inS (by decide)))
  rw [aw_charge.1, aw_charge.2] at H2
  clear ho2 hb2 hD2 H1
  go_wp2_with fail
  refine H2.out.mono ?_
  rintro e w3 ⟨v3, rfl, ho3, hb3⟩
  obtain ⟨x3, c3, rfl, hD3⟩ := out_lst encD_len ho3
  simp only [List.length_cons, List.length_nil, Nat.zero_add, Nat.reduceAdd] at hD3 ⊢
  have HB3 := Lib.hid (And.intro (below_keep HB2.out.1 hb3) (And.intro (lst_keep encD_len HB2.out.2 hb3) hD3))
  clear ho3 hb3 hD3 H2
  have b4 := below_alloc w3 (.cells #[.int .i64 1, .int .i64 5, .int .i64 0, .int .i64 2] 44)
  have H4 := Lib.hid (alike_any x2 (some ⟨w3.heap.size, 0, none⟩) 2 c2 2 d0 (wC w3 2) (lst_keep encD_len HB3.out.2.1 b4) (lst_new encD_len w3 d0 _ _ _ 2 rfl rfl rfl (by omega)))
  have HB4 := Lib.hid (And.intro (below_keep HB3.out.1 b4) (And.intro (lst_keep encD_len HB3.out.2.1 b4) (lst_keep encD_len HB3.out.2.2 b4)))
  clear b4
  go_wp2_with fail
  refine H4.out.mono ?_
  rintro e w4 ⟨rfl, hb4⟩
  have HB5 := Lib.hid (And.intro (below_keep HB4.out.1 hb4) (And.intro (lst_keep encD_len HB4.out.2.1 hb4) (lst_keep encD_len HB4.out.2.2 hb4)))
  clear hb4
  have b5 := below_alloc w4 (.cells #[.int .i64 1, .int .i64 5, .int .i64 0, .int .i64 1] 44)
  have H5 := Lib.hid (alike_any x3 (some ⟨w4.heap.size, 0, none⟩) 2 c3 2 ch0 (wC w4 1) (lst_keep encD_len HB5.out.2.2 b5) (lst_new encD_len w4 ch0 _ _ _ 2 rfl rfl rfl (by omega)))
  have HB6 := Lib.hid (And.intro (below_keep HB5.out.1 b5) (And.intro (lst_keep encD_len HB5.out.2.1 b5) (lst_keep encD_len HB5.out.2.2 b5)))
  clear b5 H4
  go_wp2_with fail
  refine H5.out.mono ?_
  rintro e w5 ⟨rfl, hb5⟩
  have HB7 := Lib.hid (And.intro (below_keep HB6.out.1 hb5) (And.intro (lst_keep encD_len HB6.out.2.1 hb5) (lst_keep encD_len HB6.out.2.2 hb5)))
  have H7 := Lib.hid (hP.lien w5 x2 2 c2 d0 HB7.out.2.1 d0_sane (by omega))
  clear hb5 H5
  go_wp2_with fail
  refine H7.out.mono ?_
  rintro e w6 ⟨v6, rfl, ho6, hb6⟩
  obtain ⟨x6, c6, rfl⟩ := legs_num ho6 aw_legs.1
  have HB8 := Lib.hid (And.intro (below_keep HB7.out.1 hb6) (And.intro (lst_keep encD_len HB7.out.2.1 hb6) (lst_keep encD_len HB7.out.2.2 hb6)))
  have H8 := Lib.hid (hP.spend w6 x2 x3 2 c2 2 c3 d0 ch0 HB8.out.2.1 HB8.out.2.2 d0_sane ch0_sane (fun _ => rfl) (by omega) (by omega))
  rw [if_pos rfl] at H8
  clear ho6 hb6 H7
  go_wp2_with fail
  refine H8.out.mono ?_
  rintro e w7 ⟨v7, rfl, ho7, hb7⟩
  obtain ⟨x7, c7, rfl⟩ := legs_num ho7 aw_legs.2.1
  have HB9 := Lib.hid (And.intro (below_keep HB8.out.1 hb7) (And.intro (lst_keep encD_len HB8.out.2.1 hb7) (lst_keep encD_len HB8.out.2.2 hb7)))
  have H9 := Lib.hid (hP.free w7 x2 2 c2 d0 HB9.out.2.1 d0_sane (by omega))
  clear ho7 hb7 H8
  go_wp2_with fail
  refine H9.out.mono ?_
  rintro e w8 ⟨v8, rfl, ho8, hb8⟩
  obtain ⟨x8, c8, rfl⟩ := legs_num ho8 aw_legs.2.2.1
  have HB10 := Lib.hid (And.intro (below_keep HB9.out.1 hb8) (lst_keep encD_len HB9.out.2.2 hb8))
  have H10 := Lib.hid (hP.back w8 x3 2 c3 ch0 HB10.out.2 ch0_sane (by omega))
  clear ho8 hb8 H9
  go_wp2_with fail
  refine H10.out.mono ?_
  rintro e w9 ⟨v9, rfl, ho9, hb9⟩
  obtain ⟨x9, c9, rfl⟩ := legs_num ho9 aw_legs.2.2.2
  have HB11 := Lib.hid (below_keep HB10.out.1 hb9)
  clear ho9 hb9 H10
  go_wp2_with fail
  go_ret
  exact ⟨rfl, HB11.out⟩
end Go.Proofs.Ytghglgodkknlnaa.Drw
/- Draw: not too many (the laws' own few). -/
namespace Go.Proofs.Ytghglgodkknlnaa.Drw
set_option maxRecDepth 100000
open Go.RowKit
open Go.Sort
open Kit
open Mon
set_option linter.unusedVariables false
variable {w w' : World}

/-! ### Not too many -/

theorem run_12f (a : Option Addr) (n c : Nat) (h1 : 12 ≤ n) (h2 : n ≤ c) (w : World) : (Instr.sliceAt 22 (.slice a n c) none (some (.int .i64 12)) none).run Try.prog w = .ok (.slice a 12 c) w := by
  simp [go_sem]
  intro h; omega
theorem run_16a (a : Option Addr) (n c : Nat) (h1 : 16 ≤ n) (h2 : n ≤ c) (w : World) : (Instr.sliceAt 23 (.slice a n c) none (some (.int .i64 16)) none).run Try.prog w = .ok (.slice a 16 c) w := by
  simp [go_sem]
  intro h; omega
theorem few_any (a1 a2 : Option Addr) (n1 c1 n2 c2 m1 m2 : Nat) (h1 : n1 ≤ c1) (h2 : n2 ≤ c2) (hx1 : c1 ≤ maxLen) (hx2 : c2 ≤ maxLen) (hm1 : m1 = min n1 12) (hm2 : m2 = min n2 16) (w : World) :
    Calls Try.prog 8 #[.slice a1 n1 c1, .slice a2 n2 c2] w fun e w' => e = .returned (.tuple #[.slice a1 m1 c1, .slice a2 m2 c2]) ∧ w = w' := by
  have hb1 : n1 ≤ 9223372036854775807 := by unfold maxLen at hx1; omega
  have hb2 : n2 ≤ 9223372036854775807 := by unfold maxLen at hx2; omega
  have HM := Lib.hid (And.intro hm1 hm2)
  clear hx1 hx2 hm1 hm2
  by_cases g1 : 12 < n1
  · have g1i : (12 : Int) < n1 := by omega
    have r1 := run_12f a1 n1 c1 (by omega) h1 w
    have e1 : Hid (m1 = 12) := Lib.hid (by have := HM.out.1; omega)
    clear g1
    by_cases g2 : 16 < n2
    · have g2i : (16 : Int) < n2 := by omega
      have r2 := run_16a a2 n2 c2 (by omega) h2 w
      have e2 : Hid (m2 = 16) := Lib.hid (by have := HM.out.2; omega)
      clear g2
      go_enter Try.func8, Try.ntmps8
      go_wp2_with fail
      go_ret2
      exact ⟨by rw [e1.out, e2.out]; rfl, rfl⟩
    · have g2i : ¬ (16 : Int) < n2 := by omega
      have e2 : Hid (m2 = n2) := Lib.hid (by have := HM.out.2; omega)
      clear g2
      go_enter Try.func8, Try.ntmps8
      go_wp2_with fail
      go_ret2
      exact ⟨by rw [e1.out, e2.out]; rfl, rfl⟩
  · have g1i : ¬ (12 : Int) < n1 := by omega
    have e1 : Hid (m1 = n1) := Lib.hid (by have := HM.out.1; omega)
    clear g1
    by_cases g2 : 16 < n2
    · have g2i : (16 : Int) < n2 := by omega
      have r2 := run_16a a2 n2 c2 (by omega) h2 w
      have e2 : Hid (m2 = 16) := Lib.hid (by have := HM.out.2; omega)
      clear g2
      go_enter Try.func8, Try.ntmps8
      go_wp2_with fail
      go_ret2
      exact ⟨by rw [e1.out, e2.out]; rfl, rfl⟩
    · have g2i : ¬ (16 : Int) < n2 := by omega
      have e2 : Hid (m2 = n2) := Lib.hid (by have := HM.out.2; omega)
      clear g2
      go_enter Try.func8, Try.ntmps8
      go_wp2_with fail
      go_ret2
      exact ⟨by rw [e1.out, e2.out]; rfl, rfl⟩
end Go.Proofs.Ytghglgodkknlnaa.Drw
