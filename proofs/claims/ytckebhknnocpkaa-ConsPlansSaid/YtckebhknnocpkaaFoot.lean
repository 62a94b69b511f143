/- Common: objects in memory, each with the blocks that are its own: what a call changes lies in these, or is new. -/
import Derived.Test.YtckebhknnocpkaaTwo
import Derived.Test.YtckebhknnocpkaaArrs
namespace Go.Proofs.Ytckebhknnocpkaa.Foot
open Go.RowKit
open Go.Sort
open Kit
set_option linter.unusedVariables false

/-- Only these blocks are changed; others may be new. -/
structure Chg (F : Nat → Prop) (w w' : World) : Prop where
  os : w'.os = w.os
  tape : w'.tape = w.tape
  output : w'.output = w.output
  size : w.heap.size ≤ w'.heap.size
  block : ∀ k, k < w.heap.size → ¬ F k → w'.heap[k]? = w.heap[k]?

/-- These blocks, and the new ones. -/
def More (F : Nat → Prop) (w w' : World) (k : Nat) : Prop := F k ∨ (w.heap.size ≤ k ∧ k < w'.heap.size)

variable {F G : Nat → Prop} {w w1 w2 w' : World}
theorem chg_refl (F : Nat → Prop) (w : World) : Chg F w w := ⟨rfl, rfl, rfl, Nat.le_refl _, fun _ _ _ => rfl⟩
theorem chg_mono (h : Chg F w w') (hf : ∀ k, k < w.heap.size → F k → G k) : Chg G w w' := ⟨h.os, h.tape, h.output, h.size, fun k hk hg => h.block k hk fun h' => hg (hf k hk h')⟩
theorem chg_trans (h : Chg F w w1) (k : Chg G w1 w2) (hg : ∀ x, G x → F x ∨ w.heap.size ≤ x) : Chg F w w2 :=
  ⟨k.os.trans h.os, k.tape.trans h.tape, k.output.trans h.output, Nat.le_trans h.size k.size, fun x hx hf => (k.block x (Nat.lt_of_lt_of_le hx h.size) fun h' => by
    rcases hg x h' with h1 | h1
    · exact hf h1
    · omega).trans (h.block x hx hf)⟩
theorem chg_more (h : Chg F w w1) (k : Chg (More F w w1) w1 w2) : Chg F w w2 := chg_trans h k fun _ hx => hx.imp id fun h => h.1
theorem chg_alloc (h : Chg F w w1) (o : Obj) : Chg F w (w1.alloc o) :=
  ⟨h.os, h.tape, h.output, by have := h.size; simp; omega, fun k hk hf => (Below.heap_alloc w1 o k (Nat.lt_of_lt_of_le hk h.size)).trans (h.block k hk hf)⟩
theorem chg_drew (h : Chg F w w1) : Chg F w w1.drew := ⟨h.os, h.tape, h.output, h.size, h.block⟩
theorem chg_set (h : Chg F w w1) {b : Nat} (hb : F b ∨ w.heap.size ≤ b) (i : Nat) (v : Value) : Chg F w (w1.setCell ⟨b, i, none⟩ v) :=
  ⟨h.os, h.tape, h.output, by rw [setCell_size]; exact h.size, fun k hk hf => (Below.heap_setCell w1 _ v k fun e => by
    subst e
    rcases hb with h1 | h1
    · exact hf h1
    · omega).trans (h.block k hk hf)⟩
theorem chg_row (h : Chg F w w1) {b : Nat} (hb : F b ∨ w.heap.size ≤ b) (ds : Array Value) : Chg F w (w1.setRow b ds) :=
  ⟨h.os, h.tape, h.output, by rw [setRow_size]; exact h.size, fun k hk hf => (setRow_other w1 b k ds fun e => by
    subst e
    rcases hb with h1 | h1
    · exact hf h1
    · omega).trans (h.block k hk hf)⟩
theorem chg_grown (h : Chg F w w1) {row : Option Nat} (hg : w1.grownBy w2 row) (hr : ∀ k, row = some k → F k ∨ w.heap.size ≤ k) : Chg F w w2 :=
  chg_trans h (G := fun k => some k = row) ⟨hg.os, hg.tape, hg.output, hg.size, fun k hk hn => hg.block k hk hn⟩ fun x hx => hr x hx.symm
theorem chg_below (h : Chg F w w') {B : Nat} (hF : ∀ k, F k → B ≤ k) (hB : B ≤ w.heap.size) : Below B w w' := ⟨h.os, h.tape, h.output, h.size, fun k hk => h.block k (by omega) fun h' => by have := hF k h'; omega⟩
theorem below_chg {B : Nat} (h : Below B w w') : Chg (fun k => B ≤ k) w w' := ⟨h.os, h.tape, h.output, h.size, fun k _ hf => h.block k (by omega)⟩
/-- What makes memory alone changes nothing. -/
theorem new_chg (h : Below w.heap.size w w') (F : Nat → Prop) : Chg F w w' := ⟨h.os, h.tape, h.output, h.size, fun k hk _ => h.block k hk⟩

theorem more_old {k : Nat} (h : F k) : More F w w' k := .inl h
theorem more_new {k : Nat} (h1 : w.heap.size ≤ k) (h2 : k < w'.heap.size) : More F w w' k := .inr ⟨h1, h2⟩
theorem more_up (h : w1.heap.size ≤ w2.heap.size) {k : Nat} (hk : More F w w1 k) : More F w w2 k := hk.imp id fun h' => ⟨h'.1, by omega⟩
theorem more_more (h : w.heap.size ≤ w1.heap.size) (h2 : w1.heap.size ≤ w2.heap.size) {k : Nat} (hk : More (More F w w1) w1 w2 k) : More F w w2 k := by
  rcases hk with (hk | hk) | hk
  · exact .inl hk
  · exact .inr ⟨hk.1, by omega⟩
  · exact .inr ⟨by omega, hk.2⟩
theorem more_lt (hF : ∀ k, F k → k < w.heap.size) (h : w.heap.size ≤ w'.heap.size) {k : Nat} (hk : More F w w' k) : k < w'.heap.size := by
  rcases hk with hk | hk
  · have := hF k hk; omega
  · exact hk.2
theorem more_ge {B : Nat} (hF : ∀ k, F k → B ≤ k) (h : B ≤ w.heap.size) {k : Nat} (hk : More F w w' k) : B ≤ k := by
  rcases hk with hk | hk
  · exact hF k hk
  · omega
/-- Two that have nothing in common, and the one grows. -/
theorem more_apart (hG : ∀ k, G k → k < w.heap.size) (ha : ∀ k, F k → ¬ G k) {k : Nat} (hk : More F w w' k) : ¬ G k := by
  intro hg
  rcases hk with hk | hk
  · exact ha k hk hg
  · have := hG k hg; omega

/-! ### What stays -/

theorem cell_chg (h : Chg F w w') {b o : Nat} {v : Value} (hc : w.cell? ⟨b, o, none⟩ = some v) (hb : ¬ F b) : w'.cell? ⟨b, o, none⟩ = some v := by
  rw [World.cell?_of_block (w := w) (a := ⟨b, o, none⟩) (h.block b (World.block_lt_of_cell? w _ hc) hb)]; exact hc
theorem blk_chg (h : Chg F w w') {b : Nat} {t : TypeId} {cs : List Value} (hc : Arr.Blk w b t cs) (hb : ¬ F b) : Arr.Blk w' b t cs := by
  unfold Arr.Blk
  rw [h.block b (Arr.blk_lt hc) hb]; exact hc
theorem own_chg {α : Type} {enc : α → List Value} {size : Nat} {e : TypeId} {base : Nat} {v : Value} {l : List α} (h : Chg F w w') (ho : Owns enc size e w base v l) (hb : ∀ g, v.ownBlock = some g → ¬ F g) : Owns enc size e w' base v l := by
  refine ⟨ho.1, ?_⟩
  rcases ho.2 with hn | ⟨g, cap, cur, rfl, h1, hg, rest⟩
  · exact .inl hn
  · refine .inr ⟨g, cap, cur, rfl, h1, ?_, rest⟩
    rw [h.block g (Array.getElem?_eq_some_iff.1 hg).1 (hb g rfl)]
    exact hg
theorem row_chg {α : Type} {enc : α → List Value} {size : Nat} (hs : ∀ x, (enc x).length = size) {b off : Nat} {l : List α} (h : Chg F w w') (hr : Row enc size w (some ⟨b, off, none⟩) l) (hb : ¬ F b) : Row enc size w' (some ⟨b, off, none⟩) l := by
  rcases hr with hr | ⟨b', off', h1, h2⟩
  · exact .inl hr
  · injection h1 with h1
    injection h1 with h1 h3
    subst h1 h3
    refine .inr ⟨b, off, rfl, fun j hj i hi => ?_⟩
    have e := h2 j hj i hi
    rw [List.getElem?_eq_getElem (by rw [hs]; exact hi)] at e ⊢
    exact cell_chg h e hb

/-! ### Blocks of unlike elements are unlike -/

theorem own_type {α : Type} {enc : α → List Value} {size : Nat} {e : TypeId} {base : Nat} {v : Value} {l : List α} (ho : Owns enc size e w base v l) {g : Nat} (hg : v.ownBlock = some g) : ∃ cur, w.heap[g]? = some (.cells cur e (0, 0)) := by
  rcases ho.2 with ⟨rfl, _⟩ | ⟨g', cap, cur, rfl, _, h1, _⟩
  · cases hg
  · injection hg with hg
    subst hg
    exact ⟨cur, h1⟩
theorem type_ne {b g : Nat} {t e : TypeId} {cs cur : Array Value} (h1 : w.heap[b]? = some (.cells cs t (0, 0))) (h2 : w.heap[g]? = some (.cells cur e (0, 0))) (hne : t ≠ e) : b ≠ g := by
  intro he
  subst he
  rw [h1] at h2
  injection h2 with h2
  injection h2 with _ h3 _
  exact hne h3
theorem own_set_far {α : Type} {enc : α → List Value} {size : Nat} {e : TypeId} {base : Nat} {v : Value} {l : List α} (ho : Owns enc size e w base v l) {b : Nat} (hb : ∀ g, v.ownBlock = some g → g ≠ b) (i : Nat) (u : Value) : Owns enc size e (w.setCell ⟨b, i, none⟩ u) base v l :=
  own_chg (chg_set (F := fun k => k = b) (chg_refl _ w) (.inl rfl) i u) ho hb

theorem owns_le {α : Type} {enc : α → List Value} {size : Nat} {e : TypeId} {base base' : Nat} {v : Value} {l : List α} (h : Owns enc size e w base v l) (hb : base' ≤ base) : Owns enc size e w base' v l :=
  ⟨h.1, h.2.imp id fun ⟨g, cap, cur, h1, h2, h3⟩ => ⟨g, cap, cur, h1, by omega, h3⟩⟩
/-- All these blocks hold elements of a type that is not e. -/
def Typed (G : Nat → Prop) (w : World) (e : TypeId) : Prop := ∀ k, G k → ∃ cur t, w.heap[k]? = some (.cells cur t (0, 0)) ∧ t ≠ e
theorem own_typed {α : Type} {enc : α → List Value} {size : Nat} {e : TypeId} {base : Nat} {v : Value} {l : List α} (ho : Owns enc size e w base v l) (hc : Chg G w w') (ht : Typed G w e) : Owns enc size e w' base v l :=
  own_chg hc ho fun g hg hG => by
    obtain ⟨cur, t, h1, h2⟩ := ht g hG
    obtain ⟨cur', h3⟩ := own_type ho hg
    exact type_ne h1 h3 h2 rfl
theorem blk_typed {b : Nat} {t : TypeId} {cs : List Value} (h : Arr.Blk w b t cs) (hc : Chg G w w') (ht : Typed G w t) : Arr.Blk w' b t cs :=
  blk_chg hc h fun hG => by
    obtain ⟨cur, t', h1, h2⟩ := ht b hG
    exact type_ne h1 h h2 rfl
theorem typed_one {b : Nat} {t e : TypeId} {cs : Array Value} (h : w.heap[b]? = some (.cells cs t (0, 0))) (hne : t ≠ e) : Typed (fun k => k = b) w e := fun k hk => by subst hk; exact ⟨_, _, h, hne⟩
theorem typed_own {α : Type} {enc : α → List Value} {size : Nat} {t e : TypeId} {base : Nat} {v : Value} {l : List α} (ho : Owns enc size t w base v l) (hne : t ≠ e) : Typed (fun k => some k = v.ownBlock) w e := fun k hk => by
  obtain ⟨cur, h⟩ := own_type ho hk.symm
  exact ⟨_, _, h, hne⟩
theorem grown_chg {row : Option Nat} (h : w.grownBy w' row) : Chg (fun k => some k = row) w w' := ⟨h.os, h.tape, h.output, h.size, fun k hk hn => h.block k hk hn⟩
theorem set_chg (w : World) (b i : Nat) (v : Value) : Chg (fun k => k = b) w (w.setCell ⟨b, i, none⟩ v) := chg_set (F := fun k => k = b) (chg_refl _ w) (.inl rfl) i v

end Go.Proofs.Ytckebhknnocpkaa.Foot
