/- Disk: one disk alone: what it is, what lies apart from it, and a write to it in a region that draws its order. -/
import Derived.Test.YtpbegchaneppfaaDskPlays
namespace Go.Proofs.Ytpbegchaneppfaa.Dsk
open Go.RowKit
open Go.Sort
open Kit
open Oct
open Foot
set_option linter.unusedVariables false
variable {D : World → (Nat → Prop) → Nat → DS → Prop}

/-- A disk alone, its blocks from B on. -/
structure OneF (D : World → (Nat → Prop) → Nat → DS → Prop) (B : Nat) (w : World) (F : Nat → Prop) (p : Nat) (s : DS) : Prop where
  d : D w F p s
  lt : ∀ k, F k → B ≤ k ∧ k < w.heap.size
theorem one_keep (hD : Prog D) {B p : Nat} {w w' : World} {F : Nat → Prop} {s : DS} (h : OneF D B w F p s) (hb : Below w.heap.size w w') : OneF D B w' F p s :=
  ⟨hD.chg h.d (new_chg hb (fun _ => False)) (fun _ _ => id), fun k hk => ⟨(h.lt k hk).1, Nat.lt_of_lt_of_le (h.lt k hk).2 hb.size⟩⟩
theorem one_more (hD : Prog D) {B p : Nat} {w w' : World} {F : Nat → Prop} {s s' : DS} (h : OneF D B w F p s) (h1 : D w' (More F w w') p s') (hC : Chg F w w') (hB : B ≤ w.heap.size) : OneF D B w' (More F w w') p s' :=
  ⟨h1, fun k hk => ⟨more_ge (fun k hk => (h.lt k hk).1) hB hk, more_lt (fun k hk => (h.lt k hk).2) hC.size hk⟩⟩
theorem one_below {B p : Nat} {w w' : World} {F : Nat → Prop} {s : DS} (h : OneF D B w F p s) (hC : Chg F w w') (hB : B ≤ w.heap.size) : Below B w w' := chg_below hC (fun k hk => (h.lt k hk).1) hB

/-- Bytes that lie apart from F. -/
structure Far (F : Nat → Prop) (w : World) (a : Option Addr) (l : List UInt8) : Prop where
  row : RowB w a l
  far : ∀ q, a = some q → ¬ F q.block ∧ q.block < w.heap.size
theorem far_own {F : Nat → Prop} {w : World} {base : Nat} {v : Value} {l : List UInt8} (h : RdB w base v l) (hF : ∀ k, F k → k < base) : ∃ a c, v = .slice a l.length c ∧ (a = none → l.length = 0) ∧ Far F w a l := by
  obtain ⟨a, c, rfl, h1, _, h3, h4, h5⟩ := h
  refine ⟨a, c, rfl, fun e => by have := h3 e; omega, h4, fun q hq => ?_⟩
  obtain ⟨_, h6, h7⟩ := h5 q hq
  exact ⟨fun hf => by have := hF _ hf; omega, h7⟩
theorem far_chg {F : Nat → Prop} {w w' : World} {a : Option Addr} {l : List UInt8} (h : Far F w a l) (hC : Chg F w w') : Far (More F w w') w' a l := by
  refine ⟨?_, fun q hq => ⟨fun hf => hf.elim (h.far q hq).1 fun h' => by have := (h.far q hq).2; omega, Nat.lt_of_lt_of_le (h.far q hq).2 hC.size⟩⟩
  rcases h.row with e | ⟨b, o, e, h2⟩
  · exact .inl e
  · subst e
    exact row_chg encB_len hC (.inr ⟨b, o, rfl, h2⟩) (h.far _ rfl).1
theorem far_keep {F : Nat → Prop} {w w' : World} {a : Option Addr} {l : List UInt8} (h : Far F w a l) (hb : Below w.heap.size w w') : Far F w' a l :=
  ⟨row_keep encB_len h.row hb, fun q hq => ⟨(h.far q hq).1, Nat.lt_of_lt_of_le (h.far q hq).2 hb.size⟩⟩

theorem run_at_acts (b o n c k : Nat) (h : k < n) (w : World) : (Instr.indexAt 22 (.slice (some ⟨b, o, none⟩) n c) (.int .i64 k)).run Try.prog w = .ok (.pointer (some ⟨b, o + k * 5, none⟩)) w := by
  simp [go_sem]
  omega
theorem run_ld_u8 {w : World} {a : Addr} {n : Int} (h : w.cell? a = some (.int .u8 n)) : (Instr.loadAt 5 (.pointer (some a))).run Try.prog w = .ok (.int .u8 n) w := by
  simp [go_sem, h]

/-- A region in which a disk is written once, by operation j. -/
def J1 (D : World → (Nat → Prop) → Nat → DS → Prop) (B : Nat) (W : World) (F : Nat → Prop) (p : Nat) (s s' : DS) (j : Nat) (L : Array Bool) (w : World) : Prop :=
  Chg F W w ∧ ∃ F', (L.getD j false = false → F' = F) ∧ (∀ k, F' k → F k ∨ W.heap.size ≤ k) ∧ OneF D B w F' p (cond (L.getD j false) s' s)
variable {B p j : Nat} {W w w' : World} {F : Nat → Prop} {s s' : DS} {L : Array Bool}
theorem j1_set (h : J1 D B W F p s s' j L w) {k : Nat} (hk : k ≠ j) : J1 D B W F p s s' j (L.setIfInBounds k true) w := by
  unfold J1 at h ⊢
  rw [set_far hk]; exact h
theorem j1_start {n : Nat} (hD : Prog D) (h : OneF D B W F p s) : J1 D B W F p s s' j (Array.replicate n false) W.drew := by
  have e : ∀ m, (Array.replicate n false).getD m false = false := by
    intro m
    by_cases hm : m < n <;> simp [hm]
  refine ⟨chg_drew (chg_refl _ _), F, fun _ => rfl, fun _ => .inl, ?_⟩
  rw [e]
  exact one_keep hD h (below_drew W)
theorem j1_lt (h : J1 D B W F p s s' j L w) (hF : ∀ k, F k → k < W.heap.size) : ∀ k, F k → k < w.heap.size := fun k hk => Nat.lt_of_lt_of_le (hF k hk) h.1.size
theorem j1_keep (hD : Prog D) (h : J1 D B W F p s s' j L w) (hb : Below w.heap.size w w') : J1 D B W F p s s' j L w' := by
  obtain ⟨h1, F', e, h2, hP⟩ := h
  exact ⟨chg_trans h1 (new_chg hb (fun _ => False)) (fun _ h => h.elim), F', e, h2, one_keep hD hP hb⟩
theorem j1_first (h : J1 D B W F p s s' j L w) (hf : L.getD j true = false) : OneF D B w F p s := by
  obtain ⟨h1, F', e, h2, hP⟩ := h
  have := e (free_it hf)
  subst this
  rw [free_it hf] at hP
  exact hP
theorem j1_first' (hD : Prog D) (h : J1 D B W F p s s' j L w) (hf : L.getD j true = false) (h1 : D w' (More F w w') p s') (hC : Chg F w w') (hB : B ≤ W.heap.size) : J1 D B W F p s s' j (L.setIfInBounds j true) w' := by
  have hO := j1_first h hf
  obtain ⟨h3, _⟩ := h
  refine ⟨chg_trans h3 hC (fun x hx => .inl hx), More F w w', fun h => (by rw [set_it hf] at h; cases h), fun k hk => hk.imp id fun h => Nat.le_trans h3.size h.1, ?_⟩
  rw [set_it hf]
  exact one_more hD hO h1 hC (Nat.le_trans hB h3.size)
theorem j1_end {n : Nat} (h : J1 D B W F p s s' j (Array.replicate n true) w) (hn : j < n) : Chg F W w ∧ ∃ F', (∀ k, F' k → F k ∨ W.heap.size ≤ k) ∧ OneF D B w F' p s' := by
  obtain ⟨h1, F', _, h2, hP⟩ := h
  have e : (Array.replicate n true).getD j false = true := by simp [hn]
  rw [e] at hP
  exact ⟨h1, F', h2, hP⟩
/-- What lay apart from F lies apart from what F has become. -/
theorem far_end {F' : Nat → Prop} {a : Option Addr} {l : List UInt8} (h : Far F W a l) (hC : Chg F W w) (h2 : ∀ k, F' k → F k ∨ W.heap.size ≤ k) : Far F' w a l := by
  obtain ⟨h3, h4⟩ := far_chg h hC
  exact ⟨h3, fun q hq => ⟨fun hf => (h2 _ hf).elim (h.far q hq).1 fun h' => by have := (h.far q hq).2; omega, (h4 q hq).2⟩⟩

end Go.Proofs.Ytpbegchaneppfaa.Dsk
