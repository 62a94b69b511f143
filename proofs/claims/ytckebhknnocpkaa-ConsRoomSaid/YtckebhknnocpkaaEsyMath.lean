/- Easy: who may start, by what runs and a queue (mathematics). -/
import Derived.Test.YtckebhknnocpkaaPrfMem
import Derived.Test.YtckebhknnocpkaaAskMem
namespace Go.Proofs.Ytckebhknnocpkaa.Esy
open Prf (Bz busyN newF busyN_le Nd Tk)
open Go.Proofs.Ytckebhknnocpkaa.Ord (Aq)
set_option linter.unusedVariables false

/-- The first of the ticks at which something ends, or now, from which on so many are free. -/
def shS (now total : Int) (l : List Bz) (nodes : Int) (b : Option Int) (t : Int) : Option Int := if now ≤ t ∧ nodes ≤ newF total l t ∧ (∀ x, b = some x → t < x) then some t else b
def ticksL (now : Int) (l : List Bz) : List Int := now :: l.map (·.till)
def shadow (now total : Int) (l : List Bz) (nodes : Int) : Option Int := (ticksL now l).foldl (shS now total l nodes) none
def bestI (b : Option Int) : Int := match b with | none => -1 | some x => x
def shT (now total : Int) (l : List Bz) (nodes : Int) : Int := match shadow now total l nodes with | none => 0 | some b => b
def shX (now total : Int) (l : List Bz) (nodes : Int) : Int := match shadow now total l nodes with | none => 0 | some b => newF total l b - nodes
def shB (now total : Int) (l : List Bz) (nodes : Int) : Bool := (shadow now total l nodes).isSome
/-- Ahead of a head: does it not hold it up? -/
def mayB (now total : Int) (l : List Bz) (h : Option Int) (x : Aq) : Bool := match h with | none => true | some g => decide (now + x.wall ≤ shT now total l g ∨ x.nodes ≤ shX now total l g)
/-- One by one: the first that may start, with the head, if one that counts was there. -/
def go (now total : Int) (l : List Bz) : Option Int → List Aq → List Bool → Option Nat
  | _, [], _ => none
  | h, x :: q, rf =>
    if rf.headD false = true ∨ total < x.nodes then (go now total l h q rf.tail).map (· + 1)
    else if newF total l now < x.nodes then (go now total l (some (h.getD x.nodes)) q rf.tail).map (· + 1)
    else if mayB now total l h x = true then some 0 else (go now total l h q rf.tail).map (· + 1)
theorem go_cons (now total : Int) (l : List Bz) (h : Option Int) (x : Aq) (q : List Aq) (rf : List Bool) : go now total l h (x :: q) rf =
    if rf.headD false = true ∨ total < x.nodes then (go now total l h q rf.tail).map (· + 1)
    else if newF total l now < x.nodes then (go now total l (some (h.getD x.nodes)) q rf.tail).map (· + 1)
    else if mayB now total l h x = true then some 0 else (go now total l h q rf.tail).map (· + 1) := by
  cases rf <;> rfl
def next (now total : Int) (l : List Bz) (q : List Aq) (rf : List Bool) : Option Nat := go now total l none q rf
def nextI (now total : Int) (l : List Bz) (q : List Aq) (rf : List Bool) : Int := match next now total l q rf with | none => 0 | some k => (k : Nat)
def nextB (now total : Int) (l : List Bz) (q : List Aq) (rf : List Bool) : Bool := (next now total l q rf).isSome

/-! ### What it keeps -/

variable {now total : Int} {l : List Bz}
theorem go_ok : ∀ {q : List Aq} {rf : List Bool} {h : Option Int} {k : Nat}, go now total l h q rf = some k → ∃ x, q[k]? = some x ∧ rf.getD k false = false ∧ x.nodes ≤ newF total l now
  | [], _, _, _, e => by simp [go] at e
  | x :: q, rf, h, k, e => by
    have tl : ∀ j, rf.tail.getD j false = rf.getD (j + 1) false := fun j => by cases rf <;> simp
    have hd : rf.headD false = rf.getD 0 false := by cases rf <;> simp
    have up : ∀ {h' : Option Int}, (go now total l h' q rf.tail).map (· + 1) = some k → ∃ y, (x :: q)[k]? = some y ∧ rf.getD k false = false ∧ y.nodes ≤ newF total l now := fun e => by
      rw [Option.map_eq_some_iff] at e
      obtain ⟨j, hj, rfl⟩ := e
      obtain ⟨y, h1, h2, h3⟩ := go_ok hj
      exact ⟨y, by simpa using h1, by rw [← tl]; exact h2, h3⟩
    rw [go_cons] at e
    split at e
    · exact up e
    · rename_i hc
      split at e
      · exact up e
      · rename_i hf
        have h0 : k = 0 → ∃ y, (x :: q)[k]? = some y ∧ rf.getD k false = false ∧ y.nodes ≤ newF total l now := fun hk => by
          subst hk
          refine ⟨x, rfl, ?_, by omega⟩
          rw [← hd]
          cases hr : rf.headD false
          · rfl
          · exact absurd (.inl hr) hc
        split at e
        · injection e with e
          exact h0 e.symm
        · exact up e
/-- None refused is as if it were not told. -/
theorem go_nil : ∀ (q : List Aq) (h : Option Int) (n : Nat), go now total l h q (List.replicate n false) = go now total l h q []
  | [], _, _ => rfl
  | x :: q, h, n => by
    have e1 : (List.replicate n false).headD false = false := by cases n <;> rfl
    have e2 : (List.replicate n false).tail = List.replicate (n - 1) false := by cases n <;> simp
    have ih := fun h' => go_nil q h' (n - 1)
    rw [go_cons, go_cons, e2]
    by_cases h1 : total < x.nodes
    · rw [if_pos (.inr h1), if_pos (.inr h1), ih]; rfl
    · have n1 : ¬ ((List.replicate n false).headD false = true ∨ total < x.nodes) := by rw [e1]; simpa using h1
      have n2 : ¬ (([] : List Bool).headD false = true ∨ total < x.nodes) := by simpa using h1
      rw [if_neg n1, if_neg n2]
      by_cases h2 : newF total l now < x.nodes
      · rw [if_pos h2, if_pos h2, ih]; rfl
      · rw [if_neg h2, if_neg h2, ih]; rfl
/-- One that is refused is passed over. -/
theorem go_refused : ∀ (A : List Aq) (x : Aq) (B : List Aq) (h : Option Int) (n : Nat), A.length < n → go now total l h (A ++ x :: B) ((List.replicate n false).set A.length true) = (go now total l h (A ++ B) []).map fun m => if A.length ≤ m then m + 1 else m
  | [], x, B, h, n, hn => by
    obtain ⟨n, rfl⟩ : ∃ m, n = m + 1 := ⟨n - 1, by simp at hn; omega⟩
    rw [List.nil_append, List.nil_append, go_cons, List.length_nil, List.replicate_succ, List.set_cons_zero]
    simp only [List.headD_cons, true_or, if_true, List.tail_cons, go_nil, Nat.zero_le]
  | a :: A, x, B, h, n, hn => by
    obtain ⟨n, rfl⟩ : ∃ m, n = m + 1 := ⟨n - 1, by simp at hn; omega⟩
    have hn2 : A.length < n := by simp at hn; omega
    have ih := fun h' => go_refused A x B h' n hn2
    have hm : ∀ o : Option Nat, (o.map fun m => if A.length ≤ m then m + 1 else m).map (· + 1) = (o.map (· + 1)).map fun m => if (a :: A).length ≤ m then m + 1 else m := fun o => by
      cases o with
      | none => rfl
      | some m =>
        simp only [Option.map_some, List.length_cons, Nat.add_le_add_iff_right]
        split <;> rfl
    rw [List.cons_append, List.cons_append, go_cons, go_cons, List.length_cons, List.replicate_succ, List.set_cons_succ]
    have e1 : (false :: (List.replicate n false).set A.length true).headD false = false := rfl
    by_cases h1 : total < a.nodes
    · rw [if_pos (.inr h1), if_pos (.inr h1), List.tail_cons, ih, hm]; rfl
    · have n1 : ¬ ((false :: (List.replicate n false).set A.length true).headD false = true ∨ total < a.nodes) := by rw [e1]; simpa using h1
      have n2 : ¬ (([] : List Bool).headD false = true ∨ total < a.nodes) := by simpa using h1
      rw [if_neg n1, if_neg n2]
      by_cases h2 : newF total l now < a.nodes
      · rw [if_pos h2, if_pos h2, List.tail_cons, ih, hm]; rfl
      · rw [if_neg h2, if_neg h2]
        by_cases h3 : mayB now total l h a = true
        · rw [if_pos h3, if_pos h3]; simp
        · rw [if_neg h3, if_neg h3, List.tail_cons, ih, hm]; rfl
end Go.Proofs.Ytckebhknnocpkaa.Esy
