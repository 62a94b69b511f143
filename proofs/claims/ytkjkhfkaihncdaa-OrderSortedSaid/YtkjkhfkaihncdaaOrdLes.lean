/- Order: what the laws ask (mathematics): how many, none twice, no later one ahead; one that is queued no more. -/
import Derived.Test.YtkjkhfkaihncdaaOrdMath
namespace Go.Proofs.Ytkjkhfkaihncdaa.Ord
open Job (Jb Jv)
set_option linter.unusedVariables false

def ts (l : List Jv) : List Jb := l.map (·.t)
def places (l : List Jb) : List Int := (ord l).map fun (n : Nat) => (n : Int)
/-- How many of the first n are queued. -/
def qTo (l : List Jb) : Nat → Nat
  | 0 => 0
  | n + 1 => qTo l n + (if isQ l n then 1 else 0)
theorem ins_len (l : List Jb) (n : Nat) (out : List Nat) : (insN l n out).length = out.length + 1 := by
  have := place_le l n out out.length
  unfold insN
  rw [List.length_append, List.length_append, List.length_take, List.length_drop]
  simp
  omega
theorem ord_len (l : List Jb) : ∀ n, (ordTo l n).length = qTo l n
  | 0 => rfl
  | n + 1 => by
    rw [ordTo, qTo]
    by_cases h : isQ l n = true
    · rw [if_pos h, if_pos h, ins_len, ord_len l n]
    · rw [if_neg h, if_neg h, ord_len l n]; rfl
theorem q_le (l : List Jb) : ∀ n, qTo l n ≤ n
  | 0 => Nat.le_refl _
  | n + 1 => by
    have := q_le l n
    rw [qTo]
    split <;> omega
theorem ord_at {l : List Jb} {k m : Nat} (h : (ord l)[k]? = some m) : ∃ x, l[m]? = some x ∧ x.state = 1 ∧ m < l.length := by
  have hm : m ∈ ord l := List.mem_of_getElem? h
  obtain ⟨h1, h2⟩ := (ord_mem l l.length m).1 hm
  unfold isQ at h2
  cases hx : l[m]? with
  | none => rw [hx] at h2; cases h2
  | some x => rw [hx] at h2; exact ⟨x, rfl, by simpa using h2, h1⟩
/-- None twice; no later one is ahead. -/
theorem ord_apart {l : List Jb} {i j a b : Nat} {x y : Jb} (hij : i < j) (ha : (ord l)[i]? = some a) (hb : (ord l)[j]? = some b) (hx : l[a]? = some x) (hy : l[b]? = some y) : a ≠ b ∧ ¬ x.prio < y.prio ∧ (x.prio = y.prio → ¬ y.id < x.id) := by
  obtain ⟨h1, e1⟩ := List.getElem?_eq_some_iff.1 ha
  obtain ⟨h2, e2⟩ := List.getElem?_eq_some_iff.1 hb
  have h := List.pairwise_iff_getElem.1 (ord_sorted l l.length) i j h1 h2 hij
  have e1' : (ordTo l l.length)[i] = a := e1
  have e2' : (ordTo l l.length)[j] = b := e2
  rw [e1', e2'] at h
  refine ⟨fun e => ?_, ?_⟩
  · subst e; exact lt_irrefl h
  · unfold lt at h
    rw [hx, hy] at h
    simp only [aheadJ] at h
    omega
/-- One is queued no more. -/
def heldAt (l : List Jb) (m : Nat) (s : Int) : List Jb := match l[m]? with | some x => l.set m { x with state := s } | none => l
theorem held_get (l : List Jb) (m : Nat) (s : Int) (n : Nat) : (heldAt l m s)[n]? = if n = m then (l[m]?).map (fun x => { x with state := s }) else l[n]? := by
  unfold heldAt
  cases hx : l[m]? with
  | none =>
    by_cases e : n = m
    · subst e; rw [if_pos rfl]; exact hx
    · rw [if_neg e]
  | some x =>
    have hm := (List.getElem?_eq_some_iff.1 hx).1
    simp only
    by_cases e : n = m
    · subst e
      rw [if_pos rfl, List.getElem?_set_self hm]; rfl
    · rw [if_neg e, List.getElem?_set_ne (fun h => e h.symm)]
theorem held_len (l : List Jb) (m : Nat) (s : Int) : (heldAt l m s).length = l.length := by
  unfold heldAt
  split <;> simp
theorem held_q {l : List Jb} {m : Nat} {s : Int} (hs : s ≠ 1) (n : Nat) : isQ (heldAt l m s) n = (isQ l n && n != m) := by
  unfold isQ
  rw [held_get]
  by_cases e : n = m
  · subst e
    rw [if_pos rfl]
    cases l[n]? with
    | none => rfl
    | some x => simp [hs]
  · rw [if_neg e]
    cases l[n]? with
    | none => rfl
    | some x => simp [e]
theorem held_key (l : List Jb) (m : Nat) (s : Int) (n : Nat) : ((heldAt l m s)[n]?).map (fun x => (x.prio, x.id)) = (l[n]?).map (fun x => (x.prio, x.id)) := by
  rw [held_get]
  by_cases e : n = m
  · subst e
    rw [if_pos rfl, Option.map_map]; rfl
  · rw [if_neg e]
theorem lt_key {l l' : List Jb} (h : ∀ n : Nat, (l'[n]?).map (fun x => (x.prio, x.id)) = (l[n]?).map (fun x => (x.prio, x.id))) (a b : Nat) : lt l' a b ↔ lt l a b := by
  have ha := h a
  have hb := h b
  unfold lt
  cases h1 : l'[a]? with
  | none => cases h2 : l[a]? with
    | none => exact Iff.rfl
    | some x => rw [h1, h2] at ha; cases ha
  | some x' => cases h2 : l[a]? with
    | none => rw [h1, h2] at ha; cases ha
    | some x =>
      cases h3 : l'[b]? with
      | none => cases h4 : l[b]? with
        | none => exact Iff.rfl
        | some y => rw [h3, h4] at hb; cases hb
      | some y' => cases h4 : l[b]? with
        | none => rw [h3, h4] at hb; cases hb
        | some y =>
          rw [h1, h2] at ha
          rw [h3, h4] at hb
          simp only [Option.map_some, Option.some.injEq, Prod.mk.injEq] at ha hb
          simp only [aheadJ, ha.1, ha.2, hb.1, hb.2]
theorem split_at {α : Type} {l : List α} {k : Nat} {m : α} (h : l[k]? = some m) : l = l.take k ++ m :: l.drop (k + 1) := by
  obtain ⟨hk, e⟩ := List.getElem?_eq_some_iff.1 h
  rw [← e, List.getElem_cons_drop, List.take_append_drop]
theorem ord_less {l : List Jb} {k m : Nat} {s : Int} (hs : s ≠ 1) (h : (ord l)[k]? = some m) : ord (heldAt l m s) = (ord l).take k ++ (ord l).drop (k + 1) := by
  have hsp := split_at h
  have hpw := ord_sorted l l.length
  have hpw' : (ord l).Pairwise (lt l) := hpw
  have hpw2 := hpw'
  rw [hsp] at hpw2
  obtain ⟨p1, p2, p3⟩ := List.pairwise_append.1 hpw2
  obtain ⟨p4, p5⟩ := List.pairwise_cons.1 p2
  refine sorted_one (l := l) ?_ ?_ fun x => ?_
  · exact (ord_sorted (heldAt l m s) _).imp fun {a b} => (lt_key (held_key l m s) a b).1
  · refine List.pairwise_append.2 ⟨p1, p5, fun x hx y hy => p3 x hx y (List.mem_cons_of_mem _ hy)⟩
  · show x ∈ ordTo _ _ ↔ _
    rw [ord_mem, held_len, held_q hs, List.mem_append]
    have hmem : x ∈ ord l ↔ x < l.length ∧ isQ l x = true := ord_mem l l.length x
    have hmem2 : x ∈ ord l ↔ x ∈ (ord l).take k ∨ x = m ∨ x ∈ (ord l).drop (k + 1) := by
      conv => lhs; rw [hsp]
      rw [List.mem_append, List.mem_cons]
    constructor
    · rintro ⟨h1, h2⟩
      simp at h2
      rcases hmem2.1 (hmem.2 ⟨h1, h2.1⟩) with h3 | h3 | h3
      · exact .inl h3
      · exact absurd h3 h2.2
      · exact .inr h3
    · intro h3
      have hne : x ≠ m := by
        rcases h3 with h3 | h3
        · intro e; subst e; exact lt_irrefl (p3 x h3 x (List.mem_cons_self ..))
        · intro e; subst e; exact lt_irrefl (p4 x h3)
      obtain ⟨h4, h5⟩ := hmem.1 (hmem2.2 (h3.imp id .inr))
      exact ⟨h4, by simp [h5, hne]⟩
end Go.Proofs.Ytkjkhfkaihncdaa.Ord
