/- Order: the places of those that are queued, each behind all that are ahead of it (mathematics). -/
import Derived.Test.YtkjkhfkaihncdaaJobMem
namespace Go.Proofs.Ytkjkhfkaihncdaa.Ord
open Job (Jb)
set_option linter.unusedVariables false

/-- Is the job at one place ahead of that at another one? -/
def aheadJ (x y : Jb) (a b : Nat) : Prop := y.prio < x.prio ∨ (x.prio = y.prio ∧ (x.id < y.id ∨ (x.id = y.id ∧ a < b)))
instance (x y : Jb) (a b : Nat) : Decidable (aheadJ x y a b) := by unfold aheadJ; infer_instance
def lt (l : List Jb) (a b : Nat) : Prop := match l[a]?, l[b]? with | some x, some y => aheadJ x y a b | _, _ => False
instance (l : List Jb) (a b : Nat) : Decidable (lt l a b) := by unfold lt; split <;> infer_instance
def isQ (l : List Jb) (n : Nat) : Bool := match l[n]? with | some x => x.state == 1 | none => false
/-- Behind how many of the first k. -/
def place (l : List Jb) (n : Nat) (out : List Nat) : Nat → Nat
  | 0 => 0
  | k + 1 => match out[k]? with | some m => if lt l n m then place l n out k else k + 1 | none => k + 1
def insN (l : List Jb) (n : Nat) (out : List Nat) : List Nat := out.take (place l n out out.length) ++ [n] ++ out.drop (place l n out out.length)
def ordTo (l : List Jb) : Nat → List Nat
  | 0 => []
  | n + 1 => if isQ l n then insN l n (ordTo l n) else ordTo l n
def ord (l : List Jb) : List Nat := ordTo l l.length

theorem lt_trans {l : List Jb} {a b c : Nat} (h1 : lt l a b) (h2 : lt l b c) : lt l a c := by
  unfold lt at *
  cases ha : l[a]? with
  | none => rw [ha] at h1; exact h1.elim
  | some x => cases hb : l[b]? with
    | none => rw [ha, hb] at h1; exact h1.elim
    | some y => cases hc : l[c]? with
      | none => rw [hb, hc] at h2; exact h2.elim
      | some z =>
        rw [ha, hb] at h1
        rw [hb, hc] at h2
        simp only [aheadJ] at h1 h2 ⊢
        omega
theorem lt_irrefl {l : List Jb} {a : Nat} : ¬ lt l a a := by
  unfold lt
  cases ha : l[a]? with
  | none => exact id
  | some x => simp only [aheadJ]; omega
theorem lt_total {l : List Jb} {a b : Nat} (ha : a < l.length) (hb : b < l.length) (hne : a ≠ b) (h : ¬ lt l a b) : lt l b a := by
  unfold lt at *
  rw [List.getElem?_eq_getElem ha, List.getElem?_eq_getElem hb] at *
  simp only [aheadJ] at h ⊢
  omega
theorem place_le (l : List Jb) (n : Nat) (out : List Nat) : ∀ k, place l n out k ≤ k
  | 0 => Nat.le_refl _
  | k + 1 => by
    have := place_le l n out k
    rw [place]
    split
    · split <;> omega
    · omega
/-- All from that place on are behind it. -/
theorem place_behind (l : List Jb) (n : Nat) (out : List Nat) : ∀ k, k ≤ out.length → ∀ i, place l n out k ≤ i → i < k → ∀ m, out[i]? = some m → lt l n m
  | 0, _, i, _, hi, _, _ => by omega
  | k + 1, hk, i, h, hi, m, hm => by
    rw [place, List.getElem?_eq_getElem (by omega)] at h
    simp only at h
    by_cases hl : lt l n out[k]
    · rw [if_pos hl] at h
      by_cases e : i = k
      · subst e
        rw [List.getElem?_eq_getElem (by omega)] at hm
        injection hm with hm
        rwa [← hm]
      · exact place_behind l n out k (by omega) i h (by omega) m hm
    · rw [if_neg hl] at h; omega
/-- The one ahead of that place is not. -/
theorem place_ahead (l : List Jb) (n : Nat) (out : List Nat) : ∀ k, k ≤ out.length → 0 < place l n out k → ∃ m, out[place l n out k - 1]? = some m ∧ ¬ lt l n m
  | 0, _, h => by rw [place] at h; omega
  | k + 1, hk, h => by
    have ih := place_ahead l n out k (by omega)
    have e : place l n out (k + 1) = if lt l n out[k] then place l n out k else k + 1 := by
      rw [place, List.getElem?_eq_getElem (show k < out.length by omega)]
    rw [e] at h ⊢
    by_cases hl : lt l n out[k]
    · rw [if_pos hl] at h ⊢; exact ih h
    · rw [if_neg hl]; exact ⟨_, by rw [Nat.add_sub_cancel, List.getElem?_eq_getElem (show k < out.length by omega)], hl⟩
theorem ins_mem {l : List Jb} {n m : Nat} {out : List Nat} : m ∈ insN l n out ↔ m = n ∨ m ∈ out := by
  unfold insN
  rw [List.mem_append, List.mem_append, List.mem_singleton]
  have h : m ∈ out ↔ m ∈ out.take (place l n out out.length) ∨ m ∈ out.drop (place l n out out.length) := by
    rw [← List.mem_append, List.take_append_drop]
  rw [h]
  constructor
  · rintro ((h | h) | h)
    · exact .inr (.inl h)
    · exact .inl h
    · exact .inr (.inr h)
  · rintro (h | h | h)
    · exact .inl (.inr h)
    · exact .inl (.inl h)
    · exact .inr h
theorem ord_mem (l : List Jb) : ∀ (n m : Nat), m ∈ ordTo l n ↔ m < n ∧ isQ l m = true
  | 0, m => by simp [ordTo]
  | n + 1, m => by
    have ih := ord_mem l n m
    rw [ordTo]
    by_cases hq : isQ l n = true
    · rw [if_pos hq, ins_mem, ih]
      constructor
      · rintro (h | h)
        · subst h; exact ⟨by omega, hq⟩
        · exact ⟨by omega, h.2⟩
      · rintro ⟨h1, h2⟩
        by_cases e : m = n
        · exact .inl e
        · exact .inr ⟨by omega, h2⟩
    · rw [if_neg hq, ih]
      constructor
      · rintro ⟨h1, h2⟩; exact ⟨by omega, h2⟩
      · rintro ⟨h1, h2⟩
        refine ⟨?_, h2⟩
        by_cases e : m = n
        · subst e; exact absurd h2 hq
        · omega
theorem isQ_lt {l : List Jb} {n : Nat} (h : isQ l n = true) : n < l.length := by
  unfold isQ at h
  cases hn : l[n]? with
  | none => rw [hn] at h; cases h
  | some x => exact (List.getElem?_eq_some_iff.1 hn).1
theorem ins_sorted {l : List Jb} {n : Nat} {out : List Nat} (h : out.Pairwise (lt l)) (hn : n < l.length) (hm : ∀ m ∈ out, m < l.length ∧ m ≠ n) : (insN l n out).Pairwise (lt l) := by
  unfold insN
  have hpl := place_le l n out out.length
  rw [List.append_assoc]
  refine List.pairwise_append.2 ⟨h.sublist (List.take_sublist _ _), ?_, ?_⟩
  · rw [List.singleton_append]
    refine List.pairwise_cons.2 ⟨fun m hmm => ?_, h.sublist (List.drop_sublist _ _)⟩
    obtain ⟨i, hi, e⟩ := List.getElem_of_mem hmm
    rw [List.length_drop] at hi
    rw [List.getElem_drop] at e
    exact place_behind l n out out.length (Nat.le_refl _) (place l n out out.length + i) (by omega) (by omega) m (by rw [← e, List.getElem?_eq_getElem (by omega)])
  · intro x hx y hy
    -- x is ahead of n
    obtain ⟨i, hi, e⟩ := List.getElem_of_mem hx
    rw [List.length_take] at hi
    rw [List.getElem_take] at e
    obtain ⟨m, hm1, hm2⟩ := place_ahead l n out out.length (Nat.le_refl _) (by omega)
    have hlm := List.getElem?_eq_some_iff.1 hm1
    have hmm : m ∈ out := by rw [← hlm.2]; exact List.getElem_mem _
    have h1 : lt l m n := lt_total hn (hm m hmm).1 (fun e => (hm m hmm).2 e.symm) hm2
    have h2 : lt l x n := by
      by_cases e2 : i = place l n out out.length - 1
      · have : x = m := by rw [← e, ← hlm.2]; simp only [e2]
        rw [this]; exact h1
      · have h3 := List.pairwise_iff_getElem.1 h i (place l n out out.length - 1) (by omega) (by omega) (by omega)
        rw [e, hlm.2] at h3
        exact lt_trans h3 h1
    rw [List.singleton_append] at hy
    rcases List.mem_cons.1 hy with e3 | hy
    · rw [e3]; exact h2
    · obtain ⟨k, hk, e4⟩ := List.getElem_of_mem hy
      rw [List.length_drop] at hk
      rw [List.getElem_drop] at e4
      exact lt_trans h2 (place_behind l n out out.length (Nat.le_refl _) (place l n out out.length + k) (by omega) (by omega) y (by rw [← e4, List.getElem?_eq_getElem (by omega)]))
theorem ord_sorted (l : List Jb) : ∀ n, (ordTo l n).Pairwise (lt l)
  | 0 => List.Pairwise.nil
  | n + 1 => by
    rw [ordTo]
    by_cases hq : isQ l n = true
    · rw [if_pos hq]
      refine ins_sorted (ord_sorted l n) (isQ_lt hq) fun m hm => ?_
      obtain ⟨h1, h2⟩ := (ord_mem l n m).1 hm
      exact ⟨isQ_lt h2, by omega⟩
    · rw [if_neg hq]; exact ord_sorted l n
/-- Two that are in order and have the same are one. -/
theorem sorted_one {l : List Jb} : ∀ {a b : List Nat}, a.Pairwise (lt l) → b.Pairwise (lt l) → (∀ m, m ∈ a ↔ m ∈ b) → a = b
  | [], [], _, _, _ => rfl
  | [], y :: b, _, _, h => by have := (h y).2 (List.mem_cons_self ..); cases this
  | x :: a, [], _, _, h => by have := (h x).1 (List.mem_cons_self ..); cases this
  | x :: a, y :: b, ha, hb, h => by
    obtain ⟨a1, a2⟩ := List.pairwise_cons.1 ha
    obtain ⟨b1, b2⟩ := List.pairwise_cons.1 hb
    have e : x = y := by
      rcases List.mem_cons.1 ((h x).1 (List.mem_cons_self ..)) with e | hx
      · exact e
      · rcases List.mem_cons.1 ((h y).2 (List.mem_cons_self ..)) with e | hy
        · exact e.symm
        · exact absurd (lt_trans (a1 y hy) (b1 x hx)) lt_irrefl
    subst e
    rw [sorted_one a2 b2 fun m => ?_]
    constructor
    · intro hm
      rcases List.mem_cons.1 ((h m).1 (List.mem_cons_of_mem _ hm)) with e | hm2
      · subst e; exact absurd (a1 m hm) lt_irrefl
      · exact hm2
    · intro hm
      rcases List.mem_cons.1 ((h m).2 (List.mem_cons_of_mem _ hm)) with e | hm2
      · subst e; exact absurd (b1 m hm) lt_irrefl
      · exact hm2
end Go.Proofs.Ytkjkhfkaihncdaa.Ord
