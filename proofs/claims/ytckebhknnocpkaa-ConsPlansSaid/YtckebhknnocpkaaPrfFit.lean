/- Profile: Fit step by step is Fit tick by tick (mathematics). -/
import Derived.Test.YtckebhknnocpkaaPrfFn
namespace Go.Proofs.Ytckebhknnocpkaa.Prf
set_option linter.unusedVariables false

theorem valA_append (t : Int) (C : List St) : ∀ (A : List St) (acc : Int), valA acc (A ++ C) t = valA (valA acc A t) C t
  | [], _ => rfl
  | a :: A, acc => by rw [List.cons_append, valA_cons, valA_append t C A, valA_cons]
theorem val_drop {p B : List St} {i : Nat} {s : St} {t : Int} (h : p.drop i = s :: B) (hs : s.tick ≤ t) : val p t = valA s.free B t := by
  unfold val
  conv => lhs; rw [← List.take_append_drop i p, h]
  rw [valA_append, valA_cons, if_pos hs]
/-- From a step on, as long as steps begin ahead of a tick: are so many free? -/
def runB (nodes lim : Int) : List St → Bool
  | [] => true
  | b :: B => if b.tick < lim then (if b.free < nodes then false else runB nodes lim B) else true
theorem run_far {nodes lim : Int} : ∀ {B : List St}, (∀ s ∈ B, lim ≤ s.tick) → runB nodes lim B = true
  | [], _ => rfl
  | b :: B, h => by rw [runB, if_neg (by have := h b (List.mem_cons_self ..); omega)]
theorem run_iff {nodes lim : Int} : ∀ (B : List St) (s : St), Norm (s :: B) → s.tick < lim → (runB nodes lim (s :: B) = true ↔ ∀ t, s.tick ≤ t → t < lim → nodes ≤ valA s.free B t)
  | [], s, _, hl => by
    rw [runB, if_pos hl, runB]
    constructor
    · intro h t _ _
      show nodes ≤ s.free
      by_cases hf : s.free < nodes
      · rw [if_pos hf] at h; cases h
      · omega
    · intro h
      have h0 : nodes ≤ s.free := h s.tick (Int.le_refl _) hl
      rw [if_neg (by omega)]
  | b :: B, s, hn, hl => by
    have hsb := hn.1
    rw [runB, if_pos hl]
    constructor
    · intro h t h1 h2
      by_cases hf : s.free < nodes
      · rw [if_pos hf] at h; cases h
      · rw [if_neg hf] at h
        rw [valA_cons]
        by_cases hb : b.tick ≤ t
        · rw [if_pos hb]
          exact (run_iff B b hn.2.2 (by omega)).1 h t hb h2
        · rw [if_neg hb, valA_far (fun x hx => by have := norm_lt hn.2.2 x hx; omega)]
          omega
    · intro h
      have h0 := h s.tick (Int.le_refl _) hl
      rw [valA_far (norm_lt hn)] at h0
      rw [if_neg (by omega)]
      by_cases hb : b.tick < lim
      · refine (run_iff B b hn.2.2 hb).2 fun t h1 h2 => ?_
        have := h t (by omega) h2
        rw [valA_cons, if_pos h1] at this
        exact this
      · rw [runB, if_neg hb]
theorem norm_drop : ∀ {p : List St} (i : Nat), Norm p → Norm (p.drop i)
  | [], _, _ => by rw [List.drop_nil]; trivial
  | _ :: _, 0, h => h
  | _ :: p, i + 1, h => norm_drop (p := p) i (norm_tail h)
theorem step_fits {p B : List St} {i : Nat} {s : St} {nodes long : Int} (hn : Norm p) (h : p.drop i = s :: B) (hl : 1 ≤ long) : runB nodes (s.tick + long) (p.drop i) = true ↔ fitsAt p nodes long s.tick := by
  have hn2 := norm_drop i hn
  rw [h] at hn2 ⊢
  rw [run_iff B s hn2 (by omega)]
  unfold fitsAt
  constructor
  · intro k t h1 h2
    rw [val_drop h h1]
    exact k t h1 h2
  · intro k t h1 h2
    have := k t h1 h2
    rwa [val_drop h h1] at this
/-- Where so many fit they fit from the step on in which that lies. -/
theorem fit_step {p : List St} {nodes long m u : Int} (h : fitsAt p nodes long m) (hl : 1 ≤ long) (hu : u ∈ p.map (·.tick)) (hum : u ≤ m) : ∃ v, v ∈ p.map (·.tick) ∧ v ≤ m ∧ fitsAt p nodes long v := by
  obtain ⟨v, h1, h2, h3⟩ := greatest hu hum
  refine ⟨v, h1, h2, fun t k1 k2 => ?_⟩
  by_cases htm : t ≤ m
  · have e : val p t = val p m := valA_same htm fun x hx ⟨hx1, hx2⟩ => by
      have := h3 x hx hx2
      omega
    rw [e]
    exact h m (Int.le_refl _) (by omega)
  · exact h t (by omega) (by omega)
theorem norm_ticks : ∀ {p : List St}, Norm p → p.Pairwise fun a b => a.tick < b.tick
  | [], _ => List.Pairwise.nil
  | a :: p, h => List.Pairwise.cons (norm_lt h) (norm_ticks (norm_tail h))
/-- The first step that fits is the least tick; none, if no step does. -/
theorem fit_found {p B : List St} {i : Nat} {s : St} {nodes long : Int} (hn : Norm p) (h : p.drop i = s :: B) (hno : ∀ x ∈ p.take i, ¬ fitsAt p nodes (longOf long) x.tick) (hf : fitsAt p nodes (longOf long) s.tick) : IsF p nodes long s.tick true := by
  have hl : 1 ≤ longOf long := by unfold longOf; split <;> omega
  have hp := norm_ticks hn
  rw [← List.take_append_drop i p, h] at hp
  obtain ⟨-, hp2, hp3⟩ := List.pairwise_append.1 hp
  have hmem : ∀ x ∈ p, x.tick < s.tick → x ∈ p.take i := fun x hx hlt => by
    rw [← List.take_append_drop i p, h] at hx
    rcases List.mem_append.1 hx with hx | hx
    · exact hx
    · rcases List.mem_cons.1 hx with rfl | hx
      · omega
      · have := (List.pairwise_cons.1 hp2).1 x hx; omega
  have hsp : s ∈ p := List.mem_of_mem_drop (i := i) (by rw [h]; exact List.mem_cons_self ..)
  refine .inl ⟨rfl, ?_⟩
  cases p with
  | nil => cases hsp
  | cons a l =>
    refine ⟨a, l, rfl, ?_, hf, fun m h1 h2 h3 => ?_⟩
    · rcases List.mem_cons.1 hsp with rfl | hs
      · exact Int.le_refl _
      · have := norm_lt hn s hs; omega
    · obtain ⟨v, k1, k2, k3⟩ := fit_step h3 hl (u := a.tick) (List.mem_map.2 ⟨a, List.mem_cons_self .., rfl⟩) h1
      obtain ⟨x, hx, rfl⟩ := List.mem_map.1 k1
      exact hno x (hmem x hx (by omega)) k3
theorem fit_none {p : List St} {nodes long : Int} (hno : ∀ x ∈ p, ¬ fitsAt p nodes (longOf long) x.tick) : IsF p nodes long 0 false := by
  have hl : 1 ≤ longOf long := by unfold longOf; split <;> omega
  refine .inr ⟨rfl, rfl, fun a l hp m h1 h3 => ?_⟩
  obtain ⟨v, k1, k2, k3⟩ := fit_step h3 hl (u := a.tick) (List.mem_map.2 ⟨a, by rw [hp]; exact List.mem_cons_self .., rfl⟩) h1
  obtain ⟨x, hx, rfl⟩ := List.mem_map.1 k1
  exact hno x hx k3
end Go.Proofs.Ytckebhknnocpkaa.Prf
