/- Profile: profiles that were made and taken out of (mathematics): ticks are there, how long they are, what is free. -/
import Derived.Test.YtagecoofaoaodaaPrfTake
import Derived.Test.YtagecoofaoaodaaPrfSame
import Derived.Test.YtagecoofaoaodaaPrfHeld
namespace Go.Proofs.Ytagecoofaoaodaa.Prf
set_option linter.unusedVariables false

theorem ins_up : ∀ (l : List Int), l.Pairwise (· < ·) → ∀ x : Int, ∃ l' : List Int, l'.Pairwise (· < ·) ∧ ∀ y, y ∈ l' ↔ y = x ∨ y ∈ l
  | [], _, x => ⟨[x], List.pairwise_singleton _ _, by simp⟩
  | a :: l, h, x => by
    obtain ⟨h1, h2⟩ := List.pairwise_cons.1 h
    rcases Int.lt_trichotomy x a with hlt | heq | hgt
    · exact ⟨x :: a :: l, List.pairwise_cons.2 ⟨fun y hy => by
        rcases List.mem_cons.1 hy with rfl | hy
        · exact hlt
        · have := h1 y hy; omega, h⟩, by simp⟩
    · exact ⟨a :: l, h, fun y => by rw [heq]; simp⟩
    · obtain ⟨l', k1, k2⟩ := ins_up l h2 x
      refine ⟨a :: l', List.pairwise_cons.2 ⟨fun y hy => ?_, k1⟩, fun y => ?_⟩
      · rcases (k2 y).1 hy with rfl | hy
        · exact hgt
        · exact h1 y hy
      · simp only [List.mem_cons, k2]
        constructor
        · rintro (h | h | h)
          · exact .inr (.inl h)
          · exact .inl h
          · exact .inr (.inr h)
        · rintro (h | h | h)
          · exact .inr (.inl h)
          · exact .inl h
          · exact .inr (.inr h)
theorem up_there (u : Int) : ∀ more : List Int, ∃ l : List Int, l.Pairwise (· < ·) ∧ ∀ y, y ∈ l ↔ y ∈ more ∧ u < y
  | [] => ⟨[], List.Pairwise.nil, by simp⟩
  | x :: more => by
    obtain ⟨l, h1, h2⟩ := up_there u more
    by_cases hx : u < x
    · obtain ⟨l', k1, k2⟩ := ins_up l h1 x
      refine ⟨l', k1, fun y => ?_⟩
      rw [k2, h2, List.mem_cons]
      constructor
      · rintro (rfl | ⟨a, b⟩)
        · exact ⟨.inl rfl, hx⟩
        · exact ⟨.inr a, b⟩
      · rintro ⟨rfl | a, b⟩
        · exact .inl rfl
        · exact .inr ⟨a, b⟩
    · refine ⟨l, h1, fun y => ?_⟩
      rw [h2, List.mem_cons]
      constructor
      · rintro ⟨a, b⟩; exact ⟨.inr a, b⟩
      · rintro ⟨rfl | a, b⟩
        · exact absurd b hx
        · exact ⟨a, b⟩
theorem isT_there (u : Int) (more : List Int) : ∃ ts, IsT u more ts := by
  obtain ⟨l, h1, h2⟩ := up_there u more
  refine ⟨u :: l, List.pairwise_cons.2 ⟨fun y hy => ((h2 y).1 hy).2, h1⟩, rfl, fun x => ?_⟩
  rw [List.mem_cons, h2]
/-- A profile that began with at most 40 busy ones and was taken out of K times. -/
structure Pg (K : Nat) (p : List St) (u : Int) : Prop where
  norm : Norm p
  head : ∃ f l, p = ⟨u, f⟩ :: l
  len : p.length ≤ 41 + 3 * K
  tick : ∀ s ∈ p, Tk s.tick
  free : ∀ s ∈ p, -(1048576 * (40 + (K : Int))) ≤ s.free ∧ s.free ≤ 1048576
theorem Pg.pf {K : Nat} {p : List St} {u : Int} (h : Pg K p u) (hK : K ≤ 100) : Pf p :=
  ⟨h.norm, by have := h.len; omega, h.tick, fun s hs => by have := h.free s hs; omega⟩
theorem Pg.one {K : Nat} {p : List St} {u : Int} (h : Pg K p u) : p ≠ [] := by
  obtain ⟨f, l, e⟩ := h.head
  rw [e]; simp
theorem pg_new {u total : Int} {l : List Bz} {p : List St} (hu : Tk u) (ht : Nd total) (hl : ∀ b ∈ l, b.may) (hn : l.length ≤ 40) (h : IsP p (newF total l) u) : Pg 0 p u := by
  obtain ⟨ts, hts⟩ := isT_there u (l.map (·.till))
  obtain ⟨h1, h2⟩ := new_isP (total := total) hts
  have e := isP_one h1 h
  have hb : ∀ t, 0 ≤ busyN l t ∧ busyN l t ≤ 41943040 := fun t => by
    obtain ⟨k1, k2⟩ := busyN_le (K := 1048576) (by omega) (t := t) fun b hb => (hl b hb).2
    have : (l.length : Int) * 1048576 ≤ 40 * 1048576 := Int.mul_le_mul_of_nonneg_right (by omega) (by omega)
    omega
  refine ⟨h.norm, h.head, by rw [← e]; omega, fun s hs => ?_, fun s hs => ?_⟩
  · obtain ⟨k1, k2, k3⟩ := isP_ticks h s hs
    rcases k3 with k3 | k3
    · rw [k3]; exact hu
    · by_cases hex : ∃ b ∈ l, b.till = s.tick
      · obtain ⟨b, hb, e2⟩ := hex
        rw [← e2]; exact (hl b hb).1
      · exfalso
        apply k3
        have e1 : busyN l (s.tick - 1) = busyN l s.tick := busyN_same (by omega) fun x hx ⟨g1, g2⟩ => by
          obtain ⟨b, hb, rfl⟩ := List.mem_map.1 hx
          exact hex ⟨b, hb, by omega⟩
        unfold newF
        rw [e1]
  · obtain ⟨k1, k2, k3⟩ := isP_ticks h s hs
    rw [k2]
    unfold newF
    have := hb s.tick
    obtain ⟨t0, t1⟩ := ht
    omega
theorem valA_free {lo hi t : Int} : ∀ {p : List St} {acc : Int}, (lo ≤ acc ∧ acc ≤ hi) → (∀ s ∈ p, lo ≤ s.free ∧ s.free ≤ hi) → lo ≤ valA acc p t ∧ valA acc p t ≤ hi
  | [], _, h, _ => h
  | s :: p, acc, h, hp => by
    rw [valA_cons]
    refine valA_free ?_ fun x hx => hp x (List.mem_cons_of_mem _ hx)
    split
    · exact hp s (List.mem_cons_self ..)
    · exact h
theorem pg_take {K : Nat} {u at' long nodes : Int} {p q : List St} (hp : Pg K p u) (h0 : 0 ≤ long) (ha : Tk at') (hal : Tk (at' + long)) (hnd : Nd nodes) (h : IsP q (takeF p at' long nodes) u) : Pg (K + 1) q u := by
  obtain ⟨ts, hts⟩ := isT_there u (at' :: (at' + long) :: p.map (·.tick))
  obtain ⟨h1, h2⟩ := take_isP (nodes := nodes) h0 hts
  have e := isP_one h1 h
  have hpl := hp.len
  refine ⟨h.norm, h.head, by rw [← e]; omega, fun s hs => ?_, fun s hs => ?_⟩
  · obtain ⟨k1, k2, k3⟩ := isP_ticks h s hs
    rcases k3 with k3 | k3
    · rw [k3]
      obtain ⟨f, l, e3⟩ := hp.head
      exact hp.tick ⟨u, f⟩ (by rw [e3]; exact List.mem_cons_self ..)
    · by_cases e4 : s.tick = at'
      · rw [e4]; exact ha
      · by_cases e5 : s.tick = at' + long
        · rw [e5]; exact hal
        · by_cases hex : ∃ b ∈ p, b.tick = s.tick
          · obtain ⟨b, hb, e2⟩ := hex
            rw [← e2]; exact hp.tick b hb
          · exfalso
            apply k3
            unfold takeF
            have e1 : val p (s.tick - 1) = val p s.tick := valA_same (by omega) fun x hx ⟨g1, g2⟩ => by
              obtain ⟨b, hb, rfl⟩ := List.mem_map.1 hx
              exact hex ⟨b, hb, by omega⟩
            rw [e1]
            congr 1
            by_cases hc : at' ≤ s.tick - 1 ∧ s.tick - 1 < at' + long
            · rw [if_pos hc, if_pos (by omega)]
            · rw [if_neg hc, if_neg (by omega)]
  · obtain ⟨k1, k2, k3⟩ := isP_ticks h s hs
    rw [k2]
    unfold takeF
    have hv : -(1048576 * (40 + (K : Int))) ≤ val p s.tick ∧ val p s.tick ≤ 1048576 := valA_free (by omega) hp.free
    obtain ⟨t0, t1⟩ := hnd
    split <;> omega
end Go.Proofs.Ytagecoofaoaodaa.Prf
