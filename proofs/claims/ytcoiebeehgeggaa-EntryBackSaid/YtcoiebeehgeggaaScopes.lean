/- A scope in which the run jumps back to several labels: what holds at a jump to each, and a measure that every pass lowers. -/
import Derived.Scope
import Derived.WalkMore
namespace Go.Proofs.Ytcoiebeehgeggaa.Scp

/-- As Q; by a goto to a label: what is said of that label. -/
def Jumps (J : Nat → Act → World → Prop) (Q : Exit → Act → World → Prop) : Exit → Act → World → Prop
  | .goto l, a, w => J l a w
  | e, a, w => Q e a w

variable {P : Program} {a : Act} {w : World} {Q : Exit → Act → World → Prop}
theorem jumps_ret {J : Nat → Act → World → Prop} : Jumps J Q .ret a w = Q .ret a w := rfl
theorem jumps_normal {J : Nat → Act → World → Prop} : Jumps J Q .normal a w = Q .normal a w := rfl
theorem jumps_goto {J : Nat → Act → World → Prop} {l : Nat} : Jumps J Q (.goto l) a w = J l a w := rfl

theorem wp_labels {c : Code} (J : Nat → Act → World → Prop) (m : Nat → Act → World → Nat)
    (first : c.wp P (Jumps J Q) a w)
    (pass : ∀ l a w, J l a w → ∃ rest, findLabel c l = some rest ∧ rest.wp P (Jumps (fun l' a' w' => J l' a' w' ∧ m l' a' w' < m l a w) Q) a w) : (Code.scope c).wp P Q a w := by
  intro b k cs
  have key : ∀ n l a w, m l a w = n → J l a w → ∃ rest, findLabel c l = some rest ∧ ∃ e a' w', Q e a' w' ∧ Arrives P (lone (b.at a (.code rest :: .inScope c :: k)) cs w) b k cs e a' w' := by
    intro n
    induction n using Nat.strongRecOn with
    | _ n ih =>
      intro l a w hn hJ
      obtain ⟨rest, hf, hp⟩ := pass l a w hJ
      refine ⟨rest, hf, ?_⟩
      obtain ⟨e, a1, w1, hq, harr⟩ := hp b (.inScope c :: k) cs
      cases e with
      | normal => exact ⟨.normal, a1, w1, hq, Steps.trans harr (.one step_inScope)⟩
      | exit id => exact ⟨.exit id, a1, w1, hq, fun k' hk => harr k' (by simp [exitTo, hk])⟩
      | goto l' =>
        obtain ⟨hJ', hlt⟩ := hq
        obtain ⟨rest2, hf2, e2, a2, w2, hq2, harr2⟩ := ih _ (by omega) l' a1 w1 rfl hJ'
        have hg : gotoIn l' (.inScope c :: k) = some (.code rest2 :: .inScope c :: k) := by simp [gotoIn, hf2]
        exact ⟨e2, a2, w2, hq2, .of_steps (harr _ hg) harr2⟩
      | ret => exact ⟨_, a1, w1, hq, harr⟩
      | panic ch => exact ⟨_, a1, w1, hq, harr⟩
      | outgrown => exact ⟨_, a1, w1, hq, harr⟩
  obtain ⟨e, a1, w1, hq, harr⟩ := first b (.inScope c :: k) cs
  cases e with
  | normal => exact ⟨.normal, a1, w1, hq, .head step_scope (Steps.trans harr (.one step_inScope))⟩
  | exit id => exact ⟨.exit id, a1, w1, hq, fun k' hk => .head step_scope (harr k' (by simp [exitTo, hk]))⟩
  | goto l' =>
    obtain ⟨rest, hf, e2, a2, w2, hq2, harr2⟩ := key _ l' a1 w1 rfl hq
    have hg : gotoIn l' (.inScope c :: k) = some (.code rest :: .inScope c :: k) := by simp [gotoIn, hf]
    exact ⟨e2, a2, w2, hq2, .of_steps (.head step_scope (harr _ hg)) harr2⟩
  | ret => exact ⟨_, a1, w1, hq, .of_steps (.one step_scope) harr⟩
  | panic ch => exact ⟨_, a1, w1, hq, .of_steps (.one step_scope) harr⟩
  | outgrown => exact ⟨_, a1, w1, hq, .of_steps (.one step_scope) harr⟩

/-- Two labels, 0 and 1. -/
theorem wp_two {c r0 r1 : Code} (J0 J1 : Act → World → Prop) (m0 m1 : Act → World → Nat) (h0 : findLabel c 0 = some r0) (h1 : findLabel c 1 = some r1)
    (first : c.wp P (Jumps (fun l a w => (l = 0 ∧ J0 a w) ∨ (l = 1 ∧ J1 a w)) Q) a w)
    (pass0 : ∀ a w, J0 a w → r0.wp P (Jumps (fun l a' w' => (l = 0 ∧ J0 a' w' ∧ m0 a' w' < m0 a w) ∨ (l = 1 ∧ J1 a' w' ∧ m1 a' w' < m0 a w)) Q) a w)
    (pass1 : ∀ a w, J1 a w → r1.wp P (Jumps (fun l a' w' => (l = 0 ∧ J0 a' w' ∧ m0 a' w' < m1 a w) ∨ (l = 1 ∧ J1 a' w' ∧ m1 a' w' < m1 a w)) Q) a w) : (Code.scope c).wp P Q a w := by
  have hJ : ∀ (m : Nat) (a : Act) (w : World) (e : Exit) (a' : Act) (w' : World),
      Jumps (fun l a' w' => (l = 0 ∧ J0 a' w' ∧ m0 a' w' < m) ∨ (l = 1 ∧ J1 a' w' ∧ m1 a' w' < m)) Q e a' w' →
      Jumps (fun l a' w' => ((l = 0 ∧ J0 a' w') ∨ (l = 1 ∧ J1 a' w')) ∧ (if l = 0 then m0 a' w' else m1 a' w') < m) Q e a' w' := by
    intro m a w e a' w' h
    cases e with
    | goto l =>
      rcases h with ⟨rfl, h1, h2⟩ | ⟨rfl, h1, h2⟩
      · exact ⟨.inl ⟨rfl, h1⟩, h2⟩
      · exact ⟨.inr ⟨rfl, h1⟩, h2⟩
    | normal => exact h
    | exit id => exact h
    | ret => exact h
    | panic ch => exact h
    | outgrown => exact h
  refine wp_labels (fun l a w => (l = 0 ∧ J0 a w) ∨ (l = 1 ∧ J1 a w)) (fun l a w => if l = 0 then m0 a w else m1 a w) first fun l a w h => ?_
  rcases h with ⟨rfl, h⟩ | ⟨rfl, h⟩
  · exact ⟨r0, h0, Code.wp_mono (fun e a' w' hq => hJ _ a w e a' w' hq) (pass0 a w h)⟩
  · exact ⟨r1, h1, Code.wp_mono (fun e a' w' hq => hJ _ a w e a' w' hq) (pass1 a w h)⟩

theorem jumps_mono {J J' : Nat → Act → World → Prop} (h : ∀ l a w, J l a w → J' l a w) (e : Exit) (a : Act) (w : World) : Jumps J Q e a w → Jumps J' Q e a w := by
  intro hq
  cases e with
  | goto l => exact h l a w hq
  | normal => exact hq
  | exit id => exact hq
  | ret => exact hq
  | panic ch => exact hq
  | outgrown => exact hq

/-- Two labels, the one's code falling through into the other's, the start into the first's. -/
theorem wp_falls {c r0 r1 : Code} (J0 J1 : Act → World → Prop) (m0 m1 : Act → World → Nat) (h0 : findLabel c 0 = some (Code.skip.seq r0)) (h1 : findLabel c 1 = some (Code.skip.seq r1))
    (pass1 : ∀ a w, J1 a w → r1.wp P (Jumps (fun l a' w' => (l = 0 ∧ J0 a' w' ∧ m0 a' w' < m1 a w) ∨ (l = 1 ∧ J1 a' w' ∧ m1 a' w' < m1 a w)) Q) a w)
    (pass0 : (∀ a w m, J1 a w → m1 a w ≤ m → r1.wp P (Jumps (fun l a' w' => (l = 0 ∧ J0 a' w' ∧ m0 a' w' < m) ∨ (l = 1 ∧ J1 a' w' ∧ m1 a' w' < m)) Q) a w) →
      ∀ a w, J0 a w → r0.wp P (Jumps (fun l a' w' => (l = 0 ∧ J0 a' w' ∧ m0 a' w' < m0 a w) ∨ (l = 1 ∧ J1 a' w' ∧ m1 a' w' < m0 a w)) Q) a w)
    (first : (∀ a w, J0 a w → r0.wp P (Jumps (fun l a w => (l = 0 ∧ J0 a w) ∨ (l = 1 ∧ J1 a w)) Q) a w) → c.wp P (Jumps (fun l a w => (l = 0 ∧ J0 a w) ∨ (l = 1 ∧ J1 a w)) Q) a w) : (Code.scope c).wp P Q a w := by
  have p0 := pass0 fun a w m hj hm => Code.wp_mono (jumps_mono fun l a' w' h => by
    rcases h with ⟨h1, h2, h3⟩ | ⟨h1, h2, h3⟩
    · exact .inl ⟨h1, h2, by omega⟩
    · exact .inr ⟨h1, h2, by omega⟩) (pass1 a w hj)
  refine wp_two J0 J1 m0 m1 h0 h1 (first fun a w hj => Code.wp_mono (jumps_mono fun l a' w' h => ?_) (p0 a w hj)) (fun a w hj => wp_seq (wp_skip (p0 a w hj))) (fun a w hj => wp_seq (wp_skip (pass1 a w hj)))
  rcases h with ⟨h1, h2, _⟩ | ⟨h1, h2, _⟩
  · exact .inl ⟨h1, h2⟩
  · exact .inr ⟨h1, h2⟩

end Go.Proofs.Ytcoiebeehgeggaa.Scp
