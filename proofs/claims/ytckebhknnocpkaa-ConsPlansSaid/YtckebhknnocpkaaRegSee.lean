/- A region that draws its order, by what each slot holds (as RegRel) and by an invariant that sees the slots too: for lists that grow within the region. -/
import Derived.Test.YtckebhknnocpkaaRegRel
import Derived.Test.YtckebhknnocpkaaRegChn
namespace Go.Proofs.Ytckebhknnocpkaa.Rel
open Go.RowKit

section
variable {P : Program} {ops : Array Oper} {Q : Exit → Act → World → Prop} {G : World → World → Prop} {V : Nat → Kd G} {J : Array Bool → (Tmp → Value) → World → Prop} {a0 : Act}

abbrev Cs (ops : Array Oper) (V : Nat → Kd G) (a0 : Act) (k : Nat) (o : Oper) (L : Array Bool) (a : Act) (w : World) : Prop := Cx ops V (fun _ _ => True) a0 k o L a w
/-- What it leaves. -/
def LeftS (V : Nat → Kd G) (J : Array Bool → (Tmp → Value) → World → Prop) (k : Nat) (o : Oper) (L : Array Bool) (a : Act) (w : World) (a' : Act) (w' : World) : Prop :=
  ∃ v, a' = a.put o.dst v ∧ G w w' ∧ (V k).p w' v ∧ J (L.setIfInBounds k true) (slot (a.put o.dst v)) w'
def StepS (P : Program) (ops : Array Oper) (Q : Exit → Act → World → Prop) (V : Nat → Kd G) (J : Array Bool → (Tmp → Value) → World → Prop) (a0 : Act) (k : Nat) (o : Oper) : Prop :=
  ∀ L a w, Cs ops V a0 k o L a w → J L (slot a) w →
    (Region.wanted o (yielded ops a.tmps) = true ∧ o.wp P a w (LeftS V J k o L a w) Q) ∨
    (Region.wanted o (yielded ops a.tmps) = false ∧ (V k).p w undef ∧ J (L.setIfInBounds k true) (slot (a.put o.dst undef)) w)
def StepsS (P : Program) (ops : Array Oper) (Q : Exit → Act → World → Prop) (V : Nat → Kd G) (J : Array Bool → (Tmp → Value) → World → Prop) (a0 : Act) : Nat → List Oper → Prop
  | _, [] => True
  | k, o :: l => StepS P ops Q V J a0 k o ∧ StepsS P ops Q V J a0 (k + 1) l
theorem stepsS_at (l : List Oper) : ∀ (k : Nat), StepsS P ops Q V J a0 k l → ∀ (j : Nat) (o : Oper), l[j]? = some o → StepS P ops Q V J a0 (k + j) o := by
  induction l with
  | nil => intro k _ j o e; simp at e
  | cons x l ih =>
    intro k h j o e
    cases j with
    | zero =>
      simp at e; subst e
      exact h.1
    | succ j =>
      have := ih (k + 1) h.2 j o (by simpa using e)
      rw [show k + (j + 1) = k + 1 + j by omega]; exact this

/-- THE LAW. -/
theorem wp_region_see {id : Nat} {w : World} {l : List Oper} (V : Nat → Kd G) (J : Array Bool → (Tmp → Value) → World → Prop) (hm : P.follows .mixedOrders = true) (hap : apartB l = true) (hor : orderB 0 l = true) (hsz : (l.all fun o => match o.dst with | some d => decide (d < a0.tmps.size) | none => true) = true)
    (hGr : ∀ w, G w w) (h0 : J (Array.replicate l.length false) (slot a0) w.drew) (hsteps : StepsS P l.toArray Q V J a0 0 l)
    (hdone : ∀ a w, (∀ s, unwritten l.toArray s = true → slot a s = slot a0 s) → a.tmps.size = a0.tmps.size → a.defers = a0.defers → J (Array.replicate l.length true) (slot a) w → (∀ (j : Nat) (o : Oper) (d : Tmp), l[j]? = some o → o.dst = some d → (V j).p w (slot a d)) → Q .normal a w) :
    (Code.region id l.toArray true).wp P Q a0 w := by
  have hsz' : ∀ (i : Nat) (o : Oper) (d : Tmp), l.toArray[i]? = some o → o.dst = some d → d < a0.tmps.size := by
    intro i o d ho hd
    have := List.all_eq_true.1 hsz o (List.mem_of_getElem? (by simpa using ho))
    rw [hd] at this
    simpa using this
  refine Reg.wp_region_inv (fun L a w => Inv l.toArray V (fun _ _ => True) a0 L a w ∧ J L (slot a) w) hm ?_ ?_ ?_
  · exact ⟨⟨by simp, fun _ _ => rfl, rfl, rfl, trivial, fun j o d _ _ hl => by
      by_cases hj : j < l.length <;> simp [hj] at hl, fun j o i _ hl _ => by
      by_cases hj : j < l.length <;> simp [hj] at hl⟩, by simpa using h0⟩
  · intro L a' w' hI hready
    obtain ⟨⟨h1, h2, h3, h4, _, h6, h7⟩, h5⟩ := hI
    have hall : ∀ j, j < l.length → L.getD j false = true := by
      intro j
      induction j using Nat.strongRecOn with
      | _ j ih =>
        intro hj
        have ho : l[j]? = some l[j] := List.getElem?_eq_getElem hj
        refine Reg.none_ready (by exact h1) hready (o := l[j]) (by simp) fun e he hb => ?_
        have hlt := order_at l 0 hor j _ ho e he hb
        exact ih e.on (by omega) (by omega)
    have hL : L = Array.replicate l.length true := by
      apply Array.ext
      · simpa using h1
      · intro i hi1 hi2
        have := hall i (by simpa using hi2)
        simp [hi1] at this
        simp [this]
    subst hL
    exact hdone a' w' h2 h3 h4 h5 fun j o d hj hd => h6 j o d (by simpa using hj) hd (hall j (by
      rcases Nat.lt_or_ge j l.length with h | h
      · exact h
      · rw [List.getElem?_eq_none h] at hj; cases hj))
  · intro L a' w' i hI hi
    obtain ⟨hI, hJ0⟩ := hI
    obtain ⟨hun, o, ho, hdep⟩ := mem_ready.1 hi
    have hI' := hI
    obtain ⟨h1, h2, h3, h4, h5, h6, h7⟩ := hI
    have hcame : ∀ j, waits o j = true → L.getD j false = true := by
      intro j hj
      unfold waits at hj
      obtain ⟨e, he, hb⟩ := List.any_eq_true.1 hj
      simp only [Bool.and_eq_true, beq_iff_eq] at hb
      have := hdep e (by simpa using he) hb.2
      rw [hb.1] at this
      exact this
    have hs := stepsS_at l 0 hsteps i o (by simpa using ho)
    rw [Nat.zero_add] at hs
    replace hs := hs L a' w' ⟨h1, hun, h2, h3, h5, fun j o' d hj hd hw => h6 j o' d hj hd (hcame j hw), hcame, h7⟩ hJ0
    unfold wpOp
    simp only [ho]
    rcases hs with ⟨hw, hs⟩ | ⟨hw, hv, hJ⟩
    · rw [if_pos hw]
      exact .inl (Oper.wp_mono (fun a'' w'' ⟨v, ha, hG, hv, hJ⟩ => by subst ha; exact ⟨inv_step (by simpa using hap) hsz' ho hun hcame hI' hG hv trivial, hJ⟩) hs)
    · rw [if_neg (by rw [hw]; exact Bool.false_ne_true)]
      exact ⟨inv_step (by simpa using hap) hsz' ho hun hcame hI' (hGr w') hv trivial, hJ⟩
end

/-! ### Words for what J sees -/

theorem set_ne {L : Array Bool} {k i : Nat} (h : k ≠ i) : (L.setIfInBounds k true).getD i false = L.getD i false := by
  rw [Array.getD_eq_getD_getElem?, Array.getElem?_setIfInBounds, if_neg h, ← Array.getD_eq_getD_getElem?]
theorem set_eq {L : Array Bool} {k n : Nat} (h : L.size = n) (hk : k < n) : (L.setIfInBounds k true).getD k false = true := by
  subst h
  simp [hk]
theorem free_no {L : Array Bool} {k : Nat} (h : L.getD k true = false) : L.getD k false = false := by
  by_cases hk : k < L.size
  · simp [hk] at h ⊢; exact h
  · simp [hk]
/-- Whatever waits for what comes up has not come up; nor has what waits for such. -/
theorem Cx.later {ops : Array Oper} {G : World → World → Prop} {V : Nat → Kd G} {J : Array Bool → World → Prop} {a0 : Act} {k : Nat} {o : Oper} {L : Array Bool} {a : Act} {w : World} (c : Cx ops V J a0 k o L a w) (j : Nat) (h : waitsAt ops j k = true) : L.getD j false = false := by
  cases hj : L.getD j false with
  | false => rfl
  | true =>
    have := c.via j k h hj
    rw [free_no c.free] at this
    cases this
theorem Cx.later2 {ops : Array Oper} {G : World → World → Prop} {V : Nat → Kd G} {J : Array Bool → World → Prop} {a0 : Act} {k : Nat} {o : Oper} {L : Array Bool} {a : Act} {w : World} (c : Cx ops V J a0 k o L a w) (j i : Nat) (h : waitsAt ops j i = true) (hi : L.getD i false = false) : L.getD j false = false := by
  cases hj : L.getD j false with
  | false => rfl
  | true =>
    have := c.via j i h hj
    rw [hi] at this
    cases this
/-- The world goes on, whatever it changes. -/
def Gt (_ _ : World) : Prop := True
theorem gt_refl (w : World) : Gt w w := trivial
end Go.Proofs.Ytckebhknnocpkaa.Rel
