/- The body of a range over a function: a region of it that draws its order, where no operation calls a function: what holds of it outside of rounds holds in them. -/
import Derived.Test.YtfnkeknnlndjcaaRegChn
import Derived.RangeFuncBox
import Derived.RangeFuncLeaves
import Derived.RangeFuncCalls
import Derived.OwnWalkIn
import Derived.TacticsInMore
import Derived.LoopNIn
import Derived.LoopIn
import Derived.OrdersIn
import Derived.Shelf.Abstract
namespace Go.Proofs.Ytfnkeknnlndjcaa.Rng
open Go.RowKit

/-- An operation that calls no function, whatever its operands hold. -/
def calmB (o : Oper) : Bool := match o.op with
  | .move _ | .assign _ | .load _ _ | .store _ _ _ | .slice _ _ _ _ _ | .convert _ _ _ | .binOp _ _ _ _ _ | .indexAddr _ _ _ => true
  | .call c => (match c.callee with | .builtin .append => true | .builtin .len => true | .builtin .copy => true | _ => false)
  | _ => false

theorem run_v {P : Program} {w w' : World} {s : Sem Value} {x : Next} (h : (do pure (Next.value (← s)) : Sem Next).run P w = .ok x w') : ∃ v, x = .value v := by
  simp only [Sem.run_bind] at h
  cases hs : s.run P w with
  | ok u w1 => rw [hs] at h; simp at h; exact ⟨u, h.1.symm⟩
  | halt e w1 => rw [hs] at h; simp at h
theorem run_u {P : Program} {w w' : World} {s : Sem Unit} {x : Next} (h : (do s; pure Next.skip : Sem Next).run P w = .ok x w') : x = .skip := by
  simp only [Sem.run_bind] at h
  cases hs : s.run P w with
  | ok u w1 => rw [hs] at h; simp at h; exact h.1.symm
  | halt e w1 => rw [hs] at h; simp at h
theorem calm_ok {P : Program} {o : Oper} {ρ : Operand → Value} {w w' : World} {x : Next} (hc : calmB o = true) (h : (execOp ρ o).run P w = .ok x w') : (∃ v, x = .value v) ∨ x = .skip := by
  unfold calmB at hc
  unfold execOp at h
  cases ho : o.op <;> rw [ho] at hc h <;> simp only at hc h <;> first
    | (cases hc; done)
    | exact .inl (run_v h)
    | exact .inr (run_u h)
    | (simp at h; exact .inl ⟨_, h.1.symm⟩)
    | skip
  rename_i c
  obtain ⟨cl, args, tys⟩ := c
  cases cl with
  | builtin b =>
    cases b <;> simp only at hc <;> first
      | (cases hc; done)
      | (simp only [resolve, invoke, builtin, Sem.run_bind, Sem.run_pure] at h
         exact .inl (run_v h))
  | _ => simp at hc
theorem calm_about {P : Program} {o : Oper} {ρ : Operand → Value} {w : World} (hc : calmB o = true) : o.about P w ρ = none := by
  unfold calmB at hc
  unfold Oper.about
  cases ho : o.op <;> rw [ho] at hc <;> simp only at hc ⊢ <;> try (cases hc; done)
  rename_i c
  obtain ⟨cl, args, tys⟩ := c
  cases cl with
  | builtin b => simp [resolve, Target.leads]
  | _ => simp at hc

variable {F : Fence} {n : Nat} {P : Program} {ops : Array Oper} {Q : Exit → Act → World → Prop} {md : Region.Mode}
theorem oper_in {o : Oper} {a : Act} {w : World} {K : Act → World → Prop} (hc : calmB o = true) (h : o.wp P a w K Q) : o.wpIn F n P a w K Q := by
  refine ⟨fun f hf => (by rw [calm_about hc] at hf; cases hf), ?_⟩
  rw [Oper.semAt_plain F a.eval o (fun c e => by unfold calmB at hc; rw [e] at hc; cases hc)]
  unfold Oper.wp at h
  cases hr : (execOp a.eval o).run P w with
  | ok x w' =>
    rw [hr] at h
    rcases calm_ok hc hr with ⟨v, rfl⟩ | rfl
    · exact h
    · exact h
  | halt e w' =>
    rw [hr] at h
    cases e <;> exact h
theorem op_in {i : Nat} {a : Act} {w : World} {K K' : Act → World → Prop} (hc : ∀ (i : Nat) (o : Oper), ops[i]? = some o → calmB o = true) (hQ : ¬ LetsOut Q) (hK : ∀ a w, K a w → K' a w) (h : wpOp P ops Q i K a w) : wpOpIn F n P ops Q i K' a w := by
  unfold wpOp at h
  unfold wpOpIn
  cases ho : ops[i]? with
  | none => rw [ho] at h; exact hK _ _ h
  | some o =>
    rw [ho] at h
    simp only at h ⊢
    by_cases hw : Region.wanted o (yielded ops a.tmps) = true
    · rw [if_pos hw] at h ⊢
      rcases h with h | h
      · exact Oper.wpIn_mono hK (oper_in (hc i o ho) h)
      · exact absurd h.2 hQ
    · rw [if_neg hw] at h ⊢
      exact ⟨fun f hf => (by rw [calm_about (hc i o ho)] at hf; cases hf), hK _ _ h⟩
theorem any_in (hc : ∀ (i : Nat) (o : Oper), ops[i]? = some o → calmB o = true) (hQ : ¬ LetsOut Q) : ∀ (fuel : Nat) (listed : Array Bool) (a : Act) (w : World), wpAny P md ops Q fuel listed a w → wpAnyIn F n P md ops Q fuel listed a w
  | 0, _, _, _, h => h
  | fuel + 1, _, _, _, h => ⟨h.1, fun i hi => op_in hc hQ (fun a w h => any_in hc hQ fuel _ a w h) (h.2 i hi)⟩

/-- A region of calm operations, by all its ways outside of rounds. -/
theorem region_in {id : Nat} {l : List Oper} {a : Act} {w : World} (hm : P.follows .mixedOrders = true) (hc : l.all calmB = true) (hQ : ¬ LetsOut Q) (h : wpAny P .any l.toArray Q l.toArray.size (Array.replicate l.toArray.size false) a w.drew) : (Code.region id l.toArray true).wpIn F n P Q a w :=
  wpIn_region_any hm (any_in (fun i o ho => List.all_eq_true.1 hc o (List.mem_of_getElem? (by simpa using ho))) hQ _ _ _ _ h)
theorem lets_own {α : Type} (Kp : World → World → Prop) (I : List α → World → Prop) (Ix : Code → List α → World → Prop) (xs : List α) (W : World) : ¬ LetsOut (ownPostK Kp I Ix xs W) := fun h => by
  first | exact h.elim | (simp [LetsOut, ownPostK] at h)
theorem lets_block {id : Nat} {Q : Exit → Act → World → Prop} (h : ¬ LetsOut Q) : ¬ LetsOut (Exit.inBlock id Q) := fun ⟨a, w, hq⟩ => h ⟨a, w, hq⟩
end Go.Proofs.Ytfnkeknnlndjcaa.Rng
