/- Common to the claims of this seat, part 2: texts that were written one by one, laid behind one another. -/
import Derived.BigFrame
import Derived.BigQuiet
import Derived.Deep.DeepCutAuto
import Derived.Deep.CutBlock
import Derived.WalkLawsBesides
import Derived.LoopTactic
import Derived.Deep.MidRow
import Derived.Laws.BitsAllLaws
import Derived.Test.YtcndihekpdebhaaChecked
import Derived.WalkKit
import Derived.WalkSpells
import Derived.Lib.Hide
import Derived.Below
import Derived.Deep.QuietTactic
import Derived.Deep.RegionHeld3
import Derived.Laws.FloatArith
import Derived.Laws.ComplexArith
import Derived.Outline
import Derived.Deep.DrawnRows
import Derived.Test.YtcndihekpdebhaaPart1
/- Common: a region that draws its order whose last operation waits for all others (a store behind what it stores): the others by what the slots hold (XRegRel), then the last one alone. -/
namespace Go.Proofs.Ytcndihekpdebhaa.Rel
open Go.RowKit

variable {P : Program} {Q : Exit → Act → World → Prop} {G : World → World → Prop} {a0 : Act}

theorem pop_size {L : Array Bool} {n : Nat} (h : L.size = n + 1) : L.pop.size = n := by simp [h]
theorem pop_at {L : Array Bool} {n i : Nat} (h : L.size = n + 1) (hi : i < n) : L.pop[i]? = L[i]? := by
  rw [Array.getElem?_pop, if_pos (by omega)]
theorem pop_getD {L : Array Bool} {n i : Nat} (h : L.size = n + 1) (hi : i < n) (b : Bool) : L.pop.getD i b = L.getD i b := by
  rw [Array.getD_eq_getD_getElem?, Array.getD_eq_getD_getElem?, pop_at h hi]
theorem pop_set {L : Array Bool} {n i : Nat} (h : L.size = n + 1) (hi : i < n) : (L.setIfInBounds i true).pop = L.pop.setIfInBounds i true := by
  apply Array.ext_getElem?
  intro j
  rw [Array.getElem?_pop, Array.getElem?_setIfInBounds, Array.getElem?_setIfInBounds, Array.getElem?_pop]
  simp only [Array.size_setIfInBounds, Array.size_pop]
  by_cases hij : i = j
  · subst hij
    rw [if_pos (by omega), if_pos rfl, if_pos rfl, if_pos (by omega), if_pos (by omega)]
  · rw [if_neg hij, if_neg hij]
/-- One operation of the law, by its invariant. -/
theorem rel_step {ops : Array Oper} {V : Nat → Kd G} {J : Array Bool → World → Prop} (hap : apartB ops.toList = true) (hsz : ∀ (i : Nat) (o : Oper) (d : Tmp), ops[i]? = some o → o.dst = some d → d < a0.tmps.size)
    (hsteps : Steps P ops Q V J a0 0 ops.toList) {L : Array Bool} {a : Act} {w : World} {i : Nat} {o : Oper} (hI : Inv ops V J a0 L a w) (hun : L.getD i true = false) (ho : ops[i]? = some o) (hg : o.guard = none) (hcame : ∀ j, waits o j = true → L.getD j false = true) :
    o.wp P a w (fun a' w' => Inv ops V J a0 (L.setIfInBounds i true) a' w') Q := by
  have hI' := hI
  obtain ⟨h1, h2, h3, h4, h5, h6, h7⟩ := hI
  have hs := steps_at ops.toList 0 hsteps i o (by simpa using ho)
  rw [Nat.zero_add] at hs
  replace hs := hs L a w ⟨h1, hun, h2, h3, h5, fun j o' d hj hd hw => h6 j o' d hj hd (hcame j hw), hcame, h7⟩
  rcases hs with ⟨hw, hs⟩ | ⟨hw, hv, hJ⟩
  · exact Oper.wp_mono (fun a'' w'' ⟨v, ha, hG, hv, hJ⟩ => by subst ha; exact inv_step hap hsz ho hun hcame hI' hG hv hJ) hs
  · rw [wanted_none hg] at hw; cases hw

/-- THE LAW. -/
theorem wp_region_last {id : Nat} {w : World} {l : List Oper} (o : Oper) (V : Nat → Kd G) (J : Array Bool → World → Prop) (hm : P.follows .mixedOrders = true) (hlast : l.getLast? = some o) (hfree : (l.all fun o => o.guard.isNone) = true) (hap : apartB l.dropLast = true) (hor : orderB 0 l = true)
    (hwait : ((List.range l.dropLast.length).all fun j => waits o j) = true) (hsz : (l.dropLast.all fun o => match o.dst with | some d => decide (d < a0.tmps.size) | none => true) = true)
    (h0 : J (Array.replicate l.dropLast.length false) w.drew) (hsteps : Steps P l.dropLast.toArray Q V J a0 0 l.dropLast)
    (hdone : ∀ a w, (∀ s, unwritten l.dropLast.toArray s = true → slot a s = slot a0 s) → a.tmps.size = a0.tmps.size → a.defers = a0.defers → J (Array.replicate l.dropLast.length true) w → (∀ (j : Nat) (o : Oper) (d : Tmp), l.dropLast[j]? = some o → o.dst = some d → (V j).p w (slot a d)) → o.wp P a w (fun a' w' => Q .normal a' w') Q) :
    (Code.region id l.toArray true).wp P Q a0 w := by
  obtain ⟨n, hn⟩ : ∃ n, n = l.dropLast.length := ⟨_, rfl⟩
  have hl : l = l.dropLast ++ [o] := by
    rcases List.eq_nil_or_concat l with e | ⟨l', b, e⟩
    · rw [e] at hlast; cases hlast
    · rw [e] at hlast ⊢
      simp at hlast
      subst hlast
      simp
  have hlen : l.length = n + 1 := by rw [hl, List.length_append, List.length_singleton, ← hn]
  have hat : ∀ i, i < n → l[i]? = l.dropLast[i]? := fun i hi => by
    conv => lhs; rw [hl]
    rw [List.getElem?_append_left (by omega)]
  have hatn : l[n]? = some o := by
    conv => lhs; rw [hl]
    rw [List.getElem?_append_right (by omega), ← hn, Nat.sub_self]; rfl
  have hsz' : ∀ (i : Nat) (o : Oper) (d : Tmp), l.dropLast.toArray[i]? = some o → o.dst = some d → d < a0.tmps.size := by
    intro i o d ho hd
    have := List.all_eq_true.1 hsz o (List.mem_of_getElem? (by simpa using ho))
    rw [hd] at this
    simpa using this
  have hguard : ∀ (i : Nat) (x : Oper), l[i]? = some x → x.guard = none := fun i x hx => by
    have := List.all_eq_true.1 hfree x (List.mem_of_getElem? hx)
    simpa using this
  rw [← hn] at hwait h0 hdone
  have hw := List.all_eq_true.1 hwait
  refine Reg.wp_region_inv (fun L a w => (L.size = n + 1 ∧ L.getD n true = false ∧ Inv l.dropLast.toArray V J a0 L.pop a w) ∨ (L = Array.replicate (n + 1) true ∧ Q .normal a w)) hm ?_ ?_ ?_
  · left
    refine ⟨by simp [hlen], by simp [hlen], by simp [hlen], fun _ _ => rfl, rfl, rfl, ?_, fun j o d _ _ hl' => ?_, fun j o i _ hl' _ => ?_⟩
    · have e : (Array.replicate l.toArray.size false).pop = Array.replicate n false := by simp [hlen]
      rw [e]; exact h0
    · have e : (Array.replicate l.toArray.size false).pop = Array.replicate n false := by simp [hlen]
      rw [e] at hl'
      by_cases hj : j < n <;> simp [hj] at hl'
    · have e : (Array.replicate l.toArray.size false).pop = Array.replicate n false := by simp [hlen]
      rw [e] at hl'
      by_cases hj : j < n <;> simp [hj] at hl'
  · intro L a' w' hI hready
    rcases hI with ⟨h1, h2, hI⟩ | ⟨_, hq⟩
    · exfalso
      have hall : ∀ j, j < n → L.getD j false = true := by
        intro j
        induction j using Nat.strongRecOn with
        | _ j ih =>
          intro hj
          have ho : l[j]? = some (l[j]'(by omega)) := List.getElem?_eq_getElem (by omega)
          refine Reg.none_ready (ops := l.toArray) (by simp [h1, hlen]) hready (o := l[j]'(by omega)) (by simp) fun e he hb => ?_
          have hlt := order_at l 0 hor j _ ho e he hb
          exact ih e.on (by omega) (by omega)
      have hn' : L.getD n false = true := by
        refine Reg.none_ready (ops := l.toArray) (by simp [h1, hlen]) hready (o := o) (by simpa using hatn) fun e he hb => ?_
        have hlt := order_at l 0 hor n _ hatn e he hb
        exact hall e.on (by omega)
      have hsz : n < L.size := by omega
      simp [hsz] at h2 hn'
      rw [h2] at hn'; cases hn'
    · exact hq
  · intro L a' w' i hI hi
    obtain ⟨hun, x, hx, hdep⟩ := mem_ready.1 hi
    have hx' : l[i]? = some x := by simpa using hx
    have hg := hguard i x hx'
    have hil : i < n + 1 := by rw [← hlen]; exact (List.getElem?_eq_some_iff.1 hx').1
    rcases hI with ⟨h1, h2, hI⟩ | ⟨hL, _⟩
    · have hcame : ∀ j, waits x j = true → L.getD j false = true := by
        intro j hj
        unfold waits at hj
        obtain ⟨e, he, hb⟩ := List.any_eq_true.1 hj
        simp only [Bool.and_eq_true, beq_iff_eq] at hb
        have := hdep e (by simpa using he) hb.2
        rw [hb.1] at this
        exact this
      unfold wpOp
      simp only [hx]
      rw [if_pos (wanted_none hg _)]
      by_cases hin : i = n
      · subst hin
        rw [hatn] at hx'
        injection hx' with hx'
        subst hx'
        have hall : ∀ j, j < i → L.getD j false = true := fun j hj => hcame j (hw j (List.mem_range.2 hj))
        have hpop : L.pop = Array.replicate i true := by
          apply Array.ext
          · simp [h1]
          · intro j hj1 hj2
            have hj : j < i := by simpa using hj2
            have := hall j hj
            have hjL : j < L.size := by omega
            simp [hjL] at this
            simp [this]
        have hset : L.setIfInBounds i true = Array.replicate (i + 1) true := by
          apply Array.ext
          · simp [h1]
          · intro j hj1 hj2
            have hj : j < i + 1 := by simpa using hj2
            rw [Array.getElem_setIfInBounds (by simpa using hj1)]
            by_cases e : i = j
            · simp [e]
            · have := hall j (by omega)
              have hjL : j < L.size := by omega
              simp [hjL] at this
              simp [e, this]
        rw [hpop] at hI
        obtain ⟨_, g2, g3, g4, g5, g6, _⟩ := hI
        refine .inl (Oper.wp_mono (fun a'' w'' hq => .inr ⟨hset, hq⟩) (hdone a' w' g2 g3 g4 g5 fun j y d hj hd => g6 j y d (by simpa using hj) hd ?_))
        have hjn : j < i := by rw [hn]; exact (List.getElem?_eq_some_iff.1 hj).1
        simp [hjn]
      · have hin' : i < n := by omega
        have hxd : l.dropLast.toArray[i]? = some x := by
          have := hat i hin'
          rw [hx'] at this
          simpa using this.symm
        have hw' : ∀ j, waits x j = true → j < n := fun j hj => by
          unfold waits at hj
          obtain ⟨e, he, hb⟩ := List.any_eq_true.1 hj
          simp only [Bool.and_eq_true, beq_iff_eq] at hb
          have := order_at l 0 hor i x hx' e (by simpa using he) hb.2
          omega
        have hs := rel_step (by simpa using hap) hsz' hsteps hI (by rw [pop_getD h1 hin']; exact hun) hxd hg fun j hj => by rw [pop_getD h1 (hw' j hj)]; exact hcame j hj
        refine .inl (Oper.wp_mono (fun a'' w'' hq => .inl ⟨by simp [h1], ?_, by rw [pop_set h1 hin']; exact hq⟩) hs)
        have hne : i ≠ n := hin
        simp [hne]
        simpa using h2
    · subst hL
      simp [hil] at hun

section
variable {o : Oper} {a : Act} {w : World} {K : Act → World → Prop}
theorem wp_al (t : TypeId) (ho : o.op = .alloc t) {u : Value} {w' : World} (hr : (Instr.alloc t true (.tuple #[])).run P w = .ok u w') (h : K (a.put o.dst u) w') : o.wp P a w K Q := by
  unfold Oper.wp execOp
  simp only [ho, Sem.run_bind, hr]
  exact h
theorem wp_bd4 (t : TypeId) (x y z u : Operand) (ho : o.op = .build t #[(0, x), (1, y), (2, z), (3, u)]) {vx vy vz vu r : Value} {w' : World} (hx : a.eval x = vx) (hy : a.eval y = vy) (hz : a.eval z = vz) (hu : a.eval u = vu) (hr : (Instr.build t #[(0, vx), (1, vy), (2, vz), (3, vu)]).run P w = .ok r w') (h : K (a.put o.dst r) w') : o.wp P a w K Q := by
  subst hx hy hz hu
  unfold Oper.wp execOp
  have hm : (#[(0, x), (1, y), (2, z), (3, u)] : Array (Nat × Operand)).map (fun (i, x) => (i, a.eval x)) = #[(0, a.eval x), (1, a.eval y), (2, a.eval z), (3, a.eval u)] := by simp
  simp only [ho, Sem.run_bind, hm, hr]
  exact h
end
end Go.Proofs.Ytcndihekpdebhaa.Rel
/- Common: a region that draws its order whose last two operations wait for all others: the others by what the slots hold (XRegRel), then these two, one behind the other. -/
namespace Go.Proofs.Ytcndihekpdebhaa.Rel
open Go.RowKit
open Chn (needsB needsB_came)

variable {P : Program} {Q : Exit → Act → World → Prop} {G : World → World → Prop} {a0 : Act}

/-- THE LAW. -/
theorem wp_region_two {id : Nat} {w : World} {l : List Oper} (pre : List Oper) (o o' : Oper) (V : Nat → Kd G) (J : Array Bool → World → Prop) (hm : P.follows .mixedOrders = true) (hl : l = pre ++ [o, o']) (hfree : (l.all fun o => o.guard.isNone) = true) (hap : apartB pre = true) (hor : orderB 0 l = true)
    (hw1 : ((List.range pre.length).all fun j => needsB l pre.length j) = true) (hw2 : ((List.range (pre.length + 1)).all fun j => waits o' j) = true) (hsz : (pre.all fun o => match o.dst with | some d => decide (d < a0.tmps.size) | none => true) = true)
    (h0 : J (Array.replicate pre.length false) w.drew) (hsteps : Steps P pre.toArray Q V J a0 0 pre)
    (hdone : ∀ a w, (∀ s, unwritten pre.toArray s = true → slot a s = slot a0 s) → a.tmps.size = a0.tmps.size → a.defers = a0.defers → J (Array.replicate pre.length true) w → (∀ (j : Nat) (o : Oper) (d : Tmp), pre[j]? = some o → o.dst = some d → (V j).p w (slot a d)) → o.wp P a w (fun a' w' => o'.wp P a' w' (fun a'' w'' => Q .normal a'' w'') Q) Q) :
    (Code.region id l.toArray true).wp P Q a0 w := by
  obtain ⟨n, hn⟩ : ∃ n, n = pre.length := ⟨_, rfl⟩
  have hlen : l.length = n + 2 := by rw [hl, List.length_append, ← hn]; rfl
  have hat : ∀ i, i < n → l[i]? = pre[i]? := fun i hi => by
    rw [hl, List.getElem?_append_left (by omega)]
  have hatn : l[n]? = some o := by
    rw [hl, List.getElem?_append_right (by omega), ← hn, Nat.sub_self]; rfl
  have hatm : l[n + 1]? = some o' := by
    rw [hl, List.getElem?_append_right (by omega), ← hn, Nat.add_sub_cancel_left]; rfl
  have hsz' : ∀ (i : Nat) (o : Oper) (d : Tmp), pre.toArray[i]? = some o → o.dst = some d → d < a0.tmps.size := by
    intro i o d ho hd
    have := List.all_eq_true.1 hsz o (List.mem_of_getElem? (by simpa using ho))
    rw [hd] at this
    simpa using this
  have hguard : ∀ (i : Nat) (x : Oper), l[i]? = some x → x.guard = none := fun i x hx => by
    have := List.all_eq_true.1 hfree x (List.mem_of_getElem? hx)
    simpa using this
  have hord : ∀ (i : Nat) (x : Oper), l[i]? = some x → ∀ j, waits x j = true → j < i := fun i x hx j hj => by
    unfold waits at hj
    obtain ⟨e, he, hb⟩ := List.any_eq_true.1 hj
    simp only [Bool.and_eq_true, beq_iff_eq] at hb
    have := order_at l 0 hor i x hx e (by simpa using he) hb.2
    omega
  rw [← hn] at hw1 hw2 h0 hdone
  have hw1 := List.all_eq_true.1 hw1
  have hw2 := List.all_eq_true.1 hw2
  refine Reg.wp_region_inv (fun L a w => (L.size = n + 2 ∧ L.getD n true = false ∧ L.getD (n + 1) true = false ∧ Inv pre.toArray V J a0 L.pop.pop a w) ∨ (L.size = n + 2 ∧ (∀ j, j < n + 1 → L.getD j false = true) ∧ L.getD (n + 1) true = false ∧ o'.wp P a w (fun a'' w'' => Q .normal a'' w'') Q) ∨ ((∀ j, j < n + 2 → L.getD j false = true) ∧ Q .normal a w)) hm ?_ ?_ ?_
  · left
    have e : (Array.replicate l.toArray.size false).pop.pop = Array.replicate n false := by simp [hlen]
    refine ⟨by simp [hlen], by simp [hlen], by simp [hlen], by rw [e]; simp [hn], fun _ _ => rfl, rfl, rfl, ?_, fun j o d _ _ hl' => ?_, fun j o i _ hl' _ => ?_⟩
    · rw [e]; exact h0
    · rw [e] at hl'
      by_cases hj : j < n <;> simp [hj] at hl'
    · rw [e] at hl'
      by_cases hj : j < n <;> simp [hj] at hl'
  · intro L a' w' hI hready
    have hcon : L.size = n + 2 → L.getD (n + 1) true = false → False := by
      intro h1 h2
      have hall : ∀ j, j < n + 2 → L.getD j false = true := by
        intro j
        induction j using Nat.strongRecOn with
        | _ j ih =>
          intro hj
          have ho : l[j]? = some (l[j]'(by omega)) := List.getElem?_eq_getElem (by omega)
          refine Reg.none_ready (ops := l.toArray) (by simp [h1, hlen]) hready (o := l[j]'(by omega)) (by simp) fun e he hb => ?_
          have hlt := order_at l 0 hor j _ ho e he hb
          exact ih e.on (by omega) (by omega)
      have hn' := hall (n + 1) (by omega)
      have hsz : n + 1 < L.size := by omega
      simp [hsz] at h2 hn'
      rw [h2] at hn'; cases hn'
    rcases hI with ⟨h1, _, h2, _⟩ | ⟨h1, _, h2, _⟩ | ⟨_, hq⟩
    · exact (hcon h1 h2).elim
    · exact (hcon h1 h2).elim
    · exact hq
  · intro L a' w' i hI hi
    obtain ⟨hun, x, hx, hdep⟩ := mem_ready.1 hi
    have hx' : l[i]? = some x := by simpa using hx
    have hg := hguard i x hx'
    have hil : i < n + 2 := by rw [← hlen]; exact (List.getElem?_eq_some_iff.1 hx').1
    have hcame : ∀ j, waits x j = true → L.getD j false = true := by
      intro j hj
      unfold waits at hj
      obtain ⟨e, he, hb⟩ := List.any_eq_true.1 hj
      simp only [Bool.and_eq_true, beq_iff_eq] at hb
      have := hdep e (by simpa using he) hb.2
      rw [hb.1] at this
      exact this
    have hcon : ∀ j, L.getD j false = true → L.getD j true = false → False := fun j h h' => by
      by_cases hj : j < L.size
      · simp [hj] at h h'
        rw [h] at h'; cases h'
      · simp [hj] at h
    have hset : ∀ j, L.getD j false = true → (L.setIfInBounds i true).getD j false = true := fun j hj => by
      by_cases e : i = j
      · subst e
        exact (hcon i hj hun).elim
      · rw [Array.getD_eq_getD_getElem?, Array.getElem?_setIfInBounds, if_neg e, ← Array.getD_eq_getD_getElem?]
        exact hj
    have hset1 : i < L.size → (L.setIfInBounds i true).getD i false = true := fun h => by simp [h]
    have hback : ∀ (j : Nat) (b : Bool), j ≠ i → (L.setIfInBounds i true).getD j b = L.getD j b := fun j b hj => by
      rw [Array.getD_eq_getD_getElem?, Array.getElem?_setIfInBounds, if_neg (fun e => hj e.symm), ← Array.getD_eq_getD_getElem?]
    unfold wpOp
    simp only [hx]
    rw [if_pos (wanted_none hg _)]
    rcases hI with ⟨h1, h2, h3, hI⟩ | ⟨h1, h2, h3, hq⟩ | ⟨h2, _⟩
    · have hp1 : L.pop.size = n + 1 := pop_size h1
      have pp : ∀ (j : Nat) (b : Bool), j < n → L.pop.pop.getD j b = L.getD j b := fun j b hj => by
        rw [pop_getD hp1 hj, pop_getD h1 (by omega)]
      by_cases hin : i = n
      · subst hin
        rw [hatn] at hx'
        injection hx' with hx'
        subst hx'
        obtain ⟨gs, g2, g3, g4, g5, g6, g7⟩ := hI
        have hall : ∀ j, j < i → L.getD j false = true := fun j hj => by
          have := needsB_came (l := l) (L := L.setIfInBounds i true) (fun j y k hy hj hk => by
            by_cases hji : j = i
            · subst hji
              rw [hatn] at hy
              injection hy with hy
              subst hy
              exact hset k (hcame k hk)
            · have hjl : j < i + 2 := by rw [← hlen]; exact (List.getElem?_eq_some_iff.1 hy).1
              rw [hback j false hji] at hj
              by_cases hjm : j = i + 1
              · subst hjm
                exact (hcon _ hj h3).elim
              · have hji2 : j < i := by omega
                have hkj := hord j y hy k hk
                have := g7 j y k (by have := hat j hji2; rw [hy] at this; simpa using this.symm) (by rw [pp j false hji2]; exact hj) hk
                rw [pp k false (by omega)] at this
                exact hset k this) (by rw [hn]; rw [hn] at hw1; exact hw1 j (List.mem_range.2 (by omega))) (hset1 (by omega))
          rw [hback j false (by omega)] at this
          exact this
        have hpop : L.pop.pop = Array.replicate i true := by
          apply Array.ext
          · simp [h1]
          · intro j hj1 hj2
            have hj : j < i := by simpa using hj2
            have := hall j hj
            have hjL : j < L.size := by omega
            simp [hjL] at this
            simp [this]
        rw [hpop] at g5
        refine .inl (Oper.wp_mono (fun a'' w'' hq => .inr (.inl ⟨by simp [h1], fun j hj => ?_, by rw [hback _ _ (by omega)]; exact h3, hq⟩)) (hdone a' w' g2 g3 g4 g5 fun j y d hj hd => g6 j y d (by simpa using hj) hd ?_))
        · by_cases e : j = i
          · subst e; exact hset1 (by omega)
          · exact hset j (hall j (by omega))
        · have hjn : j < i := by rw [hn]; exact (List.getElem?_eq_some_iff.1 hj).1
          rw [pp j false hjn]
          exact hall j hjn
      · by_cases him : i = n + 1
        · subst him
          rw [hatm] at hx'
          injection hx' with hx'
          subst hx'
          exact (hcon n (hcame n (hw2 n (List.mem_range.2 (by omega)))) h2).elim
        · have hin' : i < n := by omega
          have hxd : pre.toArray[i]? = some x := by
            have := hat i hin'
            rw [hx'] at this
            simpa using this.symm
          have hs := rel_step (by simpa using hap) hsz' hsteps hI (by rw [pp i true hin']; exact hun) hxd hg fun j hj => by rw [pp j false (Nat.lt_trans (hord i x hx' j hj) hin')]; exact hcame j hj
          refine .inl (Oper.wp_mono (fun a'' w'' hq => .inl ⟨by simp [h1], by rw [hback _ _ (by omega)]; exact h2, by rw [hback _ _ (by omega)]; exact h3, by rw [pop_set h1 (by omega), pop_set hp1 hin']; exact hq⟩) hs)
    · have hi1 : i = n + 1 := by
        rcases Nat.lt_or_ge i (n + 1) with h | h
        · exact (hcon i (h2 i h) hun).elim
        · omega
      subst hi1
      rw [hatm] at hx'
      injection hx' with hx'
      subst hx'
      refine .inl (Oper.wp_mono (fun a'' w'' hq => .inr (.inr ⟨fun j hj => ?_, hq⟩)) hq)
      by_cases e : j = n + 1
      · subst e; exact hset1 (by omega)
      · exact hset j (h2 j (by omega))
    · exact (hcon i (h2 i hil) hun).elim

/-- The same, by what lies ahead of the last two. -/
theorem wp_region_ends {id : Nat} {w : World} {l : List Oper} (o o' : Oper) (V : Nat → Kd G) (J : Array Bool → World → Prop) (hm : P.follows .mixedOrders = true) (h1 : l.dropLast.getLast? = some o) (h2 : l.getLast? = some o') (hfree : (l.all fun o => o.guard.isNone) = true) (hap : apartB l.dropLast.dropLast = true) (hor : orderB 0 l = true)
    (hw1 : ((List.range l.dropLast.dropLast.length).all fun j => needsB l l.dropLast.dropLast.length j) = true) (hw2 : ((List.range (l.dropLast.dropLast.length + 1)).all fun j => waits o' j) = true) (hsz : (l.dropLast.dropLast.all fun o => match o.dst with | some d => decide (d < a0.tmps.size) | none => true) = true)
    (h0 : J (Array.replicate l.dropLast.dropLast.length false) w.drew) (hsteps : Steps P l.dropLast.dropLast.toArray Q V J a0 0 l.dropLast.dropLast)
    (hdone : ∀ a w, (∀ s, unwritten l.dropLast.dropLast.toArray s = true → slot a s = slot a0 s) → a.tmps.size = a0.tmps.size → a.defers = a0.defers → J (Array.replicate l.dropLast.dropLast.length true) w → (∀ (j : Nat) (o : Oper) (d : Tmp), l.dropLast.dropLast[j]? = some o → o.dst = some d → (V j).p w (slot a d)) → o.wp P a w (fun a' w' => o'.wp P a' w' (fun a'' w'' => Q .normal a'' w'') Q) Q) :
    (Code.region id l.toArray true).wp P Q a0 w := by
  have cut : ∀ {m : List Oper} {y : Oper}, m.getLast? = some y → m = m.dropLast ++ [y] := by
    intro m y e
    rcases List.eq_nil_or_concat m with h | ⟨l', b, h⟩
    · rw [h] at e; cases e
    · rw [h] at e ⊢
      simp at e
      subst e
      simp
  have e1 := cut h1
  have e2 := cut h2
  have e3 : l = l.dropLast.dropLast ++ [o, o'] := by
    have e4 := e2
    rw [e1] at e4
    simpa using e4
  exact wp_region_two l.dropLast.dropLast o o' V J hm e3 hfree hap hor hw1 hw2 hsz h0 hsteps hdone
end Go.Proofs.Ytcndihekpdebhaa.Rel
/- Profile: what is busy, a list of the call's own. -/
namespace Go.Proofs.Ytcndihekpdebhaa.Prf
set_option maxRecDepth 100000
open Go.RowKit
open Go.Sort
open Kit
open Tre (Lst inI lst_keep lst_take lst_at lst_new lst_none below_drewN' run_ld2)
set_option linter.unusedVariables false
variable {w w' : World}

abbrev OwZ (w : World) (base : Nat) (v : Value) (l : List Bz) : Prop := Owns encZ 2 48 w base v l
theorem own_busys {base : Nat} {v : Value} {l : List Bz} (h : OwZ w base v l) : ∃ a c, v = .slice a l.length c ∧ Busys w a l.length c l := by
  obtain ⟨a, c, hv, hc, hm, hn, hrow⟩ := owns_row encZ_len h
  exact ⟨a, c, hv, rfl, hc, hm, fun e => ⟨by have := hn e; omega, hn e⟩, hrow⟩
theorem own_keepZ {base : Nat} {v : Value} {l : List Bz} (h : OwZ w base v l) (hb : Below w.heap.size w w') : OwZ w' base v l := Nest.own_on h hb
theorem own_emptyZ (w : World) (base : Nat) (hb : base ≤ w.heap.size) : OwZ (w.alloc (.cells #[] 48)) base (.slice (some ⟨w.heap.size, 0, none⟩) 0 0) [] :=
  ⟨by simp [flat], .inr ⟨w.heap.size, 0, _, rfl, hb, heap_alloc_new w _, Nat.le_refl _, by unfold maxLen; omega, by simp, by simp [flat]⟩⟩
theorem run_iz {b o n c k : Nat} (h : k < n) (w : World) : (Instr.indexAt 28 (.slice (some ⟨b, o, none⟩) n c) (.int .i64 (k : Nat))).run Try.prog w = .ok (.pointer (some ⟨b, o + k * 2, none⟩)) w := by
  simp [go_sem, h]
theorem run_bd_z (x y : Int) (w : World) : (Instr.build 48 #[(0, .int .i64 x), (1, .int .i64 y)]).run Try.prog w = .ok (.agg #[.int .i64 x, .int .i64 y]) w := by
  simp [go_sem]
theorem run_bs_z (x y : Int) (w : World) : (Instr.buildSlice 28 1 #[(0, .agg #[.int .i64 x, .int .i64 y])]).run Try.prog w = .ok (.slice (some ⟨w.heap.size, 0, none⟩) 1 1) (w.alloc (.cells #[.int .i64 x, .int .i64 y] 48)) := by
  simp [go_sem]
theorem row_z (w : World) (s : Bz) : Kit.Row encZ 2 (w.alloc (.cells #[.int .i64 s.till, .int .i64 s.nodes] 48)) (some ⟨w.heap.size, 0, none⟩) [s] := row_new encZ_len w [s] _ _ _ rfl rfl
def kLitZ (s : Bz) : Rel.Kd Rel.Gr := ⟨fun w u => ∃ B, u = .slice (some ⟨B, 0, none⟩) 1 1 ∧ Kit.Row encZ 2 w (some ⟨B, 0, none⟩) [s], fun _ _ _ h ⟨B, e, hr⟩ => ⟨B, e, row_keep encZ_len hr h⟩⟩
end Go.Proofs.Ytcndihekpdebhaa.Prf
/- Jobs, boxes, lists of the call's own. -/
namespace Go.Proofs.Ytcndihekpdebhaa.Job
set_option maxRecDepth 100000
open Go.RowKit
open Go.Sort
open Kit
open Tre (Lst inI lst_keep lst_take lst_at lst_new lst_none below_drewN' run_ld2)
open Pla (Bx rowsL info_box)
open Bxm (Bxs encX encX_len encX_one)
open Go.Proofs.Ytcndihekpdebhaa.Ord (ts)
set_option linter.unusedVariables false
variable {w w' : World}

theorem ts_get {l : List Jv} {k : Nat} {x : Jv} (h : l[k]? = some x) : (ts l)[k]? = some x.t := by unfold ts; rw [List.getElem?_map, h]; rfl
theorem ts_len (l : List Jv) : (ts l).length = l.length := by unfold ts; rw [List.length_map]
def fndI (o : Option Nat) : Int := match o with | none => -1 | some k => (k : Nat)
abbrev OwX (w : World) (base : Nat) (v : Value) (l : List Bx) : Prop := Owns encX 4 52 w base v l
theorem own_emptyX (w : World) (base : Nat) (hb : base ≤ w.heap.size) : OwX (w.alloc (.cells #[] 52)) base (.slice (some ⟨w.heap.size, 0, none⟩) 0 0) [] :=
  ⟨by simp [flat], .inr ⟨w.heap.size, 0, _, rfl, hb, heap_alloc_new w _, Nat.le_refl _, by unfold maxLen; omega, by simp, by simp [flat]⟩⟩
theorem own_boxes {base : Nat} {v : Value} {l : List Bx} (h : OwX w base v l) : ∃ a c, v = .slice a l.length c ∧ Bxs w a l.length c l := by
  obtain ⟨a, c, hv, hc, hm, hn, hrow⟩ := owns_row encX_len h
  exact ⟨a, c, hv, rfl, hc, hm, fun e => ⟨by have := hn e; omega, hn e⟩, hrow⟩
def kRows (l : List Bx) : Rel.Kd Rel.Gr := ⟨fun w u => ∃ a c, u = .slice a l.length c ∧ Bxs w a l.length c l, fun _ _ _ h ⟨a, c, e, hr⟩ => ⟨a, c, e, lst_keep encX_len hr h⟩⟩
theorem rows_len (t l m : Int) : (rowsL t l m).length ≤ 32 := by
  unfold rowsL
  split
  · unfold Pla.boxesOf
    rw [List.length_map]
    exact Pla.runs_length _ _
  · exact Nat.zero_le _
abbrev OwJ (w : World) (base : Nat) (v : Value) (l : List Jv) : Prop := Owns encJ 12 40 w base v l
theorem own_jobs {base : Nat} {v : Value} {l : List Jv} (h : OwJ w base v l) : ∃ a c, v = .slice a l.length c ∧ Jobs w a l.length c l := by
  obtain ⟨a, c, hv, hc, hm, hn, hrow⟩ := owns_row encJ_len h
  exact ⟨a, c, hv, rfl, hc, hm, fun e => ⟨by have := hn e; omega, hn e⟩, hrow⟩
theorem own_emptyJ (w : World) (base : Nat) (hb : base ≤ w.heap.size) : OwJ (w.alloc (.cells #[] 40)) base (.slice (some ⟨w.heap.size, 0, none⟩) 0 0) [] :=
  ⟨by simp [flat], .inr ⟨w.heap.size, 0, _, rfl, hb, heap_alloc_new w _, Nat.le_refl _, by unfold maxLen; omega, by simp, by simp [flat]⟩⟩
theorem one12L' (x : Jv) : (encJ x).all (·.oneCell') = true := by
  rw [List.all_eq_true]
  exact encJ_one x
end Go.Proofs.Ytcndihekpdebhaa.Job
/- Profile: the document's Held and Busy, as they run. -/
namespace Go.Proofs.Ytcndihekpdebhaa.Prf
set_option maxRecDepth 100000
open Go.RowKit
open Go.Sort
open Kit
open Tre (Lst inI lst_keep lst_take lst_at lst_new lst_none below_drewN' run_ld2)
set_option linter.unusedVariables false
variable {w w' : World}

def held (n most : Int) : Int := if n < 0 then 0 else if most < n then most else n
theorem held_may {n most : Int} (h : 0 ≤ most) : 0 ≤ held n most ∧ held n most ≤ most := by
  unfold held
  split
  · omega
  · split <;> omega
theorem rheld_any (x m : Int) (w : World) : Calls Try.prog 23 #[.int .i64 x, .int .i64 m] w fun e w' => e = .returned (.int .i64 (held x m)) ∧ Below w.heap.size w w' := by
  by_cases h0 : x < 0
  · have H := Lib.hid (show held x m = 0 by unfold held; rw [if_pos h0])
    go_enter Try.func23, Try.ntmps23
    go_wp2_with fail
    go_ret
    exact ⟨by rw [H.out]; rfl, Below.refl _ _⟩
  · by_cases h1 : m < x
    · have H := Lib.hid (show held x m = m by unfold held; rw [if_neg h0, if_pos h1])
      go_enter Try.func23, Try.ntmps23
      go_wp2_with fail
      go_ret
      exact ⟨by rw [H.out]; rfl, Below.refl _ _⟩
    · have H := Lib.hid (show held x m = x by unfold held; rw [if_neg h0, if_neg h1])
      go_enter Try.func23, Try.ntmps23
      go_wp2_with fail
      go_ret
      exact ⟨by rw [H.out]; rfl, Below.refl _ _⟩

def heldB (b : Bz) : Bz := ⟨held b.till 1125899906842624, held b.nodes 1048576⟩
def busyH (l : List Bz) : List Bz := (l.take 40).map heldB
theorem map_takeB {l : List Bz} {k : Nat} {x : Bz} (h : l[k]? = some x) : (l.take (k + 1)).map heldB = (l.take k).map heldB ++ [heldB x] := by
  obtain ⟨hk, e⟩ := List.getElem?_eq_some_iff.1 h
  rw [List.take_succ_eq_append_getElem hk, e, List.map_append]; rfl
theorem busyH_may {l : List Bz} : (∀ b ∈ busyH l, b.may) ∧ (busyH l).length ≤ 40 := by
  refine ⟨fun b hb => ?_, by unfold busyH; rw [List.length_map, List.length_take]; omega⟩
  obtain ⟨x, _, rfl⟩ := List.mem_map.1 hb
  exact ⟨held_may (by omega), held_may (by omega)⟩
end Go.Proofs.Ytcndihekpdebhaa.Prf
/- Plane: the document's in. -/
namespace Go.Proofs.Ytcndihekpdebhaa.Pla
set_option maxRecDepth 100000
open Kit (ret_bool)
open Go.RowKit
open Go.Sort

theorem rin_is (n a b : Int) (x : Bool) (w : World) (hx : decide (a ≤ n ∧ n ≤ b) = x) :
    Calls Try.prog 42 #[.int .i64 n, .int .i64 a, .int .i64 b] w fun e w' => e = .returned (.bool x) ∧ w = w' := by
  by_cases h1 : a ≤ n
  · cases x with
    | true =>
      have h2 : decide (n ≤ b) = true := by rw [decide_eq_true_iff] at hx ⊢; exact hx.2
      clear hx
      go_enter Try.func42, Try.ntmps42
      go_wp2
      go_ret
      exact ⟨rfl, rfl⟩
    | false =>
      have h2 : decide (n ≤ b) = false := by rw [decide_eq_false_iff_not] at hx ⊢; exact fun h => hx ⟨h1, h⟩
      clear hx
      go_enter Try.func42, Try.ntmps42
      go_wp2
      go_ret
      exact ⟨rfl, rfl⟩
  · have h2 : decide (a ≤ n) = false := decide_eq_false h1
    have hX := Lib.hid (show false = x by rw [← hx, eq_comm, decide_eq_false_iff_not]; exact fun h => h1 h.1)
    clear hx h1
    go_enter Try.func42, Try.ntmps42
    go_wp2
    go_ret
    exact ⟨ret_bool hX.out, rfl⟩
end Go.Proofs.Ytcndihekpdebhaa.Pla
/- Plane: the document's answer: Rows. -/
namespace Go.Proofs.Ytcndihekpdebhaa.Pla
set_option maxRecDepth 100000
open Go.RowKit
open Go.Sort

theorem runs_last {f : Nat → Bool} : ∀ n, f n = true → ∃ l a k, runs f (n + 1) = l ++ [(a, k)] ∧ 1 ≤ k ∧ k ≤ n + 1
  | 0, h => ⟨[], 0, 1, by rw [runs_new h (.inl rfl)]; rfl, by omega, by omega⟩
  | n + 1, h => by
    cases h1 : f n with
    | false => exact ⟨runs f (n + 1), n + 1, 1, runs_new h (.inr h1), by omega, by omega⟩
    | true =>
      obtain ⟨l, a, k, e, h2, h3⟩ := runs_last n h1
      exact ⟨l, a, k + 1, by rw [runs_more h (by omega) h1, e, bump_snoc], by omega, by omega⟩

theorem boxesOf_length (tick long : Int) (l : List (Nat × Nat)) : (boxesOf tick long l).length = l.length := by unfold boxesOf; rw [List.length_map]

theorem owns_bump {w : World} {base : Nat} {v : Value} {tick long : Int} {l : List (Nat × Nat)} {a k : Nat} (h : Owns w base v (boxesOf tick long (l ++ [(a, k)]))) :
    ∃ g cap, v = .slice (some ⟨g, 0, none⟩) (l.length + 1) cap ∧ base ≤ g ∧ l.length + 1 ≤ cap ∧ w.cell? ⟨g, l.length * 4 + 3, none⟩ = some (.int .i64 k) ∧ w.frozen? ⟨g, l.length * 4 + 3, none⟩ = false ∧
      Owns (w.setCell ⟨g, l.length * 4 + 3, none⟩ (.int .i64 ((k : Int) + 1))) base v (boxesOf tick long (l ++ [(a, k + 1)])) := by
  have hl : (boxesOf tick long (l ++ [(a, k)])).length = l.length + 1 := by rw [boxesOf_length]; simp
  have hl' : (boxesOf tick long (l ++ [(a, k + 1)])).length = l.length + 1 := by rw [boxesOf_length]; simp
  have hc : boxCells (boxesOf tick long (l ++ [(a, k)])) = boxCells (boxesOf tick long l) ++ [.int .i64 tick, .int .i64 a, .int .i64 long, .int .i64 k] := by rw [boxesOf_snoc, boxCells_snoc]
  have hc' : boxCells (boxesOf tick long (l ++ [(a, k + 1)])) = boxCells (boxesOf tick long l) ++ [.int .i64 tick, .int .i64 a, .int .i64 long, .int .i64 ((k : Int) + 1)] := by rw [boxesOf_snoc, boxCells_snoc]; rfl
  have hcl : (boxCells (boxesOf tick long l)).length = l.length * 4 := by rw [boxCells_length, boxesOf_length]
  unfold Owns at h ⊢
  rw [hl, hc] at h
  have hh := h
  rcases h.2 with ⟨_, h0⟩ | ⟨g, cap, cur, rfl, hg, _, hn, _⟩
  · omega
  · refine ⟨g, cap, rfl, hg, hn, ?_, ?_, ?_⟩
    · rw [hh.cellAt _ (by omega), List.getElem?_append_right (by omega), hcl, show l.length * 4 + 3 - l.length * 4 = 3 by omega]; rfl
    · exact hh.frozenAt _
    · have := hh.stored (l.length * 4 + 3) (.int .i64 ((k : Int) + 1))
      rw [hl', hc']
      have e : (boxCells (boxesOf tick long l) ++ [Value.int .i64 tick, .int .i64 a, .int .i64 long, .int .i64 k]).set (l.length * 4 + 3) (.int .i64 ((k : Int) + 1)) = boxCells (boxesOf tick long l) ++ [.int .i64 tick, .int .i64 a, .int .i64 long, .int .i64 ((k : Int) + 1)] := by
        rw [List.set_append, if_neg (by omega), hcl, show l.length * 4 + 3 - l.length * 4 = 3 by omega]; rfl
      rw [e] at this
      exact this.1

set_option maxHeartbeats 2000000 in
theorem rrows_any (tick long mask : Int) (w : World) :
    Calls Try.prog 29 #[.int .i64 tick, .int .i64 long, .int .i64 mask] w (OutBoxes w (rowsL tick long mask)) := by
  have hown0 : Owns (w.alloc (.cells #[] 52)) w.heap.size (.slice (some ⟨w.heap.size, 0, none⟩) 0 0) [] := World.ownsRow_made w #[] 0 (Nat.le_refl _) (by unfold maxLen; omega) rfl
  have hb0 : Below w.heap.size w (w.alloc (.cells #[] 52)) := (Below.refl _ _).alloc (Nat.le_refl _) _
  cases h1 : decide (0 ≤ tick ∧ tick ≤ 1099511627776) with
  | false =>
    have HN := Lib.hid (show [] = rowsL tick long mask by
      unfold rowsL; rw [if_neg]; intro h; have := goodB_iff.1 h; rw [decide_eq_false_iff_not] at h1; omega)
    have H1 := Lib.hid h1
    clear h1
    go_enter Try.func29, Try.ntmps29
    go_wp2_with fail
    refine (rin_is _ _ _ _ _ H1.out).mono ?_
    rintro e w' ⟨rfl, rfl⟩
    go_wp2
    go_ret
    exact out_owns hown0 hb0 HN.out
  | true =>
  cases h2 : decide (1 ≤ long ∧ long ≤ 1048576) with
  | false =>
    have HN := Lib.hid (show [] = rowsL tick long mask by
      unfold rowsL; rw [if_neg]; intro h; have := goodB_iff.1 h; rw [decide_eq_false_iff_not] at h2; omega)
    have H1 := Lib.hid h1
    have H2 := Lib.hid h2
    clear h1 h2
    go_enter Try.func29, Try.ntmps29
    go_wp2_with fail
    refine (rin_is _ _ _ _ _ H1.out).mono ?_
    rintro e w' ⟨rfl, rfl⟩
    go_wp2_with fail
    refine (rin_is _ _ _ _ _ H2.out).mono ?_
    rintro e w' ⟨rfl, rfl⟩
    go_wp2
    go_ret
    exact out_owns hown0 hb0 HN.out
  | true =>
    have HN := Lib.hid (show boxesOf tick long (runs (bitB mask) 32) = rowsL tick long mask by
      unfold rowsL; rw [if_pos]; rw [goodB_iff]; rw [decide_eq_true_iff] at h1 h2; omega)
    have H1 := Lib.hid h1
    have H2 := Lib.hid h2
    clear h1 h2
    go_enter Try.func29, Try.ntmps29
    go_wp2_with fail
    refine (rin_is _ _ _ _ _ H1.out).mono ?_
    rintro e w' ⟨rfl, rfl⟩
    go_wp2_with fail
    refine (rin_is _ _ _ _ _ H2.out).mono ?_
    rintro e w' ⟨rfl, rfl⟩
    go_wp2
    go_loopw [7, 8] (fun v i wr => ∃ n : Nat, n ≤ 32 ∧ i = .int .i64 n ∧ Owns wr w.heap.size v (boxesOf tick long (runs (bitB mask) n)) ∧ Below w.heap.size w wr) (fun _ i _ => 32 - (intOf i).toNat)
    case atStart => exact ⟨0, by omega, rfl, hown0, hb0⟩
    case round =>
      obtain ⟨n, hn, rfl, hown, hb⟩ := hrel
      have HO := Lib.hid hown
      have HB := Lib.hid hb
      have hsz : w.heap.size ≤ wr.heap.size := hb.size
      clear hown hb hown0 hb0
      by_cases hlt : n < 32
      · have hd : decide ((n : Int) < 32) = true := by rw [decide_eq_true_iff]; omega
        have hq := bitB_not mask n
        cases hbt : bitB mask n with
        | false =>
          rw [hbt] at hq
          have HE : Hid (Owns wr w.heap.size u7 (boxesOf tick long (runs (bitB mask) (n + 1)))) := by
            show Owns _ _ _ _; rw [runs_skip hbt]; exact HO.out
          clear hbt
          go_wp2
          go_roundw
          case rel => exact ⟨n + 1, by omega, by go_num, HE.out, HB.out⟩
          case measure => simp [intOf]; omega
        | true =>
          rw [hbt] at hq
          by_cases h0 : n = 0
          · subst h0
            have HE : Hid (boxesOf tick long (runs (bitB mask) (0 + 1)) = boxesOf tick long (runs (bitB mask) 0) ++ [⟨tick, 0, long, 1⟩]) := by
              show _ = _; rw [runs_new hbt (.inl rfl), boxesOf_snoc]; rfl
            have hq2 : (bits BinOp.and IntKind.i64 mask 1 == 0) = false := by simpa using hq
            have HLen : Hid ((boxesOf tick long (runs (bitB mask) 0)).length ≤ 1000000) := by show _ ≤ _; rw [boxesOf_length]; simp [runs]
            clear hbt
            go_wp2_with (at_builtin; refine wpList_append_box rfl (.tmp 50) (.tmp 55) rfl w.heap.size _ _ rfl (owns_alloc HO.out _) wr.heap.size rfl ⟨tick, 0, long, 1⟩ (by simp [go_sem]) HLen.out (by simp; omega) ?_; intro v2 w2 hown2 hb2)
            go_roundw
            case rel => exact ⟨0 + 1, by omega, by go_num, by rw [HE.out]; exact hown2, HB.out.trans ((((Below.refl _ _).alloc (Nat.le_refl _) _).mono hsz).trans hb2)⟩
            case measure => simp [intOf]
          · have hn0 : decide ((0 : Int) < (n : Int)) = true := by rw [decide_eq_true_iff]; omega
            cases hbm : bitB mask (n - 1) with
            | false =>
              have HE : Hid (boxesOf tick long (runs (bitB mask) (n + 1)) = boxesOf tick long (runs (bitB mask) n) ++ [⟨tick, n, long, 1⟩]) := by
                show _ = _; rw [runs_new hbt (.inr hbm), boxesOf_snoc]; rfl
              have hq1 : (bits BinOp.and IntKind.i64 (mask / 2 ^ (n - 1)) 1 == 1) = false := hbm
              have HLen : Hid ((boxesOf tick long (runs (bitB mask) n)).length ≤ 1000000) := by show _ ≤ _; rw [boxesOf_length]; have := runs_length (bitB mask) n; omega
              clear hbt hbm
              go_wp2_with (at_builtin; refine wpList_append_box rfl (.tmp 50) (.tmp 55) rfl w.heap.size _ _ rfl (owns_alloc HO.out _) wr.heap.size rfl ⟨tick, n, long, 1⟩ (by simp [go_sem]) HLen.out (by simp; omega) ?_; intro v2 w2 hown2 hb2)
              go_roundw
              case rel => exact ⟨n + 1, by omega, by go_num, by rw [HE.out]; exact hown2, HB.out.trans ((((Below.refl _ _).alloc (Nat.le_refl _) _).mono hsz).trans hb2)⟩
              case measure => simp [intOf]; omega
            | true =>
              obtain ⟨l, a, k, hr, hk1, hk2⟩ := runs_last (n - 1) hbm
              rw [show n - 1 + 1 = n by omega] at hr
              have hr2 : runs (bitB mask) (n + 1) = l ++ [(a, k + 1)] := by rw [runs_more hbt (by omega) hbm, hr, bump_snoc]
              have hll : l.length + 1 ≤ 32 := by have := runs_length (bitB mask) n; rw [hr, List.length_append] at this; simp at this; omega
              have hO := HO.out
              rw [hr] at hO
              obtain ⟨g, cap, hv, hg, hcap, hc, hf, hO2⟩ := owns_bump hO
              subst hv
              rw [← hr2] at hO2
              have HO2 := Lib.hid hO2
              have hq1 : (bits BinOp.and IntKind.i64 (mask / 2 ^ (n - 1)) 1 == 1) = true := hbm
              clear hbt hbm hr hr2 hO hO2 HO
              generalize l.length = K at *
              go_wp2
              go_roundw
              case rel => exact ⟨n + 1, by omega, by go_num, HO2.out, HB.out.setCell (p := ⟨g, K * 4 + 3, none⟩) hg _⟩
              case measure => simp [intOf]; omega
      · have hd : decide ((n : Int) < 32) = false := by rw [decide_eq_false_iff_not]; omega
        have HE := Lib.hid (show boxesOf tick long (runs (bitB mask) n) = rowsL tick long mask by rw [show n = 32 by omega]; exact HN.out)
        go_wp2
        go_ret
        exact out_owns HO.out HB.out HE.out

end Go.Proofs.Ytcndihekpdebhaa.Pla
/- Job: the document's Find, Mask, Busy, Boxes, and lists held against each other, as they run. -/
namespace Go.Proofs.Ytcndihekpdebhaa.Job
set_option maxRecDepth 100000
open Go.RowKit
open Go.Sort
open Kit
open Tre (Lst inI lst_keep lst_take lst_at lst_new lst_none below_drewN' run_ld2)
open Prf (Bz Busys encZ encZ_len encZ_one OwZ own_busys own_keepZ own_emptyZ info_busy run_bd_z run_bs_z row_z kLitZ run_iz)
open Pla (Bx rowsL info_box)
open Bxm (Bxs encX encX_len encX_one)
open Go.Proofs.Ytcndihekpdebhaa.Ord (ts)
set_option linter.unusedVariables false
variable {w w' : World}

set_option maxHeartbeats 4000000 in
theorem rfind_any (W : World) (a : Option Addr) (n c1 : Nat) (l : List Jv) (id : Int) (h : Jobs W a n c1 l) :
    Calls Try.prog 9 #[.slice a n c1, .int .i64 id] W fun e W' => e = .returned (.int .i64 (findI (ts l) id)) ∧ Below W.heap.size W W' := by
  have hm1 : n ≤ 9223372036854775807 := by have := h.cap; have := h.max; unfold maxLen at this; omega
  have HL := Lib.hid (And.intro h h.len)
  have HF := Lib.hid (show findI (ts l) id = fndI (firstId id (ts l)) from rfl)
  clear h
  go_enter Try.func9, Try.ntmps9
  go_wp2_with fail
  go_loopw [5] (fun i wr => ∃ k : Nat, k ≤ n ∧ i = .int .i64 (k : Nat) ∧ (firstId id ((ts l).drop k)).map (· + k) = firstId id (ts l) ∧ Below W.heap.size W wr) (fun i _ => n - (intOf i).toNat)
  case atStart => exact ⟨0, Nat.zero_le _, rfl, by simp, Below.refl _ _⟩
  case round =>
    obtain ⟨k, hk, rfl, hf, hb⟩ := hrel
    have HB := Lib.hid (And.intro hb hf)
    clear hb hf
    by_cases hlt : k < n
    · have hlti : (k : Int) < (n : Int) := by omega
      have hkl : k < l.length := by rw [HL.out.2]; exact hlt
      obtain ⟨x, hx⟩ : ∃ x, l[k]? = some x := ⟨_, List.getElem?_eq_getElem hkl⟩
      obtain ⟨b1, o1, rfl⟩ := lst_at HL.out.1 (by omega)
      obtain ⟨q0, -⟩ := job_cells (lst_keep encJ_len HL.out.1 HB.out.1) hx
      have hst := findF_step (id := id) (ts_get hx)
      rw [HB.out.2] at hst
      have HS := Lib.hid hst
      obtain ⟨xi, hxi⟩ : ∃ xi, xi = x.t.id := ⟨_, rfl⟩
      rw [← hxi] at q0 HS
      clear hst hxi hx hkl
      by_cases he : xi = id
      · have HA := Lib.hid (show findI (ts l) id = (k : Nat) by rw [HF.out, HS.out, if_pos he]; rfl)
        subst he
        go_wp2_with fail
        go_ret
        exact ⟨by rw [HA.out]; try rfl, HB.out.1⟩
      · have HN := Lib.hid (show (firstId id ((ts l).drop (k + 1))).map (· + (k + 1)) = firstId id (ts l) by rw [HS.out, if_neg he])
        go_wp2_with fail
        go_roundw
        case rel => exact ⟨k + 1, by omega, by go_num, HN.out, HB.out.1⟩
        case measure => simp [intOf]; omega
    · obtain rfl : k = n := by omega
      have hni : ¬ (k : Int) < (k : Int) := by omega
      have HA := Lib.hid (show findI (ts l) id = -1 by
        rw [HF.out, ← HB.out.2, List.drop_eq_nil_of_le (by rw [ts_len, HL.out.2]; exact Nat.le_refl _)]; rfl)
      go_wp2_with fail
      go_ret
      exact ⟨by rw [HA.out]; try rfl, HB.out.1⟩
set_option maxHeartbeats 4000000 in
theorem rmask_any (W : World) (a : Option Addr) (n c1 : Nat) (l : List Jv) (h : Jobs W a n c1 l) :
    Calls Try.prog 11 #[.slice a n c1] W fun e W' => e = .returned (.int .i64 (maskL (ts l))) ∧ Below W.heap.size W W' := by
  have hm1 : n ≤ 9223372036854775807 := by have := h.cap; have := h.max; unfold maxLen at this; omega
  have HL := Lib.hid (And.intro h h.len)
  clear h
  go_enter Try.func11, Try.ntmps11
  go_wp2_with fail
  go_loopw [3, 4] (fun v i wr => ∃ k : Nat, k ≤ n ∧ i = .int .i64 (k : Nat) ∧ v = .int .i64 (maskL ((ts l).take k)) ∧ Below W.heap.size W wr) (fun _ i _ => n - (intOf i).toNat)
  case atStart => exact ⟨0, Nat.zero_le _, rfl, rfl, Below.refl _ _⟩
  case round =>
    obtain ⟨k, hk, rfl, rfl, hb⟩ := hrel
    have HB := Lib.hid hb
    clear hb
    by_cases hlt : k < n
    · have hlti : (k : Int) < (n : Int) := by omega
      have hkl : k < l.length := by rw [HL.out.2]; exact hlt
      obtain ⟨x, hx⟩ : ∃ x, l[k]? = some x := ⟨_, List.getElem?_eq_getElem hkl⟩
      obtain ⟨b1, o1, rfl⟩ := lst_at HL.out.1 (by omega)
      obtain ⟨-, -, -, q7, -, q9⟩ := job_cells (lst_keep encJ_len HL.out.1 HB.out) hx
      have hst := mask_take (ts_get hx)
      obtain ⟨z, hz⟩ : ∃ z, z = maskL ((ts l).take k) := ⟨_, rfl⟩
      rw [← hz] at hst ⊢
      have HS := Lib.hid (show maskL ((ts l).take (k + 1)) = if (x.t.state == 3) = true then bits BinOp.or IntKind.i64 z x.t.mask else z from hst)
      obtain ⟨st, hst'⟩ : ∃ st, st = x.t.state := ⟨_, rfl⟩
      obtain ⟨mk, hmk⟩ : ∃ mk, mk = x.t.mask := ⟨_, rfl⟩
      rw [← hst'] at q7 HS
      rw [← hmk] at q9 HS
      clear hst hst' hmk hz hx hkl
      by_cases he : st = 3
      · have HN := Lib.hid (show maskL ((ts l).take (k + 1)) = bits BinOp.or IntKind.i64 z mk by rw [HS.out, he]; rfl)
        subst he
        go_wp2_with fail
        go_roundw
        case rel => exact ⟨k + 1, by omega, by go_num, by rw [HN.out], HB.out⟩
        case measure => simp [intOf]; omega
      · have heb : (st == 3) = false := beq_false_of_ne he
        have HN := Lib.hid (show maskL ((ts l).take (k + 1)) = z by rw [HS.out, heb]; rfl)
        go_wp2_with fail
        go_roundw
        case rel => exact ⟨k + 1, by omega, by go_num, by rw [HN.out], HB.out⟩
        case measure => simp [intOf]; omega
    · obtain rfl : k = n := by omega
      have hni : ¬ (k : Int) < (k : Int) := by omega
      have HA := Lib.hid (show maskL ((ts l).take k) = maskL (ts l) by rw [List.take_of_length_le (by rw [ts_len, HL.out.2]; exact Nat.le_refl _)])
      rw [HA.out]
      go_wp2_with fail
      go_ret
      exact ⟨rfl, HB.out⟩
set_option maxHeartbeats 8000000 in
theorem rbusyJ_any (W : World) (a1 : Option Addr) (n c1 : Nat) (l : List Jv) (h : Jobs W a1 n c1 l) (hn : n ≤ 100) (hok : ∀ x ∈ l, okT x.t) :
    Calls Try.prog 14 #[.slice a1 n c1] W fun e W' => ∃ v, e = .returned v ∧ OwZ W' W.heap.size v (busyL (ts l)) ∧ Below W.heap.size W W' := by
  have HL := Lib.hid (And.intro h (And.intro h.len hok))
  have HEm := Lib.hid (And.intro (own_emptyZ W W.heap.size (Nat.le_refl _)) (below_alloc W (.cells #[] 48)))
  clear h hok
  go_enter Try.func14, Try.ntmps14
  go_wp2_with fail
  go_loopw [3, 4] (fun v i wr => ∃ k : Nat, k ≤ n ∧ i = .int .i64 (k : Nat) ∧ OwZ wr W.heap.size v (busyL ((ts l).take k)) ∧ Below W.heap.size W wr) (fun _ i _ => n - (intOf i).toNat)
  case atStart => exact ⟨0, Nat.zero_le _, rfl, HEm.out.1, HEm.out.2⟩
  case round =>
    obtain ⟨k, hk, rfl, hown, hb⟩ := hrel
    have HO := Lib.hid (And.intro hown hb)
    clear hown hb
    by_cases hlt : k < n
    · have hlti : (k : Int) < (n : Int) := by omega
      have hkl : k < l.length := by rw [HL.out.2.1]; exact hlt
      obtain ⟨x, hx⟩ : ∃ x, l[k]? = some x := ⟨_, List.getElem?_eq_getElem hkl⟩
      obtain ⟨b1, o1, rfl⟩ := lst_at HL.out.1 (by omega)
      obtain ⟨-, q2, q3, q7, q8, -⟩ := job_cells (lst_keep encJ_len HL.out.1 HO.out.2) hx
      have hox := HL.out.2.2 x (List.mem_of_getElem? hx)
      have hst := busy_take (ts_get hx)
      have hlx : (busyL ((ts l).take k)).length ≤ 100 := by have := busy_len ((ts l).take k); rw [List.length_take] at this; omega
      obtain ⟨lx, hlx'⟩ : ∃ lx, lx = busyL ((ts l).take k) := ⟨_, rfl⟩
      rw [← hlx'] at HO hst hlx
      obtain ⟨nod, hnod⟩ : ∃ nod, nod = x.t.nodes := ⟨_, rfl⟩
      obtain ⟨wal, hwal⟩ : ∃ wal, wal = x.t.wall := ⟨_, rfl⟩
      obtain ⟨sta, hsta⟩ : ∃ sta, sta = x.t.start := ⟨_, rfl⟩
      obtain ⟨st, hst'⟩ : ∃ st, st = x.t.state := ⟨_, rfl⟩
      have hox2 : (0 ≤ sta ∧ sta ≤ 1125899906842624) ∧ 0 ≤ wal ∧ wal ≤ 1125899906842624 := by rw [hsta, hwal]; exact hox
      have HS := Lib.hid (show busyL ((ts l).take (k + 1)) = if (st == 3) = true then lx ++ [⟨sta + wal, nod⟩] else lx by rw [hst, hsta, hwal, hnod, hst']; rfl)
      rw [← hnod] at q2
      rw [← hwal] at q3
      rw [← hst'] at q7
      rw [← hsta] at q8
      have HSm := Lib.hid hox2
      have HLn := Lib.hid (show lx.length + 1 ≤ maxLen ∧ (lx.length + 1) * 16 ≤ 140737488355328 by unfold maxLen; omega)
      clear hst hlx hlx' hnod hwal hsta hst' hox hox2 hx hkl
      by_cases he : st = 3
      · have HN := Lib.hid (show busyL ((ts l).take (k + 1)) = lx ++ [⟨sta + wal, nod⟩] by rw [HS.out, he]; rfl)
        subst he
        obtain ⟨ao, co, rfl, hcl, hcm, hcn, hcr⟩ := owns_row encZ_len HO.out.1
        obtain ⟨m, hm⟩ : ∃ m, m = lx.length := ⟨_, rfl⟩
        rw [← hm] at HO ⊢
        clear hcl hcm hcn hcr hm
        go_wp2_with fail
        have HQ := Lib.hid (And.intro q8 (And.intro q3 q2))
        clear q2 q3 q7 q8
        refine Rel.wp_region_ends (G := Rel.Gr) _ _ (Rel.tab [.is (.slice ao m co), .is (.slice (some ⟨b1, o1, none⟩) n c1), .is (.int .i64 (k : Nat)), .is (.pointer (some ⟨b1, o1 + k * 12, none⟩)), .is (.pointer (some ⟨b1, o1 + k * 12 + 8, none⟩)), .is (.int .i64 sta), .is (.slice (some ⟨b1, o1, none⟩) n c1), .is (.int .i64 (k : Nat)), .is (.pointer (some ⟨b1, o1 + k * 12, none⟩)), .is (.pointer (some ⟨b1, o1 + k * 12 + 3, none⟩)), .is (.int .i64 wal), .is (.int .i64 (sta + wal)), .is (.slice (some ⟨b1, o1, none⟩) n c1), .is (.int .i64 (k : Nat)), .is (.pointer (some ⟨b1, o1 + k * 12, none⟩)), .is (.pointer (some ⟨b1, o1 + k * 12 + 2, none⟩)), .is (.int .i64 nod), .is (.agg #[.int .i64 (sta + wal), .int .i64 nod]), kLitZ ⟨sta + wal, nod⟩]) (fun _ w => Below wr.heap.size wr w) (by kernel_rfl) rfl rfl (by kernel_rfl) (by kernel_rfl) (by kernel_rfl) (by kernel_rfl) (by kernel_rfl) (by kernel_rfl) (below_drew _) ?_ ?_
        · refine ⟨?_, ?_, ?_, ?_, ?_, ?_, ?_, ?_, ?_, ?_, ?_, ?_, ?_, ?_, ?_, ?_, ?_, ?_, ?_, trivial⟩
          · intro L a w c
            refine .inl ⟨Rel.wanted_free (by kernel_rfl) _, ?_⟩
            exact Rel.wp_mv _ rfl ⟨_, rfl, Rel.gr_refl _, (c.old 3 (v := .slice ao m co) (by kernel_rfl) (by kernel_rfl)), c.inv⟩
          · intro L a w c
            refine .inl ⟨Rel.wanted_free (by kernel_rfl) _, ?_⟩
            exact Rel.wp_mv _ rfl ⟨_, rfl, Rel.gr_refl _, (c.old 0 (v := .slice (some ⟨b1, o1, none⟩) n c1) (by kernel_rfl) (by kernel_rfl)), c.inv⟩
          · intro L a w c
            refine .inl ⟨Rel.wanted_free (by kernel_rfl) _, ?_⟩
            exact Rel.wp_mv _ rfl ⟨_, rfl, Rel.gr_refl _, (c.old 4 (v := .int .i64 (k : Nat)) (by kernel_rfl) (by kernel_rfl)), c.inv⟩
          · intro L a w c
            refine .inl ⟨Rel.wanted_free (by kernel_rfl) _, ?_⟩
            exact Rel.wp_ia _ _ _ rfl (c.get 1 19 (by kernel_rfl)) (c.get 2 20 (by kernel_rfl)) (run_ij hlt w) ⟨_, rfl, Rel.gr_refl _, rfl, c.inv⟩
          · intro L a w c
            refine .inl ⟨Rel.wanted_free (by kernel_rfl) _, ?_⟩
            exact Chn.wp_fa _ _ _ rfl (c.get 3 21 (by kernel_rfl)) (by simp [go_sem]) ⟨_, rfl, Rel.gr_refl _, rfl, c.inv⟩
          · intro L a w c
            refine .inl ⟨Rel.wanted_free (by kernel_rfl) _, ?_⟩
            exact Rel.wp_ld _ _ rfl (c.get 4 22 (by kernel_rfl)) (run_ld2 (cell_keep c.inv HQ.out.1)) ⟨_, rfl, Rel.gr_refl _, rfl, c.inv⟩
          · intro L a w c
            refine .inl ⟨Rel.wanted_free (by kernel_rfl) _, ?_⟩
            exact Rel.wp_mv _ rfl ⟨_, rfl, Rel.gr_refl _, (c.old 0 (v := .slice (some ⟨b1, o1, none⟩) n c1) (by kernel_rfl) (by kernel_rfl)), c.inv⟩
          · intro L a w c
            refine .inl ⟨Rel.wanted_free (by kernel_rfl) _, ?_⟩
            exact Rel.wp_mv _ rfl ⟨_, rfl, Rel.gr_refl _, (c.old 4 (v := .int .i64 (k : Nat)) (by kernel_rfl) (by kernel_rfl)), c.inv⟩
          · intro L a w c
            refine .inl ⟨Rel.wanted_free (by kernel_rfl) _, ?_⟩
            exact Rel.wp_ia _ _ _ rfl (c.get 6 24 (by kernel_rfl)) (c.get 7 25 (by kernel_rfl)) (run_ij hlt w) ⟨_, rfl, Rel.gr_refl _, rfl, c.inv⟩
          · intro L a w c
            refine .inl ⟨Rel.wanted_free (by kernel_rfl) _, ?_⟩
            exact Chn.wp_fa _ _ _ rfl (c.get 8 26 (by kernel_rfl)) (by simp [go_sem]) ⟨_, rfl, Rel.gr_refl _, rfl, c.inv⟩
          · intro L a w c
            refine .inl ⟨Rel.wanted_free (by kernel_rfl) _, ?_⟩
            exact Rel.wp_ld _ _ rfl (c.get 9 27 (by kernel_rfl)) (run_ld2 (cell_keep c.inv HQ.out.2.1)) ⟨_, rfl, Rel.gr_refl _, rfl, c.inv⟩
          · intro L a w c
            refine .inl ⟨Rel.wanted_free (by kernel_rfl) _, ?_⟩
            exact Rel.wp_bo _ _ _ _ _ rfl (u := .int .i64 (sta + wal)) (c.get 5 23 (by kernel_rfl)) (c.get 10 28 (by kernel_rfl)) (by simp [go_sem]; exact IntWalk.i64_in (sta + wal) (by have := HSm.out; omega)) ⟨_, rfl, Rel.gr_refl _, rfl, c.inv⟩
          · intro L a w c
            refine .inl ⟨Rel.wanted_free (by kernel_rfl) _, ?_⟩
            exact Rel.wp_mv _ rfl ⟨_, rfl, Rel.gr_refl _, (c.old 0 (v := .slice (some ⟨b1, o1, none⟩) n c1) (by kernel_rfl) (by kernel_rfl)), c.inv⟩
          · intro L a w c
            refine .inl ⟨Rel.wanted_free (by kernel_rfl) _, ?_⟩
            exact Rel.wp_mv _ rfl ⟨_, rfl, Rel.gr_refl _, (c.old 4 (v := .int .i64 (k : Nat)) (by kernel_rfl) (by kernel_rfl)), c.inv⟩
          · intro L a w c
            refine .inl ⟨Rel.wanted_free (by kernel_rfl) _, ?_⟩
            exact Rel.wp_ia _ _ _ rfl (c.get 12 30 (by kernel_rfl)) (c.get 13 31 (by kernel_rfl)) (run_ij hlt w) ⟨_, rfl, Rel.gr_refl _, rfl, c.inv⟩
          · intro L a w c
            refine .inl ⟨Rel.wanted_free (by kernel_rfl) _, ?_⟩
            exact Chn.wp_fa _ _ _ rfl (c.get 14 32 (by kernel_rfl)) (by simp [go_sem]) ⟨_, rfl, Rel.gr_refl _, rfl, c.inv⟩
          · intro L a w c
            refine .inl ⟨Rel.wanted_free (by kernel_rfl) _, ?_⟩
            exact Rel.wp_ld _ _ rfl (c.get 15 33 (by kernel_rfl)) (run_ld2 (cell_keep c.inv HQ.out.2.2)) ⟨_, rfl, Rel.gr_refl _, rfl, c.inv⟩
          · intro L a w c
            refine .inl ⟨Rel.wanted_free (by kernel_rfl) _, ?_⟩
            exact Chn.wp_bd2 _ _ _ _ _ rfl (c.get 11 29 (by kernel_rfl)) (c.get 16 34 (by kernel_rfl)) (run_bd_z _ _ w) ⟨_, rfl, Rel.gr_refl _, rfl, c.inv⟩
          · intro L a w c
            refine .inl ⟨Rel.wanted_free (by kernel_rfl) _, ?_⟩
            exact Chn.wp_bs1 _ _ rfl (c.get 17 35 (by kernel_rfl)) (run_bs_z _ _ w) ⟨_, rfl, below_alloc _ _, ⟨_, rfl, row_z w _⟩, below_keep c.inv (below_alloc _ _)⟩
        intro a w5 hbase hroom hdef hJ hV
        have s18 : Rel.slot a 18 = .slice ao m co := hV 0 _ _ rfl rfl
        have k36 : (kLitZ ⟨sta + wal, nod⟩ : Rel.Kd (Rel.Gr)).p w5 (Rel.slot a 36) := hV 18 _ _ rfl rfl
        rw [Chn.act_puts [18, 19, 20, 21, 22, 23, 24, 25, 26, 27, 28, 29, 30, 31, 32, 33, 34, 35, 36] hbase hroom hdef (by kernel_rfl)]
        clear hbase hroom hdef hV
        simp only [List.foldl_cons, List.foldl_nil]
        rw [s18]
        clear s18
        generalize Rel.slot a 19 = u19 at *
        generalize Rel.slot a 20 = u20 at *
        generalize Rel.slot a 21 = u21 at *
        generalize Rel.slot a 22 = u22 at *
        generalize Rel.slot a 23 = u23 at *
        generalize Rel.slot a 24 = u24 at *
        generalize Rel.slot a 25 = u25 at *
        generalize Rel.slot a 26 = u26 at *
        generalize Rel.slot a 27 = u27 at *
        generalize Rel.slot a 28 = u28 at *
        generalize Rel.slot a 29 = u29 at *
        generalize Rel.slot a 30 = u30 at *
        generalize Rel.slot a 31 = u31 at *
        generalize Rel.slot a 32 = u32 at *
        generalize Rel.slot a 33 = u33 at *
        generalize Rel.slot a 34 = u34 at *
        generalize Rel.slot a 35 = u35 at *
        generalize Rel.slot a 36 = u36 at *
        simp only [Act.put, List.setIfInBounds_toArray, List.set_cons_succ, List.set_cons_zero]
        obtain ⟨g9, rfl, hrow⟩ := k36
        have HA := Lib.hid (show OwZ w5 W.heap.size (.slice ao m co) lx ∧ Below W.heap.size W w5 from ⟨own_keepZ HO.out.1 hJ, below_keep HO.out.2 hJ⟩)
        clear hJ
        dsimp only [List.getLast]
        obtain ⟨v9, w9, hr9, ho9, hg9, _⟩ := Two.run_append_apart (P := Try.prog) encZ_len (by omega) encZ_one (w := w5) 28 28 48 Try.underlying28 (.agg #[.int .i64 0, .int .i64 0]) 16 info_busy rfl W.heap.size (.slice ao m co) lx HA.out.1 (some ⟨g9, 0, none⟩) 1 1 [(⟨sta + wal, nod⟩ : Bz)] rfl hrow (fun h => by cases h) HLn.out.1 HLn.out.2 HA.out.2.size
        have HE9 := Lib.hid (And.intro ho9 (HA.out.2.trans (Two.below_grown HA.out.1 hg9 HA.out.2.size)))
        refine Chn.wp_ap (.tmp 18) (.tmp 36) 28 rfl rfl rfl hr9 ?_
        refine Rel.wp_as _ rfl ?_
        clear hr9 ho9 hg9 hrow
        go_wp2_with fail
        go_roundw
        case rel => exact ⟨k + 1, by omega, by go_num, by rw [HN.out]; exact HE9.out.1, HE9.out.2⟩
        case measure => simp [intOf]; omega
      · have heb : (st == 3) = false := beq_false_of_ne he
        have HN := Lib.hid (show busyL ((ts l).take (k + 1)) = lx by rw [HS.out, heb]; rfl)
        go_wp2_with fail
        go_roundw
        case rel => exact ⟨k + 1, by omega, by go_num, by rw [HN.out]; exact HO.out.1, HO.out.2⟩
        case measure => simp [intOf]; omega
    · obtain rfl : k = n := by omega
      have hni : ¬ (k : Int) < (k : Int) := by omega
      have htk : busyL ((ts l).take k) = busyL (ts l) := by rw [List.take_of_length_le (by rw [ts_len, HL.out.2.1]; exact Nat.le_refl _)]
      rw [htk] at HO
      clear htk
      go_wp2_with fail
      go_ret
      exact ⟨_, rfl, HO.out.1, HO.out.2⟩
/-! ### Boxes -/

set_option maxHeartbeats 8000000 in
theorem rboxesJ_any (W : World) (a1 : Option Addr) (n c1 : Nat) (l : List Jv) (h : Jobs W a1 n c1 l) (hn : n ≤ 100) :
    Calls Try.prog 17 #[.slice a1 n c1] W fun e W' => ∃ v, e = .returned v ∧ OwX W' W.heap.size v (boxesL (ts l)) ∧ Below W.heap.size W W' := by
  have HL := Lib.hid (And.intro h h.len)
  have HEm := Lib.hid (And.intro (own_emptyX W W.heap.size (Nat.le_refl _)) (below_alloc W (.cells #[] 52)))
  clear h
  go_enter Try.func17, Try.ntmps17
  go_wp2_with fail
  go_loopw [3, 4] (fun v i wr => ∃ k : Nat, k ≤ n ∧ i = .int .i64 (k : Nat) ∧ OwX wr W.heap.size v (boxesL ((ts l).take k)) ∧ Below W.heap.size W wr) (fun _ i _ => n - (intOf i).toNat)
  case atStart => exact ⟨0, Nat.zero_le _, rfl, HEm.out.1, HEm.out.2⟩
  case round =>
    obtain ⟨k, hk, rfl, hown, hb⟩ := hrel
    have HO := Lib.hid (And.intro hown hb)
    clear hown hb
    by_cases hlt : k < n
    · have hlti : (k : Int) < (n : Int) := by omega
      have hkl : k < l.length := by rw [HL.out.2]; exact hlt
      obtain ⟨x, hx⟩ : ∃ x, l[k]? = some x := ⟨_, List.getElem?_eq_getElem hkl⟩
      obtain ⟨b1, o1, rfl⟩ := lst_at HL.out.1 (by omega)
      obtain ⟨-, -, q3, q7, q8, q9⟩ := job_cells (lst_keep encJ_len HL.out.1 HO.out.2) hx
      have hst := boxes_take (ts_get hx)
      have hlx : (boxesL ((ts l).take k)).length ≤ 3200 := by have := boxes_len ((ts l).take k); rw [List.length_take] at this; omega
      obtain ⟨lx, hlx'⟩ : ∃ lx, lx = boxesL ((ts l).take k) := ⟨_, rfl⟩
      rw [← hlx'] at HO hst hlx
      obtain ⟨mas, hmas⟩ : ∃ mas, mas = x.t.mask := ⟨_, rfl⟩
      obtain ⟨wal, hwal⟩ : ∃ wal, wal = x.t.wall := ⟨_, rfl⟩
      obtain ⟨sta, hsta⟩ : ∃ sta, sta = x.t.start := ⟨_, rfl⟩
      obtain ⟨st, hst'⟩ : ∃ st, st = x.t.state := ⟨_, rfl⟩
      have HS := Lib.hid (show boxesL ((ts l).take (k + 1)) = if (st == 3) = true then lx ++ rowsL sta wal mas else lx by rw [hst, hsta, hwal, hmas, hst']; rfl)
      rw [← hmas] at q9
      rw [← hwal] at q3
      rw [← hst'] at q7
      rw [← hsta] at q8
      have HLn := Lib.hid (show lx.length + (rowsL sta wal mas).length ≤ maxLen ∧ (lx.length + (rowsL sta wal mas).length) * 32 ≤ 140737488355328 by have := rows_len sta wal mas; unfold maxLen; omega)
      clear hst hlx hlx' hmas hwal hsta hst' hx hkl
      by_cases he : st = 3
      · have HN := Lib.hid (show boxesL ((ts l).take (k + 1)) = lx ++ rowsL sta wal mas by rw [HS.out, he]; rfl)
        subst he
        obtain ⟨ao, co, rfl, hcl, hcm, hcn, hcr⟩ := owns_row encX_len HO.out.1
        obtain ⟨m, hm⟩ : ∃ m, m = lx.length := ⟨_, rfl⟩
        rw [← hm] at HO ⊢
        clear hcl hcm hcn hcr hm
        go_wp2_with fail
        have HQ := Lib.hid (And.intro q8 (And.intro q3 q9))
        clear q3 q7 q8 q9
        refine Rel.wp_region_ends (G := Rel.Gr) _ _ (Rel.tab [.is (.slice ao m co), .is (.slice (some ⟨b1, o1, none⟩) n c1), .is (.int .i64 (k : Nat)), .is (.pointer (some ⟨b1, o1 + k * 12, none⟩)), .is (.pointer (some ⟨b1, o1 + k * 12 + 8, none⟩)), .is (.int .i64 sta), .is (.slice (some ⟨b1, o1, none⟩) n c1), .is (.int .i64 (k : Nat)), .is (.pointer (some ⟨b1, o1 + k * 12, none⟩)), .is (.pointer (some ⟨b1, o1 + k * 12 + 3, none⟩)), .is (.int .i64 wal), .is (.slice (some ⟨b1, o1, none⟩) n c1), .is (.int .i64 (k : Nat)), .is (.pointer (some ⟨b1, o1 + k * 12, none⟩)), .is (.pointer (some ⟨b1, o1 + k * 12 + 9, none⟩)), .is (.int .i64 mas), kRows (rowsL sta wal mas)]) (fun _ w => Below wr.heap.size wr w) (by kernel_rfl) rfl rfl (by kernel_rfl) (by kernel_rfl) (by kernel_rfl) (by kernel_rfl) (by kernel_rfl) (by kernel_rfl) (below_drew _) ?_ ?_
        · refine ⟨?_, ?_, ?_, ?_, ?_, ?_, ?_, ?_, ?_, ?_, ?_, ?_, ?_, ?_, ?_, ?_, ?_, trivial⟩
          · intro L a w c
            refine .inl ⟨Rel.wanted_free (by kernel_rfl) _, ?_⟩
            exact Rel.wp_mv _ rfl ⟨_, rfl, Rel.gr_refl _, (c.old 3 (v := .slice ao m co) (by kernel_rfl) (by kernel_rfl)), c.inv⟩
          · intro L a w c
            refine .inl ⟨Rel.wanted_free (by kernel_rfl) _, ?_⟩
            exact Rel.wp_mv _ rfl ⟨_, rfl, Rel.gr_refl _, (c.old 0 (v := .slice (some ⟨b1, o1, none⟩) n c1) (by kernel_rfl) (by kernel_rfl)), c.inv⟩
          · intro L a w c
            refine .inl ⟨Rel.wanted_free (by kernel_rfl) _, ?_⟩
            exact Rel.wp_mv _ rfl ⟨_, rfl, Rel.gr_refl _, (c.old 4 (v := .int .i64 (k : Nat)) (by kernel_rfl) (by kernel_rfl)), c.inv⟩
          · intro L a w c
            refine .inl ⟨Rel.wanted_free (by kernel_rfl) _, ?_⟩
            exact Rel.wp_ia _ _ _ rfl (c.get 1 19 (by kernel_rfl)) (c.get 2 20 (by kernel_rfl)) (run_ij hlt w) ⟨_, rfl, Rel.gr_refl _, rfl, c.inv⟩
          · intro L a w c
            refine .inl ⟨Rel.wanted_free (by kernel_rfl) _, ?_⟩
            exact Chn.wp_fa _ _ _ rfl (c.get 3 21 (by kernel_rfl)) (by simp [go_sem]) ⟨_, rfl, Rel.gr_refl _, rfl, c.inv⟩
          · intro L a w c
            refine .inl ⟨Rel.wanted_free (by kernel_rfl) _, ?_⟩
            exact Rel.wp_ld _ _ rfl (c.get 4 22 (by kernel_rfl)) (run_ld2 (cell_keep c.inv HQ.out.1)) ⟨_, rfl, Rel.gr_refl _, rfl, c.inv⟩
          · intro L a w c
            refine .inl ⟨Rel.wanted_free (by kernel_rfl) _, ?_⟩
            exact Rel.wp_mv _ rfl ⟨_, rfl, Rel.gr_refl _, (c.old 0 (v := .slice (some ⟨b1, o1, none⟩) n c1) (by kernel_rfl) (by kernel_rfl)), c.inv⟩
          · intro L a w c
            refine .inl ⟨Rel.wanted_free (by kernel_rfl) _, ?_⟩
            exact Rel.wp_mv _ rfl ⟨_, rfl, Rel.gr_refl _, (c.old 4 (v := .int .i64 (k : Nat)) (by kernel_rfl) (by kernel_rfl)), c.inv⟩
          · intro L a w c
            refine .inl ⟨Rel.wanted_free (by kernel_rfl) _, ?_⟩
            exact Rel.wp_ia _ _ _ rfl (c.get 6 24 (by kernel_rfl)) (c.get 7 25 (by kernel_rfl)) (run_ij hlt w) ⟨_, rfl, Rel.gr_refl _, rfl, c.inv⟩
          · intro L a w c
            refine .inl ⟨Rel.wanted_free (by kernel_rfl) _, ?_⟩
            exact Chn.wp_fa _ _ _ rfl (c.get 8 26 (by kernel_rfl)) (by simp [go_sem]) ⟨_, rfl, Rel.gr_refl _, rfl, c.inv⟩
          · intro L a w c
            refine .inl ⟨Rel.wanted_free (by kernel_rfl) _, ?_⟩
            exact Rel.wp_ld _ _ rfl (c.get 9 27 (by kernel_rfl)) (run_ld2 (cell_keep c.inv HQ.out.2.1)) ⟨_, rfl, Rel.gr_refl _, rfl, c.inv⟩
          · intro L a w c
            refine .inl ⟨Rel.wanted_free (by kernel_rfl) _, ?_⟩
            exact Rel.wp_mv _ rfl ⟨_, rfl, Rel.gr_refl _, (c.old 0 (v := .slice (some ⟨b1, o1, none⟩) n c1) (by kernel_rfl) (by kernel_rfl)), c.inv⟩
          · intro L a w c
            refine .inl ⟨Rel.wanted_free (by kernel_rfl) _, ?_⟩
            exact Rel.wp_mv _ rfl ⟨_, rfl, Rel.gr_refl _, (c.old 4 (v := .int .i64 (k : Nat)) (by kernel_rfl) (by kernel_rfl)), c.inv⟩
          · intro L a w c
            refine .inl ⟨Rel.wanted_free (by kernel_rfl) _, ?_⟩
            exact Rel.wp_ia _ _ _ rfl (c.get 11 29 (by kernel_rfl)) (c.get 12 30 (by kernel_rfl)) (run_ij hlt w) ⟨_, rfl, Rel.gr_refl _, rfl, c.inv⟩
          · intro L a w c
            refine .inl ⟨Rel.wanted_free (by kernel_rfl) _, ?_⟩
            exact Chn.wp_fa _ _ _ rfl (c.get 13 31 (by kernel_rfl)) (by simp [go_sem]) ⟨_, rfl, Rel.gr_refl _, rfl, c.inv⟩
          · intro L a w c
            refine .inl ⟨Rel.wanted_free (by kernel_rfl) _, ?_⟩
            exact Rel.wp_ld _ _ rfl (c.get 14 32 (by kernel_rfl)) (run_ld2 (cell_keep c.inv HQ.out.2.2)) ⟨_, rfl, Rel.gr_refl _, rfl, c.inv⟩
          · intro L a w c
            refine .inl ⟨Rel.wanted_free (by kernel_rfl) _, ?_⟩
            refine Rel.wp_cl _ _ _ rfl Try.func29 (by kernel_rfl) ?_
            show Calls _ _ #[Rel.slot a 23, Rel.slot a 28, Rel.slot a 33] w _
            rw [show Rel.slot a 23 = .int .i64 sta from (c.get 5 23 (by kernel_rfl)), show Rel.slot a 28 = .int .i64 wal from (c.get 10 28 (by kernel_rfl)), show Rel.slot a 33 = .int .i64 mas from (c.get 15 33 (by kernel_rfl))]
            refine (Pla.rrows_any sta wal mas w).mono ?_
            intro e w' ho
            obtain ⟨a', c', rfl, hl, hb⟩ := Bxm.out_lst ho
            exact ⟨_, rfl, _, rfl, hb, ⟨a', c', rfl, hl⟩, below_keep c.inv hb⟩
        intro a w5 hbase hroom hdef hJ hV
        have s18 : Rel.slot a 18 = .slice ao m co := hV 0 _ _ rfl rfl
        have k34 : (kRows (rowsL sta wal mas) : Rel.Kd (Rel.Gr)).p w5 (Rel.slot a 34) := hV 16 _ _ rfl rfl
        rw [Chn.act_puts [18, 19, 20, 21, 22, 23, 24, 25, 26, 27, 28, 29, 30, 31, 32, 33, 34] hbase hroom hdef (by kernel_rfl)]
        clear hbase hroom hdef hV
        simp only [List.foldl_cons, List.foldl_nil]
        rw [s18]
        clear s18
        generalize Rel.slot a 19 = u19 at *
        generalize Rel.slot a 20 = u20 at *
        generalize Rel.slot a 21 = u21 at *
        generalize Rel.slot a 22 = u22 at *
        generalize Rel.slot a 23 = u23 at *
        generalize Rel.slot a 24 = u24 at *
        generalize Rel.slot a 25 = u25 at *
        generalize Rel.slot a 26 = u26 at *
        generalize Rel.slot a 27 = u27 at *
        generalize Rel.slot a 28 = u28 at *
        generalize Rel.slot a 29 = u29 at *
        generalize Rel.slot a 30 = u30 at *
        generalize Rel.slot a 31 = u31 at *
        generalize Rel.slot a 32 = u32 at *
        generalize Rel.slot a 33 = u33 at *
        generalize Rel.slot a 34 = u34 at *
        simp only [Act.put, List.setIfInBounds_toArray, List.set_cons_succ, List.set_cons_zero]
        obtain ⟨a9, c9, rfl, hl9⟩ := k34
        have HA := Lib.hid (show OwX w5 W.heap.size (.slice ao m co) lx ∧ Below W.heap.size W w5 from ⟨Nest.own_on HO.out.1 hJ, below_keep HO.out.2 hJ⟩)
        clear hJ
        dsimp only [List.getLast]
        obtain ⟨v9, w9, hr9, ho9, hg9, _⟩ := Two.run_append_apart (P := Try.prog) encX_len (by omega) encX_one (w := w5) 31 31 52 Try.underlying31 (.agg #[.int .i64 0, .int .i64 0, .int .i64 0, .int .i64 0]) 32 info_box rfl W.heap.size (.slice ao m co) lx HA.out.1 a9 (rowsL sta wal mas).length c9 (rowsL sta wal mas) rfl hl9.row hl9.nil HLn.out.1 HLn.out.2 HA.out.2.size
        have HE9 := Lib.hid (And.intro ho9 (HA.out.2.trans (Two.below_grown HA.out.1 hg9 HA.out.2.size)))
        refine Chn.wp_ap (.tmp 18) (.tmp 34) 31 rfl rfl rfl hr9 ?_
        refine Rel.wp_as _ rfl ?_
        clear hr9 ho9 hg9 hl9
        go_wp2_with fail
        go_roundw
        case rel => exact ⟨k + 1, by omega, by go_num, by rw [HN.out]; exact HE9.out.1, HE9.out.2⟩
        case measure => simp [intOf]; omega
      · have heb : (st == 3) = false := beq_false_of_ne he
        have HN := Lib.hid (show boxesL ((ts l).take (k + 1)) = lx by rw [HS.out, heb]; rfl)
        go_wp2_with fail
        go_roundw
        case rel => exact ⟨k + 1, by omega, by go_num, by rw [HN.out]; exact HO.out.1, HO.out.2⟩
        case measure => simp [intOf]; omega
    · obtain rfl : k = n := by omega
      have hni : ¬ (k : Int) < (k : Int) := by omega
      have htk : boxesL ((ts l).take k) = boxesL (ts l) := by rw [List.take_of_length_le (by rw [ts_len, HL.out.2]; exact Nat.le_refl _)]
      rw [htk] at HO
      clear htk
      go_wp2_with fail
      go_ret
      exact ⟨_, rfl, HO.out.1, HO.out.2⟩
end Go.Proofs.Ytcndihekpdebhaa.Job
/- Job: lists held against each other (the document's SameBusy, and Boxes of chapter 2). -/
namespace Go.Proofs.Ytcndihekpdebhaa.Job
set_option maxRecDepth 100000
open Go.RowKit
open Go.Sort
open Kit
open Tre (Lst inI lst_keep lst_take lst_at lst_new lst_none below_drewN' run_ld2)
open Prf (Bz Busys encZ encZ_len encZ_one busy_cells)
open Pla (Bx)
open Bxm (Bxs encX encX_len encX_one box_cells)
set_option linter.unusedVariables false
variable {w w' : World}

set_option maxHeartbeats 4000000 in
theorem rsameB_any (a1 a2 : Option Addr) (n c1 c2 : Nat) (l : List Bz) (w : World) (h1 : Busys w a1 n c1 l) (h2 : Busys w a2 n c2 l) :
    Calls Try.prog 12 #[.slice a1 n c1, .slice a2 n c2] w fun e W' => e = .returned (.bool true) ∧ Below w.heap.size w W' := by
  have hm1 : n ≤ 9223372036854775807 := by have := h1.cap; have := h1.max; unfold maxLen at this; omega
  have HL := Lib.hid (And.intro h1 (And.intro h2 h1.len))
  clear h1 h2
  go_enter Try.func12, Try.ntmps12
  go_wp2_with fail
  go_loopw [5] (fun i wr => ∃ k : Nat, k ≤ n ∧ i = .int .i64 (k : Nat) ∧ Below w.heap.size w wr) (fun i _ => n - (intOf i).toNat)
  case atStart => exact ⟨0, Nat.zero_le _, rfl, Below.refl _ _⟩
  case round =>
    obtain ⟨k, hk, rfl, hb⟩ := hrel
    have HB := Lib.hid hb
    clear hb
    by_cases hlt : k < n
    · have hkl : k < l.length := by rw [HL.out.2.2]; exact hlt
      obtain ⟨b1, o1, rfl⟩ := lst_at HL.out.1 (by omega)
      obtain ⟨b2, o2, rfl⟩ := lst_at HL.out.2.1 (by omega)
      obtain ⟨p0, p1⟩ := busy_cells (lst_keep encZ_len HL.out.1 HB.out) hkl
      obtain ⟨q0, q1⟩ := busy_cells (lst_keep encZ_len HL.out.2.1 HB.out) hkl
      generalize l[k] = x at *
      obtain ⟨x0, x1⟩ := x
      simp only at p0 p1 q0 q1
      go_wp2_with fail
      go_quiet (fail)
      go_wp2_with fail
      go_roundw
      case rel => exact ⟨k + 1, by omega, by go_num, below_keep HB.out (below_drewN' _ _)⟩
      case measure => simp [intOf]; omega
    · obtain rfl : k = n := by omega
      go_wp2_with fail
      go_ret
      exact ⟨rfl, HB.out⟩
set_option maxHeartbeats 4000000 in
theorem rsameX_any (a1 a2 : Option Addr) (n c1 c2 : Nat) (l : List Bx) (w : World) (h1 : Bxs w a1 n c1 l) (h2 : Bxs w a2 n c2 l) :
    Calls Try.prog 15 #[.slice a1 n c1, .slice a2 n c2] w fun e W' => e = .returned (.bool true) ∧ Below w.heap.size w W' := by
  have hm1 : n ≤ 9223372036854775807 := by have := h1.cap; have := h1.max; unfold maxLen at this; omega
  have HL := Lib.hid (And.intro h1 (And.intro h2 h1.len))
  clear h1 h2
  go_enter Try.func15, Try.ntmps15
  go_wp2_with fail
  go_loopw [5] (fun i wr => ∃ k : Nat, k ≤ n ∧ i = .int .i64 (k : Nat) ∧ Below w.heap.size w wr) (fun i _ => n - (intOf i).toNat)
  case atStart => exact ⟨0, Nat.zero_le _, rfl, Below.refl _ _⟩
  case round =>
    obtain ⟨k, hk, rfl, hb⟩ := hrel
    have HB := Lib.hid hb
    clear hb
    by_cases hlt : k < n
    · have hkl : k < l.length := by rw [HL.out.2.2]; exact hlt
      obtain ⟨b1, o1, rfl⟩ := lst_at HL.out.1 (by omega)
      obtain ⟨b2, o2, rfl⟩ := lst_at HL.out.2.1 (by omega)
      obtain ⟨p0, p1, p2, p3⟩ := box_cells (lst_keep encX_len HL.out.1 HB.out) hkl
      obtain ⟨q0, q1, q2, q3⟩ := box_cells (lst_keep encX_len HL.out.2.1 HB.out) hkl
      generalize l[k] = x at *
      obtain ⟨x0, x1, x2, x3⟩ := x
      simp only at p0 p1 p2 p3 q0 q1 q2 q3
      go_wp2_with fail
      go_quiet (fail)
      go_wp2_with fail
      go_roundw
      case rel => exact ⟨k + 1, by omega, by go_num, below_keep HB.out (below_drewN' _ _)⟩
      case measure => simp [intOf]; omega
    · obtain rfl : k = n := by omega
      go_wp2_with fail
      go_ret
      exact ⟨rfl, HB.out⟩
end Go.Proofs.Ytcndihekpdebhaa.Job
/- Two lists of numbers held against each other (the document's Ints). -/
namespace Go.Proofs.Ytcndihekpdebhaa.Tre
set_option maxRecDepth 100000
open Go.RowKit
open Go.Sort
open Kit
set_option linter.unusedVariables false
variable {w w' : World}

/-! ### Lists of numbers -/

set_option maxHeartbeats 4000000 in
theorem ints_any (a1 a2 : Option Addr) (n1 c1 n2 c2 : Nat) (l1 l2 : List Int) (w : World) (h1 : IntsL w a1 n1 c1 l1) (h2 : IntsL w a2 n2 c2 l2) :
    Calls Try.prog 18 #[.slice a1 n1 c1, .slice a2 n2 c2] w fun e w' => e = .returned (.bool (decide (l1 = l2))) ∧ Below w.heap.size w w' := by
  have hm1 : n1 ≤ 9223372036854775807 := by have := h1.cap; have := h1.max; unfold maxLen at this; omega
  have hm2 : n2 ≤ 9223372036854775807 := by have := h2.cap; have := h2.max; unfold maxLen at this; omega
  have HL := Lib.hid (And.intro h1 h2)
  by_cases hn : n1 = n2
  · have HN := Lib.hid (And.intro h1.len (h2.len.trans hn.symm))
    subst hn
    clear h1 h2 hm2
    go_enter Try.func18, Try.ntmps18
    go_wp2_with fail
    go_loopw [5] (fun i wr => ∃ k : Nat, k ≤ n1 ∧ i = .int .i64 (k : Nat) ∧ l1.take k = l2.take k ∧ Below w.heap.size w wr) (fun i _ => n1 - (intOf i).toNat)
    case atStart => exact ⟨0, Nat.zero_le _, rfl, rfl, Below.refl _ _⟩
    case round =>
      obtain ⟨k, hk, rfl, htk, hb⟩ := hrel
      have HB := Lib.hid (And.intro htk hb)
      clear htk hb
      by_cases hlt : k < n1
      · have hk1 : k < l1.length := by rw [HN.out.1]; exact hlt
        have hk2 : k < l2.length := by rw [HN.out.2]; exact hlt
        obtain ⟨b1, o1, rfl⟩ := lst_at HL.out.1 (by omega)
        obtain ⟨b2, o2, rfl⟩ := lst_at HL.out.2 (by omega)
        have q1 := int_cell (lst_keep encI_len HL.out.1 HB.out.2) hk1
        have q2 := int_cell (lst_keep encI_len HL.out.2 HB.out.2) hk2
        have HTk := Lib.hid (And.intro (List.take_succ_eq_append_getElem hk1) (List.take_succ_eq_append_getElem hk2))
        by_cases he : l1[k] = l2[k]
        · have HE := Lib.hid he
          rw [← he] at q2
          generalize l1[k] = y at *
          clear he
          go_wp2_with fail
          go_quiet (fail)
          go_wp2_with fail
          go_roundw
          case rel => exact ⟨k + 1, by omega, by go_num, by rw [HTk.out.1, HTk.out.2, HB.out.1, ← HE.out], below_keep HB.out.2 (below_drewN' _ _)⟩
          case measure => simp [intOf]; omega
        · have HE := Lib.hid he
          have hne : (l1[k] == l2[k]) = false := beq_false_of_ne he
          clear he
          go_wp2_with fail
          go_quiet (fail)
          go_wp2_with fail
          go_ret
          exact ⟨by rw [decide_eq_false (fun e => HE.out (by subst e; rfl))]; rfl, below_keep HB.out.2 (below_drewN' _ _)⟩
      · obtain rfl : k = n1 := by omega
        go_wp2_with fail
        go_ret
        refine ⟨?_, HB.out.2⟩
        have h := HB.out.1
        rw [List.take_of_length_le (by rw [HN.out.1]; exact Nat.le_refl _), List.take_of_length_le (by rw [HN.out.2]; exact Nat.le_refl _)] at h
        rw [decide_eq_true h]; rfl
  · have hd : Hid (decide (l1 = l2) = false) := Lib.hid (decide_eq_false fun e => hn (by rw [← h1.len, ← h2.len, e]))
    have hni : ((n1 : Int) == (n2 : Int)) = false := beq_false_of_ne (by omega)
    clear h1 h2
    go_enter Try.func18, Try.ntmps18
    go_wp2_with fail
    go_ret
    exact ⟨by rw [hd.out]; rfl, Below.refl _ _⟩
end Go.Proofs.Ytcndihekpdebhaa.Tre
/- Job: the laws' fixed fact, over any jobs that do as they should. -/
namespace Go.Proofs.Ytcndihekpdebhaa.Job
set_option maxRecDepth 100000
open Go.RowKit
open Go.Sort
open Kit
open Tre (Lst inI lst_keep lst_take lst_at lst_new lst_none IntsL int_cell encI encI_len NewI ints_any)
open Prf (Bz Busys encZ encZ_len)
open Pla (Bx)
open Bxm (Bxs encX_len)
open Go.Proofs.Ytcndihekpdebhaa.Ord (ts)
set_option linter.unusedVariables false
variable {w w' : World}

abbrev jA : Jv := ⟨⟨3, 0, 2, 10, 0, 0, 0, 3, 5, 9, 0, []⟩, none, 0, 0⟩
abbrev jB : Jv := ⟨⟨4, 0, 0, 0, 0, 0, 0, 1, 0, 0, 0, []⟩, none, 0, 0⟩
abbrev jL : List Jv := [jB, jA]
theorem aw_good : goodJ jA.t = true := by kernel_rfl
theorem aw_f3 : findI (ts jL) 3 = 1 := by kernel_rfl
theorem aw_f5 : findI (ts jL) 5 = -1 := by kernel_rfl
theorem aw_mask : maskL (ts jL) = 9 := by kernel_rfl
theorem aw_due15 : dueL 15 (ts jL) = [3] := by kernel_rfl
theorem aw_due14 : dueL 14 (ts jL) = [] := by kernel_rfl
theorem aw_boxes : (boxesL (ts jL)).length = 2 := by kernel_rfl
theorem aw_busy : busyL (ts jL) = [⟨15, 2⟩] := by kernel_rfl
theorem jA_in (w : World) : jA.In w := lst_none _ _ _
theorem jA_ok : jA.t.ok := by unfold Jb.ok inI; simp
theorem jL_times : ∀ x ∈ jL, okT x.t := by
  intro x hx
  simp at hx
  rcases hx with rfl | rfl <;> (unfold okT; simp)
abbrev cL : Array Value := #[.int .i64 4, .int .i64 0, .int .i64 0, .int .i64 0, .int .i64 0, .int .i64 0, .int .i64 0, .int .i64 1, .int .i64 0, .int .i64 0, .int .i64 0, .slice none 0 0, .int .i64 3, .int .i64 0, .int .i64 2, .int .i64 10, .int .i64 0, .int .i64 0, .int .i64 0, .int .i64 3, .int .i64 5, .int .i64 9, .int .i64 0, .slice none 0 0]
theorem one12L'' (x : Jv) : (encJ x).all (·.oneCell') = true := by
  rw [List.all_eq_true]
  exact encJ_one x
theorem jL_lst (w : World) : Jobs (w.alloc (.cells cL 40)) (some ⟨w.heap.size, 0, none⟩) 2 2 jL := lst_new encJ_len w jL _ _ _ 2 (by simp) rfl rfl (by omega)
theorem i1_lst (w : World) : IntsL (w.alloc (.cells #[.int .i64 3] 3)) (some ⟨w.heap.size, 0, none⟩) 1 1 [3] := lst_new encI_len w [3] _ _ _ 1 rfl rfl rfl (by omega)
theorem z1_lst (w : World) : Busys (w.alloc (.cells #[.int .i64 15, .int .i64 2] 48)) (some ⟨w.heap.size, 0, none⟩) 1 1 [⟨15, 2⟩] := lst_new encZ_len w [(⟨15, 2⟩ : Bz)] _ _ _ 1 rfl rfl rfl (by omega)
set_option maxHeartbeats 8000000 in
theorem awake_any (hP : Prog) (w : World) : Calls Try.prog 7 #[] w fun e w' => e = .returned (.bool true) ∧ Below w.heap.size w w' := by
  have HP := Lib.hid hP
  clear hP
  go_enter Try.func7, Try.ntmps7
  go_upto_region 3 with (first | (refine Arr.wpList_store_blk rfl 40 (.tmp 1) (.tmp 3) rfl w.heap.size (encJ jA) rfl rfl zeroJ 40 (Arr.blk_new _ _ _ zeroJ rfl) info_job12 rfl (one12L'' jA) w.heap.size (Nat.le_refl _) ?_; intro w1 hblk hbel; have HB1 := Lib.hid (And.intro hblk ((below_alloc w (.cells zeroJ.toArray 40)).trans hbel)); have p0 := Arr.blk_cell hblk 0; have p1 := Arr.blk_cell hblk 1; have p2 := Arr.blk_cell hblk 2; have p3 := Arr.blk_cell hblk 3; have p4 := Arr.blk_cell hblk 4; have p5 := Arr.blk_cell hblk 5; have p6 := Arr.blk_cell hblk 6; have p7 := Arr.blk_cell hblk 7; have p8 := Arr.blk_cell hblk 8; have p9 := Arr.blk_cell hblk 9; have p10 := Arr.blk_cell hblk 10; have p11 := Arr.blk_cell hblk 11; simp only [encJ, List.getElem?_cons_zero, List.getElem?_cons_succ] at p0 p1 p2 p3 p4 p5 p6 p7 p8 p9 p10 p11; clear hblk hbel) | fail)
  have HS2 := Lib.hid (And.intro (below_keep HB1.out.2 (below_alloc w1 (.cells cL 40))) (And.intro (jL_lst w1) (Arr.blk_alloc HB1.out.1 (.cells cL 40))))
  clear p0 p1 p2 p3 p4 p5 p6 p7 p8 p9 p10 p11
  generalize w1.alloc (.cells cL 40) = w2 at *
  have H2 := HS2
  clear HS2
  generalize w1.heap.size = g at *
  have p0 := Arr.blk_cell H2.out.2.2 0
  have p1 := Arr.blk_cell H2.out.2.2 1
  have p2 := Arr.blk_cell H2.out.2.2 2
  have p3 := Arr.blk_cell H2.out.2.2 3
  have p4 := Arr.blk_cell H2.out.2.2 4
  have p5 := Arr.blk_cell H2.out.2.2 5
  have p6 := Arr.blk_cell H2.out.2.2 6
  have p7 := Arr.blk_cell H2.out.2.2 7
  have p8 := Arr.blk_cell H2.out.2.2 8
  have p9 := Arr.blk_cell H2.out.2.2 9
  have p10 := Arr.blk_cell H2.out.2.2 10
  have p11 := Arr.blk_cell H2.out.2.2 11
  simp only [encJ, List.getElem?_cons_zero, List.getElem?_cons_succ] at p0 p1 p2 p3 p4 p5 p6 p7 p8 p9 p10 p11
  have HC1 := Lib.hid (HP.out.good w2 jA (jA_in _) jA_ok)
  go_wp2_with fail
  refine HC1.out.mono ?_
  rw [aw_good]
  rintro e w3 ⟨rfl, hb3⟩
  clear p0 p1 p2 p3 p4 p5 p6 p7 p8 p9 p10 p11 HC1
  have H3 := Lib.hid (And.intro (below_keep H2.out.1 hb3) (lst_keep encJ_len H2.out.2.1 hb3))
  have HC2 := Lib.hid (HP.out.find w3 _ 2 2 jL 3 H3.out.2 (by omega))
  clear hb3 H2
  go_wp2_with fail
  refine HC2.out.mono ?_
  rw [aw_f3]
  rintro e w4 ⟨rfl, hb4⟩
  have H4 := Lib.hid (And.intro (below_keep H3.out.1 hb4) (lst_keep encJ_len H3.out.2 hb4))
  have HC3 := Lib.hid (HP.out.find w4 _ 2 2 jL 5 H4.out.2 (by omega))
  clear hb4 H3 HC2
  go_wp2_with fail
  refine HC3.out.mono ?_
  rw [aw_f5]
  rintro e w5 ⟨rfl, hb5⟩
  have H5 := Lib.hid (And.intro (below_keep H4.out.1 hb5) (lst_keep encJ_len H4.out.2 hb5))
  have HC4 := Lib.hid (HP.out.mask w5 _ 2 2 jL H5.out.2 (by omega))
  clear hb5 H4 HC3
  go_wp2_with fail
  refine HC4.out.mono ?_
  rw [aw_mask]
  rintro e w6 ⟨rfl, hb6⟩
  have H6 := Lib.hid (And.intro (below_keep H5.out.1 hb6) (lst_keep encJ_len H5.out.2 hb6))
  have HC5 := Lib.hid (HP.out.due w6 _ 2 2 jL 15 H6.out.2 (by omega) jL_times)
  clear hb6 H5 HC4
  go_wp2_with fail
  refine HC5.out.mono ?_
  rw [aw_due15]
  rintro e w7 ⟨v7, rfl, ⟨a7, c7, rfl, hi7, -⟩, hb7⟩
  simp only [List.length_cons, List.length_nil, Nat.zero_add] at hi7 ⊢
  have hbx := below_keep hb7 (below_alloc w7 (.cells #[.int .i64 3] 3))
  have H7 := Lib.hid (And.intro (below_keep H6.out.1 hbx) (lst_keep encJ_len H6.out.2 hbx))
  have HC6 := Lib.hid (ints_any a7 (some ⟨w7.heap.size, 0, none⟩) 1 c7 1 1 [3] [3] _ (lst_keep encI_len hi7 (below_alloc w7 (.cells #[.int .i64 3] 3))) (i1_lst w7))
  clear hb7 hbx hi7 H6 HC5
  go_wp2_with fail
  refine HC6.out.mono ?_
  rintro e w8 ⟨rfl, hb8⟩
  have H8 := Lib.hid (And.intro (below_keep H7.out.1 hb8) (lst_keep encJ_len H7.out.2 hb8))
  have HC7 := Lib.hid (HP.out.due w8 _ 2 2 jL 14 H8.out.2 (by omega) jL_times)
  clear hb8 H7 HC6
  go_wp2_with fail
  refine HC7.out.mono ?_
  rw [aw_due14]
  rintro e w9 ⟨v9, rfl, ⟨a9, c9, rfl, -, -⟩, hb9⟩
  simp only [List.length_nil]
  have H9 := Lib.hid (And.intro (below_keep H8.out.1 hb9) (lst_keep encJ_len H8.out.2 hb9))
  have HC8 := Lib.hid (HP.out.boxes w9 _ 2 2 jL H9.out.2 (by omega) jL_times)
  clear hb9 H8 HC7
  go_wp2_with fail
  refine HC8.out.mono ?_
  rintro e wa ⟨aa, ca, rfl, -, hba⟩
  rw [aw_boxes]
  have Ha := Lib.hid (And.intro (below_keep H9.out.1 hba) (lst_keep encJ_len H9.out.2 hba))
  have HC9 := Lib.hid (HP.out.busy wa _ 2 2 jL Ha.out.2 (by omega) jL_times)
  clear hba H9 HC8
  go_wp2_with fail
  refine HC9.out.mono ?_
  rw [aw_busy]
  rintro e wb ⟨ab, cb, rfl, hib, hbb⟩
  simp only [List.length_cons, List.length_nil, Nat.zero_add] at hib ⊢
  have hby := below_keep hbb (below_alloc wb (.cells #[.int .i64 15, .int .i64 2] 48))
  have Hb := Lib.hid (below_keep Ha.out.1 hby)
  have HCa := Lib.hid (rsameB_any ab (some ⟨wb.heap.size, 0, none⟩) 1 cb 1 [⟨15, 2⟩] _ (lst_keep encZ_len hib (below_alloc wb (.cells #[.int .i64 15, .int .i64 2] 48))) (z1_lst wb))
  clear hbb hby hib Ha HC9
  go_wp2_with fail
  refine HCa.out.mono ?_
  rintro e wc ⟨rfl, hbc⟩
  have Hc := Lib.hid (below_keep Hb.out hbc)
  clear hbc HCa Hb
  go_wp2_with fail
  go_ret
  exact ⟨rfl, Hc.out⟩
end Go.Proofs.Ytcndihekpdebhaa.Job
/- A region that draws its order and sees its slots (as RegSee), with stores in it: an operation may write no slot. -/
namespace Go.Proofs.Ytcndihekpdebhaa.Rel
open Go.RowKit

/-- Each operation that writes a slot writes one of its own. -/
def apartN : List Oper → Bool
  | [] => true
  | o :: l => (o.dst.isNone || l.all (fun x => x.dst != o.dst)) && apartN l
theorem apartN_at (l : List Oper) : apartN l = true → ∀ (i j : Nat) (o o' : Oper) (d d' : Tmp), l[i]? = some o → l[j]? = some o' → i ≠ j → o.dst = some d → o'.dst = some d' → d ≠ d' := by
  induction l with
  | nil => intro _ i j o o' d d' e; simp at e
  | cons x l ih =>
    intro h i j o o' d d' e e' hne hd hd'
    simp only [apartN, Bool.and_eq_true, Bool.or_eq_true, List.all_eq_true, bne_iff_ne, ne_eq] at h
    have far : ∀ (y : Oper) (dx dy : Tmp), y ∈ l → x.dst = some dx → y.dst = some dy → dx ≠ dy := by
      intro y dx dy hy hx hyd e
      rcases h.1 with h1 | h1
      · rw [hx] at h1; cases h1
      · exact h1 y hy (by rw [hx, hyd, e])
    cases i with
    | zero =>
      cases j with
      | zero => exact absurd rfl hne
      | succ j =>
        simp at e e'; subst e
        exact far o' d d' (List.mem_of_getElem? e') hd hd'
    | succ i =>
      cases j with
      | zero =>
        simp at e e'; subst e'
        exact (far o d' d (List.mem_of_getElem? e) hd' hd).symm
      | succ j => exact ih h.2 i j o o' d d' (by simpa using e) (by simpa using e') (by omega) hd hd'

section
variable {P : Program} {ops : Array Oper} {Q : Exit → Act → World → Prop} {G : World → World → Prop} {V : Nat → Kd G} {J : Array Bool → World → Prop} {a0 : Act}
theorem inv_stepN {k : Nat} {o : Oper} {L : Array Bool} {a : Act} {w w' : World} {v : Value} (hap : apartN ops.toList = true) (hsz : ∀ (i : Nat) (o : Oper) (d : Tmp), ops[i]? = some o → o.dst = some d → d < a0.tmps.size)
    (ho : ops[k]? = some o) (hk : L.getD k true = false) (hcm : ∀ j, waits o j = true → L.getD j false = true) (hI : Inv ops V J a0 L a w) (hG : G w w') (hv : (V k).p w' v) (hJ : J (L.setIfInBounds k true) w') : Inv ops V J a0 (L.setIfInBounds k true) (a.put o.dst v) w' := by
  obtain ⟨h1, h2, h3, h4, h5, h6, h7⟩ := hI
  have hset : ∀ i, L.getD i false = true → (L.setIfInBounds k true).getD i false = true := by
    intro i hi
    by_cases hik : k = i
    · subst hik
      obtain ⟨hs, _⟩ := Reg.getD_false hk
      simp [hs]
    · simpa [hik] using hi
  refine ⟨by simp [h1], fun s hs => ?_, by rw [put_size]; exact h3, by rw [put_defers]; exact h4, hJ, fun j o' d' ho' hd' hl => ?_, fun j o' i ho' hl hw => ?_⟩
  · cases hd : o.dst with
    | none => exact h2 s hs
    | some d =>
      rw [slot_put_ne (fun e => unwritten_ne hs ho (by rw [hd, e]))]
      exact h2 s hs
  · by_cases hjk : j = k
    · subst hjk
      rw [ho] at ho'
      injection ho' with ho'
      subst ho'
      rw [hd', slot_put (by rw [h3]; exact hsz _ _ _ ho hd')]
      exact hv
    · have h8 : (V j).p w (slot a d') := h6 j o' d' ho' hd' (by simpa [Ne.symm hjk] using hl)
      have h9 := (V j).st w w' _ hG h8
      cases hd : o.dst with
      | none => exact h9
      | some d =>
        rw [slot_put_ne (fun e => apartN_at ops.toList hap k j o o' d d' (by simpa using ho) (by simpa using ho') (Ne.symm hjk) hd hd' e)]
        exact h9
  · by_cases hjk : j = k
    · subst hjk
      rw [ho] at ho'
      injection ho' with ho'
      subst ho'
      exact hset i (hcm i hw)
    · exact hset i (h7 j o' i ho' (by simpa [Ne.symm hjk] using hl) hw)
end
section
variable {P : Program} {ops : Array Oper} {Q : Exit → Act → World → Prop} {G : World → World → Prop} {V : Nat → Kd G} {J : Array Bool → (Tmp → Value) → World → Prop} {a0 : Act}
/-- THE LAW. -/
theorem wp_region_seen {id : Nat} {w : World} {l : List Oper} (V : Nat → Kd G) (J : Array Bool → (Tmp → Value) → World → Prop) (hm : P.follows .mixedOrders = true) (hap : apartN l = true) (hor : orderB 0 l = true) (hsz : (l.all fun o => match o.dst with | some d => decide (d < a0.tmps.size) | none => true) = true)
    (hGr : ∀ w, G w w) (h0 : J (Array.replicate l.length false) (slot a0) w.drew) (hsteps : StepsS P l.toArray Q V J a0 0 l)
    (hdone : ∀ a w, (∀ s, unwritten l.toArray s = true → slot a s = slot a0 s) → a.tmps.size = a0.tmps.size → a.defers = a0.defers → J (Array.replicate l.length true) (slot a) w → (∀ (j : Nat) (o : Oper) (d : Tmp), l[j]? = some o → o.dst = some d → (V j).p w (slot a d)) → Q .normal a w) :
    (Code.region id l.toArray true).wp P Q a0 w := by
  have hsz' : ∀ (i : Nat) (o : Oper) (d : Tmp), l.toArray[i]? = some o → o.dst = some d → d < a0.tmps.size := by
    intro i o d ho hd
    have := List.all_eq_true.1 hsz o (List.mem_of_getElem? (by simpa using ho))
    rw [hd] at this
    simpa using this
  refine Reg.wp_region_inv (fun L a w => Inv l.toArray V (fun _ _ => True) a0 L a w ∧ J L (slot a) w) hm ?_ ?_ ?_
  · exact ⟨⟨by simp, fun _ _ => rfl, rfl, rfl, trivial, fun j o d _ _ hl => by
      by_cases hj : j < l.length <;> simp [hj] at hl, fun j o i _ hl _ => by
      by_cases hj : j < l.length <;> simp [hj] at hl⟩, by simpa using h0⟩
  · intro L a' w' hI hready
    obtain ⟨⟨h1, h2, h3, h4, _, h6, h7⟩, h5⟩ := hI
    have hall : ∀ j, j < l.length → L.getD j false = true := by
      intro j
      induction j using Nat.strongRecOn with
      | _ j ih =>
        intro hj
        have ho : l[j]? = some l[j] := List.getElem?_eq_getElem hj
        refine Reg.none_ready (by exact h1) hready (o := l[j]) (by simp) fun e he hb => ?_
        have hlt := order_at l 0 hor j _ ho e he hb
        exact ih e.on (by omega) (by omega)
    have hL : L = Array.replicate l.length true := by
      apply Array.ext
      · simpa using h1
      · intro i hi1 hi2
        have := hall i (by simpa using hi2)
        simp [hi1] at this
        simp [this]
    subst hL
    exact hdone a' w' h2 h3 h4 h5 fun j o d hj hd => h6 j o d (by simpa using hj) hd (hall j (by
      rcases Nat.lt_or_ge j l.length with h | h
      · exact h
      · rw [List.getElem?_eq_none h] at hj; cases hj))
  · intro L a' w' i hI hi
    obtain ⟨hI, hJ0⟩ := hI
    obtain ⟨hun, o, ho, hdep⟩ := mem_ready.1 hi
    have hI' := hI
    obtain ⟨h1, h2, h3, h4, h5, h6, h7⟩ := hI
    have hcame : ∀ j, waits o j = true → L.getD j false = true := by
      intro j hj
      unfold waits at hj
      obtain ⟨e, he, hb⟩ := List.any_eq_true.1 hj
      simp only [Bool.and_eq_true, beq_iff_eq] at hb
      have := hdep e (by simpa using he) hb.2
      rw [hb.1] at this
      exact this
    have hs := stepsS_at l 0 hsteps i o (by simpa using ho)
    rw [Nat.zero_add] at hs
    replace hs := hs L a' w' ⟨h1, hun, h2, h3, h5, fun j o' d hj hd hw => h6 j o' d hj hd (hcame j hw), hcame, h7⟩ hJ0
    unfold wpOp
    simp only [ho]
    rcases hs with ⟨hw, hs⟩ | ⟨hw, hv, hJ⟩
    · rw [if_pos hw]
      exact .inl (Oper.wp_mono (fun a'' w'' ⟨v, ha, hG, hv, hJ⟩ => by subst ha; exact ⟨inv_stepN (by simpa using hap) hsz' ho hun hcame hI' hG hv trivial, hJ⟩) hs)
    · rw [if_neg (by rw [hw]; exact Bool.false_ne_true)]
      exact ⟨inv_stepN (by simpa using hap) hsz' ho hun hcame hI' (hGr w') hv trivial, hJ⟩
end

end Go.Proofs.Ytcndihekpdebhaa.Rel
/- Job: the document's Held of jobs, as it runs. -/
namespace Go.Proofs.Ytcndihekpdebhaa.Job
set_option maxRecDepth 100000
open Go.RowKit
open Go.Sort
open Kit
open Rel (slot)
open Tre (Lst inI lst_keep lst_take lst_at lst_new lst_none below_drewN' run_ld2)
set_option linter.unusedVariables false
variable {w w' : World}

def boxV (x : Jv) (a b : Int) : Jv := ⟨{ x.t with start := a, wall := b }, x.a, x.n, x.c⟩
def heldV (x : Jv) : Jv := boxV x (Prf.held x.t.start 1125899906842624) (Prf.held x.t.wall 1125899906842624)
def heldJ (l : List Jv) : List Jv := (l.take 24).map heldV
theorem held_take {l : List Jv} {k : Nat} {x : Jv} (h : l[k]? = some x) (hk : k < 24) : heldJ (l.take (k + 1)) = heldJ (l.take k) ++ [heldV x] := by
  obtain ⟨h1, e⟩ := List.getElem?_eq_some_iff.1 h
  unfold heldJ
  rw [List.take_take, List.take_take, show min 24 (k + 1) = k + 1 by omega, show min 24 k = k by omega, List.take_succ_eq_append_getElem h1, e, List.map_append]; rfl
theorem run_st_t {a : Addr} {u : Value} {x : Int} (h : w.cell? a = some u) (hf : w.frozen? a = false) : (Instr.storeAt 3 (.pointer (some a)) (.int .i64 x)).run Try.prog w = .ok () (w.setCell a (.int .i64 x)) := by
  simp [go_sem, h, hf]
/-- The box, as far as the region has come. -/
def JH (W : World) (x : Jv) (hs hw : Int) (L : Array Bool) (f : Tmp → Value) (w : World) : Prop :=
  Below W.heap.size W w ∧ Arr.Blk w W.heap.size 40 (encJ (boxV x (if L.getD 7 false = true then hs else x.t.start) (if L.getD 9 false = true then hw else x.t.wall)))
variable {W : World} {x : Jv} {hs hw : Int} {L : Array Bool} {f f' : Tmp → Value}
theorem jh_start {m : Nat} (hk : Arr.Blk w W.heap.size 40 (encJ x)) (hb : Below W.heap.size W w) : JH W x hs hw (Array.replicate m false) f w.drew := by
  have h : ∀ i : Nat, (Array.replicate m false).getD i false = false := by
    intro i
    by_cases hi : i < m <;> simp [hi]
  unfold JH
  rw [h, h]
  exact ⟨below_keep hb (below_drew _), by unfold Arr.Blk at *; exact hk⟩
theorem jh_gob {k : Nat} (h7 : k ≠ 7) (h9 : k ≠ 9) (h : JH W x hs hw L f w) (hb : Below w.heap.size w w') : JH W x hs hw (L.setIfInBounds k true) f' w' := by
  unfold JH
  rw [Rel.set_ne h7, Rel.set_ne h9]
  exact ⟨below_keep h.1 hb, Arr.blk_below h.2 hb (Arr.blk_lt h.2)⟩
theorem jh_go {k : Nat} (h7 : k ≠ 7) (h9 : k ≠ 9) (h : JH W x hs hw L f w) : JH W x hs hw (L.setIfInBounds k true) f' w := jh_gob h7 h9 h (Below.refl _ _)
theorem jh_startC (h : JH W x hs hw L f w) (hl : L.getD 7 false = false) : w.cell? ⟨W.heap.size, 8, none⟩ = some (.int .i64 x.t.start) := by
  have := Arr.blk_cell h.2 8
  rw [hl] at this
  exact this
theorem jh_wallC (h : JH W x hs hw L f w) (hl : L.getD 9 false = false) : w.cell? ⟨W.heap.size, 3, none⟩ = some (.int .i64 x.t.wall) := by
  have := Arr.blk_cell h.2 3
  rw [hl] at this
  exact this
theorem jh_st1 {m : Nat} (h : JH W x hs hw L f w) (hm : L.size = m) (h7 : 7 < m) :
    (Instr.storeAt 3 (.pointer (some ⟨W.heap.size, 8, none⟩)) (.int .i64 hs)).run Try.prog w = .ok () (w.setCell ⟨W.heap.size, 8, none⟩ (.int .i64 hs)) ∧ JH W x hs hw (L.setIfInBounds 7 true) f' (w.setCell ⟨W.heap.size, 8, none⟩ (.int .i64 hs)) := by
  refine ⟨run_st_t (Arr.blk_cell h.2 8) (Arr.blk_frozen h.2 8), Arr.below_set h.1 (Nat.le_refl _) _ _, ?_⟩
  rw [Rel.set_eq hm h7, Rel.set_ne (by decide)]
  exact Arr.blk_set h.2 8 (.int .i64 hs)
theorem jh_st2 {m : Nat} (h : JH W x hs hw L f w) (hm : L.size = m) (h9 : 9 < m) :
    (Instr.storeAt 3 (.pointer (some ⟨W.heap.size, 3, none⟩)) (.int .i64 hw)).run Try.prog w = .ok () (w.setCell ⟨W.heap.size, 3, none⟩ (.int .i64 hw)) ∧ JH W x hs hw (L.setIfInBounds 9 true) f' (w.setCell ⟨W.heap.size, 3, none⟩ (.int .i64 hw)) := by
  refine ⟨run_st_t (Arr.blk_cell h.2 3) (Arr.blk_frozen h.2 3), Arr.below_set h.1 (Nat.le_refl _) _ _, ?_⟩
  rw [Rel.set_eq hm h9, Rel.set_ne (by decide)]
  exact Arr.blk_set h.2 3 (.int .i64 hw)
theorem jh_end (h : JH W x hs hw (Array.replicate 10 true) f w) : Below W.heap.size W w ∧ Arr.Blk w W.heap.size 40 (encJ (boxV x hs hw)) := h

set_option maxHeartbeats 8000000 in
theorem rheldJ_any (W : World) (a1 : Option Addr) (n c1 : Nat) (l : List Jv) (h : Jobs W a1 n c1 l) :
    Calls Try.prog 6 #[.slice a1 n c1] W fun e W' => ∃ v, e = .returned v ∧ OwJ W' W.heap.size v (heldJ l) ∧ Below W.heap.size W W' := by
  have hm1 : n ≤ 9223372036854775807 := by have := h.cap; have := h.max; unfold maxLen at this; omega
  have HL := Lib.hid (And.intro h h.len)
  have HEm := Lib.hid (And.intro (own_emptyJ W W.heap.size (Nat.le_refl _)) (below_alloc W (.cells #[] 40)))
  clear h
  go_enter Try.func6, Try.ntmps6
  go_wp2_with fail
  go_loopw [3, 4] (fun v i wr => ∃ k : Nat, k ≤ n ∧ k ≤ 24 ∧ i = .int .i64 (k : Nat) ∧ OwJ wr W.heap.size v (heldJ (l.take k)) ∧ Below W.heap.size W wr) (fun _ i _ => n - (intOf i).toNat)
  case atStart => exact ⟨0, Nat.zero_le _, by omega, rfl, HEm.out.1, HEm.out.2⟩
  case round =>
    obtain ⟨k, hk, hk24, rfl, hown, hb⟩ := hrel
    have HO := Lib.hid (And.intro hown hb)
    clear hown hb
    by_cases hlt : k < n ∧ k < 24
    · obtain ⟨hlt, hl24⟩ := hlt
      have hlti : (k : Int) < (n : Int) := by omega
      have hl2i : (k : Int) < 24 := by omega
      have hkl : k < l.length := by rw [HL.out.2]; exact hlt
      obtain ⟨x, hx⟩ : ∃ x, l[k]? = some x := ⟨_, List.getElem?_eq_getElem hkl⟩
      obtain ⟨b, o, rfl⟩ := lst_at HL.out.1 (by omega)
      have HRx := Lib.hid (job_range (lst_keep encJ_len HL.out.1 HO.out.2) hx)
      have HN := Lib.hid (held_take hx hl24)
      have hlo : (heldJ (l.take k)).length = k := by unfold heldJ; rw [List.length_map, List.length_take, List.length_take]; omega
      obtain ⟨out, hout⟩ : ∃ v, v = heldJ (l.take k) := ⟨_, rfl⟩
      rw [← hout] at HN HO hlo
      clear hout hx hkl
      go_upto_region 6 with (first | (refine wpList_load_mid rfl 40 (.tmp 19) rfl b (o + k * 12) rfl (encJ x) _ HRx.out Try.underlying40 rfl info_job12 ?_) | (refine Arr.wpList_store_blk rfl 40 (.tmp 5) (.tmp 20) rfl wr.heap.size (encJ x) rfl rfl zeroJ 40 (Arr.blk_new _ _ _ zeroJ rfl) info_job12 rfl (one12L' x) wr.heap.size (Nat.le_refl _) ?_; intro w2 hblk hbel; have HW2 := Lib.hid (And.intro hblk ((below_alloc wr (.cells zeroJ.toArray 40)).trans hbel)); clear hbel hblk) | fail)
      refine Rel.wp_region_seen (G := Rel.Gt) (Rel.tab [.is (.pointer (some ⟨wr.heap.size, 8, none⟩)), .is (.int .i64 x.t.start), .is (.int .i64 (Prf.held x.t.start 1125899906842624)), .is (.pointer (some ⟨wr.heap.size, 3, none⟩)), .is (.int .i64 x.t.wall), .is (.int .i64 (Prf.held x.t.wall 1125899906842624)), .is (.pointer (some ⟨wr.heap.size, 8, none⟩)), Rel.Kd.any, .is (.pointer (some ⟨wr.heap.size, 3, none⟩)), Rel.Kd.any]) (JH wr x (Prf.held x.t.start 1125899906842624) (Prf.held x.t.wall 1125899906842624)) (by kernel_rfl) (by kernel_rfl) (by kernel_rfl) (by kernel_rfl) (fun w => trivial) (jh_start HW2.out.1 HW2.out.2) ?_ ?_
      · refine ⟨?_, ?_, ?_, ?_, ?_, ?_, ?_, ?_, ?_, ?_, trivial⟩
        · intro L a w c j
          refine .inl ⟨Rel.wanted_free (by kernel_rfl) _, ?_⟩
          exact Chn.wp_fa _ _ _ rfl (c.old 5 (v := .pointer (some ⟨wr.heap.size, 0, none⟩)) (by kernel_rfl) (by kernel_rfl)) (by simp [go_sem]) ⟨_, rfl, trivial, rfl, (jh_go (k := 0) (by decide) (by decide) j)⟩
        · intro L a w c j
          refine .inl ⟨Rel.wanted_free (by kernel_rfl) _, ?_⟩
          exact Rel.wp_ld _ _ rfl (c.get 0 21 (by kernel_rfl)) (run_ld2 (jh_startC j (c.later 7 (by kernel_rfl)))) ⟨_, rfl, trivial, rfl, (jh_go (k := 1) (by decide) (by decide) j)⟩
        · intro L a w c j
          refine .inl ⟨Rel.wanted_free (by kernel_rfl) _, ?_⟩
          refine Rel.wp_cl _ _ _ rfl Try.func23 (by kernel_rfl) ?_
          show Calls _ _ #[Rel.slot a 22, .int .i64 1125899906842624] w _
          rw [show Rel.slot a 22 = .int .i64 x.t.start from (c.get 1 22 (by kernel_rfl))]
          refine (Prf.rheld_any _ _ w).mono ?_
          rintro e w' ⟨rfl, hb⟩
          exact ⟨_, rfl, _, rfl, trivial, rfl, jh_gob (k := 2) (by decide) (by decide) j hb⟩
        · intro L a w c j
          refine .inl ⟨Rel.wanted_free (by kernel_rfl) _, ?_⟩
          exact Chn.wp_fa _ _ _ rfl (c.old 5 (v := .pointer (some ⟨wr.heap.size, 0, none⟩)) (by kernel_rfl) (by kernel_rfl)) (by simp [go_sem]) ⟨_, rfl, trivial, rfl, (jh_go (k := 3) (by decide) (by decide) j)⟩
        · intro L a w c j
          refine .inl ⟨Rel.wanted_free (by kernel_rfl) _, ?_⟩
          exact Rel.wp_ld _ _ rfl (c.get 3 24 (by kernel_rfl)) (run_ld2 (jh_wallC j (c.later 9 (by kernel_rfl)))) ⟨_, rfl, trivial, rfl, (jh_go (k := 4) (by decide) (by decide) j)⟩
        · intro L a w c j
          refine .inl ⟨Rel.wanted_free (by kernel_rfl) _, ?_⟩
          refine Rel.wp_cl _ _ _ rfl Try.func23 (by kernel_rfl) ?_
          show Calls _ _ #[Rel.slot a 25, .int .i64 1125899906842624] w _
          rw [show Rel.slot a 25 = .int .i64 x.t.wall from (c.get 4 25 (by kernel_rfl))]
          refine (Prf.rheld_any _ _ w).mono ?_
          rintro e w' ⟨rfl, hb⟩
          exact ⟨_, rfl, _, rfl, trivial, rfl, jh_gob (k := 5) (by decide) (by decide) j hb⟩
        · intro L a w c j
          refine .inl ⟨Rel.wanted_free (by kernel_rfl) _, ?_⟩
          exact Chn.wp_fa _ _ _ rfl (c.old 5 (v := .pointer (some ⟨wr.heap.size, 0, none⟩)) (by kernel_rfl) (by kernel_rfl)) (by simp [go_sem]) ⟨_, rfl, trivial, rfl, (jh_go (k := 6) (by decide) (by decide) j)⟩
        · intro L a w c j
          refine .inl ⟨Rel.wanted_free (by kernel_rfl) _, ?_⟩
          obtain ⟨hr, hj⟩ := jh_st1 j c.size (of_decide_eq_true (by kernel_rfl))
          exact Chn.wp_st _ _ _ rfl (c.get 6 27 (by kernel_rfl)) (c.get 2 23 (by kernel_rfl)) hr ⟨_, rfl, trivial, trivial, hj⟩
        · intro L a w c j
          refine .inl ⟨Rel.wanted_free (by kernel_rfl) _, ?_⟩
          exact Chn.wp_fa _ _ _ rfl (c.old 5 (v := .pointer (some ⟨wr.heap.size, 0, none⟩)) (by kernel_rfl) (by kernel_rfl)) (by simp [go_sem]) ⟨_, rfl, trivial, rfl, (jh_go (k := 8) (by decide) (by decide) j)⟩
        · intro L a w c j
          refine .inl ⟨Rel.wanted_free (by kernel_rfl) _, ?_⟩
          obtain ⟨hr, hj⟩ := jh_st2 j c.size (of_decide_eq_true (by kernel_rfl))
          exact Chn.wp_st _ _ _ rfl (c.get 8 28 (by kernel_rfl)) (c.get 5 26 (by kernel_rfl)) hr ⟨_, rfl, trivial, trivial, hj⟩
      intro a w9 hbase hroom hdef hJ hV
      have hE := jh_end hJ
      clear hJ
      rw [Chn.act_puts [21, 22, 23, 24, 25, 26, 27, 28] hbase hroom hdef (by kernel_rfl)]
      clear hbase hroom hdef hV
      simp only [List.foldl_cons, List.foldl_nil]
      generalize Rel.slot a 21 = u21 at *
      generalize Rel.slot a 22 = u22 at *
      generalize Rel.slot a 23 = u23 at *
      generalize Rel.slot a 24 = u24 at *
      generalize Rel.slot a 25 = u25 at *
      generalize Rel.slot a 26 = u26 at *
      generalize Rel.slot a 27 = u27 at *
      generalize Rel.slot a 28 = u28 at *
      simp only [Act.put, List.setIfInBounds_toArray, List.set_cons_succ, List.set_cons_zero]
      obtain ⟨y, hy⟩ : ∃ y, y = heldV x := ⟨_, rfl⟩
      have hE2 : Arr.Blk w9 wr.heap.size 40 (encJ y) := by rw [hy]; exact hE.2
      rw [← hy] at HN
      have HE := Lib.hid (below_keep HO.out.2 hE.1)
      have hown9 := Nest.own_on HO.out.1 hE.1
      clear hy hE HRx HW2
      obtain ⟨⟨y0, y1, y2, y3, y4, y5, y6, y7, y8, y9, y10, yd⟩, ya, yn, yc⟩ := y
      have p0 := Arr.blk_cell hE2 0
      have p1 := Arr.blk_cell hE2 1
      have p2 := Arr.blk_cell hE2 2
      have p3 := Arr.blk_cell hE2 3
      have p4 := Arr.blk_cell hE2 4
      have p5 := Arr.blk_cell hE2 5
      have p6 := Arr.blk_cell hE2 6
      have p7 := Arr.blk_cell hE2 7
      have p8 := Arr.blk_cell hE2 8
      have p9 := Arr.blk_cell hE2 9
      have p10 := Arr.blk_cell hE2 10
      have p11 := Arr.blk_cell hE2 11
      simp only [encJ, List.getElem?_cons_zero, List.getElem?_cons_succ] at p0 p1 p2 p3 p4 p5 p6 p7 p8 p9 p10 p11
      have HA1 := Lib.hid (owns_alloc hown9 (.cells #[.int .i64 y0, .int .i64 y1, .int .i64 y2, .int .i64 y3, .int .i64 y4, .int .i64 y5, .int .i64 y6, .int .i64 y7, .int .i64 y8, .int .i64 y9, .int .i64 y10, .slice ya yn yc] 40))
      have HA2 := Lib.hid (lst_new encJ_len w9 [(⟨⟨y0, y1, y2, y3, y4, y5, y6, y7, y8, y9, y10, yd⟩, ya, yn, yc⟩ : Jv)] #[.int .i64 y0, .int .i64 y1, .int .i64 y2, .int .i64 y3, .int .i64 y4, .int .i64 y5, .int .i64 y6, .int .i64 y7, .int .i64 y8, .int .i64 y9, .int .i64 y10, .slice ya yn yc] 40 _ 1 rfl rfl rfl (by omega)).row
      have HA3 := Lib.hid (HE.out.alloc HE.out.size (.cells #[.int .i64 y0, .int .i64 y1, .int .i64 y2, .int .i64 y3, .int .i64 y4, .int .i64 y5, .int .i64 y6, .int .i64 y7, .int .i64 y8, .int .i64 y9, .int .i64 y10, .slice ya yn yc] 40))
      have HDL := Lib.hid (show out.length + 1 ≤ maxLen ∧ (out.length + 1) * 112 ≤ 140737488355328 by rw [hlo]; unfold maxLen; omega)
      clear hE2 hown9 hlo
      go_wp2_with (first | (at_builtin; refine Two.append_apart encJ_len (by omega) encJ_one rfl (.tmp 29) (.tmp 31) 22 40 rfl Try.underlying22 (.agg zeroJ.toArray) 112 info_jobs rfl W.heap.size _ out rfl HA1.out (some ⟨w9.heap.size, 0, none⟩) 1 1 [(⟨⟨y0, y1, y2, y3, y4, y5, y6, y7, y8, y9, y10, yd⟩, ya, yn, yc⟩ : Jv)] rfl rfl HA2.out (fun h => by cases h) HDL.out.1 HDL.out.2 HA3.out.size ?_; intro v8 w8 ho8 hg8 hx8; have HO8 := Lib.hid (And.intro ho8 (HA3.out.trans (Two.below_grown HA1.out hg8 HA3.out.size))); clear ho8 hg8 hx8) | fail)
      go_roundw
      case rel => exact ⟨k + 1, by omega, by omega, by go_num, by rw [HN.out]; exact HO8.out.1, HO8.out.2⟩
      case measure => simp [intOf]; omega
    · have hor : ¬ (k : Int) < (n : Int) ∨ ((k : Int) < (n : Int) ∧ ¬ (k : Int) < 24) := by omega
      have HA := Lib.hid (show heldJ (l.take k) = heldJ l by
        unfold heldJ
        rw [List.take_take]
        rcases Nat.lt_or_ge k 24 with h | h
        · obtain rfl : k = n := by omega
          rw [Nat.min_eq_right (by omega), List.take_of_length_le (by rw [HL.out.2]; exact Nat.le_refl _), List.take_of_length_le (by rw [HL.out.2]; omega)]
        · obtain rfl : k = 24 := by omega
          rfl)
      clear hlt
      rcases hor with ho | ⟨ho, ho2⟩
      all_goals
        go_wp2_with fail
        go_ret
        exact ⟨_, rfl, by rw [← HA.out]; exact HO.out.1, HO.out.2⟩
end Go.Proofs.Ytcndihekpdebhaa.Job
/- Appends within one another, of which the innermost list is made in the region itself: append(append(append([]T{}, x..), y..), z..). -/
namespace Go.Proofs.Ytcndihekpdebhaa.Nest
open Go.RowKit
open Go.Sort
open Kit
open Rel (slot)
set_option linter.unusedVariables false
variable {α : Type} {enc : α → List Value} {size : Nat} {T : TypeId} {w0 w w' : World} {vd : Value} {p1 p2 p3 : List α}

/-- The list is nothing until operation i0 makes it, in slot d0. -/
abbrev JE (n : At) (i0 d0 : Nat) (enc : α → List Value) (size : Nat) (T : TypeId) (w0 : World) (vd : Value) (p1 p2 p3 : List α) (L : Array Bool) (s : Nat → Value) (w : World) : Prop :=
  J n enc size T w0 (cond (L.getD i0 false) (s d0) (.slice none 0 0)) vd [] p1 p2 p3 L s w
theorem startE (n : At) (i0 d0 : Nat) (k : Nat) (s : Nat → Value) (hd : s n.da = vd) (hb : Below w0.heap.size w0 w) : JE n i0 d0 enc size T w0 vd p1 p2 p3 (Array.replicate k false) s w := by
  have e : (Array.replicate k false).getD i0 false = false := by
    by_cases h : i0 < k <;> simp [h]
  unfold JE
  rw [e]
  exact start n k s hd (owns_nil _ _ _) hb
variable {n : At} {i0 d0 : Nat} {L : Array Bool} {a : Act}
theorem onE {k d : Nat} {v : Value} (hk : k ≠ i0) (hd : d ≠ d0) (h : J n enc size T w0 (cond (L.getD i0 false) (slot a d0) (.slice none 0 0)) vd [] p1 p2 p3 (L.setIfInBounds k true) (slot (a.put (some d) v)) w') : JE n i0 d0 enc size T w0 vd p1 p2 p3 (L.setIfInBounds k true) (slot (a.put (some d) v)) w' := by
  unfold JE
  rw [Rel.set_ne hk, Rel.slot_put_ne hd]
  exact h
/-- The list is made: nothing, in memory of its own. -/
theorem empE (hs : ∀ x, (enc x).length = size) (h : JE n i0 d0 enc size T w0 vd p1 p2 p3 L (slot a) w) (hk : farB i0 n.idx = true) (hd : farB d0 n.dst = true) (ht : d0 < a.tmps.size) (hi : i0 < L.size)
    (f0 : L.getD i0 false = false) (f1 : L.getD n.i1 false = false) (f2 : L.getD n.i2 false = false) (f3 : L.getD n.i3 false = false) :
    JE n i0 d0 enc size T w0 vd p1 p2 p3 (L.setIfInBounds i0 true) (slot (a.put (some d0) (.slice (some ⟨w.heap.size, 0, none⟩) 0 0))) (w.alloc (.cells #[] T)) := by
  unfold JE at h ⊢
  rw [f0] at h
  rw [Rel.set_eq rfl hi, Rel.slot_put ht]
  simp only [farB, At.idx, At.dst, List.all_cons, List.all_nil, Bool.and_true, Bool.and_eq_true, bne_iff_ne, ne_eq] at hk hd
  obtain ⟨k1, k2, k3, k4, k5, k6, k7⟩ := hk
  obtain ⟨d1, d2, d3, d4, d5, d6, d7, d8⟩ := hd
  obtain ⟨h1, h2, h3, h4, h5, h6, h7⟩ := h
  rw [f1, f2, f3] at h2 h3 h4 h5
  have hb := below_alloc w (.cells #[] T)
  have hg : ∀ v : Value, w.grownBy (w.alloc (.cells #[] T)) v.ownBlock := fun v => ⟨hb.os, hb.tape, hb.output, hb.size, fun k hk _ => hb.block k hk⟩
  refine ⟨h1.trans (hb.mono h1.size), ?_, ?_, ?_, ?_, ?_, ?_⟩
  all_goals simp only [Rel.set_ne k1, Rel.set_ne k2, Rel.set_ne k3, Rel.set_ne k4, Rel.set_ne k5, Rel.set_ne k6, Rel.set_ne k7, Rel.slot_put_ne d1, Rel.slot_put_ne d2, Rel.slot_put_ne d3, Rel.slot_put_ne d4, Rel.slot_put_ne d5, Rel.slot_put_ne d6, Rel.slot_put_ne d7, Rel.slot_put_ne d8, f1, f2, f3]
  · show Owns enc size T _ w0.heap.size (.slice (some ⟨w.heap.size, 0, none⟩) 0 0) []
    exact ⟨by simp [flat], .inr ⟨w.heap.size, 0, _, rfl, h1.size, heap_alloc_new w _, Nat.le_refl _, by unfold maxLen; omega, by simp, by simp [flat]⟩⟩
  · exact fun hc hb' => part_grown hs (h3 hc hb') (hg _) (.inr rfl)
  · exact fun hc hb' => part_grown hs (h4 hc hb') (hg _) (.inr rfl)
  · exact fun hc hb' => part_grown hs (h5 hc hb') (hg _) (.inr rfl)
  · exact h6
  · exact h7
variable {P : Program} {t : TypeId} {z : Value} {bytes : Nat}
/-- The first append, to the list made. -/
theorem ap1E (H : Ty enc size P t T z bytes) (h : JE n i0 d0 enc size T w0 vd p1 p2 p3 L (slot a) w) (hk0 : n.i1 ≠ i0) (hd0 : n.d1 ≠ d0) (f0 : L.getD i0 false = true) (hk : farB n.i1 [n.i2, n.i3, n.m1, n.m2, n.m3, n.ia] = true) (hd : farB n.d1 [n.d2, n.d3, n.t1, n.t2, n.t3, n.da] = true) (ht : n.d1 < a.tmps.size) (hi : n.i1 < L.size)
    (f1 : L.getD n.i1 false = false) (f2 : L.getD n.i2 false = false) (f3 : L.getD n.i3 false = false) (g1 : L.getD n.m1 false = true) (ga : L.getD n.ia false = false) (h63 : ([] : List α).length + p1.length ≤ maxLen) (hby : (([] : List α).length + p1.length) * bytes ≤ 140737488355328) (ty : TypeId) :
    ∃ v9 w9, (Builtin.append_ #[t, t] ty #[slot a d0, slot a n.t1]).run P w = .ok v9 w9 ∧ JE n i0 d0 enc size T w0 vd p1 p2 p3 (L.setIfInBounds n.i1 true) (slot (a.put (some n.d1) v9)) w9 := by
  obtain ⟨v9, w9, e1, e2⟩ := ap1 H h hk hd ht hi f1 f2 f3 g1 ga h63 hby ty
  rw [f0] at e1
  exact ⟨v9, w9, e1, onE hk0 hd0 e2⟩
end Go.Proofs.Ytcndihekpdebhaa.Nest
/- Common: objects in memory, each with the blocks that are its own: what a call changes lies in these, or is new. -/
namespace Go.Proofs.Ytcndihekpdebhaa.Foot
open Go.RowKit
open Go.Sort
open Kit
set_option linter.unusedVariables false

/-- Only these blocks are changed; others may be new. -/
structure Chg (F : Nat → Prop) (w w' : World) : Prop where
  os : w'.os = w.os
  tape : w'.tape = w.tape
  output : w'.output = w.output
  size : w.heap.size ≤ w'.heap.size
  block : ∀ k, k < w.heap.size → ¬ F k → w'.heap[k]? = w.heap[k]?

/-- These blocks, and the new ones. -/
def More (F : Nat → Prop) (w w' : World) (k : Nat) : Prop := F k ∨ (w.heap.size ≤ k ∧ k < w'.heap.size)

variable {F G : Nat → Prop} {w w1 w2 w' : World}
theorem chg_refl (F : Nat → Prop) (w : World) : Chg F w w := ⟨rfl, rfl, rfl, Nat.le_refl _, fun _ _ _ => rfl⟩
theorem chg_mono (h : Chg F w w') (hf : ∀ k, k < w.heap.size → F k → G k) : Chg G w w' := ⟨h.os, h.tape, h.output, h.size, fun k hk hg => h.block k hk fun h' => hg (hf k hk h')⟩
theorem chg_trans (h : Chg F w w1) (k : Chg G w1 w2) (hg : ∀ x, G x → F x ∨ w.heap.size ≤ x) : Chg F w w2 :=
  ⟨k.os.trans h.os, k.tape.trans h.tape, k.output.trans h.output, Nat.le_trans h.size k.size, fun x hx hf => (k.block x (Nat.lt_of_lt_of_le hx h.size) fun h' => by
    rcases hg x h' with h1 | h1
    · exact hf h1
    · omega).trans (h.block x hx hf)⟩
theorem chg_more (h : Chg F w w1) (k : Chg (More F w w1) w1 w2) : Chg F w w2 := chg_trans h k fun _ hx => hx.imp id fun h => h.1
theorem chg_alloc (h : Chg F w w1) (o : Obj) : Chg F w (w1.alloc o) :=
  ⟨h.os, h.tape, h.output, by have := h.size; simp; omega, fun k hk hf => (Below.heap_alloc w1 o k (Nat.lt_of_lt_of_le hk h.size)).trans (h.block k hk hf)⟩
theorem chg_drew (h : Chg F w w1) : Chg F w w1.drew := ⟨h.os, h.tape, h.output, h.size, h.block⟩
theorem chg_set (h : Chg F w w1) {b : Nat} (hb : F b ∨ w.heap.size ≤ b) (i : Nat) (v : Value) : Chg F w (w1.setCell ⟨b, i, none⟩ v) :=
  ⟨h.os, h.tape, h.output, by rw [setCell_size]; exact h.size, fun k hk hf => (Below.heap_setCell w1 _ v k fun e => by
    subst e
    rcases hb with h1 | h1
    · exact hf h1
    · omega).trans (h.block k hk hf)⟩
theorem chg_row (h : Chg F w w1) {b : Nat} (hb : F b ∨ w.heap.size ≤ b) (ds : Array Value) : Chg F w (w1.setRow b ds) :=
  ⟨h.os, h.tape, h.output, by rw [setRow_size]; exact h.size, fun k hk hf => (setRow_other w1 b k ds fun e => by
    subst e
    rcases hb with h1 | h1
    · exact hf h1
    · omega).trans (h.block k hk hf)⟩
theorem chg_grown (h : Chg F w w1) {row : Option Nat} (hg : w1.grownBy w2 row) (hr : ∀ k, row = some k → F k ∨ w.heap.size ≤ k) : Chg F w w2 :=
  chg_trans h (G := fun k => some k = row) ⟨hg.os, hg.tape, hg.output, hg.size, fun k hk hn => hg.block k hk hn⟩ fun x hx => hr x hx.symm
theorem chg_below (h : Chg F w w') {B : Nat} (hF : ∀ k, F k → B ≤ k) (hB : B ≤ w.heap.size) : Below B w w' := ⟨h.os, h.tape, h.output, h.size, fun k hk => h.block k (by omega) fun h' => by have := hF k h'; omega⟩
theorem below_chg {B : Nat} (h : Below B w w') : Chg (fun k => B ≤ k) w w' := ⟨h.os, h.tape, h.output, h.size, fun k _ hf => h.block k (by omega)⟩
/-- What makes memory alone changes nothing. -/
theorem new_chg (h : Below w.heap.size w w') (F : Nat → Prop) : Chg F w w' := ⟨h.os, h.tape, h.output, h.size, fun k hk _ => h.block k hk⟩

theorem more_old {k : Nat} (h : F k) : More F w w' k := .inl h
theorem more_new {k : Nat} (h1 : w.heap.size ≤ k) (h2 : k < w'.heap.size) : More F w w' k := .inr ⟨h1, h2⟩
theorem more_up (h : w1.heap.size ≤ w2.heap.size) {k : Nat} (hk : More F w w1 k) : More F w w2 k := hk.imp id fun h' => ⟨h'.1, by omega⟩
theorem more_more (h : w.heap.size ≤ w1.heap.size) (h2 : w1.heap.size ≤ w2.heap.size) {k : Nat} (hk : More (More F w w1) w1 w2 k) : More F w w2 k := by
  rcases hk with (hk | hk) | hk
  · exact .inl hk
  · exact .inr ⟨hk.1, by omega⟩
  · exact .inr ⟨by omega, hk.2⟩
theorem more_lt (hF : ∀ k, F k → k < w.heap.size) (h : w.heap.size ≤ w'.heap.size) {k : Nat} (hk : More F w w' k) : k < w'.heap.size := by
  rcases hk with hk | hk
  · have := hF k hk; omega
  · exact hk.2
theorem more_ge {B : Nat} (hF : ∀ k, F k → B ≤ k) (h : B ≤ w.heap.size) {k : Nat} (hk : More F w w' k) : B ≤ k := by
  rcases hk with hk | hk
  · exact hF k hk
  · omega
/-- Two that have nothing in common, and the one grows. -/
theorem more_apart (hG : ∀ k, G k → k < w.heap.size) (ha : ∀ k, F k → ¬ G k) {k : Nat} (hk : More F w w' k) : ¬ G k := by
  intro hg
  rcases hk with hk | hk
  · exact ha k hk hg
  · have := hG k hg; omega

/-! ### What stays -/

theorem cell_chg (h : Chg F w w') {b o : Nat} {v : Value} (hc : w.cell? ⟨b, o, none⟩ = some v) (hb : ¬ F b) : w'.cell? ⟨b, o, none⟩ = some v := by
  rw [World.cell?_of_block (w := w) (a := ⟨b, o, none⟩) (h.block b (World.block_lt_of_cell? w _ hc) hb)]; exact hc
theorem blk_chg (h : Chg F w w') {b : Nat} {t : TypeId} {cs : List Value} (hc : Arr.Blk w b t cs) (hb : ¬ F b) : Arr.Blk w' b t cs := by
  unfold Arr.Blk
  rw [h.block b (Arr.blk_lt hc) hb]; exact hc
theorem own_chg {α : Type} {enc : α → List Value} {size : Nat} {e : TypeId} {base : Nat} {v : Value} {l : List α} (h : Chg F w w') (ho : Owns enc size e w base v l) (hb : ∀ g, v.ownBlock = some g → ¬ F g) : Owns enc size e w' base v l := by
  refine ⟨ho.1, ?_⟩
  rcases ho.2 with hn | ⟨g, cap, cur, rfl, h1, hg, rest⟩
  · exact .inl hn
  · refine .inr ⟨g, cap, cur, rfl, h1, ?_, rest⟩
    rw [h.block g (Array.getElem?_eq_some_iff.1 hg).1 (hb g rfl)]
    exact hg
theorem row_chg {α : Type} {enc : α → List Value} {size : Nat} (hs : ∀ x, (enc x).length = size) {b off : Nat} {l : List α} (h : Chg F w w') (hr : Row enc size w (some ⟨b, off, none⟩) l) (hb : ¬ F b) : Row enc size w' (some ⟨b, off, none⟩) l := by
  rcases hr with hr | ⟨b', off', h1, h2⟩
  · exact .inl hr
  · injection h1 with h1
    injection h1 with h1 h3
    subst h1 h3
    refine .inr ⟨b, off, rfl, fun j hj i hi => ?_⟩
    have e := h2 j hj i hi
    rw [List.getElem?_eq_getElem (by rw [hs]; exact hi)] at e ⊢
    exact cell_chg h e hb

/-! ### Blocks of unlike elements are unlike -/

theorem own_type {α : Type} {enc : α → List Value} {size : Nat} {e : TypeId} {base : Nat} {v : Value} {l : List α} (ho : Owns enc size e w base v l) {g : Nat} (hg : v.ownBlock = some g) : ∃ cur, w.heap[g]? = some (.cells cur e (0, 0)) := by
  rcases ho.2 with ⟨rfl, _⟩ | ⟨g', cap, cur, rfl, _, h1, _⟩
  · cases hg
  · injection hg with hg
    subst hg
    exact ⟨cur, h1⟩
theorem type_ne {b g : Nat} {t e : TypeId} {cs cur : Array Value} (h1 : w.heap[b]? = some (.cells cs t (0, 0))) (h2 : w.heap[g]? = some (.cells cur e (0, 0))) (hne : t ≠ e) : b ≠ g := by
  intro he
  subst he
  rw [h1] at h2
  injection h2 with h2
  injection h2 with _ h3 _
  exact hne h3
theorem own_set_far {α : Type} {enc : α → List Value} {size : Nat} {e : TypeId} {base : Nat} {v : Value} {l : List α} (ho : Owns enc size e w base v l) {b : Nat} (hb : ∀ g, v.ownBlock = some g → g ≠ b) (i : Nat) (u : Value) : Owns enc size e (w.setCell ⟨b, i, none⟩ u) base v l :=
  own_chg (chg_set (F := fun k => k = b) (chg_refl _ w) (.inl rfl) i u) ho hb

theorem owns_le {α : Type} {enc : α → List Value} {size : Nat} {e : TypeId} {base base' : Nat} {v : Value} {l : List α} (h : Owns enc size e w base v l) (hb : base' ≤ base) : Owns enc size e w base' v l :=
  ⟨h.1, h.2.imp id fun ⟨g, cap, cur, h1, h2, h3⟩ => ⟨g, cap, cur, h1, by omega, h3⟩⟩
/-- All these blocks hold elements of a type that is not e. -/
def Typed (G : Nat → Prop) (w : World) (e : TypeId) : Prop := ∀ k, G k → ∃ cur t, w.heap[k]? = some (.cells cur t (0, 0)) ∧ t ≠ e
theorem own_typed {α : Type} {enc : α → List Value} {size : Nat} {e : TypeId} {base : Nat} {v : Value} {l : List α} (ho : Owns enc size e w base v l) (hc : Chg G w w') (ht : Typed G w e) : Owns enc size e w' base v l :=
  own_chg hc ho fun g hg hG => by
    obtain ⟨cur, t, h1, h2⟩ := ht g hG
    obtain ⟨cur', h3⟩ := own_type ho hg
    exact type_ne h1 h3 h2 rfl
theorem blk_typed {b : Nat} {t : TypeId} {cs : List Value} (h : Arr.Blk w b t cs) (hc : Chg G w w') (ht : Typed G w t) : Arr.Blk w' b t cs :=
  blk_chg hc h fun hG => by
    obtain ⟨cur, t', h1, h2⟩ := ht b hG
    exact type_ne h1 h h2 rfl
theorem typed_one {b : Nat} {t e : TypeId} {cs : Array Value} (h : w.heap[b]? = some (.cells cs t (0, 0))) (hne : t ≠ e) : Typed (fun k => k = b) w e := fun k hk => by subst hk; exact ⟨_, _, h, hne⟩
theorem typed_own {α : Type} {enc : α → List Value} {size : Nat} {t e : TypeId} {base : Nat} {v : Value} {l : List α} (ho : Owns enc size t w base v l) (hne : t ≠ e) : Typed (fun k => some k = v.ownBlock) w e := fun k hk => by
  obtain ⟨cur, h⟩ := own_type ho hk.symm
  exact ⟨_, _, h, hne⟩
theorem grown_chg {row : Option Nat} (h : w.grownBy w' row) : Chg (fun k => some k = row) w w' := ⟨h.os, h.tape, h.output, h.size, fun k hk hn => h.block k hk hn⟩
theorem set_chg (w : World) (b i : Nat) (v : Value) : Chg (fun k => k = b) w (w.setCell ⟨b, i, none⟩ v) := chg_set (F := fun k => k = b) (chg_refl _ w) (.inl rfl) i v

end Go.Proofs.Ytcndihekpdebhaa.Foot
/- Order: an element put in among others by its place (what stands ahead of the document's Order, and of Due). -/
namespace Go.Proofs.Ytcndihekpdebhaa.Ord
set_option maxRecDepth 100000
open Go.RowKit
open Go.Sort
open Kit
open Tre (Lst inI lst_keep lst_take lst_at lst_new lst_none IntsL int_cell encI encI_len encI_one OwI own_chg' info_i run_ld2 below_drewN' run_bs_i)
open Job (Jb Jv Jobs encJ encJ_len encJ_one job_cell)
set_option linter.unusedVariables false
variable {w w' : World}

theorem und_i : Try.prog.underlying 34 = some (.slice 3) := Try.underlying34
theorem tyI : Nest.Ty encI 1 Try.prog 34 3 (.int .i64 0) 8 := ⟨encI_len, by omega, encI_one, und_i, info_i, rfl⟩
theorem run_bs0_i (w : World) : (Instr.buildSlice 34 0 #[]).run Try.prog w = .ok (.slice (some ⟨w.heap.size, 0, none⟩) 0 0) (w.alloc (.cells #[] 3)) := by
  simp [go_sem]
theorem run_to_i {g K M cp : Nat} (h1 : K ≤ M) (h2 : M ≤ cp) (w : World) : (Instr.sliceAt 34 (.slice (some ⟨g, 0, none⟩) M cp) none (some (.int .i64 (K : Nat))) none).run Try.prog w = .ok (.slice (some ⟨g, 0, none⟩) K cp) w := by
  simp [go_sem]
  intro h; omega
theorem run_fr_i {g K M cp : Nat} (h1 : K ≤ M) (w : World) : (Instr.sliceAt 34 (.slice (some ⟨g, 0, none⟩) M cp) (some (.int .i64 (K : Nat))) none none).run Try.prog w = .ok (.slice (some ⟨g, if cp = K then 0 else K, none⟩) (M - K) (cp - K)) w := by
  have h2 : K ≤ M := h1
  by_cases h : cp = K
  · simp [go_sem, h1, h]
  · simp [go_sem, h1, h]
abbrev toI (l : List Nat) : List Int := l.map fun (n : Nat) => (n : Int)
/-- What an own list of numbers is. -/
theorem own_is {base : Nat} {v : Value} {l : List Int} (h : OwI w base v l) (hg : ∃ g M c, v = .slice (some ⟨g, 0, none⟩) M c) : ∃ g c, v = .slice (some ⟨g, 0, none⟩) l.length c ∧ l.length ≤ c ∧ c ≤ maxLen ∧ base ≤ g ∧ g < w.heap.size ∧ Kit.Row encI 1 w (some ⟨g, 0, none⟩) l := by
  obtain ⟨a, c, e, h1, h2, h3, h4⟩ := owns_row encI_len h
  obtain ⟨g, M, c', e'⟩ := hg
  rw [e] at e'
  injection e' with e1 e2 e3
  subst e1
  exact ⟨g, c, e, h1, h2, (World.ownsRow.lt h g (by rw [e]; rfl)).1, (World.ownsRow.lt h g (by rw [e]; rfl)).2, h4⟩
theorem part_to {g cp K : Nat} {l : List Int} (hr : Kit.Row encI 1 w (some ⟨g, 0, none⟩) l) (hK : K ≤ l.length) (hg : g < w.heap.size) (w' : World) (hb : Below w.heap.size w w') (v : Value) (hv : ∀ b, v.ownBlock = some b → b < w'.heap.size ∧ w.heap.size ≤ b) : Nest.Part encI 1 w' v (.slice (some ⟨g, 0, none⟩) K cp) (l.take K) := by
  have := Nest.part_old (c := cp) encI_len (row_take hr K) (fun e => by cases e) (fun q hq _ => by cases hq; exact hg) hb v hv
  rwa [List.length_take, Nat.min_eq_left hK] at this
theorem part_fr {g cp K : Nat} {l : List Int} (hr : Kit.Row encI 1 w (some ⟨g, 0, none⟩) l) (hK : K ≤ l.length) (hc : l.length ≤ cp) (hg : g < w.heap.size) (w' : World) (hb : Below w.heap.size w w') (v : Value) (hv : ∀ b, v.ownBlock = some b → b < w'.heap.size ∧ w.heap.size ≤ b) : Nest.Part encI 1 w' v (.slice (some ⟨g, if cp = K then 0 else K, none⟩) (l.length - K) (cp - K)) (l.drop K) := by
  have h : Kit.Row encI 1 w (some ⟨g, if cp = K then 0 else K, none⟩) (l.drop K) := by
    by_cases e : cp = K
    · exact .inl (List.drop_eq_nil_of_le (by omega))
    · rw [if_neg e]
      have := row_drop hr K
      rwa [Nat.mul_one, Nat.zero_add] at this
  have := Nest.part_old (c := cp - K) encI_len h (fun e => by cases e) (fun q hq _ => by cases hq; exact hg) hb v hv
  rwa [List.length_drop] at this
theorem toI_ins (l : List Jb) (n : Nat) (out : List Nat) : ([] ++ (toI out).take (place l n out out.length) ++ [(n : Int)] ++ (toI out).drop (place l n out out.length)) = toI (insN l n out) := by
  unfold toI insN
  simp [List.map_append, List.map_take, List.map_drop]
theorem own_some {base : Nat} {v : Value} {l : List Int} (h : OwI w base v l) (hl : 0 < l.length) : ∃ g M c, v = .slice (some ⟨g, 0, none⟩) M c := by
  rcases h with ⟨h1, h2 | ⟨g, cap, cur, e1, e2, e3, e4, e5, e6, e7⟩⟩
  · obtain ⟨_, h0⟩ := h2
    omega
  · exact ⟨g, _, cap, e1⟩
theorem own_new_i (w : World) : OwI (w.alloc (.cells #[] 3)) w.heap.size (.slice (some ⟨w.heap.size, 0, none⟩) 0 0) [] :=
  ⟨rfl, .inr ⟨w.heap.size, 0, _, rfl, Nat.le_refl _, heap_alloc_new w _, Nat.le_refl _, by unfold maxLen; omega, rfl, rfl⟩⟩
theorem ord_step (l : List Jb) (k : Nat) (h : isQ l k = true) : ordTo l (k + 1) = insN l k (ordTo l k) := by rw [ordTo, if_pos h]
theorem ord_skip (l : List Jb) (k : Nat) (h : isQ l k = false) : ordTo l (k + 1) = ordTo l k := by rw [ordTo, if_neg (by rw [h]; exact Bool.false_ne_true)]
theorem isQ_get {l : List Jb} {k : Nat} {x : Jb} (h : l[k]? = some x) : isQ l k = (x.state == 1) := by unfold isQ; rw [h]
theorem place_next {l : List Jb} {n k m : Nat} {out : List Nat} (h : out[k]? = some m) : place l n out (k + 1) = if lt l n m then place l n out k else k + 1 := by rw [place, h]
end Go.Proofs.Ytcndihekpdebhaa.Ord
/- Job: the document's Due, as it runs. -/
namespace Go.Proofs.Ytcndihekpdebhaa.Job
set_option maxRecDepth 100000
open Go.RowKit
open Go.Sort
open Kit
open Tre (Lst inI lst_keep lst_take lst_at lst_new lst_none IntsL int_cell encI encI_len encI_one OwI own_chg' info_i run_ld2 below_drewN' run_bs_i)
open Go.Proofs.Ytcndihekpdebhaa.Ord (ts ordTo place insN toI tyI und_i run_bs0_i run_to_i run_fr_i own_is part_to part_fr toI_ins own_some own_new_i ord_step ord_skip isQ_get place_next place_le ord_len q_le ord_mem lt)
set_option linter.unusedVariables false
variable {w w' : World}

theorem one12L (x : Jv) : (encJ x).all (·.oneCell') = true := by
  rw [List.all_eq_true]
  exact encJ_one x
theorem bx_cells {B : Nat} {x : Jv} (h : Arr.Blk w B 40 (encJ x)) :
    w.cell? ⟨B, 0, none⟩ = some (.int .i64 x.t.id) ∧ w.cell? ⟨B, 3, none⟩ = some (.int .i64 x.t.wall) ∧ w.cell? ⟨B, 7, none⟩ = some (.int .i64 x.t.state) ∧ w.cell? ⟨B, 8, none⟩ = some (.int .i64 x.t.start) :=
  ⟨Arr.blk_cell h 0, Arr.blk_cell h 3, Arr.blk_cell h 7, Arr.blk_cell h 8⟩
theorem idAt_get {l : List Jv} {m : Nat} {x : Jv} (h : l[m]? = some x) : idAt (ts l) m = x.t.id := by unfold idAt; rw [ts_get h]
theorem ids_take {l : List Jb} {p : List Nat} {k m : Nat} (h : p[k]? = some m) : (p.take (k + 1)).map (idAt l) = (p.take k).map (idAt l) ++ [idAt l m] := by
  obtain ⟨hk, e⟩ := List.getElem?_eq_some_iff.1 h
  rw [List.take_succ_eq_append_getElem hk, e, List.map_append]; rfl
abbrev nDue : Nest.At := ⟨4, 84, 7, 87, 11, 91, 3, 83, 6, 86, 10, 90, 12, 5, 91⟩
set_option maxHeartbeats 8000000 in
theorem rdue_any (W : World) (a1 : Option Addr) (n c1 : Nat) (l : List Jv) (now : Int) (h : Jobs W a1 n c1 l) (hn : n ≤ 100) (hok : ∀ x ∈ l, okT x.t) :
    Calls Try.prog 20 #[.slice a1 n c1, .int .i64 now] W fun e W' => ∃ v, e = .returned v ∧ OwI W' W.heap.size v (dueL now (ts l)) ∧ Below W.heap.size W W' := by
  have HL := Lib.hid (And.intro h (And.intro h.len hok))
  obtain ⟨ld, hld⟩ : ∃ ld, ld = (ts l).map (dueT now) := ⟨_, rfl⟩
  have hldn : ld.length = n := by rw [hld, List.length_map, ts_len]; exact h.len
  have HD := Lib.hid (show dueL now (ts l) = (ordTo ld n).map (idAt (ts l)) by unfold dueL dueP Ord.ord; rw [← hld, hldn])
  have HLd := Lib.hid hld
  clear h hok hld hldn
  go_enter Try.func20, Try.ntmps20
  go_wp2_with fail
  go_loopw [5, 6] (fun v i wr => ∃ k : Nat, k ≤ n ∧ i = .int .i64 (k : Nat) ∧ (∃ g M c, v = .slice (some ⟨g, 0, none⟩) M c) ∧ OwI wr W.heap.size v (toI (ordTo ld k)) ∧ Below W.heap.size W wr) (fun _ i _ => n - (intOf i).toNat)
  case atStart => exact ⟨0, Nat.zero_le _, rfl, ⟨_, _, _, rfl⟩, own_new_i W, below_alloc _ _⟩
  case round =>
    obtain ⟨k, hk, rfl, hsm, hown, hb⟩ := hrel
    by_cases hlt : k < n
    · have hka : k < l.length := by rw [HL.out.2.1]; exact hlt
      obtain ⟨b, o, rfl⟩ := lst_at HL.out.1 (by omega)
      obtain ⟨x, hx⟩ : ∃ x, l[k]? = some x := ⟨_, List.getElem?_eq_getElem hka⟩
      have HRx := Lib.hid (job_range (lst_keep encJ_len HL.out.1 hb) hx)
      have hq : Ord.isQ ld k = (runB x.t && decide (endJ x.t ≤ now)) := by rw [HLd.out]; exact due_isQ (ts_get hx)
      have hokx := HL.out.2.2 x (List.mem_of_getElem? hx)
      have HX := Lib.hid hx
      have HO := Lib.hid (And.intro hsm (And.intro hown hb))
      obtain ⟨⟨s0, s1⟩, s2, s3⟩ := hokx
      obtain ⟨w1, rfl⟩ : ∃ x, x = wr := ⟨_, rfl⟩
      clear hka hsm hown hb hx
      by_cases hst : x.t.state = 3
      · by_cases hdu : x.t.start + x.t.wall ≤ now
        · have HQ := Lib.hid (ord_step ld k (by rw [hq]; unfold runB endJ; rw [hst, decide_eq_true hdu]; rfl))
          obtain ⟨g, cp, hv, hM, hcm, hg1, hg2, hrow⟩ := own_is HO.out.2.1 HO.out.1
          obtain ⟨out, hout⟩ : ∃ out, out = ordTo ld k := ⟨_, rfl⟩
          rw [← hout] at HO HQ hv hM hrow
          have HOu := Lib.hid hout
          obtain ⟨M, hMe⟩ : ∃ M, M = (toI out).length := ⟨_, rfl⟩
          have hMo : M = out.length := by rw [hMe]; exact List.length_map ..
          have hMk : M ≤ k := by rw [hMo, hout, ord_len]; exact q_le _ _
          rw [← hMe] at hv hM
          subst hv
          obtain ⟨K, hK⟩ : ∃ K, K = place ld k out out.length := ⟨_, rfl⟩
          have hKM : K ≤ M := by rw [hK, hMo]; exact place_le _ _ _ _
          have HKM := Lib.hid (And.intro hKM (And.intro hM hcm))
          have HM := Lib.hid (And.intro hMo (And.intro hMe (And.intro hMk hK)))
          have HR := Lib.hid (And.intro hrow (And.intro hg1 hg2))
          have HSt := Lib.hid hst
          have hnd : ¬ x.t.start + x.t.wall > now := by omega
          clear hq hM hcm hg1 hg2 hrow hout hMe hMo hMk hK hKM
          go_upto_block 2 with (first | (refine wpList_load_mid rfl 40 (.tmp 21) rfl b (o + k * 12) rfl (encJ x) _ HRx.out Try.underlying40 rfl info_job12 ?_) | (refine Arr.wpList_store_blk rfl 40 (.tmp 7) (.tmp 22) rfl w1.heap.size (encJ x) rfl rfl zeroJ 40 (Arr.blk_new _ _ _ zeroJ rfl) info_job12 rfl (one12L x) w1.heap.size (Nat.le_refl _) ?_; intro w2 hblk hbel; have HW2 := Lib.hid (And.intro hblk ((below_alloc w1 (.cells zeroJ.toArray 40)).trans hbel)); obtain ⟨p0, p3, p7, p8⟩ := bx_cells hblk; rw [HSt.out] at p7; clear hbel hblk) | fail)
          obtain ⟨e0, e3, e8⟩ : w2.cell? ⟨w1.heap.size, 0, none⟩ = some (.int .i64 x.t.id) ∧ w2.cell? ⟨w1.heap.size, 3, none⟩ = some (.int .i64 x.t.wall) ∧ w2.cell? ⟨w1.heap.size, 8, none⟩ = some (.int .i64 x.t.start) := ⟨p0, p3, p8⟩
          have HR2 := Lib.hid (row_keep encI_len HR.out.1 HW2.out.2)
          have HL2 := Lib.hid (lst_keep encJ_len HL.out.1 (below_keep HO.out.2.2 HW2.out.2))
          clear p0 p3 p7 p8 e0 e3 e8
          go_cut [8] (fun kv wx => kv = .int .i64 (K : Nat) ∧ Below w2.heap.size w2 wx)
          case first =>
            go_wp2_with fail
            go_loopw [8] (fun kv wi => ∃ k' : Nat, k' ≤ M ∧ kv = .int .i64 (k' : Nat) ∧ place ld k out k' = K ∧ Below w2.heap.size w2 wi) (fun kv _ => (intOf kv).toNat)
            case atStart => exact ⟨M, Nat.le_refl _, rfl, by rw [HM.out.2.2.2, HM.out.1], Below.refl _ _⟩
            case round =>
              obtain ⟨k', hk', rfl, hpl, hbi⟩ := hrel
              have HBi := Lib.hid hbi
              have HPl := Lib.hid hpl
              clear hbi hpl
              rcases Nat.eq_zero_or_pos k' with h0 | h0
              · subst h0
                have HK0 := Lib.hid (show K = 0 by rw [← HPl.out, place])
                go_wp2_with fail
                go_meet
                case rel => exact ⟨by rw [HK0.out], HBi.out⟩
              · obtain ⟨k1, rfl⟩ : ∃ k1, k' = k1 + 1 := ⟨k' - 1, by omega⟩
                have hk1 : k1 < out.length := by rw [← HM.out.1]; omega
                obtain ⟨m, hm⟩ : ∃ m, out[k1]? = some m := ⟨_, List.getElem?_eq_getElem hk1⟩
                have q8 : wr.cell? ⟨g, k1, none⟩ = some (.int .i64 (m : Nat)) := by
                  have e : (toI out)[k1]'(by rw [List.length_map]; exact hk1) = (m : Int) := by
                    rw [List.getElem_map]
                    rw [List.getElem?_eq_getElem hk1] at hm
                    injection hm with hm
                    rw [hm]
                  have := row_cell (row_keep encI_len HR2.out HBi.out) (j := k1) (by rw [List.length_map]; exact hk1) e (i := 0) (by omega)
                  simpa [encI] using this
                have hmk0 : m < k := ((ord_mem ld k m).1 (by rw [← HOu.out]; exact List.mem_of_getElem? hm)).1
                have hmk : m < n := by omega
                have HN := Lib.hid (place_next (l := ld) (n := k) (k := k1) hm)
                obtain ⟨y, hy⟩ : ∃ y, l[m]? = some y := ⟨_, List.getElem?_eq_getElem (by rw [HL.out.2.1]; exact hmk)⟩
                have HRy := Lib.hid (job_range (lst_keep encJ_len HL2.out HBi.out) hy)
                have hltk : lt ld k m ↔ (x.t.start + x.t.wall < y.t.start + y.t.wall ∨ (x.t.start + x.t.wall = y.t.start + y.t.wall ∧ (x.t.id < y.t.id ∨ (x.t.id = y.t.id ∧ k < m)))) := by
                  rw [HLd.out]; exact due_lt (ts_get HX.out) (ts_get hy)
                obtain ⟨⟨r0, r1⟩, r2, r3⟩ := HL.out.2.2 y (List.mem_of_getElem? hy)
                have hk1n : (k1 : Int) < (M : Int) := by omega
                have hk1u : k1 ≤ 100 := by have := HM.out; omega
                clear hm hy
                go_upto_region 10 with (first | (refine wpList_load_mid rfl 40 (.tmp 45) rfl b (o + m * 12) rfl (encJ y) _ HRy.out Try.underlying40 rfl info_job12 ?_) | (refine Arr.wpList_store_blk rfl 40 (.tmp 9) (.tmp 46) rfl wr.heap.size (encJ y) rfl rfl zeroJ 40 (Arr.blk_new _ _ _ zeroJ rfl) info_job12 rfl (one12L y) wr.heap.size (Nat.le_refl _) ?_; intro w3 hblk hbel; have HY2 := Lib.hid ((below_alloc wr (.cells zeroJ.toArray 40)).trans hbel); obtain ⟨p0, p3, p7, p8⟩ := bx_cells hblk; obtain ⟨t0, t3, t7, t8⟩ := bx_cells (Arr.blk_below HW2.out.1 (below_keep HBi.out HY2.out) (Arr.blk_lt HW2.out.1)); have HB2 := Lib.hid (below_keep HBi.out HY2.out); clear hbel hblk) | fail)
                clear HRy HX
                obtain ⟨ys, hys⟩ : ∃ v, v = y.t.start := ⟨_, rfl⟩
                obtain ⟨yw, hyw⟩ : ∃ v, v = y.t.wall := ⟨_, rfl⟩
                obtain ⟨yi, hyi⟩ : ∃ v, v = y.t.id := ⟨_, rfl⟩
                obtain ⟨xs, hxs⟩ : ∃ v, v = x.t.start := ⟨_, rfl⟩
                obtain ⟨xw, hxw⟩ : ∃ v, v = x.t.wall := ⟨_, rfl⟩
                obtain ⟨xi, hxi⟩ : ∃ v, v = x.t.id := ⟨_, rfl⟩
                rw [← hys, ← hyw, ← hyi, ← hxs, ← hxw, ← hxi] at hltk
                rw [← hys] at p8 r0 r1
                rw [← hyw] at p3 r2 r3
                rw [← hyi] at p0
                rw [← hxs] at t8 s0 s1
                rw [← hxw] at t3 s2 s3
                rw [← hxi] at t0
                clear hys hyw hyi hxs hxw hxi p7 t7
                by_cases hz1 : ys + yw < xs + xw
                · have HQ2 := Lib.hid (show K = k1 + 1 by rw [← HPl.out, HN.out, if_neg (fun h => by have := hltk.1 h; omega)])
                  clear hltk
                  go_wp2_with fail
                  go_meet
                  case rel => exact ⟨by rw [HQ2.out]; rfl, HB2.out⟩
                · by_cases hz2 : ys + yw = xs + xw
                  · by_cases hz3 : yi ≤ xi
                    · have HQ2 := Lib.hid (show K = k1 + 1 by rw [← HPl.out, HN.out, if_neg (fun h => by have := hltk.1 h; omega)])
                      clear hltk
                      go_wp2_with fail
                      go_meet
                      case rel => exact ⟨by rw [HQ2.out]; rfl, HB2.out⟩
                    · have HQ2 := Lib.hid (show place ld k out k1 = K by rw [← HPl.out, HN.out, if_pos (hltk.2 (by omega))])
                      clear hltk
                      go_wp2_with fail
                      go_roundw
                      case rel => exact ⟨k1, by omega, by go_num, HQ2.out, HB2.out⟩
                      case measure => simp [intOf]
                  · have HQ2 := Lib.hid (show place ld k out k1 = K by rw [← HPl.out, HN.out, if_pos (hltk.2 (by omega))])
                    clear hltk
                    go_wp2_with fail
                    go_roundw
                    case rel => exact ⟨k1, by omega, by go_num, HQ2.out, HB2.out⟩
                    case measure => simp [intOf]
          case rest =>
          obtain ⟨rfl, hbx⟩ := hcut
          have hrc := row_keep encI_len HR2.out hbx
          have hgc : g < wc.heap.size := Nat.lt_of_lt_of_le (Nat.lt_of_lt_of_le HR.out.2.2 HW2.out.2.size) hbx.size
          have hl1 : ((toI out).take K).length = K := by rw [List.length_take, ← HM.out.2.1]; exact Nat.min_eq_left HKM.out.1
          have hl3 : ((toI out).drop K).length = M - K := by rw [List.length_drop, ← HM.out.2.1]
          have hp1 := part_to (cp := cp) hrc (K := K) (by rw [← HM.out.2.1]; exact HKM.out.1) hgc
          have hp3 := part_fr (cp := cp) hrc (K := K) (by rw [← HM.out.2.1]; exact HKM.out.1) (by rw [← HM.out.2.1]; exact HKM.out.2.1) hgc
          rw [← HM.out.2.1] at hp3
          have hins : ([] ++ (toI out).take K ++ [(k : Int)] ++ (toI out).drop K) = toI (ordTo ld (k + 1)) := by rw [HQ.out, HM.out.2.2.2]; exact toI_ins _ _ _
          generalize (toI out).take K = P1 at hl1 hp1 hins
          generalize (toI out).drop K = P3 at hl3 hp3 hins
          have HD := Lib.hid (show ([] : List Int).length + P1.length ≤ maxLen ∧ (([] : List Int).length + P1.length) * 8 ≤ 140737488355328 ∧ ([] ++ P1).length + [(k : Int)].length ≤ maxLen ∧ (([] ++ P1).length + [(k : Int)].length) * 8 ≤ 140737488355328 ∧ ([] ++ P1 ++ [(k : Int)]).length + P3.length ≤ maxLen ∧ (([] ++ P1 ++ [(k : Int)]).length + P3.length) * 8 ≤ 140737488355328 from by
            have := HM.out; have := HKM.out.1
            simp only [List.length_append, List.length_nil, List.length_cons, hl1, hl3]
            unfold maxLen; omega)
          have HP1 := Lib.hid hp1
          have HP3 := Lib.hid hp3
          have HIn := Lib.hid hins
          have hbx1 := below_keep HW2.out.2 hbx
          have HBx := Lib.hid (And.intro hbx1 (below_keep HO.out.2.2 hbx1))
          clear hrc hgc hl1 hl3 hp1 hp3 hins hbx hbx1
          go_upto_region 12 with fail
          refine Rel.wp_region_see (G := Rel.Gt) (Rel.tab [Rel.Kd.any, .is (.slice (some ⟨g, 0, none⟩) M cp), .is (.int .i64 (K : Nat)), Rel.Kd.any, Rel.Kd.any, .is (.int .i64 (k : Nat)), Rel.Kd.any, Rel.Kd.any, .is (.slice (some ⟨g, 0, none⟩) M cp), .is (.int .i64 (K : Nat)), Rel.Kd.any, Rel.Kd.any, Rel.Kd.any]) (Nest.JE nDue 0 80 encI 1 3 wc (.slice (some ⟨g, 0, none⟩) M cp) P1 [(k : Int)] P3) (by kernel_rfl) (by kernel_rfl) (by kernel_rfl) (by kernel_rfl) (fun w => trivial) (Nest.startE _ _ _ _ _ rfl (below_drew _)) ?_ ?_
          · refine ⟨?_, ?_, ?_, ?_, ?_, ?_, ?_, ?_, ?_, ?_, ?_, ?_, ?_, trivial⟩
            · intro L a w c j
              refine .inl ⟨Rel.wanted_free (by kernel_rfl) _, ?_⟩
              exact Chn.wp_bs0 _ rfl (run_bs0_i w) ⟨_, rfl, trivial, trivial, Nest.empE encI_len j (by kernel_rfl) (by kernel_rfl) (by rw [c.room]; exact of_decide_eq_true (by kernel_rfl)) (by rw [c.size]; exact of_decide_eq_true (by kernel_rfl)) (Rel.free_no c.free) (c.later 4 (by kernel_rfl)) (c.later2 7 4 (by kernel_rfl) (c.later 4 (by kernel_rfl))) (c.later2 11 7 (by kernel_rfl) (c.later2 7 4 (by kernel_rfl) (c.later 4 (by kernel_rfl))))⟩
            · intro L a w c j
              refine .inl ⟨Rel.wanted_free (by kernel_rfl) _, ?_⟩
              exact Rel.wp_mv _ rfl ⟨_, rfl, trivial, j.old (c.later 12 (by kernel_rfl)), (Nest.onE (by decide) (by decide) (Nest.go encI_len j (k := 1) (d := 81) (by kernel_rfl) (by kernel_rfl) (Below.refl _ _)))⟩
            · intro L a w c j
              refine .inl ⟨Rel.wanted_free (by kernel_rfl) _, ?_⟩
              exact Rel.wp_mv _ rfl ⟨_, rfl, trivial, (c.old 8 (v := .int .i64 (K : Nat)) (by kernel_rfl) (by kernel_rfl)), (Nest.onE (by decide) (by decide) (Nest.go encI_len j (k := 2) (d := 82) (by kernel_rfl) (by kernel_rfl) (Below.refl _ _)))⟩
            · intro L a w c j
              refine .inl ⟨Rel.wanted_free (by kernel_rfl) _, ?_⟩
              exact Rel.wp_sl _ _ none _ none rfl (c.get 1 81 (by kernel_rfl)) rfl (congrArg some (c.get 2 82 (by kernel_rfl))) rfl (run_to_i HKM.out.1 HKM.out.2.1 w) ⟨_, rfl, trivial, trivial, Nest.onE (by decide) (by decide) (Nest.mk1 encI_len j (by kernel_rfl) (by kernel_rfl) (by rw [c.room]; exact of_decide_eq_true (by kernel_rfl)) (Below.refl _ _) (fun v hv => HP1.out w j.below v hv))⟩
            · intro L a w c j
              refine .inl ⟨Rel.wanted_free (by kernel_rfl) _, ?_⟩
              obtain ⟨v9, w9, hr, hj⟩ := Nest.ap1E tyI j (by decide) (by decide) (c.came 0 (by kernel_rfl)) (by kernel_rfl) (by kernel_rfl) (by rw [c.room]; exact of_decide_eq_true (by kernel_rfl)) (by rw [c.size]; exact of_decide_eq_true (by kernel_rfl)) (Rel.free_no c.free) (c.later 7 (by kernel_rfl)) (c.later2 11 7 (by kernel_rfl) (c.later 7 (by kernel_rfl))) (c.came 3 (by kernel_rfl)) (c.later2 12 11 (by kernel_rfl) (c.later2 11 7 (by kernel_rfl) (c.later 7 (by kernel_rfl)))) HD.out.1 HD.out.2.1 34
              exact Chn.wp_ap _ _ _ rfl rfl rfl hr ⟨_, rfl, trivial, trivial, hj⟩
            · intro L a w c j
              refine .inl ⟨Rel.wanted_free (by kernel_rfl) _, ?_⟩
              exact Rel.wp_mv _ rfl ⟨_, rfl, trivial, (c.old 6 (v := .int .i64 (k : Nat)) (by kernel_rfl) (by kernel_rfl)), (Nest.onE (by decide) (by decide) (Nest.go encI_len j (k := 5) (d := 85) (by kernel_rfl) (by kernel_rfl) (Below.refl _ _)))⟩
            · intro L a w c j
              refine .inl ⟨Rel.wanted_free (by kernel_rfl) _, ?_⟩
              exact Chn.wp_bs1 _ _ rfl (c.get 5 85 (by kernel_rfl)) (run_bs_i _ w) ⟨_, rfl, trivial, trivial, Nest.onE (by decide) (by decide) (Nest.mk2 encI_len j (by kernel_rfl) (by kernel_rfl) (by rw [c.room]; exact of_decide_eq_true (by kernel_rfl)) (below_alloc _ _) (fun v hv => Nest.part_new encI_len w [(k : Int)] _ rfl 1 v hv))⟩
            · intro L a w c j
              refine .inl ⟨Rel.wanted_free (by kernel_rfl) _, ?_⟩
              obtain ⟨v9, w9, hr, hj⟩ := Nest.ap2 tyI j (by kernel_rfl) (by kernel_rfl) (by rw [c.room]; exact of_decide_eq_true (by kernel_rfl)) (by rw [c.size]; exact of_decide_eq_true (by kernel_rfl)) (c.came 4 (by kernel_rfl)) (Rel.free_no c.free) (c.later 11 (by kernel_rfl)) (c.came 6 (by kernel_rfl)) (c.later2 12 11 (by kernel_rfl) (c.later 11 (by kernel_rfl))) HD.out.2.2.1 HD.out.2.2.2.1 34
              exact Chn.wp_ap _ _ _ rfl rfl rfl hr ⟨_, rfl, trivial, trivial, Nest.onE (by decide) (by decide) hj⟩
            · intro L a w c j
              refine .inl ⟨Rel.wanted_free (by kernel_rfl) _, ?_⟩
              exact Rel.wp_mv _ rfl ⟨_, rfl, trivial, j.old (c.later 12 (by kernel_rfl)), (Nest.onE (by decide) (by decide) (Nest.go encI_len j (k := 8) (d := 88) (by kernel_rfl) (by kernel_rfl) (Below.refl _ _)))⟩
            · intro L a w c j
              refine .inl ⟨Rel.wanted_free (by kernel_rfl) _, ?_⟩
              exact Rel.wp_mv _ rfl ⟨_, rfl, trivial, (c.old 8 (v := .int .i64 (K : Nat)) (by kernel_rfl) (by kernel_rfl)), (Nest.onE (by decide) (by decide) (Nest.go encI_len j (k := 9) (d := 89) (by kernel_rfl) (by kernel_rfl) (Below.refl _ _)))⟩
            · intro L a w c j
              refine .inl ⟨Rel.wanted_free (by kernel_rfl) _, ?_⟩
              exact Rel.wp_sl _ _ _ none none rfl (c.get 8 88 (by kernel_rfl)) (congrArg some (c.get 9 89 (by kernel_rfl))) rfl rfl (run_fr_i HKM.out.1 w) ⟨_, rfl, trivial, trivial, Nest.onE (by decide) (by decide) (Nest.mk3 encI_len j (by kernel_rfl) (by kernel_rfl) (by rw [c.room]; exact of_decide_eq_true (by kernel_rfl)) (Below.refl _ _) (fun v hv => HP3.out w j.below v hv))⟩
            · intro L a w c j
              refine .inl ⟨Rel.wanted_free (by kernel_rfl) _, ?_⟩
              obtain ⟨v9, w9, hr, hj⟩ := Nest.ap3 tyI j (by kernel_rfl) (by kernel_rfl) (by rw [c.room]; exact of_decide_eq_true (by kernel_rfl)) (by rw [c.size]; exact of_decide_eq_true (by kernel_rfl)) (c.via 7 4 (by kernel_rfl) (c.came 7 (by kernel_rfl))) (c.came 7 (by kernel_rfl)) (Rel.free_no c.free) (c.came 10 (by kernel_rfl)) (c.later 12 (by kernel_rfl)) HD.out.2.2.2.2.1 HD.out.2.2.2.2.2 34
              exact Chn.wp_ap _ _ _ rfl rfl rfl hr ⟨_, rfl, trivial, trivial, Nest.onE (by decide) (by decide) hj⟩
            · intro L a w c j
              refine .inl ⟨Rel.wanted_free (by kernel_rfl) _, ?_⟩
              exact Rel.wp_as _ rfl ⟨_, rfl, trivial, trivial, Nest.onE (by decide) (by decide) (Nest.asg j (by kernel_rfl) (by kernel_rfl) (by rw [c.room]; exact of_decide_eq_true (by kernel_rfl)) (by rw [c.size]; exact of_decide_eq_true (by kernel_rfl)))⟩
          intro a w9 hbase hroom hdef hJ hV
          have hE := Nest.end3 hJ (of_decide_eq_true (by kernel_rfl)) (of_decide_eq_true (by kernel_rfl)) rfl
          change Below wc.heap.size wc w9 ∧ Owns encI 1 3 w9 wc.heap.size (Rel.slot a 5) ([] ++ P1 ++ [(k : Int)] ++ P3) at hE
          clear hJ
          have k5 : (Rel.Kd.any : Rel.Kd (Rel.Gt)).p w9 (Rel.slot a 5) := hV 12 _ _ rfl rfl
          rw [Chn.act_puts [80, 81, 82, 83, 84, 85, 86, 87, 88, 89, 90, 91, 5] hbase hroom hdef (by kernel_rfl)]
          clear hbase hroom hdef hV
          simp only [List.foldl_cons, List.foldl_nil]
          generalize Rel.slot a 80 = u80 at *
          generalize Rel.slot a 81 = u81 at *
          generalize Rel.slot a 82 = u82 at *
          generalize Rel.slot a 83 = u83 at *
          generalize Rel.slot a 84 = u84 at *
          generalize Rel.slot a 85 = u85 at *
          generalize Rel.slot a 86 = u86 at *
          generalize Rel.slot a 87 = u87 at *
          generalize Rel.slot a 88 = u88 at *
          generalize Rel.slot a 89 = u89 at *
          generalize Rel.slot a 90 = u90 at *
          generalize Rel.slot a 91 = u91 at *
          generalize Rel.slot a 5 = u5 at *
          simp only [Act.put, List.setIfInBounds_toArray, List.set_cons_succ, List.set_cons_zero]
          have hsm := own_some hE.2 (by simp only [List.length_append, List.length_nil, List.length_cons]; omega)
          rw [HIn.out] at hE
          have HE := Lib.hid (And.intro hsm (And.intro (Foot.owns_le hE.2 HBx.out.2.size) (below_keep HBx.out.2 hE.1)))
          clear hE hsm k5
          go_wp2_with fail
          go_roundw
          case rel => exact ⟨k + 1, by omega, by go_num, HE.out.1, HE.out.2.1, HE.out.2.2⟩
          case measure => simp [intOf]; omega
        · have HQ := Lib.hid (ord_skip ld k (by rw [hq]; unfold endJ; rw [decide_eq_false hdu, Bool.and_false]))
          have HSt := Lib.hid hst
          have hnd : x.t.start + x.t.wall > now := by omega
          clear hq hdu hst
          go_wp2_with (first | (refine wpList_load_mid rfl 40 (.tmp 21) rfl b (o + k * 12) rfl (encJ x) _ HRx.out Try.underlying40 rfl info_job12 ?_) | (refine Arr.wpList_store_blk rfl 40 (.tmp 7) (.tmp 22) rfl w1.heap.size (encJ x) rfl rfl zeroJ 40 (Arr.blk_new _ _ _ zeroJ rfl) info_job12 rfl (one12L x) w1.heap.size (Nat.le_refl _) ?_; intro w2 hblk hbel; have HW2 := Lib.hid ((below_alloc w1 (.cells zeroJ.toArray 40)).trans hbel); obtain ⟨p0, p3, p7, p8⟩ := bx_cells hblk; rw [HSt.out] at p7; clear hbel hblk) | fail)
          go_roundw
          case rel => exact ⟨k + 1, by omega, by go_num, HO.out.1, by rw [HQ.out]; exact own_chg' HO.out.2.1 HW2.out, below_keep HO.out.2.2 HW2.out⟩
          case measure => simp [intOf]; omega
      · have HQ := Lib.hid (ord_skip ld k (by rw [hq]; unfold runB; rw [beq_false_of_ne hst, Bool.false_and]))
        obtain ⟨st, hste⟩ : ∃ st, st = x.t.state := ⟨_, rfl⟩
        rw [← hste] at hst
        have HSt := Lib.hid hste
        clear hq hste
        go_wp2_with (first | (refine wpList_load_mid rfl 40 (.tmp 21) rfl b (o + k * 12) rfl (encJ x) _ HRx.out Try.underlying40 rfl info_job12 ?_) | (refine Arr.wpList_store_blk rfl 40 (.tmp 7) (.tmp 22) rfl w1.heap.size (encJ x) rfl rfl zeroJ 40 (Arr.blk_new _ _ _ zeroJ rfl) info_job12 rfl (one12L x) w1.heap.size (Nat.le_refl _) ?_; intro w2 hblk hbel; have HW2 := Lib.hid ((below_alloc w1 (.cells zeroJ.toArray 40)).trans hbel); obtain ⟨p0, p3, p7, p8⟩ := bx_cells hblk; rw [← HSt.out] at p7; clear hbel hblk) | fail)
        go_roundw
        case rel => exact ⟨k + 1, by omega, by go_num, HO.out.1, by rw [HQ.out]; exact own_chg' HO.out.2.1 HW2.out, below_keep HO.out.2.2 HW2.out⟩
        case measure => simp [intOf]; omega
    · obtain rfl : k = n := by omega
      obtain ⟨p, hp⟩ : ∃ p, p = ordTo ld k := ⟨_, rfl⟩
      obtain ⟨g, cp, hv, hM, hcm, hg1, hg2, hrow⟩ := own_is hown hsm
      rw [← hp] at hv hM hrow
      obtain ⟨M, hMe⟩ : ∃ M, M = (toI p).length := ⟨_, rfl⟩
      have hMo : M = p.length := by rw [hMe]; exact List.length_map ..
      have hMk : M ≤ k := by rw [hMo, hp, ord_len]; exact q_le _ _
      rw [← hMe] at hv hM
      subst hv
      obtain ⟨w1, rfl⟩ : ∃ x, x = wr := ⟨_, rfl⟩
      have HPm := Lib.hid (show ∀ m ∈ p, m < k from fun m hm => ((ord_mem ld k m).1 (by rw [← hp]; exact hm)).1)
      have HR := Lib.hid (And.intro hrow (And.intro hMo hM))
      have HB1 := Lib.hid hb
      have HF := Lib.hid (show dueL now (ts l) = p.map (idAt (ts l)) by rw [HD.out, hp])
      clear hp hown hsm hM hcm hg1 hg2 hrow hMe hMo hb
      have hni : ¬ (k : Int) < (k : Int) := by omega
      go_wp2_with fail
      go_loopw [10, 11] (fun v i wr => ∃ j : Nat, j ≤ M ∧ i = .int .i64 (j : Nat) ∧ OwI wr w1.heap.size v ((p.take j).map (idAt (ts l))) ∧ Below w1.heap.size w1 wr) (fun _ i _ => M - (intOf i).toNat)
      case atStart => exact ⟨0, Nat.zero_le _, rfl, own_new_i w1, below_alloc _ _⟩
      case round =>
        obtain ⟨j, hj, rfl, how, hbj⟩ := hrel
        have HO := Lib.hid (And.intro how hbj)
        clear how hbj
        by_cases hlj : j < M
        · have hlji : (j : Int) < (M : Int) := by omega
          have hj1 : j < p.length := by rw [← HR.out.2.1]; exact hlj
          obtain ⟨m, hm⟩ : ∃ m, p[j]? = some m := ⟨_, List.getElem?_eq_getElem hj1⟩
          have hmk := HPm.out m (List.mem_of_getElem? hm)
          have q8 : wr.cell? ⟨g, j, none⟩ = some (.int .i64 (m : Nat)) := by
            have e : (toI p)[j]'(by rw [List.length_map]; exact hj1) = (m : Int) := by
              rw [List.getElem_map]
              rw [List.getElem?_eq_getElem hj1] at hm
              injection hm with hm
              rw [hm]
            have := row_cell (row_keep encI_len HR.out.1 HO.out.2) (j := j) (by rw [List.length_map]; exact hj1) e (i := 0) (by omega)
            simpa [encI] using this
          obtain ⟨b, o, rfl⟩ := lst_at HL.out.1 (by omega)
          obtain ⟨x, hx⟩ : ∃ x, l[m]? = some x := ⟨_, List.getElem?_eq_getElem (by rw [HL.out.2.1]; exact hmk)⟩
          obtain ⟨q0, -⟩ := job_cells (lst_keep encJ_len HL.out.1 (below_keep HB1.out HO.out.2)) hx
          have HN := Lib.hid (show (p.take (j + 1)).map (idAt (ts l)) = (p.take j).map (idAt (ts l)) ++ [x.t.id] by rw [ids_take hm, idAt_get hx])
          have hlo : ((p.take j).map (idAt (ts l))).length = j := by rw [List.length_map, List.length_take]; omega
          obtain ⟨xi, hxi⟩ : ∃ v, v = x.t.id := ⟨_, rfl⟩
          obtain ⟨out, hout⟩ : ∃ v, v = (p.take j).map (idAt (ts l)) := ⟨_, rfl⟩
          rw [← hxi] at q0 HN
          rw [← hout] at HN HO hlo
          have HDL := Lib.hid (show out.length + 1 ≤ maxLen ∧ (out.length + 1) * 8 ≤ 140737488355328 by rw [hlo]; unfold maxLen; omega)
          have HA1 := Lib.hid (owns_alloc HO.out.1 (.cells #[.int .i64 xi] 3))
          have HA2 := Lib.hid (Tre.lit_row wr xi)
          have HA3 := Lib.hid (HO.out.2.alloc HO.out.2.size (.cells #[.int .i64 xi] 3))
          have hmn : (m : Int) < (k : Int) := by omega
          clear hxi hout hm hx hj1 hlo
          go_wp2_with (first | (at_builtin; refine Two.append_apart encI_len Nat.zero_lt_one encI_one rfl (.tmp 99) (.tmp 108) 34 3 rfl Try.underlying34 (.int .i64 0) 8 info_i rfl w1.heap.size _ out rfl HA1.out (some ⟨wr.heap.size, 0, none⟩) 1 1 [xi] rfl rfl HA2.out (fun h => by cases h) HDL.out.1 HDL.out.2 HA3.out.size ?_; intro v9 w9 ho9 hg9 hx9; have HO9 := Lib.hid (And.intro ho9 (HA3.out.trans (Two.below_grown HA1.out hg9 (Nat.le_trans HO.out.2.size (below_alloc wr _).size)))); clear ho9 hg9 hx9) | fail)
          go_roundw
          case rel => exact ⟨j + 1, by omega, by go_num, by rw [HN.out]; exact HO9.out.1, HO9.out.2⟩
          case measure => simp [intOf]; omega
        · obtain rfl : j = M := by omega
          have hnj : ¬ (j : Int) < (j : Int) := by omega
          have HG := Lib.hid (show dueL now (ts l) = (p.take j).map (idAt (ts l)) by rw [HF.out, List.take_of_length_le (by rw [← HR.out.2.1]; exact Nat.le_refl _)])
          go_wp2_with fail
          go_ret
          exact ⟨_, rfl, by rw [HG.out]; exact Foot.owns_le HO.out.1 HB1.out.size, below_keep HB1.out HO.out.2⟩
end Go.Proofs.Ytcndihekpdebhaa.Job
/- Job: JobReads, over any jobs that do as they should. -/
namespace Go.Proofs.Ytcndihekpdebhaa.Job
set_option maxRecDepth 100000
open Go.RowKit
open Go.Sort
open Kit
open Tre (Lst inI lst_keep lst_take lst_at lst_new lst_none IntsL int_cell encI encI_len NewI OwI ints_any)
open Prf (Bz Busys encZ encZ_len OwZ own_busys)
open Pla (Bx)
open Bxm (Bxs encX_len)
open Go.Proofs.Ytcndihekpdebhaa.Ord (ts)
set_option linter.unusedVariables false
variable {w w' : World}

theorem held_ok (l : List Jv) : ∀ x ∈ heldJ l, okT x.t := by
  intro x hx
  unfold heldJ at hx
  obtain ⟨y, -, rfl⟩ := List.mem_map.1 hx
  exact ⟨Prf.held_may (by omega), Prf.held_may (by omega)⟩
theorem heldJ_len (l : List Jv) : (heldJ l).length ≤ 24 := by
  unfold heldJ
  rw [List.length_map, List.length_take]
  exact Nat.min_le_left _ _
theorem ints_own {base : Nat} {v : Value} {l : List Int} (h : OwI w base v l) : ∃ a c, v = .slice a l.length c ∧ IntsL w a l.length c l := by
  obtain ⟨a, c, e, h1, h2, h3, h4⟩ := owns_row encI_len h
  exact ⟨a, c, e, rfl, h1, h2, fun e => ⟨by have := h3 e; omega, h3 e⟩, h4⟩
set_option maxHeartbeats 8000000 in
theorem reads_any (hP : Prog) (W : World) (a : Option Addr) (n c : Nat) (l : List Jv) (id now : Int) (hJ : Jobs W a n c l) :
    Calls Try.prog 3 #[.slice a n c, .int .i64 id, .int .i64 now] W fun e W' => e = .returned (.bool true) ∧ Below W.heap.size W W' := by
  have HP := Lib.hid hP
  have HC0 := Lib.hid (rheldJ_any W a n c l hJ)
  clear hP hJ
  go_enter Try.func3, Try.ntmps3
  go_wp2_with fail
  refine HC0.out.mono ?_
  rintro e w1 ⟨v, rfl, ho, hb1⟩
  have hokl := held_ok l
  have hlen := heldJ_len l
  generalize heldJ l = X at *
  obtain ⟨a1, c1, rfl, hx⟩ := own_jobs ho
  obtain ⟨m, hm⟩ : ∃ m, m = X.length := ⟨_, rfl⟩
  rw [← hm] at hx hlen ⊢
  have HX := Lib.hid (And.intro hlen (And.intro hokl hx))
  have H1 := Lib.hid (And.intro hb1 hx)
  have HA := Lib.hid (awake_any HP.out w1)
  clear ho hb1 hx hlen hokl HC0 hm
  go_wp2_with fail
  refine HA.out.mono ?_
  rintro e w2 ⟨rfl, hb⟩
  have H2 := Lib.hid (And.intro (below_keep H1.out.1 hb) (lst_keep encJ_len H1.out.2 hb))
  have HC1 := Lib.hid (HP.out.find w2 a1 m c1 X id H2.out.2 (by have := HX.out.1; omega))
  clear hb HA H1
  go_wp2_with fail
  refine HC1.out.mono ?_
  rintro e w3 ⟨rfl, hb⟩
  have H3 := Lib.hid (And.intro (below_keep H2.out.1 hb) (lst_keep encJ_len H2.out.2 hb))
  have HC2 := Lib.hid (rfind_any w3 a1 m c1 X id H3.out.2)
  clear hb HC1 H2
  go_wp2_with fail
  refine HC2.out.mono ?_
  rintro e w4 ⟨rfl, hb⟩
  have H4 := Lib.hid (And.intro (below_keep H3.out.1 hb) (lst_keep encJ_len H3.out.2 hb))
  have HC3 := Lib.hid (HP.out.mask w4 a1 m c1 X H4.out.2 (by have := HX.out.1; omega))
  clear hb HC2 H3
  go_wp2_with fail
  refine HC3.out.mono ?_
  rintro e w5 ⟨rfl, hb⟩
  have H5 := Lib.hid (And.intro (below_keep H4.out.1 hb) (lst_keep encJ_len H4.out.2 hb))
  have HC4 := Lib.hid (rmask_any w5 a1 m c1 X H5.out.2)
  clear hb HC3 H4
  go_wp2_with fail
  refine HC4.out.mono ?_
  rintro e w6 ⟨rfl, hb⟩
  have H6 := Lib.hid (And.intro (below_keep H5.out.1 hb) (lst_keep encJ_len H5.out.2 hb))
  have HC5 := Lib.hid (HP.out.busy w6 a1 m c1 X H6.out.2 (by have := HX.out.1; omega) HX.out.2.1)
  clear hb HC4 H5
  go_wp2_with fail
  refine HC5.out.mono ?_
  rintro e w7 ⟨a7, c7, rfl, hz, hb⟩
  have H7 := Lib.hid (And.intro (below_keep H6.out.1 hb) (And.intro (lst_keep encJ_len H6.out.2 hb) hz))
  have HC6 := Lib.hid (rbusyJ_any w7 a1 m c1 X H7.out.2.1 (by have := HX.out.1; omega) HX.out.2.1)
  clear hb hz HC5 H6
  go_wp2_with fail
  refine HC6.out.mono ?_
  rintro e w8 ⟨v8, rfl, ho8, hb⟩
  obtain ⟨a8, c8, rfl, hz8⟩ := own_busys ho8
  have H8 := Lib.hid (And.intro (below_keep H7.out.1 hb) (lst_keep encJ_len H7.out.2.1 hb))
  have HC7 := Lib.hid (rsameB_any a7 a8 _ c7 c8 _ w8 (lst_keep encZ_len H7.out.2.2 hb) hz8)
  clear hb ho8 hz8 HC6 H7
  go_wp2_with fail
  refine HC7.out.mono ?_
  rintro e w9 ⟨rfl, hb⟩
  have H9 := Lib.hid (And.intro (below_keep H8.out.1 hb) (lst_keep encJ_len H8.out.2 hb))
  have HC8 := Lib.hid (HP.out.boxes w9 a1 m c1 X H9.out.2 (by have := HX.out.1; omega) HX.out.2.1)
  clear hb HC7 H8
  go_wp2_with fail
  refine HC8.out.mono ?_
  rintro e wa ⟨aa, ca, rfl, hz, hb⟩
  have Ha := Lib.hid (And.intro (below_keep H9.out.1 hb) (And.intro (lst_keep encJ_len H9.out.2 hb) hz))
  have HC9 := Lib.hid (rboxesJ_any wa a1 m c1 X Ha.out.2.1 (by have := HX.out.1; omega))
  clear hb hz HC8 H9
  go_wp2_with fail
  refine HC9.out.mono ?_
  rintro e wb ⟨vb, rfl, hob, hb⟩
  obtain ⟨ab, cb, rfl, hzb⟩ := own_boxes hob
  have Hb := Lib.hid (And.intro (below_keep Ha.out.1 hb) (lst_keep encJ_len Ha.out.2.1 hb))
  have HCa := Lib.hid (rsameX_any aa ab _ ca cb _ wb (lst_keep encX_len Ha.out.2.2 hb) hzb)
  clear hb hob hzb HC9 Ha
  go_wp2_with fail
  refine HCa.out.mono ?_
  rintro e wc ⟨rfl, hb⟩
  have Hc := Lib.hid (And.intro (below_keep Hb.out.1 hb) (lst_keep encJ_len Hb.out.2 hb))
  have HCb := Lib.hid (HP.out.due wc a1 m c1 X now Hc.out.2 (by have := HX.out.1; omega) HX.out.2.1)
  clear hb HCa Hb
  go_wp2_with fail
  refine HCb.out.mono ?_
  rintro e wd ⟨vd, rfl, ⟨ad, cd, rfl, hid, -⟩, hb⟩
  have Hd := Lib.hid (And.intro (below_keep Hc.out.1 hb) (And.intro (lst_keep encJ_len Hc.out.2 hb) hid))
  have HCc := Lib.hid (rdue_any wd a1 m c1 X now Hd.out.2.1 (by have := HX.out.1; omega) HX.out.2.1)
  clear hb hid HCb Hc
  go_wp2_with fail
  refine HCc.out.mono ?_
  rintro e we ⟨ve, rfl, hoe, hb⟩
  obtain ⟨ae, ce, rfl, hie⟩ := ints_own hoe
  have He := Lib.hid (below_keep Hd.out.1 hb)
  have HCd := Lib.hid (ints_any ad ae _ cd _ ce _ _ we (lst_keep encI_len Hd.out.2.2 hb) hie)
  clear hb hoe hie HCc Hd
  go_wp2_with fail
  refine HCd.out.mono ?_
  rintro e wf ⟨rfl, hb⟩
  simp only [decide_true]
  have Hf := Lib.hid (below_keep He.out hb)
  clear hb HCd He
  go_wp2_with fail
  go_ret
  exact ⟨rfl, Hf.out⟩
end Go.Proofs.Ytcndihekpdebhaa.Job
/- Common: the library's cmp.Compare at ints. -/
namespace Go.Proofs.Ytcndihekpdebhaa.Cmp
set_option maxRecDepth 100000
open Go.RowKit
open Go.Sort
open Kit
open Tre (encI encI_len encI_one)
set_option linter.unusedVariables false
variable {w w' : World}

def cmpI (a b : Int) : Int := if a < b then -1 else if b < a then 1 else 0
theorem isnan_any (W : World) (x : Int) : Calls Try.prog 44 #[.int .i64 x] W fun e w' => e = .returned (.bool false) ∧ W = w' := by
  go_enter Try.func44, Try.ntmps44
  go_wp2
  go_ret
  exact ⟨by simp, rfl⟩
theorem compare_any (x y : Int) (W : World) : Calls Try.prog 35 #[.int .i64 x, .int .i64 y] W fun e w' => e = .returned (.int .i64 (cmpI x y)) ∧ W = w' := by
  by_cases h1 : x < y
  · have HC := Lib.hid (show cmpI x y = -1 by unfold cmpI; rw [if_pos h1])
    go_enter Try.func35, Try.ntmps35
    go_wp2_with fail
    refine (isnan_any W x).mono ?_
    rintro e w1 ⟨rfl, rfl⟩
    go_wp2_with fail
    refine (isnan_any W y).mono ?_
    rintro e w1 ⟨rfl, rfl⟩
    go_wp2_with fail
    go_ret
    exact ⟨by rw [HC.out]; rfl, rfl⟩
  · by_cases h2 : y < x
    · have HC := Lib.hid (show cmpI x y = 1 by unfold cmpI; rw [if_neg h1, if_pos h2])
      go_enter Try.func35, Try.ntmps35
      go_wp2_with fail
      refine (isnan_any W x).mono ?_
      rintro e w1 ⟨rfl, rfl⟩
      go_wp2_with fail
      refine (isnan_any W y).mono ?_
      rintro e w1 ⟨rfl, rfl⟩
      go_wp2_with fail
      go_ret
      exact ⟨by rw [HC.out]; rfl, rfl⟩
    · have HC := Lib.hid (show cmpI x y = 0 by unfold cmpI; rw [if_neg h1, if_neg h2])
      go_enter Try.func35, Try.ntmps35
      go_wp2_with fail
      refine (isnan_any W x).mono ?_
      rintro e w1 ⟨rfl, rfl⟩
      go_wp2_with fail
      refine (isnan_any W y).mono ?_
      rintro e w1 ⟨rfl, rfl⟩
      go_wp2_with fail
      go_ret
      exact ⟨by rw [HC.out]; rfl, rfl⟩
end Go.Proofs.Ytcndihekpdebhaa.Cmp
/- Common: the library's cmp.Or at ints. -/
namespace Go.Proofs.Ytcndihekpdebhaa.Cmp
set_option maxRecDepth 100000
open Go.RowKit
open Go.Sort
open Kit
open Tre (encI encI_len encI_one)
set_option linter.unusedVariables false
variable {w w' : World}

def orI (a b : Int) : Int := if a ≠ 0 then a else b
/-- Two comparisons, the first one first: below 0. -/
theorem or_lt (a b c d : Int) : orI (cmpI a b) (cmpI c d) < 0 ↔ a < b ∨ (a = b ∧ c < d) := by
  unfold orI cmpI
  by_cases h1 : a < b
  · simp [h1]
  · by_cases h2 : b < a
    · rw [if_neg h1, if_pos h2]
      simp
      omega
    · rw [if_neg h1, if_neg h2]
      simp only [ne_eq, not_true_eq_false, if_false]
      split
      · constructor
        · intro _; omega
        · intro _; omega
      · split <;> constructor <;> intro _ <;> omega
theorem or_any (x y : Int) (B : Nat) (W : World) (hr : Kit.Row encI 1 W (some ⟨B, 0, none⟩) [x, y]) : Calls Try.prog 34 #[.slice (some ⟨B, 0, none⟩) 2 2] W fun e w' => e = .returned (.int .i64 (orI x y)) ∧ W = w' := by
  have q0 : W.cell? ⟨B, 0, none⟩ = some (.int .i64 x) := row_cell hr (j := 0) (by simp) rfl (i := 0) (by omega)
  have q1 : W.cell? ⟨B, 1, none⟩ = some (.int .i64 y) := row_cell hr (j := 1) (by simp) rfl (i := 0) (by omega)
  clear hr
  go_enter Try.func34, Try.ntmps34
  go_wp2_with fail
  go_loop [5, 8] (fun _ i => ∃ k : Nat, k ≤ 2 ∧ i = .int .i64 (k : Nat) ∧ Hid (0 < k → x = 0) ∧ Hid (1 < k → y = 0)) (fun _ i => 2 - (intOf i).toNat)
  case atStart => exact ⟨0, by omega, rfl, Lib.hid (by omega), Lib.hid (by omega)⟩
  case round =>
    obtain ⟨k, hk, rfl, hx, hy⟩ := hrel
    by_cases hk0 : k = 0
    · subst hk0
      clear hx hy
      by_cases h0 : x = 0
      · subst h0
        go_wp2_with fail
        go_round
        case rel => exact ⟨1, by omega, rfl, Lib.hid (by simp), Lib.hid (by omega)⟩
        case measure => simp [intOf]
      · have HE := Lib.hid (show orI x y = x by unfold orI; rw [if_pos h0])
        go_wp2_with fail
        go_ret
        exact ⟨by rw [HE.out]; rfl, rfl⟩
    · have h0 := hx.out (by omega)
      subst h0
      by_cases hk1 : k = 1
      · subst hk1
        clear hx hy
        by_cases h1 : y = 0
        · subst h1
          go_wp2_with fail
          go_round
          case rel => exact ⟨2, by omega, rfl, Lib.hid (by simp), Lib.hid (by simp)⟩
          case measure => simp [intOf]
        · have HE := Lib.hid (show orI 0 y = y by unfold orI; rw [if_neg (by simp)])
          go_wp2_with fail
          go_ret
          exact ⟨by rw [HE.out]; rfl, rfl⟩
      · obtain rfl : k = 2 := by omega
        have h1 := hy.out (by omega)
        subst h1
        have HE := Lib.hid (show orI 0 0 = 0 by decide)
        go_wp2_with fail
        go_ret
        exact ⟨by rw [HE.out]; rfl, rfl⟩

theorem wp_two {P : Program} {o : Oper} {a : Act} {K : Act → World → Prop} {Q : Exit → Act → World → Prop} (t : TypeId) (x y : Operand) (ho : o.op = .buildSlice t 2 #[(0, x), (1, y)]) {vx vy u : Value} {w' : World} (hx : a.eval x = vx) (hy : a.eval y = vy) (hr : (Instr.buildSlice t 2 #[(0, vx), (1, vy)]).run P w = .ok u w') (h : K (a.put o.dst u) w') : o.wp P a w K Q :=
  Chn.wp_bs t 2 _ ho (by subst hx hy; simpa using hr) h
theorem run_two (x y : Int) (w : World) : (Instr.buildSlice 34 2 #[(0, .int .i64 x), (1, .int .i64 y)]).run Try.prog w = .ok (.slice (some ⟨w.heap.size, 0, none⟩) 2 2) (w.alloc (.cells #[.int .i64 x, .int .i64 y] 3)) := by
  simp [go_sem]
theorem row_two (w : World) (x y : Int) : Kit.Row encI 1 (w.alloc (.cells #[.int .i64 x, .int .i64 y] 3)) (some ⟨w.heap.size, 0, none⟩) [x, y] := row_new encI_len w [x, y] _ _ _ rfl rfl
def kTwo (x y : Int) : Rel.Kd Rel.Gr := ⟨fun w u => ∃ B, u = .slice (some ⟨B, 0, none⟩) 2 2 ∧ Kit.Row encI 1 w (some ⟨B, 0, none⟩) [x, y], fun _ _ _ h ⟨B, e, hr⟩ => ⟨B, e, row_keep encI_len hr h⟩⟩

end Go.Proofs.Ytcndihekpdebhaa.Cmp
/- Job, the landed: when one ends, and what its closures say of one. -/
namespace Go.Proofs.Ytcndihekpdebhaa.Job
set_option maxRecDepth 100000
open Go.RowKit
open Go.Sort
open Kit
open Cmp
open Tre (Lst inI lst_keep lst_take lst_at lst_new lst_none run_ld2)
set_option linter.unusedVariables false
variable {w w' : World}

theorem run_ldJob {b : Nat} {x : Jv} (h : w.rangeAt b 0 (encJ x)) : (Instr.loadAt 40 (.pointer (some ⟨b, 0, none⟩))).run Try.prog w = .ok (.agg (encJ x).toArray) w := by
  simp only [Instr.loadAt, Instr.sureAddr, Sem.run_bind, Sem.run_pure, Result.andThen_ok, run_loadVar_mid w b 0 40 (encJ x) _ h Try.underlying40 rfl info_job12]
theorem blk_range {b : Nat} {T : TypeId} {x : Jv} (h : Arr.Blk w b T (encJ x)) : w.rangeAt b 0 (encJ x) := fun i v hv => by rw [Nat.zero_add, Arr.blk_cell h]; exact hv
theorem end_any (x : Jv) (W : World) (hx : okT x.t) : Calls Try.prog 27 #[.agg (encJ x).toArray] W fun e w' => e = .returned (.int .i64 (endJ x.t)) ∧ Below W.heap.size W w' ∧ W.drawn ≤ w'.drawn := by
  obtain ⟨⟨x0, x1, x2, x3, x4, x5, x6, x7, x8, x9, x10, xd⟩, xa, xn, xc⟩ := x
  obtain ⟨⟨s0, s1⟩, t0, t1⟩ := hx
  simp only at s0 s1 t0 t1
  have HB := Lib.hid (below_alloc W (.cells #[.int .i64 x0, .int .i64 x1, .int .i64 x2, .int .i64 x3, .int .i64 x4, .int .i64 x5, .int .i64 x6, .int .i64 x7, .int .i64 x8, .int .i64 x9, .int .i64 x10, .slice xa xn xc] 40))
  have HE := Lib.hid (show endJ (⟨x0, x1, x2, x3, x4, x5, x6, x7, x8, x9, x10, xd⟩ : Jb) = x8 + x3 from rfl)
  unfold encJ
  go_enter Try.func27, Try.ntmps27
  go_wp2_with fail
  go_ret
  exact ⟨by rw [HE.out]; rfl, HB.out, Nat.le_refl _⟩
theorem isrun_any (x : Jv) (W : World) : Calls Try.prog 40 #[.agg (encJ x).toArray] W fun e w' => e = .returned (.bool (runB x.t)) ∧ Below W.heap.size W w' := by
  obtain ⟨⟨x0, x1, x2, x3, x4, x5, x6, x7, x8, x9, x10, xd⟩, xa, xn, xc⟩ := x
  have HB := Lib.hid (below_alloc W (.cells #[.int .i64 x0, .int .i64 x1, .int .i64 x2, .int .i64 x3, .int .i64 x4, .int .i64 x5, .int .i64 x6, .int .i64 x7, .int .i64 x8, .int .i64 x9, .int .i64 x10, .slice xa xn xc] 40))
  have HE := Lib.hid (show runB (⟨x0, x1, x2, x3, x4, x5, x6, x7, x8, x9, x10, xd⟩ : Jb) = (x7 == 3) from rfl)
  unfold encJ
  go_enter Try.func40, Try.ntmps40
  go_wp2_with fail
  go_ret
  exact ⟨by rw [HE.out]; rfl, HB.out⟩
theorem isid_any (x : Jv) (id : Int) (bx : Nat) (W : World) (h : W.cell? ⟨bx, 0, none⟩ = some (.int .i64 id)) : Calls Try.prog 25 #[.agg (encJ x).toArray, .pointer (some ⟨bx, 0, none⟩)] W fun e w' => e = .returned (.bool (x.t.id == id)) ∧ Below W.heap.size W w' := by
  obtain ⟨⟨x0, x1, x2, x3, x4, x5, x6, x7, x8, x9, x10, xd⟩, xa, xn, xc⟩ := x
  have hc := cell_keep (below_alloc W (.cells #[.int .i64 x0, .int .i64 x1, .int .i64 x2, .int .i64 x3, .int .i64 x4, .int .i64 x5, .int .i64 x6, .int .i64 x7, .int .i64 x8, .int .i64 x9, .int .i64 x10, .slice xa xn xc] 40)) h
  have HB := Lib.hid (below_alloc W (.cells #[.int .i64 x0, .int .i64 x1, .int .i64 x2, .int .i64 x3, .int .i64 x4, .int .i64 x5, .int .i64 x6, .int .i64 x7, .int .i64 x8, .int .i64 x9, .int .i64 x10, .slice xa xn xc] 40))
  unfold encJ
  clear h
  go_enter Try.func25, Try.ntmps25
  go_wp2_with fail
  go_ret
  exact ⟨rfl, HB.out⟩
theorem blk_boxJ (W : World) (x : Jv) : Arr.Blk (W.alloc (.cells (encJ x).toArray 40)) W.heap.size 40 (encJ x) := Arr.blk_new _ _ _ _ rfl
set_option maxHeartbeats 4000000 in
theorem isdue_any (x : Jv) (now : Int) (bx : Nat) (W : World) (hx : okT x.t) (h : W.cell? ⟨bx, 0, none⟩ = some (.int .i64 now)) : Calls Try.prog 31 #[.agg (encJ x).toArray, .pointer (some ⟨bx, 0, none⟩)] W fun e w' => e = .returned (.bool (decide (endJ x.t ≤ now))) ∧ Below W.heap.size W w' := by
  have HX := Lib.hid hx
  obtain ⟨w9, hw9⟩ : ∃ z, z = W.alloc (.cells (encJ x).toArray 40) := ⟨_, rfl⟩
  obtain ⟨B1, hB1⟩ : ∃ z, z = W.heap.size := ⟨_, rfl⟩
  have HC := Lib.hid (show w9.rangeAt B1 0 (encJ x) ∧ w9.cell? ⟨bx, 0, none⟩ = some (.int .i64 now) by
    rw [hw9, hB1]
    exact ⟨blk_range (blk_boxJ W x), cell_keep (below_alloc W _) h⟩)
  have HB := Lib.hid (show Below W.heap.size W w9 by rw [hw9]; exact below_alloc W _)
  have HW := Lib.hid (And.intro hw9 hB1)
  clear hx h hw9 hB1
  go_enter Try.func31, Try.ntmps31
  go_wp2_with fail
  rw [← HW.out.1, ← HW.out.2]
  refine Rel.wp_region_rel (G := Rel.Gr) (Rel.tab [.is (.agg (encJ x).toArray), .is (.int .i64 (endJ x.t)), .is (.int .i64 now), .is (.bool (decide (endJ x.t ≤ now))), .is (.bool (decide (endJ x.t ≤ now)))]) (fun _ w => Below w9.heap.size w9 w) (by kernel_rfl) (by kernel_rfl) (by kernel_rfl) (by kernel_rfl) (fun w => Rel.gr_refl _) (below_drew _) ?_ ?_
  · refine ⟨?_, ?_, ?_, ?_, ?_, trivial⟩
    · intro L a w c
      refine .inl ⟨Rel.wanted_free (by kernel_rfl) _, ?_⟩
      exact Rel.wp_ld _ _ rfl (c.old 2 (v := .pointer (some ⟨B1, 0, none⟩)) (by kernel_rfl) (by kernel_rfl)) (run_ldJob (range_keep c.inv HC.out.1)) ⟨_, rfl, Rel.gr_refl _, rfl, c.inv⟩
    · intro L a w c
      refine .inl ⟨Rel.wanted_free (by kernel_rfl) _, ?_⟩
      refine Rel.wp_cl _ _ _ rfl Try.func27 (by kernel_rfl) ?_
      show Calls _ _ #[Rel.slot a 4] w _
      rw [show Rel.slot a 4 = .agg (encJ x).toArray from (c.get 0 4 (by kernel_rfl))]
      refine (end_any x w HX.out).mono ?_
      rintro e w' ⟨rfl, hb, hd⟩
      exact ⟨_, rfl, _, rfl, hb, rfl, below_keep c.inv hb⟩
    · intro L a w c
      refine .inl ⟨Rel.wanted_free (by kernel_rfl) _, ?_⟩
      exact Rel.wp_ld _ _ rfl (c.old 1 (v := .pointer (some ⟨bx, 0, none⟩)) (by kernel_rfl) (by kernel_rfl)) (run_ld2 (cell_keep c.inv HC.out.2)) ⟨_, rfl, Rel.gr_refl _, rfl, c.inv⟩
    · intro L a w c
      refine .inl ⟨Rel.wanted_free (by kernel_rfl) _, ?_⟩
      exact Rel.wp_bo _ _ _ _ _ rfl (u := .bool (decide (endJ x.t ≤ now))) (c.get 1 5 (by kernel_rfl)) (c.get 2 6 (by kernel_rfl)) (by simp [go_sem]) ⟨_, rfl, Rel.gr_refl _, rfl, c.inv⟩
    · intro L a w c
      refine .inl ⟨Rel.wanted_free (by kernel_rfl) _, ?_⟩
      exact Rel.wp_as _ rfl ⟨_, rfl, Rel.gr_refl _, (c.get 3 7 (by kernel_rfl)), c.inv⟩
  intro a w8 hbase hroom hdef hJ hV
  have s3 : Rel.slot a 3 = .bool (decide (endJ x.t ≤ now)) := hV 4 _ _ rfl rfl
  rw [Chn.act_puts [4, 5, 6, 7, 3] hbase hroom hdef (by kernel_rfl)]
  clear hbase hroom hdef hV
  simp only [List.foldl_cons, List.foldl_nil]
  generalize Rel.slot a 4 = u4 at *
  generalize Rel.slot a 5 = u5 at *
  generalize Rel.slot a 6 = u6 at *
  generalize Rel.slot a 7 = u7 at *
  rw [s3]
  clear s3
  simp only [Act.put, List.setIfInBounds_toArray, List.set_cons_succ, List.set_cons_zero]
  have HJ := Lib.hid (below_keep HB.out hJ)
  clear hJ
  go_wp2_with fail
  go_ret
  exact ⟨rfl, HJ.out⟩

/-! ### The comparison -/

def cfD (x y : Jb) : Int := orI (cmpI (endJ x) (endJ y)) (cmpI x.id y.id)
set_option maxHeartbeats 4000000 in
theorem cmpj_any (x y : Jv) (W : World) (hx : okT x.t) (hy : okT y.t) : Calls Try.prog 33 #[.agg (encJ x).toArray, .agg (encJ y).toArray] W fun e w' => e = .returned (.int .i64 (cfD x.t y.t)) ∧ Below W.heap.size W w' ∧ W.drawn ≤ w'.drawn := by
  have HX := Lib.hid (And.intro hx hy)
  obtain ⟨w9, hw9⟩ : ∃ z, z = (W.alloc (.cells (encJ x).toArray 40)).alloc (.cells (encJ y).toArray 40) := ⟨_, rfl⟩
  obtain ⟨B1, hB1⟩ : ∃ z, z = W.heap.size := ⟨_, rfl⟩
  obtain ⟨B2, hB2⟩ : ∃ z, z = W.heap.size + 1 := ⟨_, rfl⟩
  have hk1 : Arr.Blk w9 B1 40 (encJ x) := by rw [hw9, hB1]; exact Arr.blk_alloc (blk_boxJ W x) _
  have hk2 : Arr.Blk w9 B2 40 (encJ y) := by
    rw [hw9, hB2]
    have := blk_boxJ (W.alloc (.cells (encJ x).toArray 40)) y
    simpa using this
  have HC := Lib.hid (And.intro (blk_range hk1) (blk_range hk2))
  have HD := Lib.hid (show w9.cell? ⟨B1, 0, none⟩ = some (.int .i64 x.t.id) ∧ w9.cell? ⟨B2, 0, none⟩ = some (.int .i64 y.t.id) from ⟨Arr.blk_cell hk1 0, Arr.blk_cell hk2 0⟩)
  have HB := Lib.hid (show Below W.heap.size W w9 ∧ W.drawn ≤ w9.drawn by rw [hw9]; exact ⟨below_keep (below_alloc W _) (below_alloc _ _), Nat.le_refl _⟩)
  have HW := Lib.hid (And.intro hw9 (And.intro hB1 hB2))
  clear hx hy hw9 hB1 hB2 hk1 hk2
  go_enter Try.func33, Try.ntmps33
  go_wp2_with fail
  rw [← HW.out.1, ← HW.out.2.2, ← HW.out.2.1]
  refine Rel.wp_region_rel (G := Rel.Gr) (Rel.tab [.is (.agg (encJ x).toArray), .is (.int .i64 (endJ x.t)), .is (.agg (encJ y).toArray), .is (.int .i64 (endJ y.t)), .is (.int .i64 (cmpI (endJ x.t) (endJ y.t))), .is (.pointer (some ⟨B1, 0, none⟩)), .is (.int .i64 x.t.id), .is (.pointer (some ⟨B2, 0, none⟩)), .is (.int .i64 y.t.id), .is (.int .i64 (cmpI x.t.id y.t.id)), kTwo (cmpI (endJ x.t) (endJ y.t)) (cmpI x.t.id y.t.id), .is (.int .i64 (orI (cmpI (endJ x.t) (endJ y.t)) (cmpI x.t.id y.t.id))), .is (.int .i64 (orI (cmpI (endJ x.t) (endJ y.t)) (cmpI x.t.id y.t.id)))]) (fun _ w => Below w9.heap.size w9 w ∧ w9.drawn ≤ w.drawn) (by kernel_rfl) (by kernel_rfl) (by kernel_rfl) (by kernel_rfl) (fun w => Rel.gr_refl _) (⟨below_drew _, Nat.le_succ _⟩) ?_ ?_
  · refine ⟨?_, ?_, ?_, ?_, ?_, ?_, ?_, ?_, ?_, ?_, ?_, ?_, ?_, trivial⟩
    · intro L a w c
      refine .inl ⟨Rel.wanted_free (by kernel_rfl) _, ?_⟩
      exact Rel.wp_ld _ _ rfl (c.old 2 (v := .pointer (some ⟨B1, 0, none⟩)) (by kernel_rfl) (by kernel_rfl)) (run_ldJob (range_keep c.inv.1 HC.out.1)) ⟨_, rfl, Rel.gr_refl _, rfl, c.inv⟩
    · intro L a w c
      refine .inl ⟨Rel.wanted_free (by kernel_rfl) _, ?_⟩
      refine Rel.wp_cl _ _ _ rfl Try.func27 (by kernel_rfl) ?_
      show Calls _ _ #[Rel.slot a 5] w _
      rw [show Rel.slot a 5 = .agg (encJ x).toArray from (c.get 0 5 (by kernel_rfl))]
      refine (end_any x w HX.out.1).mono ?_
      rintro e w' ⟨rfl, hb, hd⟩
      exact ⟨_, rfl, _, rfl, hb, rfl, ⟨below_keep c.inv.1 hb, Nat.le_trans c.inv.2 hd⟩⟩
    · intro L a w c
      refine .inl ⟨Rel.wanted_free (by kernel_rfl) _, ?_⟩
      exact Rel.wp_ld _ _ rfl (c.old 3 (v := .pointer (some ⟨B2, 0, none⟩)) (by kernel_rfl) (by kernel_rfl)) (run_ldJob (range_keep c.inv.1 HC.out.2)) ⟨_, rfl, Rel.gr_refl _, rfl, c.inv⟩
    · intro L a w c
      refine .inl ⟨Rel.wanted_free (by kernel_rfl) _, ?_⟩
      refine Rel.wp_cl _ _ _ rfl Try.func27 (by kernel_rfl) ?_
      show Calls _ _ #[Rel.slot a 7] w _
      rw [show Rel.slot a 7 = .agg (encJ y).toArray from (c.get 2 7 (by kernel_rfl))]
      refine (end_any y w HX.out.2).mono ?_
      rintro e w' ⟨rfl, hb, hd⟩
      exact ⟨_, rfl, _, rfl, hb, rfl, ⟨below_keep c.inv.1 hb, Nat.le_trans c.inv.2 hd⟩⟩
    · intro L a w c
      refine .inl ⟨Rel.wanted_free (by kernel_rfl) _, ?_⟩
      refine Rel.wp_cl _ _ _ rfl Try.func35 (by kernel_rfl) ?_
      show Calls _ _ #[Rel.slot a 6, Rel.slot a 8] w _
      rw [show Rel.slot a 6 = .int .i64 (endJ x.t) from (c.get 1 6 (by kernel_rfl)), show Rel.slot a 8 = .int .i64 (endJ y.t) from (c.get 3 8 (by kernel_rfl))]
      refine (compare_any _ _ w).mono ?_
      rintro e w' ⟨rfl, rfl⟩
      exact ⟨_, rfl, _, rfl, Rel.gr_refl _, rfl, c.inv⟩
    · intro L a w c
      refine .inl ⟨Rel.wanted_free (by kernel_rfl) _, ?_⟩
      exact Chn.wp_fa _ _ _ rfl (c.old 2 (v := .pointer (some ⟨B1, 0, none⟩)) (by kernel_rfl) (by kernel_rfl)) (by simp [go_sem]) ⟨_, rfl, Rel.gr_refl _, rfl, c.inv⟩
    · intro L a w c
      refine .inl ⟨Rel.wanted_free (by kernel_rfl) _, ?_⟩
      exact Rel.wp_ld _ _ rfl (c.get 5 10 (by kernel_rfl)) (run_ld2 (cell_keep c.inv.1 HD.out.1)) ⟨_, rfl, Rel.gr_refl _, rfl, c.inv⟩
    · intro L a w c
      refine .inl ⟨Rel.wanted_free (by kernel_rfl) _, ?_⟩
      exact Chn.wp_fa _ _ _ rfl (c.old 3 (v := .pointer (some ⟨B2, 0, none⟩)) (by kernel_rfl) (by kernel_rfl)) (by simp [go_sem]) ⟨_, rfl, Rel.gr_refl _, rfl, c.inv⟩
    · intro L a w c
      refine .inl ⟨Rel.wanted_free (by kernel_rfl) _, ?_⟩
      exact Rel.wp_ld _ _ rfl (c.get 7 12 (by kernel_rfl)) (run_ld2 (cell_keep c.inv.1 HD.out.2)) ⟨_, rfl, Rel.gr_refl _, rfl, c.inv⟩
    · intro L a w c
      refine .inl ⟨Rel.wanted_free (by kernel_rfl) _, ?_⟩
      refine Rel.wp_cl _ _ _ rfl Try.func35 (by kernel_rfl) ?_
      show Calls _ _ #[Rel.slot a 11, Rel.slot a 13] w _
      rw [show Rel.slot a 11 = .int .i64 x.t.id from (c.get 6 11 (by kernel_rfl)), show Rel.slot a 13 = .int .i64 y.t.id from (c.get 8 13 (by kernel_rfl))]
      refine (compare_any _ _ w).mono ?_
      rintro e w' ⟨rfl, rfl⟩
      exact ⟨_, rfl, _, rfl, Rel.gr_refl _, rfl, c.inv⟩
    · intro L a w c
      refine .inl ⟨Rel.wanted_free (by kernel_rfl) _, ?_⟩
      exact wp_two _ _ _ rfl (c.get 4 9 (by kernel_rfl)) (c.get 9 14 (by kernel_rfl)) (run_two _ _ w) ⟨_, rfl, below_alloc _ _, ⟨_, rfl, row_two w _ _⟩, ⟨below_keep c.inv.1 (below_alloc _ _), c.inv.2⟩⟩
    · intro L a w c
      refine .inl ⟨Rel.wanted_free (by kernel_rfl) _, ?_⟩
      obtain ⟨B, e', hr⟩ := c.get 10 15 (by kernel_rfl)
      refine Rel.wp_cl _ _ _ rfl Try.func34 (by kernel_rfl) ?_
      show Calls _ _ #[Rel.slot a 15] w _
      rw [show Rel.slot a 15 = _ from e']
      refine (or_any _ _ B w hr).mono ?_
      rintro e w' ⟨rfl, rfl⟩
      exact ⟨_, rfl, _, rfl, Rel.gr_refl _, rfl, c.inv⟩
    · intro L a w c
      refine .inl ⟨Rel.wanted_free (by kernel_rfl) _, ?_⟩
      exact Rel.wp_as _ rfl ⟨_, rfl, Rel.gr_refl _, (c.get 11 16 (by kernel_rfl)), c.inv⟩
  intro a w8 hbase hroom hdef hJ hV
  have s4 : Rel.slot a 4 = .int .i64 (orI (cmpI (endJ x.t) (endJ y.t)) (cmpI x.t.id y.t.id)) := hV 12 _ _ rfl rfl
  rw [Chn.act_puts [5, 6, 7, 8, 9, 10, 11, 12, 13, 14, 15, 16, 4] hbase hroom hdef (by kernel_rfl)]
  clear hbase hroom hdef hV
  simp only [List.foldl_cons, List.foldl_nil]
  generalize Rel.slot a 5 = u5 at *
  generalize Rel.slot a 6 = u6 at *
  generalize Rel.slot a 7 = u7 at *
  generalize Rel.slot a 8 = u8 at *
  generalize Rel.slot a 9 = u9 at *
  generalize Rel.slot a 10 = u10 at *
  generalize Rel.slot a 11 = u11 at *
  generalize Rel.slot a 12 = u12 at *
  generalize Rel.slot a 13 = u13 at *
  generalize Rel.slot a 14 = u14 at *
  generalize Rel.slot a 15 = u15 at *
  generalize Rel.slot a 16 = u16 at *
  rw [s4]
  clear s4
  simp only [Act.put, List.setIfInBounds_toArray, List.set_cons_succ, List.set_cons_zero]
  have HJ := Lib.hid (And.intro (below_keep HB.out.1 hJ.1) (Nat.le_trans HB.out.2 hJ.2))
  clear hJ
  go_wp2_with fail
  go_ret
  exact ⟨rfl, HJ.out⟩
end Go.Proofs.Ytcndihekpdebhaa.Job
/- Pool: small facts of powers and bits. -/
namespace Go.Proofs.Ytcndihekpdebhaa.Poo
set_option maxRecDepth 100000
set_option linter.unusedVariables false

theorem and_one (x : Int) : Go.bits .and .i64 x 1 = x % 2 := by
  unfold Go.bits
  have h1 : BitVec.ofInt IntKind.i64.bits 1 = 1#64 := rfl
  have h2 : ((BitVec.ofInt 64 x &&& 1#64).toNat : Int) = x % 2 := by
    rw [BitVec.toNat_and, BitVec.toNat_ofInt, show (1#64 : BitVec 64).toNat = 1 from rfl, Nat.and_one_is_mod]
    omega
  show IntKind.i64.wrap _ = _
  rw [h1]
  show IntKind.i64.wrap (((BitVec.ofInt 64 x &&& 1#64).toNat : Nat) : Int) = _
  rw [h2]
  have : 0 ≤ x % 2 ∧ x % 2 < 2 := by omega
  generalize x % 2 = y at this
  simp [IntKind.wrap_i64]
  omega
theorem two_pow {k : Nat} (h : k < 32) : ∃ P : Nat, P = 2 ^ k ∧ (2 : Int) ^ k = (P : Nat) ∧ 1 ≤ P ∧ P ≤ 2147483648 :=
  ⟨2 ^ k, rfl, by rw [Int.natCast_pow]; rfl, Nat.pow_pos (by decide), Nat.pow_le_pow_right (n := 2) (by decide) (show k ≤ 31 by omega)⟩
theorem two_le {k : Nat} (h : k ≤ 32) : 1 ≤ 2 ^ k ∧ 2 ^ k ≤ 4294967296 := ⟨Nat.pow_pos (by decide), Nat.pow_le_pow_right (n := 2) (by decide) h⟩
end Go.Proofs.Ytcndihekpdebhaa.Poo
/- Pool: bits of numbers of 64 bits. -/
namespace Go.Proofs.Ytcndihekpdebhaa.Poo
open Go
set_option linter.unusedVariables false

theorem of64 (a : Nat) (h : a < 18446744073709551616) : (BitVec.ofInt 64 (a : Int)).toNat = a := by
  rw [BitVec.ofInt_natCast, BitVec.toNat_ofNat]; exact Nat.mod_eq_of_lt h
theorem wrap_nat {n : Nat} (h : n < 4294967296) : IntKind.i64.wrap (n : Int) = (n : Int) := by
  simp [IntKind.wrap_i64]
  omega
theorem and64 {a b : Nat} (ha : a < 4294967296) (hb : b < 4294967296) : bits .and .i64 (a : Int) (b : Int) = ((a &&& b : Nat) : Int) := by
  have hx : a &&& b < 2 ^ 32 := Nat.and_lt_two_pow _ (by omega)
  show IntKind.i64.wrap ((BitVec.ofInt 64 (a : Int) &&& BitVec.ofInt 64 (b : Int)).toNat : Int) = _
  rw [BitVec.toNat_and, of64 a (by omega), of64 b (by omega), wrap_nat (by omega)]
theorem or64 {a b : Nat} (ha : a < 4294967296) (hb : b < 4294967296) : bits .or .i64 (a : Int) (b : Int) = ((a ||| b : Nat) : Int) := by
  have hx : a ||| b < 2 ^ 32 := Nat.or_lt_two_pow (by omega) (by omega)
  show IntKind.i64.wrap ((BitVec.ofInt 64 (a : Int) ||| BitVec.ofInt 64 (b : Int)).toNat : Int) = _
  rw [BitVec.toNat_or, of64 a (by omega), of64 b (by omega), wrap_nat (by omega)]
/-- The one without the other. -/
def less (u a : Nat) : Nat := u &&& (18446744073709551615 - a)
theorem less_bit (u a : Nat) (ha : a < 4294967296) (j : Nat) (hj : j < 32) : (less u a).testBit j = (u.testBit j && !a.testBit j) := by
  unfold less
  rw [Nat.testBit_and]
  have h : (18446744073709551615 - a).testBit j = !a.testBit j := by
    have h1 := Nat.testBit_two_pow_sub_succ (n := 64) (x := a) (by omega) j
    rw [show 2 ^ 64 - (a + 1) = 18446744073709551615 - a by omega] at h1
    rw [h1]
    simp
    omega
  rw [h]
theorem less_lt {u a : Nat} (h : u < 4294967296) : less u a < 4294967296 := Nat.lt_of_le_of_lt Nat.and_le_left h
theorem notand64 {a b : Nat} (ha : a < 4294967296) (hb : b < 4294967296) : bits .andNot .i64 (a : Int) (b : Int) = (less a b : Nat) := by
  have hx := less_lt (a := b) ha
  show IntKind.i64.wrap ((BitVec.ofInt 64 (a : Int) &&& ~~~BitVec.ofInt 64 (b : Int)).toNat : Int) = _
  rw [BitVec.toNat_and, BitVec.toNat_not, of64 a (by omega), of64 b (by omega)]
  show IntKind.i64.wrap ((less a b : Nat) : Int) = _
  rw [wrap_nat hx]
theorem bits_eq {a b : Nat} (ha : a < 4294967296) (hb : b < 4294967296) (h : ∀ j, j < 32 → a.testBit j = b.testBit j) : a = b := by
  refine Nat.eq_of_testBit_eq fun j => ?_
  by_cases hj : j < 32
  · exact h j hj
  · have hp : (4294967296 : Nat) ≤ 2 ^ j := show 2 ^ 32 ≤ 2 ^ j from Nat.pow_le_pow_right (by decide) (by omega)
    rw [Nat.testBit_lt_two_pow (by omega), Nat.testBit_lt_two_pow (by omega)]
theorem odd_part : ∀ (n k : Nat), 0 < n → n < 2 ^ k → ∃ p q, p < k ∧ n = 2 ^ p * (2 * q + 1)
  | n, 0, h, hk => by simp at hk; omega
  | n, k + 1, h, hk => by
    by_cases ho : n % 2 = 1
    · exact ⟨0, n / 2, by omega, by omega⟩
    · obtain ⟨p, q, hp, e⟩ := odd_part (n / 2) k (by omega) (by rw [Nat.pow_succ] at hk; omega)
      refine ⟨p + 1, q, by omega, ?_⟩
      rw [Nat.pow_succ, Nat.mul_right_comm, ← e]
      omega
theorem low64 {R : Nat} (h0 : 0 < R) (h : R < 4294967296) : ∃ p, p < 32 ∧ R.testBit p = true ∧ ((2 ^ p : Nat) : Int) ≤ bits .and .i64 (R : Int) (-(R : Int)) := by
  obtain ⟨p, q, hp, e⟩ := odd_part R 32 h0 (by simpa using h)
  have hpow : 0 < 2 ^ p := Nat.pow_pos (by decide)
  have hb1 : R.testBit p = true := by
    rw [Nat.testBit_eq_decide_div_mod_eq, e, Nat.mul_div_cancel_left _ hpow]
    simp
  have hneg : (BitVec.ofInt 64 (-(R : Int))).toNat = 18446744073709551616 - R := by
    rw [BitVec.toNat_ofInt]
    omega
  have hb2 : (18446744073709551616 - R).testBit p = true := by
    obtain ⟨d, hd⟩ : ∃ d, 64 = p + 1 + d := ⟨63 - p, by omega⟩
    have e64 : 18446744073709551616 = 2 ^ p * (2 * 2 ^ d) := by
      rw [show (18446744073709551616 : Nat) = 2 ^ 64 from rfl, hd, Nat.pow_add, Nat.pow_add, Nat.mul_assoc]
    have hq : 2 * q + 1 < 2 * 2 ^ d := by
      have h1 : 2 ^ p * (2 * q + 1) < 2 ^ p * (2 * 2 ^ d) := by rw [← e, ← e64]; omega
      exact Nat.lt_of_mul_lt_mul_left h1
    rw [Nat.testBit_eq_decide_div_mod_eq, e64, e, ← Nat.mul_sub, Nat.mul_div_cancel_left _ hpow]
    simp
    omega
  refine ⟨p, hp, hb1, ?_⟩
  have hx : R &&& (18446744073709551616 - R) < 4294967296 := Nat.lt_of_le_of_lt Nat.and_le_left h
  have hge : 2 ^ p ≤ R &&& (18446744073709551616 - R) := Nat.ge_two_pow_of_testBit (by rw [Nat.testBit_and, hb1, hb2]; rfl)
  have e2 : bits .and .i64 (R : Int) (-(R : Int)) = ((R &&& (18446744073709551616 - R) : Nat) : Int) := by
    show IntKind.i64.wrap ((BitVec.ofInt 64 (R : Int) &&& BitVec.ofInt 64 (-(R : Int))).toNat : Int) = _
    rw [BitVec.toNat_and, of64 R (by omega), hneg, wrap_nat hx]
  rw [e2]
  exact Int.ofNat_le.2 hge
end Go.Proofs.Ytcndihekpdebhaa.Poo
/- Pool: the landed program's has, Count, All. -/
namespace Go.Proofs.Ytcndihekpdebhaa.Poo
set_option maxRecDepth 100000
open Go.RowKit
open Go.Sort
open Kit
open Tre (inI)
set_option linter.unusedVariables false

theorem or_add {V k : Nat} (h : V < 2 ^ k) : V ||| 2 ^ k = V + 2 ^ k := by
  have := Nat.two_pow_add_eq_or_of_lt h 1
  rw [Nat.mul_one] at this
  rw [Nat.or_comm, ← this, Nat.add_comm]
theorem has_any (W : World) (m : Int) {k : Nat} (hk : k < 32) : Calls Try.prog 59 #[.int .i64 m, .int .i64 (k : Nat)] W fun e W' => e = .returned (.bool ((lo m).testBit k)) ∧ W = W' := by
  have hb : (Go.bits .and .i64 (m / 2 ^ k) 1 == 1) = (lo m).testBit k := by
    rw [and_one, lo_bit m hk]; rfl
  have HB := Lib.hid hb
  clear hb
  go_enter Try.func59, Try.ntmps59
  go_wp2_with fail
  go_ret
  exact ⟨by rw [← HB.out]; rfl, rfl⟩
theorem count_any (W : World) (m : Int) : Calls Try.prog 56 #[.int .i64 m] W fun e W' => e = .returned (.int .i64 (cnt (lo m) : Nat)) ∧ W = W' := by
  go_enter Try.func56, Try.ntmps56
  go_wp2_with fail
  go_loop [3, 4, 5] (fun v xv iv => ∃ k : Nat, k ≤ 32 ∧ iv = .int .i64 (k : Nat) ∧ v = .int .i64 (cntTo (lo m) k : Nat)) (fun _ _ iv => 32 - (intOf iv).toNat)
  case atStart => exact ⟨0, by omega, rfl, rfl⟩
  case round =>
    obtain ⟨k, hk, rfl, rfl⟩ := hrel
    obtain ⟨c, hc⟩ : ∃ c, c = cntTo (lo m) k := ⟨_, rfl⟩
    have hcl := cnt_le (lo m) k
    rw [← hc] at hcl ⊢
    by_cases hlt : k < 32
    · have HH := Lib.hid (has_any W m hlt)
      have hn : cntTo (lo m) (k + 1) = c + (if (lo m).testBit k then 1 else 0) := by rw [cntTo, hc]
      have HN := Lib.hid hn
      clear hn hc
      go_wp2_with fail
      refine HH.out.mono ?_
      rintro e w1 ⟨rfl, rfl⟩
      cases hb : (lo m).testBit k with
      | true =>
        rw [hb] at HN
        clear hb HH
        go_wp2_with fail
        go_round
        case rel => exact ⟨k + 1, by omega, by go_num, by rw [HN.out]; go_num⟩
        case measure => simp [intOf]; omega
      | false =>
        rw [hb] at HN
        clear hb HH
        go_wp2_with fail
        go_round
        case rel => exact ⟨k + 1, by omega, by go_num, by rw [HN.out]; rfl⟩
        case measure => simp [intOf]; omega
    · obtain rfl : k = 32 := by omega
      have HC := Lib.hid hc
      clear hc
      go_wp2_with fail
      go_ret
      exact ⟨by rw [HC.out]; rfl, rfl⟩
theorem all_any (W : World) (n : Int) (hn : inI n) : Calls Try.prog 55 #[.int .i64 n] W fun e W' => e = .returned (.int .i64 (allN n : Nat)) ∧ W = W' := by
  have hn1 := hn.1
  have hn2 := hn.2
  clear hn
  by_cases hm : 32 < n
  · go_enter Try.func55, Try.ntmps55
    go_wp2_with fail
    go_loop [3, 4, 7] (fun v xv iv => ∃ k V : Nat, k ≤ 32 ∧ k ≤ n.toNat ∧ iv = .int .i64 (k : Nat) ∧ v = .int .i64 (V : Nat) ∧ V + 1 = 2 ^ k) (fun _ _ iv => 32 - (intOf iv).toNat)
    case atStart => exact ⟨0, 0, by omega, by omega, rfl, rfl, rfl⟩
    case round =>
      obtain ⟨k, V, hk, hkn, rfl, rfl, hV⟩ := hrel
      have hV2 := two_le hk
      rw [← hV] at hV2
      have HV := Lib.hid hV
      have hVb : V ≤ 4294967295 := by omega
      have hlt2 : V < 2 ^ k := by omega
      clear hV hV2
      by_cases hlt : k < 32
      · obtain ⟨P, hP, hP2, hP3, hP4⟩ := two_pow (show k < 32 by omega)
        have HN := Lib.hid (show V + P + 1 = 2 ^ (k + 1) by rw [Nat.pow_succ, ← hP]; have := HV.out; omega)
        have hor : Go.bits .or .i64 (V : Int) (P : Int) = ((V + P : Nat) : Int) := by
          rw [or64 (by omega) (by omega), hP, or_add hlt2]
        clear hP hlt2
        go_wp2_with fail
        go_round
        case rel => exact ⟨k + 1, V + P, by omega, by omega, by go_num, by go_num, HN.out⟩
        case measure => simp [intOf]; omega
      · have HF := Lib.hid (show V = allN n by
          unfold allN
          rw [show min 32 n.toNat = k by omega]
          have := HV.out
          omega)
        clear hlt2
        go_wp2_with fail
        go_ret
        exact ⟨by rw [HF.out]; rfl, rfl⟩
  · go_enter Try.func55, Try.ntmps55
    go_wp2_with fail
    go_loop [3, 4, 7] (fun v xv iv => ∃ k V : Nat, k ≤ 32 ∧ k ≤ n.toNat ∧ iv = .int .i64 (k : Nat) ∧ v = .int .i64 (V : Nat) ∧ V + 1 = 2 ^ k) (fun _ _ iv => 32 - (intOf iv).toNat)
    case atStart => exact ⟨0, 0, by omega, by omega, rfl, rfl, rfl⟩
    case round =>
      obtain ⟨k, V, hk, hkn, rfl, rfl, hV⟩ := hrel
      have hV2 := two_le hk
      rw [← hV] at hV2
      have HV := Lib.hid hV
      have hVb : V ≤ 4294967295 := by omega
      have hlt2 : V < 2 ^ k := by omega
      clear hV hV2
      by_cases hlt : (k : Int) < n
      · obtain ⟨P, hP, hP2, hP3, hP4⟩ := two_pow (show k < 32 by omega)
        have HN := Lib.hid (show V + P + 1 = 2 ^ (k + 1) by rw [Nat.pow_succ, ← hP]; have := HV.out; omega)
        have hor : Go.bits .or .i64 (V : Int) (P : Int) = ((V + P : Nat) : Int) := by
          rw [or64 (by omega) (by omega), hP, or_add hlt2]
        clear hP hlt2
        go_wp2_with fail
        go_round
        case rel => exact ⟨k + 1, V + P, by omega, by omega, by go_num, by go_num, HN.out⟩
        case measure => simp [intOf]; omega
      · have HF := Lib.hid (show V = allN n by
          unfold allN
          rw [show min 32 n.toNat = k by omega]
          have := HV.out
          omega)
        clear hlt2
        go_wp2_with fail
        go_ret
        exact ⟨by rw [HF.out]; rfl, rfl⟩
end Go.Proofs.Ytcndihekpdebhaa.Poo
/- Job, the landed: may a job be? Its numbers, its nodes. -/
namespace Go.Proofs.Ytcndihekpdebhaa.Job
set_option maxRecDepth 100000
open Go.RowKit
open Go.Sort
open Kit
open Tre (Lst inI lst_keep lst_take lst_at lst_new lst_none run_ld2)
set_option linter.unusedVariables false
variable {w w' : World}

def wi (n lo hi : Int) : Bool := decide (lo ≤ n) && decide (n ≤ hi)
theorem within_any (n lo hi : Int) (W : World) : Calls Try.prog 45 #[.int .i64 n, .int .i64 lo, .int .i64 hi] W fun e w' => e = .returned (.bool (wi n lo hi)) ∧ W = w' := by
  by_cases h1 : lo ≤ n
  · by_cases h2 : n ≤ hi
    · have HB := Lib.hid (show wi n lo hi = true by unfold wi; rw [decide_eq_true h1, decide_eq_true h2]; rfl)
      go_enter Try.func45, Try.ntmps45
      go_wp2_with fail
      go_ret
      exact ⟨by rw [HB.out]; rfl, rfl⟩
    · have HB := Lib.hid (show wi n lo hi = false by unfold wi; rw [decide_eq_false h2, Bool.and_false])
      go_enter Try.func45, Try.ntmps45
      go_wp2_with fail
      go_ret
      exact ⟨by rw [HB.out]; rfl, rfl⟩
  · have HB := Lib.hid (show wi n lo hi = false by unfold wi; rw [decide_eq_false h1, Bool.false_and])
    go_enter Try.func45, Try.ntmps45
    go_wp2_with fail
    go_ret
    exact ⟨by rw [HB.out]; rfl, rfl⟩

/-! ### What one wants -/

def wantsB (j : Jb) : Bool := decide (1 ≤ j.id) && wi j.fund 0 7 && wi j.nodes 1 32 && wi j.wall 1 1048576 && wi j.qos 0 7 && wi j.prio 0 1048576 && wi j.price 0 1099511627776
set_option maxHeartbeats 8000000 in
theorem wants_any (x : Jv) (W : World) : Calls Try.prog 36 #[.agg (encJ x).toArray] W fun e w' => e = .returned (.bool (wantsB x.t)) ∧ Below W.heap.size W w' := by
  obtain ⟨⟨x0, x1, x2, x3, x4, x5, x6, x7, x8, x9, x10, xd⟩, xa, xn, xc⟩ := x
  have HB := Lib.hid (below_alloc W (.cells #[.int .i64 x0, .int .i64 x1, .int .i64 x2, .int .i64 x3, .int .i64 x4, .int .i64 x5, .int .i64 x6, .int .i64 x7, .int .i64 x8, .int .i64 x9, .int .i64 x10, .slice xa xn xc] 40))
  have hE : wantsB (⟨x0, x1, x2, x3, x4, x5, x6, x7, x8, x9, x10, xd⟩ : Jb) = (decide (1 ≤ x0) && wi x1 0 7 && wi x2 1 32 && wi x3 1 1048576 && wi x4 0 7 && wi x5 0 1048576 && wi x6 0 1099511627776) := rfl
  unfold encJ
  by_cases h1 : 1 ≤ x0
  · have d1 : decide (1 ≤ x0) = true := decide_eq_true h1
    rw [d1] at hE
    rcases Bool.eq_false_or_eq_true (wi x1 0 7) with h2 | h2
    rotate_left
    · rw [h2] at hE
      have H2 := Lib.hid h2
      have HE := Lib.hid (show wantsB (⟨x0, x1, x2, x3, x4, x5, x6, x7, x8, x9, x10, xd⟩ : Jb) = false by rw [hE]; simp)
      clear h2 d1
      clear hE
      go_enter Try.func36, Try.ntmps36
      go_wp2_with fail
      refine (within_any _ _ _ _).mono ?_
      rintro e w1 ⟨rfl, rfl⟩
      rw [H2.out]
      go_wp2_with fail
      go_ret
      exact ⟨by rw [HE.out]; rfl, HB.out⟩
    rw [h2] at hE
    have H2 := Lib.hid h2
    clear h2
    rcases Bool.eq_false_or_eq_true (wi x2 1 32) with h3 | h3
    rotate_left
    · rw [h3] at hE
      have H3 := Lib.hid h3
      have HE := Lib.hid (show wantsB (⟨x0, x1, x2, x3, x4, x5, x6, x7, x8, x9, x10, xd⟩ : Jb) = false by rw [hE]; simp)
      clear h3 d1
      clear hE
      go_enter Try.func36, Try.ntmps36
      go_wp2_with fail
      refine (within_any _ _ _ _).mono ?_
      rintro e w1 ⟨rfl, rfl⟩
      rw [H2.out]
      go_wp2_with fail
      refine (within_any _ _ _ _).mono ?_
      rintro e w1 ⟨rfl, rfl⟩
      rw [H3.out]
      go_wp2_with fail
      go_ret
      exact ⟨by rw [HE.out]; rfl, HB.out⟩
    rw [h3] at hE
    have H3 := Lib.hid h3
    clear h3
    rcases Bool.eq_false_or_eq_true (wi x3 1 1048576) with h4 | h4
    rotate_left
    · rw [h4] at hE
      have H4 := Lib.hid h4
      have HE := Lib.hid (show wantsB (⟨x0, x1, x2, x3, x4, x5, x6, x7, x8, x9, x10, xd⟩ : Jb) = false by rw [hE]; simp)
      clear h4 d1
      clear hE
      go_enter Try.func36, Try.ntmps36
      go_wp2_with fail
      refine (within_any _ _ _ _).mono ?_
      rintro e w1 ⟨rfl, rfl⟩
      rw [H2.out]
      go_wp2_with fail
      refine (within_any _ _ _ _).mono ?_
      rintro e w1 ⟨rfl, rfl⟩
      rw [H3.out]
      go_wp2_with fail
      refine (within_any _ _ _ _).mono ?_
      rintro e w1 ⟨rfl, rfl⟩
      rw [H4.out]
      go_wp2_with fail
      go_ret
      exact ⟨by rw [HE.out]; rfl, HB.out⟩
    rw [h4] at hE
    have H4 := Lib.hid h4
    clear h4
    rcases Bool.eq_false_or_eq_true (wi x4 0 7) with h5 | h5
    rotate_left
    · rw [h5] at hE
      have H5 := Lib.hid h5
      have HE := Lib.hid (show wantsB (⟨x0, x1, x2, x3, x4, x5, x6, x7, x8, x9, x10, xd⟩ : Jb) = false by rw [hE]; simp)
      clear h5 d1
      clear hE
      go_enter Try.func36, Try.ntmps36
      go_wp2_with fail
      refine (within_any _ _ _ _).mono ?_
      rintro e w1 ⟨rfl, rfl⟩
      rw [H2.out]
      go_wp2_with fail
      refine (within_any _ _ _ _).mono ?_
      rintro e w1 ⟨rfl, rfl⟩
      rw [H3.out]
      go_wp2_with fail
      refine (within_any _ _ _ _).mono ?_
      rintro e w1 ⟨rfl, rfl⟩
      rw [H4.out]
      go_wp2_with fail
      refine (within_any _ _ _ _).mono ?_
      rintro e w1 ⟨rfl, rfl⟩
      rw [H5.out]
      go_wp2_with fail
      go_ret
      exact ⟨by rw [HE.out]; rfl, HB.out⟩
    rw [h5] at hE
    have H5 := Lib.hid h5
    clear h5
    rcases Bool.eq_false_or_eq_true (wi x5 0 1048576) with h6 | h6
    rotate_left
    · rw [h6] at hE
      have H6 := Lib.hid h6
      have HE := Lib.hid (show wantsB (⟨x0, x1, x2, x3, x4, x5, x6, x7, x8, x9, x10, xd⟩ : Jb) = false by rw [hE]; simp)
      clear h6 d1
      clear hE
      go_enter Try.func36, Try.ntmps36
      go_wp2_with fail
      refine (within_any _ _ _ _).mono ?_
      rintro e w1 ⟨rfl, rfl⟩
      rw [H2.out]
      go_wp2_with fail
      refine (within_any _ _ _ _).mono ?_
      rintro e w1 ⟨rfl, rfl⟩
      rw [H3.out]
      go_wp2_with fail
      refine (within_any _ _ _ _).mono ?_
      rintro e w1 ⟨rfl, rfl⟩
      rw [H4.out]
      go_wp2_with fail
      refine (within_any _ _ _ _).mono ?_
      rintro e w1 ⟨rfl, rfl⟩
      rw [H5.out]
      go_wp2_with fail
      refine (within_any _ _ _ _).mono ?_
      rintro e w1 ⟨rfl, rfl⟩
      rw [H6.out]
      go_wp2_with fail
      go_ret
      exact ⟨by rw [HE.out]; rfl, HB.out⟩
    rw [h6] at hE
    have H6 := Lib.hid h6
    clear h6
    rcases Bool.eq_false_or_eq_true (wi x6 0 1099511627776) with h7 | h7
    rotate_left
    · rw [h7] at hE
      have H7 := Lib.hid h7
      have HE := Lib.hid (show wantsB (⟨x0, x1, x2, x3, x4, x5, x6, x7, x8, x9, x10, xd⟩ : Jb) = false by rw [hE]; simp)
      clear h7 d1
      clear hE
      go_enter Try.func36, Try.ntmps36
      go_wp2_with fail
      refine (within_any _ _ _ _).mono ?_
      rintro e w1 ⟨rfl, rfl⟩
      rw [H2.out]
      go_wp2_with fail
      refine (within_any _ _ _ _).mono ?_
      rintro e w1 ⟨rfl, rfl⟩
      rw [H3.out]
      go_wp2_with fail
      refine (within_any _ _ _ _).mono ?_
      rintro e w1 ⟨rfl, rfl⟩
      rw [H4.out]
      go_wp2_with fail
      refine (within_any _ _ _ _).mono ?_
      rintro e w1 ⟨rfl, rfl⟩
      rw [H5.out]
      go_wp2_with fail
      refine (within_any _ _ _ _).mono ?_
      rintro e w1 ⟨rfl, rfl⟩
      rw [H6.out]
      go_wp2_with fail
      refine (within_any _ _ _ _).mono ?_
      rintro e w1 ⟨rfl, rfl⟩
      rw [H7.out]
      go_wp2_with fail
      go_ret
      exact ⟨by rw [HE.out]; rfl, HB.out⟩
    rw [h7] at hE
    have H7 := Lib.hid h7
    clear h7
    have HE := Lib.hid (show wantsB (⟨x0, x1, x2, x3, x4, x5, x6, x7, x8, x9, x10, xd⟩ : Jb) = true by rw [hE]; rfl)
    clear d1
    clear hE
    go_enter Try.func36, Try.ntmps36
    go_wp2_with fail
    refine (within_any _ _ _ _).mono ?_
    rintro e w1 ⟨rfl, rfl⟩
    rw [H2.out]
    go_wp2_with fail
    refine (within_any _ _ _ _).mono ?_
    rintro e w1 ⟨rfl, rfl⟩
    rw [H3.out]
    go_wp2_with fail
    refine (within_any _ _ _ _).mono ?_
    rintro e w1 ⟨rfl, rfl⟩
    rw [H4.out]
    go_wp2_with fail
    refine (within_any _ _ _ _).mono ?_
    rintro e w1 ⟨rfl, rfl⟩
    rw [H5.out]
    go_wp2_with fail
    refine (within_any _ _ _ _).mono ?_
    rintro e w1 ⟨rfl, rfl⟩
    rw [H6.out]
    go_wp2_with fail
    refine (within_any _ _ _ _).mono ?_
    rintro e w1 ⟨rfl, rfl⟩
    rw [H7.out]
    go_wp2_with fail
    go_ret
    exact ⟨by rw [HE.out]; rfl, HB.out⟩
  · have HE := Lib.hid (show wantsB (⟨x0, x1, x2, x3, x4, x5, x6, x7, x8, x9, x10, xd⟩ : Jb) = false by rw [hE, decide_eq_false h1]; rfl)
    clear hE
    go_enter Try.func36, Try.ntmps36
    go_wp2_with fail
    go_ret
    exact ⟨by rw [HE.out]; rfl, HB.out⟩

/-! ### Its nodes -/

theorem and_all (x : Int) : bits BinOp.and IntKind.i64 x 4294967295 = x % 4294967296 := by
  show IntKind.i64.wrap ((BitVec.ofInt 64 x &&& BitVec.ofInt 64 4294967295).toNat : Int) = _
  rw [BitVec.toNat_and, BitVec.toNat_ofInt, show (BitVec.ofInt 64 4294967295).toNat = 2 ^ 32 - 1 from rfl, Nat.and_two_pow_sub_one_eq_mod]
  have h : ((((x % ((2 ^ 64 : Nat) : Int)).toNat % 2 ^ 32 : Nat)) : Int) = x % 4294967296 := by omega
  rw [h, IntKind.wrap_i64]
  omega
theorem all32 (W : World) : Calls Try.prog 55 #[.int .i64 32] W fun e w' => e = .returned (.int .i64 4294967295) ∧ W = w' := by
  refine (Poo.all_any W 32 (by unfold inI; omega)).mono ?_
  rintro e w' ⟨rfl, rfl⟩
  exact ⟨rfl, rfl⟩
def ofN (m : Int) : Bool := decide (0 ≤ m ∧ m < 4294967296)
theorem ofN_eq (m : Int) : (bits BinOp.and IntKind.i64 m 4294967295 == m) = ofN m := by
  rw [and_all]
  unfold ofN
  rw [Bool.eq_iff_iff, beq_iff_eq, decide_eq_true_iff]
  omega
def nodesB (j : Jb) : Bool := ofN j.mask && (((Poo.cnt (Poo.lo j.mask) : Nat) : Int) == j.nodes)
set_option maxHeartbeats 4000000 in
theorem nodes_any (x : Jv) (W : World) : Calls Try.prog 46 #[.agg (encJ x).toArray] W fun e w' => e = .returned (.bool (nodesB x.t)) ∧ Below W.heap.size W w' := by
  obtain ⟨w9, hw9⟩ : ∃ z, z = W.alloc (.cells (encJ x).toArray 40) := ⟨_, rfl⟩
  obtain ⟨B1, hB1⟩ : ∃ z, z = W.heap.size := ⟨_, rfl⟩
  have hk : Arr.Blk w9 B1 40 (encJ x) := by rw [hw9, hB1]; exact blk_boxJ W x
  obtain ⟨xm, hxm⟩ : ∃ z, z = x.t.mask := ⟨_, rfl⟩
  obtain ⟨xn, hxn⟩ : ∃ z, z = x.t.nodes := ⟨_, rfl⟩
  have HC := Lib.hid (show w9.cell? ⟨B1, 9, none⟩ = some (.int .i64 xm) ∧ w9.cell? ⟨B1, 2, none⟩ = some (.int .i64 xn) by rw [hxm, hxn]; exact ⟨Arr.blk_cell hk 9, Arr.blk_cell hk 2⟩)
  have HB := Lib.hid (show Below W.heap.size W w9 by rw [hw9]; exact below_alloc W _)
  have HE := Lib.hid (show nodesB x.t = (ofN xm && (((Poo.cnt (Poo.lo xm) : Nat) : Int) == xn)) by rw [hxm, hxn]; rfl)
  have HW := Lib.hid (And.intro hw9 hB1)
  clear hw9 hB1 hk hxm hxn
  go_enter Try.func46, Try.ntmps46
  go_wp2_with fail
  rw [← HW.out.1, ← HW.out.2]
  refine Rel.wp_region_rel (G := Rel.Gr) (Rel.tab [.is (.pointer (some ⟨B1, 9, none⟩)), .is (.int .i64 xm), .is (.int .i64 4294967295), .is (.int .i64 (bits BinOp.and IntKind.i64 xm 4294967295)), .is (.pointer (some ⟨B1, 9, none⟩)), .is (.int .i64 xm), .is (.bool (bits BinOp.and IntKind.i64 xm 4294967295 == xm)), .is (.bool (bits BinOp.and IntKind.i64 xm 4294967295 == xm))]) (fun _ w => Below w9.heap.size w9 w) (by kernel_rfl) (by kernel_rfl) (by kernel_rfl) (by kernel_rfl) (fun w => Rel.gr_refl _) (below_drew _) ?_ ?_
  · refine ⟨?_, ?_, ?_, ?_, ?_, ?_, ?_, ?_, trivial⟩
    · intro L a w c
      refine .inl ⟨Rel.wanted_free (by kernel_rfl) _, ?_⟩
      exact Chn.wp_fa _ _ _ rfl (c.old 1 (v := .pointer (some ⟨B1, 0, none⟩)) (by kernel_rfl) (by kernel_rfl)) (by simp [go_sem]) ⟨_, rfl, Rel.gr_refl _, rfl, c.inv⟩
    · intro L a w c
      refine .inl ⟨Rel.wanted_free (by kernel_rfl) _, ?_⟩
      exact Rel.wp_ld _ _ rfl (c.get 0 4 (by kernel_rfl)) (run_ld2 (cell_keep c.inv HC.out.1)) ⟨_, rfl, Rel.gr_refl _, rfl, c.inv⟩
    · intro L a w c
      refine .inl ⟨Rel.wanted_free (by kernel_rfl) _, ?_⟩
      refine Rel.wp_cl _ _ _ rfl Try.func55 (by kernel_rfl) ?_
      show Calls _ _ #[.int .i64 32] w _
      refine (all32 w).mono ?_
      rintro e w' ⟨rfl, rfl⟩
      exact ⟨_, rfl, _, rfl, Rel.gr_refl _, rfl, c.inv⟩
    · intro L a w c
      refine .inl ⟨Rel.wanted_free (by kernel_rfl) _, ?_⟩
      exact Rel.wp_bo _ _ _ _ _ rfl (u := .int .i64 (bits BinOp.and IntKind.i64 xm 4294967295)) (c.get 1 5 (by kernel_rfl)) (c.get 2 6 (by kernel_rfl)) (by simp [go_sem]) ⟨_, rfl, Rel.gr_refl _, rfl, c.inv⟩
    · intro L a w c
      refine .inl ⟨Rel.wanted_free (by kernel_rfl) _, ?_⟩
      exact Chn.wp_fa _ _ _ rfl (c.old 1 (v := .pointer (some ⟨B1, 0, none⟩)) (by kernel_rfl) (by kernel_rfl)) (by simp [go_sem]) ⟨_, rfl, Rel.gr_refl _, rfl, c.inv⟩
    · intro L a w c
      refine .inl ⟨Rel.wanted_free (by kernel_rfl) _, ?_⟩
      exact Rel.wp_ld _ _ rfl (c.get 4 8 (by kernel_rfl)) (run_ld2 (cell_keep c.inv HC.out.1)) ⟨_, rfl, Rel.gr_refl _, rfl, c.inv⟩
    · intro L a w c
      refine .inl ⟨Rel.wanted_free (by kernel_rfl) _, ?_⟩
      exact Rel.wp_bo _ _ _ _ _ rfl (u := .bool (bits BinOp.and IntKind.i64 xm 4294967295 == xm)) (c.get 3 7 (by kernel_rfl)) (c.get 5 9 (by kernel_rfl)) (by simp [go_sem]) ⟨_, rfl, Rel.gr_refl _, rfl, c.inv⟩
    · intro L a w c
      refine .inl ⟨Rel.wanted_free (by kernel_rfl) _, ?_⟩
      exact Rel.wp_as _ rfl ⟨_, rfl, Rel.gr_refl _, (c.get 6 10 (by kernel_rfl)), c.inv⟩
  intro a w8 hbase hroom hdef hJ hV
  have s3 : Rel.slot a 3 = .bool (bits BinOp.and IntKind.i64 xm 4294967295 == xm) := hV 7 _ _ rfl rfl
  rw [Chn.act_puts [4, 5, 6, 7, 8, 9, 10, 3] hbase hroom hdef (by kernel_rfl)]
  clear hbase hroom hdef hV
  simp only [List.foldl_cons, List.foldl_nil]
  generalize Rel.slot a 4 = u4 at *
  generalize Rel.slot a 5 = u5 at *
  generalize Rel.slot a 6 = u6 at *
  generalize Rel.slot a 7 = u7 at *
  generalize Rel.slot a 8 = u8 at *
  generalize Rel.slot a 9 = u9 at *
  generalize Rel.slot a 10 = u10 at *
  rw [s3]
  clear s3
  simp only [Act.put, List.setIfInBounds_toArray, List.set_cons_succ, List.set_cons_zero]
  rw [ofN_eq]
  have HJ := Lib.hid (below_keep HB.out hJ)
  have HD := Lib.hid (And.intro (cell_keep hJ HC.out.1) (cell_keep hJ HC.out.2))
  clear hJ
  cases hb : ofN xm with
  | true =>
    rw [hb] at HE
    clear hb
    go_wp2_with fail
    refine Rel.wp_region_rel (G := Rel.Gr) (Rel.tab [.is (.bool true), .is (.bool true), .is (.pointer (some ⟨B1, 9, none⟩)), .is (.int .i64 xm), .is (.int .i64 (Poo.cnt (Poo.lo xm) : Nat)), .is (.pointer (some ⟨B1, 2, none⟩)), .is (.int .i64 xn), .is (.bool (((Poo.cnt (Poo.lo xm) : Nat) : Int) == xn)), .is (.bool (((Poo.cnt (Poo.lo xm) : Nat) : Int) == xn)), .is (.bool (((Poo.cnt (Poo.lo xm) : Nat) : Int) == xn))]) (fun _ w => Below w8.heap.size w8 w) (by kernel_rfl) (by kernel_rfl) (by kernel_rfl) (by kernel_rfl) (fun w => Rel.gr_refl _) (below_drew _) ?_ ?_
    · refine ⟨?_, ?_, ?_, ?_, ?_, ?_, ?_, ?_, ?_, ?_, trivial⟩
      · intro L a w c
        refine .inl ⟨Rel.wanted_free (by kernel_rfl) _, ?_⟩
        exact Rel.wp_mv _ rfl ⟨_, rfl, Rel.gr_refl _, (c.old 3 (v := .bool true) (by kernel_rfl) (by kernel_rfl)), c.inv⟩
      · intro L a w c
        refine .inl ⟨Rel.wanted_free (by kernel_rfl) _, ?_⟩
        exact Rel.wp_mv _ rfl ⟨_, rfl, Rel.gr_refl _, (c.get 0 11 (by kernel_rfl)), c.inv⟩
      · intro L a w c
        refine .inl ⟨Rel.wanted_by (j := 1) (b := true) (d := 12) (by kernel_rfl) (c.get 1 12 (by kernel_rfl)), ?_⟩
        exact Chn.wp_fa _ _ _ rfl (c.old 1 (v := .pointer (some ⟨B1, 0, none⟩)) (by kernel_rfl) (by kernel_rfl)) (by simp [go_sem]) ⟨_, rfl, Rel.gr_refl _, rfl, c.inv⟩
      · intro L a w c
        refine .inl ⟨Rel.wanted_by (j := 1) (b := true) (d := 12) (by kernel_rfl) (c.get 1 12 (by kernel_rfl)), ?_⟩
        exact Rel.wp_ld _ _ rfl (c.get 2 13 (by kernel_rfl)) (run_ld2 (cell_keep c.inv HD.out.1)) ⟨_, rfl, Rel.gr_refl _, rfl, c.inv⟩
      · intro L a w c
        refine .inl ⟨Rel.wanted_by (j := 1) (b := true) (d := 12) (by kernel_rfl) (c.get 1 12 (by kernel_rfl)), ?_⟩
        refine Rel.wp_cl _ _ _ rfl Try.func56 (by kernel_rfl) ?_
        show Calls _ _ #[Rel.slot a 14] w _
        rw [show Rel.slot a 14 = .int .i64 xm from (c.get 3 14 (by kernel_rfl))]
        refine (Poo.count_any w xm).mono ?_
        rintro e w' ⟨rfl, rfl⟩
        exact ⟨_, rfl, _, rfl, Rel.gr_refl _, rfl, c.inv⟩
      · intro L a w c
        refine .inl ⟨Rel.wanted_by (j := 1) (b := true) (d := 12) (by kernel_rfl) (c.get 1 12 (by kernel_rfl)), ?_⟩
        exact Chn.wp_fa _ _ _ rfl (c.old 1 (v := .pointer (some ⟨B1, 0, none⟩)) (by kernel_rfl) (by kernel_rfl)) (by simp [go_sem]) ⟨_, rfl, Rel.gr_refl _, rfl, c.inv⟩
      · intro L a w c
        refine .inl ⟨Rel.wanted_by (j := 1) (b := true) (d := 12) (by kernel_rfl) (c.get 1 12 (by kernel_rfl)), ?_⟩
        exact Rel.wp_ld _ _ rfl (c.get 5 16 (by kernel_rfl)) (run_ld2 (cell_keep c.inv HD.out.2)) ⟨_, rfl, Rel.gr_refl _, rfl, c.inv⟩
      · intro L a w c
        refine .inl ⟨Rel.wanted_by (j := 1) (b := true) (d := 12) (by kernel_rfl) (c.get 1 12 (by kernel_rfl)), ?_⟩
        exact Rel.wp_bo _ _ _ _ _ rfl (u := .bool (((Poo.cnt (Poo.lo xm) : Nat) : Int) == xn)) (c.get 4 15 (by kernel_rfl)) (c.get 6 17 (by kernel_rfl)) (by simp [go_sem]) ⟨_, rfl, Rel.gr_refl _, rfl, c.inv⟩
      · intro L a w c
        refine .inl ⟨Rel.wanted_free (by kernel_rfl) _, ?_⟩
        exact Rel.wp_pk _ _ _ rfl (b := true) (c.get 1 12 (by kernel_rfl)) ⟨_, rfl, Rel.gr_refl _, (c.get 7 18 (by kernel_rfl)), c.inv⟩
      · intro L a w c
        refine .inl ⟨Rel.wanted_free (by kernel_rfl) _, ?_⟩
        exact Rel.wp_as _ rfl ⟨_, rfl, Rel.gr_refl _, (c.get 8 19 (by kernel_rfl)), c.inv⟩
    intro a w7 hbase hroom hdef hJ hV
    have s2 : Rel.slot a 2 = .bool (((Poo.cnt (Poo.lo xm) : Nat) : Int) == xn) := hV 9 _ _ rfl rfl
    rw [Chn.act_puts [11, 12, 13, 14, 15, 16, 17, 18, 19, 2] hbase hroom hdef (by kernel_rfl)]
    clear hbase hroom hdef hV
    simp only [List.foldl_cons, List.foldl_nil]
    generalize Rel.slot a 11 = u11 at *
    generalize Rel.slot a 12 = u12 at *
    generalize Rel.slot a 13 = u13 at *
    generalize Rel.slot a 14 = u14 at *
    generalize Rel.slot a 15 = u15 at *
    generalize Rel.slot a 16 = u16 at *
    generalize Rel.slot a 17 = u17 at *
    generalize Rel.slot a 18 = u18 at *
    generalize Rel.slot a 19 = u19 at *
    rw [s2]
    clear s2
    simp only [Act.put, List.setIfInBounds_toArray, List.set_cons_succ, List.set_cons_zero]
    have HJ2 := Lib.hid (below_keep HJ.out hJ)
    clear hJ
    go_wp2_with fail
    go_ret
    exact ⟨by rw [HE.out]; rfl, HJ2.out⟩
  | false =>
    rw [hb] at HE
    clear hb
    go_wp2_with fail
    refine Rel.wp_region_rel (G := Rel.Gr) (Rel.tab [.is (.bool false), .is (.bool false), .is undef, .is undef, .is undef, .is undef, .is undef, .is undef, .is (.bool false), .is (.bool false)]) (fun _ w => Below w8.heap.size w8 w) (by kernel_rfl) (by kernel_rfl) (by kernel_rfl) (by kernel_rfl) (fun w => Rel.gr_refl _) (below_drew _) ?_ ?_
    · refine ⟨?_, ?_, ?_, ?_, ?_, ?_, ?_, ?_, ?_, ?_, trivial⟩
      · intro L a w c
        refine .inl ⟨Rel.wanted_free (by kernel_rfl) _, ?_⟩
        exact Rel.wp_mv _ rfl ⟨_, rfl, Rel.gr_refl _, (c.old 3 (v := .bool false) (by kernel_rfl) (by kernel_rfl)), c.inv⟩
      · intro L a w c
        refine .inl ⟨Rel.wanted_free (by kernel_rfl) _, ?_⟩
        exact Rel.wp_mv _ rfl ⟨_, rfl, Rel.gr_refl _, (c.get 0 11 (by kernel_rfl)), c.inv⟩
      · intro L a w c
        exact .inr ⟨Chn.wanted_not (j := 1) (b := true) (d := 12) (by kernel_rfl) (c.get 1 12 (by kernel_rfl)), rfl, c.inv⟩
      · intro L a w c
        exact .inr ⟨Chn.wanted_not (j := 1) (b := true) (d := 12) (by kernel_rfl) (c.get 1 12 (by kernel_rfl)), rfl, c.inv⟩
      · intro L a w c
        exact .inr ⟨Chn.wanted_not (j := 1) (b := true) (d := 12) (by kernel_rfl) (c.get 1 12 (by kernel_rfl)), rfl, c.inv⟩
      · intro L a w c
        exact .inr ⟨Chn.wanted_not (j := 1) (b := true) (d := 12) (by kernel_rfl) (c.get 1 12 (by kernel_rfl)), rfl, c.inv⟩
      · intro L a w c
        exact .inr ⟨Chn.wanted_not (j := 1) (b := true) (d := 12) (by kernel_rfl) (c.get 1 12 (by kernel_rfl)), rfl, c.inv⟩
      · intro L a w c
        exact .inr ⟨Chn.wanted_not (j := 1) (b := true) (d := 12) (by kernel_rfl) (c.get 1 12 (by kernel_rfl)), rfl, c.inv⟩
      · intro L a w c
        refine .inl ⟨Rel.wanted_free (by kernel_rfl) _, ?_⟩
        exact Rel.wp_pk _ _ _ rfl (b := false) (c.get 1 12 (by kernel_rfl)) ⟨_, rfl, Rel.gr_refl _, rfl, c.inv⟩
      · intro L a w c
        refine .inl ⟨Rel.wanted_free (by kernel_rfl) _, ?_⟩
        exact Rel.wp_as _ rfl ⟨_, rfl, Rel.gr_refl _, (c.get 8 19 (by kernel_rfl)), c.inv⟩
    intro a w7 hbase hroom hdef hJ hV
    have s2 : Rel.slot a 2 = .bool false := hV 9 _ _ rfl rfl
    rw [Chn.act_puts [11, 12, 13, 14, 15, 16, 17, 18, 19, 2] hbase hroom hdef (by kernel_rfl)]
    clear hbase hroom hdef hV
    simp only [List.foldl_cons, List.foldl_nil]
    generalize Rel.slot a 11 = u11 at *
    generalize Rel.slot a 12 = u12 at *
    generalize Rel.slot a 13 = u13 at *
    generalize Rel.slot a 14 = u14 at *
    generalize Rel.slot a 15 = u15 at *
    generalize Rel.slot a 16 = u16 at *
    generalize Rel.slot a 17 = u17 at *
    generalize Rel.slot a 18 = u18 at *
    generalize Rel.slot a 19 = u19 at *
    rw [s2]
    clear s2
    simp only [Act.put, List.setIfInBounds_toArray, List.set_cons_succ, List.set_cons_zero]
    have HJ2 := Lib.hid (below_keep HJ.out hJ)
    clear hJ
    go_wp2_with fail
    go_ret
    exact ⟨by rw [HE.out]; rfl, HJ2.out⟩
end Go.Proofs.Ytcndihekpdebhaa.Job
/- Job, the landed: may a job's draws be? -/
namespace Go.Proofs.Ytcndihekpdebhaa.Job
set_option maxRecDepth 100000
open Go.RowKit
open Go.Sort
open Kit
open Tre (Lst inI lst_keep lst_take lst_at lst_new lst_none run_ld2)
open Drw (Dw Draws draw_cells encD_len)
set_option linter.unusedVariables false
variable {w w' : World}

def okD (d : Dw) : Prop := (0 ≤ d.alloc ∧ d.alloc ≤ 15) ∧ 1 ≤ d.amt ∧ d.amt ≤ 1152921504606846976
/-- What the marks say of the draws before. -/
structure Mk (l : List Dw) (bs : List Bool) : Prop where
  len : bs.length = 16
  bit : ∀ i, i < 16 → (bs[i]? = some true ↔ ∃ d ∈ l, d.alloc = (i : Nat))
  cnt : bs.count true = l.length
  ok : ∀ d ∈ l, okD d
  nodup : (l.map (·.alloc)).Nodup
theorem mk_start : Mk [] (List.replicate 16 false) where
  len := rfl
  bit i hi := by
    rw [List.getElem?_replicate, if_pos hi]
    constructor
    · intro h; cases h
    · rintro ⟨d, hd, -⟩; cases hd
  cnt := rfl
  ok d hd := by cases hd
  nodup := List.nodup_nil
theorem drawsOk_iff (l : List Dw) : drawsOk l = true ↔ l.length ≤ 16 ∧ (∀ d ∈ l, okD d) ∧ (l.map (·.alloc)).Nodup := by
  unfold drawsOk
  rw [Bool.and_eq_true, Bool.and_eq_true, decide_eq_true_iff, decide_eq_true_iff, List.all_eq_true]
  constructor
  · rintro ⟨⟨h1, h2⟩, h3⟩
    exact ⟨h1, fun d hd => by have := of_decide_eq_true (h2 d hd); unfold okD; omega, h3⟩
  · rintro ⟨h1, h2, h3⟩
    exact ⟨⟨h1, fun d hd => decide_eq_true (by have := h2 d hd; unfold okD at this; omega)⟩, h3⟩
theorem mk_end {l : List Dw} {bs : List Bool} (h : Mk l bs) : drawsOk l = true := by
  rw [drawsOk_iff]
  refine ⟨?_, h.ok, h.nodup⟩
  rw [← h.cnt, ← h.len]
  exact List.count_le_length
theorem bad_one {l : List Dw} {k : Nat} {d : Dw} (hx : l[k]? = some d) (h : ¬ okD d) : drawsOk l = false := by
  rw [Bool.eq_false_iff]
  intro hh
  exact h (((drawsOk_iff l).1 hh).2.1 d (List.mem_of_getElem? hx))
theorem bad_two {l : List Dw} {k : Nat} {d : Dw} {bs : List Bool} {i : Nat} (hM : Mk (l.take k) bs) (hx : l[k]? = some d) (hi : i < 16) (hd : d.alloc = (i : Nat)) (hb : bs[i]? = some true) : drawsOk l = false := by
  rw [Bool.eq_false_iff]
  intro hh
  have hn := ((drawsOk_iff l).1 hh).2.2
  obtain ⟨d', hd', e⟩ := (hM.bit i hi).1 hb
  obtain ⟨j, hj, ej⟩ := List.mem_take_iff_getElem.1 hd'
  obtain ⟨hk, ek⟩ := List.getElem?_eq_some_iff.1 hx
  have := List.pairwise_iff_getElem.1 hn j k (by rw [List.length_map]; omega) (by rw [List.length_map]; exact hk) (by omega)
  rw [List.getElem_map, List.getElem_map, ej, ek, e, hd] at this
  exact this rfl
theorem mk_step {l : List Dw} {k : Nat} {d : Dw} {bs : List Bool} {i : Nat} (hM : Mk (l.take k) bs) (hx : l[k]? = some d) (hi : i < 16) (hd : d.alloc = (i : Nat)) (hb : bs[i]? = some false) (hok : okD d) : Mk (l.take (k + 1)) (bs.set i true) := by
  obtain ⟨hk, ek⟩ := List.getElem?_eq_some_iff.1 hx
  have ht : l.take (k + 1) = l.take k ++ [d] := by rw [List.take_succ_eq_append_getElem hk, ek]
  have hil : i < bs.length := by rw [hM.len]; exact hi
  rw [ht]
  refine ⟨by rw [List.length_set]; exact hM.len, fun j hj => ?_, ?_, ?_, ?_⟩
  · rw [List.getElem?_set]
    by_cases hij : i = j
    · subst hij
      rw [if_pos rfl, if_pos hil]
      exact ⟨fun _ => ⟨d, by simp, hd⟩, fun _ => rfl⟩
    · rw [if_neg hij, hM.bit j hj]
      constructor
      · rintro ⟨x, h1, h2⟩
        exact ⟨x, List.mem_append_left _ h1, h2⟩
      · rintro ⟨x, h1, h2⟩
        rcases List.mem_append.1 h1 with h1 | h1
        · exact ⟨x, h1, h2⟩
        · rw [List.mem_singleton] at h1
          subst h1
          omega
  · have hg : bs[i] = false := by
      have := List.getElem?_eq_getElem hil
      rw [hb] at this
      injection this with this
      exact this.symm
    rw [List.count_set hil, hg, hM.cnt, List.length_append]
    rfl
  · intro x hx'
    rcases List.mem_append.1 hx' with h | h
    · exact hM.ok x h
    · rw [List.mem_singleton] at h
      subst h
      exact hok
  · rw [List.map_append, List.nodup_append]
    refine ⟨hM.nodup, by simp, ?_⟩
    intro a ha b hbm
    rw [List.map_cons, List.map_nil, List.mem_singleton] at hbm
    subst hbm
    obtain ⟨x, hx1, rfl⟩ := List.mem_map.1 ha
    intro e
    have := (hM.bit i hi).2 ⟨x, hx1, by rw [e]; exact hd⟩
    rw [hb] at this
    cases this

set_option maxHeartbeats 8000000 in
theorem drawn_any (W : World) (a : Option Addr) (n c : Nat) (l : List Dw) (h : Draws W a n c l) :
    Calls Try.prog 47 #[.slice a n c] W fun e w' => e = .returned (.bool (drawsOk l)) ∧ Below W.heap.size W w' := by
  have hm1 : n ≤ 9223372036854775807 := by have := h.cap; have := h.max; unfold maxLen at this; omega
  have HL := Lib.hid (And.intro h h.len)
  have HS := Lib.hid (And.intro (Arr.blk_new W W.heap.size 73 ((List.replicate 16 false).map Value.bool) rfl) (below_alloc W (.cells ((List.replicate 16 false).map Value.bool).toArray 73)))
  clear h
  go_enter Try.func47, Try.ntmps47
  go_wp2_with fail
  go_loopw [8] (fun i wr => ∃ (k : Nat) (bs : List Bool), k ≤ n ∧ i = .int .i64 (k : Nat) ∧ Arr.Blk wr W.heap.size 73 (bs.map Value.bool) ∧ Below W.heap.size W wr ∧ Mk (l.take k) bs) (fun i _ => n - (intOf i).toNat)
  case atStart => exact ⟨0, _, Nat.zero_le _, rfl, HS.out.1, HS.out.2, by rw [List.take_zero]; exact mk_start⟩
  case round =>
    obtain ⟨k, bs, hk, rfl, hblk, hb, hM⟩ := hrel
    have HO := Lib.hid (And.intro hblk (And.intro hb hM))
    clear hblk hb hM
    by_cases hlt : k < n
    · have hlti : (k : Int) < (n : Int) := by omega
      have hkl : k < l.length := by rw [HL.out.2]; exact hlt
      obtain ⟨b, o, rfl⟩ := lst_at HL.out.1 (by omega)
      obtain ⟨q0, q1⟩ := draw_cells (lst_keep encD_len HL.out.1 HO.out.2.1) hkl
      have hx : l[k]? = some l[k] := List.getElem?_eq_getElem hkl
      generalize l[k] = x at *
      obtain ⟨x0, x1⟩ := x
      simp only at q0 q1
      have HX := Lib.hid hx
      have HBa := Lib.hid (And.intro (Arr.blk_alloc HO.out.1 (.cells #[.int .i64 x0, .int .i64 x1] 75)) (below_keep HO.out.2.1 (below_alloc wr (.cells #[.int .i64 x0, .int .i64 x1] 75))))
      clear hx hkl
      cases h1 : wi x0 0 15 with
      | false =>
        have H1 := Lib.hid h1
        have HE := Lib.hid (show drawsOk l = false from bad_one HX.out (fun hh => by
          have h2 := hh.1
          simp only at h2
          unfold wi at h1
          rw [decide_eq_true h2.1, decide_eq_true h2.2] at h1
          cases h1))
        clear h1
        go_wp2_with fail
        refine (within_any _ _ _ _).mono ?_
        rintro e w1 ⟨rfl, rfl⟩
        rw [H1.out]
        go_wp2_with fail
        go_ret
        exact ⟨by rw [HE.out]; rfl, HBa.out.2⟩
      | true =>
        have hr : 0 ≤ x0 ∧ x0 ≤ 15 := by
          unfold wi at h1
          rw [Bool.and_eq_true, decide_eq_true_iff, decide_eq_true_iff] at h1
          exact h1
        have H1 := Lib.hid h1
        clear h1
        obtain ⟨i, rfl⟩ : ∃ i : Nat, x0 = (i : Int) := ⟨x0.toNat, by omega⟩
        have hi : i < 16 := by omega
        have hii : (i : Int) < 16 := by omega
        have HR := Lib.hid hr
        clear hr
        obtain ⟨b2, hb2⟩ : ∃ b2, bs[i]? = some b2 := ⟨_, List.getElem?_eq_getElem (by rw [HO.out.2.2.len]; exact hi)⟩
        have p2 : (wr.alloc (.cells #[.int .i64 (i : Int), .int .i64 x1] 75)).cell? ⟨W.heap.size, i, none⟩ = some (.bool b2) := by rw [Arr.blk_cell HBa.out.1, List.getElem?_map, hb2]; rfl
        have f2 : (wr.alloc (.cells #[.int .i64 (i : Int), .int .i64 x1] 75)).frozen? ⟨W.heap.size, i, none⟩ = false := Arr.blk_frozen HBa.out.1 i
        have HB2 := Lib.hid hb2
        clear hb2
        have hwr : W.heap.size < wr.heap.size := Arr.blk_lt HO.out.1
        have hcl2 : wr.cell? ⟨W.heap.size, i, none⟩ = some (.bool b2) := by rw [Arr.blk_cell HO.out.1, List.getElem?_map, HB2.out]; rfl
        have hcf2 : wr.frozen? ⟨W.heap.size, i, none⟩ = false := Arr.blk_frozen HO.out.1 i
        cases b2 with
        | true =>
          have HE := Lib.hid (bad_two HO.out.2.2 HX.out hi rfl HB2.out)
          go_wp2_with fail
          refine (within_any _ _ _ _).mono ?_
          rintro e w1 ⟨rfl, rfl⟩
          rw [H1.out]
          go_wp2_with fail
          go_ret
          exact ⟨by rw [HE.out]; rfl, HBa.out.2⟩
        | false =>
          cases h3 : wi x1 1 1152921504606846976 with
          | false =>
            have H3 := Lib.hid h3
            have HE := Lib.hid (show drawsOk l = false from bad_one HX.out (fun hh => by
              have h2 := hh.2
              simp only at h2
              unfold wi at h3
              rw [decide_eq_true h2.1, decide_eq_true h2.2] at h3
              cases h3))
            clear h3
            go_wp2_with fail
            refine (within_any _ _ _ _).mono ?_
            rintro e w1 ⟨rfl, rfl⟩
            rw [H1.out]
            go_wp2_with fail
            refine (within_any _ _ _ _).mono ?_
            rintro e w1 ⟨rfl, rfl⟩
            rw [H3.out]
            go_wp2_with fail
            go_ret
            exact ⟨by rw [HE.out]; rfl, HBa.out.2⟩
          | true =>
            have H3 := Lib.hid h3
            have HM := Lib.hid (mk_step HO.out.2.2 HX.out hi rfl HB2.out ⟨HR.out, by
              unfold wi at h3
              rw [Bool.and_eq_true, decide_eq_true_iff, decide_eq_true_iff] at h3
              exact h3⟩)
            have HSt := Lib.hid (And.intro (Arr.blk_alloc (Arr.blk_set HO.out.1 i (.bool true)) (.cells #[.int .i64 (i : Int), .int .i64 x1] 75)) (below_keep (Arr.below_set HO.out.2.1 (Nat.le_refl _) i (.bool true)) (below_alloc _ (.cells #[.int .i64 (i : Int), .int .i64 x1] 75))))
            clear h3
            go_wp2_with fail
            refine (within_any _ _ _ _).mono ?_
            rintro e w1 ⟨rfl, rfl⟩
            rw [H1.out]
            go_wp2_with fail
            refine (within_any _ _ _ _).mono ?_
            rintro e w1 ⟨rfl, rfl⟩
            rw [H3.out]
            go_wp2_with fail
            go_roundw
            case rel => exact ⟨k + 1, bs.set i true, by omega, by go_num, by rw [List.map_set]; exact HSt.out.1, HSt.out.2, HM.out⟩
            case measure => simp [intOf]; omega
    · obtain rfl : k = n := by omega
      have hni : ¬ (k : Int) < (k : Int) := by omega
      have HE := Lib.hid (show drawsOk l = true by
        have := HO.out.2.2
        rw [List.take_of_length_le (by rw [HL.out.2]; exact Nat.le_refl _)] at this
        exact mk_end this)
      go_wp2_with fail
      go_ret
      exact ⟨by rw [HE.out]; rfl, HO.out.2.1⟩
end Go.Proofs.Ytcndihekpdebhaa.Job
/- Plane: what each function of package plane answers, call by call. -/
namespace Go.Proofs.Ytcndihekpdebhaa.Pla
open Go.RowKit

theorem ret_bool {a b : Bool} (h : a = b) : Ending.returned (.bool a) = .returned (.bool b) := by rw [h]
theorem ret_int {k : IntKind} {a b : Int} (h : a = b) : Ending.returned (.int k a) = .returned (.int k b) := by rw [h]
theorem ret_cx {a b c d : Nat} (h : a = c) (g : b = d) : Ending.returned (.complex .f64 a b) = .returned (.complex .f64 c d) := by rw [h, g]
theorem bcell {W w1 : World} (hb : Below W.heap.size W w1) : (∀ b o, b < W.heap.size → w1.cell? ⟨b, o, none⟩ = W.cell? ⟨b, o, none⟩) ∧ (∀ b o, b < W.heap.size → w1.frozen? ⟨b, o, none⟩ = W.frozen? ⟨b, o, none⟩) :=
  ⟨fun b o h => hb.cell (p := ⟨b, o, none⟩) h, fun b o h => hb.frozen (p := ⟨b, o, none⟩) h⟩

theorem within_any (pr pi lr li hr hi : Nat) (w : World) :
    Calls Try.prog 48 #[.complex .f64 pr pi, .complex .f64 lr li, .complex .f64 hr hi] w fun e w' => e = .returned (.bool (leF lr pr && leF pr hr && leF li pi && leF pi hi)) ∧ w = w' := by
  cases h1 : leF lr pr
  case false =>
    unfold leF at h1
    go_enter Try.func48, Try.ntmps48
    go_wp2
    go_ret
    exact ⟨rfl, rfl⟩
  cases h2 : leF pr hr
  case false =>
    unfold leF at h1 h2
    go_enter Try.func48, Try.ntmps48
    go_wp2
    go_ret
    exact ⟨rfl, rfl⟩
  cases h3 : leF li pi
  case false =>
    unfold leF at h1 h2 h3
    go_enter Try.func48, Try.ntmps48
    go_wp2
    go_ret
    exact ⟨rfl, rfl⟩
  cases h4 : leF pi hi
  all_goals
    unfold leF at h1 h2 h3 h4
    go_enter Try.func48, Try.ntmps48
    go_wp2
    go_ret
    exact ⟨rfl, rfl⟩

theorem ahead_any (pr pi qr qi : Nat) (w : World) :
    Calls Try.prog 57 #[.complex .f64 pr pi, .complex .f64 qr qi] w fun e w' => e = .returned (.bool (ltF pr qr && ltF pi qi)) ∧ w = w' := by
  cases h1 : ltF pr qr
  case false =>
    unfold ltF at h1
    go_enter Try.func57, Try.ntmps57
    go_wp2
    go_ret
    exact ⟨rfl, rfl⟩
  cases h2 : ltF pi qi
  all_goals
    unfold ltF at h1 h2
    go_enter Try.func57, Try.ntmps57
    go_wp2
    go_ret
    exact ⟨rfl, rfl⟩

theorem corner_any (t n l m : Int) (w : World) :
    Calls Try.prog 49 #[.agg #[.int .i64 t, .int .i64 n, .int .i64 l, .int .i64 m]] w fun e w' => e = .returned (.complex .f64 (Flo.near t) (Flo.near n)) ∧ Below w.heap.size w w' := by
  go_enter Try.func49, Try.ntmps49
  go_wp2
  go_ret
  exact ⟨rfl, (Below.refl _ _).alloc (Nat.le_refl _) _⟩

theorem size_any (t n l m : Int) (w : World) :
    Calls Try.prog 50 #[.agg #[.int .i64 t, .int .i64 n, .int .i64 l, .int .i64 m]] w fun e w' => e = .returned (.complex .f64 (Flo.near l) (Flo.near m)) ∧ Below w.heap.size w w' := by
  go_enter Try.func50, Try.ntmps50
  go_wp2
  go_ret
  exact ⟨rfl, (Below.refl _ _).alloc (Nat.le_refl _) _⟩

end Go.Proofs.Ytcndihekpdebhaa.Pla
/- Plane: far, Good, Area. -/
namespace Go.Proofs.Ytcndihekpdebhaa.Pla
open Go.RowKit
attribute [local go_sem ↓] Go.wp_at_zero Go.wp_at_succ

def Small (a : Int) : Prop := a.natAbs < 4503599627370496
theorem sum_bits {t n l m : Int} (h1 : Small t) (h2 : Small n) (h3 : Small l) (h4 : Small m) :
    cSumBits .add .f64 (Flo.near t) (Flo.near n) (Flo.near l) (Flo.near m) = some (Flo.near (t + l), Flo.near (n + m)) := by
  unfold Small at h1 h2 h3 h4
  have e1 : floatBits .add .f64 (Flo.near t) (Flo.near l) = some (Flo.near (t + l)) := Flo.add_near t l (by omega) (by omega) (by omega)
  have e2 : floatBits .add .f64 (Flo.near n) (Flo.near m) = some (Flo.near (n + m)) := Flo.add_near n m (by omega) (by omega) (by omega)
  unfold cSumBits
  rw [e1, e2]; rfl

/-- A box in memory. -/
def BoxAt (w : World) (b o : Nat) (t n l m : Int) : Prop :=
  w.cell? ⟨b, o, none⟩ = some (.int .i64 t) ∧ w.cell? ⟨b, o + 1, none⟩ = some (.int .i64 n) ∧ w.cell? ⟨b, o + 2, none⟩ = some (.int .i64 l) ∧ w.cell? ⟨b, o + 3, none⟩ = some (.int .i64 m)

theorem far_any (t n l m : Int) (w : World) (h1 : Small t) (h2 : Small n) (h3 : Small l) (h4 : Small m) :
    Calls Try.prog 51 #[.agg #[.int .i64 t, .int .i64 n, .int .i64 l, .int .i64 m]] w fun e w' => e = .returned (.complex .f64 (Flo.near (t + l)) (Flo.near (n + m))) ∧ Below w.heap.size w w' := by
  have hs := fun w => run_complex_sum (P := Try.prog) w .add (.inl rfl) 66 .f64 _ _ _ _ _ _ (sum_bits h1 h2 h3 h4)
  clear h1 h2 h3 h4
  go_enter Try.func51, Try.ntmps51
  go_wp2
  go_region_held3 (fun w' => Below w.heap.size w w' ∧ w'.cell? ⟨w.heap.size, 0, none⟩ = some (.int .i64 t) ∧ w'.cell? ⟨w.heap.size, 1, none⟩ = some (.int .i64 n) ∧ w'.cell? ⟨w.heap.size, 2, none⟩ = some (.int .i64 l) ∧ w'.cell? ⟨w.heap.size, 3, none⟩ = some (.int .i64 m))
    (first | (refine ⟨Below.drew (Below.alloc (Below.refl _ _) (Nat.le_refl _) _), ?_, ?_, ?_, ?_⟩ <;> go_keep) | (go_split_ands; exact ⟨below_keep (by assumption) hb, cell_keep hb (by assumption), cell_keep hb (by assumption), cell_keep hb (by assumption), cell_keep hb (by assumption)⟩))
    (first | (go_at_call 49; refine (corner_any _ _ _ _ _).mono ?_; rintro e w' ⟨rfl, hb⟩) | (go_at_call 50; refine (size_any _ _ _ _ _).mono ?_; rintro e w' ⟨rfl, hb⟩))
  all_goals go_wp2
  all_goals go_ret
  all_goals
    rename_i hH
    exact ⟨rfl, hH.1⟩

/-! ## Good -/

def c1B (t n : Int) : Bool := decide (0 ≤ t ∧ t ≤ 1099511627776 ∧ 0 ≤ n ∧ n ≤ 31)
def c2B (l m : Int) : Bool := decide (1 ≤ l ∧ l ≤ 1048576 ∧ 1 ≤ m ∧ m ≤ 32)
theorem c1B_iff {t n : Int} : c1B t n = true ↔ 0 ≤ t ∧ t ≤ 1099511627776 ∧ 0 ≤ n ∧ n ≤ 31 := by unfold c1B; rw [decide_eq_true_iff]
theorem c2B_iff {l m : Int} : c2B l m = true ↔ 1 ≤ l ∧ l ≤ 1048576 ∧ 1 ≤ m ∧ m ≤ 32 := by unfold c2B; rw [decide_eq_true_iff]

theorem dec4 (a b c d : Prop) [Decidable a] [Decidable b] [Decidable c] [Decidable d] : (decide a && decide b && decide c && decide d) = decide (a ∧ b ∧ c ∧ d) := by
  by_cases a <;> by_cases b <;> by_cases c <;> by_cases d <;> simp [*]

theorem within_corner (t n : Int) (w : World) (b : Bool) (ht : Wide t) (hn : Wide n) (hb : c1B t n = b) :
    Calls Try.prog 48 #[.complex .f64 (Flo.near t) (Flo.near n), .complex .f64 0 0, .complex .f64 4787326403894837248 4629418941960159232] w fun e w' => e = .returned (.bool b) ∧ w = w' := by
  unfold Wide at ht hn
  have h := within_any (Flo.near t) (Flo.near n) (Flo.near 0) (Flo.near 0) (Flo.near 1099511627776) (Flo.near 31) w
  rw [leF_near (.inr ⟨by omega, by omega⟩), leF_near (.inl ⟨by omega, by omega⟩), leF_near (.inr ⟨by omega, by omega⟩), leF_near (.inl ⟨by omega, by omega⟩), dec4, near_0, near_time, near_31] at h
  rw [← hb]
  exact h

theorem within_size (l m : Int) (w : World) (b : Bool) (ht : Wide l) (hn : Wide m) (hb : c2B l m = b) :
    Calls Try.prog 48 #[.complex .f64 (Flo.near l) (Flo.near m), .complex .f64 4607182418800017408 4607182418800017408, .complex .f64 4697254411347427328 4629700416936869888] w fun e w' => e = .returned (.bool b) ∧ w = w' := by
  unfold Wide at ht hn
  have h := within_any (Flo.near l) (Flo.near m) (Flo.near 1) (Flo.near 1) (Flo.near 1048576) (Flo.near 32) w
  rw [leF_near (.inr ⟨by omega, by omega⟩), leF_near (.inl ⟨by omega, by omega⟩), leF_near (.inr ⟨by omega, by omega⟩), leF_near (.inl ⟨by omega, by omega⟩), dec4, near_1, near_wall, near_32] at h
  rw [← hb]
  exact h

theorem goodB_c1 {t n : Int} (l m : Int) (h : c1B t n = false) : false = goodB t n l m := by
  symm; rw [Bool.eq_false_iff]; intro h'; have := goodB_iff.1 h'; rw [c1B_iff.2 (by omega)] at h; cases h
theorem goodB_c2 {l m : Int} (t n : Int) (h : c2B l m = false) : false = goodB t n l m := by
  symm; rw [Bool.eq_false_iff]; intro h'; have := goodB_iff.1 h'; rw [c2B_iff.2 (by omega)] at h; cases h
theorem goodB_c3 {t n l m : Int} (h1 : c1B t n = true) (h2 : c2B l m = true) : leF (Flo.near (n + m)) 4629700416936869888 = goodB t n l m := by
  have a := c1B_iff.1 h1
  have b := c2B_iff.1 h2
  rw [← near_32, leF_near (.inl ⟨by omega, by omega⟩), Bool.eq_iff_iff, decide_eq_true_iff, goodB_iff]
  omega

theorem good_any (t n l m : Int) (w : World) (ht : Wide t) (hn : Wide n) (hl : Wide l) (hm : Wide m) :
    Calls Try.prog 38 #[.agg #[.int .i64 t, .int .i64 n, .int .i64 l, .int .i64 m]] w fun e w' => e = .returned (.bool (goodB t n l m)) ∧ Below w.heap.size w w' := by
  cases h1 : c1B t n with
  | false =>
    have H1 := Lib.hid h1
    clear h1
    go_enter Try.func38, Try.ntmps38
    go_wp2_with fail
    refine (corner_any _ _ _ _ _).mono ?_
    rintro e w' ⟨rfl, hb⟩
    go_wp2_with fail
    refine (within_corner _ _ _ _ ht hn H1.out).mono ?_
    rintro e w' ⟨rfl, rfl⟩
    go_wp2
    go_ret
    exact ⟨ret_bool (goodB_c1 l m H1.out), ((Below.refl _ _).alloc (Nat.le_refl _) _).trans (hb.mono (by simp))⟩
  | true =>
    have H1 := Lib.hid h1
    have hr := c1B_iff.1 h1
    clear h1
    cases h2 : c2B l m with
    | false =>
      have H2 := Lib.hid h2
      have HR := Lib.hid hr
      clear h2 hr
      go_enter Try.func38, Try.ntmps38
      go_wp2_with fail
      refine (corner_any _ _ _ _ _).mono ?_
      rintro e w1 ⟨rfl, hb⟩
      obtain ⟨hc, hf⟩ := bcell hb
      have hz : w.heap.size < w1.heap.size := by have := hb.size; simp at this; omega
      have HB := Lib.hid hb
      clear hb
      go_wp2_with fail
      refine (within_corner _ _ _ _ ht hn H1.out).mono ?_
      rintro e w' ⟨rfl, rfl⟩
      go_wp2_with fail
      refine (size_any _ _ _ _ _).mono ?_
      rintro e w2 ⟨rfl, hb2⟩
      go_wp2_with fail
      refine (within_size _ _ _ _ hl hm H2.out).mono ?_
      rintro e w' ⟨rfl, rfl⟩
      go_wp2
      go_ret
      exact ⟨ret_bool (goodB_c2 t n H2.out), (((Below.refl _ _).alloc (Nat.le_refl _) _).trans (HB.out.mono (by simp))).trans (hb2.mono (by omega))⟩
    | true =>
      have H2 := Lib.hid h2
      have hr2 := c2B_iff.1 h2
      have h3 := goodB_c3 H1.out h2
      have k1 : Small t := by unfold Small; omega
      have k2 : Small n := by unfold Small; omega
      have k3 : Small l := by unfold Small; omega
      have k4 : Small m := by unfold Small; omega
      generalize hg : goodB t n l m = g at *
      clear h2 hr hr2 hg
      unfold leF at h3
      go_enter Try.func38, Try.ntmps38
      go_wp2_with fail
      refine (corner_any _ _ _ _ _).mono ?_
      rintro e w1 ⟨rfl, hb⟩
      obtain ⟨hc, hf⟩ := bcell hb
      have hz : w.heap.size < w1.heap.size := by have := hb.size; simp at this; omega
      have HB := Lib.hid hb
      clear hb
      go_wp2_with fail
      refine (within_corner _ _ _ _ ht hn H1.out).mono ?_
      rintro e w' ⟨rfl, rfl⟩
      go_wp2_with fail
      refine (size_any _ _ _ _ _).mono ?_
      rintro e w2 ⟨rfl, hb2⟩
      obtain ⟨hc2, hf2⟩ := bcell hb2
      have hz2 : w.heap.size < w2.heap.size := by have := hb2.size; omega
      have HB2 := Lib.hid hb2
      clear hb2
      go_wp2_with fail
      refine (within_size _ _ _ _ hl hm H2.out).mono ?_
      rintro e w' ⟨rfl, rfl⟩
      go_wp2_with fail
      refine (far_any _ _ _ _ _ k1 k2 k3 k4).mono ?_
      rintro e w3 ⟨rfl, hb3⟩
      go_wp2
      go_ret
      exact ⟨rfl, ((((Below.refl _ _).alloc (Nat.le_refl _) _).trans (HB.out.mono (by simp))).trans (HB2.out.mono (by omega))).trans (hb3.mono (by omega))⟩

end Go.Proofs.Ytcndihekpdebhaa.Pla
