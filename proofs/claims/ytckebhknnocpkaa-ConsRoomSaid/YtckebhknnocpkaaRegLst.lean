/- Common: a region that draws its order whose last operation waits for all others (a store behind what it stores): the others by what the slots hold (XRegRel), then the last one alone. -/
import Derived.Test.YtckebhknnocpkaaRegRel
namespace Go.Proofs.Ytckebhknnocpkaa.Rel
open Go.RowKit

variable {P : Program} {Q : Exit → Act → World → Prop} {G : World → World → Prop} {a0 : Act}

theorem pop_size {L : Array Bool} {n : Nat} (h : L.size = n + 1) : L.pop.size = n := by simp [h]
theorem pop_at {L : Array Bool} {n i : Nat} (h : L.size = n + 1) (hi : i < n) : L.pop[i]? = L[i]? := by
  rw [Array.getElem?_pop, if_pos (by omega)]
theorem pop_getD {L : Array Bool} {n i : Nat} (h : L.size = n + 1) (hi : i < n) (b : Bool) : L.pop.getD i b = L.getD i b := by
  rw [Array.getD_eq_getD_getElem?, Array.getD_eq_getD_getElem?, pop_at h hi]
theorem pop_set {L : Array Bool} {n i : Nat} (h : L.size = n + 1) (hi : i < n) : (L.setIfInBounds i true).pop = L.pop.setIfInBounds i true := by
  apply Array.ext_getElem?
  intro j
  rw [Array.getElem?_pop, Array.getElem?_setIfInBounds, Array.getElem?_setIfInBounds, Array.getElem?_pop]
  simp only [Array.size_setIfInBounds, Array.size_pop]
  by_cases hij : i = j
  · subst hij
    rw [if_pos (by omega), if_pos rfl, if_pos rfl, if_pos (by omega), if_pos (by omega)]
  · rw [if_neg hij, if_neg hij]
/-- One operation of the law, by its invariant. -/
theorem rel_step {ops : Array Oper} {V : Nat → Kd G} {J : Array Bool → World → Prop} (hap : apartB ops.toList = true) (hsz : ∀ (i : Nat) (o : Oper) (d : Tmp), ops[i]? = some o → o.dst = some d → d < a0.tmps.size)
    (hsteps : Steps P ops Q V J a0 0 ops.toList) {L : Array Bool} {a : Act} {w : World} {i : Nat} {o : Oper} (hI : Inv ops V J a0 L a w) (hun : L.getD i true = false) (ho : ops[i]? = some o) (hg : o.guard = none) (hcame : ∀ j, waits o j = true → L.getD j false = true) :
    o.wp P a w (fun a' w' => Inv ops V J a0 (L.setIfInBounds i true) a' w') Q := by
  have hI' := hI
  obtain ⟨h1, h2, h3, h4, h5, h6, h7⟩ := hI
  have hs := steps_at ops.toList 0 hsteps i o (by simpa using ho)
  rw [Nat.zero_add] at hs
  replace hs := hs L a w ⟨h1, hun, h2, h3, h5, fun j o' d hj hd hw => h6 j o' d hj hd (hcame j hw), hcame, h7⟩
  rcases hs with ⟨hw, hs⟩ | ⟨hw, hv, hJ⟩
  · exact Oper.wp_mono (fun a'' w'' ⟨v, ha, hG, hv, hJ⟩ => by subst ha; exact inv_step hap hsz ho hun hcame hI' hG hv hJ) hs
  · rw [wanted_none hg] at hw; cases hw

/-- THE LAW. -/
theorem wp_region_last {id : Nat} {w : World} {l : List Oper} (o : Oper) (V : Nat → Kd G) (J : Array Bool → World → Prop) (hm : P.follows .mixedOrders = true) (hlast : l.getLast? = some o) (hfree : (l.all fun o => o.guard.isNone) = true) (hap : apartB l.dropLast = true) (hor : orderB 0 l = true)
    (hwait : ((List.range l.dropLast.length).all fun j => waits o j) = true) (hsz : (l.dropLast.all fun o => match o.dst with | some d => decide (d < a0.tmps.size) | none => true) = true)
    (h0 : J (Array.replicate l.dropLast.length false) w.drew) (hsteps : Steps P l.dropLast.toArray Q V J a0 0 l.dropLast)
    (hdone : ∀ a w, (∀ s, unwritten l.dropLast.toArray s = true → slot a s = slot a0 s) → a.tmps.size = a0.tmps.size → a.defers = a0.defers → J (Array.replicate l.dropLast.length true) w → (∀ (j : Nat) (o : Oper) (d : Tmp), l.dropLast[j]? = some o → o.dst = some d → (V j).p w (slot a d)) → o.wp P a w (fun a' w' => Q .normal a' w') Q) :
    (Code.region id l.toArray true).wp P Q a0 w := by
  obtain ⟨n, hn⟩ : ∃ n, n = l.dropLast.length := ⟨_, rfl⟩
  have hl : l = l.dropLast ++ [o] := by
    rcases List.eq_nil_or_concat l with e | ⟨l', b, e⟩
    · rw [e] at hlast; cases hlast
    · rw [e] at hlast ⊢
      simp at hlast
      subst hlast
      simp
  have hlen : l.length = n + 1 := by rw [hl, List.length_append, List.length_singleton, ← hn]
  have hat : ∀ i, i < n → l[i]? = l.dropLast[i]? := fun i hi => by
    conv => lhs; rw [hl]
    rw [List.getElem?_append_left (by omega)]
  have hatn : l[n]? = some o := by
    conv => lhs; rw [hl]
    rw [List.getElem?_append_right (by omega), ← hn, Nat.sub_self]; rfl
  have hsz' : ∀ (i : Nat) (o : Oper) (d : Tmp), l.dropLast.toArray[i]? = some o → o.dst = some d → d < a0.tmps.size := by
    intro i o d ho hd
    have := List.all_eq_true.1 hsz o (List.mem_of_getElem? (by simpa using ho))
    rw [hd] at this
    simpa using this
  have hguard : ∀ (i : Nat) (x : Oper), l[i]? = some x → x.guard = none := fun i x hx => by
    have := List.all_eq_true.1 hfree x (List.mem_of_getElem? hx)
    simpa using this
  rw [← hn] at hwait h0 hdone
  have hw := List.all_eq_true.1 hwait
  refine Reg.wp_region_inv (fun L a w => (L.size = n + 1 ∧ L.getD n true = false ∧ Inv l.dropLast.toArray V J a0 L.pop a w) ∨ (L = Array.replicate (n + 1) true ∧ Q .normal a w)) hm ?_ ?_ ?_
  · left
    refine ⟨by simp [hlen], by simp [hlen], by simp [hlen], fun _ _ => rfl, rfl, rfl, ?_, fun j o d _ _ hl' => ?_, fun j o i _ hl' _ => ?_⟩
    · have e : (Array.replicate l.toArray.size false).pop = Array.replicate n false := by simp [hlen]
      rw [e]; exact h0
    · have e : (Array.replicate l.toArray.size false).pop = Array.replicate n false := by simp [hlen]
      rw [e] at hl'
      by_cases hj : j < n <;> simp [hj] at hl'
    · have e : (Array.replicate l.toArray.size false).pop = Array.replicate n false := by simp [hlen]
      rw [e] at hl'
      by_cases hj : j < n <;> simp [hj] at hl'
  · intro L a' w' hI hready
    rcases hI with ⟨h1, h2, hI⟩ | ⟨_, hq⟩
    · exfalso
      have hall : ∀ j, j < n → L.getD j false = true := by
        intro j
        induction j using Nat.strongRecOn with
        | _ j ih =>
          intro hj
          have ho : l[j]? = some (l[j]'(by omega)) := List.getElem?_eq_getElem (by omega)
          refine Reg.none_ready (ops := l.toArray) (by simp [h1, hlen]) hready (o := l[j]'(by omega)) (by simp) fun e he hb => ?_
          have hlt := order_at l 0 hor j _ ho e he hb
          exact ih e.on (by omega) (by omega)
      have hn' : L.getD n false = true := by
        refine Reg.none_ready (ops := l.toArray) (by simp [h1, hlen]) hready (o := o) (by simpa using hatn) fun e he hb => ?_
        have hlt := order_at l 0 hor n _ hatn e he hb
        exact hall e.on (by omega)
      have hsz : n < L.size := by omega
      simp [hsz] at h2 hn'
      rw [h2] at hn'; cases hn'
    · exact hq
  · intro L a' w' i hI hi
    obtain ⟨hun, x, hx, hdep⟩ := mem_ready.1 hi
    have hx' : l[i]? = some x := by simpa using hx
    have hg := hguard i x hx'
    have hil : i < n + 1 := by rw [← hlen]; exact (List.getElem?_eq_some_iff.1 hx').1
    rcases hI with ⟨h1, h2, hI⟩ | ⟨hL, _⟩
    · have hcame : ∀ j, waits x j = true → L.getD j false = true := by
        intro j hj
        unfold waits at hj
        obtain ⟨e, he, hb⟩ := List.any_eq_true.1 hj
        simp only [Bool.and_eq_true, beq_iff_eq] at hb
        have := hdep e (by simpa using he) hb.2
        rw [hb.1] at this
        exact this
      unfold wpOp
      simp only [hx]
      rw [if_pos (wanted_none hg _)]
      by_cases hin : i = n
      · subst hin
        rw [hatn] at hx'
        injection hx' with hx'
        subst hx'
        have hall : ∀ j, j < i → L.getD j false = true := fun j hj => hcame j (hw j (List.mem_range.2 hj))
        have hpop : L.pop = Array.replicate i true := by
          apply Array.ext
          · simp [h1]
          · intro j hj1 hj2
            have hj : j < i := by simpa using hj2
            have := hall j hj
            have hjL : j < L.size := by omega
            simp [hjL] at this
            simp [this]
        have hset : L.setIfInBounds i true = Array.replicate (i + 1) true := by
          apply Array.ext
          · simp [h1]
          · intro j hj1 hj2
            have hj : j < i + 1 := by simpa using hj2
            rw [Array.getElem_setIfInBounds (by simpa using hj1)]
            by_cases e : i = j
            · simp [e]
            · have := hall j (by omega)
              have hjL : j < L.size := by omega
              simp [hjL] at this
              simp [e, this]
        rw [hpop] at hI
        obtain ⟨_, g2, g3, g4, g5, g6, _⟩ := hI
        refine .inl (Oper.wp_mono (fun a'' w'' hq => .inr ⟨hset, hq⟩) (hdone a' w' g2 g3 g4 g5 fun j y d hj hd => g6 j y d (by simpa using hj) hd ?_))
        have hjn : j < i := by rw [hn]; exact (List.getElem?_eq_some_iff.1 hj).1
        simp [hjn]
      · have hin' : i < n := by omega
        have hxd : l.dropLast.toArray[i]? = some x := by
          have := hat i hin'
          rw [hx'] at this
          simpa using this.symm
        have hw' : ∀ j, waits x j = true → j < n := fun j hj => by
          unfold waits at hj
          obtain ⟨e, he, hb⟩ := List.any_eq_true.1 hj
          simp only [Bool.and_eq_true, beq_iff_eq] at hb
          have := order_at l 0 hor i x hx' e (by simpa using he) hb.2
          omega
        have hs := rel_step (by simpa using hap) hsz' hsteps hI (by rw [pop_getD h1 hin']; exact hun) hxd hg fun j hj => by rw [pop_getD h1 (hw' j hj)]; exact hcame j hj
        refine .inl (Oper.wp_mono (fun a'' w'' hq => .inl ⟨by simp [h1], ?_, by rw [pop_set h1 hin']; exact hq⟩) hs)
        have hne : i ≠ n := hin
        simp [hne]
        simpa using h2
    · subst hL
      simp [hil] at hun

section
variable {o : Oper} {a : Act} {w : World} {K : Act → World → Prop}
theorem wp_al (t : TypeId) (ho : o.op = .alloc t) {u : Value} {w' : World} (hr : (Instr.alloc t true (.tuple #[])).run P w = .ok u w') (h : K (a.put o.dst u) w') : o.wp P a w K Q := by
  unfold Oper.wp execOp
  simp only [ho, Sem.run_bind, hr]
  exact h
theorem wp_bd4 (t : TypeId) (x y z u : Operand) (ho : o.op = .build t #[(0, x), (1, y), (2, z), (3, u)]) {vx vy vz vu r : Value} {w' : World} (hx : a.eval x = vx) (hy : a.eval y = vy) (hz : a.eval z = vz) (hu : a.eval u = vu) (hr : (Instr.build t #[(0, vx), (1, vy), (2, vz), (3, vu)]).run P w = .ok r w') (h : K (a.put o.dst r) w') : o.wp P a w K Q := by
  subst hx hy hz hu
  unfold Oper.wp execOp
  have hm : (#[(0, x), (1, y), (2, z), (3, u)] : Array (Nat × Operand)).map (fun (i, x) => (i, a.eval x)) = #[(0, a.eval x), (1, a.eval y), (2, a.eval z), (3, a.eval u)] := by simp
  simp only [ho, Sem.run_bind, hm, hr]
  exact h
end
end Go.Proofs.Ytckebhknnocpkaa.Rel
