/- Common: a region that draws its order whose last two operations wait for all others: the others by what the slots hold (XRegRel), then these two, one behind the other. -/
import Derived.Test.YtckebhknnocpkaaRegLst
import Derived.Test.YtckebhknnocpkaaRegChn
namespace Go.Proofs.Ytckebhknnocpkaa.Rel
open Go.RowKit
open Chn (needsB needsB_came)

variable {P : Program} {Q : Exit → Act → World → Prop} {G : World → World → Prop} {a0 : Act}

/-- THE LAW. -/
theorem wp_region_two {id : Nat} {w : World} {l : List Oper} (pre : List Oper) (o o' : Oper) (V : Nat → Kd G) (J : Array Bool → World → Prop) (hm : P.follows .mixedOrders = true) (hl : l = pre ++ [o, o']) (hfree : (l.all fun o => o.guard.isNone) = true) (hap : apartB pre = true) (hor : orderB 0 l = true)
    (hw1 : ((List.range pre.length).all fun j => needsB l pre.length j) = true) (hw2 : ((List.range (pre.length + 1)).all fun j => waits o' j) = true) (hsz : (pre.all fun o => match o.dst with | some d => decide (d < a0.tmps.size) | none => true) = true)
    (h0 : J (Array.replicate pre.length false) w.drew) (hsteps : Steps P pre.toArray Q V J a0 0 pre)
    (hdone : ∀ a w, (∀ s, unwritten pre.toArray s = true → slot a s = slot a0 s) → a.tmps.size = a0.tmps.size → a.defers = a0.defers → J (Array.replicate pre.length true) w → (∀ (j : Nat) (o : Oper) (d : Tmp), pre[j]? = some o → o.dst = some d → (V j).p w (slot a d)) → o.wp P a w (fun a' w' => o'.wp P a' w' (fun a'' w'' => Q .normal a'' w'') Q) Q) :
    (Code.region id l.toArray true).wp P Q a0 w := by
  obtain ⟨n, hn⟩ : ∃ n, n = pre.length := ⟨_, rfl⟩
  have hlen : l.length = n + 2 := by rw [hl, List.length_append, ← hn]; rfl
  have hat : ∀ i, i < n → l[i]? = pre[i]? := fun i hi => by
    rw [hl, List.getElem?_append_left (by omega)]
  have hatn : l[n]? = some o := by
    rw [hl, List.getElem?_append_right (by omega), ← hn, Nat.sub_self]; rfl
  have hatm : l[n + 1]? = some o' := by
    rw [hl, List.getElem?_append_right (by omega), ← hn, Nat.add_sub_cancel_left]; rfl
  have hsz' : ∀ (i : Nat) (o : Oper) (d : Tmp), pre.toArray[i]? = some o → o.dst = some d → d < a0.tmps.size := by
    intro i o d ho hd
    have := List.all_eq_true.1 hsz o (List.mem_of_getElem? (by simpa using ho))
    rw [hd] at this
    simpa using this
  have hguard : ∀ (i : Nat) (x : Oper), l[i]? = some x → x.guard = none := fun i x hx => by
    have := List.all_eq_true.1 hfree x (List.mem_of_getElem? hx)
    simpa using this
  have hord : ∀ (i : Nat) (x : Oper), l[i]? = some x → ∀ j, waits x j = true → j < i := fun i x hx j hj => by
    unfold waits at hj
    obtain ⟨e, he, hb⟩ := List.any_eq_true.1 hj
    simp only [Bool.and_eq_true, beq_iff_eq] at hb
    have := order_at l 0 hor i x hx e (by simpa using he) hb.2
    omega
  rw [← hn] at hw1 hw2 h0 hdone
  have hw1 := List.all_eq_true.1 hw1
  have hw2 := List.all_eq_true.1 hw2
  refine Reg.wp_region_inv (fun L a w => (L.size = n + 2 ∧ L.getD n true = false ∧ L.getD (n + 1) true = false ∧ Inv pre.toArray V J a0 L.pop.pop a w) ∨ (L.size = n + 2 ∧ (∀ j, j < n + 1 → L.getD j false = true) ∧ L.getD (n + 1) true = false ∧ o'.wp P a w (fun a'' w'' => Q .normal a'' w'') Q) ∨ ((∀ j, j < n + 2 → L.getD j false = true) ∧ Q .normal a w)) hm ?_ ?_ ?_
  · left
    have e : (Array.replicate l.toArray.size false).pop.pop = Array.replicate n false := by simp [hlen]
    refine ⟨by simp [hlen], by simp [hlen], by simp [hlen], by rw [e]; simp [hn], fun _ _ => rfl, rfl, rfl, ?_, fun j o d _ _ hl' => ?_, fun j o i _ hl' _ => ?_⟩
    · rw [e]; exact h0
    · rw [e] at hl'
      by_cases hj : j < n <;> simp [hj] at hl'
    · rw [e] at hl'
      by_cases hj : j < n <;> simp [hj] at hl'
  · intro L a' w' hI hready
    have hcon : L.size = n + 2 → L.getD (n + 1) true = false → False := by
      intro h1 h2
      have hall : ∀ j, j < n + 2 → L.getD j false = true := by
        intro j
        induction j using Nat.strongRecOn with
        | _ j ih =>
          intro hj
          have ho : l[j]? = some (l[j]'(by omega)) := List.getElem?_eq_getElem (by omega)
          refine Reg.none_ready (ops := l.toArray) (by simp [h1, hlen]) hready (o := l[j]'(by omega)) (by simp) fun e he hb => ?_
          have hlt := order_at l 0 hor j _ ho e he hb
          exact ih e.on (by omega) (by omega)
      have hn' := hall (n + 1) (by omega)
      have hsz : n + 1 < L.size := by omega
      simp [hsz] at h2 hn'
      rw [h2] at hn'; cases hn'
    rcases hI with ⟨h1, _, h2, _⟩ | ⟨h1, _, h2, _⟩ | ⟨_, hq⟩
    · exact (hcon h1 h2).elim
    · exact (hcon h1 h2).elim
    · exact hq
  · intro L a' w' i hI hi
    obtain ⟨hun, x, hx, hdep⟩ := mem_ready.1 hi
    have hx' : l[i]? = some x := by simpa using hx
    have hg := hguard i x hx'
    have hil : i < n + 2 := by rw [← hlen]; exact (List.getElem?_eq_some_iff.1 hx').1
    have hcame : ∀ j, waits x j = true → L.getD j false = true := by
      intro j hj
      unfold waits at hj
      obtain ⟨e, he, hb⟩ := List.any_eq_true.1 hj
      simp only [Bool.and_eq_true, beq_iff_eq] at hb
      have := hdep e (by simpa using he) hb.2
      rw [hb.1] at this
      exact this
    have hcon : ∀ j, L.getD j false = true → L.getD j true = false → False := fun j h h' => by
      by_cases hj : j < L.size
      · simp [hj] at h h'
        rw [h] at h'; cases h'
      · simp [hj] at h
    have hset : ∀ j, L.getD j false = true → (L.setIfInBounds i true).getD j false = true := fun j hj => by
      by_cases e : i = j
      · subst e
        exact (hcon i hj hun).elim
      · rw [Array.getD_eq_getD_getElem?, Array.getElem?_setIfInBounds, if_neg e, ← Array.getD_eq_getD_getElem?]
        exact hj
    have hset1 : i < L.size → (L.setIfInBounds i true).getD i false = true := fun h => by simp [h]
    have hback : ∀ (j : Nat) (b : Bool), j ≠ i → (L.setIfInBounds i true).getD j b = L.getD j b := fun j b hj => by
      rw [Array.getD_eq_getD_getElem?, Array.getElem?_setIfInBounds, if_neg (fun e => hj e.symm), ← Array.getD_eq_getD_getElem?]
    unfold wpOp
    simp only [hx]
    rw [if_pos (wanted_none hg _)]
    rcases hI with ⟨h1, h2, h3, hI⟩ | ⟨h1, h2, h3, hq⟩ | ⟨h2, _⟩
    · have hp1 : L.pop.size = n + 1 := pop_size h1
      have pp : ∀ (j : Nat) (b : Bool), j < n → L.pop.pop.getD j b = L.getD j b := fun j b hj => by
        rw [pop_getD hp1 hj, pop_getD h1 (by omega)]
      by_cases hin : i = n
      · subst hin
        rw [hatn] at hx'
        injection hx' with hx'
        subst hx'
        obtain ⟨gs, g2, g3, g4, g5, g6, g7⟩ := hI
        have hall : ∀ j, j < i → L.getD j false = true := fun j hj => by
          have := needsB_came (l := l) (L := L.setIfInBounds i true) (fun j y k hy hj hk => by
            by_cases hji : j = i
            · subst hji
              rw [hatn] at hy
              injection hy with hy
              subst hy
              exact hset k (hcame k hk)
            · have hjl : j < i + 2 := by rw [← hlen]; exact (List.getElem?_eq_some_iff.1 hy).1
              rw [hback j false hji] at hj
              by_cases hjm : j = i + 1
              · subst hjm
                exact (hcon _ hj h3).elim
              · have hji2 : j < i := by omega
                have hkj := hord j y hy k hk
                have := g7 j y k (by have := hat j hji2; rw [hy] at this; simpa using this.symm) (by rw [pp j false hji2]; exact hj) hk
                rw [pp k false (by omega)] at this
                exact hset k this) (by rw [hn]; rw [hn] at hw1; exact hw1 j (List.mem_range.2 (by omega))) (hset1 (by omega))
          rw [hback j false (by omega)] at this
          exact this
        have hpop : L.pop.pop = Array.replicate i true := by
          apply Array.ext
          · simp [h1]
          · intro j hj1 hj2
            have hj : j < i := by simpa using hj2
            have := hall j hj
            have hjL : j < L.size := by omega
            simp [hjL] at this
            simp [this]
        rw [hpop] at g5
        refine .inl (Oper.wp_mono (fun a'' w'' hq => .inr (.inl ⟨by simp [h1], fun j hj => ?_, by rw [hback _ _ (by omega)]; exact h3, hq⟩)) (hdone a' w' g2 g3 g4 g5 fun j y d hj hd => g6 j y d (by simpa using hj) hd ?_))
        · by_cases e : j = i
          · subst e; exact hset1 (by omega)
          · exact hset j (hall j (by omega))
        · have hjn : j < i := by rw [hn]; exact (List.getElem?_eq_some_iff.1 hj).1
          rw [pp j false hjn]
          exact hall j hjn
      · by_cases him : i = n + 1
        · subst him
          rw [hatm] at hx'
          injection hx' with hx'
          subst hx'
          exact (hcon n (hcame n (hw2 n (List.mem_range.2 (by omega)))) h2).elim
        · have hin' : i < n := by omega
          have hxd : pre.toArray[i]? = some x := by
            have := hat i hin'
            rw [hx'] at this
            simpa using this.symm
          have hs := rel_step (by simpa using hap) hsz' hsteps hI (by rw [pp i true hin']; exact hun) hxd hg fun j hj => by rw [pp j false (Nat.lt_trans (hord i x hx' j hj) hin')]; exact hcame j hj
          refine .inl (Oper.wp_mono (fun a'' w'' hq => .inl ⟨by simp [h1], by rw [hback _ _ (by omega)]; exact h2, by rw [hback _ _ (by omega)]; exact h3, by rw [pop_set h1 (by omega), pop_set hp1 hin']; exact hq⟩) hs)
    · have hi1 : i = n + 1 := by
        rcases Nat.lt_or_ge i (n + 1) with h | h
        · exact (hcon i (h2 i h) hun).elim
        · omega
      subst hi1
      rw [hatm] at hx'
      injection hx' with hx'
      subst hx'
      refine .inl (Oper.wp_mono (fun a'' w'' hq => .inr (.inr ⟨fun j hj => ?_, hq⟩)) hq)
      by_cases e : j = n + 1
      · subst e; exact hset1 (by omega)
      · exact hset j (h2 j (by omega))
    · exact (hcon i (h2 i hil) hun).elim

/-- The same, by what lies ahead of the last two. -/
theorem wp_region_ends {id : Nat} {w : World} {l : List Oper} (o o' : Oper) (V : Nat → Kd G) (J : Array Bool → World → Prop) (hm : P.follows .mixedOrders = true) (h1 : l.dropLast.getLast? = some o) (h2 : l.getLast? = some o') (hfree : (l.all fun o => o.guard.isNone) = true) (hap : apartB l.dropLast.dropLast = true) (hor : orderB 0 l = true)
    (hw1 : ((List.range l.dropLast.dropLast.length).all fun j => needsB l l.dropLast.dropLast.length j) = true) (hw2 : ((List.range (l.dropLast.dropLast.length + 1)).all fun j => waits o' j) = true) (hsz : (l.dropLast.dropLast.all fun o => match o.dst with | some d => decide (d < a0.tmps.size) | none => true) = true)
    (h0 : J (Array.replicate l.dropLast.dropLast.length false) w.drew) (hsteps : Steps P l.dropLast.dropLast.toArray Q V J a0 0 l.dropLast.dropLast)
    (hdone : ∀ a w, (∀ s, unwritten l.dropLast.dropLast.toArray s = true → slot a s = slot a0 s) → a.tmps.size = a0.tmps.size → a.defers = a0.defers → J (Array.replicate l.dropLast.dropLast.length true) w → (∀ (j : Nat) (o : Oper) (d : Tmp), l.dropLast.dropLast[j]? = some o → o.dst = some d → (V j).p w (slot a d)) → o.wp P a w (fun a' w' => o'.wp P a' w' (fun a'' w'' => Q .normal a'' w'') Q) Q) :
    (Code.region id l.toArray true).wp P Q a0 w := by
  have cut : ∀ {m : List Oper} {y : Oper}, m.getLast? = some y → m = m.dropLast ++ [y] := by
    intro m y e
    rcases List.eq_nil_or_concat m with h | ⟨l', b, h⟩
    · rw [h] at e; cases e
    · rw [h] at e ⊢
      simp at e
      subst e
      simp
  have e1 := cut h1
  have e2 := cut h2
  have e3 : l = l.dropLast.dropLast ++ [o, o'] := by
    have e4 := e2
    rw [e1] at e4
    simpa using e4
  exact wp_region_two l.dropLast.dropLast o o' V J hm e3 hfree hap hor hw1 hw2 hsz h0 hsteps hdone
end Go.Proofs.Ytckebhknnocpkaa.Rel
