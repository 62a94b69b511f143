/- Common to the claims of this seat, part 8: texts that were written one by one, laid behind one another. -/
import Derived.Laws.ResultCell
import Derived.BigFrame
import Derived.BigQuiet
import Derived.Deep.DeepCutAuto
import Derived.Deep.CutBlock
import Derived.WalkLawsBesides
import Derived.LoopTactic
import Derived.Test.YtjcndgopijpibaaGreatPart5
import Derived.Test.YtjcndgopijpibaaGreatPart6
import Derived.Test.YtjcndgopijpibaaGreatPart7
/- A region that draws its order and sees its slots (as RegSee), with stores in it: an operation may write no slot. -/
namespace Go.Proofs.YtjcndgopijpibaaGreat.Rel
open Go.RowKit
def apartN : List Oper → Bool
  | [] => true
  | o :: l => (o.dst.isNone || l.all (fun x => x.dst != o.dst)) && apartN l
theorem apartN_at (l : List Oper) : apartN l = true → ∀ (i j : Nat) (o o' : Oper) (d d' : Tmp), l[i]? = some o → l[j]? = some o' → i ≠ j → o.dst = some d → o'.dst = some d' → d ≠ d' := by
  induction l with
  | nil => intro _ i j o o' d d' e; simp at e
  | cons x l ih =>
    intro h i j o o' d d' e e' hne hd hd'
    simp only [apartN, Bool.and_eq_true, Bool.or_eq_true, List.all_eq_true, bne_iff_ne, ne_eq] at h
    have far : ∀ (y : Oper) (dx dy : Tmp), y ∈ l → x.dst = some dx → y.dst = some dy → dx ≠ dy := by
      intro y dx dy hy hx hyd e
      rcases h.1 with h1 | h1
      · rw [hx] at h1; cases h1
      · exact h1 y hy (by rw [hx, hyd, e])
    cases i with
    | zero =>
      cases j with
      | zero => exact absurd rfl hne
      | succ j =>
        simp at e e'; subst e
        exact far o' d d' (List.mem_of_getElem? e') hd hd'
    | succ i =>
      cases j with
      | zero =>
        simp at e e'; subst e'
        exact (far o d' d (List.mem_of_getElem? e) hd' hd).symm
      | succ j => exact ih h.2 i j o o' d d' (by simpa using e) (by simpa using e') (by omega) hd hd'
section
variable {P : Program} {ops : Array Oper} {Q : Exit → Act → World → Prop} {G : World → World → Prop} {V : Nat → Kd G} {J : Array Bool → World → Prop} {a0 : Act}
theorem inv_stepN {k : Nat} {o : Oper} {L : Array Bool} {a : Act} {w w' : World} {v : Value} (hap : apartN ops.toList = true) (hsz : ∀ (i : Nat) (o : Oper) (d : Tmp), ops[i]? = some o → o.dst = some d → d < a0.tmps.size)
    (ho : ops[k]? = some o) (hk : L.getD k true = false) (hcm : ∀ j, waits o j = true → L.getD j false = true) (hI : Inv ops V J a0 L a w) (hG : G w w') (hv : (V k).p w' v) (hJ : J (L.setIfInBounds k true) w') : Inv ops V J a0 (L.setIfInBounds k true) (a.put o.dst v) w' := by
  obtain ⟨h1, h2, h3, h4, h5, h6, h7⟩ := hI
  have hset : ∀ i, L.getD i false = true → (L.setIfInBounds k true).getD i false = true := by
    intro i hi
    by_cases hik : k = i
    · subst hik
      obtain ⟨hs, _⟩ := Reg.getD_false hk
      simp [hs]
    · simpa [hik] using hi
  refine ⟨by simp [h1], fun s hs => ?_, by rw [put_size]; exact h3, by rw [put_defers]; exact h4, hJ, fun j o' d' ho' hd' hl => ?_, fun j o' i ho' hl hw => ?_⟩
  · cases hd : o.dst with
    | none => exact h2 s hs
    | some d =>
      rw [slot_put_ne (fun e => unwritten_ne hs ho (by rw [hd, e]))]
      exact h2 s hs
  · by_cases hjk : j = k
    · subst hjk
      rw [ho] at ho'
      injection ho' with ho'
      subst ho'
      rw [hd', slot_put (by rw [h3]; exact hsz _ _ _ ho hd')]
      exact hv
    · have h8 : (V j).p w (slot a d') := h6 j o' d' ho' hd' (by simpa [Ne.symm hjk] using hl)
      have h9 := (V j).st w w' _ hG h8
      cases hd : o.dst with
      | none => exact h9
      | some d =>
        rw [slot_put_ne (fun e => apartN_at ops.toList hap k j o o' d d' (by simpa using ho) (by simpa using ho') (Ne.symm hjk) hd hd' e)]
        exact h9
  · by_cases hjk : j = k
    · subst hjk
      rw [ho] at ho'
      injection ho' with ho'
      subst ho'
      exact hset i (hcm i hw)
    · exact hset i (h7 j o' i ho' (by simpa [Ne.symm hjk] using hl) hw)
end
section
variable {P : Program} {ops : Array Oper} {Q : Exit → Act → World → Prop} {G : World → World → Prop} {V : Nat → Kd G} {J : Array Bool → (Tmp → Value) → World → Prop} {a0 : Act}
theorem wp_region_seen {id : Nat} {w : World} {l : List Oper} (V : Nat → Kd G) (J : Array Bool → (Tmp → Value) → World → Prop) (hm : P.follows .mixedOrders = true) (hap : apartN l = true) (hor : orderB 0 l = true) (hsz : (l.all fun o => match o.dst with | some d => decide (d < a0.tmps.size) | none => true) = true)
    (hGr : ∀ w, G w w) (h0 : J (Array.replicate l.length false) (slot a0) w.drew) (hsteps : StepsS P l.toArray Q V J a0 0 l)
    (hdone : ∀ a w, (∀ s, unwritten l.toArray s = true → slot a s = slot a0 s) → a.tmps.size = a0.tmps.size → a.defers = a0.defers → J (Array.replicate l.length true) (slot a) w → (∀ (j : Nat) (o : Oper) (d : Tmp), l[j]? = some o → o.dst = some d → (V j).p w (slot a d)) → Q .normal a w) :
    (Code.region id l.toArray true).wp P Q a0 w := by
  have hsz' : ∀ (i : Nat) (o : Oper) (d : Tmp), l.toArray[i]? = some o → o.dst = some d → d < a0.tmps.size := by
    intro i o d ho hd
    have := List.all_eq_true.1 hsz o (List.mem_of_getElem? (by simpa using ho))
    rw [hd] at this
    simpa using this
  refine Reg.wp_region_inv (fun L a w => Inv l.toArray V (fun _ _ => True) a0 L a w ∧ J L (slot a) w) hm ?_ ?_ ?_
  · exact ⟨⟨by simp, fun _ _ => rfl, rfl, rfl, trivial, fun j o d _ _ hl => by
      by_cases hj : j < l.length <;> simp [hj] at hl, fun j o i _ hl _ => by
      by_cases hj : j < l.length <;> simp [hj] at hl⟩, by simpa using h0⟩
  · intro L a' w' hI hready
    obtain ⟨⟨h1, h2, h3, h4, _, h6, h7⟩, h5⟩ := hI
    have hall : ∀ j, j < l.length → L.getD j false = true := by
      intro j
      induction j using Nat.strongRecOn with
      | _ j ih =>
        intro hj
        have ho : l[j]? = some l[j] := List.getElem?_eq_getElem hj
        refine Reg.none_ready (by exact h1) hready (o := l[j]) (by simp) fun e he hb => ?_
        have hlt := order_at l 0 hor j _ ho e he hb
        exact ih e.on (by omega) (by omega)
    have hL : L = Array.replicate l.length true := by
      apply Array.ext
      · simpa using h1
      · intro i hi1 hi2
        have := hall i (by simpa using hi2)
        simp [hi1] at this
        simp [this]
    subst hL
    exact hdone a' w' h2 h3 h4 h5 fun j o d hj hd => h6 j o d (by simpa using hj) hd (hall j (by
      rcases Nat.lt_or_ge j l.length with h | h
      · exact h
      · rw [List.getElem?_eq_none h] at hj; cases hj))
  · intro L a' w' i hI hi
    obtain ⟨hI, hJ0⟩ := hI
    obtain ⟨hun, o, ho, hdep⟩ := mem_ready.1 hi
    have hI' := hI
    obtain ⟨h1, h2, h3, h4, h5, h6, h7⟩ := hI
    have hcame : ∀ j, waits o j = true → L.getD j false = true := by
      intro j hj
      unfold waits at hj
      obtain ⟨e, he, hb⟩ := List.any_eq_true.1 hj
      simp only [Bool.and_eq_true, beq_iff_eq] at hb
      have := hdep e (by simpa using he) hb.2
      rw [hb.1] at this
      exact this
    have hs := stepsS_at l 0 hsteps i o (by simpa using ho)
    rw [Nat.zero_add] at hs
    replace hs := hs L a' w' ⟨h1, hun, h2, h3, h5, fun j o' d hj hd hw => h6 j o' d hj hd (hcame j hw), hcame, h7⟩ hJ0
    unfold wpOp
    simp only [ho]
    rcases hs with ⟨hw, hs⟩ | ⟨hw, hv, hJ⟩
    · rw [if_pos hw]
      exact .inl (Oper.wp_mono (fun a'' w'' ⟨v, ha, hG, hv, hJ⟩ => by subst ha; exact ⟨inv_stepN (by simpa using hap) hsz' ho hun hcame hI' hG hv trivial, hJ⟩) hs)
    · rw [if_neg (by rw [hw]; exact Bool.false_ne_true)]
      exact ⟨inv_stepN (by simpa using hap) hsz' ho hun hcame hI' (hGr w') hv trivial, hJ⟩
end
end Go.Proofs.YtjcndgopijpibaaGreat.Rel
/- Common: a region that draws its order whose last operation waits for all others (a store behind what it stores): the others by what the slots hold (XRegRel), then the last one alone. -/
namespace Go.Proofs.YtjcndgopijpibaaGreat.Rel
open Go.RowKit
variable {P : Program} {Q : Exit → Act → World → Prop} {G : World → World → Prop} {a0 : Act}
theorem pop_size {L : Array Bool} {n : Nat} (h : L.size = n + 1) : L.pop.size = n := by simp [h]
theorem pop_at {L : Array Bool} {n i : Nat} (h : L.size = n + 1) (hi : i < n) : L.pop[i]? = L[i]? := by
  rw [Array.getElem?_pop, if_pos (by omega)]
theorem pop_getD {L : Array Bool} {n i : Nat} (h : L.size = n + 1) (hi : i < n) (b : Bool) : L.pop.getD i b = L.getD i b := by
  rw [Array.getD_eq_getD_getElem?, Array.getD_eq_getD_getElem?, pop_at h hi]
theorem pop_set {L : Array Bool} {n i : Nat} (h : L.size = n + 1) (hi : i < n) : (L.setIfInBounds i true).pop = L.pop.setIfInBounds i true := by
  apply Array.ext_getElem?
  intro j
  rw [Array.getElem?_pop, Array.getElem?_setIfInBounds, Array.getElem?_setIfInBounds, Array.getElem?_pop]
  simp only [Array.size_setIfInBounds, Array.size_pop]
  by_cases hij : i = j
  · subst hij
    rw [if_pos (by omega), if_pos rfl, if_pos rfl, if_pos (by omega), if_pos (by omega)]
  · rw [if_neg hij, if_neg hij]
theorem rel_step {ops : Array Oper} {V : Nat → Kd G} {J : Array Bool → World → Prop} (hap : apartB ops.toList = true) (hsz : ∀ (i : Nat) (o : Oper) (d : Tmp), ops[i]? = some o → o.dst = some d → d < a0.tmps.size)
    (hsteps : Steps P ops Q V J a0 0 ops.toList) {L : Array Bool} {a : Act} {w : World} {i : Nat} {o : Oper} (hI : Inv ops V J a0 L a w) (hun : L.getD i true = false) (ho : ops[i]? = some o) (hg : o.guard = none) (hcame : ∀ j, waits o j = true → L.getD j false = true) :
    o.wp P a w (fun a' w' => Inv ops V J a0 (L.setIfInBounds i true) a' w') Q := by
  have hI' := hI
  obtain ⟨h1, h2, h3, h4, h5, h6, h7⟩ := hI
  have hs := steps_at ops.toList 0 hsteps i o (by simpa using ho)
  rw [Nat.zero_add] at hs
  replace hs := hs L a w ⟨h1, hun, h2, h3, h5, fun j o' d hj hd hw => h6 j o' d hj hd (hcame j hw), hcame, h7⟩
  rcases hs with ⟨hw, hs⟩ | ⟨hw, hv, hJ⟩
  · exact Oper.wp_mono (fun a'' w'' ⟨v, ha, hG, hv, hJ⟩ => by subst ha; exact inv_step hap hsz ho hun hcame hI' hG hv hJ) hs
  · rw [wanted_none hg] at hw; cases hw
section
variable {o : Oper} {a : Act} {w : World} {K : Act → World → Prop}
theorem wp_al (t : TypeId) (ho : o.op = .alloc t) {u : Value} {w' : World} (hr : (Instr.alloc t true (.tuple #[])).run P w = .ok u w') (h : K (a.put o.dst u) w') : o.wp P a w K Q := by
  unfold Oper.wp execOp
  simp only [ho, Sem.run_bind, hr]
  exact h
end
end Go.Proofs.YtjcndgopijpibaaGreat.Rel
/- Book: a call's transaction put into a box that is made in the same drawn region (`t, e := book.Fill(s, list[i])`). -/
namespace Go.Proofs.YtjcndgopijpibaaGreat.Bok
set_option maxRecDepth 100000
open Go.RowKit
open Go.Sort
open Kit
open Foot
open Rel (slot)
open Tre (Lst inI lst_keep IntsL encI encI_len)
open Led (Lg encG encG_len)
open Ent (Tx Tv)
set_option linter.unusedVariables false
variable {w w' : World}
theorem newL_chg {α : Type} {enc : α → List Value} {size base : Nat} {T : TypeId} {a : Option Addr} {n c : Nat} {l : List α} {F : Nat → Prop} (hs : ∀ x, (enc x).length = size) (h : NewL enc size T w base a n c l) (hC : Chg F w w') (hF : ∀ q, a = some q → ¬ F q.block) : NewL enc size T w' base a n c l := by
  refine ⟨?_, fun q hq => ?_⟩
  · obtain ⟨h1, h2, h3, h4, h5⟩ := h.lst
    refine ⟨h1, h2, h3, h4, ?_⟩
    rcases h5 with e | ⟨b, o, e, hr⟩
    · exact .inl e
    · subst e
      exact row_chg hs hC (.inr ⟨b, o, rfl, hr⟩) (hF _ rfl)
  · obtain ⟨g1, g2, cur, g3⟩ := h.new q hq
    exact ⟨g1, Nat.lt_of_lt_of_le g2 hC.size, cur, by rw [hC.block _ g2 (hF q hq)]; exact g3⟩
theorem newL_le {α : Type} {enc : α → List Value} {size base base' : Nat} {T : TypeId} {a : Option Addr} {n c : Nat} {l : List α} (h : NewL enc size T w base a n c l) (hb : base' ≤ base) : NewL enc size T w base' a n c l :=
  ⟨h.lst, fun q hq => ⟨Nat.le_trans hb (h.new q hq).1, (h.new q hq).2⟩⟩
theorem newT_keep {base : Nat} {u : Tv} (h : NewT w base u) (hb : Below w.heap.size w w') : NewT w' base u := ⟨Ent.in_keep h.inn hb, newL_keep encI_len h.a hb, newL_keep encG_len h.g hb⟩
theorem newT_le {base base' : Nat} {u : Tv} (h : NewT w base u) (hb : base' ≤ base) : NewT w base' u := ⟨h.inn, newL_le h.a hb, newL_le h.g hb⟩
theorem newT_chg {base : Nat} {u : Tv} {F : Nat → Prop} (h : NewT w base u) (hC : Chg F w w') (h1 : ∀ q, u.a1 = some q → ¬ F q.block) (h2 : ∀ q, u.a2 = some q → ¬ F q.block) : NewT w' base u :=
  ⟨⟨(newL_chg encI_len h.a hC h1).lst, (newL_chg encG_len h.g hC h2).lst, h.inn.key, h.inn.name⟩, newL_chg encI_len h.a hC h1, newL_chg encG_len h.g hC h2⟩
def z7 : List Value := [.int .i64 0, .int .i64 0, .int .i64 0, .string ⟨#[]⟩, .string ⟨#[]⟩, .slice none 0 0, .slice none 0 0]
namespace BoxCal
structure At where
  ic : Nat
  dc : Nat
  im : Nat
  dm : Nat
  ie : Nat
  de : Nat
  ia : Nat
  da : Nat
  is : Nat
def Far (u : Tv) (b : Nat) : Prop := (∀ q, u.a1 = some q → q.block ≠ b) ∧ ∀ q, u.a2 = some q → q.block ≠ b
structure J (n : At) (W : World) (T : Tx) (e : Int) (L : Array Bool) (s : Nat → Value) (w : World) : Prop where
  below : Below W.heap.size W w
  call : L.getD n.ic false = true → ∃ u : Tv, s n.dc = .tuple #[Ent.valV u, .int .i64 e] ∧ u.t = T ∧ NewT w W.heap.size u ∧ (L.getD n.ia false = true → ∀ b, s n.da = .pointer (some ⟨b, 0, none⟩) → Far u b) ∧ (L.getD n.im false = true → s n.dm = s n.dc) ∧ (L.getD n.ie false = true → s n.de = Ent.valV u) ∧ (L.getD n.is false = true → ∃ b, s n.da = .pointer (some ⟨b, 0, none⟩) ∧ W.heap.size ≤ b ∧ Arr.Blk w b 34 (Ent.encV u))
  box : L.getD n.ia false = true → L.getD n.is false = false → ∃ b, s n.da = .pointer (some ⟨b, 0, none⟩) ∧ W.heap.size ≤ b ∧ Arr.Blk w b 34 z7
variable {n : At} {W : World} {T : Tx} {e : Int} {L : Array Bool} {a : Act}
theorem start {W1 : World} (hb : Below W.heap.size W W1) (m : Nat) (f : Nat → Value) : J n W T e (Array.replicate m false) f W1.drew := by
  have h : ∀ i : Nat, (Array.replicate m false).getD i false = false := by
    intro i
    by_cases hi : i < m <;> simp [hi]
  refine ⟨below_keep hb (below_drew W1), ?_, ?_⟩ <;> intro e <;> rw [h] at e <;> cases e
def farB (k : Nat) (l : List Nat) : Bool := l.all fun i => k != i
theorem go {k d : Nat} {v : Value} (h : J n W T e L (slot a) w) (hk : farB k [n.ic, n.im, n.ie, n.ia, n.is] = true) (hd : farB d [n.dc, n.dm, n.de, n.da] = true) (hb : Below w.heap.size w w') : J n W T e (L.setIfInBounds k true) (slot (a.put (some d) v)) w' := by
  simp only [farB, List.all_cons, List.all_nil, Bool.and_true, Bool.and_eq_true, bne_iff_ne, ne_eq] at hk hd
  obtain ⟨k1, k2, k3, k4, k5⟩ := hk
  obtain ⟨d1, d2, d3, d4⟩ := hd
  obtain ⟨h1, h2, h3⟩ := h
  refine ⟨below_keep h1 hb, ?_, ?_⟩
  all_goals simp only [Rel.set_ne k1, Rel.set_ne k2, Rel.set_ne k3, Rel.set_ne k4, Rel.set_ne k5, Rel.slot_put_ne d1, Rel.slot_put_ne d2, Rel.slot_put_ne d3, Rel.slot_put_ne d4]
  · intro hc
    obtain ⟨u, g1, g2, g3, g4, g5, g6, g7⟩ := h2 hc
    refine ⟨u, g1, g2, newT_keep g3 hb, g4, g5, g6, fun hs => ?_⟩
    obtain ⟨b, e1, e2, e3⟩ := g7 hs
    exact ⟨b, e1, e2, Arr.blk_below e3 hb (Arr.blk_lt e3)⟩
  · intro ha hs
    obtain ⟨b, e1, e2, e3⟩ := h3 ha hs
    exact ⟨b, e1, e2, Arr.blk_below e3 hb (Arr.blk_lt e3)⟩
theorem cl {u : Tv} (h : J n W T e L (slot a) w) (hk : farB n.ic [n.im, n.ie, n.ia, n.is] = true) (hd : farB n.dc [n.dm, n.de, n.da] = true) (ht : n.dc < a.tmps.size) (hs : n.ic < L.size) (hm : L.getD n.im false = false) (he : L.getD n.ie false = false) (hst : L.getD n.is false = false) (hb : Below w.heap.size w w') (hu : u.t = T) (hn : NewT w' w.heap.size u) :
    J n W T e (L.setIfInBounds n.ic true) (slot (a.put (some n.dc) (.tuple #[Ent.valV u, .int .i64 e]))) w' := by
  simp only [farB, List.all_cons, List.all_nil, Bool.and_true, Bool.and_eq_true, bne_iff_ne, ne_eq] at hk hd
  obtain ⟨k2, k3, k4, k5⟩ := hk
  obtain ⟨d2, d3, d4⟩ := hd
  obtain ⟨h1, h2, h3⟩ := h
  refine ⟨below_keep h1 hb, ?_, ?_⟩
  all_goals simp only [Rel.set_ne k2, Rel.set_ne k3, Rel.set_ne k4, Rel.set_ne k5, Rel.slot_put_ne d2, Rel.slot_put_ne d3, Rel.slot_put_ne d4, Rel.slot_put ht]
  · intro _
    refine ⟨u, rfl, hu, newT_le hn h1.size, fun ha b hbe => ?_, fun h => ?_, fun h => ?_, fun h => ?_⟩
    · obtain ⟨b', e1, e2, e3⟩ := h3 ha hst
      rw [e1] at hbe
      injection hbe with hbe
      injection hbe with hbe
      injection hbe with hbe
      have hlt := Arr.blk_lt e3
      exact ⟨fun q hq => by have := (hn.a.new q hq).1; omega, fun q hq => by have := (hn.g.new q hq).1; omega⟩
    · rw [hm] at h; cases h
    · rw [he] at h; cases h
    · rw [hst] at h; cases h
  · intro ha hs'
    obtain ⟨b, e1, e2, e3⟩ := h3 ha hs'
    exact ⟨b, e1, e2, Arr.blk_below e3 hb (Arr.blk_lt e3)⟩
theorem mv (h : J n W T e L (slot a) w) (hk : farB n.im [n.ic, n.ie, n.ia, n.is] = true) (hd : farB n.dm [n.dc, n.de, n.da] = true) (ht : n.dm < a.tmps.size) (hs : n.im < L.size) : J n W T e (L.setIfInBounds n.im true) (slot (a.put (some n.dm) (slot a n.dc))) w := by
  simp only [farB, List.all_cons, List.all_nil, Bool.and_true, Bool.and_eq_true, bne_iff_ne, ne_eq] at hk hd
  obtain ⟨k1, k3, k4, k5⟩ := hk
  obtain ⟨d1, d3, d4⟩ := hd
  obtain ⟨h1, h2, h3⟩ := h
  refine ⟨h1, ?_, ?_⟩
  all_goals simp only [Rel.set_ne k1, Rel.set_ne k3, Rel.set_ne k4, Rel.set_ne k5, Rel.slot_put_ne d1, Rel.slot_put_ne d3, Rel.slot_put_ne d4, Rel.slot_put ht]
  · intro hc
    obtain ⟨u, g1, g2, g3, g4, g5, g6, g7⟩ := h2 hc
    exact ⟨u, g1, g2, g3, g4, fun _ => trivial, g6, g7⟩
  · exact h3
theorem ex (h : J n W T e L (slot a) w) (hk : farB n.ie [n.ic, n.im, n.ia, n.is] = true) (hd : farB n.de [n.dc, n.dm, n.da] = true) (ht : n.de < a.tmps.size) (hs : n.ie < L.size) (hc : L.getD n.ic false = true) (hm : L.getD n.im false = true) :
    ∃ u : Tv, slot a n.dm = .tuple #[Ent.valV u, .int .i64 e] ∧ J n W T e (L.setIfInBounds n.ie true) (slot (a.put (some n.de) (Ent.valV u))) w := by
  simp only [farB, List.all_cons, List.all_nil, Bool.and_true, Bool.and_eq_true, bne_iff_ne, ne_eq] at hk hd
  obtain ⟨k1, k2, k4, k5⟩ := hk
  obtain ⟨d1, d2, d4⟩ := hd
  obtain ⟨h1, h2, h3⟩ := h
  obtain ⟨u, g1, g2, g3, g4, g5, g6, g7⟩ := h2 hc
  refine ⟨u, (g5 hm).trans g1, h1, ?_, ?_⟩
  all_goals simp only [Rel.set_ne k1, Rel.set_ne k2, Rel.set_ne k4, Rel.set_ne k5, Rel.slot_put_ne d1, Rel.slot_put_ne d2, Rel.slot_put_ne d4, Rel.slot_put ht]
  · exact fun _ => ⟨u, g1, g2, g3, g4, g5, fun _ => rfl, g7⟩
  · exact h3
theorem al (h : J n W T e L (slot a) w) (hk : farB n.ia [n.ic, n.im, n.ie, n.is] = true) (hd : farB n.da [n.dc, n.dm, n.de] = true) (ht : n.da < a.tmps.size) (hs : n.ia < L.size) (hst : L.getD n.is false = false) :
    J n W T e (L.setIfInBounds n.ia true) (slot (a.put (some n.da) (.pointer (some ⟨w.heap.size, 0, none⟩)))) (w.alloc (.cells z7.toArray 34)) := by
  simp only [farB, List.all_cons, List.all_nil, Bool.and_true, Bool.and_eq_true, bne_iff_ne, ne_eq] at hk hd
  obtain ⟨k1, k2, k3, k5⟩ := hk
  obtain ⟨d1, d2, d3⟩ := hd
  obtain ⟨h1, h2, h3⟩ := h
  have hb := below_alloc w (.cells z7.toArray 34)
  refine ⟨below_keep h1 hb, ?_, ?_⟩
  all_goals simp only [Rel.set_ne k1, Rel.set_ne k2, Rel.set_ne k3, Rel.set_ne k5, Rel.slot_put_ne d1, Rel.slot_put_ne d2, Rel.slot_put_ne d3, Rel.slot_put ht]
  · intro hc
    obtain ⟨u, g1, g2, g3, g4, g5, g6, g7⟩ := h2 hc
    refine ⟨u, g1, g2, newT_keep g3 hb, fun _ b hbe => ?_, g5, g6, fun h => ?_⟩
    · injection hbe with hbe
      injection hbe with hbe
      injection hbe with hbe
      exact ⟨fun q hq => by have := (g3.a.new q hq).2.1; omega, fun q hq => by have := (g3.g.new q hq).2.1; omega⟩
    · rw [hst] at h; cases h
  · intro _ _
    exact ⟨w.heap.size, rfl, h1.size, Arr.blk_new w _ _ z7 rfl⟩
theorem st {m : Nat} (h : J n W T e L (slot a) w) (hk : farB n.is [n.ic, n.im, n.ie, n.ia] = true) (hc : L.getD n.ic false = true) (he : L.getD n.ie false = true) (ha : L.getD n.ia false = true) (hst : L.getD n.is false = false) (hm : L.size = m) (hsm : n.is < m) :
    ∃ (b : Nat) (u : Tv), slot a n.da = .pointer (some ⟨b, 0, none⟩) ∧ slot a n.de = .agg (Ent.encV u).toArray ∧ Arr.Blk w b 34 z7 ∧ J n W T e (L.setIfInBounds n.is true) (slot a) (w.setRow b (Ent.encV u).toArray) := by
  simp only [farB, List.all_cons, List.all_nil, Bool.and_true, Bool.and_eq_true, bne_iff_ne, ne_eq] at hk
  obtain ⟨k1, k2, k3, k4⟩ := hk
  obtain ⟨h1, h2, h3⟩ := h
  obtain ⟨u, g1, g2, g3, g4, g5, g6, g7⟩ := h2 hc
  obtain ⟨b, e1, e2, e3⟩ := h3 ha hst
  have hC : Chg (fun k => k = b) w (w.setRow b (Ent.encV u).toArray) := chg_row (F := fun k => k = b) (chg_refl _ _) (.inl rfl) _
  have hf := g4 ha b e1
  refine ⟨b, u, e1, g6 he, e3, Arr.below_row h1 e2 _, ?_, ?_⟩
  all_goals simp only [Rel.set_ne k1, Rel.set_ne k2, Rel.set_ne k3, Rel.set_ne k4, Rel.set_eq hm hsm]
  · exact fun _ => ⟨u, g1, g2, newT_chg g3 hC hf.1 hf.2, g4, g5, g6, fun _ => ⟨b, e1, e2, Arr.blk_row e3 _⟩⟩
  · intro _ h; cases h
theorem fin {m : Nat} {f : Nat → Value} (h : J n W T e (Array.replicate m true) f w) (h1 : n.ic < m) (h2 : n.is < m) : ∃ (b : Nat) (u : Tv), f n.da = .pointer (some ⟨b, 0, none⟩) ∧ u.t = T ∧ NewT w W.heap.size u ∧ W.heap.size ≤ b ∧ Arr.Blk w b 34 (Ent.encV u) ∧ Below W.heap.size W w := by
  have hg : ∀ i, i < m → (Array.replicate m true).getD i false = true := fun i hi => by simp [hi]
  obtain ⟨u, g1, g2, g3, g4, g5, g6, g7⟩ := h.call (hg _ h1)
  obtain ⟨b, e1, e2, e3⟩ := g7 (hg _ h2)
  exact ⟨b, u, e1, g2, g3, e2, e3, h.below⟩
end BoxCal
end Go.Proofs.YtjcndgopijpibaaGreat.Bok
/- Common: a block of cells that is overwritten; a result in a cell beside one in a slot. -/
namespace Go.Proofs.YtjcndgopijpibaaGreat.Foot
open Go.RowKit
open Go.Sort
open Kit
set_option linter.unusedVariables false
theorem wpList_store_own {P : Program} {ops : Array Oper} {rest : List Oper} {o : Oper} {a : Act} {w : World} {Q : Exit → Act → World → Prop} (hgd : o.guard = none) (ty : TypeId) (x y : Operand) (ho : o.op = .store ty x y)
    (g : Nat) (ds : List Value) (hx : a.eval x = .pointer (some ⟨g, 0, none⟩)) (hy : a.eval y = .agg ds.toArray) (cs : List Value) (t : TypeId) (hB : Arr.Blk w g t cs) (hi : (P.info? ty).map (·.size) = some ds.length)
    (hold : cs.length = ds.length) (h1 : ds.all (·.oneCell') = true)
    (h : ∀ w', Arr.Blk w' g t ds → Chg (fun k => k = g) w w' → w'.heap.size = w.heap.size → wpList P ops Q rest (a.put o.dst undef) w') : wpList P ops Q (o :: rest) a w :=
  wpList_store_row hgd ty x y ho g ds.toArray hx hy t cs.toArray hB (by simpa using hi) (by simpa using hold) (by simpa using h1) (h _ (Arr.blk_row hB ds) (chg_row (F := fun k => k = g) (chg_refl _ _) (.inl rfl) _) (setRow_size _ _ _))
theorem results_cell_row2 {P : Program} {fn : Func} {p u : Tmp} {ty : TypeId} (h : fn.results = #[.cell p ty, .tmp u]) (tmps : Array Value) (w : World) (g : Nat) (t : TypeId) (cs : List Value) (d : TypeDesc)
    (hp : tmps.getD p undef = .pointer (some ⟨g, 0, none⟩)) (hg : Arr.Blk w g t cs) (hu : P.underlying ty = some d) (hd : (match d with | .struct _ | .array _ _ => true | _ => false) = true) (hi : (P.info? ty).map (·.size) = some cs.length) :
    (results fn tmps).run P w = .ok (.tuple #[.agg cs.toArray, tmps.getD u undef]) w := by
  rw [results_cell_tmp h, hp]
  simp [asAddr, Result.andThen, run_loadVar_row w g t ty cs.toArray (0, 0) d hg hu hd (by simpa using hi)]
end Go.Proofs.YtjcndgopijpibaaGreat.Foot
/- Book: a result that lies in a box. -/
namespace Go.Proofs.YtjcndgopijpibaaGreat.Bok
open Go.RowKit
variable {w w' : World}
theorem results_cell_blk {P : Program} {fn : Func} {p : Tmp} {ty : TypeId} (h : fn.results = #[.cell p ty]) (tmps : Array Value) (w : World) (g : Nat) (t : TypeId) (cs : List Value) (d : TypeDesc)
    (hp : tmps.getD p undef = .pointer (some ⟨g, 0, none⟩)) (hg : Arr.Blk w g t cs) (hu : P.underlying ty = some d) (hd : (match d with | .struct _ | .array _ _ => true | _ => false) = true) (hi : (P.info? ty).map (·.size) = some cs.length) :
    (results fn tmps).run P w = .ok (.agg cs.toArray) w := results_cell_row h tmps w g t cs.toArray (0, 0) d hp hg hu hd (by simpa using hi)
end Go.Proofs.YtjcndgopijpibaaGreat.Bok
/- Book: the laws' small. -/
namespace Go.Proofs.YtjcndgopijpibaaGreat.Bok
set_option maxRecDepth 100000
open Go.RowKit
open Go.Sort
open Kit
open Foot
open Tre (Lst inI lst_keep lst_take lst_at lst_new lst_none IntsL encI encI_len)
open Led (Lg encG encG_len Legs)
open Ent (Tx Tv)
set_option linter.unusedVariables false
variable {w w' : World}
def smallT (t : Tx) : Tx := { t with args := t.args.take 20, legs := t.legs.take 80 }
theorem small_ok {t : Tx} (h : t.ok) : (smallT t).ok := ⟨h.1, h.2.1, h.2.2.1, fun x hx => h.2.2.2.1 x (List.mem_of_mem_take hx), fun g hg => h.2.2.2.2 g (List.mem_of_mem_take hg)⟩
theorem small_eq {sq tm kd : Int} {ky nm : ByteArray} {ags A : List Int} {lgs L : List Lg} (h1 : ags.take 20 = A) (h2 : lgs.take 80 = L) : (⟨sq, tm, kd, ky, nm, A, L⟩ : Tx) = smallT ⟨sq, tm, kd, ky, nm, ags, lgs⟩ := by subst h1 h2; rfl
def zero7 : List Value := [.int .i64 0, .int .i64 0, .int .i64 0, .string ⟨#[]⟩, .string ⟨#[]⟩, .slice none 0 0, .slice none 0 0]
theorem take_few {α : Type} {l : List α} {n m : Nat} (h : l.length = n) (hn : ¬ m < n) : l.take m = l := List.take_of_length_le (by omega)
theorem lst_cut {α : Type} {enc : α → List Value} {size : Nat} (hs : ∀ x, (enc x).length = size) {a : Option Addr} {n c m : Nat} {l : List α} (h : Lst enc size w a n c l) (hm : m < n) : Lst enc size w a m c (l.take m) := by
  obtain ⟨h1, h2, h3, h4, h5⟩ := h
  refine ⟨by rw [List.length_take, h1]; omega, by omega, h3, fun e => ?_, row_take h5 m⟩
  have := h4 e
  omega
set_option maxHeartbeats 8000000 in
theorem small_any (W : World) (t : Tv) (ht : t.In W) :
    Calls Tryz.prog 9 #[Ent.valV t] W fun e W' => ∃ u : Tv, e = .returned (Ent.valV u) ∧ u.t = smallT t.t ∧ u.In W' ∧ Below W.heap.size W W' := by
  obtain ⟨⟨sq, tm, kd, ky, nm, ags, lgs⟩, a1, n1, c1, a2, n2, c2⟩ := t
  obtain ⟨g1, g2, g3, g4⟩ := ht
  simp only at g1 g2 g3 g4
  have hb1 := below_alloc W (.cells [.int .i64 sq, .int .i64 tm, .int .i64 kd, .string ky, .string nm, .slice a1 n1 c1, .slice a2 n2 c2].toArray 34)
  have hx1 := Arr.blk_new W W.heap.size 34 [.int .i64 sq, .int .i64 tm, .int .i64 kd, .string ky, .string nm, .slice a1 n1 c1, .slice a2 n2 c2] rfl
  have hb2 := below_alloc (W.alloc (.cells [.int .i64 sq, .int .i64 tm, .int .i64 kd, .string ky, .string nm, .slice a1 n1 c1, .slice a2 n2 c2].toArray 34)) (.cells zero7.toArray 34)
  have hr2 := Arr.blk_new (W.alloc (.cells [.int .i64 sq, .int .i64 tm, .int .i64 kd, .string ky, .string nm, .slice a1 n1 c1, .slice a2 n2 c2].toArray 34)) (W.heap.size + 1) 34 zero7 (by simp)
  have hx2 := Arr.blk_below hx1 hb2 (Arr.blk_lt hx1)
  have hb02 := below_keep hb1 hb2
  obtain ⟨w2, hw2⟩ : ∃ y, y = (W.alloc (.cells #[.int .i64 sq, .int .i64 tm, .int .i64 kd, .string ky, .string nm, .slice a1 n1 c1, .slice a2 n2 c2] 34)).alloc (.cells #[.int .i64 0, .int .i64 0, .int .i64 0, .string ⟨#[]⟩, .string ⟨#[]⟩, .slice none 0 0, .slice none 0 0] 34) := ⟨_, rfl⟩
  rw [show (W.alloc (.cells [Value.int .i64 sq, .int .i64 tm, .int .i64 kd, .string ky, .string nm, .slice a1 n1 c1, .slice a2 n2 c2].toArray 34)).alloc (.cells zero7.toArray 34) = w2 from hw2.symm] at hx2 hr2 hb02
  have HW2 := Lib.hid hw2
  have H2 := Lib.hid (And.intro hx2 (And.intro hr2 hb02))
  have HI := Lib.hid (And.intro g1 (And.intro g2 (And.intro g3 g4)))
  have HN := Lib.hid (And.intro g1.len g2.len)
  have k1 : n1 ≤ c1 := g1.cap
  have k2 : n2 ≤ c2 := g2.cap
  have k3 : c1 ≤ 9223372036854775807 := by have := g1.max; unfold maxLen at this; omega
  have k4 : c2 ≤ 9223372036854775807 := by have := g2.max; unfold maxLen at this; omega
  have p5 := Arr.blk_cell hx2 5
  have f5 := Arr.blk_frozen hx2 5
  have p6 := Arr.blk_cell hx2 6
  have f6 := Arr.blk_frozen hx2 6
  have hx5 := Arr.blk_set hx2 5 (.slice a1 20 c1)
  have hx6 := Arr.blk_set hx2 6 (.slice a2 80 c2)
  have hx56 := Arr.blk_set hx5 6 (.slice a2 80 c2)
  simp only [List.set_cons_zero, List.set_cons_succ] at hx5 hx6 hx56
  have q6 := Arr.blk_cell hx5 6
  have g6 := Arr.blk_frozen hx5 6
  simp only [List.getElem?_cons_zero, List.getElem?_cons_succ] at p5 p6 q6
  have H5 := Lib.hid (And.intro hx5 (And.intro hx6 hx56))
  clear hb1 hx1 hb2 hr2 hx2 hb02 hw2 hx5 hx6 hx56
  by_cases t1 : 20 < n1
  · by_cases t2 : 80 < n2
    · skip
      have hC3 : Chg (fun k => k = W.heap.size) w2 ((w2.setCell ⟨W.heap.size, 5, none⟩ (.slice a1 20 c1)).setCell ⟨W.heap.size, 6, none⟩ (.slice a2 80 c2)) := chg_set (set_chg _ _ 5 _) (.inl rfl) 6 _
      have hr3 := blk_chg hC3 H2.out.2.1 (by omega)
      have H3 := Lib.hid (And.intro H5.out.2.2 (And.intro hr3 (H2.out.2.2.trans (chg_below hC3 (fun k hk => Nat.le_of_eq hk.symm) H2.out.2.2.size))))
      clear hC3 hr3
      go_enter Tryz.func9, Tryz.ntmps9
      go_upto_region 1 with fail
      rw [show (W.alloc (.cells #[.int .i64 sq, .int .i64 tm, .int .i64 kd, .string ky, .string nm, .slice a1 n1 c1, .slice a2 n2 c2] 34)).alloc (.cells #[.int .i64 0, .int .i64 0, .int .i64 0, .string ⟨#[]⟩, .string ⟨#[]⟩, .slice none 0 0, .slice none 0 0] 34) = w2 from HW2.out.symm]
      go_wp2_with (first | (refine Arr.wpList_load_blk rfl 34 (.tmp 1) rfl W.heap.size rfl [.int .i64 sq, .int .i64 tm, .int .i64 kd, .string ky, .string nm, .slice a1 20 c1, .slice a2 80 c2] 34 H3.out.1 _ Tryz.underlying34 rfl info_tx ?_) | (refine wpList_store_own rfl 34 (.tmp 2) (.tmp 19) rfl (W.heap.size + 1) [.int .i64 sq, .int .i64 tm, .int .i64 kd, .string ky, .string nm, .slice a1 20 c1, .slice a2 80 c2] rfl rfl zero7 34 H3.out.2.1 info_tx rfl rfl ?_; intro wz hblk hCz hsz) | fail)
      refine bodyPost_ret (results_cell_blk rfl _ _ (W.heap.size + 1) 34 [.int .i64 sq, .int .i64 tm, .int .i64 kd, .string ky, .string nm, .slice a1 20 c1, .slice a2 80 c2] _ rfl hblk Tryz.underlying34 rfl info_tx) rfl ?_
      have hbz : Below W.heap.size W wz := H3.out.2.2.trans (chg_below hCz (fun k hk => by omega) H3.out.2.2.size)
      exact ⟨⟨⟨sq, tm, kd, ky, nm, ags.take 20, lgs.take 80⟩, a1, 20, c1, a2, 80, c2⟩, rfl, small_eq rfl rfl, ⟨lst_keep encI_len (lst_cut encI_len HI.out.1 t1) hbz, lst_keep encG_len (lst_cut encG_len HI.out.2.1 t2) hbz, HI.out.2.2.1, HI.out.2.2.2⟩, hbz⟩
    · skip
      have hC3 : Chg (fun k => k = W.heap.size) w2 (w2.setCell ⟨W.heap.size, 5, none⟩ (.slice a1 20 c1)) := set_chg _ _ 5 _
      have hr3 := blk_chg hC3 H2.out.2.1 (by omega)
      have H3 := Lib.hid (And.intro H5.out.1 (And.intro hr3 (H2.out.2.2.trans (chg_below hC3 (fun k hk => Nat.le_of_eq hk.symm) H2.out.2.2.size))))
      clear hC3 hr3
      go_enter Tryz.func9, Tryz.ntmps9
      go_upto_region 1 with fail
      rw [show (W.alloc (.cells #[.int .i64 sq, .int .i64 tm, .int .i64 kd, .string ky, .string nm, .slice a1 n1 c1, .slice a2 n2 c2] 34)).alloc (.cells #[.int .i64 0, .int .i64 0, .int .i64 0, .string ⟨#[]⟩, .string ⟨#[]⟩, .slice none 0 0, .slice none 0 0] 34) = w2 from HW2.out.symm]
      go_wp2_with (first | (refine Arr.wpList_load_blk rfl 34 (.tmp 1) rfl W.heap.size rfl [.int .i64 sq, .int .i64 tm, .int .i64 kd, .string ky, .string nm, .slice a1 20 c1, .slice a2 n2 c2] 34 H3.out.1 _ Tryz.underlying34 rfl info_tx ?_) | (refine wpList_store_own rfl 34 (.tmp 2) (.tmp 19) rfl (W.heap.size + 1) [.int .i64 sq, .int .i64 tm, .int .i64 kd, .string ky, .string nm, .slice a1 20 c1, .slice a2 n2 c2] rfl rfl zero7 34 H3.out.2.1 info_tx rfl rfl ?_; intro wz hblk hCz hsz) | fail)
      refine bodyPost_ret (results_cell_blk rfl _ _ (W.heap.size + 1) 34 [.int .i64 sq, .int .i64 tm, .int .i64 kd, .string ky, .string nm, .slice a1 20 c1, .slice a2 n2 c2] _ rfl hblk Tryz.underlying34 rfl info_tx) rfl ?_
      have hbz : Below W.heap.size W wz := H3.out.2.2.trans (chg_below hCz (fun k hk => by omega) H3.out.2.2.size)
      exact ⟨⟨⟨sq, tm, kd, ky, nm, ags.take 20, lgs⟩, a1, 20, c1, a2, n2, c2⟩, rfl, small_eq rfl (take_few HN.out.2 t2), ⟨lst_keep encI_len (lst_cut encI_len HI.out.1 t1) hbz, lst_keep encG_len (HI.out.2.1) hbz, HI.out.2.2.1, HI.out.2.2.2⟩, hbz⟩
  · by_cases t2 : 80 < n2
    · skip
      have hC3 : Chg (fun k => k = W.heap.size) w2 (w2.setCell ⟨W.heap.size, 6, none⟩ (.slice a2 80 c2)) := set_chg _ _ 6 _
      have hr3 := blk_chg hC3 H2.out.2.1 (by omega)
      have H3 := Lib.hid (And.intro H5.out.2.1 (And.intro hr3 (H2.out.2.2.trans (chg_below hC3 (fun k hk => Nat.le_of_eq hk.symm) H2.out.2.2.size))))
      clear hC3 hr3
      go_enter Tryz.func9, Tryz.ntmps9
      go_upto_region 1 with fail
      rw [show (W.alloc (.cells #[.int .i64 sq, .int .i64 tm, .int .i64 kd, .string ky, .string nm, .slice a1 n1 c1, .slice a2 n2 c2] 34)).alloc (.cells #[.int .i64 0, .int .i64 0, .int .i64 0, .string ⟨#[]⟩, .string ⟨#[]⟩, .slice none 0 0, .slice none 0 0] 34) = w2 from HW2.out.symm]
      go_wp2_with (first | (refine Arr.wpList_load_blk rfl 34 (.tmp 1) rfl W.heap.size rfl [.int .i64 sq, .int .i64 tm, .int .i64 kd, .string ky, .string nm, .slice a1 n1 c1, .slice a2 80 c2] 34 H3.out.1 _ Tryz.underlying34 rfl info_tx ?_) | (refine wpList_store_own rfl 34 (.tmp 2) (.tmp 19) rfl (W.heap.size + 1) [.int .i64 sq, .int .i64 tm, .int .i64 kd, .string ky, .string nm, .slice a1 n1 c1, .slice a2 80 c2] rfl rfl zero7 34 H3.out.2.1 info_tx rfl rfl ?_; intro wz hblk hCz hsz) | fail)
      refine bodyPost_ret (results_cell_blk rfl _ _ (W.heap.size + 1) 34 [.int .i64 sq, .int .i64 tm, .int .i64 kd, .string ky, .string nm, .slice a1 n1 c1, .slice a2 80 c2] _ rfl hblk Tryz.underlying34 rfl info_tx) rfl ?_
      have hbz : Below W.heap.size W wz := H3.out.2.2.trans (chg_below hCz (fun k hk => by omega) H3.out.2.2.size)
      exact ⟨⟨⟨sq, tm, kd, ky, nm, ags, lgs.take 80⟩, a1, n1, c1, a2, 80, c2⟩, rfl, small_eq (take_few HN.out.1 t1) rfl, ⟨lst_keep encI_len (HI.out.1) hbz, lst_keep encG_len (lst_cut encG_len HI.out.2.1 t2) hbz, HI.out.2.2.1, HI.out.2.2.2⟩, hbz⟩
    · skip
      have hC3 : Chg (fun k => k = W.heap.size) w2 (w2) := chg_refl _ _
      have hr3 := blk_chg hC3 H2.out.2.1 (by omega)
      have H3 := Lib.hid (And.intro H2.out.1 (And.intro hr3 (H2.out.2.2.trans (chg_below hC3 (fun k hk => Nat.le_of_eq hk.symm) H2.out.2.2.size))))
      clear hC3 hr3
      go_enter Tryz.func9, Tryz.ntmps9
      go_upto_region 1 with fail
      rw [show (W.alloc (.cells #[.int .i64 sq, .int .i64 tm, .int .i64 kd, .string ky, .string nm, .slice a1 n1 c1, .slice a2 n2 c2] 34)).alloc (.cells #[.int .i64 0, .int .i64 0, .int .i64 0, .string ⟨#[]⟩, .string ⟨#[]⟩, .slice none 0 0, .slice none 0 0] 34) = w2 from HW2.out.symm]
      go_wp2_with (first | (refine Arr.wpList_load_blk rfl 34 (.tmp 1) rfl W.heap.size rfl [.int .i64 sq, .int .i64 tm, .int .i64 kd, .string ky, .string nm, .slice a1 n1 c1, .slice a2 n2 c2] 34 H3.out.1 _ Tryz.underlying34 rfl info_tx ?_) | (refine wpList_store_own rfl 34 (.tmp 2) (.tmp 19) rfl (W.heap.size + 1) [.int .i64 sq, .int .i64 tm, .int .i64 kd, .string ky, .string nm, .slice a1 n1 c1, .slice a2 n2 c2] rfl rfl zero7 34 H3.out.2.1 info_tx rfl rfl ?_; intro wz hblk hCz hsz) | fail)
      refine bodyPost_ret (results_cell_blk rfl _ _ (W.heap.size + 1) 34 [.int .i64 sq, .int .i64 tm, .int .i64 kd, .string ky, .string nm, .slice a1 n1 c1, .slice a2 n2 c2] _ rfl hblk Tryz.underlying34 rfl info_tx) rfl ?_
      have hbz : Below W.heap.size W wz := H3.out.2.2.trans (chg_below hCz (fun k hk => by omega) H3.out.2.2.size)
      exact ⟨⟨⟨sq, tm, kd, ky, nm, ags, lgs⟩, a1, n1, c1, a2, n2, c2⟩, rfl, small_eq (take_few HN.out.1 t1) (take_few HN.out.2 t2), ⟨lst_keep encI_len (HI.out.1) hbz, lst_keep encG_len (HI.out.2.1) hbz, HI.out.2.2.1, HI.out.2.2.2⟩, hbz⟩
end Go.Proofs.YtjcndgopijpibaaGreat.Bok
