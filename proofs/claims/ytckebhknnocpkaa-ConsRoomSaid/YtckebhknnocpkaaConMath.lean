/- Cons: when each of a queue is to start, by what runs (mathematics). -/
import Derived.Test.YtckebhknnocpkaaEsyMath
namespace Go.Proofs.Ytckebhknnocpkaa.Cns
open Prf (Bz busyN newF)
open Go.Proofs.Ytckebhknnocpkaa.Ord (Aq)
set_option linter.unusedVariables false

structure Ta where
  from_ : Int
  to_ : Int
  nodes : Int
/-- How many are taken at a tick. -/
def takenN : List Ta → Int → Int
  | [], _ => 0
  | o :: l, t => (if o.from_ ≤ t ∧ t < o.to_ then o.nodes else 0) + takenN l t
def freeT (total : Int) (l : List Ta) (t : Int) : Int := total - takenN l t
def Fits (total : Int) (l : List Ta) (nodes long m : Int) : Prop := ∀ t, m ≤ t → t < m + long → nodes ≤ freeT total l t
/-- As it is looked at: where one begins. -/
def fitsD (total : Int) (l : List Ta) (nodes long m : Int) : Bool := decide (nodes ≤ freeT total l m) && l.all fun o => ! (decide (m < o.from_) && decide (o.from_ < m + long) && decide (freeT total l o.from_ < nodes))
/-- What is taken, from now on. -/
def Good (now : Int) (l : List Ta) : Prop := ∀ o ∈ l, now ≤ o.from_ ∧ o.from_ < o.to_ ∧ 0 ≤ o.nodes
theorem takenN_snoc (o : Ta) (t : Int) : ∀ l : List Ta, takenN (l ++ [o]) t = takenN l t + (if o.from_ ≤ t ∧ t < o.to_ then o.nodes else 0)
  | [] => by simp [takenN]
  | x :: l => by rw [List.cons_append, takenN, takenN, takenN_snoc o t l]; omega
theorem takenN_bound {K : Int} (hK : 0 ≤ K) {t : Int} : ∀ {l : List Ta}, (∀ o ∈ l, 0 ≤ o.nodes ∧ o.nodes ≤ K) → 0 ≤ takenN l t ∧ takenN l t ≤ l.length * K
  | [], _ => by simp [takenN]
  | y :: l, h => by
    have h1 := takenN_bound hK (t := t) (l := l) fun b hb => h b (List.mem_cons_of_mem _ hb)
    have h2 := h y (List.mem_cons_self ..)
    rw [takenN, List.length_cons]
    have h3 : ((l.length + 1 : Nat) : Int) * K = l.length * K + K := by rw [Int.natCast_add, Int.add_mul]; simp
    rw [h3]
    split <;> omega
/-- Who is taken at the later tick was taken at the earlier one, unless one began between them. -/
theorem taken_le {a b now : Int} (hab : a ≤ b) : ∀ {l : List Ta}, Good now l → (∀ o ∈ l, o.from_ ≤ b → o.from_ ≤ a) → takenN l b ≤ takenN l a
  | [], _, _ => Int.le_refl _
  | o :: l, hg, h => by
    have ih := taken_le hab (l := l) (fun x hx => hg x (List.mem_cons_of_mem _ hx)) fun x hx => h x (List.mem_cons_of_mem _ hx)
    have h1 := h o (List.mem_cons_self ..)
    have h2 := (hg o (List.mem_cons_self ..)).2.2
    rw [takenN, takenN]
    by_cases hb : o.from_ ≤ b ∧ b < o.to_
    · rw [if_pos hb, if_pos ⟨h1 hb.1, by omega⟩]; omega
    · rw [if_neg hb]
      split <;> omega
theorem latest {a b : Int} (hab : a ≤ b) : ∀ l : List Ta, ∃ u, (u = a ∨ ∃ o ∈ l, o.from_ = u ∧ a < u) ∧ a ≤ u ∧ u ≤ b ∧ ∀ o ∈ l, o.from_ ≤ b → o.from_ ≤ u
  | [] => ⟨a, .inl rfl, Int.le_refl _, hab, fun o ho => by cases ho⟩
  | x :: l => by
    obtain ⟨u, h1, h2, h3, h4⟩ := latest hab l
    by_cases hx : x.from_ ≤ b ∧ u < x.from_
    · refine ⟨x.from_, .inr ⟨x, List.mem_cons_self .., rfl, by omega⟩, by omega, hx.1, fun o ho hb => ?_⟩
      rcases List.mem_cons.1 ho with rfl | ho
      · exact Int.le_refl _
      · have := h4 o ho hb; omega
    · refine ⟨u, ?_, h2, h3, fun o ho hb => ?_⟩
      · rcases h1 with h1 | ⟨o, ho, e, g⟩
        · exact .inl h1
        · exact .inr ⟨o, List.mem_cons_of_mem _ ho, e, g⟩
      · rcases List.mem_cons.1 ho with rfl | ho
        · omega
        · exact h4 o ho hb
theorem fits_iff {total now nodes long m : Int} {l : List Ta} (hg : Good now l) (hl : 1 ≤ long) : fitsD total l nodes long m = true ↔ Fits total l nodes long m := by
  unfold fitsD
  rw [Bool.and_eq_true, decide_eq_true_iff, List.all_eq_true]
  constructor
  · rintro ⟨h1, h2⟩ t ht1 ht2
    obtain ⟨u, hu, k1, k2, k3⟩ := latest ht1 l
    have hle := taken_le k2 hg k3
    have hn : nodes ≤ freeT total l u := by
      rcases hu with rfl | ⟨o, ho, rfl, hau⟩
      · exact h1
      · have := h2 o ho
        simp only [Bool.not_eq_true', Bool.and_eq_false_iff, decide_eq_false_iff_not] at this
        omega
    unfold freeT at hn ⊢
    omega
  · intro h
    refine ⟨h m (Int.le_refl _) (by omega), fun o ho => ?_⟩
    simp only [Bool.not_eq_true', Bool.and_eq_false_iff, decide_eq_false_iff_not]
    by_cases h1 : m < o.from_ ∧ o.from_ < m + long
    · have := h o.from_ (by omega) h1.2
      omega
    · omega
/-! ### The first tick -/

def IsBest (total now : Int) (l : List Ta) (nodes long : Int) (b : Option Int) : Prop := match b with
  | none => ∀ m, now ≤ m → ¬ Fits total l nodes long m
  | some x => now ≤ x ∧ Fits total l nodes long x ∧ ∀ m, now ≤ m → m < x → ¬ Fits total l nodes long m
theorem best_one {total now : Int} {l : List Ta} {nodes long : Int} {b c : Option Int} (h : IsBest total now l nodes long b) (k : IsBest total now l nodes long c) : b = c := by
  cases b with
  | none => cases c with
    | none => rfl
    | some y => exact absurd k.2.1 (h y k.1)
  | some x => cases c with
    | none => exact absurd h.2.1 (k x h.1)
    | some y =>
      rcases Int.lt_trichotomy x y with hxy | hxy | hxy
      · exact absurd h.2.1 (k.2.2 x h.1 hxy)
      · rw [hxy]
      · exact absurd k.2.1 (h.2.2 y k.1 hxy)
/-- One candidate more. -/
def minS (P : Int → Bool) (b : Option Int) (t : Int) : Option Int := if (∀ x, b = some x → t < x) ∧ P t = true then some t else b
theorem minS_none (P : Int → Bool) (t : Int) : minS P none t = if P t = true then some t else none := by
  unfold minS
  simp
theorem minS_some (P : Int → Bool) (x t : Int) : minS P (some x) t = if t < x ∧ P t = true then some t else some x := by
  unfold minS
  simp
def least (P : Int → Bool) (c : List Int) (b : Option Int) : Option Int := c.foldl (minS P) b
theorem least_spec (P : Int → Bool) : ∀ (c : List Int) (b : Option Int), (∀ x, b = some x → P x = true) →
    (∀ x, least P c b = some x → P x = true ∧ (b = some x ∨ x ∈ c) ∧ (∀ y, b = some y → x ≤ y) ∧ ∀ y ∈ c, P y = true → x ≤ y) ∧ (least P c b = none → b = none ∧ ∀ y ∈ c, P y = false)
  | [], b, hb => ⟨fun x hx => ⟨hb x hx, .inl hx, fun y hy => by rw [show least P [] b = b from rfl] at hx; rw [hx] at hy; injection hy with hy; omega, fun y hy => by cases hy⟩, fun h => ⟨h, fun y hy => by cases hy⟩⟩
  | t :: c, b, hb => by
    have e : least P (t :: c) b = least P c (minS P b t) := rfl
    rw [e]
    by_cases ht : (∀ x, b = some x → t < x) ∧ P t = true
    · have e2 : minS P b t = some t := if_pos ht
      rw [e2]
      obtain ⟨h1, h2⟩ := least_spec P c (some t) fun x hx => by injection hx with hx; rw [← hx]; exact ht.2
      refine ⟨fun x hx => ?_, fun hx => by have := (h2 hx).1; cases this⟩
      obtain ⟨g1, g2, g3, g4⟩ := h1 x hx
      have hxt := g3 t rfl
      refine ⟨g1, ?_, fun y hy => by have := ht.1 y hy; omega, fun y hy hp => ?_⟩
      · rcases g2 with g2 | g2
        · injection g2 with g2; exact .inr (by rw [g2]; exact List.mem_cons_self ..)
        · exact .inr (List.mem_cons_of_mem _ g2)
      · rcases List.mem_cons.1 hy with rfl | hy
        · exact hxt
        · exact g4 y hy hp
    · have e2 : minS P b t = b := if_neg ht
      rw [e2]
      obtain ⟨h1, h2⟩ := least_spec P c b hb
      refine ⟨fun x hx => ?_, fun hx => ?_⟩
      · obtain ⟨g1, g2, g3, g4⟩ := h1 x hx
        refine ⟨g1, g2.imp id (List.mem_cons_of_mem _), g3, fun y hy hp => ?_⟩
        rcases List.mem_cons.1 hy with rfl | hy
        · cases b with
          | none => exact absurd ⟨fun x h => (by cases h), hp⟩ ht
          | some z =>
            have hz := g3 z rfl
            by_cases hyz : y < z
            · exact absurd ⟨fun x h => by injection h with h; omega, hp⟩ ht
            · omega
        · exact g4 y hy hp
      · obtain ⟨g1, g2⟩ := h2 hx
        subst g1
        refine ⟨rfl, fun y hy => ?_⟩
        rcases List.mem_cons.1 hy with rfl | hy
        · cases hp : P y
          · rfl
          · exact absurd ⟨fun x h => (by cases h), hp⟩ ht
        · exact g2 y hy
def candL (now : Int) (l : List Ta) : List Int := now :: l.map (·.to_)
def bestD (total now : Int) (l : List Ta) (nodes long : Int) : Option Int := least (fitsD total l nodes long) (candL now l) none
/-- Where so many are free that were not a tick ago something ended. -/
theorem up_at {m total nodes : Int} : ∀ {l : List Ta}, takenN l m < takenN l (m - 1) → (∀ o ∈ l, 0 ≤ o.nodes) → ∃ o ∈ l, o.to_ = m
  | [], h, _ => by simp [takenN] at h
  | o :: l, h, hn => by
    rw [takenN, takenN] at h
    have h0 := hn o (List.mem_cons_self ..)
    by_cases ho : o.to_ = m
    · exact ⟨o, List.mem_cons_self .., ho⟩
    · obtain ⟨x, hx, e⟩ := up_at (m := m) (total := total) (nodes := nodes) (l := l) (by
        by_cases h1 : o.from_ ≤ m ∧ m < o.to_
        · rw [if_pos h1] at h
          split at h <;> omega
        · rw [if_neg h1] at h
          by_cases h2 : o.from_ ≤ m - 1 ∧ m - 1 < o.to_
          · exact absurd (by omega) ho
          · rw [if_neg h2] at h; omega) fun x hx => hn x (List.mem_cons_of_mem _ hx)
      exact ⟨x, List.mem_cons_of_mem _ hx, e⟩
/-- Where it fits first is now, or where something ends. -/
theorem first_fit {total now nodes long : Int} {l : List Ta} (hg : Good now l) (hl : 1 ≤ long) : ∀ (d : Nat) (m : Int), m = now + d → Fits total l nodes long m → ∃ x, x ∈ candL now l ∧ now ≤ x ∧ x ≤ m ∧ Fits total l nodes long x
  | 0, m, hm, hf => ⟨now, List.mem_cons_self .., Int.le_refl _, by omega, by rwa [show now = m by omega]⟩
  | d + 1, m, hm, hf => by
    by_cases hp : Fits total l nodes long (m - 1)
    · obtain ⟨x, h1, h2, h3, h4⟩ := first_fit hg hl d (m - 1) (by omega) hp
      exact ⟨x, h1, h2, by omega, h4⟩
    · have hF : freeT total l (m - 1) < nodes := by
        rcases Int.lt_or_le (freeT total l (m - 1)) nodes with h | h
        · exact h
        · exfalso
          refine hp fun t h1 h2 => ?_
          by_cases ht : t = m - 1
          · rw [ht]; exact h
          · exact hf t (by omega) (by omega)
      have hM := hf m (Int.le_refl _) (by omega)
      unfold freeT at hF hM
      obtain ⟨o, ho, e⟩ := up_at (m := m) (total := total) (nodes := nodes) (l := l) (by omega) fun o ho => (hg o ho).2.2
      exact ⟨m, List.mem_cons_of_mem _ (List.mem_map.2 ⟨o, ho, e⟩), by omega, Int.le_refl _, hf⟩
theorem cand_ge {now : Int} {l : List Ta} (hg : Good now l) : ∀ x ∈ candL now l, now ≤ x := by
  intro x hx
  rcases List.mem_cons.1 hx with rfl | hx
  · exact Int.le_refl _
  · obtain ⟨o, ho, rfl⟩ := List.mem_map.1 hx
    have := hg o ho; omega
theorem best_is {total now nodes long : Int} {l : List Ta} (hg : Good now l) (hl : 1 ≤ long) : IsBest total now l nodes long (bestD total now l nodes long) := by
  obtain ⟨h1, h2⟩ := least_spec (fitsD total l nodes long) (candL now l) none fun x hx => by cases hx
  cases hb : bestD total now l nodes long with
  | none =>
    intro m hm hf
    obtain ⟨x, g1, g2, g3, g4⟩ := first_fit hg hl (m - now).toNat m (by omega) hf
    have := (h2 hb).2 x g1
    rw [(fits_iff hg hl).2 g4] at this
    cases this
  | some x =>
    obtain ⟨g1, g2, g3, g4⟩ := h1 x hb
    have hx : x ∈ candL now l := by
      rcases g2 with g2 | g2
      · cases g2
      · exact g2
    refine ⟨cand_ge hg x hx, (fits_iff hg hl).1 g1, fun m hm hmx hf => ?_⟩
    obtain ⟨y, k1, k2, k3, k4⟩ := first_fit hg hl (m - now).toNat m (by omega) hf
    have := g4 y k1 ((fits_iff hg hl).2 k4)
    omega
/-! ### Who counts fits somewhere -/

theorem last_to {now : Int} : ∀ {l : List Ta}, Good now l → ∃ x, x ∈ candL now l ∧ now ≤ x ∧ ∀ t, x ≤ t → takenN l t = 0
  | [], _ => ⟨now, List.mem_cons_self .., Int.le_refl _, fun t _ => rfl⟩
  | o :: l, hg => by
    obtain ⟨x, h1, h2, h3⟩ := last_to (l := l) fun y hy => hg y (List.mem_cons_of_mem _ hy)
    have ho := hg o (List.mem_cons_self ..)
    by_cases hx : x < o.to_
    · exact ⟨o.to_, List.mem_cons_of_mem _ (List.mem_cons_self ..), by omega, fun t ht => by rw [takenN, h3 t (by omega), if_neg (by omega)]; rfl⟩
    · refine ⟨x, ?_, h2, fun t ht => by rw [takenN, h3 t ht, if_neg (by omega)]; rfl⟩
      rcases List.mem_cons.1 h1 with rfl | h1
      · exact List.mem_cons_self ..
      · exact List.mem_cons_of_mem _ (List.mem_cons_of_mem _ h1)
theorem best_some {total now nodes long : Int} {l : List Ta} (hg : Good now l) (hl : 1 ≤ long) (hn : nodes ≤ total) : ∃ x, bestD total now l nodes long = some x := by
  cases hb : bestD total now l nodes long with
  | some x => exact ⟨x, rfl⟩
  | none =>
    have h := best_is (total := total) (nodes := nodes) hg hl
    rw [hb] at h
    obtain ⟨x, h1, h2, h3⟩ := last_to hg
    exact absurd (fun t ht _ => by unfold freeT; rw [h3 t ht]; omega) (h x h2)
/-! ### The plan -/

def longW (x : Aq) : Int := if x.wall < 1 then 1 else x.wall
def countsB (total : Int) (x : Aq) (rf : List Bool) : Bool := ! rf.headD false && decide (x.nodes ≤ total)
def runT (now : Int) : List Bz → List Ta
  | [] => []
  | b :: l => if now < b.till then ⟨now, b.till, b.nodes⟩ :: runT now l else runT now l
/-- When one is to start, out of what is taken. -/
def pick (total now : Int) (tk : List Ta) (x : Aq) (rf : List Bool) : Option Int := if countsB total x rf = true then bestD total now tk x.nodes (longW x) else none
def after (tk : List Ta) (x : Aq) (b : Option Int) : List Ta := match b with | none => tk | some m => tk ++ [⟨m, m + longW x, x.nodes⟩]
def bestI (b : Option Int) : Int := match b with | none => -1 | some m => m
def planT (total now : Int) : List Ta → List Aq → List Bool → List Int
  | _, [], _ => []
  | tk, x :: q, rf => bestI (pick total now tk x rf) :: planT total now (after tk x (pick total now tk x rf)) q rf.tail
def endT (total now : Int) : List Ta → List Aq → List Bool → List Ta
  | tk, [], _ => tk
  | tk, x :: q, rf => endT total now (after tk x (pick total now tk x rf)) q rf.tail
def plan (now total : Int) (l : List Bz) (q : List Aq) (rf : List Bool) : List Int := planT total now (runT now l) q rf
def firstAt (now : Int) : List Int → Option Nat
  | [] => none
  | x :: l => if x = now then some 0 else (firstAt now l).map (· + 1)
def nextI (now total : Int) (l : List Bz) (q : List Aq) (rf : List Bool) : Int := match firstAt now (plan now total l q rf) with | none => 0 | some k => (k : Nat)
def nextB (now total : Int) (l : List Bz) (q : List Aq) (rf : List Bool) : Bool := (firstAt now (plan now total l q rf)).isSome
theorem planT_len {total now : Int} : ∀ (q : List Aq) (tk : List Ta) (rf : List Bool), (planT total now tk q rf).length = q.length
  | [], _, _ => rfl
  | x :: q, tk, rf => by rw [planT, List.length_cons, planT_len q, List.length_cons]
theorem plan_len {now total : Int} {l : List Bz} {q : List Aq} {rf : List Bool} : (plan now total l q rf).length = q.length := planT_len q _ _
/-- Who stands behind does not change what is planned. -/
theorem planT_later {total now : Int} (r : List Aq) : ∀ (q : List Aq) (tk : List Ta) (rf : List Bool), (planT total now tk (q ++ r) rf).take q.length = planT total now tk q rf
  | [], _, _ => rfl
  | x :: q, tk, rf => by rw [List.cons_append, planT, planT, List.length_cons, List.take_succ_cons, planT_later r q]
/-- One more of the queue. -/
theorem planT_snoc {total now : Int} (x : Aq) : ∀ (q : List Aq) (tk : List Ta) (rf : List Bool), planT total now tk (q ++ [x]) rf = planT total now tk q rf ++ [bestI (pick total now (endT total now tk q rf) x (rf.drop q.length))] ∧
    endT total now tk (q ++ [x]) rf = after (endT total now tk q rf) x (pick total now (endT total now tk q rf) x (rf.drop q.length))
  | [], tk, rf => by simp [planT, endT]
  | y :: q, tk, rf => by
    obtain ⟨h1, h2⟩ := planT_snoc x q (after tk y (pick total now tk y rf)) rf.tail
    have e : rf.tail.drop q.length = rf.drop (y :: q).length := by rw [List.length_cons]; cases rf <;> simp
    rw [e] at h1 h2
    exact ⟨by rw [List.cons_append, planT, h1, planT, endT]; rfl, by rw [List.cons_append, endT, h2, endT]⟩
theorem longW_pos (x : Aq) : 1 ≤ longW x := by unfold longW; split <;> omega
theorem after_good {total now : Int} {tk : List Ta} {x : Aq} {rf : List Bool} (hg : Good now tk) (hx : 0 ≤ x.nodes) : Good now (after tk x (pick total now tk x rf)) := by
  unfold pick
  by_cases hc : countsB total x rf = true
  · rw [if_pos hc]
    have hb := best_is (total := total) (nodes := x.nodes) hg (longW_pos x)
    cases hm : bestD total now tk x.nodes (longW x) with
    | none => exact hg
    | some m =>
      rw [hm] at hb
      intro o ho
      rcases List.mem_append.1 ho with ho | ho
      · exact hg o ho
      · rw [List.mem_singleton] at ho
        subst ho
        have := longW_pos x
        exact ⟨hb.1, by simp only; omega, hx⟩
  · rw [if_neg hc]; exact hg
theorem endT_good {total now : Int} : ∀ {q : List Aq} {tk : List Ta} {rf : List Bool}, Good now tk → (∀ x ∈ q, 0 ≤ x.nodes) → Good now (endT total now tk q rf)
  | [], _, _, hg, _ => hg
  | x :: q, tk, rf, hg, hq => by
    rw [endT]
    exact endT_good (after_good hg (hq x (List.mem_cons_self ..))) fun y hy => hq y (List.mem_cons_of_mem _ hy)
theorem runT_good {now : Int} : ∀ {l : List Bz}, (∀ b ∈ l, 0 ≤ b.nodes) → Good now (runT now l)
  | [], _ => fun o ho => by cases ho
  | b :: l, h => by
    have ih := runT_good (now := now) (l := l) fun x hx => h x (List.mem_cons_of_mem _ hx)
    rw [runT]
    split
    · intro o ho
      rcases List.mem_cons.1 ho with rfl | ho
      · exact ⟨Int.le_refl _, by assumption, h b (List.mem_cons_self ..)⟩
      · exact ih o ho
    · exact ih
theorem runT_free {now t : Int} (ht : now ≤ t) : ∀ l : List Bz, takenN (runT now l) t = busyN l t
  | [] => rfl
  | b :: l => by
    rw [runT, busyN]
    by_cases h : now < b.till
    · rw [if_pos h, takenN, runT_free ht l]
      congr 1
      by_cases h2 : t < b.till
      · rw [if_pos h2, if_pos ⟨ht, h2⟩]
      · rw [if_neg h2, if_neg (by simp only; omega)]
    · rw [if_neg h, runT_free ht l, if_neg (by omega)]; omega
theorem runT_snoc (now : Int) (b : Bz) : ∀ l : List Bz, runT now (l ++ [b]) = runT now l ++ (if now < b.till then [⟨now, b.till, b.nodes⟩] else [])
  | [] => by simp [runT]
  | x :: l => by
    rw [List.cons_append, runT, runT, runT_snoc now b l]
    split <;> simp
/-- No more are taken than there are. -/
theorem after_room {total now : Int} {tk : List Ta} {x : Aq} {rf : List Bool} (hg : Good now tk) (h : ∀ t, now ≤ t → 0 ≤ freeT total tk t) : ∀ t, now ≤ t → 0 ≤ freeT total (after tk x (pick total now tk x rf)) t := by
  intro t ht
  unfold pick
  by_cases hc : countsB total x rf = true
  · rw [if_pos hc]
    have hb := best_is (total := total) (nodes := x.nodes) hg (longW_pos x)
    cases hm : bestD total now tk x.nodes (longW x) with
    | none => exact h t ht
    | some m =>
      rw [hm] at hb
      have h1 := hb.2.1 t
      have h2 := h t ht
      unfold freeT at h1 h2 ⊢
      show 0 ≤ total - takenN (tk ++ [⟨m, m + longW x, x.nodes⟩]) t
      rw [takenN_snoc]
      simp only
      split <;> omega
  · rw [if_neg hc]; exact h t ht
theorem endT_room {total now : Int} : ∀ {q : List Aq} {tk : List Ta} {rf : List Bool}, Good now tk → (∀ x ∈ q, 0 ≤ x.nodes) → (∀ t, now ≤ t → 0 ≤ freeT total tk t) → ∀ t, now ≤ t → 0 ≤ freeT total (endT total now tk q rf) t
  | [], _, _, _, _, h => h
  | x :: q, tk, rf, hg, hq, h => by
    rw [endT]
    exact endT_room (after_good hg (hq x (List.mem_cons_self ..))) (fun y hy => hq y (List.mem_cons_of_mem _ hy)) (after_room hg h)
/-- Whoever counts has a tick from now on. -/
theorem pick_counts {total now : Int} {tk : List Ta} {x : Aq} {rf : List Bool} (hg : Good now tk) : (countsB total x rf = true ∧ ∃ m, pick total now tk x rf = some m ∧ now ≤ m) ∨ (countsB total x rf = false ∧ pick total now tk x rf = none) := by
  unfold pick
  cases hc : countsB total x rf
  · exact .inr ⟨rfl, by simp⟩
  · rw [if_pos rfl]
    have hn : x.nodes ≤ total := by
      unfold countsB at hc
      rw [Bool.and_eq_true, decide_eq_true_iff] at hc
      exact hc.2
    obtain ⟨m, hm⟩ := best_some hg (longW_pos x) hn
    have hb := best_is (total := total) (nodes := x.nodes) hg (longW_pos x)
    rw [hm] at hb
    exact .inl ⟨rfl, m, hm, hb.1⟩
end Go.Proofs.Ytckebhknnocpkaa.Cns
