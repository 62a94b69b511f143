/- Profile, the landed: changes, each from a tick on, and what they come to (mathematics). -/
import Derived.Test.YtckebhknnocpkaaPrfFn
namespace Go.Proofs.Ytckebhknnocpkaa.Prf
set_option linter.unusedVariables false

structure Ch where
  tick : Int
  more : Int
instance : Inhabited Ch := ⟨⟨0, 0⟩⟩
def sumC : List Ch → Int → Int
  | [], _ => 0
  | c :: l, t => (if c.tick ≤ t then c.more else 0) + sumC l t
theorem sumC_mk (a b : Int) (l : List Ch) (t : Int) : sumC (⟨a, b⟩ :: l) t = (if a ≤ t then b else 0) + sumC l t := rfl
def allC : List Ch → Int
  | [] => 0
  | c :: l => c.more + allC l
theorem sumC_append (t : Int) (m : List Ch) : ∀ l : List Ch, sumC (l ++ m) t = sumC l t + sumC m t
  | [] => by simp [sumC]
  | c :: l => by rw [List.cons_append, sumC, sumC, sumC_append t m l]; omega
theorem sumC_perm (t : Int) {l m : List Ch} (h : l.Perm m) : sumC l t = sumC m t := by
  induction h with
  | nil => rfl
  | cons x _ ih => rw [sumC, sumC, ih]
  | swap x y l => simp only [sumC]; omega
  | trans _ _ h1 h2 => rw [h1, h2]
theorem allC_append (m : List Ch) : ∀ l : List Ch, allC (l ++ m) = allC l + allC m
  | [] => by simp [allC]
  | c :: l => by rw [List.cons_append, allC, allC, allC_append m l]; omega
theorem allC_bound {K : Int} (hK : 0 ≤ K) : ∀ l : List Ch, (∀ c ∈ l, -K ≤ c.more ∧ c.more ≤ K) → -(l.length * K) ≤ allC l ∧ allC l ≤ l.length * K
  | [], _ => by simp [allC]
  | c :: l, h => by
    have h1 := h c (List.mem_cons_self ..)
    have h2 := allC_bound hK l fun x hx => h x (List.mem_cons_of_mem _ hx)
    rw [allC, List.length_cons]
    have e : ((l.length + 1 : Nat) : Int) * K = l.length * K + K := by rw [Int.natCast_add, Int.add_mul]; simp
    rw [e]
    omega
def clampC (u : Int) (c : Ch) : Ch := ⟨if c.tick < u then u else c.tick, c.more⟩
theorem sumC_clamp {u t : Int} (h : u ≤ t) : ∀ l : List Ch, sumC (l.map (clampC u)) t = sumC l t
  | [] => rfl
  | c :: l => by
    rw [List.map_cons, sumC, sumC, sumC_clamp h l]
    congr 1
    unfold clampC
    simp only
    by_cases h1 : c.tick < u
    · rw [if_pos h1, if_pos h, if_pos (by omega)]
    · rw [if_neg h1]
theorem sumC_all {t : Int} : ∀ l : List Ch, (∀ c ∈ l, c.tick ≤ t) → sumC l t = allC l
  | [], _ => rfl
  | c :: l, h => by
    rw [sumC, allC, if_pos (h c (List.mem_cons_self ..)), sumC_all l fun x hx => h x (List.mem_cons_of_mem _ hx)]
theorem sumC_none {t : Int} : ∀ l : List Ch, (∀ c ∈ l, t < c.tick) → sumC l t = 0
  | [], _ => rfl
  | c :: l, h => by
    rw [sumC, if_neg (by have := h c (List.mem_cons_self ..); omega), sumC_none l fun x hx => h x (List.mem_cons_of_mem _ hx)]
    rfl

/-! ### Steps out of changes in their order -/

/-- Is the change behind this one of the same tick? -/
def sameN (C : List Ch) (k : Nat) (t : Int) : Prop := ∃ d, C[k]? = some d ∧ d.tick = t
/-- What is put together of the first ones. -/
inductive Stp (C : List Ch) : Nat → List St → Prop
  | zero : Stp C 0 []
  | same {k : Nat} {p : List St} {c : Ch} : Stp C k p → C[k]? = some c → sameN C (k + 1) c.tick → Stp C (k + 1) p
  | next {k : Nat} {p : List St} {c : Ch} : Stp C k p → C[k]? = some c → ¬ sameN C (k + 1) c.tick → Stp C (k + 1) (mk1 p c.tick (allC (C.take (k + 1))))
theorem val_last {p : List St} {t : Int} (hp : p ≠ []) (h : ∀ s ∈ p, s.tick ≤ t) : lastF p = some (val p t) := by
  obtain ⟨l, s, rfl⟩ : ∃ l s, p = l ++ [s] := ⟨p.dropLast, p.getLast hp, (List.dropLast_concat_getLast hp).symm⟩
  rw [val_snoc, if_pos (h s (List.mem_append_right _ (List.mem_singleton.2 rfl)))]
  unfold lastF
  simp
structure Up (C : List Ch) (u : Int) (k : Nat) (p : List St) : Prop where
  norm : Norm p
  len : p.length ≤ k
  low : ∀ s ∈ p, ∀ c, C[k]? = some c → s.tick < c.tick
  head : p = [] ∨ ∃ f l, p = ⟨u, f⟩ :: l
  has : 0 < k → (∀ c, C[k]? = some c → u < c.tick) → p ≠ []
  fn : ∀ t, u ≤ t → 0 < k → (∀ c, C[k]? = some c → t < c.tick) → val p t = sumC C t
theorem stp_up {C : List Ch} {u : Int} (hs : C.Pairwise fun a b => a.tick ≤ b.tick) (hu : ∀ c, C[0]? = some c → c.tick = u) {k : Nat} {p : List St} (h : Stp C k p) : Up C u k p := by
  have hle : ∀ (i j : Nat) (a b : Ch), i ≤ j → C[i]? = some a → C[j]? = some b → a.tick ≤ b.tick := fun i j a b hij ha hb => by
    obtain ⟨h1, rfl⟩ := List.getElem?_eq_some_iff.1 ha
    obtain ⟨h2, rfl⟩ := List.getElem?_eq_some_iff.1 hb
    by_cases e : i = j
    · subst e; exact Int.le_refl _
    · exact List.pairwise_iff_getElem.1 hs i j h1 h2 (by omega)
  have hfirst : ∀ (k : Nat) (c : Ch), C[k]? = some c → u ≤ c.tick := fun k c hc => by
    obtain ⟨h1, _⟩ := List.getElem?_eq_some_iff.1 hc
    have h0 : C[0]? = some C[0] := List.getElem?_eq_getElem (by omega)
    rw [← hu _ h0]
    exact hle 0 k _ _ (Nat.zero_le _) h0 hc
  induction h with
  | zero => exact ⟨trivial, Nat.le_refl _, (fun s hs => by cases hs), .inl rfl, fun h => by omega, fun t _ h => by omega⟩
  | @same k p c hp hc hn ih =>
    obtain ⟨d, hd, hdt⟩ := hn
    refine ⟨ih.norm, Nat.le_succ_of_le ih.len, fun s hs c' hc' => ?_, ih.head, fun _ hx => ?_, fun t ht _ hx => ?_⟩
    · rw [hd] at hc'
      injection hc' with hc'
      subst hc'
      have := ih.low s hs c hc
      omega
    · have h1 := hx d hd
      have hk : 0 < k := by
        rcases Nat.eq_zero_or_pos k with e | e
        · subst e
          have := hu c hc
          omega
        · exact e
      exact ih.has hk fun c' hc' => by rw [hc] at hc'; injection hc' with hc'; subst hc'; omega
    · have h1 := hx d hd
      have hk : 0 < k := by
        rcases Nat.eq_zero_or_pos k with e | e
        · subst e
          have := hu c hc
          omega
        · exact e
      exact ih.fn t ht hk fun c' hc' => by rw [hc] at hc'; injection hc' with hc'; subst hc'; omega
  | @next k p c hp hc hn ih =>
    have hk1 := (List.getElem?_eq_some_iff.1 hc).1
    have hnx : ∀ d, C[k + 1]? = some d → c.tick < d.tick := fun d hd => by
      have h1 := hle k (k + 1) c d (by omega) hc hd
      have h2 : d.tick ≠ c.tick := fun e => hn ⟨d, hd, e⟩
      omega
    have hF : ∀ t, c.tick ≤ t → (∀ d, C[k + 1]? = some d → t < d.tick) → sumC C t = allC (C.take (k + 1)) := fun t h1 h2 => by
      conv => lhs; rw [← List.take_append_drop (k + 1) C]
      rw [sumC_append, sumC_all, sumC_none]
      · omega
      · intro x hx
        obtain ⟨i, hi, rfl⟩ := List.getElem_of_mem hx
        rw [List.length_drop] at hi
        rw [List.getElem_drop]
        have h3 : C[k + 1]? = some C[k + 1] := List.getElem?_eq_getElem (by omega)
        have := hle (k + 1) (k + 1 + i) _ _ (by omega) h3 (List.getElem?_eq_getElem (by omega))
        have := h2 _ h3
        omega
      · intro x hx
        obtain ⟨i, hi, rfl⟩ := List.getElem_of_mem hx
        rw [List.length_take] at hi
        rw [List.getElem_take]
        have := hle i k _ c (by omega) (List.getElem?_eq_getElem (by omega)) hc
        omega
    have hlow : ∀ s ∈ p, s.tick < c.tick := fun s hs => ih.low s hs c hc
    have hz : ∀ t, u ≤ t → t < c.tick → 0 < k := fun t h1 h2 => by
      rcases Nat.eq_zero_or_pos k with e | e
      · subst e
        have := hu c hc
        omega
      · exact e
    have hfn : ∀ t, u ≤ t → t < c.tick → val p t = sumC C t := fun t h1 h2 => ih.fn t h1 (hz t h1 h2) fun c' hc' => by rw [hc] at hc'; injection hc' with hc'; subst hc'; exact h2
    unfold mk1
    by_cases hl : lastF p = some (allC (C.take (k + 1)))
    · rw [if_pos hl]
      have hpn : p ≠ [] := fun e => by rw [e] at hl; simp [lastF] at hl
      refine ⟨ih.norm, Nat.le_succ_of_le ih.len, fun s hs d hd => ?_, ih.head, fun _ _ => hpn, fun t ht _ hx => ?_⟩
      · have := hlow s hs
        have := hnx d hd
        omega
      · by_cases hct : c.tick ≤ t
        · have h1 := val_last hpn (t := t) fun s hs => by have := hlow s hs; omega
          rw [hl] at h1
          injection h1 with h1
          rw [← h1, hF t hct hx]
        · exact hfn t ht (by omega)
    · rw [if_neg hl]
      refine ⟨norm_snoc ih.norm fun a ha => ⟨hlow a (List.mem_of_getLast? ha), fun e => hl ?_⟩, by have := ih.len; simp only [List.length_append, List.length_singleton]; omega, fun s hs d hd => ?_, ?_, fun _ _ => by simp, fun t ht _ hx => ?_⟩
      · unfold lastF
        rw [ha]
        exact congrArg Option.some e
      · have := hnx d hd
        rcases List.mem_append.1 hs with hs | hs
        · have := hlow s hs; omega
        · rw [List.mem_singleton] at hs
          subst hs
          exact this
      · right
        rcases ih.head with e | ⟨f, l, e⟩
        · have hcu : c.tick = u := by
            rcases Nat.eq_zero_or_pos k with e0 | e0
            · subst e0
              exact hu c hc
            · have h1 : ¬ u < c.tick := fun hlt => ih.has e0 (fun c' hc' => by rw [hc] at hc'; injection hc' with hc'; subst hc'; exact hlt) e
              have := hfirst k c hc
              omega
          exact ⟨_, [], by rw [e, hcu]; rfl⟩
        · exact ⟨f, l ++ [⟨c.tick, allC (C.take (k + 1))⟩], by rw [e]; rfl⟩
      · rw [val_snoc]
        by_cases hct : c.tick ≤ t
        · rw [if_pos hct, hF t hct hx]
        · rw [if_neg hct]
          exact hfn t ht (by omega)
/-- The steps of all changes are the profile of what these come to. -/
theorem stp_isP {C D : List Ch} {u : Int} {p : List St} (hs : D.Pairwise fun a b => a.tick ≤ b.tick) (hp : D.Perm (C.map (clampC u))) (hu : ∃ c ∈ C, c.tick ≤ u) (h : Stp D D.length p) : IsP p (sumC C) u ∧ p.length ≤ C.length := by
  have hlen : D.length = C.length := by rw [hp.length_eq, List.length_map]
  have hge : ∀ d ∈ D, u ≤ d.tick := fun d hd => by
    obtain ⟨c, _, rfl⟩ := List.mem_map.1 (hp.mem_iff.1 hd)
    unfold clampC
    simp only
    split <;> omega
  obtain ⟨c, hc, hcu⟩ := hu
  have hcD : (⟨u, c.more⟩ : Ch) ∈ D := hp.mem_iff.2 (List.mem_map.2 ⟨c, hc, by
    unfold clampC
    by_cases h1 : c.tick < u
    · rw [if_pos h1]
    · rw [if_neg h1, show c.tick = u by omega]⟩)
  have hpos : 0 < D.length := List.length_pos_of_mem hcD
  have hu0 : ∀ c, D[0]? = some c → c.tick = u := fun a ha => by
    obtain ⟨h1, rfl⟩ := List.getElem?_eq_some_iff.1 ha
    have h2 := hge D[0] (List.getElem_mem h1)
    obtain ⟨i, hi, hie⟩ := List.getElem_of_mem hcD
    by_cases e : i = 0
    · subst e; rw [hie]
    · have := List.pairwise_iff_getElem.1 hs 0 i h1 hi (by omega)
      rw [hie] at this
      simp only at this
      omega
  have hup := stp_up hs hu0 h
  have hend : ∀ t, ∀ c, D[D.length]? = some c → t < c.tick := fun t c hc => by rw [List.getElem?_eq_none (Nat.le_refl _)] at hc; cases hc
  refine ⟨⟨hup.norm, ?_, fun t ht => ?_⟩, by rw [← hlen]; exact hup.len⟩
  · rcases hup.head with e | e
    · exact absurd e (hup.has hpos (hend u))
    · exact e
  · rw [hup.fn t ht hpos (hend t), sumC_perm t hp, sumC_clamp ht]

/-! ### New's changes -/

def chB (now : Int) : List Bz → List Ch
  | [] => []
  | b :: l => ⟨now, -b.nodes⟩ :: ⟨b.till, b.nodes⟩ :: chB now l
theorem chB_snoc (now : Int) (b : Bz) : ∀ l : List Bz, chB now (l ++ [b]) = chB now l ++ [⟨now, -b.nodes⟩, ⟨b.till, b.nodes⟩]
  | [] => rfl
  | a :: l => by rw [List.cons_append, chB, chB, chB_snoc now b l]; rfl
theorem chB_len (now : Int) : ∀ l : List Bz, (chB now l).length = 2 * l.length
  | [] => rfl
  | a :: l => by rw [chB, List.length_cons, List.length_cons, chB_len now l, List.length_cons]; omega
theorem chB_sum {now t : Int} (h : now ≤ t) : ∀ l : List Bz, sumC (chB now l) t = - busyN l t
  | [] => rfl
  | b :: l => by
    rw [chB, sumC_mk, sumC_mk, chB_sum h l, busyN, if_pos h]
    by_cases ht : t < b.till
    · rw [if_pos ht, if_neg (by omega)]; omega
    · rw [if_neg ht, if_pos (by omega)]; omega
theorem chB_mem {now : Int} {K : Int} : ∀ {l : List Bz}, (∀ b ∈ l, 0 ≤ b.nodes ∧ b.nodes ≤ K) → ∀ c ∈ chB now l, -K ≤ c.more ∧ c.more ≤ K
  | [], _, c, hc => by cases hc
  | b :: l, h, c, hc => by
    have h1 := h b (List.mem_cons_self ..)
    rw [chB] at hc
    rcases List.mem_cons.1 hc with rfl | hc
    · simp only; omega
    · rcases List.mem_cons.1 hc with rfl | hc
      · simp only; omega
      · exact chB_mem (fun x hx => h x (List.mem_cons_of_mem _ hx)) c hc
def chN (now total : Int) (l : List Bz) : List Ch := ⟨now, total⟩ :: chB now l
theorem chN_sum {now total t : Int} (h : now ≤ t) (l : List Bz) : sumC (chN now total l) t = newF total l t := by
  rw [chN, sumC_mk, chB_sum h l, if_pos h]
  unfold newF
  omega

/-! ### Take's changes -/

def endF (acc : Int) : List St → Int
  | [] => acc
  | s :: l => endF s.free l
theorem endF_snoc (s : St) : ∀ (l : List St) (acc : Int), endF acc (l ++ [s]) = s.free
  | [], _ => rfl
  | a :: l, _ => endF_snoc s l a.free
def diffs (acc : Int) : List St → List Ch
  | [] => []
  | s :: l => ⟨s.tick, s.free - acc⟩ :: diffs s.free l
theorem diffs_snoc (s : St) : ∀ (l : List St) (acc : Int), diffs acc (l ++ [s]) = diffs acc l ++ [⟨s.tick, s.free - endF acc l⟩]
  | [], _ => rfl
  | a :: l, acc => by rw [List.cons_append, diffs, diffs, diffs_snoc s l a.free]; rfl
theorem diffs_len : ∀ (l : List St) (acc : Int), (diffs acc l).length = l.length
  | [], _ => rfl
  | a :: l, acc => by rw [diffs, List.length_cons, diffs_len l, List.length_cons]
theorem diffs_tick {c : Ch} : ∀ {l : List St} {acc : Int}, c ∈ diffs acc l → ∃ s ∈ l, s.tick = c.tick
  | [], _, h => by cases h
  | a :: l, acc, h => by
    rw [diffs] at h
    rcases List.mem_cons.1 h with rfl | h
    · exact ⟨a, List.mem_cons_self .., rfl⟩
    · obtain ⟨s, h1, h2⟩ := diffs_tick h
      exact ⟨s, List.mem_cons_of_mem _ h1, h2⟩
theorem diffs_sum {t : Int} : ∀ (l : List St) (acc : Int), Norm l → sumC (diffs acc l) t = valA acc l t - acc
  | [], acc, _ => by simp [diffs, sumC, valA]
  | s :: l, acc, h => by
    rw [diffs, sumC_mk, valA_cons]
    by_cases ht : s.tick ≤ t
    · rw [if_pos ht, if_pos ht, diffs_sum l s.free (norm_tail h)]
      omega
    · have hl := norm_lt h
      rw [if_neg ht, if_neg ht, valA_far (fun x hx => by have := hl x hx; omega), sumC_none _ (fun c hc => by
        obtain ⟨x, hx, e⟩ := diffs_tick hc
        have := hl x hx
        omega)]
      omega
theorem diffs_mem {K : Int} : ∀ {l : List St} {acc : Int}, (-K ≤ acc ∧ acc ≤ K) → (∀ s ∈ l, -K ≤ s.free ∧ s.free ≤ K) → ∀ c ∈ diffs acc l, -(2 * K) ≤ c.more ∧ c.more ≤ 2 * K
  | [], _, _, _, c, hc => by cases hc
  | s :: l, acc, h0, h, c, hc => by
    have h1 := h s (List.mem_cons_self ..)
    rw [diffs] at hc
    rcases List.mem_cons.1 hc with rfl | hc
    · simp only; omega
    · exact diffs_mem h1 (fun x hx => h x (List.mem_cons_of_mem _ hx)) c hc
def chT (p : List St) (at' long nodes : Int) : List Ch := diffs 0 p ++ [⟨at', -nodes⟩, ⟨at' + long, nodes⟩]
theorem chT_sum {at' long nodes t : Int} {p : List St} (hl : 0 ≤ long) (h : Norm p) : sumC (chT p at' long nodes) t = takeF p at' long nodes t := by
  rw [chT, sumC_append, diffs_sum p 0 h]
  unfold takeF val
  rw [sumC_mk, sumC_mk, show sumC [] t = 0 from rfl]
  by_cases h1 : at' ≤ t
  · by_cases h2 : t < at' + long
    · rw [if_pos h1, if_neg (by omega), if_pos ⟨h1, h2⟩]; omega
    · rw [if_pos h1, if_pos (by omega), if_neg (by omega)]; omega
  · rw [if_neg h1, if_neg (by omega), if_neg (by omega)]; omega
end Go.Proofs.Ytckebhknnocpkaa.Prf
