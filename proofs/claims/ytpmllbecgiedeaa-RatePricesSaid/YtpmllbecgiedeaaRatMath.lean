/- Rate: rates as plain data: which may be, and what a class costs at a tick. Imports nothing of the program. -/
namespace Go.Proofs.Ytpmllbecgiedeaa.Rte
set_option linter.unusedVariables false

structure Rt where
  qos : Int
  from' : Int
  price : Int
def okR (r : Rt) : Bool := decide (0 ≤ r.qos) && decide (r.qos ≤ 7) && decide (0 ≤ r.from') && decide (r.from' ≤ 1099511627776) && decide (0 ≤ r.price) && decide (r.price ≤ 1099511627776)
def goodR (l : List Rt) : Bool := decide (l.length ≤ 16) && l.all okR
def fitR (q t : Int) (r : Rt) : Bool := decide (r.qos = q) && decide (r.from' ≤ t)
def beats (b : Option Rt) (r : Rt) : Bool := match b with | none => true | some b => decide (b.from' ≤ r.from')
def better (q t : Int) (b : Option Rt) (r : Rt) : Option Rt := if fitR q t r && beats b r then some r else b
/-- The rate that holds. -/
def best (q t : Int) (l : List Rt) : Option Rt := l.foldl (better q t) none
def priceN (l : List Rt) (q t : Int) : Int := match best q t l with | some r => r.price | none => 0
def priceE (l : List Rt) (q t : Int) : Int := match best q t l with | some _ => 0 | none => 12
theorem best_snoc (q t : Int) (l : List Rt) (r : Rt) : best q t (l ++ [r]) = better q t (best q t l) r := by
  unfold best
  rw [List.foldl_append]; rfl
theorem best_take {q t : Int} {l : List Rt} {k : Nat} {r : Rt} (h : l[k]? = some r) : best q t (l.take (k + 1)) = better q t (best q t (l.take k)) r := by
  have hk := (List.getElem?_eq_some_iff.1 h).1
  have he := (List.getElem?_eq_some_iff.1 h).2
  rw [List.take_succ_eq_append_getElem hk, he, best_snoc]
theorem fit_iff {q t : Int} {r : Rt} : fitR q t r = true ↔ r.qos = q ∧ r.from' ≤ t := by
  unfold fitR
  rw [Bool.and_eq_true, decide_eq_true_iff, decide_eq_true_iff]
/-- What is told of the best: it fits, at its place, none that fits is later, and behind it none is as late. -/
theorem best_spec (q t : Int) : ∀ n (l : List Rt), l.length = n → (best q t l = none → ∀ r ∈ l, fitR q t r = false) ∧ (∀ b, best q t l = some b → ∃ i : Nat, l[i]? = some b ∧ fitR q t b = true ∧ (∀ r ∈ l, fitR q t r = true → r.from' ≤ b.from') ∧ ∀ (k : Nat) (r : Rt), i < k → l[k]? = some r → fitR q t r = true → r.from' < b.from') := by
  intro n
  induction n with
  | zero =>
    intro l hl
    obtain rfl := List.length_eq_zero_iff.1 hl
    exact ⟨(fun _ r hr => by cases hr), (fun b hb => by cases hb)⟩
  | succ n ih =>
    intro l hl
    obtain ⟨l', r, rfl⟩ : ∃ l' r, l = l' ++ [r] := ⟨l.dropLast, l.getLast (by intro h; rw [h] at hl; simp at hl), (List.dropLast_concat_getLast _).symm⟩
    have hl' : l'.length = n := by rw [List.length_append] at hl; simpa using hl
    obtain ⟨h1, h2⟩ := ih l' hl'
    rw [best_snoc]
    unfold better
    by_cases hc : (fitR q t r && beats (best q t l') r) = true
    · rw [if_pos hc]
      rw [Bool.and_eq_true] at hc
      refine ⟨fun h => (by cases h), fun b hb => ?_⟩
      injection hb with hb
      subst hb
      refine ⟨l'.length, by simp, hc.1, fun x hx hfx => ?_, fun k x hk hx _ => ?_⟩
      · rcases List.mem_append.1 hx with hx | hx
        · cases hbl : best q t l' with
          | none => rw [h1 hbl x hx] at hfx; cases hfx
          | some b =>
            obtain ⟨_, _, _, g3, _⟩ := h2 b hbl
            have := hc.2
            rw [hbl] at this
            have e : b.from' ≤ r.from' := by simpa [beats] using this
            exact Int.le_trans (g3 x hx hfx) e
        · rw [List.mem_singleton] at hx
          rw [hx]; exact Int.le_refl _
      · have := (List.getElem?_eq_some_iff.1 hx).1
        rw [List.length_append] at this
        simp at this
        omega
    · rw [if_neg hc]
      refine ⟨fun h x hx => ?_, fun b hb => ?_⟩
      · rcases List.mem_append.1 hx with hx | hx
        · exact h1 h x hx
        · rw [List.mem_singleton] at hx
          subst hx
          rw [h] at hc
          cases hf : fitR q t x with
          | false => rfl
          | true => rw [hf] at hc; exact absurd rfl hc
      · obtain ⟨i, g1, g2, g3, g4⟩ := h2 b hb
        have hi := (List.getElem?_eq_some_iff.1 g1).1
        have hrl : fitR q t r = true → r.from' < b.from' := fun hf => by
          rw [hb, hf] at hc
          simp [beats] at hc
          exact hc
        refine ⟨i, by rw [List.getElem?_append_left hi]; exact g1, g2, fun x hx hfx => ?_, fun k x hk hx hfx => ?_⟩
        · rcases List.mem_append.1 hx with hx | hx
          · exact g3 x hx hfx
          · rw [List.mem_singleton] at hx
            subst hx
            have := hrl hfx
            omega
        · by_cases hkl : k < l'.length
          · rw [List.getElem?_append_left hkl] at hx
            exact g4 k x hk hx hfx
          · have hk2 := (List.getElem?_eq_some_iff.1 hx).1
            rw [List.length_append] at hk2
            simp at hk2
            obtain rfl : k = l'.length := by omega
            simp at hx
            subst hx
            exact hrl hfx
/-- Is rate r at place i the one that none beats, and no later one is? -/
def tops (q t : Int) (l : List Rt) (r : Rt) : Bool := fitR q t r && l.all fun x => !(fitR q t x && decide (r.from' < x.from'))
/-- From the end, the first that none beats: the best. -/
theorem best_from_end {q t : Int} {l : List Rt} {i : Nat} {r : Rt} (hr : l[i]? = some r) (ht : tops q t l r = true) (hlat : ∀ (k : Nat) (x : Rt), i < k → l[k]? = some x → tops q t l x = false) : best q t l = some r := by
  unfold tops at ht
  rw [Bool.and_eq_true, List.all_eq_true] at ht
  obtain ⟨h1, h2⟩ := best_spec q t l.length l rfl
  have hm : r ∈ l := List.mem_of_getElem? hr
  cases hb : best q t l with
  | none => rw [h1 hb r hm] at ht; exact absurd ht.1 (by decide)
  | some b =>
    obtain ⟨j, g1, g2, g3, g4⟩ := h2 b hb
    have hbm : b ∈ l := List.mem_of_getElem? g1
    have hrb := g3 r hm ht.1
    have hbr : ¬ r.from' < b.from' := by
      have := ht.2 b hbm
      rw [g2] at this
      simpa using this
    have htb : tops q t l b = true := by
      unfold tops
      rw [Bool.and_eq_true, List.all_eq_true]
      refine ⟨g2, fun x hx => ?_⟩
      cases hf : fitR q t x with
      | false => rfl
      | true =>
        have := g3 x hx hf
        simp
        omega
    have hij : j = i := by
      rcases Nat.lt_trichotomy i j with h | h | h
      · have := hlat j b h g1
        rw [htb] at this; cases this
      · exact h.symm
      · have := g4 i r h hr ht.1
        omega
    subst hij
    rw [g1] at hr
    exact hr
theorem best_none {q t : Int} {l : List Rt} (h : ∀ x ∈ l, tops q t l x = false) : best q t l = none := by
  obtain ⟨h1, h2⟩ := best_spec q t l.length l rfl
  cases hb : best q t l with
  | none => rfl
  | some b =>
    obtain ⟨j, g1, g2, g3, g4⟩ := h2 b hb
    have htb : tops q t l b = true := by
      unfold tops
      rw [Bool.and_eq_true, List.all_eq_true]
      refine ⟨g2, fun x hx => ?_⟩
      cases hf : fitR q t x with
      | false => rfl
      | true =>
        have := g3 x hx hf
        simp
        omega
    rw [h b (List.mem_of_getElem? g1)] at htb
    cases htb
/-- Where no rate of the class begins, nothing changes. -/
theorem best_stays {q t u : Int} (htu : t ≤ u) : ∀ {l : List Rt}, (∀ r ∈ l, ¬ (r.qos = q ∧ t < r.from' ∧ r.from' ≤ u)) → best q u l = best q t l := by
  intro l h
  unfold best
  have : ∀ (l : List Rt) (b : Option Rt), (∀ r ∈ l, ¬ (r.qos = q ∧ t < r.from' ∧ r.from' ≤ u)) → l.foldl (better q u) b = l.foldl (better q t) b := by
    intro l
    induction l with
    | nil => intro b _; rfl
    | cons r l ih =>
      intro b hr
      have e : better q u b r = better q t b r := by
        unfold better
        have : fitR q u r = fitR q t r := by
          have h1 := hr r (by simp)
          unfold fitR
          rw [Bool.eq_iff_iff]
          simp only [Bool.and_eq_true, decide_eq_true_eq]
          omega
        rw [this]
      rw [List.foldl_cons, List.foldl_cons, e]
      exact ih _ fun x hx => hr x (by simp [hx])
  exact this l none h
theorem better_unfit {q t : Int} {b : Option Rt} {r : Rt} (h : fitR q t r = false) : better q t b r = b := by
  unfold better; rw [h]; rfl
/-- A rate put behind all others: where it does not fit, or a later one does, nothing changes; else it holds. -/
theorem best_sets {q t : Int} {l : List Rt} {r : Rt} (hq : r.qos = q) (ht : r.from' ≤ t) : ((∃ x ∈ l, x.qos = q ∧ r.from' < x.from' ∧ x.from' ≤ t) → best q t (l ++ [r]) = best q t l) ∧ ((¬ ∃ x ∈ l, x.qos = q ∧ r.from' < x.from' ∧ x.from' ≤ t) → best q t (l ++ [r]) = some r) := by
  obtain ⟨h1, h2⟩ := best_spec q t l.length l rfl
  have hf : fitR q t r = true := fit_iff.2 ⟨hq, ht⟩
  rw [best_snoc]
  unfold better
  rw [hf, Bool.true_and]
  constructor
  · rintro ⟨x, hx, e1, e2, e3⟩
    have hfx : fitR q t x = true := fit_iff.2 ⟨e1, e3⟩
    cases hb : best q t l with
    | none => rw [h1 hb x hx] at hfx; cases hfx
    | some b =>
      obtain ⟨_, _, _, g3, _⟩ := h2 b hb
      have := g3 x hx hfx
      rw [if_neg]
      simp [beats]
      omega
  · intro hno
    rw [if_pos]
    cases hb : best q t l with
    | none => rfl
    | some b =>
      obtain ⟨i, g1, g2, _, _⟩ := h2 b hb
      obtain ⟨e1, e2⟩ := fit_iff.1 g2
      simp [beats]
      exact Classical.byContradiction fun hlt => hno ⟨b, List.mem_of_getElem? g1, e1, by omega, e2⟩
end Go.Proofs.Ytpmllbecgiedeaa.Rte
