/- Profile: steps as what is free at each tick (mathematics). -/
import Derived.Test.YtckebhknnocpkaaLst
namespace Go.Proofs.Ytckebhknnocpkaa.Prf
set_option linter.unusedVariables false

structure St where
  tick : Int
  free : Int
structure Bz where
  till : Int
  nodes : Int
/-- How many are free at a tick: the last step that has begun. -/
def valA : Int → List St → Int → Int
  | acc, [], _ => acc
  | acc, s :: l, t => valA (if s.tick ≤ t then s.free else acc) l t
def val (p : List St) (t : Int) : Int := valA 0 p t
theorem valA_snoc (s : St) (t : Int) : ∀ (l : List St) (acc : Int), valA acc (l ++ [s]) t = if s.tick ≤ t then s.free else valA acc l t
  | [], acc => rfl
  | a :: l, acc => by
    rw [List.cons_append, valA, valA_snoc s t l]; rfl
theorem val_snoc (l : List St) (s : St) (t : Int) : val (l ++ [s]) t = if s.tick ≤ t then s.free else val l t := valA_snoc s t l 0
theorem valA_cons (acc : Int) (s : St) (l : List St) (t : Int) : valA acc (s :: l) t = valA (if s.tick ≤ t then s.free else acc) l t := rfl
theorem valA_far {t : Int} : ∀ {l : List St} {acc : Int}, (∀ s ∈ l, t < s.tick) → valA acc l t = acc
  | [], _, _ => rfl
  | a :: l, acc, h => by
    rw [valA, if_neg (by have := h a (List.mem_cons_self ..); omega)]
    exact valA_far fun s hs => h s (List.mem_cons_of_mem _ hs)
/-- Ticks rise; no two steps beside one another have the same. -/
def Norm : List St → Prop
  | [] => True
  | [_] => True
  | a :: b :: l => a.tick < b.tick ∧ a.free ≠ b.free ∧ Norm (b :: l)
theorem norm_tail : ∀ {a : St} {l : List St}, Norm (a :: l) → Norm l
  | _, [], _ => trivial
  | _, _ :: _, h => h.2.2
theorem norm_lt : ∀ {l : List St} {a : St}, Norm (a :: l) → ∀ s ∈ l, a.tick < s.tick
  | [], _, _ => fun s hs => by cases hs
  | b :: l, a, h => fun s hs => by
    obtain ⟨h1, _, h3⟩ := h
    rcases List.mem_cons.1 hs with rfl | hs
    · exact h1
    · have := norm_lt h3 s hs
      omega
theorem norm_snoc : ∀ {l : List St} {s : St}, Norm l → (∀ a, l.getLast? = some a → a.tick < s.tick ∧ a.free ≠ s.free) → Norm (l ++ [s])
  | [], _, _, _ => trivial
  | [a], s, _, h => ⟨(h a rfl).1, (h a rfl).2, trivial⟩
  | a :: b :: l, s, hn, h => ⟨hn.1, hn.2.1, norm_snoc (l := b :: l) hn.2.2 fun c hc => h c (by rw [List.getLast?_cons_cons]; exact hc)⟩
/-- A profile is told by what is free. -/
theorem norm_one : ∀ (p q : List St) (acc : Int) (a b : St), Norm (a :: p) → Norm (b :: q) → a.tick = b.tick → (∀ t, a.tick ≤ t → valA acc (a :: p) t = valA acc (b :: q) t) → a :: p = b :: q := by
  intro p
  induction p with
  | nil =>
    intro q acc a b hp hq hab h
    have hf : a.free = b.free := by
      have h0 := h a.tick (Int.le_refl _)
      rw [valA_cons acc a, valA_cons acc b, if_pos (Int.le_refl _), if_pos (show b.tick ≤ a.tick by omega), valA_far (norm_lt hp), valA_far (fun s hs => by have := norm_lt hq s hs; omega)] at h0
      exact h0
    cases q with
    | nil =>
      cases a; cases b
      simp only at hab hf
      subst hab hf
      rfl
    | cons d q =>
      have h1 := hq.1
      have h0 := h d.tick (by omega)
      rw [valA_cons acc a, valA_cons acc b, valA_cons _ d, if_pos (show a.tick ≤ d.tick by omega), if_pos (Int.le_refl _), valA_far (norm_lt hq.2.2)] at h0
      exact absurd (hf.symm.trans h0) hq.2.1
  | cons c p ih =>
    intro q acc a b hp hq hab h
    have hf : a.free = b.free := by
      have h0 := h a.tick (Int.le_refl _)
      rw [valA_cons acc a, valA_cons acc b, if_pos (Int.le_refl _), if_pos (show b.tick ≤ a.tick by omega), valA_far (norm_lt hp), valA_far (fun s hs => by have := norm_lt hq s hs; omega)] at h0
      exact h0
    obtain rfl : a = b := by
      cases a; cases b
      simp only at hab hf
      subst hab hf
      rfl
    have h1 := hp.1
    have h' : ∀ t, a.tick ≤ t → valA a.free (c :: p) t = valA a.free q t := fun t ht => by
      have h0 := h t ht
      rw [valA_cons acc, valA_cons acc, if_pos ht] at h0
      exact h0
    cases q with
    | nil =>
      have h0 := h' c.tick (by omega)
      rw [valA_cons, if_pos (Int.le_refl _), valA_far (norm_lt hp.2.2)] at h0
      exact absurd h0.symm hp.2.1
    | cons d q =>
      have h2 := hq.1
      have hcd : c.tick = d.tick := by
        rcases Int.lt_trichotomy c.tick d.tick with hlt | heq | hgt
        · have h0 := h' c.tick (by omega)
          rw [valA_cons, if_pos (Int.le_refl _), valA_far (norm_lt hp.2.2), valA_far (l := d :: q) (fun s hs => by
            rcases List.mem_cons.1 hs with rfl | hs
            · exact hlt
            · have := norm_lt hq.2.2 s hs; omega)] at h0
          exact absurd h0.symm hp.2.1
        · exact heq
        · have h0 := h' d.tick (by omega)
          rw [valA_far (l := c :: p) (fun s hs => by
            rcases List.mem_cons.1 hs with rfl | hs
            · exact hgt
            · have := norm_lt hp.2.2 s hs; omega), valA_cons, if_pos (Int.le_refl _), valA_far (norm_lt hq.2.2)] at h0
          exact absurd h0 hq.2.1
      rw [ih q a.free c d hp.2.2 hq.2.2 hcd fun t ht => h' t (by omega)]

/-! ### Steps at some ticks, of which those that change nothing are left out -/

def lastF (l : List St) : Option Int := l.getLast?.map (·.free)
def mk1 (out : List St) (t f : Int) : List St := if lastF out = some f then out else out ++ [⟨t, f⟩]
def madeL (F : Int → Int) (ts : List Int) : List St := ts.foldl (fun out t => mk1 out t (F t)) []
theorem made_snoc (F : Int → Int) (ts : List Int) (t : Int) : madeL F (ts ++ [t]) = mk1 (madeL F ts) t (F t) := by
  unfold madeL
  rw [List.foldl_append]; rfl
/-- What they come to: rising ticks from the first one on, of a function that does not change between them. -/
theorem made_spec (F : Int → Int) : ∀ (ts : List Int), ts.Pairwise (· < ·) →
    Norm (madeL F ts) ∧ (madeL F ts).length ≤ ts.length ∧ (∀ s ∈ madeL F ts, s.tick ∈ ts ∧ s.free = F s.tick) ∧ (∀ u, ts.getLast? = some u → lastF (madeL F ts) = some (F u)) ∧ (∀ u, ts.head? = some u → ∃ l, madeL F ts = ⟨u, F u⟩ :: l) ∧
    ∀ t u, u ∈ ts → u ≤ t → (∀ x ∈ ts, x ≤ t → x ≤ u) → val (madeL F ts) t = F u := by
  intro ts
  induction h : ts.reverse generalizing ts with
  | nil =>
    obtain rfl : ts = [] := by simpa using h
    intro _
    exact ⟨trivial, Nat.le_refl _, (fun s hs => by cases hs), (fun u hu => by cases hu), (fun u hu => by cases hu), fun t u hu => by cases hu⟩
  | cons x r ih =>
    obtain rfl : ts = r.reverse ++ [x] := by
      have := congrArg List.reverse h
      simpa using this
    intro hp
    obtain ⟨hp1, -, hp2⟩ := List.pairwise_append.1 hp
    have hlt : ∀ y ∈ r.reverse, y < x := fun y hy => hp2 y hy x (List.mem_singleton.2 rfl)
    obtain ⟨g1, g2, g3, g4, g5, g6⟩ := ih r.reverse (by simp) hp1
    rw [made_snoc]
    unfold mk1
    by_cases hl : lastF (madeL F r.reverse) = some (F x)
    · rw [if_pos hl]
      have hne : r.reverse ≠ [] := by
        intro e
        rw [e] at hl
        simp [madeL, lastF] at hl
      refine ⟨g1, by rw [List.length_append]; omega, fun s hs => ⟨List.mem_append_left _ (g3 s hs).1, (g3 s hs).2⟩, fun u hu => ?_, fun u hu => ?_, fun t u hu hut hmx => ?_⟩
      · rw [List.getLast?_append] at hu
        simp at hu
        subst hu
        exact hl
      · obtain ⟨y0, l0, e0⟩ := List.exists_cons_of_ne_nil hne
        rw [e0] at hu
        exact g5 u (by rw [e0]; exact hu)
      · by_cases hux : u = x
        · subst hux
          obtain ⟨y, hy⟩ : ∃ y, r.reverse.getLast? = some y := ⟨_, List.getLast?_eq_some_getLast hne⟩
          have hyF := g4 y hy
          rw [hl] at hyF
          injection hyF with hyF
          have hym := List.mem_of_getLast? hy
          rw [g6 t y hym (by have := hlt y hym; omega) fun z hz hzt => ?_, hyF]
          have hz2 : z = y ∨ z < y := by
            obtain ⟨l', hl'⟩ := List.getLast?_eq_some_iff.1 hy
            rw [hl'] at hz hp1
            rcases List.mem_append.1 hz with hz | hz
            · exact .inr ((List.pairwise_append.1 hp1).2.2 z hz y (List.mem_singleton.2 rfl))
            · exact .inl (List.mem_singleton.1 hz)
          omega
        · have hum : u ∈ r.reverse := by
            rcases List.mem_append.1 hu with h | h
            · exact h
            · exact absurd (List.mem_singleton.1 h) hux
          exact g6 t u hum hut fun z hz hzt => hmx z (List.mem_append_left _ hz) hzt
    · rw [if_neg hl]
      refine ⟨norm_snoc g1 fun a ha => ⟨?_, ?_⟩, by have := g2; simp only [List.length_append, List.length_singleton]; omega, fun s hs => ?_, fun u hu => ?_, fun u hu => ?_, fun t u hu hut hmx => ?_⟩
      · exact hlt _ (g3 a (List.mem_of_getLast? ha)).1
      · intro e
        apply hl
        unfold lastF
        rw [ha]
        exact congrArg some e
      · rcases List.mem_append.1 hs with hs | hs
        · exact ⟨List.mem_append_left _ (g3 s hs).1, (g3 s hs).2⟩
        · rw [List.mem_singleton] at hs
          subst hs
          exact ⟨List.mem_append_right _ (List.mem_singleton.2 rfl), rfl⟩
      · rw [List.getLast?_append] at hu
        simp at hu
        subst hu
        unfold lastF
        rw [List.getLast?_append]
        simp
      · by_cases hne : r.reverse = []
        · rw [hne] at hu ⊢
          simp at hu
          subst hu
          exact ⟨[], rfl⟩
        · obtain ⟨y0, l0, e0⟩ := List.exists_cons_of_ne_nil hne
          rw [e0] at hu
          obtain ⟨l', hl'⟩ := g5 u (by rw [e0]; exact hu)
          exact ⟨l' ++ [⟨x, F x⟩], by rw [hl']; rfl⟩
      · rw [val_snoc]
        by_cases hux : u = x
        · subst hux
          rw [if_pos hut]
        · have hum : u ∈ r.reverse := by
            rcases List.mem_append.1 hu with h | h
            · exact h
            · exact absurd (List.mem_singleton.1 h) hux
          rw [if_neg]
          · exact g6 t u hum hut fun z hz hzt => hmx z (List.mem_append_left _ hz) hzt
          · intro hxt
            have := hmx x (List.mem_append_right _ (List.mem_singleton.2 rfl)) hxt
            have := hlt u hum
            omega
end Go.Proofs.Ytckebhknnocpkaa.Prf
