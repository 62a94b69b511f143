/- Profile: what New, Take and Fit are to be, by what is free at each tick (mathematics). -/
import Derived.Test.YtckebhknnocpkaaPrfMath
namespace Go.Proofs.Ytckebhknnocpkaa.Prf
set_option linter.unusedVariables false

/-- p is the profile of F from u on. -/
structure IsP (p : List St) (F : Int → Int) (u : Int) : Prop where
  norm : Norm p
  head : ∃ f l, p = ⟨u, f⟩ :: l
  fn : ∀ t, u ≤ t → val p t = F t
theorem isP_one {p q : List St} {F : Int → Int} {u : Int} (hp : IsP p F u) (hq : IsP q F u) : p = q := by
  obtain ⟨h1, ⟨f, l, rfl⟩, h3⟩ := hp
  obtain ⟨k1, ⟨g, m, rfl⟩, k3⟩ := hq
  refine norm_one l m 0 _ _ h1 k1 rfl fun t ht => ?_
  have := h3 t ht
  rw [← k3 t ht] at this
  exact this
theorem isP_congr {p : List St} {F G : Int → Int} {u : Int} (h : IsP p F u) (hFG : ∀ t, u ≤ t → F t = G t) : IsP p G u := ⟨h.norm, h.head, fun t ht => (h.fn t ht).trans (hFG t ht)⟩

/-! ### Ticks -/

/-- The ticks from one on at which something may change, rising. -/
structure IsT (u : Int) (more ts : List Int) : Prop where
  up : ts.Pairwise (· < ·)
  head : ts.head? = some u
  mem : ∀ x, x ∈ ts ↔ x = u ∨ (x ∈ more ∧ u < x)
theorem greatest {t : Int} : ∀ {ts : List Int} {u : Int}, u ∈ ts → u ≤ t → ∃ v, v ∈ ts ∧ v ≤ t ∧ ∀ x ∈ ts, x ≤ t → x ≤ v
  | [], u, h, _ => by cases h
  | y :: ts, u, h, hu => by
    by_cases hy : y ≤ t
    · by_cases hex : ∃ z, z ∈ ts ∧ z ≤ t
      · obtain ⟨z, hz, hzt⟩ := hex
        obtain ⟨v, h1, h2, h3⟩ := greatest hz hzt
        by_cases hyv : y ≤ v
        · exact ⟨v, List.mem_cons_of_mem _ h1, h2, fun x hx hxt => by
            rcases List.mem_cons.1 hx with rfl | hx
            · exact hyv
            · exact h3 x hx hxt⟩
        · exact ⟨y, List.mem_cons_self .., hy, fun x hx hxt => by
            rcases List.mem_cons.1 hx with rfl | hx
            · exact Int.le_refl _
            · have := h3 x hx hxt; omega⟩
      · exact ⟨y, List.mem_cons_self .., hy, fun x hx hxt => by
          rcases List.mem_cons.1 hx with rfl | hx
          · exact Int.le_refl _
          · exact absurd ⟨x, hx, hxt⟩ hex⟩
    · rcases List.mem_cons.1 h with rfl | h
      · exact absurd hu hy
      · obtain ⟨v, h1, h2, h3⟩ := greatest h hu
        exact ⟨v, List.mem_cons_of_mem _ h1, h2, fun x hx hxt => by
          rcases List.mem_cons.1 hx with rfl | hx
          · exact absurd hxt hy
          · exact h3 x hx hxt⟩
/-- Steps made at the ticks of a function that changes at none but them. -/
theorem made_isP {u : Int} {more ts : List Int} {F : Int → Int} (h : IsT u more ts) (hF : ∀ a b, u ≤ a → a ≤ b → (∀ x ∈ more, ¬ (a < x ∧ x ≤ b)) → F a = F b) : IsP (madeL F ts) F u ∧ (madeL F ts).length ≤ ts.length := by
  obtain ⟨g1, g2, g3, g4, g5, g6⟩ := made_spec F ts h.up
  obtain ⟨l, hl⟩ := g5 u h.head
  refine ⟨⟨g1, ⟨_, l, hl⟩, fun t ht => ?_⟩, g2⟩
  obtain ⟨v, h1, h2, h3⟩ := greatest ((h.mem u).2 (.inl rfl)) ht
  rw [g6 t v h1 h2 h3]
  have huv : u ≤ v := by
    rcases (h.mem v).1 h1 with e | ⟨_, e⟩ <;> omega
  refine hF v t huv h2 fun x hx ⟨hvx, hxt⟩ => ?_
  have := h3 x ((h.mem x).2 (.inr ⟨hx, by omega⟩)) hxt
  omega
theorem isT_len {u : Int} {more : List Int} : ∀ {ts : List Int}, IsT u more ts → ts.length ≤ more.length + 1 := by
  have hk : ∀ (ts l : List Int), ts.Pairwise (· < ·) → (∀ x ∈ ts, x ∈ l) → ts.length ≤ l.length := by
    intro ts
    induction ts with
    | nil => intro l _ _; simp
    | cons a ts ih =>
      intro l hp hs
      obtain ⟨h1, h2⟩ := List.pairwise_cons.1 hp
      have ha := hs a (List.mem_cons_self ..)
      have := ih (l.erase a) h2 fun x hx => (List.mem_erase_of_ne (by have := h1 x hx; omega)).2 (hs x (List.mem_cons_of_mem _ hx))
      rw [List.length_erase_of_mem ha] at this
      have hpos : 0 < l.length := List.length_pos_of_mem ha
      rw [List.length_cons]
      omega
  intro ts h
  have := hk ts (u :: more) h.up fun x hx => by
    rcases (h.mem x).1 hx with rfl | ⟨hx, _⟩
    · exact List.mem_cons_self ..
    · exact List.mem_cons_of_mem _ hx
  simpa using this

/-! ### New -/

def busyN : List Bz → Int → Int
  | [], _ => 0
  | b :: l, t => (if t < b.till then b.nodes else 0) + busyN l t
def newF (total : Int) (l : List Bz) (t : Int) : Int := total - busyN l t
theorem busyN_same {a b : Int} (hab : a ≤ b) : ∀ {l : List Bz}, (∀ x ∈ l.map (·.till), ¬ (a < x ∧ x ≤ b)) → busyN l a = busyN l b
  | [], _ => rfl
  | y :: l, h => by
    rw [busyN, busyN, busyN_same hab fun x hx => h x (List.mem_cons_of_mem _ hx)]
    have h1 := h y.till (List.mem_cons_self ..)
    congr 1
    by_cases ha : a < y.till
    · rw [if_pos ha, if_pos (by omega)]
    · rw [if_neg ha, if_neg (by omega)]
theorem new_isP {u total : Int} {l : List Bz} {ts : List Int} (h : IsT u (l.map (·.till)) ts) : IsP (madeL (newF total l) ts) (newF total l) u ∧ (madeL (newF total l) ts).length ≤ l.length + 1 := by
  obtain ⟨h1, h2⟩ := made_isP (F := newF total l) h fun a b _ hab hx => by
    unfold newF
    rw [busyN_same hab hx]
  have h3 := isT_len h
  rw [List.length_map] at h3
  exact ⟨h1, by omega⟩
theorem busyN_snoc (b : Bz) (t : Int) : ∀ l : List Bz, busyN (l ++ [b]) t = busyN l t + (if t < b.till then b.nodes else 0)
  | [] => by simp [busyN]
  | y :: l => by
    rw [List.cons_append, busyN, busyN, busyN_snoc b t l]
    omega
theorem busyN_le {K : Int} (hK : 0 ≤ K) {t : Int} : ∀ {l : List Bz}, (∀ b ∈ l, 0 ≤ b.nodes ∧ b.nodes ≤ K) → 0 ≤ busyN l t ∧ busyN l t ≤ l.length * K
  | [], _ => by simp [busyN]
  | y :: l, h => by
    have h1 := busyN_le hK (t := t) (l := l) fun b hb => h b (List.mem_cons_of_mem _ hb)
    have h2 := h y (List.mem_cons_self ..)
    rw [busyN, List.length_cons]
    have h3 : ((l.length + 1 : Nat) : Int) * K = l.length * K + K := by
      rw [Int.natCast_add, Int.add_mul]; simp
    rw [h3]
    split <;> omega

/-! ### Take -/

def takeF (p : List St) (at' long nodes : Int) (t : Int) : Int := val p t - (if at' ≤ t ∧ t < at' + long then nodes else 0)
theorem valA_same {a b : Int} (hab : a ≤ b) : ∀ {p : List St} {acc : Int}, (∀ x ∈ p.map (·.tick), ¬ (a < x ∧ x ≤ b)) → valA acc p a = valA acc p b
  | [], _, _ => rfl
  | s :: p, acc, h => by
    have h1 := h s.tick (List.mem_cons_self ..)
    rw [valA_cons, valA_cons]
    by_cases ha : s.tick ≤ a
    · rw [if_pos ha, if_pos (by omega)]
      exact valA_same hab fun x hx => h x (List.mem_cons_of_mem _ hx)
    · rw [if_neg ha, if_neg (by omega)]
      exact valA_same hab fun x hx => h x (List.mem_cons_of_mem _ hx)
theorem take_isP {u at' long nodes : Int} {p : List St} {ts : List Int} (hl : 0 ≤ long) (h : IsT u (at' :: (at' + long) :: p.map (·.tick)) ts) : IsP (madeL (takeF p at' long nodes) ts) (takeF p at' long nodes) u ∧ (madeL (takeF p at' long nodes) ts).length ≤ p.length + 3 := by
  obtain ⟨h1, h2⟩ := made_isP (F := takeF p at' long nodes) h fun a b _ hab hx => by
    unfold takeF
    have e1 : val p a = val p b := valA_same hab fun x hx2 => hx x (List.mem_cons_of_mem _ (List.mem_cons_of_mem _ hx2))
    have e2 := hx at' (List.mem_cons_self ..)
    have e3 := hx (at' + long) (List.mem_cons_of_mem _ (List.mem_cons_self ..))
    rw [e1]
    congr 1
    by_cases hc : at' ≤ a ∧ a < at' + long
    · rw [if_pos hc, if_pos (by omega)]
    · rw [if_neg hc, if_neg (by omega)]
  have h3 := isT_len h
  simp only [List.length_cons, List.length_map] at h3
  exact ⟨h1, by omega⟩

/-! ### What steps may be -/

/-- A step behind the first stands where the function changes. -/
theorem isP_ticks {p : List St} {F : Int → Int} {u : Int} (h : IsP p F u) : ∀ s ∈ p, u ≤ s.tick ∧ s.free = F s.tick ∧ (s.tick = u ∨ F (s.tick - 1) ≠ F s.tick) := by
  obtain ⟨hn, ⟨f, l, rfl⟩, hf⟩ := h
  have key : ∀ (l : List St) (acc : Int) (a : St), Norm (a :: l) → ∀ s ∈ l, a.tick < s.tick ∧ valA acc (a :: l) s.tick = s.free ∧ valA acc (a :: l) (s.tick - 1) ≠ s.free := by
    intro l
    induction l with
    | nil => intro acc a _ s hs; cases hs
    | cons b l ih =>
      intro acc a hn s hs
      have hab := hn.1
      rw [valA_cons acc, valA_cons acc]
      rcases List.mem_cons.1 hs with rfl | hs
      · refine ⟨hab, ?_, ?_⟩
        · rw [valA_cons, if_pos (Int.le_refl _), valA_far (norm_lt hn.2.2)]
        · rw [if_pos (by omega), valA_cons, if_neg (by omega), valA_far (fun x hx => by have := norm_lt hn.2.2 x hx; omega)]
          exact hn.2.1
      · obtain ⟨h1, h2, h3⟩ := ih (if a.tick ≤ s.tick then a.free else acc) b hn.2.2 s hs
        obtain ⟨_, _, h4⟩ := ih (if a.tick ≤ s.tick - 1 then a.free else acc) b hn.2.2 s hs
        exact ⟨by omega, h2, h4⟩
  intro s hs
  rcases List.mem_cons.1 hs with rfl | hs
  · refine ⟨Int.le_refl _, ?_, .inl rfl⟩
    have := hf u (Int.le_refl _)
    unfold val at this
    rw [valA_cons, if_pos (Int.le_refl _), valA_far (norm_lt hn)] at this
    exact this
  · obtain ⟨h1, h2, h3⟩ := key l 0 _ hn s hs
    have e1 := hf s.tick (by simp only at h1; omega)
    have e2 := hf (s.tick - 1) (by simp only at h1; omega)
    unfold val at e1 e2
    rw [h2] at e1
    refine ⟨by simp only at h1; omega, e1, .inr ?_⟩
    rw [← e2, ← e1]
    exact h3

/-! ### Fit -/

def fitsAt (p : List St) (nodes long m : Int) : Prop := ∀ t, m ≤ t → t < m + long → nodes ≤ val p t
def longOf (long : Int) : Int := if long < 1 then 1 else long
/-- The least tick from which on so many are free for so long; or none. -/
def IsF (p : List St) (nodes long n : Int) (ok : Bool) : Prop :=
  (ok = true ∧ ∃ a l, p = a :: l ∧ a.tick ≤ n ∧ fitsAt p nodes (longOf long) n ∧ ∀ m, a.tick ≤ m → m < n → ¬ fitsAt p nodes (longOf long) m) ∨
  (ok = false ∧ n = 0 ∧ ∀ a l, p = a :: l → ∀ m, a.tick ≤ m → ¬ fitsAt p nodes (longOf long) m)
theorem isF_one {p : List St} {nodes long n m : Int} {b c : Bool} (h : IsF p nodes long n b) (k : IsF p nodes long m c) : n = m ∧ b = c := by
  rcases h with ⟨rfl, a, l, rfl, h1, h2, h3⟩ | ⟨rfl, rfl, h1⟩
  · rcases k with ⟨rfl, a', l', e, k1, k2, k3⟩ | ⟨rfl, rfl, k1⟩
    · injection e with e1 e2
      subst e1
      refine ⟨?_, rfl⟩
      rcases Int.lt_trichotomy n m with hlt | heq | hgt
      · exact absurd h2 (k3 n h1 hlt)
      · exact heq
      · exact absurd k2 (h3 m k1 hgt)
    · exact absurd h2 (k1 a l rfl n h1)
  · rcases k with ⟨rfl, a, l, rfl, k1, k2, k3⟩ | ⟨rfl, rfl, _⟩
    · exact absurd k2 (h1 a l rfl m k1)
    · exact ⟨rfl, rfl⟩
end Go.Proofs.Ytckebhknnocpkaa.Prf
