/- Money, plain: sums and products of whole numbers, cut off where one of them, or what has come together, lies outside -2^60 .. 2^60. Imports nothing of the program. -/
namespace Go.Proofs.Ytmlbdmfmaebdeaa.Mon

def fitsB (n : Int) : Bool := decide (-1152921504606846976 ≤ n ∧ n ≤ 1152921504606846976)

theorem fitsB_iff {n : Int} : fitsB n = true ↔ (-1152921504606846976 ≤ n ∧ n ≤ 1152921504606846976) := by
  unfold fitsB; exact decide_eq_true_iff

theorem fitsB_no {n : Int} : fitsB n = false ↔ ¬ (-1152921504606846976 ≤ n ∧ n ≤ 1152921504606846976) := by
  unfold fitsB; exact decide_eq_false_iff_not

/-- A fold that gives up. -/
def foldF (f : Int → Int → Int) : Int → List Int → Option Int
  | s, [] => some s
  | s, x :: r => if fitsB x = true ∧ fitsB (f s x) = true then foldF f (f s x) r else none

def addF (l : List Int) : Option Int := foldF (fun a b => a + b) 0 l
def mulF (l : List Int) : Option Int := foldF (fun a b => a * b) 1 l
def outN (o : Option Int) : Int := o.getD 0
def outE (o : Option Int) : Int := if o.isSome then 0 else 2
def addN (l : List Int) : Int := outN (addF l)
def addE (l : List Int) : Int := outE (addF l)
def mulN (l : List Int) : Int := outN (mulF l)
def mulE (l : List Int) : Int := outE (mulF l)

/-- What is left comes to what all comes to. -/
def Rest (f : Int → Int → Int) (t : Option Int) (l : List Int) (s : Int) (k : Nat) : Prop := foldF f s (l.drop k) = t

theorem drop_at {l : List Int} {k : Nat} (h : k < l.length) : l.drop k = l.getD k 0 :: l.drop (k + 1) := by
  rw [List.drop_eq_getElem_cons h]
  simp [List.getD, List.getElem?_eq_getElem h]

theorem rest_step {f : Int → Int → Int} {t : Option Int} {l : List Int} {s : Int} {k : Nat} (h : Rest f t l s k) (hk : k < l.length) (h1 : fitsB (l.getD k 0) = true) (h2 : fitsB (f s (l.getD k 0)) = true) :
    Rest f t l (f s (l.getD k 0)) (k + 1) := by
  unfold Rest at h ⊢
  rw [drop_at hk, foldF, if_pos ⟨h1, h2⟩] at h
  exact h

theorem rest_no1 {f : Int → Int → Int} {t : Option Int} {l : List Int} {s : Int} {k : Nat} (h : Rest f t l s k) (hk : k < l.length) (h1 : fitsB (l.getD k 0) = false) : t = none := by
  unfold Rest at h
  rw [drop_at hk, foldF, if_neg (by simp only [h1]; simp)] at h
  exact h.symm

theorem rest_no2 {f : Int → Int → Int} {t : Option Int} {l : List Int} {s : Int} {k : Nat} (h : Rest f t l s k) (hk : k < l.length) (h2 : fitsB (f s (l.getD k 0)) = false) : t = none := by
  unfold Rest at h
  rw [drop_at hk, foldF, if_neg (by simp only [h2]; simp)] at h
  exact h.symm

theorem rest_end {f : Int → Int → Int} {t : Option Int} {l : List Int} {s : Int} {k : Nat} (h : Rest f t l s k) (hk : l.length ≤ k) : t = some s := by
  unfold Rest at h
  rw [List.drop_of_length_le hk, foldF] at h
  exact h.symm

theorem none_N {t : Option Int} (h : t = none) : outN t = 0 := by rw [h]; rfl
theorem none_E {t : Option Int} (h : t = none) : outE t = 2 := by rw [h]; rfl
theorem some_N {t : Option Int} {s : Int} (h : t = some s) : outN t = s := by rw [h]; rfl
theorem some_E {t : Option Int} {s : Int} (h : t = some s) : outE t = 0 := by rw [h]; rfl

theorem out_cases (t : Option Int) : (t = none ∧ outN t = 0 ∧ outE t = 2) ∨ (∃ s, t = some s ∧ outN t = s ∧ outE t = 0) := by
  cases t with
  | none => exact .inl ⟨rfl, rfl, rfl⟩
  | some s => exact .inr ⟨s, rfl, rfl, rfl⟩

theorem foldF_fits {f : Int → Int → Int} {l : List Int} : ∀ {s r : Int}, fitsB s = true → foldF f s l = some r → fitsB r = true := by
  induction l with
  | nil => intro s r hs h; rw [foldF] at h; cases h; exact hs
  | cons x l ih =>
    intro s r hs h
    rw [foldF] at h
    split at h
    · rename_i hc; exact ih hc.2 h
    · cases h

/-! ## Products -/

/-- A number without its sign. -/
def abs (n : Int) : Int := (n.natAbs : Int)
theorem abs_neg {n : Int} (h : n < 0) : abs n = -n := by unfold abs; omega
theorem abs_pos {n : Int} (h : ¬ n < 0) : abs n = n := by unfold abs; omega
theorem abs_ge (n : Int) : 0 ≤ abs n := by unfold abs; omega

theorem fitsB_abs (n : Int) : fitsB n = decide (abs n ≤ 1152921504606846976) := by
  unfold fitsB abs
  rw [Bool.eq_iff_iff]; simp only [decide_eq_true_iff]; omega

theorem abs_mul (a b : Int) : abs (a * b) = abs a * abs b := by
  unfold abs; rw [Int.natAbs_mul]; simp

theorem quot_iff (a b : Int) (hb : ¬ b = 0) : (abs a ≤ 1152921504606846976 / abs b) ↔ fitsB (a * b) = true := by
  rw [fitsB_abs, decide_eq_true_iff, abs_mul]
  have hp : 0 < abs b := by unfold abs; omega
  exact Int.le_ediv_iff_mul_le hp

theorem fits_zero (a : Int) : fitsB (a * 0) = true := by rw [Int.mul_zero]; decide

end Go.Proofs.Ytmlbdmfmaebdeaa.Mon
