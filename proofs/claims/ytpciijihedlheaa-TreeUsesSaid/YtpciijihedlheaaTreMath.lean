/- Tree: funds and allocations as plain data: paths, which funds may be, what is used, which limit does not hold. -/
import Derived.Test.YtpciijihedlheaaMonMath
namespace Go.Proofs.Ytpciijihedlheaa.Tre
open Mon
set_option linter.unusedVariables false

structure Fd where
  name : ByteArray
  par : Int
  lim : Int
structure Al where
  fund : Int
  from' : Int
  till : Int
  avail : Int
  lien : Int
  spent : Int

/-! ### Paths -/

def up (l : List Fd) : Nat → Nat → List Nat
  | 0, _ => []
  | n + 1, f => match l[f]? with
    | none => []
    | some x => f :: (if 0 ≤ x.par ∧ x.par < (f : Int) then up l n x.par.toNat else [])
/-- A fund, its parent, and so on. -/
def pathN (l : List Fd) (f : Nat) : List Nat := up l (f + 1) f
def path (l : List Fd) (f : Int) : List Int := if 0 ≤ f then (pathN l f.toNat).map (fun (k : Nat) => (k : Int)) else []
theorem up_fuel (l : List Fd) : ∀ (n f : Nat), f < n → up l n f = pathN l f := by
  intro n
  induction n using Nat.strongRecOn with
  | _ n ih =>
    intro f hf
    obtain ⟨m, rfl⟩ : ∃ m, n = m + 1 := ⟨n - 1, by omega⟩
    unfold pathN
    simp only [up]
    cases hx : l[f]? with
    | none => rfl
    | some x =>
      simp only
      by_cases hp : 0 ≤ x.par ∧ x.par < (f : Int)
      · rw [if_pos hp, if_pos hp]
        have h1 : x.par.toNat < f := by omega
        congr 1
        rcases Nat.lt_or_ge f m with h | h
        · rw [ih m (by omega) _ (by omega), ih f (by omega) _ h1]
        · obtain rfl : m = f := by omega
          rfl
      · rw [if_neg hp, if_neg hp]
theorem pathN_none {l : List Fd} {f : Nat} (h : l.length ≤ f) : pathN l f = [] := by
  unfold pathN; simp only [up]; rw [List.getElem?_eq_none h]
theorem pathN_some {l : List Fd} {f : Nat} {x : Fd} (h : l[f]? = some x) : pathN l f = f :: (if 0 ≤ x.par ∧ x.par < (f : Int) then pathN l x.par.toNat else []) := by
  conv => lhs; unfold pathN
  simp only [up, h]
  by_cases hp : 0 ≤ x.par ∧ x.par < (f : Int)
  · rw [if_pos hp, if_pos hp, up_fuel l f _ (by omega)]
  · rw [if_neg hp, if_neg hp]
theorem path_neg {l : List Fd} {f : Int} (h : f < 0) : path l f = [] := by unfold path; rw [if_neg (by omega)]
theorem path_nat (l : List Fd) (f : Nat) : path l (f : Int) = (pathN l f).map (fun (k : Nat) => (k : Int)) := by unfold path; rw [if_pos (by omega), Int.toNat_natCast]
theorem path_far {l : List Fd} {f : Int} (h : f < 0 ∨ (l.length : Int) ≤ f) : path l f = [] := by
  rcases h with h | h
  · exact path_neg h
  · obtain ⟨n, rfl⟩ : ∃ n : Nat, f = n := ⟨f.toNat, by omega⟩
    rw [path_nat, pathN_none (by omega)]; rfl
theorem path_at {l : List Fd} {f : Nat} {x : Fd} (h : l[f]? = some x) : path l (f : Int) = (f : Int) :: (if x.par < (f : Int) then path l x.par else []) := by
  rw [path_nat, pathN_some h, List.map_cons]
  congr 1
  by_cases h1 : x.par < (f : Int)
  · rw [if_pos h1]
    by_cases h0 : 0 ≤ x.par
    · rw [if_pos ⟨h0, h1⟩]
      unfold path
      rw [if_pos h0]
    · rw [if_neg (fun h => h0 h.1), path_neg (by omega)]; rfl
  · rw [if_neg h1, if_neg (fun h => h1 h.2)]; rfl
/-- Whatever stands in a path has the rest as its own. -/
theorem pathN_drop (l : List Fd) : ∀ (f i k : Nat), (pathN l f)[i]? = some k → (pathN l f).drop i = pathN l k := by
  intro f
  induction f using Nat.strongRecOn with
  | _ f ih =>
    intro i k h
    cases hx : l[f]? with
    | none => rw [pathN_none (List.getElem?_eq_none_iff.1 hx)] at h; simp at h
    | some x =>
      have e := pathN_some hx
      cases i with
      | zero =>
        rw [e] at h
        simp at h
        subst h
        rw [List.drop_zero]
      | succ i =>
        rw [e, List.getElem?_cons_succ] at h
        rw [e, List.drop_succ_cons]
        by_cases hp : 0 ≤ x.par ∧ x.par < (f : Int)
        · rw [if_pos hp] at h ⊢
          exact ih _ (by omega) i k h
        · rw [if_neg hp] at h; simp at h
theorem pathN_lt (l : List Fd) : ∀ (f k : Nat), k ∈ pathN l f → k ≤ f ∧ k < l.length := by
  intro f
  induction f using Nat.strongRecOn with
  | _ f ih =>
    intro k h
    cases hx : l[f]? with
    | none => rw [pathN_none (List.getElem?_eq_none_iff.1 hx)] at h; cases h
    | some x =>
      rw [pathN_some hx] at h
      rcases List.mem_cons.1 h with rfl | h
      · exact ⟨Nat.le_refl _, (List.getElem?_eq_some_iff.1 hx).1⟩
      · by_cases hp : 0 ≤ x.par ∧ x.par < (f : Int)
        · rw [if_pos hp] at h
          obtain ⟨h1, h2⟩ := ih _ (by omega) k h
          exact ⟨by omega, h2⟩
        · rw [if_neg hp] at h; cases h
theorem pathN_length (l : List Fd) (f : Nat) : (pathN l f).length ≤ f + 1 := by
  induction f using Nat.strongRecOn with
  | _ f ih =>
    cases hx : l[f]? with
    | none => rw [pathN_none (List.getElem?_eq_none_iff.1 hx)]; exact Nat.zero_le _
    | some x =>
      rw [pathN_some hx, List.length_cons]
      by_cases hp : 0 ≤ x.par ∧ x.par < (f : Int)
      · rw [if_pos hp]
        have := ih x.par.toNat (by omega)
        omega
      · rw [if_neg hp]; simp
/-- Two that follow one another. -/
theorem pathN_next {l : List Fd} {f i k m : Nat} (h : (pathN l f)[i]? = some k) (h2 : (pathN l f)[i + 1]? = some m) : ∃ x, l[k]? = some x ∧ x.par = (m : Int) ∧ m < k := by
  have hd := pathN_drop l f i k h
  have h3 : (pathN l k)[1]? = some m := by rw [← hd, List.getElem?_drop]; exact h2
  cases hx : l[k]? with
  | none => rw [pathN_none (List.getElem?_eq_none_iff.1 hx)] at h3; simp at h3
  | some x =>
    refine ⟨x, rfl, ?_⟩
    rw [pathN_some hx, List.getElem?_cons_succ] at h3
    by_cases hp : 0 ≤ x.par ∧ x.par < (k : Int)
    · rw [if_pos hp] at h3
      cases hy : l[x.par.toNat]? with
      | none => rw [pathN_none (List.getElem?_eq_none_iff.1 hy)] at h3; simp at h3
      | some y =>
        rw [pathN_some hy, List.getElem?_cons_zero] at h3
        injection h3 with h3
        exact ⟨by omega, by omega⟩
    · rw [if_neg hp] at h3; simp at h3

/-! ### Which funds may be -/

def okAt (l : List Fd) (i : Nat) (x : Fd) : Bool :=
  decide (1 ≤ x.name.size) && decide (x.name.size ≤ 16) && decide (-1 ≤ x.par) && decide (x.par < (i : Int)) && decide (0 ≤ x.lim) && decide (x.lim ≤ 1152921504606846976) && (l.take i).all fun y => decide (y.name ≠ x.name)
def okTo (l : List Fd) (n : Nat) : Bool := (List.range n).all fun i => match l[i]? with | some x => okAt l i x | none => true
def goodB (l : List Fd) : Bool := decide (l.length ≤ 8) && okTo l l.length
theorem okTo_succ (l : List Fd) {n : Nat} {x : Fd} (h : l[n]? = some x) : okTo l (n + 1) = (okTo l n && okAt l n x) := by
  unfold okTo
  rw [List.range_succ, List.all_append]
  simp [h]
theorem okTo_at {l : List Fd} {n i : Nat} {x : Fd} (h : okTo l n = true) (hi : i < n) (hx : l[i]? = some x) : okAt l i x = true := by
  have := List.all_eq_true.1 h i (List.mem_range.2 hi)
  rw [hx] at this
  exact this
theorem good_at {l : List Fd} {i : Nat} {x : Fd} (h : goodB l = true) (hx : l[i]? = some x) : -1 ≤ x.par ∧ x.par < (i : Int) ∧ 0 ≤ x.lim ∧ x.lim ≤ 1152921504606846976 := by
  unfold goodB at h
  rw [Bool.and_eq_true] at h
  have := okTo_at h.2 (List.getElem?_eq_some_iff.1 hx).1 hx
  unfold okAt at this
  simp only [Bool.and_eq_true, decide_eq_true_eq] at this
  omega
/-- Of funds that may be a path ends at one that has none above it. -/
theorem good_last {l : List Fd} (hg : goodB l = true) : ∀ {f : Nat} {x : Fd}, l[f]? = some x → ∃ k y, (pathN l f).getLast? = some k ∧ l[k]? = some y ∧ y.par = -1 := by
  intro f
  induction f using Nat.strongRecOn with
  | _ f ih =>
    intro x hx
    obtain ⟨h1, h2, _⟩ := good_at hg hx
    rw [pathN_some hx]
    by_cases hp : 0 ≤ x.par ∧ x.par < (f : Int)
    · rw [if_pos hp]
      have hlt : x.par.toNat < f := by omega
      have hlen := (List.getElem?_eq_some_iff.1 hx).1
      obtain ⟨k, y, e1, e2, e3⟩ := ih _ hlt (List.getElem?_eq_getElem (show x.par.toNat < l.length by omega))
      refine ⟨k, y, ?_, e2, e3⟩
      rw [List.getLast?_cons, e1]; rfl
    · rw [if_neg hp]
      exact ⟨f, x, rfl, hx, by omega⟩

/-! ### What is used -/

def amounts (l : List Fd) (al : List Al) (f : Int) : List Int := al.flatMap fun a => if (path l a.fund).contains f then [a.lien, a.spent] else []
def useN (l : List Fd) (al : List Al) (f : Int) : Int := if 0 ≤ f ∧ f < l.length then addN (amounts l al f) else 0
def useE (l : List Fd) (al : List Al) (f : Int) : Int := if 0 ≤ f ∧ f < l.length then addE (amounts l al f) else 4
def overAt (l : List Fd) (al : List Al) (i : Nat) (x : Fd) : Bool := decide (0 < x.lim) && (decide (useE l al i ≠ 0) || decide (x.lim < useN l al i))
/-- The first fund from place i on whose limit does not hold. -/
def overFrom (l : List Fd) (al : List Al) : Nat → Nat → Int
  | 0, _ => -1
  | n + 1, i => match l[i]? with
    | some x => if overAt l al i x then (i : Int) else overFrom l al n (i + 1)
    | none => -1
def over (l : List Fd) (al : List Al) : Int := overFrom l al l.length 0
theorem amounts_snoc {l : List Fd} {al : List Al} {f : Int} {k : Nat} {a : Al} (h : al[k]? = some a) : amounts l (al.take (k + 1)) f = amounts l (al.take k) f ++ (if (path l a.fund).contains f then [a.lien, a.spent] else []) := by
  have hk := (List.getElem?_eq_some_iff.1 h).1
  have he : al[k] = a := (List.getElem?_eq_some_iff.1 h).2
  unfold amounts
  rw [List.take_succ_eq_append_getElem hk, List.flatMap_append, he]
  simp
theorem foldF_small : ∀ (l : List Int) (s : Int), (∀ x ∈ l, 0 ≤ x) → 0 ≤ s → s + l.sum ≤ 1152921504606846976 → foldF (fun a b => a + b) s l = some (s + l.sum)
  | [], s, _, _, _ => by simp [foldF]
  | x :: l, s, h, hs, hm => by
    have hx := h x (by simp)
    have hl : 0 ≤ l.sum := by
      clear hm
      induction l with
      | nil => simp
      | cons y l ih =>
        rw [List.sum_cons]
        have := h y (by simp)
        have := ih fun z hz => h z (by rcases List.mem_cons.1 hz with rfl | hz <;> simp [*])
        omega
    rw [List.sum_cons] at hm ⊢
    have h1 : fitsB x = true := by rw [fitsB_iff]; omega
    have h2 : fitsB (s + x) = true := by rw [fitsB_iff]; omega
    simp only [foldF, h1, h2]
    simp
    rw [foldF_small l (s + x) (fun z hz => h z (by simp [hz])) (by omega) (by omega)]
    congr 1
    omega
theorem add_small {l : List Int} (h : ∀ x ∈ l, 0 ≤ x) (hm : l.sum ≤ 1152921504606846976) : addN l = l.sum ∧ addE l = 0 := by
  have := foldF_small l 0 h (Int.le_refl _) (by omega)
  rw [Int.zero_add] at this
  exact ⟨some_N this, some_E this⟩
end Go.Proofs.Ytpciijihedlheaa.Tre
