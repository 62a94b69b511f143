/- Ledger: accounts and legs as plain data: what is posted, and why not; that it comes to nothing; that it goes back. -/
import Derived.Test.YtmlbdmfmaebdeaaMonMath
import Derived.Test.YtmlbdmfmaebdeaaAlc
namespace Go.Proofs.Ytmlbdmfmaebdeaa.Led
open Mon
open Tre (Al)
set_option linter.unusedVariables false

structure Lg where
  acct : Int
  amt : Int
def three (a : Al) : List Int := [a.avail, a.lien, a.spent]
/-- All amounts, by their accounts' numbers. -/
def flatN (w : Int) (al : List Al) : List Int := w :: al.flatMap three
theorem flat_len (w : Int) : ∀ al : List Al, (flatN w al).length = 1 + 3 * al.length
  | [] => rfl
  | a :: al => by
    have ih := flat_len w al
    unfold flatN at ih ⊢
    simp only [List.length_cons, List.flatMap_cons, List.length_append, three, List.length_nil] at ih ⊢
    omega
theorem flat_snoc (w : Int) (al : List Al) (a : Al) : flatN w (al ++ [a]) = flatN w al ++ [a.avail] ++ [a.lien] ++ [a.spent] := by
  unfold flatN
  rw [List.flatMap_append]
  simp [three]
theorem flat_at0 (w : Int) (al : List Al) : (flatN w al)[0]? = some w := rfl
theorem flat_at : ∀ (al : List Al) (i : Nat) (a : Al) (w : Int), al[i]? = some a → (flatN w al)[1 + 3 * i]? = some a.avail ∧ (flatN w al)[2 + 3 * i]? = some a.lien ∧ (flatN w al)[3 + 3 * i]? = some a.spent
  | [], i, a, w, h => by simp at h
  | x :: al, 0, a, w, h => by
    simp at h; subst h
    exact ⟨rfl, rfl, rfl⟩
  | x :: al, i + 1, a, w, h => by
    rw [List.getElem?_cons_succ] at h
    obtain ⟨h1, h2, h3⟩ := flat_at al i a x.spent h
    have e : flatN w (x :: al) = w :: x.avail :: x.lien :: flatN x.spent al := rfl
    rw [e]
    refine ⟨?_, ?_, ?_⟩
    · rw [show 1 + 3 * (i + 1) = (1 + 3 * i) + 1 + 1 + 1 by omega]; simpa using h1
    · rw [show 2 + 3 * (i + 1) = (2 + 3 * i) + 1 + 1 + 1 by omega]; simpa using h2
    · rw [show 3 + 3 * (i + 1) = (3 + 3 * i) + 1 + 1 + 1 by omega]; simpa using h3

/-! ### Sums -/

theorem fold_iff : ∀ (l : List Int) (s t : Int), foldF (fun a b => a + b) s l = some t ↔ (∀ x ∈ l, fitsB x = true) ∧ (∀ k, k < l.length → fitsB (s + (l.take (k + 1)).sum) = true) ∧ t = s + l.sum
  | [], s, t => by
    simp [foldF]
    exact eq_comm
  | x :: l, s, t => by
    rw [foldF]
    constructor
    · intro h
      split at h
      · rename_i hc
        obtain ⟨h1, h2, h3⟩ := (fold_iff l (s + x) t).1 h
        refine ⟨fun y hy => ?_, fun k hk => ?_, ?_⟩
        · rcases List.mem_cons.1 hy with rfl | hy
          · exact hc.1
          · exact h1 y hy
        · cases k with
          | zero => simpa using hc.2
          | succ k =>
            have := h2 k (by simpa using hk)
            rw [List.take_succ_cons, List.sum_cons, ← Int.add_assoc]; exact this
        · rw [h3, List.sum_cons, Int.add_assoc]
      · cases h
    · rintro ⟨h1, h2, h3⟩
      have hc : fitsB x = true ∧ fitsB (s + x) = true := ⟨h1 x (by simp), by simpa using h2 0 (by simp)⟩
      rw [if_pos hc]
      refine (fold_iff l (s + x) t).2 ⟨fun y hy => h1 y (by simp [hy]), fun k hk => ?_, ?_⟩
      · have := h2 (k + 1) (by simpa using hk)
        rw [List.take_succ_cons, List.sum_cons, ← Int.add_assoc] at this
        exact this
      · rw [h3, List.sum_cons, Int.add_assoc]
theorem addE_iff {l : List Int} : addE l = 0 ↔ (∀ x ∈ l, fitsB x = true) ∧ ∀ k, k < l.length → fitsB (l.take (k + 1)).sum = true := by
  unfold addE addF
  have hi := fold_iff l 0
  cases h : foldF (fun a b => a + b) 0 l with
  | none =>
    constructor
    · intro h; cases h
    · rintro ⟨h1, h2⟩
      have := (hi (0 + l.sum)).2 ⟨h1, fun k hk => by rw [Int.zero_add]; exact h2 k hk, rfl⟩
      rw [h] at this; cases this
  | some t =>
    obtain ⟨h1, h2, _⟩ := (hi t).1 h
    exact ⟨fun _ => ⟨h1, fun k hk => by have := h2 k hk; rwa [Int.zero_add] at this⟩, fun _ => rfl⟩
theorem addN_sum {l : List Int} (h : addE l = 0) : addN l = l.sum := by
  unfold addE at h
  unfold addN
  unfold addF at h ⊢
  cases hf : foldF (fun a b => a + b) 0 l with
  | none => rw [hf] at h; cases h
  | some t =>
    obtain ⟨_, _, h3⟩ := (fold_iff l 0 t).1 hf
    rw [Int.zero_add] at h3
    exact h3
theorem addE_two (l : List Int) : addE l = 0 ∨ addE l = 2 := by
  unfold addE outE
  split
  · exact .inl rfl
  · exact .inr rfl
theorem addN_err {l : List Int} (h : ¬ addE l = 0) : addN l = 0 := by
  unfold addE outE at h
  unfold addN
  cases hf : addF l with
  | none => rfl
  | some t => rw [hf] at h; exact absurd rfl h

/-! ### Post -/

def scanE (n : Nat) : List Lg → Int
  | [] => 0
  | g :: l => if g.acct < 0 ∨ (n : Int) ≤ g.acct then 4 else if g.amt = 0 then 3 else scanE n l
def amts (legs : List Lg) : List Int := legs.map (·.amt)
def named (legs : List Lg) (k : Nat) : Bool := legs.any fun g => g.acct == (k : Int)
def of (legs : List Lg) (k : Nat) : List Int := (legs.filter fun g => g.acct == (k : Int)).map (·.amt)
def mine (fl : List Int) (legs : List Lg) (k : Nat) : List Int := fl.getD k 0 :: of legs k
def bad (k : Nat) (n : Int) : Bool := (k == 0 && decide (0 < n)) || (decide (0 < k) && decide (n < 0))
def acctE (fl : List Int) (legs : List Lg) (k : Nat) : Int := if named legs k then (if addE (mine fl legs k) ≠ 0 then addE (mine fl legs k) else if bad k (addN (mine fl legs k)) then 7 else 0) else 0
def acctN (fl : List Int) (legs : List Lg) (k : Nat) : Int := if named legs k then addN (mine fl legs k) else fl.getD k 0
/-- The first error of the accounts from k on. -/
def accsE (fl : List Int) (legs : List Lg) : Nat → Nat → Int
  | 0, _ => 0
  | n + 1, k => if acctE fl legs k ≠ 0 then acctE fl legs k else accsE fl legs n (k + 1)
def preE (n : Nat) (legs : List Lg) : Int :=
  if scanE n legs ≠ 0 then scanE n legs else if legs.length < 1 ∨ 64 < legs.length then 3 else if addE (amts legs) ≠ 0 then addE (amts legs) else if addN (amts legs) ≠ 0 then 3 else 0
def postE (w : Int) (al : List Al) (legs : List Lg) : Int :=
  if preE (1 + 3 * al.length) legs ≠ 0 then preE (1 + 3 * al.length) legs else accsE (flatN w al) legs (1 + 3 * al.length) 0
def postF (w : Int) (al : List Al) (legs : List Lg) : List Int := (List.range (1 + 3 * al.length)).map (acctN (flatN w al) legs)
def setOne (F : List Int) (a : Al) (i : Nat) : Al := { a with avail := F.getD (1 + 3 * i) 0, lien := F.getD (2 + 3 * i) 0, spent := F.getD (3 + 3 * i) 0 }
def setFrom (F : List Int) : Nat → List Al → List Al
  | _, [] => []
  | i, a :: al => setOne F a i :: setFrom F (i + 1) al
def setA (F : List Int) (al : List Al) : List Al := setFrom F 0 al
def postW (w : Int) (al : List Al) (legs : List Lg) : Int := if postE w al legs = 0 then (postF w al legs).getD 0 0 else 0
def postA (w : Int) (al : List Al) (legs : List Lg) : List Al := if postE w al legs = 0 then setA (postF w al legs) al else []

theorem postW_ok {w : Int} {al : List Al} {legs : List Lg} (h : postE w al legs = 0) : postW w al legs = (postF w al legs).getD 0 0 := by unfold postW; rw [if_pos h]
theorem postA_ok {w : Int} {al : List Al} {legs : List Lg} (h : postE w al legs = 0) : postA w al legs = setA (postF w al legs) al := by unfold postA; rw [if_pos h]
theorem postW_no {w : Int} {al : List Al} {legs : List Lg} (h : ¬ postE w al legs = 0) : postW w al legs = 0 := by unfold postW; rw [if_neg h]
theorem postA_no {w : Int} {al : List Al} {legs : List Lg} (h : ¬ postE w al legs = 0) : postA w al legs = [] := by unfold postA; rw [if_neg h]
theorem setFrom_len (F : List Int) : ∀ (al : List Al) (i : Nat), (setFrom F i al).length = al.length
  | [], _ => rfl
  | a :: al, i => by simp [setFrom, setFrom_len F al (i + 1)]
theorem setA_len (F : List Int) (al : List Al) : (setA F al).length = al.length := setFrom_len F al 0
theorem setFrom_at (F : List Int) : ∀ (al : List Al) (i j : Nat) (a : Al), al[j]? = some a → (setFrom F i al)[j]? = some (setOne F a (i + j))
  | [], i, j, a, h => by simp at h
  | x :: al, i, 0, a, h => by
    simp at h; subst h; rfl
  | x :: al, i, j + 1, a, h => by
    rw [List.getElem?_cons_succ] at h
    have := setFrom_at F al (i + 1) j a h
    rw [setFrom, List.getElem?_cons_succ, this, show i + 1 + j = i + (j + 1) by omega]
theorem setA_at {F : List Int} {al : List Al} {j : Nat} {a : Al} (h : al[j]? = some a) : (setA F al)[j]? = some (setOne F a j) := by
  have := setFrom_at F al 0 j a h
  rwa [Nat.zero_add] at this
theorem postF_len (w : Int) (al : List Al) (legs : List Lg) : (postF w al legs).length = 1 + 3 * al.length := by simp [postF]
theorem postF_at (w : Int) (al : List Al) (legs : List Lg) {k : Nat} (h : k < 1 + 3 * al.length) : (postF w al legs)[k]? = some (acctN (flatN w al) legs k) := by
  simp [postF, h]
theorem list_ext {l k : List Int} (hl : l.length = k.length) (h : ∀ (i : Nat) (x : Int), l[i]? = some x → k[i]? = some x) : l = k := by
  apply List.ext_getElem?
  intro i
  cases hx : l[i]? with
  | some x => exact (h i x hx).symm
  | none =>
    rw [List.getElem?_eq_none_iff] at hx
    rw [List.getElem?_eq_none (by omega)]
theorem getD_at {l : List Int} {i : Nat} {x : Int} (h : l[i]? = some x) : l.getD i 0 = x := by simp [List.getD, h]
theorem flat_cases {al : List Al} {w : Int} {k : Nat} (h : k < 1 + 3 * al.length) : k = 0 ∨ ∃ i a, i < al.length ∧ al[i]? = some a ∧ (k = 1 + 3 * i ∨ k = 2 + 3 * i ∨ k = 3 + 3 * i) := by
  rcases Nat.eq_zero_or_pos k with h0 | h0
  · exact .inl h0
  · refine .inr ⟨(k - 1) / 3, _, by omega, List.getElem?_eq_getElem (by omega), by omega⟩
/-- Amounts that were set are those that there are. -/
theorem flat_setA {F : List Int} {al : List Al} (hF : F.length = 1 + 3 * al.length) : flatN (F.getD 0 0) (setA F al) = F := by
  symm
  apply list_ext
  · rw [hF, flat_len, setA_len]
  · intro k x hx
    have hk := (List.getElem?_eq_some_iff.1 hx).1
    rcases flat_cases (w := 0) (show k < 1 + 3 * al.length by omega) with rfl | ⟨i, a, hi, ha, hc⟩
    · rw [flat_at0, getD_at hx]
    · obtain ⟨g1, g2, g3⟩ := flat_at (setA F al) i (setOne F a i) (F.getD 0 0) (setA_at ha)
      rcases hc with rfl | rfl | rfl
      · rw [g1]; exact congrArg some (getD_at hx)
      · rw [g2]; exact congrArg some (getD_at hx)
      · rw [g3]; exact congrArg some (getD_at hx)
theorem setA_flat {w : Int} {al : List Al} : setA (flatN w al) al = al := by
  apply List.ext_getElem?
  intro j
  cases ha : al[j]? with
  | none =>
    rw [List.getElem?_eq_none_iff] at ha
    rw [List.getElem?_eq_none (by rw [setA_len]; exact ha)]
  | some a =>
    rw [setA_at ha]
    obtain ⟨g1, g2, g3⟩ := flat_at al j a w ha
    unfold setOne
    rw [getD_at g1, getD_at g2, getD_at g3]
theorem setA_setA {F G : List Int} {al : List Al} : setA G (setA F al) = setA G al := by
  apply List.ext_getElem?
  intro j
  cases ha : al[j]? with
  | none =>
    rw [List.getElem?_eq_none_iff] at ha
    rw [List.getElem?_eq_none (by rw [setA_len, setA_len]; exact ha), List.getElem?_eq_none (by rw [setA_len]; exact ha)]
  | some a => rw [setA_at (setA_at ha), setA_at ha]; rfl

/-! ### What holds of what was posted -/

theorem scan_iff {n : Nat} : ∀ {legs : List Lg}, scanE n legs = 0 ↔ ∀ g ∈ legs, 0 ≤ g.acct ∧ g.acct < (n : Int) ∧ g.amt ≠ 0
  | [] => by simp [scanE]
  | g :: l => by
    have ih := @scan_iff n l
    rw [scanE]
    by_cases h1 : g.acct < 0 ∨ (n : Int) ≤ g.acct
    · rw [if_pos h1]
      constructor
      · intro h; cases h
      · intro h
        obtain ⟨h2, h3, _⟩ := h g (by simp)
        omega
    · rw [if_neg h1]
      by_cases h2 : g.amt = 0
      · rw [if_pos h2]
        constructor
        · intro h; cases h
        · intro h; exact absurd h2 (h g (by simp)).2.2
      · rw [if_neg h2, ih]
        constructor
        · intro h x hx
          rcases List.mem_cons.1 hx with rfl | hx
          · exact ⟨by omega, by omega, h2⟩
          · exact h x hx
        · intro h x hx
          exact h x (by simp [hx])
theorem accs_iff {fl : List Int} {legs : List Lg} : ∀ {n k : Nat}, accsE fl legs n k = 0 ↔ ∀ j, k ≤ j → j < k + n → acctE fl legs j = 0
  | 0, k => by
    simp only [accsE]
    exact ⟨fun _ j h1 h2 => by omega, fun _ => trivial⟩
  | n + 1, k => by
    have ih := @accs_iff fl legs n (k + 1)
    rw [accsE]
    by_cases h : acctE fl legs k = 0
    · rw [if_neg (by simpa using h), ih]
      constructor
      · intro h2 j h3 h4
        by_cases hj : j = k
        · rw [hj]; exact h
        · exact h2 j (by omega) (by omega)
      · intro h2 j h3 h4
        exact h2 j (by omega) (by omega)
    · rw [if_pos h]
      constructor
      · intro h2; exact absurd h2 h
      · intro h2; exact absurd (h2 k (by omega) (by omega)) h
theorem pre_iff {n : Nat} {legs : List Lg} : preE n legs = 0 ↔ (∀ g ∈ legs, 0 ≤ g.acct ∧ g.acct < (n : Int) ∧ g.amt ≠ 0) ∧ 1 ≤ legs.length ∧ legs.length ≤ 64 ∧ addE (amts legs) = 0 ∧ (amts legs).sum = 0 := by
  unfold preE
  by_cases h1 : scanE n legs = 0
  · rw [if_neg (by simpa using h1)]
    have h1' := scan_iff.1 h1
    by_cases h2 : legs.length < 1 ∨ 64 < legs.length
    · rw [if_pos h2]
      exact ⟨(fun h => by cases h), fun h => by omega⟩
    · rw [if_neg h2]
      by_cases h3 : addE (amts legs) = 0
      · rw [if_neg (by simpa using h3)]
        have h4 := addN_sum h3
        by_cases h5 : addN (amts legs) = 0
        · rw [if_neg (by simpa using h5)]
          exact ⟨fun _ => ⟨h1', by omega, by omega, h3, by rw [← h4]; exact h5⟩, fun _ => rfl⟩
        · rw [if_pos h5]
          exact ⟨(fun h => by cases h), fun h => absurd (h4.trans h.2.2.2.2) h5⟩
      · rw [if_pos h3]
        exact ⟨fun h => absurd h h3, fun h => absurd h.2.2.2.1 h3⟩
  · rw [if_pos h1]
    exact ⟨fun h => absurd h h1, fun h => absurd (scan_iff.2 h.1) h1⟩
theorem post_iff {w : Int} {al : List Al} {legs : List Lg} : postE w al legs = 0 ↔ preE (1 + 3 * al.length) legs = 0 ∧ ∀ k, k < 1 + 3 * al.length → acctE (flatN w al) legs k = 0 := by
  unfold postE
  by_cases h : preE (1 + 3 * al.length) legs = 0
  · rw [if_neg (by simpa using h), accs_iff]
    exact ⟨fun h2 => ⟨h, fun k hk => h2 k (Nat.zero_le _) (by omega)⟩, fun h2 k _ hk => h2.2 k (by omega)⟩
  · rw [if_pos h]
    exact ⟨fun h2 => absurd h2 h, fun h2 => absurd h2.1 h⟩
theorem of_nil {legs : List Lg} {k : Nat} (h : named legs k = false) : of legs k = [] := by
  unfold of
  unfold named at h
  rw [List.filter_eq_nil_iff.2 (fun g hg => by
    have := List.any_eq_false.1 h g hg
    simpa using this)]
  rfl
theorem named_of {legs : List Lg} {k : Nat} (h : named legs k = true) : 1 ≤ (of legs k).length := by
  unfold named at h
  obtain ⟨g, hg, he⟩ := List.any_eq_true.1 h
  unfold of
  rw [List.length_map]
  exact List.length_pos_of_mem (List.mem_filter.2 ⟨hg, he⟩)
/-- An account behind it: what it had, and what its legs come to. -/
theorem acct_sum {fl : List Int} {legs : List Lg} {k : Nat} (h : acctE fl legs k = 0) : acctN fl legs k = fl.getD k 0 + (of legs k).sum := by
  unfold acctE at h
  unfold acctN
  by_cases hn : named legs k = true
  · rw [if_pos hn] at h ⊢
    by_cases he : addE (mine fl legs k) = 0
    · rw [addN_sum he]; rfl
    · rw [if_pos he] at h; exact absurd h he
  · rw [if_neg hn, of_nil (by simpa using hn)]; simp
theorem sum_range_of : ∀ (legs : List Lg) (n : Nat), (∀ g ∈ legs, 0 ≤ g.acct ∧ g.acct < (n : Int)) → ((List.range n).map fun k => (of legs k).sum).sum = (amts legs).sum
  | [], n, _ => by
    have : ∀ n : Nat, ((List.range n).map fun k => (of [] k).sum).sum = 0 := by
      intro n
      induction n with
      | zero => rfl
      | succ n ih => rw [List.range_succ, List.map_append, List.sum_append, ih]; rfl
    exact this n
  | g :: l, n, h => by
    have ih := sum_range_of l n fun x hx => h x (by simp [hx])
    obtain ⟨h1, h2⟩ := h g (by simp)
    have key : ∀ m : Nat, ((List.range m).map fun k => (of (g :: l) k).sum).sum = ((List.range m).map fun k => (of l k).sum).sum + if g.acct < (m : Int) then g.amt else 0 := by
      intro m
      induction m with
      | zero =>
        rw [if_neg (by omega)]; rfl
      | succ m ihm =>
        rw [List.range_succ, List.map_append, List.sum_append, List.map_append, List.sum_append, ihm]
        have e : (of (g :: l) m).sum = (if g.acct = (m : Int) then g.amt else 0) + (of l m).sum := by
          unfold of
          rw [List.filter_cons]
          by_cases hg : g.acct = (m : Int)
          · rw [if_pos (by simpa using hg), if_pos hg]; simp
          · rw [if_neg (by simpa using hg), if_neg hg]; simp
        simp only [List.map_cons, List.map_nil, List.sum_cons, List.sum_nil]
        rw [e]
        by_cases ha : g.acct < (m : Int)
        · rw [if_pos ha, if_neg (by omega), if_pos (by omega)]; omega
        · by_cases hb : g.acct = (m : Int)
          · rw [if_neg ha, if_pos hb, if_pos (by omega)]; omega
          · rw [if_neg ha, if_neg hb, if_neg (by omega)]; omega
    rw [key n, ih, if_pos h2]
    show _ = (g.amt :: amts l).sum
    rw [List.sum_cons]; omega
theorem sum_range_getD : ∀ (l : List Int), ((List.range l.length).map fun k => l.getD k 0).sum = l.sum := by
  intro l
  have : ((List.range l.length).map fun k => l.getD k 0) = l := by
    apply List.ext_getElem?
    intro i
    by_cases h : i < l.length
    · simp [h, List.getD]
    · rw [List.getElem?_eq_none (by simpa using h), List.getElem?_eq_none (by omega)]
  rw [this]
theorem sum_map_add {α : Type} (f g : α → Int) : ∀ l : List α, (l.map fun x => f x + g x).sum = (l.map f).sum + (l.map g).sum
  | [] => rfl
  | x :: l => by
    simp only [List.map_cons, List.sum_cons]
    rw [sum_map_add f g l]; omega
/-- All accounts together have what they had. -/
theorem post_zero {w : Int} {al : List Al} {legs : List Lg} (h : postE w al legs = 0) : (postF w al legs).sum = (flatN w al).sum := by
  obtain ⟨h1, h2⟩ := post_iff.1 h
  obtain ⟨h3, _, _, _, h7⟩ := pre_iff.1 h1
  have e : postF w al legs = (List.range (1 + 3 * al.length)).map fun k => (flatN w al).getD k 0 + (of legs k).sum := by
    unfold postF
    apply List.map_congr_left
    intro k hk
    exact acct_sum (h2 k (List.mem_range.1 hk))
  rw [e, sum_map_add, ← flat_len w al, sum_range_getD, sum_range_of _ _ (fun g hg => ⟨(h3 g hg).1, by rw [flat_len]; exact (h3 g hg).2.1⟩), h7]
  omega
/-- What was named has its sign; what was not is as it was. -/
theorem post_acct {w : Int} {al : List Al} {legs : List Lg} (h : postE w al legs = 0) {k : Nat} (hk : k < 1 + 3 * al.length) :
    (named legs k = false → acctN (flatN w al) legs k = (flatN w al).getD k 0) ∧ (named legs k = true → bad k (acctN (flatN w al) legs k) = false) := by
  have h2 := (post_iff.1 h).2 k hk
  constructor
  · intro hn
    unfold acctN
    rw [hn]; rfl
  · intro hn
    unfold acctE at h2
    unfold acctN
    rw [hn] at h2 ⊢
    simp only [if_true] at h2 ⊢
    by_cases he : addE (mine (flatN w al) legs k) = 0
    · rw [if_neg (by simpa using he)] at h2
      cases hb : bad k (addN (mine (flatN w al) legs k)) with
      | false => rfl
      | true => rw [hb] at h2; cases h2
    · rw [if_pos he] at h2
      exact absurd h2 he
end Go.Proofs.Ytmlbdmfmaebdeaa.Led
