/- Ledger: legs one by one, the first error of all; amounts of which the first ones are set. -/
import Derived.Test.YtmlbdmfmaebdeaaLedMem
import Derived.Test.YtmlbdmfmaebdeaaPut
namespace Go.Proofs.Ytmlbdmfmaebdeaa.Led
set_option maxRecDepth 100000
open Go.RowKit
open Go.Sort
open Kit
open Mon
open Tre
set_option linter.unusedVariables false
variable {w w' : World}

theorem scan_append {n : Nat} : ∀ {l1 l2 : List Lg}, scanE n l1 = 0 → scanE n (l1 ++ l2) = scanE n l2
  | [], _, _ => rfl
  | g :: l1, l2, h => by
    rw [scanE] at h
    rw [List.cons_append, scanE]
    by_cases h1 : g.acct < 0 ∨ (n : Int) ≤ g.acct
    · rw [if_pos h1] at h; cases h
    · rw [if_neg h1] at h ⊢
      by_cases h2 : g.amt = 0
      · rw [if_pos h2] at h; cases h
      · rw [if_neg h2] at h ⊢
        exact scan_append h
theorem scan_at {n k : Nat} {legs : List Lg} {g : Lg} (h : scanE n (legs.take k) = 0) (hg : legs[k]? = some g) :
    (g.acct < 0 ∨ (n : Int) ≤ g.acct → scanE n legs = 4) ∧ (¬ (g.acct < 0 ∨ (n : Int) ≤ g.acct) → g.amt = 0 → scanE n legs = 3) ∧ (¬ (g.acct < 0 ∨ (n : Int) ≤ g.acct) → ¬ g.amt = 0 → scanE n (legs.take (k + 1)) = 0) := by
  have hk := (List.getElem?_eq_some_iff.1 hg).1
  have he := (List.getElem?_eq_some_iff.1 hg).2
  have e1 : scanE n legs = scanE n (g :: legs.drop (k + 1)) := by
    conv => lhs; rw [← List.take_append_drop k legs]
    rw [scan_append h, List.drop_eq_getElem_cons hk, he]
  have e2 : scanE n (legs.take (k + 1)) = scanE n [g] := by
    rw [List.take_succ_eq_append_getElem hk, he, scan_append h]
  refine ⟨fun h1 => ?_, fun h1 h2 => ?_, fun h1 h2 => ?_⟩
  · rw [e1, scanE, if_pos h1]
  · rw [e1, scanE, if_neg h1, if_pos h2]
  · rw [e2, scanE, if_neg h1, if_neg h2]; rfl
theorem pre_scan {n : Nat} {legs : List Lg} {e : Int} (h : scanE n legs = e) (he : e ≠ 0) : preE n legs = e := by
  unfold preE; rw [h, if_pos he]
theorem post_pre {w : Int} {al : List Al} {legs : List Lg} {e : Int} (h : preE (1 + 3 * al.length) legs = e) (he : e ≠ 0) : postE w al legs = e := by
  unfold postE; rw [h, if_pos he]
theorem amts_take {legs : List Lg} {k : Nat} {g : Lg} (h : legs[k]? = some g) : amts (legs.take (k + 1)) = amts (legs.take k) ++ [g.amt] := by
  have hk := (List.getElem?_eq_some_iff.1 h).1
  have he := (List.getElem?_eq_some_iff.1 h).2
  unfold amts
  rw [List.take_succ_eq_append_getElem hk, he, List.map_append]; rfl
/-- A refusal. -/
def Refused (w : Int) (al : List Al) (legs : List Lg) (e : Int) : Prop := postW w al legs = 0 ∧ postA w al legs = [] ∧ postE w al legs = e
theorem refused {w : Int} {al : List Al} {legs : List Lg} {e : Int} (h : postE w al legs = e) (he : e ≠ 0) : Refused w al legs e :=
  ⟨postW_no (by rw [h]; exact he), postA_no (by rw [h]; exact he), h⟩
theorem out_none (w : World) (base : Nat) : OutA w base (.slice none 0 0) [] := .inl (owns_nil _ _ _)

theorem pre_many {n : Nat} {legs : List Lg} (h : scanE n legs = 0) (h2 : legs.length < 1 ∨ 64 < legs.length) : preE n legs = 3 := by
  unfold preE; rw [h, if_neg (by decide), if_pos h2]
theorem pre_add {n : Nat} {legs : List Lg} (h : scanE n legs = 0) (h2 : ¬ (legs.length < 1 ∨ 64 < legs.length)) (h3 : addE (amts legs) ≠ 0) : preE n legs = 2 := by
  unfold preE; rw [h, if_neg (by decide), if_neg h2, if_pos h3]
  rcases addE_two (amts legs) with h | h
  · exact absurd h h3
  · exact h
theorem pre_sum {n : Nat} {legs : List Lg} (h : scanE n legs = 0) (h2 : ¬ (legs.length < 1 ∨ 64 < legs.length)) (h3 : addE (amts legs) = 0) (h4 : addN (amts legs) ≠ 0) : preE n legs = 3 := by
  unfold preE; rw [h, if_neg (by decide), if_neg h2, h3, if_neg (by decide), if_pos h4]
theorem pre_ok {n : Nat} {legs : List Lg} (h : scanE n legs = 0) (h2 : ¬ (legs.length < 1 ∨ 64 < legs.length)) (h3 : addE (amts legs) = 0) (h4 : addN (amts legs) = 0) : preE n legs = 0 := by
  unfold preE; rw [h, if_neg (by decide), if_neg h2, h3, if_neg (by decide), h4, if_neg (by decide)]
theorem accs_first {fl : List Int} {legs : List Lg} {e : Int} (he : e ≠ 0) : ∀ (n i k : Nat), (∀ j, i ≤ j → j < k → acctE fl legs j = 0) → acctE fl legs k = e → i ≤ k → k < i + n → accsE fl legs n i = e
  | 0, i, k, _, _, h1, h2 => by omega
  | n + 1, i, k, hz, hk, h1, h2 => by
    rw [accsE]
    by_cases hi : i = k
    · subst hi
      rw [hk, if_pos he]
    · rw [hz i (Nat.le_refl _) (by omega), if_neg (by decide)]
      exact accs_first he n (i + 1) k (fun j h3 h4 => hz j (by omega) h4) hk (by omega) (by omega)
theorem post_first {w : Int} {al : List Al} {legs : List Lg} {k : Nat} {e : Int} (hp : preE (1 + 3 * al.length) legs = 0) (hz : ∀ j, j < k → acctE (flatN w al) legs j = 0) (hk : acctE (flatN w al) legs k = e) (he : e ≠ 0) (hlt : k < 1 + 3 * al.length) : postE w al legs = e := by
  unfold postE
  rw [hp, if_neg (by decide)]
  exact accs_first he _ 0 k (fun j _ h => hz j h) hk (Nat.zero_le _) (by omega)
/-- The amounts, the first k of them set. -/
def part {α : Type} (F fl : List α) (k : Nat) : List α := F.take k ++ fl.drop k
theorem part_zero {α : Type} (F fl : List α) : part F fl 0 = fl := rfl
theorem part_all {α : Type} {F fl : List α} {m : Nat} (h1 : F.length = m) (h2 : fl.length = m) : part F fl m = F := by
  unfold part
  rw [List.take_of_length_le (by omega), List.drop_eq_nil_of_le (by omega), List.append_nil]
theorem part_len {α : Type} {F fl : List α} {m k : Nat} (h1 : F.length = m) (h2 : fl.length = m) (hk : k ≤ m) : (part F fl k).length = m := by
  unfold part
  rw [List.length_append, List.length_take, List.length_drop]; omega
theorem part_at {α : Type} {F fl : List α} {m k : Nat} (h1 : F.length = m) (hk : k < m) {y : α} (hy : fl[k]? = some y) : (part F fl k)[k]? = some y := by
  unfold part
  rw [List.getElem?_append_right (by rw [List.length_take]; omega), List.length_take, List.getElem?_drop, show k + (k - min k F.length) = k by omega]
  exact hy
theorem part_set {α : Type} {F fl : List α} {m k : Nat} (h1 : F.length = m) (h2 : fl.length = m) (hk : k < m) {x : α} (hx : F[k]? = some x) : (part F fl k).set k x = part F fl (k + 1) := by
  have hF : k < F.length := by omega
  have hf : k < fl.length := by omega
  have hxe : F[k] = x := (List.getElem?_eq_some_iff.1 hx).2
  unfold part
  rw [List.set_append, if_neg (by rw [List.length_take]; omega), List.length_take, show k - min k F.length = 0 by omega, List.take_succ_eq_append_getElem hF, hxe, List.drop_eq_getElem_cons hf, List.set_cons_zero, List.append_assoc]
  rfl
theorem part_same {α : Type} {F fl : List α} {m k : Nat} (h1 : F.length = m) (h2 : fl.length = m) (hk : k < m) {x : α} (hx : F[k]? = some x) (hy : fl[k]? = some x) : part F fl (k + 1) = part F fl k := by
  rw [← part_set h1 h2 hk hx]
  apply List.ext_getElem?
  intro i
  rw [List.getElem?_set]
  split
  · rename_i e
    subst e
    rw [part_at h1 hk hy, if_pos (by rw [part_len h1 h2 (by omega)]; exact hk)]
  · rfl
theorem of_take {legs : List Lg} {k q : Nat} {g : Lg} (h : legs[q]? = some g) : of (legs.take (q + 1)) k = of (legs.take q) k ++ (if g.acct = (k : Int) then [g.amt] else []) := by
  have hq := (List.getElem?_eq_some_iff.1 h).1
  have he := (List.getElem?_eq_some_iff.1 h).2
  unfold of
  rw [List.take_succ_eq_append_getElem hq, he, List.filter_append, List.map_append]
  by_cases hg : g.acct = (k : Int)
  · rw [if_pos hg]; simp [hg]
  · rw [if_neg hg]; simp [hg]
theorem of_len (legs : List Lg) (k : Nat) : (of legs k).length ≤ legs.length := by
  unfold of
  rw [List.length_map]
  exact List.length_filter_le _ _
theorem acct_cases {fl : List Int} {legs : List Lg} {k : Nat} (hn : named legs k = true) : (addE (mine fl legs k) ≠ 0 → acctE fl legs k = 2) ∧ (addE (mine fl legs k) = 0 → bad k (addN (mine fl legs k)) = true → acctE fl legs k = 7) ∧ (addE (mine fl legs k) = 0 → bad k (addN (mine fl legs k)) = false → acctE fl legs k = 0) ∧ acctN fl legs k = addN (mine fl legs k) := by
  unfold acctE acctN
  rw [if_pos hn, if_pos hn]
  refine ⟨fun h => ?_, fun h h2 => ?_, fun h h2 => ?_, rfl⟩
  · rw [if_pos h]
    rcases addE_two (mine fl legs k) with h3 | h3
    · exact absurd h3 h
    · exact h3
  · rw [if_neg (by simpa using h), if_pos h2]
  · rw [if_neg (by simpa using h), if_neg (by rw [h2]; exact Bool.false_ne_true)]
theorem acct_un {fl : List Int} {legs : List Lg} {k : Nat} (hn : named legs k = false) : acctE fl legs k = 0 ∧ acctN fl legs k = fl.getD k 0 := by
  unfold acctE acctN
  rw [hn]; exact ⟨rfl, rfl⟩
end Go.Proofs.Ytmlbdmfmaebdeaa.Led
