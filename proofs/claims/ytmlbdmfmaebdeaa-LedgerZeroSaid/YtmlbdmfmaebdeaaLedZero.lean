/- Ledger: LedgerZero, over any ledger that does as it should. -/
import Derived.Test.YtmlbdmfmaebdeaaLedLaw
namespace Go.Proofs.Ytmlbdmfmaebdeaa.Led
set_option maxRecDepth 100000
open Go.RowKit
open Go.Sort
open Kit
open Mon
open Tre
set_option linter.unusedVariables false
variable {w w' : World}

theorem inI_of_nat {k : Nat} (h : k ≤ 1000000) : inI (k : Int) := by unfold inI; omega
theorem inI_fits {n : Int} (h : fitsB n = true) : inI n := by
  rw [fitsB_iff] at h
  unfold inI; omega
theorem flat_in {wd : Int} {al : List Al} (hw : inI wd) (hok : ∀ x ∈ al, x.ok) {k : Nat} (hk : k < 1 + 3 * al.length) : inI ((flatN wd al).getD k 0) := by
  rcases flat_cases (w := wd) hk with rfl | ⟨i, a, hi, ha, hc⟩
  · rw [getD_at (flat_at0 wd al)]; exact hw
  · obtain ⟨_, _, _, h4, h5, h6⟩ := hok a (List.mem_of_getElem? ha)
    obtain ⟨g1, g2, g3⟩ := flat_at al i a wd ha
    rcases hc with rfl | rfl | rfl
    · rw [getD_at g1]; exact h4
    · rw [getD_at g2]; exact h5
    · rw [getD_at g3]; exact h6
theorem post_in {wd : Int} {al : List Al} {legs : List Lg} (h : postE wd al legs = 0) (hw : inI wd) (hok : ∀ x ∈ al, x.ok) {k : Nat} (hk : k < 1 + 3 * al.length) : inI (acctN (flatN wd al) legs k) := by
  have hE := (post_iff.1 h).2 k hk
  cases hn : named legs k with
  | false => rw [(acct_un hn).2]; exact flat_in hw hok hk
  | true =>
    obtain ⟨u1, u2, u3, u4⟩ := acct_cases (fl := flatN wd al) hn
    rw [u4]
    by_cases he : addE (mine (flatN wd al) legs k) = 0
    · rw [addN_sum he]
      have := (addE_iff.1 he).2 ((mine (flatN wd al) legs k).length - 1) (by unfold mine; simp)
      rw [List.take_of_length_le (by omega)] at this
      exact inI_fits this
    · rw [addN_err he]; exact inI_small (by omega)
theorem post_ok {wd : Int} {al : List Al} {legs : List Lg} (h : postE wd al legs = 0) (hw : inI wd) (hok : ∀ x ∈ al, x.ok) : inI (postW wd al legs) ∧ ∀ x ∈ postA wd al legs, x.ok := by
  have hF : ∀ k, k < 1 + 3 * al.length → (postF wd al legs).getD k 0 = acctN (flatN wd al) legs k := fun k hk => getD_at (postF_at wd al legs hk)
  refine ⟨by rw [postW_ok h, hF 0 (by omega)]; exact post_in h hw hok (by omega), fun x hx => ?_⟩
  rw [postA_ok h] at hx
  obtain ⟨j, hj, rfl⟩ := List.getElem_of_mem hx
  have hja : j < al.length := by rwa [setA_len] at hj
  have e := setA_at (F := postF wd al legs) (List.getElem?_eq_getElem hja)
  rw [(List.getElem?_eq_some_iff.1 e).2]
  obtain ⟨h1, h2, h3, _, _, _⟩ := hok _ (List.getElem_mem hja)
  refine ⟨h1, h2, h3, ?_, ?_, ?_⟩
  · show inI ((postF wd al legs).getD (1 + 3 * j) 0)
    rw [hF _ (by omega)]; exact post_in h hw hok (by omega)
  · show inI ((postF wd al legs).getD (2 + 3 * j) 0)
    rw [hF _ (by omega)]; exact post_in h hw hok (by omega)
  · show inI ((postF wd al legs).getD (3 + 3 * j) 0)
    rw [hF _ (by omega)]; exact post_in h hw hok (by omega)
/-- The flat amounts behind it. -/
theorem post_flat {wd : Int} {al : List Al} {legs : List Lg} (h : postE wd al legs = 0) : flatN (postW wd al legs) (postA wd al legs) = postF wd al legs := by
  rw [postW_ok h, postA_ok h]
  exact flat_setA (postF_len wd al legs)
theorem wrap_add (x y : Int) : wrap64 (wrap64 x + y) = wrap64 (x + y) := by unfold wrap64; omega
theorem sum_take {l : List Int} {k : Nat} {y : Int} (h : l[k]? = some y) : (l.take (k + 1)).sum = (l.take k).sum + y := by
  have hk := (List.getElem?_eq_some_iff.1 h).1
  have he := (List.getElem?_eq_some_iff.1 h).2
  rw [List.take_succ_eq_append_getElem hk, he, List.sum_append]; simp
theorem named_take {legs : List Lg} {q k : Nat} {g : Lg} (h : legs[q]? = some g) : named (legs.take (q + 1)) k = (named (legs.take q) k || g.acct == (k : Int)) := by
  have hq := (List.getElem?_eq_some_iff.1 h).1
  have he := (List.getElem?_eq_some_iff.1 h).2
  unfold named
  rw [List.take_succ_eq_append_getElem hq, he, List.any_append]; simp
end Go.Proofs.Ytmlbdmfmaebdeaa.Led
