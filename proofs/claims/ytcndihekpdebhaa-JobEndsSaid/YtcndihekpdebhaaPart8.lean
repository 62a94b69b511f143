/- Common to the claims of this seat, part 8: texts that were written one by one, laid behind one another. -/
import Derived.Shelf.SlSortCmp.InsertionK
import Derived.Test.YtcndihekpdebhaaPart5
/- A stable sort: insertion asks only how what moves stands to what lay ahead of it (mathematics). -/
namespace Go.Proofs.Ytcndihekpdebhaa.Stb
set_option maxRecDepth 100000
open Go.Shelf Go.RowKit Go.Lib Go.Sort
set_option linter.unusedVariables false
variable {α : Type} [Inhabited α]

theorem inner_congr (lt1 lt2 : α → α → Bool) (a : Nat) : ∀ (j : Nat) (d : Array α), j < d.size → (∀ p, a ≤ p → p < j → lt1 d[j]! d[p]! = lt2 d[j]! d[p]!) → insInner lt1 a j d = insInner lt2 a j d
  | 0, d, _, _ => rfl
  | j + 1, d, hj, h => by
    rw [insInner, insInner]
    by_cases ha : a ≤ j
    · rw [h j ha (by omega)]
      by_cases hc : (decide (j + 1 > a) && lt2 d[j + 1]! d[j]!) = true
      · rw [if_pos hc, if_pos hc]
        have g := swp_get d hj (show j < d.size by omega)
        refine inner_congr lt1 lt2 a j (swp d (j + 1) j) (by rw [swp_size]; omega) fun p hap hp => ?_
        rw [g j, g p, if_pos rfl, if_neg (by omega), if_neg (by omega)]
        exact h p hap (by omega)
      · rw [if_neg hc, if_neg hc]
    · rw [if_neg (by simp; omega), if_neg (by simp; omega)]
theorem inner_at (lt : α → α → Bool) (a : Nat) : ∀ (j : Nat) (d : Array α), a ≤ j → j < d.size → (insInner lt a j d).size = d.size ∧ (∀ q, j < q → (insInner lt a j d)[q]! = d[q]!) ∧ ∀ p, a ≤ p → p ≤ j → ∃ p', a ≤ p' ∧ p' ≤ j ∧ (insInner lt a j d)[p]! = d[p']!
  | 0, d, _, _ => ⟨rfl, fun _ _ => rfl, fun p ha hp => ⟨p, ha, hp, rfl⟩⟩
  | j + 1, d, haj, hj => by
    rw [insInner]
    by_cases hc : (decide (j + 1 > a) && lt d[j + 1]! d[j]!) = true
    · rw [if_pos hc]
      have hlt : a ≤ j := by simp at hc; omega
      have g := swp_get d hj (show j < d.size by omega)
      obtain ⟨h1, h2, h3⟩ := inner_at lt a j (swp d (j + 1) j) hlt (by rw [swp_size]; omega)
      refine ⟨by rw [h1, swp_size], fun q hq => ?_, fun p hap hp => ?_⟩
      · rw [h2 q (by omega), g q, if_neg (by omega), if_neg (by omega)]
      · by_cases hpj : p ≤ j
        · obtain ⟨p', ha', hp', e⟩ := h3 p hap hpj
          rw [e, g p']
          by_cases e1 : p' = j
          · rw [if_pos e1]; exact ⟨j + 1, by omega, Nat.le_refl _, rfl⟩
          · rw [if_neg e1, if_neg (by omega)]; exact ⟨p', ha', by omega, rfl⟩
        · obtain rfl : p = j + 1 := by omega
          rw [h2 (j + 1) (by omega), g (j + 1), if_neg (by omega), if_pos rfl]
          exact ⟨j, hlt, by omega, rfl⟩
    · rw [if_neg hc]
      exact ⟨rfl, fun _ _ => rfl, fun p ha hp => ⟨p, ha, hp, rfl⟩⟩
theorem out_go (lt : α → α → Bool) (a b i : Nat) (d : Array α) (h : i < b) : insOuter lt a b i d = insOuter lt a b (i + 1) (insInner lt a i d) := by
  rw [insOuter, if_pos h]
theorem out_no (lt : α → α → Bool) (a b i : Nat) (d : Array α) (h : ¬ i < b) : insOuter lt a b i d = d := by
  rw [insOuter, if_neg h]
theorem outer_congr (lt1 lt2 : α → α → Bool) (a b : Nat) : ∀ (m i : Nat) (d : Array α), b - i = m → b ≤ d.size → a ≤ i → (∀ p q, a ≤ p → p < q → i ≤ q → q < b → lt1 d[q]! d[p]! = lt2 d[q]! d[p]!) → insOuter lt1 a b i d = insOuter lt2 a b i d
  | 0, i, d, hm, _, _, _ => by
    rw [out_no _ _ _ _ _ (by omega), out_no _ _ _ _ _ (by omega)]
  | m + 1, i, d, hm, hs, hai, h => by
    rw [out_go lt1 _ _ _ _ (by omega), out_go lt2 _ _ _ _ (by omega)]
    rw [inner_congr lt1 lt2 a i d (by omega) (fun p hap hp => h p i hap hp (Nat.le_refl _) (by omega))]
    obtain ⟨h1, h2, h3⟩ := inner_at lt2 a i d hai (by omega)
    refine outer_congr lt1 lt2 a b m (i + 1) _ (by omega) (by rw [h1]; exact hs) (by omega) fun p q hap hpq hiq hq => ?_
    rw [h2 q (by omega)]
    by_cases hp : p ≤ i
    · obtain ⟨p', ha', hp', e⟩ := h3 p hap hp
      rw [e]
      exact h p' q ha' (by omega) (by omega) hq
    · rw [h2 p (by omega)]
      exact h p q hap hpq (by omega) hq
theorem ins_congr (lt1 lt2 : α → α → Bool) (d : Array α) (a b : Nat) (hb : b ≤ d.size) (h : ∀ p q, a ≤ p → p < q → q < b → lt1 d[q]! d[p]! = lt2 d[q]! d[p]!) : insertionSort lt1 d a b = insertionSort lt2 d a b :=
  outer_congr lt1 lt2 a b _ (a + 1) d rfl hb (by omega) fun p q hap hpq _ hq => h p q hap hpq hq

theorem stb_permR {cl lt : α → α → Bool} {d d' : Array α} {a m b : Nat} (hb : b ≤ d.size) (hp : PermIn m b d d') (h : Stb cl lt a m b d) : Stb cl lt a m b d' := fun i j hi him hj hjb => by
  rw [hp.2.1 i (by omega)]
  exact permIn_all d d' m b (fun X => cl X d[i]! = lt X d[i]!) hb hp (fun x hx hxm => h i x hi him hx hxm) j hj hjb
end Go.Proofs.Ytcndihekpdebhaa.Stb
