/- Ledger: legs that were posted, and then turned, leave all as it was. -/
import Derived.Test.YtmlbdmfmaebdeaaLedMath
namespace Go.Proofs.Ytmlbdmfmaebdeaa.Led
open Mon
open Tre (Al)
set_option linter.unusedVariables false

def turn (g : Lg) : Lg := ⟨g.acct, -g.amt⟩
def turned (legs : List Lg) : List Lg := (legs.map turn).reverse
def neg (l : List Int) : List Int := (l.map fun x => -x).reverse
theorem sum_neg : ∀ l : List Int, (l.map fun x => -x).sum = -l.sum
  | [] => rfl
  | x :: l => by
    rw [List.map_cons, List.sum_cons, List.sum_cons, sum_neg l]; omega
theorem sum_rev : ∀ l : List Int, l.reverse.sum = l.sum
  | [] => rfl
  | x :: l => by
    rw [List.reverse_cons, List.sum_append, sum_rev l, List.sum_cons, List.sum_cons, List.sum_nil]; omega
theorem sum_split (l : List Int) (m : Nat) : (l.take m).sum + (l.drop m).sum = l.sum := by
  rw [← List.sum_append, List.take_append_drop]
theorem neg_len (l : List Int) : (neg l).length = l.length := by simp [neg]
theorem neg_take (l : List Int) (k : Nat) : ((neg l).take k).sum = (l.take (l.length - k)).sum - l.sum := by
  unfold neg
  rw [List.take_reverse, sum_rev, List.length_map, ← List.map_drop, sum_neg]
  have := sum_split l (l.length - k)
  omega
theorem neg_sum (l : List Int) : (neg l).sum = -l.sum := by
  unfold neg
  rw [sum_rev, sum_neg]
theorem fits_neg {x : Int} (h : fitsB x = true) : fitsB (-x) = true := by
  rw [fitsB_iff] at h ⊢; omega
theorem neg_fits {l : List Int} (h : ∀ x ∈ l, fitsB x = true) : ∀ x ∈ neg l, fitsB x = true := by
  intro x hx
  unfold neg at hx
  rw [List.mem_reverse, List.mem_map] at hx
  obtain ⟨y, hy, rfl⟩ := hx
  exact fits_neg (h y hy)
theorem fits_0 : fitsB 0 = true := by decide
/-- What comes to nothing comes to nothing backwards, and fits. -/
theorem neg_add {l : List Int} (h : addE l = 0) (hs : l.sum = 0) : addE (neg l) = 0 ∧ (neg l).sum = 0 := by
  obtain ⟨h1, h2⟩ := addE_iff.1 h
  refine ⟨addE_iff.2 ⟨neg_fits h1, fun k hk => ?_⟩, by rw [neg_sum, hs]; rfl⟩
  rw [neg_len] at hk
  rw [neg_take, hs, Int.sub_zero]
  rcases Nat.eq_zero_or_pos (l.length - (k + 1)) with h0 | h0
  · rw [h0]; exact fits_0
  · have := h2 (l.length - (k + 1) - 1) (by omega)
    rwa [show l.length - (k + 1) - 1 + 1 = l.length - (k + 1) by omega] at this
/-- From what it came to, back. -/
theorem neg_mine {a : Int} {l : List Int} (h : addE (a :: l) = 0) : addE ((a + l.sum) :: neg l) = 0 ∧ addN ((a + l.sum) :: neg l) = a := by
  obtain ⟨h1, h2⟩ := addE_iff.1 h
  have hl : ∀ x ∈ l, fitsB x = true := fun x hx => h1 x (by simp [hx])
  have hp : ∀ m, m ≤ l.length → fitsB (a + (l.take m).sum) = true := by
    intro m hm
    have := h2 m (by simp; omega)
    rwa [List.take_succ_cons, List.sum_cons] at this
  have hE : addE ((a + l.sum) :: neg l) = 0 := by
    refine addE_iff.2 ⟨fun x hx => ?_, fun k hk => ?_⟩
    · rcases List.mem_cons.1 hx with rfl | hx
      · have := hp l.length (Nat.le_refl _)
        rwa [List.take_length] at this
      · exact neg_fits hl x hx
    · rw [List.take_succ_cons, List.sum_cons, neg_take]
      have := hp (l.length - k) (by omega)
      rwa [show a + (l.take (l.length - k)).sum = a + l.sum + ((l.take (l.length - k)).sum - l.sum) by omega] at this
  refine ⟨hE, ?_⟩
  rw [addN_sum hE, List.sum_cons, neg_sum]; omega
theorem turned_amts (legs : List Lg) : amts (turned legs) = neg (amts legs) := by
  unfold amts turned neg
  rw [List.map_reverse, List.map_map, List.map_map]
  rfl
theorem turned_of (legs : List Lg) (k : Nat) : of (turned legs) k = neg (of legs k) := by
  unfold of turned neg
  rw [List.filter_reverse, List.map_reverse, List.filter_map, List.map_map, List.map_map]
  rfl
theorem turned_named (legs : List Lg) (k : Nat) : named (turned legs) k = named legs k := by
  unfold named turned
  rw [List.any_reverse, List.any_map]
  rfl
theorem turned_len (legs : List Lg) : (turned legs).length = legs.length := by simp [turned]
theorem turned_pre {n : Nat} {legs : List Lg} (h : preE n legs = 0) : preE n (turned legs) = 0 := by
  obtain ⟨h1, h2, h3, h4, h5⟩ := pre_iff.1 h
  obtain ⟨h6, h7⟩ := neg_add h4 h5
  refine pre_iff.2 ⟨fun g hg => ?_, by rw [turned_len]; exact h2, by rw [turned_len]; exact h3, by rw [turned_amts]; exact h6, by rw [turned_amts]; exact h7⟩
  unfold turned at hg
  rw [List.mem_reverse, List.mem_map] at hg
  obtain ⟨x, hx, rfl⟩ := hg
  obtain ⟨g1, g2, g3⟩ := h1 x hx
  exact ⟨g1, g2, by unfold turn; simp only; omega⟩
/-- THE WAY BACK, by flat amounts. -/
theorem acct_back {fl F : List Int} {legs : List Lg} {k : Nat} (h : acctE fl legs k = 0) (hF : F.getD k 0 = acctN fl legs k) (hb : bad k (fl.getD k 0) = false) : acctE F (turned legs) k = 0 ∧ acctN F (turned legs) k = fl.getD k 0 := by
  have hs := acct_sum h
  unfold acctE acctN
  rw [turned_named]
  by_cases hn : named legs k = true
  · rw [if_pos hn, if_pos hn]
    unfold acctE at h
    rw [if_pos hn] at h
    have he : addE (mine fl legs k) = 0 := by
      by_cases he : addE (mine fl legs k) = 0
      · exact he
      · rw [if_pos he] at h; exact h
    have e : mine F (turned legs) k = (fl.getD k 0 + (of legs k).sum) :: neg (of legs k) := by
      unfold mine
      rw [hF, hs, turned_of]
    obtain ⟨g1, g2⟩ := neg_mine (a := fl.getD k 0) (l := of legs k) he
    rw [e, if_neg (by simpa using g1), g2, hb]
    exact ⟨rfl, rfl⟩
  · rw [if_neg hn, if_neg hn]
    refine ⟨rfl, ?_⟩
    rw [hF, hs, of_nil (by simpa using hn)]; simp
def Good0 (w : Int) (al : List Al) : Prop := w ≤ 0 ∧ ∀ a ∈ al, 0 ≤ a.avail ∧ 0 ≤ a.lien ∧ 0 ≤ a.spent
theorem good0_bad {w : Int} {al : List Al} (h : Good0 w al) {k : Nat} (hk : k < 1 + 3 * al.length) : bad k ((flatN w al).getD k 0) = false := by
  unfold bad
  rcases flat_cases (w := w) hk with rfl | ⟨i, a, hi, ha, hc⟩
  · rw [getD_at (flat_at0 w al)]
    have := h.1
    simp; omega
  · obtain ⟨h1, h2, h3⟩ := h.2 a (List.mem_of_getElem? ha)
    obtain ⟨g1, g2, g3⟩ := flat_at al i a w ha
    rcases hc with rfl | rfl | rfl
    · rw [getD_at g1]; simp; omega
    · rw [getD_at g2]; simp; omega
    · rw [getD_at g3]; simp; omega
theorem post_back {w : Int} {al : List Al} {legs : List Lg} (h : postE w al legs = 0) (hg : Good0 w al) :
    postE (postW w al legs) (postA w al legs) (turned legs) = 0 ∧ postW (postW w al legs) (postA w al legs) (turned legs) = w ∧ postA (postW w al legs) (postA w al legs) (turned legs) = al := by
  have eW : postW w al legs = (postF w al legs).getD 0 0 := postW_ok h
  have eA : postA w al legs = setA (postF w al legs) al := postA_ok h
  have hl : (setA (postF w al legs) al).length = al.length := setA_len _ _
  have hfl : flatN ((postF w al legs).getD 0 0) (setA (postF w al legs) al) = postF w al legs := flat_setA (postF_len w al legs)
  obtain ⟨h1, h2⟩ := post_iff.1 h
  have hk : ∀ k, k < 1 + 3 * al.length → acctE (postF w al legs) (turned legs) k = 0 ∧ acctN (postF w al legs) (turned legs) k = (flatN w al).getD k 0 := fun k hk =>
    acct_back (h2 k hk) (getD_at (postF_at w al legs hk)) (good0_bad hg hk)
  have hE : postE (postW w al legs) (postA w al legs) (turned legs) = 0 := by
    rw [eW, eA]
    refine post_iff.2 ⟨by rw [hl]; exact turned_pre h1, fun k hkk => ?_⟩
    rw [hfl]
    rw [hl] at hkk
    exact (hk k hkk).1
  have hF : postF (postW w al legs) (postA w al legs) (turned legs) = flatN w al := by
    rw [eW, eA]
    apply list_ext
    · rw [postF_len, hl, flat_len]
    · intro k x hx
      have hkk : k < 1 + 3 * (setA (postF w al legs) al).length := by
        have := (List.getElem?_eq_some_iff.1 hx).1
        rwa [postF_len] at this
      rw [postF_at _ _ _ hkk, hfl] at hx
      rw [hl] at hkk
      rw [(hk k hkk).2] at hx
      injection hx with hx
      rw [← hx]
      have : k < (flatN w al).length := by rw [flat_len]; exact hkk
      simp [List.getD, this]
  refine ⟨hE, ?_, ?_⟩
  · rw [postW_ok hE, hF]
    exact getD_at (flat_at0 w al)
  · rw [postA_ok hE, hF, eA, setA_setA, setA_flat]
end Go.Proofs.Ytmlbdmfmaebdeaa.Led
