/- Disk: two lists of sectors that were read, each apart from the other, both apart from the disk. -/
import Derived.Test.YtpbegchaneppfaaDskList
namespace Go.Proofs.Ytpbegchaneppfaa.Dsk
open Go.RowKit
open Go.Sort
open Kit
open Oct
open Foot
set_option linter.unusedVariables false
variable {D : World → (Nat → Prop) → Nat → DS → Prop}

/-- The lists v and u: each is apart from F, and from the other's own block. -/
structure Twain (B : Nat) (F : Nat → Prop) (w : World) (v u : Value) (ls ms : List Sec) : Prop where
  one : Lst B (fun k => F k ∨ some k = u.ownBlock) w v ls
  two : Lst B (fun k => F k ∨ some k = v.ownBlock) w u ms
variable {B : Nat} {F G F' : Nat → Prop} {w w' : World} {v u : Value} {ls ms : List Sec}
theorem twain_turn (h : Twain B F w v u ls ms) : Twain B F w u v ms ls := ⟨h.two, h.one⟩
theorem twain_chg (h : Twain B F w v u ls ms) (hC : Chg G w w') (hG : ∀ k, G k → F k) (hF' : ∀ k, F' k → F k ∨ w.heap.size ≤ k) : Twain B F' w' v u ls ms :=
  ⟨lst_chg h.one hC (fun k hk => .inl (hG k hk)) (fun k hk => hk.elim (fun hk => (hF' k hk).imp .inl id) fun hk => .inl (.inr hk)), lst_chg h.two hC (fun k hk => .inl (hG k hk)) (fun k hk => hk.elim (fun hk => (hF' k hk).imp .inl id) fun hk => .inl (.inr hk))⟩
theorem twain_keep (h : Twain B F w v u ls ms) (hb : Below w.heap.size w w') : Twain B F w' v u ls ms := twain_chg h (new_chg hb (fun _ => False)) (fun _ h => h.elim) (fun _ => .inl)
theorem twain_new (B : Nat) (F : Nat → Prop) (w : World) (hB : B ≤ w.heap.size) (hF : ∀ k, F k → k < w.heap.size) : Twain B F ((w.alloc (.cells #[] 39)).alloc (.cells #[] 39)) (.slice (some ⟨w.heap.size, 0, none⟩) 0 0) (.slice (some ⟨w.heap.size + 1, 0, none⟩) 0 0) [] [] := by
  have h1 := lst_new B F w hB hF
  have hb := below_alloc (w.alloc (.cells #[] 39)) (.cells #[] 39)
  have hz : (w.alloc (.cells #[] 39)).heap.size = w.heap.size + 1 := by simp
  have h2 := lst_new B (fun k => F k ∨ k = w.heap.size) (w.alloc (.cells #[] 39)) (by omega) (fun k hk => by
    rw [hz]
    rcases hk with hk | hk
    · have := hF k hk; omega
    · omega)
  rw [hz] at h2
  refine ⟨lst_chg h1 (new_chg hb (fun _ => False)) (fun _ h => h.elim) (fun k hk => hk.elim .inl fun hk => .inr ?_), lst_mono h2 fun k hk => hk.imp id fun hk => ?_⟩
  · injection hk with hk
    subst hk
    rw [hz]; exact Nat.le_refl _
  · injection hk
/-- A sector was read and put behind the first. -/
theorem twain_push (hD : Prog D) {p g c : Nat} {w0 w5 w9 W : World} {s3 : DS} {o : Obj} {v9 : Value} {ss : List Sl} {b : Sec}
    (hone : OneF D B w5 F p s3) (hB : Below B W w5) (hBW : B ≤ w5.heap.size) (ht : Twain B F w5 v u ls ms) (hq : Owns encSl 1 39 w5 B v ss ∧ ss.length = ls.length ∧ (∀ g, v.ownBlock = some g → ¬ (F g ∨ some g = u.ownBlock)) ∧ ∀ (j : Nat) (s : Sl) (l : Sec), ss[j]? = some s → ls[j]? = some l → Kept (fun k => F k ∨ some k = u.ownBlock) w5 v s l)
    (hrow : RowB w5 (some ⟨g, 0, none⟩) b) (hg1 : w0.heap.size ≤ g) (hg2 : g < w5.heap.size) (hv : ∀ g', v.ownBlock = some g' → B ≤ g' ∧ g' < w0.heap.size) (hu : ∀ g', u.ownBlock = some g' → B ≤ g' ∧ g' < w0.heap.size) (hF : ∀ k, F k → k < w0.heap.size)
    (ho : Owns encSl 1 39 w9 B v9 (ss ++ [⟨g, b.length, c⟩])) (hg : (w5.alloc o).grownBy w9 v.ownBlock) (hw : v9.ownBlock = v.ownBlock ∨ v9.ownBlock = some (w5.alloc o).heap.size) (hcap : b.length ≤ c) :
    Twain B F w9 v9 u (ls ++ [b]) ms ∧ OneF D B w9 F p s3 ∧ Below B W w9 := by
  obtain ⟨q1, q2, q3, q4⟩ := hq
  have hb := below_alloc w5 o
  have hFw : ∀ k, (F k ∨ some k = u.ownBlock) → k < (w5.alloc o).heap.size := fun k hk => by
    have hz := hb.size
    rcases hk with hk | hk
    · exact Nat.lt_of_lt_of_le (hone.lt k hk).2 hz
    · exact Nat.lt_of_lt_of_le (lst_lt ht.two hk.symm).2 hz
  have q4' : ∀ (j : Nat) (s : Sl) (l : Sec), ss[j]? = some s → ls[j]? = some l → Kept (fun k => F k ∨ some k = u.ownBlock) (w5.alloc o) v s l := fun j s l h1 h2 => by
    obtain ⟨k1, k2, k3, k4, k5, k6⟩ := q4 j s l h1 h2
    exact ⟨k1, row_keep encB_len k2 hb, k3, Nat.lt_of_lt_of_le k4 hb.size, k5, k6⟩
  have hC : Chg (fun k => some k = v.ownBlock) (w5.alloc o) w9 := chg_grown (chg_refl _ _) hg fun k hk => .inl hk.symm
  refine ⟨⟨lst_push (s := ⟨g, b.length, c⟩) hFw q2 (owns_alloc q1 o) q3 q4' ⟨rfl, row_keep encB_len hrow hb, fun h => ?_, Nat.lt_of_lt_of_le hg2 hb.size, fun e => by have := (hv g e).2; omega, hcap⟩ ho hg hw, lst_chg (lst_keep ht.two hb) hC (fun k hk => .inr hk) (fun k hk => ?_)⟩, one_grown hD (one_keep hD hone hb) hg fun g hg h => q3 g hg (.inl h), ?_⟩
  · rcases h with h | h
    · have := hF g h; omega
    · have := (hu g h.symm).2; omega
  · rcases hk with hk | hk
    · exact .inl (.inl hk)
    · rcases hw with hw | hw
      · exact .inl (.inr (by rw [← hw]; exact hk))
      · rw [hw] at hk
        injection hk with hk
        exact .inr (by omega)
  · exact (hB.alloc hBW o).trans (Two.below_grown (owns_alloc q1 o) hg (Nat.le_trans hBW hb.size))
end Go.Proofs.Ytpbegchaneppfaa.Dsk
