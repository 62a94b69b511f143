/- Disk: a list of sectors that were read: each in its own block, all apart from F. -/
import Derived.Test.YtpbegchaneppfaaDskOne
import Derived.Test.YtpbegchaneppfaaDskCrash
namespace Go.Proofs.Ytpbegchaneppfaa.Dsk
open Go.RowKit
open Go.Sort
open Kit
open Oct
open Foot
set_option linter.unusedVariables false

/-- One of them: s in memory, l in truth. -/
structure Kept (F : Nat → Prop) (w : World) (v : Value) (s : Sl) (l : Sec) : Prop where
  n : s.n = l.length
  row : RowB w (some ⟨s.b, 0, none⟩) l
  far : ¬ F s.b
  lt : s.b < w.heap.size
  apart : v.ownBlock ≠ some s.b
  cap : s.n ≤ s.c
/-- The list v: what its own are, all apart from F. -/
def Lst (B : Nat) (F : Nat → Prop) (w : World) (v : Value) (ls : List Sec) : Prop :=
  ∃ ss : List Sl, Owns encSl 1 39 w B v ss ∧ ss.length = ls.length ∧ (∀ g, v.ownBlock = some g → ¬ F g) ∧ ∀ (j : Nat) (s : Sl) (l : Sec), ss[j]? = some s → ls[j]? = some l → Kept F w v s l

theorem lst_lt {B : Nat} {F : Nat → Prop} {w : World} {v : Value} {ls : List Sec} (h : Lst B F w v ls) {g : Nat} (hg : v.ownBlock = some g) : B ≤ g ∧ g < w.heap.size := by
  obtain ⟨ss, h1, _⟩ := h
  exact World.ownsRow.lt h1 g hg
theorem lst_new (B : Nat) (F : Nat → Prop) (w : World) (hB : B ≤ w.heap.size) (hF : ∀ k, F k → k < w.heap.size) : Lst B F (w.alloc (.cells #[] 39)) (.slice (some ⟨w.heap.size, 0, none⟩) 0 0) [] :=
  ⟨[], World.ownsRow_made w #[] 0 hB (by unfold maxLen; omega) rfl, rfl, fun g hg h => by injection hg with hg; subst hg; exact absurd (hF _ h) (Nat.lt_irrefl _), fun j s l h => by simp at h⟩
/-- Something else is changed. -/
theorem lst_chg {B : Nat} {F G F' : Nat → Prop} {w w' : World} {v : Value} {ls : List Sec} (h : Lst B F w v ls) (hC : Chg G w w') (hG : ∀ k, G k → F k) (hF' : ∀ k, F' k → F k ∨ w.heap.size ≤ k) : Lst B F' w' v ls := by
  have hlt := fun g hg => (lst_lt h (g := g) hg).2
  obtain ⟨ss, h1, h2, h3, h4⟩ := h
  refine ⟨ss, own_chg hC h1 fun g hg hx => h3 g hg (hG _ hx), h2, fun g hg hx => ?_, fun j s l hs hl => ?_⟩
  · rcases hF' g hx with hx | hx
    · exact h3 g hg hx
    · have := hlt g hg; omega
  · obtain ⟨k1, k2, k3, k4, k5, k6⟩ := h4 j s l hs hl
    refine ⟨k1, row_chg encB_len hC k2 fun hx => k3 (hG _ hx), fun hx => ?_, Nat.lt_of_lt_of_le k4 hC.size, k5, k6⟩
    rcases hF' s.b hx with hx | hx
    · exact k3 hx
    · omega
theorem lst_keep {B : Nat} {F : Nat → Prop} {w w' : World} {v : Value} {ls : List Sec} (h : Lst B F w v ls) (hb : Below w.heap.size w w') : Lst B F w' v ls :=
  lst_chg h (new_chg hb (fun _ => False)) (fun _ h => h.elim) (fun _ => .inl)
theorem lst_mono {B : Nat} {F F' : Nat → Prop} {w : World} {v : Value} {ls : List Sec} (h : Lst B F w v ls) (hF' : ∀ k, F' k → F k) : Lst B F' w v ls :=
  lst_chg h (chg_refl (fun _ => False) w) (fun _ h => h.elim) (fun k hk => .inl (hF' k hk))
/-- One more. -/
theorem lst_push {B : Nat} {F : Nat → Prop} {w w' : World} {v v' : Value} {ss : List Sl} {ls : List Sec} {s : Sl} {l : Sec} (hF : ∀ k, F k → k < w.heap.size)
    (h2 : ss.length = ls.length) (h0 : Owns encSl 1 39 w B v ss) (h3 : ∀ g, v.ownBlock = some g → ¬ F g) (h4 : ∀ (j : Nat) (s : Sl) (l : Sec), ss[j]? = some s → ls[j]? = some l → Kept F w v s l)
    (hs : Kept F w v s l) (ho : Owns encSl 1 39 w' B v' (ss ++ [s])) (hg : w.grownBy w' v.ownBlock) (hw : v'.ownBlock = v.ownBlock ∨ v'.ownBlock = some w.heap.size) : Lst B F w' v' (ls ++ [l]) := by
  have hC : Chg (fun k => some k = v.ownBlock) w w' := chg_grown (chg_refl _ w) hg fun k hk => .inl hk.symm
  have up : ∀ {s l}, Kept F w v s l → Kept F w' v' s l := by
    intro s l h
    refine ⟨h.n, row_chg encB_len hC h.row fun e => h.apart e.symm, h.far, Nat.lt_of_lt_of_le h.lt hC.size, fun e => ?_, h.cap⟩
    rcases hw with hw | hw
    · exact h.apart (by rw [← hw]; exact e)
    · rw [hw] at e
      injection e with e
      have := h.lt; omega
  refine ⟨ss ++ [s], ho, by simp [h2], fun g hg' hx => ?_, fun j s' l' hs' hl' => ?_⟩
  · rcases hw with hw | hw
    · exact h3 g (by rw [← hw]; exact hg') hx
    · rw [hw] at hg'
      injection hg' with hg'
      have := hF g hx; omega
  · by_cases hj : j < ss.length
    · rw [List.getElem?_append_left hj] at hs'
      rw [List.getElem?_append_left (by rw [← h2]; exact hj)] at hl'
      exact up (h4 j s' l' hs' hl')
    · rw [List.getElem?_append_right (by omega)] at hs'
      rw [List.getElem?_append_right (by rw [← h2]; omega), ← h2] at hl'
      have hz : j - ss.length = 0 := by
        have := (List.getElem?_eq_some_iff.1 hs').1
        simp at this; omega
      rw [hz] at hs' hl'
      simp at hs' hl'
      subst hs' hl'
      exact up hs

theorem own_some {w : World} {base : Nat} {v : Value} {l : List UInt8} (h : RdB w base v l) (hl : 0 < l.length) : ∃ g c, v = .slice (some ⟨g, 0, none⟩) l.length c ∧ RowB w (some ⟨g, 0, none⟩) l ∧ base ≤ g ∧ g < w.heap.size ∧ l.length ≤ c := by
  obtain ⟨a, c, rfl, h1, _, h3, h4, h5⟩ := h
  cases a with
  | none => have := h3 rfl; omega
  | some q =>
    obtain ⟨h6, h7, h8⟩ := h5 q rfl
    rw [h6] at h4 ⊢
    exact ⟨q.block, c, rfl, h4, h7, h8, h1⟩
theorem one_grown {D : World → (Nat → Prop) → Nat → DS → Prop} (hD : Prog D) {B p : Nat} {w w' : World} {F : Nat → Prop} {s : DS} {row : Option Nat} (h : OneF D B w F p s) (hg : w.grownBy w' row) (hr : ∀ g, row = some g → ¬ F g) : OneF D B w' F p s :=
  ⟨hD.chg h.d (chg_grown (F := fun k => row = some k) (chg_refl _ w) hg fun k hk => .inl hk) (fun k hk e => hr k e hk), fun k hk => ⟨(h.lt k hk).1, Nat.lt_of_lt_of_le (h.lt k hk).2 hg.size⟩⟩
theorem lst_form {B : Nat} {F : Nat → Prop} {w : World} {v : Value} {ls : List Sec} (h : Lst B F w v ls) (hl : 0 < ls.length) : ∃ g c, v = .slice (some ⟨g, 0, none⟩) ls.length c := by
  obtain ⟨ss, h1, h2, _⟩ := h
  obtain ⟨a, c, rfl, h3, _, h4, _⟩ := owns_row encSl_len h1
  obtain ⟨g, rfl, _⟩ := own_at encSl_len h1 (by omega)
  exact ⟨g, c, by rw [h2]⟩
theorem lst_get {B g n c k : Nat} {F : Nat → Prop} {w : World} {ls : List Sec} (h : Lst B F w (.slice (some ⟨g, 0, none⟩) n c) ls) (hk : k < ls.length) : ∃ s : Sl, w.cell? ⟨g, k, none⟩ = some s.val ∧ s.n = ls[k].length ∧ RowB w (some ⟨s.b, 0, none⟩) ls[k] ∧ s.n ≤ s.c := by
  obtain ⟨ss, h1, h2, _, h4⟩ := h
  have hks : k < ss.length := by omega
  obtain ⟨g', e, _, _, hr⟩ := own_at encSl_len h1 (by omega)
  injection e with e
  injection e with e
  subst e
  have hc := row_cell hr hks rfl (i := 0) (by omega)
  have hq := h4 k ss[k] ls[k] (List.getElem?_eq_getElem hks) (List.getElem?_eq_getElem hk)
  refine ⟨ss[k], ?_, hq.n, hq.row, hq.cap⟩
  simpa [encSl] using hc
/-- A sector was read and put behind the list. -/
theorem push_read {D : World → (Nat → Prop) → Nat → DS → Prop} (hD : Prog D) {B p g c : Nat} {w0 w5 w9 W : World} {F : Nat → Prop} {s3 : DS} {o : Obj} {v v9 : Value} {ss : List Sl} {ls : List Sec} {b : Sec}
    (hone : OneF D B w5 F p s3) (hB : Below B W w5) (hBW : B ≤ w5.heap.size) (hq : Owns encSl 1 39 w5 B v ss ∧ ss.length = ls.length ∧ (∀ g, v.ownBlock = some g → ¬ F g) ∧ ∀ (j : Nat) (s : Sl) (l : Sec), ss[j]? = some s → ls[j]? = some l → Kept F w5 v s l)
    (hrow : RowB w5 (some ⟨g, 0, none⟩) b) (hg1 : w0.heap.size ≤ g) (hg2 : g < w5.heap.size) (hv : ∀ g', v.ownBlock = some g' → B ≤ g' ∧ g' < w0.heap.size) (hF : ∀ k, F k → k < w0.heap.size)
    (ho : Owns encSl 1 39 w9 B v9 (ss ++ [⟨g, b.length, c⟩])) (hg : (w5.alloc o).grownBy w9 v.ownBlock) (hw : v9.ownBlock = v.ownBlock ∨ v9.ownBlock = some (w5.alloc o).heap.size) (hcap : b.length ≤ c) :
    Lst B F w9 v9 (ls ++ [b]) ∧ OneF D B w9 F p s3 ∧ Below B W w9 := by
  obtain ⟨q1, q2, q3, q4⟩ := hq
  have hb := below_alloc w5 o
  have hL : Lst B F (w5.alloc o) v ls := lst_keep ⟨ss, q1, q2, q3, q4⟩ hb
  have hFw : ∀ k, F k → k < (w5.alloc o).heap.size := fun k hk => Nat.lt_of_lt_of_le (hone.lt k hk).2 hb.size
  have q4' : ∀ (j : Nat) (s : Sl) (l : Sec), ss[j]? = some s → ls[j]? = some l → Kept F (w5.alloc o) v s l := fun j s l h1 h2 => by
    obtain ⟨k1, k2, k3, k4, k5, k6⟩ := q4 j s l h1 h2
    exact ⟨k1, row_keep encB_len k2 hb, k3, Nat.lt_of_lt_of_le k4 hb.size, k5, k6⟩
  refine ⟨lst_push (s := ⟨g, b.length, c⟩) hFw q2 (owns_alloc q1 o) q3 q4' ⟨rfl, row_keep encB_len hrow hb, fun h => by have := hF g h; omega, Nat.lt_of_lt_of_le hg2 hb.size, fun e => by have := (hv g e).2; omega, hcap⟩ ho hg hw, one_grown hD (one_keep hD hone hb) hg q3, ?_⟩
  exact (hB.alloc hBW o).trans (Two.below_grown (owns_alloc q1 o) hg (Nat.le_trans hBW hb.size))
theorem ranges_chg {F : Nat → Prop} {w w' : World} {b o : Nat} {cs : List Value} (hC : Chg F w w') (h : w.rangeAt b o cs) (hb : ¬ F b) : w'.rangeAt b o cs := fun j v hv => cell_chg hC (h j v hv) hb
theorem run_ld_act' {w : World} {b o : Nat} {x : Ac} (h : w.rangeAt b o (encAc x)) : (Instr.loadAt 29 (.pointer (some ⟨b, o, none⟩))).run Try.prog w = .ok (.agg (encAc x).toArray) w := run_loadAt_mid w b _ _ _ _ h Try.underlying29 rfl (by kernel_rfl)
theorem act_range' {w : World} {b o k : Nat} {l : List Ac} {x : Ac} (h : Kit.Row encAc 5 w (some ⟨b, o, none⟩) l) (hk : k < l.length) (hx : l[k] = x) : w.rangeAt b (o + k * 5) (encAc x) := by
  subst hx; exact act_range h hk
end Go.Proofs.Ytpbegchaneppfaa.Dsk
