/- Plane: the document's answer: Meets, Apart. -/
import Derived.Test.YtahkhkfmpnoneaaPlaRef
namespace Go.Proofs.Ytahkhkfmpnoneaa.Pla
open Go.RowKit
open Go.Sort

set_option maxHeartbeats 1000000 in
theorem rmeets_any (t n l m t' n' l' m' : Int) (w : World) :
    Calls Try.prog 14 #[.agg #[.int .i64 t, .int .i64 n, .int .i64 l, .int .i64 m], .agg #[.int .i64 t', .int .i64 n', .int .i64 l', .int .i64 m']] w fun e w' => e = .returned (.bool (meetsB t n l m t' n' l' m')) ∧ Below w.heap.size w w' := by
  have hga := rgood_any t n l m
  have hgb := rgood_any t' n' l' m'
  have hz1 : w.heap.size < w.heap.size + 1 := by omega
  cases h1 : goodB t n l m with
  | false =>
    have H1 := Lib.hid (show false = meetsB t n l m t' n' l' m' by unfold meetsB; rw [h1]; rfl)
    rw [h1] at hga
    have HG := Lib.hid hga
    clear h1 hga hgb
    go_enter Try.func14, Try.ntmps14
    go_wp2_with fail
    all_goals
      refine (HG.out _).mono ?_
      rintro e w1 ⟨rfl, hb⟩
      go_wp2
      go_ret
      exact ⟨ret_bool H1.out, (((Below.refl _ _).alloc (Nat.le_refl _) _).alloc (by simp) _).trans (hb.mono (by simp; omega))⟩
  | true =>
    cases h2 : goodB t' n' l' m' with
    | false =>
      have H1 := Lib.hid (show false = meetsB t n l m t' n' l' m' by unfold meetsB; rw [h1, h2]; rfl)
      rw [h1] at hga
      rw [h2] at hgb
      have HG := Lib.hid hga
      have HG2 := Lib.hid hgb
      have r1 := goodB_iff.1 h1
      clear h1 h2 hga hgb r1
      go_enter Try.func14, Try.ntmps14
      go_wp2_with fail
      all_goals
        refine (HG.out _).mono ?_
        rintro e w1 ⟨rfl, hb⟩
        obtain ⟨hc, hf⟩ := bcell hb
        have hz : w.heap.size + 1 < w1.heap.size := by have := hb.size; simp at this; omega
        have HB := Lib.hid hb
        clear hb
        go_wp2_with fail
        refine (HG2.out _).mono ?_
        rintro e w2 ⟨rfl, hb⟩
        go_wp2
        go_ret
        exact ⟨ret_bool H1.out, ((((Below.refl _ _).alloc (Nat.le_refl _) _).alloc (by simp) _).trans (HB.out.mono (by simp; omega))).trans (hb.mono (by omega))⟩
    | true =>
      have r1 := goodB_iff.1 h1
      have r2 := goodB_iff.1 h2
      have H0 : meetsB t n l m t' n' l' m' = crossB t n l m t' n' l' m' := by unfold meetsB; rw [h1, h2]; rfl
      rw [h1] at hga
      rw [h2] at hgb
      have HG := Lib.hid hga
      have HG2 := Lib.hid hgb
      clear h1 h2 hga hgb
      obtain ⟨a1, a2, a3, a4, a5, a6, a7, a8, a9⟩ := r1
      obtain ⟨b1, b2, b3, b4, b5, b6, b7, b8, b9⟩ := r2
      have hD : ∀ p : Prop, p ∨ ¬ p := fun p => Classical.em p
      have HX : ∀ x y z v : Bool, decide (t < t' + l') = x → decide (t' < t + l) = y → decide (n < n' + m') = z → decide (n' < n + m) = v → Hid ((x && y && z && v) = meetsB t n l m t' n' l' m') := by
        intro x y z v hx hy hz hv
        show _ = _
        rw [H0, ← hx, ← hy, ← hz, ← hv, dec4]
        rfl
      clear H0 hD
      cases g1 : decide (t < t' + l') <;> cases g2 : decide (t' < t + l) <;> cases g3 : decide (n < n' + m') <;> cases g4 : decide (n' < n + m)
      all_goals
        have HS := HX _ _ _ _ g1 g2 g3 g4
        clear HX
        go_enter Try.func14, Try.ntmps14
        go_wp2_with fail
        refine (HG.out _).mono ?_
        rintro e w1 ⟨rfl, hb⟩
        obtain ⟨hc, hf⟩ := bcell hb
        have hz : w.heap.size + 1 < w1.heap.size := by have := hb.size; simp at this; omega
        have HB := Lib.hid hb
        clear hb
        go_wp2_with fail
        refine (HG2.out _).mono ?_
        rintro e w2 ⟨rfl, hb⟩
        go_wp2
        go_ret
        exact ⟨ret_bool HS.out, ((((Below.refl _ _).alloc (Nat.le_refl _) _).alloc (by simp) _).trans (HB.out.mono (by simp; omega))).trans (hb.mono (by omega))⟩

end Go.Proofs.Ytahkhkfmpnoneaa.Pla
