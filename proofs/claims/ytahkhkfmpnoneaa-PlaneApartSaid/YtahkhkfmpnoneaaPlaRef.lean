/- Plane: the document's answer, call by call: in, Good, Area, Meets. -/
import Derived.Test.YtahkhkfmpnoneaaPlaApart
namespace Go.Proofs.Ytahkhkfmpnoneaa.Pla
open Go.RowKit
open Go.Sort

theorem rin_is (n a b : Int) (x : Bool) (w : World) (hx : decide (a ≤ n ∧ n ≤ b) = x) :
    Calls Try.prog 24 #[.int .i64 n, .int .i64 a, .int .i64 b] w fun e w' => e = .returned (.bool x) ∧ w = w' := by
  by_cases h1 : a ≤ n
  · cases x with
    | true =>
      have h2 : decide (n ≤ b) = true := by rw [decide_eq_true_iff] at hx ⊢; exact hx.2
      clear hx
      go_enter Try.func24, Try.ntmps24
      go_wp2
      go_ret
      exact ⟨rfl, rfl⟩
    | false =>
      have h2 : decide (n ≤ b) = false := by rw [decide_eq_false_iff_not] at hx ⊢; exact fun h => hx ⟨h1, h⟩
      clear hx
      go_enter Try.func24, Try.ntmps24
      go_wp2
      go_ret
      exact ⟨rfl, rfl⟩
  · have h2 : decide (a ≤ n) = false := decide_eq_false h1
    have hX := Lib.hid (show false = x by rw [← hx, eq_comm, decide_eq_false_iff_not]; exact fun h => h1 h.1)
    clear hx h1
    go_enter Try.func24, Try.ntmps24
    go_wp2
    go_ret
    exact ⟨ret_bool hX.out, rfl⟩

theorem rgood_any (t n l m : Int) (w : World) :
    Calls Try.prog 10 #[.agg #[.int .i64 t, .int .i64 n, .int .i64 l, .int .i64 m]] w fun e w' => e = .returned (.bool (goodB t n l m)) ∧ Below w.heap.size w w' := by
  have HF : ∀ p : Prop, (goodB t n l m = true → p) → ¬ p → Hid (false = goodB t n l m) := fun p h h' => by
    show false = _; rw [eq_comm, Bool.eq_false_iff]; exact fun g => h' (h g)
  cases h1 : decide (0 ≤ t ∧ t ≤ 1099511627776) with
  | false =>
    have HS := HF (0 ≤ t ∧ t ≤ 1099511627776) (fun g => by have := goodB_iff.1 g; omega) (decide_eq_false_iff_not.1 h1)
    have H1 := Lib.hid h1
    clear HF h1
    go_enter Try.func10, Try.ntmps10
    go_wp2_with fail
    refine (rin_is _ _ _ _ _ H1.out).mono ?_
    rintro e w' ⟨rfl, rfl⟩
    go_wp2
    go_ret
    exact ⟨ret_bool HS.out, (Below.refl _ _).alloc (Nat.le_refl _) _⟩
  | true =>
  cases h2 : decide (1 ≤ l ∧ l ≤ 1048576) with
  | false =>
    have HS := HF (1 ≤ l ∧ l ≤ 1048576) (fun g => by have := goodB_iff.1 g; omega) (decide_eq_false_iff_not.1 h2)
    have H1 := Lib.hid h1
    have H2 := Lib.hid h2
    clear HF h1 h2
    go_enter Try.func10, Try.ntmps10
    go_wp2_with fail
    refine (rin_is _ _ _ _ _ H1.out).mono ?_
    rintro e w' ⟨rfl, rfl⟩
    go_wp2_with fail
    refine (rin_is _ _ _ _ _ H2.out).mono ?_
    rintro e w' ⟨rfl, rfl⟩
    go_wp2
    go_ret
    exact ⟨ret_bool HS.out, (Below.refl _ _).alloc (Nat.le_refl _) _⟩
  | true =>
  cases h3 : decide (0 ≤ n ∧ n ≤ 31) with
  | false =>
    have HS := HF (0 ≤ n ∧ n ≤ 31) (fun g => by have := goodB_iff.1 g; omega) (decide_eq_false_iff_not.1 h3)
    have H1 := Lib.hid h1
    have H2 := Lib.hid h2
    have H3 := Lib.hid h3
    clear HF h1 h2 h3
    go_enter Try.func10, Try.ntmps10
    go_wp2_with fail
    refine (rin_is _ _ _ _ _ H1.out).mono ?_
    rintro e w' ⟨rfl, rfl⟩
    go_wp2_with fail
    refine (rin_is _ _ _ _ _ H2.out).mono ?_
    rintro e w' ⟨rfl, rfl⟩
    go_wp2_with fail
    refine (rin_is _ _ _ _ _ H3.out).mono ?_
    rintro e w' ⟨rfl, rfl⟩
    go_wp2
    go_ret
    exact ⟨ret_bool HS.out, (Below.refl _ _).alloc (Nat.le_refl _) _⟩
  | true =>
  cases h4 : decide (1 ≤ m ∧ m ≤ 32) with
  | false =>
    have HS := HF (1 ≤ m ∧ m ≤ 32) (fun g => by have := goodB_iff.1 g; omega) (decide_eq_false_iff_not.1 h4)
    have H1 := Lib.hid h1
    have H2 := Lib.hid h2
    have H3 := Lib.hid h3
    have H4 := Lib.hid h4
    clear HF h1 h2 h3 h4
    go_enter Try.func10, Try.ntmps10
    go_wp2_with fail
    refine (rin_is _ _ _ _ _ H1.out).mono ?_
    rintro e w' ⟨rfl, rfl⟩
    go_wp2_with fail
    refine (rin_is _ _ _ _ _ H2.out).mono ?_
    rintro e w' ⟨rfl, rfl⟩
    go_wp2_with fail
    refine (rin_is _ _ _ _ _ H3.out).mono ?_
    rintro e w' ⟨rfl, rfl⟩
    go_wp2_with fail
    refine (rin_is _ _ _ _ _ H4.out).mono ?_
    rintro e w' ⟨rfl, rfl⟩
    go_wp2
    go_ret
    exact ⟨ret_bool HS.out, (Below.refl _ _).alloc (Nat.le_refl _) _⟩
  | true =>
    have HS : Hid (decide (n + m ≤ 32) = goodB t n l m) := by
      show _ = _
      rw [decide_eq_true_iff] at h1 h2 h3 h4
      rw [Bool.eq_iff_iff, decide_eq_true_iff, goodB_iff]; omega
    have r3 := decide_eq_true_iff.1 h3
    have r4 := decide_eq_true_iff.1 h4
    obtain ⟨r3, r5⟩ := r3
    obtain ⟨r4, r6⟩ := r4
    have H1 := Lib.hid h1
    have H2 := Lib.hid h2
    have H3 := Lib.hid h3
    have H4 := Lib.hid h4
    clear HF h1 h2 h3 h4
    go_enter Try.func10, Try.ntmps10
    go_wp2_with fail
    refine (rin_is _ _ _ _ _ H1.out).mono ?_
    rintro e w' ⟨rfl, rfl⟩
    go_wp2_with fail
    refine (rin_is _ _ _ _ _ H2.out).mono ?_
    rintro e w' ⟨rfl, rfl⟩
    go_wp2_with fail
    refine (rin_is _ _ _ _ _ H3.out).mono ?_
    rintro e w' ⟨rfl, rfl⟩
    go_wp2_with fail
    refine (rin_is _ _ _ _ _ H4.out).mono ?_
    rintro e w' ⟨rfl, rfl⟩
    go_wp2
    go_ret
    exact ⟨ret_bool HS.out, (Below.refl _ _).alloc (Nat.le_refl _) _⟩

theorem rarea_any (t n l m : Int) (w : World) :
    Calls Try.prog 12 #[.agg #[.int .i64 t, .int .i64 n, .int .i64 l, .int .i64 m]] w fun e w' => e = .returned (.int .i64 (areaN t n l m)) ∧ Below w.heap.size w w' := by
  have hg := rgood_any t n l m
  cases h1 : goodB t n l m with
  | false =>
    have H1 := Lib.hid (area_no h1)
    rw [h1] at hg
    clear h1
    go_enter Try.func12, Try.ntmps12
    go_wp2_with fail
    refine (hg _).mono ?_
    rintro e w1 ⟨rfl, hb⟩
    go_wp2
    go_ret
    exact ⟨ret_int H1.out, ((Below.refl _ _).alloc (Nat.le_refl _) _).trans (hb.mono (by simp))⟩
  | true =>
    have H1 := Lib.hid (area_yes h1)
    have hr := goodB_iff.1 h1
    have ha := area_bound hr.2.2.1 hr.2.2.2.1 hr.2.2.2.2.2.2.1 hr.2.2.2.2.2.2.2.1
    obtain ⟨ha1, ha2⟩ := ha
    have hwr : IntKind.i64.wrap (l * m) = l * m := IntWalk.i64_in _ (by omega)
    rw [h1] at hg
    clear h1 hr
    go_enter Try.func12, Try.ntmps12
    go_wp2_with fail
    refine (hg _).mono ?_
    rintro e w1 ⟨rfl, hb⟩
    obtain ⟨hc, hf⟩ := bcell hb
    have hz : w.heap.size < w1.heap.size := by have := hb.size; simp at this; omega
    have HB := Lib.hid hb
    clear hb
    go_wp2
    go_ret
    exact ⟨ret_int H1.out, (((Below.refl _ _).alloc (Nat.le_refl _) _).trans (HB.out.mono (by simp)))⟩

end Go.Proofs.Ytahkhkfmpnoneaa.Pla
