/- Plane: far, Good, Area. -/
import Derived.Test.YtahkhkfmpnoneaaPlaCalls
import Derived.Deep.DrawnRows
namespace Go.Proofs.Ytahkhkfmpnoneaa.Pla
open Go.RowKit
attribute [local go_sem ↓] Go.wp_at_zero Go.wp_at_succ

def Small (a : Int) : Prop := a.natAbs < 4503599627370496
theorem sum_bits {t n l m : Int} (h1 : Small t) (h2 : Small n) (h3 : Small l) (h4 : Small m) :
    cSumBits .add .f64 (Flo.near t) (Flo.near n) (Flo.near l) (Flo.near m) = some (Flo.near (t + l), Flo.near (n + m)) := by
  unfold Small at h1 h2 h3 h4
  have e1 : floatBits .add .f64 (Flo.near t) (Flo.near l) = some (Flo.near (t + l)) := Flo.add_near t l (by omega) (by omega) (by omega)
  have e2 : floatBits .add .f64 (Flo.near n) (Flo.near m) = some (Flo.near (n + m)) := Flo.add_near n m (by omega) (by omega) (by omega)
  unfold cSumBits
  rw [e1, e2]; rfl

/-- A box in memory. -/
def BoxAt (w : World) (b o : Nat) (t n l m : Int) : Prop :=
  w.cell? ⟨b, o, none⟩ = some (.int .i64 t) ∧ w.cell? ⟨b, o + 1, none⟩ = some (.int .i64 n) ∧ w.cell? ⟨b, o + 2, none⟩ = some (.int .i64 l) ∧ w.cell? ⟨b, o + 3, none⟩ = some (.int .i64 m)

theorem cell_keep {w1 w' : World} (hb : Below w1.heap.size w1 w') {b o : Nat} {v : Value} (h : w1.cell? ⟨b, o, none⟩ = some v) : w'.cell? ⟨b, o, none⟩ = some v := by
  rw [hb.cell (p := ⟨b, o, none⟩) (World.block_lt_of_cell? w1 _ h)]; exact h
theorem below_keep {w w1 w' : World} (h : Below w.heap.size w w1) (hb : Below w1.heap.size w1 w') : Below w.heap.size w w' := h.trans (hb.mono h.size)

theorem far_any (t n l m : Int) (w : World) (h1 : Small t) (h2 : Small n) (h3 : Small l) (h4 : Small m) :
    Calls Try.prog 23 #[.agg #[.int .i64 t, .int .i64 n, .int .i64 l, .int .i64 m]] w fun e w' => e = .returned (.complex .f64 (Flo.near (t + l)) (Flo.near (n + m))) ∧ Below w.heap.size w w' := by
  have hs := fun w => run_complex_sum (P := Try.prog) w .add (.inl rfl) 38 .f64 _ _ _ _ _ _ (sum_bits h1 h2 h3 h4)
  clear h1 h2 h3 h4
  go_enter Try.func23, Try.ntmps23
  go_wp2
  go_region_held3 (fun w' => Below w.heap.size w w' ∧ w'.cell? ⟨w.heap.size, 0, none⟩ = some (.int .i64 t) ∧ w'.cell? ⟨w.heap.size, 1, none⟩ = some (.int .i64 n) ∧ w'.cell? ⟨w.heap.size, 2, none⟩ = some (.int .i64 l) ∧ w'.cell? ⟨w.heap.size, 3, none⟩ = some (.int .i64 m))
    (first | (refine ⟨Below.drew (Below.alloc (Below.refl _ _) (Nat.le_refl _) _), ?_, ?_, ?_, ?_⟩ <;> go_keep) | (go_split_ands; exact ⟨below_keep (by assumption) hb, cell_keep hb (by assumption), cell_keep hb (by assumption), cell_keep hb (by assumption), cell_keep hb (by assumption)⟩))
    (first | (go_at_call 21; refine (corner_any _ _ _ _ _).mono ?_; rintro e w' ⟨rfl, hb⟩) | (go_at_call 22; refine (size_any _ _ _ _ _).mono ?_; rintro e w' ⟨rfl, hb⟩))
  all_goals go_wp2
  all_goals go_ret
  all_goals
    rename_i hH
    exact ⟨rfl, hH.1⟩

/-! ## Good -/

def c1B (t n : Int) : Bool := decide (0 ≤ t ∧ t ≤ 1099511627776 ∧ 0 ≤ n ∧ n ≤ 31)
def c2B (l m : Int) : Bool := decide (1 ≤ l ∧ l ≤ 1048576 ∧ 1 ≤ m ∧ m ≤ 32)
theorem c1B_iff {t n : Int} : c1B t n = true ↔ 0 ≤ t ∧ t ≤ 1099511627776 ∧ 0 ≤ n ∧ n ≤ 31 := by unfold c1B; rw [decide_eq_true_iff]
theorem c2B_iff {l m : Int} : c2B l m = true ↔ 1 ≤ l ∧ l ≤ 1048576 ∧ 1 ≤ m ∧ m ≤ 32 := by unfold c2B; rw [decide_eq_true_iff]

theorem dec4 (a b c d : Prop) [Decidable a] [Decidable b] [Decidable c] [Decidable d] : (decide a && decide b && decide c && decide d) = decide (a ∧ b ∧ c ∧ d) := by
  by_cases a <;> by_cases b <;> by_cases c <;> by_cases d <;> simp [*]

def Wide (a : Int) : Prop := a.natAbs < 18446744073709551616

theorem within_corner (t n : Int) (w : World) (b : Bool) (ht : Wide t) (hn : Wide n) (hb : c1B t n = b) :
    Calls Try.prog 20 #[.complex .f64 (Flo.near t) (Flo.near n), .complex .f64 0 0, .complex .f64 4787326403894837248 4629418941960159232] w fun e w' => e = .returned (.bool b) ∧ w = w' := by
  unfold Wide at ht hn
  have h := within_any (Flo.near t) (Flo.near n) (Flo.near 0) (Flo.near 0) (Flo.near 1099511627776) (Flo.near 31) w
  rw [leF_near (.inr ⟨by omega, by omega⟩), leF_near (.inl ⟨by omega, by omega⟩), leF_near (.inr ⟨by omega, by omega⟩), leF_near (.inl ⟨by omega, by omega⟩), dec4, near_0, near_time, near_31] at h
  rw [← hb]
  exact h

theorem within_size (l m : Int) (w : World) (b : Bool) (ht : Wide l) (hn : Wide m) (hb : c2B l m = b) :
    Calls Try.prog 20 #[.complex .f64 (Flo.near l) (Flo.near m), .complex .f64 4607182418800017408 4607182418800017408, .complex .f64 4697254411347427328 4629700416936869888] w fun e w' => e = .returned (.bool b) ∧ w = w' := by
  unfold Wide at ht hn
  have h := within_any (Flo.near l) (Flo.near m) (Flo.near 1) (Flo.near 1) (Flo.near 1048576) (Flo.near 32) w
  rw [leF_near (.inr ⟨by omega, by omega⟩), leF_near (.inl ⟨by omega, by omega⟩), leF_near (.inr ⟨by omega, by omega⟩), leF_near (.inl ⟨by omega, by omega⟩), dec4, near_1, near_wall, near_32] at h
  rw [← hb]
  exact h

theorem goodB_c1 {t n : Int} (l m : Int) (h : c1B t n = false) : false = goodB t n l m := by
  symm; rw [Bool.eq_false_iff]; intro h'; have := goodB_iff.1 h'; rw [c1B_iff.2 (by omega)] at h; cases h
theorem goodB_c2 {l m : Int} (t n : Int) (h : c2B l m = false) : false = goodB t n l m := by
  symm; rw [Bool.eq_false_iff]; intro h'; have := goodB_iff.1 h'; rw [c2B_iff.2 (by omega)] at h; cases h
theorem goodB_c3 {t n l m : Int} (h1 : c1B t n = true) (h2 : c2B l m = true) : leF (Flo.near (n + m)) 4629700416936869888 = goodB t n l m := by
  have a := c1B_iff.1 h1
  have b := c2B_iff.1 h2
  rw [← near_32, leF_near (.inl ⟨by omega, by omega⟩), Bool.eq_iff_iff, decide_eq_true_iff, goodB_iff]
  omega

theorem good_any (t n l m : Int) (w : World) (ht : Wide t) (hn : Wide n) (hl : Wide l) (hm : Wide m) :
    Calls Try.prog 9 #[.agg #[.int .i64 t, .int .i64 n, .int .i64 l, .int .i64 m]] w fun e w' => e = .returned (.bool (goodB t n l m)) ∧ Below w.heap.size w w' := by
  cases h1 : c1B t n with
  | false =>
    have H1 := Lib.hid h1
    clear h1
    go_enter Try.func9, Try.ntmps9
    go_wp2_with fail
    refine (corner_any _ _ _ _ _).mono ?_
    rintro e w' ⟨rfl, hb⟩
    go_wp2_with fail
    refine (within_corner _ _ _ _ ht hn H1.out).mono ?_
    rintro e w' ⟨rfl, rfl⟩
    go_wp2
    go_ret
    exact ⟨ret_bool (goodB_c1 l m H1.out), ((Below.refl _ _).alloc (Nat.le_refl _) _).trans (hb.mono (by simp))⟩
  | true =>
    have H1 := Lib.hid h1
    have hr := c1B_iff.1 h1
    clear h1
    cases h2 : c2B l m with
    | false =>
      have H2 := Lib.hid h2
      have HR := Lib.hid hr
      clear h2 hr
      go_enter Try.func9, Try.ntmps9
      go_wp2_with fail
      refine (corner_any _ _ _ _ _).mono ?_
      rintro e w1 ⟨rfl, hb⟩
      obtain ⟨hc, hf⟩ := bcell hb
      have hz : w.heap.size < w1.heap.size := by have := hb.size; simp at this; omega
      have HB := Lib.hid hb
      clear hb
      go_wp2_with fail
      refine (within_corner _ _ _ _ ht hn H1.out).mono ?_
      rintro e w' ⟨rfl, rfl⟩
      go_wp2_with fail
      refine (size_any _ _ _ _ _).mono ?_
      rintro e w2 ⟨rfl, hb2⟩
      go_wp2_with fail
      refine (within_size _ _ _ _ hl hm H2.out).mono ?_
      rintro e w' ⟨rfl, rfl⟩
      go_wp2
      go_ret
      exact ⟨ret_bool (goodB_c2 t n H2.out), (((Below.refl _ _).alloc (Nat.le_refl _) _).trans (HB.out.mono (by simp))).trans (hb2.mono (by omega))⟩
    | true =>
      have H2 := Lib.hid h2
      have hr2 := c2B_iff.1 h2
      have h3 := goodB_c3 H1.out h2
      have k1 : Small t := by unfold Small; omega
      have k2 : Small n := by unfold Small; omega
      have k3 : Small l := by unfold Small; omega
      have k4 : Small m := by unfold Small; omega
      generalize hg : goodB t n l m = g at *
      clear h2 hr hr2 hg
      unfold leF at h3
      go_enter Try.func9, Try.ntmps9
      go_wp2_with fail
      refine (corner_any _ _ _ _ _).mono ?_
      rintro e w1 ⟨rfl, hb⟩
      obtain ⟨hc, hf⟩ := bcell hb
      have hz : w.heap.size < w1.heap.size := by have := hb.size; simp at this; omega
      have HB := Lib.hid hb
      clear hb
      go_wp2_with fail
      refine (within_corner _ _ _ _ ht hn H1.out).mono ?_
      rintro e w' ⟨rfl, rfl⟩
      go_wp2_with fail
      refine (size_any _ _ _ _ _).mono ?_
      rintro e w2 ⟨rfl, hb2⟩
      obtain ⟨hc2, hf2⟩ := bcell hb2
      have hz2 : w.heap.size < w2.heap.size := by have := hb2.size; omega
      have HB2 := Lib.hid hb2
      clear hb2
      go_wp2_with fail
      refine (within_size _ _ _ _ hl hm H2.out).mono ?_
      rintro e w' ⟨rfl, rfl⟩
      go_wp2_with fail
      refine (far_any _ _ _ _ _ k1 k2 k3 k4).mono ?_
      rintro e w3 ⟨rfl, hb3⟩
      go_wp2
      go_ret
      exact ⟨rfl, ((((Below.refl _ _).alloc (Nat.le_refl _) _).trans (HB.out.mono (by simp))).trans (HB2.out.mono (by omega))).trans (hb3.mono (by omega))⟩

end Go.Proofs.Ytahkhkfmpnoneaa.Pla
