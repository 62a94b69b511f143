/- Rate: the laws' fixed fact, RatePrices and RateStays, over any rates that do as they should. -/
import Derived.Test.YtpmllbecgiedeaaRatRef
namespace Go.Proofs.Ytpmllbecgiedeaa.Rte
set_option maxRecDepth 100000
open Go.RowKit
open Go.Sort
open Kit
open Tre
set_option linter.unusedVariables false
variable {w w' : World}

theorem run_40 (a : Option Addr) (n c : Nat) (h1 : 40 ≤ n) (h2 : n ≤ c) (w : World) : (Instr.sliceAt 22 (.slice a n c) none (some (.int .i64 40)) none).run Try.prog w = .ok (.slice a 40 c) w := by
  simp [go_sem]
  intro h; omega
theorem few_any (a : Option Addr) (n c m : Nat) (h1 : n ≤ c) (hx : c ≤ maxLen) (hm : m = min n 40) (w : World) :
    Calls Try.prog 6 #[.slice a n c] w fun e w' => e = .returned (.slice a m c) ∧ w = w' := by
  have hb1 : n ≤ 9223372036854775807 := by unfold maxLen at hx; omega
  clear hx
  by_cases g1 : 40 < n
  · have g1i : (40 : Int) < n := by omega
    have r1 := run_40 a n c (by omega) h1 w
    have e1 : Hid (m = 40) := Lib.hid (by omega)
    clear g1 hm
    go_enter Try.func6, Try.ntmps6
    go_wp2_with fail
    go_ret
    exact ⟨by rw [e1.out]; rfl, rfl⟩
  · have g1i : ¬ (40 : Int) < n := by omega
    have e1 : Hid (m = n) := Lib.hid (by omega)
    clear g1 hm
    go_enter Try.func6, Try.ntmps6
    go_wp2_with fail
    go_ret
    exact ⟨by rw [e1.out]; rfl, rfl⟩
theorem cut_rates {a : Option Addr} {n c : Nat} {l : List Rt} (h : Rates w a n c l) (hok : ∀ x ∈ l, x.ok) : ∃ m X, m = min n 40 ∧ X = l.take m ∧ Rates w a m c X ∧ (∀ x ∈ X, x.ok) ∧ m ≤ 40 :=
  ⟨min n 40, l.take (min n 40), rfl, rfl, lst_take h _ (Nat.min_le_left _ _), fun x hx => hok x (List.mem_of_mem_take hx), Nat.min_le_right _ _⟩

/-! ### The fixed fact -/

abbrev r0 : List Rt := [⟨0, 5, 10⟩, ⟨0, 9, 7⟩]
abbrev r1 : List Rt := [⟨8, 0, 0⟩]
theorem inS {n : Int} (h : -100 ≤ n ∧ n ≤ 100) : inI n := by unfold inI; omega
theorem r0_ok : ∀ x ∈ r0, x.ok := by
  intro x hx; simp at hx
  rcases hx with rfl | rfl <;> exact ⟨inS (by decide), inS (by decide), inS (by decide)⟩
theorem r1_ok : ∀ x ∈ r1, x.ok := by
  intro x hx; simp at hx
  subst hx; exact ⟨inS (by decide), inS (by decide), inS (by decide)⟩
theorem r0_price : priceN r0 0 8 = 10 ∧ priceE r0 0 8 = 0 ∧ priceN r0 0 9 = 7 ∧ priceE r0 0 9 = 0 ∧ priceN r0 0 4 = 0 ∧ priceE r0 0 4 = 12 ∧ goodR r0 = true ∧ goodR r1 = false := by decide +kernel
abbrev wA (w : World) : World := w.alloc (.cells #[.int .i64 0, .int .i64 5, .int .i64 10, .int .i64 0, .int .i64 9, .int .i64 7] 33)
set_option maxHeartbeats 4000000 in
theorem awake_any (hP : Prog) (w : World) : Calls Try.prog 9 #[] w fun e w' => e = .returned (.bool true) ∧ Below w.heap.size w w' := by
  have HR := Lib.hid (And.intro (lst_new encR_len w r0 #[.int .i64 0, .int .i64 5, .int .i64 10, .int .i64 0, .int .i64 9, .int .i64 7] 33 w.heap.size 2 rfl rfl rfl (by omega)) (below_alloc w (.cells #[.int .i64 0, .int .i64 5, .int .i64 10, .int .i64 0, .int .i64 9, .int .i64 7] 33)))
  have H1 := Lib.hid (hP.price (wA w) (some ⟨w.heap.size, 0, none⟩) 2 2 r0 0 8 HR.out.1 r0_ok (by omega) (inS (by decide)) (inS (by decide)))
  rw [r0_price.1, r0_price.2.1] at H1
  go_enter Try.func9, Try.ntmps9
  go_wp2_with fail
  refine H1.out.mono ?_
  rintro e w1 ⟨rfl, hb1⟩
  have HB1 := Lib.hid (And.intro (below_keep HR.out.2 hb1) (lst_keep encR_len HR.out.1 hb1))
  have H2 := Lib.hid (hP.price w1 (some ⟨w.heap.size, 0, none⟩) 2 2 r0 0 9 HB1.out.2 r0_ok (by omega) (inS (by decide)) (inS (by decide)))
  rw [r0_price.2.2.1, r0_price.2.2.2.1] at H2
  clear hb1 H1
  go_wp2_with fail
  refine H2.out.mono ?_
  rintro e w2 ⟨rfl, hb2⟩
  have HB2 := Lib.hid (And.intro (below_keep HB1.out.1 hb2) (lst_keep encR_len HB1.out.2 hb2))
  have H3 := Lib.hid (hP.price w2 (some ⟨w.heap.size, 0, none⟩) 2 2 r0 0 4 HB2.out.2 r0_ok (by omega) (inS (by decide)) (inS (by decide)))
  rw [r0_price.2.2.2.2.1, r0_price.2.2.2.2.2.1] at H3
  clear hb2 H2
  go_wp2_with fail
  refine H3.out.mono ?_
  rintro e w3 ⟨rfl, hb3⟩
  have HB3 := Lib.hid (And.intro (below_keep HB2.out.1 hb3) (lst_keep encR_len HB2.out.2 hb3))
  have H4 := Lib.hid (hP.good w3 (some ⟨w.heap.size, 0, none⟩) 2 2 r0 HB3.out.2 r0_ok (by omega))
  rw [r0_price.2.2.2.2.2.2.1] at H4
  clear hb3 H3
  go_wp2_with fail
  refine H4.out.mono ?_
  rintro e w4 ⟨rfl, hb4⟩
  have HB4 := Lib.hid (below_keep HB3.out.1 hb4)
  have H5 := Lib.hid (hP.good (w4.alloc (.cells #[.int .i64 8, .int .i64 0, .int .i64 0] 33)) (some ⟨w4.heap.size, 0, none⟩) 1 1 r1 (lst_new encR_len w4 r1 _ _ _ 1 rfl rfl rfl (by omega)) r1_ok (by omega))
  rw [r0_price.2.2.2.2.2.2.2] at H5
  have HB5 := Lib.hid (below_keep HB4.out (below_alloc w4 (.cells #[.int .i64 8, .int .i64 0, .int .i64 0] 33)))
  clear hb4 H4
  go_wp2_with fail
  refine H5.out.mono ?_
  rintro e w6 ⟨rfl, hb6⟩
  have HB6 := Lib.hid (below_keep HB5.out hb6)
  clear hb6
  go_wp2_with fail
  go_ret
  exact ⟨by first | rfl | exact ret_bool (by simp), HB6.out⟩

/-! ### RatePrices -/

set_option maxHeartbeats 4000000 in
theorem prices_any (hP : Prog) (W : World) (a : Option Addr) (n c : Nat) (l : List Rt) (hA : Rates W a n c l) (hok : ∀ x ∈ l, x.ok) (q t : Int) (hq : inI q) (ht : inI t) :
    Calls Try.prog 3 #[.slice a n c, .int .i64 q, .int .i64 t] W fun e W' => e = .returned (.bool true) ∧ Below W.heap.size W W' := by
  obtain ⟨m, X, hm, hX, hAX, hokX, hm40⟩ := cut_rates hA hok
  have HFew := Lib.hid (few_any a n c m hA.cap hA.max hm W)
  have HX := Lib.hid hAX
  have H1 := Lib.hid (hP.price W a m c X q t hAX hokX (by omega) hq ht)
  have H2 := Lib.hid (fun w h => rprice_any a m c X q t w h (by omega))
  have H3 := Lib.hid (fun w h => hP.good w a m c X h hokX (by omega))
  have H4 := Lib.hid (fun w h => rgood_any a m c X w h (by omega))
  have HAw := Lib.hid (fun w => awake_any hP w)
  generalize priceN X q t = pn at H1 H2
  generalize priceE X q t = pe at H1 H2
  generalize goodR X = g at H3 H4
  clear hm hX hAX hokX hm40 hA hok hq ht hP
  go_enter Try.func3, Try.ntmps3
  go_wp2_with fail
  refine HFew.out.mono ?_
  rintro e w1 ⟨rfl, rfl⟩
  go_wp2_with fail
  refine H1.out.mono ?_
  rintro e w1 ⟨rfl, hb1⟩
  have HB1 := Lib.hid hb1
  clear hb1
  go_wp2_with fail
  refine (H2.out w1 (lst_keep encR_len HX.out HB1.out)).mono ?_
  rintro e w2 ⟨rfl, hb2⟩
  have HB2 := Lib.hid (below_keep HB1.out hb2)
  clear hb2
  go_wp2_with fail
  refine (HAw.out w2).mono ?_
  rintro e w3 ⟨rfl, hb3⟩
  have HB3 := Lib.hid (below_keep HB2.out hb3)
  clear hb3
  go_wp2_with fail
  refine (H3.out w3 (lst_keep encR_len HX.out HB3.out)).mono ?_
  rintro e w4 ⟨rfl, hb4⟩
  have HB4 := Lib.hid (below_keep HB3.out hb4)
  clear hb4
  go_wp2_with fail
  refine (H4.out w4 (lst_keep encR_len HX.out HB4.out)).mono ?_
  rintro e w5 ⟨rfl, hb5⟩
  have HB5 := Lib.hid (below_keep HB4.out hb5)
  clear hb5
  go_wp2
  go_ret
  exact ⟨by first | rfl | exact ret_bool (by simp), HB5.out⟩

/-! ### RateStays -/

theorem u16_in {n : Int} (h : (Lit.int .u16 n).wf = true) : 0 ≤ n ∧ n ≤ 65535 := by
  simp [Lit.wf, IntKind.min, IntKind.max, IntKind.signed, IntKind.bits] at h
  omega
set_option maxHeartbeats 4000000 in
theorem stays_any (hP : Prog) (W : World) (a : Option Addr) (n c : Nat) (l : List Rt) (hA : Rates W a n c l) (hok : ∀ x ∈ l, x.ok) (q : Int) (hq : inI q) (t u : Nat) (ht : t ≤ 65535) (hu : u ≤ 255) :
    Calls Try.prog 5 #[.slice a n c, .int .i64 q, .int .u16 (t : Nat), .int .u8 (u : Nat)] W fun e W' => e = .returned (.bool true) ∧ Below W.heap.size W W' := by
  obtain ⟨m, X, hm, hX, hAX, hokX, hm40⟩ := cut_rates hA hok
  have HFew := Lib.hid (few_any a n c m hA.cap hA.max hm W)
  have HX := Lib.hid (And.intro hAX hAX.len)
  have H1 := Lib.hid (hP.price W a m c X q t hAX hokX (by omega) hq (by unfold inI; omega))
  have H2 := Lib.hid (fun w h => hP.price w a m c X q ((t : Int) + (u : Int)) h hokX (by omega) hq (by unfold inI; omega))
  have HAw := Lib.hid (fun w => awake_any hP w)
  have HSt := Lib.hid (fun h => show priceN X q ((t : Int) + (u : Int)) = priceN X q t ∧ priceE X q ((t : Int) + (u : Int)) = priceE X q t by
    have := best_stays (q := q) (t := t) (u := (t : Int) + (u : Int)) (by omega) (l := X) h
    unfold priceN priceE
    rw [this]; exact ⟨rfl, rfl⟩)
  generalize priceN X q t = pn at *
  generalize priceE X q t = pe at *
  generalize priceN X q ((t : Int) + (u : Int)) = pn2 at *
  generalize priceE X q ((t : Int) + (u : Int)) = pe2 at *
  clear hm hX hAX hokX hA hok hq hP
  go_enter Try.func5, Try.ntmps5
  go_wp2_with fail
  refine HFew.out.mono ?_
  rintro e w1 ⟨rfl, rfl⟩
  go_wp2_with fail
  refine H1.out.mono ?_
  rintro e w1 ⟨rfl, hb1⟩
  have HB1 := Lib.hid hb1
  clear hb1
  go_wp2_with fail
  go_loop [12] (fun i => ∃ j : Nat, j ≤ m ∧ i = .int .i64 (j : Nat) ∧ Hid (∀ r ∈ X.take j, ¬ (r.qos = q ∧ (t : Int) < r.from' ∧ r.from' ≤ (t : Int) + (u : Int)))) (fun i => m - (intOf i).toNat)
  case atStart => exact ⟨0, Nat.zero_le _, rfl, Lib.hid (fun r hr => by simp at hr)⟩
  case round =>
    obtain ⟨j, hj, rfl, hno⟩ := hrel
    by_cases hlt : j < m
    · have hjX : j < X.length := by rw [HX.out.2]; exact hlt
      obtain ⟨b, o, rfl⟩ := lst_at HX.out.1 (by omega)
      obtain ⟨p0, p1, -⟩ := rate_cells (lst_keep encR_len HX.out.1 HB1.out) hjX
      have HTk := Lib.hid (List.take_succ_eq_append_getElem hjX)
      generalize X[j] = x at *
      obtain ⟨x0, x1, x2⟩ := x
      simp only at p0 p1
      by_cases hin : x0 = q ∧ (t : Int) < x1 ∧ x1 ≤ (t : Int) + (u : Int)
      · obtain ⟨s1, s2, s3⟩ := hin
        subst s1
        go_wp2_with fail
        refine (HAw.out w1).mono ?_
        rintro e w3 ⟨rfl, hb3⟩
        have HB3 := Lib.hid (below_keep HB1.out hb3)
        clear hb3
        go_wp2_with fail
        go_ret
        exact ⟨rfl, HB3.out⟩
      · have HNo := Lib.hid (show ∀ r ∈ X.take (j + 1), ¬ (r.qos = q ∧ (t : Int) < r.from' ∧ r.from' ≤ (t : Int) + (u : Int)) by
          intro r hr
          rw [HTk.out, List.mem_append, List.mem_singleton] at hr
          rcases hr with hr | rfl
          · exact hno.out r hr
          · exact hin)
        have hor : (¬ x0 = q) ∨ (x0 = q ∧ ¬ (t : Int) < x1) ∨ (x0 = q ∧ (t : Int) < x1 ∧ ¬ x1 ≤ (t : Int) + (u : Int)) := by omega
        clear hin
        rcases hor with s1 | ⟨s1, s2⟩ | ⟨s1, s2, s3⟩
        · have s4 : (x0 == q) = false := beq_false_of_ne s1
          clear s1
          go_wp2_with fail
          go_round
          case rel => exact ⟨j + 1, by omega, by go_num, HNo⟩
          case measure => simp [intOf]; omega
        · subst s1
          go_wp2_with fail
          go_round
          case rel => exact ⟨j + 1, by omega, by go_num, HNo⟩
          case measure => simp [intOf]; omega
        · subst s1
          go_wp2_with fail
          go_round
          case rel => exact ⟨j + 1, by omega, by go_num, HNo⟩
          case measure => simp [intOf]; omega
    · obtain rfl : m = j := by omega
      obtain ⟨k1, k2⟩ := HSt.out (fun r hr => hno.out r (by rw [List.take_of_length_le (by rw [HX.out.2]; exact Nat.le_refl _)]; exact hr))
      subst k1 k2
      go_wp2_with fail
      refine (H2.out w1 (lst_keep encR_len HX.out.1 HB1.out)).mono ?_
      rintro e w2 ⟨rfl, hb2⟩
      have HB2 := Lib.hid (below_keep HB1.out hb2)
      clear hb2
      go_wp2_with fail
      refine (HAw.out w2).mono ?_
      rintro e w3 ⟨rfl, hb3⟩
      have HB3 := Lib.hid (below_keep HB2.out hb3)
      clear hb3
      go_wp2_with fail
      go_ret
      exact ⟨by first | rfl | exact ret_bool (by simp), HB3.out⟩
end Go.Proofs.Ytpmllbecgiedeaa.Rte
