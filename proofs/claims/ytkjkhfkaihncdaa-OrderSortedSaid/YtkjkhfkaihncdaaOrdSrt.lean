/- Order: OrderSorted, over any order that does as it should. -/
import Derived.Test.YtkjkhfkaihncdaaOrdLaw
namespace Go.Proofs.Ytkjkhfkaihncdaa.Ord
set_option maxRecDepth 100000
open Go.RowKit
open Go.Sort
open Kit
open Tre (Lst inI lst_keep lst_take lst_at lst_new lst_none IntsL int_cell encI encI_len NewI OwI ints_any below_drewN')
open Job (Jb Jv Jobs encJ encJ_len job_cell job_keep)
open Drw (Dw)
set_option linter.unusedVariables false
variable {w w' : World}

theorem places_q (l : List Jb) : (places l).length = qTo l l.length := by unfold places ord; rw [List.length_map, ord_len]
set_option maxHeartbeats 8000000 in
theorem sorted_any (hP : Prog) (W : World) (a : Option Addr) (n c : Nat) (l : List Jv) (hJ : Jobs W a n c l) (hin : ∀ x ∈ l, x.In W) (hok : ∀ x ∈ l, x.t.ok) :
    Calls Try.prog 4 #[.slice a n c] W fun e W' => e = .returned (.bool true) ∧ Below W.heap.size W W' := by
  obtain ⟨m0, X, hm, hX, hinX, hokX, hm40⟩ := cut_jobs hJ hin hok
  have HFew := Lib.hid (few_any a n c m0 hJ.cap hJ.max hm W)
  have HOr := Lib.hid (hP.order W a m0 c X hX hinX hokX hm40)
  have HAw := Lib.hid (fun w1 => awake_any hP w1)
  have HX := Lib.hid hX
  have HM := Lib.hid (And.intro hm40 hX.len)
  have hb40 : m0 ≤ 40 := hm40
  clear hm hX hinX hokX hm40 hJ hin hok hP
  go_enter Try.func4, Try.ntmps4
  go_wp2_with fail
  refine HFew.out.mono ?_
  rintro e w1 ⟨rfl, rfl⟩
  go_wp2_with fail
  refine HOr.out.mono ?_
  rintro e w1 ⟨v1, rfl, ⟨a1, c1, rfl, hi1, -⟩, hb1⟩
  have HR := Lib.hid (show (places (ts X)).length ≤ 40 by have := places_len (ts X); unfold ts at this; rw [List.length_map, HM.out.2] at this; exact Nat.le_trans this HM.out.1)
  have HQ := Lib.hid (show (places (ts X)).length = qTo (ts X) m0 by rw [places_q]; unfold ts; rw [List.length_map, HM.out.2])
  obtain ⟨r, hr⟩ : ∃ r, r = (places (ts X)).length := ⟨_, rfl⟩
  rw [← hr] at hi1 HR HQ ⊢
  have HRr := Lib.hid hr
  have hr40 : r ≤ 40 := HR.out
  have HB1 := Lib.hid (And.intro hb1 hi1)
  have HJ1 := Lib.hid (lst_keep encJ_len HX.out hb1)
  clear hr hi1 hb1 HOr
  go_upto_block 0 with fail
  go_cut [5] (fun qv wx => qv = .int .i64 (qTo (ts X) m0 : Nat) ∧ Below w1.heap.size w1 wx)
  case first =>
    go_wp2_with fail
    go_loopw [5, 6] (fun qv i wr => ∃ k : Nat, k ≤ m0 ∧ i = .int .i64 (k : Nat) ∧ qv = .int .i64 (qTo (ts X) k : Nat) ∧ Below w1.heap.size w1 wr) (fun _ i _ => m0 - (intOf i).toNat)
    case atStart => exact ⟨0, Nat.zero_le _, rfl, rfl, Below.refl _ _⟩
    case round =>
      obtain ⟨k, hk, rfl, rfl, hb⟩ := hrel
      have HB := Lib.hid hb
      by_cases hlt : k < m0
      · have hJw := lst_keep encJ_len HJ1.out hb
        have hkx : k < (ts X).length := by unfold ts; rw [List.length_map, HM.out.2]; exact hlt
        obtain ⟨b, o, rfl⟩ := lst_at hJw (by omega)
        obtain ⟨x, hx⟩ : ∃ x, (ts X)[k]? = some x := ⟨_, List.getElem?_eq_getElem hkx⟩
        obtain ⟨-, -, -, -, q7⟩ := job_at hJw hx
        have hq : isQ (ts X) k = (x.state == 1) := isQ_get hx
        have hle := q_le (ts X) k
        have hnx : qTo (ts X) (k + 1) = qTo (ts X) k + (if isQ (ts X) k then 1 else 0) := by rw [qTo]
        obtain ⟨st, hst⟩ : ∃ st, st = x.state := ⟨_, rfl⟩
        obtain ⟨q, hqq⟩ : ∃ q, q = qTo (ts X) k := ⟨_, rfl⟩
        rw [← hst] at q7 hq
        rw [← hqq] at hle hnx ⊢
        clear hst hx hkx hqq hJw hb
        by_cases hs1 : st = 1
        · subst hs1
          have HN := Lib.hid (show qTo (ts X) (k + 1) = q + 1 by rw [hnx, hq]; rfl)
          clear hq hnx
          go_wp2_with fail
          go_roundw
          case rel => exact ⟨k + 1, by omega, by go_num, by rw [HN.out]; go_num, HB.out⟩
          case measure => simp [intOf]; omega
        · have HN := Lib.hid (show qTo (ts X) (k + 1) = q by rw [hnx, hq, beq_false_of_ne hs1]; rfl)
          clear hq hnx
          go_wp2_with fail
          go_roundw
          case rel => exact ⟨k + 1, by omega, by go_num, by rw [HN.out], HB.out⟩
          case measure => simp [intOf]; omega
      · obtain rfl : k = m0 := by omega
        clear hb
        go_wp2_with fail
        go_meet
        case rel => exact ⟨rfl, HB.out⟩
  case rest =>
  obtain ⟨rfl, hbx⟩ := hcut
  rw [← HQ.out]
  have HB2 := Lib.hid hbx
  clear hbx
  go_wp2_with fail
  go_loopw [7] (fun i wr => ∃ k : Nat, k ≤ r ∧ i = .int .i64 (k : Nat) ∧ Below w1.heap.size w1 wr) (fun i _ => r - (intOf i).toNat)
  case atStart => exact ⟨0, Nat.zero_le _, rfl, HB2.out⟩
  case round =>
    obtain ⟨k, hk, rfl, hb⟩ := hrel
    have HB := Lib.hid hb
    by_cases hlt : k < r
    · obtain ⟨m, x, hm1, hm2, hm3, hx, hxs⟩ := place_at (l := ts X) (i := k) (by rw [← HRr.out]; exact hlt)
      have hJw := lst_keep encJ_len HJ1.out hb
      have hmn : m < m0 := by have := hm3; unfold ts at this; rw [List.length_map, HM.out.2] at this; exact this
      obtain ⟨b, o, rfl⟩ := lst_at hJw (by omega)
      obtain ⟨b1, o1, rfl⟩ := lst_at HB1.out.2 (by omega)
      have q1 := int_cell (lst_keep encI_len HB1.out.2 hb) (k := k) (by rw [← HRr.out]; exact hlt)
      rw [hm2] at q1
      obtain ⟨-, -, -, -, q7⟩ := job_at hJw hx
      rw [hxs] at q7
      have hm4 : (m : Int) < (m0 : Int) := by omega
      have hm5 : ¬ (m : Int) < 0 := by omega
      have hm6 : ¬ (m0 : Int) ≤ (m : Int) := by omega
      have HMx := Lib.hid (And.intro hm1 hx)
      have HMp := Lib.hid hm2
      clear hb hm1 hm2 hm3 hx hxs hJw
      go_wp2_with fail
      go_loopw [8] (fun i wi => ∃ j : Nat, j ≤ k ∧ i = .int .i64 (j : Nat) ∧ Below w1.heap.size w1 wi) (fun i _ => k - (intOf i).toNat)
      case atStart => exact ⟨0, Nat.zero_le _, rfl, by first | exact HB.out | exact below_keep HB.out (below_drewN' _ _)⟩
      case round =>
        obtain ⟨j, hj, rfl, hbi⟩ := hrel
        have HBi := Lib.hid hbi
        by_cases hjk : j < k
        · obtain ⟨mj, y, hn1, hn2, hn3, hy, hys⟩ := place_at (l := ts X) (i := j) (by rw [← HRr.out]; omega)
          have hJi := lst_keep encJ_len HJ1.out hbi
          have hap := ord_apart hjk hn1 HMx.out.1 hy HMx.out.2
          have hmj : mj < m0 := by have := hn3; unfold ts at this; rw [List.length_map, HM.out.2] at this; exact this
          have p1 := int_cell (lst_keep encI_len HB1.out.2 hbi) (k := k) (by rw [← HRr.out]; exact hlt)
          have p2 := int_cell (lst_keep encI_len HB1.out.2 hbi) (k := j) (by rw [← HRr.out]; omega)
          rw [hn2] at p2
          rw [HMp.out] at p1
          obtain ⟨q0, -, -, q5, -⟩ := job_at hJi HMx.out.2
          obtain ⟨s0, -, -, s5, -⟩ := job_at hJi hy
          have hm7 : (mj : Int) < (m0 : Int) := by omega
          have hne : ((mj : Int) == (m : Int)) = false := beq_false_of_ne (fun e => hap.1 (by omega))
          have hjr : (j : Int) < (r : Int) := by omega
          obtain ⟨xi, hxi⟩ : ∃ v, v = x.id := ⟨_, rfl⟩
          obtain ⟨xp, hxp⟩ : ∃ v, v = x.prio := ⟨_, rfl⟩
          obtain ⟨yi, hyi⟩ : ∃ v, v = y.id := ⟨_, rfl⟩
          obtain ⟨yp, hyp⟩ : ∃ v, v = y.prio := ⟨_, rfl⟩
          rw [← hxi] at q0 hap
          rw [← hxp] at q5 hap
          rw [← hyi] at s0 hap
          rw [← hyp] at s5 hap
          clear hbi hn1 hn2 hn3 hy hys hJi hxi hxp hyi hyp
          have hl1 : decide (yp < xp) = false := decide_eq_false hap.2.1
          by_cases hpp : yp = xp
          · subst hpp
            have hl2 : decide (xi < yi) = false := decide_eq_false (hap.2.2 rfl)
            clear hap
            go_wp2_with fail
            go_big_quiet (fail)
            go_wp2_with fail
            go_roundw
            case rel => exact ⟨j + 1, by omega, by go_num, below_keep HBi.out (below_drewN' _ _)⟩
            case measure => simp [intOf]; omega
          · have hpe : (yp == xp) = false := beq_false_of_ne hpp
            clear hap hpp
            go_wp2_with fail
            go_big_quiet (fail)
            go_wp2_with fail
            go_roundw
            case rel => exact ⟨j + 1, by omega, by go_num, below_keep HBi.out (below_drewN' _ _)⟩
            case measure => simp [intOf]; omega
        · obtain rfl : j = k := by omega
          clear hbi
          go_wp2_with fail
          go_roundw
          case rel => exact ⟨j + 1, by omega, by go_num, HBi.out⟩
          case measure => simp [intOf]; omega
    · obtain rfl : k = r := by omega
      clear hb
      go_wp2_with fail
      refine (HAw.out _).mono ?_
      rintro e w4 ⟨rfl, hb4⟩
      have HB4 := Lib.hid (below_keep HB1.out.1 (below_keep HB.out hb4))
      clear hb4
      go_wp2_with fail
      go_ret
      exact ⟨rfl, HB4.out⟩
end Go.Proofs.Ytkjkhfkaihncdaa.Ord
