/- Common to the claims of this seat, part 18: texts that were written one by one, laid behind one another. -/
import Derived.Test.YtjcndgopijpibaaGreatPart1
import Derived.Test.YtjcndgopijpibaaGreatPart2
import Derived.Test.YtjcndgopijpibaaGreatPart6
import Derived.Test.YtjcndgopijpibaaGreatPart8
import Derived.Test.YtjcndgopijpibaaGreatPart10
import Derived.Test.YtjcndgopijpibaaGreatPart11
/- Book, the landed: legs from one allocation into another one. -/
namespace Go.Proofs.YtjcndgopijpibaaGreat.Bok
set_option maxRecDepth 100000
open Go.RowKit
open Go.Sort
open Kit
open Foot
open Tre (Lst inI lst_keep lst_at lst_new lst_none encF encF_len encL_len IntsL goodB)
open Led (Lg encG encG_len)
open Snp (Sn Sv encK encK_len encK_one)
set_option linter.unusedVariables false
variable {w w' W0 W : World} {B : Nat}
set_option maxHeartbeats 8000000 in
theorem transfer_any (y : Sv) (hc : Cal W0 W B y) (hn : y.allocs.length ≤ 16) (sq tm kd : Int) (ky nm : ByteArray) (aa ga : Option Addr) (cp gn gc : Nat) (p0 p1 p2 : Int) (hp : inI p2) (hA : IntsL W aa 3 cp [p0, p1, p2]) :
    Calls Tryz.prog 68 #[.pointer (some ⟨B, 0, none⟩), .agg #[.int .i64 sq, .int .i64 tm, .int .i64 kd, .string ky, .string nm, .slice aa 3 cp, .slice ga gn gc]] W (LegP W0 B (bankE y.t 5 nm [p0, p1, p2]) (bankS y.t 5 nm [p0, p1, p2]) (bankL y.t 5 [p0, p1, p2])) := by
  obtain ⟨ba, oa, rfl⟩ := lst_at hA (by omega)
  have hfl : y.l.n = y.allocs.length := (own_lst encL_len hc.bo.o.l).len.symm
  have HE := Lib.hid (show bankE y.t 5 nm [p0, p1, p2] = if 0 ≤ p0 ∧ p0 < (y.allocs.length : Int) then (if 0 ≤ p1 ∧ p1 < (y.allocs.length : Int) then (if p0 = p1 ∨ p2 < 1 then 1 else 0) else 4) else 4 by
    show (if inL y.allocs p0 then (if inL y.allocs p1 then (if p0 = p1 ∨ p2 < 1 then (1 : Int) else 0) else 4) else 4) = _
    unfold inL; simp only [decide_eq_true_eq])
  have HSL := Lib.hid (show bankS y.t 5 nm [p0, p1, p2] = y.t ∧ bankL y.t 5 [p0, p1, p2] = pair (1 + 3 * p0) (1 + 3 * p1) p2 from ⟨rfl, rfl⟩)
  have hba := below_alloc W (.cells #[.int .i64 sq, .int .i64 tm, .int .i64 kd, .string ky, .string nm, .slice (some ⟨ba, oa, none⟩) 3 cp, .slice ga gn gc] 34)
  have htb := tx_box W sq tm kd ky nm (some ⟨ba, oa, none⟩) ga 3 cp gn gc
  obtain ⟨wa, hwa⟩ : ∃ z, z = W.alloc (.cells #[.int .i64 sq, .int .i64 tm, .int .i64 kd, .string ky, .string nm, .slice (some ⟨ba, oa, none⟩) 3 cp, .slice ga gn gc] 34) := ⟨_, rfl⟩
  rw [← hwa] at htb hba
  have HWa := Lib.hid hwa
  have hA2 := lst_keep Tre.encI_len hA hba
  have k5 : wa.cell? ⟨W.heap.size, 5, none⟩ = some (.slice (some ⟨ba, oa, none⟩) 3 cp) := Arr.blk_cell htb 5
  have hca := hc.keep hba
  have HBo := Lib.hid hca
  have hgeW := Lib.hid hca.below.size
  have q0 : wa.cell? ⟨ba, oa, none⟩ = some (.int .i64 p0) := Tre.int_cell hA2 (k := 0) (by simp)
  have q1 : wa.cell? ⟨ba, oa + 1, none⟩ = some (.int .i64 p1) := Tre.int_cell hA2 (k := 1) (by simp)
  have q2 : wa.cell? ⟨ba, oa + 2, none⟩ = some (.int .i64 p2) := Tre.int_cell hA2 (k := 2) (by simp)
  have HP := Lib.hid (And.intro hp (And.intro hfl hn))
  clear hA hA2 hp htb hba hwa hca hc hfl hn
  go_enter Tryz.func68, Tryz.ntmps68
  go_upto_region 1 with fail
  rw [← HWa.out]
  go_wp2_with fail
  go_big_quiet (fail)
  generalize hw2 : World.drewN wa _ = w2
  have hq2 : Below wa.heap.size wa w2 := by rw [← hw2]; exact Tre.below_drewN' _ _
  have H2 := Lib.hid (HBo.out.keep hq2)
  clear hw2 hq2 q0 q1 q2 k5
  have p4 : w2.cell? ⟨B, 4, none⟩ = some (.slice y.l.a y.l.n y.l.c) := Arr.blk_cell H2.out.bo.b 4
  by_cases hin : 0 ≤ p0 ∧ p0 < (y.l.n : Int)
  · have HI := Lib.hid (isAlloc_any w2 B y.l.a y.l.n y.l.c p0 true p4 ⟨fun _ => hin, fun _ => rfl⟩)
    have HIn := Lib.hid (show 0 ≤ p0 ∧ p0 < (y.allocs.length : Int) by rw [← HP.out.2.1]; exact hin)
    clear hin
    by_cases hin : 0 ≤ p1 ∧ p1 < (y.l.n : Int)
    · have HJ := Lib.hid (isAlloc_any w2 B y.l.a y.l.n y.l.c p1 true p4 ⟨fun _ => hin, fun _ => rfl⟩)
      have HJn := Lib.hid (show 0 ≤ p1 ∧ p1 < (y.allocs.length : Int) by rw [← HP.out.2.1]; exact hin)
      clear hin p4
      go_wp2_with fail
      refine HI.out.mono ?_
      rintro e w3 ⟨rfl, h3⟩
      subst h3
      go_wp2_with fail
      refine HJ.out.mono ?_
      rintro e w3 ⟨rfl, h3⟩
      subst h3
      by_cases he : p0 = p1
      · have HE2 := Lib.hid (show bankE y.t 5 nm [p0, p1, p2] = 1 by rw [HE.out, if_pos HIn.out, if_pos HJn.out, if_pos (.inl he)])
        subst he
        go_wp2_with fail
        go_ret2
        exact ⟨y, none, 0, 0, by rw [HE2.out]; rfl, (fun h => by rw [HE2.out] at h; exact absurd h (by decide)), H2.out.below⟩
      · have hne : (p0 == p1) = false := beq_false_of_ne he
        by_cases h1 : p2 < 1
        · have HE2 := Lib.hid (show bankE y.t 5 nm [p0, p1, p2] = 1 by rw [HE.out, if_pos HIn.out, if_pos HJn.out, if_pos (.inr h1)])
          go_wp2_with fail
          go_ret2
          exact ⟨y, none, 0, 0, by rw [HE2.out]; rfl, (fun h => by rw [HE2.out] at h; exact absurd h (by decide)), H2.out.below⟩
        · have HE2 := Lib.hid (show bankE y.t 5 nm [p0, p1, p2] = 0 by rw [HE.out, if_pos HIn.out, if_pos HJn.out, if_neg (by omega)])
          go_wp2_with fail
          refine (available_any w2 p0 HIn.out.1 (by have := HIn.out.2; have := HP.out.2.2; omega)).mono ?_
          rintro e w3 ⟨rfl, h3⟩
          subst h3
          go_wp2_with fail
          refine (available_any w2 p1 HJn.out.1 (by have := HJn.out.2; have := HP.out.2.2; omega)).mono ?_
          rintro e w3 ⟨rfl, h3⟩
          subst h3
          go_wp2_with fail
          refine (move_any w2 (1 + 3 * p0) (1 + 3 * p1) p2 (by omega) HP.out.1.2).mono ?_
          rintro e w4 ⟨rfl, ho4, hb4⟩
          have H4 := Lib.hid (And.intro (H2.out.keep hb4) (owns_le ho4 H2.out.below.size))
          clear ho4 hb4
          go_wp2_with fail
          go_ret2
          exact ⟨y, _, 2, 2, by rw [HE2.out]; rfl, (fun _ => ⟨by rw [HSL.out.1], H4.out.1.bo, by rw [HSL.out.2]; exact H4.out.2⟩), H4.out.1.below⟩
    · have HJ := Lib.hid (isAlloc_any w2 B y.l.a y.l.n y.l.c p1 false p4 ⟨(fun h => by cases h), fun h => absurd h hin⟩)
      have HE2 := Lib.hid (show bankE y.t 5 nm [p0, p1, p2] = 4 by rw [HE.out, if_pos HIn.out, if_neg (by rw [← HP.out.2.1]; exact hin)])
      clear hin p4
      go_wp2_with fail
      refine HI.out.mono ?_
      rintro e w3 ⟨rfl, h3⟩
      subst h3
      go_wp2_with fail
      refine HJ.out.mono ?_
      rintro e w3 ⟨rfl, h3⟩
      subst h3
      go_wp2_with fail
      go_ret2
      exact ⟨y, none, 0, 0, by rw [HE2.out]; rfl, (fun h => by rw [HE2.out] at h; exact absurd h (by decide)), H2.out.below⟩
  · have HI := Lib.hid (isAlloc_any w2 B y.l.a y.l.n y.l.c p0 false p4 ⟨(fun h => by cases h), fun h => absurd h hin⟩)
    have HE2 := Lib.hid (show bankE y.t 5 nm [p0, p1, p2] = 4 by rw [HE.out, if_neg (by rw [← HP.out.2.1]; exact hin)])
    clear hin p4
    go_wp2_with fail
    refine HI.out.mono ?_
    rintro e w3 ⟨rfl, h3⟩
    subst h3
    go_wp2_with fail
    go_ret2
    exact ⟨y, none, 0, 0, by rw [HE2.out]; rfl, (fun h => by rw [HE2.out] at h; exact absurd h (by decide)), H2.out.below⟩
end Go.Proofs.YtjcndgopijpibaaGreat.Bok
/- Rate: rates in memory, one in a box. -/
namespace Go.Proofs.YtjcndgopijpibaaGreat.Rte
set_option maxRecDepth 100000
open Go.RowKit
open Go.Sort
open Kit
open Tre
set_option linter.unusedVariables false
variable {w w' : World}
end Go.Proofs.YtjcndgopijpibaaGreat.Rte
/- Rate: the document's Good, as it runs. -/
namespace Go.Proofs.YtjcndgopijpibaaGreat.Rte
set_option maxRecDepth 100000
open Go.RowKit
open Go.Sort
open Kit
open Tre
set_option linter.unusedVariables false
variable {w w' : World}
theorem okR_false {x : Rt} (h : x.qos < 0 ∨ 7 < x.qos ∨ x.from' < 0 ∨ 1099511627776 < x.from' ∨ x.price < 0 ∨ 1099511627776 < x.price) : okR x = false := by
  unfold okR
  rw [Bool.eq_false_iff]
  intro hc
  simp only [Bool.and_eq_true, decide_eq_true_eq] at hc
  omega
theorem okR_true {x : Rt} (h : ¬ (x.qos < 0 ∨ 7 < x.qos ∨ x.from' < 0 ∨ 1099511627776 < x.from' ∨ x.price < 0 ∨ 1099511627776 < x.price)) : okR x = true := by
  unfold okR
  simp only [Bool.and_eq_true, decide_eq_true_eq]
  omega
theorem good_no {l : List Rt} {x : Rt} (hx : x ∈ l) (h : okR x = false) : goodR l = false := by
  unfold goodR
  rw [List.all_eq_false.2 ⟨x, hx, by rw [h]; exact Bool.false_ne_true⟩, Bool.and_false]
set_option maxHeartbeats 4000000 in
theorem rgood_any (a : Option Addr) (n c : Nat) (l : List Rt) (w : World) (h : Rates w a n c l) (hn : n ≤ 100) :
    Calls Tryz.prog 42 #[.slice a n c] w fun e w' => e = .returned (.bool (goodR l)) ∧ Below w.heap.size w w' := by
  have HL := Lib.hid (And.intro h h.len)
  clear h
  go_enter Tryz.func42, Tryz.ntmps42
  go_wp2_with fail
  go_loopw [3, 4] (fun i _ wr => ∃ k : Nat, k ≤ n ∧ i = .int .i64 (k : Nat) ∧ (∀ x ∈ l.take k, okR x = true) ∧ Below w.heap.size w wr) (fun i _ _ => n - (intOf i).toNat)
  case atStart => exact ⟨0, Nat.zero_le _, rfl, (fun x hx => by simp at hx), Below.refl _ _⟩
  case round =>
    obtain ⟨k, hk, rfl, hall, hb⟩ := hrel
    have HO := Lib.hid (And.intro hall hb)
    clear hall hb
    by_cases hlt : k < n
    · have hkl : k < l.length := by rw [HL.out.2]; exact hlt
      obtain ⟨b, o, rfl⟩ := lst_at HL.out.1 (by omega)
      obtain ⟨q0, q1, q2⟩ := rate_cells (lst_keep encR_len HL.out.1 HO.out.2) hkl
      have HTk := Lib.hid (List.take_succ_eq_append_getElem hkl)
      have HMe := Lib.hid (List.getElem_mem hkl)
      generalize l[k] = x at *
      have hno : okR x = false → goodR l = false := good_no HMe.out
      have hfl := @okR_false x
      have htr := @okR_true x
      have HIf := Lib.hid (And.intro hno (And.intro hfl htr))
      obtain ⟨y0, y1, y2⟩ := x
      simp only at q0 q1 q2
      clear hno hfl htr
      have HW := Lib.hid (below_keep HO.out.2 (below_alloc wr (.cells #[.int .i64 y0, .int .i64 y1, .int .i64 y2] 83)))
      by_cases hbd : y0 < 0 ∨ 7 < y0 ∨ y1 < 0 ∨ 1099511627776 < y1 ∨ y2 < 0 ∨ 1099511627776 < y2
      · have HR := Lib.hid (HIf.out.1 (HIf.out.2.1 hbd))
        have hor : y0 < 0 ∨ (¬ y0 < 0 ∧ 7 < y0) ∨ (¬ y0 < 0 ∧ ¬ 7 < y0 ∧ y1 < 0) ∨ (¬ y0 < 0 ∧ ¬ 7 < y0 ∧ ¬ y1 < 0 ∧ 1099511627776 < y1) ∨ (¬ y0 < 0 ∧ ¬ 7 < y0 ∧ ¬ y1 < 0 ∧ ¬ 1099511627776 < y1 ∧ y2 < 0) ∨ (¬ y0 < 0 ∧ ¬ 7 < y0 ∧ ¬ y1 < 0 ∧ ¬ 1099511627776 < y1 ∧ ¬ y2 < 0 ∧ 1099511627776 < y2) := by omega
        clear hbd
        rcases hor with t1 | ⟨t1, t2⟩ | ⟨t1, t2, t3⟩ | ⟨t1, t2, t3, t4⟩ | ⟨t1, t2, t3, t4, t5⟩ | ⟨t1, t2, t3, t4, t5, t6⟩
        all_goals
          go_wp2_with fail
          go_ret
          exact ⟨by rw [HR.out]; rfl, HW.out⟩
      · have HAl := Lib.hid (show ∀ x ∈ l.take (k + 1), okR x = true by
          intro x hx
          rw [HTk.out, List.mem_append, List.mem_singleton] at hx
          rcases hx with hx | rfl
          · exact HO.out.1 x hx
          · exact HIf.out.2.2 hbd)
        obtain ⟨t1, t2, t3, t4, t5, t6⟩ : ¬ y0 < 0 ∧ ¬ 7 < y0 ∧ ¬ y1 < 0 ∧ ¬ 1099511627776 < y1 ∧ ¬ y2 < 0 ∧ ¬ 1099511627776 < y2 := by omega
        clear hbd
        go_wp2_with fail
        go_roundw
        case rel => exact ⟨k + 1, by omega, by go_num, HAl.out, HW.out⟩
        case measure => simp [intOf]; omega
    · obtain rfl : n = k := by omega
      have HG := Lib.hid (show goodR l = decide (n ≤ 16) by
        unfold goodR
        rw [HL.out.2, List.all_eq_true.2 (fun x hx => HO.out.1 x (by rw [List.take_of_length_le (by rw [HL.out.2]; exact Nat.le_refl _)]; exact hx)), Bool.and_true])
      by_cases h16 : n ≤ 16
      · have h16i : (n : Int) ≤ 16 := by omega
        have HD := Lib.hid (decide_eq_true h16)
        go_wp2_with fail
        go_ret
        exact ⟨by rw [HG.out, HD.out]; first | rfl | exact ret_bool (decide_eq_true h16i), HO.out.2⟩
      · have h16i : ¬ (n : Int) ≤ 16 := by omega
        have HD := Lib.hid (decide_eq_false h16)
        go_wp2_with fail
        go_ret
        exact ⟨by rw [HG.out, HD.out]; first | rfl | exact ret_bool (decide_eq_false h16i), HO.out.2⟩
end Go.Proofs.YtjcndgopijpibaaGreat.Rte
/- Rate, the landed: mayBe and Good do as rates must. -/
namespace Go.Proofs.YtjcndgopijpibaaGreat.Rte
set_option maxRecDepth 100000
open Go.RowKit
open Go.Sort
open Kit
open Tre
open Foot
set_option linter.unusedVariables false
variable {w w' : World}
theorem maybe_no (W : World) (y0 y1 y2 : Int) (h : y0 < 0 ∨ 7 < y0 ∨ y1 < 0 ∨ 1099511627776 < y1 ∨ y2 < 0 ∨ 1099511627776 < y2) :
    Calls Tryz.prog 120 #[.agg #[.int .i64 y0, .int .i64 y1, .int .i64 y2]] W fun e w' => e = .returned (.bool false) ∧ Below W.heap.size W w' := by
  have hb := Lib.hid (below_alloc W (.cells #[.int .i64 y0, .int .i64 y1, .int .i64 y2] 83))
  have hor : decide (0 ≤ y0) = false ∨ (0 ≤ y0 ∧ decide (y0 < 8) = false) ∨ (0 ≤ y0 ∧ y0 < 8 ∧ decide (0 ≤ y1) = false) ∨ (0 ≤ y0 ∧ y0 < 8 ∧ 0 ≤ y1 ∧ decide (y1 ≤ 1099511627776) = false) ∨ (0 ≤ y0 ∧ y0 < 8 ∧ 0 ≤ y1 ∧ y1 ≤ 1099511627776 ∧ decide (0 ≤ y2) = false) ∨ (0 ≤ y0 ∧ y0 < 8 ∧ 0 ≤ y1 ∧ y1 ≤ 1099511627776 ∧ 0 ≤ y2 ∧ decide (y2 ≤ 1099511627776) = false) := by
    simp only [decide_eq_false_iff_not]
    omega
  clear h
  rcases hor with t1 | ⟨t1, t2⟩ | ⟨t1, t2, t3⟩ | ⟨t1, t2, t3, t4⟩ | ⟨t1, t2, t3, t4, t5⟩ | ⟨t1, t2, t3, t4, t5, t6⟩
  all_goals
    go_enter Tryz.func120, Tryz.ntmps120
    go_wp2_with fail
    go_ret
    exact ⟨rfl, hb.out⟩
theorem maybe_yes (W : World) (y0 y1 y2 : Int) (h : ¬ (y0 < 0 ∨ 7 < y0 ∨ y1 < 0 ∨ 1099511627776 < y1 ∨ y2 < 0 ∨ 1099511627776 < y2)) :
    Calls Tryz.prog 120 #[.agg #[.int .i64 y0, .int .i64 y1, .int .i64 y2]] W fun e w' => e = .returned (.bool true) ∧ Below W.heap.size W w' := by
  have hb := Lib.hid (below_alloc W (.cells #[.int .i64 y0, .int .i64 y1, .int .i64 y2] 83))
  obtain ⟨t1, t2, t3, t4, t5, t6⟩ : 0 ≤ y0 ∧ y0 < 8 ∧ 0 ≤ y1 ∧ y1 ≤ 1099511627776 ∧ 0 ≤ y2 ∧ y2 ≤ 1099511627776 := by omega
  clear h
  go_enter Tryz.func120, Tryz.ntmps120
  go_wp2_with fail
  go_ret
  exact ⟨rfl, hb.out⟩
theorem maybe_any (W : World) (x : Rt) : Calls Tryz.prog 120 #[.agg #[.int .i64 x.qos, .int .i64 x.from', .int .i64 x.price]] W fun e w' => e = .returned (.bool (okR x)) ∧ Below W.heap.size W w' := by
  by_cases h : x.qos < 0 ∨ 7 < x.qos ∨ x.from' < 0 ∨ 1099511627776 < x.from' ∨ x.price < 0 ∨ 1099511627776 < x.price
  · rw [okR_false h]; exact maybe_no W _ _ _ h
  · rw [okR_true h]; exact maybe_yes W _ _ _ h
set_option maxHeartbeats 4000000 in
theorem good_land (W : World) (a : Option Addr) (n c : Nat) (l : List Rt) (h : Rates W a n c l) (hn : n ≤ 100) :
    Calls Tryz.prog 94 #[.slice a n c] W fun e w' => e = .returned (.bool (goodR l)) ∧ Below W.heap.size W w' := by
  have HL := Lib.hid (And.intro h h.len)
  clear h
  by_cases h16 : n ≤ 16
  · have h16i : ¬ (16 : Int) < (n : Int) := by omega
    go_enter Tryz.func94, Tryz.ntmps94
    go_wp2_with fail
    go_loopw [10] (fun i wr => ∃ k : Nat, k ≤ n ∧ i = .int .i64 (k : Nat) ∧ (∀ x ∈ l.take k, okR x = true) ∧ Below W.heap.size W wr) (fun i _ => n - (intOf i).toNat)
    case atStart => exact ⟨0, Nat.zero_le _, rfl, (fun x hx => by simp at hx), Below.refl _ _⟩
    case round =>
      obtain ⟨k, hk, rfl, hall, hb⟩ := hrel
      have HO := Lib.hid (And.intro hall hb)
      clear hall hb
      by_cases hlt : k < n
      · have hkl : k < l.length := by rw [HL.out.2]; exact hlt
        obtain ⟨b, o, rfl⟩ := lst_at HL.out.1 (by omega)
        obtain ⟨q0, q1, q2⟩ := rate_cells (lst_keep encR_len HL.out.1 HO.out.2) hkl
        have HTk := Lib.hid (List.take_succ_eq_append_getElem hkl)
        have HMe := Lib.hid (List.getElem_mem hkl)
        generalize l[k] = x at *
        have hno : okR x = false → goodR l = false := good_no HMe.out
        have HC := Lib.hid (maybe_any (wr.alloc (.cells #[.int .i64 x.qos, .int .i64 x.from', .int .i64 x.price] 83)) x)
        have HW := Lib.hid (below_keep HO.out.2 (below_alloc wr (.cells #[.int .i64 x.qos, .int .i64 x.from', .int .i64 x.price] 83)))
        obtain ⟨bb, hbb⟩ : ∃ bb, okR x = bb := ⟨_, rfl⟩
        have HBB := Lib.hid (And.intro hbb hno)
        rw [hbb] at HC
        obtain ⟨y0, y1, y2⟩ := x
        simp only at q0 q1 q2
        clear hno hbb
        cases bb with
        | false =>
          have HR := Lib.hid (HBB.out.2 HBB.out.1)
          go_wp2_with fail
          refine HC.out.mono ?_
          rintro e w1 ⟨rfl, hb1⟩
          have HB1 := Lib.hid (below_keep HW.out hb1)
          clear hb1
          go_wp2_with fail
          go_ret
          exact ⟨by rw [HR.out]; rfl, HB1.out⟩
        | true =>
          have HAl := Lib.hid (show ∀ x ∈ l.take (k + 1), okR x = true by
            intro x hx
            rw [HTk.out, List.mem_append, List.mem_singleton] at hx
            rcases hx with hx | rfl
            · exact HO.out.1 x hx
            · exact HBB.out.1)
          go_wp2_with fail
          refine HC.out.mono ?_
          rintro e w1 ⟨rfl, hb1⟩
          have HB1 := Lib.hid (below_keep HW.out hb1)
          clear hb1
          go_wp2_with fail
          go_roundw
          case rel => exact ⟨k + 1, by omega, by go_num, HAl.out, HB1.out⟩
          case measure => simp [intOf]; omega
      · obtain rfl : n = k := by omega
        have HG := Lib.hid (show goodR l = true by
          unfold goodR
          rw [HL.out.2, List.all_eq_true.2 (fun x hx => HO.out.1 x (by rw [List.take_of_length_le (by rw [HL.out.2]; exact Nat.le_refl _)]; exact hx)), Bool.and_true]
          exact decide_eq_true h16)
        go_wp2_with fail
        go_ret
        exact ⟨by rw [HG.out]; rfl, HO.out.2⟩
  · have h16i : (16 : Int) < (n : Int) := by omega
    have HG := Lib.hid (show goodR l = false by unfold goodR; rw [HL.out.2, decide_eq_false h16]; rfl)
    go_enter Tryz.func94, Tryz.ntmps94
    go_wp2_with fail
    go_ret
    exact ⟨by rw [HG.out]; rfl, Below.refl _ _⟩
end Go.Proofs.YtjcndgopijpibaaGreat.Rte
/- Book, the landed: a price more. -/
namespace Go.Proofs.YtjcndgopijpibaaGreat.Bok
set_option maxRecDepth 100000
open Go.RowKit
open Go.Sort
open Kit
open Foot
open Tre (Lst inI lst_keep lst_at lst_new lst_none encF encF_len encL_len IntsL)
open Rte (encR encR_len goodR)
open Led (Lg encG encG_len)
open Snp (Sn Sv encK encK_len encK_one)
set_option linter.unusedVariables false
variable {w w' W0 W : World} {B : Nat}
set_option maxHeartbeats 16000000 in
theorem addRate_any (y : Sv) (hc : Cal W0 W B y) (hn : y.rates.length ≤ 16) (sq tm kd : Int) (ky nm : ByteArray) (aa ga : Option Addr) (cp gn gc : Nat) (p0 p1 p2 : Int) (hp : inI p0 ∧ inI p1 ∧ inI p2) (hA : IntsL W aa 3 cp [p0, p1, p2]) :
    Calls Tryz.prog 69 #[.pointer (some ⟨B, 0, none⟩), .agg #[.int .i64 sq, .int .i64 tm, .int .i64 kd, .string ky, .string nm, .slice aa 3 cp, .slice ga gn gc]] W (ErrP W0 B (bankE y.t 6 nm [p0, p1, p2]) (bankS y.t 6 nm [p0, p1, p2])) := by
  obtain ⟨ba, oa, rfl⟩ := lst_at hA (by omega)
  have hfl : y.r.n = y.rates.length := (own_lst encR_len hc.bo.o.r).len.symm
  have HE := Lib.hid (show bankE y.t 6 nm [p0, p1, p2] = if 16 ≤ y.rates.length then 14 else if goodR (y.rates ++ [⟨p0, p1, p2⟩]) then 0 else 1 from rfl)
  have HSL := Lib.hid (show bankS y.t 6 nm [p0, p1, p2] = { y.t with rates := y.rates ++ [⟨p0, p1, p2⟩] } from rfl)
  have hba := below_alloc W (.cells #[.int .i64 sq, .int .i64 tm, .int .i64 kd, .string ky, .string nm, .slice (some ⟨ba, oa, none⟩) 3 cp, .slice ga gn gc] 34)
  have htb := tx_box W sq tm kd ky nm (some ⟨ba, oa, none⟩) ga 3 cp gn gc
  obtain ⟨wa, hwa⟩ : ∃ z, z = W.alloc (.cells #[.int .i64 sq, .int .i64 tm, .int .i64 kd, .string ky, .string nm, .slice (some ⟨ba, oa, none⟩) 3 cp, .slice ga gn gc] 34) := ⟨_, rfl⟩
  rw [← hwa] at htb hba
  have HWa := Lib.hid hwa
  have hA2 := lst_keep Tre.encI_len hA hba
  have q0 : wa.cell? ⟨ba, oa, none⟩ = some (.int .i64 p0) := Tre.int_cell hA2 (k := 0) (by simp)
  have q1 : wa.cell? ⟨ba, oa + 1, none⟩ = some (.int .i64 p1) := Tre.int_cell hA2 (k := 1) (by simp)
  have q2 : wa.cell? ⟨ba, oa + 2, none⟩ = some (.int .i64 p2) := Tre.int_cell hA2 (k := 2) (by simp)
  have k5 : wa.cell? ⟨W.heap.size, 5, none⟩ = some (.slice (some ⟨ba, oa, none⟩) 3 cp) := Arr.blk_cell htb 5
  have hca := hc.keep hba
  have HBo := Lib.hid hca
  have p3 : wa.cell? ⟨B, 5, none⟩ = some (.slice y.r.a y.r.n y.r.c) := Arr.blk_cell hca.bo.b 5
  have HQ := Lib.hid (show wa.cell? ⟨B, 5, none⟩ = some (.slice y.r.a y.r.n y.r.c) ∧ wa.cell? ⟨ba, oa + 2, none⟩ = some (.int .i64 p2) ∧ wa.cell? ⟨W.heap.size, 5, none⟩ = some (.slice (some ⟨ba, oa, none⟩) 3 cp) ∧ wa.cell? ⟨ba, oa, none⟩ = some (.int .i64 p0) ∧ wa.cell? ⟨ba, oa + 1, none⟩ = some (.int .i64 p1) from ⟨p3, q2, k5, q0, q1⟩)
  have HFl := Lib.hid hfl
  have hgeW := Lib.hid hca.below.size
  clear hA hA2 htb hba hwa hp hfl hca hc q0 q1 q2 k5
  go_enter Tryz.func69, Tryz.ntmps69
  go_upto_region 1 with fail
  rw [← HWa.out]
  by_cases h8 : 16 ≤ y.rates.length
  · have HE2 := Lib.hid (show bankE y.t 6 nm [p0, p1, p2] = 14 by rw [HE.out, if_pos h8])
    have h8n : (16 : Int) ≤ (y.r.n : Int) := by rw [HFl.out]; omega
    clear HE h8 hn
    go_wp2_with fail
    go_ret
    exact ⟨y, by rw [HE2.out]; rfl, (fun h => by rw [HE2.out] at h; exact absurd h (by decide)), HBo.out.below⟩
  · have h8n : ¬ (16 : Int) ≤ (y.r.n : Int) := by rw [HFl.out]; omega
    have HO := Lib.hid (show Owns encR 3 83 wa W0.heap.size (.slice y.r.a y.r.n y.r.c) y.rates ∧ W0.heap.size ≤ wa.heap.size ∧ y.rates.length + 1 ≤ 100000 from ⟨HBo.out.bo.o.r, hgeW.out, by omega⟩)
    go_upto_region 3 with fail
    clear p3
    refine Chn.wp_region_chain (fun idx => match idx with | 0 => some (.pointer (some ⟨B, 0, none⟩)) | 1 => some (.pointer (some ⟨B, 0, none⟩)) | 2 => some (.pointer (some ⟨B, 0, none⟩)) | 3 => some (.pointer (some ⟨B, 5, none⟩)) | 4 => some (.slice y.r.a y.r.n y.r.c) | 5 => some (.pointer (some ⟨W.heap.size, 5, none⟩)) | 6 => some (.slice (some ⟨ba, oa, none⟩) 3 cp) | 7 => some (.pointer (some ⟨ba, oa, none⟩)) | 8 => some (.int .i64 p0) | 9 => some (.pointer (some ⟨W.heap.size, 5, none⟩)) | 10 => some (.slice (some ⟨ba, oa, none⟩) 3 cp) | 11 => some (.pointer (some ⟨ba, oa + 1, none⟩)) | 12 => some (.int .i64 p1) | 13 => some (.pointer (some ⟨W.heap.size, 5, none⟩)) | 14 => some (.slice (some ⟨ba, oa, none⟩) 3 cp) | 15 => some (.pointer (some ⟨ba, oa + 2, none⟩)) | 16 => some (.int .i64 p2) | 17 => some (.agg #[.int .i64 p0, .int .i64 p1, .int .i64 p2]) | 20 => some (.pointer (some ⟨B, 0, none⟩)) | 21 => some (.pointer (some ⟨B, 5, none⟩)) | _ => none) [18, 19, 22] (phiB encR 3 83 wa W0.heap.size (.slice y.r.a y.r.n y.r.c) y.rates (⟨p0, p1, p2⟩ : Rte.Rt) B 5) (by kernel_rfl) (by kernel_rfl) (by kernel_rfl) (by kernel_rfl) (by kernel_rfl) (by decide) (by kernel_rfl) (rfl) ?_ ?_
    · refine ⟨?_, ?_, ?_, ?_, ?_, ?_, ?_, ?_, ?_, ?_, ?_, ?_, ?_, ?_, ?_, ?_, ?_, ?_, ?_, ?_, ?_, ?_, ?_, trivial⟩
      · intro a ww jj vs c hj0 hΦ
        have hj : jj ≤ 2 := Nat.le_trans hj0 (of_decide_eq_true (by kernel_rfl))
        refine .inl ⟨Rel.wanted_free (by kernel_rfl) _, ?_⟩
        exact Rel.wp_mv _ rfl ⟨congrArg (a.put _) (c.old 0 (v := .pointer (some ⟨B, 0, none⟩)) (by kernel_rfl) (by kernel_rfl)), rfl⟩
      · intro a ww jj vs c hj0 hΦ
        have hj : jj ≤ 1 := Nat.le_trans hj0 (of_decide_eq_true (by kernel_rfl))
        refine .inl ⟨Rel.wanted_free (by kernel_rfl) _, ?_⟩
        exact Rel.wp_mv _ rfl ⟨congrArg (a.put _) (c.old 0 (v := .pointer (some ⟨B, 0, none⟩)) (by kernel_rfl) (by kernel_rfl)), rfl⟩
      · intro a ww jj vs c hj0 hΦ
        have hj : jj ≤ 1 := Nat.le_trans hj0 (of_decide_eq_true (by kernel_rfl))
        refine .inl ⟨Rel.wanted_free (by kernel_rfl) _, ?_⟩
        exact Chn.wp_nc _ rfl (c.get 1 12 (by kernel_rfl) rfl) ⟨rfl, rfl⟩
      · intro a ww jj vs c hj0 hΦ
        have hj : jj ≤ 1 := Nat.le_trans hj0 (of_decide_eq_true (by kernel_rfl))
        refine .inl ⟨Rel.wanted_free (by kernel_rfl) _, ?_⟩
        exact Chn.wp_fa _ _ _ rfl (c.get 2 13 (by kernel_rfl) rfl) (by simp [go_sem]) ⟨rfl, rfl⟩
      · intro a ww jj vs c hj0 hΦ
        have hj : jj ≤ 1 := Nat.le_trans hj0 (of_decide_eq_true (by kernel_rfl))
        refine .inl ⟨Rel.wanted_free (by kernel_rfl) _, ?_⟩
        exact Rel.wp_ld _ _ rfl (c.get 3 14 (by kernel_rfl) rfl) (run_ld_r (phiB_cell (by omega) hΦ HQ.out.1)) ⟨rfl, rfl⟩
      · intro a ww jj vs c hj0 hΦ
        have hj : jj ≤ 0 := Nat.le_trans hj0 (of_decide_eq_true (by kernel_rfl))
        refine .inl ⟨Rel.wanted_free (by kernel_rfl) _, ?_⟩
        exact Chn.wp_fa _ _ _ rfl (c.old 3 (v := .pointer (some ⟨W.heap.size, 0, none⟩)) (by kernel_rfl) (by kernel_rfl)) (by simp [go_sem]) ⟨rfl, rfl⟩
      · intro a ww jj vs c hj0 hΦ
        have hj : jj ≤ 0 := Nat.le_trans hj0 (of_decide_eq_true (by kernel_rfl))
        refine .inl ⟨Rel.wanted_free (by kernel_rfl) _, ?_⟩
        exact Rel.wp_ld _ _ rfl (c.get 5 16 (by kernel_rfl) rfl) (run_ldIs (phiB_cell (by omega) hΦ HQ.out.2.2.1)) ⟨rfl, rfl⟩
      · intro a ww jj vs c hj0 hΦ
        have hj : jj ≤ 0 := Nat.le_trans hj0 (of_decide_eq_true (by kernel_rfl))
        refine .inl ⟨Rel.wanted_free (by kernel_rfl) _, ?_⟩
        exact Rel.wp_ia _ _ _ rfl (c.get 6 17 (by kernel_rfl) rfl) rfl (run_iaN 0 (by omega) ww) ⟨rfl, rfl⟩
      · intro a ww jj vs c hj0 hΦ
        have hj : jj ≤ 0 := Nat.le_trans hj0 (of_decide_eq_true (by kernel_rfl))
        refine .inl ⟨Rel.wanted_free (by kernel_rfl) _, ?_⟩
        exact Rel.wp_ld _ _ rfl (c.get 7 18 (by kernel_rfl) rfl) (run_ldI (phiB_cell (by omega) hΦ HQ.out.2.2.2.1)) ⟨rfl, rfl⟩
      · intro a ww jj vs c hj0 hΦ
        have hj : jj ≤ 0 := Nat.le_trans hj0 (of_decide_eq_true (by kernel_rfl))
        refine .inl ⟨Rel.wanted_free (by kernel_rfl) _, ?_⟩
        exact Chn.wp_fa _ _ _ rfl (c.old 3 (v := .pointer (some ⟨W.heap.size, 0, none⟩)) (by kernel_rfl) (by kernel_rfl)) (by simp [go_sem]) ⟨rfl, rfl⟩
      · intro a ww jj vs c hj0 hΦ
        have hj : jj ≤ 0 := Nat.le_trans hj0 (of_decide_eq_true (by kernel_rfl))
        refine .inl ⟨Rel.wanted_free (by kernel_rfl) _, ?_⟩
        exact Rel.wp_ld _ _ rfl (c.get 9 20 (by kernel_rfl) rfl) (run_ldIs (phiB_cell (by omega) hΦ HQ.out.2.2.1)) ⟨rfl, rfl⟩
      · intro a ww jj vs c hj0 hΦ
        have hj : jj ≤ 0 := Nat.le_trans hj0 (of_decide_eq_true (by kernel_rfl))
        refine .inl ⟨Rel.wanted_free (by kernel_rfl) _, ?_⟩
        exact Rel.wp_ia _ _ _ rfl (c.get 10 21 (by kernel_rfl) rfl) rfl (run_iaN 1 (by omega) ww) ⟨rfl, rfl⟩
      · intro a ww jj vs c hj0 hΦ
        have hj : jj ≤ 0 := Nat.le_trans hj0 (of_decide_eq_true (by kernel_rfl))
        refine .inl ⟨Rel.wanted_free (by kernel_rfl) _, ?_⟩
        exact Rel.wp_ld _ _ rfl (c.get 11 22 (by kernel_rfl) rfl) (run_ldI (phiB_cell (by omega) hΦ HQ.out.2.2.2.2)) ⟨rfl, rfl⟩
      · intro a ww jj vs c hj0 hΦ
        have hj : jj ≤ 0 := Nat.le_trans hj0 (of_decide_eq_true (by kernel_rfl))
        refine .inl ⟨Rel.wanted_free (by kernel_rfl) _, ?_⟩
        exact Chn.wp_fa _ _ _ rfl (c.old 3 (v := .pointer (some ⟨W.heap.size, 0, none⟩)) (by kernel_rfl) (by kernel_rfl)) (by simp [go_sem]) ⟨rfl, rfl⟩
      · intro a ww jj vs c hj0 hΦ
        have hj : jj ≤ 0 := Nat.le_trans hj0 (of_decide_eq_true (by kernel_rfl))
        refine .inl ⟨Rel.wanted_free (by kernel_rfl) _, ?_⟩
        exact Rel.wp_ld _ _ rfl (c.get 13 24 (by kernel_rfl) rfl) (run_ldIs (phiB_cell (by omega) hΦ HQ.out.2.2.1)) ⟨rfl, rfl⟩
      · intro a ww jj vs c hj0 hΦ
        have hj : jj ≤ 0 := Nat.le_trans hj0 (of_decide_eq_true (by kernel_rfl))
        refine .inl ⟨Rel.wanted_free (by kernel_rfl) _, ?_⟩
        exact Rel.wp_ia _ _ _ rfl (c.get 14 25 (by kernel_rfl) rfl) rfl (run_iaN 2 (by omega) ww) ⟨rfl, rfl⟩
      · intro a ww jj vs c hj0 hΦ
        have hj : jj ≤ 0 := Nat.le_trans hj0 (of_decide_eq_true (by kernel_rfl))
        refine .inl ⟨Rel.wanted_free (by kernel_rfl) _, ?_⟩
        exact Rel.wp_ld _ _ rfl (c.get 15 26 (by kernel_rfl) rfl) (run_ldI (phiB_cell (by omega) hΦ HQ.out.2.1)) ⟨rfl, rfl⟩
      · intro a ww jj vs c hj0 hΦ
        have hj : jj ≤ 0 := Nat.le_trans hj0 (of_decide_eq_true (by kernel_rfl))
        refine .inl ⟨Rel.wanted_free (by kernel_rfl) _, ?_⟩
        exact wp_bd3B _ _ _ _ rfl (c.get 8 19 (by kernel_rfl) rfl) (c.get 12 23 (by kernel_rfl) rfl) (c.get 16 27 (by kernel_rfl) rfl) (run_bd_r _ _ _ _) ⟨rfl, rfl⟩
      · refine ⟨0, rfl, ?_⟩
        intro a ww c hΦ
        have h : (phiB encR 3 83 wa W0.heap.size (.slice y.r.a y.r.n y.r.c) y.rates (⟨p0, p1, p2⟩ : Rte.Rt) B 5) 0 [] ww := hΦ
        clear hΦ
        refine ⟨Rel.wanted_free (by kernel_rfl) _, ?_⟩
        have hw : ww = wa.drew := h
        subst hw
        exact Chn.wp_bs1 _ _ rfl (c.get 17 28 (by kernel_rfl) rfl) (run_bs_r _ _ _ _) ⟨_, rfl, rfl, rfl⟩
      · refine ⟨1, rfl, ?_⟩
        intro a ww c hΦ
        have h : (phiB encR 3 83 wa W0.heap.size (.slice y.r.a y.r.n y.r.c) y.rates (⟨p0, p1, p2⟩ : Rte.Rt) B 5) 1 [Rel.slot a 29] ww := hΦ
        clear hΦ
        refine ⟨Rel.wanted_free (by kernel_rfl) _, ?_⟩
        obtain ⟨hu, hw⟩ := h
        obtain ⟨v, w3, hx, hm⟩ := phiB_app tyR2 (y := (⟨p0, p1, p2⟩ : Rte.Rt)) 25 HO.out.1 HO.out.2.1 HO.out.2.2 (by omega) hw
        exact Chn.wp_ap _ _ _ rfl (c.get 4 15 (by kernel_rfl) rfl) hu hx ⟨_, rfl, hm⟩
      · intro a ww jj vs c hj0 hΦ
        have hj : jj ≤ 2 := Nat.le_trans hj0 (of_decide_eq_true (by kernel_rfl))
        refine .inl ⟨Rel.wanted_free (by kernel_rfl) _, ?_⟩
        exact Chn.wp_nc _ rfl (c.get 0 11 (by kernel_rfl) rfl) ⟨rfl, rfl⟩
      · intro a ww jj vs c hj0 hΦ
        have hj : jj ≤ 2 := Nat.le_trans hj0 (of_decide_eq_true (by kernel_rfl))
        refine .inl ⟨Rel.wanted_free (by kernel_rfl) _, ?_⟩
        exact Chn.wp_fa _ _ _ rfl (c.get 20 31 (by kernel_rfl) rfl) (by simp [go_sem]) ⟨rfl, rfl⟩
      · refine ⟨2, rfl, ?_⟩
        intro a ww c hΦ
        have h : (phiB encR 3 83 wa W0.heap.size (.slice y.r.a y.r.n y.r.c) y.rates (⟨p0, p1, p2⟩ : Rte.Rt) B 5) 2 [Rel.slot a 29, Rel.slot a 30] ww := hΦ
        clear hΦ
        refine ⟨Rel.wanted_free (by kernel_rfl) _, ?_⟩
        obtain ⟨⟨ax, nx, cx, hx⟩, h1, h2⟩ := h
        rw [hx] at h1
        have hbx := blk_typed HBo.out.bo.b h2 (typed_own HO.out.1 (by decide))
        exact Chn.wp_st _ _ _ rfl (c.get 21 32 (by kernel_rfl) rfl) hx (run_st_r (u := .slice y.r.a y.r.n y.r.c) (by rw [Arr.blk_cell hbx]; rfl) (Arr.blk_frozen hbx 5)) ⟨undef, rfl, ax, nx, cx, ww, h1, h2, rfl⟩
    intro a w5 hbase hroom hdef hΦ hV
    have h : (phiB encR 3 83 wa W0.heap.size (.slice y.r.a y.r.n y.r.c) y.rates (⟨p0, p1, p2⟩ : Rte.Rt) B 5) 3 [Rel.slot a 29, Rel.slot a 30, undef] w5 := hΦ
    rw [Chn.act_puts [11, 12, 13, 14, 15, 16, 17, 18, 19, 20, 21, 22, 23, 24, 25, 26, 27, 28, 29, 30, 31, 32] hbase hroom hdef (by kernel_rfl)]
    clear hbase hroom hdef hΦ hV
    simp only [List.foldl_cons, List.foldl_nil]
    generalize Rel.slot a 11 = u11 at *
    generalize Rel.slot a 12 = u12 at *
    generalize Rel.slot a 13 = u13 at *
    generalize Rel.slot a 14 = u14 at *
    generalize Rel.slot a 15 = u15 at *
    generalize Rel.slot a 16 = u16 at *
    generalize Rel.slot a 17 = u17 at *
    generalize Rel.slot a 18 = u18 at *
    generalize Rel.slot a 19 = u19 at *
    generalize Rel.slot a 20 = u20 at *
    generalize Rel.slot a 21 = u21 at *
    generalize Rel.slot a 22 = u22 at *
    generalize Rel.slot a 23 = u23 at *
    generalize Rel.slot a 24 = u24 at *
    generalize Rel.slot a 25 = u25 at *
    generalize Rel.slot a 26 = u26 at *
    generalize Rel.slot a 27 = u27 at *
    generalize Rel.slot a 28 = u28 at *
    generalize Rel.slot a 29 = u29 at *
    generalize Rel.slot a 30 = u30 at *
    generalize Rel.slot a 31 = u31 at *
    generalize Rel.slot a 32 = u32 at *
    obtain ⟨ax, nx, cx, hb5, hw5⟩ := bo_r HBo.out.bo hgeW.out h
    obtain ⟨y2, hy2⟩ : ∃ q, q = withR y ⟨p0, p1, p2⟩ ax nx cx := ⟨_, rfl⟩
    rw [← hy2] at hb5
    have HS2 := Lib.hid (show y2.t = { y.t with rates := y.rates ++ [⟨p0, p1, p2⟩] } ∧ y2.rates = y.rates ++ [⟨p0, p1, p2⟩] by rw [hy2]; exact ⟨rfl, rfl⟩)
    have hLs : Rte.Rates w5 y2.r.a y2.r.n y2.r.c y2.rates := own_lst encR_len hb5.o.r
    have HG := Lib.hid (Rte.good_land w5 y2.r.a y2.r.n y2.r.c y2.rates hLs (by have h1 := hLs.len; rw [HS2.out.2, List.length_append] at h1; simp at h1; omega))
    have p6 := Arr.blk_cell hb5.b 5
    simp only [Snp.encV, List.getElem?_cons_zero, List.getElem?_cons_succ] at p6
    have H5 := Lib.hid (And.intro hb5 (HBo.out.below.trans hw5))
    clear h hLs hb5 hw5 hy2
    go_wp2_with fail
    refine HG.out.mono ?_
    rintro e w7 ⟨rfl, hb7⟩
    have H7 := Lib.hid (And.intro (H5.out.1.keep hb7) (below_keep H5.out.2 hb7))
    rw [HS2.out.2]
    clear hb7 H5 HG p6
    cases hg : goodR (y.rates ++ [⟨p0, p1, p2⟩]) with
    | false =>
      have HE2 := Lib.hid (show bankE y.t 6 nm [p0, p1, p2] = 1 by rw [HE.out, if_neg h8, hg]; rfl)
      clear hg h8 h8n hn HE
      go_wp2_with fail
      go_ret
      exact ⟨y2, by rw [HE2.out]; rfl, (fun h => by rw [HE2.out] at h; exact absurd h (by decide)), H7.out.2⟩
    | true =>
      have HE2 := Lib.hid (show bankE y.t 6 nm [p0, p1, p2] = 0 by rw [HE.out, if_neg h8, hg]; rfl)
      clear hg h8 h8n hn HE
      go_wp2_with fail
      go_ret
      exact ⟨y2, by rw [HE2.out]; rfl, (fun h => ⟨by rw [HSL.out]; exact HS2.out.1, H7.out.1⟩), H7.out.2⟩
end Go.Proofs.YtjcndgopijpibaaGreat.Bok
