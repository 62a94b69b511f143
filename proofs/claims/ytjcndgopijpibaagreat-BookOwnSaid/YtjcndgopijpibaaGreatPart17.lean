/- Common to the claims of this seat, part 17: texts that were written one by one, laid behind one another. -/
import Derived.Test.YtjcndgopijpibaaGreatPart11
import Derived.Test.YtjcndgopijpibaaGreatPart15
/- Book, the landed: an allocation more. -/
namespace Go.Proofs.YtjcndgopijpibaaGreat.Bok
set_option maxRecDepth 100000
open Go.RowKit
open Go.Sort
open Kit
open Foot
open Tre (Lst inI lst_keep lst_at lst_new lst_none encF encF_len encL_len IntsL goodB)
open Led (Lg encG encG_len)
open Snp (Sn Sv encK encK_len encK_one)
set_option linter.unusedVariables false
variable {w w' W0 W : World} {B : Nat}
set_option maxHeartbeats 16000000 in
theorem addAlloc_any (y : Sv) (hc : Cal W0 W B y) (hn : y.allocs.length ≤ 16) (sq tm kd : Int) (ky nm : ByteArray) (aa ga : Option Addr) (cp gn gc : Nat) (p0 p1 p2 p3 : Int) (hp : inI p3) (hA : IntsL W aa 4 cp [p0, p1, p2, p3]) :
    Calls Tryz.prog 65 #[.pointer (some ⟨B, 0, none⟩), .agg #[.int .i64 sq, .int .i64 tm, .int .i64 kd, .string ky, .string nm, .slice aa 4 cp, .slice ga gn gc]] W (LegP W0 B (bankE y.t 2 nm [p0, p1, p2, p3]) (bankS y.t 2 nm [p0, p1, p2, p3]) (bankL y.t 2 [p0, p1, p2, p3])) := by
  obtain ⟨ba, oa, rfl⟩ := lst_at hA (by omega)
  have hfl : y.l.n = y.allocs.length := (own_lst encL_len hc.bo.o.l).len.symm
  have hff : y.f.n = y.funds.length := (own_lst encF_len hc.bo.o.f).len.symm
  have HE := Lib.hid (show bankE y.t 2 nm [p0, p1, p2, p3] = if 0 ≤ p0 ∧ p0 < (y.funds.length : Int) then (if p1 < 0 ∨ p2 ≤ p1 ∨ 1099511627776 < p2 ∨ p3 < 1 then 1 else if 16 ≤ y.allocs.length then 14 else 0) else 4 by
    show (if inL y.funds p0 then (if p1 < 0 ∨ p2 ≤ p1 ∨ 1099511627776 < p2 ∨ p3 < 1 then (1 : Int) else if 16 ≤ y.allocs.length then 14 else 0) else 4) = _
    unfold inL; simp only [decide_eq_true_eq])
  have HSL := Lib.hid (show bankS y.t 2 nm [p0, p1, p2, p3] = { y.t with allocs := y.allocs ++ [⟨p0, p1, p2, 0, 0, 0⟩] } ∧ bankL y.t 2 [p0, p1, p2, p3] = pair 0 (1 + 3 * (y.allocs.length : Int)) p3 from ⟨rfl, rfl⟩)
  have hba := below_alloc W (.cells #[.int .i64 sq, .int .i64 tm, .int .i64 kd, .string ky, .string nm, .slice (some ⟨ba, oa, none⟩) 4 cp, .slice ga gn gc] 34)
  have htb := tx_box W sq tm kd ky nm (some ⟨ba, oa, none⟩) ga 4 cp gn gc
  obtain ⟨wa, hwa⟩ : ∃ z, z = W.alloc (.cells #[.int .i64 sq, .int .i64 tm, .int .i64 kd, .string ky, .string nm, .slice (some ⟨ba, oa, none⟩) 4 cp, .slice ga gn gc] 34) := ⟨_, rfl⟩
  rw [← hwa] at htb hba
  have HWa := Lib.hid hwa
  have hA2 := lst_keep Tre.encI_len hA hba
  have k5 : wa.cell? ⟨W.heap.size, 5, none⟩ = some (.slice (some ⟨ba, oa, none⟩) 4 cp) := Arr.blk_cell htb 5
  have hca := hc.keep hba
  have HBo := Lib.hid hca
  have hgeW := Lib.hid hca.below.size
  have q0 : wa.cell? ⟨ba, oa, none⟩ = some (.int .i64 p0) := Tre.int_cell hA2 (k := 0) (by simp)
  have q1 : wa.cell? ⟨ba, oa + 1, none⟩ = some (.int .i64 p1) := Tre.int_cell hA2 (k := 1) (by simp)
  have q2 : wa.cell? ⟨ba, oa + 2, none⟩ = some (.int .i64 p2) := Tre.int_cell hA2 (k := 2) (by simp)
  have q3 : wa.cell? ⟨ba, oa + 3, none⟩ = some (.int .i64 p3) := Tre.int_cell hA2 (k := 3) (by simp)
  have HQ := Lib.hid (show wa.cell? ⟨W.heap.size, 5, none⟩ = some (.slice (some ⟨ba, oa, none⟩) 4 cp) ∧ wa.cell? ⟨ba, oa, none⟩ = some (.int .i64 p0) ∧ wa.cell? ⟨ba, oa + 1, none⟩ = some (.int .i64 p1) ∧ wa.cell? ⟨ba, oa + 2, none⟩ = some (.int .i64 p2) ∧ wa.cell? ⟨ba, oa + 3, none⟩ = some (.int .i64 p3) from ⟨k5, q0, q1, q2, q3⟩)
  have HP := Lib.hid (And.intro hp (And.intro hfl (And.intro hff hn)))
  clear hA hA2 hp htb hba hwa hca hc hfl hff hn q0 q1 q2 q3 k5
  go_enter Tryz.func65, Tryz.ntmps65
  go_upto_region 1 with fail
  rw [← HWa.out]
  refine Chn.wp_region_chain (fun idx => match idx with | 0 => some (.pointer (some ⟨W.heap.size, 5, none⟩)) | 1 => some (.slice (some ⟨ba, oa, none⟩) 4 cp) | 2 => some (.pointer (some ⟨ba, oa, none⟩)) | 3 => some (.int .i64 p0) | 4 => some (.pointer (some ⟨W.heap.size, 5, none⟩)) | 5 => some (.slice (some ⟨ba, oa, none⟩) 4 cp) | 6 => some (.pointer (some ⟨ba, oa + 1, none⟩)) | 7 => some (.int .i64 p1) | 8 => some (.pointer (some ⟨W.heap.size, 5, none⟩)) | 9 => some (.slice (some ⟨ba, oa, none⟩) 4 cp) | 10 => some (.pointer (some ⟨ba, oa + 2, none⟩)) | 11 => some (.int .i64 p2) | 12 => some (.agg #[.int .i64 p0, .int .i64 p1, .int .i64 p2, .int .i64 0, .int .i64 0, .int .i64 0]) | 13 => some (.pointer (some ⟨W.heap.size, 5, none⟩)) | 14 => some (.slice (some ⟨ba, oa, none⟩) 4 cp) | 15 => some (.pointer (some ⟨ba, oa + 3, none⟩)) | 16 => some (.int .i64 p3) | 19 => some (.int .i64 p3) | _ => none) [17, 18] (phiA wa #[.int .i64 p0, .int .i64 p1, .int .i64 p2, .int .i64 0, .int .i64 0, .int .i64 0]) (by kernel_rfl) (by kernel_rfl) (by kernel_rfl) (by kernel_rfl) (by kernel_rfl) (by decide) (by kernel_rfl) (rfl) ?_ ?_
  · refine ⟨?_, ?_, ?_, ?_, ?_, ?_, ?_, ?_, ?_, ?_, ?_, ?_, ?_, ?_, ?_, ?_, ?_, ?_, ?_, ?_, trivial⟩
    · intro a ww jj vs c hj0 hΦ
      have hj : jj ≤ 1 := Nat.le_trans hj0 (of_decide_eq_true (by kernel_rfl))
      refine .inl ⟨Rel.wanted_free (by kernel_rfl) _, ?_⟩
      exact Chn.wp_fa _ _ _ rfl (c.old 3 (v := .pointer (some ⟨W.heap.size, 0, none⟩)) (by kernel_rfl) (by kernel_rfl)) (by simp [go_sem]) ⟨rfl, rfl⟩
    · intro a ww jj vs c hj0 hΦ
      have hj : jj ≤ 1 := Nat.le_trans hj0 (of_decide_eq_true (by kernel_rfl))
      refine .inl ⟨Rel.wanted_free (by kernel_rfl) _, ?_⟩
      exact Rel.wp_ld _ _ rfl (c.get 0 9 (by kernel_rfl) rfl) (run_ldIs (phiA_cell (by omega) hΦ HQ.out.1)) ⟨rfl, rfl⟩
    · intro a ww jj vs c hj0 hΦ
      have hj : jj ≤ 1 := Nat.le_trans hj0 (of_decide_eq_true (by kernel_rfl))
      refine .inl ⟨Rel.wanted_free (by kernel_rfl) _, ?_⟩
      exact Rel.wp_ia _ _ _ rfl (c.get 1 10 (by kernel_rfl) rfl) rfl (run_iaN 0 (by omega) ww) ⟨rfl, rfl⟩
    · intro a ww jj vs c hj0 hΦ
      have hj : jj ≤ 1 := Nat.le_trans hj0 (of_decide_eq_true (by kernel_rfl))
      refine .inl ⟨Rel.wanted_free (by kernel_rfl) _, ?_⟩
      exact Rel.wp_ld _ _ rfl (c.get 2 11 (by kernel_rfl) rfl) (run_ldI (phiA_cell (by omega) hΦ HQ.out.2.1)) ⟨rfl, rfl⟩
    · intro a ww jj vs c hj0 hΦ
      have hj : jj ≤ 1 := Nat.le_trans hj0 (of_decide_eq_true (by kernel_rfl))
      refine .inl ⟨Rel.wanted_free (by kernel_rfl) _, ?_⟩
      exact Chn.wp_fa _ _ _ rfl (c.old 3 (v := .pointer (some ⟨W.heap.size, 0, none⟩)) (by kernel_rfl) (by kernel_rfl)) (by simp [go_sem]) ⟨rfl, rfl⟩
    · intro a ww jj vs c hj0 hΦ
      have hj : jj ≤ 1 := Nat.le_trans hj0 (of_decide_eq_true (by kernel_rfl))
      refine .inl ⟨Rel.wanted_free (by kernel_rfl) _, ?_⟩
      exact Rel.wp_ld _ _ rfl (c.get 4 13 (by kernel_rfl) rfl) (run_ldIs (phiA_cell (by omega) hΦ HQ.out.1)) ⟨rfl, rfl⟩
    · intro a ww jj vs c hj0 hΦ
      have hj : jj ≤ 1 := Nat.le_trans hj0 (of_decide_eq_true (by kernel_rfl))
      refine .inl ⟨Rel.wanted_free (by kernel_rfl) _, ?_⟩
      exact Rel.wp_ia _ _ _ rfl (c.get 5 14 (by kernel_rfl) rfl) rfl (run_iaN 1 (by omega) ww) ⟨rfl, rfl⟩
    · intro a ww jj vs c hj0 hΦ
      have hj : jj ≤ 1 := Nat.le_trans hj0 (of_decide_eq_true (by kernel_rfl))
      refine .inl ⟨Rel.wanted_free (by kernel_rfl) _, ?_⟩
      exact Rel.wp_ld _ _ rfl (c.get 6 15 (by kernel_rfl) rfl) (run_ldI (phiA_cell (by omega) hΦ HQ.out.2.2.1)) ⟨rfl, rfl⟩
    · intro a ww jj vs c hj0 hΦ
      have hj : jj ≤ 1 := Nat.le_trans hj0 (of_decide_eq_true (by kernel_rfl))
      refine .inl ⟨Rel.wanted_free (by kernel_rfl) _, ?_⟩
      exact Chn.wp_fa _ _ _ rfl (c.old 3 (v := .pointer (some ⟨W.heap.size, 0, none⟩)) (by kernel_rfl) (by kernel_rfl)) (by simp [go_sem]) ⟨rfl, rfl⟩
    · intro a ww jj vs c hj0 hΦ
      have hj : jj ≤ 1 := Nat.le_trans hj0 (of_decide_eq_true (by kernel_rfl))
      refine .inl ⟨Rel.wanted_free (by kernel_rfl) _, ?_⟩
      exact Rel.wp_ld _ _ rfl (c.get 8 17 (by kernel_rfl) rfl) (run_ldIs (phiA_cell (by omega) hΦ HQ.out.1)) ⟨rfl, rfl⟩
    · intro a ww jj vs c hj0 hΦ
      have hj : jj ≤ 1 := Nat.le_trans hj0 (of_decide_eq_true (by kernel_rfl))
      refine .inl ⟨Rel.wanted_free (by kernel_rfl) _, ?_⟩
      exact Rel.wp_ia _ _ _ rfl (c.get 9 18 (by kernel_rfl) rfl) rfl (run_iaN 2 (by omega) ww) ⟨rfl, rfl⟩
    · intro a ww jj vs c hj0 hΦ
      have hj : jj ≤ 1 := Nat.le_trans hj0 (of_decide_eq_true (by kernel_rfl))
      refine .inl ⟨Rel.wanted_free (by kernel_rfl) _, ?_⟩
      exact Rel.wp_ld _ _ rfl (c.get 10 19 (by kernel_rfl) rfl) (run_ldI (phiA_cell (by omega) hΦ HQ.out.2.2.2.1)) ⟨rfl, rfl⟩
    · intro a ww jj vs c hj0 hΦ
      have hj : jj ≤ 1 := Nat.le_trans hj0 (of_decide_eq_true (by kernel_rfl))
      refine .inl ⟨Rel.wanted_free (by kernel_rfl) _, ?_⟩
      exact wp_bd3B _ _ _ _ rfl (c.get 3 12 (by kernel_rfl) rfl) (c.get 7 16 (by kernel_rfl) rfl) (c.get 11 20 (by kernel_rfl) rfl) (run_bd_a _ _ _ _) ⟨rfl, rfl⟩
    · intro a ww jj vs c hj0 hΦ
      have hj : jj ≤ 2 := Nat.le_trans hj0 (of_decide_eq_true (by kernel_rfl))
      refine .inl ⟨Rel.wanted_free (by kernel_rfl) _, ?_⟩
      exact Chn.wp_fa _ _ _ rfl (c.old 3 (v := .pointer (some ⟨W.heap.size, 0, none⟩)) (by kernel_rfl) (by kernel_rfl)) (by simp [go_sem]) ⟨rfl, rfl⟩
    · intro a ww jj vs c hj0 hΦ
      have hj : jj ≤ 2 := Nat.le_trans hj0 (of_decide_eq_true (by kernel_rfl))
      refine .inl ⟨Rel.wanted_free (by kernel_rfl) _, ?_⟩
      exact Rel.wp_ld _ _ rfl (c.get 13 22 (by kernel_rfl) rfl) (run_ldIs (phiA_cell (by omega) hΦ HQ.out.1)) ⟨rfl, rfl⟩
    · intro a ww jj vs c hj0 hΦ
      have hj : jj ≤ 2 := Nat.le_trans hj0 (of_decide_eq_true (by kernel_rfl))
      refine .inl ⟨Rel.wanted_free (by kernel_rfl) _, ?_⟩
      exact Rel.wp_ia _ _ _ rfl (c.get 14 23 (by kernel_rfl) rfl) rfl (run_iaN 3 (by omega) ww) ⟨rfl, rfl⟩
    · intro a ww jj vs c hj0 hΦ
      have hj : jj ≤ 2 := Nat.le_trans hj0 (of_decide_eq_true (by kernel_rfl))
      refine .inl ⟨Rel.wanted_free (by kernel_rfl) _, ?_⟩
      exact Rel.wp_ld _ _ rfl (c.get 15 24 (by kernel_rfl) rfl) (run_ldI (phiA_cell (by omega) hΦ HQ.out.2.2.2.2)) ⟨rfl, rfl⟩
    · refine ⟨0, rfl, ?_⟩
      intro a ww c hΦ
      have h : (phiA wa #[.int .i64 p0, .int .i64 p1, .int .i64 p2, .int .i64 0, .int .i64 0, .int .i64 0]) 0 [] ww := hΦ
      clear hΦ
      refine ⟨Rel.wanted_free (by kernel_rfl) _, ?_⟩
      have hw : ww = wa.drew := h
      subst hw
      exact wp_alJ _ rfl (run_alloc_al _) ⟨_, rfl, rfl, rfl⟩
    · refine ⟨1, rfl, ?_⟩
      intro a ww c hΦ
      have h : (phiA wa #[.int .i64 p0, .int .i64 p1, .int .i64 p2, .int .i64 0, .int .i64 0, .int .i64 0]) 1 [Rel.slot a 6] ww := hΦ
      clear hΦ
      refine ⟨Rel.wanted_free (by kernel_rfl) _, ?_⟩
      obtain ⟨hu, hw⟩ := h
      exact Chn.wp_st _ _ _ rfl hu (c.get 12 21 (by kernel_rfl) rfl) (by rw [hw]; exact run_st_al _ _ _ wa.drew) ⟨undef, rfl, hu, rfl⟩
    · intro a ww jj vs c hj0 hΦ
      have hj : jj ≤ 2 := Nat.le_trans hj0 (of_decide_eq_true (by kernel_rfl))
      refine .inl ⟨Rel.wanted_free (by kernel_rfl) _, ?_⟩
      exact Rel.wp_as _ rfl ⟨congrArg (a.put _) (c.get 16 25 (by kernel_rfl) rfl), rfl⟩
  intro a w1 hbase hroom hdef hΦ hV
  have h : (phiA wa #[.int .i64 p0, .int .i64 p1, .int .i64 p2, .int .i64 0, .int .i64 0, .int .i64 0]) 2 [Rel.slot a 6, undef] w1 := hΦ
  have s7 := hV 19 _ 7 _ rfl rfl rfl
  rw [Chn.act_puts [9, 10, 11, 12, 13, 14, 15, 16, 17, 18, 19, 20, 21, 22, 23, 24, 25, 6, 7] hbase hroom hdef (by kernel_rfl)]
  clear hbase hroom hdef hΦ hV
  simp only [List.foldl_cons, List.foldl_nil]
  generalize Rel.slot a 9 = u9 at *
  generalize Rel.slot a 10 = u10 at *
  generalize Rel.slot a 11 = u11 at *
  generalize Rel.slot a 12 = u12 at *
  generalize Rel.slot a 13 = u13 at *
  generalize Rel.slot a 14 = u14 at *
  generalize Rel.slot a 15 = u15 at *
  generalize Rel.slot a 16 = u16 at *
  generalize Rel.slot a 17 = u17 at *
  generalize Rel.slot a 18 = u18 at *
  generalize Rel.slot a 19 = u19 at *
  generalize Rel.slot a 20 = u20 at *
  generalize Rel.slot a 21 = u21 at *
  generalize Rel.slot a 22 = u22 at *
  generalize Rel.slot a 23 = u23 at *
  generalize Rel.slot a 24 = u24 at *
  generalize Rel.slot a 25 = u25 at *
  generalize Rel.slot a 6 = u6 at *
  rw [s7]
  clear s7
  obtain ⟨e1, hw1⟩ := h
  subst e1
  have hbw : Below wa.heap.size wa w1 := by rw [hw1]; exact below_keep (below_drew wa) (below_alloc _ _)
  have hgb : Arr.Blk w1 wa.heap.size 65 [.int .i64 p0, .int .i64 p1, .int .i64 p2, .int .i64 0, .int .i64 0, .int .i64 0] := by rw [hw1]; exact Arr.blk_new wa.drew _ _ _ rfl
  have H1 := Lib.hid (And.intro (HBo.out.keep hbw) hgb)
  have g0 : w1.cell? ⟨wa.heap.size, 0, none⟩ = some (.int .i64 p0) := Arr.blk_cell hgb 0
  have g1 : w1.cell? ⟨wa.heap.size, 1, none⟩ = some (.int .i64 p1) := Arr.blk_cell hgb 1
  have g2 : w1.cell? ⟨wa.heap.size, 2, none⟩ = some (.int .i64 p2) := Arr.blk_cell hgb 2
  clear hbw hgb hw1
  have p3' : w1.cell? ⟨B, 3, none⟩ = some (.slice y.f.a y.f.n y.f.c) := Arr.blk_cell H1.out.1.bo.b 3
  have p4 : w1.cell? ⟨B, 4, none⟩ = some (.slice y.l.a y.l.n y.l.c) := Arr.blk_cell H1.out.1.bo.b 4
  have HQ1 := Lib.hid p4
  have hin : (¬ p1 < 0 ∧ ¬ p2 ≤ p1 ∧ ¬ 1099511627776 < p2 ∧ ¬ p3 < 1) ∨ p1 < 0 ∨ (¬ p1 < 0 ∧ p2 ≤ p1) ∨ (¬ p1 < 0 ∧ ¬ p2 ≤ p1 ∧ 1099511627776 < p2) ∨ (¬ p1 < 0 ∧ ¬ p2 ≤ p1 ∧ ¬ 1099511627776 < p2 ∧ p3 < 1) := by omega
  have HIn := Lib.hid hin
  clear hin
  by_cases hin : 0 ≤ p0 ∧ p0 < (y.f.n : Int)
  · have HI := Lib.hid (isFund_any w1 B y.f.a y.f.n y.f.c p0 true p3' ⟨fun _ => hin, fun _ => rfl⟩)
    have HF := Lib.hid (show 0 ≤ p0 ∧ p0 < (y.funds.length : Int) by rw [← HP.out.2.2.1]; exact hin)
    clear hin p3'
    go_wp2_with fail
    refine HI.out.mono ?_
    rintro e w3 ⟨rfl, h3⟩
    subst h3
    rcases HIn.out with hin | h0 | ⟨h0, h1⟩ | ⟨h0, h1, h2⟩ | ⟨h0, h1, h2, h3⟩
    rotate_left
    · have HE2 := Lib.hid (show bankE y.t 2 nm [p0, p1, p2, p3] = 1 by rw [HE.out, if_pos HF.out, if_pos (.inl h0)])
      have d0 : decide (p1 < 0) = true := decide_eq_true (by omega)
      clear p4
      go_wp2_with fail
      go_ret2
      exact ⟨y, none, 0, 0, by rw [HE2.out]; rfl, (fun h => by rw [HE2.out] at h; exact absurd h (by decide)), H1.out.1.below⟩
    · have HE2 := Lib.hid (show bankE y.t 2 nm [p0, p1, p2, p3] = 1 by rw [HE.out, if_pos HF.out, if_pos (.inr (.inl h1))])
      have d0 : decide (p1 < 0) = false := decide_eq_false (by omega)
      have d1 : decide (p2 ≤ p1) = true := decide_eq_true (by omega)
      clear p4
      go_wp2_with fail
      go_ret2
      exact ⟨y, none, 0, 0, by rw [HE2.out]; rfl, (fun h => by rw [HE2.out] at h; exact absurd h (by decide)), H1.out.1.below⟩
    · have HE2 := Lib.hid (show bankE y.t 2 nm [p0, p1, p2, p3] = 1 by rw [HE.out, if_pos HF.out, if_pos (.inr (.inr (.inl h2)))])
      have d0 : decide (p1 < 0) = false := decide_eq_false (by omega)
      have d1 : decide (p2 ≤ p1) = false := decide_eq_false (by omega)
      have d2 : decide (1099511627776 < p2) = true := decide_eq_true (by omega)
      clear p4
      go_wp2_with fail
      go_ret2
      exact ⟨y, none, 0, 0, by rw [HE2.out]; rfl, (fun h => by rw [HE2.out] at h; exact absurd h (by decide)), H1.out.1.below⟩
    · have HE2 := Lib.hid (show bankE y.t 2 nm [p0, p1, p2, p3] = 1 by rw [HE.out, if_pos HF.out, if_pos (.inr (.inr (.inr h3)))])
      have d0 : decide (p1 < 0) = false := decide_eq_false (by omega)
      have d1 : decide (p2 ≤ p1) = false := decide_eq_false (by omega)
      have d2 : decide (1099511627776 < p2) = false := decide_eq_false (by omega)
      have d3 : decide (p3 < 1) = true := decide_eq_true (by omega)
      clear p4
      go_wp2_with fail
      go_ret2
      exact ⟨y, none, 0, 0, by rw [HE2.out]; rfl, (fun h => by rw [HE2.out] at h; exact absurd h (by decide)), H1.out.1.below⟩
    obtain ⟨h0, h1, h2, h3⟩ := hin
    have d0 : decide (p1 < 0) = false := decide_eq_false (by omega)
    have d1 : decide (p2 ≤ p1) = false := decide_eq_false (by omega)
    have d2 : decide (1099511627776 < p2) = false := decide_eq_false (by omega)
    have d3 : decide (p3 < 1) = false := decide_eq_false (by omega)
    by_cases h8 : 16 ≤ y.allocs.length
    · have HE2 := Lib.hid (show bankE y.t 2 nm [p0, p1, p2, p3] = 14 by rw [HE.out, if_pos HF.out, if_neg (by omega), if_pos h8])
      have h8n : (16 : Int) ≤ (y.l.n : Int) := by rw [HP.out.2.1]; omega
      clear h8
      go_wp2_with fail
      go_ret2
      exact ⟨y, none, 0, 0, by rw [HE2.out]; rfl, (fun h => by rw [HE2.out] at h; exact absurd h (by decide)), H1.out.1.below⟩
    have HE2 := Lib.hid (show bankE y.t 2 nm [p0, p1, p2, p3] = 0 by rw [HE.out, if_pos HF.out, if_neg (by omega), if_neg h8])
    have h8n : ¬ (16 : Int) ≤ (y.l.n : Int) := by rw [HP.out.2.1]; omega
    have H3 := Lib.hid h3
    have HO := Lib.hid (show Owns Tre.encL 6 65 w1 W0.heap.size (.slice y.l.a y.l.n y.l.c) y.allocs ∧ W0.heap.size ≤ w1.heap.size ∧ y.allocs.length + 1 ≤ 100000 from ⟨H1.out.1.bo.o.l, H1.out.1.below.size, by have := HP.out.2.2.2; omega⟩)
    clear h8
    go_upto_region 9 with fail
    clear p4 g0 g1 g2 h8n d0 d1 d2 d3 h0 h1 h2 h3
    refine Chn.wp_region_chain (fun idx => match idx with | 0 => some (.pointer (some ⟨B, 0, none⟩)) | 1 => some (.pointer (some ⟨B, 0, none⟩)) | 2 => some (.pointer (some ⟨B, 0, none⟩)) | 3 => some (.pointer (some ⟨B, 4, none⟩)) | 4 => some (.slice y.l.a y.l.n y.l.c) | 5 => some (.agg #[.int .i64 p0, .int .i64 p1, .int .i64 p2, .int .i64 0, .int .i64 0, .int .i64 0]) | 8 => some (.pointer (some ⟨B, 0, none⟩)) | 9 => some (.pointer (some ⟨B, 4, none⟩)) | _ => none) [6, 7, 10] (phiB Tre.encL 6 65 w1 W0.heap.size (.slice y.l.a y.l.n y.l.c) y.allocs (⟨p0, p1, p2, 0, 0, 0⟩ : Tre.Al) B 4) (by kernel_rfl) (by kernel_rfl) (by kernel_rfl) (by kernel_rfl) (by kernel_rfl) (by decide) (by kernel_rfl) (rfl) ?_ ?_
    · refine ⟨?_, ?_, ?_, ?_, ?_, ?_, ?_, ?_, ?_, ?_, ?_, trivial⟩
      · intro a ww jj vs c hj0 hΦ
        have hj : jj ≤ 2 := Nat.le_trans hj0 (of_decide_eq_true (by kernel_rfl))
        refine .inl ⟨Rel.wanted_free (by kernel_rfl) _, ?_⟩
        exact Rel.wp_mv _ rfl ⟨congrArg (a.put _) (c.old 0 (v := .pointer (some ⟨B, 0, none⟩)) (by kernel_rfl) (by kernel_rfl)), rfl⟩
      · intro a ww jj vs c hj0 hΦ
        have hj : jj ≤ 1 := Nat.le_trans hj0 (of_decide_eq_true (by kernel_rfl))
        refine .inl ⟨Rel.wanted_free (by kernel_rfl) _, ?_⟩
        exact Rel.wp_mv _ rfl ⟨congrArg (a.put _) (c.old 0 (v := .pointer (some ⟨B, 0, none⟩)) (by kernel_rfl) (by kernel_rfl)), rfl⟩
      · intro a ww jj vs c hj0 hΦ
        have hj : jj ≤ 1 := Nat.le_trans hj0 (of_decide_eq_true (by kernel_rfl))
        refine .inl ⟨Rel.wanted_free (by kernel_rfl) _, ?_⟩
        exact Chn.wp_nc _ rfl (c.get 1 62 (by kernel_rfl) rfl) ⟨rfl, rfl⟩
      · intro a ww jj vs c hj0 hΦ
        have hj : jj ≤ 1 := Nat.le_trans hj0 (of_decide_eq_true (by kernel_rfl))
        refine .inl ⟨Rel.wanted_free (by kernel_rfl) _, ?_⟩
        exact Chn.wp_fa _ _ _ rfl (c.get 2 63 (by kernel_rfl) rfl) (by simp [go_sem]) ⟨rfl, rfl⟩
      · intro a ww jj vs c hj0 hΦ
        have hj : jj ≤ 1 := Nat.le_trans hj0 (of_decide_eq_true (by kernel_rfl))
        refine .inl ⟨Rel.wanted_free (by kernel_rfl) _, ?_⟩
        exact Rel.wp_ld _ _ rfl (c.get 3 64 (by kernel_rfl) rfl) (run_ld_a (phiB_cell (by omega) hΦ HQ1.out)) ⟨rfl, rfl⟩
      · intro a ww jj vs c hj0 hΦ
        have hj : jj ≤ 0 := Nat.le_trans hj0 (of_decide_eq_true (by kernel_rfl))
        refine .inl ⟨Rel.wanted_free (by kernel_rfl) _, ?_⟩
        exact Rel.wp_ld _ _ rfl (c.old 6 (v := .pointer (some ⟨wa.heap.size, 0, none⟩)) (by kernel_rfl) (by kernel_rfl)) (run_ldAl (phiB_blk (by omega) hΦ H1.out.2) rfl) ⟨rfl, rfl⟩
      · refine ⟨0, rfl, ?_⟩
        intro a ww c hΦ
        have h : (phiB Tre.encL 6 65 w1 W0.heap.size (.slice y.l.a y.l.n y.l.c) y.allocs (⟨p0, p1, p2, 0, 0, 0⟩ : Tre.Al) B 4) 0 [] ww := hΦ
        clear hΦ
        refine ⟨Rel.wanted_free (by kernel_rfl) _, ?_⟩
        have hw : ww = w1.drew := h
        subst hw
        exact Chn.wp_bs1 _ _ rfl (c.get 5 66 (by kernel_rfl) rfl) (run_bs_a _ _ _ _) ⟨_, rfl, rfl, rfl⟩
      · refine ⟨1, rfl, ?_⟩
        intro a ww c hΦ
        have h : (phiB Tre.encL 6 65 w1 W0.heap.size (.slice y.l.a y.l.n y.l.c) y.allocs (⟨p0, p1, p2, 0, 0, 0⟩ : Tre.Al) B 4) 1 [Rel.slot a 67] ww := hΦ
        clear hΦ
        refine ⟨Rel.wanted_free (by kernel_rfl) _, ?_⟩
        obtain ⟨hu, hw⟩ := h
        obtain ⟨v, w3, hx, hm⟩ := phiB_app tyA2 (y := (⟨p0, p1, p2, 0, 0, 0⟩ : Tre.Al)) 24 HO.out.1 HO.out.2.1 HO.out.2.2 (by omega) hw
        exact Chn.wp_ap _ _ _ rfl (c.get 4 65 (by kernel_rfl) rfl) hu hx ⟨_, rfl, hm⟩
      · intro a ww jj vs c hj0 hΦ
        have hj : jj ≤ 2 := Nat.le_trans hj0 (of_decide_eq_true (by kernel_rfl))
        refine .inl ⟨Rel.wanted_free (by kernel_rfl) _, ?_⟩
        exact Chn.wp_nc _ rfl (c.get 0 61 (by kernel_rfl) rfl) ⟨rfl, rfl⟩
      · intro a ww jj vs c hj0 hΦ
        have hj : jj ≤ 2 := Nat.le_trans hj0 (of_decide_eq_true (by kernel_rfl))
        refine .inl ⟨Rel.wanted_free (by kernel_rfl) _, ?_⟩
        exact Chn.wp_fa _ _ _ rfl (c.get 8 69 (by kernel_rfl) rfl) (by simp [go_sem]) ⟨rfl, rfl⟩
      · refine ⟨2, rfl, ?_⟩
        intro a ww c hΦ
        have h : (phiB Tre.encL 6 65 w1 W0.heap.size (.slice y.l.a y.l.n y.l.c) y.allocs (⟨p0, p1, p2, 0, 0, 0⟩ : Tre.Al) B 4) 2 [Rel.slot a 67, Rel.slot a 68] ww := hΦ
        clear hΦ
        refine ⟨Rel.wanted_free (by kernel_rfl) _, ?_⟩
        obtain ⟨⟨ax, nx, cx, hx⟩, h1, h2⟩ := h
        rw [hx] at h1
        have hbx := blk_typed H1.out.1.bo.b h2 (typed_own HO.out.1 (by decide))
        exact Chn.wp_st _ _ _ rfl (c.get 9 70 (by kernel_rfl) rfl) hx (run_st_a (u := .slice y.l.a y.l.n y.l.c) (by rw [Arr.blk_cell hbx]; rfl) (Arr.blk_frozen hbx 4)) ⟨undef, rfl, ax, nx, cx, ww, h1, h2, rfl⟩
    intro a w5 hbase hroom hdef hΦ hV
    have h : (phiB Tre.encL 6 65 w1 W0.heap.size (.slice y.l.a y.l.n y.l.c) y.allocs (⟨p0, p1, p2, 0, 0, 0⟩ : Tre.Al) B 4) 3 [Rel.slot a 67, Rel.slot a 68, undef] w5 := hΦ
    rw [Chn.act_puts [61, 62, 63, 64, 65, 66, 67, 68, 69, 70] hbase hroom hdef (by kernel_rfl)]
    clear hbase hroom hdef hΦ hV
    simp only [List.foldl_cons, List.foldl_nil]
    generalize Rel.slot a 61 = u61 at *
    generalize Rel.slot a 62 = u62 at *
    generalize Rel.slot a 63 = u63 at *
    generalize Rel.slot a 64 = u64 at *
    generalize Rel.slot a 65 = u65 at *
    generalize Rel.slot a 66 = u66 at *
    generalize Rel.slot a 67 = u67 at *
    generalize Rel.slot a 68 = u68 at *
    generalize Rel.slot a 69 = u69 at *
    generalize Rel.slot a 70 = u70 at *
    obtain ⟨ax, nx, cx, hb5, hw5⟩ := bo_a H1.out.1.bo H1.out.1.below.size h
    obtain ⟨y2, hy2⟩ : ∃ q, q = withA y ⟨p0, p1, p2, 0, 0, 0⟩ ax nx cx := ⟨_, rfl⟩
    rw [← hy2] at hb5
    have HS2 := Lib.hid (show y2.t = { y.t with allocs := y.allocs ++ [⟨p0, p1, p2, 0, 0, 0⟩] } by rw [hy2]; rfl)
    have H5 := Lib.hid (Cal.mk hb5 (H1.out.1.below.trans hw5))
    have HN := Lib.hid (show 0 ≤ ((y.l.n : Nat) : Int) ∧ ((y.l.n : Nat) : Int) ≤ 100 by have := HP.out.2.1; have := HP.out.2.2.2; omega)
    clear h hb5 hw5 hy2
    go_wp2_with fail
    refine (available_any w5 ((y.l.n : Nat) : Int) HN.out.1 HN.out.2).mono ?_
    rintro e w6 ⟨rfl, h6⟩
    subst h6
    go_wp2_with fail
    refine (move_any w5 0 (1 + 3 * ((y.l.n : Nat) : Int)) p3 (by have := H3.out; omega) HP.out.1.2).mono ?_
    rintro e w7 ⟨rfl, ho7, hb7⟩
    have H7 := Lib.hid (And.intro (H5.out.keep hb7) (owns_le ho7 H5.out.below.size))
    clear ho7 hb7
    go_wp2_with fail
    go_ret2
    exact ⟨y2, _, 2, 2, by rw [HE2.out]; rfl, (fun _ => ⟨by rw [HSL.out.1]; exact HS2.out, H7.out.1.bo, by rw [HSL.out.2, ← HP.out.2.1]; exact H7.out.2⟩), H7.out.1.below⟩
  · have HI := Lib.hid (isFund_any w1 B y.f.a y.f.n y.f.c p0 false p3' ⟨(fun h => by cases h), fun h => absurd h hin⟩)
    have HE2 := Lib.hid (show bankE y.t 2 nm [p0, p1, p2, p3] = 4 by rw [HE.out, if_neg (by rw [← HP.out.2.2.1]; exact hin)])
    clear hin p3' p4
    go_wp2_with fail
    refine HI.out.mono ?_
    rintro e w3 ⟨rfl, h3⟩
    subst h3
    go_wp2_with fail
    go_ret2
    exact ⟨y, none, 0, 0, by rw [HE2.out]; rfl, (fun h => by rw [HE2.out] at h; exact absurd h (by decide)), H1.out.1.below⟩
end Go.Proofs.YtjcndgopijpibaaGreat.Bok
/- Book, the landed: legs into an allocation and out of it. -/
namespace Go.Proofs.YtjcndgopijpibaaGreat.Bok
set_option maxRecDepth 100000
open Go.RowKit
open Go.Sort
open Kit
open Foot
open Tre (Lst inI lst_keep lst_at lst_new lst_none encF encF_len encL_len IntsL goodB)
open Led (Lg encG encG_len)
open Snp (Sn Sv encK encK_len encK_one)
set_option linter.unusedVariables false
variable {w w' W0 W : World} {B : Nat}
set_option maxHeartbeats 8000000 in
theorem deposit_any (y : Sv) (hc : Cal W0 W B y) (hn : y.allocs.length ≤ 16) (sq tm kd : Int) (ky nm : ByteArray) (aa ga : Option Addr) (cp gn gc : Nat) (p0 p1 : Int) (hp : inI p0 ∧ inI p1) (hA : IntsL W aa 2 cp [p0, p1]) :
    Calls Tryz.prog 66 #[.pointer (some ⟨B, 0, none⟩), .agg #[.int .i64 sq, .int .i64 tm, .int .i64 kd, .string ky, .string nm, .slice aa 2 cp, .slice ga gn gc]] W (LegP W0 B (bankE y.t 3 nm [p0, p1]) (bankS y.t 3 nm [p0, p1]) (bankL y.t 3 [p0, p1])) := by
  obtain ⟨ba, oa, rfl⟩ := lst_at hA (by omega)
  have hfl : y.l.n = y.allocs.length := (own_lst encL_len hc.bo.o.l).len.symm
  have HE := Lib.hid (show bankE y.t 3 nm [p0, p1] = if 0 ≤ p0 ∧ p0 < (y.allocs.length : Int) then (if p1 < 1 then 1 else 0) else 4 by
    show (if inL y.allocs p0 then (if p1 < 1 then (1 : Int) else 0) else 4) = _
    unfold inL; simp only [decide_eq_true_eq])
  have HSL := Lib.hid (show bankS y.t 3 nm [p0, p1] = y.t ∧ bankL y.t 3 [p0, p1] = pair (0) (1 + 3 * p0) p1 from ⟨rfl, rfl⟩)
  have hba := below_alloc W (.cells #[.int .i64 sq, .int .i64 tm, .int .i64 kd, .string ky, .string nm, .slice (some ⟨ba, oa, none⟩) 2 cp, .slice ga gn gc] 34)
  have htb := tx_box W sq tm kd ky nm (some ⟨ba, oa, none⟩) ga 2 cp gn gc
  obtain ⟨wa, hwa⟩ : ∃ z, z = W.alloc (.cells #[.int .i64 sq, .int .i64 tm, .int .i64 kd, .string ky, .string nm, .slice (some ⟨ba, oa, none⟩) 2 cp, .slice ga gn gc] 34) := ⟨_, rfl⟩
  rw [← hwa] at htb hba
  have HWa := Lib.hid hwa
  have hA2 := lst_keep Tre.encI_len hA hba
  have k5 : wa.cell? ⟨W.heap.size, 5, none⟩ = some (.slice (some ⟨ba, oa, none⟩) 2 cp) := Arr.blk_cell htb 5
  have hca := hc.keep hba
  have HBo := Lib.hid hca
  have hgeW := Lib.hid hca.below.size
  have q0 : wa.cell? ⟨ba, oa, none⟩ = some (.int .i64 p0) := Tre.int_cell hA2 (k := 0) (by simp)
  have q1 : wa.cell? ⟨ba, oa + 1, none⟩ = some (.int .i64 p1) := Tre.int_cell hA2 (k := 1) (by simp)
  have HP := Lib.hid (And.intro hp (And.intro hfl hn))
  clear hA hA2 hp htb hba hwa hca hc hfl hn
  go_enter Tryz.func66, Tryz.ntmps66
  go_upto_region 1 with fail
  rw [← HWa.out]
  go_wp2_with fail
  go_big_quiet (fail)
  generalize hw2 : World.drewN wa _ = w2
  have hq2 : Below wa.heap.size wa w2 := by rw [← hw2]; exact Tre.below_drewN' _ _
  have H2 := Lib.hid (HBo.out.keep hq2)
  clear hw2 hq2 q0 q1 k5
  have p4 : w2.cell? ⟨B, 4, none⟩ = some (.slice y.l.a y.l.n y.l.c) := Arr.blk_cell H2.out.bo.b 4
  by_cases hin : 0 ≤ p0 ∧ p0 < (y.l.n : Int)
  · have HI := Lib.hid (isAlloc_any w2 B y.l.a y.l.n y.l.c p0 true p4 ⟨fun _ => hin, fun _ => rfl⟩)
    have HIn := Lib.hid (show 0 ≤ p0 ∧ p0 < (y.allocs.length : Int) by rw [← HP.out.2.1]; exact hin)
    clear hin p4
    go_wp2_with fail
    refine HI.out.mono ?_
    rintro e w3 ⟨rfl, h3⟩
    subst h3
    by_cases h1 : p1 < 1
    · have HE2 := Lib.hid (show bankE y.t 3 nm [p0, p1] = 1 by rw [HE.out, if_pos HIn.out, if_pos h1])
      go_wp2_with fail
      go_ret2
      exact ⟨y, none, 0, 0, by rw [HE2.out]; rfl, (fun h => by rw [HE2.out] at h; exact absurd h (by decide)), H2.out.below⟩
    · have HE2 := Lib.hid (show bankE y.t 3 nm [p0, p1] = 0 by rw [HE.out, if_pos HIn.out, if_neg h1])
      go_wp2_with fail
      refine (available_any w2 p0 HIn.out.1 (by have := HIn.out.2; have := HP.out.2.2; omega)).mono ?_
      rintro e w3 ⟨rfl, h3⟩
      subst h3
      go_wp2_with fail
      refine (move_any w2 (0) (1 + 3 * p0) p1 (by omega) HP.out.1.2.2).mono ?_
      rintro e w4 ⟨rfl, ho4, hb4⟩
      have H4 := Lib.hid (And.intro (H2.out.keep hb4) (owns_le ho4 H2.out.below.size))
      clear ho4 hb4
      go_wp2_with fail
      go_ret2
      exact ⟨y, _, 2, 2, by rw [HE2.out]; rfl, (fun _ => ⟨by rw [HSL.out.1], H4.out.1.bo, by rw [HSL.out.2]; exact H4.out.2⟩), H4.out.1.below⟩
  · have HI := Lib.hid (isAlloc_any w2 B y.l.a y.l.n y.l.c p0 false p4 ⟨(fun h => by cases h), fun h => absurd h hin⟩)
    have HE2 := Lib.hid (show bankE y.t 3 nm [p0, p1] = 4 by rw [HE.out, if_neg (by rw [← HP.out.2.1]; exact hin)])
    clear hin p4
    go_wp2_with fail
    refine HI.out.mono ?_
    rintro e w3 ⟨rfl, h3⟩
    subst h3
    go_wp2_with fail
    go_ret2
    exact ⟨y, none, 0, 0, by rw [HE2.out]; rfl, (fun h => by rw [HE2.out] at h; exact absurd h (by decide)), H2.out.below⟩
set_option maxHeartbeats 8000000 in
theorem withdraw_any (y : Sv) (hc : Cal W0 W B y) (hn : y.allocs.length ≤ 16) (sq tm kd : Int) (ky nm : ByteArray) (aa ga : Option Addr) (cp gn gc : Nat) (p0 p1 : Int) (hp : inI p0 ∧ inI p1) (hA : IntsL W aa 2 cp [p0, p1]) :
    Calls Tryz.prog 67 #[.pointer (some ⟨B, 0, none⟩), .agg #[.int .i64 sq, .int .i64 tm, .int .i64 kd, .string ky, .string nm, .slice aa 2 cp, .slice ga gn gc]] W (LegP W0 B (bankE y.t 4 nm [p0, p1]) (bankS y.t 4 nm [p0, p1]) (bankL y.t 4 [p0, p1])) := by
  obtain ⟨ba, oa, rfl⟩ := lst_at hA (by omega)
  have hfl : y.l.n = y.allocs.length := (own_lst encL_len hc.bo.o.l).len.symm
  have HE := Lib.hid (show bankE y.t 4 nm [p0, p1] = if 0 ≤ p0 ∧ p0 < (y.allocs.length : Int) then (if p1 < 1 then 1 else 0) else 4 by
    show (if inL y.allocs p0 then (if p1 < 1 then (1 : Int) else 0) else 4) = _
    unfold inL; simp only [decide_eq_true_eq])
  have HSL := Lib.hid (show bankS y.t 4 nm [p0, p1] = y.t ∧ bankL y.t 4 [p0, p1] = pair (1 + 3 * p0) (0) p1 from ⟨rfl, rfl⟩)
  have hba := below_alloc W (.cells #[.int .i64 sq, .int .i64 tm, .int .i64 kd, .string ky, .string nm, .slice (some ⟨ba, oa, none⟩) 2 cp, .slice ga gn gc] 34)
  have htb := tx_box W sq tm kd ky nm (some ⟨ba, oa, none⟩) ga 2 cp gn gc
  obtain ⟨wa, hwa⟩ : ∃ z, z = W.alloc (.cells #[.int .i64 sq, .int .i64 tm, .int .i64 kd, .string ky, .string nm, .slice (some ⟨ba, oa, none⟩) 2 cp, .slice ga gn gc] 34) := ⟨_, rfl⟩
  rw [← hwa] at htb hba
  have HWa := Lib.hid hwa
  have hA2 := lst_keep Tre.encI_len hA hba
  have k5 : wa.cell? ⟨W.heap.size, 5, none⟩ = some (.slice (some ⟨ba, oa, none⟩) 2 cp) := Arr.blk_cell htb 5
  have hca := hc.keep hba
  have HBo := Lib.hid hca
  have hgeW := Lib.hid hca.below.size
  have q0 : wa.cell? ⟨ba, oa, none⟩ = some (.int .i64 p0) := Tre.int_cell hA2 (k := 0) (by simp)
  have q1 : wa.cell? ⟨ba, oa + 1, none⟩ = some (.int .i64 p1) := Tre.int_cell hA2 (k := 1) (by simp)
  have HP := Lib.hid (And.intro hp (And.intro hfl hn))
  clear hA hA2 hp htb hba hwa hca hc hfl hn
  go_enter Tryz.func67, Tryz.ntmps67
  go_upto_region 1 with fail
  rw [← HWa.out]
  go_wp2_with fail
  go_big_quiet (fail)
  generalize hw2 : World.drewN wa _ = w2
  have hq2 : Below wa.heap.size wa w2 := by rw [← hw2]; exact Tre.below_drewN' _ _
  have H2 := Lib.hid (HBo.out.keep hq2)
  clear hw2 hq2 q0 q1 k5
  have p4 : w2.cell? ⟨B, 4, none⟩ = some (.slice y.l.a y.l.n y.l.c) := Arr.blk_cell H2.out.bo.b 4
  by_cases hin : 0 ≤ p0 ∧ p0 < (y.l.n : Int)
  · have HI := Lib.hid (isAlloc_any w2 B y.l.a y.l.n y.l.c p0 true p4 ⟨fun _ => hin, fun _ => rfl⟩)
    have HIn := Lib.hid (show 0 ≤ p0 ∧ p0 < (y.allocs.length : Int) by rw [← HP.out.2.1]; exact hin)
    clear hin p4
    go_wp2_with fail
    refine HI.out.mono ?_
    rintro e w3 ⟨rfl, h3⟩
    subst h3
    by_cases h1 : p1 < 1
    · have HE2 := Lib.hid (show bankE y.t 4 nm [p0, p1] = 1 by rw [HE.out, if_pos HIn.out, if_pos h1])
      go_wp2_with fail
      go_ret2
      exact ⟨y, none, 0, 0, by rw [HE2.out]; rfl, (fun h => by rw [HE2.out] at h; exact absurd h (by decide)), H2.out.below⟩
    · have HE2 := Lib.hid (show bankE y.t 4 nm [p0, p1] = 0 by rw [HE.out, if_pos HIn.out, if_neg h1])
      go_wp2_with fail
      refine (available_any w2 p0 HIn.out.1 (by have := HIn.out.2; have := HP.out.2.2; omega)).mono ?_
      rintro e w3 ⟨rfl, h3⟩
      subst h3
      go_wp2_with fail
      refine (move_any w2 (1 + 3 * p0) (0) p1 (by omega) HP.out.1.2.2).mono ?_
      rintro e w4 ⟨rfl, ho4, hb4⟩
      have H4 := Lib.hid (And.intro (H2.out.keep hb4) (owns_le ho4 H2.out.below.size))
      clear ho4 hb4
      go_wp2_with fail
      go_ret2
      exact ⟨y, _, 2, 2, by rw [HE2.out]; rfl, (fun _ => ⟨by rw [HSL.out.1], H4.out.1.bo, by rw [HSL.out.2]; exact H4.out.2⟩), H4.out.1.below⟩
  · have HI := Lib.hid (isAlloc_any w2 B y.l.a y.l.n y.l.c p0 false p4 ⟨(fun h => by cases h), fun h => absurd h hin⟩)
    have HE2 := Lib.hid (show bankE y.t 4 nm [p0, p1] = 4 by rw [HE.out, if_neg (by rw [← HP.out.2.1]; exact hin)])
    clear hin p4
    go_wp2_with fail
    refine HI.out.mono ?_
    rintro e w3 ⟨rfl, h3⟩
    subst h3
    go_wp2_with fail
    go_ret2
    exact ⟨y, none, 0, 0, by rw [HE2.out]; rfl, (fun h => by rw [HE2.out] at h; exact absurd h (by decide)), H2.out.below⟩
end Go.Proofs.YtjcndgopijpibaaGreat.Bok
