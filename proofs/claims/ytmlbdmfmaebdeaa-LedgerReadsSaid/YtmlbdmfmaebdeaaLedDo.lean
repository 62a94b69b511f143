/- Ledger, the landed: Post; all that it must do. -/
import Derived.Test.YtmlbdmfmaebdeaaLedStp
import Derived.Test.YtmlbdmfmaebdeaaLedPre
import Derived.Test.YtmlbdmfmaebdeaaLedTot
namespace Go.Proofs.Ytmlbdmfmaebdeaa.Led
set_option maxRecDepth 100000
open Go.RowKit
open Go.Sort
open Kit
open Mon
open Tre
open Foot
set_option linter.unusedVariables false
variable {w w' : World}

set_option maxHeartbeats 16000000 in
theorem post_any : PostC := by
  intro W wd a n c al a2 n2 c2 legs hwd hA hAok hn hG hGok hn2
  have hb1 := below_alloc W (.cells #[.int .i64 wd] 3)
  have HP := Lib.hid (pre_any (W.alloc (.cells #[.int .i64 wd] 3)) a n c a2 n2 c2 legs hn (lst_keep encG_len hG hb1) hGok hn2)
  have HA := Lib.hid (And.intro hA hA.len)
  have HG := Lib.hid (And.intro hG hG.len)
  have HW := Lib.hid (And.intro (owns_lit W wd W.heap.size (Nat.le_refl _)) hb1)
  clear hA hAok hG hGok hb1 hwd
  go_enter Try.func8, Try.ntmps8
  go_wp2_with fail
  refine HP.out.mono ?_
  rintro e w2 ⟨rfl, hb2⟩
  have HB2 := Lib.hid hb2
  clear HP hb2
  by_cases hpe : preE (1 + 3 * n) legs = 0
  · rw [hpe]
    have HPre := Lib.hid (show preE (1 + 3 * al.length) legs = 0 by rw [HA.out.2]; exact hpe)
    have hpi := pre_iff.1 hpe
    have HK := Lib.hid hpi.1
    have hn1 : 1 ≤ n2 := by rw [← HG.out.2]; exact hpi.2.1
    have HWB := Lib.hid (below_keep HW.out.2 HB2.out)
    have HCl := Lib.hid (clone_any w2 a n c al (lst_keep encL_len HA.out.1 HWB.out) hn)
    clear hpe hpi
    go_wp2_with fail
    refine HCl.out.mono ?_
    rintro e w3 ⟨v, rfl, hov, hb3⟩
    obtain ⟨va, vc, rfl, -, -, -, -⟩ := owns_row encL_len hov
    rw [HA.out.2] at hov ⊢
    have HV := Lib.hid (And.intro hov hb3)
    have HNm := Lib.hid (named_any w3 a2 n2 c2 legs (lst_keep encG_len HG.out.1 (below_keep HWB.out hb3)) hn1 hn2)
    clear hov hb3 HCl
    go_wp2_with fail
    refine HNm.out.mono ?_
    rintro e w4 ⟨gn, cn, rfl, hgn, hnl, hb4⟩
    obtain ⟨r, hr⟩ : ∃ r, r = (namedL legs).length := ⟨_, rfl⟩
    rw [← hr] at hnl ⊢
    have hr2 : r ≤ 100 := by
      have h := namedL_len legs
      rw [← hr, HG.out.2] at h
      omega
    have HR := Lib.hid hr
    obtain ⟨fl, hfl⟩ : ∃ fl, fl = flatN wd al := ⟨_, rfl⟩
    obtain ⟨m, hm⟩ : ∃ m, m = 1 + 3 * n := ⟨_, rfl⟩
    have HM := Lib.hid (show fl = flatN wd al ∧ m = 1 + 3 * n ∧ fl.length = m by refine ⟨hfl, hm, ?_⟩; rw [hfl, flat_len, HA.out.2, hm])
    have hs2 : W.heap.size + 1 ≤ w2.heap.size := by have h := HB2.out.size; simpa using h
    have HSt := Lib.hid (show W.heap.size ≤ w2.heap.size ∧ W.heap.size ≠ gn ∧ (∀ g, (Value.slice va n vc).ownBlock = some g → g ≠ W.heap.size ∧ g ≠ gn) by
      have h3 := HV.out.2.size
      refine ⟨by omega, by omega, fun g hg => ?_⟩
      have := World.ownsRow.lt HV.out.1 g hg
      omega)
    have HI0 := Lib.hid (show PI W w2.heap.size W.heap.size gn va n vc r cn (namedL legs) al (fq fl legs (namedL legs) m 0) w4 by
      rw [fq_zero HM.out.2.2, HM.out.1]
      refine ⟨?_, ?_, hnl, below_keep (below_keep HWB.out HV.out.2) hb4⟩
      · exact own_chg' (own_chg' (own_chg' HW.out.1 HB2.out) HV.out.2) hb4
      · rw [setA_flat]; exact Nest.own_on HV.out.1 hb4)
    clear hgn hnl hb4 hr hfl hm hs2 HNm
    go_wp2_with fail
    go_loopw [26] (fun i wr => ∃ q : Nat, q ≤ r ∧ i = .int .i64 (q : Nat) ∧ (∀ i, i < q → ∀ x, (namedL legs)[i]? = some x → acctE fl legs x.toNat = 0) ∧ PI W w2.heap.size W.heap.size gn va n vc r cn (namedL legs) al (fq fl legs (namedL legs) m q) wr) (fun i _ => r - (intOf i).toNat)
    case atStart => exact ⟨0, Nat.zero_le _, rfl, (fun i hi => by omega), HI0.out⟩
    case round =>
      obtain ⟨q, hq, rfl, hz, hpi⟩ := hrel
      have HI := Lib.hid (And.intro hz hpi)
      clear hz hpi
      by_cases hlt : q < r
      · have hql : q < (namedL legs).length := by rw [← HR.out]; exact hlt
        have hget := List.getElem?_eq_getElem hql
        have hcell := int_cell HI.out.2.nms hql
        rw [Nat.zero_add] at hcell
        obtain ⟨k, hk⟩ : ∃ k : Nat, (namedL legs)[q] = (k : Int) := by
          obtain ⟨g, hg, he⟩ := ((namedL_spec legs).2 _).1 (List.getElem_mem hql)
          exact ⟨(namedL legs)[q].toNat, by have := (HK.out g hg).1; omega⟩
        rw [hk] at hget hcell
        have hkm : k < 1 + 3 * n := by
          obtain ⟨g, hg, he⟩ := ((namedL_spec legs).2 _).1 (List.mem_of_getElem? hget)
          have := (HK.out g hg).2.1
          omega
        have hnd : named legs k = true := named_iff.2 (List.mem_of_getElem? hget)
        obtain ⟨ab, ao, hcall, hyc, hset⟩ := pi_at HI.out.2 hn HA.out.2 (by rw [fq_len]; exact HM.out.2.1) HSt.out.1 HSt.out.2.1 HSt.out.2.2 hkm
        have hold := fq_old (fl := fl) (m := m) hget (by rw [HM.out.2.1]; exact hkm)
        rw [hold] at hyc
        obtain ⟨y, hy⟩ : ∃ y, y = fl.getD k 0 := ⟨_, rfl⟩
        rw [← hy] at hyc
        have HBe := Lib.hid (beh_acct hy hnd)
        have HCa := Lib.hid hcall
        have HSe := Lib.hid hset
        have HKq := Lib.hid (And.intro hget hkm)
        have HBc := Lib.hid (beh_any wr k y a2 n2 c2 legs (lst_keep encG_len HG.out.1 HI.out.2.below) hn2)
        clear hget hk hkm hnd hcall hset hold hy hql
        go_wp2_with fail
        refine HCa.out.mono ?_
        rintro e w5 ⟨rfl, rfl⟩
        go_wp2_with fail
        refine HBc.out.mono ?_
        rintro e w5 ⟨rfl, hb5⟩
        by_cases hbe : behE y legs k = 0
        · have HN := Lib.hid (show behE y legs k = 0 ∧ acctE fl legs k = 0 ∧ behN y legs k = acctN fl legs k from ⟨hbe, by rw [← HBe.out.1]; exact hbe, HBe.out.2 hbe⟩)
          obtain ⟨hc5, hf5, hset5⟩ := HSe.out w5 hb5
          have HS5 := Lib.hid (show PI W w2.heap.size W.heap.size gn va n vc r cn (namedL legs) al (fq fl legs (namedL legs) m (q + 1)) (w5.setCell ⟨ab, ao, none⟩ (.int .i64 (behN y legs k))) by
            rw [fq_step HKq.out.1 (by rw [HM.out.2.1]; exact HKq.out.2), HN.out.2.2]
            exact hset5 _)
          rw [hbe]
          clear hbe hset5 hb5
          generalize behN y legs k = sn at *
          go_wp2_with fail
          go_roundw
          case rel => exact ⟨q + 1, by omega, by go_num, fun i hi x hx => by
            rcases Nat.lt_succ_iff_lt_or_eq.1 hi with h | h
            · exact HI.out.1 i h x hx
            · subst h
              have := HKq.out.1.symm.trans hx
              injection this with this
              rw [← this, Int.toNat_natCast]
              exact HN.out.2.1, HS5.out⟩
          case measure => simp [intOf]; omega
        · have HRf := Lib.hid (refused (w := wd) (al := al) (legs := legs) (post_first HPre.out (by rw [← HM.out.1]; exact none_before HI.out.1 HKq.out.1) (by rw [← HM.out.1]; exact HBe.out.1.symm) hbe (by rw [HA.out.2]; exact HKq.out.2)) hbe)
          have HB5 := Lib.hid (below_keep HI.out.2.below hb5)
          have hne : (behE y legs k == 0) = false := beq_false_of_ne hbe
          generalize behE y legs k = se at *
          generalize behN y legs k = sn at *
          clear hbe hb5
          go_wp2_with fail
          go_ret3
          exact ⟨_, by rw [HRf.out.1, HRf.out.2.2]; rfl, by rw [HRf.out.2.1]; exact out_none _ _, HB5.out⟩
      · obtain rfl : q = r := by omega
        have HE := Lib.hid (all_good (wd := wd) (al := al) HR.out.symm HPre.out (by rw [← HM.out.1]; exact HI.out.1))
        have HF := Lib.hid (show fq fl legs (namedL legs) m q = postF wd al legs by rw [HM.out.1]; exact fq_end (by rw [HA.out.2]; exact HM.out.2.1) HR.out.symm)
        rw [HF.out] at HI
        obtain ⟨hcw, -, -⟩ := owns_put encI_len HI.out.2.wld rfl (k := 0) (a := (postF wd al legs).getD 0 0) rfl (i := 0) Nat.zero_lt_one (fun _ => 0) (.int .i64 0) (fun a => rfl)
        have hcw2 : wr.cell? ⟨W.heap.size, 0, none⟩ = some (.int .i64 ((postF wd al legs).getD 0 0)) := hcw
        have HFin := Lib.hid (show postW wd al legs = (postF wd al legs).getD 0 0 ∧ postA wd al legs = setA (postF wd al legs) al from ⟨postW_ok HE.out, postA_ok HE.out⟩)
        generalize (postF wd al legs).getD 0 0 = sw at *
        clear hcw
        go_wp2_with fail
        go_ret3
        exact ⟨_, by rw [HFin.out.1, HE.out]; rfl, by rw [HFin.out.2]; exact .inl (owns_le HI.out.2.als HSt.out.1), HI.out.2.below⟩
  · have HRf := Lib.hid (refused (w := wd) (al := al) (legs := legs) (post_pre (by rw [HA.out.2]) hpe) hpe)
    have HWB := Lib.hid (below_keep HW.out.2 HB2.out)
    have hne : (preE (1 + 3 * n) legs == 0) = false := beq_false_of_ne hpe
    generalize preE (1 + 3 * n) legs = se at *
    clear hpe
    go_wp2_with fail
    go_ret3
    exact ⟨_, by rw [HRf.out.1, HRf.out.2.2]; rfl, by rw [HRf.out.2.1]; exact out_none _ _, HWB.out⟩
theorem led_prog : Prog := ⟨post_any, amount_any, total_any⟩
end Go.Proofs.Ytmlbdmfmaebdeaa.Led
