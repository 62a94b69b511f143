/- Ledger: LedgerZero, over any ledger that does as it should: the walk. -/
import Derived.Test.YtmlbdmfmaebdeaaLedZero
namespace Go.Proofs.Ytmlbdmfmaebdeaa.Led
set_option maxRecDepth 100000
open Go.RowKit
open Go.Sort
open Kit
open Mon
open Tre
set_option linter.unusedVariables false
variable {w w' : World}

set_option maxHeartbeats 16000000 in
theorem zero_any (hP : Prog) (W : World) (wd : Int) (hw : inI wd) (a : Option Addr) (n c : Nat) (al : List Al) (hA : Allocs W a n c al) (hok : ∀ x ∈ al, x.ok) (a2 : Option Addr) (n2 c2 : Nat) (legs : List Lg) (hG : Legs W a2 n2 c2 legs) (hokg : ∀ x ∈ legs, x.ok) :
    Calls Try.prog 5 #[.int .i64 wd, .slice a n c, .slice a2 n2 c2] W fun e W' => e = .returned (.bool true) ∧ Below W.heap.size W W' := by
  obtain ⟨m, X, hm, hX, hAX, hokX, hm20⟩ := cut_al hA hok
  obtain ⟨m2, Y, hm2, hY, hGY, hokY, hm70⟩ := cut_legs hG hokg
  have HFew := Lib.hid (few_any a n c m hA.cap hA.max hm W)
  have HSome := Lib.hid (some_any a2 n2 c2 m2 hG.cap hG.max hm2 W)
  have HX := Lib.hid (And.intro hAX (And.intro hG hG.len))
  have HPo := Lib.hid (hP.post W wd a m c X a2 m2 c2 Y hw hAX hokX (by omega) hGY hokY (by omega))
  have HAm := Lib.hid (fun w k h1 hk => hP.amount w wd a m c X k hw h1 hokX (by omega) hk)
  have hXl := hAX.len
  have hn2 : n2 ≤ 9223372036854775807 := by have := hG.cap; have := hG.max; unfold maxLen at this; omega
  have HM2 := Lib.hid (And.intro hm2 hY)
  have HAw := Lib.hid (fun w => awake_any hP w)
  clear hm hX hAX hm2 hY hGY hokY hm70 hA hok hG hokg
  by_cases hE : postE wd X Y = 0
  · obtain ⟨hpw, hpo⟩ := post_ok hE hw hokX
    have hfl := post_flat hE
    have hpl : (postA wd X Y).length = m := by rw [postA_ok hE, setA_len]; exact hXl
    have HAm2 := Lib.hid (fun w x3 c3 k h1 hk => hP.amount w (postW wd X Y) x3 m c3 (postA wd X Y) k hpw h1 hpo (by omega) hk)
    have HPz := Lib.hid (And.intro (post_zero hE) (And.intro (fun (k : Nat) (hk : k < 1 + 3 * X.length) => post_acct hE hk) (And.intro (postA_ok hE) (fun (k : Nat) (hk : k < 1 + 3 * X.length) => postF_at wd X Y hk))))
    rw [hE] at HPo
    rw [hfl] at HAm2
    obtain ⟨fl, hf⟩ : ∃ fl, fl = flatN wd X := ⟨_, rfl⟩
    obtain ⟨F, hF⟩ : ∃ F, F = postF wd X Y := ⟨_, rfl⟩
    rw [← hf] at HAm HPz
    rw [← hF] at HAm2 HPz
    have HLn := Lib.hid (show fl.length = 1 + 3 * m ∧ F.length = 1 + 3 * m from ⟨by rw [hf, flat_len, hXl], by rw [hF, postF_len, hXl]⟩)
    generalize postW wd X Y = pw at HPo HAm2
    obtain ⟨pa, hpa⟩ : ∃ pa, pa = postA wd X Y := ⟨_, rfl⟩
    rw [← hpa] at HPo HAm2 HPz hpl
    have HXl := Lib.hid (And.intro hXl hpl)
    clear hE hfl hf hF hpa hpw hpo hokX hw hXl hpl hP
    go_enter Try.func5, Try.ntmps5
    go_wp2_with fail
    refine HFew.out.mono ?_
    rintro e w1 ⟨rfl, rfl⟩
    go_wp2_with fail
    refine HSome.out.mono ?_
    rintro e w1 ⟨rfl, rfl⟩
    go_wp2_with fail
    refine HPo.out.mono ?_
    rintro e w1 ⟨v1, rfl, ho1, hb1⟩
    obtain ⟨x3, c3, rfl, hl3⟩ := outA_lst ho1
    rw [HXl.out.2] at hl3 ⊢
    have HB1 := Lib.hid (And.intro hb1 hl3)
    clear ho1 hb1 hl3 HPo
    go_wp2_with fail
    go_loopw [11, 12, 13] (fun bv av i wr => ∃ (k : Nat) (b1 b2 : Int), k ≤ 1 + 3 * m ∧ i = .int .i64 (k : Nat) ∧ bv = .int .i64 b1 ∧ av = .int .i64 b2 ∧ Hid (b1 = wrap64 (fl.take k).sum ∧ b2 = wrap64 (F.take k).sum) ∧ Below w1.heap.size w1 wr) (fun _ _ i _ => 1 + 3 * m - (intOf i).toNat)
    case atStart => exact ⟨0, 0, 0, Nat.zero_le _, rfl, rfl, rfl, Lib.hid ⟨by simp [wrap64], by simp [wrap64]⟩, Below.refl _ _⟩
    case round =>
      obtain ⟨k, b1, b2, hk, rfl, rfl, rfl, hs, hbr⟩ := hrel
      obtain ⟨wk, hwk⟩ : ∃ x, x = wr := ⟨_, rfl⟩
      subst hwk
      have HBr := Lib.hid hbr
      clear hbr
      by_cases hlt : k < 1 + 3 * m
      · have hlti : (k : Int) < 1 + 3 * (m : Int) := by omega
        obtain ⟨y, hy⟩ : ∃ y, fl[k]? = some y := ⟨_, List.getElem?_eq_getElem (by rw [HLn.out.1]; exact hlt)⟩
        obtain ⟨z, hz⟩ : ∃ z, F[k]? = some z := ⟨_, List.getElem?_eq_getElem (by rw [HLn.out.2]; exact hlt)⟩
        have hc : (0 : Int) ≤ (k : Int) ∧ (k : Int) < 1 + 3 * (m : Int) := ⟨by omega, hlti⟩
        have h1 := HAm.out wk (k : Nat) (lst_keep encL_len HX.out.1 (below_keep HB1.out.1 HBr.out)) (inI_of_nat (by omega))
        simp only [if_pos hc, Int.toNat_natCast] at h1
        rw [getD_at hy] at h1
        have h2 := fun w h => HAm2.out w x3 c3 (k : Nat) h (inI_of_nat (by omega))
        simp only [if_pos hc, Int.toNat_natCast] at h2
        rw [getD_at hz] at h2
        have H1 := Lib.hid h1
        have H2 := Lib.hid h2
        have hac := HPz.out.2.1 k (by rw [HXl.out.1]; exact hlt)
        have hFz := HPz.out.2.2.2 k (by rw [HXl.out.1]; exact hlt)
        rw [hz] at hFz
        injection hFz with hFz
        rw [← hFz, getD_at hy] at hac
        have HAc := Lib.hid hac
        have HSs := Lib.hid (show wrap64 (b1 + y) = wrap64 (fl.take (k + 1)).sum ∧ wrap64 (b2 + z) = wrap64 (F.take (k + 1)).sum from ⟨by rw [hs.out.1, wrap_add, sum_take hy], by rw [hs.out.2, wrap_add, sum_take hz]⟩)
        clear hy hz hc h1 h2 hac hFz
        go_wp2_with fail
        refine H1.out.mono ?_
        rintro e w3 ⟨rfl, hb3⟩
        have HB3 := Lib.hid (below_keep HBr.out hb3)
        clear hb3
        go_wp2_with fail
        refine (H2.out w3 (lst_keep encL_len HB1.out.2 HB3.out)).mono ?_
        rintro e w4 ⟨rfl, hb4⟩
        have HB4 := Lib.hid (And.intro (below_keep HB3.out hb4) (below_keep HB1.out.1 (below_keep HB3.out hb4)))
        clear hb4
        go_wp2_with fail
        go_loop [18, 19] (fun r i => ∃ (q : Nat) (rb : Bool), q ≤ m2 ∧ i = .int .i64 (q : Nat) ∧ r = .bool rb ∧ Hid (rb = named (Y.take q) k)) (fun _ i => m2 - (intOf i).toNat)
        case atStart => exact ⟨0, false, Nat.zero_le _, rfl, rfl, Lib.hid rfl⟩
        case round =>
          obtain ⟨q, rb, hq, rfl, rfl, hrb⟩ := hrel
          by_cases hlt3 : q < m2
          · have hqn : q < n2 ∧ q < 70 := by have := HM2.out.1; omega
            obtain ⟨t1, t2⟩ : (q : Int) < (n2 : Int) ∧ (q : Int) < 70 := by omega
            have hql : q < legs.length := by rw [HX.out.2.2]; exact hqn.1
            obtain ⟨b2', o2, rfl⟩ := lst_at HX.out.2.1 (by omega)
            obtain ⟨p0, -⟩ := leg_cells (lst_keep encG_len HX.out.2.1 HB4.out.2) hql
            have hYq : Y[q]? = some legs[q] := by rw [HM2.out.2, List.getElem?_take_of_lt hlt3, List.getElem?_eq_getElem hql]
            have hnt := named_take (k := k) hYq
            generalize legs[q] = x at *
            obtain ⟨ac, am⟩ := x
            simp only at p0 hnt
            have HNt := Lib.hid hnt
            clear hqn hYq hnt
            cases rb with
            | true =>
              have HR := Lib.hid (show true = named (Y.take (q + 1)) k by rw [HNt.out, ← hrb.out, Bool.true_or])
              go_wp2_with fail
              go_round
              case rel => exact ⟨q + 1, true, by omega, by go_num, rfl, HR⟩
              case measure => simp [intOf]; omega
            | false =>
              cases hac : (ac == (k : Int)) with
              | true =>
                have HR := Lib.hid (show true = named (Y.take (q + 1)) k by rw [HNt.out, hac, Bool.or_true])
                go_wp2_with fail
                go_round
                case rel => exact ⟨q + 1, true, by omega, by go_num, rfl, HR⟩
                case measure => simp [intOf]; omega
              | false =>
                have HR := Lib.hid (show false = named (Y.take (q + 1)) k by rw [HNt.out, hac, ← hrb.out, Bool.or_false])
                go_wp2_with fail
                go_round
                case rel => exact ⟨q + 1, false, by omega, by go_num, rfl, HR⟩
                case measure => simp [intOf]; omega
          · obtain rfl : m2 = q := by omega
            have hrn : rb = named Y k := by
              rw [hrb.out, List.take_of_length_le (by rw [HM2.out.2, List.length_take]; exact Nat.min_le_left _ _)]
            have hor : ¬ (m2 : Int) < (n2 : Int) ∨ ((m2 : Int) < (n2 : Int) ∧ ¬ (m2 : Int) < 70) := by have := HM2.out.1; omega
            clear hrb hlt3
            cases rb with
            | false =>
              have hyz : z = y := HAc.out.1 hrn.symm
              subst hyz
              clear hrn
              rcases hor with t1 | ⟨t1, t2⟩
              all_goals
                go_wp2_with fail
                go_roundw
                case rel => exact ⟨k + 1, _, _, by omega, by go_num, rfl, rfl, Lib.hid HSs.out, HB4.out.1⟩
                case measure => simp [intOf]; omega
            | true =>
              have hbd := HAc.out.2 hrn.symm
              have hor2 : (k = 0 ∧ ¬ 0 < z) ∨ (¬ k = 0 ∧ ¬ z < 0) := by
                unfold bad at hbd
                simp at hbd
                omega
              clear hrn hbd
              rcases hor2 with ⟨s1, s2⟩ | ⟨s1, s2⟩
              · subst s1
                rcases hor with t1 | ⟨t1, t2⟩
                all_goals
                  go_wp2_with fail
                  go_roundw
                  case rel => exact ⟨1, _, _, by omega, by go_num, rfl, rfl, Lib.hid HSs.out, HB4.out.1⟩
                  case measure => first | (simp [intOf]; done) | (simp [intOf]; omega)
              · have s3 : ((k : Int) == 0) = false := beq_false_of_ne (by omega)
                have s4 : (0 : Int) < (k : Int) := by omega
                rcases hor with t1 | ⟨t1, t2⟩
                all_goals
                  go_wp2_with fail
                  go_roundw
                  case rel => exact ⟨k + 1, _, _, by omega, by go_num, rfl, rfl, Lib.hid HSs.out, HB4.out.1⟩
                  case measure => simp [intOf]; omega
      · have hge : ¬ (k : Int) < 1 + 3 * (m : Int) := by omega
        have hke : k = 1 + 3 * m := by omega
        have heq : b1 = b2 := by
          rw [hs.out.1, hs.out.2, List.take_of_length_le (by rw [HLn.out.1, hke]; exact Nat.le_refl _), List.take_of_length_le (by rw [HLn.out.2, hke]; exact Nat.le_refl _), HPz.out.1]
        subst heq
        clear hs hke
        go_wp2_with fail
        go_loopw [20] (fun i wr => ∃ j : Nat, j ≤ m ∧ i = .int .i64 (j : Nat) ∧ Below wk.heap.size wk wr) (fun i _ => m - (intOf i).toNat)
        case atStart => exact ⟨0, Nat.zero_le _, rfl, Below.refl _ _⟩
        case round =>
          obtain ⟨j, hj, rfl, hbj⟩ := hrel
          have HBj := Lib.hid (And.intro hbj (And.intro (below_keep HBr.out hbj) (below_keep HB1.out.1 (below_keep HBr.out hbj))))
          clear hbj
          by_cases hlt4 : j < m
          · have hjX : j < X.length := by rw [HXl.out.1]; exact hlt4
            have hjp : j < pa.length := by rw [HXl.out.2]; exact hlt4
            obtain ⟨b, o, rfl⟩ := lst_at HX.out.1 (by omega)
            obtain ⟨b3, o3, rfl⟩ := lst_at HB1.out.2 (by omega)
            obtain ⟨p0, p1, p2, -, -, -⟩ := alloc_cells6 (lst_keep encL_len HX.out.1 HBj.out.2.2) hjX
            obtain ⟨r0, r1, r2, -, -, -⟩ := alloc_cells6 (lst_keep encL_len HB1.out.2 HBj.out.2.1) hjp
            have hpj : pa[j] = setOne F X[j] j := by
              have e := setA_at (F := F) (List.getElem?_eq_getElem hjX)
              have e2 := HPz.out.2.2.1
              have e3 : pa[j]? = some (setOne F X[j] j) := by rw [e2]; exact e
              exact (List.getElem?_eq_some_iff.1 e3).2
            rw [hpj] at r0 r1 r2
            generalize X[j] = x at *
            obtain ⟨x0, x1, x2, x3', x4, x5⟩ := x
            simp only [setOne] at p0 p1 p2 r0 r1 r2
            clear hpj
            go_wp2_with fail
            go_quiet (fail)
            go_wp2_with fail
            go_roundw
            case rel => exact ⟨j + 1, by omega, by go_num, below_keep HBj.out.1 (below_drewN' _ _)⟩
            case measure => simp [intOf]; omega
          · have hge4 : ¬ (j : Int) < (m : Int) := by omega
            go_wp2_with fail
            refine (HAw.out wr).mono ?_
            rintro e w3 ⟨rfl, hb3⟩
            have HB3 := Lib.hid (below_keep HBj.out.2.2 hb3)
            clear hb3
            go_wp2_with fail
            go_ret
            exact ⟨by first | rfl | exact ret_bool (by simp), HB3.out⟩
  · rw [postW_no hE, postA_no hE] at HPo
    have hpe : (postE wd X Y == 0) = false := beq_false_of_ne hE
    generalize postE wd X Y = pe at *
    clear hE hokX hw hXl hP
    go_enter Try.func5, Try.ntmps5
    go_wp2_with fail
    refine HFew.out.mono ?_
    rintro e w1 ⟨rfl, rfl⟩
    go_wp2_with fail
    refine HSome.out.mono ?_
    rintro e w1 ⟨rfl, rfl⟩
    go_wp2_with fail
    refine HPo.out.mono ?_
    rintro e w1 ⟨v1, rfl, ho1, hb1⟩
    obtain ⟨x3, c3, rfl, -⟩ := outA_lst ho1
    simp only [List.length_nil]
    have HB1 := Lib.hid hb1
    clear ho1 hb1 HPo
    go_wp2_with fail
    refine (HAw.out w1).mono ?_
    rintro e w3 ⟨rfl, hb3⟩
    have HB3 := Lib.hid (below_keep HB1.out hb3)
    clear hb3
    go_wp2_with fail
    go_ret
    exact ⟨by first | rfl | exact ret_bool (by simp), HB3.out⟩
end Go.Proofs.Ytmlbdmfmaebdeaa.Led
