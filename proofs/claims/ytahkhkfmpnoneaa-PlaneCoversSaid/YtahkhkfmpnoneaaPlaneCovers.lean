/- PlaneCovers answers true for any five 16-bit numbers, each read afterwards as it was: the rows of some nodes are apart and have just these nodes, each for all its ticks; two such meet just if they have a node in common, and a tick. No condition. -/
import Derived.Test.YtahkhkfmpnoneaaRows
import Derived.WalkKit
import Derived.ProofKit
import Derived.OpenShut
import Derived.ShutString
import Derived.ChangeOld
import Derived.Below
import Derived.Test.YtahkhkfmpnoneaaOpens
import Derived.Test.YtahkhkfmpnoneaaPlaCov
import Derived.BigQuiet
namespace Go.Proofs.Ytahkhkfmpnoneaa.planeCovers
open Go.ChangeShapes Go.WideShapes Go.ChangeAt Go.RowKit
open Go.ChangeMaps (open_string shut_string)
set_option linter.unusedVariables false

theorem own : ownKnob Try.prog.godebug = none := by kernel_rfl
theorem laidOut : laidOutB Try.prog = true := by kernel_rfl

open Pla
open Go.Sort
set_option maxRecDepth 100000
theorem or_step {a x : Int} {p : Nat} (hx : x = a % 2 ^ p) (hb : bitB a p = true) (hp : p < 32) : bits BinOp.or IntKind.i64 x (wrap64 (2 ^ p)) = a % 2 ^ (p + 1) := by
  have h2 : (2 : Nat) ^ p ≤ 2 ^ 31 := Nat.pow_le_pow_right (by omega) (by omega)
  have hpn : (2 : Int) ^ p = ((2 ^ p : Nat) : Int) := (Int.natCast_pow 2 p).symm
  have hw : wrap64 (2 ^ p) = (2 : Int) ^ p := by
    rw [hpn]; unfold wrap64; generalize 2 ^ p = z at *; rw [show (2 : Nat) ^ 31 = 2147483648 from rfl] at h2; omega
  have hpos : (0 : Int) < 2 ^ p := Int.pow_pos (by decide)
  rw [hw, hx, or_pow (Int.emod_nonneg _ (Int.ne_of_gt hpos)) (Int.emod_lt_of_pos _ hpos) hp, low_yes hb]
theorem hBW_trans {w2 wr w3 : World} (h : Below w2.heap.size w2 wr) (h3 : Below wr.heap.size wr w3) : Below w2.heap.size w2 w3 := below_keep h h3
theorem sum_bound {o : Nat} {g : Int} (ho : o ≤ 32) (h0 : 0 ≤ g) (h : g ≤ 500) : 0 ≤ (o : Int) * g ∧ (o : Int) * g ≤ 16000 :=
  ⟨Int.mul_nonneg (by omega) h0, by have := Int.mul_le_mul (show (o : Int) ≤ 32 by omega) h h0 (by omega); omega⟩
set_option maxHeartbeats 3000000 in
theorem walk (W : World) (a0 : Int) (w0 : (Lit.int .u16 a0).wf = true) (a1 : Int) (w1 : (Lit.int .u16 a1).wf = true) (a2 : Int) (w2 : (Lit.int .u16 a2).wf = true) (a3 : Int) (w3 : (Lit.int .u16 a3).wf = true) (a4 : Int) (w4 : (Lit.int .u16 a4).wf = true) :
    Calls Try.prog 6 #[.int .u16 a0, .int .u16 a1, .int .u16 a2, .int .u16 a3, .int .u16 a4] W fun e w' => e = .returned (.bool true) ∧ Below W.heap.size W w' := by
  obtain ⟨t0, t1⟩ := bounds_u16 w0
  obtain ⟨l0, l1⟩ := bounds_u16 w1
  obtain ⟨m0, m1⟩ := bounds_u16 w2
  obtain ⟨r0, r1⟩ := bounds_u16 w3
  obtain ⟨o0, o1⟩ := bounds_u16 w4
  clear w0 w1 w2 w3 w4
  have hl0 : 0 ≤ a1 % 500 := Int.emod_nonneg _ (by decide)
  have hl1 : a1 % 500 < 500 := Int.emod_lt_of_pos _ (by decide)
  have hr0 : 0 ≤ a3 % 600 := Int.emod_nonneg _ (by decide)
  have hr1 : a3 % 600 < 600 := Int.emod_lt_of_pos _ (by decide)
  have hg : goodB a0 0 (1 + a1 % 500) 1 = true := by rw [goodB_iff]; omega
  have hg' : goodB (a0 + a3 % 600) 0 5 1 = true := by rw [goodB_iff]; omega
  have HG := Lib.hid hg
  have HG' := Lib.hid hg'
  obtain ⟨la, hla⟩ : ∃ la, la = runs (bitB a2) 32 := ⟨_, rfl⟩
  obtain ⟨lb, hlb⟩ : ∃ lb, lb = runs (bitB a4) 32 := ⟨_, rfl⟩
  have HRA := Lib.hid (show rowsL a0 (1 + a1 % 500) a2 = boxesOf a0 (1 + a1 % 500) la by unfold rowsL; rw [if_pos hg, hla])
  have HRB := Lib.hid (show rowsL (a0 + a3 % 600) 5 a4 = boxesOf (a0 + a3 % 600) 5 lb by unfold rowsL; rw [if_pos hg', hlb])
  have hcA : Chain (bitB a2) 0 la 32 := by rw [hla]; exact chain_runs _ _
  have hnA : la.length ≤ 32 := by rw [hla]; exact runs_length _ _
  have hnB : lb.length ≤ 32 := by rw [hlb]; exact runs_length _ _
  obtain ⟨A, hA⟩ : ∃ A, A = boxesOf a0 (1 + a1 % 500) la := ⟨_, rfl⟩
  obtain ⟨B, hB⟩ : ∃ B, B = boxesOf (a0 + a3 % 600) 5 lb := ⟨_, rfl⟩
  have hlA : A.length = la.length := by rw [hA, boxesOf_length]
  have hlB : B.length = lb.length := by rw [hB, boxesOf_length]
  rw [← hA] at HRA
  rw [← hB] at HRB
  have hwA : ∀ y ∈ A, y.wide ∧ y.t = a0 ∧ y.l = 1 + a1 % 500 := by
    intro y hy
    rw [hA] at hy
    obtain ⟨r, hr, rfl⟩ := List.mem_map.1 hy
    have := chain_mem hcA r hr
    exact ⟨⟨by show Wide _; unfold Wide; simp only; omega, by show Wide _; unfold Wide; simp only; omega, by show Wide _; unfold Wide; simp only; omega, by show Wide _; unfold Wide; simp only; omega⟩, rfl, rfl⟩
  have hwB : ∀ y ∈ B, y.wide := by
    intro y hy
    rw [hB] at hy
    obtain ⟨r, hr, rfl⟩ := List.mem_map.1 hy
    have := chain_mem (chain_runs (bitB a4) 32) r (by rw [← hlb]; exact hr)
    exact ⟨by show Wide _; unfold Wide; simp only; omega, by show Wide _; unfold Wide; simp only; omega, by show Wide _; unfold Wide; simp only; omega, by show Wide _; unfold Wide; simp only; omega⟩
  have HcA := Lib.hid hcA
  have HA := Lib.hid hA
  have HB := Lib.hid hB
  have HLA := Lib.hid hlA
  have HLB := Lib.hid hlB
  have HWA := Lib.hid hwA
  have HWB := Lib.hid hwB
  have HLa := Lib.hid hla
  have HLb := Lib.hid hlb
  clear hg hg' hcA hA hB hlA hlB hwA hwB hla hlb
  generalize hnAe : la.length = nA at *
  generalize hnBe : lb.length = nB at *
  have HNA := Lib.hid hnAe
  have HNB := Lib.hid hnBe
  clear hnAe hnBe
  go_enter Try.func6, Try.ntmps6
  go_wp2_with fail
  refine (rows_is a0 (1 + a1 % 500) a2 nA A _ (by unfold Wide; omega) (by unfold Wide; omega) HRA.out HLA.out).mono ?_
  rintro e w1 ⟨pa, capA, rfl, hcA1, hcA2, hnilA, hEA, hb1⟩
  have HEA := Lib.hid hEA
  have HB1 := Lib.hid hb1
  clear hEA hb1 hnilA
  go_wp2_with fail
  refine (rows_is (a0 + a3 % 600) 5 a4 nB B _ (by unfold Wide; omega) (by unfold Wide; omega) HRB.out HLB.out).mono ?_
  rintro e w2 ⟨pb, capB, rfl, hcB1, hcB2, hnilB, hEB, hb2⟩
  have HEA2 := Lib.hid (boxes_below HEA.out hb2)
  have HEB2 := Lib.hid hEB
  have HB2 := Lib.hid (below_keep HB1.out hb2)
  clear hEB hb2 HEA HB1 hnilB
  unfold maxLen at hcA2 hcB2
  go_wp2_with fail
  go_loopw [13, 14, 15, 16] (fun x13 x14 x15 x16 wr => ∃ (i e : Nat) (nv sv : Int) (mt : Bool), i ≤ nA ∧ x16 = .int .i64 i ∧ x13 = .int .i64 nv ∧ x14 = .int .i64 sv ∧ x15 = .bool mt ∧ 0 ≤ sv ∧ sv ≤ 16000 ∧ Hid (nv = a2 % 2 ^ e) ∧ Hid (sv = (onesTo (bitB a2) e : Nat) * (1 + a1 % 500)) ∧ Hid (mt = (A.take i).any fun x => B.any fun y => x.meets y) ∧ Hid (Chain (bitB a2) e (la.drop i) 32) ∧ Below w2.heap.size w2 wr) (fun _ _ _ i _ => nA - (intOf i).toNat)
  case atStart => exact ⟨0, 0, 0, 0, false, Nat.zero_le _, rfl, rfl, rfl, rfl, by omega, by omega, by show _ = _; simp, by show _ = _; simp [onesTo], rfl, HcA.out, Below.refl _ _⟩
  case round =>
    obtain ⟨i, e, nv, sv, mt, hi, rfl, rfl, rfl, rfl, hsv0, hsv1, hnv, hsv, hmt, hch, hb⟩ := hrel
    by_cases hlt : i < nA
    · have hiL : i < la.length := by rw [HNA.out]; exact hlt
      have hiA : i < A.length := by rw [HLA.out]; exact hlt
      obtain ⟨⟨s, k⟩, hsk⟩ : ∃ r, la[i] = r := ⟨_, rfl⟩
      have hdrop : la.drop i = (s, k) :: la.drop (i + 1) := by rw [List.drop_eq_getElem_cons hiL, hsk]
      have hch' := hch.out
      rw [hdrop] at hch'
      obtain ⟨g1, g2, g3, g4, g5, g6⟩ := hch'
      have hAi : A[i] = ⟨a0, s, 1 + a1 % 500, k⟩ := by
        have h2 := HA.out
        subst h2
        rw [boxesOf_get i hiL hiA, hsk]
      have hE1 := boxes_below HEA2.out hb
      obtain ⟨b, off, HPA⟩ := boxes_some hE1 (by omega)
      have hpa := HPA.out
      subst hpa
      obtain ⟨d0, d1, d2, d3⟩ := boxes_cells hE1 hiA hAi
      have HAi := Lib.hid hAi
      have HG4 := Lib.hid g4
      have HG5 := Lib.hid g5
      have HG6 := Lib.hid g6
      have HBW := Lib.hid hb
      clear hAi g4 g5 g6 hb hE1 hdrop hch hsk
      simp only at d0 d1 d2 d3
      go_wp2_with fail
      go_loop [13, 17] (fun x13 x17 => ∃ (j : Nat) (nv : Int), j ≤ k ∧ x17 = .int .i64 j ∧ x13 = .int .i64 nv ∧ Hid (nv = a2 % 2 ^ (s + j))) (fun _ j => k - (intOf j).toNat)
      case atStart => exact ⟨0, nv, Nat.zero_le _, rfl, rfl, by show _ = _; rw [hnv.out, Nat.add_zero, low_gap s g1 HG4.out]⟩
      case round =>
        obtain ⟨j, nv2, hj, rfl, rfl, hnv2⟩ := hrel
        by_cases hjk : j < k
        · have HO := Lib.hid (or_step hnv2.out (HG5.out (s + j) (by omega) (by omega)) (by omega))
          clear hnv2
          go_wp2_with fail
          go_round
          case rel => exact ⟨j + 1, _, by omega, by go_num, rfl, HO.out⟩
          case measure => simp [intOf]; omega
        · have hjk' : j = k := by omega
          subst hjk'
          obtain ⟨ar, har⟩ : ∃ ar, areaN a0 s (1 + a1 % 500) j = ar := ⟨_, rfl⟩
          have har2 : ar = (1 + a1 % 500) * j := by
            rw [← har]; unfold areaN; rw [if_pos (by rw [goodB_iff]; omega)]
          have hones : onesTo (bitB a2) (s + j) = onesTo (bitB a2) e + j := by
            rw [ones_run j HG5.out, ones_gap s g1 HG4.out]
          have hsum : sv + ar = (onesTo (bitB a2) (s + j) : Nat) * (1 + a1 % 500) := by
            rw [hones, har2, hsv.out]; generalize 1 + a1 % 500 = g; push_cast; rw [Int.add_mul, Int.mul_comm g (j : Int)]
          have hbd := sum_bound (o := onesTo (bitB a2) (s + j)) (g := 1 + a1 % 500) (by have := ones_le (bitB a2) (s + j); omega) (by omega) (by omega)
          rw [← hsum] at hbd
          obtain ⟨hbd1, hbd2⟩ := hbd
          have har3 : 0 ≤ ar := by rw [har2]; exact Int.mul_nonneg (by omega) (by omega)
          have HAR := Lib.hid har
          have HSUM := Lib.hid hsum
          clear har har2 hones hsum
          go_wp2_with fail
          refine (area_is _ (by unfold Wide; omega) (by unfold Wide; omega) (by unfold Wide; omega) (by unfold Wide; omega) HAR.out).mono ?_
          rintro e3 w3 ⟨rfl, hb3⟩
          have HBW3 := Lib.hid (hBW_trans HBW.out hb3)
          clear hb3 d0 d1 d2 d3
          go_wp2_with fail
          go_loopw [15, 18] (fun x15 x18 wr => ∃ (q : Nat) (mu : Bool), q ≤ nB ∧ x18 = .int .i64 q ∧ x15 = .bool mu ∧ Hid (mu = (mt || (B.take q).any fun y => A[i].meets y)) ∧ Below w2.heap.size w2 wr) (fun _ q _ => nB - (intOf q).toNat)
          case atStart => exact ⟨0, mt, Nat.zero_le _, rfl, rfl, by show _ = _; simp, HBW3.out⟩
          case round =>
            obtain ⟨q, mu, hq, rfl, rfl, hmu, hbi⟩ := hrel
            by_cases hql : q < nB
            · have hqB : q < B.length := by rw [HLB.out]; exact hql
              have hEA3 := boxes_below HEA2.out hbi
              have hEB3 := boxes_below HEB2.out hbi
              obtain ⟨b', off', HPB⟩ := boxes_some hEB3 (by omega)
              have hpb := HPB.out
              subst hpb
              obtain ⟨y, hy⟩ : ∃ y, B[q] = y := ⟨_, rfl⟩
              have hyw := HWB.out y (by rw [← hy]; exact List.getElem_mem hqB)
              have hsn := any_snoc (fun y => A[i].meets y) B q hqB
              rw [hy] at hsn
              obtain ⟨yt, yn, yl, ym⟩ := y
              have c0 := fun d os => (boxes_cells (boxes_regrown hEA3 d os) hiA HAi.out).1
              have c1 := fun d os => (boxes_cells (boxes_regrown hEA3 d os) hiA HAi.out).2.1
              have c2 := fun d os => (boxes_cells (boxes_regrown hEA3 d os) hiA HAi.out).2.2.1
              have c3 := fun d os => (boxes_cells (boxes_regrown hEA3 d os) hiA HAi.out).2.2.2
              have e0 := fun d os => (boxes_cells (boxes_regrown hEB3 d os) hqB hy).1
              have e1 := fun d os => (boxes_cells (boxes_regrown hEB3 d os) hqB hy).2.1
              have e2 := fun d os => (boxes_cells (boxes_regrown hEB3 d os) hqB hy).2.2.1
              have e3 := fun d os => (boxes_cells (boxes_regrown hEB3 d os) hqB hy).2.2.2
              obtain ⟨v, hv⟩ : ∃ v, meetsB a0 s (1 + a1 % 500) j yt yn yl ym = v := ⟨_, rfl⟩
              have cM := fun d os => Calls.regrown_of (w := wr) (d := d) (os := os) (meets_is (b := v) _ (by unfold Wide; omega) (by unfold Wide; omega) (by unfold Wide; omega) (by unfold Wide; omega) hyw.1 hyw.2.1 hyw.2.2.1 hyw.2.2.2 hv)
              have i0 : (0 : Int) ≤ (i : Int) := by omega
              have i1 : (i : Int) < (nA : Int) := by omega
              have i2 : (0 : Int) ≤ (q : Int) := by omega
              have i3 : (q : Int) < (nB : Int) := by omega
              have hAv : A[i].meets ⟨yt, yn, yl, ym⟩ = v := by rw [HAi.out]; exact hv
              have HBI := Lib.hid hbi
              simp only at c0 c1 c2 c3 e0 e1 e2 e3
              cases hmuc : mu with
              | true =>
                have HS : Hid (true = (mt || (B.take (q + 1)).any fun y => A[i].meets y)) := by
                  show _ = _; rw [hsn, ← Bool.or_assoc, ← hmu.out, hmuc]; rfl
                clear hmu hmuc hsn hv hAv hy hyw hbi hEA3 hEB3
                go_wp2
                refine wp_region_quiet_below (by kernel_rfl) (by kernel_rfl) ?_
                repeat (go_big_quiet_step (first | (with_reducible exact cM _ _)))
                refine wpQuiet_nil ?_
                intro _ hw'
                obtain ⟨⟨dq, osq⟩, hw''⟩ := hw'
                subst hw''
                go_wp2
                go_roundw
                case rel => exact ⟨q + 1, true, by omega, by go_num, rfl, HS, below_keep HBI.out (below_regrown wr dq osq)⟩
                case measure => simp [intOf]; omega
              | false =>
                have HS : Hid (v = (mt || (B.take (q + 1)).any fun y => A[i].meets y)) := by
                  show _ = _; rw [hsn, ← Bool.or_assoc, ← hmu.out, hmuc, hAv]; rfl
                clear hmu hmuc hsn hv hAv hy hyw hbi hEA3 hEB3
                go_wp2
                refine wp_region_quiet_below (by kernel_rfl) (by kernel_rfl) ?_
                repeat (go_big_quiet_step (first | (with_reducible exact cM _ _)))
                refine wpQuiet_nil ?_
                intro _ hw'
                obtain ⟨⟨dq, osq⟩, hw''⟩ := hw'
                subst hw''
                go_wp2
                go_roundw
                case rel => exact ⟨q + 1, v, by omega, by go_num, rfl, HS, below_keep HBI.out (below_regrown wr dq osq)⟩
                case measure => simp [intOf]; omega
            · have HS : Hid (mu = (A.take (i + 1)).any fun x => B.any fun y => x.meets y) := by
                show _ = _
                rw [any_snoc (fun x => B.any fun y => x.meets y) A i hiA, ← hmt.out, hmu.out, List.take_of_length_le (by rw [HLB.out]; omega)]
              have HBI := Lib.hid hbi
              clear hmu hbi
              go_wp2
              go_roundw
              case rel => exact ⟨i + 1, s + j, nv2, sv + ar, mu, by omega, by go_num, rfl, rfl, rfl, hbd1, hbd2, hnv2, HSUM.out, HS, HG6.out, HBI.out⟩
              case measure => simp [intOf]; omega
    · have hiE : i = nA := by omega
      subst hiE
      have hch' := hch.out
      rw [List.drop_of_length_le (by rw [HNA.out]; omega)] at hch'
      have hnv' : nv = a2 := by
        rw [hnv.out, ← low_gap 32 hch'.1 hch'.2]
        exact Int.emod_eq_of_lt m0 (by have : (2 : Int) ^ 32 = 4294967296 := by decide
                                       rw [this]; omega)
      have hsv' : sv = (onesTo (bitB a2) 16 : Nat) * (1 + a1 % 500) := by
        rw [hsv.out, ← ones_gap 32 hch'.1 hch'.2, ones_gap (p := 16) 32 (by omega) fun i h1 h2 => bit_high m0 (by omega) h1]
      have hmt' : mt = A.any fun x => B.any fun y => x.meets y := by
        rw [hmt.out, List.take_of_length_le (by rw [HLA.out]; omega)]
      have HNV := Lib.hid hnv'
      have HSV := Lib.hid hsv'
      have HMT := Lib.hid hmt'
      have HBW := Lib.hid hb
      clear hnv hsv hmt hch hch' hnv' hsv' hmt' hb
      go_wp2_with fail
      go_loop [19, 20] (fun x19 x20 => ∃ n : Nat, n ≤ 16 ∧ x20 = .int .i64 n ∧ x19 = .int .i64 (onesTo (bitB a2) n : Nat)) (fun _ n => 16 - (intOf n).toNat)
      case atStart => exact ⟨0, Nat.zero_le _, rfl, rfl⟩
      case round =>
        obtain ⟨n, hn, rfl, rfl⟩ := hrel
        have hol := ones_le (bitB a2) n
        by_cases hn16 : n < 16
        · have hb1 : decide ((n : Int) < 16) = true := by rw [decide_eq_true_iff]; omega
          have hdiv0 : 0 ≤ a2 / 2 ^ n := Int.ediv_nonneg m0 (Int.le_of_lt (Int.pow_pos (by decide)))
          have hdiv1 : a2 / 2 ^ n ≤ a2 := Int.ediv_le_self _ m0
          have hbits : bits BinOp.and IntKind.u16 (a2 / 2 ^ n) 1 = a2 / 2 ^ n % 2 := by
            rw [u16_and _ _ hdiv0 (by omega) (by omega) (by omega), show (1 : Int).toNat = 1 from rfl, nat_mask1]; omega
          rcases bit_cases a2 n with ⟨hbt, hbv⟩ | ⟨hbt, hbv⟩
          · have HO := Lib.hid (ones_yes hbt)
            rw [hbv] at hbits
            clear hbt hbv hdiv0 hdiv1
            go_wp2_with fail
            go_round
            case rel => exact ⟨n + 1, by omega, by go_num, by rw [HO.out]; go_num⟩
            case measure => simp [intOf]; omega
          · have HO := Lib.hid (ones_no hbt)
            rw [hbv] at hbits
            clear hbt hbv hdiv0 hdiv1
            go_wp2_with fail
            go_round
            case rel => exact ⟨n + 1, by omega, by go_num, by rw [HO.out]⟩
            case measure => simp [intOf]; omega
        · have hn' : n = 16 := by omega
          subst hn'
          clear hol hn16
          obtain ⟨o, ho⟩ : ∃ o, onesTo (bitB a2) 16 = o := ⟨_, rfl⟩
          rw [ho] at HSV
          have ho16 : o ≤ 16 := by rw [← ho]; exact ones_le _ _
          have hmt := HMT.out
          rw [HA.out, HB.out, HLa.out, HLb.out] at hmt
          have hmr := meet_rows (tick := a0) (long := 1 + a1 % 500) (late := a3 % 600) (mask := a2) (other := a4) HG.out HG'.out hr0
          rw [← hmt] at hmr
          have hapart : apartB A = true := by rw [HA.out, HLa.out]; exact apart_rows HG.out
          have HAP := Lib.hid hapart
          have HMR := Lib.hid hmr
          have hsv := HSV.out
          have hnv := HNV.out
          subst hnv hsv
          rw [ho]
          have HEA9 := Lib.hid (boxes_below HEA2.out HBW.out)
          have HBA := Lib.hid (below_keep HB2.out HBW.out)
          clear hmr hapart ho hmt HMT HNV HSV
          have hz : (bits BinOp.and IntKind.u16 nv a4 != 0) = true ↔ ∃ i, i < 32 ∧ bitB nv i = true ∧ bitB a4 i = true := by
            obtain ⟨x, hx⟩ := Int.eq_ofNat_of_zero_le m0
            obtain ⟨y, hy⟩ := Int.eq_ofNat_of_zero_le o0
            rw [u16_and _ _ m0 (by omega) o0 (by omega), bne_iff_ne]
            subst hx hy
            rw [Int.toNat_natCast, Int.toNat_natCast]
            have hand := and_zero x y
            constructor
            · intro h
              have hne : ¬ (x &&& y = 0) := fun h0 => h (by rw [h0]; rfl)
              rw [hand] at hne
              obtain ⟨i, hi⟩ := Classical.not_forall.1 hne
              have hi2 := Classical.not_not.1 hi
              refine ⟨i, ?_, hi2⟩
              rcases Nat.lt_or_ge i 16 with h1 | h1
              · omega
              · have := bit_high m0 (by omega) h1; rw [hi2.1] at this; cases this
            · rintro ⟨i, _, hi⟩ h
              have h0 : x &&& y = 0 := by omega
              exact hand.1 h0 i hi
          have hmz : mt = ((bits BinOp.and IntKind.u16 nv a4 != 0) && decide (a3 % 600 < 1 + a1 % 500)) := by
            rw [Bool.eq_iff_iff, HMR.out, Bool.and_eq_true, hz, decide_eq_true_iff]
          clear hz HMR
          have hwr : IntKind.i64.wrap ((o : Int) * (1 + a1 % 500)) = (o : Int) * (1 + a1 % 500) := IntWalk.i64_in _ (by omega)
          have hall : ∀ y ∈ A, y.wide := fun y hy => (HWA.out y hy).1
          have hmax : capA ≤ maxLen := by unfold maxLen; omega
          cases hb1 : (bits BinOp.and IntKind.u16 nv a4 != 0) with
          | false =>
            rw [hb1] at hmz
            simp only [Bool.false_and] at hmz
            subst hmz
            go_wp2_with fail
            refine (awake_any _).mono ?_
            rintro e5 w5 ⟨rfl, hb5⟩
            have HEA10 := Lib.hid (boxes_below HEA9.out hb5)
            have HBB := Lib.hid (below_keep HBA.out hb5)
            clear hb5
            go_wp2_with fail
            refine (apart_is _ _ _ _ HAP.out hall HLA.out hcA1 hmax HEA10.out).mono ?_
            rintro e6 w6 ⟨rfl, hb6⟩
            go_wp2
            go_ret
            exact ⟨rfl, below_keep HBB.out hb6⟩
          | true =>
            rw [hb1] at hmz
            simp only [Bool.true_and] at hmz
            cases hb2 : decide (a3 % 600 < 1 + a1 % 500)
            all_goals
              rw [hb2] at hmz
              subst hmz
              go_wp2_with fail
              refine (awake_any _).mono ?_
              rintro e5 w5 ⟨rfl, hb5⟩
              have HEA10 := Lib.hid (boxes_below HEA9.out hb5)
              have HBB := Lib.hid (below_keep HBA.out hb5)
              clear hb5
              go_wp2_with fail
              refine (apart_is _ _ _ _ HAP.out hall HLA.out hcA1 hmax HEA10.out).mono ?_
              rintro e6 w6 ⟨rfl, hb6⟩
              go_wp2
              go_ret
              exact ⟨rfl, below_keep HBB.out hb6⟩

set_option maxRecDepth 100000 in
theorem lifted (os : Os) (started : os.Started) (H : Type) (enc : TypeId × Value → H) :
    ReturnsInHanded {} Try.checked os 6 .any (Rows.planeCoversSpec.pre6 enc Try.prog Try.f6 Rows.planeCoversRow.domain false) (Rows.planeCoversSpec.post enc Try.prog Try.f6 false true false false) := by
  refine returnsInHanded_of_change (C := Try.checked) own started (by kernel_rfl) Try.func6
    (ChangeSpec.witness6 (enc := enc) (C := Try.checked) false ⟨#[], #[.int .u16 0, .int .u16 0, .int .u16 0, .int .u16 0, .int .u16 0], []⟩ 8 (by kernel_rfl) (by kernel_rfl) (by kernel_rfl) (by kernel_rfl)) ?_
  intro W base args ds gs before hval0 hW hcnd _
  have hval : ∀ (j : Nat) t v, Try.f6.params[j]? = some t → args[j]? = some v → Value.okWide Try.prog W .any base t v := hval0
  have hW' := hW
  obtain ⟨p, q, hA0, hV, rfl, hfz, hnd⟩ := hW
  have hA : DataW.TrodAll enc Try.prog W 0 (fun _ => true) true Try.f6.params.toList args.toList ds p := hA0
  rw [Try.params6] at hA hval
  obtain ⟨v0, vs0, d0, ds0, p0, q0, hargs, rfl, rfl, h0, r0⟩ := trodAll_cons hA
  obtain ⟨v1, vs1, d1, ds1, p1, q1, rfl, rfl, rfl, h1, r1⟩ := trodAll_cons r0
  obtain ⟨v2, vs2, d2, ds2, p2, q2, rfl, rfl, rfl, h2, r2⟩ := trodAll_cons r1
  obtain ⟨v3, vs3, d3, ds3, p3, q3, rfl, rfl, rfl, h3, r3⟩ := trodAll_cons r2
  obtain ⟨v4, vs4, d4, ds4, p4, q4, rfl, rfl, rfl, h4, r4⟩ := trodAll_cons r3
  obtain ⟨rfl, rfl, rfl⟩ := trodAll_nil r4
  obtain rfl : args = #[v0, v1, v2, v3, v4] := by cases args; simp_all
  obtain ⟨rfl, rfl⟩ := trodVars_none hV
  have k0 := h0
  have lt0 : ∀ x ∈ p0, x.block < W.heap.size := by obtain ⟨m, hm⟩ := k0; exact DataW.trod_lt m _ _ _ hm
  obtain ⟨a0, rfl, _, _, w0⟩ := open_int Try.underlying33 (hval 0 33 v0 rfl rfl) h0
  have k1 := h1
  have lt1 : ∀ x ∈ p1, x.block < W.heap.size := by obtain ⟨m, hm⟩ := k1; exact DataW.trod_lt m _ _ _ hm
  obtain ⟨a1, rfl, _, _, w1⟩ := open_int Try.underlying33 (hval 1 33 v1 rfl rfl) h1
  have k2 := h2
  have lt2 : ∀ x ∈ p2, x.block < W.heap.size := by obtain ⟨m, hm⟩ := k2; exact DataW.trod_lt m _ _ _ hm
  obtain ⟨a2, rfl, _, _, w2⟩ := open_int Try.underlying33 (hval 2 33 v2 rfl rfl) h2
  have k3 := h3
  have lt3 : ∀ x ∈ p3, x.block < W.heap.size := by obtain ⟨m, hm⟩ := k3; exact DataW.trod_lt m _ _ _ hm
  obtain ⟨a3, rfl, _, _, w3⟩ := open_int Try.underlying33 (hval 3 33 v3 rfl rfl) h3
  have k4 := h4
  have lt4 : ∀ x ∈ p4, x.block < W.heap.size := by obtain ⟨m, hm⟩ := k4; exact DataW.trod_lt m _ _ _ hm
  obtain ⟨a4, rfl, _, _, w4⟩ := open_int Try.underlying33 (hval 4 33 v4 rfl rfl) h4
  clear hA0 hval0
  refine (walk W a0 w0 a1 w1 a2 w2 a3 w3 a4 w4).mono fun e W' ⟨he, bel⟩ => ?_
  subst he
  exact ⟨_, rfl, _, _, _, [], _, [], hW', trodAll_mk1 (shut_bool Try.underlying4 _), (trodAll_cons_mk (Below.trod laidOut (by kernel_rfl) (of_decide_eq_true (by kernel_rfl)) k0 bel lt0) (trodAll_cons_mk (Below.trod laidOut (by kernel_rfl) (of_decide_eq_true (by kernel_rfl)) k1 bel lt1) (trodAll_cons_mk (Below.trod laidOut (by kernel_rfl) (of_decide_eq_true (by kernel_rfl)) k2 bel lt2) (trodAll_cons_mk (Below.trod laidOut (by kernel_rfl) (of_decide_eq_true (by kernel_rfl)) k3 bel lt3) (trodAll_cons_mk (Below.trod laidOut (by kernel_rfl) (of_decide_eq_true (by kernel_rfl)) k4 bel lt4) trodAll_mk0))))), rfl, bel.frame _, fun h => by cases h⟩

theorem over : Rows.planeCoversRow.holds Try.pinned (OpenSpec.ofChange Rows.planeCoversSpec) :=
  OpenClaim.holds_of_wide 6 Try.f6 rfl rfl rfl rfl rfl rfl rfl ⟨rfl, rfl, rfl, rfl, rfl⟩ rfl rfl rfl rfl rfl (by kernel_rfl) Try.func6 (by kernel_rfl)
    (of_decide_eq_true (by kernel_rfl)) (by unfold Func.isWrapper; first | (rw [if_pos (by decide +kernel)]; kernel_rfl) | (rw [if_neg (by decide +kernel)]; exact ⟨rfl, rfl⟩))
    (fun os started H enc _ => lifted os started H enc)

/-- THE STATEMENT -/
theorem proved : Rows.PlaneCoversSaid := over
#print axioms proved
end Go.Proofs.Ytahkhkfmpnoneaa.planeCovers
