/- Frame: the document's own Pack. -/
import Derived.Test.YtfnkeknnlndjcaaFrmRef
namespace Go.Proofs.Ytfnkeknnlndjcaa.Frm
open Go.RowKit
open Go.Sort
open Kit
open Oct
open Chk
set_option linter.unusedVariables false

def inE (e q : Int) : Prop := (0 ≤ e ∧ e < 4294967296) ∧ (0 ≤ q ∧ q < 4294967296)
instance (e q : Int) : Decidable (inE e q) := by unfold inE; exact inferInstance
theorem rpack_bad (e q : Int) (aa : Option Addr) (len cap : Nat) (w : World) (h : ¬ inE e q) :
    Calls Try.prog 8 #[.int .i64 e, .int .i64 q, .slice aa len cap] w fun e w' => e = .returned (.tuple #[.slice none 0 0, .int .i64 1]) ∧ w = w' := by
  unfold inE at h
  by_cases h0 : e < 0
  · go_enter Try.func8, Try.ntmps8
    go_wp2
    go_ret2
    exact ⟨rfl, rfl⟩
  · by_cases h1 : q < 0
    · go_enter Try.func8, Try.ntmps8
      go_wp2
      go_ret2
      exact ⟨rfl, rfl⟩
    · by_cases h2 : 4294967296 ≤ e
      · go_enter Try.func8, Try.ntmps8
        go_wp2
        go_ret2
        exact ⟨rfl, rfl⟩
      · have h3 : 4294967296 ≤ q := by omega
        clear h
        go_enter Try.func8, Try.ntmps8
        go_wp2
        go_ret2
        exact ⟨rfl, rfl⟩

set_option maxHeartbeats 4000000 in
theorem rpack_ok (e q : Nat) (he : e < 4294967296) (hq : q < 4294967296) (aa : Option Addr) (len cap : Nat) (l : Bs) (w : World) (hl : l.length = len) (hm : len ≤ 1900) (hn : aa = none → len = 0 ∧ cap = 0) (hE : RowB w aa l) :
    Calls Try.prog 8 #[.int .i64 (e : Nat), .int .i64 (q : Nat), .slice aa len cap] w fun e' w' => ∃ v, e' = .returned (.tuple #[v, .int .i64 0]) ∧ OwnB w' w.heap.size v (packB e q l) ∧ Below w.heap.size w w' := by
  subst hl
  have HE := Lib.hid (And.intro hE hn)
  obtain ⟨E, hEe⟩ : ∃ E : Int, E = (e : Int) := ⟨_, rfl⟩
  obtain ⟨Q, hQe⟩ : ∃ Q : Int, Q = (q : Int) := ⟨_, rfl⟩
  rw [← hEe, ← hQe]
  have g1 : ¬ E < 0 := by omega
  have g2 : ¬ Q < 0 := by omega
  have g3 : ¬ 4294967296 ≤ E := by omega
  have g4 : ¬ 4294967296 ≤ Q := by omega
  have HEQ := Lib.hid (And.intro hEe hQe)
  have HL := Lib.hid (And.intro he hq)
  have g5 : ¬ (65535 : Int) < l.length := by omega
  clear hE hn hEe hQe he hq
  go_enter Try.func8, Try.ntmps8
  go_wp2_with fail
  clear g1 g3 g5
  rw [HEQ.out.1]
  refine (rbe_any e 4 (by have := HL.out.1; omega) (by omega) w).mono ?_
  rintro e' w1 ⟨rfl, ho1, hb1⟩
  have H1 := Lib.hid (And.intro ho1 hb1)
  clear ho1 hb1
  go_wp2_with fail
  clear g2 g4
  rw [HEQ.out.2]
  refine (rbe_any q 4 (by have := HL.out.2; omega) (by omega) w1).mono ?_
  rintro e' w2 ⟨rfl, ho2, hb2⟩
  have H2 := Lib.hid (And.intro (own_keep H1.out.1 hb2) (And.intro (own_row' ho2) (below_keep H1.out.2 hb2)))
  clear ho2 hb2
  go_wp2_with (first
    | (at_builtin; refine append_b rfl (.tmp 34) (.tmp 37) rfl w.heap.size _ (beB 4 e) rfl H2.out.1 (some ⟨w1.heap.size, 0, none⟩) 4 4 (beB 4 q) rfl (beB_length 4 q) H2.out.2.1 (fun h => by cases h) (by rw [beB_length]; omega) H2.out.2.2.size ?_; intro v3 w3 ho3 hb3
       obtain ⟨gm, cm, rfl, hrm, hgm1, hgm2, _, _⟩ := own_form ho3 (by simp [beB_length])
       have hml : (beB 4 e ++ beB 4 q).length = 8 := by simp [beB_length]
       have H3 := Lib.hid (And.intro (show RowB w3 (some ⟨gm, 0, none⟩) (mark e q) from hrm) (And.intro hgm2 (H2.out.2.2.trans hb3)))
       rw [hml]
       clear ho3 hb3 hrm hgm1 hgm2 hml)
    | fail)
  refine (rbe_any l.length 2 (by omega) (by omega) w3).mono ?_
  rintro e' w4 ⟨rfl, ho4, hb4⟩
  have H4 := Lib.hid (And.intro ho4 hb4)
  have HM4 := Lib.hid (row_belowAt H3.out.1 hb4 H3.out.2.1)
  have HB4 := Lib.hid (below_keep H3.out.2.2 hb4)
  clear ho4 hb4
  obtain ⟨S, hS⟩ : ∃ S : Nat, S = sumR e q l := ⟨_, rfl⟩
  have hS32 : S < 4294967296 := by rw [hS]; exact (crc _ _).isLt
  have HS := Lib.hid (And.intro hS hS32)
  clear hS hS32
  go_wp2_with (first
    | (at_builtin; refine append_b rfl (.tmp 43) (.tmp 44) rfl w4.heap.size _ [] rfl (own_empty w4 w4.heap.size (Nat.le_refl _)) (some ⟨gm, 0, none⟩) 8 cm (mark e q) rfl (mark_length e q) (row_alloc HM4.out _) (fun h => by cases h) (by simp) (by simp) ?_; intro v5 w5 ho5 hb5
       have H5 := Lib.hid (And.intro ho5 ((below_alloc w4 _).trans hb5))
       clear ho5 hb5)
    | (at_builtin; refine append_b rfl (.tmp 45) (.tmp 46) rfl w4.heap.size _ _ rfl H5.out.1 (some ⟨w3.heap.size, 0, none⟩) 2 2 (beB 2 l.length) rfl (beB_length 2 _) (row_belowAt (own_row' H4.out.1) H5.out.2 (own_lt H4.out.1).2) (fun h => by cases h) (by rw [List.nil_append, mark_length]; omega) H5.out.2.size ?_; intro v6 w6 ho6 hb6
       have H6 := Lib.hid (And.intro ho6 (H5.out.2.trans hb6))
       clear ho6 hb6)
    | (at_builtin; refine append_b rfl (.tmp 47) (.tmp 48) rfl w4.heap.size _ _ rfl H6.out.1 aa l.length cap l rfl rfl (row_keep encB_len HE.out.1 (below_keep HB4.out H6.out.2)) HE.out.2 (by rw [List.length_append, List.nil_append, mark_length, beB_length]; omega) H6.out.2.size ?_; intro v7 w7 ho7 hb7
       obtain ⟨a7, c7, rfl, _, _, _, hr7⟩ := own_row ho7
       have H7 := Lib.hid (And.intro (show RowB w7 a7 (mark e q ++ beB 2 l.length ++ l) from hr7) (H6.out.2.trans hb7))
       have hl7 : ([] ++ mark e q ++ beB 2 l.length ++ l).length = l.length + 10 := by simp [mark_length, beB_length]; omega
       rw [hl7]
       clear ho7 hb7 hr7 hl7)
    | fail)
  refine (rof_any a7 (l.length + 10) c7 (mark e q ++ beB 2 l.length ++ l) w7 (by simp [mark_length, beB_length]; omega) (by omega) H7.out.1).mono ?_
  rintro e' w7' ⟨rfl, hw⟩
  subst hw
  rw [show uv (crc 0xffffffff#32 (mark e q ++ beB 2 l.length ++ l)) = .int .u32 (S : Nat) from by rw [HS.out.1]; rfl]
  obtain ⟨X, hX⟩ : ∃ X : Int, X = (S : Int) := ⟨_, rfl⟩
  rw [← hX]
  have g1 : ¬ X < 0 := by omega
  have g2 : ¬ 4294967296 ≤ X := by have := HS.out.2; omega
  have HXX := Lib.hid hX
  clear hX
  go_wp2_with fail
  clear g1 g2
  rw [HXX.out]
  refine (rbe_any S 4 (by have := HS.out.2; omega) (by omega) w7).mono ?_
  rintro e' w8 ⟨rfl, ho8, hb8⟩
  have hb48 := below_keep H7.out.2 hb8
  have H8 := Lib.hid (And.intro (own_keep H4.out.1 hb48) (And.intro (own_row' ho8) (below_keep HB4.out hb48)))
  have HM8 := Lib.hid (row_keep encB_len HM4.out hb48)
  have HZ8 := Lib.hid (Nat.le_trans H4.out.2.size hb48.size)
  clear ho8 hb8 hb48
  go_wp2_with (first
    | (at_builtin; refine append_b rfl (.tmp 51) (.tmp 54) rfl w3.heap.size _ (beB 2 l.length) rfl H8.out.1 (some ⟨w7.heap.size, 0, none⟩) 4 4 (beB 4 S) rfl (beB_length 4 _) H8.out.2.1 (fun h => by cases h) (by rw [beB_length]; omega) HZ8.out ?_; intro v9 w9 ho9 hb9
       have H9 := Lib.hid (And.intro ho9 (And.intro hb9 (H8.out.2.2.trans (hb9.mono H3.out.2.2.size))))
       clear ho9 hb9)
    | (at_builtin; refine append_b rfl (.tmp 55) (.tmp 56) rfl w3.heap.size _ _ rfl H9.out.1 aa l.length cap l rfl rfl (row_keep encB_len HE.out.1 H9.out.2.2) HE.out.2 (by rw [List.length_append, beB_length, beB_length]; omega) (Nat.le_trans HZ8.out H9.out.2.1.size) ?_; intro v10 w10 ho10 hb10
       have hdl : (beB 2 l.length ++ beB 4 S ++ l).length = l.length + 6 := by simp [beB_length]; omega
       obtain ⟨gd, cd, rfl, hrd, hgd1, hgd2, _, _⟩ := own_form ho10 (by rw [hdl]; omega)
       rw [hdl]
       have hm10 := row_belowAt HM8.out (H9.out.2.1.trans hb10) H3.out.2.1
       have H10 := Lib.hid (And.intro (show RowB w10 (some ⟨gd, 0, none⟩) (dataB e q l) from by unfold dataB; rw [← HS.out.1]; exact hrd) (And.intro hm10 (And.intro hgd2 (H9.out.2.2.trans (hb10.mono H3.out.2.2.size)))))
       clear ho10 hb10 hrd hgd1 hgd2 hm10 hdl)
    | fail)
  have hsec : secsI (l.length : Int) = secs l.length := by unfold secsI; rw [if_neg (by omega)]; rfl
  have hsle : secs l.length ≤ 81 := by unfold secs; omega
  have hpk : packB e q l = packN (dataB e q l) (mark e q) (24 * secs l.length) := rfl
  have HPk := Lib.hid hpk
  have HSec := Lib.hid hsec
  have HL2 := Lib.hid (dataB_length e q l)
  have HMk := Lib.hid (mark_length e q)
  have HBw := Lib.hid (fun (w' : World) (v : Value) (h : OwnB w' w10.heap.size v (packB e q l)) => own_le (base' := w.heap.size) h H10.out.2.2.2.size)
  clear hpk hsec
  generalize hP : packB e q l = P at *
  have HP0 := Lib.hid hP
  clear hP
  generalize dataB e q l = D at *
  generalize mark e q = M at *
  generalize secs l.length = K at *
  go_loopw [12, 13] (fun v iv wx => ∃ i : Nat, i ≤ 24 * K ∧ iv = .int .i64 i ∧ OwnB wx w10.heap.size v (packN D M i) ∧ Below w10.heap.size w10 wx) (fun _ iv _ => 24 * K - (intOf iv).toNat)
  case atStart => exact ⟨0, Nat.zero_le _, rfl, own_empty w10 w10.heap.size (Nat.le_refl _), below_alloc w10 _⟩
  case round =>
    obtain ⟨i, hi, rfl, ho, hb⟩ := hrel
    have HO := Lib.hid (And.intro ho hb)
    have HRs := Lib.hid (rsectors_any (l.length : Int) (by omega) wr)
    rw [HSec.out] at HRs
    clear ho hb
    by_cases hlt : i < 24 * K
    · have hpl := packN_le (d := D) HMk.out i
      have hps := packN_succ D M i
      have hc24 : (i : Int) < 24 * (K : Int) := by omega
      by_cases hd : i < l.length + 6
      · have hrd := row_belowAt H10.out.1 HO.out.2 H10.out.2.2.1
        have hid : i < D.length := by rw [HL2.out]; exact hd
        have x0 := row_cell hrd hid rfl (i := 0) (by omega)
        simp only [encB, Nat.zero_add, Nat.add_zero, Nat.mul_one, List.getElem?_cons_zero] at x0
        have hg : D.getD i 0 = D[i] := by simp [List.getD, hid]
        rw [hg] at hps
        generalize D[i] = x at *
        have hdi : (i : Int) < (l.length : Int) + 6 := by omega
        clear hrd hid hg hd
        by_cases hm : i % 24 = 23
        · rw [if_pos hm] at hps
          have hmi : ((i : Int) % 24 == 23) = true := by rw [beq_iff_eq]; omega
          have HPs := Lib.hid (And.intro hps hpl)
          clear hps hpl hm
          go_wp2_with (first
            | (go_at_call 11; refine HRs.out.mono ?_; rintro e' w11 ⟨rfl, rfl⟩)
            | (at_builtin; refine append_b rfl (.tmp 75) (.tmp 77) rfl w10.heap.size u12 (packN D M i) rfl (owns_alloc HO.out.1 _) (some ⟨wr.heap.size, 0, none⟩) 1 1 [x] rfl rfl (row_one wr (by first | rfl | rw [← hx0.out])) (fun h => by cases h) (by have := HPs.out.2; omega) (Nat.le_trans HO.out.2.size (by simp)) ?_; intro v12 w12 ho12 hb12
               have HV := Lib.hid (And.intro ho12 ((HO.out.2.alloc HO.out.2.size _).trans hb12))
               clear ho12 hb12)
            | (at_builtin; refine append_b rfl (.tmp 82) (.tmp 83) rfl w10.heap.size v12 _ rfl HV.out.1 (some ⟨gm, 0, none⟩) 8 cm M rfl HMk.out (row_belowAt H10.out.2.1 HV.out.2 (Kit.row_lt encB_len (by omega) H10.out.2.1 (by rw [HMk.out]; omega))) (fun h => by cases h) (by rw [List.length_append]; have := HPs.out.2; simp only [List.length_cons, List.length_nil]; omega) HV.out.2.size ?_; intro v13 w13 ho13 hb13
               have HW := Lib.hid (And.intro ho13 (HV.out.2.trans hb13))
               clear ho13 hb13)
            | fail)
          go_roundw
          case rel => exact ⟨i + 1, by omega, by go_num, by rw [HPs.out.1]; exact HW.out.1, HW.out.2⟩
          case measure => simp [intOf]; omega
        · rw [if_neg hm, List.append_nil] at hps
          have hmi : ((i : Int) % 24 == 23) = false := by rw [beq_eq_false_iff_ne]; omega
          have HPs := Lib.hid (And.intro hps hpl)
          clear hps hpl hm
          go_wp2_with (first
            | (go_at_call 11; refine HRs.out.mono ?_; rintro e' w11 ⟨rfl, rfl⟩)
            | (at_builtin; refine append_b rfl (.tmp 75) (.tmp 77) rfl w10.heap.size u12 (packN D M i) rfl (owns_alloc HO.out.1 _) (some ⟨wr.heap.size, 0, none⟩) 1 1 [x] rfl rfl (row_one wr (by first | rfl | rw [← hx0.out])) (fun h => by cases h) (by have := HPs.out.2; omega) (Nat.le_trans HO.out.2.size (by simp)) ?_; intro v12 w12 ho12 hb12
               have HV := Lib.hid (And.intro ho12 ((HO.out.2.alloc HO.out.2.size _).trans hb12))
               clear ho12 hb12)
            | (at_builtin; refine append_b rfl (.tmp 82) (.tmp 83) rfl w10.heap.size v12 _ rfl HV.out.1 (some ⟨gm, 0, none⟩) 8 cm M rfl HMk.out (row_belowAt H10.out.2.1 HV.out.2 (Kit.row_lt encB_len (by omega) H10.out.2.1 (by rw [HMk.out]; omega))) (fun h => by cases h) (by rw [List.length_append]; have := HPs.out.2; simp only [List.length_cons, List.length_nil]; omega) HV.out.2.size ?_; intro v13 w13 ho13 hb13
               have HW := Lib.hid (And.intro ho13 (HV.out.2.trans hb13))
               clear ho13 hb13)
            | fail)
          go_roundw
          case rel => exact ⟨i + 1, by omega, by go_num, by rw [HPs.out.1]; exact HV.out.1, HV.out.2⟩
          case measure => simp [intOf]; omega
      · have hg : D.getD i 0 = 0 := getD_past (by rw [HL2.out]; omega)
        rw [hg] at hps
        have hdi : ¬ (i : Int) < (l.length : Int) + 6 := by omega
        obtain ⟨x, hx⟩ : ∃ x : UInt8, x = 0 := ⟨0, rfl⟩
        rw [← hx] at hps
        have hx0 : Hid ((0 : Int) = (x.toNat : Int)) := Lib.hid (by rw [hx]; rfl)
        clear hg hd hx
        by_cases hm : i % 24 = 23
        · rw [if_pos hm] at hps
          have hmi : ((i : Int) % 24 == 23) = true := by rw [beq_iff_eq]; omega
          have HPs := Lib.hid (And.intro hps hpl)
          clear hps hpl hm
          go_wp2_with (first
            | (go_at_call 11; refine HRs.out.mono ?_; rintro e' w11 ⟨rfl, rfl⟩)
            | (at_builtin; refine append_b rfl (.tmp 75) (.tmp 77) rfl w10.heap.size u12 (packN D M i) rfl (owns_alloc HO.out.1 _) (some ⟨wr.heap.size, 0, none⟩) 1 1 [x] rfl rfl (row_one wr (by first | rfl | rw [← hx0.out])) (fun h => by cases h) (by have := HPs.out.2; omega) (Nat.le_trans HO.out.2.size (by simp)) ?_; intro v12 w12 ho12 hb12
               have HV := Lib.hid (And.intro ho12 ((HO.out.2.alloc HO.out.2.size _).trans hb12))
               clear ho12 hb12)
            | (at_builtin; refine append_b rfl (.tmp 82) (.tmp 83) rfl w10.heap.size v12 _ rfl HV.out.1 (some ⟨gm, 0, none⟩) 8 cm M rfl HMk.out (row_belowAt H10.out.2.1 HV.out.2 (Kit.row_lt encB_len (by omega) H10.out.2.1 (by rw [HMk.out]; omega))) (fun h => by cases h) (by rw [List.length_append]; have := HPs.out.2; simp only [List.length_cons, List.length_nil]; omega) HV.out.2.size ?_; intro v13 w13 ho13 hb13
               have HW := Lib.hid (And.intro ho13 (HV.out.2.trans hb13))
               clear ho13 hb13)
            | fail)
          go_roundw
          case rel => exact ⟨i + 1, by omega, by go_num, by rw [HPs.out.1]; exact HW.out.1, HW.out.2⟩
          case measure => simp [intOf]; omega
        · rw [if_neg hm, List.append_nil] at hps
          have hmi : ((i : Int) % 24 == 23) = false := by rw [beq_eq_false_iff_ne]; omega
          have HPs := Lib.hid (And.intro hps hpl)
          clear hps hpl hm
          go_wp2_with (first
            | (go_at_call 11; refine HRs.out.mono ?_; rintro e' w11 ⟨rfl, rfl⟩)
            | (at_builtin; refine append_b rfl (.tmp 75) (.tmp 77) rfl w10.heap.size u12 (packN D M i) rfl (owns_alloc HO.out.1 _) (some ⟨wr.heap.size, 0, none⟩) 1 1 [x] rfl rfl (row_one wr (by first | rfl | rw [← hx0.out])) (fun h => by cases h) (by have := HPs.out.2; omega) (Nat.le_trans HO.out.2.size (by simp)) ?_; intro v12 w12 ho12 hb12
               have HV := Lib.hid (And.intro ho12 ((HO.out.2.alloc HO.out.2.size _).trans hb12))
               clear ho12 hb12)
            | (at_builtin; refine append_b rfl (.tmp 82) (.tmp 83) rfl w10.heap.size v12 _ rfl HV.out.1 (some ⟨gm, 0, none⟩) 8 cm M rfl HMk.out (row_belowAt H10.out.2.1 HV.out.2 (Kit.row_lt encB_len (by omega) H10.out.2.1 (by rw [HMk.out]; omega))) (fun h => by cases h) (by rw [List.length_append]; have := HPs.out.2; simp only [List.length_cons, List.length_nil]; omega) HV.out.2.size ?_; intro v13 w13 ho13 hb13
               have HW := Lib.hid (And.intro ho13 (HV.out.2.trans hb13))
               clear ho13 hb13)
            | fail)
          go_roundw
          case rel => exact ⟨i + 1, by omega, by go_num, by rw [HPs.out.1]; exact HV.out.1, HV.out.2⟩
          case measure => simp [intOf]; omega
    · obtain rfl : i = 24 * K := by omega
      have hc24 : ¬ (((24 * K : Nat) : Int) < 24 * (K : Int)) := by omega
      go_wp2_with (first | (go_at_call 11; refine HRs.out.mono ?_; rintro e' w11 ⟨rfl, rfl⟩) | fail)
      go_ret2
      exact ⟨u12, rfl, by rw [HP0.out]; exact HBw.out _ _ (by rw [HPk.out]; exact HO.out.1), H10.out.2.2.2.trans (HO.out.2.mono H10.out.2.2.2.size)⟩

end Go.Proofs.Ytfnkeknnlndjcaa.Frm
