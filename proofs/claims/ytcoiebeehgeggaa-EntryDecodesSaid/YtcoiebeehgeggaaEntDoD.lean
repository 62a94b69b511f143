/- Entry: the landed Decode. -/
import Derived.Test.YtcoiebeehgeggaaEntDoM
import Derived.Test.YtcoiebeehgeggaaScopeF
import Derived.Test.YtcoiebeehgeggaaRegChn
namespace Go.Proofs.Ytcoiebeehgeggaa.Ent
set_option maxRecDepth 100000
open Go.RowKit
open Go.Sort
open Kit
open Oct
open Foot
open Tre (Lst inI lst_keep lst_take lst_at lst_new lst_none i64_wf cells_int IntsL int_cell encI encI_len encI_one OwI own_chg' info_i run_ld2)
open Led (Lg encG encG_len encG_one Legs leg_cells info_leg)
set_option linter.unusedVariables false
variable {w w' : World}

set_option maxHeartbeats 32000000 in
theorem ldec_any (W : World) (ab : Option Addr) (n c : Nat) (l : List UInt8) (hl : l.length = n) (hc : n ≤ c) (hm : c ≤ maxLen) (hz : ab = none → n = 0 ∧ c = 0) (hE : RowB W ab l) (hn : n ≤ 140737488351232) :
    Calls Try.prog 10 #[.slice ab n c] W fun e W' => ∃ x : Tv, e = .returned (.tuple #[valV x, .int .i64 (decE l)]) ∧ x.t = decV l ∧ x.In W' ∧ Below W.heap.size W W' := by
  rcases h1 : rInt (some l) with ⟨sq, s1⟩
  rcases h2 : rInt s1 with ⟨tm, s2⟩
  rcases h3 : rInt s2 with ⟨kd, s3⟩
  rcases h4 : rText 16 s3 with ⟨ky, s4⟩
  rcases h5 : rText 16 s4 with ⟨nm, s5⟩
  rcases h6 : rInt s5 with ⟨na, s6⟩
  rcases h7 : rInts na.toNat s6 with ⟨ag, s7⟩
  rcases h8 : rInt s7 with ⟨nl, s8⟩
  rcases h9 : rInts (2 * nl.toNat) s8 with ⟨ls, s9⟩
  have HD := Lib.hid (dec_of h1 h2 h3 h4 h5 h6 h7 h8 h9)
  have HE := Lib.hid (And.intro h1 (And.intro h2 (And.intro h3 (And.intro h4 (And.intro h5 (And.intro h6 (And.intro h7 (And.intro h8 h9))))))))
  have HB0 := Lib.hid (And.intro hl (And.intro hz hE))
  clear h1 h2 h3 h4 h5 h6 h7 h8 h9 hl hz hE
  have hb1 := below_alloc W (.cells zero7.toArray 25)
  have hr1 := Arr.blk_new W W.heap.size 25 zero7 rfl
  have hb2 := below_alloc (W.alloc (.cells zero7.toArray 25)) (.cells zero7.toArray 25)
  have z1 : (W.alloc (.cells zero7.toArray 25)).heap.size = W.heap.size + 1 := by simp
  have hst : St W ((W.alloc (.cells zero7.toArray 25)).alloc (.cells zero7.toArray 25)) (W.heap.size + 1) zero7 :=
    ⟨below_keep hb1 hb2, Arr.blk_below hr1 hb2 (Arr.blk_lt hr1), Arr.blk_new _ _ 25 zero7 z1.symm, Nat.lt_succ_self _⟩
  have HSt := Lib.hid (And.intro hst (show ((W.alloc (.cells zero7.toArray 25)).alloc (.cells zero7.toArray 25)).heap.size = W.heap.size + 1 + 1 by simp))
  clear hb1 hr1 hb2 z1 hst
  go_enter Try.func10, Try.ntmps10
  go_wp2_with fail
  refine Scp.wp_ahead rfl ?_
  go_upto_region 3 with fail
  obtain ⟨w1, hw1⟩ : ∃ z, z = (W.alloc (.cells #[.int .i64 0, .int .i64 0, .int .i64 0, .string ⟨#[]⟩, .string ⟨#[]⟩, .slice none 0 0, .slice none 0 0] 25)).alloc (.cells #[.int .i64 0, .int .i64 0, .int .i64 0, .string ⟨#[]⟩, .string ⟨#[]⟩, .slice none 0 0, .slice none 0 0] 25) := ⟨_, rfl⟩
  rw [← hw1]
  rw [show (W.alloc (.cells zero7.toArray 25)).alloc (.cells zero7.toArray 25) = w1 from hw1.symm] at HSt
  obtain ⟨B, hBe⟩ : ∃ B, B = W.heap.size + 1 := ⟨_, rfl⟩
  rw [← hBe] at HSt ⊢
  clear hw1 hBe
  have HR := Lib.hid (new_any ab n c l w1 HB0.out.1 HB0.out.2.1 (row_keep encB_len HB0.out.2.2 HSt.out.1.below) (by omega))
  go_wp2_with fail
  refine HR.out.mono ?_
  rintro e w3 ⟨p, rfl, hr, hb⟩
  have HD3 := Lib.hid (dt_new HSt.out.1 HSt.out.2 hr hb)
  obtain ⟨D, hDe⟩ : ∃ D, D = w3.heap.size := ⟨_, rfl⟩
  rw [← hDe] at HD3
  clear hr hb hDe HR
  go_wp2_with fail
  refine (dt_int HD3.out HE.out.1).mono ?_
  rintro e w4 ⟨rfl, hd, -⟩
  have H4 := Lib.hid hd
  clear hd HD3
  go_wp2_with fail
  refine (dt_int H4.out HE.out.2.1).mono ?_
  rintro e w5 ⟨rfl, hd, -⟩
  have H5 := Lib.hid hd
  clear hd H4
  go_wp2_with fail
  refine (dt_int H5.out HE.out.2.2.1).mono ?_
  rintro e w6 ⟨rfl, hd, -⟩
  have H6 := Lib.hid (dt_set (dt_set (dt_set hd 0 (.int .i64 sq)) 1 (.int .i64 tm)) 2 (.int .i64 kd))
  have q0 := st_cell hd.st (i := 0) rfl
  have f0 := st_frozen hd.st 0
  have q1 := st_cell (dt_set hd 0 (.int .i64 sq)).st (i := 1) rfl
  have f1 := st_frozen (dt_set hd 0 (.int .i64 sq)).st 1
  have q2 := st_cell (dt_set (dt_set hd 0 (.int .i64 sq)) 1 (.int .i64 tm)).st (i := 2) rfl
  have f2 := st_frozen (dt_set (dt_set hd 0 (.int .i64 sq)) 1 (.int .i64 tm)).st 2
  clear hd H5
  go_upto_region 5 with fail
  obtain ⟨w7, hw7⟩ : ∃ z, z = ((w6.setCell ⟨B, 0, none⟩ (.int .i64 sq)).setCell ⟨B, 1, none⟩ (.int .i64 tm)).setCell ⟨B, 2, none⟩ (.int .i64 kd) := ⟨_, rfl⟩
  rw [← hw7]
  have H7 := Lib.hid (show Dt W w7 B D D p s3 [.int .i64 sq, .int .i64 tm, .int .i64 kd, .string ⟨#[]⟩, .string ⟨#[]⟩, .slice none 0 0, .slice none 0 0] none 0 0 [] by rw [hw7]; exact H6.out)
  clear hw7 H6 q0 q1 q2 f0 f1 f2
  go_wp2_with fail
  refine (dt_text H7.out HE.out.2.2.2.1).mono ?_
  rintro e w8 ⟨rfl, hd⟩
  have H8 := Lib.hid hd
  clear hd H7
  go_wp2_with fail
  refine (dt_text H8.out HE.out.2.2.2.2.1).mono ?_
  rintro e w9 ⟨rfl, hd⟩
  have H9 := Lib.hid (dt_set (dt_set hd 3 (.string ky)) 4 (.string nm))
  have q3 := st_cell hd.st (i := 3) rfl
  have f3 := st_frozen hd.st 3
  have q4 := st_cell (dt_set hd 3 (.string ky)).st (i := 4) rfl
  have f4 := st_frozen (dt_set hd 3 (.string ky)).st 4
  clear hd H8
  go_upto_region 6 with fail
  obtain ⟨wa, hwa⟩ : ∃ z, z = (w9.setCell ⟨B, 3, none⟩ (.string ky)).setCell ⟨B, 4, none⟩ (.string nm) := ⟨_, rfl⟩
  rw [← hwa]
  have Ha := Lib.hid (show Dt W wa B D D p s5 [.int .i64 sq, .int .i64 tm, .int .i64 kd, .string ky, .string nm, .slice none 0 0, .slice none 0 0] none 0 0 [] by rw [hwa]; exact H9.out)
  clear hwa H9 q3 q4 f3 f4
  go_wp2_with fail
  refine (dt_int Ha.out HE.out.2.2.2.2.2.1).mono ?_
  rintro e wb ⟨rfl, hd, -⟩
  have Hb := Lib.hid hd
  clear hd Ha
  have hor : (decT l = none ∧ (na < 0 ∨ (¬ na < 0 ∧ 8 < na))) ∨ (¬ na < 0 ∧ ¬ 8 < na) := by
    by_cases c2 : na < 0
    · exact .inl ⟨HD.out.1 (.inl c2), .inl c2⟩
    · by_cases c3 : 8 < na
      · exact .inl ⟨HD.out.1 (.inr c3), .inr ⟨c2, c3⟩⟩
      · exact .inr ⟨c2, c3⟩
  rcases hor with ⟨hd, hor⟩ | ⟨hna0, hna8⟩
  · have HDd := Lib.hid hd
    clear hd
    rcases hor with t1 | ⟨t1, t2⟩
    all_goals
      go_wp2_with fail
      go_step3
      refine ⟨rfl, ?_⟩
      go_wp2_with (first | (refine wpList_store_own rfl 25 (.tmp 2) (.tmp 70) rfl W.heap.size zero7 rfl rfl zero7 25 Hb.out.st.res info_tx7 rfl rfl ?_; intro wz hblk hC hsz) | fail)
      simp only [Scp.jumps_ret]
      refine bodyPost_ret (results_cell_row2 rfl _ _ W.heap.size 25 zero7 _ rfl hblk Try.underlying25 rfl info_tx7) rfl ?_
      have hbf := Hb.out.st.below.trans (chg_below hC (fun y hy => Nat.le_of_eq hy.symm) Hb.out.st.below.size)
      exact ⟨zTv, by rw [(dec_no HDd.out).1]; rfl, by rw [(dec_no HDd.out).2]; rfl, zTv_in _, hbf⟩
  · obtain ⟨k, rfl⟩ : ∃ k : Nat, na = (k : Int) := ⟨na.toNat, by omega⟩
    have h7 : rInts k s6 = (ag, s7) := by have h := HE.out.2.2.2.2.2.2.1; rwa [Int.toNat_natCast] at h
    have H7 := Lib.hid h7
    clear h7
    go_wp2_with fail
    go_loopw [34] (fun iv wr => ∃ (j : Nat) (v : Value), j ≤ k ∧ iv = .int .i64 (j : Nat) ∧ Gr encI 1 3 5 W B D D p none 0 0 [] [.int .i64 sq, .int .i64 tm, .int .i64 kd, .string ky, .string nm, .slice none 0 0, .slice none 0 0] (rInts j s6).2 (rInts j s6).1 v wr) (fun iv _ => k - (intOf iv).toNat)
    case atStart => exact ⟨0, .slice none 0 0, Nat.zero_le _, rfl, Hb.out, owns_nil _ _ _⟩
    case round =>
      obtain ⟨j, v, hj, rfl, hg⟩ := hrel
      by_cases hlt : j < k
      · rcases hx : rInt (rInts j s6).2 with ⟨x0, t1⟩
        have hsn := rInts_snoc j s6
        rw [hx] at hsn
        have HLn := Lib.hid (show (rInts j s6).1.length ≤ 1000 by rw [rInts_len]; omega)
        obtain ⟨xs, hxs⟩ : ∃ y, y = (rInts j s6).1 := ⟨_, rfl⟩
        obtain ⟨t0, ht0⟩ : ∃ y, y = (rInts j s6).2 := ⟨_, rfl⟩
        rw [← hxs] at HLn hg hsn
        rw [← ht0] at hg hx
        have HG := Lib.hid hg
        have HX := Lib.hid hx
        have HSn := Lib.hid hsn
        clear hg hx hsn hxs ht0
        go_wp2_with fail
        refine Chn.wp_region_chain (fun idx => match idx with | 0 => some (.pointer (some ⟨B, 5, none⟩)) | 1 => some (v) | 2 => some (.pointer (some ⟨p, 0, none⟩)) | 6 => some (.pointer (some ⟨B, 5, none⟩)) | _ => none) [3, 4, 5, 7] (phiL (Gr encI 1 3 5 W B D D p none 0 0 [] [.int .i64 sq, .int .i64 tm, .int .i64 kd, .string ky, .string nm, .slice none 0 0, .slice none 0 0]) wr D encI 1 3 t1 xs v x0 (.int .i64 x0)) (by kernel_rfl) (by kernel_rfl) (by kernel_rfl) (by kernel_rfl) (by kernel_rfl) (by decide) (by kernel_rfl) (rfl) ?_ ?_
        · refine ⟨?_, ?_, ?_, ?_, ?_, ?_, ?_, ?_, trivial⟩
          · intro a ww jj vs c hj0 hΦ
            have hj : jj ≤ 2 := Nat.le_trans hj0 (of_decide_eq_true (by kernel_rfl))
            refine .inl ⟨Rel.wanted_free (by kernel_rfl) _, ?_⟩
            exact Chn.wp_fa _ _ _ rfl (c.old 4 (v := .pointer (some ⟨B, 0, none⟩)) (by kernel_rfl) (by kernel_rfl)) (by simp [go_sem]) ⟨rfl, rfl⟩
          · intro a ww jj vs c hj0 hΦ
            have hj : jj ≤ 2 := Nat.le_trans hj0 (of_decide_eq_true (by kernel_rfl))
            refine .inl ⟨Rel.wanted_free (by kernel_rfl) _, ?_⟩
            exact Rel.wp_ld _ _ rfl (c.get 0 36 (by kernel_rfl) rfl) (run_ldv (phil_cell (Q := fun w => w.cell? ⟨B, 5, none⟩ = some v) hj hΦ (gr_cell (gr_below HG.out (below_drew wr)) (by simp)) (fun w h => gr_cell h (by simp)))) ⟨rfl, rfl⟩
          · intro a ww jj vs c hj0 hΦ
            have hj : jj ≤ 0 := Nat.le_trans hj0 (of_decide_eq_true (by kernel_rfl))
            refine .inl ⟨Rel.wanted_free (by kernel_rfl) _, ?_⟩
            exact Rel.wp_mv _ rfl ⟨congrArg (a.put _) (c.old 7 (v := .pointer (some ⟨p, 0, none⟩)) (by kernel_rfl) (by kernel_rfl)), rfl⟩
          · refine ⟨0, rfl, ?_⟩
            intro a ww c hΦ
            have h : (phiL (Gr encI 1 3 5 W B D D p none 0 0 [] [.int .i64 sq, .int .i64 tm, .int .i64 kd, .string ky, .string nm, .slice none 0 0, .slice none 0 0]) wr D encI 1 3 t1 xs v x0 (.int .i64 x0)) 0 [] ww := hΦ
            clear hΦ
            refine ⟨Rel.wanted_free (by kernel_rfl) _, ?_⟩
            have hw : ww = wr.drew := h
            subst hw
            refine Rel.wp_cl _ [.tmp 38] _ rfl Try.func18 (by kernel_rfl) ?_
            show Calls _ _ #[Rel.slot a 38] wr.drew _
            rw [c.get 2 38 (by kernel_rfl) rfl]
            refine (gr_int (gr_below HG.out (below_drew wr)) HX.out).mono ?_
            rintro e9 w9 ⟨rfl, hd⟩
            exact ⟨_, rfl, _, rfl, rfl, hd⟩
          · refine ⟨1, rfl, ?_⟩
            intro a ww c hΦ
            have h : (phiL (Gr encI 1 3 5 W B D D p none 0 0 [] [.int .i64 sq, .int .i64 tm, .int .i64 kd, .string ky, .string nm, .slice none 0 0, .slice none 0 0]) wr D encI 1 3 t1 xs v x0 (.int .i64 x0)) 1 [Rel.slot a 39] ww := hΦ
            clear hΦ
            refine ⟨Rel.wanted_free (by kernel_rfl) _, ?_⟩
            obtain ⟨hu, hd⟩ := h
            exact Chn.wp_bs1 _ _ rfl hu (run_bs_iv _ _) ⟨_, rfl, _, rfl, row_i1 ww x0, gr_below hd (below_alloc _ _)⟩
          · refine ⟨2, rfl, ?_⟩
            intro a ww c hΦ
            have h : (phiL (Gr encI 1 3 5 W B D D p none 0 0 [] [.int .i64 sq, .int .i64 tm, .int .i64 kd, .string ky, .string nm, .slice none 0 0, .slice none 0 0]) wr D encI 1 3 t1 xs v x0 (.int .i64 x0)) 2 [Rel.slot a 39, Rel.slot a 40] ww := hΦ
            clear hΦ
            refine ⟨Rel.wanted_free (by kernel_rfl) _, ?_⟩
            obtain ⟨g, hp, hrow, hd⟩ := h
            obtain ⟨x, w3, hx, hs, ho, hg⟩ := int_append _ hd.own hrow hd.dt.up HLn.out
            exact Chn.wp_ap _ _ _ rfl (c.get 1 37 (by kernel_rfl) rfl) hp hx ⟨_, rfl, hs, _, hd, ho, hg⟩
          · intro a ww jj vs c hj0 hΦ
            have hj : jj ≤ 3 := Nat.le_trans hj0 (of_decide_eq_true (by kernel_rfl))
            refine .inl ⟨Rel.wanted_free (by kernel_rfl) _, ?_⟩
            exact Chn.wp_fa _ _ _ rfl (c.old 4 (v := .pointer (some ⟨B, 0, none⟩)) (by kernel_rfl) (by kernel_rfl)) (by simp [go_sem]) ⟨rfl, rfl⟩
          · refine ⟨3, rfl, ?_⟩
            intro a ww c hΦ
            have h : (phiL (Gr encI 1 3 5 W B D D p none 0 0 [] [.int .i64 sq, .int .i64 tm, .int .i64 kd, .string ky, .string nm, .slice none 0 0, .slice none 0 0]) wr D encI 1 3 t1 xs v x0 (.int .i64 x0)) 3 [Rel.slot a 39, Rel.slot a 40, Rel.slot a 41] ww := hΦ
            clear hΦ
            refine ⟨Rel.wanted_free (by kernel_rfl) _, ?_⟩
            obtain ⟨⟨ax, nx, cx, hx⟩, wz, hd, ho, hg⟩ := h
            rw [hx] at ho
            obtain ⟨hc9, hf9, hp9⟩ := gr_push hd ho hg
            exact Chn.wp_st _ _ _ rfl (c.get 6 42 (by kernel_rfl) rfl) hx (run_st_i (u := v) (hc9.trans rfl) hf9) ⟨undef, rfl, ax, nx, cx, hp9⟩
        intro a w22 hbase hroom hdef hΦ hV
        have h : (phiL (Gr encI 1 3 5 W B D D p none 0 0 [] [.int .i64 sq, .int .i64 tm, .int .i64 kd, .string ky, .string nm, .slice none 0 0, .slice none 0 0]) wr D encI 1 3 t1 xs v x0 (.int .i64 x0)) 4 [Rel.slot a 39, Rel.slot a 40, Rel.slot a 41, undef] w22 := hΦ
        rw [Chn.act_puts [36, 37, 38, 39, 40, 41, 42] hbase hroom hdef (by kernel_rfl)]
        clear hbase hroom hdef hΦ hV
        simp only [List.foldl_cons, List.foldl_nil]
        generalize Rel.slot a 36 = u36 at *
        generalize Rel.slot a 37 = u37 at *
        generalize Rel.slot a 38 = u38 at *
        generalize Rel.slot a 39 = u39 at *
        generalize Rel.slot a 40 = u40 at *
        generalize Rel.slot a 41 = u41 at *
        generalize Rel.slot a 42 = u42 at *
        obtain ⟨ax, nx, cx, hp⟩ := h
        have HP := Lib.hid hp
        clear hp
        go_wp2_with fail
        go_roundw
        case rel => exact ⟨j + 1, .slice ax nx cx, by omega, by go_num, by rw [HSn.out]; exact HP.out⟩
        case measure => simp [intOf]; omega
      · obtain rfl : j = k := by omega
        rw [H7.out] at hg
        obtain ⟨a5, n5, c5, rfl, hg2⟩ := gr_next hg
        have Hc := Lib.hid hg2
        obtain ⟨E, hEe⟩ : ∃ E, E = wr.heap.size := ⟨_, rfl⟩
        rw [← hEe] at Hc
        clear hg hg2 hEe
        go_wp2_with fail
        refine (dt_int Hc.out HE.out.2.2.2.2.2.2.2.1).mono ?_
        rintro e wd ⟨rfl, hd, -⟩
        have Hd := Lib.hid hd
        clear hd Hc
        have hor : (decT l = none ∧ (nl < 0 ∨ (¬ nl < 0 ∧ 64 < nl))) ∨ (¬ nl < 0 ∧ ¬ 64 < nl) := by
          by_cases c2 : nl < 0
          · exact .inl ⟨HD.out.2.1 (.inl c2), .inl c2⟩
          · by_cases c3 : 64 < nl
            · exact .inl ⟨HD.out.2.1 (.inr c3), .inr ⟨c2, c3⟩⟩
            · exact .inr ⟨c2, c3⟩
        rcases hor with ⟨hd, hor⟩ | ⟨hnl0, hnl64⟩
        · have HDd := Lib.hid hd
          clear hd
          rcases hor with t1 | ⟨t1, t2⟩
          all_goals
            go_wp2_with fail
            go_step3
            refine ⟨rfl, ?_⟩
            go_wp2_with (first | (refine wpList_store_own rfl 25 (.tmp 2) (.tmp 70) rfl W.heap.size zero7 rfl rfl zero7 25 Hd.out.st.res info_tx7 rfl rfl ?_; intro wz hblk hC hsz) | fail)
            simp only [Scp.jumps_ret]
            refine bodyPost_ret (results_cell_row2 rfl _ _ W.heap.size 25 zero7 _ rfl hblk Try.underlying25 rfl info_tx7) rfl ?_
            have hbf := Hd.out.st.below.trans (chg_below hC (fun y hy => Nat.le_of_eq hy.symm) Hd.out.st.below.size)
            exact ⟨zTv, by rw [(dec_no HDd.out).1]; rfl, by rw [(dec_no HDd.out).2]; rfl, zTv_in _, hbf⟩
        · obtain ⟨m, rfl⟩ : ∃ m : Nat, nl = (m : Int) := ⟨nl.toNat, by omega⟩
          have h9 : rInts (2 * m) s8 = (ls, s9) := by have h := HE.out.2.2.2.2.2.2.2.2; rwa [Int.toNat_natCast] at h
          have H9 := Lib.hid h9
          clear h9
          go_wp2_with fail
          go_loopw [53] (fun iv wr => ∃ (j : Nat) (v : Value), j ≤ m ∧ iv = .int .i64 (j : Nat) ∧ Gr encG 2 44 6 W B D E p a5 n5 c5 ag [.int .i64 sq, .int .i64 tm, .int .i64 kd, .string ky, .string nm, .slice a5 n5 c5, .slice none 0 0] (rInts (2 * j) s8).2 (pairs (rInts (2 * j) s8).1) v wr) (fun iv _ => m - (intOf iv).toNat)
          case atStart => exact ⟨0, .slice none 0 0, Nat.zero_le _, rfl, Hd.out, owns_nil _ _ _⟩
          case round =>
            obtain ⟨j, v, hj, rfl, hg⟩ := hrel
            by_cases hlt : j < m
            · rcases hx : rInt (rInts (2 * j) s8).2 with ⟨x0, t1⟩
              rcases hy : rInt t1 with ⟨y0, t2⟩
              have hsn := two_more hx hy
              have HLn := Lib.hid (show (pairs (rInts (2 * j) s8).1).length ≤ 1000 by rw [(flat_pairs j _ (rInts_len _ _)).2]; omega)
              obtain ⟨xs, hxs⟩ : ∃ y, y = pairs (rInts (2 * j) s8).1 := ⟨_, rfl⟩
              obtain ⟨t0, ht0⟩ : ∃ y, y = (rInts (2 * j) s8).2 := ⟨_, rfl⟩
              rw [← hxs] at HLn hg hsn
              rw [← ht0] at hg hx
              have HG := Lib.hid hg
              have HX := Lib.hid (And.intro hx hy)
              have HSn := Lib.hid hsn
              clear hg hx hy hsn hxs ht0
              go_wp2_with fail
              refine Chn.wp_region_chain (fun idx => match idx with | 0 => some (.pointer (some ⟨B, 6, none⟩)) | 1 => some (v) | 2 => some (.pointer (some ⟨p, 0, none⟩)) | 4 => some (.pointer (some ⟨p, 0, none⟩)) | 9 => some (.pointer (some ⟨B, 6, none⟩)) | _ => none) [3, 5, 6, 7, 8, 10] (phiP (Gr encG 2 44 6 W B D E p a5 n5 c5 ag [.int .i64 sq, .int .i64 tm, .int .i64 kd, .string ky, .string nm, .slice a5 n5 c5, .slice none 0 0]) wr E encG 2 44 t1 t2 xs v ⟨x0, y0⟩ (.int .i64 x0) (.int .i64 y0) (.agg #[.int .i64 x0, .int .i64 y0])) (by kernel_rfl) (by kernel_rfl) (by kernel_rfl) (by kernel_rfl) (by kernel_rfl) (by decide) (by kernel_rfl) (rfl) ?_ ?_
              · refine ⟨?_, ?_, ?_, ?_, ?_, ?_, ?_, ?_, ?_, ?_, ?_, trivial⟩
                · intro a ww jj vs c hj0 hΦ
                  have hj : jj ≤ 4 := Nat.le_trans hj0 (of_decide_eq_true (by kernel_rfl))
                  refine .inl ⟨Rel.wanted_free (by kernel_rfl) _, ?_⟩
                  exact Chn.wp_fa _ _ _ rfl (c.old 4 (v := .pointer (some ⟨B, 0, none⟩)) (by kernel_rfl) (by kernel_rfl)) (by simp [go_sem]) ⟨rfl, rfl⟩
                · intro a ww jj vs c hj0 hΦ
                  have hj : jj ≤ 4 := Nat.le_trans hj0 (of_decide_eq_true (by kernel_rfl))
                  refine .inl ⟨Rel.wanted_free (by kernel_rfl) _, ?_⟩
                  exact Rel.wp_ld _ _ rfl (c.get 0 55 (by kernel_rfl) rfl) (run_ldw (phip_cell (Q := fun w => w.cell? ⟨B, 6, none⟩ = some v) hj hΦ (gr_cell (gr_below HG.out (below_drew wr)) (by simp)) (fun s w h => gr_cell h (by simp)))) ⟨rfl, rfl⟩
                · intro a ww jj vs c hj0 hΦ
                  have hj : jj ≤ 0 := Nat.le_trans hj0 (of_decide_eq_true (by kernel_rfl))
                  refine .inl ⟨Rel.wanted_free (by kernel_rfl) _, ?_⟩
                  exact Rel.wp_mv _ rfl ⟨congrArg (a.put _) (c.old 7 (v := .pointer (some ⟨p, 0, none⟩)) (by kernel_rfl) (by kernel_rfl)), rfl⟩
                · refine ⟨0, rfl, ?_⟩
                  intro a ww c hΦ
                  have h : (phiP (Gr encG 2 44 6 W B D E p a5 n5 c5 ag [.int .i64 sq, .int .i64 tm, .int .i64 kd, .string ky, .string nm, .slice a5 n5 c5, .slice none 0 0]) wr E encG 2 44 t1 t2 xs v ⟨x0, y0⟩ (.int .i64 x0) (.int .i64 y0) (.agg #[.int .i64 x0, .int .i64 y0])) 0 [] ww := hΦ
                  clear hΦ
                  refine ⟨Rel.wanted_free (by kernel_rfl) _, ?_⟩
                  have hw : ww = wr.drew := h
                  subst hw
                  refine Rel.wp_cl _ [.tmp 57] _ rfl Try.func18 (by kernel_rfl) ?_
                  show Calls _ _ #[Rel.slot a 57] wr.drew _
                  rw [c.get 2 57 (by kernel_rfl) rfl]
                  refine (gr_int (gr_below HG.out (below_drew wr)) HX.out.1).mono ?_
                  rintro e9 w9 ⟨rfl, hd⟩
                  exact ⟨_, rfl, _, rfl, rfl, hd⟩
                · intro a ww jj vs c hj0 hΦ
                  have hj : jj ≤ 1 := Nat.le_trans hj0 (of_decide_eq_true (by kernel_rfl))
                  refine .inl ⟨Rel.wanted_free (by kernel_rfl) _, ?_⟩
                  exact Rel.wp_mv _ rfl ⟨congrArg (a.put _) (c.old 7 (v := .pointer (some ⟨p, 0, none⟩)) (by kernel_rfl) (by kernel_rfl)), rfl⟩
                · refine ⟨1, rfl, ?_⟩
                  intro a ww c hΦ
                  have h : (phiP (Gr encG 2 44 6 W B D E p a5 n5 c5 ag [.int .i64 sq, .int .i64 tm, .int .i64 kd, .string ky, .string nm, .slice a5 n5 c5, .slice none 0 0]) wr E encG 2 44 t1 t2 xs v ⟨x0, y0⟩ (.int .i64 x0) (.int .i64 y0) (.agg #[.int .i64 x0, .int .i64 y0])) 1 [Rel.slot a 58] ww := hΦ
                  clear hΦ
                  refine ⟨Rel.wanted_free (by kernel_rfl) _, ?_⟩
                  obtain ⟨hu, hd⟩ := h
                  refine Rel.wp_cl _ [.tmp 59] _ rfl Try.func18 (by kernel_rfl) ?_
                  show Calls _ _ #[Rel.slot a 59] ww _
                  rw [c.get 4 59 (by kernel_rfl) rfl]
                  refine (gr_int hd HX.out.2).mono ?_
                  rintro e9 w9 ⟨rfl, hd⟩
                  exact ⟨_, rfl, _, rfl, hu, rfl, hd⟩
                · refine ⟨2, rfl, ?_⟩
                  intro a ww c hΦ
                  have h : (phiP (Gr encG 2 44 6 W B D E p a5 n5 c5 ag [.int .i64 sq, .int .i64 tm, .int .i64 kd, .string ky, .string nm, .slice a5 n5 c5, .slice none 0 0]) wr E encG 2 44 t1 t2 xs v ⟨x0, y0⟩ (.int .i64 x0) (.int .i64 y0) (.agg #[.int .i64 x0, .int .i64 y0])) 2 [Rel.slot a 58, Rel.slot a 60] ww := hΦ
                  clear hΦ
                  refine ⟨Rel.wanted_free (by kernel_rfl) _, ?_⟩
                  obtain ⟨hu, hz, hd⟩ := h
                  exact Chn.wp_bd2 _ _ _ _ _ rfl hu hz (run_bd_g _ _ _) ⟨_, rfl, rfl, hd⟩
                · refine ⟨3, rfl, ?_⟩
                  intro a ww c hΦ
                  have h : (phiP (Gr encG 2 44 6 W B D E p a5 n5 c5 ag [.int .i64 sq, .int .i64 tm, .int .i64 kd, .string ky, .string nm, .slice a5 n5 c5, .slice none 0 0]) wr E encG 2 44 t1 t2 xs v ⟨x0, y0⟩ (.int .i64 x0) (.int .i64 y0) (.agg #[.int .i64 x0, .int .i64 y0])) 3 [Rel.slot a 58, Rel.slot a 60, Rel.slot a 61] ww := hΦ
                  clear hΦ
                  refine ⟨Rel.wanted_free (by kernel_rfl) _, ?_⟩
                  obtain ⟨hz, hd⟩ := h
                  exact Chn.wp_bs1 _ _ rfl hz (run_bs_g _ _ _) ⟨_, rfl, _, rfl, row_g1 ww x0 y0, gr_below hd (below_alloc _ _)⟩
                · refine ⟨4, rfl, ?_⟩
                  intro a ww c hΦ
                  have h : (phiP (Gr encG 2 44 6 W B D E p a5 n5 c5 ag [.int .i64 sq, .int .i64 tm, .int .i64 kd, .string ky, .string nm, .slice a5 n5 c5, .slice none 0 0]) wr E encG 2 44 t1 t2 xs v ⟨x0, y0⟩ (.int .i64 x0) (.int .i64 y0) (.agg #[.int .i64 x0, .int .i64 y0])) 4 [Rel.slot a 58, Rel.slot a 60, Rel.slot a 61, Rel.slot a 62] ww := hΦ
                  clear hΦ
                  refine ⟨Rel.wanted_free (by kernel_rfl) _, ?_⟩
                  obtain ⟨g, hp, hrow, hd⟩ := h
                  obtain ⟨x, w3, hx, hs, ho, hg⟩ := lg_append _ hd.own hrow hd.dt.up HLn.out
                  exact Chn.wp_ap _ _ _ rfl (c.get 1 56 (by kernel_rfl) rfl) hp hx ⟨_, rfl, hs, _, hd, ho, hg⟩
                · intro a ww jj vs c hj0 hΦ
                  have hj : jj ≤ 5 := Nat.le_trans hj0 (of_decide_eq_true (by kernel_rfl))
                  refine .inl ⟨Rel.wanted_free (by kernel_rfl) _, ?_⟩
                  exact Chn.wp_fa _ _ _ rfl (c.old 4 (v := .pointer (some ⟨B, 0, none⟩)) (by kernel_rfl) (by kernel_rfl)) (by simp [go_sem]) ⟨rfl, rfl⟩
                · refine ⟨5, rfl, ?_⟩
                  intro a ww c hΦ
                  have h : (phiP (Gr encG 2 44 6 W B D E p a5 n5 c5 ag [.int .i64 sq, .int .i64 tm, .int .i64 kd, .string ky, .string nm, .slice a5 n5 c5, .slice none 0 0]) wr E encG 2 44 t1 t2 xs v ⟨x0, y0⟩ (.int .i64 x0) (.int .i64 y0) (.agg #[.int .i64 x0, .int .i64 y0])) 5 [Rel.slot a 58, Rel.slot a 60, Rel.slot a 61, Rel.slot a 62, Rel.slot a 63] ww := hΦ
                  clear hΦ
                  refine ⟨Rel.wanted_free (by kernel_rfl) _, ?_⟩
                  obtain ⟨⟨ax, nx, cx, hx⟩, wz, hd, ho, hg⟩ := h
                  rw [hx] at ho
                  obtain ⟨hc9, hf9, hp9⟩ := gr_push hd ho hg
                  exact Chn.wp_st _ _ _ rfl (c.get 9 64 (by kernel_rfl) rfl) hx (run_st_g (u := v) (hc9.trans rfl) hf9) ⟨undef, rfl, ax, nx, cx, hp9⟩
              intro a w22 hbase hroom hdef hΦ hV
              have h : (phiP (Gr encG 2 44 6 W B D E p a5 n5 c5 ag [.int .i64 sq, .int .i64 tm, .int .i64 kd, .string ky, .string nm, .slice a5 n5 c5, .slice none 0 0]) wr E encG 2 44 t1 t2 xs v ⟨x0, y0⟩ (.int .i64 x0) (.int .i64 y0) (.agg #[.int .i64 x0, .int .i64 y0])) 6 [Rel.slot a 58, Rel.slot a 60, Rel.slot a 61, Rel.slot a 62, Rel.slot a 63, undef] w22 := hΦ
              rw [Chn.act_puts [55, 56, 57, 58, 59, 60, 61, 62, 63, 64] hbase hroom hdef (by kernel_rfl)]
              clear hbase hroom hdef hΦ hV
              simp only [List.foldl_cons, List.foldl_nil]
              generalize Rel.slot a 55 = u55 at *
              generalize Rel.slot a 56 = u56 at *
              generalize Rel.slot a 57 = u57 at *
              generalize Rel.slot a 58 = u58 at *
              generalize Rel.slot a 59 = u59 at *
              generalize Rel.slot a 60 = u60 at *
              generalize Rel.slot a 61 = u61 at *
              generalize Rel.slot a 62 = u62 at *
              generalize Rel.slot a 63 = u63 at *
              generalize Rel.slot a 64 = u64 at *
              obtain ⟨ax, nx, cx, hp⟩ := h
              have HP := Lib.hid hp
              clear hp
              go_wp2_with fail
              go_roundw
              case rel => exact ⟨j + 1, .slice ax nx cx, by omega, by go_num, by rw [HSn.out.1, HSn.out.2]; exact HP.out⟩
              case measure => simp [intOf]; omega
            · obtain rfl : j = m := by omega
              rw [H9.out] at hg
              obtain ⟨ax, nx, cx, rfl, hlg⟩ := gr_legs hg
              have Hg := Lib.hid (And.intro hg.dt hlg)
              clear hg hlg
              go_wp2_with fail
              refine (end_rdr Hg.out.1.rd).mono ?_
              rintro e wz0 ⟨rfl, h0⟩
              replace h0 := h0.symm
              subst h0
              by_cases hs9 : s9 = some []
              · have HFin := Lib.hid (HD.out.2.2.2 (by omega) (by omega) hs9)
                have hdt : decide (s9 = some []) = true := decide_eq_true hs9
                clear hs9
                go_wp2_with (first | (refine Arr.wpList_load_blk rfl 25 (.tmp 4) rfl B rfl [.int .i64 sq, .int .i64 tm, .int .i64 kd, .string ky, .string nm, .slice a5 n5 c5, .slice ax nx cx] 25 Hg.out.1.st.box _ Try.underlying25 rfl info_tx7 ?_) | (refine wpList_store_own rfl 25 (.tmp 2) (.tmp 69) rfl W.heap.size [.int .i64 sq, .int .i64 tm, .int .i64 kd, .string ky, .string nm, .slice a5 n5 c5, .slice ax nx cx] rfl rfl zero7 25 Hg.out.1.st.res info_tx7 rfl rfl ?_; intro wz hblk hC hsz) | fail)
                simp only [Scp.jumps_ret]
                refine bodyPost_ret (results_cell_row2 rfl _ _ W.heap.size 25 [.int .i64 sq, .int .i64 tm, .int .i64 kd, .string ky, .string nm, .slice a5 n5 c5, .slice ax nx cx] _ rfl hblk Try.underlying25 rfl info_tx7) rfl ?_
                have hbf := Hg.out.1.st.below.trans (chg_below hC (fun y hy => Nat.le_of_eq hy.symm) Hg.out.1.st.below.size)
                have hlt := dt_lt Hg.out.1
                have hle := Hg.out.1.le
                have hin : Tv.In ⟨⟨sq, tm, kd, ky, nm, ag, pairs ls⟩, a5, n5, c5, ax, nx, cx⟩ wz := by
                  obtain ⟨e1, ⟨e2, e3, e4, e5⟩, e6⟩ := enc_dec HFin.out
                  refine ⟨lst_chg encI_len Hg.out.1.ag hC (fun q hq hf => ?_), lst_chg encG_len Hg.out.2.1 hC (fun q hq hf => ?_), ?_, ?_⟩
                  · have h1 := Hg.out.1.agB q hq
                    replace hf : q.block = W.heap.size := hf
                    omega
                  · have h1 := Hg.out.2.2 q hq
                    replace hf : q.block = W.heap.size := hf
                    omega
                  · simp only at e2 ⊢
                    unfold maxLen
                    omega
                  · simp only at e3 ⊢
                    unfold maxLen
                    omega
                exact ⟨⟨⟨sq, tm, kd, ky, nm, ag, pairs ls⟩, a5, n5, c5, ax, nx, cx⟩, by rw [(dec_ok HFin.out).1]; rfl, by rw [(dec_ok HFin.out).2], hin, hbf⟩
              · have HDd := Lib.hid (HD.out.2.2.1 hs9)
                have hdt : decide (s9 = some []) = false := decide_eq_false hs9
                clear hs9
                have Hh := Lib.hid Hg.out.1
                go_wp2_with fail
                go_step3
                refine ⟨rfl, ?_⟩
                go_wp2_with (first | (refine wpList_store_own rfl 25 (.tmp 2) (.tmp 70) rfl W.heap.size zero7 rfl rfl zero7 25 Hh.out.st.res info_tx7 rfl rfl ?_; intro wz hblk hC hsz) | fail)
                simp only [Scp.jumps_ret]
                refine bodyPost_ret (results_cell_row2 rfl _ _ W.heap.size 25 zero7 _ rfl hblk Try.underlying25 rfl info_tx7) rfl ?_
                have hbf := Hh.out.st.below.trans (chg_below hC (fun y hy => Nat.le_of_eq hy.symm) Hh.out.st.below.size)
                exact ⟨zTv, by rw [(dec_no HDd.out).1]; rfl, by rw [(dec_no HDd.out).2]; rfl, zTv_in _, hbf⟩
end Go.Proofs.Ytcoiebeehgeggaa.Ent
