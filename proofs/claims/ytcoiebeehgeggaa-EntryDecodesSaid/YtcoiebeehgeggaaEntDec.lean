/- Entry: the document's Decode. -/
import Derived.Test.YtcoiebeehgeggaaEntDcB
namespace Go.Proofs.Ytcoiebeehgeggaa.Ent
set_option maxRecDepth 100000
open Go.RowKit
open Go.Sort
open Kit
open Oct
open Foot
open Tre (Lst inI lst_keep lst_take lst_at lst_new lst_none i64_wf cells_int IntsL int_cell encI encI_len encI_one OwI own_chg' info_i run_ld2 newI_own)
open Led (Lg encG encG_len encG_one Legs leg_cells info_leg)
set_option linter.unusedVariables false
variable {w w' : World}

set_option maxHeartbeats 32000000 in
theorem rdec_any {W : World} {ab : Option Addr} {n c : Nat} {l : List UInt8} (hB : Bs W ab n c l) (hn : n ≤ 140737488351232) :
    Calls Try.prog 11 #[.slice ab n c] W fun e W' => ∃ x : Tv, e = .returned (.tuple #[valV x, .int .i64 (decE l)]) ∧ x.t = decV l ∧ x.In W' ∧ Below W.heap.size W W' := by
  rcases h1 : rInt (some l) with ⟨sq, s1⟩
  rcases h2 : rInt s1 with ⟨tm, s2⟩
  rcases h3 : rInt s2 with ⟨kd, s3⟩
  rcases h4 : rText 16 s3 with ⟨ky, s4⟩
  rcases h5 : rText 16 s4 with ⟨nm, s5⟩
  rcases h6 : rInt s5 with ⟨na, s6⟩
  rcases h7 : rInts na.toNat s6 with ⟨ag, s7⟩
  rcases h8 : rInt s7 with ⟨nl, s8⟩
  rcases h9 : rInts (2 * nl.toNat) s8 with ⟨ls, s9⟩
  have HD := Lib.hid (dec_of h1 h2 h3 h4 h5 h6 h7 h8 h9)
  have HE3 := Lib.hid (rInts3 h1 h2 h3)
  have HE := Lib.hid (And.intro h4 (And.intro h5 (And.intro h6 (And.intro h7 (And.intro h8 h9)))))
  have hls : ls.length = 2 * nl.toNat := by have h := rInts_len (2 * nl.toNat) s8; rw [h9] at h; exact h
  have HLs := Lib.hid hls
  have HL := Lib.hid hB
  clear h1 h2 h3 h4 h5 h6 h7 h8 h9 hB hls
  have HN := Lib.hid hn
  go_enter Try.func11, Try.ntmps11
  go_upto_region 1 with fail
  have hb1 := below_alloc W (.cells #[.int .i64 0, .int .i64 0, .int .i64 0, .string ⟨#[]⟩, .string ⟨#[]⟩, .slice none 0 0, .slice none 0 0] 25)
  have hr1 := Arr.blk_new W W.heap.size 25 zero7 rfl
  have hlt1 : W.heap.size < (W.alloc (.cells #[.int .i64 0, .int .i64 0, .int .i64 0, .string ⟨#[]⟩, .string ⟨#[]⟩, .slice none 0 0, .slice none 0 0] 25)).heap.size := Arr.blk_lt hr1
  obtain ⟨w1, hw1⟩ : ∃ x, x = W.alloc (.cells #[.int .i64 0, .int .i64 0, .int .i64 0, .string ⟨#[]⟩, .string ⟨#[]⟩, .slice none 0 0, .slice none 0 0] 25) := ⟨_, rfl⟩
  rw [show W.alloc (.cells zero7.toArray 25) = w1 from hw1.symm] at hr1
  rw [← hw1] at hb1 hlt1 ⊢
  have HR1 := Lib.hid (rnumbers_any ab n c 3 w1 HL.out.len HN.out (bs_keep HL.out hb1).row (.inr ⟨0, Nat.zero_le _, by rw [List.drop_zero], rfl⟩ : Pos l (some l) 0) (by decide) (.inl (by decide)))
  rw [HE3.out] at HR1
  have H1 := Lib.hid (And.intro hb1 (And.intro hr1 hlt1))
  clear hb1 hr1 hlt1 hw1
  go_wp2_with fail
  refine HR1.out.mono ?_
  rintro e w2 ⟨v2, q2, rfl, hp2, hg2, hb2⟩
  have HR2 := Lib.hid (Arr.blk_below H1.out.2.1 hb2 (Arr.blk_lt H1.out.2.1))
  have HB2 := Lib.hid (below_keep H1.out.1 hb2)
  have HS2 := Lib.hid (Nat.lt_of_lt_of_le H1.out.2.2 hb2.size)
  clear hb2 HR1
  by_cases hq : q2 < 0
  · have HDd := Lib.hid (HD.out.2.2.1 (ne_some (rInts_stay HE.out.2.2.2.2.2 (rInt_dead HE.out.2.2.2.2.1 (rInts_stay HE.out.2.2.2.1 (rInt_dead HE.out.2.2.1 (rText_dead HE.out.2.1 (rText_dead HE.out.1 ((pos_neg hp2).1 hq).1))))))))
    clear hp2 hg2
    go_wp2_with (first | (refine wpList_store_own rfl 25 (.tmp 2) (.tmp 17) rfl W.heap.size zero7 rfl rfl zero7 25 HR2.out info_tx7 rfl rfl ?_; intro w4 hblk hC hsz) | fail)
    refine bodyPost_ret (results_cell_row2 rfl _ _ W.heap.size 25 zero7 _ rfl hblk Try.underlying25 rfl info_tx7) rfl ?_
    have hbf := HB2.out.trans (chg_below hC (fun y hy => Nat.le_of_eq hy.symm) HB2.out.size)
    exact ⟨zTv, by rw [(dec_no HDd.out).1]; rfl, by rw [(dec_no HDd.out).2]; rfl, zTv_in _, hbf⟩
  · obtain ⟨g3, c3, rfl, hc3⟩ := got_three hg2 (by omega)
    have HC3 := Lib.hid hc3
    have HP2 := Lib.hid hp2
    clear hg2 hc3 hp2
    go_wp2_with fail
    refine Rel.wp_region_last (G := Rel.Gr) _ (Rel.tab [.is (.slice (some ⟨g3, 0, none⟩) 3 c3), .is (.pointer (some ⟨g3, 0, none⟩)), .is (.int .i64 sq), .is (.slice (some ⟨g3, 0, none⟩) 3 c3), .is (.pointer (some ⟨g3, 1, none⟩)), .is (.int .i64 tm), .is (.slice (some ⟨g3, 0, none⟩) 3 c3), .is (.pointer (some ⟨g3, 2, none⟩)), .is (.int .i64 kd), .is (.agg #[.int .i64 sq, .int .i64 tm, .int .i64 kd, .string ⟨#[]⟩, .string ⟨#[]⟩, .slice none 0 0, .slice none 0 0]), kZ w2.heap.size]) (fun _ w => Below w2.heap.size w2 w) (by kernel_rfl) rfl (by kernel_rfl) (by kernel_rfl) (by kernel_rfl) (by kernel_rfl) (by kernel_rfl) (below_drew _) ?_ ?_
    · refine ⟨?_, ?_, ?_, ?_, ?_, ?_, ?_, ?_, ?_, ?_, ?_, trivial⟩
      · intro L a w c
        refine .inl ⟨Rel.wanted_free (by kernel_rfl) _, ?_⟩
        exact Rel.wp_mv _ rfl ⟨_, rfl, Rel.gr_refl _, (c.old 4 (v := .slice (some ⟨g3, 0, none⟩) 3 c3) (by kernel_rfl) (by kernel_rfl)), c.inv⟩
      · intro L a w c
        refine .inl ⟨Rel.wanted_free (by kernel_rfl) _, ?_⟩
        exact Rel.wp_ia _ _ _ rfl (c.get 0 18 (by kernel_rfl)) rfl (run_iac (k := 0) (by decide) rfl w) ⟨_, rfl, Rel.gr_refl _, rfl, c.inv⟩
      · intro L a w c
        refine .inl ⟨Rel.wanted_free (by kernel_rfl) _, ?_⟩
        exact Rel.wp_ld _ _ rfl (c.get 1 19 (by kernel_rfl)) (run_ld2 (cell_keep c.inv HC3.out.1)) ⟨_, rfl, Rel.gr_refl _, rfl, c.inv⟩
      · intro L a w c
        refine .inl ⟨Rel.wanted_free (by kernel_rfl) _, ?_⟩
        exact Rel.wp_mv _ rfl ⟨_, rfl, Rel.gr_refl _, (c.old 4 (v := .slice (some ⟨g3, 0, none⟩) 3 c3) (by kernel_rfl) (by kernel_rfl)), c.inv⟩
      · intro L a w c
        refine .inl ⟨Rel.wanted_free (by kernel_rfl) _, ?_⟩
        exact Rel.wp_ia _ _ _ rfl (c.get 3 21 (by kernel_rfl)) rfl (run_iac (k := 1) (by decide) rfl w) ⟨_, rfl, Rel.gr_refl _, rfl, c.inv⟩
      · intro L a w c
        refine .inl ⟨Rel.wanted_free (by kernel_rfl) _, ?_⟩
        exact Rel.wp_ld _ _ rfl (c.get 4 22 (by kernel_rfl)) (run_ld2 (cell_keep c.inv HC3.out.2.1)) ⟨_, rfl, Rel.gr_refl _, rfl, c.inv⟩
      · intro L a w c
        refine .inl ⟨Rel.wanted_free (by kernel_rfl) _, ?_⟩
        exact Rel.wp_mv _ rfl ⟨_, rfl, Rel.gr_refl _, (c.old 4 (v := .slice (some ⟨g3, 0, none⟩) 3 c3) (by kernel_rfl) (by kernel_rfl)), c.inv⟩
      · intro L a w c
        refine .inl ⟨Rel.wanted_free (by kernel_rfl) _, ?_⟩
        exact Rel.wp_ia _ _ _ rfl (c.get 6 24 (by kernel_rfl)) rfl (run_iac (k := 2) (by decide) rfl w) ⟨_, rfl, Rel.gr_refl _, rfl, c.inv⟩
      · intro L a w c
        refine .inl ⟨Rel.wanted_free (by kernel_rfl) _, ?_⟩
        exact Rel.wp_ld _ _ rfl (c.get 7 25 (by kernel_rfl)) (run_ld2 (cell_keep c.inv HC3.out.2.2)) ⟨_, rfl, Rel.gr_refl _, rfl, c.inv⟩
      · intro L a w c
        refine .inl ⟨Rel.wanted_free (by kernel_rfl) _, ?_⟩
        exact wp_bd3 _ _ _ _ rfl (Rel.eval_tmp (c.get 2 20 (by kernel_rfl))) (Rel.eval_tmp (c.get 5 23 (by kernel_rfl))) (Rel.eval_tmp (c.get 8 26 (by kernel_rfl))) (run_build3 _ _ _ w) ⟨_, rfl, Rel.gr_refl _, rfl, c.inv⟩
      · intro L a w c
        refine .inl ⟨Rel.wanted_free (by kernel_rfl) _, ?_⟩
        exact Rel.wp_al _ rfl (run_alloc_tx w) ⟨_, rfl, below_alloc _ _, ⟨_, rfl, c.inv.size, Arr.blk_new w _ _ zero7 rfl⟩, below_keep c.inv (below_alloc _ _)⟩
    intro a w4 hbase hroom hdef hJ hV
    have s27 : Rel.slot a 27 = .agg #[.int .i64 sq, .int .i64 tm, .int .i64 kd, .string ⟨#[]⟩, .string ⟨#[]⟩, .slice none 0 0, .slice none 0 0] := hV 9 _ _ rfl rfl
    have k6 : (kZ w2.heap.size : Rel.Kd (Rel.Gr)).p w4 (Rel.slot a 6) := hV 10 _ _ rfl rfl
    rw [Chn.act_puts [18, 19, 20, 21, 22, 23, 24, 25, 26, 27, 6] hbase hroom hdef (by kernel_rfl)]
    clear hbase hroom hdef hV
    simp only [List.foldl_cons, List.foldl_nil]
    generalize Rel.slot a 18 = u18 at *
    generalize Rel.slot a 19 = u19 at *
    generalize Rel.slot a 20 = u20 at *
    generalize Rel.slot a 21 = u21 at *
    generalize Rel.slot a 22 = u22 at *
    generalize Rel.slot a 23 = u23 at *
    generalize Rel.slot a 24 = u24 at *
    generalize Rel.slot a 25 = u25 at *
    generalize Rel.slot a 26 = u26 at *
    rw [s27]
    clear s27
    generalize Rel.slot a 6 = u6 at *
    simp only [Act.put, List.setIfInBounds_toArray, List.set_cons_succ, List.set_cons_zero]
    obtain ⟨B, rfl, hB, hblk⟩ := k6
    dsimp only [List.getLast]
    have hst := st_row (below_keep HB2.out hJ) (Arr.blk_below HR2.out hJ (Arr.blk_lt HR2.out)) hblk (Nat.lt_of_lt_of_le HS2.out hB) [.int .i64 sq, .int .i64 tm, .int .i64 kd, .string ⟨#[]⟩, .string ⟨#[]⟩, .slice none 0 0, .slice none 0 0]
    refine wp_store_row 25 (.tmp 6) (.tmp 27) rfl B #[.int .i64 sq, .int .i64 tm, .int .i64 kd, .string ⟨#[]⟩, .string ⟨#[]⟩, .slice none 0 0, .slice none 0 0] rfl rfl 25 zero7.toArray hblk info_tx7 rfl (by simp [Value.oneCell']) ?_
    obtain ⟨w5, hw5⟩ : ∃ x, x = w4.setRow B #[.int .i64 sq, .int .i64 tm, .int .i64 kd, .string ⟨#[]⟩, .string ⟨#[]⟩, .slice none 0 0, .slice none 0 0] := ⟨_, rfl⟩
    rw [show w4.setRow B [.int .i64 sq, .int .i64 tm, .int .i64 kd, .string ⟨#[]⟩, .string ⟨#[]⟩, .slice none 0 0, .slice none 0 0].toArray = w5 from hw5.symm] at hst
    rw [← hw5]
    have H5 := Lib.hid hst
    have HR := Lib.hid (word_pos ab n c 16 w5 HL.out.len HL.out.cap HL.out.max HN.out (bs_keep HL.out hst.below).row HP2.out)
    clear hst hw5 hblk hB hJ
    go_wp2_with fail
    refine HR.out.mono ?_
    rintro e w6 ⟨S, s', q6, rfl, hr6, hp6, hb6⟩
    have he := HE.out.1.symm.trans hr6
    injection he with e1 e2
    subst e1 e2
    have H6 := Lib.hid (st_below H5.out hb6)
    have HP6 := Lib.hid hp6
    have q3 := st_cell H6.out (i := 3) rfl
    have f3 := st_frozen H6.out 3
    clear hr6 hp6 hb6 HR
    go_wp2_with fail
    have hst : St W (w6.setCell ⟨B, 3, none⟩ (.string ky)) B [.int .i64 sq, .int .i64 tm, .int .i64 kd, .string ky, .string ⟨#[]⟩, .slice none 0 0, .slice none 0 0] := st_set H6.out (i := 3) (.string ky)
    obtain ⟨w7, hw7⟩ : ∃ x, x = w6.setCell ⟨B, 3, none⟩ (.string ky) := ⟨_, rfl⟩
    rw [← hw7] at hst ⊢
    have H7 := Lib.hid hst
    have HR := Lib.hid (word_pos ab n c 16 w7 HL.out.len HL.out.cap HL.out.max HN.out (bs_keep HL.out hst.below).row HP6.out)
    clear hst hw7 q3 f3
    refine HR.out.mono ?_
    rintro e w8 ⟨S, s', q8, rfl, hr8, hp8, hb8⟩
    have he := HE.out.2.1.symm.trans hr8
    injection he with e1 e2
    subst e1 e2
    have H8 := Lib.hid (st_below H7.out hb8)
    have HP8 := Lib.hid hp8
    have q4 := st_cell H8.out (i := 4) rfl
    have f4 := st_frozen H8.out 4
    clear hr8 hp8 hb8 HR
    go_wp2_with fail
    have hst : St W (w8.setCell ⟨B, 4, none⟩ (.string nm)) B [.int .i64 sq, .int .i64 tm, .int .i64 kd, .string ky, .string nm, .slice none 0 0, .slice none 0 0] := st_set H8.out (i := 4) (.string nm)
    obtain ⟨w9, hw9⟩ : ∃ x, x = w8.setCell ⟨B, 4, none⟩ (.string nm) := ⟨_, rfl⟩
    rw [← hw9] at hst ⊢
    have H9 := Lib.hid hst
    have HR := Lib.hid (number_pos ab n c w9 HL.out.len HN.out (bs_keep HL.out hst.below).row HP8.out)
    clear hst hw9 q4 f4
    refine HR.out.mono ?_
    rintro e w10 ⟨S, s', q10, rfl, hr10, hp10, rfl⟩
    have he := HE.out.2.2.1.symm.trans hr10
    injection he with e1 e2
    subst e1 e2
    have HP10 := Lib.hid hp10
    clear hr10 hp10 HR
    have hor : (decT l = none ∧ (q10 < 0 ∨ (¬ q10 < 0 ∧ na < 0) ∨ (¬ q10 < 0 ∧ ¬ na < 0 ∧ 8 < na))) ∨ (¬ q10 < 0 ∧ ¬ na < 0 ∧ ¬ 8 < na) := by
      by_cases c1 : q10 < 0
      · exact .inl ⟨HD.out.2.2.1 (ne_some (rInts_stay HE.out.2.2.2.2.2 (rInt_dead HE.out.2.2.2.2.1 (rInts_stay HE.out.2.2.2.1 ((pos_neg HP10.out).1 c1).1)))), .inl c1⟩
      · by_cases c2 : na < 0
        · exact .inl ⟨HD.out.1 (.inl c2), .inr (.inl ⟨c1, c2⟩)⟩
        · by_cases c3 : 8 < na
          · exact .inl ⟨HD.out.1 (.inr c3), .inr (.inr ⟨c1, c2, c3⟩)⟩
          · exact .inr ⟨c1, c2, c3⟩
    rcases hor with ⟨hd, hor⟩ | ⟨hq10, hna0, hna8⟩
    · have HDd := Lib.hid hd
      clear hd
      rcases hor with t1 | ⟨t1, t2⟩ | ⟨t1, t2, t3⟩
      all_goals
        go_wp2_with (first | (refine wpList_store_own rfl 25 (.tmp 2) (.tmp 58) rfl W.heap.size zero7 rfl rfl zero7 25 H9.out.res info_tx7 rfl rfl ?_; intro wz hblk hC hsz) | fail)
        refine bodyPost_ret (results_cell_row2 rfl _ _ W.heap.size 25 zero7 _ rfl hblk Try.underlying25 rfl info_tx7) rfl ?_
        have hbf := H9.out.below.trans (chg_below hC (fun y hy => Nat.le_of_eq hy.symm) H9.out.below.size)
        exact ⟨zTv, by rw [(dec_no HDd.out).1]; rfl, by rw [(dec_no HDd.out).2]; rfl, zTv_in _, hbf⟩
    · obtain ⟨k, rfl⟩ : ∃ k : Nat, na = (k : Int) := ⟨na.toNat, by omega⟩
      have h7 : rInts k s6 = (ag, s7) := by have h := HE.out.2.2.2.1; rwa [Int.toNat_natCast] at h
      have HR := Lib.hid (rnumbers_any ab n c k w9 HL.out.len HN.out (bs_keep HL.out H9.out.below).row HP10.out (by omega) (.inr (by omega)))
      rw [h7] at HR
      clear h7
      go_wp2_with fail
      refine HR.out.mono ?_
      rintro e w11 ⟨v, q11, rfl, hp11, hg11, hb11⟩
      obtain ⟨a5, n5, c5, rfl, hup⟩ := got_up hg11 (Arr.blk_lt H9.out.box)
      have H11 := Lib.hid (st_below H9.out hb11)
      have HP11 := Lib.hid hp11
      have HU11 := Lib.hid hup
      have q5 := st_cell H11.out (i := 5) rfl
      have f5 := st_frozen H11.out 5
      clear hup hp11 hg11 hb11 HR
      go_upto_region 11 with fail
      have hst : St W (w11.setCell ⟨B, 5, none⟩ (.slice a5 n5 c5)) B [.int .i64 sq, .int .i64 tm, .int .i64 kd, .string ky, .string nm, .slice a5 n5 c5, .slice none 0 0] := st_set H11.out (i := 5) (.slice a5 n5 c5)
      have hup : 0 ≤ q11 → Up (w11.setCell ⟨B, 5, none⟩ (.slice a5 n5 c5)) B a5 n5 c5 ag := fun h => up_chg (HU11.out h) (set_chg w11 B 5 _) fun k hk => Nat.le_of_eq hk
      obtain ⟨w12, hw12⟩ : ∃ x, x = w11.setCell ⟨B, 5, none⟩ (.slice a5 n5 c5) := ⟨_, rfl⟩
      rw [← hw12] at hst hup ⊢
      have H12 := Lib.hid hst
      have HU12 := Lib.hid hup
      clear hst hw12 hup q5 f5
      by_cases hq11 : q11 < 0
      · have HDd := Lib.hid (HD.out.2.2.1 (ne_some (rInts_stay HE.out.2.2.2.2.2 (rInt_dead HE.out.2.2.2.2.1 ((pos_neg HP11.out).1 hq11).1))))
        go_wp2_with (first | (refine wpList_store_own rfl 25 (.tmp 2) (.tmp 69) rfl W.heap.size zero7 rfl rfl zero7 25 H12.out.res info_tx7 rfl rfl ?_; intro wz hblk hC hsz) | fail)
        refine bodyPost_ret (results_cell_row2 rfl _ _ W.heap.size 25 zero7 _ rfl hblk Try.underlying25 rfl info_tx7) rfl ?_
        have hbf := H12.out.below.trans (chg_below hC (fun y hy => Nat.le_of_eq hy.symm) H12.out.below.size)
        exact ⟨zTv, by rw [(dec_no HDd.out).1]; rfl, by rw [(dec_no HDd.out).2]; rfl, zTv_in _, hbf⟩
      · have HUp := Lib.hid (HU12.out (by omega))
        have HR := Lib.hid (number_pos ab n c w12 HL.out.len HN.out (bs_keep HL.out H12.out.below).row HP11.out)
        go_wp2_with fail
        refine HR.out.mono ?_
        rintro e w13 ⟨S, s', q13, rfl, hr13, hp13, rfl⟩
        have he := HE.out.2.2.2.2.1.symm.trans hr13
        injection he with e1 e2
        subst e1 e2
        have HP13 := Lib.hid hp13
        clear hr13 hp13 HR
        have hor : (decT l = none ∧ (q13 < 0 ∨ (¬ q13 < 0 ∧ nl < 0) ∨ (¬ q13 < 0 ∧ ¬ nl < 0 ∧ 64 < nl))) ∨ (¬ q13 < 0 ∧ ¬ nl < 0 ∧ ¬ 64 < nl) := by
          by_cases c1 : q13 < 0
          · exact .inl ⟨HD.out.2.2.1 (ne_some (rInts_stay HE.out.2.2.2.2.2 ((pos_neg HP13.out).1 c1).1)), .inl c1⟩
          · by_cases c2 : nl < 0
            · exact .inl ⟨HD.out.2.1 (.inl c2), .inr (.inl ⟨c1, c2⟩)⟩
            · by_cases c3 : 64 < nl
              · exact .inl ⟨HD.out.2.1 (.inr c3), .inr (.inr ⟨c1, c2, c3⟩)⟩
              · exact .inr ⟨c1, c2, c3⟩
        rcases hor with ⟨hd, hor⟩ | ⟨hq13, hnl0, hnl64⟩
        · have HDd := Lib.hid hd
          clear hd
          rcases hor with t1 | ⟨t1, t2⟩ | ⟨t1, t2, t3⟩
          all_goals
            go_wp2_with (first | (refine wpList_store_own rfl 25 (.tmp 2) (.tmp 86) rfl W.heap.size zero7 rfl rfl zero7 25 H12.out.res info_tx7 rfl rfl ?_; intro wz hblk hC hsz) | fail)
            refine bodyPost_ret (results_cell_row2 rfl _ _ W.heap.size 25 zero7 _ rfl hblk Try.underlying25 rfl info_tx7) rfl ?_
            have hbf := H12.out.below.trans (chg_below hC (fun y hy => Nat.le_of_eq hy.symm) H12.out.below.size)
            exact ⟨zTv, by rw [(dec_no HDd.out).1]; rfl, by rw [(dec_no HDd.out).2]; rfl, zTv_in _, hbf⟩
        · obtain ⟨m, rfl⟩ : ∃ m : Nat, nl = (m : Int) := ⟨nl.toNat, by omega⟩
          obtain ⟨M, hM⟩ : ∃ M, M = 2 * m := ⟨_, rfl⟩
          have hMb : M ≤ 128 := by omega
          have hM2 : (2 : Int) * (m : Int) = (M : Nat) := by omega
          have h9 : rInts M s8 = (ls, s9) := by have h := HE.out.2.2.2.2.2; rw [Int.toNat_natCast, ← hM] at h; exact h
          have HR := Lib.hid (rnumbers_any ab n c M w12 HL.out.len HN.out (bs_keep HL.out H12.out.below).row HP13.out (by omega) (.inr (by omega)))
          rw [h9] at HR
          have HM := Lib.hid (And.intro hM (show ls.length = 2 * m by have h := HLs.out; rwa [Int.toNat_natCast] at h))
          clear h9 hM
          go_wp2_with fail
          refine HR.out.mono ?_
          rintro e wL ⟨v, q16, rfl, hp16, hg16, hb16⟩
          obtain ⟨a9, n9, c9, rfl, hup⟩ := got_up hg16 (Arr.blk_lt H12.out.box)
          have HL13 := Lib.hid (st_below H12.out hb16)
          have HA13 := Lib.hid (up_keep HUp.out hb16)
          have HP16 := Lib.hid hp16
          have HU16 := Lib.hid hup
          have HBl := Lib.hid (Arr.blk_lt HL13.out.box)
          clear hup hp16 hg16 hb16 HR hM2
          by_cases hqn : q16 = (n : Int)
          · subst hqn
            have hs9 : s9 = some [] := by
              have h := pos_end HP16.out HL.out.len
              simpa using h
            have HFin := Lib.hid (HD.out.2.2.2 (by omega) (by omega) hs9)
            have HU9 := Lib.hid (HU16.out (by omega))
            obtain rfl : n9 = M := by have h1 := HU9.out.lst.len; have h2 := HM.out; omega
            clear hs9
            go_wp2_with fail
            go_loopw [9] (fun iv wr => ∃ (j : Nat) (ax : Option Addr) (nx cx : Nat), j ≤ m ∧ iv = .int .i64 (j : Nat) ∧ OwG wr wL.heap.size (.slice ax nx cx) ((pairs ls).take j) ∧ Chg (fun k => k = B) wL wr ∧ Arr.Blk wr B 25 [.int .i64 sq, .int .i64 tm, .int .i64 kd, .string ky, .string nm, .slice a5 n5 c5, .slice ax nx cx]) (fun iv _ => m - (intOf iv).toNat)
            case atStart => exact ⟨0, none, 0, 0, Nat.zero_le _, rfl, by rw [List.take_zero]; exact owns_nil _ _ _, chg_refl _ _, HL13.out.box⟩
            case round =>
              obtain ⟨j, ax, nx, cx, hj, rfl, ho, hC, hbk⟩ := hrel
              have HBk := Lib.hid (And.intro ho (And.intro hC hbk))
              clear ho hC hbk
              by_cases hlt : j < m
              · obtain ⟨x, y, hx, hy, hg⟩ := pairs_at m ls HM.out.2 j hlt
                have hu9 := up_chg HU9.out HBk.out.2.1 fun k hk => Nat.le_of_eq hk
                obtain ⟨b9, o9, rfl⟩ := lst_at hu9.lst (by have := HM.out.1; omega)
                have HCl := Lib.hid (And.intro (int_cell2 hu9.lst hx) (int_cell2 hu9.lst hy))
                have HJn := Lib.hid (show j ≤ 1000 ∧ 2 * j < n9 ∧ 2 * j + 1 < n9 by have := HM.out.1; omega)
                have HLn := Lib.hid (show ((pairs ls).take j).length ≤ 1000 by rw [List.length_take]; omega)
                have HTk := Lib.hid (legs_next hg)
                clear hu9 hx hy hg
                go_wp2_with fail
                refine Chn.wp_region_chain (fun idx => match idx with | 0 => some (.pointer (some ⟨B, 6, none⟩)) | 1 => some (.slice ax nx cx) | 2 => some (.slice (some ⟨b9, o9, none⟩) n9 c9) | 3 => some (.int .i64 (j : Nat)) | 4 => some (.int .i64 ((2 * j : Nat) : Int)) | 5 => some (.pointer (some ⟨b9, o9 + 2 * j, none⟩)) | 6 => some (.int .i64 x) | 7 => some (.slice (some ⟨b9, o9, none⟩) n9 c9) | 8 => some (.int .i64 (j : Nat)) | 9 => some (.int .i64 ((2 * j : Nat) : Int)) | 10 => some (.int .i64 ((2 * j + 1 : Nat) : Int)) | 11 => some (.pointer (some ⟨b9, o9 + (2 * j + 1), none⟩)) | 12 => some (.int .i64 y) | 13 => some (.agg #[.int .i64 x, .int .i64 y]) | 16 => some (.pointer (some ⟨B, 6, none⟩)) | _ => none) [14, 15, 17] (phiG wr wL B [.int .i64 sq, .int .i64 tm, .int .i64 kd, .string ky, .string nm, .slice a5 n5 c5, .slice ax nx cx] ((pairs ls).take j) ⟨x, y⟩) (by kernel_rfl) (by kernel_rfl) (by kernel_rfl) (by kernel_rfl) (by kernel_rfl) (by decide) (by kernel_rfl) (rfl) ?_ ?_
                · refine ⟨?_, ?_, ?_, ?_, ?_, ?_, ?_, ?_, ?_, ?_, ?_, ?_, ?_, ?_, ?_, ?_, ?_, ?_, trivial⟩
                  · intro a ww jj vs c hj0 hΦ
                    have hj : jj ≤ 1 := Nat.le_trans hj0 (of_decide_eq_true (by kernel_rfl))
                    refine .inl ⟨Rel.wanted_free (by kernel_rfl) _, ?_⟩
                    exact Chn.wp_fa _ _ _ rfl (c.old 6 (v := .pointer (some ⟨B, 0, none⟩)) (by kernel_rfl) (by kernel_rfl)) (by simp [go_sem]) ⟨rfl, rfl⟩
                  · intro a ww jj vs c hj0 hΦ
                    have hj : jj ≤ 1 := Nat.le_trans hj0 (of_decide_eq_true (by kernel_rfl))
                    refine .inl ⟨Rel.wanted_free (by kernel_rfl) _, ?_⟩
                    exact Rel.wp_ld _ _ rfl (c.get 0 105 (by kernel_rfl) rfl) (run_ldgg (lg_cell hj hΦ HBk.out.2.2 rfl)) ⟨rfl, rfl⟩
                  · intro a ww jj vs c hj0 hΦ
                    have hj : jj ≤ 0 := Nat.le_trans hj0 (of_decide_eq_true (by kernel_rfl))
                    refine .inl ⟨Rel.wanted_free (by kernel_rfl) _, ?_⟩
                    exact Rel.wp_mv _ rfl ⟨congrArg (a.put _) (c.old 8 (v := .slice (some ⟨b9, o9, none⟩) n9 c9) (by kernel_rfl) (by kernel_rfl)), rfl⟩
                  · intro a ww jj vs c hj0 hΦ
                    have hj : jj ≤ 0 := Nat.le_trans hj0 (of_decide_eq_true (by kernel_rfl))
                    refine .inl ⟨Rel.wanted_free (by kernel_rfl) _, ?_⟩
                    exact Rel.wp_mv _ rfl ⟨congrArg (a.put _) (c.old 9 (v := .int .i64 (j : Nat)) (by kernel_rfl) (by kernel_rfl)), rfl⟩
                  · intro a ww jj vs c hj0 hΦ
                    have hj : jj ≤ 0 := Nat.le_trans hj0 (of_decide_eq_true (by kernel_rfl))
                    refine .inl ⟨Rel.wanted_free (by kernel_rfl) _, ?_⟩
                    exact Rel.wp_bo _ _ _ _ _ rfl rfl (c.get 3 108 (by kernel_rfl) rfl) (run_mul2 HJn.out.1 _ _ ww) ⟨rfl, rfl⟩
                  · intro a ww jj vs c hj0 hΦ
                    have hj : jj ≤ 0 := Nat.le_trans hj0 (of_decide_eq_true (by kernel_rfl))
                    refine .inl ⟨Rel.wanted_free (by kernel_rfl) _, ?_⟩
                    exact Rel.wp_ia _ _ _ rfl (c.get 2 107 (by kernel_rfl) rfl) (c.get 4 109 (by kernel_rfl) rfl) (run_iab HJn.out.2.1 rfl ww) ⟨rfl, rfl⟩
                  · intro a ww jj vs c hj0 hΦ
                    have hj : jj ≤ 0 := Nat.le_trans hj0 (of_decide_eq_true (by kernel_rfl))
                    refine .inl ⟨Rel.wanted_free (by kernel_rfl) _, ?_⟩
                    exact Rel.wp_ld _ _ rfl (c.get 5 110 (by kernel_rfl) rfl) (run_ld2 (by rw [lg_first hj hΦ]; exact HCl.out.1)) ⟨rfl, rfl⟩
                  · intro a ww jj vs c hj0 hΦ
                    have hj : jj ≤ 0 := Nat.le_trans hj0 (of_decide_eq_true (by kernel_rfl))
                    refine .inl ⟨Rel.wanted_free (by kernel_rfl) _, ?_⟩
                    exact Rel.wp_mv _ rfl ⟨congrArg (a.put _) (c.old 8 (v := .slice (some ⟨b9, o9, none⟩) n9 c9) (by kernel_rfl) (by kernel_rfl)), rfl⟩
                  · intro a ww jj vs c hj0 hΦ
                    have hj : jj ≤ 0 := Nat.le_trans hj0 (of_decide_eq_true (by kernel_rfl))
                    refine .inl ⟨Rel.wanted_free (by kernel_rfl) _, ?_⟩
                    exact Rel.wp_mv _ rfl ⟨congrArg (a.put _) (c.old 9 (v := .int .i64 (j : Nat)) (by kernel_rfl) (by kernel_rfl)), rfl⟩
                  · intro a ww jj vs c hj0 hΦ
                    have hj : jj ≤ 0 := Nat.le_trans hj0 (of_decide_eq_true (by kernel_rfl))
                    refine .inl ⟨Rel.wanted_free (by kernel_rfl) _, ?_⟩
                    exact Rel.wp_bo _ _ _ _ _ rfl rfl (c.get 8 113 (by kernel_rfl) rfl) (run_mul2 HJn.out.1 _ _ ww) ⟨rfl, rfl⟩
                  · intro a ww jj vs c hj0 hΦ
                    have hj : jj ≤ 0 := Nat.le_trans hj0 (of_decide_eq_true (by kernel_rfl))
                    refine .inl ⟨Rel.wanted_free (by kernel_rfl) _, ?_⟩
                    exact Rel.wp_bo _ _ _ _ _ rfl (c.get 9 114 (by kernel_rfl) rfl) rfl (run_add1 HJn.out.1 _ _ ww) ⟨rfl, rfl⟩
                  · intro a ww jj vs c hj0 hΦ
                    have hj : jj ≤ 0 := Nat.le_trans hj0 (of_decide_eq_true (by kernel_rfl))
                    refine .inl ⟨Rel.wanted_free (by kernel_rfl) _, ?_⟩
                    exact Rel.wp_ia _ _ _ rfl (c.get 7 112 (by kernel_rfl) rfl) (c.get 10 115 (by kernel_rfl) rfl) (run_iab HJn.out.2.2 rfl ww) ⟨rfl, rfl⟩
                  · intro a ww jj vs c hj0 hΦ
                    have hj : jj ≤ 0 := Nat.le_trans hj0 (of_decide_eq_true (by kernel_rfl))
                    refine .inl ⟨Rel.wanted_free (by kernel_rfl) _, ?_⟩
                    exact Rel.wp_ld _ _ rfl (c.get 11 116 (by kernel_rfl) rfl) (run_ld2 (by rw [lg_first hj hΦ]; exact HCl.out.2)) ⟨rfl, rfl⟩
                  · intro a ww jj vs c hj0 hΦ
                    have hj : jj ≤ 0 := Nat.le_trans hj0 (of_decide_eq_true (by kernel_rfl))
                    refine .inl ⟨Rel.wanted_free (by kernel_rfl) _, ?_⟩
                    exact Chn.wp_bd2 _ _ _ _ _ rfl (c.get 6 111 (by kernel_rfl) rfl) (c.get 12 117 (by kernel_rfl) rfl) (run_bd_g _ _ _) ⟨rfl, rfl⟩
                  · refine ⟨0, rfl, ?_⟩
                    intro a ww c hΦ
                    have h : (phiG wr wL B [.int .i64 sq, .int .i64 tm, .int .i64 kd, .string ky, .string nm, .slice a5 n5 c5, .slice ax nx cx] ((pairs ls).take j) ⟨x, y⟩) 0 [] ww := hΦ
                    clear hΦ
                    refine ⟨Rel.wanted_free (by kernel_rfl) _, ?_⟩
                    have hw : ww = _ := h
                    subst hw
                    exact Chn.wp_bs1 _ _ rfl (c.get 13 118 (by kernel_rfl) rfl) (run_bs_g _ _ _) ⟨_, rfl, rfl, rfl⟩
                  · refine ⟨1, rfl, ?_⟩
                    intro a ww c hΦ
                    have h : (phiG wr wL B [.int .i64 sq, .int .i64 tm, .int .i64 kd, .string ky, .string nm, .slice a5 n5 c5, .slice ax nx cx] ((pairs ls).take j) ⟨x, y⟩) 1 [Rel.slot a 119] ww := hΦ
                    clear hΦ
                    refine ⟨Rel.wanted_free (by kernel_rfl) _, ?_⟩
                    obtain ⟨hu, hw⟩ := h
                    subst hw
                    obtain ⟨v, w3, hx, hm⟩ := leg_append (g := ⟨x, y⟩) _ HBk.out.1 HBk.out.2.1 HBk.out.2.2 HBl.out HLn.out
                    exact Chn.wp_ap _ _ _ rfl (c.get 1 106 (by kernel_rfl) rfl) hu hx ⟨_, rfl, hm⟩
                  · intro a ww jj vs c hj0 hΦ
                    have hj : jj ≤ 2 := Nat.le_trans hj0 (of_decide_eq_true (by kernel_rfl))
                    refine .inl ⟨Rel.wanted_free (by kernel_rfl) _, ?_⟩
                    exact Chn.wp_fa _ _ _ rfl (c.old 6 (v := .pointer (some ⟨B, 0, none⟩)) (by kernel_rfl) (by kernel_rfl)) (by simp [go_sem]) ⟨rfl, rfl⟩
                  · refine ⟨2, rfl, ?_⟩
                    intro a ww c hΦ
                    have h : (phiG wr wL B [.int .i64 sq, .int .i64 tm, .int .i64 kd, .string ky, .string nm, .slice a5 n5 c5, .slice ax nx cx] ((pairs ls).take j) ⟨x, y⟩) 2 [Rel.slot a 119, Rel.slot a 120] ww := hΦ
                    clear hΦ
                    refine ⟨Rel.wanted_free (by kernel_rfl) _, ?_⟩
                    obtain ⟨⟨ay, ny, cy, hx⟩, h1, h2, h3⟩ := h
                    rw [hx] at h1
                    exact Chn.wp_st _ _ _ rfl (c.get 16 121 (by kernel_rfl) rfl) hx (run_st_g (by rw [Arr.blk_cell h3]; rfl) (Arr.blk_frozen h3 6)) ⟨undef, rfl, ay, ny, cy, box_leg (w4 := ww) h1 h2 h3 HBl.out⟩
                intro a w22 hbase hroom hdef hΦ hV
                have h : (phiG wr wL B [.int .i64 sq, .int .i64 tm, .int .i64 kd, .string ky, .string nm, .slice a5 n5 c5, .slice ax nx cx] ((pairs ls).take j) ⟨x, y⟩) 3 [Rel.slot a 119, Rel.slot a 120, undef] w22 := hΦ
                rw [Chn.act_puts [105, 106, 107, 108, 109, 110, 111, 112, 113, 114, 115, 116, 117, 118, 119, 120, 121] hbase hroom hdef (by kernel_rfl)]
                clear hbase hroom hdef hΦ hV
                simp only [List.foldl_cons, List.foldl_nil]
                generalize Rel.slot a 105 = u105 at *
                generalize Rel.slot a 106 = u106 at *
                generalize Rel.slot a 107 = u107 at *
                generalize Rel.slot a 108 = u108 at *
                generalize Rel.slot a 109 = u109 at *
                generalize Rel.slot a 110 = u110 at *
                generalize Rel.slot a 111 = u111 at *
                generalize Rel.slot a 112 = u112 at *
                generalize Rel.slot a 113 = u113 at *
                generalize Rel.slot a 114 = u114 at *
                generalize Rel.slot a 115 = u115 at *
                generalize Rel.slot a 116 = u116 at *
                generalize Rel.slot a 117 = u117 at *
                generalize Rel.slot a 118 = u118 at *
                generalize Rel.slot a 119 = u119 at *
                generalize Rel.slot a 120 = u120 at *
                generalize Rel.slot a 121 = u121 at *
                obtain ⟨ay, ny, cy, k1, k2, k3⟩ := h
                have HE9 := Lib.hid (show OwG w22 wL.heap.size (.slice ay ny cy) ((pairs ls).take (j + 1)) ∧ Chg (fun k => k = B) wL w22 ∧ Arr.Blk w22 B 25 [.int .i64 sq, .int .i64 tm, .int .i64 kd, .string ky, .string nm, .slice a5 n5 c5, .slice ay ny cy] from ⟨by rw [HTk.out]; exact k1, k2, k3⟩)
                clear k1 k2 k3
                go_wp2_with fail
                go_roundw
                case rel => exact ⟨j + 1, ay, ny, cy, by omega, by go_num, HE9.out.1, HE9.out.2.1, HE9.out.2.2⟩
                case measure => simp [intOf]; omega
              · obtain rfl : j = m := by omega
                have HTk := Lib.hid (show (pairs ls).take j = pairs ls from List.take_of_length_le (by have h := (flat_pairs j ls HM.out.2).2; omega))
                have HO := HBk.out.1
                rw [HTk.out] at HO
                have HOl := Lib.hid (own_legs HO)
                have HSt := Lib.hid (st_chg HL13.out HBk.out.2.1 HBk.out.2.2)
                have HAr := Lib.hid (up_chg HA13.out HBk.out.2.1 fun k hk => Nat.le_of_eq hk)
                clear HO
                go_wp2_with (first | (refine Arr.wpList_load_blk rfl 25 (.tmp 6) rfl B rfl [.int .i64 sq, .int .i64 tm, .int .i64 kd, .string ky, .string nm, .slice a5 n5 c5, .slice ax nx cx] 25 HSt.out.box _ Try.underlying25 rfl info_tx7 ?_) | (refine wpList_store_own rfl 25 (.tmp 2) (.tmp 122) rfl W.heap.size [.int .i64 sq, .int .i64 tm, .int .i64 kd, .string ky, .string nm, .slice a5 n5 c5, .slice ax nx cx] rfl rfl zero7 25 HSt.out.res info_tx7 rfl rfl ?_; intro wz hblk hC hsz) | fail)
                refine bodyPost_ret (results_cell_row2 rfl _ _ W.heap.size 25 [.int .i64 sq, .int .i64 tm, .int .i64 kd, .string ky, .string nm, .slice a5 n5 c5, .slice ax nx cx] _ rfl hblk Try.underlying25 rfl info_tx7) rfl ?_
                have hbf := HSt.out.below.trans (chg_below hC (fun y hy => Nat.le_of_eq hy.symm) HSt.out.below.size)
                have hlt := HSt.out.lt
                have hin : Tv.In ⟨⟨sq, tm, kd, ky, nm, ag, pairs ls⟩, a5, n5, c5, ax, nx, cx⟩ wz := by
                  obtain ⟨e1, ⟨e2, e3, e4, e5⟩, e6⟩ := enc_dec HFin.out
                  refine ⟨lst_chg encI_len HAr.out.lst hC (fun p hp hf => ?_), lst_chg encG_len HOl.out.1 hC (fun p hp hf => ?_), ?_, ?_⟩
                  · have := HAr.out.up p hp
                    replace hf : p.block = W.heap.size := hf
                    omega
                  · have h1 := HOl.out.2 p hp
                    have h2 := HBl.out
                    replace hf : p.block = W.heap.size := hf
                    omega
                  · simp only at e2 ⊢
                    unfold maxLen
                    omega
                  · simp only at e3 ⊢
                    unfold maxLen
                    omega
                exact ⟨⟨⟨sq, tm, kd, ky, nm, ag, pairs ls⟩, a5, n5, c5, ax, nx, cx⟩, by rw [(dec_ok HFin.out).1]; rfl, by rw [(dec_ok HFin.out).2], hin, hbf⟩
          · have hs9 : s9 ≠ some [] := fun e => by
              have h := pos_end HP16.out HL.out.len
              rw [e] at h
              simp at h
              exact hqn h
            have HDd := Lib.hid (HD.out.2.2.1 hs9)
            clear hs9
            go_wp2_with (first | (refine wpList_store_own rfl 25 (.tmp 2) (.tmp 99) rfl W.heap.size zero7 rfl rfl zero7 25 HL13.out.res info_tx7 rfl rfl ?_; intro wz hblk hC hsz) | fail)
            refine bodyPost_ret (results_cell_row2 rfl _ _ W.heap.size 25 zero7 _ rfl hblk Try.underlying25 rfl info_tx7) rfl ?_
            have hbf := HL13.out.below.trans (chg_below hC (fun y hy => Nat.le_of_eq hy.symm) HL13.out.below.size)
            exact ⟨zTv, by rw [(dec_no HDd.out).1]; rfl, by rw [(dec_no HDd.out).2]; rfl, zTv_in _, hbf⟩
end Go.Proofs.Ytcoiebeehgeggaa.Ent
