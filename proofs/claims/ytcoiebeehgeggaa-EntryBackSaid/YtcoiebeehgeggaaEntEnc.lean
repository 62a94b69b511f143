/- Entry: the document's Encode. -/
import Derived.Test.YtcoiebeehgeggaaEntBox
import Derived.Test.YtcoiebeehgeggaaOctRefP
import Derived.Test.YtcoiebeehgeggaaRegChn
import Derived.Test.YtcoiebeehgeggaaRegLst
import Derived.BigFrame
import Derived.BigQuiet
import Derived.Deep.DeepCutAuto
import Derived.Deep.CutBlock
import Derived.WalkLawsBesides
import Derived.LoopTactic
namespace Go.Proofs.Ytcoiebeehgeggaa.Ent
set_option maxRecDepth 100000
open Go.RowKit
open Go.Sort
open Kit
open Oct
open Tre (Lst inI lst_keep lst_take lst_at lst_new lst_none i64_wf cells_int IntsL int_cell encI encI_len encI_one OwI own_chg' info_i run_ld2)
open Led (Lg encG encG_len encG_one Legs leg_cells)
set_option linter.unusedVariables false
set_option linter.unusedSimpArgs false
variable {w w' : World}


set_option maxHeartbeats 16000000 in
theorem renc_any (W : World) (x : Tv) (hx : x.In W) (hok : x.t.ok) :
    Calls Try.prog 8 #[valV x] W fun e W' => ∃ a n c, e = .returned (.tuple #[.slice a n c, .int .i64 (encE x.t)]) ∧ NB W' W.heap.size a n c (encL x.t) ∧ Below W.heap.size W W' := by
  obtain ⟨⟨sq, tm, kd, ky, nm, ag, lg⟩, a1, n1, c1, a2, n2, c2⟩ := x
  have HC0 := box_cells W ⟨⟨sq, tm, kd, ky, nm, ag, lg⟩, a1, n1, c1, a2, n2, c2⟩
  have hb1 := below_alloc W (.cells #[.int .i64 sq, .int .i64 tm, .int .i64 kd, .string ky, .string nm, .slice a1 n1 c1, .slice a2 n2 c2] 25)
  obtain ⟨g1, g2, g3, g4⟩ := hx
  simp only at g1 g2 g3 g4 HC0 hok ⊢
  have HI := Lib.hid (And.intro g1 (And.intro g2 (And.intro g1.len g2.len)))
  have HOk := Lib.hid hok
  have hs1 : ky.size ≤ 9223372036854775807 := by unfold maxLen at g3; omega
  have hs2 : nm.size ≤ 9223372036854775807 := by unfold maxLen at g4; omega
  have hn1 : n1 ≤ 9223372036854775807 := by have h1 := g1.cap; have h2 := g1.max; unfold maxLen at h2; omega
  have hn2 : n2 ≤ 9223372036854775807 := by have h1 := g2.cap; have h2 := g2.max; unfold maxLen at h2; omega
  have HBx := Lib.hid (And.intro HC0 hb1)
  clear HC0 hb1 g1 g2 g3 g4 hok
  by_cases hfit : ky.size ≤ 16 ∧ nm.size ≤ 16 ∧ n1 ≤ 8 ∧ n2 ≤ 64
  · have HE := Lib.hid (enc_yes (t := ⟨sq, tm, kd, ky, nm, ag, lg⟩) ⟨hfit.1, hfit.2.1, by rw [HI.out.2.2.1]; exact hfit.2.2.1, by rw [HI.out.2.2.2]; exact hfit.2.2.2⟩)
    rw [HE.out.1, HE.out.2]
    have HF := Lib.hid hfit
    have t1 : ¬ (16 : Int) < (ky.size : Int) := by omega
    have t2 : ¬ (16 : Int) < (nm.size : Int) := by omega
    have t3 : ¬ (8 : Int) < (n1 : Int) := by omega
    have t4 : ¬ (64 : Int) < (n2 : Int) := by omega
    clear hfit
    go_enter Try.func8, Try.ntmps8
    go_upto_region 3 with fail
    obtain ⟨w1, hw1⟩ : ∃ x, x = W.alloc (.cells #[.int .i64 sq, .int .i64 tm, .int .i64 kd, .string ky, .string nm, .slice a1 n1 c1, .slice a2 n2 c2] 25) := ⟨_, rfl⟩
    rw [← hw1] at HBx ⊢
    have HC := Lib.hid HBx.out.1
    have HB1 := Lib.hid HBx.out.2
    clear hw1 HBx
    refine Rel.wp_region_rel (G := Rel.Gr) (Rel.tab [.is (.pointer (some ⟨W.heap.size, 0, none⟩)), .is (.int .i64 sq), kN W.heap.size (int8 sq), .is (.pointer (some ⟨W.heap.size, 1, none⟩)), .is (.int .i64 tm), kN W.heap.size (int8 sq ++ int8 tm), .is (.pointer (some ⟨W.heap.size, 2, none⟩)), .is (.int .i64 kd), kN W.heap.size (int8 sq ++ int8 tm ++ int8 kd), kN W.heap.size (int8 sq ++ int8 tm ++ int8 kd)]) (fun _ w => Below w1.heap.size w1 w) (by kernel_rfl) (by kernel_rfl) (by kernel_rfl) (by kernel_rfl) (fun w => Rel.gr_refl _) (below_drew _) ?_ ?_
    · refine ⟨?_, ?_, ?_, ?_, ?_, ?_, ?_, ?_, ?_, ?_, trivial⟩
      · intro L a w c
        refine .inl ⟨Rel.wanted_free (by kernel_rfl) _, ?_⟩
        exact Chn.wp_fa _ _ _ rfl (c.old 1 (v := .pointer (some ⟨W.heap.size, 0, none⟩)) (by kernel_rfl) (by kernel_rfl)) (by simp [go_sem]) ⟨_, rfl, Rel.gr_refl _, rfl, c.inv⟩
      · intro L a w c
        refine .inl ⟨Rel.wanted_free (by kernel_rfl) _, ?_⟩
        exact Rel.wp_ld _ _ rfl (c.get 0 29 (by kernel_rfl)) (run_ld2 (cell_keep c.inv HC.out.1)) ⟨_, rfl, Rel.gr_refl _, rfl, c.inv⟩
      · intro L a w c
        refine .inl ⟨Rel.wanted_free (by kernel_rfl) _, ?_⟩
        refine Rel.wp_cl _ _ _ rfl Try.func15 (by kernel_rfl) ?_
        show Calls _ _ #[.slice none 0 0, Rel.slot a 30] w _
        rw [show Rel.slot a 30 = .int .i64 sq from (c.get 1 30 (by kernel_rfl))]
        refine (rint_any none 0 0 sq [] w rfl (fun _ => ⟨rfl, rfl⟩) (.inl rfl) (by omega)).mono ?_
        rintro e w' ⟨v, rfl, h1, h2⟩
        exact ⟨v, rfl, v, rfl, h2, nb_own (B := W.heap.size) h1 (Nat.le_trans HB1.out.size c.inv.size), below_keep c.inv h2⟩
      · intro L a w c
        refine .inl ⟨Rel.wanted_free (by kernel_rfl) _, ?_⟩
        exact Chn.wp_fa _ _ _ rfl (c.old 1 (v := .pointer (some ⟨W.heap.size, 0, none⟩)) (by kernel_rfl) (by kernel_rfl)) (by simp [go_sem]) ⟨_, rfl, Rel.gr_refl _, rfl, c.inv⟩
      · intro L a w c
        refine .inl ⟨Rel.wanted_free (by kernel_rfl) _, ?_⟩
        exact Rel.wp_ld _ _ rfl (c.get 3 32 (by kernel_rfl)) (run_ld2 (cell_keep c.inv HC.out.2.1)) ⟨_, rfl, Rel.gr_refl _, rfl, c.inv⟩
      · intro L a w c
        refine .inl ⟨Rel.wanted_free (by kernel_rfl) _, ?_⟩
        obtain ⟨a', n', c', e', hp⟩ := c.get 2 31 (by kernel_rfl)
        refine Rel.wp_cl _ _ _ rfl Try.func15 (by kernel_rfl) ?_
        show Calls _ _ #[Rel.slot a 31, Rel.slot a 33] w _
        rw [show Rel.slot a 31 = _ from e', show Rel.slot a 33 = .int .i64 tm from (c.get 4 33 (by kernel_rfl))]
        refine (rint_any a' n' c' tm (int8 sq) w hp.1 hp.2.2.2.1 hp.2.2.2.2.1 (by have := hp.1; simp only [List.length_append, int8_len] at this; omega)).mono ?_
        rintro e w' ⟨v, rfl, h1, h2⟩
        exact ⟨v, rfl, v, rfl, h2, nb_own (B := W.heap.size) h1 (Nat.le_trans HB1.out.size c.inv.size), below_keep c.inv h2⟩
      · intro L a w c
        refine .inl ⟨Rel.wanted_free (by kernel_rfl) _, ?_⟩
        exact Chn.wp_fa _ _ _ rfl (c.old 1 (v := .pointer (some ⟨W.heap.size, 0, none⟩)) (by kernel_rfl) (by kernel_rfl)) (by simp [go_sem]) ⟨_, rfl, Rel.gr_refl _, rfl, c.inv⟩
      · intro L a w c
        refine .inl ⟨Rel.wanted_free (by kernel_rfl) _, ?_⟩
        exact Rel.wp_ld _ _ rfl (c.get 6 35 (by kernel_rfl)) (run_ld2 (cell_keep c.inv HC.out.2.2.1)) ⟨_, rfl, Rel.gr_refl _, rfl, c.inv⟩
      · intro L a w c
        refine .inl ⟨Rel.wanted_free (by kernel_rfl) _, ?_⟩
        obtain ⟨a', n', c', e', hp⟩ := c.get 5 34 (by kernel_rfl)
        refine Rel.wp_cl _ _ _ rfl Try.func15 (by kernel_rfl) ?_
        show Calls _ _ #[Rel.slot a 34, Rel.slot a 36] w _
        rw [show Rel.slot a 34 = _ from e', show Rel.slot a 36 = .int .i64 kd from (c.get 7 36 (by kernel_rfl))]
        refine (rint_any a' n' c' kd (int8 sq ++ int8 tm) w hp.1 hp.2.2.2.1 hp.2.2.2.2.1 (by have := hp.1; simp only [List.length_append, int8_len] at this; omega)).mono ?_
        rintro e w' ⟨v, rfl, h1, h2⟩
        exact ⟨v, rfl, v, rfl, h2, nb_own (B := W.heap.size) h1 (Nat.le_trans HB1.out.size c.inv.size), below_keep c.inv h2⟩
      · intro L a w c
        refine .inl ⟨Rel.wanted_free (by kernel_rfl) _, ?_⟩
        exact Rel.wp_as _ rfl ⟨_, rfl, Rel.gr_refl _, (c.get 8 37 (by kernel_rfl)), c.inv⟩
    intro a w3 hbase hroom hdef hJ hV
    have k4 : (kN W.heap.size (int8 sq ++ int8 tm ++ int8 kd) : Rel.Kd (Rel.Gr)).p w3 (Rel.slot a 4) := hV 9 _ _ rfl rfl
    rw [Chn.act_puts [29, 30, 31, 32, 33, 34, 35, 36, 37, 4] hbase hroom hdef (by kernel_rfl)]
    clear hbase hroom hdef hV
    simp only [List.foldl_cons, List.foldl_nil]
    generalize Rel.slot a 29 = u29 at *
    generalize Rel.slot a 30 = u30 at *
    generalize Rel.slot a 31 = u31 at *
    generalize Rel.slot a 32 = u32 at *
    generalize Rel.slot a 33 = u33 at *
    generalize Rel.slot a 34 = u34 at *
    generalize Rel.slot a 35 = u35 at *
    generalize Rel.slot a 36 = u36 at *
    generalize Rel.slot a 37 = u37 at *
    generalize Rel.slot a 4 = u4 at *
    simp only [Act.put, List.setIfInBounds_toArray, List.set_cons_succ, List.set_cons_zero]
    obtain ⟨a3, n3, c3, rfl, hl3⟩ := k4
    have HL3 := Lib.hid hl3
    have HB3 := Lib.hid hJ
    have HB13 := Lib.hid (HB1.out.trans (hJ.mono HB1.out.size))
    clear hl3 hJ
    go_wp2_with fail
    refine Rel.wp_region_last (G := Rel.Gr) _ (Rel.tab [.is (.slice a3 n3 c3), .is (.pointer (some ⟨W.heap.size, 3, none⟩)), .is (.string ky), kN W.heap.size ((int8 sq ++ int8 tm ++ int8 kd) ++ txt ky), .is (.pointer (some ⟨W.heap.size, 4, none⟩)), .is (.string nm), kN W.heap.size ((int8 sq ++ int8 tm ++ int8 kd) ++ txt ky ++ txt nm)]) (fun _ w => Below w3.heap.size w3 w) (by kernel_rfl) rfl (by kernel_rfl) (by kernel_rfl) (by kernel_rfl) (by kernel_rfl) (by kernel_rfl) (below_drew _) ?_ ?_
    · refine ⟨?_, ?_, ?_, ?_, ?_, ?_, ?_, trivial⟩
      · intro L a w c
        refine .inl ⟨Rel.wanted_free (by kernel_rfl) _, ?_⟩
        exact Rel.wp_mv _ rfl ⟨_, rfl, Rel.gr_refl _, (c.old 4 (v := .slice a3 n3 c3) (by kernel_rfl) (by kernel_rfl)), c.inv⟩
      · intro L a w c
        refine .inl ⟨Rel.wanted_free (by kernel_rfl) _, ?_⟩
        exact Chn.wp_fa _ _ _ rfl (c.old 1 (v := .pointer (some ⟨W.heap.size, 0, none⟩)) (by kernel_rfl) (by kernel_rfl)) (by simp [go_sem]) ⟨_, rfl, Rel.gr_refl _, rfl, c.inv⟩
      · intro L a w c
        refine .inl ⟨Rel.wanted_free (by kernel_rfl) _, ?_⟩
        exact Rel.wp_ld _ _ rfl (c.get 1 39 (by kernel_rfl)) (run_lds (cell_keep (below_keep HB3.out c.inv) HC.out.2.2.2.1)) ⟨_, rfl, Rel.gr_refl _, rfl, c.inv⟩
      · intro L a w c
        refine .inl ⟨Rel.wanted_free (by kernel_rfl) _, ?_⟩
        refine Rel.wp_cl _ _ _ rfl Try.func16 (by kernel_rfl) ?_
        show Calls _ _ #[Rel.slot a 38, Rel.slot a 40] w _
        rw [show Rel.slot a 38 = .slice a3 n3 c3 from (c.get 0 38 (by kernel_rfl)), show Rel.slot a 40 = .string ky from (c.get 2 40 (by kernel_rfl))]
        refine (rtext_any a3 n3 c3 ky (int8 sq ++ int8 tm ++ int8 kd) w HL3.out.1 HL3.out.2.2.2.1 (row_keep encB_len HL3.out.2.2.2.2.1 c.inv) (by have := HL3.out.1; simp only [List.length_append, int8_len] at this; omega) (by have := HF.out; omega)).mono ?_
        rintro e w' ⟨v, rfl, h1, h2⟩
        exact ⟨v, rfl, v, rfl, h2, nb_own (B := W.heap.size) (by unfold txt; rw [← List.append_assoc]; exact h1) (Nat.le_trans HB13.out.size c.inv.size), below_keep c.inv h2⟩
      · intro L a w c
        refine .inl ⟨Rel.wanted_free (by kernel_rfl) _, ?_⟩
        exact Chn.wp_fa _ _ _ rfl (c.old 1 (v := .pointer (some ⟨W.heap.size, 0, none⟩)) (by kernel_rfl) (by kernel_rfl)) (by simp [go_sem]) ⟨_, rfl, Rel.gr_refl _, rfl, c.inv⟩
      · intro L a w c
        refine .inl ⟨Rel.wanted_free (by kernel_rfl) _, ?_⟩
        exact Rel.wp_ld _ _ rfl (c.get 4 42 (by kernel_rfl)) (run_lds (cell_keep (below_keep HB3.out c.inv) HC.out.2.2.2.2.1)) ⟨_, rfl, Rel.gr_refl _, rfl, c.inv⟩
      · intro L a w c
        refine .inl ⟨Rel.wanted_free (by kernel_rfl) _, ?_⟩
        obtain ⟨a', n', c', e', hp⟩ := c.get 3 41 (by kernel_rfl)
        refine Rel.wp_cl _ _ _ rfl Try.func16 (by kernel_rfl) ?_
        show Calls _ _ #[Rel.slot a 41, Rel.slot a 43] w _
        rw [show Rel.slot a 41 = _ from e', show Rel.slot a 43 = .string nm from (c.get 5 43 (by kernel_rfl))]
        refine (rtext_any a' n' c' nm ((int8 sq ++ int8 tm ++ int8 kd) ++ txt ky) w hp.1 hp.2.2.2.1 hp.2.2.2.2.1 (by have := hp.1; have := HF.out; simp only [List.length_append, int8_len, txt_len] at *; omega) (by have := HF.out; omega)).mono ?_
        rintro e w' ⟨v, rfl, h1, h2⟩
        exact ⟨v, rfl, v, rfl, h2, nb_own (B := W.heap.size) (by show OwnB _ _ _ ((int8 sq ++ int8 tm ++ int8 kd) ++ txt ky ++ (beB 2 nm.size ++ nm.data.toList)); rw [← List.append_assoc]; exact h1) (Nat.le_trans HB13.out.size c.inv.size), below_keep c.inv h2⟩
    intro a w4 hbase hroom hdef hJ hV
    have k44 : (kN W.heap.size ((int8 sq ++ int8 tm ++ int8 kd) ++ txt ky ++ txt nm) : Rel.Kd (Rel.Gr)).p w4 (Rel.slot a 44) := hV 6 _ _ rfl rfl
    rw [Chn.act_puts [38, 39, 40, 41, 42, 43, 44] hbase hroom hdef (by kernel_rfl)]
    clear hbase hroom hdef hV
    simp only [List.foldl_cons, List.foldl_nil]
    generalize Rel.slot a 38 = u38 at *
    generalize Rel.slot a 39 = u39 at *
    generalize Rel.slot a 40 = u40 at *
    generalize Rel.slot a 41 = u41 at *
    generalize Rel.slot a 42 = u42 at *
    generalize Rel.slot a 43 = u43 at *
    generalize Rel.slot a 44 = u44 at *
    simp only [Act.put, List.setIfInBounds_toArray, List.set_cons_succ, List.set_cons_zero]
    obtain ⟨a4, n4, c4, rfl, hl4⟩ := k44
    dsimp only [List.getLast]
    refine Rel.wp_as _ rfl ?_
    obtain ⟨H5, hH5⟩ : ∃ y, y = int8 sq ++ int8 tm ++ int8 kd ++ txt ky ++ txt nm := ⟨_, rfl⟩
    rw [← hH5] at hl4
    have hb4 := below_keep HB3.out hJ
    have hlen5 : H5.length = 28 + ky.size + nm.size := by
      rw [hH5]
      simp only [List.length_append, int8_len, txt_len]
      omega
    have HH := Lib.hid (And.intro hH5 hlen5)
    have HL4 := Lib.hid hl4
    have HB4 := Lib.hid hb4
    have hq5 := cell_keep hb4 HC.out.2.2.2.2.2.1
    clear hl4 hJ hb4 hH5 hlen5
    go_wp2_with fail
    refine (rint_any a4 n4 c4 (n1 : Nat) H5 w4 HL4.out.1 HL4.out.2.2.2.1 HL4.out.2.2.2.2.1 (by have h1 := HL4.out.1; have h2 := HH.out.2; have h3 := HF.out; omega)).mono ?_
    rintro e w5 ⟨v5, rfl, ho5, hb5⟩
    obtain ⟨a5, n5, c5, rfl, hl5⟩ := nb_own (B := W.heap.size) ho5 (below_keep HB1.out HB4.out).size
    have HL5 := Lib.hid (And.intro hl5 (below_keep HB4.out hb5))
    clear ho5 hb5 hl5 hq5
    go_upto_block 0 with fail
    go_cut [4] (fun bv wx => ∃ a n c, bv = .slice a n c ∧ NB wx W.heap.size a n c (H5 ++ int8 (n1 : Nat) ++ ints ag) ∧ Below w1.heap.size w1 wx) 
    case first =>
      go_wp2_with fail
      go_loopw [4, 5] (fun bv iv wr => ∃ (k : Nat) (a : Option Addr) (n c : Nat), k ≤ n1 ∧ iv = .int .i64 (k : Nat) ∧ bv = .slice a n c ∧ NB wr W.heap.size a n c (H5 ++ int8 (n1 : Nat) ++ ints (ag.take k)) ∧ Below w1.heap.size w1 wr) (fun _ iv _ => n1 - (intOf iv).toNat)
      case atStart => exact ⟨0, a5, n5, c5, Nat.zero_le _, rfl, rfl, by rw [List.take_zero]; show NB _ _ _ _ _ (H5 ++ int8 (n1 : Nat) ++ []); rw [List.append_nil]; exact HL5.out.1, HL5.out.2⟩
      case round =>
        obtain ⟨k, a6, n6, c6, hk, rfl, rfl, hnb, hb⟩ := hrel
        have HO := Lib.hid (And.intro hnb hb)
        have hq5 := cell_keep hb HC.out.2.2.2.2.2.1
        by_cases hlt : k < n1
        · have hkl : k < ag.length := by rw [HI.out.2.2.1]; exact hlt
          obtain ⟨b, o, rfl⟩ := lst_at HI.out.1 (by omega)
          have hic := int_cell (lst_keep encI_len HI.out.1 (below_keep HB1.out hb)) hkl
          have htk := ints_take (List.getElem?_eq_getElem hkl)
          generalize ag[k] = y at hic htk
          have HT := Lib.hid htk
          have HR := Lib.hid (rint_any a6 n6 c6 y (H5 ++ int8 (n1 : Nat) ++ ints (ag.take k)) wr HO.out.1.1 HO.out.1.2.2.2.1 HO.out.1.2.2.2.2.1 (by
            have h1 := HO.out.1.1
            have h2 := HH.out.2
            have h3 := HF.out
            simp only [List.length_append, int8_len, ints_len, List.length_take] at h1
            omega))
          clear hnb hb htk
          go_wp2_with fail
          refine HR.out.mono ?_
          rintro e w7 ⟨v7, rfl, ho7, hb7⟩
          obtain ⟨a7, n7, c7, rfl, hl7⟩ := nb_own (B := W.heap.size) ho7 (below_keep HB1.out HO.out.2).size
          have HL7 := Lib.hid (And.intro hl7 (below_keep HO.out.2 hb7))
          clear ho7 hb7 hl7 hq5 hic
          go_wp2_with fail
          go_roundw
          case rel => exact ⟨k + 1, a7, n7, c7, by omega, by go_num, rfl, by rw [HT.out, ← List.append_assoc]; exact HL7.out.1, HL7.out.2⟩
          case measure => simp [intOf]; omega
        · obtain rfl : k = n1 := by omega
          have HTk := Lib.hid (show ag.take k = ag from List.take_of_length_le (by rw [HI.out.2.2.1]; exact Nat.le_refl _))
          clear hnb hb
          go_wp2_with fail
          go_meet
          case rel => exact ⟨a6, n6, c6, rfl, by have h := HO.out.1; rw [HTk.out] at h; exact h, HO.out.2⟩
    case rest =>
    obtain ⟨a6, n6, c6, rfl, hl6, hb6⟩ := hcut
    have HL6 := Lib.hid (And.intro hl6 hb6)
    have hq6 := cell_keep hb6 HC.out.2.2.2.2.2.2
    have HR := Lib.hid (rint_any a6 n6 c6 (n2 : Nat) (H5 ++ int8 (n1 : Nat) ++ ints ag) wc HL6.out.1.1 HL6.out.1.2.2.2.1 HL6.out.1.2.2.2.2.1 (by
      have h1 := HL6.out.1.1
      have h2 := HH.out.2
      have h3 := HF.out
      have h4 := HI.out.2.2.1
      simp only [List.length_append, int8_len, ints_len] at h1
      omega))
    clear hl6 hb6
    go_wp2_with fail
    refine HR.out.mono ?_
    rintro e w8 ⟨v8, rfl, ho8, hb8⟩
    obtain ⟨a8, n8, c8, rfl, hl8⟩ := nb_own (B := W.heap.size) ho8 (below_keep HB1.out HL6.out.2).size
    have HL8 := Lib.hid (show NB w8 W.heap.size a8 n8 c8 (H5 ++ int8 (n1 : Nat) ++ ints ag ++ int8 (n2 : Nat)) ∧ Below w1.heap.size w1 w8 from ⟨hl8, below_keep HL6.out.2 hb8⟩)
    obtain ⟨H7, hH7⟩ : ∃ y, y = H5 ++ int8 (n1 : Nat) ++ ints ag ++ int8 (n2 : Nat) := ⟨_, rfl⟩
    rw [← hH7] at HL8
    have HH7 := Lib.hid (And.intro hH7 (show H7.length ≤ 200 by
      have h2 := HH.out.2
      have h3 := HF.out
      have h4 := HI.out.2.2.1
      rw [hH7]
      simp only [List.length_append, int8_len, ints_len]
      omega))
    clear ho8 hb8 hl8 hq6 hH7 HR
    go_wp2_with fail
    go_loopw [4, 6] (fun bv iv wr => ∃ (k : Nat) (a : Option Addr) (n c : Nat), k ≤ n2 ∧ iv = .int .i64 (k : Nat) ∧ bv = .slice a n c ∧ NB wr W.heap.size a n c (H7 ++ ints (flatG (lg.take k))) ∧ Below w1.heap.size w1 wr) (fun _ iv _ => n2 - (intOf iv).toNat)
    case atStart => exact ⟨0, a8, n8, c8, Nat.zero_le _, rfl, rfl, by rw [List.take_zero]; show NB _ _ _ _ _ (H7 ++ []); rw [List.append_nil]; exact HL8.out.1, HL8.out.2⟩
    case round =>
      obtain ⟨k, a5, n5, c5, hk, rfl, rfl, hnb, hb⟩ := hrel
      obtain ⟨L5, hL5⟩ : ∃ y, y = H7 ++ ints (flatG (lg.take k)) := ⟨_, rfl⟩
      have HBw := Lib.hid (below_keep HB1.out hb)
      have HC6 := Lib.hid (cell_keep hb HC.out.2.2.2.2.2.2)
      have hq6 := HC6.out
      have HBr := Lib.hid hb
      rw [← hL5] at hnb
      have HL5 := Lib.hid hnb
      have HEq := Lib.hid hL5
      have HBd := Lib.hid (show n5 ≤ 2000 by
        have h1 := hnb.1
        have h2 := HH7.out.2
        have h3 := HF.out
        rw [hL5] at h1
        simp only [List.length_append, ints_len, flatG_len, List.length_take] at h1
        omega)
      clear hnb hL5
      by_cases hlt : k < n2
      · have hkl : k < lg.length := by rw [HI.out.2.2.2]; exact hlt
        obtain ⟨b, o, rfl⟩ := lst_at HI.out.2.1 (by omega)
        have hgc := leg_cells (lst_keep encG_len HI.out.2.1 (below_keep HB1.out hb)) hkl
        have htk := flat_take (List.getElem?_eq_getElem hkl)
        generalize lg[k] = y at hgc htk
        obtain ⟨ac, am⟩ := y
        simp only at hgc htk
        have HG := Lib.hid hgc
        have HT := Lib.hid htk
        clear hb hgc htk
        go_wp2_with fail
        refine Rel.wp_region_last (G := Rel.Gr) _ (Rel.tab [.is (.slice a5 n5 c5), .is (.pointer (some ⟨W.heap.size, 6, none⟩)), .is (.slice (some ⟨b, o, none⟩) n2 c2), .is (.int .i64 (k : Nat)), .is (.pointer (some ⟨b, o + k * 2, none⟩)), .is (.pointer (some ⟨b, o + k * 2, none⟩)), .is (.int .i64 ac), kN W.heap.size (L5 ++ int8 ac), .is (.pointer (some ⟨W.heap.size, 6, none⟩)), .is (.slice (some ⟨b, o, none⟩) n2 c2), .is (.int .i64 (k : Nat)), .is (.pointer (some ⟨b, o + k * 2, none⟩)), .is (.pointer (some ⟨b, o + k * 2 + 1, none⟩)), .is (.int .i64 am), kN W.heap.size (L5 ++ int8 ac ++ int8 am)]) (fun _ w => Below wr.heap.size wr w) (by kernel_rfl) rfl (by kernel_rfl) (by kernel_rfl) (by kernel_rfl) (by kernel_rfl) (by kernel_rfl) (below_drew _) ?_ ?_
        · refine ⟨?_, ?_, ?_, ?_, ?_, ?_, ?_, ?_, ?_, ?_, ?_, ?_, ?_, ?_, ?_, trivial⟩
          · intro L a w c
            refine .inl ⟨Rel.wanted_free (by kernel_rfl) _, ?_⟩
            exact Rel.wp_mv _ rfl ⟨_, rfl, Rel.gr_refl _, (c.old 4 (v := .slice a5 n5 c5) (by kernel_rfl) (by kernel_rfl)), c.inv⟩
          · intro L a w c
            refine .inl ⟨Rel.wanted_free (by kernel_rfl) _, ?_⟩
            exact Chn.wp_fa _ _ _ rfl (c.old 1 (v := .pointer (some ⟨W.heap.size, 0, none⟩)) (by kernel_rfl) (by kernel_rfl)) (by simp [go_sem]) ⟨_, rfl, Rel.gr_refl _, rfl, c.inv⟩
          · intro L a w c
            refine .inl ⟨Rel.wanted_free (by kernel_rfl) _, ?_⟩
            exact Rel.wp_ld _ _ rfl (c.get 1 77 (by kernel_rfl)) (run_ldg (cell_keep c.inv HC6.out)) ⟨_, rfl, Rel.gr_refl _, rfl, c.inv⟩
          · intro L a w c
            refine .inl ⟨Rel.wanted_free (by kernel_rfl) _, ?_⟩
            exact Rel.wp_mv _ rfl ⟨_, rfl, Rel.gr_refl _, (c.old 6 (v := .int .i64 (k : Nat)) (by kernel_rfl) (by kernel_rfl)), c.inv⟩
          · intro L a w c
            refine .inl ⟨Rel.wanted_free (by kernel_rfl) _, ?_⟩
            exact Rel.wp_ia _ _ _ rfl (c.get 2 78 (by kernel_rfl)) (c.get 3 79 (by kernel_rfl)) (run_iag hlt w) ⟨_, rfl, Rel.gr_refl _, rfl, c.inv⟩
          · intro L a w c
            refine .inl ⟨Rel.wanted_free (by kernel_rfl) _, ?_⟩
            exact Chn.wp_fa _ _ _ rfl (c.get 4 80 (by kernel_rfl)) (by simp [go_sem]) ⟨_, rfl, Rel.gr_refl _, rfl, c.inv⟩
          · intro L a w c
            refine .inl ⟨Rel.wanted_free (by kernel_rfl) _, ?_⟩
            exact Rel.wp_ld _ _ rfl (c.get 5 81 (by kernel_rfl)) (run_ld2 (cell_keep c.inv HG.out.1)) ⟨_, rfl, Rel.gr_refl _, rfl, c.inv⟩
          · intro L a w c
            refine .inl ⟨Rel.wanted_free (by kernel_rfl) _, ?_⟩
            refine Rel.wp_cl _ _ _ rfl Try.func15 (by kernel_rfl) ?_
            show Calls _ _ #[Rel.slot a 76, Rel.slot a 82] w _
            rw [show Rel.slot a 76 = .slice a5 n5 c5 from (c.get 0 76 (by kernel_rfl)), show Rel.slot a 82 = .int .i64 ac from (c.get 6 82 (by kernel_rfl))]
            refine (rint_any a5 n5 c5 ac L5 w HL5.out.1 HL5.out.2.2.2.1 (row_keep encB_len HL5.out.2.2.2.2.1 c.inv) (by have := HBd.out; omega)).mono ?_
            rintro e w' ⟨v, rfl, h1, h2⟩
            exact ⟨v, rfl, v, rfl, h2, nb_own (B := W.heap.size) h1 (Nat.le_trans HBw.out.size c.inv.size), below_keep c.inv h2⟩
          · intro L a w c
            refine .inl ⟨Rel.wanted_free (by kernel_rfl) _, ?_⟩
            exact Chn.wp_fa _ _ _ rfl (c.old 1 (v := .pointer (some ⟨W.heap.size, 0, none⟩)) (by kernel_rfl) (by kernel_rfl)) (by simp [go_sem]) ⟨_, rfl, Rel.gr_refl _, rfl, c.inv⟩
          · intro L a w c
            refine .inl ⟨Rel.wanted_free (by kernel_rfl) _, ?_⟩
            exact Rel.wp_ld _ _ rfl (c.get 8 84 (by kernel_rfl)) (run_ldg (cell_keep c.inv HC6.out)) ⟨_, rfl, Rel.gr_refl _, rfl, c.inv⟩
          · intro L a w c
            refine .inl ⟨Rel.wanted_free (by kernel_rfl) _, ?_⟩
            exact Rel.wp_mv _ rfl ⟨_, rfl, Rel.gr_refl _, (c.old 6 (v := .int .i64 (k : Nat)) (by kernel_rfl) (by kernel_rfl)), c.inv⟩
          · intro L a w c
            refine .inl ⟨Rel.wanted_free (by kernel_rfl) _, ?_⟩
            exact Rel.wp_ia _ _ _ rfl (c.get 9 85 (by kernel_rfl)) (c.get 10 86 (by kernel_rfl)) (run_iag hlt w) ⟨_, rfl, Rel.gr_refl _, rfl, c.inv⟩
          · intro L a w c
            refine .inl ⟨Rel.wanted_free (by kernel_rfl) _, ?_⟩
            exact Chn.wp_fa _ _ _ rfl (c.get 11 87 (by kernel_rfl)) (by simp [go_sem]) ⟨_, rfl, Rel.gr_refl _, rfl, c.inv⟩
          · intro L a w c
            refine .inl ⟨Rel.wanted_free (by kernel_rfl) _, ?_⟩
            exact Rel.wp_ld _ _ rfl (c.get 12 88 (by kernel_rfl)) (run_ld2 (cell_keep c.inv HG.out.2)) ⟨_, rfl, Rel.gr_refl _, rfl, c.inv⟩
          · intro L a w c
            refine .inl ⟨Rel.wanted_free (by kernel_rfl) _, ?_⟩
            obtain ⟨a', n', c', e', hp⟩ := c.get 7 83 (by kernel_rfl)
            refine Rel.wp_cl _ _ _ rfl Try.func15 (by kernel_rfl) ?_
            show Calls _ _ #[Rel.slot a 83, Rel.slot a 89] w _
            rw [show Rel.slot a 83 = _ from e', show Rel.slot a 89 = .int .i64 am from (c.get 13 89 (by kernel_rfl))]
            refine (rint_any a' n' c' am (L5 ++ int8 ac) w hp.1 hp.2.2.2.1 hp.2.2.2.2.1 (by have h1 := hp.1; have h2 := HL5.out.1; have := HBd.out; rw [List.length_append, int8_len, h2] at h1; omega)).mono ?_
            rintro e w' ⟨v, rfl, h1, h2⟩
            exact ⟨v, rfl, v, rfl, h2, nb_own (B := W.heap.size) h1 (Nat.le_trans HBw.out.size c.inv.size), below_keep c.inv h2⟩
        intro a w9 hbase hroom hdef hJ hV
        have k90 : (kN W.heap.size (L5 ++ int8 ac ++ int8 am) : Rel.Kd (Rel.Gr)).p w9 (Rel.slot a 90) := hV 14 _ _ rfl rfl
        rw [Chn.act_puts [76, 77, 78, 79, 80, 81, 82, 83, 84, 85, 86, 87, 88, 89, 90] hbase hroom hdef (by kernel_rfl)]
        clear hbase hroom hdef hV
        simp only [List.foldl_cons, List.foldl_nil]
        generalize Rel.slot a 76 = u76 at *
        generalize Rel.slot a 77 = u77 at *
        generalize Rel.slot a 78 = u78 at *
        generalize Rel.slot a 79 = u79 at *
        generalize Rel.slot a 80 = u80 at *
        generalize Rel.slot a 81 = u81 at *
        generalize Rel.slot a 82 = u82 at *
        generalize Rel.slot a 83 = u83 at *
        generalize Rel.slot a 84 = u84 at *
        generalize Rel.slot a 85 = u85 at *
        generalize Rel.slot a 86 = u86 at *
        generalize Rel.slot a 87 = u87 at *
        generalize Rel.slot a 88 = u88 at *
        generalize Rel.slot a 89 = u89 at *
        generalize Rel.slot a 90 = u90 at *
        simp only [Act.put, List.setIfInBounds_toArray, List.set_cons_succ, List.set_cons_zero]
        obtain ⟨a9, n9, c9, rfl, hl9⟩ := k90
        dsimp only [List.getLast]
        refine Rel.wp_as _ rfl ?_
        have HL9 := Lib.hid (And.intro hl9 (below_keep HBr.out hJ))
        clear hl9 hJ
        go_wp2_with fail
        go_roundw
        case rel => exact ⟨k + 1, a9, n9, c9, by omega, by go_num, rfl, by rw [HT.out, ← List.append_assoc, ← List.append_assoc, ← HEq.out]; exact HL9.out.1, HL9.out.2⟩
        case measure => simp [intOf]; omega
      · obtain rfl : k = n2 := by omega
        have HTk := Lib.hid (show lg.take k = lg from List.take_of_length_le (by rw [HI.out.2.2.2]; exact Nat.le_refl _))
        have HFin := Lib.hid (show encT ⟨sq, tm, kd, ky, nm, ag, lg⟩ = L5 by
          rw [HEq.out, HTk.out, HH7.out.1, HH.out.1]
          unfold encT head5 head3
          simp only
          rw [HI.out.2.2.1, HI.out.2.2.2])
        clear hb
        go_wp2_with fail
        go_ret2
        exact ⟨a5, n5, c5, rfl, by rw [HFin.out]; exact HL5.out, HBw.out⟩
  · have HE := Lib.hid (enc_no (t := ⟨sq, tm, kd, ky, nm, ag, lg⟩) (fun h => hfit ⟨h.1, h.2.1, by rw [← HI.out.2.2.1]; exact h.2.2.1, by rw [← HI.out.2.2.2]; exact h.2.2.2⟩))
    rw [HE.out.1, HE.out.2]
    have hor : (16 : Int) < (ky.size : Int) ∨ (¬ (16 : Int) < (ky.size : Int) ∧ (16 : Int) < (nm.size : Int)) ∨ (¬ (16 : Int) < (ky.size : Int) ∧ ¬ (16 : Int) < (nm.size : Int) ∧ (8 : Int) < (n1 : Int)) ∨ (¬ (16 : Int) < (ky.size : Int) ∧ ¬ (16 : Int) < (nm.size : Int) ∧ ¬ (8 : Int) < (n1 : Int) ∧ (64 : Int) < (n2 : Int)) := by omega
    clear hfit
    rcases hor with t1 | ⟨t1, t2⟩ | ⟨t1, t2, t3⟩ | ⟨t1, t2, t3, t4⟩
    all_goals
      go_enter Try.func8, Try.ntmps8
      go_wp2_with fail
      go_ret2
      exact ⟨none, 0, 0, rfl, nb_none _ _, HBx.out.2⟩
end Go.Proofs.Ytcoiebeehgeggaa.Ent
