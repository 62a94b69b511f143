/- OctetBack answers true for any numbers, any texts and any cut, each read afterwards as it was: what was put comes back; cut off anywhere it does not. No condition. -/
import Derived.Test.YtijenfmkgedkfaaRows
import Derived.WalkKit
import Derived.ProofKit
import Derived.OpenShut
import Derived.ShutString
import Derived.ChangeOld
import Derived.Below
import Derived.Test.YtijenfmkgedkfaaOpens
import Derived.Test.YtijenfmkgedkfaaOctBack
import Derived.Deep.CutBlock
import Derived.Deep.DeepCutAuto
namespace Go.Proofs.Ytijenfmkgedkfaa.octetBack
open Go.ChangeShapes Go.WideShapes Go.ChangeAt Go.RowKit
open Go.ChangeMaps (open_string shut_string)
set_option linter.unusedVariables false

theorem own : ownKnob Try.prog.godebug = none := by kernel_rfl
theorem laidOut : laidOutB Try.prog = true := by kernel_rfl

open Oct
open Kit
open Go.Sort
set_option maxRecDepth 100000
set_option maxHeartbeats 8000000 in
theorem walk (W : World) (a0 : Option Addr) (len0 cap0 : Nat) (x0 : List Int) (w0 : Opn.RSlice (Opn.RInt .i64) 1 W [.slice a0 len0 cap0] x0) (a1 : Option Addr) (len1 cap1 : Nat) (x1 : List ByteArray) (w1 : Opn.RSlice Opn.RStr 1 W [.slice a1 len1 cap1] x1) (a2 : Int) (w2 : (Lit.int .u16 a2).wf = true) :
    Calls Try.prog 5 #[.slice a0 len0 cap0, .slice a1 len1 cap1, .int .u16 a2] W fun e w' => e = .returned (.bool true) ∧ Below W.heap.size W w' := by
  obtain ⟨hl0, hc0, hm0, hn0, hE0, hA0⟩ := ints_arg w0
  obtain ⟨hl1, hc1, hm1, hn1, hE1, hA1⟩ := strs_arg w1
  obtain ⟨cut, rfl, hcu⟩ : ∃ t : Nat, a2 = (t : Int) ∧ t < 65536 := by
    simp [Lit.wf, IntKind.min, IntKind.max, IntKind.signed, IntKind.bits] at w2
    exact ⟨a2.toNat, by omega, by omega⟩
  clear w0 w1 w2
  unfold maxLen at hm0 hm1
  go_enter Try.func5, Try.ntmps5
  have HE0 := Lib.hid hE0
  have HE1 := Lib.hid hE1
  have HL0 := Lib.hid hl0
  have HL1 := Lib.hid hl1
  clear hE0 hE1 hl0 hl1 hn0 hn1
  go_upto_block 0 with fail
  go_cut [7, 8] (fun v i wx => ∃ (k : Nat) (ab : Option Addr) (nb cb : Nat), k ≤ len0 ∧ k ≤ len1 ∧ k ≤ 20 ∧ i = .int .i64 k ∧ v = .slice ab nb cb ∧ (encPs ((x0.zip x1).take k)).length = nb ∧ nb ≤ 310 * k ∧ nb ≤ cb ∧ (ab = none → nb = 0 ∧ cb = 0) ∧ RowB wx ab (encPs ((x0.zip x1).take k)) ∧ (∀ y ∈ (x0.zip x1).take k, Pr.ok y) ∧ Below W.heap.size W wx)
  case first =>
    go_wp2_with fail
    go_loopw [7, 8] (fun v i wr => ∃ (k : Nat) (ab : Option Addr) (nb cb : Nat), k ≤ len0 ∧ k ≤ len1 ∧ k ≤ 20 ∧ i = .int .i64 k ∧ v = .slice ab nb cb ∧ (encPs ((x0.zip x1).take k)).length = nb ∧ nb ≤ 310 * k ∧ nb ≤ cb ∧ (ab = none → nb = 0 ∧ cb = 0) ∧ RowB wr ab (encPs ((x0.zip x1).take k)) ∧ (∀ y ∈ (x0.zip x1).take k, Pr.ok y) ∧ Below W.heap.size W wr) (fun _ i _ => 20 - (intOf i).toNat)
    case atStart => exact ⟨0, some ⟨W.heap.size, 0, none⟩, 0, 0, by omega, by omega, by omega, rfl, rfl, rfl, by omega, by omega, (fun h => by cases h), .inl rfl, (fun y hy => by simp at hy), below_alloc W _⟩
    case round =>
      obtain ⟨k, ab, nb, cb, hk0, hk1, hk20, rfl, rfl, hlen, hnb, hnc, hnil, hR, hok, hb⟩ := hrel
      by_cases hgo : k < len0 ∧ k < len1 ∧ k < 20
      · obtain ⟨g0, g1, g2⟩ := hgo
        have hx0 : k < x0.length := by rw [HL0.out]; exact g0
        have hx1 : k < x1.length := by rw [HL1.out]; exact g1
        obtain ⟨b0, o0, HA0⟩ := row_some HE0.out (by omega)
        obtain ⟨b1, o1, HA1⟩ := row_some HE1.out (by omega)
        have ha0 := HA0.out
        have ha1 := HA1.out
        subst ha0 ha1
        have D0 := row_cell HE0.out hx0 rfl (i := 0) (by omega)
        have D1 := row_cell HE1.out hx1 rfl (i := 0) (by omega)
        have hn := hA0 _ (List.getElem_mem hx0)
        have hs := hA1 _ (List.getElem_mem hx1)
        have hz : (x0.zip x1).take (k + 1) = (x0.zip x1).take k ++ [(x0[k], x1[k])] := by
          rw [List.take_succ_eq_append_getElem (by rw [List.length_zip]; omega), List.getElem_zip]
        generalize x0[k] = nn at *
        generalize x1[k] = ss at *
        simp only [encI, encS, Nat.mul_one, Nat.add_zero, List.getElem?_cons_zero] at D0 D1
        have d0 := cell_keep hb D0
        have d1 := cell_keep hb D1
        have HZ := Lib.hid hz
        have HR := Lib.hid hR
        have HK := Lib.hid hok
        have HB := Lib.hid hb
        have HLN := Lib.hid hlen
        have HNIL := Lib.hid hnil
        unfold maxLen at hs
        clear hz hR hok hb hlen hnil D0 D1 hx0 hx1
        have HD := Lib.hid (And.intro d0 d1)
        by_cases h300 : 300 < ss.size
        · go_wp2_with fail
          go_meet
          case rel => exact ⟨k, ab, nb, cb, hk0, hk1, hk20, rfl, rfl, HLN.out, hnb, hnc, HNIL.out, HR.out, HK.out, HB.out⟩
        · go_upto_region 5 with fail
          go_cut [9, 10] (fun u v wx => ∃ (g c : Nat), u = .slice (some ⟨g, 0, none⟩) (nb + 10 + ss.size) c ∧ v = .int .i64 0 ∧ nb + 10 + ss.size ≤ c ∧ RowB wx (some ⟨g, 0, none⟩) (encPs ((x0.zip x1).take (k + 1))) ∧ (encPs ((x0.zip x1).take (k + 1))).length = nb + 10 + ss.size ∧ Below wr.heap.size wr wx)
          case first =>
            have hl8 := beB_length 8 (toU64 nn)
            have hl2 := beB_length 2 ss.size
            have hsd := size_data ss
            have hlo := HLN.out
            have HE8 := Lib.hid (show (encPs ((x0.zip x1).take k) ++ beB 8 (toU64 nn)).length = nb + 8 by simp only [List.length_append]; omega)
            have HE9 := Lib.hid (show (encPs ((x0.zip x1).take k) ++ beB 8 (toU64 nn)) ++ beB 2 ss.size ++ ss.data.toList = encPs ((x0.zip x1).take (k + 1)) by rw [HZ.out, encPs_snoc]; simp [encP])
            have HE10 := Lib.hid (show (encPs ((x0.zip x1).take (k + 1))).length = nb + 10 + ss.size by rw [HZ.out, encPs_snoc, List.length_append, encP_length]; simp only; omega)
            clear hl8 hl2 hsd hlo d0 d1
            refine Rel.wp_region_rel (G := Rel.Gr) (Rel.tab [.is (.slice ab nb cb), .is (.slice (some ⟨b0, o0, none⟩) len0 cap0), .is (.int .i64 k), .is (.pointer (some ⟨b0, o0 + k, none⟩)), .is (.int .i64 nn), kOwn (encPs ((x0.zip x1).take k) ++ beB 8 (toU64 nn)) (nb + 8), .is (.slice (some ⟨b1, o1, none⟩) len1 cap1), .is (.int .i64 k), .is (.pointer (some ⟨b1, o1 + k, none⟩)), .is (.string ss), kTxt (encPs ((x0.zip x1).take (k + 1))) (nb + 10 + ss.size), kTxt (encPs ((x0.zip x1).take (k + 1))) (nb + 10 + ss.size), kOwn (encPs ((x0.zip x1).take (k + 1))) (nb + 10 + ss.size), .is (.int .i64 0), kOwn (encPs ((x0.zip x1).take (k + 1))) (nb + 10 + ss.size), .is (.int .i64 0)]) (fun _ w => Below wr.heap.size wr w) (by kernel_rfl) (by kernel_rfl) (by kernel_rfl) (by kernel_rfl) (fun w => Rel.gr_refl _) (below_drew _) ?_ ?_
            · refine ⟨?_, ?_, ?_, ?_, ?_, ?_, ?_, ?_, ?_, ?_, ?_, ?_, ?_, ?_, ?_, ?_, trivial⟩
              · intro L a w c
                refine .inl ⟨Rel.wanted_free (by kernel_rfl) _, ?_⟩
                exact Rel.wp_mv _ rfl ⟨_, rfl, Rel.gr_refl _, (c.old 7 (v := .slice ab nb cb) (by kernel_rfl) (by kernel_rfl)), c.inv⟩
              · intro L a w c
                refine .inl ⟨Rel.wanted_free (by kernel_rfl) _, ?_⟩
                exact Rel.wp_mv _ rfl ⟨_, rfl, Rel.gr_refl _, (c.old 0 (v := .slice (some ⟨b0, o0, none⟩) len0 cap0) (by kernel_rfl) (by kernel_rfl)), c.inv⟩
              · intro L a w c
                refine .inl ⟨Rel.wanted_free (by kernel_rfl) _, ?_⟩
                exact Rel.wp_mv _ rfl ⟨_, rfl, Rel.gr_refl _, (c.old 8 (v := .int .i64 k) (by kernel_rfl) (by kernel_rfl)), c.inv⟩
              · intro L a w c
                refine .inl ⟨Rel.wanted_free (by kernel_rfl) _, ?_⟩
                exact Rel.wp_ia _ _ _ rfl (c.get 1 38 (by kernel_rfl)) (c.get 2 39 (by kernel_rfl)) (run_at_ints b0 o0 len0 cap0 k g0 w) ⟨_, rfl, Rel.gr_refl _, rfl, c.inv⟩
              · intro L a w c
                refine .inl ⟨Rel.wanted_free (by kernel_rfl) _, ?_⟩
                exact Rel.wp_ld _ _ rfl (c.get 3 40 (by kernel_rfl)) (run_ld_int (cell_keep c.inv HD.out.1)) ⟨_, rfl, Rel.gr_refl _, rfl, c.inv⟩
              · intro L a w c
                refine .inl ⟨Rel.wanted_free (by kernel_rfl) _, ?_⟩
                refine Rel.wp_cl _ _ _ rfl Try.func10 (by kernel_rfl) ?_
                show Calls _ _ #[Rel.slot a 37, Rel.slot a 41] w _
                rw [show Rel.slot a 37 = .slice ab nb cb from (c.get 0 37 (by kernel_rfl)), show Rel.slot a 41 = .int .i64 nn from (c.get 4 41 (by kernel_rfl))]
                refine (int_is ab nb cb (nb + 8) nn _ (encPs ((x0.zip x1).take k) ++ beB 8 (toU64 nn)) w HLN.out HNIL.out (row_keep encB_len HR.out c.inv) (by omega) rfl (by have := beB_length 8 (toU64 nn); have := HLN.out; simp only [List.length_append]; omega)).mono ?_
                rintro e w' ⟨g', c', rfl, h1, h2, h3, h4⟩
                exact ⟨_, rfl, _, rfl, h4, ⟨g', c', rfl, h1, h3⟩, below_keep c.inv h4⟩
              · intro L a w c
                refine .inl ⟨Rel.wanted_free (by kernel_rfl) _, ?_⟩
                exact Rel.wp_mv _ rfl ⟨_, rfl, Rel.gr_refl _, (c.old 1 (v := .slice (some ⟨b1, o1, none⟩) len1 cap1) (by kernel_rfl) (by kernel_rfl)), c.inv⟩
              · intro L a w c
                refine .inl ⟨Rel.wanted_free (by kernel_rfl) _, ?_⟩
                exact Rel.wp_mv _ rfl ⟨_, rfl, Rel.gr_refl _, (c.old 8 (v := .int .i64 k) (by kernel_rfl) (by kernel_rfl)), c.inv⟩
              · intro L a w c
                refine .inl ⟨Rel.wanted_free (by kernel_rfl) _, ?_⟩
                exact Rel.wp_ia _ _ _ rfl (c.get 6 43 (by kernel_rfl)) (c.get 7 44 (by kernel_rfl)) (run_at_strs b1 o1 len1 cap1 k g1 w) ⟨_, rfl, Rel.gr_refl _, rfl, c.inv⟩
              · intro L a w c
                refine .inl ⟨Rel.wanted_free (by kernel_rfl) _, ?_⟩
                exact Rel.wp_ld _ _ rfl (c.get 8 45 (by kernel_rfl)) (run_ld_str (cell_keep c.inv HD.out.2)) ⟨_, rfl, Rel.gr_refl _, rfl, c.inv⟩
              · intro L a w c
                refine .inl ⟨Rel.wanted_free (by kernel_rfl) _, ?_⟩
                obtain ⟨g', c', e', hc', hr'⟩ := c.get 5 42 (by kernel_rfl)
                refine Rel.wp_cl _ _ _ rfl Try.func8 (by kernel_rfl) ?_
                show Calls _ _ #[Rel.slot a 42, Rel.slot a 46] w _
                rw [show Rel.slot a 42 = _ from e', show Rel.slot a 46 = .string ss from (c.get 9 46 (by kernel_rfl))]
                refine (text_is (some ⟨g', 0, none⟩) (nb + 8) c' (nb + 10 + ss.size) ss (encPs ((x0.zip x1).take k) ++ beB 8 (toU64 nn)) (encPs ((x0.zip x1).take (k + 1))) w HE8.out (fun h => by cases h) hr' (by omega) (by omega) HE9.out HE10.out).mono ?_
                rintro e w' ⟨g'', c'', rfl, h1, h2, h3, h4⟩
                exact ⟨_, rfl, _, rfl, h4, ⟨g'', c'', rfl, h1, h3⟩, below_keep c.inv h4⟩
              · intro L a w c
                refine .inl ⟨Rel.wanted_free (by kernel_rfl) _, ?_⟩
                exact Rel.wp_mv _ rfl ⟨_, rfl, Rel.gr_refl _, (c.get 10 47 (by kernel_rfl)), c.inv⟩
              · intro L a w c
                refine .inl ⟨Rel.wanted_free (by kernel_rfl) _, ?_⟩
                obtain ⟨g', c', e', hc', hr'⟩ := c.get 11 36 (by kernel_rfl)
                exact Rel.wp_ex _ _ rfl e' (run_ex0 _ _ w) ⟨_, rfl, Rel.gr_refl _, ⟨g', c', rfl, hc', hr'⟩, c.inv⟩
              · intro L a w c
                refine .inl ⟨Rel.wanted_free (by kernel_rfl) _, ?_⟩
                obtain ⟨g', c', e', hc', hr'⟩ := c.get 11 36 (by kernel_rfl)
                exact Rel.wp_ex _ _ rfl e' (run_ex1 _ _ w) ⟨_, rfl, Rel.gr_refl _, rfl, c.inv⟩
              · intro L a w c
                refine .inl ⟨Rel.wanted_free (by kernel_rfl) _, ?_⟩
                exact Rel.wp_as _ rfl ⟨_, rfl, Rel.gr_refl _, (c.get 12 48 (by kernel_rfl)), c.inv⟩
              · intro L a w c
                refine .inl ⟨Rel.wanted_free (by kernel_rfl) _, ?_⟩
                exact Rel.wp_as _ rfl ⟨_, rfl, Rel.gr_refl _, (c.get 13 49 (by kernel_rfl)), c.inv⟩
            · intro a w hbase hroom hdef hJ hV
              obtain ⟨g, c, e9, hc9, hr9⟩ := hV 14 _ _ rfl rfl
              have e10 := hV 15 _ _ rfl rfl
              go_wp2_with fail
              refine Met.intro ?_
              go_step
              exact ⟨Rel.slot a 9, Rel.slot a 10, Rel.slot a 16, Rel.slot a 17, Rel.slot a 18, Rel.slot a 19, Rel.slot a 20, Rel.slot a 21, Rel.slot a 22, Rel.slot a 23, Rel.slot a 24, Rel.slot a 25, Rel.slot a 26, Rel.slot a 27, Rel.slot a 28, Rel.slot a 29, Rel.slot a 30, Rel.slot a 31, Rel.slot a 32, Rel.slot a 33, Rel.slot a 34, Rel.slot a 35, Rel.slot a 36, Rel.slot a 37, Rel.slot a 38, Rel.slot a 39, Rel.slot a 40, Rel.slot a 41, Rel.slot a 42, Rel.slot a 43, Rel.slot a 44, Rel.slot a 45, Rel.slot a 46, Rel.slot a 47, Rel.slot a 48, Rel.slot a 49, Rel.slot a 50, Rel.slot a 51, Rel.slot a 52, Rel.slot a 53, Rel.slot a 54, ⟨g, c, e9, e10, hc9, hr9, HE10.out, hJ⟩, (Rel.act_mix [9, 10, 16, 17, 18, 19, 20, 21, 22, 23, 24, 25, 26, 27, 28, 29, 30, 31, 32, 33, 34, 35, 36, 37, 38, 39, 40, 41, 42, 43, 44, 45, 46, 47, 48, 49, 50, 51, 52, 53, 54] hbase hroom hdef (by kernel_rfl)).trans (by kernel_rfl)⟩
          case rest =>
            obtain ⟨g, c, rfl, rfl, hc9, hr9, hl9, hb9⟩ := hcut
            have HS := Lib.hid (And.intro hr9 (And.intro hl9 (below_keep HB.out hb9)))
            have HOK := Lib.hid (show ∀ y ∈ (x0.zip x1).take (k + 1), Pr.ok y by
              rw [HZ.out]
              intro y hy
              rcases List.mem_append.1 hy with h | h
              · exact HK.out y h
              · simp at h
                subst h
                exact ⟨hn.1, hn.2, by show ss.size ≤ 300; omega⟩)
            clear hr9 hl9 hb9 d0 d1
            go_wp2
            go_roundw
            case rel => exact ⟨k + 1, some ⟨g, 0, none⟩, nb + 10 + ss.size, c, by omega, by omega, by omega, by go_num, rfl, HS.out.2.1, by omega, hc9, (fun h => by cases h), HS.out.1, HOK.out, HS.out.2.2⟩
            case measure => simp [intOf]; omega
      · have hor : ¬ k < len0 ∨ (k < len0 ∧ ¬ k < len1) ∨ (k < len0 ∧ k < len1 ∧ ¬ k < 20) := by omega
        have HRR := Lib.hid (And.intro hlen (And.intro hnb (And.intro hnc (And.intro hnil (And.intro hR (And.intro hok hb))))))
        clear hlen hnil hR hok hb
        rcases hor with h | ⟨h, h'⟩ | ⟨h, h', h''⟩
        · go_wp2_with fail
          go_meet
          case rel => exact ⟨k, ab, nb, cb, hk0, hk1, hk20, rfl, rfl, HRR.out⟩
        · go_wp2_with fail
          go_meet
          case rel => exact ⟨k, ab, nb, cb, hk0, hk1, hk20, rfl, rfl, HRR.out⟩
        · go_wp2_with fail
          go_meet
          case rel => exact ⟨k, ab, nb, cb, hk0, hk1, hk20, rfl, rfl, HRR.out⟩
  case rest =>
    obtain ⟨k, ab, nb, cb, hk0, hk1, hk20, rfl, rfl, hlen, hnb, hnc, hnil, hR, hok, hb⟩ := hcut
    have HLN := Lib.hid hlen
    have HNIL := Lib.hid hnil
    have HR := Lib.hid hR
    have HOK := Lib.hid hok
    have HB := Lib.hid hb
    clear hlen hnil hR hok hb
    go_wp2_with fail
    refine (new_any ab nb cb (encPs ((x0.zip x1).take k)) wc HLN.out HNIL.out HR.out (by omega)).mono ?_
    rintro e w1 ⟨p, rfl, hRd, hb1⟩
    have HRd := Lib.hid hRd
    have HB1 := Lib.hid hb1
    clear hRd hb1
    go_wp2
    go_loopw [12] (fun v wr => ∃ (i : Nat), i ≤ k ∧ v = .int .i64 i ∧ Rdr wc.heap.size wr p (some (encPs (((x0.zip x1).take k).drop i))) ∧ Below wc.heap.size wc wr) (fun v _ => k - (intOf v).toNat)
    case atStart => exact ⟨0, by omega, rfl, HRd.out, HB1.out⟩
    case round =>
      obtain ⟨i, hi, rfl, hRr, hbr⟩ := hrel
      have HRr := Lib.hid hRr
      have HBr := Lib.hid hbr
      clear hRr hbr HRd HB1
      by_cases hlt : i < k
      · have g0 : i < len0 := by omega
        have g1 : i < len1 := by omega
        have hx0 : i < x0.length := by rw [HL0.out]; exact g0
        have hx1 : i < x1.length := by rw [HL1.out]; exact g1
        obtain ⟨b0, o0, HA0⟩ := row_some HE0.out (by omega)
        obtain ⟨b1, o1, HA1⟩ := row_some HE1.out (by omega)
        have ha0 := HA0.out
        have ha1 := HA1.out
        subst ha0 ha1
        have D0 := row_cell HE0.out hx0 rfl (i := 0) (by omega)
        have D1 := row_cell HE1.out hx1 rfl (i := 0) (by omega)
        have hz : ((x0.zip x1).take k)[i]? = some (x0[i], x1[i]) := by
          rw [List.getElem?_take, if_pos hlt, List.getElem?_eq_getElem (by rw [List.length_zip]; omega), List.getElem_zip]
        have hok := HOK.out _ (List.mem_of_getElem? hz)
        generalize x0[i] = nn at *
        generalize x1[i] = ss at *
        simp only [encI, encS, Nat.mul_one, Nat.add_zero, List.getElem?_cons_zero] at D0 D1
        have hd := drop_cons _ i _ hz
        have HI := Lib.hid (show rInt (some (encPs (((x0.zip x1).take k).drop i))) = (nn, some (beB 2 ss.size ++ ss.data.toList ++ encPs (((x0.zip x1).take k).drop (i + 1)))) by rw [hd]; exact rInt_enc (nn, ss) hok _)
        have HT := Lib.hid (rText_enc ss hok.2.2 (encPs (((x0.zip x1).take k).drop (i + 1))))
        have HC := Lib.hid (fun (w : World) (h : Below wc.heap.size wc w) => And.intro (cell_keep (HB.out.trans (h.mono HB.out.size)) D0) (cell_keep (HB.out.trans (h.mono HB.out.size)) D1))
        clear hz hok hd D0 D1 hx0 hx1
        go_upto_region 14 with fail
        go_cut [77] (fun v wx => v = .bool false ∧ Rdr wc.heap.size wx p (some (encPs (((x0.zip x1).take k).drop (i + 1)))) ∧ Below wc.heap.size wc wx)
        case first =>
          refine Rel.wp_region_rel (G := Gt) (Rel.tab [.is (.pointer (some ⟨p, 0, none⟩)), .is (.int .i64 nn), .is (.slice (some ⟨b0, o0, none⟩) len0 cap0), .is (.int .i64 i), .is (.pointer (some ⟨b0, o0 + i, none⟩)), .is (.int .i64 nn), .is (.bool false), .is (.bool false), .is (.pointer (some ⟨p, 0, none⟩)), .is (.string ss), .is (.slice (some ⟨b1, o1, none⟩) len1 cap1), .is (.int .i64 i), .is (.pointer (some ⟨b1, o1 + i, none⟩)), .is (.string ss), .is (.bool false), .is (.bool false)]) (JB wc.heap.size wc p (some (encPs (((x0.zip x1).take k).drop i))) (some (beB 2 ss.size ++ ss.data.toList ++ encPs (((x0.zip x1).take k).drop (i + 1)))) (some (encPs (((x0.zip x1).take k).drop (i + 1)))) 1 9) (by kernel_rfl) (by kernel_rfl) (by kernel_rfl) (by kernel_rfl) (fun w => trivial) (jb_start HBr.out HRr.out (Nat.le_refl _)) ?_ ?_
          · refine ⟨?_, ?_, ?_, ?_, ?_, ?_, ?_, ?_, ?_, ?_, ?_, ?_, ?_, ?_, ?_, ?_, trivial⟩
            · intro L a w c
              refine .inl ⟨Rel.wanted_free (by kernel_rfl) _, ?_⟩
              exact Rel.wp_mv _ rfl ⟨_, rfl, trivial, (c.old 11 (v := .pointer (some ⟨p, 0, none⟩)) (by kernel_rfl) (by kernel_rfl)), (jset c.inv (by decide))⟩
            · intro L a w c
              refine .inl ⟨Rel.wanted_free (by kernel_rfl) _, ?_⟩
              refine Rel.wp_cl _ _ _ rfl Try.func17 (by kernel_rfl) ?_
              show Calls _ _ #[Rel.slot a 62] w _
              rw [show Rel.slot a 62 = .pointer (some ⟨p, 0, none⟩) from (c.get 0 62 (by kernel_rfl))]
              refine (int_rdr_is (jb_first c.inv c.free) HI.out).mono ?_
              rintro e w' ⟨rfl, hR, hg⟩
              exact ⟨_, rfl, _, rfl, trivial, rfl, jb_first' c.inv c.free (by decide) hR hg (Nat.le_refl _)⟩
            · intro L a w c
              refine .inl ⟨Rel.wanted_free (by kernel_rfl) _, ?_⟩
              exact Rel.wp_mv _ rfl ⟨_, rfl, trivial, (c.old 0 (v := .slice (some ⟨b0, o0, none⟩) len0 cap0) (by kernel_rfl) (by kernel_rfl)), (jset c.inv (by decide))⟩
            · intro L a w c
              refine .inl ⟨Rel.wanted_free (by kernel_rfl) _, ?_⟩
              exact Rel.wp_mv _ rfl ⟨_, rfl, trivial, (c.old 12 (v := .int .i64 i) (by kernel_rfl) (by kernel_rfl)), (jset c.inv (by decide))⟩
            · intro L a w c
              refine .inl ⟨Rel.wanted_free (by kernel_rfl) _, ?_⟩
              exact Rel.wp_ia _ _ _ rfl (c.get 2 64 (by kernel_rfl)) (c.get 3 65 (by kernel_rfl)) (run_at_ints b0 o0 len0 cap0 i g0 w) ⟨_, rfl, trivial, rfl, jset c.inv (by decide)⟩
            · intro L a w c
              refine .inl ⟨Rel.wanted_free (by kernel_rfl) _, ?_⟩
              exact Rel.wp_ld _ _ rfl (c.get 4 66 (by kernel_rfl)) (run_ld_int (HC.out w c.inv.1).1) ⟨_, rfl, trivial, rfl, jset c.inv (by decide)⟩
            · intro L a w c
              refine .inl ⟨Rel.wanted_free (by kernel_rfl) _, ?_⟩
              exact Rel.wp_bo _ _ _ _ _ rfl (u := .bool false) (c.get 1 63 (by kernel_rfl)) (c.get 5 67 (by kernel_rfl)) (by simp [go_sem]) ⟨_, rfl, trivial, rfl, (jset c.inv (by decide))⟩
            · intro L a w c
              refine .inl ⟨Rel.wanted_free (by kernel_rfl) _, ?_⟩
              exact Rel.wp_mv _ rfl ⟨_, rfl, trivial, (c.get 6 68 (by kernel_rfl)), (jset c.inv (by decide))⟩
            · intro L a w c
              refine .inl ⟨Rel.wanted_by (j := 7) (b := false) (d := 69) (by kernel_rfl) (c.get 7 69 (by kernel_rfl)), ?_⟩
              exact Rel.wp_mv _ rfl ⟨_, rfl, trivial, (c.old 11 (v := .pointer (some ⟨p, 0, none⟩)) (by kernel_rfl) (by kernel_rfl)), (jset c.inv (by decide))⟩
            · intro L a w c
              refine .inl ⟨Rel.wanted_by (j := 7) (b := false) (d := 69) (by kernel_rfl) (c.get 7 69 (by kernel_rfl)), ?_⟩
              refine Rel.wp_cl _ _ _ rfl Try.func15 (by kernel_rfl) ?_
              show Calls _ _ #[Rel.slot a 70, .int .i64 300] w _
              rw [show Rel.slot a 70 = .pointer (some ⟨p, 0, none⟩) from (c.get 8 70 (by kernel_rfl))]
              refine (text_rdr_is 300 (jb_next c.inv c.free (c.via 6 1 (by kernel_rfl) (c.via 7 6 (by kernel_rfl) (c.came 7 (by kernel_rfl))))) HT.out).mono ?_
              rintro e w' ⟨rfl, hR, hg⟩
              exact ⟨_, rfl, _, rfl, trivial, rfl, jb_next' c.inv c.free (c.via 6 1 (by kernel_rfl) (c.via 7 6 (by kernel_rfl) (c.came 7 (by kernel_rfl)))) (by decide) hR hg (Nat.le_refl _)⟩
            · intro L a w c
              refine .inl ⟨Rel.wanted_by (j := 7) (b := false) (d := 69) (by kernel_rfl) (c.get 7 69 (by kernel_rfl)), ?_⟩
              exact Rel.wp_mv _ rfl ⟨_, rfl, trivial, (c.old 1 (v := .slice (some ⟨b1, o1, none⟩) len1 cap1) (by kernel_rfl) (by kernel_rfl)), (jset c.inv (by decide))⟩
            · intro L a w c
              refine .inl ⟨Rel.wanted_by (j := 7) (b := false) (d := 69) (by kernel_rfl) (c.get 7 69 (by kernel_rfl)), ?_⟩
              exact Rel.wp_mv _ rfl ⟨_, rfl, trivial, (c.old 12 (v := .int .i64 i) (by kernel_rfl) (by kernel_rfl)), (jset c.inv (by decide))⟩
            · intro L a w c
              refine .inl ⟨Rel.wanted_by (j := 7) (b := false) (d := 69) (by kernel_rfl) (c.get 7 69 (by kernel_rfl)), ?_⟩
              exact Rel.wp_ia _ _ _ rfl (c.get 10 72 (by kernel_rfl)) (c.get 11 73 (by kernel_rfl)) (run_at_strs b1 o1 len1 cap1 i g1 w) ⟨_, rfl, trivial, rfl, jset c.inv (by decide)⟩
            · intro L a w c
              refine .inl ⟨Rel.wanted_by (j := 7) (b := false) (d := 69) (by kernel_rfl) (c.get 7 69 (by kernel_rfl)), ?_⟩
              exact Rel.wp_ld _ _ rfl (c.get 12 74 (by kernel_rfl)) (run_ld_str (HC.out w c.inv.1).2) ⟨_, rfl, trivial, rfl, jset c.inv (by decide)⟩
            · intro L a w c
              refine .inl ⟨Rel.wanted_by (j := 7) (b := false) (d := 69) (by kernel_rfl) (c.get 7 69 (by kernel_rfl)), ?_⟩
              exact Rel.wp_bo _ _ _ _ _ rfl (u := .bool false) (c.get 9 71 (by kernel_rfl)) (c.get 13 75 (by kernel_rfl)) (by simp [go_sem]) ⟨_, rfl, trivial, rfl, (jset c.inv (by decide))⟩
            · intro L a w c
              refine .inl ⟨Rel.wanted_free (by kernel_rfl) _, ?_⟩
              exact Rel.wp_pk _ _ _ rfl (b := false) (c.get 7 69 (by kernel_rfl)) ⟨_, rfl, trivial, (c.get 14 76 (by kernel_rfl)), (jset c.inv (by decide))⟩
          · intro a w hbase hroom hdef hJ hV
            have e77 := hV 15 _ _ rfl rfl
            have hE := jb_end hJ (by decide)
            go_wp2_with fail
            refine Met.intro ?_
            go_step
            exact ⟨Rel.slot a 57, Rel.slot a 58, Rel.slot a 59, Rel.slot a 60, Rel.slot a 61, Rel.slot a 62, Rel.slot a 63, Rel.slot a 64, Rel.slot a 65, Rel.slot a 66, Rel.slot a 67, Rel.slot a 68, Rel.slot a 69, Rel.slot a 70, Rel.slot a 71, Rel.slot a 72, Rel.slot a 73, Rel.slot a 74, Rel.slot a 75, Rel.slot a 76, Rel.slot a 77, ⟨e77, hE.2, hE.1⟩, (Rel.act_mix [57, 58, 59, 60, 61, 62, 63, 64, 65, 66, 67, 68, 69, 70, 71, 72, 73, 74, 75, 76, 77] hbase hroom hdef (by kernel_rfl)).trans (by kernel_rfl)⟩
        case rest =>
          obtain ⟨rfl, hR2, hb2⟩ := hcut
          have HR2 := Lib.hid hR2
          have HB2 := Lib.hid hb2
          clear hR2 hb2
          go_wp2
          go_roundw
          case rel => exact ⟨i + 1, by omega, by go_num, HR2.out, HB2.out⟩
          case measure => simp [intOf]; omega
      · obtain rfl : k = i := by omega
        have hdn : ((x0.zip x1).take k).drop k = [] := List.drop_eq_nil_iff.2 (by rw [List.length_take]; omega)
        have HR0 := Lib.hid (show Rdr wc.heap.size wr p (some []) by have := HRr.out; rw [hdn] at this; exact this)
        clear HRr hdn hi hlt
        have hnb0 : nb < 9223372036854775807 := by omega
        by_cases hk : k = 0
        · have hk' : ((k : Int) == 0) = true := by rw [hk]; rfl
          clear hk
          go_wp2_with fail
          refine (end_rdr_is (b := true) HR0.out (by decide)).mono ?_
          rintro e w2 ⟨rfl, rfl⟩
          go_wp2_with fail
          refine (awake_any wr).mono ?_
          rintro e w3 ⟨rfl, hb3⟩
          have HB3 := Lib.hid (below_keep (HB.out.trans (HBr.out.mono HB.out.size)) hb3)
          clear hb3
          go_wp2
          go_ret
          exact ⟨rfl, HB3.out⟩
        · have hk' : ((k : Int) == 0) = false := by
            show decide ((k : Int) = 0) = false
            rw [decide_eq_false_iff_not]; omega
          have hpos : 0 < nb := by
            have := HLN.out
            cases hq : (x0.zip x1).take k with
            | nil =>
              have h2 := congrArg List.length hq
              rw [List.length_take, List.length_zip, HL0.out, HL1.out] at h2
              simp at h2; omega
            | cons y l => rw [hq, encPs_cons, List.length_append, encP_length] at this; omega
          have hmn : cut % nb < nb := Nat.mod_lt _ hpos
          have hmi : (cut : Int) % (nb : Int) ≤ (cb : Int) := by rw [← Int.natCast_emod]; omega
          clear hk
          go_wp2_with fail
          refine (end_rdr_is (b := true) HR0.out (by decide)).mono ?_
          rintro e w2 ⟨rfl, rfl⟩
          go_wp2_with fail
          clear hmi
          obtain ⟨m, hm⟩ : ∃ m, m = cut % nb := ⟨_, rfl⟩
          rw [← hm] at hmn ⊢
          clear hm
          obtain ⟨wq, rfl⟩ : ∃ x, x = wr := ⟨_, rfl⟩
          have HBW := Lib.hid (HB.out.trans (HBr.out.mono HB.out.size))
          have hpk : ((x0.zip x1).take k).length = k := by rw [List.length_take, List.length_zip, HL0.out, HL1.out]; omega
          have HN := Lib.hid (show rPairs k (some ((encPs ((x0.zip x1).take k)).take m)) = none by
            have := rPairs_cut ((x0.zip x1).take k) HOK.out ((encPs ((x0.zip x1).take k)).take m) ((encPs ((x0.zip x1).take k)).drop m) (List.take_append_drop _ _) (by
              intro h0
              have h1 := congrArg List.length h0
              rw [List.length_drop, HLN.out] at h1
              simp at h1; omega)
            rw [hpk] at this
            exact this)
          refine (new_any ab m cb ((encPs ((x0.zip x1).take k)).take m) wq (by rw [List.length_take, HLN.out]; omega) (fun h => by have := HNIL.out h; omega) (row_take (row_keep encB_len HR.out HBr.out) m) (by omega)).mono ?_
          rintro e w3 ⟨p2, rfl, hR3, hb3⟩
          have hp2 := rdr_ge hR3
          have hsz := HBW.out.size
          have HR3 := Lib.hid hR3
          have HB3 := Lib.hid (below_keep HBW.out hb3)
          clear hR3 hb3 hpk HR0
          go_wp2
          go_loopw [14] (fun v wr => ∃ (i : Nat), i ≤ k ∧ v = .int .i64 i ∧ Rdr wq.heap.size wr p2 (rPairs i (some ((encPs ((x0.zip x1).take k)).take m))) ∧ Below W.heap.size W wr) (fun v _ => k - (intOf v).toNat)
          case atStart => exact ⟨0, by omega, rfl, HR3.out, HB3.out⟩
          case round =>
            obtain ⟨i, hi, rfl, hRi, hbi⟩ := hrel
            by_cases hlt : i < k
            · have HRi := Lib.hid hRi
              have HBi := Lib.hid hbi
              clear hRi hbi HR3 HB3
              go_wp2_with fail
              refine (int_rdr HRi.out).mono ?_
              rintro e w5 ⟨rfl, hR5, hg5⟩
              have HR5 := Lib.hid hR5
              have HB5 := Lib.hid (HBi.out.trans (grown_below hg5 HBi.out.size (by omega)))
              clear hR5 hg5
              go_wp2_with fail
              refine (text_rdr 300 HR5.out).mono ?_
              rintro e w6 ⟨rfl, hR6, hg6⟩
              have HR6 := Lib.hid (show Rdr wq.heap.size w6 p2 (rPairs (i + 1) (some ((encPs ((x0.zip x1).take k)).take m))) by rw [rPairs_snoc]; exact hR6)
              have HB6 := Lib.hid (HB5.out.trans (grown_below hg6 HB5.out.size (by omega)))
              clear hR6 hg6
              go_wp2
              go_roundw
              case rel => exact ⟨i + 1, by omega, by go_num, HR6.out, HB6.out⟩
              case measure => simp [intOf]; omega
            · obtain rfl : k = i := by omega
              rw [HN.out] at hRi
              have HRi := Lib.hid hRi
              have HBi := Lib.hid hbi
              clear hRi hbi HR3 HB3
              go_wp2_with fail
              refine (awake_any wr).mono ?_
              rintro e w4 ⟨rfl, hb4⟩
              have HR4 := Lib.hid (rdr_keep HRi.out hb4)
              have HB4 := Lib.hid (below_keep HBi.out hb4)
              clear hb4
              go_wp2_with fail
              refine (end_rdr_is (b := false) HR4.out (by decide)).mono ?_
              rintro e w5 ⟨rfl, rfl⟩
              go_wp2_with fail
              refine (int_rdr_is (n := 0) (s' := none) HR4.out rfl).mono ?_
              rintro e w6 ⟨rfl, hR6, hg6⟩
              have HB6 := Lib.hid (HB4.out.trans (grown_below hg6 HB4.out.size (by omega)))
              have HR6 := Lib.hid hR6
              clear hR6 hg6
              go_wp2_with fail
              refine (text_rdr_is (t := ⟨#[]⟩) (s' := none) 5 HR6.out rfl).mono ?_
              rintro e w7 ⟨rfl, hR7, hg7⟩
              have HB7 := Lib.hid (HB6.out.trans (grown_below hg7 HB6.out.size (by omega)))
              clear hR7 hg7
              go_wp2
              go_ret
              exact ⟨rfl, HB7.out⟩

set_option maxRecDepth 100000 in
theorem lifted (os : Os) (started : os.Started) (H : Type) (enc : TypeId × Value → H) :
    ReturnsInHanded {} Try.checked os 5 .any (Rows.octetBackSpec.pre6 enc Try.prog Try.f5 Rows.octetBackRow.domain false) (Rows.octetBackSpec.post enc Try.prog Try.f5 false true false false) := by
  refine returnsInHanded_of_change (C := Try.checked) own started (by kernel_rfl) Try.func5
    (ChangeSpec.witness6 (enc := enc) (C := Try.checked) false ⟨#[], #[.slice none 0 0, .slice none 0 0, .int .u16 0], []⟩ 8 (by kernel_rfl) (by kernel_rfl) (by kernel_rfl) (by kernel_rfl)) ?_
  intro W base args ds gs before hval0 hW hcnd _
  have hval : ∀ (j : Nat) t v, Try.f5.params[j]? = some t → args[j]? = some v → Value.okWide Try.prog W .any base t v := hval0
  have hW' := hW
  obtain ⟨p, q, hA0, hV, rfl, hfz, hnd⟩ := hW
  have hA : DataW.TrodAll enc Try.prog W 0 (fun _ => true) true Try.f5.params.toList args.toList ds p := hA0
  rw [Try.params5] at hA hval
  obtain ⟨v0, vs0, d0, ds0, p0, q0, hargs, rfl, rfl, h0, r0⟩ := trodAll_cons hA
  obtain ⟨v1, vs1, d1, ds1, p1, q1, rfl, rfl, rfl, h1, r1⟩ := trodAll_cons r0
  obtain ⟨v2, vs2, d2, ds2, p2, q2, rfl, rfl, rfl, h2, r2⟩ := trodAll_cons r1
  obtain ⟨rfl, rfl, rfl⟩ := trodAll_nil r2
  obtain rfl : args = #[v0, v1, v2] := by cases args; simp_all
  obtain ⟨rfl, rfl⟩ := trodVars_none hV
  have k0 := h0
  have lt0 : ∀ x ∈ p0, x.block < W.heap.size := by obtain ⟨m, hm⟩ := k0; exact DataW.trod_lt m _ _ _ hm
  obtain ⟨a0, len0, cap0, rfl⟩ := okWide_slice Try.underlying42 (hval 0 42 v0 rfl rfl)
  obtain ⟨x0, w0⟩ := Opn.opens_arg (Oct.opens_ints) h0
  have k1 := h1
  have lt1 : ∀ x ∈ p1, x.block < W.heap.size := by obtain ⟨m, hm⟩ := k1; exact DataW.trod_lt m _ _ _ hm
  obtain ⟨a1, len1, cap1, rfl⟩ := okWide_slice Try.underlying43 (hval 1 43 v1 rfl rfl)
  obtain ⟨x1, w1⟩ := Opn.opens_arg (Oct.opens_strs) h1
  have k2 := h2
  have lt2 : ∀ x ∈ p2, x.block < W.heap.size := by obtain ⟨m, hm⟩ := k2; exact DataW.trod_lt m _ _ _ hm
  obtain ⟨a2, rfl, _, _, w2⟩ := open_int Try.underlying44 (hval 2 44 v2 rfl rfl) h2
  clear hA0 hval0
  refine (walk W a0 len0 cap0 x0 w0 a1 len1 cap1 x1 w1 a2 w2).mono fun e W' ⟨he, bel⟩ => ?_
  subst he
  exact ⟨_, rfl, _, _, _, [], _, [], hW', trodAll_mk1 (shut_bool Try.underlying4 _), (trodAll_cons_mk (Below.trod laidOut (by kernel_rfl) (of_decide_eq_true (by kernel_rfl)) k0 bel lt0) (trodAll_cons_mk (Below.trod laidOut (by kernel_rfl) (of_decide_eq_true (by kernel_rfl)) k1 bel lt1) (trodAll_cons_mk (Below.trod laidOut (by kernel_rfl) (of_decide_eq_true (by kernel_rfl)) k2 bel lt2) trodAll_mk0))), rfl, bel.frame _, fun h => by cases h⟩

theorem over : Rows.octetBackRow.holds Try.pinned (OpenSpec.ofChange Rows.octetBackSpec) :=
  OpenClaim.holds_of_wide 5 Try.f5 rfl rfl rfl rfl rfl rfl rfl ⟨rfl, rfl, rfl, rfl, rfl⟩ rfl rfl rfl rfl rfl (by kernel_rfl) Try.func5 (by kernel_rfl)
    (of_decide_eq_true (by kernel_rfl)) (by unfold Func.isWrapper; first | (rw [if_pos (by decide +kernel)]; kernel_rfl) | (rw [if_neg (by decide +kernel)]; exact ⟨rfl, rfl⟩))
    (fun os started H enc _ => lifted os started H enc)

/-- THE STATEMENT -/
theorem proved : Rows.OctetBackSaid := over
#print axioms proved
end Go.Proofs.Ytijenfmkgedkfaa.octetBack
