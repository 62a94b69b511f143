/- Order: the document's Order, as it runs. -/
import Derived.Test.YtkjkhfkaihncdaaOrdAhd
import Derived.Test.YtkjkhfkaihncdaaOrdIns
import Derived.Test.YtkjkhfkaihncdaaNestE
import Derived.Test.YtkjkhfkaihncdaaFoot
namespace Go.Proofs.Ytkjkhfkaihncdaa.Ord
set_option maxRecDepth 100000
open Go.RowKit
open Go.Sort
open Kit
open Tre (Lst inI lst_keep lst_take lst_at lst_new lst_none IntsL int_cell encI encI_len encI_one OwI own_chg' info_i run_ld2 below_drewN' run_bs_i)
open Job (Jb Jv Jobs encJ encJ_len encJ_one job_cell)
set_option linter.unusedVariables false
variable {w w' : World}

abbrev nOrd : Nest.At := ⟨4, 39, 7, 42, 11, 46, 3, 38, 6, 41, 10, 45, 12, 3, 46⟩
set_option maxHeartbeats 8000000 in
theorem rorder_any (W : World) (aa : Option Addr) (n cc : Nat) (l : List Jv) (hL : Jobs W aa n cc l) (hn : n ≤ 40) :
    Calls Try.prog 7 #[.slice aa n cc] W fun e W' => ∃ v, e = .returned v ∧ OwI W' W.heap.size v (places (ts l)) ∧ Below W.heap.size W W' := by
  have HL := Lib.hid (And.intro hL hL.len)
  clear hL
  go_enter Try.func7, Try.ntmps7
  go_wp2_with fail
  go_loopw [3, 4] (fun v i wr => ∃ k : Nat, k ≤ n ∧ i = .int .i64 (k : Nat) ∧ (∃ g M c, v = .slice (some ⟨g, 0, none⟩) M c) ∧ OwI wr W.heap.size v (toI (ordTo (ts l) k)) ∧ Below W.heap.size W wr) (fun _ i _ => n - (intOf i).toNat)
  case atStart => exact ⟨0, Nat.zero_le _, rfl, ⟨_, _, _, rfl⟩, own_new_i W, below_alloc _ _⟩
  case round =>
    obtain ⟨k, hk, rfl, hsm, hown, hb⟩ := hrel
    by_cases hlt : k < n
    · have hka : k < l.length := by rw [HL.out.2]; exact hlt
      obtain ⟨b, o, rfl⟩ := lst_at HL.out.1 (by omega)
      obtain ⟨x, hx⟩ : ∃ x, l[k]? = some x := ⟨_, List.getElem?_eq_getElem hka⟩
      have q7 := job_cell (lst_keep encJ_len HL.out.1 hb) hka 7 (by omega)
      rw [show l[k] = x by have := List.getElem?_eq_getElem hka; rw [hx] at this; injection this with this; exact this.symm] at q7
      replace q7 : wr.cell? ⟨b, o + k * 12 + 7, none⟩ = some (.int .i64 x.t.state) := q7
      have hq : isQ (ts l) k = (x.t.state == 1) := isQ_get (by unfold ts; rw [List.getElem?_map, hx]; rfl)
      have HO := Lib.hid (And.intro hsm (And.intro hown hb))
      obtain ⟨st, hst⟩ : ∃ st, st = x.t.state := ⟨_, rfl⟩
      rw [← hst] at q7 hq
      clear hst hka hsm hown hb
      by_cases hs1 : st = 1
      · subst hs1
        have HQ := Lib.hid (ord_step (ts l) k hq)
        obtain ⟨g, cp, hv, hM, hcm, hg1, hg2, hrow⟩ := own_is HO.out.2.1 HO.out.1
        obtain ⟨out, hout⟩ : ∃ out, out = ordTo (ts l) k := ⟨_, rfl⟩
        rw [← hout] at HO HQ hv hM hrow
        have HOu := Lib.hid hout
        obtain ⟨M, hMe⟩ : ∃ M, M = (toI out).length := ⟨_, rfl⟩
        have hMo : M = out.length := by rw [hMe]; exact List.length_map ..
        have hMk : M ≤ k := by rw [hMo, hout, ord_len]; exact q_le _ _
        rw [← hMe] at hv hM
        subst hv
        obtain ⟨K, hK⟩ : ∃ K, K = place (ts l) k out out.length := ⟨_, rfl⟩
        have hKM : K ≤ M := by rw [hK, hMo]; exact place_le _ _ _ _
        have HKM := Lib.hid (And.intro hKM (And.intro hM hcm))
        have HM := Lib.hid (And.intro hMo (And.intro hMe (And.intro hMk hK)))
        have HR := Lib.hid (And.intro hrow (And.intro hg1 hg2))
        clear hq hM hcm hg1 hg2 hrow hout hMe hMo hMk hK hKM
        have HLr := Lib.hid (lst_keep encJ_len HL.out.1 HO.out.2.2)
        obtain ⟨w1, rfl⟩ : ∃ x, x = wr := ⟨_, rfl⟩
        go_upto_block 2 with fail
        go_cut [5] (fun kv wx => kv = .int .i64 (K : Nat) ∧ Below w1.heap.size w1 wx)
        case first =>
          go_wp2_with fail
          go_loopw [5] (fun kv wi => ∃ k' : Nat, k' ≤ M ∧ kv = .int .i64 (k' : Nat) ∧ place (ts l) k out k' = K ∧ Below w1.heap.size w1 wi) (fun kv _ => (intOf kv).toNat)
          case atStart => exact ⟨M, Nat.le_refl _, rfl, by rw [HM.out.2.2.2, HM.out.1], Below.refl _ _⟩
          case round =>
            obtain ⟨k', hk', rfl, hpl, hbi⟩ := hrel
            have HBi := Lib.hid hbi
            have HPl := Lib.hid hpl
            clear hbi hpl
            rcases Nat.eq_zero_or_pos k' with h0 | h0
            · subst h0
              have HK0 := Lib.hid (show K = 0 by rw [← HPl.out, place])
              go_wp2_with fail
              go_meet
              case rel => exact ⟨by rw [HK0.out], HBi.out⟩
            · obtain ⟨k1, rfl⟩ : ∃ k1, k' = k1 + 1 := ⟨k' - 1, by omega⟩
              have hk1 : k1 < out.length := by rw [← HM.out.1]; omega
              obtain ⟨m, hm⟩ : ∃ m, out[k1]? = some m := ⟨_, List.getElem?_eq_getElem hk1⟩
              have q8 : wr.cell? ⟨g, k1, none⟩ = some (.int .i64 (m : Nat)) := by
                have e : (toI out)[k1]'(by rw [List.length_map]; exact hk1) = (m : Int) := by
                  rw [List.getElem_map]
                  rw [List.getElem?_eq_getElem hk1] at hm
                  injection hm with hm
                  rw [hm]
                have := row_cell (row_keep encI_len HR.out.1 HBi.out) (j := k1) (by rw [List.length_map]; exact hk1) e (i := 0) (by omega)
                simpa [encI] using this
              have hmk : m < n := by
                have h := ((ord_mem (ts l) k m).1 (by rw [← HOu.out]; exact List.mem_of_getElem? hm)).1
                omega
              have HN := Lib.hid (place_next (l := ts l) (n := k) (k := k1) hm)
              have HF := Lib.hid (rahead_any wr (some ⟨b, o, none⟩) n cc k m l (lst_keep encJ_len HLr.out HBi.out) hlt hmk)
              have hk1n : (k1 : Int) < (M : Int) := by omega
              have hk1u : k1 ≤ 40 := by have := HM.out; omega
              clear hm
              by_cases hl : lt (ts l) k m
              · have HQ2 := Lib.hid (show place (ts l) k out k1 = K by rw [← HPl.out, HN.out, if_pos hl])
                have HF2 := Lib.hid (show decide (lt (ts l) k m) = true by simp only [hl, decide_true])
                clear hl
                go_wp2_with fail
                refine HF.out.mono ?_
                rw [HF2.out]
                rintro e w2 ⟨rfl, hb2⟩
                have HB2 := Lib.hid (below_keep HBi.out hb2)
                clear hb2
                go_wp2_with fail
                go_roundw
                case rel => exact ⟨k1, by omega, by go_num, HQ2.out, HB2.out⟩
                case measure => simp [intOf]
              · have HQ2 := Lib.hid (show K = k1 + 1 by rw [← HPl.out, HN.out, if_neg hl])
                have HF2 := Lib.hid (show decide (lt (ts l) k m) = false by simp only [hl, decide_false])
                clear hl
                go_wp2_with fail
                refine HF.out.mono ?_
                rw [HF2.out]
                rintro e w2 ⟨rfl, hb2⟩
                have HB2 := Lib.hid (below_keep HBi.out hb2)
                clear hb2
                go_wp2_with fail
                go_meet
                case rel => exact ⟨by rw [HQ2.out]; rfl, HB2.out⟩
        case rest =>
        obtain ⟨rfl, hbx⟩ := hcut
        have hrc := row_keep encI_len HR.out.1 hbx
        have hgc : g < wc.heap.size := Nat.lt_of_lt_of_le HR.out.2.2 hbx.size
        have hl1 : ((toI out).take K).length = K := by rw [List.length_take, ← HM.out.2.1]; exact Nat.min_eq_left HKM.out.1
        have hl3 : ((toI out).drop K).length = M - K := by rw [List.length_drop, ← HM.out.2.1]
        have hp1 := part_to (cp := cp) hrc (K := K) (by rw [← HM.out.2.1]; exact HKM.out.1) hgc
        have hp3 := part_fr (cp := cp) hrc (K := K) (by rw [← HM.out.2.1]; exact HKM.out.1) (by rw [← HM.out.2.1]; exact HKM.out.2.1) hgc
        rw [← HM.out.2.1] at hp3
        have hins : ([] ++ (toI out).take K ++ [(k : Int)] ++ (toI out).drop K) = toI (ordTo (ts l) (k + 1)) := by rw [HQ.out, HM.out.2.2.2]; exact toI_ins _ _ _
        generalize (toI out).take K = P1 at hl1 hp1 hins
        generalize (toI out).drop K = P3 at hl3 hp3 hins
        have HD := Lib.hid (show ([] : List Int).length + P1.length ≤ maxLen ∧ (([] : List Int).length + P1.length) * 8 ≤ 140737488355328 ∧ ([] ++ P1).length + [(k : Int)].length ≤ maxLen ∧ (([] ++ P1).length + [(k : Int)].length) * 8 ≤ 140737488355328 ∧ ([] ++ P1 ++ [(k : Int)]).length + P3.length ≤ maxLen ∧ (([] ++ P1 ++ [(k : Int)]).length + P3.length) * 8 ≤ 140737488355328 from by
          have := HM.out; have := HKM.out.1
          simp only [List.length_append, List.length_nil, List.length_cons, hl1, hl3]
          unfold maxLen; omega)
        have HP1 := Lib.hid hp1
        have HP3 := Lib.hid hp3
        have HIn := Lib.hid hins
        have HBx := Lib.hid (And.intro hbx (below_keep HO.out.2.2 hbx))
        clear hrc hgc hl1 hl3 hp1 hp3 hins hbx
        go_upto_region 9 with fail
        refine Rel.wp_region_see (G := Rel.Gt) (Rel.tab [Rel.Kd.any, .is (.slice (some ⟨g, 0, none⟩) M cp), .is (.int .i64 (K : Nat)), Rel.Kd.any, Rel.Kd.any, .is (.int .i64 (k : Nat)), Rel.Kd.any, Rel.Kd.any, .is (.slice (some ⟨g, 0, none⟩) M cp), .is (.int .i64 (K : Nat)), Rel.Kd.any, Rel.Kd.any, Rel.Kd.any]) (Nest.JE nOrd 0 35 encI 1 3 wc (.slice (some ⟨g, 0, none⟩) M cp) P1 [(k : Int)] P3) (by kernel_rfl) (by kernel_rfl) (by kernel_rfl) (by kernel_rfl) (fun w => trivial) (Nest.startE _ _ _ _ _ rfl (below_drew _)) ?_ ?_
        · refine ⟨?_, ?_, ?_, ?_, ?_, ?_, ?_, ?_, ?_, ?_, ?_, ?_, ?_, trivial⟩
          · intro L a w c j
            refine .inl ⟨Rel.wanted_free (by kernel_rfl) _, ?_⟩
            exact Chn.wp_bs0 _ rfl (run_bs0_i w) ⟨_, rfl, trivial, trivial, Nest.empE encI_len j (by kernel_rfl) (by kernel_rfl) (by rw [c.room]; exact of_decide_eq_true (by kernel_rfl)) (by rw [c.size]; exact of_decide_eq_true (by kernel_rfl)) (Rel.free_no c.free) (c.later 4 (by kernel_rfl)) (c.later2 7 4 (by kernel_rfl) (c.later 4 (by kernel_rfl))) (c.later2 11 7 (by kernel_rfl) (c.later2 7 4 (by kernel_rfl) (c.later 4 (by kernel_rfl))))⟩
          · intro L a w c j
            refine .inl ⟨Rel.wanted_free (by kernel_rfl) _, ?_⟩
            exact Rel.wp_mv _ rfl ⟨_, rfl, trivial, j.old (c.later 12 (by kernel_rfl)), (Nest.onE (by decide) (by decide) (Nest.go encI_len j (k := 1) (d := 36) (by kernel_rfl) (by kernel_rfl) (Below.refl _ _)))⟩
          · intro L a w c j
            refine .inl ⟨Rel.wanted_free (by kernel_rfl) _, ?_⟩
            exact Rel.wp_mv _ rfl ⟨_, rfl, trivial, (c.old 5 (v := .int .i64 (K : Nat)) (by kernel_rfl) (by kernel_rfl)), (Nest.onE (by decide) (by decide) (Nest.go encI_len j (k := 2) (d := 37) (by kernel_rfl) (by kernel_rfl) (Below.refl _ _)))⟩
          · intro L a w c j
            refine .inl ⟨Rel.wanted_free (by kernel_rfl) _, ?_⟩
            exact Rel.wp_sl _ _ none _ none rfl (c.get 1 36 (by kernel_rfl)) rfl (congrArg some (c.get 2 37 (by kernel_rfl))) rfl (run_to_i HKM.out.1 HKM.out.2.1 w) ⟨_, rfl, trivial, trivial, Nest.onE (by decide) (by decide) (Nest.mk1 encI_len j (by kernel_rfl) (by kernel_rfl) (by rw [c.room]; exact of_decide_eq_true (by kernel_rfl)) (Below.refl _ _) (fun v hv => HP1.out w j.below v hv))⟩
          · intro L a w c j
            refine .inl ⟨Rel.wanted_free (by kernel_rfl) _, ?_⟩
            obtain ⟨v9, w9, hr, hj⟩ := Nest.ap1E tyI j (by decide) (by decide) (c.came 0 (by kernel_rfl)) (by kernel_rfl) (by kernel_rfl) (by rw [c.room]; exact of_decide_eq_true (by kernel_rfl)) (by rw [c.size]; exact of_decide_eq_true (by kernel_rfl)) (Rel.free_no c.free) (c.later 7 (by kernel_rfl)) (c.later2 11 7 (by kernel_rfl) (c.later 7 (by kernel_rfl))) (c.came 3 (by kernel_rfl)) (c.later2 12 11 (by kernel_rfl) (c.later2 11 7 (by kernel_rfl) (c.later 7 (by kernel_rfl)))) HD.out.1 HD.out.2.1 24
            exact Chn.wp_ap _ _ _ rfl rfl rfl hr ⟨_, rfl, trivial, trivial, hj⟩
          · intro L a w c j
            refine .inl ⟨Rel.wanted_free (by kernel_rfl) _, ?_⟩
            exact Rel.wp_mv _ rfl ⟨_, rfl, trivial, (c.old 4 (v := .int .i64 (k : Nat)) (by kernel_rfl) (by kernel_rfl)), (Nest.onE (by decide) (by decide) (Nest.go encI_len j (k := 5) (d := 40) (by kernel_rfl) (by kernel_rfl) (Below.refl _ _)))⟩
          · intro L a w c j
            refine .inl ⟨Rel.wanted_free (by kernel_rfl) _, ?_⟩
            exact Chn.wp_bs1 _ _ rfl (c.get 5 40 (by kernel_rfl)) (run_bs_i _ w) ⟨_, rfl, trivial, trivial, Nest.onE (by decide) (by decide) (Nest.mk2 encI_len j (by kernel_rfl) (by kernel_rfl) (by rw [c.room]; exact of_decide_eq_true (by kernel_rfl)) (below_alloc _ _) (fun v hv => Nest.part_new encI_len w [(k : Int)] _ rfl 1 v hv))⟩
          · intro L a w c j
            refine .inl ⟨Rel.wanted_free (by kernel_rfl) _, ?_⟩
            obtain ⟨v9, w9, hr, hj⟩ := Nest.ap2 tyI j (by kernel_rfl) (by kernel_rfl) (by rw [c.room]; exact of_decide_eq_true (by kernel_rfl)) (by rw [c.size]; exact of_decide_eq_true (by kernel_rfl)) (c.came 4 (by kernel_rfl)) (Rel.free_no c.free) (c.later 11 (by kernel_rfl)) (c.came 6 (by kernel_rfl)) (c.later2 12 11 (by kernel_rfl) (c.later 11 (by kernel_rfl))) HD.out.2.2.1 HD.out.2.2.2.1 24
            exact Chn.wp_ap _ _ _ rfl rfl rfl hr ⟨_, rfl, trivial, trivial, Nest.onE (by decide) (by decide) hj⟩
          · intro L a w c j
            refine .inl ⟨Rel.wanted_free (by kernel_rfl) _, ?_⟩
            exact Rel.wp_mv _ rfl ⟨_, rfl, trivial, j.old (c.later 12 (by kernel_rfl)), (Nest.onE (by decide) (by decide) (Nest.go encI_len j (k := 8) (d := 43) (by kernel_rfl) (by kernel_rfl) (Below.refl _ _)))⟩
          · intro L a w c j
            refine .inl ⟨Rel.wanted_free (by kernel_rfl) _, ?_⟩
            exact Rel.wp_mv _ rfl ⟨_, rfl, trivial, (c.old 5 (v := .int .i64 (K : Nat)) (by kernel_rfl) (by kernel_rfl)), (Nest.onE (by decide) (by decide) (Nest.go encI_len j (k := 9) (d := 44) (by kernel_rfl) (by kernel_rfl) (Below.refl _ _)))⟩
          · intro L a w c j
            refine .inl ⟨Rel.wanted_free (by kernel_rfl) _, ?_⟩
            exact Rel.wp_sl _ _ _ none none rfl (c.get 8 43 (by kernel_rfl)) (congrArg some (c.get 9 44 (by kernel_rfl))) rfl rfl (run_fr_i HKM.out.1 w) ⟨_, rfl, trivial, trivial, Nest.onE (by decide) (by decide) (Nest.mk3 encI_len j (by kernel_rfl) (by kernel_rfl) (by rw [c.room]; exact of_decide_eq_true (by kernel_rfl)) (Below.refl _ _) (fun v hv => HP3.out w j.below v hv))⟩
          · intro L a w c j
            refine .inl ⟨Rel.wanted_free (by kernel_rfl) _, ?_⟩
            obtain ⟨v9, w9, hr, hj⟩ := Nest.ap3 tyI j (by kernel_rfl) (by kernel_rfl) (by rw [c.room]; exact of_decide_eq_true (by kernel_rfl)) (by rw [c.size]; exact of_decide_eq_true (by kernel_rfl)) (c.via 7 4 (by kernel_rfl) (c.came 7 (by kernel_rfl))) (c.came 7 (by kernel_rfl)) (Rel.free_no c.free) (c.came 10 (by kernel_rfl)) (c.later 12 (by kernel_rfl)) HD.out.2.2.2.2.1 HD.out.2.2.2.2.2 24
            exact Chn.wp_ap _ _ _ rfl rfl rfl hr ⟨_, rfl, trivial, trivial, Nest.onE (by decide) (by decide) hj⟩
          · intro L a w c j
            refine .inl ⟨Rel.wanted_free (by kernel_rfl) _, ?_⟩
            exact Rel.wp_as _ rfl ⟨_, rfl, trivial, trivial, Nest.onE (by decide) (by decide) (Nest.asg j (by kernel_rfl) (by kernel_rfl) (by rw [c.room]; exact of_decide_eq_true (by kernel_rfl)) (by rw [c.size]; exact of_decide_eq_true (by kernel_rfl)))⟩
        intro a w9 hbase hroom hdef hJ hV
        have hE := Nest.end3 hJ (of_decide_eq_true (by kernel_rfl)) (of_decide_eq_true (by kernel_rfl)) rfl
        change Below wc.heap.size wc w9 ∧ Owns encI 1 3 w9 wc.heap.size (Rel.slot a 3) ([] ++ P1 ++ [(k : Int)] ++ P3) at hE
        clear hJ
        have k3 : (Rel.Kd.any : Rel.Kd (Rel.Gt)).p w9 (Rel.slot a 3) := hV 12 _ _ rfl rfl
        rw [Chn.act_puts [35, 36, 37, 38, 39, 40, 41, 42, 43, 44, 45, 46, 3] hbase hroom hdef (by kernel_rfl)]
        clear hbase hroom hdef hV
        simp only [List.foldl_cons, List.foldl_nil]
        generalize Rel.slot a 35 = u35 at *
        generalize Rel.slot a 36 = u36 at *
        generalize Rel.slot a 37 = u37 at *
        generalize Rel.slot a 38 = u38 at *
        generalize Rel.slot a 39 = u39 at *
        generalize Rel.slot a 40 = u40 at *
        generalize Rel.slot a 41 = u41 at *
        generalize Rel.slot a 42 = u42 at *
        generalize Rel.slot a 43 = u43 at *
        generalize Rel.slot a 44 = u44 at *
        generalize Rel.slot a 45 = u45 at *
        generalize Rel.slot a 46 = u46 at *
        generalize Rel.slot a 3 = u3 at *
        simp only [Act.put, List.setIfInBounds_toArray, List.set_cons_succ, List.set_cons_zero]
        have hsm := own_some hE.2 (by simp only [List.length_append, List.length_nil, List.length_cons]; omega)
        rw [HIn.out] at hE
        have HE := Lib.hid (And.intro hsm (And.intro (Foot.owns_le hE.2 HBx.out.2.size) (below_keep HBx.out.2 hE.1)))
        clear hE hsm k3
        go_wp2_with fail
        go_roundw
        case rel => exact ⟨k + 1, by omega, by go_num, HE.out.1, HE.out.2.1, HE.out.2.2⟩
        case measure => simp [intOf]; omega
      · have HQ := Lib.hid (ord_skip (ts l) k (by rw [hq]; exact beq_false_of_ne hs1))
        clear hq
        go_wp2_with fail
        go_roundw
        case rel => exact ⟨k + 1, by omega, by go_num, HO.out.1, by rw [HQ.out]; exact HO.out.2.1, HO.out.2.2⟩
        case measure => simp [intOf]; omega
    · obtain rfl : k = n := by omega
      have he : toI (ordTo (ts l) k) = places (ts l) := by unfold places ord ts; rw [List.length_map, HL.out.2]
      rw [he] at hown
      have HO := Lib.hid (And.intro hown hb)
      clear hown hb he hsm
      go_wp2_with fail
      go_ret
      exact ⟨_, rfl, HO.out.1, HO.out.2⟩
end Go.Proofs.Ytkjkhfkaihncdaa.Ord
