/- Disk: DiskTorn, over any disk that does as it should. -/
import Derived.Test.YtpbegchaneppfaaDskTwain
import Derived.Deep.CutBlock
namespace Go.Proofs.Ytpbegchaneppfaa.Dsk
open Go.RowKit
open Go.Sort
open Kit
open Oct
open Foot
set_option linter.unusedVariables false
variable {D : World → (Nat → Prop) → Nat → DS → Prop}

theorem run_sl_from (g K n c : Nat) (h1 : K < n) (h2 : n ≤ c) (w : World) : (Instr.sliceAt 39 (.slice (some ⟨g, 0, none⟩) n c) (some (.int .i64 (K : Nat))) none none).run Try.prog w = .ok (.slice (some ⟨g, K, none⟩) (n - K) (c - K)) w := by
  simp [go_sem]
  rw [if_pos (show K ≤ n by omega), if_neg (show ¬ c = K by omega)]

set_option maxRecDepth 100000 in
set_option maxHeartbeats 8000000 in
theorem torn_any (hD : Prog D) (aa : Option Addr) (len cap : Nat) (l : List Ac) (hl : l.length = len) (hc : cap ≤ maxLen) (hlc : len ≤ cap) (am : Option Addr) (lem cam : Nat) (m : List Ac) (hlm : m.length = lem) (hcm : cam ≤ maxLen) (hlcm : lem ≤ cam) (W : World) (hE : Kit.Row encAc 5 W aa l) (hx : ∀ x ∈ l, x.wf) (hEm : Kit.Row encAc 5 W am m) (hxm : ∀ x ∈ m, x.wf)
    (keep torn cut : Int) (hkp : -9223372036854775808 ≤ keep ∧ keep ≤ 9223372036854775807) (htn : -9223372036854775808 ≤ torn ∧ torn ≤ 9223372036854775807) (hct : -9223372036854775808 ≤ cut ∧ cut ≤ 9223372036854775807) :
    Calls Try.prog 5 #[.slice aa len cap, .slice am lem cam, .int .i64 keep, .int .i64 torn, .int .i64 cut] W fun e w' => e = .returned (.bool true) ∧ Below W.heap.size W w' := by
  subst hl hlm
  have hmax : l.length ≤ 9223372036854775807 := by unfold maxLen at hc; omega
  have hmam : m.length ≤ 9223372036854775807 := by unfold maxLen at hcm; omega
  have HE := Lib.hid (And.intro hE hEm)
  have HX := Lib.hid (And.intro hx hxm)
  have KC := Lib.hid kcRow
  have HI := Lib.hid (And.intro hkp (And.intro htn hct))
  clear hE hx hc hlc hEm hxm hcm hlcm hkp htn hct
  go_enter Try.func5, Try.ntmps5
  go_wp2_with fail
  refine (hD.new 8 W (by omega) (by omega)).mono ?_
  rintro e w1 ⟨p, rfl, hd, hb⟩
  have h1 : OneF D W.heap.size w1 (More (fun _ => False) W w1) p (DS.new 8) := ⟨hd, fun k hk => hk.elim (fun h => h.elim) id⟩
  have hg : (DS.new 8).good.length = 8 := by kernel_rfl
  have hfz : (DS.new 8).fuse = -1 := rfl
  generalize More (fun _ => False) W w1 = F1 at h1
  generalize DS.new 8 = s0 at h1 hg hfz
  have H1 := Lib.hid (And.intro h1 (And.intro hb (And.intro hg hfz)))
  clear h1 hd hb hg hfz
  go_upto_block 0 with fail
  go_cut [12] (fun _ wx => ∃ (s : DS) (F : Nat → Prop), OneF D W.heap.size wx F p s ∧ Below W.heap.size W wx ∧ s.good.length = 8 ∧ s.fuse = -1)
  case first =>
   go_wp2_with fail
   go_loopw [12] (fun iv wx => ∃ (k : Nat) (s : DS) (F : Nat → Prop), k ≤ l.length ∧ k ≤ 20 ∧ iv = .int .i64 k ∧ OneF D W.heap.size wx F p s ∧ Below W.heap.size W wx ∧ s.good.length = 8 ∧ s.fuse = -1) (fun iv _ => l.length - (intOf iv).toNat)
   case atStart => exact ⟨0, _, _, Nat.zero_le _, by omega, rfl, H1.out.1, H1.out.2.1, H1.out.2.2.1, H1.out.2.2.2⟩
   case round =>
     obtain ⟨k, s, F, hk, hk40, rfl, hone, hb, hgl, hfu⟩ := hrel
     have HO := Lib.hid (And.intro hone hb)
     have HG := Lib.hid (And.intro hgl hfu)
     clear hone hb hgl hfu
     by_cases hlt : k < l.length ∧ k < 20
     · obtain ⟨hkl, hk5⟩ := hlt
       obtain ⟨ab, ao, rfl⟩ := row_some HE.out.1 hkl
       have hxk := HX.out.1 l[k] (List.getElem_mem hkl)
       have hrg := act_range' (row_keep encAc_len HE.out.1 HO.out.2) hkl rfl
       have hab : ab < W.heap.size := World.block_lt_of_cell? W _ (act_cells HE.out.1 hkl).1
       generalize l[k] = x at *
       have HXk := Lib.hid hxk
       have HQ := Lib.hid hrg
       have HAb : Hid (¬ F ab) := Lib.hid fun h => by have := (HO.out.1.lt _ h).1; omega
       have c40 : (k : Int) < 20 := by omega
       clear hxk hrg hab
       obtain ⟨wq, hwq⟩ : ∃ x, x = wr := ⟨wr, rfl⟩
       subst hwq
       go_wp2_with fail
       refine Rel.wp_region_rel (G := Chg F) (Rel.tab [.is (.pointer (some ⟨p, 0, none⟩)), .is (.slice (some ⟨ab, ao, none⟩) l.length cap), .is (.int .i64 k), .is (.pointer (some ⟨ab, ao + k * 5, none⟩)), .is (.pointer (some ⟨ab, ao + k * 5 + 1, none⟩)), .is (.int .i64 x.at'), .is (.slice (some ⟨ab, ao, none⟩) l.length cap), .is (.int .i64 k), .is (.pointer (some ⟨ab, ao + k * 5, none⟩)), .is (.agg #[.int .u8 (x.d.toNat : Int), .int .i64 x.at', .int .u8 (x.c.toNat : Int), .int .i64 x.keep, .int .i64 x.cut]), kMd F (madeB x), .is (.int .i64 (s.write x.at' (madeB x)).1)]) (J1 D W.heap.size wq F p s (s.write x.at' (madeB x)).2 11) (by kernel_rfl) (by kernel_rfl) (by kernel_rfl) (by kernel_rfl) (fun w => chg_refl _ _) (j1_start hD HO.out.1) ?_ ?_
       · refine ⟨?_, ?_, ?_, ?_, ?_, ?_, ?_, ?_, ?_, ?_, ?_, ?_, trivial⟩
         · intro L a w c
           refine .inl ⟨Rel.wanted_free (by kernel_rfl) _, ?_⟩
           exact Rel.wp_mv _ rfl ⟨_, rfl, chg_refl _ _, (c.old 11 (v := .pointer (some ⟨p, 0, none⟩)) (by kernel_rfl) (by kernel_rfl)), (j1_set c.inv (by decide))⟩
         · intro L a w c
           refine .inl ⟨Rel.wanted_free (by kernel_rfl) _, ?_⟩
           exact Rel.wp_mv _ rfl ⟨_, rfl, chg_refl _ _, (c.old 0 (v := .slice (some ⟨ab, ao, none⟩) l.length cap) (by kernel_rfl) (by kernel_rfl)), (j1_set c.inv (by decide))⟩
         · intro L a w c
           refine .inl ⟨Rel.wanted_free (by kernel_rfl) _, ?_⟩
           exact Rel.wp_mv _ rfl ⟨_, rfl, chg_refl _ _, (c.old 12 (v := .int .i64 k) (by kernel_rfl) (by kernel_rfl)), (j1_set c.inv (by decide))⟩
         · intro L a w c
           refine .inl ⟨Rel.wanted_free (by kernel_rfl) _, ?_⟩
           exact Rel.wp_ia _ _ _ rfl (c.get 1 39 (by kernel_rfl)) (c.get 2 40 (by kernel_rfl)) (run_at_acts ab ao _ _ k hkl w) ⟨_, rfl, chg_refl _ _, rfl, j1_set c.inv (by decide)⟩
         · intro L a w c
           refine .inl ⟨Rel.wanted_free (by kernel_rfl) _, ?_⟩
           exact Chn.wp_fa _ _ _ rfl (c.get 3 41 (by kernel_rfl)) (by simp [go_sem]) ⟨_, rfl, chg_refl _ _, rfl, (j1_set c.inv (by decide))⟩
         · intro L a w c
           refine .inl ⟨Rel.wanted_free (by kernel_rfl) _, ?_⟩
           exact Rel.wp_ld _ _ rfl (c.get 4 42 (by kernel_rfl)) (run_ld_i (ranges_chg c.inv.1 HQ.out HAb.out 1 _ rfl)) ⟨_, rfl, chg_refl _ _, rfl, (j1_set c.inv (by decide))⟩
         · intro L a w c
           refine .inl ⟨Rel.wanted_free (by kernel_rfl) _, ?_⟩
           exact Rel.wp_mv _ rfl ⟨_, rfl, chg_refl _ _, (c.old 0 (v := .slice (some ⟨ab, ao, none⟩) l.length cap) (by kernel_rfl) (by kernel_rfl)), (j1_set c.inv (by decide))⟩
         · intro L a w c
           refine .inl ⟨Rel.wanted_free (by kernel_rfl) _, ?_⟩
           exact Rel.wp_mv _ rfl ⟨_, rfl, chg_refl _ _, (c.old 12 (v := .int .i64 k) (by kernel_rfl) (by kernel_rfl)), (j1_set c.inv (by decide))⟩
         · intro L a w c
           refine .inl ⟨Rel.wanted_free (by kernel_rfl) _, ?_⟩
           exact Rel.wp_ia _ _ _ rfl (c.get 6 44 (by kernel_rfl)) (c.get 7 45 (by kernel_rfl)) (run_at_acts ab ao _ _ k hkl w) ⟨_, rfl, chg_refl _ _, rfl, j1_set c.inv (by decide)⟩
         · intro L a w c
           refine .inl ⟨Rel.wanted_free (by kernel_rfl) _, ?_⟩
           exact Rel.wp_ld _ _ rfl (c.get 8 46 (by kernel_rfl)) (run_ld_act' (ranges_chg c.inv.1 HQ.out HAb.out)) ⟨_, rfl, chg_refl _ _, rfl, (j1_set c.inv (by decide))⟩
         · intro L a w c
           refine .inl ⟨Rel.wanted_free (by kernel_rfl) _, ?_⟩
           refine Rel.wp_cl _ _ _ rfl Try.func14 (by kernel_rfl) ?_
           show Calls _ _ #[Rel.slot a 47] w _
           rw [show Rel.slot a 47 = .agg #[.int .u8 (x.d.toNat : Int), .int .i64 x.at', .int .u8 (x.c.toNat : Int), .int .i64 x.keep, .int .i64 x.cut] from (c.get 9 47 (by kernel_rfl))]
           refine (made_any x w).mono ?_
           rintro e w' ⟨g, n, rfl, hn, ho, hb⟩
           exact ⟨_, rfl, _, rfl, new_chg hb _, kmd_of hn ho (j1_lt c.inv (fun k hk => (HO.out.1.lt k hk).2)), j1_set (j1_keep hD c.inv hb) (by decide)⟩
         · intro L a w c
           refine .inl ⟨Rel.wanted_free (by kernel_rfl) _, ?_⟩
           obtain ⟨g, eg, hrow, hnf⟩ := c.get 10 48 (by kernel_rfl)
           refine Rel.wp_cl _ _ _ rfl Try.func13 (by kernel_rfl) ?_
           show Calls _ _ #[Rel.slot a 38, Rel.slot a 43, Rel.slot a 48] w _
           rw [show Rel.slot a 38 = .pointer (some ⟨p, 0, none⟩) from (c.get 0 38 (by kernel_rfl)), show Rel.slot a 43 = .int .i64 x.at' from (c.get 5 43 (by kernel_rfl)), show Rel.slot a 48 = _ from eg]
           refine (hD.write (j1_first c.inv c.free).d (fun k hk => ((j1_first c.inv c.free).lt k hk).2) x.at' (some ⟨g, 0, none⟩) _ _ (madeB x) HXk.out.1 rfl (Nat.le_refl _) (Nat.le_trans (madeB_small x) (by unfold maxLen; omega)) (fun h => by cases h) hrow (fun q hq h => by injection hq with hq; subst hq; exact hnf h)).mono ?_
           rintro e w' ⟨rfl, h1, hC⟩
           exact ⟨_, rfl, _, rfl, hC, rfl, j1_first' hD c.inv c.free h1 hC HO.out.2.size⟩
       intro a w9 hbase hroom hdef hJ hV
       rw [Chn.act_puts [38, 39, 40, 41, 42, 43, 44, 45, 46, 47, 48, 49] hbase hroom hdef (by kernel_rfl)]
       clear hbase hroom hdef hV
       simp only [List.foldl_cons, List.foldl_nil]
       generalize Rel.slot a 38 = u38 at *
       generalize Rel.slot a 39 = u39 at *
       generalize Rel.slot a 40 = u40 at *
       generalize Rel.slot a 41 = u41 at *
       generalize Rel.slot a 42 = u42 at *
       generalize Rel.slot a 43 = u43 at *
       generalize Rel.slot a 44 = u44 at *
       generalize Rel.slot a 45 = u45 at *
       generalize Rel.slot a 46 = u46 at *
       generalize Rel.slot a 47 = u47 at *
       generalize Rel.slot a 48 = u48 at *
       generalize Rel.slot a 49 = u49 at *
       simp only [Act.put, List.setIfInBounds_toArray, List.set_cons_succ, List.set_cons_zero]
       obtain ⟨hCq, F', h2, hone⟩ := j1_end hJ (by decide)
       have hw := write_free HG.out.2 x.at' (madeB x)
       have HO2 := Lib.hid (And.intro hone (And.intro (HO.out.2.trans (one_below HO.out.1 hCq HO.out.2.size)) (And.intro (show (s.write x.at' (madeB x)).2.good.length = 8 by rw [hw.2.1]; exact HG.out.1) hw.1)))
       clear hone hw hCq h2 hJ
       go_wp2_with fail
       go_roundw
       case rel => exact ⟨k + 1, _, F', by omega, by omega, by go_num, HO2.out.1, HO2.out.2.1, HO2.out.2.2.1, HO2.out.2.2.2⟩
       case measure => simp [intOf]; omega
     · have hor : ¬ (k : Int) < l.length ∨ ((k : Int) < l.length ∧ ¬ (k : Int) < 20) := by omega
       clear hlt
       rcases hor with ho | ⟨ho, ho2⟩
       all_goals
         go_wp2_with fail
         go_meet
         case rel => exact ⟨s, F, HO.out.1, HO.out.2, HG.out.1, HG.out.2⟩
  case rest =>
  obtain ⟨s, F, hone, hb, hgl, hfu⟩ := hcut
  have hfl := flush_free hfu (hD.ok hone.d)
  have hok := flush_ok (hD.ok hone.d)
  have HO := Lib.hid (And.intro hone hb)
  have H2 := Lib.hid (And.intro hfl hgl)
  clear hone hb hfl hgl hfu H1
  go_wp2_with fail
  refine (hD.flush HO.out.1.d (fun k hk => (HO.out.1.lt k hk).2)).mono ?_
  rintro e w2 ⟨rfl, hd, hC⟩
  have h3 := one_more hD HO.out.1 hd hC HO.out.2.size
  have hB3 := HO.out.2.trans (one_below HO.out.1 hC HO.out.2.size)
  have hg3 : s.flush.2.good.length = 8 := by rw [H2.out.1.2.2.2.1, (hD.ok HO.out.1.d).len]; exact H2.out.2
  have hgn : s.flush.2.now = s.flush.2.good := by rw [H2.out.1.2.2.2.1, H2.out.1.2.2.2.2]
  have hf3 := H2.out.1.2.1
  have ho3 := H2.out.1.2.2.1
  rw [H2.out.1.1]
  generalize s.flush.2 = s3 at *
  generalize More F wc w2 = F3 at h3
  have H4 := Lib.hid (And.intro h3 (And.intro hB3 (And.intro hg3 (And.intro hgn (And.intro hf3 (And.intro ho3 hok))))))
  have HT4 := Lib.hid (twain_new W.heap.size F3 w2 hB3.size (fun k hk => (h3.lt k hk).2))
  have HB4 := Lib.hid (((below_alloc w2 (.cells #[] 39)).alloc (by simp) (.cells #[] 39)))
  have hn3 : s3.now.length = 8 := by rw [hgn, hg3]
  have HN3 := Lib.hid hn3
  clear hd hC h3 hB3 hg3 hgn hf3 ho3 hok H2 HO hn3
  go_upto_block 2 with fail
  go_cut [13, 14, 15] (fun v u _ wx => Twain W.heap.size F3 wx v u s3.now [] ∧ OneF D W.heap.size wx F3 p s3 ∧ Below W.heap.size W wx)
  case first =>
   go_wp2_with fail
   go_loopw [13, 15] (fun v iv wx => ∃ k : Nat, k ≤ 8 ∧ iv = .int .i64 k ∧ Twain W.heap.size F3 wx v (.slice (some ⟨w2.heap.size + 1, 0, none⟩) 0 0) (s3.now.take k) [] ∧ OneF D W.heap.size wx F3 p s3 ∧ Below W.heap.size W wx) (fun _ iv _ => 8 - (intOf iv).toNat)
   case atStart => exact ⟨0, by omega, rfl, HT4.out, one_keep hD H4.out.1 HB4.out, below_keep H4.out.2.1 HB4.out⟩
   case round =>
     obtain ⟨k, hk, rfl, hls, hone, hb⟩ := hrel
     have HL := Lib.hid (And.intro hls (And.intro hone hb))
     clear hls hone hb
     by_cases hlt : k < 8
     · have hrd : s3.read k = (s3.now.getD k [], 0) := by unfold DS.read; rw [if_pos (show inR (k : Int) s3.good.length from ⟨by omega, by have := H4.out.2.2.1; omega⟩)]; rfl
       have hkn : k < s3.now.length := by rw [HN3.out]; exact hlt
       have h32 : (s3.now.getD k []).length = 32 := H4.out.2.2.2.2.2.2.now32 _ (getD_mem hkn)
       have htk : s3.now.take (k + 1) = s3.now.take k ++ [s3.now.getD k []] := by rw [List.take_succ_eq_append_getElem hkn, getD_at hkn]
       have htl : (s3.now.take k).length ≤ 8 := by rw [List.length_take]; omega
       generalize s3.now.getD k [] = b at hrd h32 htk
       have HB := Lib.hid (And.intro hrd (And.intro h32 (And.intro htk htl)))
       clear hrd hkn h32 htk htl
       go_wp2_with fail
       refine (hD.read HL.out.2.1.d k ⟨by omega, by omega⟩).mono ?_
       rw [HB.out.1]
       rintro e w5 ⟨v, rfl, ho, hb5⟩
       replace ho : RdB w5 wr.heap.size v b := ho
       obtain ⟨g, c, rfl, hrow, hg1, hg2, hcp⟩ := own_some ho (show 0 < b.length by rw [HB.out.2.1]; omega)
       have hls5 := twain_keep HL.out.1 hb5
       have hlt5 := fun g' (hg' : u13.ownBlock = some g') => lst_lt HL.out.1.one hg'
       have hlu5 := fun g' (hg' : (Value.slice (some ⟨w2.heap.size + 1, 0, none⟩) 0 0).ownBlock = some g') => lst_lt HL.out.1.two hg'
       have HL5 := Lib.hid (And.intro (one_keep hD HL.out.2.1 hb5) (And.intro (below_keep HL.out.2.2 hb5) (And.intro hrow (And.intro hg1 (And.intro hg2 (And.intro hlt5 (And.intro hlu5 (And.intro (show ∀ k, F3 k → k < wr.heap.size from fun k hk => (HL.out.2.1.lt k hk).2) hls5))))))))
       obtain ⟨ss, q1, q2, q3, q4⟩ := hls5.one
       have HQ := Lib.hid (And.intro q1 (And.intro q2 (And.intro q3 q4)))
       have HCp := Lib.hid hcp
       clear ho hb5 hrow hg1 hg2 hcp hlt5 hlu5 q1 q2 q3 q4 hls5
       go_wp2_with (first
         | (at_builtin; refine Two.append_apart encSl_len (by decide) encSl_one rfl (.tmp 64) (.tmp 66) 30 39 rfl Try.underlying30 (.slice none 0 0) 24 info_sl rfl W.heap.size u13 ss rfl (owns_alloc HQ.out.1 _) (some ⟨w5.heap.size, 0, none⟩) 1 1 [⟨g, b.length, c⟩] rfl rfl (Kit.row_new encSl_len w5 [⟨g, b.length, c⟩] _ _ _ rfl rfl) (fun h => by cases h) (by have := HB.out.2.2.2; rw [HQ.out.2.1]; unfold maxLen; omega) (by have := HB.out.2.2.2; rw [HQ.out.2.1]; omega) (Nat.le_trans HL5.out.2.1.size (by simp)) ?_; intro v9 w9 ho9 hg9 hw9
            have HP := Lib.hid (twain_push hD HL5.out.1 HL5.out.2.1 HL5.out.2.1.size HL5.out.2.2.2.2.2.2.2.2 HQ.out HL5.out.2.2.1 HL5.out.2.2.2.1 HL5.out.2.2.2.2.1 HL5.out.2.2.2.2.2.1 HL5.out.2.2.2.2.2.2.1 HL5.out.2.2.2.2.2.2.2.1 ho9 hg9 hw9 HCp.out)
            clear ho9 hg9 hw9)
         | fail)
       go_roundw
       case rel => exact ⟨k + 1, by omega, by go_num, by rw [HB.out.2.2.1]; exact HP.out.1, HP.out.2.1, HP.out.2.2⟩
       case measure => simp [intOf]; omega
     · obtain rfl : k = 8 := by omega
       have htk : s3.now.take 8 = s3.now := List.take_of_length_le (by rw [HN3.out]; omega)
       have HT := Lib.hid htk
       clear htk
       go_wp2_with fail
       go_meet
       case rel => exact ⟨by rw [← HT.out]; exact HL.out.1, HL.out.2.1, HL.out.2.2⟩
  case rest =>
  have HL := Lib.hid hcut
  clear hcut HT4 HB4
  go_upto_block 4 with fail
  go_cut [18] (fun _ wx => ∃ (s : DS) (F : Nat → Prop), OneF D W.heap.size wx F p s ∧ Below W.heap.size W wx ∧ Twain W.heap.size F wx u13 u14 s3.now [] ∧ s.good = s3.good ∧ s.fuse = -1)
  case first =>
   go_wp2_with fail
   go_loopw [18] (fun iv wx => ∃ (k : Nat) (s : DS) (F : Nat → Prop), k ≤ m.length ∧ k ≤ 20 ∧ iv = .int .i64 k ∧ OneF D W.heap.size wx F p s ∧ Below W.heap.size W wx ∧ Twain W.heap.size F wx u13 u14 s3.now [] ∧ s.good = s3.good ∧ s.fuse = -1) (fun iv _ => m.length - (intOf iv).toNat)
   case atStart => exact ⟨0, s3, F3, Nat.zero_le _, by omega, rfl, HL.out.2.1, HL.out.2.2, HL.out.1, rfl, H4.out.2.2.2.2.1⟩
   case round =>
     obtain ⟨k, s, F, hk, hk40, rfl, hone, hb, htw, hgl, hfu⟩ := hrel
     have HO := Lib.hid (And.intro hone hb)
     have HG := Lib.hid (And.intro hgl (And.intro hfu htw))
     clear hone hb hgl hfu htw
     by_cases hlt : k < m.length ∧ k < 20
     · obtain ⟨hkl, hk5⟩ := hlt
       obtain ⟨ab, ao, rfl⟩ := row_some HE.out.2 hkl
       have hxk := HX.out.2 m[k] (List.getElem_mem hkl)
       have hrg := act_range' (row_keep encAc_len HE.out.2 HO.out.2) hkl rfl
       have hab : ab < W.heap.size := World.block_lt_of_cell? W _ (act_cells HE.out.2 hkl).1
       generalize m[k] = x at *
       have HXk := Lib.hid hxk
       have HQ := Lib.hid hrg
       have HAb : Hid (¬ F ab) := Lib.hid fun h => by have := (HO.out.1.lt _ h).1; omega
       have c40 : (k : Int) < 20 := by omega
       clear hxk hrg hab
       obtain ⟨wq, hwq⟩ : ∃ x, x = wr := ⟨wr, rfl⟩
       subst hwq
       go_wp2_with fail
       refine Rel.wp_region_rel (G := Chg F) (Rel.tab [.is (.pointer (some ⟨p, 0, none⟩)), .is (.slice (some ⟨ab, ao, none⟩) m.length cam), .is (.int .i64 k), .is (.pointer (some ⟨ab, ao + k * 5, none⟩)), .is (.pointer (some ⟨ab, ao + k * 5 + 1, none⟩)), .is (.int .i64 x.at'), .is (.slice (some ⟨ab, ao, none⟩) m.length cam), .is (.int .i64 k), .is (.pointer (some ⟨ab, ao + k * 5, none⟩)), .is (.agg #[.int .u8 (x.d.toNat : Int), .int .i64 x.at', .int .u8 (x.c.toNat : Int), .int .i64 x.keep, .int .i64 x.cut]), kMd F (madeB x), .is (.int .i64 (s.write x.at' (madeB x)).1)]) (J1 D W.heap.size wq F p s (s.write x.at' (madeB x)).2 11) (by kernel_rfl) (by kernel_rfl) (by kernel_rfl) (by kernel_rfl) (fun w => chg_refl _ _) (j1_start hD HO.out.1) ?_ ?_
       · refine ⟨?_, ?_, ?_, ?_, ?_, ?_, ?_, ?_, ?_, ?_, ?_, ?_, trivial⟩
         · intro L a w c
           refine .inl ⟨Rel.wanted_free (by kernel_rfl) _, ?_⟩
           exact Rel.wp_mv _ rfl ⟨_, rfl, chg_refl _ _, (c.old 11 (v := .pointer (some ⟨p, 0, none⟩)) (by kernel_rfl) (by kernel_rfl)), (j1_set c.inv (by decide))⟩
         · intro L a w c
           refine .inl ⟨Rel.wanted_free (by kernel_rfl) _, ?_⟩
           exact Rel.wp_mv _ rfl ⟨_, rfl, chg_refl _ _, (c.old 1 (v := .slice (some ⟨ab, ao, none⟩) m.length cam) (by kernel_rfl) (by kernel_rfl)), (j1_set c.inv (by decide))⟩
         · intro L a w c
           refine .inl ⟨Rel.wanted_free (by kernel_rfl) _, ?_⟩
           exact Rel.wp_mv _ rfl ⟨_, rfl, chg_refl _ _, (c.old 18 (v := .int .i64 k) (by kernel_rfl) (by kernel_rfl)), (j1_set c.inv (by decide))⟩
         · intro L a w c
           refine .inl ⟨Rel.wanted_free (by kernel_rfl) _, ?_⟩
           exact Rel.wp_ia _ _ _ rfl (c.get 1 79 (by kernel_rfl)) (c.get 2 80 (by kernel_rfl)) (run_at_acts ab ao _ _ k hkl w) ⟨_, rfl, chg_refl _ _, rfl, j1_set c.inv (by decide)⟩
         · intro L a w c
           refine .inl ⟨Rel.wanted_free (by kernel_rfl) _, ?_⟩
           exact Chn.wp_fa _ _ _ rfl (c.get 3 81 (by kernel_rfl)) (by simp [go_sem]) ⟨_, rfl, chg_refl _ _, rfl, (j1_set c.inv (by decide))⟩
         · intro L a w c
           refine .inl ⟨Rel.wanted_free (by kernel_rfl) _, ?_⟩
           exact Rel.wp_ld _ _ rfl (c.get 4 82 (by kernel_rfl)) (run_ld_i (ranges_chg c.inv.1 HQ.out HAb.out 1 _ rfl)) ⟨_, rfl, chg_refl _ _, rfl, (j1_set c.inv (by decide))⟩
         · intro L a w c
           refine .inl ⟨Rel.wanted_free (by kernel_rfl) _, ?_⟩
           exact Rel.wp_mv _ rfl ⟨_, rfl, chg_refl _ _, (c.old 1 (v := .slice (some ⟨ab, ao, none⟩) m.length cam) (by kernel_rfl) (by kernel_rfl)), (j1_set c.inv (by decide))⟩
         · intro L a w c
           refine .inl ⟨Rel.wanted_free (by kernel_rfl) _, ?_⟩
           exact Rel.wp_mv _ rfl ⟨_, rfl, chg_refl _ _, (c.old 18 (v := .int .i64 k) (by kernel_rfl) (by kernel_rfl)), (j1_set c.inv (by decide))⟩
         · intro L a w c
           refine .inl ⟨Rel.wanted_free (by kernel_rfl) _, ?_⟩
           exact Rel.wp_ia _ _ _ rfl (c.get 6 84 (by kernel_rfl)) (c.get 7 85 (by kernel_rfl)) (run_at_acts ab ao _ _ k hkl w) ⟨_, rfl, chg_refl _ _, rfl, j1_set c.inv (by decide)⟩
         · intro L a w c
           refine .inl ⟨Rel.wanted_free (by kernel_rfl) _, ?_⟩
           exact Rel.wp_ld _ _ rfl (c.get 8 86 (by kernel_rfl)) (run_ld_act' (ranges_chg c.inv.1 HQ.out HAb.out)) ⟨_, rfl, chg_refl _ _, rfl, (j1_set c.inv (by decide))⟩
         · intro L a w c
           refine .inl ⟨Rel.wanted_free (by kernel_rfl) _, ?_⟩
           refine Rel.wp_cl _ _ _ rfl Try.func14 (by kernel_rfl) ?_
           show Calls _ _ #[Rel.slot a 87] w _
           rw [show Rel.slot a 87 = .agg #[.int .u8 (x.d.toNat : Int), .int .i64 x.at', .int .u8 (x.c.toNat : Int), .int .i64 x.keep, .int .i64 x.cut] from (c.get 9 87 (by kernel_rfl))]
           refine (made_any x w).mono ?_
           rintro e w' ⟨g, n, rfl, hn, ho, hb⟩
           exact ⟨_, rfl, _, rfl, new_chg hb _, kmd_of hn ho (j1_lt c.inv (fun k hk => (HO.out.1.lt k hk).2)), j1_set (j1_keep hD c.inv hb) (by decide)⟩
         · intro L a w c
           refine .inl ⟨Rel.wanted_free (by kernel_rfl) _, ?_⟩
           obtain ⟨g, eg, hrow, hnf⟩ := c.get 10 88 (by kernel_rfl)
           refine Rel.wp_cl _ _ _ rfl Try.func13 (by kernel_rfl) ?_
           show Calls _ _ #[Rel.slot a 78, Rel.slot a 83, Rel.slot a 88] w _
           rw [show Rel.slot a 78 = .pointer (some ⟨p, 0, none⟩) from (c.get 0 78 (by kernel_rfl)), show Rel.slot a 83 = .int .i64 x.at' from (c.get 5 83 (by kernel_rfl)), show Rel.slot a 88 = _ from eg]
           refine (hD.write (j1_first c.inv c.free).d (fun k hk => ((j1_first c.inv c.free).lt k hk).2) x.at' (some ⟨g, 0, none⟩) _ _ (madeB x) HXk.out.1 rfl (Nat.le_refl _) (Nat.le_trans (madeB_small x) (by unfold maxLen; omega)) (fun h => by cases h) hrow (fun q hq h => by injection hq with hq; subst hq; exact hnf h)).mono ?_
           rintro e w' ⟨rfl, h1, hC⟩
           exact ⟨_, rfl, _, rfl, hC, rfl, j1_first' hD c.inv c.free h1 hC HO.out.2.size⟩
       intro a w9 hbase hroom hdef hJ hV
       rw [Chn.act_puts [78, 79, 80, 81, 82, 83, 84, 85, 86, 87, 88, 89] hbase hroom hdef (by kernel_rfl)]
       clear hbase hroom hdef hV
       simp only [List.foldl_cons, List.foldl_nil]
       generalize Rel.slot a 78 = u78 at *
       generalize Rel.slot a 79 = u79 at *
       generalize Rel.slot a 80 = u80 at *
       generalize Rel.slot a 81 = u81 at *
       generalize Rel.slot a 82 = u82 at *
       generalize Rel.slot a 83 = u83 at *
       generalize Rel.slot a 84 = u84 at *
       generalize Rel.slot a 85 = u85 at *
       generalize Rel.slot a 86 = u86 at *
       generalize Rel.slot a 87 = u87 at *
       generalize Rel.slot a 88 = u88 at *
       generalize Rel.slot a 89 = u89 at *
       simp only [Act.put, List.setIfInBounds_toArray, List.set_cons_succ, List.set_cons_zero]
       obtain ⟨hCq, F', h2, hone⟩ := j1_end hJ (by decide)
       have hw := write_free HG.out.2.1 x.at' (madeB x)
       have htw := twain_chg HG.out.2.2 hCq (fun _ => id) h2
       have HO2 := Lib.hid (And.intro hone (And.intro (HO.out.2.trans (one_below HO.out.1 hCq HO.out.2.size)) (And.intro htw (And.intro (hw.2.1.trans HG.out.1) hw.1))))
       clear hone hw hCq h2 hJ htw
       go_wp2_with fail
       go_roundw
       case rel => exact ⟨k + 1, _, F', by omega, by omega, by go_num, HO2.out.1, HO2.out.2.1, HO2.out.2.2.1, HO2.out.2.2.2.1, HO2.out.2.2.2.2⟩
       case measure => simp [intOf]; omega
     · have hor : ¬ (k : Int) < m.length ∨ ((k : Int) < m.length ∧ ¬ (k : Int) < 20) := by omega
       clear hlt
       rcases hor with ho | ⟨ho, ho2⟩
       all_goals
         go_wp2_with fail
         go_meet
         case rel => exact ⟨s, F, HO.out.1, HO.out.2, HG.out.2.2, HG.out.1, HG.out.2.1⟩
  case rest =>
  obtain ⟨s, F, hone, hb, htw, hgl, hfu⟩ := hcut
  have hok := hD.ok hone.d
  have hgl8 : s.good.length = 8 := by rw [hgl]; exact H4.out.2.2.1
  have hnl8 : s.now.length = 8 := by rw [hok.len]; exact hgl8
  have H5 := Lib.hid (And.intro hgl (And.intro hfu (And.intro hok (And.intro hgl8 hnl8))))
  have HL5 := Lib.hid (And.intro htw (And.intro hone hb))
  clear hone hb htw hgl hfu hok hgl8 hnl8 HL
  go_upto_block 6 with fail
  go_cut [14, 19] (fun u _ wx => Twain W.heap.size F wx u13 u s3.now s.now ∧ OneF D W.heap.size wx F p s ∧ Below W.heap.size W wx)
  case first =>
   go_wp2_with fail
   go_loopw [14, 19] (fun u iv wx => ∃ k : Nat, k ≤ 8 ∧ iv = .int .i64 k ∧ Twain W.heap.size F wx u u13 (s.now.take k) s3.now ∧ OneF D W.heap.size wx F p s ∧ Below W.heap.size W wx) (fun _ iv _ => 8 - (intOf iv).toNat)
   case atStart => exact ⟨0, by omega, rfl, twain_turn HL5.out.1, HL5.out.2.1, HL5.out.2.2⟩
   case round =>
     obtain ⟨k, hk, rfl, hls, hone, hb⟩ := hrel
     have HL := Lib.hid (And.intro hls (And.intro hone hb))
     clear hls hone hb
     by_cases hlt : k < 8
     · have hrd : s.read k = (s.now.getD k [], 0) := by unfold DS.read; rw [if_pos (show inR (k : Int) s.good.length from ⟨by omega, by have := H5.out.2.2.2.1; omega⟩)]; rfl
       have hkn : k < s.now.length := by rw [H5.out.2.2.2.2]; exact hlt
       have h32 : (s.now.getD k []).length = 32 := H5.out.2.2.1.now32 _ (getD_mem hkn)
       have htk : s.now.take (k + 1) = s.now.take k ++ [s.now.getD k []] := by rw [List.take_succ_eq_append_getElem hkn, getD_at hkn]
       have htl : (s.now.take k).length ≤ 8 := by rw [List.length_take]; omega
       generalize s.now.getD k [] = b at hrd h32 htk
       have HB := Lib.hid (And.intro hrd (And.intro h32 (And.intro htk htl)))
       clear hrd hkn h32 htk htl
       go_wp2_with fail
       refine (hD.read HL.out.2.1.d k ⟨by omega, by omega⟩).mono ?_
       rw [HB.out.1]
       rintro e w5 ⟨v, rfl, ho, hb5⟩
       replace ho : RdB w5 wr.heap.size v b := ho
       obtain ⟨g, c, rfl, hrow, hg1, hg2, hcp⟩ := own_some ho (show 0 < b.length by rw [HB.out.2.1]; omega)
       have hls5 := twain_keep HL.out.1 hb5
       have hlt5 := fun g' (hg' : u14.ownBlock = some g') => lst_lt HL.out.1.one hg'
       have hlu5 := fun g' (hg' : u13.ownBlock = some g') => lst_lt HL.out.1.two hg'
       have HL5 := Lib.hid (And.intro (one_keep hD HL.out.2.1 hb5) (And.intro (below_keep HL.out.2.2 hb5) (And.intro hrow (And.intro hg1 (And.intro hg2 (And.intro hlt5 (And.intro hlu5 (And.intro (show ∀ k, F k → k < wr.heap.size from fun k hk => (HL.out.2.1.lt k hk).2) hls5))))))))
       obtain ⟨ss, q1, q2, q3, q4⟩ := hls5.one
       have HQ := Lib.hid (And.intro q1 (And.intro q2 (And.intro q3 q4)))
       have HCp := Lib.hid hcp
       clear ho hb5 hrow hg1 hg2 hcp hlt5 hlu5 q1 q2 q3 q4 hls5
       go_wp2_with (first
         | (at_builtin; refine Two.append_apart encSl_len (by decide) encSl_one rfl (.tmp 100) (.tmp 102) 30 39 rfl Try.underlying30 (.slice none 0 0) 24 info_sl rfl W.heap.size u14 ss rfl (owns_alloc HQ.out.1 _) (some ⟨w5.heap.size, 0, none⟩) 1 1 [⟨g, b.length, c⟩] rfl rfl (Kit.row_new encSl_len w5 [⟨g, b.length, c⟩] _ _ _ rfl rfl) (fun h => by cases h) (by have := HB.out.2.2.2; rw [HQ.out.2.1]; unfold maxLen; omega) (by have := HB.out.2.2.2; rw [HQ.out.2.1]; omega) (Nat.le_trans HL5.out.2.1.size (by simp)) ?_; intro v9 w9 ho9 hg9 hw9
            have HP := Lib.hid (twain_push hD HL5.out.1 HL5.out.2.1 HL5.out.2.1.size HL5.out.2.2.2.2.2.2.2.2 HQ.out HL5.out.2.2.1 HL5.out.2.2.2.1 HL5.out.2.2.2.2.1 HL5.out.2.2.2.2.2.1 HL5.out.2.2.2.2.2.2.1 HL5.out.2.2.2.2.2.2.2.1 ho9 hg9 hw9 HCp.out)
            clear ho9 hg9 hw9)
         | fail)
       go_roundw
       case rel => exact ⟨k + 1, by omega, by go_num, by rw [HB.out.2.2.1]; exact HP.out.1, HP.out.2.1, HP.out.2.2⟩
       case measure => simp [intOf]; omega
     · obtain rfl : k = 8 := by omega
       have htk : s.now.take 8 = s.now := List.take_of_length_le (by rw [H5.out.2.2.2.2]; omega)
       have HT := Lib.hid htk
       clear htk
       go_wp2_with fail
       go_meet
       case rel => exact ⟨by rw [← HT.out]; exact twain_turn HL.out.1, HL.out.2.1, HL.out.2.2⟩
  case rest =>
  obtain ⟨g13, c13, rfl⟩ := lst_form hcut.1.one (by rw [HN3.out]; omega)
  obtain ⟨g14, c14, rfl⟩ := lst_form hcut.1.two (by rw [H5.out.2.2.2.2]; omega)
  rw [HN3.out, H5.out.2.2.2.2] at hcut ⊢
  have HL := Lib.hid hcut
  clear hcut HL5
  go_wp2_with fail
  refine (hD.crash HL.out.2.1.d (fun k hk => (HL.out.2.1.lt k hk).2) keep torn cut HI.out.1 HI.out.2.1 HI.out.2.2).mono ?_
  rintro e w6 ⟨rfl, hd, hC⟩
  have h6 := one_more hD HL.out.2.1 hd hC HL.out.2.2.size
  have hB6 := HL.out.2.2.trans (one_below HL.out.2.1 hC HL.out.2.2.size)
  have hT6 := twain_chg (F' := fun _ => False) HL.out.1 hC (fun _ => id) (fun _ h => h.elim)
  obtain ⟨qt, hqt⟩ : ∃ q, q = s.order.getD torn.toNat 0 := ⟨_, rfl⟩
  have hrd : ∀ k : Nat, k < 8 → ∃ b mm, (s.crash keep torn cut).read (k : Int) = (b, 0) ∧ b.length = 32 ∧ mm ≤ 32 ∧ b = mix mm (s3.now.getD k []) (s.now.getD k []) ∧ (b ≠ s3.now.getD k [] → b ≠ s.now.getD k [] → k = qt) ∧ (s3.now.getD k []).length = 32 ∧ (s.now.getD k []).length = 32 := fun k hk => by
    have hok := H5.out.2.2.1
    have hsg : s.good = s3.now := by rw [H5.out.1, H4.out.2.2.2.1]
    have hk8 : k < s.good.length := by rw [H5.out.2.2.2.1]; exact hk
    obtain ⟨mm, hm1, hm2, hm3⟩ := crash_at hok keep torn cut hk8
    rw [hsg] at hm2 hm3
    have h1 : (s3.now.getD k []).length = 32 := by rw [← hsg]; exact hok.good32 _ (getD_mem hk8)
    have h2 : (s.now.getD k []).length = 32 := hok.now32 _ (getD_mem (by rw [H5.out.2.2.2.2]; exact hk))
    exact ⟨_, mm, crash_read s keep torn cut hk8, by rw [hm2]; exact mix_length h1 h2 hm1, hm1, hm2, by rw [hqt]; exact hm3, h1, h2⟩
  generalize More F wc w6 = F6 at h6
  generalize s.crash keep torn cut = sc at *
  have H6 := Lib.hid (And.intro h6 (And.intro hB6 (And.intro hT6 hrd)))
  clear hd hC h6 hB6 hT6 hrd hqt
  go_upto_block 8 with fail
  go_cut [22, 23] (fun mv _ wx => ∃ mx : Nat, mv = .int .i64 mx ∧ mx ≤ 1 ∧ OneF D W.heap.size wx F6 p sc ∧ Below W.heap.size W wx)
  case first =>
   go_wp2_with fail
   go_loopw [22, 23] (fun mv iv wx => ∃ (k mx : Nat), k ≤ 8 ∧ iv = .int .i64 k ∧ mv = .int .i64 mx ∧ (mx = 0 ∨ (mx = 1 ∧ qt < k)) ∧ OneF D W.heap.size wx F6 p sc ∧ Below W.heap.size W wx ∧ Below w6.heap.size w6 wx) (fun _ iv _ => 8 - (intOf iv).toNat)
   case atStart => exact ⟨0, 0, by omega, rfl, rfl, .inl rfl, H6.out.1, H6.out.2.1, Below.refl _ _⟩
   case round =>
     obtain ⟨k, mx, hk, rfl, rfl, hmx, hone, hb, hbb⟩ := hrel
     have HO := Lib.hid (And.intro hone (And.intro hb hbb))
     clear hone hb hbb
     by_cases hlt : k < 8
     · obtain ⟨b, mm, hrd, h32, hmm, hbm, hsame, ho32, hn32⟩ := H6.out.2.2.2 k hlt
       have hk3 : k < s3.now.length := by rw [HN3.out]; exact hlt
       have hkn : k < s.now.length := by rw [H5.out.2.2.2.2]; exact hlt
       rw [getD_at hk3] at hbm hsame ho32
       rw [getD_at hkn] at hbm hsame hn32
       have HR := Lib.hid hrd
       have c8 : (k : Int) < 8 := by omega
       clear hrd
       go_wp2_with fail
       refine (hD.read HO.out.1.d k ⟨by omega, by omega⟩).mono ?_
       rw [HR.out]
       rintro e w7 ⟨v, rfl, ho, hb7⟩
       replace ho : RdB w7 wr.heap.size v b := ho
       obtain ⟨g7, c7, rfl, hrow, _, _, hc7⟩ := own_some ho (by omega)
       have hb67 := below_keep HO.out.2.2 hb7
       have hT7 := twain_keep H6.out.2.2.1 hb67
       obtain ⟨so, co, hon, hor, hoc⟩ := lst_get hT7.one hk3
       obtain ⟨sn, cn, hnn, hnr, _⟩ := lst_get hT7.two hkn
       rw [ho32] at hon
       rw [hn32] at hnn
       simp only [Sl.val] at co cn
       rw [hon] at co hoc
       rw [hnn] at cn
       rw [h32] at hc7
       have HCap := Lib.hid (And.intro hc7 hoc)
       generalize s3.now[k] = old at *
       generalize s.now[k] = new at *
       have HO7 := Lib.hid (And.intro (one_keep hD HO.out.1 hb7) (And.intro (below_keep HO.out.2.1 hb7) hb67))
       have HC7 := Lib.hid (And.intro co cn)
       have HRw := Lib.hid (And.intro hrow (And.intro hor hnr))
       have HM := Lib.hid (And.intro h32 (And.intro ho32 (And.intro hn32 (And.intro hmm (And.intro hbm hsame)))))
       have hMx := Lib.hid hmx
       rw [h32]
       clear ho hb7 hrow hT7 hor hnr hb67 h32 hon hnn co cn hmm hbm hsame ho32 hn32 hmx hk3 hkn hc7 hoc
       go_upto_block 10 with fail
       go_cut [26] (fun jv wx => ∃ K : Nat, jv = .int .i64 K ∧ K ≤ 32 ∧ (∀ i, i < K → b[i]? = new[i]?) ∧ (K < 32 → b[K]? ≠ new[K]?) ∧ Below w7.heap.size w7 wx)
       case first =>
        go_wp2_with fail
        go_loopw [26] (fun jv wx => ∃ j : Nat, j ≤ 32 ∧ jv = .int .i64 j ∧ (∀ i, i < j → b[i]? = new[i]?) ∧ Below w7.heap.size w7 wx) (fun jv _ => 32 - (intOf jv).toNat)
        case atStart => exact ⟨0, by omega, rfl, fun i hi => by omega, Below.refl _ _⟩
        case round =>
          obtain ⟨j, hj, rfl, heq, hbj⟩ := hrel
          have HJ := Lib.hid (And.intro heq hbj)
          by_cases hj32 : j < 32
          · have hjb : j < b.length := by rw [HM.out.1]; exact hj32
            have hjn : j < new.length := by rw [HM.out.2.2.1]; exact hj32
            have x0 := row_cell (row_keep encB_len HRw.out.1 hbj) hjb rfl (i := 0) (by omega)
            have y0 := row_cell (row_keep encB_len HRw.out.2.2 hbj) hjn rfl (i := 0) (by omega)
            simp only [encB, Nat.zero_add, Nat.add_zero, Nat.mul_one, List.getElem?_cons_zero] at x0 y0
            have hbe : b[j]? = some b[j] := List.getElem?_eq_getElem hjb
            have hne : new[j]? = some new[j] := List.getElem?_eq_getElem hjn
            have HCj := Lib.hid (And.intro x0 (And.intro y0 (cell_keep hbj HC7.out.2)))
            generalize b[j] = x at *
            generalize new[j] = y at *
            have hxy : ((x.toNat : Int) = (y.toNat : Int)) ↔ x = y := by rw [Int.natCast_inj, UInt8.toNat_inj]
            generalize (x.toNat : Int) = X at *
            generalize (y.toNat : Int) = Y at *
            have HBe := Lib.hid (And.intro hbe hne)
            have hj32i : (j : Int) < 32 := by omega
            clear x0 y0 hbe hne heq hbj
            obtain ⟨wq, hwq⟩ : ∃ x, x = wr := ⟨wr, rfl⟩
            subst hwq
            by_cases hq : x = y
            · have HXy : Hid ((X == Y) = true) := Lib.hid (beq_iff_eq.2 (hxy.2 hq))
              have HQ := Lib.hid hq
              clear hxy hq
              go_wp2_with fail
              refine Rel.wp_region_rel (G := Rel.Gr) (Rel.tab [.is (.int .i64 (j : Nat)), .is (.bool true), .is (.bool true), .is (.slice (some ⟨g7, 0, none⟩) 32 c7), .is (.int .i64 (j : Nat)), .is (.pointer (some ⟨g7, j, none⟩)), .is (.int .u8 X), .is (.slice (some ⟨g14, 0, none⟩) 8 c14), .is (.int .i64 (k : Nat)), .is (.pointer (some ⟨g14, k, none⟩)), .is (.slice (some ⟨sn.b, 0, none⟩) 32 sn.c), .is (.int .i64 (j : Nat)), .is (.pointer (some ⟨sn.b, j, none⟩)), .is (.int .u8 Y), .is (.bool true), .is (.bool true)]) (fun _ w => Below wq.heap.size wq w) (by kernel_rfl) (by kernel_rfl) (by kernel_rfl) (by kernel_rfl) (fun w => Rel.gr_refl _) (below_drew _) ?_ ?_
              · refine ⟨?_, ?_, ?_, ?_, ?_, ?_, ?_, ?_, ?_, ?_, ?_, ?_, ?_, ?_, ?_, ?_, trivial⟩
                · intro L a w c
                  refine .inl ⟨Rel.wanted_free (by kernel_rfl) _, ?_⟩
                  exact Rel.wp_mv _ rfl ⟨_, rfl, Rel.gr_refl _, (c.old 26 (v := .int .i64 (j : Nat)) (by kernel_rfl) (by kernel_rfl)), c.inv⟩
                · intro L a w c
                  refine .inl ⟨Rel.wanted_free (by kernel_rfl) _, ?_⟩
                  exact Rel.wp_bo _ _ _ _ _ rfl (u := .bool true) (c.get 0 126 (by kernel_rfl)) rfl (by simp [go_sem]; omega) ⟨_, rfl, Rel.gr_refl _, rfl, c.inv⟩
                · intro L a w c
                  refine .inl ⟨Rel.wanted_free (by kernel_rfl) _, ?_⟩
                  exact Rel.wp_mv _ rfl ⟨_, rfl, Rel.gr_refl _, (c.get 1 127 (by kernel_rfl)), c.inv⟩
                · intro L a w c
                  refine .inl ⟨Rel.wanted_by (j := 2) (b := true) (d := 128) (by kernel_rfl) (c.get 2 128 (by kernel_rfl)), ?_⟩
                  exact Rel.wp_mv _ rfl ⟨_, rfl, Rel.gr_refl _, (c.old 24 (v := .slice (some ⟨g7, 0, none⟩) 32 c7) (by kernel_rfl) (by kernel_rfl)), c.inv⟩
                · intro L a w c
                  refine .inl ⟨Rel.wanted_by (j := 2) (b := true) (d := 128) (by kernel_rfl) (c.get 2 128 (by kernel_rfl)), ?_⟩
                  exact Rel.wp_mv _ rfl ⟨_, rfl, Rel.gr_refl _, (c.old 26 (v := .int .i64 (j : Nat)) (by kernel_rfl) (by kernel_rfl)), c.inv⟩
                · intro L a w c
                  refine .inl ⟨Rel.wanted_by (j := 2) (b := true) (d := 128) (by kernel_rfl) (c.get 2 128 (by kernel_rfl)), ?_⟩
                  exact Rel.wp_ia _ _ _ rfl (c.get 3 129 (by kernel_rfl)) (c.get 4 130 (by kernel_rfl)) (by simp [go_sem]; omega) ⟨_, rfl, Rel.gr_refl _, rfl, c.inv⟩
                · intro L a w c
                  refine .inl ⟨Rel.wanted_by (j := 2) (b := true) (d := 128) (by kernel_rfl) (c.get 2 128 (by kernel_rfl)), ?_⟩
                  exact Rel.wp_ld _ _ rfl (c.get 5 131 (by kernel_rfl)) (run_ld_u8 (cell_keep c.inv HCj.out.1)) ⟨_, rfl, Rel.gr_refl _, rfl, c.inv⟩
                · intro L a w c
                  refine .inl ⟨Rel.wanted_by (j := 2) (b := true) (d := 128) (by kernel_rfl) (c.get 2 128 (by kernel_rfl)), ?_⟩
                  exact Rel.wp_mv _ rfl ⟨_, rfl, Rel.gr_refl _, (c.old 14 (v := .slice (some ⟨g14, 0, none⟩) 8 c14) (by kernel_rfl) (by kernel_rfl)), c.inv⟩
                · intro L a w c
                  refine .inl ⟨Rel.wanted_by (j := 2) (b := true) (d := 128) (by kernel_rfl) (c.get 2 128 (by kernel_rfl)), ?_⟩
                  exact Rel.wp_mv _ rfl ⟨_, rfl, Rel.gr_refl _, (c.old 23 (v := .int .i64 (k : Nat)) (by kernel_rfl) (by kernel_rfl)), c.inv⟩
                · intro L a w c
                  refine .inl ⟨Rel.wanted_by (j := 2) (b := true) (d := 128) (by kernel_rfl) (c.get 2 128 (by kernel_rfl)), ?_⟩
                  exact Rel.wp_ia _ _ _ rfl (c.get 7 133 (by kernel_rfl)) (c.get 8 134 (by kernel_rfl)) (by simp [go_sem]; omega) ⟨_, rfl, Rel.gr_refl _, rfl, c.inv⟩
                · intro L a w c
                  refine .inl ⟨Rel.wanted_by (j := 2) (b := true) (d := 128) (by kernel_rfl) (c.get 2 128 (by kernel_rfl)), ?_⟩
                  exact Rel.wp_ld _ _ rfl (c.get 9 135 (by kernel_rfl)) (run_ld_sl (cell_keep c.inv HCj.out.2.2)) ⟨_, rfl, Rel.gr_refl _, rfl, c.inv⟩
                · intro L a w c
                  refine .inl ⟨Rel.wanted_by (j := 2) (b := true) (d := 128) (by kernel_rfl) (c.get 2 128 (by kernel_rfl)), ?_⟩
                  exact Rel.wp_mv _ rfl ⟨_, rfl, Rel.gr_refl _, (c.old 26 (v := .int .i64 (j : Nat)) (by kernel_rfl) (by kernel_rfl)), c.inv⟩
                · intro L a w c
                  refine .inl ⟨Rel.wanted_by (j := 2) (b := true) (d := 128) (by kernel_rfl) (c.get 2 128 (by kernel_rfl)), ?_⟩
                  exact Rel.wp_ia _ _ _ rfl (c.get 10 136 (by kernel_rfl)) (c.get 11 137 (by kernel_rfl)) (by simp [go_sem]; omega) ⟨_, rfl, Rel.gr_refl _, rfl, c.inv⟩
                · intro L a w c
                  refine .inl ⟨Rel.wanted_by (j := 2) (b := true) (d := 128) (by kernel_rfl) (c.get 2 128 (by kernel_rfl)), ?_⟩
                  exact Rel.wp_ld _ _ rfl (c.get 12 138 (by kernel_rfl)) (run_ld_u8 (cell_keep c.inv HCj.out.2.1)) ⟨_, rfl, Rel.gr_refl _, rfl, c.inv⟩
                · intro L a w c
                  refine .inl ⟨Rel.wanted_by (j := 2) (b := true) (d := 128) (by kernel_rfl) (c.get 2 128 (by kernel_rfl)), ?_⟩
                  exact Rel.wp_bo _ _ _ _ _ rfl (u := .bool true) (c.get 6 132 (by kernel_rfl)) (c.get 13 139 (by kernel_rfl)) (by simp [go_sem, HXy.out]) ⟨_, rfl, Rel.gr_refl _, rfl, c.inv⟩
                · intro L a w c
                  refine .inl ⟨Rel.wanted_free (by kernel_rfl) _, ?_⟩
                  exact Rel.wp_pk _ _ _ rfl (b := true) (c.get 2 128 (by kernel_rfl)) ⟨_, rfl, Rel.gr_refl _, (c.get 14 140 (by kernel_rfl)), c.inv⟩
              intro a w9 hbase hroom hdef hJ hV
              have s141 : Rel.slot a 141 = .bool true := hV 15 _ _ rfl rfl
              rw [Chn.act_puts [126, 127, 128, 129, 130, 131, 132, 133, 134, 135, 136, 137, 138, 139, 140, 141] hbase hroom hdef (by kernel_rfl)]
              clear hbase hroom hdef hV
              simp only [List.foldl_cons, List.foldl_nil]
              generalize Rel.slot a 126 = u126 at *
              generalize Rel.slot a 127 = u127 at *
              generalize Rel.slot a 128 = u128 at *
              generalize Rel.slot a 129 = u129 at *
              generalize Rel.slot a 130 = u130 at *
              generalize Rel.slot a 131 = u131 at *
              generalize Rel.slot a 132 = u132 at *
              generalize Rel.slot a 133 = u133 at *
              generalize Rel.slot a 134 = u134 at *
              generalize Rel.slot a 135 = u135 at *
              generalize Rel.slot a 136 = u136 at *
              generalize Rel.slot a 137 = u137 at *
              generalize Rel.slot a 138 = u138 at *
              generalize Rel.slot a 139 = u139 at *
              generalize Rel.slot a 140 = u140 at *
              rw [s141]
              clear s141
              simp only [Act.put, List.setIfInBounds_toArray, List.set_cons_succ, List.set_cons_zero]
              have HB9 := Lib.hid (below_keep HJ.out.2 hJ)
              clear hJ
              go_wp2_with fail
              go_roundw
              case rel =>
                refine ⟨j + 1, by omega, by go_num, fun i hi => ?_, HB9.out⟩
                by_cases hij : i < j
                · exact HJ.out.1 i hij
                · obtain rfl : i = j := by omega
                  rw [HBe.out.1, HBe.out.2, HQ.out]
              case measure => simp [intOf]; omega
            · have HXy : Hid ((X == Y) = false) := Lib.hid (beq_eq_false_iff_ne.2 fun e => hq (hxy.1 e))
              have HQ := Lib.hid hq
              clear hxy hq
              go_wp2_with fail
              refine Rel.wp_region_rel (G := Rel.Gr) (Rel.tab [.is (.int .i64 (j : Nat)), .is (.bool true), .is (.bool true), .is (.slice (some ⟨g7, 0, none⟩) 32 c7), .is (.int .i64 (j : Nat)), .is (.pointer (some ⟨g7, j, none⟩)), .is (.int .u8 X), .is (.slice (some ⟨g14, 0, none⟩) 8 c14), .is (.int .i64 (k : Nat)), .is (.pointer (some ⟨g14, k, none⟩)), .is (.slice (some ⟨sn.b, 0, none⟩) 32 sn.c), .is (.int .i64 (j : Nat)), .is (.pointer (some ⟨sn.b, j, none⟩)), .is (.int .u8 Y), .is (.bool false), .is (.bool false)]) (fun _ w => Below wq.heap.size wq w) (by kernel_rfl) (by kernel_rfl) (by kernel_rfl) (by kernel_rfl) (fun w => Rel.gr_refl _) (below_drew _) ?_ ?_
              · refine ⟨?_, ?_, ?_, ?_, ?_, ?_, ?_, ?_, ?_, ?_, ?_, ?_, ?_, ?_, ?_, ?_, trivial⟩
                · intro L a w c
                  refine .inl ⟨Rel.wanted_free (by kernel_rfl) _, ?_⟩
                  exact Rel.wp_mv _ rfl ⟨_, rfl, Rel.gr_refl _, (c.old 26 (v := .int .i64 (j : Nat)) (by kernel_rfl) (by kernel_rfl)), c.inv⟩
                · intro L a w c
                  refine .inl ⟨Rel.wanted_free (by kernel_rfl) _, ?_⟩
                  exact Rel.wp_bo _ _ _ _ _ rfl (u := .bool true) (c.get 0 126 (by kernel_rfl)) rfl (by simp [go_sem]; omega) ⟨_, rfl, Rel.gr_refl _, rfl, c.inv⟩
                · intro L a w c
                  refine .inl ⟨Rel.wanted_free (by kernel_rfl) _, ?_⟩
                  exact Rel.wp_mv _ rfl ⟨_, rfl, Rel.gr_refl _, (c.get 1 127 (by kernel_rfl)), c.inv⟩
                · intro L a w c
                  refine .inl ⟨Rel.wanted_by (j := 2) (b := true) (d := 128) (by kernel_rfl) (c.get 2 128 (by kernel_rfl)), ?_⟩
                  exact Rel.wp_mv _ rfl ⟨_, rfl, Rel.gr_refl _, (c.old 24 (v := .slice (some ⟨g7, 0, none⟩) 32 c7) (by kernel_rfl) (by kernel_rfl)), c.inv⟩
                · intro L a w c
                  refine .inl ⟨Rel.wanted_by (j := 2) (b := true) (d := 128) (by kernel_rfl) (c.get 2 128 (by kernel_rfl)), ?_⟩
                  exact Rel.wp_mv _ rfl ⟨_, rfl, Rel.gr_refl _, (c.old 26 (v := .int .i64 (j : Nat)) (by kernel_rfl) (by kernel_rfl)), c.inv⟩
                · intro L a w c
                  refine .inl ⟨Rel.wanted_by (j := 2) (b := true) (d := 128) (by kernel_rfl) (c.get 2 128 (by kernel_rfl)), ?_⟩
                  exact Rel.wp_ia _ _ _ rfl (c.get 3 129 (by kernel_rfl)) (c.get 4 130 (by kernel_rfl)) (by simp [go_sem]; omega) ⟨_, rfl, Rel.gr_refl _, rfl, c.inv⟩
                · intro L a w c
                  refine .inl ⟨Rel.wanted_by (j := 2) (b := true) (d := 128) (by kernel_rfl) (c.get 2 128 (by kernel_rfl)), ?_⟩
                  exact Rel.wp_ld _ _ rfl (c.get 5 131 (by kernel_rfl)) (run_ld_u8 (cell_keep c.inv HCj.out.1)) ⟨_, rfl, Rel.gr_refl _, rfl, c.inv⟩
                · intro L a w c
                  refine .inl ⟨Rel.wanted_by (j := 2) (b := true) (d := 128) (by kernel_rfl) (c.get 2 128 (by kernel_rfl)), ?_⟩
                  exact Rel.wp_mv _ rfl ⟨_, rfl, Rel.gr_refl _, (c.old 14 (v := .slice (some ⟨g14, 0, none⟩) 8 c14) (by kernel_rfl) (by kernel_rfl)), c.inv⟩
                · intro L a w c
                  refine .inl ⟨Rel.wanted_by (j := 2) (b := true) (d := 128) (by kernel_rfl) (c.get 2 128 (by kernel_rfl)), ?_⟩
                  exact Rel.wp_mv _ rfl ⟨_, rfl, Rel.gr_refl _, (c.old 23 (v := .int .i64 (k : Nat)) (by kernel_rfl) (by kernel_rfl)), c.inv⟩
                · intro L a w c
                  refine .inl ⟨Rel.wanted_by (j := 2) (b := true) (d := 128) (by kernel_rfl) (c.get 2 128 (by kernel_rfl)), ?_⟩
                  exact Rel.wp_ia _ _ _ rfl (c.get 7 133 (by kernel_rfl)) (c.get 8 134 (by kernel_rfl)) (by simp [go_sem]; omega) ⟨_, rfl, Rel.gr_refl _, rfl, c.inv⟩
                · intro L a w c
                  refine .inl ⟨Rel.wanted_by (j := 2) (b := true) (d := 128) (by kernel_rfl) (c.get 2 128 (by kernel_rfl)), ?_⟩
                  exact Rel.wp_ld _ _ rfl (c.get 9 135 (by kernel_rfl)) (run_ld_sl (cell_keep c.inv HCj.out.2.2)) ⟨_, rfl, Rel.gr_refl _, rfl, c.inv⟩
                · intro L a w c
                  refine .inl ⟨Rel.wanted_by (j := 2) (b := true) (d := 128) (by kernel_rfl) (c.get 2 128 (by kernel_rfl)), ?_⟩
                  exact Rel.wp_mv _ rfl ⟨_, rfl, Rel.gr_refl _, (c.old 26 (v := .int .i64 (j : Nat)) (by kernel_rfl) (by kernel_rfl)), c.inv⟩
                · intro L a w c
                  refine .inl ⟨Rel.wanted_by (j := 2) (b := true) (d := 128) (by kernel_rfl) (c.get 2 128 (by kernel_rfl)), ?_⟩
                  exact Rel.wp_ia _ _ _ rfl (c.get 10 136 (by kernel_rfl)) (c.get 11 137 (by kernel_rfl)) (by simp [go_sem]; omega) ⟨_, rfl, Rel.gr_refl _, rfl, c.inv⟩
                · intro L a w c
                  refine .inl ⟨Rel.wanted_by (j := 2) (b := true) (d := 128) (by kernel_rfl) (c.get 2 128 (by kernel_rfl)), ?_⟩
                  exact Rel.wp_ld _ _ rfl (c.get 12 138 (by kernel_rfl)) (run_ld_u8 (cell_keep c.inv HCj.out.2.1)) ⟨_, rfl, Rel.gr_refl _, rfl, c.inv⟩
                · intro L a w c
                  refine .inl ⟨Rel.wanted_by (j := 2) (b := true) (d := 128) (by kernel_rfl) (c.get 2 128 (by kernel_rfl)), ?_⟩
                  exact Rel.wp_bo _ _ _ _ _ rfl (u := .bool false) (c.get 6 132 (by kernel_rfl)) (c.get 13 139 (by kernel_rfl)) (by simp [go_sem, HXy.out]) ⟨_, rfl, Rel.gr_refl _, rfl, c.inv⟩
                · intro L a w c
                  refine .inl ⟨Rel.wanted_free (by kernel_rfl) _, ?_⟩
                  exact Rel.wp_pk _ _ _ rfl (b := true) (c.get 2 128 (by kernel_rfl)) ⟨_, rfl, Rel.gr_refl _, (c.get 14 140 (by kernel_rfl)), c.inv⟩
              intro a w9 hbase hroom hdef hJ hV
              have s141 : Rel.slot a 141 = .bool false := hV 15 _ _ rfl rfl
              rw [Chn.act_puts [126, 127, 128, 129, 130, 131, 132, 133, 134, 135, 136, 137, 138, 139, 140, 141] hbase hroom hdef (by kernel_rfl)]
              clear hbase hroom hdef hV
              simp only [List.foldl_cons, List.foldl_nil]
              generalize Rel.slot a 126 = u126 at *
              generalize Rel.slot a 127 = u127 at *
              generalize Rel.slot a 128 = u128 at *
              generalize Rel.slot a 129 = u129 at *
              generalize Rel.slot a 130 = u130 at *
              generalize Rel.slot a 131 = u131 at *
              generalize Rel.slot a 132 = u132 at *
              generalize Rel.slot a 133 = u133 at *
              generalize Rel.slot a 134 = u134 at *
              generalize Rel.slot a 135 = u135 at *
              generalize Rel.slot a 136 = u136 at *
              generalize Rel.slot a 137 = u137 at *
              generalize Rel.slot a 138 = u138 at *
              generalize Rel.slot a 139 = u139 at *
              generalize Rel.slot a 140 = u140 at *
              rw [s141]
              clear s141
              simp only [Act.put, List.setIfInBounds_toArray, List.set_cons_succ, List.set_cons_zero]
              have HB9 := Lib.hid (below_keep HJ.out.2 hJ)
              clear hJ
              go_wp2_with fail
              go_meet
              case rel => exact ⟨j, rfl, by omega, HJ.out.1, fun _ e => HQ.out (by rw [HBe.out.1, HBe.out.2] at e; injection e), HB9.out⟩
          · clear heq hbj
            obtain ⟨wq, hwq⟩ : ∃ x, x = wr := ⟨wr, rfl⟩
            subst hwq
            go_wp2_with fail
            refine Rel.wp_region_rel (G := Rel.Gr) (Rel.tab [.is (.int .i64 (j : Nat)), .is (.bool false), .is (.bool false), .is undef, .is undef, .is undef, .is undef, .is undef, .is undef, .is undef, .is undef, .is undef, .is undef, .is undef, .is undef, .is (.bool false)]) (fun _ w => Below wq.heap.size wq w) (by kernel_rfl) (by kernel_rfl) (by kernel_rfl) (by kernel_rfl) (fun w => Rel.gr_refl _) (below_drew _) ?_ ?_
            · refine ⟨?_, ?_, ?_, ?_, ?_, ?_, ?_, ?_, ?_, ?_, ?_, ?_, ?_, ?_, ?_, ?_, trivial⟩
              · intro L a w c
                refine .inl ⟨Rel.wanted_free (by kernel_rfl) _, ?_⟩
                exact Rel.wp_mv _ rfl ⟨_, rfl, Rel.gr_refl _, (c.old 26 (v := .int .i64 (j : Nat)) (by kernel_rfl) (by kernel_rfl)), c.inv⟩
              · intro L a w c
                refine .inl ⟨Rel.wanted_free (by kernel_rfl) _, ?_⟩
                exact Rel.wp_bo _ _ _ _ _ rfl (u := .bool false) (c.get 0 126 (by kernel_rfl)) rfl (by simp [go_sem]; omega) ⟨_, rfl, Rel.gr_refl _, rfl, c.inv⟩
              · intro L a w c
                refine .inl ⟨Rel.wanted_free (by kernel_rfl) _, ?_⟩
                exact Rel.wp_mv _ rfl ⟨_, rfl, Rel.gr_refl _, (c.get 1 127 (by kernel_rfl)), c.inv⟩
              · intro L a w c
                exact .inr ⟨Chn.wanted_not (j := 2) (b := true) (d := 128) (by kernel_rfl) (c.get 2 128 (by kernel_rfl)), rfl, c.inv⟩
              · intro L a w c
                exact .inr ⟨Chn.wanted_not (j := 2) (b := true) (d := 128) (by kernel_rfl) (c.get 2 128 (by kernel_rfl)), rfl, c.inv⟩
              · intro L a w c
                exact .inr ⟨Chn.wanted_not (j := 2) (b := true) (d := 128) (by kernel_rfl) (c.get 2 128 (by kernel_rfl)), rfl, c.inv⟩
              · intro L a w c
                exact .inr ⟨Chn.wanted_not (j := 2) (b := true) (d := 128) (by kernel_rfl) (c.get 2 128 (by kernel_rfl)), rfl, c.inv⟩
              · intro L a w c
                exact .inr ⟨Chn.wanted_not (j := 2) (b := true) (d := 128) (by kernel_rfl) (c.get 2 128 (by kernel_rfl)), rfl, c.inv⟩
              · intro L a w c
                exact .inr ⟨Chn.wanted_not (j := 2) (b := true) (d := 128) (by kernel_rfl) (c.get 2 128 (by kernel_rfl)), rfl, c.inv⟩
              · intro L a w c
                exact .inr ⟨Chn.wanted_not (j := 2) (b := true) (d := 128) (by kernel_rfl) (c.get 2 128 (by kernel_rfl)), rfl, c.inv⟩
              · intro L a w c
                exact .inr ⟨Chn.wanted_not (j := 2) (b := true) (d := 128) (by kernel_rfl) (c.get 2 128 (by kernel_rfl)), rfl, c.inv⟩
              · intro L a w c
                exact .inr ⟨Chn.wanted_not (j := 2) (b := true) (d := 128) (by kernel_rfl) (c.get 2 128 (by kernel_rfl)), rfl, c.inv⟩
              · intro L a w c
                exact .inr ⟨Chn.wanted_not (j := 2) (b := true) (d := 128) (by kernel_rfl) (c.get 2 128 (by kernel_rfl)), rfl, c.inv⟩
              · intro L a w c
                exact .inr ⟨Chn.wanted_not (j := 2) (b := true) (d := 128) (by kernel_rfl) (c.get 2 128 (by kernel_rfl)), rfl, c.inv⟩
              · intro L a w c
                exact .inr ⟨Chn.wanted_not (j := 2) (b := true) (d := 128) (by kernel_rfl) (c.get 2 128 (by kernel_rfl)), rfl, c.inv⟩
              · intro L a w c
                refine .inl ⟨Rel.wanted_free (by kernel_rfl) _, ?_⟩
                exact Rel.wp_pk _ _ _ rfl (b := false) (c.get 2 128 (by kernel_rfl)) ⟨_, rfl, Rel.gr_refl _, rfl, c.inv⟩
            intro a w9 hbase hroom hdef hJ hV
            have s141 : Rel.slot a 141 = .bool false := hV 15 _ _ rfl rfl
            rw [Chn.act_puts [126, 127, 128, 129, 130, 131, 132, 133, 134, 135, 136, 137, 138, 139, 140, 141] hbase hroom hdef (by kernel_rfl)]
            clear hbase hroom hdef hV
            simp only [List.foldl_cons, List.foldl_nil]
            generalize Rel.slot a 126 = u126 at *
            generalize Rel.slot a 127 = u127 at *
            generalize Rel.slot a 128 = u128 at *
            generalize Rel.slot a 129 = u129 at *
            generalize Rel.slot a 130 = u130 at *
            generalize Rel.slot a 131 = u131 at *
            generalize Rel.slot a 132 = u132 at *
            generalize Rel.slot a 133 = u133 at *
            generalize Rel.slot a 134 = u134 at *
            generalize Rel.slot a 135 = u135 at *
            generalize Rel.slot a 136 = u136 at *
            generalize Rel.slot a 137 = u137 at *
            generalize Rel.slot a 138 = u138 at *
            generalize Rel.slot a 139 = u139 at *
            generalize Rel.slot a 140 = u140 at *
            rw [s141]
            clear s141
            simp only [Act.put, List.setIfInBounds_toArray, List.set_cons_succ, List.set_cons_zero]
            have HB9 := Lib.hid (below_keep HJ.out.2 hJ)
            clear hJ
            go_wp2_with fail
            go_meet
            case rel => exact ⟨j, rfl, by omega, HJ.out.1, fun h => by omega, HB9.out⟩
       case rest =>
        obtain ⟨K, rfl, hK, heq, hne, hb9⟩ := hcut
        have HK := Lib.hid (And.intro heq hne)
        have HRo := Lib.hid (And.intro (row_keep encB_len HRw.out.1 hb9) (And.intro (row_keep encB_len HRw.out.2.1 hb9) (row_keep encB_len HRw.out.2.2 hb9)))
        have HCo := Lib.hid (And.intro (cell_keep hb9 HC7.out.1) (cell_keep hb9 HC7.out.2))
        have HO9 := Lib.hid (And.intro (one_keep hD HO7.out.1 hb9) (And.intro (below_keep HO7.out.2.1 hb9) (below_keep HO7.out.2.2 hb9)))
        clear heq hne hb9
        by_cases h1 : b = old
        · have HE1 : Hid ((⟨b.toArray⟩ : ByteArray) = ⟨old.toArray⟩) := Lib.hid (by rw [h1])
          clear h1
          go_wp2_with fail
          refine Rel.wp_region_rel (G := Rel.Gr) (Rel.tab [.is (.slice (some ⟨g7, 0, none⟩) 32 c7), .is (.string ⟨b.toArray⟩), .is (.slice (some ⟨g13, 0, none⟩) 8 c13), .is (.int .i64 (k : Nat)), .is (.pointer (some ⟨g13, k, none⟩)), .is (.slice (some ⟨so.b, 0, none⟩) 32 so.c), .is (.string ⟨old.toArray⟩), .is (.bool false), .is (.bool false), .is undef, .is undef, .is undef, .is undef, .is undef, .is undef, .is undef, .is undef, .is (.bool false)]) (fun _ w => Below wc.heap.size wc w) (by kernel_rfl) (by kernel_rfl) (by kernel_rfl) (by kernel_rfl) (fun w => Rel.gr_refl _) (below_drew _) ?_ ?_
          · refine ⟨?_, ?_, ?_, ?_, ?_, ?_, ?_, ?_, ?_, ?_, ?_, ?_, ?_, ?_, ?_, ?_, ?_, ?_, trivial⟩
            · intro L a w c
              refine .inl ⟨Rel.wanted_free (by kernel_rfl) _, ?_⟩
              exact Rel.wp_mv _ rfl ⟨_, rfl, Rel.gr_refl _, (c.old 24 (v := .slice (some ⟨g7, 0, none⟩) 32 c7) (by kernel_rfl) (by kernel_rfl)), c.inv⟩
            · intro L a w c
              refine .inl ⟨Rel.wanted_free (by kernel_rfl) _, ?_⟩
              exact Rel.wp_cv _ _ _ rfl (c.get 0 144 (by kernel_rfl)) (KC.out w _ _ _ b HM.out.1 (fun h => by cases h) (row_keep encB_len HRo.out.1 c.inv)) ⟨_, rfl, Rel.gr_refl _, rfl, c.inv⟩
            · intro L a w c
              refine .inl ⟨Rel.wanted_free (by kernel_rfl) _, ?_⟩
              exact Rel.wp_mv _ rfl ⟨_, rfl, Rel.gr_refl _, (c.old 13 (v := .slice (some ⟨g13, 0, none⟩) 8 c13) (by kernel_rfl) (by kernel_rfl)), c.inv⟩
            · intro L a w c
              refine .inl ⟨Rel.wanted_free (by kernel_rfl) _, ?_⟩
              exact Rel.wp_mv _ rfl ⟨_, rfl, Rel.gr_refl _, (c.old 23 (v := .int .i64 (k : Nat)) (by kernel_rfl) (by kernel_rfl)), c.inv⟩
            · intro L a w c
              refine .inl ⟨Rel.wanted_free (by kernel_rfl) _, ?_⟩
              exact Rel.wp_ia _ _ _ rfl (c.get 2 146 (by kernel_rfl)) (c.get 3 147 (by kernel_rfl)) (by simp [go_sem]; omega) ⟨_, rfl, Rel.gr_refl _, rfl, c.inv⟩
            · intro L a w c
              refine .inl ⟨Rel.wanted_free (by kernel_rfl) _, ?_⟩
              exact Rel.wp_ld _ _ rfl (c.get 4 148 (by kernel_rfl)) (run_ld_sl (cell_keep c.inv HCo.out.1)) ⟨_, rfl, Rel.gr_refl _, rfl, c.inv⟩
            · intro L a w c
              refine .inl ⟨Rel.wanted_free (by kernel_rfl) _, ?_⟩
              exact Rel.wp_cv _ _ _ rfl (c.get 5 149 (by kernel_rfl)) (KC.out w _ _ _ old HM.out.2.1 (fun h => by cases h) (row_keep encB_len HRo.out.2.1 c.inv)) ⟨_, rfl, Rel.gr_refl _, rfl, c.inv⟩
            · intro L a w c
              refine .inl ⟨Rel.wanted_free (by kernel_rfl) _, ?_⟩
              exact Rel.wp_bo _ _ _ _ _ rfl (u := .bool false) (c.get 1 145 (by kernel_rfl)) (c.get 6 150 (by kernel_rfl)) (by simp [go_sem, HE1.out]) ⟨_, rfl, Rel.gr_refl _, rfl, c.inv⟩
            · intro L a w c
              refine .inl ⟨Rel.wanted_free (by kernel_rfl) _, ?_⟩
              exact Rel.wp_mv _ rfl ⟨_, rfl, Rel.gr_refl _, (c.get 7 151 (by kernel_rfl)), c.inv⟩
            · intro L a w c
              exact .inr ⟨Chn.wanted_not (j := 8) (b := true) (d := 152) (by kernel_rfl) (c.get 8 152 (by kernel_rfl)), rfl, c.inv⟩
            · intro L a w c
              exact .inr ⟨Chn.wanted_not (j := 8) (b := true) (d := 152) (by kernel_rfl) (c.get 8 152 (by kernel_rfl)), rfl, c.inv⟩
            · intro L a w c
              exact .inr ⟨Chn.wanted_not (j := 8) (b := true) (d := 152) (by kernel_rfl) (c.get 8 152 (by kernel_rfl)), rfl, c.inv⟩
            · intro L a w c
              exact .inr ⟨Chn.wanted_not (j := 8) (b := true) (d := 152) (by kernel_rfl) (c.get 8 152 (by kernel_rfl)), rfl, c.inv⟩
            · intro L a w c
              exact .inr ⟨Chn.wanted_not (j := 8) (b := true) (d := 152) (by kernel_rfl) (c.get 8 152 (by kernel_rfl)), rfl, c.inv⟩
            · intro L a w c
              exact .inr ⟨Chn.wanted_not (j := 8) (b := true) (d := 152) (by kernel_rfl) (c.get 8 152 (by kernel_rfl)), rfl, c.inv⟩
            · intro L a w c
              exact .inr ⟨Chn.wanted_not (j := 8) (b := true) (d := 152) (by kernel_rfl) (c.get 8 152 (by kernel_rfl)), rfl, c.inv⟩
            · intro L a w c
              exact .inr ⟨Chn.wanted_not (j := 8) (b := true) (d := 152) (by kernel_rfl) (c.get 8 152 (by kernel_rfl)), rfl, c.inv⟩
            · intro L a w c
              refine .inl ⟨Rel.wanted_free (by kernel_rfl) _, ?_⟩
              exact Rel.wp_pk _ _ _ rfl (b := false) (c.get 8 152 (by kernel_rfl)) ⟨_, rfl, Rel.gr_refl _, rfl, c.inv⟩
          intro a w9 hbase hroom hdef hJ hV
          have s161 : Rel.slot a 161 = .bool false := hV 17 _ _ rfl rfl
          rw [Chn.act_puts [144, 145, 146, 147, 148, 149, 150, 151, 152, 153, 154, 155, 156, 157, 158, 159, 160, 161] hbase hroom hdef (by kernel_rfl)]
          clear hbase hroom hdef hV
          simp only [List.foldl_cons, List.foldl_nil]
          generalize Rel.slot a 144 = u144 at *
          generalize Rel.slot a 145 = u145 at *
          generalize Rel.slot a 146 = u146 at *
          generalize Rel.slot a 147 = u147 at *
          generalize Rel.slot a 148 = u148 at *
          generalize Rel.slot a 149 = u149 at *
          generalize Rel.slot a 150 = u150 at *
          generalize Rel.slot a 151 = u151 at *
          generalize Rel.slot a 152 = u152 at *
          generalize Rel.slot a 153 = u153 at *
          generalize Rel.slot a 154 = u154 at *
          generalize Rel.slot a 155 = u155 at *
          generalize Rel.slot a 156 = u156 at *
          generalize Rel.slot a 157 = u157 at *
          generalize Rel.slot a 158 = u158 at *
          generalize Rel.slot a 159 = u159 at *
          generalize Rel.slot a 160 = u160 at *
          rw [s161]
          clear s161
          simp only [Act.put, List.setIfInBounds_toArray, List.set_cons_succ, List.set_cons_zero]
          have HO10 := Lib.hid (And.intro (one_keep hD HO9.out.1 hJ) (And.intro (below_keep HO9.out.2.1 hJ) (below_keep HO9.out.2.2 hJ)))
          clear hJ
          go_wp2_with fail
          go_roundw
          case rel => exact ⟨k + 1, mx, by omega, by go_num, rfl, hMx.out.imp id fun h => ⟨h.1, by omega⟩, HO10.out.1, HO10.out.2.1, HO10.out.2.2⟩
          case measure => simp [intOf]; omega
        · have HE1 := Lib.hid h1
          by_cases h2 : b = new
          · have HE2 : Hid ((⟨b.toArray⟩ : ByteArray) = ⟨new.toArray⟩) := Lib.hid (by rw [h2])
            clear h1 h2
            go_wp2_with fail
            refine Rel.wp_region_rel (G := Rel.Gr) (Rel.tab [.is (.slice (some ⟨g7, 0, none⟩) 32 c7), .is (.string ⟨b.toArray⟩), .is (.slice (some ⟨g13, 0, none⟩) 8 c13), .is (.int .i64 (k : Nat)), .is (.pointer (some ⟨g13, k, none⟩)), .is (.slice (some ⟨so.b, 0, none⟩) 32 so.c), .is (.string ⟨old.toArray⟩), .is (.bool true), .is (.bool true), .is (.slice (some ⟨g7, 0, none⟩) 32 c7), .is (.string ⟨b.toArray⟩), .is (.slice (some ⟨g14, 0, none⟩) 8 c14), .is (.int .i64 (k : Nat)), .is (.pointer (some ⟨g14, k, none⟩)), .is (.slice (some ⟨sn.b, 0, none⟩) 32 sn.c), .is (.string ⟨new.toArray⟩), .is (.bool false), .is (.bool false)]) (fun _ w => Below wc.heap.size wc w) (by kernel_rfl) (by kernel_rfl) (by kernel_rfl) (by kernel_rfl) (fun w => Rel.gr_refl _) (below_drew _) ?_ ?_
            · refine ⟨?_, ?_, ?_, ?_, ?_, ?_, ?_, ?_, ?_, ?_, ?_, ?_, ?_, ?_, ?_, ?_, ?_, ?_, trivial⟩
              · intro L a w c
                refine .inl ⟨Rel.wanted_free (by kernel_rfl) _, ?_⟩
                exact Rel.wp_mv _ rfl ⟨_, rfl, Rel.gr_refl _, (c.old 24 (v := .slice (some ⟨g7, 0, none⟩) 32 c7) (by kernel_rfl) (by kernel_rfl)), c.inv⟩
              · intro L a w c
                refine .inl ⟨Rel.wanted_free (by kernel_rfl) _, ?_⟩
                exact Rel.wp_cv _ _ _ rfl (c.get 0 144 (by kernel_rfl)) (KC.out w _ _ _ b HM.out.1 (fun h => by cases h) (row_keep encB_len HRo.out.1 c.inv)) ⟨_, rfl, Rel.gr_refl _, rfl, c.inv⟩
              · intro L a w c
                refine .inl ⟨Rel.wanted_free (by kernel_rfl) _, ?_⟩
                exact Rel.wp_mv _ rfl ⟨_, rfl, Rel.gr_refl _, (c.old 13 (v := .slice (some ⟨g13, 0, none⟩) 8 c13) (by kernel_rfl) (by kernel_rfl)), c.inv⟩
              · intro L a w c
                refine .inl ⟨Rel.wanted_free (by kernel_rfl) _, ?_⟩
                exact Rel.wp_mv _ rfl ⟨_, rfl, Rel.gr_refl _, (c.old 23 (v := .int .i64 (k : Nat)) (by kernel_rfl) (by kernel_rfl)), c.inv⟩
              · intro L a w c
                refine .inl ⟨Rel.wanted_free (by kernel_rfl) _, ?_⟩
                exact Rel.wp_ia _ _ _ rfl (c.get 2 146 (by kernel_rfl)) (c.get 3 147 (by kernel_rfl)) (by simp [go_sem]; omega) ⟨_, rfl, Rel.gr_refl _, rfl, c.inv⟩
              · intro L a w c
                refine .inl ⟨Rel.wanted_free (by kernel_rfl) _, ?_⟩
                exact Rel.wp_ld _ _ rfl (c.get 4 148 (by kernel_rfl)) (run_ld_sl (cell_keep c.inv HCo.out.1)) ⟨_, rfl, Rel.gr_refl _, rfl, c.inv⟩
              · intro L a w c
                refine .inl ⟨Rel.wanted_free (by kernel_rfl) _, ?_⟩
                exact Rel.wp_cv _ _ _ rfl (c.get 5 149 (by kernel_rfl)) (KC.out w _ _ _ old HM.out.2.1 (fun h => by cases h) (row_keep encB_len HRo.out.2.1 c.inv)) ⟨_, rfl, Rel.gr_refl _, rfl, c.inv⟩
              · intro L a w c
                refine .inl ⟨Rel.wanted_free (by kernel_rfl) _, ?_⟩
                exact Rel.wp_bo _ _ _ _ _ rfl (u := .bool true) (c.get 1 145 (by kernel_rfl)) (c.get 6 150 (by kernel_rfl)) (by simp [go_sem]; exact HE1.out) ⟨_, rfl, Rel.gr_refl _, rfl, c.inv⟩
              · intro L a w c
                refine .inl ⟨Rel.wanted_free (by kernel_rfl) _, ?_⟩
                exact Rel.wp_mv _ rfl ⟨_, rfl, Rel.gr_refl _, (c.get 7 151 (by kernel_rfl)), c.inv⟩
              · intro L a w c
                refine .inl ⟨Rel.wanted_by (j := 8) (b := true) (d := 152) (by kernel_rfl) (c.get 8 152 (by kernel_rfl)), ?_⟩
                exact Rel.wp_mv _ rfl ⟨_, rfl, Rel.gr_refl _, (c.old 24 (v := .slice (some ⟨g7, 0, none⟩) 32 c7) (by kernel_rfl) (by kernel_rfl)), c.inv⟩
              · intro L a w c
                refine .inl ⟨Rel.wanted_by (j := 8) (b := true) (d := 152) (by kernel_rfl) (c.get 8 152 (by kernel_rfl)), ?_⟩
                exact Rel.wp_cv _ _ _ rfl (c.get 9 153 (by kernel_rfl)) (KC.out w _ _ _ b HM.out.1 (fun h => by cases h) (row_keep encB_len HRo.out.1 c.inv)) ⟨_, rfl, Rel.gr_refl _, rfl, c.inv⟩
              · intro L a w c
                refine .inl ⟨Rel.wanted_by (j := 8) (b := true) (d := 152) (by kernel_rfl) (c.get 8 152 (by kernel_rfl)), ?_⟩
                exact Rel.wp_mv _ rfl ⟨_, rfl, Rel.gr_refl _, (c.old 14 (v := .slice (some ⟨g14, 0, none⟩) 8 c14) (by kernel_rfl) (by kernel_rfl)), c.inv⟩
              · intro L a w c
                refine .inl ⟨Rel.wanted_by (j := 8) (b := true) (d := 152) (by kernel_rfl) (c.get 8 152 (by kernel_rfl)), ?_⟩
                exact Rel.wp_mv _ rfl ⟨_, rfl, Rel.gr_refl _, (c.old 23 (v := .int .i64 (k : Nat)) (by kernel_rfl) (by kernel_rfl)), c.inv⟩
              · intro L a w c
                refine .inl ⟨Rel.wanted_by (j := 8) (b := true) (d := 152) (by kernel_rfl) (c.get 8 152 (by kernel_rfl)), ?_⟩
                exact Rel.wp_ia _ _ _ rfl (c.get 11 155 (by kernel_rfl)) (c.get 12 156 (by kernel_rfl)) (by simp [go_sem]; omega) ⟨_, rfl, Rel.gr_refl _, rfl, c.inv⟩
              · intro L a w c
                refine .inl ⟨Rel.wanted_by (j := 8) (b := true) (d := 152) (by kernel_rfl) (c.get 8 152 (by kernel_rfl)), ?_⟩
                exact Rel.wp_ld _ _ rfl (c.get 13 157 (by kernel_rfl)) (run_ld_sl (cell_keep c.inv HCo.out.2)) ⟨_, rfl, Rel.gr_refl _, rfl, c.inv⟩
              · intro L a w c
                refine .inl ⟨Rel.wanted_by (j := 8) (b := true) (d := 152) (by kernel_rfl) (c.get 8 152 (by kernel_rfl)), ?_⟩
                exact Rel.wp_cv _ _ _ rfl (c.get 14 158 (by kernel_rfl)) (KC.out w _ _ _ new HM.out.2.2.1 (fun h => by cases h) (row_keep encB_len HRo.out.2.2 c.inv)) ⟨_, rfl, Rel.gr_refl _, rfl, c.inv⟩
              · intro L a w c
                refine .inl ⟨Rel.wanted_by (j := 8) (b := true) (d := 152) (by kernel_rfl) (c.get 8 152 (by kernel_rfl)), ?_⟩
                exact Rel.wp_bo _ _ _ _ _ rfl (u := .bool false) (c.get 10 154 (by kernel_rfl)) (c.get 15 159 (by kernel_rfl)) (by simp [go_sem, HE2.out]) ⟨_, rfl, Rel.gr_refl _, rfl, c.inv⟩
              · intro L a w c
                refine .inl ⟨Rel.wanted_free (by kernel_rfl) _, ?_⟩
                exact Rel.wp_pk _ _ _ rfl (b := true) (c.get 8 152 (by kernel_rfl)) ⟨_, rfl, Rel.gr_refl _, (c.get 16 160 (by kernel_rfl)), c.inv⟩
            intro a w9 hbase hroom hdef hJ hV
            have s161 : Rel.slot a 161 = .bool false := hV 17 _ _ rfl rfl
            rw [Chn.act_puts [144, 145, 146, 147, 148, 149, 150, 151, 152, 153, 154, 155, 156, 157, 158, 159, 160, 161] hbase hroom hdef (by kernel_rfl)]
            clear hbase hroom hdef hV
            simp only [List.foldl_cons, List.foldl_nil]
            generalize Rel.slot a 144 = u144 at *
            generalize Rel.slot a 145 = u145 at *
            generalize Rel.slot a 146 = u146 at *
            generalize Rel.slot a 147 = u147 at *
            generalize Rel.slot a 148 = u148 at *
            generalize Rel.slot a 149 = u149 at *
            generalize Rel.slot a 150 = u150 at *
            generalize Rel.slot a 151 = u151 at *
            generalize Rel.slot a 152 = u152 at *
            generalize Rel.slot a 153 = u153 at *
            generalize Rel.slot a 154 = u154 at *
            generalize Rel.slot a 155 = u155 at *
            generalize Rel.slot a 156 = u156 at *
            generalize Rel.slot a 157 = u157 at *
            generalize Rel.slot a 158 = u158 at *
            generalize Rel.slot a 159 = u159 at *
            generalize Rel.slot a 160 = u160 at *
            rw [s161]
            clear s161
            simp only [Act.put, List.setIfInBounds_toArray, List.set_cons_succ, List.set_cons_zero]
            have HO10 := Lib.hid (And.intro (one_keep hD HO9.out.1 hJ) (And.intro (below_keep HO9.out.2.1 hJ) (below_keep HO9.out.2.2 hJ)))
            clear hJ
            go_wp2_with fail
            go_roundw
            case rel => exact ⟨k + 1, mx, by omega, by go_num, rfl, hMx.out.imp id fun h => ⟨h.1, by omega⟩, HO10.out.1, HO10.out.2.1, HO10.out.2.2⟩
            case measure => simp [intOf]; omega
          · have HE2 := Lib.hid h2
            have hkq := HM.out.2.2.2.2.2 h1 h2
            have hmx0 : mx = 0 := by
              rcases hMx.out with h | ⟨_, h⟩
              · exact h
              · omega
            have hK32 : K < 32 := by
              rcases Nat.lt_or_ge K 32 with h | h
              · exact h
              · exfalso
                apply h2
                apply List.ext_getElem?
                intro i
                by_cases hi : i < 32
                · exact HK.out.1 i (by omega)
                · rw [List.getElem?_eq_none (by rw [HM.out.1]; omega), List.getElem?_eq_none (by rw [HM.out.2.2.1]; omega)]
            have hdrop : b.drop K = old.drop K := by
              have h3 := HM.out.2.2.2.2.1
              have hneK := HK.out.2 hK32
              rw [h3] at hneK ⊢
              exact drop_mixed HM.out.2.1 HM.out.2.2.1 HM.out.2.2.2.1 hneK
            subst hmx0
            have HDr := Lib.hid hdrop
            have HKq := Lib.hid hkq
            clear h1 h2 hdrop hkq
            go_wp2_with fail
            refine Rel.wp_region_rel (G := Rel.Gr) (Rel.tab [.is (.slice (some ⟨g7, 0, none⟩) 32 c7), .is (.string ⟨b.toArray⟩), .is (.slice (some ⟨g13, 0, none⟩) 8 c13), .is (.int .i64 (k : Nat)), .is (.pointer (some ⟨g13, k, none⟩)), .is (.slice (some ⟨so.b, 0, none⟩) 32 so.c), .is (.string ⟨old.toArray⟩), .is (.bool true), .is (.bool true), .is (.slice (some ⟨g7, 0, none⟩) 32 c7), .is (.string ⟨b.toArray⟩), .is (.slice (some ⟨g14, 0, none⟩) 8 c14), .is (.int .i64 (k : Nat)), .is (.pointer (some ⟨g14, k, none⟩)), .is (.slice (some ⟨sn.b, 0, none⟩) 32 sn.c), .is (.string ⟨new.toArray⟩), .is (.bool true), .is (.bool true)]) (fun _ w => Below wc.heap.size wc w) (by kernel_rfl) (by kernel_rfl) (by kernel_rfl) (by kernel_rfl) (fun w => Rel.gr_refl _) (below_drew _) ?_ ?_
            · refine ⟨?_, ?_, ?_, ?_, ?_, ?_, ?_, ?_, ?_, ?_, ?_, ?_, ?_, ?_, ?_, ?_, ?_, ?_, trivial⟩
              · intro L a w c
                refine .inl ⟨Rel.wanted_free (by kernel_rfl) _, ?_⟩
                exact Rel.wp_mv _ rfl ⟨_, rfl, Rel.gr_refl _, (c.old 24 (v := .slice (some ⟨g7, 0, none⟩) 32 c7) (by kernel_rfl) (by kernel_rfl)), c.inv⟩
              · intro L a w c
                refine .inl ⟨Rel.wanted_free (by kernel_rfl) _, ?_⟩
                exact Rel.wp_cv _ _ _ rfl (c.get 0 144 (by kernel_rfl)) (KC.out w _ _ _ b HM.out.1 (fun h => by cases h) (row_keep encB_len HRo.out.1 c.inv)) ⟨_, rfl, Rel.gr_refl _, rfl, c.inv⟩
              · intro L a w c
                refine .inl ⟨Rel.wanted_free (by kernel_rfl) _, ?_⟩
                exact Rel.wp_mv _ rfl ⟨_, rfl, Rel.gr_refl _, (c.old 13 (v := .slice (some ⟨g13, 0, none⟩) 8 c13) (by kernel_rfl) (by kernel_rfl)), c.inv⟩
              · intro L a w c
                refine .inl ⟨Rel.wanted_free (by kernel_rfl) _, ?_⟩
                exact Rel.wp_mv _ rfl ⟨_, rfl, Rel.gr_refl _, (c.old 23 (v := .int .i64 (k : Nat)) (by kernel_rfl) (by kernel_rfl)), c.inv⟩
              · intro L a w c
                refine .inl ⟨Rel.wanted_free (by kernel_rfl) _, ?_⟩
                exact Rel.wp_ia _ _ _ rfl (c.get 2 146 (by kernel_rfl)) (c.get 3 147 (by kernel_rfl)) (by simp [go_sem]; omega) ⟨_, rfl, Rel.gr_refl _, rfl, c.inv⟩
              · intro L a w c
                refine .inl ⟨Rel.wanted_free (by kernel_rfl) _, ?_⟩
                exact Rel.wp_ld _ _ rfl (c.get 4 148 (by kernel_rfl)) (run_ld_sl (cell_keep c.inv HCo.out.1)) ⟨_, rfl, Rel.gr_refl _, rfl, c.inv⟩
              · intro L a w c
                refine .inl ⟨Rel.wanted_free (by kernel_rfl) _, ?_⟩
                exact Rel.wp_cv _ _ _ rfl (c.get 5 149 (by kernel_rfl)) (KC.out w _ _ _ old HM.out.2.1 (fun h => by cases h) (row_keep encB_len HRo.out.2.1 c.inv)) ⟨_, rfl, Rel.gr_refl _, rfl, c.inv⟩
              · intro L a w c
                refine .inl ⟨Rel.wanted_free (by kernel_rfl) _, ?_⟩
                exact Rel.wp_bo _ _ _ _ _ rfl (u := .bool true) (c.get 1 145 (by kernel_rfl)) (c.get 6 150 (by kernel_rfl)) (by simp [go_sem]; exact HE1.out) ⟨_, rfl, Rel.gr_refl _, rfl, c.inv⟩
              · intro L a w c
                refine .inl ⟨Rel.wanted_free (by kernel_rfl) _, ?_⟩
                exact Rel.wp_mv _ rfl ⟨_, rfl, Rel.gr_refl _, (c.get 7 151 (by kernel_rfl)), c.inv⟩
              · intro L a w c
                refine .inl ⟨Rel.wanted_by (j := 8) (b := true) (d := 152) (by kernel_rfl) (c.get 8 152 (by kernel_rfl)), ?_⟩
                exact Rel.wp_mv _ rfl ⟨_, rfl, Rel.gr_refl _, (c.old 24 (v := .slice (some ⟨g7, 0, none⟩) 32 c7) (by kernel_rfl) (by kernel_rfl)), c.inv⟩
              · intro L a w c
                refine .inl ⟨Rel.wanted_by (j := 8) (b := true) (d := 152) (by kernel_rfl) (c.get 8 152 (by kernel_rfl)), ?_⟩
                exact Rel.wp_cv _ _ _ rfl (c.get 9 153 (by kernel_rfl)) (KC.out w _ _ _ b HM.out.1 (fun h => by cases h) (row_keep encB_len HRo.out.1 c.inv)) ⟨_, rfl, Rel.gr_refl _, rfl, c.inv⟩
              · intro L a w c
                refine .inl ⟨Rel.wanted_by (j := 8) (b := true) (d := 152) (by kernel_rfl) (c.get 8 152 (by kernel_rfl)), ?_⟩
                exact Rel.wp_mv _ rfl ⟨_, rfl, Rel.gr_refl _, (c.old 14 (v := .slice (some ⟨g14, 0, none⟩) 8 c14) (by kernel_rfl) (by kernel_rfl)), c.inv⟩
              · intro L a w c
                refine .inl ⟨Rel.wanted_by (j := 8) (b := true) (d := 152) (by kernel_rfl) (c.get 8 152 (by kernel_rfl)), ?_⟩
                exact Rel.wp_mv _ rfl ⟨_, rfl, Rel.gr_refl _, (c.old 23 (v := .int .i64 (k : Nat)) (by kernel_rfl) (by kernel_rfl)), c.inv⟩
              · intro L a w c
                refine .inl ⟨Rel.wanted_by (j := 8) (b := true) (d := 152) (by kernel_rfl) (c.get 8 152 (by kernel_rfl)), ?_⟩
                exact Rel.wp_ia _ _ _ rfl (c.get 11 155 (by kernel_rfl)) (c.get 12 156 (by kernel_rfl)) (by simp [go_sem]; omega) ⟨_, rfl, Rel.gr_refl _, rfl, c.inv⟩
              · intro L a w c
                refine .inl ⟨Rel.wanted_by (j := 8) (b := true) (d := 152) (by kernel_rfl) (c.get 8 152 (by kernel_rfl)), ?_⟩
                exact Rel.wp_ld _ _ rfl (c.get 13 157 (by kernel_rfl)) (run_ld_sl (cell_keep c.inv HCo.out.2)) ⟨_, rfl, Rel.gr_refl _, rfl, c.inv⟩
              · intro L a w c
                refine .inl ⟨Rel.wanted_by (j := 8) (b := true) (d := 152) (by kernel_rfl) (c.get 8 152 (by kernel_rfl)), ?_⟩
                exact Rel.wp_cv _ _ _ rfl (c.get 14 158 (by kernel_rfl)) (KC.out w _ _ _ new HM.out.2.2.1 (fun h => by cases h) (row_keep encB_len HRo.out.2.2 c.inv)) ⟨_, rfl, Rel.gr_refl _, rfl, c.inv⟩
              · intro L a w c
                refine .inl ⟨Rel.wanted_by (j := 8) (b := true) (d := 152) (by kernel_rfl) (c.get 8 152 (by kernel_rfl)), ?_⟩
                exact Rel.wp_bo _ _ _ _ _ rfl (u := .bool true) (c.get 10 154 (by kernel_rfl)) (c.get 15 159 (by kernel_rfl)) (by simp [go_sem]; exact HE2.out) ⟨_, rfl, Rel.gr_refl _, rfl, c.inv⟩
              · intro L a w c
                refine .inl ⟨Rel.wanted_free (by kernel_rfl) _, ?_⟩
                exact Rel.wp_pk _ _ _ rfl (b := true) (c.get 8 152 (by kernel_rfl)) ⟨_, rfl, Rel.gr_refl _, (c.get 16 160 (by kernel_rfl)), c.inv⟩
            intro a w9 hbase hroom hdef hJ hV
            have s161 : Rel.slot a 161 = .bool true := hV 17 _ _ rfl rfl
            rw [Chn.act_puts [144, 145, 146, 147, 148, 149, 150, 151, 152, 153, 154, 155, 156, 157, 158, 159, 160, 161] hbase hroom hdef (by kernel_rfl)]
            clear hbase hroom hdef hV
            simp only [List.foldl_cons, List.foldl_nil]
            generalize Rel.slot a 144 = u144 at *
            generalize Rel.slot a 145 = u145 at *
            generalize Rel.slot a 146 = u146 at *
            generalize Rel.slot a 147 = u147 at *
            generalize Rel.slot a 148 = u148 at *
            generalize Rel.slot a 149 = u149 at *
            generalize Rel.slot a 150 = u150 at *
            generalize Rel.slot a 151 = u151 at *
            generalize Rel.slot a 152 = u152 at *
            generalize Rel.slot a 153 = u153 at *
            generalize Rel.slot a 154 = u154 at *
            generalize Rel.slot a 155 = u155 at *
            generalize Rel.slot a 156 = u156 at *
            generalize Rel.slot a 157 = u157 at *
            generalize Rel.slot a 158 = u158 at *
            generalize Rel.slot a 159 = u159 at *
            generalize Rel.slot a 160 = u160 at *
            rw [s161]
            clear s161
            simp only [Act.put, List.setIfInBounds_toArray, List.set_cons_succ, List.set_cons_zero]
            have HR10 := Lib.hid (And.intro (Kit.row_drop (row_keep encB_len HRo.out.1 hJ) K) (Kit.row_drop (row_keep encB_len HRo.out.2.1 hJ) K))
            have HC10 := Lib.hid (cell_keep hJ HCo.out.1)
            have HO10 := Lib.hid (And.intro (one_keep hD HO9.out.1 hJ) (And.intro (below_keep HO9.out.2.1 hJ) (below_keep HO9.out.2.2 hJ)))
            have HK32 := Lib.hid hK32
            clear hJ
            go_wp2_with fail
            refine Rel.wp_region_rel (G := Rel.Gr) (Rel.tab [.is (.slice (some ⟨g7, 0, none⟩) 32 c7), .is (.int .i64 (K : Nat)), .is (.slice (some ⟨g7, K, none⟩) (32 - K) (c7 - K)), .is (.string ⟨(b.drop K).toArray⟩), .is (.slice (some ⟨g13, 0, none⟩) 8 c13), .is (.int .i64 (k : Nat)), .is (.pointer (some ⟨g13, k, none⟩)), .is (.slice (some ⟨so.b, 0, none⟩) 32 so.c), .is (.int .i64 (K : Nat)), .is (.slice (some ⟨so.b, K, none⟩) (32 - K) (so.c - K)), .is (.string ⟨(old.drop K).toArray⟩), .is (.bool false)]) (fun _ w => Below w9.heap.size w9 w) (by kernel_rfl) (by kernel_rfl) (by kernel_rfl) (by kernel_rfl) (fun w => Rel.gr_refl _) (below_drew _) ?_ ?_
            · refine ⟨?_, ?_, ?_, ?_, ?_, ?_, ?_, ?_, ?_, ?_, ?_, ?_, trivial⟩
              · intro L a w c
                refine .inl ⟨Rel.wanted_free (by kernel_rfl) _, ?_⟩
                exact Rel.wp_mv _ rfl ⟨_, rfl, Rel.gr_refl _, (c.old 24 (v := .slice (some ⟨g7, 0, none⟩) 32 c7) (by kernel_rfl) (by kernel_rfl)), c.inv⟩
              · intro L a w c
                refine .inl ⟨Rel.wanted_free (by kernel_rfl) _, ?_⟩
                exact Rel.wp_mv _ rfl ⟨_, rfl, Rel.gr_refl _, (c.old 26 (v := .int .i64 (K : Nat)) (by kernel_rfl) (by kernel_rfl)), c.inv⟩
              · intro L a w c
                refine .inl ⟨Rel.wanted_free (by kernel_rfl) _, ?_⟩
                exact Rel.wp_sl _ _ _ _ _ rfl (c.get 0 164 (by kernel_rfl)) (congrArg some (c.get 1 165 (by kernel_rfl))) rfl rfl (run_sl_from g7 K 32 c7 HK32.out HCap.out.1 w) ⟨_, rfl, Rel.gr_refl _, rfl, c.inv⟩
              · intro L a w c
                refine .inl ⟨Rel.wanted_free (by kernel_rfl) _, ?_⟩
                exact Rel.wp_cv _ _ _ rfl (c.get 2 166 (by kernel_rfl)) (KC.out w _ _ _ _ (by rw [List.length_drop, HM.out.1]) (fun h => by cases h) (by have h := row_keep encB_len HR10.out.1 c.inv; rw [Nat.mul_one, Nat.zero_add] at h; exact h)) ⟨_, rfl, Rel.gr_refl _, rfl, c.inv⟩
              · intro L a w c
                refine .inl ⟨Rel.wanted_free (by kernel_rfl) _, ?_⟩
                exact Rel.wp_mv _ rfl ⟨_, rfl, Rel.gr_refl _, (c.old 13 (v := .slice (some ⟨g13, 0, none⟩) 8 c13) (by kernel_rfl) (by kernel_rfl)), c.inv⟩
              · intro L a w c
                refine .inl ⟨Rel.wanted_free (by kernel_rfl) _, ?_⟩
                exact Rel.wp_mv _ rfl ⟨_, rfl, Rel.gr_refl _, (c.old 23 (v := .int .i64 (k : Nat)) (by kernel_rfl) (by kernel_rfl)), c.inv⟩
              · intro L a w c
                refine .inl ⟨Rel.wanted_free (by kernel_rfl) _, ?_⟩
                exact Rel.wp_ia _ _ _ rfl (c.get 4 168 (by kernel_rfl)) (c.get 5 169 (by kernel_rfl)) (by simp [go_sem]; omega) ⟨_, rfl, Rel.gr_refl _, rfl, c.inv⟩
              · intro L a w c
                refine .inl ⟨Rel.wanted_free (by kernel_rfl) _, ?_⟩
                exact Rel.wp_ld _ _ rfl (c.get 6 170 (by kernel_rfl)) (run_ld_sl (cell_keep c.inv HC10.out)) ⟨_, rfl, Rel.gr_refl _, rfl, c.inv⟩
              · intro L a w c
                refine .inl ⟨Rel.wanted_free (by kernel_rfl) _, ?_⟩
                exact Rel.wp_mv _ rfl ⟨_, rfl, Rel.gr_refl _, (c.old 26 (v := .int .i64 (K : Nat)) (by kernel_rfl) (by kernel_rfl)), c.inv⟩
              · intro L a w c
                refine .inl ⟨Rel.wanted_free (by kernel_rfl) _, ?_⟩
                exact Rel.wp_sl _ _ _ _ _ rfl (c.get 7 171 (by kernel_rfl)) (congrArg some (c.get 8 172 (by kernel_rfl))) rfl rfl (run_sl_from so.b K 32 so.c HK32.out HCap.out.2 w) ⟨_, rfl, Rel.gr_refl _, rfl, c.inv⟩
              · intro L a w c
                refine .inl ⟨Rel.wanted_free (by kernel_rfl) _, ?_⟩
                exact Rel.wp_cv _ _ _ rfl (c.get 9 173 (by kernel_rfl)) (KC.out w _ _ _ _ (by rw [List.length_drop, HM.out.2.1]) (fun h => by cases h) (by have h := row_keep encB_len HR10.out.2 c.inv; rw [Nat.mul_one, Nat.zero_add] at h; exact h)) ⟨_, rfl, Rel.gr_refl _, rfl, c.inv⟩
              · intro L a w c
                refine .inl ⟨Rel.wanted_free (by kernel_rfl) _, ?_⟩
                exact Rel.wp_bo _ _ _ _ _ rfl (u := .bool false) (c.get 3 167 (by kernel_rfl)) (c.get 10 174 (by kernel_rfl)) (by simp [go_sem, HDr.out]) ⟨_, rfl, Rel.gr_refl _, rfl, c.inv⟩
            intro a w10 hbase hroom hdef hJ hV
            have s175 : Rel.slot a 175 = .bool false := hV 11 _ _ rfl rfl
            rw [Chn.act_puts [164, 165, 166, 167, 168, 169, 170, 171, 172, 173, 174, 175] hbase hroom hdef (by kernel_rfl)]
            clear hbase hroom hdef hV
            simp only [List.foldl_cons, List.foldl_nil]
            generalize Rel.slot a 164 = u164 at *
            generalize Rel.slot a 165 = u165 at *
            generalize Rel.slot a 166 = u166 at *
            generalize Rel.slot a 167 = u167 at *
            generalize Rel.slot a 168 = u168 at *
            generalize Rel.slot a 169 = u169 at *
            generalize Rel.slot a 170 = u170 at *
            generalize Rel.slot a 171 = u171 at *
            generalize Rel.slot a 172 = u172 at *
            generalize Rel.slot a 173 = u173 at *
            generalize Rel.slot a 174 = u174 at *
            rw [s175]
            clear s175
            simp only [Act.put, List.setIfInBounds_toArray, List.set_cons_succ, List.set_cons_zero]
            have HO11 := Lib.hid (And.intro (one_keep hD HO10.out.1 hJ) (And.intro (below_keep HO10.out.2.1 hJ) (below_keep HO10.out.2.2 hJ)))
            clear hJ
            go_wp2_with fail
            go_roundw
            case rel => exact ⟨k + 1, 1, by omega, by go_num, by go_num, .inr ⟨rfl, by have := HKq.out; omega⟩, HO11.out.1, HO11.out.2.1, HO11.out.2.2⟩
            case measure => simp [intOf]; omega
     · obtain rfl : k = 8 := by omega
       go_wp2_with fail
       go_meet
       case rel => exact ⟨mx, rfl, by omega, HO.out.1, HO.out.2.1⟩
  case rest =>
  obtain ⟨mx, rfl, hmx, hone, hb⟩ := hcut
  have H7 := Lib.hid (And.intro hone hb)
  clear hone hb
  go_wp2_with fail
  refine (awake_any hD wc).mono ?_
  rintro e w8 ⟨rfl, hb⟩
  have HB8 := Lib.hid (below_keep H7.out.2 hb)
  have hmx1 : (mx : Int) ≤ 1 := by omega
  clear hb
  go_wp2
  go_ret
  exact ⟨rfl, HB8.out⟩
end Go.Proofs.Ytpbegchaneppfaa.Dsk
