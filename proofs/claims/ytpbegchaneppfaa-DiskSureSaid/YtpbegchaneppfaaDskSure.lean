/- Disk: DiskSure, over any disk that does as it should. -/
import Derived.Test.YtpbegchaneppfaaDskList
import Derived.Deep.CutBlock
namespace Go.Proofs.Ytpbegchaneppfaa.Dsk
open Go.RowKit
open Go.Sort
open Kit
open Oct
open Foot
set_option linter.unusedVariables false
variable {D : World → (Nat → Prop) → Nat → DS → Prop}

theorem info_bool : (Try.prog.info? 4).map (fun i => (i.zero, i.size, i.bytes)) = some (some (.bool false), 1, 1) := by kernel_rfl
theorem run_mkb (w : World) : (Instr.makeSlice 45 (.int .i64 12) (.int .i64 12)).run Try.prog w = .ok (.slice (some ⟨w.heap.size, 0, none⟩) 12 12) (w.alloc (.cells (madeCells #[.bool false] 12) 4)) := by
  obtain ⟨i0, hi, hz0, hz1, hz2⟩ := info_parts info_bool
  have := run_make (P := Try.prog) w 45 4 i0 (.bool false) Try.underlying45 hi hz0 .i64 .i64 12 12 (by omega) (by omega) (by rw [hz2]; omega) (by omega)
  rw [hz1, Nat.mul_one] at this
  exact this
/-- What is known while it is written again: which sectors have been. -/
structure Agn (D : World → (Nat → Prop) → Nat → DS → Prop) (W w : World) (p : Nat) (s3 : DS) (v : Value) (g : Nat) (bs : List Bool) (s : DS) (F : Nat → Prop) : Prop where
  one : OneF D W.heap.size w F p s
  below : Below W.heap.size W w
  was : Lst W.heap.size (fun k => F k ∨ k = g) w v s3.now
  blk : Arr.Blk w g 4 (bs.map Value.bool)
  blen : bs.length = 12
  far : ¬ F g
  ge : W.heap.size ≤ g
  fuse : s.fuse = -1
  good : s.good = s3.good
  len : s3.good.length = 12
  rest : ∀ j, bs[j]? = some false → j ∉ s.order
variable {W w w' : World} {p g : Nat} {s3 s s' : DS} {v : Value} {bs : List Bool} {F F' : Nat → Prop}
theorem agn_same (h : Agn D W w p s3 v g bs s F) (hC : Chg F w w') (h2 : ∀ k, F' k → F k ∨ w.heap.size ≤ k) (h1 : OneF D W.heap.size w' F' p s) : Agn D W w' p s3 v g bs s F' :=
  ⟨h1, h.below.trans (one_below h.one hC h.below.size), lst_chg h.was hC (fun _ => .inl) (fun k hk => hk.elim (fun hk => (h2 k hk).imp .inl id) fun hk => .inl (.inr hk)), blk_chg hC h.blk h.far, h.blen, fun hf => (h2 g hf).elim h.far fun h' => by have := Arr.blk_lt h.blk; omega, h.ge, h.fuse, h.good, h.len, h.rest⟩
theorem agn_more (hD : Prog D) {i : Int} {b : Sec} {q : Nat} (h : Agn D W w p s3 v g bs s F) (hC : Chg F w w') (h2 : ∀ k, F' k → F k ∨ w.heap.size ≤ k) (h1 : OneF D W.heap.size w' F' p (s.write i b).2) (hq : q < 12) (hi : i = q) (hoth : ∀ j, j ≠ i.toNat → (j ∈ (s.write i b).2.order ↔ j ∈ s.order)) :
    (Below W.heap.size W w' ∧ Agn D W (w'.setCell ⟨g, q, none⟩ (.bool true)) p s3 v g (bs.set q true) (s.write i b).2 (F')) ∧ (∃ u, w'.cell? ⟨g, q, none⟩ = some u) ∧ w'.frozen? ⟨g, q, none⟩ = false := by
  subst hi
  have hbl := blk_chg hC h.blk h.far
  have hfar : ¬ F' g := fun hf => (h2 g hf).elim h.far fun h' => by have := Arr.blk_lt h.blk; omega
  have hb := h.below.trans (one_below h.one hC h.below.size)
  have hw := write_free h.fuse (q : Int) b
  have hL := lst_chg (F' := fun k => F' k ∨ k = g) h.was hC (fun _ => .inl) (fun k hk => hk.elim (fun hk => (h2 k hk).imp .inl id) fun hk => .inl (.inr hk))
  have hsc := set_chg w' g q (.bool true)
  refine ⟨⟨hb, ⟨hD.chg h1.d hsc (fun k hk e => hfar (e ▸ hk)), fun k hk => ⟨(h1.lt k hk).1, by rw [setCell_size]; exact (h1.lt k hk).2⟩⟩, Arr.below_set hb h.ge _ _, lst_chg hL hsc (fun k hk => .inr hk) (fun k hk => .inl hk), ?_, by rw [List.length_set]; exact h.blen, hfar, h.ge, hw.1, hw.2.1.trans h.good, h.len, fun j hj hm => ?_⟩, ⟨_, Arr.blk_cell hbl q |>.trans (by rw [List.getElem?_map, List.getElem?_eq_getElem (by rw [h.blen]; exact hq)]; rfl)⟩, Arr.blk_frozen hbl q⟩
  · rw [List.map_set]; exact Arr.blk_set hbl q _
  · by_cases hjq : j = q
    · subst hjq
      rw [List.getElem?_set_self (by rw [h.blen]; exact hq)] at hj
      cases hj
    · rw [List.getElem?_set_ne (Ne.symm hjq)] at hj
      exact h.rest j hj ((hoth j (by rw [Int.toNat_natCast]; exact hjq)).1 hm)
theorem agn_new (hD : Prog D) {wc : World} (hL : Lst W.heap.size F wc v s3.now) (h1 : OneF D W.heap.size wc F p s3) (hb : Below W.heap.size W wc) (hf : s3.fuse = -1) (ho : s3.order = []) (hg : s3.good.length = 12) :
    Agn D W (wc.alloc (.cells (madeCells #[.bool false] 12) 4)) p s3 v wc.heap.size (List.replicate 12 false) s3 F := by
  have e : madeCells #[.bool false] 12 = ((List.replicate 12 false).map Value.bool).toArray := by kernel_rfl
  rw [e]
  have hbl := below_alloc wc (.cells ((List.replicate 12 false).map Value.bool).toArray 4)
  exact ⟨one_keep hD h1 hbl, hb.alloc hb.size _, lst_chg hL (new_chg hbl (fun _ => False)) (fun _ h => h.elim) (fun k hk => hk.elim .inl fun hk => .inr (by omega)), Arr.blk_new wc _ _ _ rfl, by simp, fun h => by have := (h1.lt _ h).2; omega, hb.size, hf, rfl, hg, fun j _ => by rw [ho]; simp⟩

set_option maxRecDepth 100000 in
set_option maxHeartbeats 4000000 in
theorem sure_any (hD : Prog D) (aa : Option Addr) (len cap : Nat) (l : List Ac) (hl : l.length = len) (hc : cap ≤ maxLen) (hlc : len ≤ cap) (am : Option Addr) (lem cam : Nat) (m : List Ac) (hlm : m.length = lem) (hcm : cam ≤ maxLen) (hlcm : lem ≤ cam) (W : World) (hE : Kit.Row encAc 5 W aa l) (hx : ∀ x ∈ l, x.wf) (hEm : Kit.Row encAc 5 W am m) (hxm : ∀ x ∈ m, x.wf)
    (keep torn cut : Int) (hkp : -9223372036854775808 ≤ keep ∧ keep ≤ 9223372036854775807) (htn : -9223372036854775808 ≤ torn ∧ torn ≤ 9223372036854775807) (hct : -9223372036854775808 ≤ cut ∧ cut ≤ 9223372036854775807) :
    Calls Try.prog 4 #[.slice aa len cap, .slice am lem cam, .int .i64 keep, .int .i64 torn, .int .i64 cut] W fun e w' => e = .returned (.bool true) ∧ Below W.heap.size W w' := by
  subst hl hlm
  have hmax : l.length ≤ 9223372036854775807 := by unfold maxLen at hc; omega
  have hmam : m.length ≤ 9223372036854775807 := by unfold maxLen at hcm; omega
  have HE := Lib.hid (And.intro hE hEm)
  have HX := Lib.hid (And.intro hx hxm)
  have KC := Lib.hid kcRow
  have HI := Lib.hid (And.intro hkp (And.intro htn hct))
  clear hE hx hc hlc hEm hxm hcm hlcm hkp htn hct
  go_enter Try.func4, Try.ntmps4
  go_wp2_with fail
  refine (hD.new 12 W (by omega) (by omega)).mono ?_
  rintro e w1 ⟨p, rfl, hd, hb⟩
  have h1 : OneF D W.heap.size w1 (More (fun _ => False) W w1) p (DS.new 12) := ⟨hd, fun k hk => hk.elim (fun h => h.elim) id⟩
  have hg : (DS.new 12).good.length = 12 := by kernel_rfl
  have hfz : (DS.new 12).fuse = -1 := rfl
  generalize More (fun _ => False) W w1 = F1 at h1
  generalize DS.new 12 = s0 at h1 hg hfz
  have H1 := Lib.hid (And.intro h1 (And.intro hb (And.intro hg hfz)))
  clear h1 hd hb hg hfz
  go_upto_block 0 with fail
  go_cut [12] (fun _ wx => ∃ (s : DS) (F : Nat → Prop), OneF D W.heap.size wx F p s ∧ Below W.heap.size W wx ∧ s.good.length = 12 ∧ s.fuse = -1)
  case first =>
   go_wp2_with fail
   go_loopw [12] (fun iv wx => ∃ (k : Nat) (s : DS) (F : Nat → Prop), k ≤ l.length ∧ k ≤ 40 ∧ iv = .int .i64 k ∧ OneF D W.heap.size wx F p s ∧ Below W.heap.size W wx ∧ s.good.length = 12 ∧ s.fuse = -1) (fun iv _ => l.length - (intOf iv).toNat)
   case atStart => exact ⟨0, _, _, Nat.zero_le _, by omega, rfl, H1.out.1, H1.out.2.1, H1.out.2.2.1, H1.out.2.2.2⟩
   case round =>
     obtain ⟨k, s, F, hk, hk40, rfl, hone, hb, hgl, hfu⟩ := hrel
     have HO := Lib.hid (And.intro hone hb)
     have HG := Lib.hid (And.intro hgl hfu)
     clear hone hb hgl hfu
     by_cases hlt : k < l.length ∧ k < 40
     · obtain ⟨hkl, hk5⟩ := hlt
       obtain ⟨ab, ao, rfl⟩ := row_some HE.out.1 hkl
       have hxk := HX.out.1 l[k] (List.getElem_mem hkl)
       have hrg := act_range' (row_keep encAc_len HE.out.1 HO.out.2) hkl rfl
       have hab : ab < W.heap.size := World.block_lt_of_cell? W _ (act_cells HE.out.1 hkl).1
       generalize l[k] = x at *
       have HXk := Lib.hid hxk
       have HQ := Lib.hid hrg
       have HAb : Hid (¬ F ab) := Lib.hid fun h => by have := (HO.out.1.lt _ h).1; omega
       have c40 : (k : Int) < 40 := by omega
       clear hxk hrg hab
       obtain ⟨wq, hwq⟩ : ∃ x, x = wr := ⟨wr, rfl⟩
       subst hwq
       go_wp2_with fail
       refine Rel.wp_region_rel (G := Chg F) (Rel.tab [.is (.pointer (some ⟨p, 0, none⟩)), .is (.slice (some ⟨ab, ao, none⟩) l.length cap), .is (.int .i64 k), .is (.pointer (some ⟨ab, ao + k * 5, none⟩)), .is (.pointer (some ⟨ab, ao + k * 5 + 1, none⟩)), .is (.int .i64 x.at'), .is (.slice (some ⟨ab, ao, none⟩) l.length cap), .is (.int .i64 k), .is (.pointer (some ⟨ab, ao + k * 5, none⟩)), .is (.agg #[.int .u8 (x.d.toNat : Int), .int .i64 x.at', .int .u8 (x.c.toNat : Int), .int .i64 x.keep, .int .i64 x.cut]), kMd F (madeB x), .is (.int .i64 (s.write x.at' (madeB x)).1)]) (J1 D W.heap.size wq F p s (s.write x.at' (madeB x)).2 11) (by kernel_rfl) (by kernel_rfl) (by kernel_rfl) (by kernel_rfl) (fun w => chg_refl _ _) (j1_start hD HO.out.1) ?_ ?_
       · refine ⟨?_, ?_, ?_, ?_, ?_, ?_, ?_, ?_, ?_, ?_, ?_, ?_, trivial⟩
         · intro L a w c
           refine .inl ⟨Rel.wanted_free (by kernel_rfl) _, ?_⟩
           exact Rel.wp_mv _ rfl ⟨_, rfl, chg_refl _ _, (c.old 11 (v := .pointer (some ⟨p, 0, none⟩)) (by kernel_rfl) (by kernel_rfl)), (j1_set c.inv (by decide))⟩
         · intro L a w c
           refine .inl ⟨Rel.wanted_free (by kernel_rfl) _, ?_⟩
           exact Rel.wp_mv _ rfl ⟨_, rfl, chg_refl _ _, (c.old 0 (v := .slice (some ⟨ab, ao, none⟩) l.length cap) (by kernel_rfl) (by kernel_rfl)), (j1_set c.inv (by decide))⟩
         · intro L a w c
           refine .inl ⟨Rel.wanted_free (by kernel_rfl) _, ?_⟩
           exact Rel.wp_mv _ rfl ⟨_, rfl, chg_refl _ _, (c.old 12 (v := .int .i64 k) (by kernel_rfl) (by kernel_rfl)), (j1_set c.inv (by decide))⟩
         · intro L a w c
           refine .inl ⟨Rel.wanted_free (by kernel_rfl) _, ?_⟩
           exact Rel.wp_ia _ _ _ rfl (c.get 1 34 (by kernel_rfl)) (c.get 2 35 (by kernel_rfl)) (run_at_acts ab ao _ _ k hkl w) ⟨_, rfl, chg_refl _ _, rfl, j1_set c.inv (by decide)⟩
         · intro L a w c
           refine .inl ⟨Rel.wanted_free (by kernel_rfl) _, ?_⟩
           exact Chn.wp_fa _ _ _ rfl (c.get 3 36 (by kernel_rfl)) (by simp [go_sem]) ⟨_, rfl, chg_refl _ _, rfl, (j1_set c.inv (by decide))⟩
         · intro L a w c
           refine .inl ⟨Rel.wanted_free (by kernel_rfl) _, ?_⟩
           exact Rel.wp_ld _ _ rfl (c.get 4 37 (by kernel_rfl)) (run_ld_i (ranges_chg c.inv.1 HQ.out HAb.out 1 _ rfl)) ⟨_, rfl, chg_refl _ _, rfl, (j1_set c.inv (by decide))⟩
         · intro L a w c
           refine .inl ⟨Rel.wanted_free (by kernel_rfl) _, ?_⟩
           exact Rel.wp_mv _ rfl ⟨_, rfl, chg_refl _ _, (c.old 0 (v := .slice (some ⟨ab, ao, none⟩) l.length cap) (by kernel_rfl) (by kernel_rfl)), (j1_set c.inv (by decide))⟩
         · intro L a w c
           refine .inl ⟨Rel.wanted_free (by kernel_rfl) _, ?_⟩
           exact Rel.wp_mv _ rfl ⟨_, rfl, chg_refl _ _, (c.old 12 (v := .int .i64 k) (by kernel_rfl) (by kernel_rfl)), (j1_set c.inv (by decide))⟩
         · intro L a w c
           refine .inl ⟨Rel.wanted_free (by kernel_rfl) _, ?_⟩
           exact Rel.wp_ia _ _ _ rfl (c.get 6 39 (by kernel_rfl)) (c.get 7 40 (by kernel_rfl)) (run_at_acts ab ao _ _ k hkl w) ⟨_, rfl, chg_refl _ _, rfl, j1_set c.inv (by decide)⟩
         · intro L a w c
           refine .inl ⟨Rel.wanted_free (by kernel_rfl) _, ?_⟩
           exact Rel.wp_ld _ _ rfl (c.get 8 41 (by kernel_rfl)) (run_ld_act' (ranges_chg c.inv.1 HQ.out HAb.out)) ⟨_, rfl, chg_refl _ _, rfl, (j1_set c.inv (by decide))⟩
         · intro L a w c
           refine .inl ⟨Rel.wanted_free (by kernel_rfl) _, ?_⟩
           refine Rel.wp_cl _ _ _ rfl Try.func14 (by kernel_rfl) ?_
           show Calls _ _ #[Rel.slot a 42] w _
           rw [show Rel.slot a 42 = .agg #[.int .u8 (x.d.toNat : Int), .int .i64 x.at', .int .u8 (x.c.toNat : Int), .int .i64 x.keep, .int .i64 x.cut] from (c.get 9 42 (by kernel_rfl))]
           refine (made_any x w).mono ?_
           rintro e w' ⟨g, n, rfl, hn, ho, hb⟩
           exact ⟨_, rfl, _, rfl, new_chg hb _, kmd_of hn ho (j1_lt c.inv (fun k hk => (HO.out.1.lt k hk).2)), j1_set (j1_keep hD c.inv hb) (by decide)⟩
         · intro L a w c
           refine .inl ⟨Rel.wanted_free (by kernel_rfl) _, ?_⟩
           obtain ⟨g, eg, hrow, hnf⟩ := c.get 10 43 (by kernel_rfl)
           refine Rel.wp_cl _ _ _ rfl Try.func13 (by kernel_rfl) ?_
           show Calls _ _ #[Rel.slot a 33, Rel.slot a 38, Rel.slot a 43] w _
           rw [show Rel.slot a 33 = .pointer (some ⟨p, 0, none⟩) from (c.get 0 33 (by kernel_rfl)), show Rel.slot a 38 = .int .i64 x.at' from (c.get 5 38 (by kernel_rfl)), show Rel.slot a 43 = _ from eg]
           refine (hD.write (j1_first c.inv c.free).d (fun k hk => ((j1_first c.inv c.free).lt k hk).2) x.at' (some ⟨g, 0, none⟩) _ _ (madeB x) HXk.out.1 rfl (Nat.le_refl _) (Nat.le_trans (madeB_small x) (by unfold maxLen; omega)) (fun h => by cases h) hrow (fun q hq h => by injection hq with hq; subst hq; exact hnf h)).mono ?_
           rintro e w' ⟨rfl, h1, hC⟩
           exact ⟨_, rfl, _, rfl, hC, rfl, j1_first' hD c.inv c.free h1 hC HO.out.2.size⟩
       intro a w9 hbase hroom hdef hJ hV
       rw [Chn.act_puts [33, 34, 35, 36, 37, 38, 39, 40, 41, 42, 43, 44] hbase hroom hdef (by kernel_rfl)]
       clear hbase hroom hdef hV
       simp only [List.foldl_cons, List.foldl_nil]
       generalize Rel.slot a 33 = u33 at *
       generalize Rel.slot a 34 = u34 at *
       generalize Rel.slot a 35 = u35 at *
       generalize Rel.slot a 36 = u36 at *
       generalize Rel.slot a 37 = u37 at *
       generalize Rel.slot a 38 = u38 at *
       generalize Rel.slot a 39 = u39 at *
       generalize Rel.slot a 40 = u40 at *
       generalize Rel.slot a 41 = u41 at *
       generalize Rel.slot a 42 = u42 at *
       generalize Rel.slot a 43 = u43 at *
       generalize Rel.slot a 44 = u44 at *
       simp only [Act.put, List.setIfInBounds_toArray, List.set_cons_succ, List.set_cons_zero]
       obtain ⟨hCq, F', h2, hone⟩ := j1_end hJ (by decide)
       have hw := write_free HG.out.2 x.at' (madeB x)
       have HO2 := Lib.hid (And.intro hone (And.intro (HO.out.2.trans (one_below HO.out.1 hCq HO.out.2.size)) (And.intro (show (s.write x.at' (madeB x)).2.good.length = 12 by rw [hw.2.1]; exact HG.out.1) hw.1)))
       clear hone hw hCq h2 hJ
       go_wp2_with fail
       go_roundw
       case rel => exact ⟨k + 1, _, F', by omega, by omega, by go_num, HO2.out.1, HO2.out.2.1, HO2.out.2.2.1, HO2.out.2.2.2⟩
       case measure => simp [intOf]; omega
     · have hor : ¬ (k : Int) < l.length ∨ ((k : Int) < l.length ∧ ¬ (k : Int) < 40) := by omega
       clear hlt
       rcases hor with ho | ⟨ho, ho2⟩
       all_goals
         go_wp2_with fail
         go_meet
         case rel => exact ⟨s, F, HO.out.1, HO.out.2, HG.out.1, HG.out.2⟩
  case rest =>
  obtain ⟨s, F, hone, hb, hgl, hfu⟩ := hcut
  have hfl := flush_free hfu (hD.ok hone.d)
  have hok := flush_ok (hD.ok hone.d)
  have HO := Lib.hid (And.intro hone hb)
  have H2 := Lib.hid (And.intro hfl hgl)
  clear hone hb hfl hgl hfu H1
  go_wp2_with fail
  refine (hD.flush HO.out.1.d (fun k hk => (HO.out.1.lt k hk).2)).mono ?_
  rintro e w2 ⟨rfl, hd, hC⟩
  have h3 := one_more hD HO.out.1 hd hC HO.out.2.size
  have hB3 := HO.out.2.trans (one_below HO.out.1 hC HO.out.2.size)
  have hg3 : s.flush.2.good.length = 12 := by rw [H2.out.1.2.2.2.1, (hD.ok HO.out.1.d).len]; exact H2.out.2
  have hgn : s.flush.2.now = s.flush.2.good := by rw [H2.out.1.2.2.2.1, H2.out.1.2.2.2.2]
  have hf3 := H2.out.1.2.1
  have ho3 := H2.out.1.2.2.1
  rw [H2.out.1.1]
  generalize s.flush.2 = s3 at *
  generalize More F wc w2 = F3 at h3
  have H3 := Lib.hid (And.intro h3 (And.intro hB3 (And.intro hg3 (And.intro hgn (And.intro hf3 (And.intro ho3 hok))))))
  clear hd hC h3 hB3 hg3 hgn hf3 ho3 hok H2 HO
  go_wp2_with fail
  refine (hD.cached H3.out.1.d).mono ?_
  rw [H3.out.2.2.2.2.2.1]
  rintro e w4 ⟨rfl, hb⟩
  have H4 := Lib.hid (And.intro (one_keep hD H3.out.1 hb) (And.intro (below_keep H3.out.2.1 hb) H3.out.2.2))
  clear hb H3
  go_upto_block 2 with fail
  go_cut [13, 14] (fun v _ wx => Lst W.heap.size F3 wx v s3.now ∧ OneF D W.heap.size wx F3 p s3 ∧ Below W.heap.size W wx)
  case first =>
   go_wp2_with fail
   go_loopw [13, 14] (fun v iv wx => ∃ k : Nat, k ≤ 12 ∧ iv = .int .i64 k ∧ Lst W.heap.size F3 wx v (s3.now.take k) ∧ OneF D W.heap.size wx F3 p s3 ∧ Below W.heap.size W wx) (fun _ iv _ => 12 - (intOf iv).toNat)
   case atStart => exact ⟨0, by omega, rfl, lst_new _ _ _ H4.out.2.1.size (fun k hk => (H4.out.1.lt k hk).2), one_keep hD H4.out.1 (below_alloc w4 _), H4.out.2.1.alloc H4.out.2.1.size _⟩
   case round =>
     obtain ⟨k, hk, rfl, hls, hone, hb⟩ := hrel
     have HL := Lib.hid (And.intro hls (And.intro hone hb))
     clear hls hone hb
     by_cases hlt : k < 12
     · have hrd : s3.read k = (s3.now.getD k [], 0) := by unfold DS.read; rw [if_pos (show inR (k : Int) s3.good.length from ⟨by omega, by have := H4.out.2.2.1; omega⟩)]; rfl
       have hkn : k < s3.now.length := by rw [H4.out.2.2.2.1, H4.out.2.2.1]; exact hlt
       have h32 : (s3.now.getD k []).length = 32 := H4.out.2.2.2.2.2.2.now32 _ (getD_mem hkn)
       have htk : s3.now.take (k + 1) = s3.now.take k ++ [s3.now.getD k []] := by rw [List.take_succ_eq_append_getElem hkn, getD_at hkn]
       have htl : (s3.now.take k).length ≤ 12 := by rw [List.length_take]; omega
       generalize s3.now.getD k [] = b at hrd h32 htk
       have HB := Lib.hid (And.intro hrd (And.intro h32 (And.intro htk htl)))
       clear hrd hkn h32 htk htl
       go_wp2_with fail
       refine (hD.read HL.out.2.1.d k ⟨by omega, by omega⟩).mono ?_
       rw [HB.out.1]
       rintro e w5 ⟨v, rfl, ho, hb5⟩
       replace ho : RdB w5 wr.heap.size v b := ho
       obtain ⟨g, c, rfl, hrow, hg1, hg2, hcp⟩ := own_some ho (show 0 < b.length by rw [HB.out.2.1]; omega)
       have hls5 := lst_keep HL.out.1 hb5
       have hlt5 := fun g' (hg' : u13.ownBlock = some g') => lst_lt HL.out.1 hg'
       have HL5 := Lib.hid (And.intro (one_keep hD HL.out.2.1 hb5) (And.intro (below_keep HL.out.2.2 hb5) (And.intro hrow (And.intro hg1 (And.intro hg2 (And.intro hlt5 (show ∀ k, F3 k → k < wr.heap.size from fun k hk => (HL.out.2.1.lt k hk).2)))))))
       obtain ⟨ss, q1, q2, q3, q4⟩ := hls5
       have HQ := Lib.hid (And.intro q1 (And.intro q2 (And.intro q3 q4)))
       have HCp := Lib.hid hcp
       clear ho hb5 hrow hg1 hg2 hcp hlt5 q1 q2 q3 q4
       go_wp2_with (first
         | (at_builtin; refine Two.append_apart encSl_len (by decide) encSl_one rfl (.tmp 64) (.tmp 66) 30 39 rfl Try.underlying30 (.slice none 0 0) 24 info_sl rfl W.heap.size u13 ss rfl (owns_alloc HQ.out.1 _) (some ⟨w5.heap.size, 0, none⟩) 1 1 [⟨g, b.length, c⟩] rfl rfl (Kit.row_new encSl_len w5 [⟨g, b.length, c⟩] _ _ _ rfl rfl) (fun h => by cases h) (by have := HB.out.2.2.2; rw [HQ.out.2.1]; unfold maxLen; omega) (by have := HB.out.2.2.2; rw [HQ.out.2.1]; omega) (Nat.le_trans HL5.out.2.1.size (by simp)) ?_; intro v9 w9 ho9 hg9 hw9
            have HP := Lib.hid (push_read hD HL5.out.1 HL5.out.2.1 HL5.out.2.1.size HQ.out HL5.out.2.2.1 HL5.out.2.2.2.1 HL5.out.2.2.2.2.1 HL5.out.2.2.2.2.2.1 HL5.out.2.2.2.2.2.2 ho9 hg9 hw9 HCp.out)
            clear ho9 hg9 hw9)
         | fail)
       go_roundw
       case rel => exact ⟨k + 1, by omega, by go_num, by rw [HB.out.2.2.1]; exact HP.out.1, HP.out.2.1, HP.out.2.2⟩
       case measure => simp [intOf]; omega
     · obtain rfl : k = 12 := by omega
       have htk : s3.now.take 12 = s3.now := List.take_of_length_le (by rw [H4.out.2.2.2.1, H4.out.2.2.1]; omega)
       have HT := Lib.hid htk
       clear htk
       go_wp2_with fail
       go_meet
       case rel => exact ⟨by rw [← HT.out]; exact HL.out.1, HL.out.2.1, HL.out.2.2⟩
  case rest =>
  have HL := Lib.hid hcut
  clear hcut
  have hmk := run_mkb wc
  have HAg := Lib.hid (agn_new hD HL.out.1 HL.out.2.1 HL.out.2.2 H4.out.2.2.2.2.1 H4.out.2.2.2.2.2.1 H4.out.2.2.1)
  go_upto_block 4 with fail
  clear hmk HL
  generalize wc.heap.size = g at *
  go_cut [18] (fun _ wx => ∃ (bs : List Bool) (s : DS) (F : Nat → Prop), Agn D W wx p s3 u13 g bs s F)
  case first =>
   go_wp2_with fail
   go_loopw [18] (fun iv wx => ∃ (k : Nat) (bs : List Bool) (s : DS) (F : Nat → Prop), k ≤ m.length ∧ k ≤ 20 ∧ iv = .int .i64 k ∧ Agn D W wx p s3 u13 g bs s F) (fun iv _ => m.length - (intOf iv).toNat)
   case atStart => exact ⟨0, _, s3, F3, Nat.zero_le _, by omega, rfl, HAg.out⟩
   case round =>
     obtain ⟨k, bs, s, F, hk, hk20, rfl, hag⟩ := hrel
     have HA := Lib.hid hag
     have HO := Lib.hid (And.intro hag.one hag.below)
     clear hag
     by_cases hlt : k < m.length ∧ k < 20
     · obtain ⟨hkl, hk5⟩ := hlt
       obtain ⟨ab, ao, rfl⟩ := row_some HE.out.2 hkl
       have hxk := HX.out.2 m[k] (List.getElem_mem hkl)
       have hrg := act_range' (row_keep encAc_len HE.out.2 HO.out.2) hkl rfl
       have hab : ab < W.heap.size := World.block_lt_of_cell? W _ (act_cells HE.out.2 hkl).1
       have HCl := Lib.hid (fun (w : World) (hb : Below W.heap.size W w) => act_cells (row_keep encAc_len HE.out.2 hb) hkl)
       generalize m[k] = x at *
       have HXk := Lib.hid hxk
       have HQ := Lib.hid hrg
       have HAb : Hid (¬ F ab) := Lib.hid fun h => by have := (HO.out.1.lt _ h).1; omega
       have c20 : (k : Int) < 20 := by omega
       clear hxk hrg hab
       obtain ⟨wq, hwq⟩ : ∃ x, x = wr := ⟨wr, rfl⟩
       subst hwq
       rcases (write_free HA.out.fuse x.at' (madeB x)).2.2 with hw | ⟨hw, hin, hoth⟩
       · have HE1 : Hid ((s.write x.at' (madeB x)).1 = 1) := Lib.hid (by rw [hw])
         have HW := Lib.hid hw
         clear hw
         go_wp2_with fail
         refine Rel.wp_region_rel (G := Chg F) (Rel.tab [.is (.pointer (some ⟨p, 0, none⟩)), .is (.slice (some ⟨ab, ao, none⟩) m.length cam), .is (.int .i64 k), .is (.pointer (some ⟨ab, ao + k * 5, none⟩)), .is (.pointer (some ⟨ab, ao + k * 5 + 1, none⟩)), .is (.int .i64 x.at'), .is (.slice (some ⟨ab, ao, none⟩) m.length cam), .is (.int .i64 k), .is (.pointer (some ⟨ab, ao + k * 5, none⟩)), .is (.agg #[.int .u8 (x.d.toNat : Int), .int .i64 x.at', .int .u8 (x.c.toNat : Int), .int .i64 x.keep, .int .i64 x.cut]), kMd F (madeB x), .is (.int .i64 1), .is (.bool false), .is (.bool false), .is undef, .is undef, .is undef, .is undef, .is undef, .is undef, .is (.bool false), .is (.bool false), .is undef, .is undef, .is undef, .is undef, .is undef, .is undef, .is (.bool false)]) (J1 D W.heap.size wq F p s (s.write x.at' (madeB x)).2 11) (by kernel_rfl) (by kernel_rfl) (by kernel_rfl) (by kernel_rfl) (fun w => chg_refl _ _) (j1_start hD HO.out.1) ?_ ?_
         · refine ⟨?_, ?_, ?_, ?_, ?_, ?_, ?_, ?_, ?_, ?_, ?_, ?_, ?_, ?_, ?_, ?_, ?_, ?_, ?_, ?_, ?_, ?_, ?_, ?_, ?_, ?_, ?_, ?_, ?_, trivial⟩
           · intro L a w c
             refine .inl ⟨Rel.wanted_free (by kernel_rfl) _, ?_⟩
             exact Rel.wp_mv _ rfl ⟨_, rfl, chg_refl _ _, (c.old 11 (v := .pointer (some ⟨p, 0, none⟩)) (by kernel_rfl) (by kernel_rfl)), (j1_set c.inv (by decide))⟩
           · intro L a w c
             refine .inl ⟨Rel.wanted_free (by kernel_rfl) _, ?_⟩
             exact Rel.wp_mv _ rfl ⟨_, rfl, chg_refl _ _, (c.old 1 (v := .slice (some ⟨ab, ao, none⟩) m.length cam) (by kernel_rfl) (by kernel_rfl)), (j1_set c.inv (by decide))⟩
           · intro L a w c
             refine .inl ⟨Rel.wanted_free (by kernel_rfl) _, ?_⟩
             exact Rel.wp_mv _ rfl ⟨_, rfl, chg_refl _ _, (c.old 18 (v := .int .i64 k) (by kernel_rfl) (by kernel_rfl)), (j1_set c.inv (by decide))⟩
           · intro L a w c
             refine .inl ⟨Rel.wanted_free (by kernel_rfl) _, ?_⟩
             exact Rel.wp_ia _ _ _ rfl (c.get 1 80 (by kernel_rfl)) (c.get 2 81 (by kernel_rfl)) (run_at_acts ab ao _ _ k hkl w) ⟨_, rfl, chg_refl _ _, rfl, j1_set c.inv (by decide)⟩
           · intro L a w c
             refine .inl ⟨Rel.wanted_free (by kernel_rfl) _, ?_⟩
             exact Chn.wp_fa _ _ _ rfl (c.get 3 82 (by kernel_rfl)) (by simp [go_sem]) ⟨_, rfl, chg_refl _ _, rfl, (j1_set c.inv (by decide))⟩
           · intro L a w c
             refine .inl ⟨Rel.wanted_free (by kernel_rfl) _, ?_⟩
             exact Rel.wp_ld _ _ rfl (c.get 4 83 (by kernel_rfl)) (run_ld_i (ranges_chg c.inv.1 HQ.out HAb.out 1 _ rfl)) ⟨_, rfl, chg_refl _ _, rfl, (j1_set c.inv (by decide))⟩
           · intro L a w c
             refine .inl ⟨Rel.wanted_free (by kernel_rfl) _, ?_⟩
             exact Rel.wp_mv _ rfl ⟨_, rfl, chg_refl _ _, (c.old 1 (v := .slice (some ⟨ab, ao, none⟩) m.length cam) (by kernel_rfl) (by kernel_rfl)), (j1_set c.inv (by decide))⟩
           · intro L a w c
             refine .inl ⟨Rel.wanted_free (by kernel_rfl) _, ?_⟩
             exact Rel.wp_mv _ rfl ⟨_, rfl, chg_refl _ _, (c.old 18 (v := .int .i64 k) (by kernel_rfl) (by kernel_rfl)), (j1_set c.inv (by decide))⟩
           · intro L a w c
             refine .inl ⟨Rel.wanted_free (by kernel_rfl) _, ?_⟩
             exact Rel.wp_ia _ _ _ rfl (c.get 6 85 (by kernel_rfl)) (c.get 7 86 (by kernel_rfl)) (run_at_acts ab ao _ _ k hkl w) ⟨_, rfl, chg_refl _ _, rfl, j1_set c.inv (by decide)⟩
           · intro L a w c
             refine .inl ⟨Rel.wanted_free (by kernel_rfl) _, ?_⟩
             exact Rel.wp_ld _ _ rfl (c.get 8 87 (by kernel_rfl)) (run_ld_act' (ranges_chg c.inv.1 HQ.out HAb.out)) ⟨_, rfl, chg_refl _ _, rfl, (j1_set c.inv (by decide))⟩
           · intro L a w c
             refine .inl ⟨Rel.wanted_free (by kernel_rfl) _, ?_⟩
             refine Rel.wp_cl _ _ _ rfl Try.func14 (by kernel_rfl) ?_
             show Calls _ _ #[Rel.slot a 88] w _
             rw [show Rel.slot a 88 = .agg #[.int .u8 (x.d.toNat : Int), .int .i64 x.at', .int .u8 (x.c.toNat : Int), .int .i64 x.keep, .int .i64 x.cut] from (c.get 9 88 (by kernel_rfl))]
             refine (made_any x w).mono ?_
             rintro e w' ⟨g, n, rfl, hn, ho, hb⟩
             exact ⟨_, rfl, _, rfl, new_chg hb _, kmd_of hn ho (j1_lt c.inv (fun k hk => (HO.out.1.lt k hk).2)), j1_set (j1_keep hD c.inv hb) (by decide)⟩
           · intro L a w c
             refine .inl ⟨Rel.wanted_free (by kernel_rfl) _, ?_⟩
             obtain ⟨g, eg, hrow, hnf⟩ := c.get 10 89 (by kernel_rfl)
             refine Rel.wp_cl _ _ _ rfl Try.func13 (by kernel_rfl) ?_
             show Calls _ _ #[Rel.slot a 79, Rel.slot a 84, Rel.slot a 89] w _
             rw [show Rel.slot a 79 = .pointer (some ⟨p, 0, none⟩) from (c.get 0 79 (by kernel_rfl)), show Rel.slot a 84 = .int .i64 x.at' from (c.get 5 84 (by kernel_rfl)), show Rel.slot a 89 = _ from eg]
             refine (hD.write (j1_first c.inv c.free).d (fun k hk => ((j1_first c.inv c.free).lt k hk).2) x.at' (some ⟨g, 0, none⟩) _ _ (madeB x) HXk.out.1 rfl (Nat.le_refl _) (Nat.le_trans (madeB_small x) (by unfold maxLen; omega)) (fun h => by cases h) hrow (fun q hq h => by injection hq with hq; subst hq; exact hnf h)).mono ?_
             rintro e w' ⟨rfl, h1, hC⟩
             exact ⟨_, rfl, _, rfl, hC, congrArg (Value.int .i64) HE1.out, j1_first' hD c.inv c.free h1 hC HO.out.2.size⟩
           · intro L a w c
             refine .inl ⟨Rel.wanted_free (by kernel_rfl) _, ?_⟩
             exact Rel.wp_bo _ _ _ _ _ rfl (u := .bool false) (c.get 11 90 (by kernel_rfl)) rfl (by simp [go_sem]) ⟨_, rfl, chg_refl _ _, rfl, (j1_set c.inv (by decide))⟩
           · intro L a w c
             refine .inl ⟨Rel.wanted_free (by kernel_rfl) _, ?_⟩
             exact Rel.wp_mv _ rfl ⟨_, rfl, chg_refl _ _, (c.get 12 91 (by kernel_rfl)), (j1_set c.inv (by decide))⟩
           · intro L a w c
             exact .inr ⟨Chn.wanted_not (j := 13) (b := true) (d := 92) (by kernel_rfl) (c.get 13 92 (by kernel_rfl)), rfl, (j1_set c.inv (by decide))⟩
           · intro L a w c
             exact .inr ⟨Chn.wanted_not (j := 13) (b := true) (d := 92) (by kernel_rfl) (c.get 13 92 (by kernel_rfl)), rfl, (j1_set c.inv (by decide))⟩
           · intro L a w c
             exact .inr ⟨Chn.wanted_not (j := 13) (b := true) (d := 92) (by kernel_rfl) (c.get 13 92 (by kernel_rfl)), rfl, (j1_set c.inv (by decide))⟩
           · intro L a w c
             exact .inr ⟨Chn.wanted_not (j := 13) (b := true) (d := 92) (by kernel_rfl) (c.get 13 92 (by kernel_rfl)), rfl, (j1_set c.inv (by decide))⟩
           · intro L a w c
             exact .inr ⟨Chn.wanted_not (j := 13) (b := true) (d := 92) (by kernel_rfl) (c.get 13 92 (by kernel_rfl)), rfl, (j1_set c.inv (by decide))⟩
           · intro L a w c
             exact .inr ⟨Chn.wanted_not (j := 13) (b := true) (d := 92) (by kernel_rfl) (c.get 13 92 (by kernel_rfl)), rfl, (j1_set c.inv (by decide))⟩
           · intro L a w c
             refine .inl ⟨Rel.wanted_free (by kernel_rfl) _, ?_⟩
             exact Rel.wp_pk _ _ _ rfl (b := false) (c.get 13 92 (by kernel_rfl)) ⟨_, rfl, chg_refl _ _, rfl, (j1_set c.inv (by decide))⟩
           · intro L a w c
             refine .inl ⟨Rel.wanted_free (by kernel_rfl) _, ?_⟩
             exact Rel.wp_mv _ rfl ⟨_, rfl, chg_refl _ _, (c.get 20 99 (by kernel_rfl)), (j1_set c.inv (by decide))⟩
           · intro L a w c
             exact .inr ⟨Chn.wanted_not (j := 21) (b := true) (d := 100) (by kernel_rfl) (c.get 21 100 (by kernel_rfl)), rfl, (j1_set c.inv (by decide))⟩
           · intro L a w c
             exact .inr ⟨Chn.wanted_not (j := 21) (b := true) (d := 100) (by kernel_rfl) (c.get 21 100 (by kernel_rfl)), rfl, (j1_set c.inv (by decide))⟩
           · intro L a w c
             exact .inr ⟨Chn.wanted_not (j := 21) (b := true) (d := 100) (by kernel_rfl) (c.get 21 100 (by kernel_rfl)), rfl, (j1_set c.inv (by decide))⟩
           · intro L a w c
             exact .inr ⟨Chn.wanted_not (j := 21) (b := true) (d := 100) (by kernel_rfl) (c.get 21 100 (by kernel_rfl)), rfl, (j1_set c.inv (by decide))⟩
           · intro L a w c
             exact .inr ⟨Chn.wanted_not (j := 21) (b := true) (d := 100) (by kernel_rfl) (c.get 21 100 (by kernel_rfl)), rfl, (j1_set c.inv (by decide))⟩
           · intro L a w c
             exact .inr ⟨Chn.wanted_not (j := 21) (b := true) (d := 100) (by kernel_rfl) (c.get 21 100 (by kernel_rfl)), rfl, (j1_set c.inv (by decide))⟩
           · intro L a w c
             refine .inl ⟨Rel.wanted_free (by kernel_rfl) _, ?_⟩
             exact Rel.wp_pk _ _ _ rfl (b := false) (c.get 21 100 (by kernel_rfl)) ⟨_, rfl, chg_refl _ _, rfl, (j1_set c.inv (by decide))⟩
         intro a w9 hbase hroom hdef hJ hV
         have s107 : Rel.slot a 107 = .bool false := hV 28 _ _ rfl rfl
         rw [Chn.act_puts [79, 80, 81, 82, 83, 84, 85, 86, 87, 88, 89, 90, 91, 92, 93, 94, 95, 96, 97, 98, 99, 100, 101, 102, 103, 104, 105, 106, 107] hbase hroom hdef (by kernel_rfl)]
         clear hbase hroom hdef hV
         simp only [List.foldl_cons, List.foldl_nil]
         generalize Rel.slot a 79 = u79 at *
         generalize Rel.slot a 80 = u80 at *
         generalize Rel.slot a 81 = u81 at *
         generalize Rel.slot a 82 = u82 at *
         generalize Rel.slot a 83 = u83 at *
         generalize Rel.slot a 84 = u84 at *
         generalize Rel.slot a 85 = u85 at *
         generalize Rel.slot a 86 = u86 at *
         generalize Rel.slot a 87 = u87 at *
         generalize Rel.slot a 88 = u88 at *
         generalize Rel.slot a 89 = u89 at *
         generalize Rel.slot a 90 = u90 at *
         generalize Rel.slot a 91 = u91 at *
         generalize Rel.slot a 92 = u92 at *
         generalize Rel.slot a 93 = u93 at *
         generalize Rel.slot a 94 = u94 at *
         generalize Rel.slot a 95 = u95 at *
         generalize Rel.slot a 96 = u96 at *
         generalize Rel.slot a 97 = u97 at *
         generalize Rel.slot a 98 = u98 at *
         generalize Rel.slot a 99 = u99 at *
         generalize Rel.slot a 100 = u100 at *
         generalize Rel.slot a 101 = u101 at *
         generalize Rel.slot a 102 = u102 at *
         generalize Rel.slot a 103 = u103 at *
         generalize Rel.slot a 104 = u104 at *
         generalize Rel.slot a 105 = u105 at *
         generalize Rel.slot a 106 = u106 at *
         rw [s107]
         clear s107
         simp only [Act.put, List.setIfInBounds_toArray, List.set_cons_succ, List.set_cons_zero]
         obtain ⟨hCq, F', h2, hone⟩ := j1_end hJ (by decide)
         rw [HW.out] at hone
         have HA2 := Lib.hid (agn_same HA.out hCq h2 hone)
         clear hCq h2 hone hJ
         go_wp2_with fail
         go_roundw
         case rel => exact ⟨k + 1, bs, s, F', by omega, by omega, by go_num, HA2.out⟩
         case measure => simp [intOf]; omega
       · have HE1 := Lib.hid hw
         obtain ⟨q, hq, hq12, hqe⟩ : ∃ q : Nat, q < 12 ∧ x.at' < 12 ∧ x.at' = q := ⟨x.at'.toNat, by have := hin.2; rw [HA.out.good, HA.out.len] at this; have := hin.1; omega, by have := hin.2; rw [HA.out.good, HA.out.len] at this; omega, by have := hin.1; omega⟩
         have HIn := Lib.hid (And.intro hin.1 hq12)
         have HOt := Lib.hid hoth
         clear hw hin hoth hq12
         go_wp2_with fail
         refine Rel.wp_region_rel (G := Chg F) (Rel.tab [.is (.pointer (some ⟨p, 0, none⟩)), .is (.slice (some ⟨ab, ao, none⟩) m.length cam), .is (.int .i64 k), .is (.pointer (some ⟨ab, ao + k * 5, none⟩)), .is (.pointer (some ⟨ab, ao + k * 5 + 1, none⟩)), .is (.int .i64 x.at'), .is (.slice (some ⟨ab, ao, none⟩) m.length cam), .is (.int .i64 k), .is (.pointer (some ⟨ab, ao + k * 5, none⟩)), .is (.agg #[.int .u8 (x.d.toNat : Int), .int .i64 x.at', .int .u8 (x.c.toNat : Int), .int .i64 x.keep, .int .i64 x.cut]), kMd F (madeB x), .is (.int .i64 0), .is (.bool true), .is (.bool true), .is (.slice (some ⟨ab, ao, none⟩) m.length cam), .is (.int .i64 k), .is (.pointer (some ⟨ab, ao + k * 5, none⟩)), .is (.pointer (some ⟨ab, ao + k * 5 + 1, none⟩)), .is (.int .i64 x.at'), .is (.bool true), .is (.bool true), .is (.bool true), .is (.slice (some ⟨ab, ao, none⟩) m.length cam), .is (.int .i64 k), .is (.pointer (some ⟨ab, ao + k * 5, none⟩)), .is (.pointer (some ⟨ab, ao + k * 5 + 1, none⟩)), .is (.int .i64 x.at'), .is (.bool true), .is (.bool true)]) (J1 D W.heap.size wq F p s (s.write x.at' (madeB x)).2 11) (by kernel_rfl) (by kernel_rfl) (by kernel_rfl) (by kernel_rfl) (fun w => chg_refl _ _) (j1_start hD HO.out.1) ?_ ?_
         · refine ⟨?_, ?_, ?_, ?_, ?_, ?_, ?_, ?_, ?_, ?_, ?_, ?_, ?_, ?_, ?_, ?_, ?_, ?_, ?_, ?_, ?_, ?_, ?_, ?_, ?_, ?_, ?_, ?_, ?_, trivial⟩
           · intro L a w c
             refine .inl ⟨Rel.wanted_free (by kernel_rfl) _, ?_⟩
             exact Rel.wp_mv _ rfl ⟨_, rfl, chg_refl _ _, (c.old 11 (v := .pointer (some ⟨p, 0, none⟩)) (by kernel_rfl) (by kernel_rfl)), (j1_set c.inv (by decide))⟩
           · intro L a w c
             refine .inl ⟨Rel.wanted_free (by kernel_rfl) _, ?_⟩
             exact Rel.wp_mv _ rfl ⟨_, rfl, chg_refl _ _, (c.old 1 (v := .slice (some ⟨ab, ao, none⟩) m.length cam) (by kernel_rfl) (by kernel_rfl)), (j1_set c.inv (by decide))⟩
           · intro L a w c
             refine .inl ⟨Rel.wanted_free (by kernel_rfl) _, ?_⟩
             exact Rel.wp_mv _ rfl ⟨_, rfl, chg_refl _ _, (c.old 18 (v := .int .i64 k) (by kernel_rfl) (by kernel_rfl)), (j1_set c.inv (by decide))⟩
           · intro L a w c
             refine .inl ⟨Rel.wanted_free (by kernel_rfl) _, ?_⟩
             exact Rel.wp_ia _ _ _ rfl (c.get 1 80 (by kernel_rfl)) (c.get 2 81 (by kernel_rfl)) (run_at_acts ab ao _ _ k hkl w) ⟨_, rfl, chg_refl _ _, rfl, j1_set c.inv (by decide)⟩
           · intro L a w c
             refine .inl ⟨Rel.wanted_free (by kernel_rfl) _, ?_⟩
             exact Chn.wp_fa _ _ _ rfl (c.get 3 82 (by kernel_rfl)) (by simp [go_sem]) ⟨_, rfl, chg_refl _ _, rfl, (j1_set c.inv (by decide))⟩
           · intro L a w c
             refine .inl ⟨Rel.wanted_free (by kernel_rfl) _, ?_⟩
             exact Rel.wp_ld _ _ rfl (c.get 4 83 (by kernel_rfl)) (run_ld_i (ranges_chg c.inv.1 HQ.out HAb.out 1 _ rfl)) ⟨_, rfl, chg_refl _ _, rfl, (j1_set c.inv (by decide))⟩
           · intro L a w c
             refine .inl ⟨Rel.wanted_free (by kernel_rfl) _, ?_⟩
             exact Rel.wp_mv _ rfl ⟨_, rfl, chg_refl _ _, (c.old 1 (v := .slice (some ⟨ab, ao, none⟩) m.length cam) (by kernel_rfl) (by kernel_rfl)), (j1_set c.inv (by decide))⟩
           · intro L a w c
             refine .inl ⟨Rel.wanted_free (by kernel_rfl) _, ?_⟩
             exact Rel.wp_mv _ rfl ⟨_, rfl, chg_refl _ _, (c.old 18 (v := .int .i64 k) (by kernel_rfl) (by kernel_rfl)), (j1_set c.inv (by decide))⟩
           · intro L a w c
             refine .inl ⟨Rel.wanted_free (by kernel_rfl) _, ?_⟩
             exact Rel.wp_ia _ _ _ rfl (c.get 6 85 (by kernel_rfl)) (c.get 7 86 (by kernel_rfl)) (run_at_acts ab ao _ _ k hkl w) ⟨_, rfl, chg_refl _ _, rfl, j1_set c.inv (by decide)⟩
           · intro L a w c
             refine .inl ⟨Rel.wanted_free (by kernel_rfl) _, ?_⟩
             exact Rel.wp_ld _ _ rfl (c.get 8 87 (by kernel_rfl)) (run_ld_act' (ranges_chg c.inv.1 HQ.out HAb.out)) ⟨_, rfl, chg_refl _ _, rfl, (j1_set c.inv (by decide))⟩
           · intro L a w c
             refine .inl ⟨Rel.wanted_free (by kernel_rfl) _, ?_⟩
             refine Rel.wp_cl _ _ _ rfl Try.func14 (by kernel_rfl) ?_
             show Calls _ _ #[Rel.slot a 88] w _
             rw [show Rel.slot a 88 = .agg #[.int .u8 (x.d.toNat : Int), .int .i64 x.at', .int .u8 (x.c.toNat : Int), .int .i64 x.keep, .int .i64 x.cut] from (c.get 9 88 (by kernel_rfl))]
             refine (made_any x w).mono ?_
             rintro e w' ⟨g, n, rfl, hn, ho, hb⟩
             exact ⟨_, rfl, _, rfl, new_chg hb _, kmd_of hn ho (j1_lt c.inv (fun k hk => (HO.out.1.lt k hk).2)), j1_set (j1_keep hD c.inv hb) (by decide)⟩
           · intro L a w c
             refine .inl ⟨Rel.wanted_free (by kernel_rfl) _, ?_⟩
             obtain ⟨g, eg, hrow, hnf⟩ := c.get 10 89 (by kernel_rfl)
             refine Rel.wp_cl _ _ _ rfl Try.func13 (by kernel_rfl) ?_
             show Calls _ _ #[Rel.slot a 79, Rel.slot a 84, Rel.slot a 89] w _
             rw [show Rel.slot a 79 = .pointer (some ⟨p, 0, none⟩) from (c.get 0 79 (by kernel_rfl)), show Rel.slot a 84 = .int .i64 x.at' from (c.get 5 84 (by kernel_rfl)), show Rel.slot a 89 = _ from eg]
             refine (hD.write (j1_first c.inv c.free).d (fun k hk => ((j1_first c.inv c.free).lt k hk).2) x.at' (some ⟨g, 0, none⟩) _ _ (madeB x) HXk.out.1 rfl (Nat.le_refl _) (Nat.le_trans (madeB_small x) (by unfold maxLen; omega)) (fun h => by cases h) hrow (fun q hq h => by injection hq with hq; subst hq; exact hnf h)).mono ?_
             rintro e w' ⟨rfl, h1, hC⟩
             exact ⟨_, rfl, _, rfl, hC, congrArg (Value.int .i64) HE1.out, j1_first' hD c.inv c.free h1 hC HO.out.2.size⟩
           · intro L a w c
             refine .inl ⟨Rel.wanted_free (by kernel_rfl) _, ?_⟩
             exact Rel.wp_bo _ _ _ _ _ rfl (u := .bool true) (c.get 11 90 (by kernel_rfl)) rfl (by simp [go_sem]) ⟨_, rfl, chg_refl _ _, rfl, (j1_set c.inv (by decide))⟩
           · intro L a w c
             refine .inl ⟨Rel.wanted_free (by kernel_rfl) _, ?_⟩
             exact Rel.wp_mv _ rfl ⟨_, rfl, chg_refl _ _, (c.get 12 91 (by kernel_rfl)), (j1_set c.inv (by decide))⟩
           · intro L a w c
             refine .inl ⟨Rel.wanted_by (j := 13) (b := true) (d := 92) (by kernel_rfl) (c.get 13 92 (by kernel_rfl)), ?_⟩
             exact Rel.wp_mv _ rfl ⟨_, rfl, chg_refl _ _, (c.old 1 (v := .slice (some ⟨ab, ao, none⟩) m.length cam) (by kernel_rfl) (by kernel_rfl)), (j1_set c.inv (by decide))⟩
           · intro L a w c
             refine .inl ⟨Rel.wanted_by (j := 13) (b := true) (d := 92) (by kernel_rfl) (c.get 13 92 (by kernel_rfl)), ?_⟩
             exact Rel.wp_mv _ rfl ⟨_, rfl, chg_refl _ _, (c.old 18 (v := .int .i64 k) (by kernel_rfl) (by kernel_rfl)), (j1_set c.inv (by decide))⟩
           · intro L a w c
             refine .inl ⟨Rel.wanted_by (j := 13) (b := true) (d := 92) (by kernel_rfl) (c.get 13 92 (by kernel_rfl)), ?_⟩
             exact Rel.wp_ia _ _ _ rfl (c.get 14 93 (by kernel_rfl)) (c.get 15 94 (by kernel_rfl)) (run_at_acts ab ao _ _ k hkl w) ⟨_, rfl, chg_refl _ _, rfl, j1_set c.inv (by decide)⟩
           · intro L a w c
             refine .inl ⟨Rel.wanted_by (j := 13) (b := true) (d := 92) (by kernel_rfl) (c.get 13 92 (by kernel_rfl)), ?_⟩
             exact Chn.wp_fa _ _ _ rfl (c.get 16 95 (by kernel_rfl)) (by simp [go_sem]) ⟨_, rfl, chg_refl _ _, rfl, (j1_set c.inv (by decide))⟩
           · intro L a w c
             refine .inl ⟨Rel.wanted_by (j := 13) (b := true) (d := 92) (by kernel_rfl) (c.get 13 92 (by kernel_rfl)), ?_⟩
             exact Rel.wp_ld _ _ rfl (c.get 17 96 (by kernel_rfl)) (run_ld_i (ranges_chg c.inv.1 HQ.out HAb.out 1 _ rfl)) ⟨_, rfl, chg_refl _ _, rfl, (j1_set c.inv (by decide))⟩
           · intro L a w c
             refine .inl ⟨Rel.wanted_by (j := 13) (b := true) (d := 92) (by kernel_rfl) (c.get 13 92 (by kernel_rfl)), ?_⟩
             exact Rel.wp_bo _ _ _ _ _ rfl (u := .bool true) (c.get 18 97 (by kernel_rfl)) rfl (by simp [go_sem, HIn.out.1]) ⟨_, rfl, chg_refl _ _, rfl, (j1_set c.inv (by decide))⟩
           · intro L a w c
             refine .inl ⟨Rel.wanted_free (by kernel_rfl) _, ?_⟩
             exact Rel.wp_pk _ _ _ rfl (b := true) (c.get 13 92 (by kernel_rfl)) ⟨_, rfl, chg_refl _ _, (c.get 19 98 (by kernel_rfl)), (j1_set c.inv (by decide))⟩
           · intro L a w c
             refine .inl ⟨Rel.wanted_free (by kernel_rfl) _, ?_⟩
             exact Rel.wp_mv _ rfl ⟨_, rfl, chg_refl _ _, (c.get 20 99 (by kernel_rfl)), (j1_set c.inv (by decide))⟩
           · intro L a w c
             refine .inl ⟨Rel.wanted_by (j := 21) (b := true) (d := 100) (by kernel_rfl) (c.get 21 100 (by kernel_rfl)), ?_⟩
             exact Rel.wp_mv _ rfl ⟨_, rfl, chg_refl _ _, (c.old 1 (v := .slice (some ⟨ab, ao, none⟩) m.length cam) (by kernel_rfl) (by kernel_rfl)), (j1_set c.inv (by decide))⟩
           · intro L a w c
             refine .inl ⟨Rel.wanted_by (j := 21) (b := true) (d := 100) (by kernel_rfl) (c.get 21 100 (by kernel_rfl)), ?_⟩
             exact Rel.wp_mv _ rfl ⟨_, rfl, chg_refl _ _, (c.old 18 (v := .int .i64 k) (by kernel_rfl) (by kernel_rfl)), (j1_set c.inv (by decide))⟩
           · intro L a w c
             refine .inl ⟨Rel.wanted_by (j := 21) (b := true) (d := 100) (by kernel_rfl) (c.get 21 100 (by kernel_rfl)), ?_⟩
             exact Rel.wp_ia _ _ _ rfl (c.get 22 101 (by kernel_rfl)) (c.get 23 102 (by kernel_rfl)) (run_at_acts ab ao _ _ k hkl w) ⟨_, rfl, chg_refl _ _, rfl, j1_set c.inv (by decide)⟩
           · intro L a w c
             refine .inl ⟨Rel.wanted_by (j := 21) (b := true) (d := 100) (by kernel_rfl) (c.get 21 100 (by kernel_rfl)), ?_⟩
             exact Chn.wp_fa _ _ _ rfl (c.get 24 103 (by kernel_rfl)) (by simp [go_sem]) ⟨_, rfl, chg_refl _ _, rfl, (j1_set c.inv (by decide))⟩
           · intro L a w c
             refine .inl ⟨Rel.wanted_by (j := 21) (b := true) (d := 100) (by kernel_rfl) (c.get 21 100 (by kernel_rfl)), ?_⟩
             exact Rel.wp_ld _ _ rfl (c.get 25 104 (by kernel_rfl)) (run_ld_i (ranges_chg c.inv.1 HQ.out HAb.out 1 _ rfl)) ⟨_, rfl, chg_refl _ _, rfl, (j1_set c.inv (by decide))⟩
           · intro L a w c
             refine .inl ⟨Rel.wanted_by (j := 21) (b := true) (d := 100) (by kernel_rfl) (c.get 21 100 (by kernel_rfl)), ?_⟩
             exact Rel.wp_bo _ _ _ _ _ rfl (u := .bool true) (c.get 26 105 (by kernel_rfl)) rfl (by simp [go_sem, HIn.out.2]) ⟨_, rfl, chg_refl _ _, rfl, (j1_set c.inv (by decide))⟩
           · intro L a w c
             refine .inl ⟨Rel.wanted_free (by kernel_rfl) _, ?_⟩
             exact Rel.wp_pk _ _ _ rfl (b := true) (c.get 21 100 (by kernel_rfl)) ⟨_, rfl, chg_refl _ _, (c.get 27 106 (by kernel_rfl)), (j1_set c.inv (by decide))⟩
         intro a w9 hbase hroom hdef hJ hV
         have s107 : Rel.slot a 107 = .bool true := hV 28 _ _ rfl rfl
         rw [Chn.act_puts [79, 80, 81, 82, 83, 84, 85, 86, 87, 88, 89, 90, 91, 92, 93, 94, 95, 96, 97, 98, 99, 100, 101, 102, 103, 104, 105, 106, 107] hbase hroom hdef (by kernel_rfl)]
         clear hbase hroom hdef hV
         simp only [List.foldl_cons, List.foldl_nil]
         generalize Rel.slot a 79 = u79 at *
         generalize Rel.slot a 80 = u80 at *
         generalize Rel.slot a 81 = u81 at *
         generalize Rel.slot a 82 = u82 at *
         generalize Rel.slot a 83 = u83 at *
         generalize Rel.slot a 84 = u84 at *
         generalize Rel.slot a 85 = u85 at *
         generalize Rel.slot a 86 = u86 at *
         generalize Rel.slot a 87 = u87 at *
         generalize Rel.slot a 88 = u88 at *
         generalize Rel.slot a 89 = u89 at *
         generalize Rel.slot a 90 = u90 at *
         generalize Rel.slot a 91 = u91 at *
         generalize Rel.slot a 92 = u92 at *
         generalize Rel.slot a 93 = u93 at *
         generalize Rel.slot a 94 = u94 at *
         generalize Rel.slot a 95 = u95 at *
         generalize Rel.slot a 96 = u96 at *
         generalize Rel.slot a 97 = u97 at *
         generalize Rel.slot a 98 = u98 at *
         generalize Rel.slot a 99 = u99 at *
         generalize Rel.slot a 100 = u100 at *
         generalize Rel.slot a 101 = u101 at *
         generalize Rel.slot a 102 = u102 at *
         generalize Rel.slot a 103 = u103 at *
         generalize Rel.slot a 104 = u104 at *
         generalize Rel.slot a 105 = u105 at *
         generalize Rel.slot a 106 = u106 at *
         rw [s107]
         clear s107
         simp only [Act.put, List.setIfInBounds_toArray, List.set_cons_succ, List.set_cons_zero]
         obtain ⟨hCq, F', h2, hone⟩ := j1_end hJ (by decide)
         have HA2 := Lib.hid (agn_more hD HA.out hCq h2 hone hq hqe HOt.out)
         obtain ⟨_, q1, _, _, _⟩ := HCl.out w9 HA2.out.1.1
         rw [hqe] at q1
         obtain ⟨⟨u, c1⟩, f1⟩ := HA2.out.2
         clear hCq h2 hone hJ
         go_wp2_with fail
         go_roundw
         case rel => exact ⟨k + 1, _, _, F', by omega, by omega, by go_num, HA2.out.1.2⟩
         case measure => simp [intOf]; omega
     · have hor : ¬ (k : Int) < m.length ∨ ((k : Int) < m.length ∧ ¬ (k : Int) < 20) := by omega
       clear hlt
       rcases hor with ho | ⟨ho, ho2⟩
       all_goals
         go_wp2_with fail
         go_meet
         case rel => exact ⟨bs, s, F, HA.out⟩
  case rest =>
  obtain ⟨bs, s, F, hag⟩ := hcut
  have hn3 : s3.now.length = 12 := by rw [H4.out.2.2.2.1, H4.out.2.2.1]
  obtain ⟨gw, cw, rfl⟩ := lst_form hag.was (by omega)
  rw [hn3] at hag ⊢
  have HN3 := Lib.hid hn3
  have HA := Lib.hid hag
  clear hag hn3 HAg
  go_wp2_with fail
  refine (hD.crash HA.out.one.d (fun k hk => (HA.out.one.lt k hk).2) keep torn cut HI.out.1 HI.out.2.1 HI.out.2.2).mono ?_
  rintro e w6 ⟨rfl, hd, hC⟩
  have h6 := one_more hD HA.out.one hd hC HA.out.below.size
  have hB6 := HA.out.below.trans (one_below HA.out.one hC HA.out.below.size)
  have hL6 := lst_chg (F' := fun _ => False) HA.out.was hC (fun _ => .inl) (fun _ h => h.elim)
  have hG6 := blk_chg hC HA.out.blk HA.out.far
  have hsc : (s.crash keep torn cut).good.length = 12 := by rw [crash_length, HA.out.good, HA.out.len]
  have hrd : ∀ k : Nat, k < 12 → ∃ b, (s.crash keep torn cut).read (k : Int) = (b, 0) ∧ b.length = 32 ∧ (bs[k]? = some false → b = s3.now.getD k []) := fun k hk => by
    have hok := hD.ok h6.d
    refine ⟨_, crash_read s keep torn cut (by rw [HA.out.good, HA.out.len]; exact hk), hok.good32 _ (getD_mem (by rw [hsc]; exact hk)), fun h => ?_⟩
    rw [crash_other keep torn cut (HA.out.rest k h), HA.out.good, H4.out.2.2.2.1]
  have hoc : (s.crash keep torn cut).order = [] := rfl
  generalize More F wc w6 = F6 at h6
  generalize s.crash keep torn cut = sc at *
  have H6 := Lib.hid (And.intro h6 (And.intro hB6 (And.intro hL6 (And.intro hG6 (And.intro hrd hoc)))))
  have HBl := Lib.hid HA.out.blen
  clear hd hC h6 hB6 hL6 hG6 hrd hoc hsc
  go_upto_block 6 with fail
  go_cut [19] (fun _ wx => OneF D W.heap.size wx F6 p sc ∧ Below W.heap.size W wx)
  case first =>
   go_wp2_with fail
   go_loopw [19] (fun iv wx => ∃ k : Nat, k ≤ 12 ∧ iv = .int .i64 k ∧ OneF D W.heap.size wx F6 p sc ∧ Below W.heap.size W wx ∧ Below w6.heap.size w6 wx) (fun iv _ => 12 - (intOf iv).toNat)
   case atStart => exact ⟨0, by omega, rfl, H6.out.1, H6.out.2.1, Below.refl _ _⟩
   case round =>
     obtain ⟨k, hk, rfl, hone, hb, hbb⟩ := hrel
     have HO := Lib.hid (And.intro hone (And.intro hb hbb))
     clear hone hb hbb
     by_cases hlt : k < 12
     · obtain ⟨b, hrd, h32, hsame⟩ := H6.out.2.2.2.2.1 k hlt
       have HR := Lib.hid hrd
       have c12 : (k : Int) < 12 := by omega
       have hbl : k < bs.length := by rw [HBl.out]; exact hlt
       have hnl : k < s3.now.length := by rw [HN3.out]; exact hlt
       go_wp2_with fail
       refine (hD.read HO.out.1.d k ⟨by omega, by omega⟩).mono ?_
       rw [HR.out]
       rintro e w7 ⟨v, rfl, ho, hb7⟩
       replace ho : RdB w7 wr.heap.size v b := ho
       obtain ⟨g7, c7, rfl, hrow, _, _⟩ := own_some ho (by omega)
       have hb67 := below_keep HO.out.2.2 hb7
       have hL7 := lst_keep H6.out.2.2.1 hb67
       have cg := cell_keep hb67 (Arr.blk_cell H6.out.2.2.2.1 k |>.trans (by rw [List.getElem?_map, List.getElem?_eq_getElem (by rw [HBl.out]; exact hlt)]; rfl))
       obtain ⟨sl, cs, hsn, hsr, _⟩ := lst_get hL7 hnl
       have HO7 := Lib.hid (And.intro (one_keep hD HO.out.1 hb7) (And.intro (below_keep HO.out.2.1 hb7) hb67))
       have hbk : bs[k]? = some bs[k] := List.getElem?_eq_getElem hbl
       have hgd : s3.now.getD k [] = s3.now[k] := getD_at hnl
       simp only [Sl.val] at cs
       cases hbv : bs[k] with
       | true =>
         rw [hbv] at cg
         have HCg := Lib.hid cg
         clear ho hb7 hrow hL7 hsr hsame hbk hb67 hgd hrd h32 hsn cg cs
         go_wp2_with fail
         refine Rel.wp_region_rel (G := Rel.Gr) (Rel.tab [.is (.slice (some ⟨g, 0, none⟩) 12 12), .is (.int .i64 k), .is (.pointer (some ⟨g, k, none⟩)), .is (.bool true), .is (.bool false), .is (.bool false), .is undef, .is undef, .is undef, .is undef, .is undef, .is undef, .is undef, .is undef, .is (.bool false)]) (fun _ w => Below w7.heap.size w7 w) (by kernel_rfl) (by kernel_rfl) (by kernel_rfl) (by kernel_rfl) (fun w => Rel.gr_refl _) (below_drew _) ?_ ?_
         · refine ⟨?_, ?_, ?_, ?_, ?_, ?_, ?_, ?_, ?_, ?_, ?_, ?_, ?_, ?_, ?_, trivial⟩
           · intro L a w c
             refine .inl ⟨Rel.wanted_free (by kernel_rfl) _, ?_⟩
             exact Rel.wp_mv _ rfl ⟨_, rfl, Rel.gr_refl _, (c.old 17 (v := .slice (some ⟨g, 0, none⟩) 12 12) (by kernel_rfl) (by kernel_rfl)), c.inv⟩
           · intro L a w c
             refine .inl ⟨Rel.wanted_free (by kernel_rfl) _, ?_⟩
             exact Rel.wp_mv _ rfl ⟨_, rfl, Rel.gr_refl _, (c.old 19 (v := .int .i64 k) (by kernel_rfl) (by kernel_rfl)), c.inv⟩
           · intro L a w c
             refine .inl ⟨Rel.wanted_free (by kernel_rfl) _, ?_⟩
             exact Rel.wp_ia _ _ _ rfl (c.get 0 130 (by kernel_rfl)) (c.get 1 131 (by kernel_rfl)) (by simp [go_sem]; omega) ⟨_, rfl, Rel.gr_refl _, rfl, c.inv⟩
           · intro L a w c
             refine .inl ⟨Rel.wanted_free (by kernel_rfl) _, ?_⟩
             exact Rel.wp_ld _ _ rfl (c.get 2 132 (by kernel_rfl)) (by simp [go_sem, cell_keep c.inv HCg.out]) ⟨_, rfl, Rel.gr_refl _, rfl, c.inv⟩
           · intro L a w c
             refine .inl ⟨Rel.wanted_free (by kernel_rfl) _, ?_⟩
             exact Chn.wp_uo _ _ _ rfl (c.get 3 133 (by kernel_rfl)) (by simp [go_sem]) ⟨_, rfl, Rel.gr_refl _, rfl, c.inv⟩
           · intro L a w c
             refine .inl ⟨Rel.wanted_free (by kernel_rfl) _, ?_⟩
             exact Rel.wp_mv _ rfl ⟨_, rfl, Rel.gr_refl _, (c.get 4 134 (by kernel_rfl)), c.inv⟩
           · intro L a w c
             exact .inr ⟨Chn.wanted_not (j := 5) (b := true) (d := 135) (by kernel_rfl) (c.get 5 135 (by kernel_rfl)), rfl, c.inv⟩
           · intro L a w c
             exact .inr ⟨Chn.wanted_not (j := 5) (b := true) (d := 135) (by kernel_rfl) (c.get 5 135 (by kernel_rfl)), rfl, c.inv⟩
           · intro L a w c
             exact .inr ⟨Chn.wanted_not (j := 5) (b := true) (d := 135) (by kernel_rfl) (c.get 5 135 (by kernel_rfl)), rfl, c.inv⟩
           · intro L a w c
             exact .inr ⟨Chn.wanted_not (j := 5) (b := true) (d := 135) (by kernel_rfl) (c.get 5 135 (by kernel_rfl)), rfl, c.inv⟩
           · intro L a w c
             exact .inr ⟨Chn.wanted_not (j := 5) (b := true) (d := 135) (by kernel_rfl) (c.get 5 135 (by kernel_rfl)), rfl, c.inv⟩
           · intro L a w c
             exact .inr ⟨Chn.wanted_not (j := 5) (b := true) (d := 135) (by kernel_rfl) (c.get 5 135 (by kernel_rfl)), rfl, c.inv⟩
           · intro L a w c
             exact .inr ⟨Chn.wanted_not (j := 5) (b := true) (d := 135) (by kernel_rfl) (c.get 5 135 (by kernel_rfl)), rfl, c.inv⟩
           · intro L a w c
             exact .inr ⟨Chn.wanted_not (j := 5) (b := true) (d := 135) (by kernel_rfl) (c.get 5 135 (by kernel_rfl)), rfl, c.inv⟩
           · intro L a w c
             refine .inl ⟨Rel.wanted_free (by kernel_rfl) _, ?_⟩
             exact Rel.wp_pk _ _ _ rfl (b := false) (c.get 5 135 (by kernel_rfl)) ⟨_, rfl, Rel.gr_refl _, rfl, c.inv⟩
         intro a w9 hbase hroom hdef hJ hV
         have s144 : Rel.slot a 144 = .bool false := hV 14 _ _ rfl rfl
         rw [Chn.act_puts [130, 131, 132, 133, 134, 135, 136, 137, 138, 139, 140, 141, 142, 143, 144] hbase hroom hdef (by kernel_rfl)]
         clear hbase hroom hdef hV
         simp only [List.foldl_cons, List.foldl_nil]
         generalize Rel.slot a 130 = u130 at *
         generalize Rel.slot a 131 = u131 at *
         generalize Rel.slot a 132 = u132 at *
         generalize Rel.slot a 133 = u133 at *
         generalize Rel.slot a 134 = u134 at *
         generalize Rel.slot a 135 = u135 at *
         generalize Rel.slot a 136 = u136 at *
         generalize Rel.slot a 137 = u137 at *
         generalize Rel.slot a 138 = u138 at *
         generalize Rel.slot a 139 = u139 at *
         generalize Rel.slot a 140 = u140 at *
         generalize Rel.slot a 141 = u141 at *
         generalize Rel.slot a 142 = u142 at *
         generalize Rel.slot a 143 = u143 at *
         rw [s144]
         clear s144
         simp only [Act.put, List.setIfInBounds_toArray, List.set_cons_succ, List.set_cons_zero]
         have HO9 := Lib.hid (And.intro (one_keep hD HO7.out.1 hJ) (And.intro (below_keep HO7.out.2.1 hJ) (below_keep HO7.out.2.2 hJ)))
         clear hJ
         go_wp2_with fail
         go_roundw
         case rel => exact ⟨k + 1, by omega, by go_num, HO9.out.1, HO9.out.2.1, HO9.out.2.2⟩
         case measure => simp [intOf]; omega
       | false =>
         rw [hbv] at cg hbk
         have he := hsame hbk
         rw [hgd] at he
         rw [← he] at hsr hsn
         rw [hsn] at cs
         have HCg := Lib.hid cg
         have HCs := Lib.hid cs
         have HRb := Lib.hid hrow
         have HRs := Lib.hid hsr
         clear ho hb7 hrow hL7 hsr hsame hbk hb67 hgd hrd h32 hsn he cg cs
         go_wp2_with fail
         refine Rel.wp_region_rel (G := Rel.Gr) (Rel.tab [.is (.slice (some ⟨g, 0, none⟩) 12 12), .is (.int .i64 k), .is (.pointer (some ⟨g, k, none⟩)), .is (.bool false), .is (.bool true), .is (.bool true), .is (.slice (some ⟨g7, 0, none⟩) b.length c7), .is (.string ⟨b.toArray⟩), .is (.slice (some ⟨gw, 0, none⟩) 12 cw), .is (.int .i64 k), .is (.pointer (some ⟨gw, k, none⟩)), .is (.slice (some ⟨sl.b, 0, none⟩) b.length sl.c), .is (.string ⟨b.toArray⟩), .is (.bool false), .is (.bool false)]) (fun _ w => Below w7.heap.size w7 w) (by kernel_rfl) (by kernel_rfl) (by kernel_rfl) (by kernel_rfl) (fun w => Rel.gr_refl _) (below_drew _) ?_ ?_
         · refine ⟨?_, ?_, ?_, ?_, ?_, ?_, ?_, ?_, ?_, ?_, ?_, ?_, ?_, ?_, ?_, trivial⟩
           · intro L a w c
             refine .inl ⟨Rel.wanted_free (by kernel_rfl) _, ?_⟩
             exact Rel.wp_mv _ rfl ⟨_, rfl, Rel.gr_refl _, (c.old 17 (v := .slice (some ⟨g, 0, none⟩) 12 12) (by kernel_rfl) (by kernel_rfl)), c.inv⟩
           · intro L a w c
             refine .inl ⟨Rel.wanted_free (by kernel_rfl) _, ?_⟩
             exact Rel.wp_mv _ rfl ⟨_, rfl, Rel.gr_refl _, (c.old 19 (v := .int .i64 k) (by kernel_rfl) (by kernel_rfl)), c.inv⟩
           · intro L a w c
             refine .inl ⟨Rel.wanted_free (by kernel_rfl) _, ?_⟩
             exact Rel.wp_ia _ _ _ rfl (c.get 0 130 (by kernel_rfl)) (c.get 1 131 (by kernel_rfl)) (by simp [go_sem]; omega) ⟨_, rfl, Rel.gr_refl _, rfl, c.inv⟩
           · intro L a w c
             refine .inl ⟨Rel.wanted_free (by kernel_rfl) _, ?_⟩
             exact Rel.wp_ld _ _ rfl (c.get 2 132 (by kernel_rfl)) (by simp [go_sem, cell_keep c.inv HCg.out]) ⟨_, rfl, Rel.gr_refl _, rfl, c.inv⟩
           · intro L a w c
             refine .inl ⟨Rel.wanted_free (by kernel_rfl) _, ?_⟩
             exact Chn.wp_uo _ _ _ rfl (c.get 3 133 (by kernel_rfl)) (by simp [go_sem]) ⟨_, rfl, Rel.gr_refl _, rfl, c.inv⟩
           · intro L a w c
             refine .inl ⟨Rel.wanted_free (by kernel_rfl) _, ?_⟩
             exact Rel.wp_mv _ rfl ⟨_, rfl, Rel.gr_refl _, (c.get 4 134 (by kernel_rfl)), c.inv⟩
           · intro L a w c
             refine .inl ⟨Rel.wanted_by (j := 5) (b := true) (d := 135) (by kernel_rfl) (c.get 5 135 (by kernel_rfl)), ?_⟩
             exact Rel.wp_mv _ rfl ⟨_, rfl, Rel.gr_refl _, (c.old 20 (v := .slice (some ⟨g7, 0, none⟩) b.length c7) (by kernel_rfl) (by kernel_rfl)), c.inv⟩
           · intro L a w c
             refine .inl ⟨Rel.wanted_by (j := 5) (b := true) (d := 135) (by kernel_rfl) (c.get 5 135 (by kernel_rfl)), ?_⟩
             exact Rel.wp_cv _ _ _ rfl (c.get 6 136 (by kernel_rfl)) (KC.out w _ _ _ _ rfl (fun h => by cases h) (row_keep encB_len HRb.out c.inv)) ⟨_, rfl, Rel.gr_refl _, rfl, c.inv⟩
           · intro L a w c
             refine .inl ⟨Rel.wanted_by (j := 5) (b := true) (d := 135) (by kernel_rfl) (c.get 5 135 (by kernel_rfl)), ?_⟩
             exact Rel.wp_mv _ rfl ⟨_, rfl, Rel.gr_refl _, (c.old 13 (v := .slice (some ⟨gw, 0, none⟩) 12 cw) (by kernel_rfl) (by kernel_rfl)), c.inv⟩
           · intro L a w c
             refine .inl ⟨Rel.wanted_by (j := 5) (b := true) (d := 135) (by kernel_rfl) (c.get 5 135 (by kernel_rfl)), ?_⟩
             exact Rel.wp_mv _ rfl ⟨_, rfl, Rel.gr_refl _, (c.old 19 (v := .int .i64 k) (by kernel_rfl) (by kernel_rfl)), c.inv⟩
           · intro L a w c
             refine .inl ⟨Rel.wanted_by (j := 5) (b := true) (d := 135) (by kernel_rfl) (c.get 5 135 (by kernel_rfl)), ?_⟩
             exact Rel.wp_ia _ _ _ rfl (c.get 8 138 (by kernel_rfl)) (c.get 9 139 (by kernel_rfl)) (by simp [go_sem]; omega) ⟨_, rfl, Rel.gr_refl _, rfl, c.inv⟩
           · intro L a w c
             refine .inl ⟨Rel.wanted_by (j := 5) (b := true) (d := 135) (by kernel_rfl) (c.get 5 135 (by kernel_rfl)), ?_⟩
             exact Rel.wp_ld _ _ rfl (c.get 10 140 (by kernel_rfl)) (run_ld_sl (cell_keep c.inv HCs.out)) ⟨_, rfl, Rel.gr_refl _, rfl, c.inv⟩
           · intro L a w c
             refine .inl ⟨Rel.wanted_by (j := 5) (b := true) (d := 135) (by kernel_rfl) (c.get 5 135 (by kernel_rfl)), ?_⟩
             exact Rel.wp_cv _ _ _ rfl (c.get 11 141 (by kernel_rfl)) (KC.out w _ _ _ _ rfl (fun h => by cases h) (row_keep encB_len HRs.out c.inv)) ⟨_, rfl, Rel.gr_refl _, rfl, c.inv⟩
           · intro L a w c
             refine .inl ⟨Rel.wanted_by (j := 5) (b := true) (d := 135) (by kernel_rfl) (c.get 5 135 (by kernel_rfl)), ?_⟩
             exact Rel.wp_bo _ _ _ _ _ rfl (u := .bool false) (c.get 7 137 (by kernel_rfl)) (c.get 12 142 (by kernel_rfl)) (by simp [go_sem]) ⟨_, rfl, Rel.gr_refl _, rfl, c.inv⟩
           · intro L a w c
             refine .inl ⟨Rel.wanted_free (by kernel_rfl) _, ?_⟩
             exact Rel.wp_pk _ _ _ rfl (b := true) (c.get 5 135 (by kernel_rfl)) ⟨_, rfl, Rel.gr_refl _, (c.get 13 143 (by kernel_rfl)), c.inv⟩
         intro a w9 hbase hroom hdef hJ hV
         have s144 : Rel.slot a 144 = .bool false := hV 14 _ _ rfl rfl
         rw [Chn.act_puts [130, 131, 132, 133, 134, 135, 136, 137, 138, 139, 140, 141, 142, 143, 144] hbase hroom hdef (by kernel_rfl)]
         clear hbase hroom hdef hV
         simp only [List.foldl_cons, List.foldl_nil]
         generalize Rel.slot a 130 = u130 at *
         generalize Rel.slot a 131 = u131 at *
         generalize Rel.slot a 132 = u132 at *
         generalize Rel.slot a 133 = u133 at *
         generalize Rel.slot a 134 = u134 at *
         generalize Rel.slot a 135 = u135 at *
         generalize Rel.slot a 136 = u136 at *
         generalize Rel.slot a 137 = u137 at *
         generalize Rel.slot a 138 = u138 at *
         generalize Rel.slot a 139 = u139 at *
         generalize Rel.slot a 140 = u140 at *
         generalize Rel.slot a 141 = u141 at *
         generalize Rel.slot a 142 = u142 at *
         generalize Rel.slot a 143 = u143 at *
         rw [s144]
         clear s144
         simp only [Act.put, List.setIfInBounds_toArray, List.set_cons_succ, List.set_cons_zero]
         have HO9 := Lib.hid (And.intro (one_keep hD HO7.out.1 hJ) (And.intro (below_keep HO7.out.2.1 hJ) (below_keep HO7.out.2.2 hJ)))
         clear hJ
         go_wp2_with fail
         go_roundw
         case rel => exact ⟨k + 1, by omega, by go_num, HO9.out.1, HO9.out.2.1, HO9.out.2.2⟩
         case measure => simp [intOf]; omega
     · obtain rfl : k = 12 := by omega
       go_wp2_with fail
       go_meet
       case rel => exact ⟨HO.out.1, HO.out.2.1⟩
  case rest =>
  obtain ⟨hone, hb⟩ := hcut
  have H7 := Lib.hid (And.intro hone hb)
  clear hone hb
  go_wp2_with fail
  refine (awake_any hD wc).mono ?_
  rintro e w8 ⟨rfl, hb⟩
  have H8 := Lib.hid (And.intro (one_keep hD H7.out.1 hb) (below_keep H7.out.2 hb))
  clear hb
  go_wp2_with fail
  refine (hD.cached H8.out.1.d).mono ?_
  rw [H6.out.2.2.2.2.2]
  rintro e w9 ⟨rfl, hb⟩
  have HB9 := Lib.hid (below_keep H8.out.2 hb)
  clear hb
  go_wp2
  go_ret
  exact ⟨rfl, HB9.out⟩
end Go.Proofs.Ytpbegchaneppfaa.Dsk
