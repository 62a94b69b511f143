/- Order, the landed: how it compares two jobs. -/
import Derived.Test.YtkjkhfkaihncdaaCmpInt
import Derived.Test.YtkjkhfkaihncdaaOrdAhd
namespace Go.Proofs.Ytkjkhfkaihncdaa.Ord
set_option maxRecDepth 100000
open Go.RowKit
open Go.Sort
open Kit
open Foot
open Cmp
open Tre (Lst lst_take inI run_ld2 encI)
open Job (Jb Jv Jobs encJ encJ_len encJ_one job_cell)
set_option linter.unusedVariables false
variable {w w' : World}

def prioOf (l : List Jv) (k : Nat) : Int := match l[k]? with | some x => x.t.prio | none => 0
def idOf (l : List Jv) (k : Nat) : Int := match l[k]? with | some x => x.t.id | none => 0
/-- What the landed order's comparison says of the jobs at two places. -/
def cfJ (l : List Jv) (i k : Nat) : Int := orI (cmpI (prioOf l k) (prioOf l i)) (cmpI (idOf l i) (idOf l k))
/-- Of a later place against an earlier one: it is ahead. -/
theorem cfJ_lt {l : List Jv} {i k : Nat} (hi : i < l.length) (hk : k < l.length) (hki : k < i) : cfJ l i k < 0 ↔ lt (ts l) i k := by
  unfold cfJ
  rw [or_lt]
  unfold lt ts prioOf idOf
  rw [List.getElem?_map, List.getElem?_map, List.getElem?_eq_getElem hi, List.getElem?_eq_getElem hk]
  simp only [Option.map, aheadJ]
  omega
theorem run_ldJ {w : World} {a : Addr} {b : Option Addr} {n c : Nat} (h : w.cell? a = some (.slice b n c)) : (Instr.loadAt 22 (.pointer (some a))).run Try.prog w = .ok (.slice b n c) w := by
  simp [go_sem, h]

set_option maxHeartbeats 8000000 in
theorem clos_any (W : World) (bx b o n cc k1 k2 : Nat) (l : List Jv) (hX : W.cell? ⟨bx, 0, none⟩ = some (.slice (some ⟨b, o, none⟩) n cc)) (hL : Jobs W (some ⟨b, o, none⟩) n cc l) (h1 : k1 < n) (h2 : k2 < n) :
    Calls Try.prog 14 #[.int .i64 (k1 : Nat), .int .i64 (k2 : Nat), .pointer (some ⟨bx, 0, none⟩)] W fun e w' => e = .returned (.int .i64 (cfJ l k1 k2)) ∧ Below W.heap.size W w' ∧ W.drawn ≤ w'.drawn := by
  obtain ⟨x, hx⟩ : ∃ x, l[k1]? = some x := ⟨_, List.getElem?_eq_getElem (by rw [hL.len]; exact h1)⟩
  obtain ⟨y, hy⟩ : ∃ y, l[k2]? = some y := ⟨_, List.getElem?_eq_getElem (by rw [hL.len]; exact h2)⟩
  have HCf := Lib.hid (show cfJ l k1 k2 = orI (cmpI y.t.prio x.t.prio) (cmpI x.t.id y.t.id) by unfold cfJ prioOf idOf; rw [hx, hy])
  have HR := Lib.hid (And.intro (job_range hL hx) (job_range hL hy))
  have HK := Lib.hid (And.intro h1 h2)
  have HX := Lib.hid hX
  have hm1 : k1 ≤ 9223372036854775807 := by have := hL.cap; have := hL.max; unfold maxLen at this; omega
  have hm2 : k2 ≤ 9223372036854775807 := by have := hL.cap; have := hL.max; unfold maxLen at this; omega
  clear hL hx hy h1 h2 hX
  go_enter Try.func14, Try.ntmps14
  go_wp2_with fail
  refine Rel.wp_region_seen (G := Rel.Gt) (Rel.tab [.is (.slice (some ⟨b, o, none⟩) n cc), .is (.int .i64 (k1 : Nat)), .is (.pointer (some ⟨b, o + k1 * 12, none⟩)), .is (.agg (encJ x).toArray), .is (.slice (some ⟨b, o, none⟩) n cc), .is (.int .i64 (k2 : Nat)), .is (.pointer (some ⟨b, o + k2 * 12, none⟩)), .is (.agg (encJ y).toArray), Rel.Kd.any, Rel.Kd.any, Rel.Kd.any, Rel.Kd.any]) (fun L f w => BoxTwo.J ⟨8, 9, 10, 11, 6, 7⟩ W 32 zero12 (encJ x) (encJ y) L f w ∧ W.drawn ≤ w.drawn) (by kernel_rfl) (by kernel_rfl) (by kernel_rfl) (by kernel_rfl) (fun w => trivial) (⟨BoxTwo.start _ _, Nat.le_succ _⟩) ?_ ?_
  · refine ⟨?_, ?_, ?_, ?_, ?_, ?_, ?_, ?_, ?_, ?_, ?_, ?_, trivial⟩
    · intro L a w c j
      refine .inl ⟨Rel.wanted_free (by kernel_rfl) _, ?_⟩
      exact Rel.wp_ld _ _ rfl (c.old 2 (v := .pointer (some ⟨bx, 0, none⟩)) (by kernel_rfl) (by kernel_rfl)) (run_ldJ (cell_keep j.1.1 HX.out)) ⟨_, rfl, trivial, rfl, ⟨BoxTwo.go (k := 0) (d := 8) j.1 (by decide) (by decide) (by decide) (by decide) (by decide) (by decide), j.2⟩⟩
    · intro L a w c j
      refine .inl ⟨Rel.wanted_free (by kernel_rfl) _, ?_⟩
      exact Rel.wp_mv _ rfl ⟨_, rfl, trivial, (c.old 0 (v := .int .i64 (k1 : Nat)) (by kernel_rfl) (by kernel_rfl)), ⟨BoxTwo.go (k := 1) (d := 9) j.1 (by decide) (by decide) (by decide) (by decide) (by decide) (by decide), j.2⟩⟩
    · intro L a w c j
      refine .inl ⟨Rel.wanted_free (by kernel_rfl) _, ?_⟩
      exact Rel.wp_ia _ _ _ rfl (c.get 0 8 (by kernel_rfl)) (c.get 1 9 (by kernel_rfl)) (run_ij HK.out.1 w) ⟨_, rfl, trivial, rfl, ⟨BoxTwo.go (k := 2) (d := 10) j.1 (by decide) (by decide) (by decide) (by decide) (by decide) (by decide), j.2⟩⟩
    · intro L a w c j
      refine .inl ⟨Rel.wanted_free (by kernel_rfl) _, ?_⟩
      exact wp_load_mid 32 (.tmp 10) rfl b (o + k1 * 12) (Rel.eval_tmp (c.get 2 10 (by kernel_rfl))) (encJ x) _ (range_keep j.1.1 HR.out.1) Try.underlying32 rfl info_job12 ⟨_, rfl, trivial, rfl, ⟨BoxTwo.go (k := 3) (d := 11) j.1 (by decide) (by decide) (by decide) (by decide) (by decide) (by decide), j.2⟩⟩
    · intro L a w c j
      refine .inl ⟨Rel.wanted_free (by kernel_rfl) _, ?_⟩
      exact Rel.wp_ld _ _ rfl (c.old 2 (v := .pointer (some ⟨bx, 0, none⟩)) (by kernel_rfl) (by kernel_rfl)) (run_ldJ (cell_keep j.1.1 HX.out)) ⟨_, rfl, trivial, rfl, ⟨BoxTwo.go (k := 4) (d := 12) j.1 (by decide) (by decide) (by decide) (by decide) (by decide) (by decide), j.2⟩⟩
    · intro L a w c j
      refine .inl ⟨Rel.wanted_free (by kernel_rfl) _, ?_⟩
      exact Rel.wp_mv _ rfl ⟨_, rfl, trivial, (c.old 1 (v := .int .i64 (k2 : Nat)) (by kernel_rfl) (by kernel_rfl)), ⟨BoxTwo.go (k := 5) (d := 13) j.1 (by decide) (by decide) (by decide) (by decide) (by decide) (by decide), j.2⟩⟩
    · intro L a w c j
      refine .inl ⟨Rel.wanted_free (by kernel_rfl) _, ?_⟩
      exact Rel.wp_ia _ _ _ rfl (c.get 4 12 (by kernel_rfl)) (c.get 5 13 (by kernel_rfl)) (run_ij HK.out.2 w) ⟨_, rfl, trivial, rfl, ⟨BoxTwo.go (k := 6) (d := 14) j.1 (by decide) (by decide) (by decide) (by decide) (by decide) (by decide), j.2⟩⟩
    · intro L a w c j
      refine .inl ⟨Rel.wanted_free (by kernel_rfl) _, ?_⟩
      exact wp_load_mid 32 (.tmp 14) rfl b (o + k2 * 12) (Rel.eval_tmp (c.get 6 14 (by kernel_rfl))) (encJ y) _ (range_keep j.1.1 HR.out.2) Try.underlying32 rfl info_job12 ⟨_, rfl, trivial, rfl, ⟨BoxTwo.go (k := 7) (d := 15) j.1 (by decide) (by decide) (by decide) (by decide) (by decide) (by decide), j.2⟩⟩
    · intro L a w c j
      refine .inl ⟨Rel.wanted_free (by kernel_rfl) _, ?_⟩
      exact Rel.wp_al _ rfl (run_alloc_job w) ⟨_, rfl, trivial, trivial, ⟨BoxTwo.mk1 j.1 (by decide) (by decide) (by decide) (by decide) (by rw [c.room]; exact of_decide_eq_true (by kernel_rfl)) (c.later 10 (by kernel_rfl)), j.2⟩⟩
    · intro L a w c j
      refine .inl ⟨Rel.wanted_free (by kernel_rfl) _, ?_⟩
      exact Rel.wp_al _ rfl (run_alloc_job w) ⟨_, rfl, trivial, trivial, ⟨BoxTwo.mk2 j.1 (by decide) (by decide) (by decide) (by decide) (by rw [c.room]; exact of_decide_eq_true (by kernel_rfl)) (c.later 11 (by kernel_rfl)), j.2⟩⟩
    · intro L a w c j
      refine .inl ⟨Rel.wanted_free (by kernel_rfl) _, ?_⟩
      obtain ⟨B, hB, hblk, hj⟩ := BoxTwo.st1 j.1 (by decide) (by decide) (by decide) (c.came 8 (by kernel_rfl)) (Rel.free_no c.free) c.size (of_decide_eq_true (by kernel_rfl))
      exact wp_store_row 32 (.tmp 6) (.tmp 11) rfl B (encJ x).toArray (Rel.eval_tmp hB) (Rel.eval_tmp (c.get 3 11 (by kernel_rfl))) 32 zero12.toArray hblk info_job12 rfl (one12 _) ⟨_, rfl, trivial, trivial, hj, j.2⟩
    · intro L a w c j
      refine .inl ⟨Rel.wanted_free (by kernel_rfl) _, ?_⟩
      obtain ⟨B, hB, hblk, hj⟩ := BoxTwo.st2 j.1 (by decide) (by decide) (by decide) (c.came 9 (by kernel_rfl)) (Rel.free_no c.free) c.size (of_decide_eq_true (by kernel_rfl))
      exact wp_store_row 32 (.tmp 7) (.tmp 15) rfl B (encJ y).toArray (Rel.eval_tmp hB) (Rel.eval_tmp (c.get 7 15 (by kernel_rfl))) 32 zero12.toArray hblk info_job12 rfl (one12 _) ⟨_, rfl, trivial, trivial, hj, j.2⟩
  intro a w9 hbase hroom hdef hJ hV
  obtain ⟨hJ, hdr⟩ := hJ
  obtain ⟨B1, B2, e1, e2, hne, hb1, hb2, hbw⟩ := BoxTwo.fin hJ (by decide) (by decide) (by decide) (by decide)
  clear hJ
  change Rel.slot a 6 = _ at e1
  change Rel.slot a 7 = _ at e2
  have k6 : (Rel.Kd.any : Rel.Kd (Rel.Gt)).p w9 (Rel.slot a 6) := hV 8 _ _ rfl rfl
  have k7 : (Rel.Kd.any : Rel.Kd (Rel.Gt)).p w9 (Rel.slot a 7) := hV 9 _ _ rfl rfl
  rw [Chn.act_puts [8, 9, 10, 11, 12, 13, 14, 15, 6, 7] hbase hroom hdef (by kernel_rfl)]
  clear hbase hroom hdef hV
  simp only [List.foldl_cons, List.foldl_nil]
  generalize Rel.slot a 8 = u8 at *
  generalize Rel.slot a 9 = u9 at *
  generalize Rel.slot a 10 = u10 at *
  generalize Rel.slot a 11 = u11 at *
  generalize Rel.slot a 12 = u12 at *
  generalize Rel.slot a 13 = u13 at *
  generalize Rel.slot a 14 = u14 at *
  generalize Rel.slot a 15 = u15 at *
  generalize Rel.slot a 6 = u6 at *
  generalize Rel.slot a 7 = u7 at *
  simp only [Act.put, List.setIfInBounds_toArray, List.set_cons_succ, List.set_cons_zero]
  rw [e1, e2]
  clear k6 k7 e1 e2
  have HBw := Lib.hid (And.intro hbw hdr)
  obtain ⟨xf, hxf⟩ : ∃ v, v = x.t.prio := ⟨_, rfl⟩
  obtain ⟨yf, hyf⟩ : ∃ v, v = y.t.prio := ⟨_, rfl⟩
  obtain ⟨xt, hxt⟩ : ∃ v, v = x.t.id := ⟨_, rfl⟩
  obtain ⟨yt, hyt⟩ : ∃ v, v = y.t.id := ⟨_, rfl⟩
  rw [← hxf, ← hyf, ← hxt, ← hyt] at HCf
  have HC := Lib.hid (show w9.cell? ⟨B2, 5, none⟩ = some (.int .i64 yf) ∧ w9.cell? ⟨B1, 5, none⟩ = some (.int .i64 xf) ∧ w9.cell? ⟨B1, 0, none⟩ = some (.int .i64 xt) ∧ w9.cell? ⟨B2, 0, none⟩ = some (.int .i64 yt) by
    rw [hxf, hyf, hxt, hyt]
    exact ⟨Arr.blk_cell hb2 5, Arr.blk_cell hb1 5, Arr.blk_cell hb1 0, Arr.blk_cell hb2 0⟩)
  clear hxf hyf hxt hyt hbw hb1 hb2 hne hdr
  go_wp2_with fail
  refine Rel.wp_region_rel (G := Rel.Gr) (Rel.tab [.is (.pointer (some ⟨B2, 5, none⟩)), .is (.int .i64 yf), .is (.pointer (some ⟨B1, 5, none⟩)), .is (.int .i64 xf), .is (.int .i64 (cmpI yf xf)), .is (.pointer (some ⟨B1, 0, none⟩)), .is (.int .i64 xt), .is (.pointer (some ⟨B2, 0, none⟩)), .is (.int .i64 yt), .is (.int .i64 (cmpI xt yt)), kTwo (cmpI yf xf) (cmpI xt yt), .is (.int .i64 (orI (cmpI yf xf) (cmpI xt yt))), .is (.int .i64 (orI (cmpI yf xf) (cmpI xt yt)))]) (fun _ w => Below w9.heap.size w9 w ∧ w9.drawn ≤ w.drawn) (by kernel_rfl) (by kernel_rfl) (by kernel_rfl) (by kernel_rfl) (fun w => Rel.gr_refl _) (⟨below_drew _, Nat.le_succ _⟩) ?_ ?_
  · refine ⟨?_, ?_, ?_, ?_, ?_, ?_, ?_, ?_, ?_, ?_, ?_, ?_, ?_, trivial⟩
    · intro L a w c
      refine .inl ⟨Rel.wanted_free (by kernel_rfl) _, ?_⟩
      exact Chn.wp_fa _ _ _ rfl (c.old 7 (v := .pointer (some ⟨B2, 0, none⟩)) (by kernel_rfl) (by kernel_rfl)) (by simp [go_sem]) ⟨_, rfl, Rel.gr_refl _, rfl, c.inv⟩
    · intro L a w c
      refine .inl ⟨Rel.wanted_free (by kernel_rfl) _, ?_⟩
      exact Rel.wp_ld _ _ rfl (c.get 0 16 (by kernel_rfl)) (run_ld2 (cell_keep c.inv.1 HC.out.1)) ⟨_, rfl, Rel.gr_refl _, rfl, c.inv⟩
    · intro L a w c
      refine .inl ⟨Rel.wanted_free (by kernel_rfl) _, ?_⟩
      exact Chn.wp_fa _ _ _ rfl (c.old 6 (v := .pointer (some ⟨B1, 0, none⟩)) (by kernel_rfl) (by kernel_rfl)) (by simp [go_sem]) ⟨_, rfl, Rel.gr_refl _, rfl, c.inv⟩
    · intro L a w c
      refine .inl ⟨Rel.wanted_free (by kernel_rfl) _, ?_⟩
      exact Rel.wp_ld _ _ rfl (c.get 2 18 (by kernel_rfl)) (run_ld2 (cell_keep c.inv.1 HC.out.2.1)) ⟨_, rfl, Rel.gr_refl _, rfl, c.inv⟩
    · intro L a w c
      refine .inl ⟨Rel.wanted_free (by kernel_rfl) _, ?_⟩
      refine Rel.wp_cl _ _ _ rfl Try.func16 (by kernel_rfl) ?_
      show Calls _ _ #[Rel.slot a 17, Rel.slot a 19] w _
      rw [show Rel.slot a 17 = .int .i64 yf from (c.get 1 17 (by kernel_rfl)), show Rel.slot a 19 = .int .i64 xf from (c.get 3 19 (by kernel_rfl))]
      refine (compare_any yf xf w).mono ?_
      rintro e w' ⟨rfl, rfl⟩
      exact ⟨_, rfl, _, rfl, Rel.gr_refl _, rfl, c.inv⟩
    · intro L a w c
      refine .inl ⟨Rel.wanted_free (by kernel_rfl) _, ?_⟩
      exact Chn.wp_fa _ _ _ rfl (c.old 6 (v := .pointer (some ⟨B1, 0, none⟩)) (by kernel_rfl) (by kernel_rfl)) (by simp [go_sem]) ⟨_, rfl, Rel.gr_refl _, rfl, c.inv⟩
    · intro L a w c
      refine .inl ⟨Rel.wanted_free (by kernel_rfl) _, ?_⟩
      exact Rel.wp_ld _ _ rfl (c.get 5 21 (by kernel_rfl)) (run_ld2 (cell_keep c.inv.1 HC.out.2.2.1)) ⟨_, rfl, Rel.gr_refl _, rfl, c.inv⟩
    · intro L a w c
      refine .inl ⟨Rel.wanted_free (by kernel_rfl) _, ?_⟩
      exact Chn.wp_fa _ _ _ rfl (c.old 7 (v := .pointer (some ⟨B2, 0, none⟩)) (by kernel_rfl) (by kernel_rfl)) (by simp [go_sem]) ⟨_, rfl, Rel.gr_refl _, rfl, c.inv⟩
    · intro L a w c
      refine .inl ⟨Rel.wanted_free (by kernel_rfl) _, ?_⟩
      exact Rel.wp_ld _ _ rfl (c.get 7 23 (by kernel_rfl)) (run_ld2 (cell_keep c.inv.1 HC.out.2.2.2)) ⟨_, rfl, Rel.gr_refl _, rfl, c.inv⟩
    · intro L a w c
      refine .inl ⟨Rel.wanted_free (by kernel_rfl) _, ?_⟩
      refine Rel.wp_cl _ _ _ rfl Try.func16 (by kernel_rfl) ?_
      show Calls _ _ #[Rel.slot a 22, Rel.slot a 24] w _
      rw [show Rel.slot a 22 = .int .i64 xt from (c.get 6 22 (by kernel_rfl)), show Rel.slot a 24 = .int .i64 yt from (c.get 8 24 (by kernel_rfl))]
      refine (compare_any xt yt w).mono ?_
      rintro e w' ⟨rfl, rfl⟩
      exact ⟨_, rfl, _, rfl, Rel.gr_refl _, rfl, c.inv⟩
    · intro L a w c
      refine .inl ⟨Rel.wanted_free (by kernel_rfl) _, ?_⟩
      exact wp_two _ _ _ rfl (c.get 4 20 (by kernel_rfl)) (c.get 9 25 (by kernel_rfl)) (run_two _ _ w) ⟨_, rfl, below_alloc _ _, ⟨_, rfl, row_two w _ _⟩, ⟨below_keep c.inv.1 (below_alloc _ _), c.inv.2⟩⟩
    · intro L a w c
      refine .inl ⟨Rel.wanted_free (by kernel_rfl) _, ?_⟩
      obtain ⟨B, e', hr⟩ := c.get 10 26 (by kernel_rfl)
      refine Rel.wp_cl _ _ _ rfl Try.func15 (by kernel_rfl) ?_
      show Calls _ _ #[Rel.slot a 26] w _
      rw [show Rel.slot a 26 = _ from e']
      refine (or_any _ _ B w hr).mono ?_
      rintro e w' ⟨rfl, rfl⟩
      exact ⟨_, rfl, _, rfl, Rel.gr_refl _, rfl, c.inv⟩
    · intro L a w c
      refine .inl ⟨Rel.wanted_free (by kernel_rfl) _, ?_⟩
      exact Rel.wp_as _ rfl ⟨_, rfl, Rel.gr_refl _, (c.get 11 27 (by kernel_rfl)), c.inv⟩
  intro a w8 hbase hroom hdef hJ hV
  have s5 : Rel.slot a 5 = .int .i64 (orI (cmpI yf xf) (cmpI xt yt)) := hV 12 _ _ rfl rfl
  rw [Chn.act_puts [16, 17, 18, 19, 20, 21, 22, 23, 24, 25, 26, 27, 5] hbase hroom hdef (by kernel_rfl)]
  clear hbase hroom hdef hV
  simp only [List.foldl_cons, List.foldl_nil]
  generalize Rel.slot a 16 = u16 at *
  generalize Rel.slot a 17 = u17 at *
  generalize Rel.slot a 18 = u18 at *
  generalize Rel.slot a 19 = u19 at *
  generalize Rel.slot a 20 = u20 at *
  generalize Rel.slot a 21 = u21 at *
  generalize Rel.slot a 22 = u22 at *
  generalize Rel.slot a 23 = u23 at *
  generalize Rel.slot a 24 = u24 at *
  generalize Rel.slot a 25 = u25 at *
  generalize Rel.slot a 26 = u26 at *
  generalize Rel.slot a 27 = u27 at *
  rw [s5]
  clear s5
  simp only [Act.put, List.setIfInBounds_toArray, List.set_cons_succ, List.set_cons_zero]
  have HB := Lib.hid (show Below W.heap.size W w8 ∧ W.drawn ≤ w8.drawn from ⟨below_keep HBw.out.1 hJ.1, Nat.le_trans HBw.out.2 hJ.2⟩)
  clear hJ
  go_wp2_with fail
  go_ret
  exact ⟨by rw [HCf.out]; rfl, HB.out⟩
end Go.Proofs.Ytkjkhfkaihncdaa.Ord
