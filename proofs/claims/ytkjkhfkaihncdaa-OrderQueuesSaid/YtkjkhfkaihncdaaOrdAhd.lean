/- Order: what the document's ahead does, piece by piece. -/
import Derived.Test.YtkjkhfkaihncdaaOrdFew
import Derived.Test.YtkjkhfkaihncdaaBoxTwo
import Derived.Test.YtkjkhfkaihncdaaRegLst
import Derived.Test.YtkjkhfkaihncdaaRegSeeN
import Derived.Deep.MidRow
namespace Go.Proofs.Ytkjkhfkaihncdaa.Ord
set_option maxRecDepth 100000
open Go.RowKit
open Go.Sort
open Kit
open Foot
open Tre (Lst lst_take inI)
open Job (Jb Jv Jobs encJ encJ_len encJ_one job_cell)
set_option linter.unusedVariables false
variable {w w' : World}

def zero12 : List Value := [.int .i64 0, .int .i64 0, .int .i64 0, .int .i64 0, .int .i64 0, .int .i64 0, .int .i64 0, .int .i64 0, .int .i64 0, .int .i64 0, .int .i64 0, .slice none 0 0]
theorem info_job12 : (Try.prog.info? 32).map (·.size) = some 12 := by kernel_rfl
theorem run_alloc_job (w : World) : (Instr.alloc 32 true (.tuple #[])).run Try.prog w = .ok (.pointer (some ⟨w.heap.size, 0, none⟩)) (w.alloc (.cells zero12.toArray 32)) := by
  simp [go_sem]
  rfl
theorem one12 (x : Jv) : (encJ x).toArray.all (·.oneCell') = true := by
  rw [List.all_toArray, List.all_eq_true]
  exact encJ_one x
theorem run_ij {b o n c k : Nat} (h : k < n) (w : World) : (Instr.indexAt 22 (.slice (some ⟨b, o, none⟩) n c) (.int .i64 (k : Nat))).run Try.prog w = .ok (.pointer (some ⟨b, o + k * 12, none⟩)) w := by
  simp [go_sem, h]
theorem job_range {b o n c k : Nat} {l : List Jv} {x : Jv} (h : Jobs w (some ⟨b, o, none⟩) n c l) (hx : l[k]? = some x) : w.rangeAt b (o + k * 12) (encJ x) := by
  obtain ⟨hk, e⟩ := List.getElem?_eq_some_iff.1 hx
  intro i v hv
  have hi : i < 12 := (List.getElem?_eq_some_iff.1 hv).1
  have := job_cell h hk i hi
  rw [e, hv] at this
  exact this
theorem range_keep {b o : Nat} {cs : List Value} (hb : Below w.heap.size w w') (h : w.rangeAt b o cs) : w'.rangeAt b o cs := fun i v hv => cell_keep hb (h i v hv)
set_option maxHeartbeats 8000000 in
theorem rahead_any (W : World) (aa : Option Addr) (n cc k1 k2 : Nat) (l : List Jv) (hL : Jobs W aa n cc l) (h1 : k1 < n) (h2 : k2 < n) :
    Calls Try.prog 12 #[.slice aa n cc, .int .i64 (k1 : Nat), .int .i64 (k2 : Nat)] W fun e W' => e = .returned (.bool (decide (lt (ts l) k1 k2))) ∧ Below W.heap.size W W' := by
  obtain ⟨b, o, rfl⟩ := Tre.lst_at hL (by omega)
  obtain ⟨x, hx⟩ : ∃ x, l[k1]? = some x := ⟨_, List.getElem?_eq_getElem (by rw [hL.len]; exact h1)⟩
  obtain ⟨y, hy⟩ : ∃ y, l[k2]? = some y := ⟨_, List.getElem?_eq_getElem (by rw [hL.len]; exact h2)⟩
  have hlt : lt (ts l) k1 k2 ↔ aheadJ x.t y.t k1 k2 := by
    unfold lt ts
    rw [List.getElem?_map, List.getElem?_map, hx, hy]; rfl
  have HR := Lib.hid (And.intro (job_range hL hx) (job_range hL hy))
  have HK := Lib.hid (And.intro h1 h2)
  have HA := Lib.hid (show decide (lt (ts l) k1 k2) = decide (aheadJ x.t y.t k1 k2) by rw [decide_eq_decide]; exact hlt)
  have hb1 : k1 ≤ 9223372036854775807 := by have := hL.cap; have := hL.max; unfold maxLen at this; omega
  have hb2 : k2 ≤ 9223372036854775807 := by have := hL.cap; have := hL.max; unfold maxLen at this; omega
  have HB1 := Lib.hid hb1
  have HB2 := Lib.hid hb2
  clear hL hx hy hlt h1 h2 hb1 hb2
  go_enter Try.func12, Try.ntmps12
  go_wp2_with fail
  refine Rel.wp_region_seen (G := Rel.Gt) (Rel.tab [.is (.slice (some ⟨b, o, none⟩) n cc), .is (.int .i64 (k1 : Nat)), .is (.pointer (some ⟨b, o + k1 * 12, none⟩)), .is (.agg (encJ x).toArray), .is (.slice (some ⟨b, o, none⟩) n cc), .is (.int .i64 (k2 : Nat)), .is (.pointer (some ⟨b, o + k2 * 12, none⟩)), .is (.agg (encJ y).toArray), Rel.Kd.any, Rel.Kd.any, Rel.Kd.any, Rel.Kd.any]) (BoxTwo.J ⟨8, 9, 10, 11, 7, 8⟩ W 32 zero12 (encJ x) (encJ y)) (by kernel_rfl) (by kernel_rfl) (by kernel_rfl) (by kernel_rfl) (fun w => trivial) (BoxTwo.start _ _) ?_ ?_
  · refine ⟨?_, ?_, ?_, ?_, ?_, ?_, ?_, ?_, ?_, ?_, ?_, ?_, trivial⟩
    · intro L a w c j
      refine .inl ⟨Rel.wanted_free (by kernel_rfl) _, ?_⟩
      exact Rel.wp_mv _ rfl ⟨_, rfl, trivial, (c.old 0 (v := .slice (some ⟨b, o, none⟩) n cc) (by kernel_rfl) (by kernel_rfl)), (BoxTwo.go (k := 0) (d := 9) j (by decide) (by decide) (by decide) (by decide) (by decide) (by decide))⟩
    · intro L a w c j
      refine .inl ⟨Rel.wanted_free (by kernel_rfl) _, ?_⟩
      exact Rel.wp_mv _ rfl ⟨_, rfl, trivial, (c.old 1 (v := .int .i64 (k1 : Nat)) (by kernel_rfl) (by kernel_rfl)), (BoxTwo.go (k := 1) (d := 10) j (by decide) (by decide) (by decide) (by decide) (by decide) (by decide))⟩
    · intro L a w c j
      refine .inl ⟨Rel.wanted_free (by kernel_rfl) _, ?_⟩
      exact Rel.wp_ia _ _ _ rfl (c.get 0 9 (by kernel_rfl)) (c.get 1 10 (by kernel_rfl)) (run_ij HK.out.1 w) ⟨_, rfl, trivial, rfl, (BoxTwo.go (k := 2) (d := 11) j (by decide) (by decide) (by decide) (by decide) (by decide) (by decide))⟩
    · intro L a w c j
      refine .inl ⟨Rel.wanted_free (by kernel_rfl) _, ?_⟩
      exact wp_load_mid 32 (.tmp 11) rfl b (o + k1 * 12) (Rel.eval_tmp (c.get 2 11 (by kernel_rfl))) (encJ x) _ (range_keep j.1 HR.out.1) Try.underlying32 rfl info_job12 ⟨_, rfl, trivial, rfl, (BoxTwo.go (k := 3) (d := 12) j (by decide) (by decide) (by decide) (by decide) (by decide) (by decide))⟩
    · intro L a w c j
      refine .inl ⟨Rel.wanted_free (by kernel_rfl) _, ?_⟩
      exact Rel.wp_mv _ rfl ⟨_, rfl, trivial, (c.old 0 (v := .slice (some ⟨b, o, none⟩) n cc) (by kernel_rfl) (by kernel_rfl)), (BoxTwo.go (k := 4) (d := 13) j (by decide) (by decide) (by decide) (by decide) (by decide) (by decide))⟩
    · intro L a w c j
      refine .inl ⟨Rel.wanted_free (by kernel_rfl) _, ?_⟩
      exact Rel.wp_mv _ rfl ⟨_, rfl, trivial, (c.old 2 (v := .int .i64 (k2 : Nat)) (by kernel_rfl) (by kernel_rfl)), (BoxTwo.go (k := 5) (d := 14) j (by decide) (by decide) (by decide) (by decide) (by decide) (by decide))⟩
    · intro L a w c j
      refine .inl ⟨Rel.wanted_free (by kernel_rfl) _, ?_⟩
      exact Rel.wp_ia _ _ _ rfl (c.get 4 13 (by kernel_rfl)) (c.get 5 14 (by kernel_rfl)) (run_ij HK.out.2 w) ⟨_, rfl, trivial, rfl, (BoxTwo.go (k := 6) (d := 15) j (by decide) (by decide) (by decide) (by decide) (by decide) (by decide))⟩
    · intro L a w c j
      refine .inl ⟨Rel.wanted_free (by kernel_rfl) _, ?_⟩
      exact wp_load_mid 32 (.tmp 15) rfl b (o + k2 * 12) (Rel.eval_tmp (c.get 6 15 (by kernel_rfl))) (encJ y) _ (range_keep j.1 HR.out.2) Try.underlying32 rfl info_job12 ⟨_, rfl, trivial, rfl, (BoxTwo.go (k := 7) (d := 16) j (by decide) (by decide) (by decide) (by decide) (by decide) (by decide))⟩
    · intro L a w c j
      refine .inl ⟨Rel.wanted_free (by kernel_rfl) _, ?_⟩
      exact Rel.wp_al _ rfl (run_alloc_job w) ⟨_, rfl, trivial, trivial, BoxTwo.mk1 j (by decide) (by decide) (by decide) (by decide) (by rw [c.room]; exact of_decide_eq_true (by kernel_rfl)) (c.later 10 (by kernel_rfl))⟩
    · intro L a w c j
      refine .inl ⟨Rel.wanted_free (by kernel_rfl) _, ?_⟩
      exact Rel.wp_al _ rfl (run_alloc_job w) ⟨_, rfl, trivial, trivial, BoxTwo.mk2 j (by decide) (by decide) (by decide) (by decide) (by rw [c.room]; exact of_decide_eq_true (by kernel_rfl)) (c.later 11 (by kernel_rfl))⟩
    · intro L a w c j
      refine .inl ⟨Rel.wanted_free (by kernel_rfl) _, ?_⟩
      obtain ⟨B, hB, hblk, hj⟩ := BoxTwo.st1 j (by decide) (by decide) (by decide) (c.came 8 (by kernel_rfl)) (Rel.free_no c.free) c.size (of_decide_eq_true (by kernel_rfl))
      exact wp_store_row 32 (.tmp 7) (.tmp 12) rfl B (encJ x).toArray (Rel.eval_tmp hB) (Rel.eval_tmp (c.get 3 12 (by kernel_rfl))) 32 zero12.toArray hblk info_job12 rfl (one12 _) ⟨_, rfl, trivial, trivial, hj⟩
    · intro L a w c j
      refine .inl ⟨Rel.wanted_free (by kernel_rfl) _, ?_⟩
      obtain ⟨B, hB, hblk, hj⟩ := BoxTwo.st2 j (by decide) (by decide) (by decide) (c.came 9 (by kernel_rfl)) (Rel.free_no c.free) c.size (of_decide_eq_true (by kernel_rfl))
      exact wp_store_row 32 (.tmp 8) (.tmp 16) rfl B (encJ y).toArray (Rel.eval_tmp hB) (Rel.eval_tmp (c.get 7 16 (by kernel_rfl))) 32 zero12.toArray hblk info_job12 rfl (one12 _) ⟨_, rfl, trivial, trivial, hj⟩
  intro a w9 hbase hroom hdef hJ hV
  obtain ⟨B1, B2, e1, e2, hne, hb1, hb2, hbw⟩ := BoxTwo.fin hJ (by decide) (by decide) (by decide) (by decide)
  clear hJ
  change Rel.slot a 7 = _ at e1
  change Rel.slot a 8 = _ at e2
  have k7 : (Rel.Kd.any : Rel.Kd (Rel.Gt)).p w9 (Rel.slot a 7) := hV 8 _ _ rfl rfl
  have k8 : (Rel.Kd.any : Rel.Kd (Rel.Gt)).p w9 (Rel.slot a 8) := hV 9 _ _ rfl rfl
  rw [Chn.act_puts [9, 10, 11, 12, 13, 14, 15, 16, 7, 8] hbase hroom hdef (by kernel_rfl)]
  clear hbase hroom hdef hV
  simp only [List.foldl_cons, List.foldl_nil]
  generalize Rel.slot a 9 = u9 at *
  generalize Rel.slot a 10 = u10 at *
  generalize Rel.slot a 11 = u11 at *
  generalize Rel.slot a 12 = u12 at *
  generalize Rel.slot a 13 = u13 at *
  generalize Rel.slot a 14 = u14 at *
  generalize Rel.slot a 15 = u15 at *
  generalize Rel.slot a 16 = u16 at *
  generalize Rel.slot a 7 = u7 at *
  generalize Rel.slot a 8 = u8 at *
  simp only [Act.put, List.setIfInBounds_toArray, List.set_cons_succ, List.set_cons_zero]
  rw [e1, e2]
  clear k7 k8 e1 e2
  have p5 : w9.cell? ⟨B1, 5, none⟩ = some (.int .i64 x.t.prio) := Arr.blk_cell hb1 5
  have q5 : w9.cell? ⟨B2, 5, none⟩ = some (.int .i64 y.t.prio) := Arr.blk_cell hb2 5
  have p0 : w9.cell? ⟨B1, 0, none⟩ = some (.int .i64 x.t.id) := Arr.blk_cell hb1 0
  have q0 : w9.cell? ⟨B2, 0, none⟩ = some (.int .i64 y.t.id) := Arr.blk_cell hb2 0
  have HB := Lib.hid hbw
  obtain ⟨xp, hxp⟩ : ∃ v, v = x.t.prio := ⟨_, rfl⟩
  obtain ⟨yp, hyp⟩ : ∃ v, v = y.t.prio := ⟨_, rfl⟩
  obtain ⟨xi, hxi⟩ : ∃ v, v = x.t.id := ⟨_, rfl⟩
  obtain ⟨yi, hyi⟩ : ∃ v, v = y.t.id := ⟨_, rfl⟩
  rw [← hxp] at p5
  rw [← hyp] at q5
  rw [← hxi] at p0
  rw [← hyi] at q0
  have HX := Lib.hid (show aheadJ x.t y.t k1 k2 ↔ (yp < xp ∨ (xp = yp ∧ (xi < yi ∨ (xi = yi ∧ k1 < k2)))) by rw [hxp, hyp, hxi, hyi]; exact Iff.rfl)
  clear hxp hyp hxi hyi hbw hb1 hb2 hne
  have hb1 : k1 ≤ 9223372036854775807 := HB1.out
  have hb2 : k2 ≤ 9223372036854775807 := HB2.out
  by_cases hp : xp = yp
  · subst hp
    by_cases hi : xi = yi
    · subst hi
      have HZ := Lib.hid (show decide (lt (ts l) k1 k2) = decide (k1 < k2) by rw [HA.out, decide_eq_decide, HX.out]; omega)
      clear HA
      go_wp2_with fail
      go_ret
      exact ⟨by rw [HZ.out]; rfl, HB.out⟩
    · have HZ := Lib.hid (show decide (lt (ts l) k1 k2) = decide (xi < yi) by rw [HA.out, decide_eq_decide, HX.out]; omega)
      clear HA
      go_wp2_with fail
      go_ret
      exact ⟨by rw [HZ.out]; rfl, HB.out⟩
  · have HZ := Lib.hid (show decide (lt (ts l) k1 k2) = decide (yp < xp) by rw [HA.out, decide_eq_decide, HX.out]; omega)
    clear HA
    go_wp2_with fail
    go_ret
    exact ⟨by rw [HZ.out]; rfl, HB.out⟩
end Go.Proofs.Ytkjkhfkaihncdaa.Ord
