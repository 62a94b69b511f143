/- Common to the claims of this seat, part 28: texts that were written one by one, laid behind one another. -/
import Derived.Test.YtjcndgopijpibaaGreatPart2
import Derived.Test.YtjcndgopijpibaaGreatPart10
import Derived.Test.YtjcndgopijpibaaGreatPart12
/- Ledger: the document's Flat, as it runs. -/
namespace Go.Proofs.YtjcndgopijpibaaGreat.Led
set_option maxRecDepth 100000
open Go.RowKit
open Go.Sort
open Kit
open Tre
set_option linter.unusedVariables false
variable {w w' : World}
abbrev nFlat : Nest.At := ⟨7, 22, 14, 29, 21, 36, 6, 21, 13, 28, 20, 35, 22, 5, 36⟩
theorem flat_take {wd : Int} {al : List Al} {k : Nat} {a : Al} (h : al[k]? = some a) : flatN wd (al.take (k + 1)) = flatN wd (al.take k) ++ [a.avail] ++ [a.lien] ++ [a.spent] := by
  have hk := (List.getElem?_eq_some_iff.1 h).1
  have he : al[k] = a := (List.getElem?_eq_some_iff.1 h).2
  rw [List.take_succ_eq_append_getElem hk, he, flat_snoc]
set_option maxHeartbeats 4000000 in
theorem flat_any (wd : Int) (al : List Al) (a : Option Addr) (n cc : Nat) (w : World) (h : Allocs w a n cc al) (hn : n ≤ 100) :
    Calls Tryz.prog 17 #[.int .i64 wd, .slice a n cc] w fun e w' => ∃ v, e = .returned v ∧ OwI w' w.heap.size v (flatN wd al) ∧ Below w.heap.size w w' := by
  have HL := Lib.hid (And.intro h h.len)
  clear h
  go_enter Tryz.func17, Tryz.ntmps17
  go_wp2_with fail
  go_loopw [5, 6] (fun v i wr => ∃ k : Nat, k ≤ n ∧ i = .int .i64 (k : Nat) ∧ OwI wr w.heap.size v (flatN wd (al.take k)) ∧ Below w.heap.size w wr) (fun _ i _ => n - (intOf i).toNat)
  case atStart => exact ⟨0, Nat.zero_le _, rfl, owns_lit w wd w.heap.size (Nat.le_refl _), below_alloc _ _⟩
  case round =>
    obtain ⟨k, hk, rfl, hown, hb⟩ := hrel
    have HO := Lib.hid (And.intro hown hb)
    clear hown hb
    by_cases hlt : k < n
    · have hka : k < al.length := by rw [HL.out.2]; exact hlt
      obtain ⟨b, o, rfl⟩ := lst_at HL.out.1 (by omega)
      have hfl := flat_take (wd := wd) (List.getElem?_eq_getElem hka)
      obtain ⟨_, _, _, q3, q4, q5⟩ := alloc_cells6 HL.out.1 hka
      generalize al[k] = x at *
      obtain ⟨x0, x1, x2, x3, x4, x5⟩ := x
      simp only at q3 q4 q5 hfl
      have HQ := Lib.hid (And.intro q3 (And.intro q4 q5))
      have hlx := flat_len wd (al.take k)
      have hlk : (al.take k).length ≤ k := by rw [List.length_take]; exact Nat.min_le_left _ _
      obtain ⟨lx, hx⟩ : ∃ y, y = flatN wd (al.take k) := ⟨_, rfl⟩
      rw [← hx] at HO hfl hlx
      have HFl := Lib.hid hfl
      have hl2 : lx.length ≤ 400 := by omega
      have HB := Lib.hid (show lx.length + [x3].length ≤ maxLen ∧ (lx.length + [x3].length) * 8 ≤ 140737488355328 ∧ (lx ++ [x3]).length + [x4].length ≤ maxLen ∧ ((lx ++ [x3]).length + [x4].length) * 8 ≤ 140737488355328 ∧ (lx ++ [x3] ++ [x4]).length + [x5].length ≤ maxLen ∧ ((lx ++ [x3] ++ [x4]).length + [x5].length) * 8 ≤ 140737488355328 by
        unfold maxLen
        simp only [List.length_append, List.length_cons, List.length_nil]
        omega)
      clear q3 q4 q5 hfl hlx hlk hx hl2
      go_wp2_with fail
      refine Rel.wp_region_see (G := Rel.Gt) (Rel.tab [.is (u5), .is (.slice (some ⟨b, o, none⟩) n cc), .is (.int .i64 (k : Nat)), .is (.pointer (some ⟨b, o + k * 6, none⟩)), .is (.pointer (some ⟨b, o + k * 6 + 3, none⟩)), .is (.int .i64 x3), Rel.Kd.any, Rel.Kd.any, .is (.slice (some ⟨b, o, none⟩) n cc), .is (.int .i64 (k : Nat)), .is (.pointer (some ⟨b, o + k * 6, none⟩)), .is (.pointer (some ⟨b, o + k * 6 + 4, none⟩)), .is (.int .i64 x4), Rel.Kd.any, Rel.Kd.any, .is (.slice (some ⟨b, o, none⟩) n cc), .is (.int .i64 (k : Nat)), .is (.pointer (some ⟨b, o + k * 6, none⟩)), .is (.pointer (some ⟨b, o + k * 6 + 5, none⟩)), .is (.int .i64 x5), Rel.Kd.any, Rel.Kd.any, Rel.Kd.any]) (Nest.J nFlat encI 1 3 w u5 u5 lx [x3] [x4] [x5]) (by kernel_rfl) (by kernel_rfl) (by kernel_rfl) (by kernel_rfl) (fun w => trivial) (Nest.start _ _ _ rfl (own_chg' HO.out.1 (below_drew _)) (below_keep HO.out.2 (below_drew _))) ?_ ?_
      · refine ⟨?_, ?_, ?_, ?_, ?_, ?_, ?_, ?_, ?_, ?_, ?_, ?_, ?_, ?_, ?_, ?_, ?_, ?_, ?_, ?_, ?_, ?_, ?_, trivial⟩
        · intro L a w c j
          refine .inl ⟨Rel.wanted_free (by kernel_rfl) _, ?_⟩
          exact Rel.wp_mv _ rfl ⟨_, rfl, trivial, j.old (c.later 22 (by kernel_rfl)), (Nest.go encI_len j (k := 0) (d := 15) (by kernel_rfl) (by kernel_rfl) (Below.refl _ _))⟩
        · intro L a w c j
          refine .inl ⟨Rel.wanted_free (by kernel_rfl) _, ?_⟩
          exact Rel.wp_mv _ rfl ⟨_, rfl, trivial, (c.old 1 (v := .slice (some ⟨b, o, none⟩) n cc) (by kernel_rfl) (by kernel_rfl)), (Nest.go encI_len j (k := 1) (d := 16) (by kernel_rfl) (by kernel_rfl) (Below.refl _ _))⟩
        · intro L a w c j
          refine .inl ⟨Rel.wanted_free (by kernel_rfl) _, ?_⟩
          exact Rel.wp_mv _ rfl ⟨_, rfl, trivial, (c.old 6 (v := .int .i64 (k : Nat)) (by kernel_rfl) (by kernel_rfl)), (Nest.go encI_len j (k := 2) (d := 17) (by kernel_rfl) (by kernel_rfl) (Below.refl _ _))⟩
        · intro L a w c j
          refine .inl ⟨Rel.wanted_free (by kernel_rfl) _, ?_⟩
          exact Rel.wp_ia _ _ _ rfl (c.get 1 16 (by kernel_rfl)) (c.get 2 17 (by kernel_rfl)) (run_ia2 hlt w) ⟨_, rfl, trivial, rfl, (Nest.go encI_len j (k := 3) (d := 18) (by kernel_rfl) (by kernel_rfl) (Below.refl _ _))⟩
        · intro L a w c j
          refine .inl ⟨Rel.wanted_free (by kernel_rfl) _, ?_⟩
          exact Chn.wp_fa _ _ _ rfl (c.get 3 18 (by kernel_rfl)) (by simp [go_sem]) ⟨_, rfl, trivial, rfl, (Nest.go encI_len j (k := 4) (d := 19) (by kernel_rfl) (by kernel_rfl) (Below.refl _ _))⟩
        · intro L a w c j
          refine .inl ⟨Rel.wanted_free (by kernel_rfl) _, ?_⟩
          exact Rel.wp_ld _ _ rfl (c.get 4 19 (by kernel_rfl)) (run_ld2 (cell_keep j.below HQ.out.1)) ⟨_, rfl, trivial, rfl, (Nest.go encI_len j (k := 5) (d := 20) (by kernel_rfl) (by kernel_rfl) (Below.refl _ _))⟩
        · intro L a w c j
          refine .inl ⟨Rel.wanted_free (by kernel_rfl) _, ?_⟩
          exact Chn.wp_bs1 _ _ rfl (c.get 5 20 (by kernel_rfl)) (run_bs_i _ w) ⟨_, rfl, trivial, trivial, Nest.mk1 encI_len j (by kernel_rfl) (by kernel_rfl) (by rw [c.room]; exact of_decide_eq_true (by kernel_rfl)) (below_alloc _ _) (fun v hv => Nest.part_new encI_len w [x3] _ rfl 1 v hv)⟩
        · intro L a w c j
          refine .inl ⟨Rel.wanted_free (by kernel_rfl) _, ?_⟩
          obtain ⟨v9, w9, hr, hj⟩ := Nest.ap1 tyI j (by kernel_rfl) (by kernel_rfl) (by rw [c.room]; exact of_decide_eq_true (by kernel_rfl)) (by rw [c.size]; exact of_decide_eq_true (by kernel_rfl)) (Rel.free_no c.free) (c.later 14 (by kernel_rfl)) (c.later2 21 14 (by kernel_rfl) (c.later 14 (by kernel_rfl))) (c.came 6 (by kernel_rfl)) (c.later2 22 21 (by kernel_rfl) (c.later2 21 14 (by kernel_rfl) (c.later 14 (by kernel_rfl)))) HB.out.1 HB.out.2.1 31
          exact Chn.wp_ap _ _ _ rfl (c.get 0 15 (by kernel_rfl)) rfl hr ⟨_, rfl, trivial, trivial, hj⟩
        · intro L a w c j
          refine .inl ⟨Rel.wanted_free (by kernel_rfl) _, ?_⟩
          exact Rel.wp_mv _ rfl ⟨_, rfl, trivial, (c.old 1 (v := .slice (some ⟨b, o, none⟩) n cc) (by kernel_rfl) (by kernel_rfl)), (Nest.go encI_len j (k := 8) (d := 23) (by kernel_rfl) (by kernel_rfl) (Below.refl _ _))⟩
        · intro L a w c j
          refine .inl ⟨Rel.wanted_free (by kernel_rfl) _, ?_⟩
          exact Rel.wp_mv _ rfl ⟨_, rfl, trivial, (c.old 6 (v := .int .i64 (k : Nat)) (by kernel_rfl) (by kernel_rfl)), (Nest.go encI_len j (k := 9) (d := 24) (by kernel_rfl) (by kernel_rfl) (Below.refl _ _))⟩
        · intro L a w c j
          refine .inl ⟨Rel.wanted_free (by kernel_rfl) _, ?_⟩
          exact Rel.wp_ia _ _ _ rfl (c.get 8 23 (by kernel_rfl)) (c.get 9 24 (by kernel_rfl)) (run_ia2 hlt w) ⟨_, rfl, trivial, rfl, (Nest.go encI_len j (k := 10) (d := 25) (by kernel_rfl) (by kernel_rfl) (Below.refl _ _))⟩
        · intro L a w c j
          refine .inl ⟨Rel.wanted_free (by kernel_rfl) _, ?_⟩
          exact Chn.wp_fa _ _ _ rfl (c.get 10 25 (by kernel_rfl)) (by simp [go_sem]) ⟨_, rfl, trivial, rfl, (Nest.go encI_len j (k := 11) (d := 26) (by kernel_rfl) (by kernel_rfl) (Below.refl _ _))⟩
        · intro L a w c j
          refine .inl ⟨Rel.wanted_free (by kernel_rfl) _, ?_⟩
          exact Rel.wp_ld _ _ rfl (c.get 11 26 (by kernel_rfl)) (run_ld2 (cell_keep j.below HQ.out.2.1)) ⟨_, rfl, trivial, rfl, (Nest.go encI_len j (k := 12) (d := 27) (by kernel_rfl) (by kernel_rfl) (Below.refl _ _))⟩
        · intro L a w c j
          refine .inl ⟨Rel.wanted_free (by kernel_rfl) _, ?_⟩
          exact Chn.wp_bs1 _ _ rfl (c.get 12 27 (by kernel_rfl)) (run_bs_i _ w) ⟨_, rfl, trivial, trivial, Nest.mk2 encI_len j (by kernel_rfl) (by kernel_rfl) (by rw [c.room]; exact of_decide_eq_true (by kernel_rfl)) (below_alloc _ _) (fun v hv => Nest.part_new encI_len w [x4] _ rfl 1 v hv)⟩
        · intro L a w c j
          refine .inl ⟨Rel.wanted_free (by kernel_rfl) _, ?_⟩
          obtain ⟨v9, w9, hr, hj⟩ := Nest.ap2 tyI j (by kernel_rfl) (by kernel_rfl) (by rw [c.room]; exact of_decide_eq_true (by kernel_rfl)) (by rw [c.size]; exact of_decide_eq_true (by kernel_rfl)) (c.came 7 (by kernel_rfl)) (Rel.free_no c.free) (c.later 21 (by kernel_rfl)) (c.came 13 (by kernel_rfl)) (c.later2 22 21 (by kernel_rfl) (c.later 21 (by kernel_rfl))) HB.out.2.2.1 HB.out.2.2.2.1 31
          exact Chn.wp_ap _ _ _ rfl rfl rfl hr ⟨_, rfl, trivial, trivial, hj⟩
        · intro L a w c j
          refine .inl ⟨Rel.wanted_free (by kernel_rfl) _, ?_⟩
          exact Rel.wp_mv _ rfl ⟨_, rfl, trivial, (c.old 1 (v := .slice (some ⟨b, o, none⟩) n cc) (by kernel_rfl) (by kernel_rfl)), (Nest.go encI_len j (k := 15) (d := 30) (by kernel_rfl) (by kernel_rfl) (Below.refl _ _))⟩
        · intro L a w c j
          refine .inl ⟨Rel.wanted_free (by kernel_rfl) _, ?_⟩
          exact Rel.wp_mv _ rfl ⟨_, rfl, trivial, (c.old 6 (v := .int .i64 (k : Nat)) (by kernel_rfl) (by kernel_rfl)), (Nest.go encI_len j (k := 16) (d := 31) (by kernel_rfl) (by kernel_rfl) (Below.refl _ _))⟩
        · intro L a w c j
          refine .inl ⟨Rel.wanted_free (by kernel_rfl) _, ?_⟩
          exact Rel.wp_ia _ _ _ rfl (c.get 15 30 (by kernel_rfl)) (c.get 16 31 (by kernel_rfl)) (run_ia2 hlt w) ⟨_, rfl, trivial, rfl, (Nest.go encI_len j (k := 17) (d := 32) (by kernel_rfl) (by kernel_rfl) (Below.refl _ _))⟩
        · intro L a w c j
          refine .inl ⟨Rel.wanted_free (by kernel_rfl) _, ?_⟩
          exact Chn.wp_fa _ _ _ rfl (c.get 17 32 (by kernel_rfl)) (by simp [go_sem]) ⟨_, rfl, trivial, rfl, (Nest.go encI_len j (k := 18) (d := 33) (by kernel_rfl) (by kernel_rfl) (Below.refl _ _))⟩
        · intro L a w c j
          refine .inl ⟨Rel.wanted_free (by kernel_rfl) _, ?_⟩
          exact Rel.wp_ld _ _ rfl (c.get 18 33 (by kernel_rfl)) (run_ld2 (cell_keep j.below HQ.out.2.2)) ⟨_, rfl, trivial, rfl, (Nest.go encI_len j (k := 19) (d := 34) (by kernel_rfl) (by kernel_rfl) (Below.refl _ _))⟩
        · intro L a w c j
          refine .inl ⟨Rel.wanted_free (by kernel_rfl) _, ?_⟩
          exact Chn.wp_bs1 _ _ rfl (c.get 19 34 (by kernel_rfl)) (run_bs_i _ w) ⟨_, rfl, trivial, trivial, Nest.mk3 encI_len j (by kernel_rfl) (by kernel_rfl) (by rw [c.room]; exact of_decide_eq_true (by kernel_rfl)) (below_alloc _ _) (fun v hv => Nest.part_new encI_len w [x5] _ rfl 1 v hv)⟩
        · intro L a w c j
          refine .inl ⟨Rel.wanted_free (by kernel_rfl) _, ?_⟩
          obtain ⟨v9, w9, hr, hj⟩ := Nest.ap3 tyI j (by kernel_rfl) (by kernel_rfl) (by rw [c.room]; exact of_decide_eq_true (by kernel_rfl)) (by rw [c.size]; exact of_decide_eq_true (by kernel_rfl)) (c.via 14 7 (by kernel_rfl) (c.came 14 (by kernel_rfl))) (c.came 14 (by kernel_rfl)) (Rel.free_no c.free) (c.came 20 (by kernel_rfl)) (c.later 22 (by kernel_rfl)) HB.out.2.2.2.2.1 HB.out.2.2.2.2.2 31
          exact Chn.wp_ap _ _ _ rfl rfl rfl hr ⟨_, rfl, trivial, trivial, hj⟩
        · intro L a w c j
          refine .inl ⟨Rel.wanted_free (by kernel_rfl) _, ?_⟩
          exact Rel.wp_as _ rfl ⟨_, rfl, trivial, trivial, Nest.asg j (by kernel_rfl) (by kernel_rfl) (by rw [c.room]; exact of_decide_eq_true (by kernel_rfl)) (by rw [c.size]; exact of_decide_eq_true (by kernel_rfl))⟩
      intro a w9 hbase hroom hdef hJ hV
      have hE := Nest.end3 hJ (of_decide_eq_true (by kernel_rfl)) (of_decide_eq_true (by kernel_rfl)) rfl
      change Below w.heap.size w w9 ∧ Owns encI 1 3 w9 w.heap.size (Rel.slot a 5) (lx ++ [x3] ++ [x4] ++ [x5]) at hE
      clear hJ
      have k5 : (Rel.Kd.any : Rel.Kd (Rel.Gt)).p w9 (Rel.slot a 5) := hV 22 _ _ rfl rfl
      rw [Chn.act_puts [15, 16, 17, 18, 19, 20, 21, 22, 23, 24, 25, 26, 27, 28, 29, 30, 31, 32, 33, 34, 35, 36, 5] hbase hroom hdef (by kernel_rfl)]
      clear hbase hroom hdef hV
      simp only [List.foldl_cons, List.foldl_nil]
      generalize Rel.slot a 15 = u15 at *
      generalize Rel.slot a 16 = u16 at *
      generalize Rel.slot a 17 = u17 at *
      generalize Rel.slot a 18 = u18 at *
      generalize Rel.slot a 19 = u19 at *
      generalize Rel.slot a 20 = u20 at *
      generalize Rel.slot a 21 = u21 at *
      generalize Rel.slot a 22 = u22 at *
      generalize Rel.slot a 23 = u23 at *
      generalize Rel.slot a 24 = u24 at *
      generalize Rel.slot a 25 = u25 at *
      generalize Rel.slot a 26 = u26 at *
      generalize Rel.slot a 27 = u27 at *
      generalize Rel.slot a 28 = u28 at *
      generalize Rel.slot a 29 = u29 at *
      generalize Rel.slot a 30 = u30 at *
      generalize Rel.slot a 31 = u31 at *
      generalize Rel.slot a 32 = u32 at *
      generalize Rel.slot a 33 = u33 at *
      generalize Rel.slot a 34 = u34 at *
      generalize Rel.slot a 35 = u35 at *
      generalize Rel.slot a 36 = u36 at *
      generalize Rel.slot a 5 = u5 at *
      simp only [Act.put, List.setIfInBounds_toArray, List.set_cons_succ, List.set_cons_zero]
      have HE := Lib.hid hE
      clear hE
      go_wp2_with fail
      go_roundw
      case rel => exact ⟨k + 1, by omega, by go_num, by rw [HFl.out]; exact HE.out.2, HE.out.1⟩
      case measure => simp [intOf]; omega
    · obtain rfl : k = n := by omega
      have htk : al.take k = al := List.take_of_length_le (by rw [HL.out.2]; exact Nat.le_refl _)
      rw [htk] at HO
      go_wp2_with fail
      go_ret
      exact ⟨_, rfl, HO.out.1, HO.out.2⟩
end Go.Proofs.YtjcndgopijpibaaGreat.Led
