/- Profile: the document's made, as it runs. -/
import Derived.Test.YtagecoofaoaodaaPrfTks
import Derived.Test.YtagecoofaoaodaaPrfStM
import Derived.Test.YtagecoofaoaodaaRegTwo
namespace Go.Proofs.Ytagecoofaoaodaa.Prf
set_option maxRecDepth 100000
open Go.RowKit
open Go.Sort
open Kit
open Tre (Lst inI lst_keep lst_take lst_at lst_new lst_none below_drewN' encI encI_len encI_one OwI IntsL int_cell own_chg' owns_lit lit_row info_i run_ld2)
set_option linter.unusedVariables false
variable {w w' : World}

theorem made_take (F : Int → Int) {ts : List Int} {k : Nat} {x : Int} (h : ts[k]? = some x) : madeL F (ts.take (k + 1)) = mk1 (madeL F (ts.take k)) x (F x) := by
  obtain ⟨hk, e⟩ := List.getElem?_eq_some_iff.1 h
  rw [List.take_succ_eq_append_getElem hk, e, made_snoc]
theorem made_len (F : Int → Int) : ∀ ts : List Int, (madeL F ts).length ≤ ts.length := by
  intro ts
  induction h : ts.reverse generalizing ts with
  | nil =>
    obtain rfl : ts = [] := by simpa using h
    exact Nat.le_refl _
  | cons x r ih =>
    obtain rfl : ts = r.reverse ++ [x] := by
      have := congrArg List.reverse h
      simpa using this
    have := ih r.reverse (by simp)
    rw [made_snoc]
    unfold mk1
    split
    · rw [List.length_append]; omega
    · simp only [List.length_append, List.length_singleton]; omega

set_option maxHeartbeats 16000000 in
theorem rmade_any (W : World) (F : Int → Int) (a1 a2 : Option Addr) (n c1 c2 : Nat) (ts : List Int) (h : IntsL W a1 n c1 ts) (h2 : IntsL W a2 n c2 (ts.map F)) (hn : n ≤ 2000) :
    Calls Try.prog 21 #[.slice a1 n c1, .slice a2 n c2] W fun e W' => ∃ v, e = .returned v ∧ OwS W' W.heap.size v (madeL F ts) ∧ Below W.heap.size W W' := by
  have HL := Lib.hid (And.intro h (And.intro h.len h2))
  have HEm := Lib.hid (And.intro (own_emptyS W W.heap.size (Nat.le_refl _)) (below_alloc W (.cells #[] 40)))
  clear h h2
  go_enter Try.func21, Try.ntmps21
  go_wp2_with fail
  go_loopw [5, 6] (fun v i wr => ∃ k : Nat, k ≤ n ∧ i = .int .i64 (k : Nat) ∧ OwS wr W.heap.size v (madeL F (ts.take k)) ∧ Below W.heap.size W wr) (fun _ i _ => n - (intOf i).toNat)
  case atStart => exact ⟨0, Nat.zero_le _, rfl, HEm.out.1, HEm.out.2⟩
  case round =>
    obtain ⟨k, hk, rfl, hown, hb⟩ := hrel
    have HO := Lib.hid (And.intro hown hb)
    clear hown hb
    by_cases hlt : k < n
    · have hkl : k < ts.length := by rw [HL.out.2.1]; exact hlt
      have hkf : k < (ts.map F).length := by rw [List.length_map]; exact hkl
      obtain ⟨b1, o1, rfl⟩ := lst_at HL.out.1 (by omega)
      obtain ⟨b2, o2, rfl⟩ := lst_at HL.out.2.2 (by omega)
      have q1 := int_cell (lst_keep encI_len HL.out.1 HO.out.2) hkl
      have q2 := int_cell (lst_keep encI_len HL.out.2.2 HO.out.2) hkf
      rw [List.getElem_map] at q2
      have hmt := made_take F (List.getElem?_eq_getElem hkl)
      have hml := made_len F (ts.take k)
      have hlk : (ts.take k).length ≤ k := by rw [List.length_take]; exact Nat.min_le_left _ _
      generalize ts[k] = x at *
      obtain ⟨y, hy⟩ : ∃ y, y = F x := ⟨_, rfl⟩
      rw [← hy] at q2 hmt
      obtain ⟨lx, hx⟩ : ∃ lx, lx = madeL F (ts.take k) := ⟨_, rfl⟩
      rw [← hx] at HO hmt hml
      have HMt := Lib.hid hmt
      have HQ0 := Lib.hid (And.intro q1 q2)
      have HLn := Lib.hid (show lx.length + 1 ≤ maxLen ∧ (lx.length + 1) * 16 ≤ 140737488355328 by unfold maxLen; omega)
      have hm1 : lx.length ≤ 2000 := by omega
      obtain ⟨ao, co, rfl, hcl, hcm, hcn, hcr⟩ := owns_row encS_len HO.out.1
      have HOr := Lib.hid (show Steps wr ao lx.length co lx from ⟨rfl, hcl, hcm, (fun e => ⟨by have := hcn e; omega, hcn e⟩), hcr⟩)
      obtain ⟨m, hm⟩ : ∃ m, m = lx.length := ⟨_, rfl⟩
      rw [← hm] at HOr HO hm1 ⊢
      have HM := Lib.hid hm
      clear hy hx hmt hml hlk hcl hcm hcn hcr hm
      by_cases hm0 : m = 0
      · have HMk := Lib.hid (show mk1 lx x y = lx ++ [⟨x, y⟩] by
          unfold mk1
          rw [if_neg]
          have e : lx = [] := List.length_eq_zero_iff.1 (by rw [← HM.out]; exact hm0)
          rw [e]
          intro h; cases h)
        have hmz : ((m : Int) == 0) = true := beq_iff_eq.2 (by omega)
        go_wp2_with fail
        go_quiet (fail)
        generalize hw9 : World.drewN wr _ = wq
        have HO9 := Lib.hid (show OwS wq W.heap.size (.slice ao m co) lx ∧ Below W.heap.size W wq by rw [← hw9]; exact ⟨own_keepS HO.out.1 (below_drewN' _ _), below_keep HO.out.2 (below_drewN' _ _)⟩)
        have HQ := Lib.hid (show wq.cell? ⟨b1, o1 + k, none⟩ = some (.int .i64 x) ∧ wq.cell? ⟨b2, o2 + k, none⟩ = some (.int .i64 y) by rw [← hw9]; exact ⟨HQ0.out.1, HQ0.out.2⟩)
        clear hw9
        go_wp2_with fail
        refine Rel.wp_region_ends (G := Rel.Gr) _ _ (Rel.tab [.is (.slice ao m co), .is (.slice (some ⟨b1, o1, none⟩) n c1), .is (.int .i64 (k : Nat)), .is (.pointer (some ⟨b1, o1 + k, none⟩)), .is (.int .i64 x), .is (.slice (some ⟨b2, o2, none⟩) n c2), .is (.int .i64 (k : Nat)), .is (.pointer (some ⟨b2, o2 + k, none⟩)), .is (.int .i64 y), .is (.agg #[.int .i64 x, .int .i64 y]), kLitS ⟨x, y⟩]) (fun _ w => Below wq.heap.size wq w) (by kernel_rfl) rfl rfl (by kernel_rfl) (by kernel_rfl) (by kernel_rfl) (by kernel_rfl) (by kernel_rfl) (by kernel_rfl) (below_drew _) ?_ ?_
        · refine ⟨?_, ?_, ?_, ?_, ?_, ?_, ?_, ?_, ?_, ?_, ?_, trivial⟩
          · intro L a w c
            refine .inl ⟨Rel.wanted_free (by kernel_rfl) _, ?_⟩
            exact Rel.wp_mv _ rfl ⟨_, rfl, Rel.gr_refl _, (c.old 5 (v := .slice ao m co) (by kernel_rfl) (by kernel_rfl)), c.inv⟩
          · intro L a w c
            refine .inl ⟨Rel.wanted_free (by kernel_rfl) _, ?_⟩
            exact Rel.wp_mv _ rfl ⟨_, rfl, Rel.gr_refl _, (c.old 0 (v := .slice (some ⟨b1, o1, none⟩) n c1) (by kernel_rfl) (by kernel_rfl)), c.inv⟩
          · intro L a w c
            refine .inl ⟨Rel.wanted_free (by kernel_rfl) _, ?_⟩
            exact Rel.wp_mv _ rfl ⟨_, rfl, Rel.gr_refl _, (c.old 6 (v := .int .i64 (k : Nat)) (by kernel_rfl) (by kernel_rfl)), c.inv⟩
          · intro L a w c
            refine .inl ⟨Rel.wanted_free (by kernel_rfl) _, ?_⟩
            exact Rel.wp_ia _ _ _ rfl (c.get 1 32 (by kernel_rfl)) (c.get 2 33 (by kernel_rfl)) (run_ii hlt w) ⟨_, rfl, Rel.gr_refl _, rfl, c.inv⟩
          · intro L a w c
            refine .inl ⟨Rel.wanted_free (by kernel_rfl) _, ?_⟩
            exact Rel.wp_ld _ _ rfl (c.get 3 34 (by kernel_rfl)) (run_ld2 (cell_keep c.inv HQ.out.1)) ⟨_, rfl, Rel.gr_refl _, rfl, c.inv⟩
          · intro L a w c
            refine .inl ⟨Rel.wanted_free (by kernel_rfl) _, ?_⟩
            exact Rel.wp_mv _ rfl ⟨_, rfl, Rel.gr_refl _, (c.old 1 (v := .slice (some ⟨b2, o2, none⟩) n c2) (by kernel_rfl) (by kernel_rfl)), c.inv⟩
          · intro L a w c
            refine .inl ⟨Rel.wanted_free (by kernel_rfl) _, ?_⟩
            exact Rel.wp_mv _ rfl ⟨_, rfl, Rel.gr_refl _, (c.old 6 (v := .int .i64 (k : Nat)) (by kernel_rfl) (by kernel_rfl)), c.inv⟩
          · intro L a w c
            refine .inl ⟨Rel.wanted_free (by kernel_rfl) _, ?_⟩
            exact Rel.wp_ia _ _ _ rfl (c.get 5 36 (by kernel_rfl)) (c.get 6 37 (by kernel_rfl)) (run_ii hlt w) ⟨_, rfl, Rel.gr_refl _, rfl, c.inv⟩
          · intro L a w c
            refine .inl ⟨Rel.wanted_free (by kernel_rfl) _, ?_⟩
            exact Rel.wp_ld _ _ rfl (c.get 7 38 (by kernel_rfl)) (run_ld2 (cell_keep c.inv HQ.out.2)) ⟨_, rfl, Rel.gr_refl _, rfl, c.inv⟩
          · intro L a w c
            refine .inl ⟨Rel.wanted_free (by kernel_rfl) _, ?_⟩
            exact Chn.wp_bd2 _ _ _ _ _ rfl (c.get 4 35 (by kernel_rfl)) (c.get 8 39 (by kernel_rfl)) (run_bd_s _ _ w) ⟨_, rfl, Rel.gr_refl _, rfl, c.inv⟩
          · intro L a w c
            refine .inl ⟨Rel.wanted_free (by kernel_rfl) _, ?_⟩
            exact Chn.wp_bs1 _ _ rfl (c.get 9 40 (by kernel_rfl)) (run_bs_s _ _ w) ⟨_, rfl, below_alloc _ _, ⟨_, rfl, row_s w _⟩, below_keep c.inv (below_alloc _ _)⟩
        intro a w5 hbase hroom hdef hJ hV
        have s31 : Rel.slot a 31 = .slice ao m co := hV 0 _ _ rfl rfl
        have k41 : (kLitS ⟨x, y⟩ : Rel.Kd (Rel.Gr)).p w5 (Rel.slot a 41) := hV 10 _ _ rfl rfl
        rw [Chn.act_puts [31, 32, 33, 34, 35, 36, 37, 38, 39, 40, 41] hbase hroom hdef (by kernel_rfl)]
        clear hbase hroom hdef hV
        simp only [List.foldl_cons, List.foldl_nil]
        rw [s31]
        clear s31
        generalize Rel.slot a 32 = u32 at *
        generalize Rel.slot a 33 = u33 at *
        generalize Rel.slot a 34 = u34 at *
        generalize Rel.slot a 35 = u35 at *
        generalize Rel.slot a 36 = u36 at *
        generalize Rel.slot a 37 = u37 at *
        generalize Rel.slot a 38 = u38 at *
        generalize Rel.slot a 39 = u39 at *
        generalize Rel.slot a 40 = u40 at *
        generalize Rel.slot a 41 = u41 at *
        simp only [Act.put, List.setIfInBounds_toArray, List.set_cons_succ, List.set_cons_zero]
        obtain ⟨g9, rfl, hrow⟩ := k41
        have HA := Lib.hid (show OwS w5 W.heap.size (.slice ao m co) lx ∧ Below W.heap.size W w5 from ⟨own_keepS HO9.out.1 hJ, below_keep HO9.out.2 hJ⟩)
        clear hJ
        dsimp only [List.getLast]
        obtain ⟨v9, w9, hr9, ho9, hg9, _⟩ := Two.run_append_apart (P := Try.prog) encS_len (by omega) encS_one (w := w5) 25 25 40 Try.underlying25 (.agg #[.int .i64 0, .int .i64 0]) 16 info_step rfl W.heap.size (.slice ao m co) lx HA.out.1 (some ⟨g9, 0, none⟩) 1 1 [(⟨x, y⟩ : St)] rfl hrow (fun h => by cases h) HLn.out.1 HLn.out.2 HA.out.2.size
        have HE9 := Lib.hid (And.intro ho9 (HA.out.2.trans (Two.below_grown HA.out.1 hg9 HA.out.2.size)))
        refine Chn.wp_ap (.tmp 31) (.tmp 41) 25 rfl rfl rfl hr9 ?_
        refine Rel.wp_as _ rfl ?_
        clear hr9 ho9 hg9 hrow
        go_wp2_with fail
        go_roundw
        case rel => exact ⟨k + 1, by omega, by go_num, by rw [HMt.out, HMk.out]; exact HE9.out.1, HE9.out.2⟩
        case measure => simp [intOf]; omega
      · have hmz : ((m : Int) == 0) = false := beq_false_of_ne (by omega)
        obtain ⟨m1, rfl⟩ : ∃ m1, m = m1 + 1 := ⟨m - 1, by omega⟩
        have hmz' : ((m1 : Int) + 1 == 0) = false := beq_false_of_ne (by omega)
        obtain ⟨bo, oo, rfl⟩ := lst_at HOr.out (by omega)
        have hml : m1 < lx.length := by have := HM.out; omega
        have r1 := (step_cells HOr.out hml).2
        have hlast : lastF lx = some lx[m1].free := by
          unfold lastF
          rw [List.getLast?_eq_getElem?, ← HM.out, Nat.add_sub_cancel, List.getElem?_eq_getElem hml]; rfl
        generalize lx[m1] = s at *
        obtain ⟨s0, s1⟩ := s
        simp only at r1 hlast
        clear hml hm0
        by_cases hsy : s1 = y
        · have HMk := Lib.hid (show mk1 lx x y = lx by unfold mk1; rw [if_pos (by rw [hlast, hsy])])
          have hne : (s1 != y) = false := by rw [hsy]; simp
          clear hlast
          go_wp2_with fail
          go_quiet (fail)
          go_wp2_with fail
          go_roundw
          case rel => exact ⟨k + 1, by omega, by go_num, by rw [HMt.out, HMk.out]; exact own_keepS HO.out.1 (below_drewN' _ _), below_keep HO.out.2 (below_drewN' _ _)⟩
          case measure => simp [intOf]; omega
        · have HMk := Lib.hid (show mk1 lx x y = lx ++ [⟨x, y⟩] by unfold mk1; rw [if_neg (by rw [hlast]; intro e; injection e with e; exact hsy e)])
          have hne : (s1 == y) = false := beq_false_of_ne hsy
          clear hlast
          go_wp2_with fail
          go_quiet (fail)
          generalize hw9 : World.drewN wr _ = wq
          have HO9 := Lib.hid (show OwS wq W.heap.size (.slice (some ⟨bo, oo, none⟩) (m1 + 1) co) lx ∧ Below W.heap.size W wq by rw [← hw9]; exact ⟨own_keepS HO.out.1 (below_drewN' _ _), below_keep HO.out.2 (below_drewN' _ _)⟩)
          have HQ := Lib.hid (show wq.cell? ⟨b1, o1 + k, none⟩ = some (.int .i64 x) ∧ wq.cell? ⟨b2, o2 + k, none⟩ = some (.int .i64 y) by rw [← hw9]; exact ⟨HQ0.out.1, HQ0.out.2⟩)
          clear hw9
          go_wp2_with fail
          refine Rel.wp_region_ends (G := Rel.Gr) _ _ (Rel.tab [.is (.slice (some ⟨bo, oo, none⟩) (m1 + 1) co), .is (.slice (some ⟨b1, o1, none⟩) n c1), .is (.int .i64 (k : Nat)), .is (.pointer (some ⟨b1, o1 + k, none⟩)), .is (.int .i64 x), .is (.slice (some ⟨b2, o2, none⟩) n c2), .is (.int .i64 (k : Nat)), .is (.pointer (some ⟨b2, o2 + k, none⟩)), .is (.int .i64 y), .is (.agg #[.int .i64 x, .int .i64 y]), kLitS ⟨x, y⟩]) (fun _ w => Below wq.heap.size wq w) (by kernel_rfl) rfl rfl (by kernel_rfl) (by kernel_rfl) (by kernel_rfl) (by kernel_rfl) (by kernel_rfl) (by kernel_rfl) (below_drew _) ?_ ?_
          · refine ⟨?_, ?_, ?_, ?_, ?_, ?_, ?_, ?_, ?_, ?_, ?_, trivial⟩
            · intro L a w c
              refine .inl ⟨Rel.wanted_free (by kernel_rfl) _, ?_⟩
              exact Rel.wp_mv _ rfl ⟨_, rfl, Rel.gr_refl _, (c.old 5 (v := .slice (some ⟨bo, oo, none⟩) (m1 + 1) co) (by kernel_rfl) (by kernel_rfl)), c.inv⟩
            · intro L a w c
              refine .inl ⟨Rel.wanted_free (by kernel_rfl) _, ?_⟩
              exact Rel.wp_mv _ rfl ⟨_, rfl, Rel.gr_refl _, (c.old 0 (v := .slice (some ⟨b1, o1, none⟩) n c1) (by kernel_rfl) (by kernel_rfl)), c.inv⟩
            · intro L a w c
              refine .inl ⟨Rel.wanted_free (by kernel_rfl) _, ?_⟩
              exact Rel.wp_mv _ rfl ⟨_, rfl, Rel.gr_refl _, (c.old 6 (v := .int .i64 (k : Nat)) (by kernel_rfl) (by kernel_rfl)), c.inv⟩
            · intro L a w c
              refine .inl ⟨Rel.wanted_free (by kernel_rfl) _, ?_⟩
              exact Rel.wp_ia _ _ _ rfl (c.get 1 32 (by kernel_rfl)) (c.get 2 33 (by kernel_rfl)) (run_ii hlt w) ⟨_, rfl, Rel.gr_refl _, rfl, c.inv⟩
            · intro L a w c
              refine .inl ⟨Rel.wanted_free (by kernel_rfl) _, ?_⟩
              exact Rel.wp_ld _ _ rfl (c.get 3 34 (by kernel_rfl)) (run_ld2 (cell_keep c.inv HQ.out.1)) ⟨_, rfl, Rel.gr_refl _, rfl, c.inv⟩
            · intro L a w c
              refine .inl ⟨Rel.wanted_free (by kernel_rfl) _, ?_⟩
              exact Rel.wp_mv _ rfl ⟨_, rfl, Rel.gr_refl _, (c.old 1 (v := .slice (some ⟨b2, o2, none⟩) n c2) (by kernel_rfl) (by kernel_rfl)), c.inv⟩
            · intro L a w c
              refine .inl ⟨Rel.wanted_free (by kernel_rfl) _, ?_⟩
              exact Rel.wp_mv _ rfl ⟨_, rfl, Rel.gr_refl _, (c.old 6 (v := .int .i64 (k : Nat)) (by kernel_rfl) (by kernel_rfl)), c.inv⟩
            · intro L a w c
              refine .inl ⟨Rel.wanted_free (by kernel_rfl) _, ?_⟩
              exact Rel.wp_ia _ _ _ rfl (c.get 5 36 (by kernel_rfl)) (c.get 6 37 (by kernel_rfl)) (run_ii hlt w) ⟨_, rfl, Rel.gr_refl _, rfl, c.inv⟩
            · intro L a w c
              refine .inl ⟨Rel.wanted_free (by kernel_rfl) _, ?_⟩
              exact Rel.wp_ld _ _ rfl (c.get 7 38 (by kernel_rfl)) (run_ld2 (cell_keep c.inv HQ.out.2)) ⟨_, rfl, Rel.gr_refl _, rfl, c.inv⟩
            · intro L a w c
              refine .inl ⟨Rel.wanted_free (by kernel_rfl) _, ?_⟩
              exact Chn.wp_bd2 _ _ _ _ _ rfl (c.get 4 35 (by kernel_rfl)) (c.get 8 39 (by kernel_rfl)) (run_bd_s _ _ w) ⟨_, rfl, Rel.gr_refl _, rfl, c.inv⟩
            · intro L a w c
              refine .inl ⟨Rel.wanted_free (by kernel_rfl) _, ?_⟩
              exact Chn.wp_bs1 _ _ rfl (c.get 9 40 (by kernel_rfl)) (run_bs_s _ _ w) ⟨_, rfl, below_alloc _ _, ⟨_, rfl, row_s w _⟩, below_keep c.inv (below_alloc _ _)⟩
          intro a w5 hbase hroom hdef hJ hV
          have s31 : Rel.slot a 31 = .slice (some ⟨bo, oo, none⟩) (m1 + 1) co := hV 0 _ _ rfl rfl
          have k41 : (kLitS ⟨x, y⟩ : Rel.Kd (Rel.Gr)).p w5 (Rel.slot a 41) := hV 10 _ _ rfl rfl
          rw [Chn.act_puts [31, 32, 33, 34, 35, 36, 37, 38, 39, 40, 41] hbase hroom hdef (by kernel_rfl)]
          clear hbase hroom hdef hV
          simp only [List.foldl_cons, List.foldl_nil]
          rw [s31]
          clear s31
          generalize Rel.slot a 32 = u32 at *
          generalize Rel.slot a 33 = u33 at *
          generalize Rel.slot a 34 = u34 at *
          generalize Rel.slot a 35 = u35 at *
          generalize Rel.slot a 36 = u36 at *
          generalize Rel.slot a 37 = u37 at *
          generalize Rel.slot a 38 = u38 at *
          generalize Rel.slot a 39 = u39 at *
          generalize Rel.slot a 40 = u40 at *
          generalize Rel.slot a 41 = u41 at *
          simp only [Act.put, List.setIfInBounds_toArray, List.set_cons_succ, List.set_cons_zero]
          obtain ⟨g9, rfl, hrow⟩ := k41
          have HA := Lib.hid (show OwS w5 W.heap.size (.slice (some ⟨bo, oo, none⟩) (m1 + 1) co) lx ∧ Below W.heap.size W w5 from ⟨own_keepS HO9.out.1 hJ, below_keep HO9.out.2 hJ⟩)
          clear hJ
          dsimp only [List.getLast]
          obtain ⟨v9, w9, hr9, ho9, hg9, _⟩ := Two.run_append_apart (P := Try.prog) encS_len (by omega) encS_one (w := w5) 25 25 40 Try.underlying25 (.agg #[.int .i64 0, .int .i64 0]) 16 info_step rfl W.heap.size (.slice (some ⟨bo, oo, none⟩) (m1 + 1) co) lx HA.out.1 (some ⟨g9, 0, none⟩) 1 1 [(⟨x, y⟩ : St)] rfl hrow (fun h => by cases h) HLn.out.1 HLn.out.2 HA.out.2.size
          have HE9 := Lib.hid (And.intro ho9 (HA.out.2.trans (Two.below_grown HA.out.1 hg9 HA.out.2.size)))
          refine Chn.wp_ap (.tmp 31) (.tmp 41) 25 rfl rfl rfl hr9 ?_
          refine Rel.wp_as _ rfl ?_
          clear hr9 ho9 hg9 hrow
          go_wp2_with fail
          go_roundw
          case rel => exact ⟨k + 1, by omega, by go_num, by rw [HMt.out, HMk.out]; exact HE9.out.1, HE9.out.2⟩
          case measure => simp [intOf]; omega
    · obtain rfl : n = k := by omega
      have htk : ts.take n = ts := List.take_of_length_le (by rw [HL.out.2.1]; exact Nat.le_refl _)
      rw [htk] at HO
      go_wp2_with fail
      go_ret
      exact ⟨_, rfl, HO.out.1, HO.out.2⟩
end Go.Proofs.Ytagecoofaoaodaa.Prf
