/- Snap: the document's Encode, list by list. -/
import Derived.Test.YtpmpigglekgfnaaSnpEnc
namespace Go.Proofs.Ytpmpigglekgfnaa.Snp
set_option maxRecDepth 100000
open Go.RowKit
open Go.Sort
open Kit
open Oct
open Foot
open Tre (Lst inI lst_keep lst_at lst_new lst_none IntsL int_cell encI encI_len below_drewN' Funds Allocs Al encF encF_len encL_len fund_cells alloc_cells6)
open Rte (Rt Rates encR encR_len rate_cells)
open Job (Jb Jv Jobs encJ encJ_len job_cell job_keep)
open Drw (Dw Draws encD encD_len draw_cells)
open Ent (NB nb_keep nb_own nb_new int8 txt ints ints_len int8_len txt_len)
set_option linter.unusedVariables false
variable {w w' : World}

set_option maxHeartbeats 32000000 in
theorem renc_few (W : World) (x : Sv) (hx : x.In W) (hok : x.t.ok) (h5 : x.f.n ≤ 8 ∧ x.l.n ≤ 16 ∧ x.r.n ≤ 16 ∧ x.j.n ≤ 16 ∧ x.k.n ≤ 8) :
    Calls Try.prog 8 #[valV x] W fun e W' => ∃ a n c, e = .returned (.tuple #[.slice a n c, .int .i64 (encE x.t)]) ∧ NB W' W.heap.size a n c (encL x.t) ∧ Below W.heap.size W W' := by
  obtain ⟨W1, hW1⟩ : ∃ y, y = W.alloc (.cells (encV x).toArray 28) := ⟨_, rfl⟩
  have hb1 : Below W.heap.size W W1 := by rw [hW1]; exact below_alloc _ _
  have hbx : Arr.Blk W1 W.heap.size 28 (encV x) := by rw [hW1]; exact Arr.blk_new W _ _ _ rfl
  have hx1 := in_keep hx hb1
  have HBx := Lib.hid (And.intro (box_cells hbx) (And.intro hb1 (Arr.blk_lt hbx)))
  obtain ⟨t, ht⟩ : ∃ t : Sn, t = x.t := ⟨_, rfl⟩
  rw [← ht] at hok ⊢
  obtain ⟨sq, wd, nx, fs, ls, rs, js, ks, ⟨af, nf, cf⟩, ⟨al, nl, cl⟩, ⟨ar, nr, cr⟩, ⟨aj, nj, cj⟩, ⟨ak, nk, ck⟩⟩ := x
  obtain ⟨g1, g2, g3, g4, g5, g6⟩ := hx1
  simp only at g1 g2 g3 g4 g5 g6 HBx h5 hW1 ⊢
  have HW1 := Lib.hid hW1
  have HB := Lib.hid (And.intro hb1 (show W.heap.size + 1 ≤ W1.heap.size by have := HBx.out.2.2; omega))
  have HCs := Lib.hid (fun w (hb : Below W1.heap.size W1 w) => (show _ ∧ _ ∧ _ ∧ _ ∧ _ ∧ _ ∧ _ ∧ _ from ⟨cell_keep hb HBx.out.1.1, cell_keep hb HBx.out.1.2.1, cell_keep hb HBx.out.1.2.2.1, cell_keep hb HBx.out.1.2.2.2.1, cell_keep hb HBx.out.1.2.2.2.2.1, cell_keep hb HBx.out.1.2.2.2.2.2.1, cell_keep hb HBx.out.1.2.2.2.2.2.2.1, cell_keep hb HBx.out.1.2.2.2.2.2.2.2⟩))
  have HI := Lib.hid (And.intro g1 (And.intro g2 (And.intro g3 (And.intro g4 (And.intro g5 g6)))))
  have HN := Lib.hid (And.intro g1.len (And.intro g2.len (And.intro g3.len (And.intro g4.len g5.len))))
  have HOk := Lib.hid hok
  have HTt := Lib.hid (show t = ⟨sq, wd, nx, fs, ls, rs, js.map (·.t), ks⟩ from ht)
  clear g1 g2 g3 g4 g5 g6 hb1 hbx hx hW1 hok ht
  obtain ⟨k1, k2, k3, k4, k5⟩ := h5
  obtain ⟨q0, q1, q2, q3, q4, q5, q6, q7⟩ := HBx.out.1
  have t1 : ¬ (8 : Int) < (nf : Int) := by omega
  have t2 : ¬ (16 : Int) < (nl : Int) := by omega
  have t3 : ¬ (16 : Int) < (nr : Int) := by omega
  have t4 : ¬ (16 : Int) < (nj : Int) := by omega
  have t5 : ¬ (8 : Int) < (nk : Int) := by omega
  have HC3 := Lib.hid (nums_new (B := W1.heap.size) (W1 := W1) (w := W1) (v := .slice none 0 0) (Below.refl _ _) (Nat.le_refl _) (owns_nil _ _ _) [sq, wd, nx, (nf : Int)] #[.int .i64 sq, .int .i64 wd, .int .i64 nx, .int .i64 (nf : Nat)] rfl 4 rfl (by omega) (by simp))
  clear HBx
  go_enter Try.func8, Try.ntmps8
  go_upto_region 1 with fail
  rw [show W.alloc (.cells #[.int .i64 sq, .int .i64 wd, .int .i64 nx, .slice af nf cf, .slice al nl cl, .slice ar nr cr, .slice aj nj cj, .slice ak nk ck] 28) = W1 from HW1.out.symm]
  go_wp2_with fail
  refine HC3.out.mono ?_
  rintro e w2 ⟨v2, rfl, ho2, hb2, -⟩
  obtain ⟨E0, hE0⟩ : ∃ E0, E0 = [] ++ ints [sq, wd, nx, (nf : Int)] := ⟨_, rfl⟩
  rw [← hE0] at ho2
  have H2 := Lib.hid (show At W1 32 E0 w2 v2 from ⟨ho2, hb2, by rw [hE0, List.nil_append, ints_len]; simp⟩)
  have HE0 := Lib.hid hE0
  clear ho2 hb2 hE0 HC3 q0 q1 q2 q3 q4 q5 q6 q7 t1 t2 t3 t4 t5
  go_upto_block 0 with fail
  go_cut [4] (fun bv wx => At W1 400 (E0 ++ fs.flatMap cFd.enc) wx bv ∧ ∀ x ∈ fs, x.name.size ≤ 16)
  case first =>
    go_wp2_with fail
    go_loopw [4, 5] (fun bv iv wr => ∃ k : Nat, k ≤ nf ∧ iv = .int .i64 (k : Nat) ∧ At W1 (40 + 40 * k) (E0 ++ (fs.take k).flatMap cFd.enc) wr bv ∧ ∀ x ∈ fs.take k, x.name.size ≤ 16) (fun _ iv _ => nf - (intOf iv).toNat)
    case atStart => exact ⟨0, Nat.zero_le _, rfl, by rw [List.take_zero]; show At _ _ (E0 ++ []) _ _; rw [List.append_nil]; exact ⟨H2.out.own, H2.out.below, by have := H2.out.len; omega⟩, all_none⟩
    case round =>
      obtain ⟨k, hk, rfl, hat, hall⟩ := hrel
      have HAl := Lib.hid hall
      clear hall
      have hq3 := (HCs.out _ hat.below).2.2.2.1
      by_cases hlt : k < nf
      · obtain ⟨⟨nm, pr, lm⟩, hfd⟩ : ∃ x, fs[k]? = some x := ⟨_, List.getElem?_eq_getElem (by rw [HN.out.1]; exact hlt)⟩
        obtain ⟨b, o, rfl⟩ := lst_at HI.out.1 (by omega)
        obtain ⟨c1, c2, c3⟩ := fund_at (lst_keep encF_len HI.out.1 hat.below) hfd
        simp only at c1 c2 c3
        have HTk := Lib.hid (take_next hfd cFd.enc)
        have hsz : nm.size ≤ 9223372036854775807 := by
          have h := (HOk.out.2.2.2.1 ⟨nm, pr, lm⟩ (by rw [HTt.out]; exact List.mem_of_getElem? hfd)).1
          unfold maxLen at h
          simp only at h
          omega
        obtain ⟨E, hE⟩ : ∃ E, E = E0 ++ (fs.take k).flatMap cFd.enc := ⟨_, rfl⟩
        rw [← hE] at hat
        have HE := Lib.hid hE
        obtain ⟨a5, c5, rfl, e1, e2, e3, e4⟩ := own_row hat.own
        have HA := Lib.hid hat
        obtain ⟨n5, hn5⟩ : ∃ n5, n5 = E.length := ⟨_, rfl⟩
        rw [← hn5] at HA e1 ⊢
        have HQ := Lib.hid (And.intro hq3 (And.intro c1 (And.intro c2 c3)))
        by_cases hbig : 16 < nm.size
        · have HBad := Lib.hid (show ¬ Fits t from fun hf => by
            have := hf.2.1 ⟨nm, pr, lm⟩ (by rw [HTt.out]; exact List.mem_of_getElem? hfd)
            simp only at this
            omega)
          have hbi : (16 : Int) < (nm.size : Int) := by omega
          clear hat hE e1 e2 e3 e4 hn5
          go_wp2_with fail
          go_ret2
          exact enc_bad HBad.out (below_keep HB.out.1 HA.out.below)
        · have hbi : ¬ (16 : Int) < (nm.size : Int) := by omega
          have HT := Lib.hid (And.intro hn5.symm (And.intro (fun h => (⟨by have := e3 h; omega, e3 h⟩ : n5 = 0 ∧ c5 = 0)) (And.intro e4 (And.intro (show n5 ≤ 140737488355328 by have := hat.len; omega) (show nm.size ≤ 65535 by omega)))))
          have HLb := Lib.hid (And.intro hat.len hbig)
          have HAn := Lib.hid (all_next hfd HAl.out (show nm.size ≤ 16 by omega))
          clear hat hE e1 e2 e3 e4 hn5 hfd hbig
          go_wp2_with fail
          refine Rel.wp_region_ends (G := Rel.Gr) _ _ (Rel.tab [.is (.slice a5 n5 c5), .is (.pointer (some ⟨W.heap.size, 3, none⟩)), .is (.slice (some ⟨b, o, none⟩) nf cf), .is (.int .i64 (k : Nat)), .is (.pointer (some ⟨b, o + k * 3, none⟩)), .is (.pointer (some ⟨b, o + k * 3, none⟩)), .is (.string nm), kOB W1.heap.size (E ++ txt nm), .is (.pointer (some ⟨W.heap.size, 3, none⟩)), .is (.slice (some ⟨b, o, none⟩) nf cf), .is (.int .i64 (k : Nat)), .is (.pointer (some ⟨b, o + k * 3, none⟩)), .is (.pointer (some ⟨b, o + k * 3 + 1, none⟩)), .is (.int .i64 pr), .is (.pointer (some ⟨W.heap.size, 3, none⟩)), .is (.slice (some ⟨b, o, none⟩) nf cf), .is (.int .i64 (k : Nat)), .is (.pointer (some ⟨b, o + k * 3, none⟩)), .is (.pointer (some ⟨b, o + k * 3 + 2, none⟩)), .is (.int .i64 lm), kLit [pr, lm]]) (fun _ w => Below wr.heap.size wr w) (by kernel_rfl) rfl rfl (by kernel_rfl) (by kernel_rfl) (by kernel_rfl) (by kernel_rfl) (by kernel_rfl) (by kernel_rfl) (below_drew _) ?_ ?_
          · refine ⟨?_, ?_, ?_, ?_, ?_, ?_, ?_, ?_, ?_, ?_, ?_, ?_, ?_, ?_, ?_, ?_, ?_, ?_, ?_, ?_, ?_, trivial⟩
            · intro L a w c
              refine .inl ⟨Rel.wanted_free (by kernel_rfl) _, ?_⟩
              exact Rel.wp_mv _ rfl ⟨_, rfl, Rel.gr_refl _, (c.old 4 (v := .slice a5 n5 c5) (by kernel_rfl) (by kernel_rfl)), c.inv⟩
            · intro L a w c
              refine .inl ⟨Rel.wanted_free (by kernel_rfl) _, ?_⟩
              exact Chn.wp_fa _ _ _ rfl (c.old 1 (v := .pointer (some ⟨W.heap.size, 0, none⟩)) (by kernel_rfl) (by kernel_rfl)) (by simp [go_sem]) ⟨_, rfl, Rel.gr_refl _, rfl, c.inv⟩
            · intro L a w c
              refine .inl ⟨Rel.wanted_free (by kernel_rfl) _, ?_⟩
              exact Rel.wp_ld _ _ rfl (c.get 1 68 (by kernel_rfl)) (run_ld_f (cell_keep c.inv HQ.out.1)) ⟨_, rfl, Rel.gr_refl _, rfl, c.inv⟩
            · intro L a w c
              refine .inl ⟨Rel.wanted_free (by kernel_rfl) _, ?_⟩
              exact Rel.wp_mv _ rfl ⟨_, rfl, Rel.gr_refl _, (c.old 5 (v := .int .i64 (k : Nat)) (by kernel_rfl) (by kernel_rfl)), c.inv⟩
            · intro L a w c
              refine .inl ⟨Rel.wanted_free (by kernel_rfl) _, ?_⟩
              exact Rel.wp_ia _ _ _ rfl (c.get 2 69 (by kernel_rfl)) (c.get 3 70 (by kernel_rfl)) (run_if hlt w) ⟨_, rfl, Rel.gr_refl _, rfl, c.inv⟩
            · intro L a w c
              refine .inl ⟨Rel.wanted_free (by kernel_rfl) _, ?_⟩
              exact Chn.wp_fa _ _ _ rfl (c.get 4 71 (by kernel_rfl)) (by simp [go_sem]) ⟨_, rfl, Rel.gr_refl _, rfl, c.inv⟩
            · intro L a w c
              refine .inl ⟨Rel.wanted_free (by kernel_rfl) _, ?_⟩
              exact Rel.wp_ld _ _ rfl (c.get 5 72 (by kernel_rfl)) (run_ld_s (cell_keep c.inv HQ.out.2.1)) ⟨_, rfl, Rel.gr_refl _, rfl, c.inv⟩
            · intro L a w c
              refine .inl ⟨Rel.wanted_free (by kernel_rfl) _, ?_⟩
              refine Rel.wp_cl _ _ _ rfl Try.func18 (by kernel_rfl) ?_
              show Calls _ _ #[Rel.slot a 67, Rel.slot a 73] w _
              rw [show Rel.slot a 67 = .slice a5 n5 c5 from (c.get 0 67 (by kernel_rfl)), show Rel.slot a 73 = .string nm from (c.get 6 73 (by kernel_rfl))]
              refine (rtext_any a5 n5 c5 nm E w HT.out.1 HT.out.2.1 (row_keep encB_len HT.out.2.2.1 c.inv) HT.out.2.2.2.1 HT.out.2.2.2.2).mono ?_
              rintro e w' ⟨v, rfl, h1, h2⟩
              exact ⟨v, rfl, v, rfl, h2, kob_txt h1 (Nat.le_trans HA.out.below.size c.inv.size), below_keep c.inv h2⟩
            · intro L a w c
              refine .inl ⟨Rel.wanted_free (by kernel_rfl) _, ?_⟩
              exact Chn.wp_fa _ _ _ rfl (c.old 1 (v := .pointer (some ⟨W.heap.size, 0, none⟩)) (by kernel_rfl) (by kernel_rfl)) (by simp [go_sem]) ⟨_, rfl, Rel.gr_refl _, rfl, c.inv⟩
            · intro L a w c
              refine .inl ⟨Rel.wanted_free (by kernel_rfl) _, ?_⟩
              exact Rel.wp_ld _ _ rfl (c.get 8 75 (by kernel_rfl)) (run_ld_f (cell_keep c.inv HQ.out.1)) ⟨_, rfl, Rel.gr_refl _, rfl, c.inv⟩
            · intro L a w c
              refine .inl ⟨Rel.wanted_free (by kernel_rfl) _, ?_⟩
              exact Rel.wp_mv _ rfl ⟨_, rfl, Rel.gr_refl _, (c.old 5 (v := .int .i64 (k : Nat)) (by kernel_rfl) (by kernel_rfl)), c.inv⟩
            · intro L a w c
              refine .inl ⟨Rel.wanted_free (by kernel_rfl) _, ?_⟩
              exact Rel.wp_ia _ _ _ rfl (c.get 9 76 (by kernel_rfl)) (c.get 10 77 (by kernel_rfl)) (run_if hlt w) ⟨_, rfl, Rel.gr_refl _, rfl, c.inv⟩
            · intro L a w c
              refine .inl ⟨Rel.wanted_free (by kernel_rfl) _, ?_⟩
              exact Chn.wp_fa _ _ _ rfl (c.get 11 78 (by kernel_rfl)) (by simp [go_sem]) ⟨_, rfl, Rel.gr_refl _, rfl, c.inv⟩
            · intro L a w c
              refine .inl ⟨Rel.wanted_free (by kernel_rfl) _, ?_⟩
              exact Rel.wp_ld _ _ rfl (c.get 12 79 (by kernel_rfl)) (run_ld2 (cell_keep c.inv HQ.out.2.2.1)) ⟨_, rfl, Rel.gr_refl _, rfl, c.inv⟩
            · intro L a w c
              refine .inl ⟨Rel.wanted_free (by kernel_rfl) _, ?_⟩
              exact Chn.wp_fa _ _ _ rfl (c.old 1 (v := .pointer (some ⟨W.heap.size, 0, none⟩)) (by kernel_rfl) (by kernel_rfl)) (by simp [go_sem]) ⟨_, rfl, Rel.gr_refl _, rfl, c.inv⟩
            · intro L a w c
              refine .inl ⟨Rel.wanted_free (by kernel_rfl) _, ?_⟩
              exact Rel.wp_ld _ _ rfl (c.get 14 81 (by kernel_rfl)) (run_ld_f (cell_keep c.inv HQ.out.1)) ⟨_, rfl, Rel.gr_refl _, rfl, c.inv⟩
            · intro L a w c
              refine .inl ⟨Rel.wanted_free (by kernel_rfl) _, ?_⟩
              exact Rel.wp_mv _ rfl ⟨_, rfl, Rel.gr_refl _, (c.old 5 (v := .int .i64 (k : Nat)) (by kernel_rfl) (by kernel_rfl)), c.inv⟩
            · intro L a w c
              refine .inl ⟨Rel.wanted_free (by kernel_rfl) _, ?_⟩
              exact Rel.wp_ia _ _ _ rfl (c.get 15 82 (by kernel_rfl)) (c.get 16 83 (by kernel_rfl)) (run_if hlt w) ⟨_, rfl, Rel.gr_refl _, rfl, c.inv⟩
            · intro L a w c
              refine .inl ⟨Rel.wanted_free (by kernel_rfl) _, ?_⟩
              exact Chn.wp_fa _ _ _ rfl (c.get 17 84 (by kernel_rfl)) (by simp [go_sem]) ⟨_, rfl, Rel.gr_refl _, rfl, c.inv⟩
            · intro L a w c
              refine .inl ⟨Rel.wanted_free (by kernel_rfl) _, ?_⟩
              exact Rel.wp_ld _ _ rfl (c.get 18 85 (by kernel_rfl)) (run_ld2 (cell_keep c.inv HQ.out.2.2.2)) ⟨_, rfl, Rel.gr_refl _, rfl, c.inv⟩
            · intro L a w c
              refine .inl ⟨Rel.wanted_free (by kernel_rfl) _, ?_⟩
              exact wp_bs2 _ _ _ rfl (c.get 13 80 (by kernel_rfl)) (c.get 19 86 (by kernel_rfl)) (run_bs2 pr lm w) ⟨_, rfl, below_alloc _ _, lit_of w [pr, lm] _ rfl, below_keep c.inv (below_alloc _ _)⟩
          intro a w9 hbase hroom hdef hJ hV
          have k74 : (kOB W1.heap.size (E ++ txt nm) : Rel.Kd (Rel.Gr)).p w9 (Rel.slot a 74) := hV 7 _ _ rfl rfl
          have k87 : (kLit [pr, lm] : Rel.Kd (Rel.Gr)).p w9 (Rel.slot a 87) := hV 20 _ _ rfl rfl
          rw [Chn.act_puts [67, 68, 69, 70, 71, 72, 73, 74, 75, 76, 77, 78, 79, 80, 81, 82, 83, 84, 85, 86, 87] hbase hroom hdef (by kernel_rfl)]
          clear hbase hroom hdef hV
          simp only [List.foldl_cons, List.foldl_nil]
          generalize Rel.slot a 67 = u67 at *
          generalize Rel.slot a 68 = u68 at *
          generalize Rel.slot a 69 = u69 at *
          generalize Rel.slot a 70 = u70 at *
          generalize Rel.slot a 71 = u71 at *
          generalize Rel.slot a 72 = u72 at *
          generalize Rel.slot a 73 = u73 at *
          generalize Rel.slot a 74 = u74 at *
          generalize Rel.slot a 75 = u75 at *
          generalize Rel.slot a 76 = u76 at *
          generalize Rel.slot a 77 = u77 at *
          generalize Rel.slot a 78 = u78 at *
          generalize Rel.slot a 79 = u79 at *
          generalize Rel.slot a 80 = u80 at *
          generalize Rel.slot a 81 = u81 at *
          generalize Rel.slot a 82 = u82 at *
          generalize Rel.slot a 83 = u83 at *
          generalize Rel.slot a 84 = u84 at *
          generalize Rel.slot a 85 = u85 at *
          generalize Rel.slot a 86 = u86 at *
          generalize Rel.slot a 87 = u87 at *
          simp only [Act.put, List.setIfInBounds_toArray, List.set_cons_succ, List.set_cons_zero]
          have hb9 := below_keep HA.out.below hJ
          have HNu := Lib.hid (nums_lit (B := W1.heap.size) (W1 := W1) hb9 hb9.size k74 k87 (by simp) (by
            have h1 := HLb.out.1
            rw [List.length_append, txt_len]
            omega))
          clear hb9 hJ k74 k87
          dsimp only [List.getLast]
          refine Rel.wp_cl _ _ _ rfl Try.func17 (by kernel_rfl) ?_
          show Calls _ _ #[u74, u87] w9 _
          refine HNu.out.mono ?_
          rintro e w10 ⟨v10, rfl, ho10, hb10, -⟩
          have H10 := Lib.hid (show At W1 (40 + 40 * (k + 1)) (E0 ++ (fs.take (k + 1)).flatMap cFd.enc) w10 v10 from ⟨by rw [HTk.out, fd_enc, ← List.append_assoc, ← HE.out, ← List.append_assoc]; exact ho10, hb10, by
            have h1 := HLb.out.1
            have h2 := HLb.out.2
            rw [HTk.out, ← List.append_assoc, ← HE.out, fd_enc, List.length_append, List.length_append, txt_len, ints_len]
            simp only [List.length_cons, List.length_nil]
            omega⟩)
          clear ho10 hb10 HNu
          refine ⟨v10, rfl, ?_⟩
          refine Rel.wp_as _ rfl ?_
          simp only [Act.put, List.setIfInBounds_toArray]
          go_wp2_with fail
          go_roundw
          case rel => exact ⟨k + 1, by omega, by go_num, H10.out, HAn.out⟩
          case measure => simp [intOf]; omega
      · obtain rfl : k = nf := by omega
        have HT := Lib.hid (show fs.take k = fs from List.take_of_length_le (by rw [HN.out.1]; exact Nat.le_refl _))
        rw [HT.out] at hat
        have HA := Lib.hid hat
        clear hat
        go_wp2_with fail
        go_meet
        case rel => exact ⟨⟨HA.out.own, HA.out.below, by have := HA.out.len; omega⟩, by have h := HAl.out; rwa [HT.out] at h⟩
  case rest =>
  obtain ⟨hcut, hall⟩ := hcut
  have HF1 := Lib.hid hall
  clear hall
  have HA3 := Lib.hid hcut
  have q4 := (HCs.out _ hcut.below).2.2.2.2.1
  have HC4 := Lib.hid (nums_new (B := W1.heap.size) (W1 := W1) hcut.below hcut.below.size hcut.own [(nl : Int)] #[.int .i64 (nl : Nat)] rfl 1 rfl (by omega) (by have := hcut.len; omega))
  clear hcut
  go_wp2_with fail
  refine HC4.out.mono ?_
  rintro e w4 ⟨v4, rfl, ho4, hb4, -⟩
  obtain ⟨E2, hE2⟩ : ∃ E2, E2 = E0 ++ fs.flatMap cFd.enc ++ ints [(nl : Int)] := ⟨_, rfl⟩
  rw [← hE2] at ho4
  have H4 := Lib.hid (show At W1 500 E2 w4 v4 from ⟨ho4, hb4, by rw [hE2, List.length_append, ints_len]; have := HA3.out.len; simp only [List.length_cons, List.length_nil]; omega⟩)
  have HE2 := Lib.hid hE2
  clear ho4 hb4 hE2 HC4 q4 H2 HA3
  go_upto_block 2 with fail
  go_cut [4] (fun bv wx => At W1 1400 (E2 ++ ls.flatMap cAl.enc) wx bv)
  case first =>
    go_wp2_with fail
    go_loopw [4, 6] (fun bv iv wr => ∃ k : Nat, k ≤ nl ∧ iv = .int .i64 (k : Nat) ∧ At W1 (500 + 50 * k) (E2 ++ (ls.take k).flatMap cAl.enc) wr bv) (fun _ iv _ => nl - (intOf iv).toNat)
    case atStart => exact ⟨0, Nat.zero_le _, rfl, by rw [List.take_zero]; show At _ _ (E2 ++ []) _ _; rw [List.append_nil]; exact ⟨H4.out.own, H4.out.below, by have := H4.out.len; omega⟩⟩
    case round =>
      obtain ⟨k, hk, rfl, hat⟩ := hrel
      have q4 := (HCs.out _ hat.below).2.2.2.2.1
      by_cases hlt : k < nl
      · obtain ⟨⟨y0, y1, y2, y3, y4, y5⟩, hal⟩ : ∃ x, ls[k]? = some x := ⟨_, List.getElem?_eq_getElem (by rw [HN.out.2.1]; exact hlt)⟩
        obtain ⟨b, o, rfl⟩ := lst_at HI.out.2.1 (by omega)
        obtain ⟨c0, c1, c2, c3, c4, c5⟩ := alloc_at (lst_keep encL_len HI.out.2.1 hat.below) hal
        simp only at c0 c1 c2 c3 c4 c5
        have HTk := Lib.hid (take_next hal cAl.enc)
        obtain ⟨E, hE⟩ : ∃ E, E = E2 ++ (ls.take k).flatMap cAl.enc := ⟨_, rfl⟩
        rw [← hE] at hat
        have HE := Lib.hid hE
        have HA := Lib.hid hat
        clear hat hE hal
        go_upto_region 15 with fail
        have hba := below_alloc wr (.cells #[.int .i64 y0, .int .i64 y1, .int .i64 y2, .int .i64 y3, .int .i64 y4, .int .i64 y5] 50)
        have hbl := Arr.blk_new wr wr.heap.size 50 [.int .i64 y0, .int .i64 y1, .int .i64 y2, .int .i64 y3, .int .i64 y4, .int .i64 y5] rfl
        have hoa := Kit.owns_alloc HA.out.own (.cells #[.int .i64 y0, .int .i64 y1, .int .i64 y2, .int .i64 y3, .int .i64 y4, .int .i64 y5] 50)
        obtain ⟨w5, hw5⟩ : ∃ x, x = wr.alloc (.cells #[.int .i64 y0, .int .i64 y1, .int .i64 y2, .int .i64 y3, .int .i64 y4, .int .i64 y5] 50) := ⟨_, rfl⟩
        rw [show wr.alloc (.cells [Value.int .i64 y0, .int .i64 y1, .int .i64 y2, .int .i64 y3, .int .i64 y4, .int .i64 y5].toArray 50) = w5 from hw5.symm] at hbl
        rw [← hw5] at hba hoa ⊢
        obtain ⟨B5, hB5⟩ : ∃ B5, B5 = wr.heap.size := ⟨_, rfl⟩
        rw [← hB5] at hbl ⊢
        have p0 := Arr.blk_cell hbl 0
        have p1 := Arr.blk_cell hbl 1
        have p2 := Arr.blk_cell hbl 2
        have p3 := Arr.blk_cell hbl 3
        have p4 := Arr.blk_cell hbl 4
        have p5 := Arr.blk_cell hbl 5
        simp only [List.getElem?_cons_zero, List.getElem?_cons_succ] at p0 p1 p2 p3 p4 p5
        have hb5 := below_keep HA.out.below hba
        have HC5 := Lib.hid (nums_new (B := W1.heap.size) (W1 := W1) hb5 hb5.size hoa [y0, y1, y2, y3, y4, y5] #[.int .i64 y0, .int .i64 y1, .int .i64 y2, .int .i64 y3, .int .i64 y4, .int .i64 y5] rfl 6 rfl (by omega) (by have := HA.out.len; omega))
        clear hba hbl hoa hw5 hB5 hb5 c0 c1 c2 c3 c4 c5
        go_wp2_with fail
        refine HC5.out.mono ?_
        rintro e w10 ⟨v10, rfl, ho10, hb10, -⟩
        have H10 := Lib.hid (show At W1 (500 + 50 * (k + 1)) (E2 ++ (ls.take (k + 1)).flatMap cAl.enc) w10 v10 from ⟨by rw [HTk.out, al_enc, ← List.append_assoc, ← HE.out]; exact ho10, hb10, by
          have h1 := HA.out.len
          rw [HTk.out, ← List.append_assoc, ← HE.out, al_enc, List.length_append, ints_len]
          simp only [List.length_cons, List.length_nil]
          omega⟩)
        clear ho10 hb10 HC5 p0 p1 p2 p3 p4 p5
        go_wp2_with fail
        go_roundw
        case rel => exact ⟨k + 1, by omega, by go_num, H10.out⟩
        case measure => simp [intOf]; omega
      · obtain rfl : k = nl := by omega
        have HT := Lib.hid (show ls.take k = ls from List.take_of_length_le (by rw [HN.out.2.1]; exact Nat.le_refl _))
        rw [HT.out] at hat
        have HA := Lib.hid hat
        clear hat
        go_wp2_with fail
        go_meet
        case rel => exact ⟨HA.out.own, HA.out.below, by have := HA.out.len; omega⟩
  case rest =>
  have HA5 := Lib.hid hcut
  have q5 := (HCs.out _ hcut.below).2.2.2.2.2.1
  have HC6 := Lib.hid (nums_new (B := W1.heap.size) (W1 := W1) hcut.below hcut.below.size hcut.own [(nr : Int)] #[.int .i64 (nr : Nat)] rfl 1 rfl (by omega) (by have := hcut.len; omega))
  clear hcut
  go_wp2_with fail
  refine HC6.out.mono ?_
  rintro e w6 ⟨v6, rfl, ho6, hb6, -⟩
  obtain ⟨E3, hE3⟩ : ∃ E3, E3 = E2 ++ ls.flatMap cAl.enc ++ ints [(nr : Int)] := ⟨_, rfl⟩
  rw [← hE3] at ho6
  have H6 := Lib.hid (show At W1 1500 E3 w6 v6 from ⟨ho6, hb6, by rw [hE3, List.length_append, ints_len]; have := HA5.out.len; simp only [List.length_cons, List.length_nil]; omega⟩)
  have HE3 := Lib.hid hE3
  clear ho6 hb6 hE3 HC6 q5 H4 HA5
  go_upto_block 4 with fail
  go_cut [4] (fun bv wx => At W1 2000 (E3 ++ rs.flatMap cRt.enc) wx bv)
  case first =>
    go_wp2_with fail
    go_loopw [4, 8] (fun bv iv wr => ∃ k : Nat, k ≤ nr ∧ iv = .int .i64 (k : Nat) ∧ At W1 (1500 + 30 * k) (E3 ++ (rs.take k).flatMap cRt.enc) wr bv) (fun _ iv _ => nr - (intOf iv).toNat)
    case atStart => exact ⟨0, Nat.zero_le _, rfl, by rw [List.take_zero]; show At _ _ (E3 ++ []) _ _; rw [List.append_nil]; exact ⟨H6.out.own, H6.out.below, by have := H6.out.len; omega⟩⟩
    case round =>
      obtain ⟨k, hk, rfl, hat⟩ := hrel
      have q5 := (HCs.out _ hat.below).2.2.2.2.2.1
      by_cases hlt : k < nr
      · obtain ⟨⟨y0, y1, y2⟩, hrt⟩ : ∃ x, rs[k]? = some x := ⟨_, List.getElem?_eq_getElem (by rw [HN.out.2.2.1]; exact hlt)⟩
        obtain ⟨b, o, rfl⟩ := lst_at HI.out.2.2.1 (by omega)
        obtain ⟨c0, c1, c2⟩ := rate_at (lst_keep encR_len HI.out.2.2.1 hat.below) hrt
        simp only at c0 c1 c2
        have HTk := Lib.hid (take_next hrt cRt.enc)
        obtain ⟨E, hE⟩ : ∃ E, E = E3 ++ (rs.take k).flatMap cRt.enc := ⟨_, rfl⟩
        rw [← hE] at hat
        have HE := Lib.hid hE
        obtain ⟨a5, c5, rfl, -, -, -, -⟩ := own_row hat.own
        have HA := Lib.hid hat
        obtain ⟨n5, hn5⟩ : ∃ n5, n5 = E.length := ⟨_, rfl⟩
        rw [← hn5] at HA ⊢
        have HQ := Lib.hid (And.intro q5 (And.intro c0 (And.intro c1 c2)))
        clear hat hE hrt hn5 c0 c1 c2
        go_wp2_with fail
        refine Rel.wp_region_ends (G := Rel.Gr) _ _ (Rel.tab [.is (.slice a5 n5 c5), .is (.pointer (some ⟨W.heap.size, 5, none⟩)), .is (.slice (some ⟨b, o, none⟩) nr cr), .is (.int .i64 (k : Nat)), .is (.pointer (some ⟨b, o + k * 3, none⟩)), .is (.pointer (some ⟨b, o + k * 3, none⟩)), .is (.int .i64 y0), .is (.pointer (some ⟨W.heap.size, 5, none⟩)), .is (.slice (some ⟨b, o, none⟩) nr cr), .is (.int .i64 (k : Nat)), .is (.pointer (some ⟨b, o + k * 3, none⟩)), .is (.pointer (some ⟨b, o + k * 3 + 1, none⟩)), .is (.int .i64 y1), .is (.pointer (some ⟨W.heap.size, 5, none⟩)), .is (.slice (some ⟨b, o, none⟩) nr cr), .is (.int .i64 (k : Nat)), .is (.pointer (some ⟨b, o + k * 3, none⟩)), .is (.pointer (some ⟨b, o + k * 3 + 2, none⟩)), .is (.int .i64 y2), kLit [y0, y1, y2]]) (fun _ w => Below wr.heap.size wr w) (by kernel_rfl) rfl rfl (by kernel_rfl) (by kernel_rfl) (by kernel_rfl) (by kernel_rfl) (by kernel_rfl) (by kernel_rfl) (below_drew _) ?_ ?_
        · refine ⟨?_, ?_, ?_, ?_, ?_, ?_, ?_, ?_, ?_, ?_, ?_, ?_, ?_, ?_, ?_, ?_, ?_, ?_, ?_, ?_, trivial⟩
          · intro L a w c
            refine .inl ⟨Rel.wanted_free (by kernel_rfl) _, ?_⟩
            exact Rel.wp_mv _ rfl ⟨_, rfl, Rel.gr_refl _, (c.old 4 (v := .slice a5 n5 c5) (by kernel_rfl) (by kernel_rfl)), c.inv⟩
          · intro L a w c
            refine .inl ⟨Rel.wanted_free (by kernel_rfl) _, ?_⟩
            exact Chn.wp_fa _ _ _ rfl (c.old 1 (v := .pointer (some ⟨W.heap.size, 0, none⟩)) (by kernel_rfl) (by kernel_rfl)) (by simp [go_sem]) ⟨_, rfl, Rel.gr_refl _, rfl, c.inv⟩
          · intro L a w c
            refine .inl ⟨Rel.wanted_free (by kernel_rfl) _, ?_⟩
            exact Rel.wp_ld _ _ rfl (c.get 1 136 (by kernel_rfl)) (run_ld_r (cell_keep c.inv HQ.out.1)) ⟨_, rfl, Rel.gr_refl _, rfl, c.inv⟩
          · intro L a w c
            refine .inl ⟨Rel.wanted_free (by kernel_rfl) _, ?_⟩
            exact Rel.wp_mv _ rfl ⟨_, rfl, Rel.gr_refl _, (c.old 8 (v := .int .i64 (k : Nat)) (by kernel_rfl) (by kernel_rfl)), c.inv⟩
          · intro L a w c
            refine .inl ⟨Rel.wanted_free (by kernel_rfl) _, ?_⟩
            exact Rel.wp_ia _ _ _ rfl (c.get 2 137 (by kernel_rfl)) (c.get 3 138 (by kernel_rfl)) (run_ir hlt w) ⟨_, rfl, Rel.gr_refl _, rfl, c.inv⟩
          · intro L a w c
            refine .inl ⟨Rel.wanted_free (by kernel_rfl) _, ?_⟩
            exact Chn.wp_fa _ _ _ rfl (c.get 4 139 (by kernel_rfl)) (by simp [go_sem]) ⟨_, rfl, Rel.gr_refl _, rfl, c.inv⟩
          · intro L a w c
            refine .inl ⟨Rel.wanted_free (by kernel_rfl) _, ?_⟩
            exact Rel.wp_ld _ _ rfl (c.get 5 140 (by kernel_rfl)) (run_ld2 (cell_keep c.inv HQ.out.2.1)) ⟨_, rfl, Rel.gr_refl _, rfl, c.inv⟩
          · intro L a w c
            refine .inl ⟨Rel.wanted_free (by kernel_rfl) _, ?_⟩
            exact Chn.wp_fa _ _ _ rfl (c.old 1 (v := .pointer (some ⟨W.heap.size, 0, none⟩)) (by kernel_rfl) (by kernel_rfl)) (by simp [go_sem]) ⟨_, rfl, Rel.gr_refl _, rfl, c.inv⟩
          · intro L a w c
            refine .inl ⟨Rel.wanted_free (by kernel_rfl) _, ?_⟩
            exact Rel.wp_ld _ _ rfl (c.get 7 142 (by kernel_rfl)) (run_ld_r (cell_keep c.inv HQ.out.1)) ⟨_, rfl, Rel.gr_refl _, rfl, c.inv⟩
          · intro L a w c
            refine .inl ⟨Rel.wanted_free (by kernel_rfl) _, ?_⟩
            exact Rel.wp_mv _ rfl ⟨_, rfl, Rel.gr_refl _, (c.old 8 (v := .int .i64 (k : Nat)) (by kernel_rfl) (by kernel_rfl)), c.inv⟩
          · intro L a w c
            refine .inl ⟨Rel.wanted_free (by kernel_rfl) _, ?_⟩
            exact Rel.wp_ia _ _ _ rfl (c.get 8 143 (by kernel_rfl)) (c.get 9 144 (by kernel_rfl)) (run_ir hlt w) ⟨_, rfl, Rel.gr_refl _, rfl, c.inv⟩
          · intro L a w c
            refine .inl ⟨Rel.wanted_free (by kernel_rfl) _, ?_⟩
            exact Chn.wp_fa _ _ _ rfl (c.get 10 145 (by kernel_rfl)) (by simp [go_sem]) ⟨_, rfl, Rel.gr_refl _, rfl, c.inv⟩
          · intro L a w c
            refine .inl ⟨Rel.wanted_free (by kernel_rfl) _, ?_⟩
            exact Rel.wp_ld _ _ rfl (c.get 11 146 (by kernel_rfl)) (run_ld2 (cell_keep c.inv HQ.out.2.2.1)) ⟨_, rfl, Rel.gr_refl _, rfl, c.inv⟩
          · intro L a w c
            refine .inl ⟨Rel.wanted_free (by kernel_rfl) _, ?_⟩
            exact Chn.wp_fa _ _ _ rfl (c.old 1 (v := .pointer (some ⟨W.heap.size, 0, none⟩)) (by kernel_rfl) (by kernel_rfl)) (by simp [go_sem]) ⟨_, rfl, Rel.gr_refl _, rfl, c.inv⟩
          · intro L a w c
            refine .inl ⟨Rel.wanted_free (by kernel_rfl) _, ?_⟩
            exact Rel.wp_ld _ _ rfl (c.get 13 148 (by kernel_rfl)) (run_ld_r (cell_keep c.inv HQ.out.1)) ⟨_, rfl, Rel.gr_refl _, rfl, c.inv⟩
          · intro L a w c
            refine .inl ⟨Rel.wanted_free (by kernel_rfl) _, ?_⟩
            exact Rel.wp_mv _ rfl ⟨_, rfl, Rel.gr_refl _, (c.old 8 (v := .int .i64 (k : Nat)) (by kernel_rfl) (by kernel_rfl)), c.inv⟩
          · intro L a w c
            refine .inl ⟨Rel.wanted_free (by kernel_rfl) _, ?_⟩
            exact Rel.wp_ia _ _ _ rfl (c.get 14 149 (by kernel_rfl)) (c.get 15 150 (by kernel_rfl)) (run_ir hlt w) ⟨_, rfl, Rel.gr_refl _, rfl, c.inv⟩
          · intro L a w c
            refine .inl ⟨Rel.wanted_free (by kernel_rfl) _, ?_⟩
            exact Chn.wp_fa _ _ _ rfl (c.get 16 151 (by kernel_rfl)) (by simp [go_sem]) ⟨_, rfl, Rel.gr_refl _, rfl, c.inv⟩
          · intro L a w c
            refine .inl ⟨Rel.wanted_free (by kernel_rfl) _, ?_⟩
            exact Rel.wp_ld _ _ rfl (c.get 17 152 (by kernel_rfl)) (run_ld2 (cell_keep c.inv HQ.out.2.2.2)) ⟨_, rfl, Rel.gr_refl _, rfl, c.inv⟩
          · intro L a w c
            refine .inl ⟨Rel.wanted_free (by kernel_rfl) _, ?_⟩
            exact wp_bs3 _ _ _ _ rfl (c.get 6 141 (by kernel_rfl)) (c.get 12 147 (by kernel_rfl)) (c.get 18 153 (by kernel_rfl)) (run_bs3 y0 y1 y2 w) ⟨_, rfl, below_alloc _ _, lit_of w [y0, y1, y2] _ rfl, below_keep c.inv (below_alloc _ _)⟩
        intro a w9 hbase hroom hdef hJ hV
        have s135 : Rel.slot a 135 = .slice a5 n5 c5 := hV 0 _ _ rfl rfl
        have k154 : (kLit [y0, y1, y2] : Rel.Kd (Rel.Gr)).p w9 (Rel.slot a 154) := hV 19 _ _ rfl rfl
        rw [Chn.act_puts [135, 136, 137, 138, 139, 140, 141, 142, 143, 144, 145, 146, 147, 148, 149, 150, 151, 152, 153, 154] hbase hroom hdef (by kernel_rfl)]
        clear hbase hroom hdef hV
        simp only [List.foldl_cons, List.foldl_nil]
        rw [s135]
        clear s135
        generalize Rel.slot a 136 = u136 at *
        generalize Rel.slot a 137 = u137 at *
        generalize Rel.slot a 138 = u138 at *
        generalize Rel.slot a 139 = u139 at *
        generalize Rel.slot a 140 = u140 at *
        generalize Rel.slot a 141 = u141 at *
        generalize Rel.slot a 142 = u142 at *
        generalize Rel.slot a 143 = u143 at *
        generalize Rel.slot a 144 = u144 at *
        generalize Rel.slot a 145 = u145 at *
        generalize Rel.slot a 146 = u146 at *
        generalize Rel.slot a 147 = u147 at *
        generalize Rel.slot a 148 = u148 at *
        generalize Rel.slot a 149 = u149 at *
        generalize Rel.slot a 150 = u150 at *
        generalize Rel.slot a 151 = u151 at *
        generalize Rel.slot a 152 = u152 at *
        generalize Rel.slot a 153 = u153 at *
        generalize Rel.slot a 154 = u154 at *
        simp only [Act.put, List.setIfInBounds_toArray, List.set_cons_succ, List.set_cons_zero]
        have hb9 := below_keep HA.out.below hJ
        have HNu := Lib.hid (nums_lit (B := W1.heap.size) (W1 := W1) hb9 hb9.size (Nest.own_on HA.out.own hJ) k154 (by simp) (by have := HA.out.len; omega))
        clear hb9 hJ k154
        dsimp only [List.getLast]
        refine Rel.wp_cl _ _ _ rfl Try.func17 (by kernel_rfl) ?_
        show Calls _ _ #[.slice a5 n5 c5, u154] w9 _
        refine HNu.out.mono ?_
        rintro e w10 ⟨v10, rfl, ho10, hb10, -⟩
        have H10 := Lib.hid (show At W1 (1500 + 30 * (k + 1)) (E3 ++ (rs.take (k + 1)).flatMap cRt.enc) w10 v10 from ⟨by rw [HTk.out, rt_enc, ← List.append_assoc, ← HE.out]; exact ho10, hb10, by
          have h1 := HA.out.len
          rw [HTk.out, ← List.append_assoc, ← HE.out, rt_enc, List.length_append, ints_len]
          simp only [List.length_cons, List.length_nil]
          omega⟩)
        clear ho10 hb10 HNu
        refine ⟨v10, rfl, ?_⟩
        refine Rel.wp_as _ rfl ?_
        simp only [Act.put, List.setIfInBounds_toArray]
        go_wp2_with fail
        go_roundw
        case rel => exact ⟨k + 1, by omega, by go_num, H10.out⟩
        case measure => simp [intOf]; omega
      · obtain rfl : k = nr := by omega
        have HT := Lib.hid (show rs.take k = rs from List.take_of_length_le (by rw [HN.out.2.2.1]; exact Nat.le_refl _))
        rw [HT.out] at hat
        have HA := Lib.hid hat
        clear hat
        go_wp2_with fail
        go_meet
        case rel => exact ⟨HA.out.own, HA.out.below, by have := HA.out.len; omega⟩
  case rest =>
  have HA7 := Lib.hid hcut
  have q6 := (HCs.out _ hcut.below).2.2.2.2.2.2.1
  have HC8 := Lib.hid (nums_new (B := W1.heap.size) (W1 := W1) hcut.below hcut.below.size hcut.own [(nj : Int)] #[.int .i64 (nj : Nat)] rfl 1 rfl (by omega) (by have := hcut.len; omega))
  clear hcut
  go_wp2_with fail
  refine HC8.out.mono ?_
  rintro e w8 ⟨v8, rfl, ho8, hb8, -⟩
  obtain ⟨E4, hE4⟩ : ∃ E4, E4 = E3 ++ rs.flatMap cRt.enc ++ ints [(nj : Int)] := ⟨_, rfl⟩
  rw [← hE4] at ho8
  have H8 := Lib.hid (show At W1 2010 E4 w8 v8 from ⟨ho8, hb8, by rw [hE4, List.length_append, ints_len]; have := HA7.out.len; simp only [List.length_cons, List.length_nil]; omega⟩)
  have HE4 := Lib.hid hE4
  clear ho8 hb8 hE4 HC8 q6 H6 HA7
  go_upto_block 6 with fail
  go_cut [4] (fun bv wx => At W1 9000 (E4 ++ js.flatMap fun y => cJb.enc y.t) wx bv ∧ ∀ x ∈ js, x.t.draws.length ≤ 16)
  case first =>
    go_wp2_with fail
    go_loopw [4, 9] (fun bv iv wr => ∃ k : Nat, k ≤ nj ∧ iv = .int .i64 (k : Nat) ∧ At W1 (2010 + 430 * k) (E4 ++ (js.take k).flatMap fun y => cJb.enc y.t) wr bv ∧ ∀ x ∈ js.take k, x.t.draws.length ≤ 16) (fun _ iv _ => nj - (intOf iv).toNat)
    case atStart => exact ⟨0, Nat.zero_le _, rfl, by rw [List.take_zero]; show At _ _ (E4 ++ []) _ _; rw [List.append_nil]; exact ⟨H8.out.own, H8.out.below, by have := H8.out.len; omega⟩, all_none⟩
    case round =>
      obtain ⟨k, hk, rfl, hat, hall⟩ := hrel
      have HAl := Lib.hid hall
      clear hall
      have q6 := (HCs.out _ hat.below).2.2.2.2.2.2.1
      by_cases hlt : k < nj
      · obtain ⟨⟨⟨j0, j1, j2, j3, j4, j5, j6, j7, j8, j9, j10, ds⟩, ad, nd, cd⟩, hjb⟩ : ∃ x, js[k]? = some x := ⟨_, List.getElem?_eq_getElem (by rw [HN.out.2.2.2.1]; exact hlt)⟩
        obtain ⟨b, o, rfl⟩ := lst_at HI.out.2.2.2.1 (by omega)
        obtain ⟨c0, c1, c2, c3, c4, c5, c6, c7, c8, c9, c10, c11⟩ := job_all (lst_keep encJ_len HI.out.2.2.2.1 hat.below) hjb
        simp only at c0 c1 c2 c3 c4 c5 c6 c7 c8 c9 c10 c11
        have hdr : Draws W1 ad nd cd ds := HI.out.2.2.2.2.2 _ (List.mem_of_getElem? hjb)
        have hnd : nd ≤ 9223372036854775807 := by have h1 := hdr.cap; have h2 := hdr.max; unfold maxLen at h2; omega
        have HTk := Lib.hid (take_next hjb fun y => cJb.enc y.t)
        obtain ⟨E, hE⟩ : ∃ E, E = E4 ++ (js.take k).flatMap fun y => cJb.enc y.t := ⟨_, rfl⟩
        rw [← hE] at hat
        have HE := Lib.hid hE
        have HA := Lib.hid hat
        have HDr := Lib.hid (And.intro hdr hdr.len)
        have HJb := Lib.hid hjb
        clear hat hE hjb hdr
        go_upto_region 26 with fail
        have hba := below_alloc wr (.cells #[.int .i64 j0, .int .i64 j1, .int .i64 j2, .int .i64 j3, .int .i64 j4, .int .i64 j5, .int .i64 j6, .int .i64 j7, .int .i64 j8, .int .i64 j9, .int .i64 j10, .slice ad nd cd] 55)
        have hbl := Arr.blk_new wr wr.heap.size 55 [.int .i64 j0, .int .i64 j1, .int .i64 j2, .int .i64 j3, .int .i64 j4, .int .i64 j5, .int .i64 j6, .int .i64 j7, .int .i64 j8, .int .i64 j9, .int .i64 j10, .slice ad nd cd] rfl
        have hoa := Kit.owns_alloc HA.out.own (.cells #[.int .i64 j0, .int .i64 j1, .int .i64 j2, .int .i64 j3, .int .i64 j4, .int .i64 j5, .int .i64 j6, .int .i64 j7, .int .i64 j8, .int .i64 j9, .int .i64 j10, .slice ad nd cd] 55)
        obtain ⟨w9, hw9⟩ : ∃ x, x = wr.alloc (.cells #[.int .i64 j0, .int .i64 j1, .int .i64 j2, .int .i64 j3, .int .i64 j4, .int .i64 j5, .int .i64 j6, .int .i64 j7, .int .i64 j8, .int .i64 j9, .int .i64 j10, .slice ad nd cd] 55) := ⟨_, rfl⟩
        rw [show wr.alloc (.cells ([.int .i64 j0, .int .i64 j1, .int .i64 j2, .int .i64 j3, .int .i64 j4, .int .i64 j5, .int .i64 j6, .int .i64 j7, .int .i64 j8, .int .i64 j9, .int .i64 j10, .slice ad nd cd] : List Value).toArray 55) = w9 from hw9.symm] at hbl
        rw [← hw9] at hba hoa ⊢
        obtain ⟨BJ, hBJ⟩ : ∃ BJ, BJ = wr.heap.size := ⟨_, rfl⟩
        rw [← hBJ] at hbl ⊢
        have HBl := Lib.hid hbl
        have p0 := Arr.blk_cell hbl 0
        have p1 := Arr.blk_cell hbl 1
        have p2 := Arr.blk_cell hbl 2
        have p3 := Arr.blk_cell hbl 3
        have p4 := Arr.blk_cell hbl 4
        have p5 := Arr.blk_cell hbl 5
        have p6 := Arr.blk_cell hbl 6
        have p7 := Arr.blk_cell hbl 7
        have p8 := Arr.blk_cell hbl 8
        have p9 := Arr.blk_cell hbl 9
        have p10 := Arr.blk_cell hbl 10
        have p11 := Arr.blk_cell hbl 11
        simp only [List.getElem?_cons_zero, List.getElem?_cons_succ] at p0 p1 p2 p3 p4 p5 p6 p7 p8 p9 p10 p11
        have hb9 := below_keep HA.out.below hba
        have HB9 := Lib.hid (And.intro hb9 hoa)
        have HC9 := Lib.hid (nums_new (B := W1.heap.size) (W1 := W1) hb9 hb9.size hoa [j0, j1, j2, j3, j4, j5, j6, j7, j8, j9, j10, (nd : Int)] #[.int .i64 j0, .int .i64 j1, .int .i64 j2, .int .i64 j3, .int .i64 j4, .int .i64 j5, .int .i64 j6, .int .i64 j7, .int .i64 j8, .int .i64 j9, .int .i64 j10, .int .i64 (nd : Nat)] rfl 12 rfl (by omega) (by have := HA.out.len; omega))
        clear hba hbl hoa hw9 hBJ hb9 c0 c1 c2 c3 c4 c5 c6 c7 c8 c9 c10 c11
        by_cases hbig : 16 < nd
        · have HBad := Lib.hid (show ¬ Fits t from fun hf => by
            have hm : (⟨⟨j0, j1, j2, j3, j4, j5, j6, j7, j8, j9, j10, ds⟩, ad, nd, cd⟩ : Jv) ∈ js := List.mem_of_getElem? HJb.out
            have := hf.2.2.1 _ (by rw [HTt.out]; exact List.mem_map.2 ⟨_, hm, rfl⟩)
            have h2 := HDr.out.2
            simp only at this
            omega)
          have hbi : (16 : Int) < (nd : Int) := by omega
          clear hbig
          go_wp2_with fail
          go_ret2
          exact enc_bad HBad.out (below_keep HB.out.1 HB9.out.1)
        · have hbi : ¬ (16 : Int) < (nd : Int) := by omega
          have hnd16 : nd ≤ 16 := by omega
          have HAn := Lib.hid (all_next HJb.out HAl.out (show ds.length ≤ 16 by have := HDr.out.2; omega))
          clear hbig
          go_wp2_with fail
          refine HC9.out.mono ?_
          rintro e w10 ⟨v10, rfl, ho10, hb10, hC10⟩
          have HBl10 := Lib.hid (box_stays (W1 := W1) (L := 0) HBl.out HB9.out.2 hC10)
          obtain ⟨En, hEn⟩ : ∃ En, En = E ++ ints [j0, j1, j2, j3, j4, j5, j6, j7, j8, j9, j10, (nd : Int)] := ⟨_, rfl⟩
          rw [← hEn] at ho10
          have H10 := Lib.hid (show At W1 (2010 + 430 * k + 96) En w10 v10 from ⟨ho10, hb10, by
            have h1 := HA.out.len
            rw [hEn, List.length_append, ints_len]
            simp only [List.length_cons, List.length_nil]
            omega⟩)
          have HEn := Lib.hid hEn
          clear ho10 hb10 hEn hC10 HC9 p0 p1 p2 p3 p4 p5 p6 p7 p8 p9 p10 p11 hbi
          go_wp2_with fail
          go_loopw [4, 11] (fun bv iv wr => ∃ q : Nat, q ≤ nd ∧ iv = .int .i64 (q : Nat) ∧ At W1 (2010 + 430 * k + 96 + 16 * q) (En ++ (ds.take q).flatMap cDw.enc) wr bv ∧ Arr.Blk wr BJ 55 [.int .i64 j0, .int .i64 j1, .int .i64 j2, .int .i64 j3, .int .i64 j4, .int .i64 j5, .int .i64 j6, .int .i64 j7, .int .i64 j8, .int .i64 j9, .int .i64 j10, .slice ad nd cd]) (fun _ iv _ => nd - (intOf iv).toNat)
          case atStart => exact ⟨0, Nat.zero_le _, rfl, by rw [List.take_zero]; show At _ _ (En ++ []) _ _; rw [List.append_nil]; exact H10.out, HBl10.out⟩
          case round =>
            obtain ⟨q, hq, rfl, hat, hbl⟩ := hrel
            have p11 := Arr.blk_cell hbl 11
            simp only [List.getElem?_cons_zero, List.getElem?_cons_succ] at p11
            by_cases hqn : q < nd
            · obtain ⟨⟨z0, z1⟩, hdw⟩ : ∃ x, ds[q]? = some x := ⟨_, List.getElem?_eq_getElem (by rw [HDr.out.2]; exact hqn)⟩
              obtain ⟨bd, od, rfl⟩ := lst_at HDr.out.1 (by omega)
              obtain ⟨d0, d1⟩ := draw_at (lst_keep encD_len HDr.out.1 hat.below) hdw
              simp only at d0 d1
              have HTq := Lib.hid (take_next hdw cDw.enc)
              obtain ⟨Eq, hEq⟩ : ∃ Eq, Eq = En ++ (ds.take q).flatMap cDw.enc := ⟨_, rfl⟩
              rw [← hEq] at hat
              have HEq := Lib.hid hEq
              obtain ⟨a5, c5, rfl, -, -, -, -⟩ := own_row hat.own
              have HA2 := Lib.hid hat
              obtain ⟨n5, hn5⟩ : ∃ n5, n5 = Eq.length := ⟨_, rfl⟩
              rw [← hn5] at HA2 ⊢
              have HQ := Lib.hid (And.intro p11 (And.intro d0 d1))
              have HBlq := Lib.hid hbl
              clear hat hEq hdw hn5 d0 d1 hbl
              go_wp2_with fail
              refine Rel.wp_region_ends (G := Rel.Gr) _ _ (Rel.tab [.is (.slice a5 n5 c5), .is (.pointer (some ⟨BJ, 11, none⟩)), .is (.slice (some ⟨bd, od, none⟩) nd cd), .is (.int .i64 (q : Nat)), .is (.pointer (some ⟨bd, od + q * 2, none⟩)), .is (.pointer (some ⟨bd, od + q * 2, none⟩)), .is (.int .i64 z0), .is (.pointer (some ⟨BJ, 11, none⟩)), .is (.slice (some ⟨bd, od, none⟩) nd cd), .is (.int .i64 (q : Nat)), .is (.pointer (some ⟨bd, od + q * 2, none⟩)), .is (.pointer (some ⟨bd, od + q * 2 + 1, none⟩)), .is (.int .i64 z1), kLit [z0, z1]]) (fun _ w => Below wr.heap.size wr w) (by kernel_rfl) rfl rfl (by kernel_rfl) (by kernel_rfl) (by kernel_rfl) (by kernel_rfl) (by kernel_rfl) (by kernel_rfl) (below_drew _) ?_ ?_
              · refine ⟨?_, ?_, ?_, ?_, ?_, ?_, ?_, ?_, ?_, ?_, ?_, ?_, ?_, ?_, trivial⟩
                · intro L a w c
                  refine .inl ⟨Rel.wanted_free (by kernel_rfl) _, ?_⟩
                  exact Rel.wp_mv _ rfl ⟨_, rfl, Rel.gr_refl _, (c.old 4 (v := .slice a5 n5 c5) (by kernel_rfl) (by kernel_rfl)), c.inv⟩
                · intro L a w c
                  refine .inl ⟨Rel.wanted_free (by kernel_rfl) _, ?_⟩
                  exact Chn.wp_fa _ _ _ rfl (c.old 10 (v := .pointer (some ⟨BJ, 0, none⟩)) (by kernel_rfl) (by kernel_rfl)) (by simp [go_sem]) ⟨_, rfl, Rel.gr_refl _, rfl, c.inv⟩
                · intro L a w c
                  refine .inl ⟨Rel.wanted_free (by kernel_rfl) _, ?_⟩
                  exact Rel.wp_ld _ _ rfl (c.get 1 214 (by kernel_rfl)) (run_ld_d (cell_keep c.inv HQ.out.1)) ⟨_, rfl, Rel.gr_refl _, rfl, c.inv⟩
                · intro L a w c
                  refine .inl ⟨Rel.wanted_free (by kernel_rfl) _, ?_⟩
                  exact Rel.wp_mv _ rfl ⟨_, rfl, Rel.gr_refl _, (c.old 11 (v := .int .i64 (q : Nat)) (by kernel_rfl) (by kernel_rfl)), c.inv⟩
                · intro L a w c
                  refine .inl ⟨Rel.wanted_free (by kernel_rfl) _, ?_⟩
                  exact Rel.wp_ia _ _ _ rfl (c.get 2 215 (by kernel_rfl)) (c.get 3 216 (by kernel_rfl)) (run_id hqn w) ⟨_, rfl, Rel.gr_refl _, rfl, c.inv⟩
                · intro L a w c
                  refine .inl ⟨Rel.wanted_free (by kernel_rfl) _, ?_⟩
                  exact Chn.wp_fa _ _ _ rfl (c.get 4 217 (by kernel_rfl)) (by simp [go_sem]) ⟨_, rfl, Rel.gr_refl _, rfl, c.inv⟩
                · intro L a w c
                  refine .inl ⟨Rel.wanted_free (by kernel_rfl) _, ?_⟩
                  exact Rel.wp_ld _ _ rfl (c.get 5 218 (by kernel_rfl)) (run_ld2 (cell_keep c.inv HQ.out.2.1)) ⟨_, rfl, Rel.gr_refl _, rfl, c.inv⟩
                · intro L a w c
                  refine .inl ⟨Rel.wanted_free (by kernel_rfl) _, ?_⟩
                  exact Chn.wp_fa _ _ _ rfl (c.old 10 (v := .pointer (some ⟨BJ, 0, none⟩)) (by kernel_rfl) (by kernel_rfl)) (by simp [go_sem]) ⟨_, rfl, Rel.gr_refl _, rfl, c.inv⟩
                · intro L a w c
                  refine .inl ⟨Rel.wanted_free (by kernel_rfl) _, ?_⟩
                  exact Rel.wp_ld _ _ rfl (c.get 7 220 (by kernel_rfl)) (run_ld_d (cell_keep c.inv HQ.out.1)) ⟨_, rfl, Rel.gr_refl _, rfl, c.inv⟩
                · intro L a w c
                  refine .inl ⟨Rel.wanted_free (by kernel_rfl) _, ?_⟩
                  exact Rel.wp_mv _ rfl ⟨_, rfl, Rel.gr_refl _, (c.old 11 (v := .int .i64 (q : Nat)) (by kernel_rfl) (by kernel_rfl)), c.inv⟩
                · intro L a w c
                  refine .inl ⟨Rel.wanted_free (by kernel_rfl) _, ?_⟩
                  exact Rel.wp_ia _ _ _ rfl (c.get 8 221 (by kernel_rfl)) (c.get 9 222 (by kernel_rfl)) (run_id hqn w) ⟨_, rfl, Rel.gr_refl _, rfl, c.inv⟩
                · intro L a w c
                  refine .inl ⟨Rel.wanted_free (by kernel_rfl) _, ?_⟩
                  exact Chn.wp_fa _ _ _ rfl (c.get 10 223 (by kernel_rfl)) (by simp [go_sem]) ⟨_, rfl, Rel.gr_refl _, rfl, c.inv⟩
                · intro L a w c
                  refine .inl ⟨Rel.wanted_free (by kernel_rfl) _, ?_⟩
                  exact Rel.wp_ld _ _ rfl (c.get 11 224 (by kernel_rfl)) (run_ld2 (cell_keep c.inv HQ.out.2.2)) ⟨_, rfl, Rel.gr_refl _, rfl, c.inv⟩
                · intro L a w c
                  refine .inl ⟨Rel.wanted_free (by kernel_rfl) _, ?_⟩
                  exact wp_bs2 _ _ _ rfl (c.get 6 219 (by kernel_rfl)) (c.get 12 225 (by kernel_rfl)) (run_bs2 z0 z1 w) ⟨_, rfl, below_alloc _ _, lit_of w [z0, z1] _ rfl, below_keep c.inv (below_alloc _ _)⟩
              intro a w9 hbase hroom hdef hJ hV
              have s213 : Rel.slot a 213 = .slice a5 n5 c5 := hV 0 _ _ rfl rfl
              have k226 : (kLit [z0, z1] : Rel.Kd (Rel.Gr)).p w9 (Rel.slot a 226) := hV 13 _ _ rfl rfl
              rw [Chn.act_puts [213, 214, 215, 216, 217, 218, 219, 220, 221, 222, 223, 224, 225, 226] hbase hroom hdef (by kernel_rfl)]
              clear hbase hroom hdef hV
              simp only [List.foldl_cons, List.foldl_nil]
              rw [s213]
              clear s213
              generalize Rel.slot a 214 = u214 at *
              generalize Rel.slot a 215 = u215 at *
              generalize Rel.slot a 216 = u216 at *
              generalize Rel.slot a 217 = u217 at *
              generalize Rel.slot a 218 = u218 at *
              generalize Rel.slot a 219 = u219 at *
              generalize Rel.slot a 220 = u220 at *
              generalize Rel.slot a 221 = u221 at *
              generalize Rel.slot a 222 = u222 at *
              generalize Rel.slot a 223 = u223 at *
              generalize Rel.slot a 224 = u224 at *
              generalize Rel.slot a 225 = u225 at *
              generalize Rel.slot a 226 = u226 at *
              simp only [Act.put, List.setIfInBounds_toArray, List.set_cons_succ, List.set_cons_zero]
              have hb11 := below_keep HA2.out.below hJ
              have ho11 := Nest.own_on HA2.out.own hJ
              have HBl11 := Lib.hid (And.intro ho11 (Arr.blk_below HBlq.out hJ (Arr.blk_lt HBlq.out)))
              have HNu := Lib.hid (nums_lit (B := W1.heap.size) (W1 := W1) hb11 hb11.size ho11 k226 (by simp) (by have := HA2.out.len; omega))
              clear hb11 ho11 hJ k226
              dsimp only [List.getLast]
              refine Rel.wp_cl _ _ _ rfl Try.func17 (by kernel_rfl) ?_
              show Calls _ _ #[.slice a5 n5 c5, u226] w9 _
              refine HNu.out.mono ?_
              rintro e w12 ⟨v12, rfl, ho12, hb12, hC12⟩
              have H12 := Lib.hid (And.intro (show At W1 (2010 + 430 * k + 96 + 16 * (q + 1)) (En ++ (ds.take (q + 1)).flatMap cDw.enc) w12 v12 from ⟨by rw [HTq.out, dw_enc, ← List.append_assoc, ← HEq.out]; exact ho12, hb12, by
                have h1 := HA2.out.len
                rw [HTq.out, ← List.append_assoc, ← HEq.out, dw_enc, List.length_append, ints_len]
                simp only [List.length_cons, List.length_nil]
                omega⟩) (box_stays (W1 := W1) (L := 0) HBl11.out.2 HBl11.out.1 hC12))
              clear ho12 hb12 hC12 HNu
              refine ⟨v12, rfl, ?_⟩
              refine Rel.wp_as _ rfl ?_
              simp only [Act.put, List.setIfInBounds_toArray]
              go_wp2_with fail
              go_roundw
              case rel => exact ⟨q + 1, by omega, by go_num, H12.out.1, H12.out.2⟩
              case measure => simp [intOf]; omega
            · obtain rfl : q = nd := by omega
              have HT := Lib.hid (show ds.take q = ds from List.take_of_length_le (by rw [HDr.out.2]; exact Nat.le_refl _))
              rw [HT.out] at hat
              have H13 := Lib.hid (show At W1 (2010 + 430 * (k + 1)) (E4 ++ (js.take (k + 1)).flatMap fun y => cJb.enc y.t) wr _ from ⟨by
                have h := hat.own
                rw [HTk.out, jb_enc, ← List.append_assoc, ← HE.out, ← List.append_assoc]
                rw [HEn.out] at h
                have hl := HDr.out.2
                simp only [eleven, List.cons_append, List.nil_append, hl]
                exact h, hat.below, by
                have h := hat.len
                rw [HTk.out, jb_enc, ← List.append_assoc, ← HE.out, ← List.append_assoc]
                rw [HEn.out] at h
                have hl := HDr.out.2
                simp only [eleven, List.cons_append, List.nil_append, hl]
                omega⟩)
              clear hat hbl
              go_wp2_with fail
              go_roundw
              case rel => exact ⟨k + 1, by omega, by go_num, H13.out, HAn.out⟩
              case measure => simp [intOf]; omega
      · obtain rfl : k = nj := by omega
        have HT := Lib.hid (show js.take k = js from List.take_of_length_le (by rw [HN.out.2.2.2.1]; exact Nat.le_refl _))
        rw [HT.out] at hat
        have HA := Lib.hid hat
        clear hat
        go_wp2_with fail
        go_meet
        case rel => exact ⟨⟨HA.out.own, HA.out.below, by have := HA.out.len; omega⟩, by have h := HAl.out; rwa [HT.out] at h⟩
  case rest =>
  obtain ⟨hcut, hall⟩ := hcut
  have HF4 := Lib.hid hall
  clear hall
  have HA9 := Lib.hid hcut
  have q7 := (HCs.out _ hcut.below).2.2.2.2.2.2.2
  have HC10 := Lib.hid (nums_new (B := W1.heap.size) (W1 := W1) hcut.below hcut.below.size hcut.own [(nk : Int)] #[.int .i64 (nk : Nat)] rfl 1 rfl (by omega) (by have := hcut.len; omega))
  clear hcut
  go_wp2_with fail
  refine HC10.out.mono ?_
  rintro e w10 ⟨v10, rfl, ho10, hb10, -⟩
  obtain ⟨E5, hE5⟩ : ∃ E5, E5 = E4 ++ (js.flatMap fun y => cJb.enc y.t) ++ ints [(nk : Int)] := ⟨_, rfl⟩
  rw [← hE5] at ho10
  have H10 := Lib.hid (show At W1 9010 E5 w10 v10 from ⟨ho10, hb10, by rw [hE5, List.length_append, ints_len]; have := HA9.out.len; simp only [List.length_cons, List.length_nil]; omega⟩)
  have HE5 := Lib.hid hE5
  clear ho10 hb10 hE5 HC10 q7 H8 HA9
  go_wp2_with fail
  go_loopw [4, 12] (fun bv iv wr => ∃ k : Nat, k ≤ nk ∧ iv = .int .i64 (k : Nat) ∧ At W1 (9010 + 20 * k) (E5 ++ (ks.take k).flatMap txt) wr bv ∧ ∀ x ∈ ks.take k, x.size ≤ 16) (fun _ iv _ => nk - (intOf iv).toNat)
  case atStart => exact ⟨0, Nat.zero_le _, rfl, by rw [List.take_zero]; show At _ _ (E5 ++ []) _ _; rw [List.append_nil]; exact ⟨H10.out.own, H10.out.below, by have := H10.out.len; omega⟩, all_none⟩
  case round =>
    obtain ⟨k, hk, rfl, hat, hall⟩ := hrel
    have HAl := Lib.hid hall
    clear hall
    have q7 := (HCs.out _ hat.below).2.2.2.2.2.2.2
    by_cases hlt : k < nk
    · have hkk : k < ks.length := by rw [HN.out.2.2.2.2]; exact hlt
      obtain ⟨nm, hky⟩ : ∃ x, ks[k]? = some x := ⟨_, List.getElem?_eq_getElem hkk⟩
      obtain ⟨b, o, rfl⟩ := lst_at HI.out.2.2.2.2.1 (by omega)
      have c0 := key_cell (lst_keep encK_len HI.out.2.2.2.2.1 hat.below) hkk
      rw [show ks[k] = nm by rw [List.getElem?_eq_getElem hkk] at hky; injection hky] at c0
      have HTk := Lib.hid (take_next hky txt)
      have hsz : nm.size ≤ 9223372036854775807 := by
        have h := HOk.out.2.2.2.2.2.2.2 nm (by rw [HTt.out]; exact List.mem_of_getElem? hky)
        unfold maxLen at h
        omega
      obtain ⟨E, hE⟩ : ∃ E, E = E5 ++ (ks.take k).flatMap txt := ⟨_, rfl⟩
      rw [← hE] at hat
      have HE := Lib.hid hE
      obtain ⟨a5, c5, rfl, e1, e2, e3, e4⟩ := own_row hat.own
      have HA := Lib.hid hat
      obtain ⟨n5, hn5⟩ : ∃ n5, n5 = E.length := ⟨_, rfl⟩
      rw [← hn5] at HA e1 ⊢
      have HKy := Lib.hid hky
      by_cases hbig : 16 < nm.size
      · have HBad := Lib.hid (show ¬ Fits t from fun hf => by
          have := hf.2.2.2 nm (by rw [HTt.out]; exact List.mem_of_getElem? HKy.out)
          omega)
        have hbi : (16 : Int) < (nm.size : Int) := by omega
        clear hat hE e1 e2 e3 e4 hn5 hky hkk
        go_wp2_with fail
        go_ret2
        exact enc_bad HBad.out (below_keep HB.out.1 HA.out.below)
      · have hbi : ¬ (16 : Int) < (nm.size : Int) := by omega
        have HT := Lib.hid (rtext_any a5 n5 c5 nm E wr hn5.symm (fun h => ⟨by have := e3 h; omega, e3 h⟩) e4 (by have := hat.len; omega) (by omega))
        have HAn := Lib.hid (all_next hky HAl.out (show nm.size ≤ 16 by omega))
        have HLb := Lib.hid (And.intro hat.len hbig)
        clear hat hE e1 e2 e3 e4 hn5 hky hkk hbig
        go_wp2_with fail
        refine HT.out.mono ?_
        rintro e w12 ⟨v12, rfl, ho12, hb12⟩
        have H12 := Lib.hid (show At W1 (9010 + 20 * (k + 1)) (E5 ++ (ks.take (k + 1)).flatMap txt) w12 v12 from ⟨by
          rw [HTk.out, ← List.append_assoc, ← HE.out]
          exact kob_txt ho12 HA.out.below.size, below_keep HA.out.below hb12, by
          have h1 := HLb.out.1
          have h2 := HLb.out.2
          rw [HTk.out, ← List.append_assoc, ← HE.out, List.length_append, txt_len]
          omega⟩)
        clear ho12 hb12 HT
        go_wp2_with fail
        go_roundw
        case rel => exact ⟨k + 1, by omega, by go_num, H12.out, HAn.out⟩
        case measure => simp [intOf]; omega
    · obtain rfl : k = nk := by omega
      have HT := Lib.hid (show ks.take k = ks from List.take_of_length_le (by rw [HN.out.2.2.2.2]; exact Nat.le_refl _))
      have hFit : Fits t := by
        have h3 := HAl.out
        rw [HT.out] at h3
        rw [HTt.out]
        refine ⟨⟨?_, ?_, ?_, ?_, ?_⟩, HF1.out, fun x hx => ?_, h3⟩
        · simp only; rw [HN.out.1]; exact k1
        · simp only; rw [HN.out.2.1]; exact k2
        · simp only; rw [HN.out.2.2.1]; exact k3
        · simp only; rw [List.length_map, HN.out.2.2.2.1]; exact k4
        · simp only; rw [HN.out.2.2.2.2]; exact k5
        · obtain ⟨y, hy, rfl⟩ := List.mem_map.1 hx
          exact HF4.out y hy
      have hall : E5 ++ ks.flatMap txt = encT t := by
        rw [HE5.out, HE4.out, HE3.out, HE2.out, HE0.out, HTt.out]
        have hn := HN.out
        show _ = int8 sq ++ (int8 wd ++ (int8 nx ++ ((int8 (fs.length : Nat) ++ fs.flatMap cFd.enc) ++ ((int8 (ls.length : Nat) ++ ls.flatMap cAl.enc) ++ ((int8 (rs.length : Nat) ++ rs.flatMap cRt.enc) ++ ((int8 ((js.map (·.t)).length : Nat) ++ (js.map (·.t)).flatMap cJb.enc) ++ (int8 (ks.length : Nat) ++ ks.flatMap cTxt.enc)))))))
        rw [hn.1, hn.2.1, hn.2.2.1, List.length_map, hn.2.2.2.1, hn.2.2.2.2, List.flatMap_map]
        simp only [ints, List.flatMap_cons, List.flatMap_nil, List.append_nil, List.nil_append, List.append_assoc]
        rfl
      rw [HT.out, hall] at hat
      have HA := Lib.hid (And.intro hat.own hat.below)
      have HF := Lib.hid (enc_yes hFit)
      clear hat hall hFit
      go_wp2_with fail
      go_ret2
      obtain ⟨a9, n9, c9, rfl, hnb⟩ := nb_own HA.out.1 HB.out.1.size
      exact ⟨a9, n9, c9, by rw [HF.out.1]; rfl, by rw [HF.out.2]; exact hnb, below_keep HB.out.1 HA.out.2⟩
theorem renc_any (W : World) (x : Sv) (hx : x.In W) (hok : x.t.ok) :
    Calls Try.prog 8 #[valV x] W fun e W' => ∃ a n c, e = .returned (.tuple #[.slice a n c, .int .i64 (encE x.t)]) ∧ NB W' W.heap.size a n c (encL x.t) ∧ Below W.heap.size W W' := by
  by_cases h5 : x.f.n ≤ 8 ∧ x.l.n ≤ 16 ∧ x.r.n ≤ 16 ∧ x.j.n ≤ 16 ∧ x.k.n ≤ 8
  · exact renc_few W x hx hok h5
  · exact renc_many W x hx h5
end Go.Proofs.Ytpmpigglekgfnaa.Snp
