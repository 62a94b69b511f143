/- Snap: SnapEncodes and SnapUnlike, over any snap that does as it should. -/
import Derived.Test.YtpmpigglekgfnaaSnpAwk
namespace Go.Proofs.Ytpmpigglekgfnaa.Snp
set_option maxRecDepth 100000
open Go.RowKit
open Go.Sort
open Kit
open Oct
open Tre (Lst inI lst_keep lst_at lst_new lst_none below_drewN')
open Ent (NB nb_keep nb_own nb_new)
set_option linter.unusedVariables false
variable {w w' : World}

theorem blk_box (w : World) (x : Sv) : Arr.Blk (w.alloc (.cells #[.int .i64 x.seq, .int .i64 x.world, .int .i64 x.next, .slice x.f.a x.f.n x.f.c, .slice x.l.a x.l.n x.l.c, .slice x.r.a x.r.n x.r.c, .slice x.j.a x.j.n x.j.c, .slice x.k.a x.k.n x.k.c] 28)) w.heap.size 28 (encV x) := Arr.blk_new w _ _ (encV x) rfl
theorem info_st : (Try.prog.info? 28).map (·.size) = some 8 := by kernel_rfl
theorem conv_nb {B : Nat} {a : Option Addr} {n c : Nat} {L : List UInt8} (h : NB w B a n c L) : (convert 29 9 (.slice a n c)).run Try.prog w = .ok (.string ⟨L.toArray⟩) w :=
  conv_row Try.underlying29 Try.underlying5 Try.underlying9 h.1 (fun e => (h.2.2.2.1 e).1) h.2.2.2.2.1

set_option maxHeartbeats 16000000 in
theorem encodes_any (hP : Prog) (W : World) (x : Sv) (hx : x.In W) (hok : x.t.ok) :
    Calls Try.prog 3 #[valV x] W fun e W' => e = .returned (.bool true) ∧ Below W.heap.size W W' := by
  have hb1 := below_alloc W (.cells #[.int .i64 x.seq, .int .i64 x.world, .int .i64 x.next, .slice x.f.a x.f.n x.f.c, .slice x.l.a x.l.n x.l.c, .slice x.r.a x.r.n x.r.c, .slice x.j.a x.j.n x.j.c, .slice x.k.a x.k.n x.k.c] 28)
  have hbk := blk_box W x
  obtain ⟨w1, hw1⟩ : ∃ w1, w1 = W.alloc (.cells #[.int .i64 x.seq, .int .i64 x.world, .int .i64 x.next, .slice x.f.a x.f.n x.f.c, .slice x.l.a x.l.n x.l.c, .slice x.r.a x.r.n x.r.c, .slice x.j.a x.j.n x.j.c, .slice x.k.a x.k.n x.k.c] 28) := ⟨_, rfl⟩
  have hw1' := hw1
  rw [← hw1] at hb1 hbk
  have HX := Lib.hid (And.intro hb1 (And.intro (in_keep hx hb1) (And.intro hbk hok)))
  have HE1 := Lib.hid (hP.encode w1 x (in_keep hx hb1) hok)
  have HE2 := Lib.hid (fun w2 (hb : Below w1.heap.size w1 w2) => renc_any w2 x (in_keep (in_keep hx hb1) hb) hok)
  have HAw := Lib.hid (fun w => awake_any hP w)
  have HW1 := Lib.hid hw1
  clear hb1 hbk hx hok hP hw1 hw1'
  go_enter Try.func3, Try.ntmps3
  go_wp2_with fail
  rw [← HW1.out]
  refine HE1.out.mono ?_
  rintro e w2 ⟨a2, n2, c2, rfl, hl2, hb2⟩
  have H2 := Lib.hid (And.intro hl2 hb2)
  have hbl := Arr.blk_below HX.out.2.2.1 hb2 (Arr.blk_lt HX.out.2.2.1)
  have p0 := Arr.blk_cell hbl 0
  have p1 := Arr.blk_cell hbl 1
  have p2 := Arr.blk_cell hbl 2
  have p3 := Arr.blk_cell hbl 3
  have p4 := Arr.blk_cell hbl 4
  have p5 := Arr.blk_cell hbl 5
  have p6 := Arr.blk_cell hbl 6
  have p7 := Arr.blk_cell hbl 7
  unfold encV at p0 p1 p2 p3 p4 p5 p6 p7
  simp only [List.getElem?_cons_zero, List.getElem?_cons_succ] at p0 p1 p2 p3 p4 p5 p6 p7
  have HE3 := Lib.hid (HE2.out w2 hb2)
  clear hl2 hb2 hbl HE1 HE2
  go_wp2_with fail
  refine HE3.out.mono ?_
  rintro e w3 ⟨a3, n3, c3, rfl, hl3, hb3⟩
  have H3 := Lib.hid (And.intro (nb_keep H2.out.1 hb3) (And.intro hl3 (below_keep HX.out.1 (below_keep H2.out.2 hb3))))
  clear hl3 hb3 p0 p1 p2 p3 p4 p5 p6 p7 HE3
  go_wp2_with fail
  refine (HAw.out w3).mono ?_
  rintro e w4 ⟨rfl, hb4⟩
  have HB4 := Lib.hid (below_keep H3.out.2.2 hb4)
  have k1 := conv_nb (nb_keep H3.out.1 hb4)
  have k2 := conv_nb (nb_keep H3.out.2.1 hb4)
  clear hb4
  go_wp2_with fail
  go_ret
  exact ⟨rfl, HB4.out⟩
set_option maxHeartbeats 16000000 in
theorem unlike_any (hP : Prog) (W : World) (x y : Sv) (hx : x.In W) (hokx : x.t.ok) (hy : y.In W) (hoky : y.t.ok) :
    Calls Try.prog 6 #[valV x, valV y] W fun e W' => e = .returned (.bool true) ∧ Below W.heap.size W W' := by
  have hb1 := below_alloc W (.cells #[.int .i64 x.seq, .int .i64 x.world, .int .i64 x.next, .slice x.f.a x.f.n x.f.c, .slice x.l.a x.l.n x.l.c, .slice x.r.a x.r.n x.r.c, .slice x.j.a x.j.n x.j.c, .slice x.k.a x.k.n x.k.c] 28)
  have hk1 := blk_box W x
  have hz1 : (W.alloc (.cells #[.int .i64 x.seq, .int .i64 x.world, .int .i64 x.next, .slice x.f.a x.f.n x.f.c, .slice x.l.a x.l.n x.l.c, .slice x.r.a x.r.n x.r.c, .slice x.j.a x.j.n x.j.c, .slice x.k.a x.k.n x.k.c] 28)).heap.size = W.heap.size + 1 := by simp
  obtain ⟨w1, hw1⟩ : ∃ w1, w1 = W.alloc (.cells #[.int .i64 x.seq, .int .i64 x.world, .int .i64 x.next, .slice x.f.a x.f.n x.f.c, .slice x.l.a x.l.n x.l.c, .slice x.r.a x.r.n x.r.c, .slice x.j.a x.j.n x.j.c, .slice x.k.a x.k.n x.k.c] 28) := ⟨_, rfl⟩
  rw [← hw1] at hb1 hk1 hz1
  have hb2 := below_alloc w1 (.cells #[.int .i64 y.seq, .int .i64 y.world, .int .i64 y.next, .slice y.f.a y.f.n y.f.c, .slice y.l.a y.l.n y.l.c, .slice y.r.a y.r.n y.r.c, .slice y.j.a y.j.n y.j.c, .slice y.k.a y.k.n y.k.c] 28)
  have hk2 := blk_box w1 y
  obtain ⟨w2, hw2⟩ : ∃ w2, w2 = w1.alloc (.cells #[.int .i64 y.seq, .int .i64 y.world, .int .i64 y.next, .slice y.f.a y.f.n y.f.c, .slice y.l.a y.l.n y.l.c, .slice y.r.a y.r.n y.r.c, .slice y.j.a y.j.n y.j.c, .slice y.k.a y.k.n y.k.c] 28) := ⟨_, rfl⟩
  rw [← hw2] at hb2 hk2
  rw [hz1] at hk2
  have hk1' := Arr.blk_below hk1 hb2 (Arr.blk_lt hk1)
  have hbb := below_keep hb1 hb2
  have H2 := Lib.hid (And.intro hbb (And.intro hk1' (And.intro hk2 (And.intro (in_keep hx hbb) (in_keep hy hbb)))))
  have HE1 := Lib.hid (hP.encode w2 x (in_keep hx hbb) hokx)
  have HE2 := Lib.hid (fun w3 (hb : Below w2.heap.size w2 w3) => hP.encode w3 y (in_keep (in_keep hy hbb) hb) hoky)
  have HAw := Lib.hid (fun w => awake_any hP w)
  have HW := Lib.hid (And.intro hw1 hw2)
  have HP := Lib.hid hP
  have HOk := Lib.hid (And.intro hokx hoky)
  clear hb1 hk1 hz1 hb2 hk2 hk1' hbb hx hy hP hw1 hw2 hokx hoky
  go_enter Try.func6, Try.ntmps6
  go_wp2_with fail
  rw [← HW.out.1, ← HW.out.2]
  refine HE1.out.mono ?_
  rintro e w3 ⟨a3, n3, c3, rfl, hl3, hb3⟩
  have hbl := Arr.blk_below H2.out.2.2.1 hb3 (Arr.blk_lt H2.out.2.2.1)
  have p0 := Arr.blk_cell hbl 0
  have p1 := Arr.blk_cell hbl 1
  have p2 := Arr.blk_cell hbl 2
  have p3 := Arr.blk_cell hbl 3
  have p4 := Arr.blk_cell hbl 4
  have p5 := Arr.blk_cell hbl 5
  have p6 := Arr.blk_cell hbl 6
  have p7 := Arr.blk_cell hbl 7
  unfold encV at p0 p1 p2 p3 p4 p5 p6 p7
  simp only [List.getElem?_cons_zero, List.getElem?_cons_succ] at p0 p1 p2 p3 p4 p5 p6 p7
  have H3 := Lib.hid (And.intro hl3 hb3)
  have HE3 := Lib.hid (HE2.out w3 hb3)
  clear hl3 hb3 hbl HE1 HE2
  go_wp2_with fail
  refine HE3.out.mono ?_
  rintro e w4 ⟨a4, n4, c4, rfl, hl4, hb4⟩
  have H4 := Lib.hid (And.intro (below_keep H3.out.2 hb4) (And.intro (nb_keep H3.out.1 hb4) hl4))
  clear hl4 hb4 p0 p1 p2 p3 p4 p5 p6 p7 HE3
  by_cases hf : Fits x.t ∧ Fits y.t
  · obtain ⟨f1, f2⟩ := hf
    rw [(enc_yes f1).1, (enc_yes f2).1]
    have HL3 := Lib.hid (show NB w4 w2.heap.size a3 n3 c3 (encT x.t) by rw [← (enc_yes f1).2]; exact H4.out.2.1)
    have HL4 := Lib.hid (show NB w4 w3.heap.size a4 n4 c4 (encT y.t) by rw [← (enc_yes f2).2]; exact H4.out.2.2)
    have HX := Lib.hid (And.intro (Arr.blk_below H2.out.2.1 H4.out.1 (Arr.blk_lt H2.out.2.1)) (Arr.blk_below H2.out.2.2.1 H4.out.1 (Arr.blk_lt H2.out.2.2.1)))
    have HIn := Lib.hid (And.intro (in_keep H2.out.2.2.2.1 H4.out.1) (in_keep H2.out.2.2.2.2 H4.out.1))
    have HB4 := Lib.hid (below_keep H2.out.1 H4.out.1)
    have hsc : x.t = y.t ∨ (¬ x.t = y.t ∧ ¬ encT x.t = encT y.t) := by
      by_cases h : x.t = y.t
      · exact .inl h
      · exact .inr ⟨h, fun e => h (enc_inj f1 HOk.out.1 f2 HOk.out.2 e)⟩
    clear f1 f2
    go_wp2_with fail
    rcases hsc with heq | ⟨hne, hne2⟩
    · have HBB := Lib.hid (show ∀ b, (b = true ↔ x.t = y.t) → Value.bool b = .bool true from fun b h => by rw [h.2 heq])
      have HNe := Lib.hid (show encT x.t = encT y.t by rw [heq])
      clear heq
      refine Rel.wp_region_rel (G := Rel.Gr) (Rel.tab [.is (.bool true), .is (.bool true), .is (.slice a3 n3 c3), .is (.string ⟨(encT x.t).toArray⟩), .is (.slice a4 n4 c4), .is (.string ⟨(encT y.t).toArray⟩), .is (.bool true), .is (valV x), .is (valV y), .is (.bool true), .is (.bool true), .is (.bool true), .is (.bool true)]) (fun _ w => Below w4.heap.size w4 w) (by kernel_rfl) (by kernel_rfl) (by kernel_rfl) (by kernel_rfl) (fun w => Rel.gr_refl _) (below_drew _) ?_ ?_
      · refine ⟨?_, ?_, ?_, ?_, ?_, ?_, ?_, ?_, ?_, ?_, ?_, ?_, ?_, trivial⟩
        · intro L a w c
          refine .inl ⟨Rel.wanted_free (by kernel_rfl) _, ?_⟩
          refine Rel.wp_cl _ _ _ rfl Try.func9 (by kernel_rfl) ?_
          show Calls _ _ #[] w _
          refine (awake_any HP.out w).mono ?_
          rintro e w' ⟨rfl, hb⟩
          exact ⟨_, rfl, _, rfl, hb, rfl, below_keep c.inv hb⟩
        · intro L a w c
          refine .inl ⟨Rel.wanted_free (by kernel_rfl) _, ?_⟩
          exact Rel.wp_mv _ rfl ⟨_, rfl, Rel.gr_refl _, (c.get 0 26 (by kernel_rfl)), c.inv⟩
        · intro L a w c
          refine .inl ⟨Rel.wanted_by (j := 1) (b := true) (d := 27) (by kernel_rfl) (c.get 1 27 (by kernel_rfl)), ?_⟩
          exact Rel.wp_mv _ rfl ⟨_, rfl, Rel.gr_refl _, (c.old 5 (v := .slice a3 n3 c3) (by kernel_rfl) (by kernel_rfl)), c.inv⟩
        · intro L a w c
          refine .inl ⟨Rel.wanted_by (j := 1) (b := true) (d := 27) (by kernel_rfl) (c.get 1 27 (by kernel_rfl)), ?_⟩
          exact Rel.wp_cv _ _ _ rfl (c.get 2 28 (by kernel_rfl)) (conv_nb (nb_keep HL3.out c.inv)) ⟨_, rfl, Rel.gr_refl _, rfl, c.inv⟩
        · intro L a w c
          refine .inl ⟨Rel.wanted_by (j := 1) (b := true) (d := 27) (by kernel_rfl) (c.get 1 27 (by kernel_rfl)), ?_⟩
          exact Rel.wp_mv _ rfl ⟨_, rfl, Rel.gr_refl _, (c.old 7 (v := .slice a4 n4 c4) (by kernel_rfl) (by kernel_rfl)), c.inv⟩
        · intro L a w c
          refine .inl ⟨Rel.wanted_by (j := 1) (b := true) (d := 27) (by kernel_rfl) (c.get 1 27 (by kernel_rfl)), ?_⟩
          exact Rel.wp_cv _ _ _ rfl (c.get 4 30 (by kernel_rfl)) (conv_nb (nb_keep HL4.out c.inv)) ⟨_, rfl, Rel.gr_refl _, rfl, c.inv⟩
        · intro L a w c
          refine .inl ⟨Rel.wanted_by (j := 1) (b := true) (d := 27) (by kernel_rfl) (c.get 1 27 (by kernel_rfl)), ?_⟩
          exact Rel.wp_bo _ _ _ _ _ rfl (u := .bool true) (c.get 3 29 (by kernel_rfl)) (c.get 5 31 (by kernel_rfl)) (by have h := HNe.out; simp [go_sem, h]) ⟨_, rfl, Rel.gr_refl _, rfl, c.inv⟩
        · intro L a w c
          refine .inl ⟨Rel.wanted_by (j := 1) (b := true) (d := 27) (by kernel_rfl) (c.get 1 27 (by kernel_rfl)), ?_⟩
          exact wp_load_row 28 (.tmp 2) rfl (W.heap.size) (c.old 2 (v := .pointer (some ⟨W.heap.size, 0, none⟩)) (by kernel_rfl) (by kernel_rfl)) 28 (encV x).toArray (0, 0) _ (Arr.blk_below HX.out.1 c.inv (Arr.blk_lt HX.out.1)) Try.underlying28 rfl info_st ⟨_, rfl, Rel.gr_refl _, rfl, c.inv⟩
        · intro L a w c
          refine .inl ⟨Rel.wanted_by (j := 1) (b := true) (d := 27) (by kernel_rfl) (c.get 1 27 (by kernel_rfl)), ?_⟩
          exact wp_load_row 28 (.tmp 3) rfl (W.heap.size + 1) (c.old 3 (v := .pointer (some ⟨W.heap.size + 1, 0, none⟩)) (by kernel_rfl) (by kernel_rfl)) 28 (encV y).toArray (0, 0) _ (Arr.blk_below HX.out.2 c.inv (Arr.blk_lt HX.out.2)) Try.underlying28 rfl info_st ⟨_, rfl, Rel.gr_refl _, rfl, c.inv⟩
        · intro L a w c
          refine .inl ⟨Rel.wanted_by (j := 1) (b := true) (d := 27) (by kernel_rfl) (c.get 1 27 (by kernel_rfl)), ?_⟩
          refine Rel.wp_cl _ _ _ rfl Try.func12 (by kernel_rfl) ?_
          show Calls _ _ #[Rel.slot a 33, Rel.slot a 34] w _
          rw [show Rel.slot a 33 = valV x from (c.get 7 33 (by kernel_rfl)), show Rel.slot a 34 = valV y from (c.get 8 34 (by kernel_rfl))]
          refine (rsame_any w x y (in_keep HIn.out.1 c.inv) (in_keep HIn.out.2 c.inv)).mono ?_
          rintro e w' ⟨b, rfl, hbt, hb⟩
          exact ⟨_, rfl, _, rfl, hb, HBB.out b hbt, below_keep c.inv hb⟩
        · intro L a w c
          refine .inl ⟨Rel.wanted_by (j := 1) (b := true) (d := 27) (by kernel_rfl) (c.get 1 27 (by kernel_rfl)), ?_⟩
          exact Rel.wp_bo _ _ _ _ _ rfl (u := .bool true) (c.get 6 32 (by kernel_rfl)) (c.get 9 35 (by kernel_rfl)) (by simp [go_sem]) ⟨_, rfl, Rel.gr_refl _, rfl, c.inv⟩
        · intro L a w c
          refine .inl ⟨Rel.wanted_free (by kernel_rfl) _, ?_⟩
          exact Rel.wp_pk _ _ _ rfl (b := true) (c.get 1 27 (by kernel_rfl)) ⟨_, rfl, Rel.gr_refl _, (c.get 10 36 (by kernel_rfl)), c.inv⟩
        · intro L a w c
          refine .inl ⟨Rel.wanted_free (by kernel_rfl) _, ?_⟩
          exact Rel.wp_as _ rfl ⟨_, rfl, Rel.gr_refl _, (c.get 11 37 (by kernel_rfl)), c.inv⟩
      · intro ac wc hbase hroom hdef hJ hV
        have hr : Rel.slot ac 4 = .bool true := hV 12 _ _ rfl rfl
        obtain ⟨tm, df⟩ := ac
        simp only at hdef
        subst hdef
        go_wp2
        refine bodyPost_ret (results_tmp rfl _ _ _) rfl ?_
        exact ⟨congrArg Ending.returned hr, below_keep HB4.out hJ⟩
    · have HBB := Lib.hid (show ∀ b, (b = true ↔ x.t = y.t) → Value.bool b = .bool false from fun b h => by
        cases b with
        | false => rfl
        | true => exact absurd (h.1 rfl) hne)
      have HNe := Lib.hid hne2
      clear hne hne2
      refine Rel.wp_region_rel (G := Rel.Gr) (Rel.tab [.is (.bool true), .is (.bool true), .is (.slice a3 n3 c3), .is (.string ⟨(encT x.t).toArray⟩), .is (.slice a4 n4 c4), .is (.string ⟨(encT y.t).toArray⟩), .is (.bool false), .is (valV x), .is (valV y), .is (.bool false), .is (.bool true), .is (.bool true), .is (.bool true)]) (fun _ w => Below w4.heap.size w4 w) (by kernel_rfl) (by kernel_rfl) (by kernel_rfl) (by kernel_rfl) (fun w => Rel.gr_refl _) (below_drew _) ?_ ?_
      · refine ⟨?_, ?_, ?_, ?_, ?_, ?_, ?_, ?_, ?_, ?_, ?_, ?_, ?_, trivial⟩
        · intro L a w c
          refine .inl ⟨Rel.wanted_free (by kernel_rfl) _, ?_⟩
          refine Rel.wp_cl _ _ _ rfl Try.func9 (by kernel_rfl) ?_
          show Calls _ _ #[] w _
          refine (awake_any HP.out w).mono ?_
          rintro e w' ⟨rfl, hb⟩
          exact ⟨_, rfl, _, rfl, hb, rfl, below_keep c.inv hb⟩
        · intro L a w c
          refine .inl ⟨Rel.wanted_free (by kernel_rfl) _, ?_⟩
          exact Rel.wp_mv _ rfl ⟨_, rfl, Rel.gr_refl _, (c.get 0 26 (by kernel_rfl)), c.inv⟩
        · intro L a w c
          refine .inl ⟨Rel.wanted_by (j := 1) (b := true) (d := 27) (by kernel_rfl) (c.get 1 27 (by kernel_rfl)), ?_⟩
          exact Rel.wp_mv _ rfl ⟨_, rfl, Rel.gr_refl _, (c.old 5 (v := .slice a3 n3 c3) (by kernel_rfl) (by kernel_rfl)), c.inv⟩
        · intro L a w c
          refine .inl ⟨Rel.wanted_by (j := 1) (b := true) (d := 27) (by kernel_rfl) (c.get 1 27 (by kernel_rfl)), ?_⟩
          exact Rel.wp_cv _ _ _ rfl (c.get 2 28 (by kernel_rfl)) (conv_nb (nb_keep HL3.out c.inv)) ⟨_, rfl, Rel.gr_refl _, rfl, c.inv⟩
        · intro L a w c
          refine .inl ⟨Rel.wanted_by (j := 1) (b := true) (d := 27) (by kernel_rfl) (c.get 1 27 (by kernel_rfl)), ?_⟩
          exact Rel.wp_mv _ rfl ⟨_, rfl, Rel.gr_refl _, (c.old 7 (v := .slice a4 n4 c4) (by kernel_rfl) (by kernel_rfl)), c.inv⟩
        · intro L a w c
          refine .inl ⟨Rel.wanted_by (j := 1) (b := true) (d := 27) (by kernel_rfl) (c.get 1 27 (by kernel_rfl)), ?_⟩
          exact Rel.wp_cv _ _ _ rfl (c.get 4 30 (by kernel_rfl)) (conv_nb (nb_keep HL4.out c.inv)) ⟨_, rfl, Rel.gr_refl _, rfl, c.inv⟩
        · intro L a w c
          refine .inl ⟨Rel.wanted_by (j := 1) (b := true) (d := 27) (by kernel_rfl) (c.get 1 27 (by kernel_rfl)), ?_⟩
          exact Rel.wp_bo _ _ _ _ _ rfl (u := .bool false) (c.get 3 29 (by kernel_rfl)) (c.get 5 31 (by kernel_rfl)) (by have h := HNe.out; simp [go_sem, h]) ⟨_, rfl, Rel.gr_refl _, rfl, c.inv⟩
        · intro L a w c
          refine .inl ⟨Rel.wanted_by (j := 1) (b := true) (d := 27) (by kernel_rfl) (c.get 1 27 (by kernel_rfl)), ?_⟩
          exact wp_load_row 28 (.tmp 2) rfl (W.heap.size) (c.old 2 (v := .pointer (some ⟨W.heap.size, 0, none⟩)) (by kernel_rfl) (by kernel_rfl)) 28 (encV x).toArray (0, 0) _ (Arr.blk_below HX.out.1 c.inv (Arr.blk_lt HX.out.1)) Try.underlying28 rfl info_st ⟨_, rfl, Rel.gr_refl _, rfl, c.inv⟩
        · intro L a w c
          refine .inl ⟨Rel.wanted_by (j := 1) (b := true) (d := 27) (by kernel_rfl) (c.get 1 27 (by kernel_rfl)), ?_⟩
          exact wp_load_row 28 (.tmp 3) rfl (W.heap.size + 1) (c.old 3 (v := .pointer (some ⟨W.heap.size + 1, 0, none⟩)) (by kernel_rfl) (by kernel_rfl)) 28 (encV y).toArray (0, 0) _ (Arr.blk_below HX.out.2 c.inv (Arr.blk_lt HX.out.2)) Try.underlying28 rfl info_st ⟨_, rfl, Rel.gr_refl _, rfl, c.inv⟩
        · intro L a w c
          refine .inl ⟨Rel.wanted_by (j := 1) (b := true) (d := 27) (by kernel_rfl) (c.get 1 27 (by kernel_rfl)), ?_⟩
          refine Rel.wp_cl _ _ _ rfl Try.func12 (by kernel_rfl) ?_
          show Calls _ _ #[Rel.slot a 33, Rel.slot a 34] w _
          rw [show Rel.slot a 33 = valV x from (c.get 7 33 (by kernel_rfl)), show Rel.slot a 34 = valV y from (c.get 8 34 (by kernel_rfl))]
          refine (rsame_any w x y (in_keep HIn.out.1 c.inv) (in_keep HIn.out.2 c.inv)).mono ?_
          rintro e w' ⟨b, rfl, hbt, hb⟩
          exact ⟨_, rfl, _, rfl, hb, HBB.out b hbt, below_keep c.inv hb⟩
        · intro L a w c
          refine .inl ⟨Rel.wanted_by (j := 1) (b := true) (d := 27) (by kernel_rfl) (c.get 1 27 (by kernel_rfl)), ?_⟩
          exact Rel.wp_bo _ _ _ _ _ rfl (u := .bool true) (c.get 6 32 (by kernel_rfl)) (c.get 9 35 (by kernel_rfl)) (by simp [go_sem]) ⟨_, rfl, Rel.gr_refl _, rfl, c.inv⟩
        · intro L a w c
          refine .inl ⟨Rel.wanted_free (by kernel_rfl) _, ?_⟩
          exact Rel.wp_pk _ _ _ rfl (b := true) (c.get 1 27 (by kernel_rfl)) ⟨_, rfl, Rel.gr_refl _, (c.get 10 36 (by kernel_rfl)), c.inv⟩
        · intro L a w c
          refine .inl ⟨Rel.wanted_free (by kernel_rfl) _, ?_⟩
          exact Rel.wp_as _ rfl ⟨_, rfl, Rel.gr_refl _, (c.get 11 37 (by kernel_rfl)), c.inv⟩
      · intro ac wc hbase hroom hdef hJ hV
        have hr : Rel.slot ac 4 = .bool true := hV 12 _ _ rfl rfl
        obtain ⟨tm, df⟩ := ac
        simp only at hdef
        subst hdef
        go_wp2
        refine bodyPost_ret (results_tmp rfl _ _ _) rfl ?_
        exact ⟨congrArg Ending.returned hr, below_keep HB4.out hJ⟩
  · have hor : encE x.t = 3 ∨ (encE x.t = 0 ∧ encE y.t = 3) := by
      by_cases f1 : Fits x.t
      · exact .inr ⟨(enc_yes f1).1, (enc_no fun f2 => hf ⟨f1, f2⟩).1⟩
      · exact .inl (enc_no f1).1
    have HB4 := Lib.hid (below_keep H2.out.1 H4.out.1)
    clear hf
    rcases hor with e1 | ⟨e1, e2⟩
    · rw [e1]
      go_wp2_with fail
      refine (HAw.out w4).mono ?_
      rintro e w5 ⟨rfl, hb5⟩
      have HB5 := Lib.hid (below_keep HB4.out hb5)
      clear hb5
      go_wp2_with fail
      go_ret
      exact ⟨rfl, HB5.out⟩
    · rw [e1, e2]
      go_wp2_with fail
      refine (HAw.out w4).mono ?_
      rintro e w5 ⟨rfl, hb5⟩
      have HB5 := Lib.hid (below_keep HB4.out hb5)
      clear hb5
      go_wp2_with fail
      go_ret
      exact ⟨rfl, HB5.out⟩
end Go.Proofs.Ytpmpigglekgfnaa.Snp
