/- Common to the claims of this seat, part 10: texts that were written one by one, laid behind one another. -/
import Derived.Test.YtjcndgopijpibaaGreatPart1
import Derived.Test.YtjcndgopijpibaaGreatPart5
import Derived.Test.YtjcndgopijpibaaGreatPart7
import Derived.Test.YtjcndgopijpibaaGreatPart9
/- Book: the laws' fixed fact, over any book that does as it should. -/
namespace Go.Proofs.YtjcndgopijpibaaGreat.Bok
set_option maxRecDepth 100000
open Go.RowKit
open Go.Sort
open Kit
open Foot
open Tre (Lst inI lst_keep lst_at lst_new lst_none IntsL encI encI_len alloc_cells6 encL_len)
open Ent (Tx Tv)
open Snp (Sn Sv)
set_option linter.unusedVariables false
variable {w w' : World}
abbrev cS (y : Sv) : Array Value := #[.int .i64 y.seq, .int .i64 y.world, .int .i64 y.next, .slice y.f.a y.f.n y.f.c, .slice y.l.a y.l.n y.l.c, .slice y.r.a y.r.n y.r.c, .slice y.j.a y.j.n y.j.c, .slice y.k.a y.k.n y.k.c]
abbrev cT (u : Tv) : Array Value := #[.int .i64 u.t.seq, .int .i64 u.t.time, .int .i64 u.t.kind, .string u.t.key, .string u.t.name, .slice u.a1 u.n1 u.c1, .slice u.a2 u.n2 u.c2]
abbrev kA1 (W : World) : World := W.alloc (.cells #[.int .i64 (-1), .int .i64 0] 3)
abbrev kA2 (W : World) : World := (kA1 W).alloc (.cells #[.int .i64 0, .int .i64 0, .int .i64 99, .int .i64 100] 3)
abbrev kA3 (W : World) : World := (kA2 W).alloc (.cells #[.int .i64 0, .int .i64 3, .int .i64 10, .int .i64 0, .int .i64 0, .int .i64 2] 3)
abbrev kA4 (W : World) : World := (kA3 W).alloc (.cells #[.int .i64 1, .int .i64 7] 3)
abbrev kA5 (W : World) : World := (kA4 W).alloc (.cells #[.int .i64 0, .int .i64 0, .int .i64 1, .string ⟨#[]⟩, .string ⟨#[97]⟩, .slice (some ⟨W.heap.size, 0, none⟩) 2 2, .slice none 0 0,
  .int .i64 0, .int .i64 0, .int .i64 2, .string ⟨#[107]⟩, .string ⟨#[]⟩, .slice (some ⟨W.heap.size + 1, 0, none⟩) 4 4, .slice none 0 0,
  .int .i64 0, .int .i64 0, .int .i64 7, .string ⟨#[]⟩, .string ⟨#[]⟩, .slice (some ⟨W.heap.size + 1 + 1, 0, none⟩) 6 6, .slice none 0 0,
  .int .i64 0, .int .i64 5, .int .i64 14, .string ⟨#[]⟩, .string ⟨#[]⟩, .slice (some ⟨W.heap.size + 1 + 1 + 1, 0, none⟩) 2 2, .slice none 0 0] 34)
abbrev tvs (W : World) : List Tv := [⟨tx1, some ⟨W.heap.size, 0, none⟩, 2, 2, none, 0, 0⟩, ⟨tx2, some ⟨W.heap.size + 1, 0, none⟩, 4, 4, none, 0, 0⟩, ⟨tx3, some ⟨W.heap.size + 1 + 1, 0, none⟩, 6, 6, none, 0, 0⟩, ⟨tx4, some ⟨W.heap.size + 1 + 1 + 1, 0, none⟩, 2, 2, none, 0, 0⟩]
theorem tv_in {t : Tx} {a : Option Addr} {n c : Nat} (h : IntsL w a n c t.args) (hl : t.legs = []) (hk : t.key.size ≤ 1) (hn : t.name.size ≤ 1) : (⟨t, a, n, c, none, 0, 0⟩ : Tv).In w :=
  ⟨h, by show Lst _ _ _ _ _ _ t.legs; rw [hl]; exact lst_none _ _ _, by show t.key.size ≤ maxLen; unfold maxLen; omega, by show t.name.size ≤ maxLen; unfold maxLen; omega⟩
theorem made_tvs (W : World) : Below W.heap.size W (kA5 W) ∧ Txs (kA5 W) (some ⟨W.heap.size + 1 + 1 + 1 + 1, 0, none⟩) 4 4 (tvs W) ∧ ∀ t ∈ tvs W, t.In (kA5 W) := by
  have z1 : (kA1 W).heap.size = W.heap.size + 1 := by simp
  have z2 : (kA2 W).heap.size = W.heap.size + 1 + 1 := by simp
  have z3 : (kA3 W).heap.size = W.heap.size + 1 + 1 + 1 := by simp
  have z4 : (kA4 W).heap.size = W.heap.size + 1 + 1 + 1 + 1 := by simp
  have b1 : Below W.heap.size W (kA1 W) := below_alloc W _
  have b2 : Below (kA1 W).heap.size (kA1 W) (kA2 W) := below_alloc (kA1 W) _
  have b3 : Below (kA2 W).heap.size (kA2 W) (kA3 W) := below_alloc (kA2 W) _
  have b4 : Below (kA3 W).heap.size (kA3 W) (kA4 W) := below_alloc (kA3 W) _
  have b5 : Below (kA4 W).heap.size (kA4 W) (kA5 W) := below_alloc (kA4 W) _
  have h1 : IntsL (kA1 W) (some ⟨W.heap.size, 0, none⟩) 2 2 tx1.args := lst_new encI_len W tx1.args _ _ _ 2 rfl rfl rfl (by omega)
  have h2 : IntsL (kA2 W) (some ⟨W.heap.size + 1, 0, none⟩) 4 4 tx2.args := lst_new encI_len (kA1 W) tx2.args _ _ _ 4 z1.symm rfl rfl (by omega)
  have h3 : IntsL (kA3 W) (some ⟨W.heap.size + 1 + 1, 0, none⟩) 6 6 tx3.args := lst_new encI_len (kA2 W) tx3.args _ _ _ 6 z2.symm rfl rfl (by omega)
  have h4 : IntsL (kA4 W) (some ⟨W.heap.size + 1 + 1 + 1, 0, none⟩) 2 2 tx4.args := lst_new encI_len (kA3 W) tx4.args _ _ _ 2 z3.symm rfl rfl (by omega)
  have h5 : Txs (kA5 W) (some ⟨W.heap.size + 1 + 1 + 1 + 1, 0, none⟩) 4 4 (tvs W) := lst_new encT_len (kA4 W) (tvs W) _ _ _ 4 z4.symm rfl rfl (by omega)
  refine ⟨below_keep (below_keep (below_keep (below_keep b1 b2) b3) b4) b5, h5, fun t ht => ?_⟩
  simp only [List.mem_cons, List.not_mem_nil, or_false] at ht
  rcases ht with rfl | rfl | rfl | rfl
  · exact tv_in (lst_keep encI_len h1 (below_keep (below_keep (below_keep b2 b3) b4) b5)) rfl (by decide) (by decide)
  · exact tv_in (lst_keep encI_len h2 (below_keep (below_keep b3 b4) b5)) rfl (by decide) (by decide)
  · exact tv_in (lst_keep encI_len h3 (below_keep b4 b5)) rfl (by decide) (by decide)
  · exact tv_in (lst_keep encI_len h4 b5) rfl (by decide) (by decide)
theorem tvs_ok (W : World) : ∀ t ∈ tvs W, t.t.ok := fun t ht => by
  simp only [List.mem_cons, List.not_mem_nil, or_false] at ht
  rcases ht with rfl | rfl | rfl | rfl
  all_goals exact txs_ok.1 _ (by simp)
theorem of_st4 {y : Sv} (h : y.t = st4) : y.seq = 4 ∧ y.allocs = [⟨0, 0, 99, 40, 60, 0⟩] := by
  obtain ⟨sq, wd, nx, fs, ls, rs, js, ks, f, l, r, j, k⟩ := y
  unfold st4 at h
  injection h with h1 h2 h3 h4 h5
  exact ⟨h1, h5⟩
set_option maxHeartbeats 16000000 in
theorem awake_any (hP : Prog) (W : World) : Calls Tryz.prog 15 #[] W fun e W' => e = .returned (.bool true) ∧ Below W.heap.size W W' := by
  have h1 := made_tvs W
  have HPl := Lib.hid (show Calls Tryz.prog 18 #[.slice (some ⟨W.heap.size + 1 + 1 + 1 + 1, 0, none⟩) 4 4, .int .i64 9] (kA5 W) fun e W' => ∃ y : Sv, e = .returned (Snp.valV y) ∧ y.t = playS (((tvs W).map (·.t)).take 9) ∧ Inv 9 y.t ∧ NewS W' (kA5 W).heap.size y ∧ Below (kA5 W).heap.size (kA5 W) W' from
    plays_any hP (kA5 W) _ 4 4 (tvs W) h1.2.1 h1.2.2 (tvs_ok W) 9 (by omega))
  have HP := Lib.hid hP
  have HB1 := Lib.hid h1.1
  clear hP h1
  go_enter Tryz.func15, Tryz.ntmps15
  go_wp2_with fail
  refine HPl.out.mono ?_
  rintro e w2 ⟨y, rfl, hy, hinv, hn, hb2⟩
  replace hy : y.t = st4 := hy.trans play4
  have hbs := Arr.blk_new w2 w2.heap.size 29 (Snp.encV y) rfl
  have hba := below_alloc w2 (.cells (Snp.encV y).toArray 29)
  obtain ⟨B, hB⟩ : ∃ B, B = w2.heap.size := ⟨_, rfl⟩
  obtain ⟨w3, hw3⟩ : ∃ x, x = w2.alloc (.cells (Snp.encV y).toArray 29) := ⟨_, rfl⟩
  rw [← hw3, ← hB] at hbs
  rw [← hw3] at hba
  have H3 := Lib.hid (And.intro hbs (And.intro (newS_keep hn hba).inn (And.intro hy (And.intro hinv (below_keep HB1.out (below_keep hb2 hba))))))
  have HW3 := Lib.hid (And.intro (show w3 = w2.alloc (.cells #[.int .i64 y.seq, .int .i64 y.world, .int .i64 y.next, .slice y.f.a y.f.n y.f.c, .slice y.l.a y.l.n y.l.c, .slice y.r.a y.r.n y.r.c, .slice y.j.a y.j.n y.j.c, .slice y.k.a y.k.n y.k.c] 29) from hw3) hB)
  -- the transaction of region 2
  have hba4 := below_alloc w3 (.cells #[.int .i64 1, .int .i64 4] 3)
  have hia4 : IntsL (w3.alloc (.cells #[.int .i64 1, .int .i64 4] 3)) (some ⟨w3.heap.size, 0, none⟩) 2 2 tx5.args := lst_new encI_len w3 tx5.args _ _ _ 2 rfl rfl rfl (by omega)
  obtain ⟨w4, hw4⟩ : ∃ x, x = w3.alloc (.cells #[.int .i64 1, .int .i64 4] 3) := ⟨_, rfl⟩
  rw [← hw4] at hba4 hia4
  have HF := Lib.hid (show Calls Tryz.prog 10 #[Snp.valV y, Ent.valV ⟨tx5, some ⟨w3.heap.size, 0, none⟩, 2, 2, none, 0, 0⟩] w4 fun e W' => ∃ u : Tv, e = .returned (.tuple #[Ent.valV u, .int .i64 0]) ∧ u.t = doT st4 tx5 ∧ NewT W' w4.heap.size u ∧ Below w4.heap.size w4 W' from by
    have h := HP.out.fill w4 y ⟨tx5, some ⟨w3.heap.size, 0, none⟩, 2, 2, none, 0, 0⟩ (Snp.in_keep (newS_keep hn hba).inn hba4) hinv.2.1 hinv.1 (tv_in hia4 rfl (by decide) (by decide)) txs_ok.2.1
    rw [hy, end5.1] at h
    exact h)
  have HB4 := Lib.hid hba4
  have HW4 := Lib.hid hw4
  clear hbs hba hB hw3 hy hinv hn hb2 hba4 hia4 hw4 HPl
  go_upto_region 2 with fail
  rw [show w2.alloc (.cells #[.int .i64 y.seq, .int .i64 y.world, .int .i64 y.next, .slice y.f.a y.f.n y.f.c, .slice y.l.a y.l.n y.l.c, .slice y.r.a y.r.n y.r.c, .slice y.j.a y.j.n y.j.c, .slice y.k.a y.k.n y.k.c] 29) = w3 from HW3.out.1.symm, ← HW3.out.2]
  clear HW3
  go_wp2_with (first | (refine Arr.wpList_load_blk rfl 29 (.tmp 1) rfl B rfl (Snp.encV y) 29 H3.out.1 _ Tryz.underlying29 rfl info_st ?_) | fail)
  rw [← HW4.out]
  refine HF.out.mono ?_
  rintro e w5 ⟨u, rfl, hu, hnu, hb5⟩
  have hbs := Arr.blk_new w5 w5.heap.size 34 (Ent.encV u) rfl
  have hba := below_alloc w5 (.cells (Ent.encV u).toArray 34)
  obtain ⟨C, hC⟩ : ∃ B, B = w5.heap.size := ⟨_, rfl⟩
  obtain ⟨w6, hw6⟩ : ∃ x, x = w5.alloc (.cells (Ent.encV u).toArray 34) := ⟨_, rfl⟩
  rw [← hw6, ← hC] at hbs
  rw [← hw6] at hba
  have hb36 := below_keep HB4.out (below_keep hb5 hba)
  have H6 := Lib.hid (And.intro (Arr.blk_below H3.out.1 hb36 (Arr.blk_lt H3.out.1)) (And.intro hbs (And.intro (Snp.in_keep H3.out.2.1 hb36) (And.intro (newT_keep hnu hba).inn (And.intro hu (below_keep H3.out.2.2.2.2 hb36))))))
  have HW6 := Lib.hid (And.intro (show w6 = w5.alloc (.cells #[.int .i64 u.t.seq, .int .i64 u.t.time, .int .i64 u.t.kind, .string u.t.key, .string u.t.name, .slice u.a1 u.n1 u.c1, .slice u.a2 u.n2 u.c2] 34) from hw6) hC)
  have HA := Lib.hid (show Calls Tryz.prog 13 #[Snp.valV y, Ent.valV u] w6 fun e W' => ∃ x : Sv, e = .returned (.tuple #[Snp.valV x, .int .i64 0]) ∧ x.t = doS st4 tx5 ∧ NewS W' w6.heap.size x ∧ Below w6.heap.size w6 W' from by
    have hi := H3.out.2.2.2.1
    have h := HP.out.apply w6 y u H6.out.2.2.1 hi.2.1 hi.1 H6.out.2.2.2.1 (by rw [hu]; have h1 := hi.1; have h2 := hi.2.1; rw [H3.out.2.2.1] at h1 h2; exact filled_ok h1 h2 txs_ok.2.1)
    rw [H3.out.2.2.1, hu, (apply_filled end5.1).1, (apply_filled end5.1).2] at h
    exact h)
  clear hbs hba hC hw6 hu hnu hb5 hb36 HF HW4
  go_upto_region 3 with fail
  rw [show w5.alloc (.cells #[.int .i64 u.t.seq, .int .i64 u.t.time, .int .i64 u.t.kind, .string u.t.key, .string u.t.name, .slice u.a1 u.n1 u.c1, .slice u.a2 u.n2 u.c2] 34) = w6 from HW6.out.1.symm, ← HW6.out.2]
  clear HW6
  go_wp2_with (first | (refine Arr.wpList_load_blk rfl 29 (.tmp 1) rfl B rfl (Snp.encV y) 29 H6.out.1 _ Tryz.underlying29 rfl info_st ?_) | (refine Arr.wpList_load_blk rfl 34 (.tmp 2) rfl C rfl (Ent.encV u) 34 H6.out.2.1 _ Tryz.underlying34 rfl info_tx7 ?_) | fail)
  refine HA.out.mono ?_
  rintro e w7 ⟨x, rfl, hx, hnx, hb7⟩
  have hbs := Arr.blk_new w7 w7.heap.size 29 (Snp.encV x) rfl
  have hba := below_alloc w7 (.cells (Snp.encV x).toArray 29)
  obtain ⟨D, hD⟩ : ∃ B, B = w7.heap.size := ⟨_, rfl⟩
  obtain ⟨w8, hw8⟩ : ∃ z, z = w7.alloc (.cells (Snp.encV x).toArray 29) := ⟨_, rfl⟩
  rw [← hw8, ← hD] at hbs
  rw [← hw8] at hba
  have hb68 := below_keep hb7 hba
  have H8 := Lib.hid (And.intro (Arr.blk_below H6.out.1 hb68 (Arr.blk_lt H6.out.1)) (And.intro (Arr.blk_below H6.out.2.1 hb68 (Arr.blk_lt H6.out.2.1)) (And.intro hbs (And.intro (Snp.in_keep H6.out.2.2.1 hb68) (And.intro (newS_keep hnx hba).inn (And.intro hx (below_keep H6.out.2.2.2.2.2 hb68)))))))
  have HW8 := Lib.hid (And.intro (show w8 = w7.alloc (.cells #[.int .i64 x.seq, .int .i64 x.world, .int .i64 x.next, .slice x.f.a x.f.n x.f.c, .slice x.l.a x.l.n x.l.c, .slice x.r.a x.r.n x.r.c, .slice x.j.a x.j.n x.j.c, .slice x.k.a x.k.n x.k.c] 29) from hw8) hD)
  have hba9 := below_alloc w8 (.cells #[.int .i64 0, .int .i64 1] 3)
  have hia9 : IntsL (w8.alloc (.cells #[.int .i64 0, .int .i64 1] 3)) (some ⟨w8.heap.size, 0, none⟩) 2 2 tx6.args := lst_new encI_len w8 tx6.args _ _ _ 2 rfl rfl rfl (by omega)
  obtain ⟨w9, hw9⟩ : ∃ x, x = w8.alloc (.cells #[.int .i64 0, .int .i64 1] 3) := ⟨_, rfl⟩
  rw [← hw9] at hba9 hia9
  have HF := Lib.hid (show Calls Tryz.prog 10 #[Snp.valV y, Ent.valV ⟨tx6, some ⟨w8.heap.size, 0, none⟩, 2, 2, none, 0, 0⟩] w9 fun e W' => ∃ u : Tv, e = .returned (.tuple #[Ent.valV u, .int .i64 6]) ∧ u.t = doT st4 tx6 ∧ NewT W' w9.heap.size u ∧ Below w9.heap.size w9 W' from by
    have hi := H3.out.2.2.2.1
    have h := HP.out.fill w9 y ⟨tx6, some ⟨w8.heap.size, 0, none⟩, 2, 2, none, 0, 0⟩ (Snp.in_keep H8.out.2.2.2.1 hba9) hi.2.1 hi.1 (tv_in hia9 rfl (by decide) (by decide)) txs_ok.2.2
    rw [H3.out.2.2.1, twice6] at h
    exact h)
  have HB9 := Lib.hid hba9
  have HW9 := Lib.hid hw9
  clear hbs hba hD hw8 hx hnx hb7 hb68 hba9 hia9 hw9 HA
  go_upto_region 4 with fail
  rw [show w7.alloc (.cells #[.int .i64 x.seq, .int .i64 x.world, .int .i64 x.next, .slice x.f.a x.f.n x.f.c, .slice x.l.a x.l.n x.l.c, .slice x.r.a x.r.n x.r.c, .slice x.j.a x.j.n x.j.c, .slice x.k.a x.k.n x.k.c] 29) = w8 from HW8.out.1.symm, ← HW8.out.2]
  clear HW8
  go_wp2_with (first | (refine Arr.wpList_load_blk rfl 29 (.tmp 1) rfl B rfl (Snp.encV y) 29 H8.out.1 _ Tryz.underlying29 rfl info_st ?_) | fail)
  rw [← HW9.out]
  refine HF.out.mono ?_
  rintro e wa ⟨v, rfl, -, -, hba⟩
  have hbb := below_alloc wa (.cells #[.int .i64 v.t.seq, .int .i64 v.t.time, .int .i64 v.t.kind, .string v.t.key, .string v.t.name, .slice v.a1 v.n1 v.c1, .slice v.a2 v.n2 v.c2] 34)
  obtain ⟨wb, hwb⟩ : ∃ x, x = wa.alloc (.cells #[.int .i64 v.t.seq, .int .i64 v.t.time, .int .i64 v.t.kind, .string v.t.key, .string v.t.name, .slice v.a1 v.n1 v.c1, .slice v.a2 v.n2 v.c2] 34) := ⟨_, rfl⟩
  rw [← hwb] at hbb
  have hb8b := below_keep HB9.out (below_keep hba hbb)
  have Hb := Lib.hid (And.intro (Snp.box_cells (Arr.blk_below H8.out.1 hb8b (Arr.blk_lt H8.out.1))) (And.intro (Arr.blk_cell (Arr.blk_below H8.out.2.1 hb8b (Arr.blk_lt H8.out.2.1)) 6) (And.intro (Snp.box_cells (Arr.blk_below H8.out.2.2.1 hb8b (Arr.blk_lt H8.out.2.2.1))) (And.intro (Snp.in_keep H8.out.2.2.2.1 hb8b).allocs (And.intro (Snp.in_keep H8.out.2.2.2.2.1 hb8b).allocs (below_keep H8.out.2.2.2.2.2.2 hb8b))))))
  have HWb := Lib.hid hwb
  have hy4 := of_st4 H3.out.2.2.1
  have hx1 : x.world = -100 := (congrArg Sn.world H8.out.2.2.2.2.2.1).trans end5.2.2.1
  have hx2 : x.allocs = [⟨0, 0, 99, 76, 0, 24⟩] := (congrArg Sn.allocs H8.out.2.2.2.2.2.1).trans end5.2.2.2
  have hun : u.n2 = 3 := by
    have h := H6.out.2.2.2.1.legs.len
    rw [H6.out.2.2.2.2.1, end5.2.1] at h
    exact h.symm
  obtain ⟨⟨p0, -, -, -, p4, -, -, -⟩, q6, ⟨-, r1, -, -, r4, -, -, -⟩, hla, hlx, -⟩ := Hb.out
  have hyn : y.l.n = 1 := by have h := hla.len; rw [hy4.2] at h; exact h.symm
  have hxn : x.l.n = 1 := by have h := hlx.len; rw [hx2] at h; exact h.symm
  obtain ⟨b, o, hya⟩ := lst_at hla (by rw [hyn]; exact Nat.zero_lt_one)
  simp only [Ent.encV, List.getElem?_cons_zero, List.getElem?_cons_succ, hun] at q6
  rw [hy4.1] at p0
  rw [hyn, hya] at p4
  rw [hx1] at r1
  rw [hxn] at r4
  rw [hy4.2, hyn, hya] at hla
  rw [hx2, hxn] at hlx
  have HLs := Lib.hid (And.intro hla hlx)
  clear hy4 hx1 hx2 hun hyn hxn hya hla hlx hbb hba hwb hb8b HF HW9
  go_upto_region 5 with fail
  rw [← HWb.out]
  have hbc := below_alloc wb (.cells #[.int .i64 0, .int .i64 0, .int .i64 99, .int .i64 76, .int .i64 0, .int .i64 24] 65)
  have HSa := Lib.hid (Led.same_any x.l.a (some ⟨wb.heap.size, 0, none⟩) 1 x.l.c 1 [⟨0, 0, 99, 76, 0, 24⟩] (wb.alloc (.cells #[.int .i64 0, .int .i64 0, .int .i64 99, .int .i64 76, .int .i64 0, .int .i64 24] 65)) (lst_keep encL_len HLs.out.2 hbc) (lst_new encL_len wb [⟨0, 0, 99, 76, 0, 24⟩] _ _ _ 1 rfl rfl rfl (by omega)))
  have HBc := Lib.hid hbc
  have HC := Lib.hid (And.intro p4 r1)
  clear hbc p4 r1
  go_wp2_with fail
  refine HSa.out.mono ?_
  rintro e wd ⟨rfl, hbd⟩
  have hbcd := below_keep HBc.out hbd
  have p4 := cell_keep hbcd HC.out.1
  have r1 := cell_keep hbcd HC.out.2
  have hlc := (alloc_cells6 (lst_keep encL_len HLs.out.1 hbcd) (k := 0) (by simp)).2.2.2.2.1
  simp only [List.getElem_cons_zero, Nat.zero_mul, Nat.add_zero] at hlc
  have HBd := Lib.hid (below_keep Hb.out.2.2.2.2.2 hbcd)
  clear hbd hbcd HSa HC
  go_wp2_with fail
  go_ret
  exact ⟨rfl, HBd.out⟩
end Go.Proofs.YtjcndgopijpibaaGreat.Bok
/- Up to three appends within one another, append(append(append(v, x..), y..), z..), in a region that draws its order: the parts are lists made in the region, or such that were there. -/
namespace Go.Proofs.YtjcndgopijpibaaGreat.Nest
open Go.RowKit
open Go.Sort
open Kit
open Rel (slot)
set_option linter.unusedVariables false
variable {α : Type} {enc : α → List Value} {size : Nat} {T : TypeId} {w0 w w' : World} {v0 vd : Value} {l0 p1 p2 p3 : List α}
def cur (b1 b2 b3 : Bool) (v0 u1 u2 u3 : Value) : Value := cond b3 u3 (cond b2 u2 (cond b1 u1 v0))
def lst (b1 b2 b3 : Bool) (l0 p1 p2 p3 : List α) : List α := cond b3 (l0 ++ p1 ++ p2 ++ p3) (cond b2 (l0 ++ p1 ++ p2) (cond b1 (l0 ++ p1) l0))
def Part (enc : α → List Value) (size : Nat) (w : World) (v t : Value) (p : List α) : Prop :=
  ∃ ad c, t = .slice ad p.length c ∧ Kit.Row enc size w ad p ∧ (ad = none → p.length = 0 ∧ c = 0) ∧ ∀ q, ad = some q → p ≠ [] → v.ownBlock ≠ some q.block ∧ q.block < w.heap.size
def Lit (enc : α → List Value) (size : Nat) (w : World) (c b : Bool) (v t : Value) (p : List α) : Prop := c = true → b = false → Part enc size w v t p
theorem row_grown (hs : ∀ x, (enc x).length = size) {ad : Option Addr} {l : List α} {r : Option Nat} (h : Kit.Row enc size w ad l) (hg : w.grownBy w' r) (hq : ∀ q, ad = some q → l ≠ [] → r ≠ some q.block ∧ q.block < w.heap.size) : Kit.Row enc size w' ad l := by
  by_cases hl : l = []
  · exact .inl hl
  rcases h with h | ⟨b, off, h1, h2⟩
  · exact .inl h
  · refine .inr ⟨b, off, h1, fun j hj i hi => ?_⟩
    rw [← h2 j hj i hi]
    obtain ⟨g1, g2⟩ := hq _ h1 hl
    exact World.cell?_of_block (hg.block b g2 (Ne.symm g1))
theorem part_on (hs : ∀ x, (enc x).length = size) {v t : Value} {p : List α} (h : Part enc size w v t p) (hb : Below w.heap.size w w') : Part enc size w' v t p := by
  obtain ⟨ad, c, e, hr, hn, hq⟩ := h
  exact ⟨ad, c, e, row_keep hs hr hb, hn, fun q hq' hl => ⟨(hq q hq' hl).1, Nat.lt_of_lt_of_le (hq q hq' hl).2 hb.size⟩⟩
theorem part_grown (hs : ∀ x, (enc x).length = size) {v t u : Value} {p : List α} (h : Part enc size w v t p) (hg : w.grownBy w' v.ownBlock) (hu : u.ownBlock = v.ownBlock ∨ u.ownBlock = some w.heap.size) : Part enc size w' u t p := by
  obtain ⟨ad, c, e, hr, hn, hq⟩ := h
  refine ⟨ad, c, e, row_grown hs hr hg hq, hn, fun q hq' hl => ⟨?_, Nat.lt_of_lt_of_le (hq q hq' hl).2 hg.size⟩⟩
  obtain ⟨g1, g2⟩ := hq q hq' hl
  rcases hu with hu | hu
  · rw [hu]; exact g1
  · rw [hu]
    intro e
    injection e with e
    omega
theorem own_on {base : Nat} {v : Value} {l : List α} (h : Owns enc size T w base v l) (hb : Below w.heap.size w w') : Owns enc size T w' base v l := by
  rcases h with ⟨h1, h2 | ⟨g, cap, cur, e1, e2, e3, e4, e5, e6, e7⟩⟩
  · exact ⟨h1, .inl h2⟩
  · exact ⟨h1, .inr ⟨g, cap, cur, e1, e2, by rw [hb.block g (Array.getElem?_eq_some_iff.1 e3).1]; exact e3, e4, e5, e6, e7⟩⟩
structure At where
  i1 : Nat
  d1 : Nat
  i2 : Nat
  d2 : Nat
  i3 : Nat
  d3 : Nat
  m1 : Nat
  t1 : Nat
  m2 : Nat
  t2 : Nat
  m3 : Nat
  t3 : Nat
  ia : Nat
  da : Nat
  dl : Nat
def At.idx (n : At) : List Nat := [n.i1, n.i2, n.i3, n.m1, n.m2, n.m3, n.ia]
def At.dst (n : At) : List Nat := [n.d1, n.d2, n.d3, n.t1, n.t2, n.t3, n.da, n.dl]
structure J (n : At) (enc : α → List Value) (size : Nat) (T : TypeId) (w0 : World) (v0 vd : Value) (l0 p1 p2 p3 : List α) (L : Array Bool) (s : Nat → Value) (w : World) : Prop where
  below : Below w0.heap.size w0 w
  own : Owns enc size T w w0.heap.size (cur (L.getD n.i1 false) (L.getD n.i2 false) (L.getD n.i3 false) v0 (s n.d1) (s n.d2) (s n.d3)) (lst (L.getD n.i1 false) (L.getD n.i2 false) (L.getD n.i3 false) l0 p1 p2 p3)
  one : Lit enc size w (L.getD n.m1 false) (L.getD n.i1 false) (cur (L.getD n.i1 false) (L.getD n.i2 false) (L.getD n.i3 false) v0 (s n.d1) (s n.d2) (s n.d3)) (s n.t1) p1
  two : Lit enc size w (L.getD n.m2 false) (L.getD n.i2 false) (cur (L.getD n.i1 false) (L.getD n.i2 false) (L.getD n.i3 false) v0 (s n.d1) (s n.d2) (s n.d3)) (s n.t2) p2
  three : Lit enc size w (L.getD n.m3 false) (L.getD n.i3 false) (cur (L.getD n.i1 false) (L.getD n.i2 false) (L.getD n.i3 false) v0 (s n.d1) (s n.d2) (s n.d3)) (s n.t3) p3
  old : L.getD n.ia false = false → s n.da = vd
  new : L.getD n.ia false = true → s n.da = s n.dl
theorem lit_on (hs : ∀ x, (enc x).length = size) {c b : Bool} {v t : Value} {p : List α} (h : Lit enc size w c b v t p) (hb : Below w.heap.size w w') : Lit enc size w' c b v t p := fun h1 h2 => part_on hs (h h1 h2) hb
theorem start (n : At) (k : Nat) (s : Nat → Value) (hd : s n.da = vd) (ho : Owns enc size T w w0.heap.size v0 l0) (hb : Below w0.heap.size w0 w) : J n enc size T w0 v0 vd l0 p1 p2 p3 (Array.replicate k false) s w := by
  have e : ∀ i, (Array.replicate k false).getD i false = false := by
    intro i
    by_cases h : i < k <;> simp [h]
  refine ⟨hb, ?_, ?_, ?_, ?_, fun _ => hd, fun h => by rw [e] at h; cases h⟩
  · rw [e, e, e]; exact ho
  · intro h; rw [e] at h; cases h
  · intro h; rw [e] at h; cases h
  · intro h; rw [e] at h; cases h
variable {n : At} {L : Array Bool} {a : Act}
def farB (k : Nat) (l : List Nat) : Bool := l.all fun i => k != i
theorem go (hs : ∀ x, (enc x).length = size) {k d : Nat} {v : Value} (h : J n enc size T w0 v0 vd l0 p1 p2 p3 L (slot a) w) (hk : farB k n.idx = true) (hd : farB d n.dst = true) (hb : Below w.heap.size w w') : J n enc size T w0 v0 vd l0 p1 p2 p3 (L.setIfInBounds k true) (slot (a.put (some d) v)) w' := by
  simp only [farB, At.idx, At.dst, List.all_cons, List.all_nil, Bool.and_true, Bool.and_eq_true, bne_iff_ne, ne_eq] at hk hd
  obtain ⟨k1, k2, k3, k4, k5, k6, k7⟩ := hk
  obtain ⟨d1, d2, d3, d4, d5, d6, d7, d8⟩ := hd
  obtain ⟨h1, h2, h3, h4, h5, h6, h7⟩ := h
  refine ⟨h1.trans (hb.mono h1.size), ?_, ?_, ?_, ?_, ?_, ?_⟩
  all_goals simp only [Rel.set_ne k1, Rel.set_ne k2, Rel.set_ne k3, Rel.set_ne k4, Rel.set_ne k5, Rel.set_ne k6, Rel.set_ne k7, Rel.slot_put_ne d1, Rel.slot_put_ne d2, Rel.slot_put_ne d3, Rel.slot_put_ne d4, Rel.slot_put_ne d5, Rel.slot_put_ne d6, Rel.slot_put_ne d7, Rel.slot_put_ne d8]
  · exact own_on h2 hb
  · exact lit_on hs h3 hb
  · exact lit_on hs h4 hb
  · exact lit_on hs h5 hb
  · exact h6
  · exact h7
theorem mk1 (hs : ∀ x, (enc x).length = size) {u : Value} (h : J n enc size T w0 v0 vd l0 p1 p2 p3 L (slot a) w) (hk : farB n.m1 [n.i1, n.i2, n.i3, n.m2, n.m3, n.ia] = true) (hd : farB n.t1 [n.d1, n.d2, n.d3, n.t2, n.t3, n.da, n.dl] = true) (ht : n.t1 < a.tmps.size) (hb : Below w.heap.size w w')
    (hp : ∀ v, (∀ g, v.ownBlock = some g → g < w.heap.size ∧ w0.heap.size ≤ g) → Part enc size w' v u p1) : J n enc size T w0 v0 vd l0 p1 p2 p3 (L.setIfInBounds n.m1 true) (slot (a.put (some n.t1) u)) w' := by
  simp only [farB, List.all_cons, List.all_nil, Bool.and_true, Bool.and_eq_true, bne_iff_ne, ne_eq] at hk hd
  obtain ⟨k1, k2, k3, k4, k5, k6⟩ := hk
  obtain ⟨d1, d2, d3, d4, d5, d6, d7⟩ := hd
  obtain ⟨h1, h2, h3, h4, h5, h6, h7⟩ := h
  refine ⟨h1.trans (hb.mono h1.size), ?_, ?_, ?_, ?_, ?_, ?_⟩
  all_goals simp only [Rel.set_ne k1, Rel.set_ne k2, Rel.set_ne k3, Rel.set_ne k4, Rel.set_ne k5, Rel.set_ne k6, Rel.slot_put ht, Rel.slot_put_ne d1, Rel.slot_put_ne d2, Rel.slot_put_ne d3, Rel.slot_put_ne d4, Rel.slot_put_ne d5, Rel.slot_put_ne d6, Rel.slot_put_ne d7]
  · exact own_on h2 hb
  · exact fun _ _ => hp _ fun g hg => (World.ownsRow.lt h2 g hg).symm
  · exact lit_on hs h4 hb
  · exact lit_on hs h5 hb
  · exact h6
  · exact h7
theorem mk2 (hs : ∀ x, (enc x).length = size) {u : Value} (h : J n enc size T w0 v0 vd l0 p1 p2 p3 L (slot a) w) (hk : farB n.m2 [n.i1, n.i2, n.i3, n.m1, n.m3, n.ia] = true) (hd : farB n.t2 [n.d1, n.d2, n.d3, n.t1, n.t3, n.da, n.dl] = true) (ht : n.t2 < a.tmps.size) (hb : Below w.heap.size w w')
    (hp : ∀ v, (∀ g, v.ownBlock = some g → g < w.heap.size ∧ w0.heap.size ≤ g) → Part enc size w' v u p2) : J n enc size T w0 v0 vd l0 p1 p2 p3 (L.setIfInBounds n.m2 true) (slot (a.put (some n.t2) u)) w' := by
  simp only [farB, List.all_cons, List.all_nil, Bool.and_true, Bool.and_eq_true, bne_iff_ne, ne_eq] at hk hd
  obtain ⟨k1, k2, k3, k4, k5, k6⟩ := hk
  obtain ⟨d1, d2, d3, d4, d5, d6, d7⟩ := hd
  obtain ⟨h1, h2, h3, h4, h5, h6, h7⟩ := h
  refine ⟨h1.trans (hb.mono h1.size), ?_, ?_, ?_, ?_, ?_, ?_⟩
  all_goals simp only [Rel.set_ne k1, Rel.set_ne k2, Rel.set_ne k3, Rel.set_ne k4, Rel.set_ne k5, Rel.set_ne k6, Rel.slot_put ht, Rel.slot_put_ne d1, Rel.slot_put_ne d2, Rel.slot_put_ne d3, Rel.slot_put_ne d4, Rel.slot_put_ne d5, Rel.slot_put_ne d6, Rel.slot_put_ne d7]
  · exact own_on h2 hb
  · exact lit_on hs h3 hb
  · exact fun _ _ => hp _ fun g hg => (World.ownsRow.lt h2 g hg).symm
  · exact lit_on hs h5 hb
  · exact h6
  · exact h7
theorem mk3 (hs : ∀ x, (enc x).length = size) {u : Value} (h : J n enc size T w0 v0 vd l0 p1 p2 p3 L (slot a) w) (hk : farB n.m3 [n.i1, n.i2, n.i3, n.m1, n.m2, n.ia] = true) (hd : farB n.t3 [n.d1, n.d2, n.d3, n.t1, n.t2, n.da, n.dl] = true) (ht : n.t3 < a.tmps.size) (hb : Below w.heap.size w w')
    (hp : ∀ v, (∀ g, v.ownBlock = some g → g < w.heap.size ∧ w0.heap.size ≤ g) → Part enc size w' v u p3) : J n enc size T w0 v0 vd l0 p1 p2 p3 (L.setIfInBounds n.m3 true) (slot (a.put (some n.t3) u)) w' := by
  simp only [farB, List.all_cons, List.all_nil, Bool.and_true, Bool.and_eq_true, bne_iff_ne, ne_eq] at hk hd
  obtain ⟨k1, k2, k3, k4, k5, k6⟩ := hk
  obtain ⟨d1, d2, d3, d4, d5, d6, d7⟩ := hd
  obtain ⟨h1, h2, h3, h4, h5, h6, h7⟩ := h
  refine ⟨h1.trans (hb.mono h1.size), ?_, ?_, ?_, ?_, ?_, ?_⟩
  all_goals simp only [Rel.set_ne k1, Rel.set_ne k2, Rel.set_ne k3, Rel.set_ne k4, Rel.set_ne k5, Rel.set_ne k6, Rel.slot_put ht, Rel.slot_put_ne d1, Rel.slot_put_ne d2, Rel.slot_put_ne d3, Rel.slot_put_ne d4, Rel.slot_put_ne d5, Rel.slot_put_ne d6, Rel.slot_put_ne d7]
  · exact own_on h2 hb
  · exact lit_on hs h3 hb
  · exact lit_on hs h4 hb
  · exact fun _ _ => hp _ fun g hg => (World.ownsRow.lt h2 g hg).symm
  · exact h6
  · exact h7
theorem part_new (hs : ∀ x, (enc x).length = size) (w : World) (p : List α) (A : Array Value) (hA : A.toList = flat enc p) (c : Nat) (v : Value) (hv : ∀ g, v.ownBlock = some g → g < w.heap.size ∧ w0.heap.size ≤ g) : Part enc size (w.alloc (.cells A T)) v (.slice (some ⟨w.heap.size, 0, none⟩) p.length c) p :=
  ⟨_, _, rfl, row_new hs w p A T _ rfl hA, (fun h => by cases h), fun q hq _ => by
    injection hq with hq
    subst hq
    refine ⟨fun e => ?_, by simp⟩
    have h : w.heap.size < w.heap.size := (hv _ e).1
    omega⟩
structure Ty (enc : α → List Value) (size : Nat) (P : Program) (t T : TypeId) (z : Value) (bytes : Nat) : Prop where
  hs : ∀ x, (enc x).length = size
  hz : 0 < size
  one : ∀ x, ∀ u ∈ enc x, u.oneCell' = true
  und : P.underlying t = some (.slice T)
  info : (P.info? T).map (fun i => (i.zero, i.size, i.bytes)) = some (some z, size, bytes)
  zero : z.cells.size = size
variable {P : Program} {t : TypeId} {z : Value} {bytes : Nat}
theorem step (H : Ty enc size P t T z bytes) {v u : Value} {l p : List α} (ho : Owns enc size T w w0.heap.size v l) (hp : Part enc size w v u p) (h63 : l.length + p.length ≤ maxLen) (hby : (l.length + p.length) * bytes ≤ 140737488355328) (hb : w0.heap.size ≤ w.heap.size) (ty : TypeId) :
    ∃ v9 w9, (Builtin.append_ #[t, t] ty #[v, u]).run P w = .ok v9 w9 ∧ Owns enc size T w9 w0.heap.size v9 (l ++ p) ∧ w.grownBy w9 v.ownBlock ∧ (v9.ownBlock = v.ownBlock ∨ v9.ownBlock = some w.heap.size) ∧ Below w0.heap.size w w9 := by
  obtain ⟨ad, c, rfl, hr, hn, _⟩ := hp
  obtain ⟨v9, w9, h1, h2, h3, h4⟩ := Two.run_append_apart (P := P) H.hs H.hz H.one (w := w) t ty T H.und z bytes H.info H.zero w0.heap.size v l ho ad p.length c p rfl hr hn h63 hby hb
  exact ⟨v9, w9, h1, h2, h3, h4, Two.below_grown ho h3 hb⟩
theorem ap1 (H : Ty enc size P t T z bytes) (h : J n enc size T w0 v0 vd l0 p1 p2 p3 L (slot a) w) (hk : farB n.i1 [n.i2, n.i3, n.m1, n.m2, n.m3, n.ia] = true) (hd : farB n.d1 [n.d2, n.d3, n.t1, n.t2, n.t3, n.da] = true) (ht : n.d1 < a.tmps.size) (hi : n.i1 < L.size)
    (f1 : L.getD n.i1 false = false) (f2 : L.getD n.i2 false = false) (f3 : L.getD n.i3 false = false) (g1 : L.getD n.m1 false = true) (ga : L.getD n.ia false = false) (h63 : l0.length + p1.length ≤ maxLen) (hby : (l0.length + p1.length) * bytes ≤ 140737488355328) (ty : TypeId) :
    ∃ v9 w9, (Builtin.append_ #[t, t] ty #[v0, slot a n.t1]).run P w = .ok v9 w9 ∧ J n enc size T w0 v0 vd l0 p1 p2 p3 (L.setIfInBounds n.i1 true) (slot (a.put (some n.d1) v9)) w9 := by
  simp only [farB, List.all_cons, List.all_nil, Bool.and_true, Bool.and_eq_true, bne_iff_ne, ne_eq] at hk hd
  obtain ⟨k1, k2, k3, k4, k5, k6⟩ := hk
  obtain ⟨d1, d2, d3, d4, d5, d6⟩ := hd
  obtain ⟨h1, h2, h3, h4, h5, h6, h7⟩ := h
  rw [f1, f2, f3] at h2 h3 h4 h5
  obtain ⟨v9, w9, e1, e2, e3, e4, e5⟩ := step H h2 (h3 g1 rfl) h63 hby h1.size ty
  refine ⟨v9, w9, e1, h1.trans e5, ?_, ?_, ?_, ?_, ?_, ?_⟩
  all_goals simp only [Rel.set_ne k1, Rel.set_ne k2, Rel.set_ne k3, Rel.set_ne k4, Rel.set_ne k5, Rel.set_ne k6, Rel.set_eq rfl hi, Rel.slot_put ht, Rel.slot_put_ne d1, Rel.slot_put_ne d2, Rel.slot_put_ne d3, Rel.slot_put_ne d4, Rel.slot_put_ne d5, Rel.slot_put_ne d6, f2, f3]
  · exact e2
  · exact fun _ h => by cases h
  · exact fun hc hb => part_grown H.hs (h4 hc hb) e3 e4
  · exact fun hc hb => part_grown H.hs (h5 hc hb) e3 e4
  · exact h6
  · intro h; rw [ga] at h; cases h
theorem ap2 (H : Ty enc size P t T z bytes) (h : J n enc size T w0 v0 vd l0 p1 p2 p3 L (slot a) w) (hk : farB n.i2 [n.i1, n.i3, n.m1, n.m2, n.m3, n.ia] = true) (hd : farB n.d2 [n.d1, n.d3, n.t1, n.t2, n.t3, n.da] = true) (ht : n.d2 < a.tmps.size) (hi : n.i2 < L.size)
    (f1 : L.getD n.i1 false = true) (f2 : L.getD n.i2 false = false) (f3 : L.getD n.i3 false = false) (g1 : L.getD n.m2 false = true) (ga : L.getD n.ia false = false) (h63 : (l0 ++ p1).length + p2.length ≤ maxLen) (hby : ((l0 ++ p1).length + p2.length) * bytes ≤ 140737488355328) (ty : TypeId) :
    ∃ v9 w9, (Builtin.append_ #[t, t] ty #[slot a n.d1, slot a n.t2]).run P w = .ok v9 w9 ∧ J n enc size T w0 v0 vd l0 p1 p2 p3 (L.setIfInBounds n.i2 true) (slot (a.put (some n.d2) v9)) w9 := by
  simp only [farB, List.all_cons, List.all_nil, Bool.and_true, Bool.and_eq_true, bne_iff_ne, ne_eq] at hk hd
  obtain ⟨k1, k2, k3, k4, k5, k6⟩ := hk
  obtain ⟨d1, d2, d3, d4, d5, d6⟩ := hd
  obtain ⟨h1, h2, h3, h4, h5, h6, h7⟩ := h
  rw [f1, f2, f3] at h2 h4 h5
  obtain ⟨v9, w9, e1, e2, e3, e4, e5⟩ := step H h2 (h4 g1 rfl) h63 hby h1.size ty
  refine ⟨v9, w9, e1, h1.trans e5, ?_, ?_, ?_, ?_, ?_, ?_⟩
  all_goals simp only [Rel.set_ne k1, Rel.set_ne k2, Rel.set_ne k3, Rel.set_ne k4, Rel.set_ne k5, Rel.set_ne k6, Rel.set_eq rfl hi, Rel.slot_put ht, Rel.slot_put_ne d1, Rel.slot_put_ne d2, Rel.slot_put_ne d3, Rel.slot_put_ne d4, Rel.slot_put_ne d5, Rel.slot_put_ne d6, f1, f3]
  · exact e2
  · exact fun _ h => by cases h
  · exact fun _ h => by cases h
  · exact fun hc hb => part_grown H.hs (h5 hc hb) e3 e4
  · exact h6
  · intro h; rw [ga] at h; cases h
theorem ap3 (H : Ty enc size P t T z bytes) (h : J n enc size T w0 v0 vd l0 p1 p2 p3 L (slot a) w) (hk : farB n.i3 [n.i1, n.i2, n.m1, n.m2, n.m3, n.ia] = true) (hd : farB n.d3 [n.d1, n.d2, n.t1, n.t2, n.t3, n.da] = true) (ht : n.d3 < a.tmps.size) (hi : n.i3 < L.size)
    (f1 : L.getD n.i1 false = true) (f2 : L.getD n.i2 false = true) (f3 : L.getD n.i3 false = false) (g1 : L.getD n.m3 false = true) (ga : L.getD n.ia false = false) (h63 : (l0 ++ p1 ++ p2).length + p3.length ≤ maxLen) (hby : ((l0 ++ p1 ++ p2).length + p3.length) * bytes ≤ 140737488355328) (ty : TypeId) :
    ∃ v9 w9, (Builtin.append_ #[t, t] ty #[slot a n.d2, slot a n.t3]).run P w = .ok v9 w9 ∧ J n enc size T w0 v0 vd l0 p1 p2 p3 (L.setIfInBounds n.i3 true) (slot (a.put (some n.d3) v9)) w9 := by
  simp only [farB, List.all_cons, List.all_nil, Bool.and_true, Bool.and_eq_true, bne_iff_ne, ne_eq] at hk hd
  obtain ⟨k1, k2, k3, k4, k5, k6⟩ := hk
  obtain ⟨d1, d2, d3, d4, d5, d6⟩ := hd
  obtain ⟨h1, h2, h3, h4, h5, h6, h7⟩ := h
  rw [f1, f2, f3] at h2 h5
  obtain ⟨v9, w9, e1, e2, e3, e4, e5⟩ := step H h2 (h5 g1 rfl) h63 hby h1.size ty
  refine ⟨v9, w9, e1, h1.trans e5, ?_, ?_, ?_, ?_, ?_, ?_⟩
  all_goals simp only [Rel.set_ne k1, Rel.set_ne k2, Rel.set_ne k3, Rel.set_ne k4, Rel.set_ne k5, Rel.set_ne k6, Rel.set_eq rfl hi, Rel.slot_put ht, Rel.slot_put_ne d1, Rel.slot_put_ne d2, Rel.slot_put_ne d3, Rel.slot_put_ne d4, Rel.slot_put_ne d5, Rel.slot_put_ne d6, f1, f2]
  · exact e2
  · exact fun _ h => by cases h
  · exact fun _ h => by cases h
  · exact fun _ h => by cases h
  · exact h6
  · intro h; rw [ga] at h; cases h
theorem asg (h : J n enc size T w0 v0 vd l0 p1 p2 p3 L (slot a) w) (hk : farB n.ia [n.i1, n.i2, n.i3, n.m1, n.m2, n.m3] = true) (hd : farB n.da [n.d1, n.d2, n.d3, n.t1, n.t2, n.t3, n.dl] = true) (ht : n.da < a.tmps.size) (hi : n.ia < L.size) : J n enc size T w0 v0 vd l0 p1 p2 p3 (L.setIfInBounds n.ia true) (slot (a.put (some n.da) (slot a n.dl))) w := by
  simp only [farB, List.all_cons, List.all_nil, Bool.and_true, Bool.and_eq_true, bne_iff_ne, ne_eq] at hk hd
  obtain ⟨k1, k2, k3, k4, k5, k6⟩ := hk
  obtain ⟨d1, d2, d3, d4, d5, d6, d7⟩ := hd
  obtain ⟨h1, h2, h3, h4, h5, h6, h7⟩ := h
  refine ⟨h1, ?_, ?_, ?_, ?_, ?_, ?_⟩
  all_goals simp only [Rel.set_ne k1, Rel.set_ne k2, Rel.set_ne k3, Rel.set_ne k4, Rel.set_ne k5, Rel.set_ne k6, Rel.set_eq rfl hi, Rel.slot_put ht, Rel.slot_put_ne d1, Rel.slot_put_ne d2, Rel.slot_put_ne d3, Rel.slot_put_ne d4, Rel.slot_put_ne d5, Rel.slot_put_ne d6, Rel.slot_put_ne d7]
  · exact h2
  · exact h3
  · exact h4
  · exact h5
  · intro h; cases h
  · intro _; trivial
theorem all_true {k i : Nat} (h : i < k) : (Array.replicate k true).getD i false = true := by simp [h]
theorem end3 {k : Nat} (h : J n enc size T w0 v0 vd l0 p1 p2 p3 (Array.replicate k true) (slot a) w) (hi : n.i3 < k) (ha : n.ia < k) (hl : n.dl = n.d3) : Below w0.heap.size w0 w ∧ Owns enc size T w w0.heap.size (slot a n.da) (l0 ++ p1 ++ p2 ++ p3) := by
  refine ⟨h.below, ?_⟩
  rw [h.new (all_true ha), hl]
  have := h.own
  rw [all_true hi] at this
  exact this
end Go.Proofs.YtjcndgopijpibaaGreat.Nest
/- Appends within one another, of which the innermost list is made in the region itself: append(append(append([]T{}, x..), y..), z..). -/
namespace Go.Proofs.YtjcndgopijpibaaGreat.Nest
open Go.RowKit
open Go.Sort
open Kit
open Rel (slot)
set_option linter.unusedVariables false
variable {α : Type} {enc : α → List Value} {size : Nat} {T : TypeId} {w0 w w' : World} {vd : Value} {p1 p2 p3 : List α}
variable {n : At} {i0 d0 : Nat} {L : Array Bool} {a : Act}
variable {P : Program} {t : TypeId} {z : Value} {bytes : Nat}
end Go.Proofs.YtjcndgopijpibaaGreat.Nest
/- One new element put behind an own list: the arm of a walk. -/
namespace Go.Proofs.YtjcndgopijpibaaGreat.Nest
open Go.RowKit
open Go.Sort
open Kit
set_option linter.unusedVariables false
variable {α : Type} {enc : α → List Value} {size : Nat} {T t : TypeId} {P : Program} {z : Value} {bytes : Nat}
end Go.Proofs.YtjcndgopijpibaaGreat.Nest
