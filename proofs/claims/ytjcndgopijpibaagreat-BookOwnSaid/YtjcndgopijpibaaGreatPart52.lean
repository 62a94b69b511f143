/- Common to the claims of this seat, part 52: texts that were written one by one, laid behind one another. -/
import Derived.Test.YtjcndgopijpibaaGreatPart42
import Derived.Test.YtjcndgopijpibaaGreatPart51
/- Book, the landed: New and Fill. -/
namespace Go.Proofs.YtjcndgopijpibaaGreat.Bok
set_option maxRecDepth 100000
open Go.RowKit
open Go.Sort
open Kit
open Foot
open Tre (Lst inI lst_keep lst_at lst_new lst_none encF encF_len encL_len IntsL goodB)
open Led (Lg encG encG_len)
open Job (Jb Jv Jobs encJ encJ_len encJ_one findI)
open Drw (Dw Draws encD encD_len encD_one)
open Snp (Sn Sv encK encK_len encK_one)
open Ent (Tx Tv)
set_option linter.unusedVariables false
variable {w w' W0 W : World} {B : Nat}
def newSv : Sv := ⟨0, 0, 1, [], [], [], [], [], Snp.Pl.nil, Snp.Pl.nil, Snp.Pl.nil, Snp.Pl.nil, Snp.Pl.nil⟩
theorem newSv_new (w : World) (base : Nat) : NewS w base newSv :=
  ⟨⟨lst_none _ _ _, lst_none _ _ _, lst_none _ _ _, lst_none _ _ _, lst_none _ _ _, fun y hy => by cases hy⟩, newL_none _ _ _ _ _, newL_none _ _ _ _ _, newL_none _ _ _ _ _, newL_none _ _ _ _ _, newL_none _ _ _ _ _, fun y hy => by cases hy⟩
set_option maxHeartbeats 2000000 in
theorem new_any (W : World) : Calls Tryz.prog 8 #[] W fun e W' => ∃ y : Sv, e = .returned (Snp.valV y) ∧ y.t = newS ∧ NewS W' W.heap.size y ∧ Below W.heap.size W W' := by
  go_enter Tryz.func8, Tryz.ntmps8
  go_wp2_with (first | (refine wpList_store_own rfl 29 (.tmp 0) (.tmp 1) rfl W.heap.size (Snp.encV newSv) rfl rfl zS 29 (Arr.blk_new W _ _ zS rfl) info_st rfl rfl ?_; intro wz hblk hCz hsz) | fail)
  refine bodyPost_ret (results_cell_blk rfl _ _ W.heap.size 29 (Snp.encV newSv) _ rfl hblk Tryz.underlying29 rfl info_st) rfl ?_
  exact ⟨newSv, rfl, rfl, newSv_new _ _, (below_alloc W (.cells zS.toArray 29)).trans (chg_below hCz (fun q hq => by omega) (by simp))⟩
theorem newT_typ {base b : Nat} {u : Tv} {T : TypeId} {cs : List Value} (h : NewT w base u) (hC : Chg (fun k => k = b) w w') (hB : Arr.Blk w b T cs) (h1 : T ≠ 3) (h2 : T ≠ 49) : NewT w' base u :=
  have a := newL_typ Tre.encI_len h.a hC (typed_one hB h1)
  have g := newL_typ encG_len h.g hC (typed_one hB h2)
  ⟨⟨a.lst, g.lst, h.inn.key, h.inn.name⟩, a, g⟩
theorem newT_le' {base base' : Nat} {u : Tv} (h : NewT w base u) (hb : base' ≤ base) : NewT w base' u := 
  ⟨h.inn, ⟨h.a.lst, fun q hq => by obtain ⟨h1, h2⟩ := h.a.new q hq; exact ⟨Nat.le_trans hb h1, h2⟩⟩, ⟨h.g.lst, fun q hq => by obtain ⟨h1, h2⟩ := h.g.new q hq; exact ⟨Nat.le_trans hb h1, h2⟩⟩⟩
theorem newT_kp {base : Nat} {u : Tv} (h : NewT w base u) (hb : Below w.heap.size w w') : NewT w' base u := ⟨Ent.in_keep h.inn hb, newL_keep Tre.encI_len h.a hb, newL_keep encG_len h.g hb⟩
set_option maxHeartbeats 4000000 in
theorem fill_any (W : World) (x : Sv) (t : Tv) (hx : x.In W) (hok : x.t.ok) (hm : MayS x.t) (ht : t.In W) (htk : t.t.ok) :
    Calls Tryz.prog 10 #[Snp.valV x, Ent.valV t] W fun e W' => ∃ u : Tv, e = .returned (.tuple #[Ent.valV u, .int .i64 (doE x.t t.t)]) ∧ u.t = doT x.t t.t ∧ NewT W' W.heap.size u ∧ Below W.heap.size W W' := by
  obtain ⟨E, hE⟩ : ∃ E, E = doE x.t t.t := ⟨_, rfl⟩
  rw [← hE]
  have hba : Below W.heap.size W (((W.alloc (.cells (Snp.encV x).toArray 29)).alloc (.cells (Ent.encV t).toArray 34)).alloc (.cells zT.toArray 34)) := below_keep (below_keep (below_alloc _ _) (below_alloc _ _)) (below_alloc _ _)
  obtain ⟨wa, hwa⟩ : ∃ z, z = ((W.alloc (.cells (Snp.encV x).toArray 29)).alloc (.cells (Ent.encV t).toArray 34)).alloc (.cells zT.toArray 34) := ⟨_, rfl⟩
  have hsz : wa.heap.size = W.heap.size + 3 := by rw [hwa]; simp
  have hbh : Arr.Blk wa W.heap.size 29 (Snp.encV x) ∧ Arr.Blk wa (W.heap.size + 1) 34 (Ent.encV t) ∧ Arr.Blk wa (W.heap.size + 1 + 1) 34 zT := by
    rw [hwa]
    exact ⟨Arr.blk_alloc (Arr.blk_alloc (Arr.blk_new _ _ _ _ rfl) _) _, Arr.blk_alloc (Arr.blk_new _ _ _ _ (by simp)) _, Arr.blk_new _ _ _ _ (by simp)⟩
  rw [← hwa] at hba
  have hbe := behind_any wa x t (Snp.in_keep hx hba) hok hm (Ent.in_keep ht hba) htk
  have HBe := Lib.hid hbe
  have HWa := Lib.hid (And.intro hwa (And.intro hsz (And.intro hba hE)))
  have HB0 := Lib.hid hbh
  clear hba hbh hwa hsz hx hok hm ht htk hE hbe
  go_enter Tryz.func10, Tryz.ntmps10
  go_upto_region 1 with fail
  rw [show (((W.alloc (.cells #[.int .i64 x.seq, .int .i64 x.world, .int .i64 x.next, .slice x.f.a x.f.n x.f.c, .slice x.l.a x.l.n x.l.c, .slice x.r.a x.r.n x.r.c, .slice x.j.a x.j.n x.j.c, .slice x.k.a x.k.n x.k.c] 29)).alloc (.cells #[.int .i64 t.t.seq, .int .i64 t.t.time, .int .i64 t.t.kind, .string t.t.key, .string t.t.name, .slice t.a1 t.n1 t.c1, .slice t.a2 t.n2 t.c2] 34)).alloc (.cells #[.int .i64 0, .int .i64 0, .int .i64 0, .string ⟨#[]⟩, .string ⟨#[]⟩, .slice none 0 0, .slice none 0 0] 34)) = wa from HWa.out.1.symm]
  go_wp2_with (first | (refine Arr.wpList_load_blk rfl 29 (.tmp 2) rfl W.heap.size rfl (Snp.encV x) 29 HB0.out.1 _ Tryz.underlying29 rfl info_st ?_) | (refine Arr.wpList_load_blk rfl 34 (.tmp 3) rfl (W.heap.size + 1) rfl (Ent.encV t) 34 HB0.out.2.1 _ Tryz.underlying34 rfl info_tx ?_) | fail)
  refine HBe.out.mono ?_
  rintro e w1 ⟨y, u, rfl, hy, hu, hb1⟩
  have H1 := Lib.hid (And.intro hy (And.intro hu hb1))
  clear hy hu hb1 HBe
  have hT1 : Arr.Blk ((w1.alloc (.cells zS.toArray 29)).alloc (.cells zT.toArray 34)) (w1.heap.size + 1) 34 zT := Arr.blk_new _ _ _ zT (by simp)
  have hS1 : Arr.Blk ((w1.alloc (.cells zS.toArray 29)).alloc (.cells zT.toArray 34)) w1.heap.size 29 zS := Arr.blk_alloc (Arr.blk_new w1 _ _ zS rfl) _
  go_upto_region 2 with (first | (refine wpList_store_own rfl 29 (.tmp 6) (.tmp 13) rfl w1.heap.size (Snp.encV y) rfl rfl zS 29 hS1 info_st rfl rfl ?_; intro w2 hblk2 hC2 hs2) | (refine wpList_store_own rfl 34 (.tmp 7) (.tmp 14) rfl (w1.heap.size + 1) (Ent.encV u) rfl rfl zT 34 (blk_chg hC2 hT1 (by omega)) info_tx rfl rfl ?_; intro w3 hblk3 hC3 hs3) | fail)
  have hb0 : Below w1.heap.size w1 ((w1.alloc (.cells zS.toArray 29)).alloc (.cells zT.toArray 34)) := below_keep (below_alloc _ _) (below_alloc _ _)
  have hb2 := hb0.trans (chg_below hC2 (fun q hq => by omega) (by simp; omega))
  have hb3 := hb2.trans (chg_below hC3 (fun q hq => by omega) hb2.size)
  have hwl : W.heap.size + 1 + 1 < w1.heap.size := by have := H1.out.2.2.size; have := HWa.out.2.1; omega
  have H3 := Lib.hid (show Arr.Blk w3 (w1.heap.size + 1) 34 (Ent.encV u) ∧ Arr.Blk w3 (W.heap.size + 1 + 1) 34 zT ∧ NewT w3 W.heap.size u ∧ Below W.heap.size W w3 ∧ W.heap.size + 1 + 1 < w1.heap.size from ⟨hblk3, Arr.blk_below (Arr.blk_below HB0.out.2.2 H1.out.2.2 (Arr.blk_lt HB0.out.2.2)) hb3 hwl, newT_kp (newT_le' H1.out.2.1.2 (by have := HWa.out.2.1; omega)) hb3, below_keep HWa.out.2.2.1 (below_keep H1.out.2.2 hb3), hwl⟩)
  obtain ⟨B, hB⟩ : ∃ B, B = w1.heap.size := ⟨_, rfl⟩
  clear hT1 hS1 hblk2 hblk3 hC2 hC3 hs2 hs3 hb0 hb2 hb3 hwl
  rw [← hB] at H3 ⊢
  clear hB
  go_wp2_with (first | (refine Arr.wpList_load_blk rfl 34 (.tmp 7) rfl (B + 1) rfl (Ent.encV u) 34 H3.out.1 _ Tryz.underlying34 rfl info_tx ?_) | (refine wpList_store_own rfl 34 (.tmp 4) (.tmp 16) rfl (W.heap.size + 1 + 1) (Ent.encV u) rfl rfl zT 34 H3.out.2.1 info_tx rfl rfl ?_; intro w4 hblk4 hC4 hs4) | fail)
  refine bodyPost_ret (results_cell_row2 rfl _ _ (W.heap.size + 1 + 1) 34 (Ent.encV u) _ rfl hblk4 Tryz.underlying34 rfl info_tx) rfl ?_
  exact ⟨u, by rw [HWa.out.2.2.2]; rfl, H1.out.2.1.1, newT_typ H3.out.2.2.1 hC4 H3.out.2.1 (by decide) (by decide), H3.out.2.2.2.1.trans (chg_below hC4 (fun q hq => by omega) H3.out.2.2.2.1.size)⟩
end Go.Proofs.YtjcndgopijpibaaGreat.Bok
/- Book, the landed: Apply. -/
namespace Go.Proofs.YtjcndgopijpibaaGreat.Bok
set_option maxRecDepth 100000
open Go.RowKit
open Go.Sort
open Kit
open Foot
open Tre (Lst inI lst_keep lst_at lst_new lst_none encF encF_len encL_len IntsL goodB)
open Led (Lg encG encG_len)
open Job (Jb Jv Jobs encJ encJ_len encJ_one findI)
open Drw (Dw Draws encD encD_len encD_one)
open Snp (Sn Sv encK encK_len encK_one)
open Ent (Tx Tv)
set_option linter.unusedVariables false
variable {w w' W0 W : World} {B : Nat}
theorem newS_le' {base base' : Nat} {y : Sv} (h : NewS w base y) (hb : base' ≤ base) : NewS w base' y :=
  have le : ∀ {α : Type} {enc : α → List Value} {size : Nat} {T : TypeId} {a : Option Addr} {n c : Nat} {l : List α}, NewL enc size T w base a n c l → NewL enc size T w base' a n c l := fun h => ⟨h.lst, fun q hq => by obtain ⟨h1, h2⟩ := h.new q hq; exact ⟨Nat.le_trans hb h1, h2⟩⟩
  ⟨h.inn, le h.f, le h.r, le h.k, le h.l, le h.j, fun x hx => le (h.d x hx)⟩
theorem newS_kp {base : Nat} {y : Sv} (h : NewS w base y) (hb : Below w.heap.size w w') : NewS w' base y :=
  ⟨Snp.in_keep h.inn hb, newL_keep encF_len h.f hb, newL_keep Rte.encR_len h.r hb, newL_keep encK_len h.k hb, newL_keep encL_len h.l hb, newL_keep encJ_len h.j hb, fun x hx => newL_keep encD_len (h.d x hx) hb⟩
theorem newS_typ {base b : Nat} {y : Sv} {cs : List Value} (h : NewS w base y) (hC : Chg (fun k => k = b) w w') (hB : Arr.Blk w b 29 cs) : NewS w' base y :=
  have f := newL_typ encF_len h.f hC (typed_one hB (by decide))
  have r := newL_typ Rte.encR_len h.r hC (typed_one hB (by decide))
  have k := newL_typ encK_len h.k hC (typed_one hB (by decide))
  have l := newL_typ encL_len h.l hC (typed_one hB (by decide))
  have j := newL_typ encJ_len h.j hC (typed_one hB (by decide))
  have d := fun x hx => newL_typ encD_len (h.d x hx) hC (typed_one hB (by decide))
  ⟨⟨f.lst, l.lst, r.lst, j.lst, k.lst, fun x hx => (d x hx).lst⟩, f, r, k, l, j, d⟩
theorem tx_same {s : Sn} {t : Tx} (h : doE s t = 0) (h1 : t.seq = (doT s t).seq) (h2 : t.legs = (doT s t).legs) : doT s t = t := by
  rw [doT_ok h] at *
  obtain ⟨a, b, c, d, e, f, g⟩ := t
  simp only at h1 h2
  rw [← h1, ← h2]
theorem app_bad {s : Sn} {t : Tx} (h : doE s t ≠ 0) : applyE s t = doE s t ∧ applyS s t = Snp.zeroS := by
  have e : applyE s t = doE s t := if_pos h
  exact ⟨e, if_neg (by rw [e]; exact h)⟩
theorem app_form {s : Sn} {t : Tx} (h : doE s t = 0) (hn : ¬ (t.seq = (doT s t).seq ∧ t.legs = (doT s t).legs)) : applyE s t = 3 ∧ applyS s t = Snp.zeroS := by
  have e : applyE s t = 3 := by
    unfold applyE
    rw [if_neg (by rw [h]; decide), if_neg (fun hh => hn (by rw [hh]; exact ⟨rfl, rfl⟩))]
  exact ⟨e, if_neg (by rw [e]; decide)⟩
theorem app_ok {s : Sn} {t : Tx} (h : doE s t = 0) (h1 : t.seq = (doT s t).seq) (h2 : t.legs = (doT s t).legs) : applyE s t = 0 ∧ applyS s t = doS s t := by
  have e : applyE s t = 0 := by
    unfold applyE
    rw [if_neg (by rw [h]; decide), if_pos (tx_same h h1 h2)]
  exact ⟨e, if_pos e⟩
set_option maxHeartbeats 4000000 in
theorem apply_any (W : World) (x : Sv) (t : Tv) (hx : x.In W) (hok : x.t.ok) (hm : MayS x.t) (ht : t.In W) (htk : t.t.ok) :
    Calls Tryz.prog 13 #[Snp.valV x, Ent.valV t] W fun e W' => ∃ y : Sv, e = .returned (.tuple #[Snp.valV y, .int .i64 (applyE x.t t.t)]) ∧ y.t = applyS x.t t.t ∧ NewS W' W.heap.size y ∧ Below W.heap.size W W' := by
  obtain ⟨E, hE⟩ : ∃ E, E = doE x.t t.t := ⟨_, rfl⟩
  obtain ⟨EA, hEA⟩ : ∃ EA, EA = applyE x.t t.t := ⟨_, rfl⟩
  obtain ⟨SA, hSA⟩ : ∃ SA, SA = applyS x.t t.t := ⟨_, rfl⟩
  rw [← hEA, ← hSA]
  have HA := Lib.hid (And.intro hEA hSA)
  have hba : Below W.heap.size W (((W.alloc (.cells (Snp.encV x).toArray 29)).alloc (.cells (Ent.encV t).toArray 34)).alloc (.cells zS.toArray 29)) := below_keep (below_keep (below_alloc _ _) (below_alloc _ _)) (below_alloc _ _)
  obtain ⟨wa, hwa⟩ : ∃ z, z = ((W.alloc (.cells (Snp.encV x).toArray 29)).alloc (.cells (Ent.encV t).toArray 34)).alloc (.cells zS.toArray 29) := ⟨_, rfl⟩
  have hsz : wa.heap.size = W.heap.size + 3 := by rw [hwa]; simp
  have hbh : Arr.Blk wa W.heap.size 29 (Snp.encV x) ∧ Arr.Blk wa (W.heap.size + 1) 34 (Ent.encV t) ∧ Arr.Blk wa (W.heap.size + 1 + 1) 29 zS := by
    rw [hwa]
    exact ⟨Arr.blk_alloc (Arr.blk_alloc (Arr.blk_new _ _ _ _ rfl) _) _, Arr.blk_alloc (Arr.blk_new _ _ _ _ (by simp)) _, Arr.blk_new _ _ _ _ (by simp)⟩
  rw [← hwa] at hba
  have hbe := behind_any wa x t (Snp.in_keep hx hba) hok hm (Ent.in_keep ht hba) htk
  have HBe := Lib.hid hbe
  have HWa := Lib.hid (And.intro hwa (And.intro hsz (And.intro hba hE)))
  have HTx := Lib.hid (Ent.in_keep ht hba)
  have HB0 := Lib.hid hbh
  clear hba hbh hwa hsz hx hok hm ht htk hE hbe hEA hSA
  go_enter Tryz.func13, Tryz.ntmps13
  go_upto_region 1 with fail
  rw [show (((W.alloc (.cells #[.int .i64 x.seq, .int .i64 x.world, .int .i64 x.next, .slice x.f.a x.f.n x.f.c, .slice x.l.a x.l.n x.l.c, .slice x.r.a x.r.n x.r.c, .slice x.j.a x.j.n x.j.c, .slice x.k.a x.k.n x.k.c] 29)).alloc (.cells #[.int .i64 t.t.seq, .int .i64 t.t.time, .int .i64 t.t.kind, .string t.t.key, .string t.t.name, .slice t.a1 t.n1 t.c1, .slice t.a2 t.n2 t.c2] 34)).alloc (.cells #[.int .i64 0, .int .i64 0, .int .i64 0, .slice none 0 0, .slice none 0 0, .slice none 0 0, .slice none 0 0, .slice none 0 0] 29)) = wa from HWa.out.1.symm]
  refine Scp.wp_ahead rfl ?_
  go_wp2_with (first | (refine Arr.wpList_load_blk rfl 29 (.tmp 2) rfl W.heap.size rfl (Snp.encV x) 29 HB0.out.1 _ Tryz.underlying29 rfl info_st ?_) | (refine Arr.wpList_load_blk rfl 34 (.tmp 3) rfl (W.heap.size + 1) rfl (Ent.encV t) 34 HB0.out.2.1 _ Tryz.underlying34 rfl info_tx ?_) | fail)
  refine HBe.out.mono ?_
  rintro e w1 ⟨y, u, rfl, hy, hu, hb1⟩
  have H1 := Lib.hid (And.intro hy (And.intro hu hb1))
  clear hy hu hb1 HBe
  have hT1 : Arr.Blk ((w1.alloc (.cells zS.toArray 29)).alloc (.cells zT.toArray 34)) (w1.heap.size + 1) 34 zT := Arr.blk_new _ _ _ zT (by simp)
  have hS1 : Arr.Blk ((w1.alloc (.cells zS.toArray 29)).alloc (.cells zT.toArray 34)) w1.heap.size 29 zS := Arr.blk_alloc (Arr.blk_new w1 _ _ zS rfl) _
  go_upto_region 2 with (first | (refine wpList_store_own rfl 29 (.tmp 6) (.tmp 13) rfl w1.heap.size (Snp.encV y) rfl rfl zS 29 hS1 info_st rfl rfl ?_; intro w2 hblk2 hC2 hs2) | (refine wpList_store_own rfl 34 (.tmp 7) (.tmp 14) rfl (w1.heap.size + 1) (Ent.encV u) rfl rfl zT 34 (blk_chg hC2 hT1 (by omega)) info_tx rfl rfl ?_; intro w3 hblk3 hC3 hs3) | fail)
  have hb0 : Below w1.heap.size w1 ((w1.alloc (.cells zS.toArray 29)).alloc (.cells zT.toArray 34)) := below_keep (below_alloc _ _) (below_alloc _ _)
  have hb2 := hb0.trans (chg_below hC2 (fun q hq => by omega) (by simp; omega))
  have hb3 := hb2.trans (chg_below hC3 (fun q hq => by omega) hb2.size)
  have hwl : W.heap.size + 1 + 1 < w1.heap.size := by have := H1.out.2.2.size; have := HWa.out.2.1; omega
  have H3 := Lib.hid (show (Arr.Blk w3 (w1.heap.size + 1) 34 (Ent.encV u) ∧ Arr.Blk w3 w1.heap.size 29 (Snp.encV y) ∧ Arr.Blk w3 (W.heap.size + 1) 34 (Ent.encV t) ∧ Arr.Blk w3 (W.heap.size + 1 + 1) 29 zS) ∧ (NewT w3 W.heap.size u ∧ NewS w3 W.heap.size y) ∧ t.In w3 ∧ Below W.heap.size W w3 ∧ W.heap.size + 1 + 1 < w1.heap.size from ⟨⟨hblk3, blk_chg hC3 hblk2 (by omega), Arr.blk_below (Arr.blk_below HB0.out.2.1 H1.out.2.2 (Arr.blk_lt HB0.out.2.1)) hb3 (by omega), Arr.blk_below (Arr.blk_below HB0.out.2.2 H1.out.2.2 (Arr.blk_lt HB0.out.2.2)) hb3 hwl⟩, ⟨newT_kp (newT_le' H1.out.2.1.2 (by have := HWa.out.2.1; omega)) hb3, newS_kp (newS_le' H1.out.1.2 (by have := HWa.out.2.1; omega)) hb3⟩, Ent.in_keep (Ent.in_keep HTx.out H1.out.2.2) hb3, below_keep HWa.out.2.2.1 (below_keep H1.out.2.2 hb3), hwl⟩)
  obtain ⟨B, hB⟩ : ∃ B, B = w1.heap.size := ⟨_, rfl⟩
  clear hT1 hS1 hblk2 hblk3 hC2 hC3 hs2 hs3 hb0 hb2 hb3 hwl
  rw [← hB] at H3 ⊢
  clear hB
  rw [← HWa.out.2.2.2]
  by_cases hE0 : E = 0
  rotate_left
  · have HN := Lib.hid (show EA = E ∧ SA = Snp.zeroS by
      have h := app_bad (s := x.t) (t := t.t) (by rw [← HWa.out.2.2.2]; exact hE0)
      exact ⟨by rw [HA.out.1, h.1, HWa.out.2.2.2], by rw [HA.out.2, h.2]⟩)
    have hEb : (E == 0) = false := beq_false_of_ne hE0
    clear hE0
    go_wp2_with fail
    go_step3
    refine ⟨rfl, ?_⟩
    go_wp2_with (first | (refine wpList_store_own rfl 29 (.tmp 4) (.tmp 32) rfl (W.heap.size + 1 + 1) zS rfl rfl zS 29 H3.out.1.2.2.2 info_st rfl rfl ?_; intro wy hby hCy hsy) | fail)
    simp only [Scp.jumps_ret]
    refine bodyPost_ret (results_cell_row2 rfl _ _ (W.heap.size + 1 + 1) 29 zS _ rfl hby Tryz.underlying29 rfl info_st) rfl ?_
    exact ⟨zSv, by rw [HN.out.1]; rfl, by rw [HN.out.2]; rfl, zS_new _ _, H3.out.2.2.2.1.trans (chg_below hCy (fun q hq => by omega) H3.out.2.2.2.1.size)⟩
  have HE0 := Lib.hid (show doE x.t t.t = 0 by rw [← HWa.out.2.2.2]; exact hE0)
  subst hE0
  have c1 : w3.cell? ⟨W.heap.size + 1, 0, none⟩ = some (.int .i64 t.t.seq) := Arr.blk_cell H3.out.1.2.2.1 0
  have c2 : w3.cell? ⟨B + 1, 0, none⟩ = some (.int .i64 u.t.seq) := Arr.blk_cell H3.out.1.1 0
  have c3 : w3.cell? ⟨W.heap.size + 1, 6, none⟩ = some (.slice t.a2 t.n2 t.c2) := Arr.blk_cell H3.out.1.2.2.1 6
  have c4 : w3.cell? ⟨B + 1, 6, none⟩ = some (.slice u.a2 u.n2 u.c2) := Arr.blk_cell H3.out.1.1 6
  by_cases hs : t.t.seq = u.t.seq
  rotate_left
  · have HN := Lib.hid (show EA = 3 ∧ SA = Snp.zeroS by
      have h := app_form HE0.out (fun hh => hs (by rw [H1.out.2.1.1]; exact hh.1))
      exact ⟨by rw [HA.out.1, h.1], by rw [HA.out.2, h.2]⟩)
    have hsb : (t.t.seq != u.t.seq) = true := bne_iff_ne.2 hs
    clear hs
    go_wp2_with fail
    go_step3
    refine ⟨rfl, ?_⟩
    go_wp2_with (first | (refine wpList_store_own rfl 29 (.tmp 4) (.tmp 32) rfl (W.heap.size + 1 + 1) zS rfl rfl zS 29 H3.out.1.2.2.2 info_st rfl rfl ?_; intro wy hby hCy hsy) | fail)
    simp only [Scp.jumps_ret]
    refine bodyPost_ret (results_cell_row2 rfl _ _ (W.heap.size + 1 + 1) 29 zS _ rfl hby Tryz.underlying29 rfl info_st) rfl ?_
    exact ⟨zSv, by rw [HN.out.1]; rfl, by rw [HN.out.2]; rfl, zS_new _ _, H3.out.2.2.2.1.trans (chg_below hCy (fun q hq => by omega) H3.out.2.2.2.1.size)⟩
  have hsb : (t.t.seq != u.t.seq) = false := by rw [hs]; exact bne_self_eq_false _
  by_cases hg : t.t.legs = u.t.legs
  rotate_left
  · have HN := Lib.hid (show EA = 3 ∧ SA = Snp.zeroS by
      have h := app_form HE0.out (fun hh => hg (by rw [H1.out.2.1.1]; exact hh.2))
      exact ⟨by rw [HA.out.1, h.1], by rw [HA.out.2, h.2]⟩)
    have HEq := Lib.hid (equal_any w3 t.a2 u.a2 t.n2 t.c2 u.n2 u.c2 t.t.legs u.t.legs H3.out.2.2.1.legs H3.out.2.1.1.inn.legs false ⟨fun h => absurd h (by decide), fun h => absurd h hg⟩)
    clear hs hg
    go_wp2_with fail
    refine HEq.out.mono ?_
    rintro e w4 ⟨rfl, hb4⟩
    have H4 := Lib.hid (show (Arr.Blk w4 B 29 (Snp.encV y) ∧ True ∧ Arr.Blk w4 (W.heap.size + 1 + 1) 29 zS) ∧ Below W.heap.size W w4 from ⟨⟨Arr.blk_below H3.out.1.2.1 hb4 (Arr.blk_lt H3.out.1.2.1), trivial, Arr.blk_below H3.out.1.2.2.2 hb4 (Arr.blk_lt H3.out.1.2.2.2)⟩, below_keep H3.out.2.2.2.1 hb4⟩)
    clear hb4 c1 c2 c3 c4 HEq
    go_wp2_with fail
    go_step3
    refine ⟨rfl, ?_⟩
    go_wp2_with (first | (refine wpList_store_own rfl 29 (.tmp 4) (.tmp 32) rfl (W.heap.size + 1 + 1) zS rfl rfl zS 29 H4.out.1.2.2 info_st rfl rfl ?_; intro wy hby hCy hsy) | fail)
    simp only [Scp.jumps_ret]
    refine bodyPost_ret (results_cell_row2 rfl _ _ (W.heap.size + 1 + 1) 29 zS _ rfl hby Tryz.underlying29 rfl info_st) rfl ?_
    exact ⟨zSv, by rw [HN.out.1]; rfl, by rw [HN.out.2]; rfl, zS_new _ _, H4.out.2.trans (chg_below hCy (fun q hq => by omega) H4.out.2.size)⟩
  have HN := Lib.hid (show EA = 0 ∧ SA = y.t by
    have h := app_ok HE0.out (by rw [← H1.out.2.1.1]; exact hs) (by rw [← H1.out.2.1.1]; exact hg)
    exact ⟨by rw [HA.out.1, h.1], by rw [HA.out.2, h.2, H1.out.1.1]⟩)
  have HEq := Lib.hid (equal_any w3 t.a2 u.a2 t.n2 t.c2 u.n2 u.c2 t.t.legs u.t.legs H3.out.2.2.1.legs H3.out.2.1.1.inn.legs true ⟨fun _ => hg, fun _ => rfl⟩)
  clear hs hg
  go_wp2_with fail
  refine HEq.out.mono ?_
  rintro e w4 ⟨rfl, hb4⟩
  have H4 := Lib.hid (show (Arr.Blk w4 B 29 (Snp.encV y) ∧ True ∧ Arr.Blk w4 (W.heap.size + 1 + 1) 29 zS) ∧ Below W.heap.size W w4 from ⟨⟨Arr.blk_below H3.out.1.2.1 hb4 (Arr.blk_lt H3.out.1.2.1), trivial, Arr.blk_below H3.out.1.2.2.2 hb4 (Arr.blk_lt H3.out.1.2.2.2)⟩, below_keep H3.out.2.2.2.1 hb4⟩)
  have HY := Lib.hid (newS_kp H3.out.2.1.2 hb4)
  clear hb4 c1 c2 c3 c4 HEq
  go_wp2_with (first | (refine Arr.wpList_load_blk rfl 29 (.tmp 6) rfl B rfl (Snp.encV y) 29 H4.out.1.1 _ Tryz.underlying29 rfl info_st ?_) | (refine wpList_store_own rfl 29 (.tmp 4) (.tmp 31) rfl (W.heap.size + 1 + 1) (Snp.encV y) rfl rfl zS 29 H4.out.1.2.2 info_st rfl rfl ?_; intro wy hby hCy hsy) | fail)
  simp only [Scp.jumps_ret]
  refine bodyPost_ret (results_cell_row2 rfl _ _ (W.heap.size + 1 + 1) 29 (Snp.encV y) _ rfl hby Tryz.underlying29 rfl info_st) rfl ?_
  exact ⟨y, by rw [HN.out.1]; rfl, HN.out.2.symm, newS_typ HY.out hCy H4.out.1.2.2, H4.out.2.trans (chg_below hCy (fun q hq => by omega) H4.out.2.size)⟩
end Go.Proofs.YtjcndgopijpibaaGreat.Bok
/- Book, the landed: what it must do. -/
namespace Go.Proofs.YtjcndgopijpibaaGreat.Bok
theorem book_prog : Prog := ⟨new_any, fun W x t hx hok hm ht htk => fill_any W x t hx hok hm ht htk, fun W x t hx hok hm ht htk => apply_any W x t hx hok hm ht htk⟩
end Go.Proofs.YtjcndgopijpibaaGreat.Bok
