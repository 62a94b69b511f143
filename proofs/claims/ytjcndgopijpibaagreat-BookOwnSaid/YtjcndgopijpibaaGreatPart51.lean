/- Common to the claims of this seat, part 51: texts that were written one by one, laid behind one another. -/
import Derived.Test.YtjcndgopijpibaaGreatPart50
/- Book, the landed: the state behind a transaction: its boxes. -/
namespace Go.Proofs.YtjcndgopijpibaaGreat.Bok
set_option maxRecDepth 100000
open Go.RowKit
open Go.Sort
open Kit
open Foot
open Tre (Lst inI lst_keep lst_at lst_new lst_none encF encF_len encL_len IntsL goodB)
open Led (Lg encG encG_len)
open Job (Jb Jv Jobs encJ encJ_len encJ_one findI)
open Drw (Dw Draws encD encD_len encD_one)
open Go.Proofs.YtjcndgopijpibaaGreat.Ord (ts)
open Snp (Sn Sv encK encK_len encK_one)
set_option linter.unusedVariables false
variable {w w' W0 W : World} {B : Nat}
set_option maxHeartbeats 16000000 in
theorem behind_any (W : World) (x : Sv) (t : Ent.Tv) (hx : x.In W) (hok : x.t.ok) (hm : MayS x.t) (ht : t.In W) (htk : t.t.ok) :
    Calls Tryz.prog 22 #[Snp.valV x, Ent.valV t] W (BehP W x t) := by
  obtain ⟨⟨sq, tm, kd, ky, nm, args, legs⟩, aa, na, cp, ga, gn, gc⟩ := t
  obtain ⟨E, hE⟩ : ∃ E, E = doE x.t ⟨sq, tm, kd, ky, nm, args, legs⟩ := ⟨_, rfl⟩
  obtain ⟨Q, hQ⟩ : ∃ Q, Q = BehP W x ⟨⟨sq, tm, kd, ky, nm, args, legs⟩, aa, na, cp, ga, gn, gc⟩ := ⟨_, rfl⟩
  rw [← hQ]
  have HQd := Lib.hid (And.intro hQ hE)
  have hba : Below W.heap.size W ((((W.alloc (.cells #[.int .i64 x.seq, .int .i64 x.world, .int .i64 x.next, .slice x.f.a x.f.n x.f.c, .slice x.l.a x.l.n x.l.c, .slice x.r.a x.r.n x.r.c, .slice x.j.a x.j.n x.j.c, .slice x.k.a x.k.n x.k.c] 29)).alloc (.cells #[.int .i64 sq, .int .i64 tm, .int .i64 kd, .string ky, .string nm, .slice aa na cp, .slice ga gn gc] 34)).alloc (.cells #[.int .i64 0, .int .i64 0, .int .i64 0, .slice none 0 0, .slice none 0 0, .slice none 0 0, .slice none 0 0, .slice none 0 0] 29)).alloc (.cells #[.int .i64 0, .int .i64 0, .int .i64 0, .string ⟨#[]⟩, .string ⟨#[]⟩, .slice none 0 0, .slice none 0 0] 34)) := below_keep (below_keep (below_keep (below_alloc _ _) (below_alloc _ _)) (below_alloc _ _)) (below_alloc _ _)
  have hbh : Bh W ((((W.alloc (.cells #[.int .i64 x.seq, .int .i64 x.world, .int .i64 x.next, .slice x.f.a x.f.n x.f.c, .slice x.l.a x.l.n x.l.c, .slice x.r.a x.r.n x.r.c, .slice x.j.a x.j.n x.j.c, .slice x.k.a x.k.n x.k.c] 29)).alloc (.cells #[.int .i64 sq, .int .i64 tm, .int .i64 kd, .string ky, .string nm, .slice aa na cp, .slice ga gn gc] 34)).alloc (.cells #[.int .i64 0, .int .i64 0, .int .i64 0, .slice none 0 0, .slice none 0 0, .slice none 0 0, .slice none 0 0, .slice none 0 0] 29)).alloc (.cells #[.int .i64 0, .int .i64 0, .int .i64 0, .string ⟨#[]⟩, .string ⟨#[]⟩, .slice none 0 0, .slice none 0 0] 34)) [.int .i64 x.seq, .int .i64 x.world, .int .i64 x.next, .slice x.f.a x.f.n x.f.c, .slice x.l.a x.l.n x.l.c, .slice x.r.a x.r.n x.r.c, .slice x.j.a x.j.n x.j.c, .slice x.k.a x.k.n x.k.c] [.int .i64 sq, .int .i64 tm, .int .i64 kd, .string ky, .string nm, .slice aa na cp, .slice ga gn gc] := ⟨Arr.blk_alloc (Arr.blk_alloc (Arr.blk_alloc (Arr.blk_new _ _ _ _ rfl) _) _) _, Arr.blk_alloc (Arr.blk_alloc (Arr.blk_new _ _ _ _ (by simp)) _) _, Arr.blk_alloc (Arr.blk_new _ _ _ _ (by simp)) _, Arr.blk_new _ _ _ _ (by simp), hba⟩
  obtain ⟨wa, hwa⟩ : ∃ z, z = (((W.alloc (.cells #[.int .i64 x.seq, .int .i64 x.world, .int .i64 x.next, .slice x.f.a x.f.n x.f.c, .slice x.l.a x.l.n x.l.c, .slice x.r.a x.r.n x.r.c, .slice x.j.a x.j.n x.j.c, .slice x.k.a x.k.n x.k.c] 29)).alloc (.cells #[.int .i64 sq, .int .i64 tm, .int .i64 kd, .string ky, .string nm, .slice aa na cp, .slice ga gn gc] 34)).alloc (.cells #[.int .i64 0, .int .i64 0, .int .i64 0, .slice none 0 0, .slice none 0 0, .slice none 0 0, .slice none 0 0, .slice none 0 0] 29)).alloc (.cells #[.int .i64 0, .int .i64 0, .int .i64 0, .string ⟨#[]⟩, .string ⟨#[]⟩, .slice none 0 0, .slice none 0 0] 34) := ⟨_, rfl⟩
  have hsz : wa.heap.size = W.heap.size + 4 := by rw [hwa]; simp
  rw [← hwa] at hbh
  have HWa := Lib.hid (And.intro hwa hsz)
  have HX := Lib.hid (And.intro hx (And.intro hok (And.intro hm (And.intro ht htk))))
  have HB0 := Lib.hid hbh
  clear hba hbh hwa hsz hx hok hm ht htk hE hQ
  go_enter Tryz.func22, Tryz.ntmps22
  go_upto_region 1 with fail
  rw [show (((W.alloc (.cells #[.int .i64 x.seq, .int .i64 x.world, .int .i64 x.next, .slice x.f.a x.f.n x.f.c, .slice x.l.a x.l.n x.l.c, .slice x.r.a x.r.n x.r.c, .slice x.j.a x.j.n x.j.c, .slice x.k.a x.k.n x.k.c] 29)).alloc (.cells #[.int .i64 sq, .int .i64 tm, .int .i64 kd, .string ky, .string nm, .slice aa na cp, .slice ga gn gc] 34)).alloc (.cells #[.int .i64 0, .int .i64 0, .int .i64 0, .slice none 0 0, .slice none 0 0, .slice none 0 0, .slice none 0 0, .slice none 0 0] 29)).alloc (.cells #[.int .i64 0, .int .i64 0, .int .i64 0, .string ⟨#[]⟩, .string ⟨#[]⟩, .slice none 0 0, .slice none 0 0] 34) = wa from HWa.out.1.symm]
  refine Scp.wp_ahead rfl ?_
  have hxa := Snp.in_keep HX.out.1 HB0.out.below
  have hms := HX.out.2.2.1
  have HCp := Lib.hid (copied_any wa x hxa ⟨hms.1.1, hms.1.2.1, hms.1.2.2.1, by have := hms.1.2.2.2.1; rw [List.length_map] at this; exact this, hms.1.2.2.2.2, fun z hz => (hms.2.2 z.t (List.mem_map.2 ⟨z, hz, rfl⟩)).1.2.2.2.2⟩)
  clear hxa hms
  go_wp2_with (first | (refine Arr.wpList_load_blk rfl 29 (.tmp 2) rfl W.heap.size rfl [.int .i64 x.seq, .int .i64 x.world, .int .i64 x.next, .slice x.f.a x.f.n x.f.c, .slice x.l.a x.l.n x.l.c, .slice x.r.a x.r.n x.r.c, .slice x.j.a x.j.n x.j.c, .slice x.k.a x.k.n x.k.c] 29 HB0.out.bx _ Tryz.underlying29 rfl info_st ?_) | fail)
  refine HCp.out.mono ?_
  rintro e w1 ⟨y1, rfl, hyt, ho1, hd1, hb1⟩
  have H1 := Lib.hid (And.intro hyt (And.intro ho1 (And.intro hd1 hb1)))
  clear hyt ho1 hd1 hb1 HCp
  go_upto_region 2 with (first | (refine wpList_store_own rfl 29 (.tmp 7) (.tmp 11) rfl w1.heap.size (Snp.encV y1) rfl rfl zS 29 (Arr.blk_new w1 _ _ zS rfl) info_st rfl rfl ?_; intro w2 hblk2 hC2 hs2) | fail)
  have hb12 : Below w1.heap.size w1 w2 := (below_alloc w1 (.cells zS.toArray 29)).trans (chg_below hC2 (fun q hq => by omega) (by simp))
  have H2 := Lib.hid (show Cal wa w2 w1.heap.size y1 ∧ Bh W w2 [.int .i64 x.seq, .int .i64 x.world, .int .i64 x.next, .slice x.f.a x.f.n x.f.c, .slice x.l.a x.l.n x.l.c, .slice x.r.a x.r.n x.r.c, .slice x.j.a x.j.n x.j.c, .slice x.k.a x.k.n x.k.c] [.int .i64 sq, .int .i64 tm, .int .i64 kd, .string ky, .string nm, .slice aa na cp, .slice ga gn gc] from ⟨⟨⟨hblk2, (H1.out.2.1.keep (below_alloc w1 (.cells zS.toArray 29))).farS hC2 (Arr.blk_new w1 _ _ zS rfl), H1.out.2.2.2.size⟩, below_keep H1.out.2.2.2 hb12⟩, HB0.out.keep (below_keep H1.out.2.2.2 hb12) (by have := HWa.out.2; omega)⟩)
  obtain ⟨B, hB⟩ : ∃ B, B = w1.heap.size := ⟨_, rfl⟩
  rw [← hB] at H2 ⊢
  clear hblk2 hC2 hs2 hb12 hB
  have hK2 := (Snp.in_keep HX.out.1 H2.out.2.below).keys
  have hA2 := (HX.out.2.2.2.1.args)
  have HMa := Lib.hid (mayAsk_any w2 x.k.a x.k.n x.k.c x.keys hK2 sq tm kd ky nm aa ga na cp gn gc args legs hA2.len)
  have k7 : w2.cell? ⟨W.heap.size, 7, none⟩ = some (.slice x.k.a x.k.n x.k.c) := Arr.blk_cell H2.out.2.bx 7
  obtain ⟨e1, he1⟩ : ∃ e1 : Int, e1 = if formB ⟨sq, tm, kd, ky, nm, args, legs⟩ then 1 else if ky.size ≠ 0 ∧ hasK x.keys ky = true then 6 else 0 := ⟨_, rfl⟩
  rw [← he1] at HMa
  have HE1 := Lib.hid he1
  clear hK2 hA2 he1
  have HB2 := Lib.hid H2.out.2
  go_wp2_with (first | (refine Arr.wpList_load_blk rfl 34 (.tmp 3) rfl (W.heap.size + 1) rfl [.int .i64 sq, .int .i64 tm, .int .i64 kd, .string ky, .string nm, .slice aa na cp, .slice ga gn gc] 34 HB2.out.bt _ Tryz.underlying34 rfl info_tx ?_) | fail)
  refine HMa.out.mono ?_
  rintro e w3 ⟨rfl, hb3⟩
  have H3 := Lib.hid (show Cal wa w3 B y1 ∧ Bh W w3 [.int .i64 x.seq, .int .i64 x.world, .int .i64 x.next, .slice x.f.a x.f.n x.f.c, .slice x.l.a x.l.n x.l.c, .slice x.r.a x.r.n x.r.c, .slice x.j.a x.j.n x.j.c, .slice x.k.a x.k.n x.k.c] [.int .i64 sq, .int .i64 tm, .int .i64 kd, .string ky, .string nm, .slice aa na cp, .slice ga gn gc] from ⟨H2.out.1.keep hb3, H2.out.2.keep hb3 (by have := H2.out.1.below.size; have := HWa.out.2; omega)⟩)
  clear hb3 k7 HMa
  by_cases h1 : e1 = 0
  rotate_left
  · have HNz := Lib.hid (show E ≠ 0 ∧ E = e1 by
      have : E = e1 := by
        rw [HQd.out.2, HE1.out]
        unfold doE
        by_cases hf : formB ⟨sq, tm, kd, ky, nm, args, legs⟩ = true
        · rw [if_pos hf, if_pos hf]
        · rw [if_neg hf, if_neg hf]
          by_cases hk : ky.size ≠ 0 ∧ hasK x.keys ky = true
          · rw [if_pos hk, if_pos hk]
          · exfalso
            rw [HE1.out, if_neg hf, if_neg hk] at h1
            exact h1 rfl
      exact ⟨by rw [this]; exact h1, this⟩)
    have h1b : (e1 == 0) = false := beq_false_of_ne h1
    have HB3 := Lib.hid H3.out.2
    clear h1
    go_wp2_with fail
    go_step3
    refine ⟨rfl, ?_⟩
    go_wp2_with (first | (refine wpList_store_own rfl 29 (.tmp 4) (.tmp 56) rfl (W.heap.size + 1 + 1) zS rfl rfl zS 29 HB3.out.r1 info_st rfl rfl ?_; intro wy hby hCy hsy) | (refine wpList_store_own rfl 34 (.tmp 5) (.tmp 57) rfl (W.heap.size + 1 + 1 + 1) zT rfl rfl zT 34 (blk_chg hCy HB3.out.r2 (by omega)) info_tx rfl rfl ?_; intro wz hbz hCz hsz) | fail)
    simp only [Scp.jumps_ret]
    refine bodyPost_ret (results_two rfl _ _ (W.heap.size + 1 + 1) (W.heap.size + 1 + 1 + 1) 29 34 zS zT _ _ rfl rfl (blk_chg hCz hby (by omega)) hbz Tryz.underlying29 Tryz.underlying34 rfl rfl info_st info_tx) rfl ?_
    rw [HQd.out.1]
    have hnz : doE x.t ⟨sq, tm, kd, ky, nm, args, legs⟩ ≠ 0 := by rw [← HQd.out.2]; exact HNz.out.1
    exact ⟨zSv, zTv, by rw [← HQd.out.2, HNz.out.2]; rfl, ⟨(doS_no hnz).symm, zS_new _ _⟩, ⟨(doT_no hnz).symm, zT_new _ _⟩, HB3.out.below.trans ((chg_below hCy (fun q hq => by omega) HB3.out.below.size).trans (chg_below hCz (fun q hq => by omega) (by rw [hsy]; exact HB3.out.below.size)))⟩
  have HF := Lib.hid (show formB ⟨sq, tm, kd, ky, nm, args, legs⟩ = false ∧ ¬ (ky.size ≠ 0 ∧ hasK x.keys ky = true) by
    have he := HE1.out
    rw [h1] at he
    by_cases hf : formB ⟨sq, tm, kd, ky, nm, args, legs⟩ = true
    · rw [if_pos hf] at he; omega
    · rw [if_neg hf] at he
      by_cases hk : ky.size ≠ 0 ∧ hasK x.keys ky = true
      · rw [if_pos hk] at he; omega
      · exact ⟨by simpa using hf, hk⟩)
  have HE2 := Lib.hid (show E = if kindE x.t ⟨sq, tm, kd, ky, nm, args, legs⟩ ≠ 0 then kindE x.t ⟨sq, tm, kd, ky, nm, args, legs⟩ else if postedE (kindS x.t ⟨sq, tm, kd, ky, nm, args, legs⟩) (kindL x.t ⟨sq, tm, kd, ky, nm, args, legs⟩) ≠ 0 then postedE (kindS x.t ⟨sq, tm, kd, ky, nm, args, legs⟩) (kindL x.t ⟨sq, tm, kd, ky, nm, args, legs⟩) else if 0 ≤ Tre.over (midS x.t ⟨sq, tm, kd, ky, nm, args, legs⟩).funds (midS x.t ⟨sq, tm, kd, ky, nm, args, legs⟩).allocs then 8 else 0 by
    rw [HQd.out.2]
    unfold doE
    rw [if_neg (by rw [HF.out.1]; exact Bool.false_ne_true), if_neg HF.out.2])
  subst h1
  have hfit := fit_of (y := y1) (by rw [H1.out.1]; exact HX.out.2.2.1) (by rw [H1.out.1]; exact HX.out.2.1) H1.out.2.2.1
  have hdo := do_any y1 H3.out.1 hfit sq tm kd ky nm aa ga na cp gn gc args legs HF.out.1 HX.out.2.2.2.2.2.2.2.1 (lst_keep Tre.encI_len HX.out.2.2.2.1.args H3.out.2.below)
  rw [H1.out.1] at hdo
  obtain ⟨KE, hKE⟩ : ∃ q, q = kindE x.t ⟨sq, tm, kd, ky, nm, args, legs⟩ := ⟨_, rfl⟩
  obtain ⟨KS, hKS⟩ : ∃ q, q = kindS x.t ⟨sq, tm, kd, ky, nm, args, legs⟩ := ⟨_, rfl⟩
  obtain ⟨KL, hKL⟩ : ∃ q, q = kindL x.t ⟨sq, tm, kd, ky, nm, args, legs⟩ := ⟨_, rfl⟩
  rw [← hKE, ← hKS, ← hKL] at hdo
  have HK := Lib.hid (And.intro hKE (And.intro hKS hKL))
  have HDo := Lib.hid hdo
  have HB3 := Lib.hid H3.out.2
  clear hdo hfit hKE hKS hKL HE1
  go_wp2_with (first | (refine Arr.wpList_load_blk rfl 34 (.tmp 3) rfl (W.heap.size + 1) rfl [.int .i64 sq, .int .i64 tm, .int .i64 kd, .string ky, .string nm, .slice aa na cp, .slice ga gn gc] 34 HB3.out.bt _ Tryz.underlying34 rfl info_tx ?_) | fail)
  refine HDo.out.mono ?_
  rintro e w4 ⟨y2, la, ln, lc, rfl, hs4, hb4⟩
  have H4 := Lib.hid (And.intro hs4 (And.intro hb4 (HB0.out.keep hb4 (by have := HWa.out.2; omega))))
  clear hs4 hb4 HDo
  by_cases h2 : KE = 0
  rotate_left
  · have HNz := Lib.hid (show E ≠ 0 ∧ E = KE by
      have : E = KE := by rw [HE2.out, ← HK.out.1, if_pos h2]
      exact ⟨by rw [this]; exact h2, this⟩)
    have h2b : (KE == 0) = false := beq_false_of_ne h2
    have HB4 := Lib.hid H4.out.2.2
    clear h2
    go_wp2_with fail
    go_step3
    refine ⟨rfl, ?_⟩
    go_wp2_with (first | (refine wpList_store_own rfl 29 (.tmp 4) (.tmp 56) rfl (W.heap.size + 1 + 1) zS rfl rfl zS 29 HB4.out.r1 info_st rfl rfl ?_; intro wy hby hCy hsy) | (refine wpList_store_own rfl 34 (.tmp 5) (.tmp 57) rfl (W.heap.size + 1 + 1 + 1) zT rfl rfl zT 34 (blk_chg hCy HB4.out.r2 (by omega)) info_tx rfl rfl ?_; intro wz hbz hCz hsz) | fail)
    simp only [Scp.jumps_ret]
    refine bodyPost_ret (results_two rfl _ _ (W.heap.size + 1 + 1) (W.heap.size + 1 + 1 + 1) 29 34 zS zT _ _ rfl rfl (blk_chg hCz hby (by omega)) hbz Tryz.underlying29 Tryz.underlying34 rfl rfl info_st info_tx) rfl ?_
    rw [HQd.out.1]
    have hnz : doE x.t ⟨sq, tm, kd, ky, nm, args, legs⟩ ≠ 0 := by rw [← HQd.out.2]; exact HNz.out.1
    exact ⟨zSv, zTv, by rw [← HQd.out.2, HNz.out.2]; rfl, ⟨(doS_no hnz).symm, zS_new _ _⟩, ⟨(doT_no hnz).symm, zT_new _ _⟩, HB4.out.below.trans ((chg_below hCy (fun q hq => by omega) HB4.out.below.size).trans (chg_below hCz (fun q hq => by omega) (by rw [hsy]; exact HB4.out.below.size)))⟩
  have hkd := kind_kept HF.out.1 (by rw [← HK.out.1]; exact h2) HX.out.2.2.1 HX.out.2.1 HX.out.2.2.2.2
  have hlg := kind_legs HF.out.1 (by rw [← HK.out.1]; exact h2) HX.out.2.2.1 HX.out.2.1 HX.out.2.2.2.2
  rw [← HK.out.2.1] at hkd
  rw [← HK.out.2.2] at hlg
  obtain ⟨hy2, hbo2, hlo2⟩ := H4.out.1 h2
  have hwd : inI x.world := HX.out.2.1.2.1
  have HKd := Lib.hid (And.intro hkd (And.intro hlg (And.intro hy2 (And.intro hbo2 (And.intro hlo2 hwd)))))
  have HE3 := Lib.hid (show E = if postedE KS KL ≠ 0 then postedE KS KL else if 0 ≤ Tre.over (midS x.t ⟨sq, tm, kd, ky, nm, args, legs⟩).funds (midS x.t ⟨sq, tm, kd, ky, nm, args, legs⟩).allocs then 8 else 0 by rw [HE2.out, if_neg (by rw [← HK.out.1]; simpa using h2), ← HK.out.2.1, ← HK.out.2.2])
  subst h2
  have hpo := post_any y2 (W0 := wa) (W := w4) ⟨hbo2, H4.out.2.1⟩ (by have := hkd.l; rw [← hy2] at this; exact this) (by have := hkd.nl; rw [← hy2] at this; exact this) (by have := hkd.world; rw [← hy2] at this; rw [show y2.world = x.world from this]; exact hwd) la ln lc KL hlo2 hlg.1 hlg.2
  rw [hy2] at hpo
  obtain ⟨PE, hPE⟩ : ∃ q, q = postedE KS KL := ⟨_, rfl⟩
  obtain ⟨PS, hPS⟩ : ∃ q, q = posted KS KL := ⟨_, rfl⟩
  rw [← hPE, ← hPS] at hpo
  have HPs := Lib.hid (And.intro hPE hPS)
  have HPo := Lib.hid hpo
  clear hpo hPE hPS hkd hlg hy2 hbo2 hlo2 hwd HE2
  go_wp2_with fail
  refine HPo.out.mono ?_
  rintro e w5 ⟨y3, rfl, hs5, hb5, hl5⟩
  have H5 := Lib.hid (And.intro hs5 (And.intro hb5 (And.intro hl5 (HB0.out.keep hb5 (by have := HWa.out.2; omega)))))
  clear hs5 hb5 hl5 HPo
  by_cases h3 : PE = 0
  rotate_left
  · have HNz := Lib.hid (show E ≠ 0 ∧ E = PE by
      have : E = PE := by rw [HE3.out, ← HPs.out.1, if_pos h3]
      exact ⟨by rw [this]; exact h3, this⟩)
    have h3b : (PE == 0) = false := beq_false_of_ne h3
    have HB5 := Lib.hid H5.out.2.2.2
    clear h3
    go_wp2_with fail
    go_step3
    refine ⟨rfl, ?_⟩
    go_wp2_with (first | (refine wpList_store_own rfl 29 (.tmp 4) (.tmp 56) rfl (W.heap.size + 1 + 1) zS rfl rfl zS 29 HB5.out.r1 info_st rfl rfl ?_; intro wy hby hCy hsy) | (refine wpList_store_own rfl 34 (.tmp 5) (.tmp 57) rfl (W.heap.size + 1 + 1 + 1) zT rfl rfl zT 34 (blk_chg hCy HB5.out.r2 (by omega)) info_tx rfl rfl ?_; intro wz hbz hCz hsz) | fail)
    simp only [Scp.jumps_ret]
    refine bodyPost_ret (results_two rfl _ _ (W.heap.size + 1 + 1) (W.heap.size + 1 + 1 + 1) 29 34 zS zT _ _ rfl rfl (blk_chg hCz hby (by omega)) hbz Tryz.underlying29 Tryz.underlying34 rfl rfl info_st info_tx) rfl ?_
    rw [HQd.out.1]
    have hnz : doE x.t ⟨sq, tm, kd, ky, nm, args, legs⟩ ≠ 0 := by rw [← HQd.out.2]; exact HNz.out.1
    exact ⟨zSv, zTv, by rw [← HQd.out.2, HNz.out.2]; rfl, ⟨(doS_no hnz).symm, zS_new _ _⟩, ⟨(doT_no hnz).symm, zT_new _ _⟩, HB5.out.below.trans ((chg_below hCy (fun q hq => by omega) HB5.out.below.size).trans (chg_below hCz (fun q hq => by omega) (by rw [hsy]; exact HB5.out.below.size)))⟩
  obtain ⟨hy3, hbo3⟩ := H5.out.1 h3
  obtain ⟨m1, m2, m3, m4, m5, m6, m7, m8, m9⟩ := posted_kept HKd.out.1 HKd.out.2.2.2.2.2 (by rw [← HPs.out.1]; exact h3)
  rw [← HPs.out.2] at m1 m2 m3 m4 m5 m6 m7 m8 m9
  have HP3 := Lib.hid (show (y3.t = PS ∧ PS = midS x.t ⟨sq, tm, kd, ky, nm, args, legs⟩) ∧ Bo w5 wa.heap.size B y3 ∧ (y3.keys = x.keys ∧ y3.keys.length ≤ 8) ∧ y3.seq = x.seq ∧ (∀ q ∈ y3.funds, q.ok) ∧ (∀ q ∈ y3.allocs, q.ok) ∧ y3.funds.length ≤ 8 ∧ y3.allocs.length ≤ 16 from ⟨⟨hy3, by rw [HPs.out.2, HK.out.2.1, HK.out.2.2]; rfl⟩, hbo3, by
      have e : y3.keys = x.keys := by
        have : y3.t.keys = x.t.keys := by rw [hy3, m5, HKd.out.1.keys]
        exact this
      exact ⟨e, by rw [e]; exact HX.out.2.2.1.1.2.2.2.2⟩, by
      have : y3.t.seq = x.t.seq := by rw [hy3, m6, HKd.out.1.seq]
      exact this, by
      have : ∀ q ∈ y3.t.funds, q.ok := by rw [hy3, m1]; exact HKd.out.1.f
      exact this, by
      have : ∀ q ∈ y3.t.allocs, q.ok := by rw [hy3]; exact m8
      exact this, by
      have : y3.t.funds.length ≤ 8 := by rw [hy3, m1]; exact HKd.out.1.nf
      exact this, by
      have : y3.t.allocs.length ≤ 16 := by rw [hy3, m7]; exact HKd.out.1.nl
      exact this⟩)
  have HE4 := Lib.hid (show E = if 0 ≤ Tre.over PS.funds PS.allocs then 8 else 0 by rw [HE3.out, if_neg (by rw [← HPs.out.1]; simpa using h3), HP3.out.1.2])
  subst h3
  have p3 : w5.cell? ⟨B, 3, none⟩ = some (.slice y3.f.a y3.f.n y3.f.c) := Arr.blk_cell HP3.out.2.1.b 3
  have p4 : w5.cell? ⟨B, 4, none⟩ = some (.slice y3.l.a y3.l.n y3.l.c) := Arr.blk_cell HP3.out.2.1.b 4
  have hfl := own_lst encF_len HP3.out.2.1.o.f
  have hal := own_lst encL_len HP3.out.2.1.o.l
  have hov := Tre.over_any y3.funds HP3.out.2.2.2.2.1 y3.f.a y3.f.n y3.f.c y3.allocs HP3.out.2.2.2.2.2.1 y3.l.a y3.l.n y3.l.c w5 hfl (by have := hfl.len; have := HP3.out.2.2.2.2.2.2.1; omega) hal (by have := hal.len; have := HP3.out.2.2.2.2.2.2.2; omega)
  obtain ⟨OV, hOV⟩ : ∃ q, q = Tre.over y3.funds y3.allocs := ⟨_, rfl⟩
  rw [← hOV] at hov
  have HOv := Lib.hid hov
  have HE5 := Lib.hid (show E = if 0 ≤ OV then 8 else 0 by rw [HE4.out, hOV, ← HP3.out.1.1])
  clear hov hOV hfl hal HE3 HE4 hy3 hbo3 m1 m2 m3 m4 m5 m6 m7 m8 m9
  go_wp2_with fail
  refine HOv.out.mono ?_
  rintro e w6 ⟨rfl, hb6⟩
  have H6 := Lib.hid (show Bo w6 wa.heap.size B y3 ∧ Below wa.heap.size wa w6 ∧ Owns encG 2 49 w6 wa.heap.size (.slice la ln lc) KL from ⟨HP3.out.2.1.keep hb6, below_keep H5.out.2.1 hb6, Nest.own_on H5.out.2.2.1 hb6⟩)
  have HB6 := Lib.hid (HB0.out.keep H6.out.2.1 (by have := HWa.out.2; omega))
  clear hb6 p3 p4 HOv
  by_cases h4 : 0 ≤ OV
  · have HNz := Lib.hid (show E ≠ 0 ∧ E = 8 by
      have : E = 8 := by rw [HE5.out, if_pos h4]
      exact ⟨by rw [this]; decide, this⟩)
    go_wp2_with fail
    go_step3
    refine ⟨rfl, ?_⟩
    go_wp2_with (first | (refine wpList_store_own rfl 29 (.tmp 4) (.tmp 56) rfl (W.heap.size + 1 + 1) zS rfl rfl zS 29 HB6.out.r1 info_st rfl rfl ?_; intro wy hby hCy hsy) | (refine wpList_store_own rfl 34 (.tmp 5) (.tmp 57) rfl (W.heap.size + 1 + 1 + 1) zT rfl rfl zT 34 (blk_chg hCy HB6.out.r2 (by omega)) info_tx rfl rfl ?_; intro wz hbz hCz hsz) | fail)
    simp only [Scp.jumps_ret]
    refine bodyPost_ret (results_two rfl _ _ (W.heap.size + 1 + 1) (W.heap.size + 1 + 1 + 1) 29 34 zS zT _ _ rfl rfl (blk_chg hCz hby (by omega)) hbz Tryz.underlying29 Tryz.underlying34 rfl rfl info_st info_tx) rfl ?_
    rw [HQd.out.1]
    have hnz : doE x.t ⟨sq, tm, kd, ky, nm, args, legs⟩ ≠ 0 := by rw [← HQd.out.2]; exact HNz.out.1
    exact ⟨zSv, zTv, by rw [← HQd.out.2, HNz.out.2]; rfl, ⟨(doS_no hnz).symm, zS_new _ _⟩, ⟨(doT_no hnz).symm, zT_new _ _⟩, HB6.out.below.trans ((chg_below hCy (fun q hq => by omega) HB6.out.below.size).trans (chg_below hCz (fun q hq => by omega) (by rw [hsy]; exact HB6.out.below.size)))⟩
  have HE0 := Lib.hid (show E = 0 by rw [HE5.out, if_neg h4])
  have p7 : w6.cell? ⟨B, 7, none⟩ = some (.slice y3.k.a y3.k.n y3.k.c) := Arr.blk_cell H6.out.1.b 7
  have k3 : w6.cell? ⟨W.heap.size + 1, 3, none⟩ = some (.string ky) := Arr.blk_cell HB6.out.bt 3
  have HWk := Lib.hid (withKey_any w6 wa.heap.size y3.k.a y3.k.n y3.k.c y3.keys ky H6.out.1.o.k H6.out.2.1.size (by have := (own_lst encK_len H6.out.1.o.k).len; have := HP3.out.2.2.1.2; omega))
  have h4n : ¬ (0 : Int) ≤ OV := h4
  clear h4
  go_wp2_with fail
  refine HWk.out.mono ?_
  rintro e w7 ⟨ka, kn, kc, rfl, hk7, hC7⟩
  obtain ⟨b7, hfin⟩ := fin_key H6.out.1 hC7 hk7
  have r7 : w7.cell? ⟨B, 7, none⟩ = some (.slice y3.k.a y3.k.n y3.k.c) := Arr.blk_cell b7 7
  have s7 : w7.frozen? ⟨B, 7, none⟩ = false := Arr.blk_frozen b7 7
  obtain ⟨y4, hy4⟩ : ∃ q, q = ({ y3 with keys := keysK y3.keys ky, k := ⟨ka, kn, kc⟩ } : Sv) := ⟨_, rfl⟩
  rw [← hy4] at hfin
  have hseq : y4.seq = x.seq := by rw [hy4]; exact HP3.out.2.2.2.1
  have c0 : (w7.setCell ⟨B, 7, none⟩ (.slice ka kn kc)).cell? ⟨B, 0, none⟩ = some (.int .i64 x.seq) := by rw [Arr.blk_cell hfin.blk 0, ← hseq]; rfl
  have f0 : (w7.setCell ⟨B, 7, none⟩ (.slice ka kn kc)).frozen? ⟨B, 0, none⟩ = false := Arr.blk_frozen hfin.blk 0
  obtain ⟨y5, hy5⟩ : ∃ q, q = ({ y4 with seq := x.seq + 1 } : Sv) := ⟨_, rfl⟩
  have hf5 : Fin ((w7.setCell ⟨B, 7, none⟩ (.slice ka kn kc)).setCell ⟨B, 0, none⟩ (.int .i64 (x.seq + 1))) wa.heap.size B y5 := hfin.st 0 _ (by rw [hy5]; rfl) (by rw [hy5]; exact ⟨rfl, rfl, rfl, rfl, rfl, rfl, rfl, rfl, rfl, rfl⟩)
  have hb7 : Below wa.heap.size wa w7 := H6.out.2.1.trans (chg_below hC7 (fun q hq => (World.ownsRow.lt H6.out.1.o.k q hq.symm).1) H6.out.2.1.size)
  have hb8 : Below wa.heap.size wa ((w7.setCell ⟨B, 7, none⟩ (.slice ka kn kc)).setCell ⟨B, 0, none⟩ (.int .i64 (x.seq + 1))) := Arr.below_set (Arr.below_set hb7 H6.out.1.ge 7 _) H6.out.1.ge 0 _
  have hlg8 := own_typed (own_typed (own_typed H6.out.2.2 hC7 (typed_own H6.out.1.o.k (by decide))) (set_chg w7 B 7 (.slice ka kn kc)) (typed_one b7 (by decide))) (set_chg _ B 0 (.int .i64 (x.seq + 1))) (typed_one hfin.blk (by decide))
  obtain ⟨w8, hw8⟩ : ∃ q, q = (w7.setCell ⟨B, 7, none⟩ (.slice ka kn kc)).setCell ⟨B, 0, none⟩ (.int .i64 (x.seq + 1)) := ⟨_, rfl⟩
  rw [← hw8] at hf5 hb8 hlg8
  have H8 := Lib.hid (And.intro hf5 (And.intro hb8 (And.intro hlg8 (HB0.out.keep hb8 (by have := HWa.out.2; omega)))))
  have HT8 := Lib.hid H8.out.2.2.2.bt
  have HQ8 := Lib.hid (show w8.cell? ⟨B, 0, none⟩ = some (.int .i64 (x.seq + 1)) ∧ w8.cell? ⟨W.heap.size + 1, 5, none⟩ = some (.slice aa na cp) from ⟨by rw [Arr.blk_cell hf5.blk 0, hy5]; rfl, Arr.blk_cell HT8.out 5⟩)
  have HW8 := Lib.hid hw8
  have HS5 := Lib.hid (show y5.t = doS x.t ⟨sq, tm, kd, ky, nm, args, legs⟩ ∧ doT x.t ⟨sq, tm, kd, ky, nm, args, legs⟩ = ⟨x.seq + 1, tm, kd, ky, nm, args, KL⟩ by
    have h0 : doE x.t ⟨sq, tm, kd, ky, nm, args, legs⟩ = 0 := by rw [← HQd.out.2]; exact HE0.out
    refine ⟨?_, by rw [doT_ok h0, HK.out.2.2]⟩
    rw [doS_ok h0, ← HP3.out.1.2, ← HP3.out.1.1, hy5, hy4, HP3.out.2.2.1.1])
  have hsq := HX.out.2.2.1.2.1
  have hsq1 : x.seq ≤ 1152921504606846976 := hsq.2.1
  have hsq0 : 0 ≤ x.seq := hsq.1
  have hargs := lst_keep Tre.encI_len HX.out.2.2.2.1.args H8.out.2.2.2.below
  have hn20 : na ≤ 100 := by
    have h1 := form_parts HF.out.1
    have h2 : many kd = (args.length : Int) := h1.2.2.1
    have h3 : many kd ≤ 6 := many_le kd
    have h4 := HX.out.2.2.2.1.args.len
    have h5 : args.length = na := h4
    omega
  have HCl := Lib.hid (fun (w : World) (hb : Below w8.heap.size w8 w) => clone_i w aa na cp args (lst_keep Tre.encI_len hargs hb) hn20)
  clear hk7 hC7 b7 hfin hy4 hseq hy5 hf5 hb7 hb8 hlg8 hw8 hsq hargs hn20 HWk
  go_upto_region 13 with fail
  rw [← HW8.out]
  clear p7 k3 r7 s7 c0 f0 h4n
  refine Chn.wp_region_chain (fun idx => match idx with | 0 => some (.pointer (some ⟨B, 0, none⟩)) | 1 => some (.int .i64 (x.seq + 1)) | 2 => some (.pointer (some ⟨W.heap.size + 1, 5, none⟩)) | 3 => some (.slice aa na cp) | 5 => some (.slice la ln lc) | 6 => some (.pointer (some ⟨W.heap.size + 1, 0, none⟩)) | 8 => some (.pointer (some ⟨W.heap.size + 1, 5, none⟩)) | 10 => some (.pointer (some ⟨W.heap.size + 1, 6, none⟩)) | _ => none) [4, 7, 9, 11] (phiX w8 (W.heap.size + 1) args (x.seq + 1) (.slice la ln lc)) (by kernel_rfl) (by kernel_rfl) (by kernel_rfl) (by kernel_rfl) (by kernel_rfl) (by decide) (by kernel_rfl) (rfl) ?_ ?_
  · refine ⟨?_, ?_, ?_, ?_, ?_, ?_, ?_, ?_, ?_, ?_, ?_, ?_, trivial⟩
    · intro a ww jj vs c hj0 hΦ
      have hj : jj ≤ 1 := Nat.le_trans hj0 (of_decide_eq_true (by kernel_rfl))
      refine .inl ⟨Rel.wanted_free (by kernel_rfl) _, ?_⟩
      exact Chn.wp_fa _ _ _ rfl (c.old 7 (v := .pointer (some ⟨B, 0, none⟩)) (by kernel_rfl) (by kernel_rfl)) (by simp [go_sem]) ⟨rfl, rfl⟩
    · intro a ww jj vs c hj0 hΦ
      have hj : jj ≤ 1 := Nat.le_trans hj0 (of_decide_eq_true (by kernel_rfl))
      refine .inl ⟨Rel.wanted_free (by kernel_rfl) _, ?_⟩
      exact Rel.wp_ld _ _ rfl (c.get 0 45 (by kernel_rfl) rfl) (run_ldI (phiX_cell (by omega) hΦ HQ8.out.1)) ⟨rfl, rfl⟩
    · intro a ww jj vs c hj0 hΦ
      have hj : jj ≤ 0 := Nat.le_trans hj0 (of_decide_eq_true (by kernel_rfl))
      refine .inl ⟨Rel.wanted_free (by kernel_rfl) _, ?_⟩
      exact Chn.wp_fa _ _ _ rfl (c.old 3 (v := .pointer (some ⟨W.heap.size + 1, 0, none⟩)) (by kernel_rfl) (by kernel_rfl)) (by simp [go_sem]) ⟨rfl, rfl⟩
    · intro a ww jj vs c hj0 hΦ
      have hj : jj ≤ 0 := Nat.le_trans hj0 (of_decide_eq_true (by kernel_rfl))
      refine .inl ⟨Rel.wanted_free (by kernel_rfl) _, ?_⟩
      exact Rel.wp_ld _ _ rfl (c.get 2 47 (by kernel_rfl) rfl) (run_ldIs (phiX_cell (by omega) hΦ HQ8.out.2)) ⟨rfl, rfl⟩
    · refine ⟨0, rfl, ?_⟩
      intro a ww c hΦ
      have h : (phiX w8 (W.heap.size + 1) args (x.seq + 1) (.slice la ln lc)) 0 [] ww := hΦ
      clear hΦ
      refine ⟨Rel.wanted_free (by kernel_rfl) _, ?_⟩
      have hw : ww = w8.drew := h
      subst hw
      refine Rel.wp_cl _ _ _ rfl Tryz.func39 (by kernel_rfl) ?_
      show Calls _ _ #[Rel.slot a 48] w8.drew _
      rw [show Rel.slot a 48 = Value.slice aa na cp from (c.get 3 48 (by kernel_rfl) rfl)]
      refine (HCl.out w8.drew (below_drew w8)).mono ?_
      rintro e w' ⟨v, rfl, ho, hb⟩
      obtain ⟨va, vc, rfl, -, -, -, -⟩ := owns_row Tre.encI_len ho
      exact ⟨_, rfl, _, rfl, ⟨va, _, vc, rfl, owns_le ho (below_drew w8).size⟩, below_keep (below_drew w8) hb⟩
    · intro a ww jj vs c hj0 hΦ
      have hj : jj ≤ 3 := Nat.le_trans hj0 (of_decide_eq_true (by kernel_rfl))
      refine .inl ⟨Rel.wanted_free (by kernel_rfl) _, ?_⟩
      exact Rel.wp_mv _ rfl ⟨congrArg (a.put _) (c.old 8 (v := .slice la ln lc) (by kernel_rfl) (by kernel_rfl)), rfl⟩
    · intro a ww jj vs c hj0 hΦ
      have hj : jj ≤ 1 := Nat.le_trans hj0 (of_decide_eq_true (by kernel_rfl))
      refine .inl ⟨Rel.wanted_free (by kernel_rfl) _, ?_⟩
      exact Chn.wp_fa _ _ _ rfl (c.old 3 (v := .pointer (some ⟨W.heap.size + 1, 0, none⟩)) (by kernel_rfl) (by kernel_rfl)) (by simp [go_sem]) ⟨rfl, rfl⟩
    · refine ⟨1, rfl, ?_⟩
      intro a ww c hΦ
      have h : (phiX w8 (W.heap.size + 1) args (x.seq + 1) (.slice la ln lc)) 1 [Rel.slot a 49] ww := hΦ
      clear hΦ
      refine ⟨Rel.wanted_free (by kernel_rfl) _, ?_⟩
      obtain ⟨⟨va, vn, vc, hx, ho⟩, hb⟩ := h
      have hbt := Arr.blk_below HT8.out hb (Arr.blk_lt HT8.out)
      exact Chn.wp_st _ _ _ rfl (c.get 6 51 (by kernel_rfl) rfl) (c.get 1 46 (by kernel_rfl) rfl) (run_stI (u := .int .i64 sq) (by rw [Arr.blk_cell hbt]; rfl) (Arr.blk_frozen hbt 0)) ⟨undef, rfl, ww, ⟨va, vn, vc, hx, ho⟩, hb, rfl⟩
    · intro a ww jj vs c hj0 hΦ
      have hj : jj ≤ 2 := Nat.le_trans hj0 (of_decide_eq_true (by kernel_rfl))
      refine .inl ⟨Rel.wanted_free (by kernel_rfl) _, ?_⟩
      exact Chn.wp_fa _ _ _ rfl (c.old 3 (v := .pointer (some ⟨W.heap.size + 1, 0, none⟩)) (by kernel_rfl) (by kernel_rfl)) (by simp [go_sem]) ⟨rfl, rfl⟩
    · refine ⟨2, rfl, ?_⟩
      intro a ww c hΦ
      have h : (phiX w8 (W.heap.size + 1) args (x.seq + 1) (.slice la ln lc)) 2 [Rel.slot a 49, undef] ww := hΦ
      clear hΦ
      refine ⟨Rel.wanted_free (by kernel_rfl) _, ?_⟩
      obtain ⟨wx, ⟨va, vn, vc, hx, ho⟩, hb, hw⟩ := h
      have hbt := Arr.blk_set (Arr.blk_below HT8.out hb (Arr.blk_lt HT8.out)) 0 (.int .i64 (x.seq + 1))
      rw [← hw] at hbt
      exact Chn.wp_st _ _ _ rfl (c.get 8 52 (by kernel_rfl) rfl) hx (run_stIs (u := .slice aa na cp) (by rw [Arr.blk_cell hbt]; rfl) (Arr.blk_frozen hbt 5)) ⟨undef, rfl, wx, va, vn, vc, ho, hb, by rw [hw]⟩
    · intro a ww jj vs c hj0 hΦ
      have hj : jj ≤ 3 := Nat.le_trans hj0 (of_decide_eq_true (by kernel_rfl))
      refine .inl ⟨Rel.wanted_free (by kernel_rfl) _, ?_⟩
      exact Chn.wp_fa _ _ _ rfl (c.old 3 (v := .pointer (some ⟨W.heap.size + 1, 0, none⟩)) (by kernel_rfl) (by kernel_rfl)) (by simp [go_sem]) ⟨rfl, rfl⟩
    · refine ⟨3, rfl, ?_⟩
      intro a ww c hΦ
      have h : (phiX w8 (W.heap.size + 1) args (x.seq + 1) (.slice la ln lc)) 3 [Rel.slot a 49, undef, undef] ww := hΦ
      clear hΦ
      refine ⟨Rel.wanted_free (by kernel_rfl) _, ?_⟩
      obtain ⟨wx, va, vn, vc, ho, hb, hw⟩ := h
      have hbt := Arr.blk_set (Arr.blk_set (Arr.blk_below HT8.out hb (Arr.blk_lt HT8.out)) 0 (.int .i64 (x.seq + 1))) 5 (.slice va vn vc)
      rw [← hw] at hbt
      exact Chn.wp_st _ _ _ rfl (c.get 10 53 (by kernel_rfl) rfl) (c.get 5 50 (by kernel_rfl) rfl) (run_stGs (u := .slice ga gn gc) (by rw [Arr.blk_cell hbt]; rfl) (Arr.blk_frozen hbt 6)) ⟨undef, rfl, wx, va, vn, vc, ho, hb, by rw [hw]⟩
  intro a w9 hbase hroom hdef hΦ hV
  have h : (phiX w8 (W.heap.size + 1) args (x.seq + 1) (.slice la ln lc)) 4 [Rel.slot a 49, undef, undef, undef] w9 := hΦ
  rw [Chn.act_puts [45, 46, 47, 48, 49, 50, 51, 52, 53] hbase hroom hdef (by kernel_rfl)]
  clear hbase hroom hdef hΦ hV
  simp only [List.foldl_cons, List.foldl_nil]
  generalize Rel.slot a 45 = u45 at *
  generalize Rel.slot a 46 = u46 at *
  generalize Rel.slot a 47 = u47 at *
  generalize Rel.slot a 48 = u48 at *
  generalize Rel.slot a 49 = u49 at *
  generalize Rel.slot a 50 = u50 at *
  generalize Rel.slot a 51 = u51 at *
  generalize Rel.slot a 52 = u52 at *
  generalize Rel.slot a 53 = u53 at *
  obtain ⟨w3, va, vn, vc, ho, hb3, hw9⟩ := h
  have hge : wa.heap.size ≤ B := H2.out.1.bo.ge
  have hlt8 : W.heap.size + 3 < w8.heap.size := by have := H8.out.2.1.size; have := HWa.out.2; omega
  obtain ⟨hf9, hh9, hC9⟩ := boxed3 (u0 := .int .i64 (x.seq + 1)) (u5 := .slice va vn vc) (u6 := .slice la ln lc) H8.out.1 H8.out.2.2.2 hb3 hlt8 (by have := HWa.out.2; omega)
  have ht3 := Arr.blk_below HT8.out hb3 (Arr.blk_lt HT8.out)
  have hl9 := own_typed (Nest.own_on H8.out.2.2.1 hb3) hC9 (typed_one ht3 (by decide))
  have ha9 := own_typed ho hC9 (typed_one ht3 (by decide))
  rw [← hw9] at hf9 hh9 hl9 ha9
  have H9 := Lib.hid (And.intro hf9 (show Bh W w9 _ [.int .i64 (x.seq + 1), .int .i64 tm, .int .i64 kd, .string ky, .string nm, .slice va vn vc, .slice la ln lc] from hh9))
  have HL9 := Lib.hid (And.intro hl9 ha9)
  have HB9 := Lib.hid (show W.heap.size + 4 ≤ B ∧ W.heap.size + 4 ≤ w8.heap.size by have := HWa.out.2; omega)
  clear hf9 hh9 hC9 ht3 hl9 ha9 hw9 ho hb3 hlt8 hge
  go_upto_region 14 with fail
  refine Chn.wp_region_chain (fun idx => match idx with | 0 => some (.agg (Snp.encV y5).toArray) | 1 => some (.agg [.int .i64 (x.seq + 1), .int .i64 tm, .int .i64 kd, .string ky, .string nm, .slice va vn vc, .slice la ln lc].toArray) | _ => none) [2, 3, 4] (phiZ w9 (W.heap.size + 1 + 1) (W.heap.size + 1 + 1 + 1) (Snp.encV y5) [.int .i64 (x.seq + 1), .int .i64 tm, .int .i64 kd, .string ky, .string nm, .slice va vn vc, .slice la ln lc]) (by kernel_rfl) (by kernel_rfl) (by kernel_rfl) (by kernel_rfl) (by kernel_rfl) (by decide) (by kernel_rfl) (rfl) ?_ ?_
  · refine ⟨?_, ?_, ?_, ?_, ?_, trivial⟩
    · intro a ww jj vs c hj0 hΦ
      have hj : jj ≤ 0 := Nat.le_trans hj0 (of_decide_eq_true (by kernel_rfl))
      refine .inl ⟨Rel.wanted_free (by kernel_rfl) _, ?_⟩
      exact Rel.wp_ld _ _ rfl (c.old 7 (v := .pointer (some ⟨B, 0, none⟩)) (by kernel_rfl) (by kernel_rfl)) (run_ld_st (phiZ_blk (by omega) (by have := HB9.out.1; omega) hΦ H9.out.1.blk) rfl) ⟨rfl, rfl⟩
    · intro a ww jj vs c hj0 hΦ
      have hj : jj ≤ 1 := Nat.le_trans hj0 (of_decide_eq_true (by kernel_rfl))
      refine .inl ⟨Rel.wanted_free (by kernel_rfl) _, ?_⟩
      exact Rel.wp_ld _ _ rfl (c.old 3 (v := .pointer (some ⟨W.heap.size + 1, 0, none⟩)) (by kernel_rfl) (by kernel_rfl)) (run_ld_tx (phiZ_blk (by omega) (by omega) hΦ H9.out.2.bt) rfl) ⟨rfl, rfl⟩
    · refine ⟨0, rfl, ?_⟩
      intro a ww c hΦ
      have h : (phiZ w9 (W.heap.size + 1 + 1) (W.heap.size + 1 + 1 + 1) (Snp.encV y5) [.int .i64 (x.seq + 1), .int .i64 tm, .int .i64 kd, .string ky, .string nm, .slice va vn vc, .slice la ln lc]) 0 [] ww := hΦ
      clear hΦ
      refine ⟨Rel.wanted_free (by kernel_rfl) _, ?_⟩
      have hw : ww = w9.drew := h
      subst hw
      exact Chn.wp_st _ _ _ rfl (c.old 4 (v := .pointer (some ⟨W.heap.size + 1 + 1, 0, none⟩)) (by kernel_rfl) (by kernel_rfl)) (c.get 0 54 (by kernel_rfl) rfl) (run_st_st (Arr.blk_below H9.out.2.r1 (below_drew w9) (Arr.blk_lt H9.out.2.r1)) rfl rfl rfl) ⟨undef, rfl, rfl⟩
    · refine ⟨1, rfl, ?_⟩
      intro a ww c hΦ
      have h : (phiZ w9 (W.heap.size + 1 + 1) (W.heap.size + 1 + 1 + 1) (Snp.encV y5) [.int .i64 (x.seq + 1), .int .i64 tm, .int .i64 kd, .string ky, .string nm, .slice va vn vc, .slice la ln lc]) 1 [undef] ww := hΦ
      clear hΦ
      refine ⟨Rel.wanted_free (by kernel_rfl) _, ?_⟩
      have hw := show ww = _ from h
      subst hw
      exact Chn.wp_st _ _ _ rfl (c.old 5 (v := .pointer (some ⟨W.heap.size + 1 + 1 + 1, 0, none⟩)) (by kernel_rfl) (by kernel_rfl)) (c.get 1 55 (by kernel_rfl) rfl) (run_st_tx (Arr.blk_row_far (Arr.blk_below H9.out.2.r2 (below_drew w9) (Arr.blk_lt H9.out.2.r2)) (by omega) _) rfl rfl rfl) ⟨undef, rfl, rfl⟩
    · refine ⟨2, rfl, ?_⟩
      intro a ww c hΦ
      have h : (phiZ w9 (W.heap.size + 1 + 1) (W.heap.size + 1 + 1 + 1) (Snp.encV y5) [.int .i64 (x.seq + 1), .int .i64 tm, .int .i64 kd, .string ky, .string nm, .slice va vn vc, .slice la ln lc]) 2 [undef, undef] ww := hΦ
      clear hΦ
      refine ⟨Rel.wanted_free (by kernel_rfl) _, ?_⟩
      exact Rel.wp_as _ rfl ⟨_, rfl, rfl, h⟩
  intro a w10 hbase hroom hdef hΦ hV
  have h : (phiZ w9 (W.heap.size + 1 + 1) (W.heap.size + 1 + 1 + 1) (Snp.encV y5) [.int .i64 (x.seq + 1), .int .i64 tm, .int .i64 kd, .string ky, .string nm, .slice va vn vc, .slice la ln lc]) 3 [undef, undef, Rel.slot a 6] w10 := hΦ
  rw [Chn.act_puts [54, 55, 6] hbase hroom hdef (by kernel_rfl)]
  clear hbase hroom hdef hΦ hV
  simp only [List.foldl_cons, List.foldl_nil]
  generalize Rel.slot a 54 = u54 at *
  generalize Rel.slot a 55 = u55 at *
  generalize Rel.slot a 6 = u6 at *
  obtain ⟨h6, hw10⟩ := show u6 = .int .i64 0 ∧ w10 = (w9.drew.setRow (W.heap.size + 1 + 1) (Snp.encV y5).toArray).setRow (W.heap.size + 1 + 1 + 1) [.int .i64 (x.seq + 1), .int .i64 tm, .int .i64 kd, .string ky, .string nm, .slice va vn vc, .slice la ln lc].toArray from h
  clear h
  have hz := boxedZ (c1 := Snp.encV y5) (c2 := [.int .i64 (x.seq + 1), .int .i64 tm, .int .i64 kd, .string ky, .string nm, .slice va vn vc, .slice la ln lc]) H9.out.1 H9.out.2 HB9.out.1 HL9.out.1 HL9.out.2
  rw [← hw10] at hz
  have HZ := Lib.hid hz
  clear hz hw10
  subst h6
  go_wp2_with fail
  simp only [Scp.jumps_ret]
  refine bodyPost_ret (results_two3 rfl _ _ (W.heap.size + 1 + 1) (W.heap.size + 1 + 1 + 1) 29 34 (Snp.encV y5) [.int .i64 (x.seq + 1), .int .i64 tm, .int .i64 kd, .string ky, .string nm, .slice va vn vc, .slice la ln lc] (.int .i64 0) _ _ (by kernel_rfl) (by kernel_rfl) (by kernel_rfl) HZ.out.2.1 HZ.out.2.2.1 Tryz.underlying29 Tryz.underlying34 rfl rfl info_st info_tx) rfl ?_
  rw [HQd.out.1]
  have h0 : doE x.t ⟨sq, tm, kd, ky, nm, args, legs⟩ = 0 := by rw [← HQd.out.2]; exact HE0.out
  have hW4 := HWa.out.2
  refine ⟨y5, ⟨⟨x.seq + 1, tm, kd, ky, nm, args, KL⟩, va, vn, vc, la, ln, lc⟩, by rw [h0]; rfl, ⟨HS5.out.1, fin_new HZ.out.1 (by omega)⟩, ⟨HS5.out.2.symm, ?_⟩, HZ.out.2.2.2.1⟩
  have le : ∀ {α : Type} {enc : α → List Value} {size b : Nat} {T : TypeId} {a : Option Addr} {n c : Nat} {l : List α}, W.heap.size ≤ b → NewL enc size T w10 b a n c l → NewL enc size T w10 W.heap.size a n c l := fun hb h => ⟨h.lst, fun q hq => by obtain ⟨h1, h2⟩ := h.new q hq; exact ⟨Nat.le_trans hb h1, h2⟩⟩
  have g := le (by omega) (newL_own encG_len HZ.out.2.2.2.2.1)
  have a := le (by have := HB9.out.2; omega) (newL_own Tre.encI_len HZ.out.2.2.2.2.2)
  exact ⟨⟨a.lst, g.lst, HX.out.2.2.2.1.key, HX.out.2.2.2.1.name⟩, a, g⟩
end Go.Proofs.YtjcndgopijpibaaGreat.Bok
