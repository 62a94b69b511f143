/- Common to the claims of this seat, part 26: texts that were written one by one, laid behind one another. -/
import Derived.Test.YtjcndgopijpibaaGreatPart10
/- Book: BookOnce, over any book that does as it should. -/
namespace Go.Proofs.YtjcndgopijpibaaGreat.Bok
set_option maxRecDepth 100000
open Go.RowKit
open Go.Sort
open Kit
open Foot
open Tre (lst_keep)
open Ent (Tx Tv)
open Snp (Sn Sv)
set_option linter.unusedVariables false
variable {w w' : World}
theorem size_ne {k : ByteArray} (h : ¬ k.toList = []) : k.size ≠ 0 := fun e => h (by
  obtain rfl : k = ⟨#[]⟩ := ByteArray.ext (Array.eq_empty_of_size_eq_zero e)
  kernel_rfl)
set_option maxHeartbeats 16000000 in
theorem once_any (hP : Prog) (W : World) (ab : Option Addr) (n cc : Nat) (l : List Tv) (h : Txs W ab n cc l) (hin : ∀ t ∈ l, t.In W) (hok : ∀ t ∈ l, t.t.ok) (x : Tv) (hx : x.In W) (hxo : x.t.ok) :
    Calls Tryz.prog 5 #[.slice ab n cc, Ent.valV x] W fun e W' => e = .returned (.bool true) ∧ Below W.heap.size W W' := by
  have HP := Lib.hid hP
  have HX := Lib.hid hxo
  have hbs := Arr.blk_new W W.heap.size 34 (Ent.encV x) rfl
  have hba := below_alloc W (.cells (Ent.encV x).toArray 34)
  obtain ⟨b1, hB⟩ : ∃ zz, zz = W.heap.size := ⟨_, rfl⟩
  obtain ⟨w1, hw⟩ : ∃ zz, zz = W.alloc (.cells (Ent.encV x).toArray 34) := ⟨_, rfl⟩
  rw [← hw, ← hB] at hbs
  rw [← hw] at hba
  have HW1 := Lib.hid (And.intro (show w1 = W.alloc (.cells (cT x) 34) from hw) hB)
  clear hB hw
  have HL := Lib.hid (show Calls Tryz.prog 18 #[.slice ab n cc, .int .i64 30] w1 fun e W' => ∃ y : Sv, e = .returned (Snp.valV y) ∧ y.t = playS ((l.map (·.t)).take 30) ∧ Inv 30 y.t ∧ NewS W' w1.heap.size y ∧ Below w1.heap.size w1 W' from
    plays_any hP w1 ab n cc l (lst_keep encT_len h hba) (fun t ht => Ent.in_keep (hin t ht) hba) hok 30 (by omega))
  have H1 := Lib.hid (And.intro hbs (And.intro (Ent.in_keep hx hba) hba))
  clear hP h hin hok hx hxo hbs hba
  go_enter Tryz.func5, Tryz.ntmps5
  go_upto_region 1 with fail
  rw [show W.alloc (.cells (cT x) 34) = w1 from HW1.out.1.symm, ← HW1.out.2]
  clear HW1
  go_wp2_with fail
  refine HL.out.mono ?_
  rintro e w2 ⟨y, rfl, -, hinv, hny, hb⟩
  have hbs := Arr.blk_new w2 w2.heap.size 29 (Snp.encV y) rfl
  have hba := below_alloc w2 (.cells (Snp.encV y).toArray 29)
  obtain ⟨b3, hB⟩ : ∃ zz, zz = w2.heap.size := ⟨_, rfl⟩
  obtain ⟨w3, hw⟩ : ∃ zz, zz = w2.alloc (.cells (Snp.encV y).toArray 29) := ⟨_, rfl⟩
  rw [← hw, ← hB] at hbs
  rw [← hw] at hba
  have HW3 := Lib.hid (And.intro (show w3 = w2.alloc (.cells (cS y) 29) from hw) hB)
  clear hB hw
  have hb13 := below_keep hb hba
  have H3 := Lib.hid (And.intro hbs (And.intro (newS_keep hny hba).inn (And.intro hinv (And.intro (Arr.blk_below H1.out.1 hb13 (Arr.blk_lt H1.out.1)) (below_keep H1.out.2.2 hb13)))))
  have HS := Lib.hid (small_any w3 x (Ent.in_keep H1.out.2.1 hb13))
  clear hbs hba hb13 hinv hny hb HL
  go_upto_region 2 with fail
  rw [show w2.alloc (.cells (cS y) 29) = w3 from HW3.out.1.symm, ← HW3.out.2]
  clear HW3
  go_wp2_with (first | (refine Arr.wpList_load_blk rfl 34 (.tmp 3) rfl b1 rfl (Ent.encV x) 34 H3.out.2.2.2.1 _ Tryz.underlying34 rfl info_tx7 ?_) | fail)
  refine HS.out.mono ?_
  rintro e w4 ⟨u, rfl, hu, hui, hb⟩
  have hbs := Arr.blk_new w4 w4.heap.size 34 (Ent.encV u) rfl
  have hba := below_alloc w4 (.cells (Ent.encV u).toArray 34)
  obtain ⟨b5, hB⟩ : ∃ zz, zz = w4.heap.size := ⟨_, rfl⟩
  obtain ⟨w5, hw⟩ : ∃ zz, zz = w4.alloc (.cells (Ent.encV u).toArray 34) := ⟨_, rfl⟩
  rw [← hw, ← hB] at hbs
  rw [← hw] at hba
  have HW5 := Lib.hid (And.intro (show w5 = w4.alloc (.cells (cT u) 34) from hw) hB)
  clear hB hw
  have hb35 := below_keep hb hba
  obtain ⟨s, hs⟩ : ∃ x, x = y.t := ⟨_, rfl⟩
  obtain ⟨t, ht⟩ : ∃ x, x = u.t := ⟨_, rfl⟩
  obtain ⟨e0, he0⟩ : ∃ x, x = doE s t := ⟨_, rfl⟩
  have H5 := Lib.hid (And.intro hbs (And.intro (Arr.blk_below H3.out.1 hb35 (Arr.blk_lt H3.out.1)) (And.intro (Snp.in_keep H3.out.2.1 hb35) (And.intro (Ent.in_keep hui hba) (below_keep H3.out.2.2.2.2 hb35)))))
  have hto : t.ok := by rw [ht, hu]; exact small_ok HX.out
  have hsi := H3.out.2.2.1
  rw [← hs] at hsi
  have HE := Lib.hid (And.intro hs (And.intro ht (And.intro he0 (And.intro hsi hto))))
  have HF := Lib.hid (show Calls Tryz.prog 10 #[Snp.valV y, Ent.valV u] w5 fun e W' => ∃ v : Tv, e = .returned (.tuple #[Ent.valV v, .int .i64 e0]) ∧ v.t = doT s t ∧ NewT W' w5.heap.size v ∧ Below w5.heap.size w5 W' from by
    have h := HP.out.fill w5 y u H5.out.2.2.1 (by rw [← hs]; exact hsi.2.1) (by rw [← hs]; exact hsi.1) H5.out.2.2.2.1 (by rw [← ht]; exact hto)
    rw [← hs, ← ht, ← he0] at h
    exact h)
  clear hbs hba hb35 hu hui hb HS hs ht he0 hto hsi
  go_upto_region 3 with fail
  rw [show w4.alloc (.cells (cT u) 34) = w5 from HW5.out.1.symm, ← HW5.out.2]
  clear HW5
  go_wp2_with (first | (refine Arr.wpList_load_blk rfl 29 (.tmp 5) rfl b3 rfl (Snp.encV y) 29 H5.out.2.1 _ Tryz.underlying29 rfl info_st ?_) | (refine Arr.wpList_load_blk rfl 34 (.tmp 6) rfl b5 rfl (Ent.encV u) 34 H5.out.1 _ Tryz.underlying34 rfl info_tx7 ?_) | fail)
  refine HF.out.mono ?_
  rintro e w6 ⟨v, rfl, hv, hnv, hb⟩
  have hbs := Arr.blk_new w6 w6.heap.size 34 (Ent.encV v) rfl
  have hba := below_alloc w6 (.cells (Ent.encV v).toArray 34)
  obtain ⟨b7, hB⟩ : ∃ zz, zz = w6.heap.size := ⟨_, rfl⟩
  obtain ⟨w7, hw⟩ : ∃ zz, zz = w6.alloc (.cells (Ent.encV v).toArray 34) := ⟨_, rfl⟩
  rw [← hw, ← hB] at hbs
  rw [← hw] at hba
  have HW7 := Lib.hid (And.intro (show w7 = w6.alloc (.cells (cT v) 34) from hw) hB)
  clear hB hw
  have hb57 := below_keep hb hba
  have H7 := Lib.hid (And.intro hbs (And.intro (Arr.blk_below H5.out.2.1 hb57 (Arr.blk_lt H5.out.2.1)) (And.intro (Arr.blk_below H5.out.1 hb57 (Arr.blk_lt H5.out.1)) (And.intro (Snp.in_keep H5.out.2.2.1 hb57) (And.intro (Ent.in_keep H5.out.2.2.2.1 hb57) (And.intro (newT_keep hnv hba).inn (And.intro hv (below_keep H5.out.2.2.2.2 hb57))))))))
  clear hbs hba hb57 hv hnv hb HF
  by_cases he : e0 = 0
  · subst he
    have hd0 : doE s t = 0 := HE.out.2.2.1.symm
    have HD := Lib.hid hd0
    have HA := Lib.hid (show Calls Tryz.prog 13 #[Snp.valV y, Ent.valV v] w7 fun e W' => ∃ z : Sv, e = .returned (.tuple #[Snp.valV z, .int .i64 0]) ∧ z.t = doS s t ∧ NewS W' w7.heap.size z ∧ Below w7.heap.size w7 W' from by
      have hi := HE.out.2.2.2.1
      have h := HP.out.apply w7 y v H7.out.2.2.2.1 (by rw [← HE.out.1]; exact hi.2.1) (by rw [← HE.out.1]; exact hi.1) H7.out.2.2.2.2.2.1 (by rw [H7.out.2.2.2.2.2.2.1]; exact filled_ok hi.1 hi.2.1 HE.out.2.2.2.2)
      rw [H7.out.2.2.2.2.2.2.1, ← HE.out.1, (apply_filled hd0).1, (apply_filled hd0).2] at h
      exact h)
    clear hd0
    go_upto_region 6 with fail
    rw [show w6.alloc (.cells (cT v) 34) = w7 from HW7.out.1.symm, ← HW7.out.2]
    clear HW7
    go_wp2_with (first | (refine Arr.wpList_load_blk rfl 29 (.tmp 5) rfl b3 rfl (Snp.encV y) 29 H7.out.2.1 _ Tryz.underlying29 rfl info_st ?_) | (refine Arr.wpList_load_blk rfl 34 (.tmp 7) rfl b7 rfl (Ent.encV v) 34 H7.out.1 _ Tryz.underlying34 rfl info_tx7 ?_) | fail)
    refine HA.out.mono ?_
    rintro e w8 ⟨z, rfl, hz, hnz, hb⟩
    have hbs := Arr.blk_new w8 w8.heap.size 29 (Snp.encV z) rfl
    have hba := below_alloc w8 (.cells (Snp.encV z).toArray 29)
    obtain ⟨b9, hB⟩ : ∃ zz, zz = w8.heap.size := ⟨_, rfl⟩
    obtain ⟨w9, hw⟩ : ∃ zz, zz = w8.alloc (.cells (Snp.encV z).toArray 29) := ⟨_, rfl⟩
    rw [← hw, ← hB] at hbs
    rw [← hw] at hba
    have HW9 := Lib.hid (And.intro (show w9 = w8.alloc (.cells (cS z) 29) from hw) hB)
    clear hB hw
    have hb79 := below_keep hb hba
    have H9 := Lib.hid (And.intro hbs (And.intro (Arr.blk_below H7.out.1 hb79 (Arr.blk_lt H7.out.1)) (And.intro (Arr.blk_below H7.out.2.2.1 hb79 (Arr.blk_lt H7.out.2.2.1)) (And.intro (newS_keep hnz hba).inn (And.intro (Ent.in_keep H7.out.2.2.2.2.1 hb79) (And.intro (Ent.in_keep H7.out.2.2.2.2.2.1 hb79) (And.intro hz (below_keep H7.out.2.2.2.2.2.2.2 hb79))))))))
    obtain ⟨g0, hg0⟩ : ∃ x, x = applyE (doS s t) (doT s t) := ⟨_, rfl⟩
    obtain ⟨f0, hf0⟩ : ∃ x, x = doE (doS s t) t := ⟨_, rfl⟩
    have HI := Lib.hid (And.intro (inv_do HE.out.2.2.2.1 (by omega) HE.out.2.2.2.2 HD.out) (And.intro hg0 hf0))
    have HA2 := Lib.hid (show Calls Tryz.prog 13 #[Snp.valV z, Ent.valV v] w9 fun e W' => ∃ z : Sv, e = .returned (.tuple #[Snp.valV z, .int .i64 g0]) ∧ z.t = applyS (doS s t) (doT s t) ∧ NewS W' w9.heap.size z ∧ Below w9.heap.size w9 W' from by
      have hi := HI.out.1
      have h := HP.out.apply w9 z v H9.out.2.2.2.1 (by rw [H9.out.2.2.2.2.2.2.1]; exact hi.2.1) (by rw [H9.out.2.2.2.2.2.2.1]; exact hi.1) H9.out.2.2.2.2.2.1 (by rw [H7.out.2.2.2.2.2.2.1]; exact filled_ok HE.out.2.2.2.1.1 HE.out.2.2.2.1.2.1 HE.out.2.2.2.2)
      rw [H7.out.2.2.2.2.2.2.1, H9.out.2.2.2.2.2.2.1, ← hg0] at h
      exact h)
    clear hbs hba hb79 hz hnz hb HA hg0 hf0
    go_upto_region 9 with fail
    rw [show w8.alloc (.cells (cS z) 29) = w9 from HW9.out.1.symm, ← HW9.out.2]
    clear HW9
    go_wp2_with (first | (refine Arr.wpList_load_blk rfl 29 (.tmp 9) rfl b9 rfl (Snp.encV z) 29 H9.out.1 _ Tryz.underlying29 rfl info_st ?_) | (refine Arr.wpList_load_blk rfl 34 (.tmp 7) rfl b7 rfl (Ent.encV v) 34 H9.out.2.1 _ Tryz.underlying34 rfl info_tx7 ?_) | fail)
    refine HA2.out.mono ?_
    rintro e wa ⟨z2, rfl, -, -, hb⟩
    have hbs := Arr.blk_new wa wa.heap.size 29 (Snp.encV z2) rfl
    have hba := below_alloc wa (.cells (Snp.encV z2).toArray 29)
    obtain ⟨bb, hB⟩ : ∃ zz, zz = wa.heap.size := ⟨_, rfl⟩
    obtain ⟨wb, hw⟩ : ∃ zz, zz = wa.alloc (.cells (Snp.encV z2).toArray 29) := ⟨_, rfl⟩
    rw [← hw, ← hB] at hbs
    rw [← hw] at hba
    have HWb := Lib.hid (And.intro (show wb = wa.alloc (.cells (cS z2) 29) from hw) hB)
    clear hB hw
    have hb9b := below_keep hb hba
    have Hb := Lib.hid (And.intro (Arr.blk_below H9.out.1 hb9b (Arr.blk_lt H9.out.1)) (And.intro (Arr.blk_below H9.out.2.2.1 hb9b (Arr.blk_lt H9.out.2.2.1)) (And.intro (Snp.in_keep H9.out.2.2.2.1 hb9b) (And.intro (Ent.in_keep H9.out.2.2.2.2.1 hb9b) (below_keep H9.out.2.2.2.2.2.2.2 hb9b)))))
    have HF2 := Lib.hid (show Calls Tryz.prog 10 #[Snp.valV z, Ent.valV u] wb fun e W' => ∃ v : Tv, e = .returned (.tuple #[Ent.valV v, .int .i64 f0]) ∧ v.t = doT (doS s t) t ∧ NewT W' wb.heap.size v ∧ Below wb.heap.size wb W' from by
      have hi := HI.out.1
      have h := HP.out.fill wb z u Hb.out.2.2.1 (by rw [H9.out.2.2.2.2.2.2.1]; exact hi.2.1) (by rw [H9.out.2.2.2.2.2.2.1]; exact hi.1) Hb.out.2.2.2.1 (by rw [← HE.out.2.1]; exact HE.out.2.2.2.2)
      rw [← HE.out.2.1, H9.out.2.2.2.2.2.2.1, ← HI.out.2.2] at h
      exact h)
    clear hbs hba hb9b hb HA2
    go_upto_region 10 with fail
    rw [show wa.alloc (.cells (cS z2) 29) = wb from HWb.out.1.symm]
    clear HWb
    go_wp2_with (first | (refine Arr.wpList_load_blk rfl 29 (.tmp 9) rfl b9 rfl (Snp.encV z) 29 Hb.out.1 _ Tryz.underlying29 rfl info_st ?_) | (refine Arr.wpList_load_blk rfl 34 (.tmp 6) rfl b5 rfl (Ent.encV u) 34 Hb.out.2.1 _ Tryz.underlying34 rfl info_tx7 ?_) | fail)
    refine HF2.out.mono ?_
    rintro e wc ⟨v2, rfl, -, -, hb⟩
    have hbs := Arr.blk_new wc wc.heap.size 34 (Ent.encV v2) rfl
    have hba := below_alloc wc (.cells (Ent.encV v2).toArray 34)
    obtain ⟨bd, hB⟩ : ∃ zz, zz = wc.heap.size := ⟨_, rfl⟩
    obtain ⟨wd, hw⟩ : ∃ zz, zz = wc.alloc (.cells (Ent.encV v2).toArray 34) := ⟨_, rfl⟩
    rw [← hw, ← hB] at hbs
    rw [← hw] at hba
    have HWd := Lib.hid (And.intro (show wd = wc.alloc (.cells (cT v2) 34) from hw) hB)
    clear hB hw
    have hbd := below_keep hb hba
    have p3 := Arr.blk_cell (Arr.blk_below Hb.out.2.1 hbd (Arr.blk_lt Hb.out.2.1)) 3
    simp only [Ent.encV, List.getElem?_cons_zero, List.getElem?_cons_succ] at p3
    have HB := Lib.hid (below_keep Hb.out.2.2.2.2 hbd)
    have HAw := Lib.hid (awake_any HP.out wd)
    clear hbs hba hbd hb HF2
    go_upto_region 11 with fail
    rw [show wc.alloc (.cells (cT v2) 34) = wd from HWd.out.1.symm]
    clear HWd
    have HC := Lib.hid p3
    clear p3
    go_wp2_with fail
    refine HAw.out.mono ?_
    rintro e we ⟨rfl, hb⟩
    have p3 := cell_keep hb HC.out
    have HBe := Lib.hid (below_keep HB.out hb)
    have hon := do_once HD.out
    rw [← HI.out.2.1, ← HI.out.2.2] at hon
    have hg : (g0 != 0) = true := bne_iff_ne.2 hon.1
    clear hb HAw
    obtain ⟨ky, hky⟩ : ∃ k, k = u.t.key := ⟨_, rfl⟩
    rw [← hky] at p3
    rw [show t.key = ky by rw [HE.out.2.1, hky]] at hon
    clear hky
    by_cases hk : ky.toList = []
    · clear hon
      go_wp2_with fail
      go_ret
      exact ⟨rfl, HBe.out⟩
    · obtain ⟨rfl, rfl⟩ := hon.2 (size_ne hk)
      clear hon
      go_wp2_with fail
      go_ret
      exact ⟨rfl, HBe.out⟩
  · have he2 : (e0 == 0) = false := beq_false_of_ne he
    have HAw := Lib.hid (awake_any HP.out w7)
    go_upto_region 5 with fail
    rw [show w6.alloc (.cells (cT v) 34) = w7 from HW7.out.1.symm]
    clear HW7
    go_wp2_with fail
    refine HAw.out.mono ?_
    rintro e w8 ⟨rfl, hb⟩
    have HB8 := Lib.hid (below_keep H7.out.2.2.2.2.2.2.2 hb)
    clear hb
    go_wp2_with fail
    go_ret
    exact ⟨rfl, HB8.out⟩
end Go.Proofs.YtjcndgopijpibaaGreat.Bok
