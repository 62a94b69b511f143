/- Common to the claims of this seat, part 32: texts that were written one by one, laid behind one another. -/
import Derived.Test.YtjcndgopijpibaaGreatPart10
import Derived.Test.YtjcndgopijpibaaGreatPart30
import Derived.Test.YtjcndgopijpibaaGreatPart31
/- Book: BookOwn, over any book that does as it should. -/
namespace Go.Proofs.YtjcndgopijpibaaGreat.Bok
set_option maxRecDepth 100000
open Go.RowKit
open Go.Sort
open Kit
open Foot
open Tre (Lst lst_keep lst_at encL_len alloc_cells6 below_drewN')
open Led (encG_len leg_cells)
open Ent (Tx Tv)
open Snp (Sn Sv job_all draw_at)
set_option linter.unusedVariables false
variable {w w' : World}
theorem zero_none (s : Sn) : applyE s Ent.zeroT ≠ 0 ∧ applyS s Ent.zeroT = Snp.zeroS := by
  have hd : doE s Ent.zeroT = 1 := by
    unfold doE
    rw [if_pos (by kernel_rfl)]
  have h : applyE s Ent.zeroT ≠ 0 := by rw [apply_err (by rw [hd]; decide), hd]; decide
  exact ⟨h, apply_no h⟩
theorem zero_in (w : World) : (⟨0, 0, 0, [], [], [], [], [], Snp.Pl.nil, Snp.Pl.nil, Snp.Pl.nil, Snp.Pl.nil, Snp.Pl.nil⟩ : Sv).In w :=
  ⟨Tre.lst_none _ _ _, Tre.lst_none _ _ _, Tre.lst_none _ _ _, Tre.lst_none _ _ _, Tre.lst_none _ _ _, fun y hy => by cases hy⟩
set_option maxHeartbeats 16000000 in
theorem own_any (hP : Prog) (W : World) (ab : Option Addr) (n cc : Nat) (l : List Tv) (h : Txs W ab n cc l) (hin : ∀ t ∈ l, t.In W) (hok : ∀ t ∈ l, t.t.ok) (x : Tv) (hx : x.In W) (hxo : x.t.ok) :
    Calls Tryz.prog 7 #[.slice ab n cc, Ent.valV x] W fun e W' => e = .returned (.bool true) ∧ Below W.heap.size W W' := by
  have HP := Lib.hid hP
  have HX := Lib.hid hxo
  have hbs := Arr.blk_new W W.heap.size 34 (Ent.encV x) rfl
  have hba := below_alloc W (.cells (Ent.encV x).toArray 34)
  obtain ⟨b1, hB⟩ : ∃ zz, zz = W.heap.size := ⟨_, rfl⟩
  obtain ⟨w1, hw⟩ : ∃ zz, zz = W.alloc (.cells (Ent.encV x).toArray 34) := ⟨_, rfl⟩
  rw [← hw, ← hB] at hbs
  rw [← hw] at hba
  have HW1 := Lib.hid (And.intro (show w1 = W.alloc (.cells (cT x) 34) from hw) hB)
  clear hB hw
  have HL := Lib.hid (fun (w : World) (hb : Below w1.heap.size w1 w) => (show Calls Tryz.prog 18 #[.slice ab n cc, .int .i64 30] w fun e W' => ∃ y : Sv, e = .returned (Snp.valV y) ∧ y.t = playS ((l.map (·.t)).take 30) ∧ Inv 30 y.t ∧ NewS W' w.heap.size y ∧ Below w.heap.size w W' from
    plays_any hP w ab n cc l (lst_keep encT_len h (below_keep hba hb)) (fun t ht => Ent.in_keep (hin t ht) (below_keep hba hb)) hok 30 (by omega)))
  have H1 := Lib.hid (And.intro hbs (And.intro (Ent.in_keep hx hba) hba))
  clear hP h hin hok hx hxo hbs hba
  go_enter Tryz.func7, Tryz.ntmps7
  go_upto_region 1 with fail
  rw [show W.alloc (.cells (cT x) 34) = w1 from HW1.out.1.symm, ← HW1.out.2]
  clear HW1
  go_wp2_with fail
  refine (HL.out w1 (Below.refl _ _)).mono ?_
  rintro e w2 ⟨y, rfl, hy, hinv, hny, hb2⟩
  have HY := Lib.hid (And.intro hy (And.intro hinv (And.intro hny hb2)))
  clear hy hinv hny hb2
  go_wp2_with fail
  refine (HL.out w2 HY.out.2.2.2).mono ?_
  rintro e w3 ⟨r, rfl, hr, -, hnr, hb3⟩
  have hbs := Arr.blk_new w3 w3.heap.size 29 (Snp.encV y) rfl
  have hba := below_alloc w3 (.cells (Snp.encV y).toArray 29)
  obtain ⟨b3, hB⟩ : ∃ zz, zz = w3.heap.size := ⟨_, rfl⟩
  obtain ⟨w4, hw⟩ : ∃ zz, zz = w3.alloc (.cells (Snp.encV y).toArray 29) := ⟨_, rfl⟩
  rw [← hw, ← hB] at hbs
  rw [← hw] at hba
  have HW4 := Lib.hid (And.intro (show w4 = w3.alloc (.cells (cS y) 29) from hw) hB)
  clear hB hw
  have hb34 := hba
  have hbs4 := hbs
  clear hba hbs
  have hbs := Arr.blk_new w4 w4.heap.size 29 (Snp.encV r) rfl
  have hba := below_alloc w4 (.cells (Snp.encV r).toArray 29)
  obtain ⟨b4, hB⟩ : ∃ zz, zz = w4.heap.size := ⟨_, rfl⟩
  obtain ⟨w5, hw⟩ : ∃ zz, zz = w4.alloc (.cells (Snp.encV r).toArray 29) := ⟨_, rfl⟩
  rw [← hw, ← hB] at hbs
  rw [← hw] at hba
  have HW5 := Lib.hid (And.intro (show w5 = w4.alloc (.cells (cS r) 29) from hw) hB)
  clear hB hw
  have hb35 := below_keep hb34 hba
  have hb25 := below_keep hb3 hb35
  have hb15 := below_keep HY.out.2.2.2 hb25
  have H5 := Lib.hid (And.intro (Arr.blk_below hbs4 hba (Arr.blk_lt hbs4)) (And.intro hbs (And.intro (newS_keep HY.out.2.2.1 hb25).inn (And.intro (newS_keep hnr hb35).inn (And.intro (show r.t = y.t by rw [hr, HY.out.1]) (And.intro (Arr.blk_below H1.out.1 hb15 (Arr.blk_lt H1.out.1)) (below_keep H1.out.2.2 hb15)))))))
  have HI := Lib.hid HY.out.2.1
  have HS := Lib.hid (small_any w5 x (Ent.in_keep H1.out.2.1 hb15))
  clear hb34 hbs4 hba hbs hb35 hb25 hb15 hb3 hr hnr HY HL
  go_upto_region 2 with fail
  rw [show w3.alloc (.cells (cS y) 29) = w4 from HW4.out.1.symm, ← HW4.out.2, show w4.alloc (.cells (cS r) 29) = w5 from HW5.out.1.symm, show b3 + 1 = b4 by rw [HW5.out.2, HW4.out.1, HW4.out.2]; simp]
  clear HW4 HW5
  go_wp2_with (first | (refine Arr.wpList_load_blk rfl 34 (.tmp 3) rfl b1 rfl (Ent.encV x) 34 H5.out.2.2.2.2.2.1 _ Tryz.underlying34 rfl info_tx7 ?_) | fail)
  refine HS.out.mono ?_
  rintro e w6 ⟨u, rfl, hu, hui, hb⟩
  have hbs := Arr.blk_new w6 w6.heap.size 34 (Ent.encV u) rfl
  have hba := below_alloc w6 (.cells (Ent.encV u).toArray 34)
  obtain ⟨b5, hB⟩ : ∃ zz, zz = w6.heap.size := ⟨_, rfl⟩
  obtain ⟨w7, hw⟩ : ∃ zz, zz = w6.alloc (.cells (Ent.encV u).toArray 34) := ⟨_, rfl⟩
  rw [← hw, ← hB] at hbs
  rw [← hw] at hba
  have HW7 := Lib.hid (And.intro (show w7 = w6.alloc (.cells (cT u) 34) from hw) hB)
  clear hB hw
  have hb57 := below_keep hb hba
  obtain ⟨s, hs⟩ : ∃ zz, zz = y.t := ⟨_, rfl⟩
  obtain ⟨t, ht⟩ : ∃ zz, zz = u.t := ⟨_, rfl⟩
  obtain ⟨e0, he0⟩ : ∃ zz, zz = doE s t := ⟨_, rfl⟩
  obtain ⟨f0, hf0⟩ : ∃ zz, zz = applyE s (doT s t) := ⟨_, rfl⟩
  have H7 := Lib.hid (And.intro (Arr.blk_below H5.out.1 hb57 (Arr.blk_lt H5.out.1)) (And.intro (Arr.blk_below H5.out.2.1 hb57 (Arr.blk_lt H5.out.2.1)) (And.intro (Snp.in_keep H5.out.2.2.1 hb57) (And.intro (Snp.in_keep H5.out.2.2.2.1 hb57) (And.intro hbs (And.intro (Ent.in_keep hui hba) (below_keep H5.out.2.2.2.2.2.2 hb57)))))))
  have hto : t.ok := by rw [ht, hu]; exact small_ok HX.out
  have hsi := HI.out
  rw [← hs] at hsi
  have HE := Lib.hid (And.intro hs (And.intro ht (And.intro he0 (And.intro hf0 (And.intro hsi hto)))))
  have HF := Lib.hid (show Calls Tryz.prog 10 #[Snp.valV y, Ent.valV u] w7 fun e W' => ∃ v : Tv, e = .returned (.tuple #[Ent.valV v, .int .i64 e0]) ∧ v.t = doT s t ∧ NewT W' w7.heap.size v ∧ Below w7.heap.size w7 W' from by
    have h := HP.out.fill w7 y u H7.out.2.2.1 (by rw [← hs]; exact hsi.2.1) (by rw [← hs]; exact hsi.1) H7.out.2.2.2.2.2.1 (by rw [← ht]; exact hto)
    rw [← hs, ← ht, ← he0] at h
    exact h)
  clear hbs hba hb57 hu hui hb HS hs ht he0 hf0 hto hsi
  go_upto_region 3 with fail
  rw [show w6.alloc (.cells (cT u) 34) = w7 from HW7.out.1.symm, ← HW7.out.2]
  clear HW7
  go_wp2_with (first | (refine Arr.wpList_load_blk rfl 29 (.tmp 5) rfl b3 rfl (Snp.encV y) 29 H7.out.1 _ Tryz.underlying29 rfl info_st ?_) | (refine Arr.wpList_load_blk rfl 34 (.tmp 7) rfl b5 rfl (Ent.encV u) 34 H7.out.2.2.2.2.1 _ Tryz.underlying34 rfl info_tx7 ?_) | fail)
  refine HF.out.mono ?_
  rintro e w8 ⟨v, rfl, hv, hnv, hb⟩
  have hbs := Arr.blk_new w8 w8.heap.size 34 (Ent.encV v) rfl
  have hba := below_alloc w8 (.cells (Ent.encV v).toArray 34)
  obtain ⟨b6, hB⟩ : ∃ zz, zz = w8.heap.size := ⟨_, rfl⟩
  obtain ⟨w9, hw⟩ : ∃ zz, zz = w8.alloc (.cells (Ent.encV v).toArray 34) := ⟨_, rfl⟩
  rw [← hw, ← hB] at hbs
  rw [← hw] at hba
  have HW9 := Lib.hid (And.intro (show w9 = w8.alloc (.cells (cT v) 34) from hw) hB)
  clear hB hw
  have hb79 := below_keep hb hba
  have H9 := Lib.hid (And.intro (Arr.blk_below H7.out.1 hb79 (Arr.blk_lt H7.out.1)) (And.intro hbs (And.intro (Snp.in_keep H7.out.2.2.1 hb79) (And.intro (newT_keep hnv hba) (And.intro hv hb79)))))
  have HA := Lib.hid (show Calls Tryz.prog 13 #[Snp.valV y, Ent.valV v] w9 fun e W' => ∃ z : Sv, e = .returned (.tuple #[Snp.valV z, .int .i64 f0]) ∧ z.t = applyS s (doT s t) ∧ NewS W' w9.heap.size z ∧ Below w9.heap.size w9 W' from by
    have hi := HE.out.2.2.2.2.1
    have h := HP.out.apply w9 y v H9.out.2.2.1 (by rw [← HE.out.1]; exact hi.2.1) (by rw [← HE.out.1]; exact hi.1) H9.out.2.2.2.1.inn (by rw [H9.out.2.2.2.2.1]; exact filled_ok hi.1 hi.2.1 HE.out.2.2.2.2.2)
    rw [H9.out.2.2.2.2.1, ← HE.out.1, ← HE.out.2.2.2.1] at h
    exact h)
  clear hbs hba hb79 hv hnv hb HF
  go_upto_region 4 with fail
  rw [show w8.alloc (.cells (cT v) 34) = w9 from HW9.out.1.symm, ← HW9.out.2]
  clear HW9
  go_wp2_with (first | (refine Arr.wpList_load_blk rfl 29 (.tmp 5) rfl b3 rfl (Snp.encV y) 29 H9.out.1 _ Tryz.underlying29 rfl info_st ?_) | (refine Arr.wpList_load_blk rfl 34 (.tmp 8) rfl b6 rfl (Ent.encV v) 34 H9.out.2.1 _ Tryz.underlying34 rfl info_tx7 ?_) | fail)
  refine HA.out.mono ?_
  rintro e wa ⟨z, rfl, hz, hnz, hb⟩
  have hbs := Arr.blk_new wa wa.heap.size 29 (Snp.encV z) rfl
  have hba := below_alloc wa (.cells (Snp.encV z).toArray 29)
  obtain ⟨b7, hB⟩ : ∃ zz, zz = wa.heap.size := ⟨_, rfl⟩
  obtain ⟨wb, hw⟩ : ∃ zz, zz = wa.alloc (.cells (Snp.encV z).toArray 29) := ⟨_, rfl⟩
  rw [← hw, ← hB] at hbs
  rw [← hw] at hba
  have HWb := Lib.hid (And.intro (show wb = wa.alloc (.cells (cS z) 29) from hw) hB)
  clear hB hw
  have hb9b := below_keep hb hba
  have hb7b := below_keep H9.out.2.2.2.2.2 hb9b
  have Hb := Lib.hid (And.intro hbs (And.intro (Arr.blk_below H9.out.2.1 hb9b (Arr.blk_lt H9.out.2.1)) (And.intro (newS_keep hnz hba) (And.intro (newT_keep H9.out.2.2.2.1 hb9b) (And.intro hz hb7b)))))
  have HSa := Lib.hid (Snp.rsame_any wb y r (Snp.in_keep H7.out.2.2.1 hb7b) (Snp.in_keep H7.out.2.2.2.1 hb7b))
  have hy3 := Arr.blk_below H7.out.1 hb7b (Arr.blk_lt H7.out.1)
  have hy4 := Arr.blk_below H7.out.2.1 hb7b (Arr.blk_lt H7.out.2.1)
  have HYs := Lib.hid (And.intro hy3 hy4)
  have HRy := Lib.hid H5.out.2.2.2.2.1
  have HBs := Lib.hid (show w7.heap.size ≤ w9.heap.size from H9.out.2.2.2.2.2.size)
  clear hbs hba hb9b hb7b hz hnz hb HA hy3 hy4
  go_upto_region 5 with fail
  rw [show wa.alloc (.cells (cS z) 29) = wb from HWb.out.1.symm, ← HWb.out.2]
  clear HWb
  go_wp2_with (first | (refine Arr.wpList_load_blk rfl 29 (.tmp 5) rfl b3 rfl (Snp.encV y) 29 HYs.out.1 _ Tryz.underlying29 rfl info_st ?_) | (refine Arr.wpList_load_blk rfl 29 (.tmp 6) rfl b4 rfl (Snp.encV r) 29 HYs.out.2 _ Tryz.underlying29 rfl info_st ?_) | fail)
  refine HSa.out.mono ?_
  rintro e wc ⟨b, rfl, hbt, hb⟩
  obtain rfl : b = true := hbt.2 HRy.out.symm
  have hb7c := below_keep Hb.out.2.2.2.2.2 hb
  have Hc := Lib.hid (And.intro (Arr.blk_below Hb.out.1 hb (Arr.blk_lt Hb.out.1)) (And.intro (Arr.blk_below Hb.out.2.1 hb (Arr.blk_lt Hb.out.2.1)) (And.intro (newS_le (newS_keep Hb.out.2.2.1 hb) HBs.out) (And.intro (newT_keep Hb.out.2.2.2.1 hb) hb7c))))
  clear hb hbt hb7c HSa
  by_cases he : e0 = 0
  · subst he
    have hd0 : doE s t = 0 := HE.out.2.2.1.symm
    obtain rfl : f0 = 0 := by rw [HE.out.2.2.2.1]; exact (apply_filled hd0).1
    have HD := Lib.hid hd0
    clear hd0
    have HB7 := Lib.hid (show w7.heap.size ≤ wc.heap.size from Hc.out.2.2.2.2.size)
    have HN4 := Lib.hid (Arr.blk_cell Hc.out.1 4)
    have HN6 := Lib.hid (Arr.blk_cell Hc.out.1 6)
    have HA6 := Lib.hid (Arr.blk_cell Hc.out.2.1 6)
    have HN := Lib.hid (And.intro Hc.out.2.2.1.j.lst.len (And.intro Hc.out.2.2.1.l.lst.len Hc.out.2.2.2.1.g.lst.len))
    have hm1 : z.j.n ≤ 9223372036854775807 := by have h1 := Hc.out.2.2.1.j.lst.cap; have h2 := Hc.out.2.2.1.j.lst.max; unfold maxLen at h2; omega
    have hm2 : z.l.n ≤ 9223372036854775807 := by have h1 := Hc.out.2.2.1.l.lst.cap; have h2 := Hc.out.2.2.1.l.lst.max; unfold maxLen at h2; omega
    have hm3 : v.n2 ≤ 9223372036854775807 := by have h1 := Hc.out.2.2.2.1.g.lst.cap; have h2 := Hc.out.2.2.2.1.g.lst.max; unfold maxLen at h2; omega
    go_wp2_with fail
    go_loopw [12] (fun iv wr => ∃ k : Nat, k ≤ z.j.n ∧ iv = .int .i64 (k : Nat) ∧ Like w7.heap.size wc wr) (fun iv _ => z.j.n - (intOf iv).toNat)
    case atStart => exact ⟨0, Nat.zero_le _, rfl, Like.refl _ _⟩
    case round =>
      obtain ⟨k, hk, rfl, hlk⟩ := hrel
      have q6 := hlk.sl HN6.out
      have HL := Lib.hid hlk
      clear hlk
      by_cases hlt : k < z.j.n
      · obtain ⟨j, hjk⟩ : ∃ zz, z.jobs[k]? = some zz := ⟨_, List.getElem?_eq_getElem (by rw [HN.out.1]; exact hlt)⟩
        obtain ⟨bj, oj, hja⟩ := lst_at Hc.out.2.2.1.j.lst (by omega)
        have hjl := Hc.out.2.2.1.j
        rw [hja] at hjl q6
        have hbj := (hjl.new _ rfl).1
        have hcs := job_all hjl.lst hjk
        obtain ⟨c0, c1, c2, c3, c4, c5, c6, c7, c8, c9, c10, c11⟩ := hcs
        obtain ⟨uu, p10⟩ := HL.out.int c10
        have f10 := HL.out.free hjl (oj + k * 12 + 10)
        simp only at f10 hbj
        have HL2 := Lib.hid (HL.out.set (a := ⟨bj, oj + k * 12 + 10, none⟩) hbj rfl p10 (wrap64 (uu + 1)))
        have HC11 := Lib.hid (And.intro c11 (show z.j.a = some ⟨bj, oj, none⟩ from hja))
        have HDn := Lib.hid (Hc.out.2.2.1.d j (List.mem_of_getElem? hjk))
        have hmd : j.n ≤ 9223372036854775807 := by have h1 := HDn.out.lst.cap; have h2 := HDn.out.lst.max; unfold maxLen at h2; omega
        clear c0 c1 c2 c3 c4 c5 c6 c7 c8 c9 c10 c11 hjl hbj hja hjk HL
        go_upto_region 13 with fail
        obtain ⟨wx, hwx⟩ : ∃ zz, zz = wr.setCell ⟨bj, oj + k * 12 + 10, none⟩ (.int .i64 (wrap64 (uu + 1))) := ⟨_, rfl⟩
        rw [← hwx] at HL2
        rw [show wr.setCell ⟨bj, oj + k * 12 + 10, none⟩ (.int .i64 (wrap64 (uu + 1))) = wx from hwx.symm]
        clear hwx q6 p10 f10
        go_wp2_with fail
        go_loopw [13] (fun iv wq => ∃ q : Nat, q ≤ j.n ∧ iv = .int .i64 (q : Nat) ∧ Like w7.heap.size wc wq) (fun iv _ => j.n - (intOf iv).toNat)
        case atStart => exact ⟨0, Nat.zero_le _, rfl, HL2.out⟩
        case round =>
          obtain ⟨q, hq, rfl, hlq⟩ := hrel
          have q6 := hlq.sl HN6.out
          have q11 := hlq.sl HC11.out.1
          try simp only [Snp.encV, List.getElem?_cons_zero, List.getElem?_cons_succ] at q6
          rw [HC11.out.2] at q6
          by_cases hqn : q < j.n
          · obtain ⟨d, hdq⟩ : ∃ zz, j.t.draws[q]? = some zz := ⟨_, List.getElem?_eq_getElem (by rw [HDn.out.lst.len]; exact hqn)⟩
            obtain ⟨bd, od, hda⟩ := lst_at HDn.out.lst (by omega)
            have hdl := HDn.out
            rw [hda] at hdl q11
            have hbd := (hdl.new _ rfl).1
            obtain ⟨d0, d1⟩ := draw_at hdl.lst hdq
            obtain ⟨vv, p1⟩ := hlq.int d1
            have f1 := hlq.free hdl (od + q * 2 + 1)
            simp only at f1 hbd
            have HL3 := Lib.hid (hlq.set (a := ⟨bd, od + q * 2 + 1, none⟩) hbd rfl p1 (wrap64 (vv + 1)))
            clear d0 d1 hdl hbd hda hdq hlq
            go_wp2_with fail
            go_roundw
            case rel => exact ⟨q + 1, by omega, by go_num, HL3.out⟩
            case measure => simp [intOf]; omega
          · obtain rfl : q = j.n := by omega
            have HLq := Lib.hid hlq
            clear hlq
            go_wp2_with fail
            go_roundw
            case rel => exact ⟨k + 1, by omega, by go_num, HLq.out⟩
            case measure => simp [intOf]; omega
      · obtain rfl : k = z.j.n := by omega
        try simp only [Snp.encV, List.getElem?_cons_zero, List.getElem?_cons_succ] at q6
        go_wp2_with fail
        go_loopw [14] (fun iv wq => ∃ q : Nat, q ≤ z.l.n ∧ iv = .int .i64 (q : Nat) ∧ Like w7.heap.size wc wq) (fun iv _ => z.l.n - (intOf iv).toNat)
        case atStart => exact ⟨0, Nat.zero_le _, rfl, HL.out⟩
        case round =>
          obtain ⟨q, hq, rfl, hlq⟩ := hrel
          have q4 := hlq.sl HN4.out
          try simp only [Snp.encV, List.getElem?_cons_zero, List.getElem?_cons_succ] at q4
          clear q6
          by_cases hqn : q < z.l.n
          · have hql : q < z.allocs.length := by rw [HN.out.2.1]; exact hqn
            obtain ⟨bd, od, hda⟩ := lst_at Hc.out.2.2.1.l.lst (by omega)
            have hdl := Hc.out.2.2.1.l
            rw [hda] at hdl q4
            have hbd := (hdl.new _ rfl).1
            have d3 := (alloc_cells6 hdl.lst hql).2.2.2.1
            obtain ⟨vv, p1⟩ := hlq.int d3
            have f1 := hlq.free hdl (od + q * 6 + 3)
            simp only at f1 hbd
            have HL3 := Lib.hid (hlq.set (a := ⟨bd, od + q * 6 + 3, none⟩) hbd rfl p1 (wrap64 (vv + 1)))
            clear d3 hdl hbd hda hql hlq
            go_wp2_with fail
            go_roundw
            case rel => exact ⟨q + 1, by omega, by go_num, HL3.out⟩
            case measure => simp [intOf]; omega
          · obtain rfl : q = z.l.n := by omega
            have HLq := Lib.hid hlq
            clear hlq
            go_wp2_with fail
            go_loopw [15] (fun iv wp => ∃ p : Nat, p ≤ v.n2 ∧ iv = .int .i64 (p : Nat) ∧ Like w7.heap.size wc wp) (fun iv _ => v.n2 - (intOf iv).toNat)
            case atStart => exact ⟨0, Nat.zero_le _, rfl, HLq.out⟩
            case round =>
              obtain ⟨p, hp, rfl, hlp⟩ := hrel
              have r6 := hlp.sl HA6.out
              try simp only [Ent.encV, List.getElem?_cons_zero, List.getElem?_cons_succ] at r6
              clear q4
              by_cases hpn : p < v.n2
              · have hpl : p < v.t.legs.length := by rw [HN.out.2.2]; exact hpn
                obtain ⟨bd, od, hda⟩ := lst_at Hc.out.2.2.2.1.g.lst (by omega)
                have hdl := Hc.out.2.2.2.1.g
                rw [hda] at hdl r6
                have hbd := (hdl.new _ rfl).1
                have d1 := (leg_cells hdl.lst hpl).2
                obtain ⟨vv, p1⟩ := hlp.int d1
                have f1 := hlp.free hdl (od + p * 2 + 1)
                simp only at f1 hbd
                have HL3 := Lib.hid (hlp.set (a := ⟨bd, od + p * 2 + 1, none⟩) hbd rfl p1 (wrap64 (vv + 1)))
                clear d1 hdl hbd hda hpl hlp
                go_wp2_with fail
                go_roundw
                case rel => exact ⟨p + 1, by omega, by go_num, HL3.out⟩
                case measure => simp [intOf]; omega
              · obtain rfl : p = v.n2 := by omega
                have HB7z := Lib.hid (Hc.out.2.2.2.2.trans (hlp.below HB7.out))
                have HAw := Lib.hid (awake_any HP.out wr)
                clear hlp
                go_wp2_with fail
                refine HAw.out.mono ?_
                rintro e wd ⟨rfl, hb⟩
                have hb7d := below_keep HB7z.out hb
                have hk3 := Snp.box_cells (Arr.blk_below H7.out.1 hb7d (Arr.blk_lt H7.out.1))
                have hk4 := Snp.box_cells (Arr.blk_below H7.out.2.1 hb7d (Arr.blk_lt H7.out.2.1))
                obtain ⟨c0, c1, c2, c3, c4, c5, c6, c7⟩ := hk3
                obtain ⟨e0, e1, e2, e3, e4, e5, e6, e7⟩ := hk4
                have HSz := Lib.hid (Snp.rsame_any wd y r (Snp.in_keep H7.out.2.2.1 hb7d) (Snp.in_keep H7.out.2.2.2.1 hb7d))
                have HBd := Lib.hid (below_keep H7.out.2.2.2.2.2.2 hb7d)
                clear hb HAw hb7d
                go_wp2_with fail
                refine HSz.out.mono ?_
                rintro e we ⟨b, rfl, hbt, hb⟩
                obtain rfl : b = true := hbt.2 HRy.out.symm
                have HBe := Lib.hid (below_keep HBd.out hb)
                clear hb hbt
                go_wp2_with fail
                go_ret
                exact ⟨rfl, HBe.out⟩
  · have he2 : (e0 == 0) = false := beq_false_of_ne he
    have hzt := doT_no (s := s) (t := t) (by rw [← HE.out.2.2.1]; exact he)
    have hz0 := zero_none s
    rw [← hzt, ← HE.out.2.2.2.1] at hz0
    have hf : (f0 != 0) = true := bne_iff_ne.2 hz0.1
    have HZ := Lib.hid (show z.t = Snp.zeroS by rw [Hb.out.2.2.2.2.1, hz0.2])
    have HAw := Lib.hid (awake_any HP.out wc)
    clear hzt hz0
    go_wp2_with fail
    refine HAw.out.mono ?_
    rintro e wd ⟨rfl, hb⟩
    obtain ⟨c0, c1, c2, c3, c4, c5, c6, c7⟩ := Snp.box_cells (Arr.blk_below Hc.out.1 hb (Arr.blk_lt Hc.out.1))
    have HSz := Lib.hid (Snp.rsame_any wd z ⟨0, 0, 0, [], [], [], [], [], Snp.Pl.nil, Snp.Pl.nil, Snp.Pl.nil, Snp.Pl.nil, Snp.Pl.nil⟩ (newS_keep Hc.out.2.2.1 hb).inn (zero_in wd))
    have HBd := Lib.hid (below_keep H7.out.2.2.2.2.2.2 (below_keep Hc.out.2.2.2.2 hb))
    clear hb HAw
    go_wp2_with fail
    refine HSz.out.mono ?_
    rintro e we ⟨b, rfl, hbt, hb⟩
    obtain rfl : b = true := hbt.2 HZ.out
    have HBe := Lib.hid (below_keep HBd.out hb)
    clear hb hbt
    go_wp2_with fail
    go_ret
    exact ⟨rfl, HBe.out⟩
end Go.Proofs.YtjcndgopijpibaaGreat.Bok
