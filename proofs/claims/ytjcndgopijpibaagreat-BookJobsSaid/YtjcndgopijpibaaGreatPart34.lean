/- Common to the claims of this seat, part 34: texts that were written one by one, laid behind one another. -/
import Derived.Test.YtjcndgopijpibaaGreatPart10
import Derived.Test.YtjcndgopijpibaaGreatPart33
/- Book: BookJobs, over any book that does as it should. -/
namespace Go.Proofs.YtjcndgopijpibaaGreat.Bok
set_option maxRecDepth 100000
open Go.RowKit
open Go.Sort
open Kit
open Foot
open Tre (Lst lst_keep lst_at lst_new IntsL encI_len inI)
open Job (Jb Jv encJ encJ_len)
open Ent (Tx Tv)
open Snp (Sn Sv job_all)
set_option linter.unusedVariables false
variable {w w' : World}
theorem txS_ok {id mask now : Int} (h1 : inI id) (h2 : 0 ≤ mask ∧ mask ≤ 4294967295) (h3 : 0 ≤ now ∧ now ≤ 65535) : (txS id mask now).ok :=
  ⟨in0, by unfold inI txS; simp only; omega, by unfold inI txS; simp only; omega, fun x hx => by
    simp [txS] at hx
    rcases hx with rfl | rfl
    · exact h1
    · unfold inI; omega, fun g hg => by cases hg⟩
theorem txR_ok {id : Int} (h1 : inI id) : (txR id).ok :=
  ⟨in0, in0, by unfold inI txR; simp only; omega, fun x hx => by
    simp [txR] at hx
    rw [hx]; exact h1, fun g hg => by cases hg⟩
theorem txE_ok {id k : Int} (h1 : inI id) (h2 : 0 ≤ k ∧ k ≤ 1125899906842624) : (txE id k).ok :=
  ⟨in0, in0, by unfold inI txE; simp only; omega, fun x hx => by
    simp [txE] at hx
    rcases hx with rfl | rfl
    · exact h1
    · unfold inI; omega, fun g hg => by cases hg⟩
set_option maxHeartbeats 32000000 in
theorem jobs_any (hP : Prog) (W : World) (ab : Option Addr) (n cc : Nat) (l : List Tv) (h : Txs W ab n cc l) (hin : ∀ t ∈ l, t.In W) (hok : ∀ t ∈ l, t.t.ok) (mask now used : Int) (hm : 0 ≤ mask ∧ mask ≤ 4294967295) (hnw : 0 ≤ now ∧ now ≤ 65535) (hus : 0 ≤ used ∧ used ≤ 65535) :
    Calls Tryz.prog 6 #[.slice ab n cc, .int .u32 mask, .int .u16 now, .int .u16 used] W fun e W' => e = .returned (.bool true) ∧ Below W.heap.size W W' := by
  have HP := Lib.hid hP
  have HMx := Lib.hid (And.intro hm (And.intro hnw hus))
  have HL := Lib.hid (show Calls Tryz.prog 18 #[.slice ab n cc, .int .i64 30] W fun e W' => ∃ y : Sv, e = .returned (Snp.valV y) ∧ y.t = playS ((l.map (·.t)).take 30) ∧ Inv 30 y.t ∧ NewS W' W.heap.size y ∧ Below W.heap.size W W' from
    plays_any hP W ab n cc l h hin hok 30 (by omega))
  obtain ⟨hm1, hm2⟩ := hm
  obtain ⟨hn1, hn2⟩ := hnw
  obtain ⟨hu1, hu2⟩ := hus
  clear hP h hin hok
  go_enter Tryz.func6, Tryz.ntmps6
  go_wp2_with fail
  refine HL.out.mono ?_
  rintro e w1 ⟨y, rfl, hy, hinv, hny, hb⟩
  have hbs := Arr.blk_new w1 w1.heap.size 29 (Snp.encV y) rfl
  have hba := below_alloc w1 (.cells (Snp.encV y).toArray 29)
  obtain ⟨B, hB⟩ : ∃ zz, zz = w1.heap.size := ⟨_, rfl⟩
  obtain ⟨w2, hw⟩ : ∃ zz, zz = w1.alloc (.cells (Snp.encV y).toArray 29) := ⟨_, rfl⟩
  rw [← hw, ← hB] at hbs
  rw [← hw] at hba
  have HW2 := Lib.hid (And.intro (show w2 = w1.alloc (.cells (cS y) 29) from hw) hB)
  clear hB hw
  have hb2 := below_keep hb hba
  have hny2 := newS_keep hny hba
  have HG := Lib.hid (And.intro (show Good y.t by rw [hy]; exact play_good _) hinv)
  have HY := Lib.hid (fun (w : World) (hb : Below w2.heap.size w2 w) => (show Arr.Blk w B 29 (Snp.encV y) ∧ y.In w ∧ Below W.heap.size W w from ⟨Arr.blk_below hbs hb (Arr.blk_lt hbs), Snp.in_keep hny2.inn hb, below_keep hb2 hb⟩))
  have hmj : y.j.n ≤ 9223372036854775807 := by have h1 := hny2.inn.jobs.cap; have h2 := hny2.inn.jobs.max; unfold maxLen at h2; omega
  have HJl := Lib.hid hny2.inn.jobs
  clear hy hinv hny hb hbs hba hb2 hny2 HL
  go_upto_region 2 with fail
  rw [show w1.alloc (.cells (cS y) 29) = w2 from HW2.out.1.symm, ← HW2.out.2]
  clear HW2
  go_wp2_with fail
  go_loopw [10] (fun iv wr => ∃ k : Nat, k ≤ y.j.n ∧ iv = .int .i64 (k : Nat) ∧ Below w2.heap.size w2 wr) (fun iv _ => y.j.n - (intOf iv).toNat)
  case atStart => exact ⟨0, Nat.zero_le _, rfl, Below.refl _ _⟩
  case round =>
    obtain ⟨k, hk, rfl, hbr⟩ := hrel
    have HBr := Lib.hid hbr
    obtain ⟨-, -, -, -, -, -, p6, -⟩ := Snp.box_cells (HY.out wr hbr).1
    clear hbr
    by_cases hlt : k < y.j.n
    · obtain ⟨j, hjk⟩ : ∃ zz, y.jobs[k]? = some zz := ⟨_, List.getElem?_eq_getElem (by rw [HJl.out.len]; exact hlt)⟩
      obtain ⟨bl, ol, hja⟩ := lst_at HJl.out (by omega)
      have hjl := lst_keep encJ_len HJl.out HBr.out
      rw [hja] at hjl p6
      have hcs := job_all hjl hjk
      have hjt : y.t.jobs[k]? = some j.t := by
        show (y.jobs.map (·.t))[k]? = _
        rw [List.getElem?_map, hjk]; rfl
      have hjok := HG.out.2.2.1.2.2.2.2.2.2.1 j.t (List.mem_of_getElem? hjt)
      have hjm := (HG.out.2.1.2.2 j.t (List.mem_of_getElem? hjt)).1
      obtain ⟨⟨j0, j1, j2, j3, j4, j5, j6, j7, j8, j9, j10, ds⟩, ad, nd, cd⟩ := j
      simp only at hcs hjt hjok hjm
      obtain ⟨c0, c1, c2, c3, c4, c5, c6, c7, c8, c9, c10, c11⟩ := hcs
      have hba := below_alloc wr (.cells #[.int .i64 j0, .int .i64 j1, .int .i64 j2, .int .i64 j3, .int .i64 j4, .int .i64 j5, .int .i64 j6, .int .i64 j7, .int .i64 j8, .int .i64 j9, .int .i64 j10, .slice ad nd cd] 58)
      have hbl := Arr.blk_new wr wr.heap.size 58 [.int .i64 j0, .int .i64 j1, .int .i64 j2, .int .i64 j3, .int .i64 j4, .int .i64 j5, .int .i64 j6, .int .i64 j7, .int .i64 j8, .int .i64 j9, .int .i64 j10, .slice ad nd cd] rfl
      have HJt := Lib.hid (And.intro hjt (And.intro hjok.1 (And.intro hjm.2.2.1 hjm.2.2.2.1)))
      clear hjk hja hjl hjt hjok hjm
      go_upto_region 6 with fail
      obtain ⟨wa, hwa⟩ : ∃ zz, zz = wr.alloc (.cells #[.int .i64 j0, .int .i64 j1, .int .i64 j2, .int .i64 j3, .int .i64 j4, .int .i64 j5, .int .i64 j6, .int .i64 j7, .int .i64 j8, .int .i64 j9, .int .i64 j10, .slice ad nd cd] 58) := ⟨_, rfl⟩
      rw [show wr.alloc (.cells [Value.int .i64 j0, .int .i64 j1, .int .i64 j2, .int .i64 j3, .int .i64 j4, .int .i64 j5, .int .i64 j6, .int .i64 j7, .int .i64 j8, .int .i64 j9, .int .i64 j10, .slice ad nd cd].toArray 58) = wa from hwa.symm] at hbl
      rw [← hwa] at hba
      rw [← hwa]
      obtain ⟨bj, hbj⟩ : ∃ zz, zz = wr.heap.size := ⟨_, rfl⟩
      rw [← hbj] at hbl
      rw [← hbj]
      have HJ := Lib.hid (fun (w : World) (hb : Below wa.heap.size wa w) => (show w.cell? ⟨bj, 0, none⟩ = some (.int .i64 j0) ∧ w.cell? ⟨bj, 2, none⟩ = some (.int .i64 j2) ∧ w.cell? ⟨bj, 3, none⟩ = some (.int .i64 j3) ∧ w.cell? ⟨bj, 6, none⟩ = some (.int .i64 j6) from
        ⟨Arr.blk_cell (Arr.blk_below hbl hb (Arr.blk_lt hbl)) 0, Arr.blk_cell (Arr.blk_below hbl hb (Arr.blk_lt hbl)) 2, Arr.blk_cell (Arr.blk_below hbl hb (Arr.blk_lt hbl)) 3, Arr.blk_cell (Arr.blk_below hbl hb (Arr.blk_lt hbl)) 6⟩))
      have q7 : wa.cell? ⟨bj, 7, none⟩ = some (.int .i64 j7) := Arr.blk_cell hbl 7
      have q0 := (HJ.out wa (Below.refl _ _)).1
      have HBa := Lib.hid (below_keep HBr.out hba)
      clear hba hbl hwa hbj c0 c1 c2 c3 c4 c5 c6 c7 c8 c9 c10 c11 p6
      by_cases hst : j7 = 1
      · subst hst
        have HYa := Lib.hid (HY.out wa HBa.out)
        have hbb := below_alloc wa (.cells #[.int .i64 j0, .int .i64 mask] 3)
        have hib : IntsL (wa.alloc (.cells #[.int .i64 j0, .int .i64 mask] 3)) (some ⟨wa.heap.size, 0, none⟩) 2 2 (txS j0 mask now).args := lst_new encI_len wa [j0, mask] _ _ _ 2 rfl rfl rfl (by omega)
        obtain ⟨wb, hwb⟩ : ∃ zz, zz = wa.alloc (.cells #[.int .i64 j0, .int .i64 mask] 3) := ⟨_, rfl⟩
        rw [← hwb] at hbb hib
        obtain ⟨e0, he0⟩ : ∃ zz, zz = doE y.t (txS j0 mask now) := ⟨_, rfl⟩
        have HF := Lib.hid (show Calls Tryz.prog 10 #[Snp.valV y, Ent.valV ⟨txS j0 mask now, some ⟨wa.heap.size, 0, none⟩, 2, 2, none, 0, 0⟩] wb fun e W' => ∃ v : Tv, e = .returned (.tuple #[Ent.valV v, .int .i64 e0]) ∧ v.t = doT y.t (txS j0 mask now) ∧ NewT W' wb.heap.size v ∧ Below wb.heap.size wb W' from by
          have h := HP.out.fill wb y ⟨txS j0 mask now, some ⟨wa.heap.size, 0, none⟩, 2, 2, none, 0, 0⟩ (HY.out wb (below_keep HBa.out hbb)).2.1 HG.out.2.2.1 HG.out.2.1 (tv_in hib rfl (Nat.zero_le 1) (Nat.zero_le 1)) (txS_ok HJt.out.2.1 HMx.out.1 HMx.out.2.1)
          rw [← he0] at h
          exact h)
        have HWb := Lib.hid hwb
        have HBb := Lib.hid hbb
        have HE0 := Lib.hid he0
        clear hbb hib hwb he0
        go_upto_region 7 with fail
        go_wp2_with (first | (refine Arr.wpList_load_blk rfl 29 (.tmp 9) rfl B rfl (Snp.encV y) 29 HYa.out.1 _ Tryz.underlying29 rfl info_st ?_) | fail)
        rw [← HWb.out]
        refine HF.out.mono ?_
        rintro e wc ⟨v, rfl, hv, hnv, hb⟩
        have hbs := Arr.blk_new wc wc.heap.size 34 (Ent.encV v) rfl
        have hba := below_alloc wc (.cells (Ent.encV v).toArray 34)
        obtain ⟨bv, hB⟩ : ∃ zz, zz = wc.heap.size := ⟨_, rfl⟩
        obtain ⟨wd, hw⟩ : ∃ zz, zz = wc.alloc (.cells (Ent.encV v).toArray 34) := ⟨_, rfl⟩
        rw [← hw, ← hB] at hbs
        rw [← hw] at hba
        have HWd := Lib.hid (And.intro (show wd = wc.alloc (.cells (cT v) 34) from hw) hB)
        clear hB hw
        have hbd := below_keep HBb.out (below_keep hb hba)
        have HBd := Lib.hid (And.intro hbd (below_keep HBa.out hbd))
        have HV := Lib.hid (And.intro hbs (And.intro (newT_keep hnv hba).inn hv))
        have HYd := Lib.hid (HY.out wd HBd.out.2)
        clear hbs hba hbd hv hnv hb HF HWb HBb HYa
        go_upto_region 8 with fail
        rw [show wc.alloc (.cells (cT v) 34) = wd from HWd.out.1.symm, ← HWd.out.2]
        clear HWd
        by_cases he : e0 = 0
        · subst he
          have hd0 : doE y.t (txS j0 mask now) = 0 := HE0.out.symm
          have htx := txS_ok HJt.out.2.1 HMx.out.1 HMx.out.2.1
          obtain ⟨d, hsta⟩ := start_of HG.out.1 HG.out.2.1 HJt.out.1 hd0
          have hinv1 := inv_do HG.out.2 (by omega) htx hd0
          obtain ⟨N, hN⟩ : ∃ zz, zz = doS y.t (txS j0 mask now) := ⟨_, rfl⟩
          rw [← hN] at hsta hinv1
          have HN := Lib.hid (And.intro hsta hinv1)
          have HA := Lib.hid (show Calls Tryz.prog 13 #[Snp.valV y, Ent.valV v] wd fun e W' => ∃ z : Sv, e = .returned (.tuple #[Snp.valV z, .int .i64 0]) ∧ z.t = N ∧ NewS W' wd.heap.size z ∧ Below wd.heap.size wd W' from by
            have h := HP.out.apply wd y v HYd.out.2.1 HG.out.2.2.1 HG.out.2.1 HV.out.2.1 (by rw [HV.out.2.2]; exact filled_ok HG.out.2.1 HG.out.2.2.1 htx)
            rw [HV.out.2.2, (apply_filled hd0).1, (apply_filled hd0).2, ← hN] at h
            exact h)
          clear hd0 htx hsta hinv1 hN HE0
          go_wp2_with (first | (refine Arr.wpList_load_blk rfl 29 (.tmp 9) rfl B rfl (Snp.encV y) 29 HYd.out.1 _ Tryz.underlying29 rfl info_st ?_) | (refine Arr.wpList_load_blk rfl 34 (.tmp 12) rfl bv rfl (Ent.encV v) 34 HV.out.1 _ Tryz.underlying34 rfl info_tx7 ?_) | fail)
          refine HA.out.mono ?_
          rintro e we ⟨z, rfl, hz, hnz, hb⟩
          have hbs := Arr.blk_new we we.heap.size 29 (Snp.encV z) rfl
          have hba := below_alloc we (.cells (Snp.encV z).toArray 29)
          obtain ⟨bn, hB⟩ : ∃ zz, zz = we.heap.size := ⟨_, rfl⟩
          obtain ⟨wn, hw⟩ : ∃ zz, zz = we.alloc (.cells (Snp.encV z).toArray 29) := ⟨_, rfl⟩
          rw [← hw, ← hB] at hbs
          rw [← hw] at hba
          have HWn := Lib.hid (And.intro (show wn = we.alloc (.cells (cS z) 29) from hw) hB)
          clear hB hw
          have hbn := below_keep hb hba
          have han := below_keep HBd.out.1 hbn
          have h2n := below_keep HBd.out.2 hbn
          have hzi := (newS_keep hnz hba).inn
          have HZ := Lib.hid (fun (w : World) (hb : Below wn.heap.size wn w) => (show Arr.Blk w bn 29 (Snp.encV z) ∧ z.In w from ⟨Arr.blk_below hbs hb (Arr.blk_lt hbs), Snp.in_keep hzi hb⟩))
          have HYn := Lib.hid (fun (w : World) (hb : Below wn.heap.size wn w) => HY.out w (below_keep h2n hb))
          have HJn := Lib.hid (fun (w : World) (hb : Below wn.heap.size wn w) => HJ.out w (below_keep han hb))
          have HZt := Lib.hid hz
          have HBn := Lib.hid (And.intro h2n han)
          have hza : z.allocs = N.allocs := congrArg Sn.allocs hz
          have hs1 := start_sums HN.out.1
          have hi0 := sums_in HG.out.1.sol
          have hi1 := sums_in HN.out.1.good.sol
          rw [← hza] at hs1 hi1
          have hco := cost_ok HN.out.1.cost
          simp only at hs1 hco hi0
          obtain ⟨L1, hL1⟩ : ∃ zz, zz = lienS y.allocs := ⟨_, rfl⟩
          obtain ⟨S1, hS1⟩ : ∃ zz, zz = spentS y.allocs := ⟨_, rfl⟩
          obtain ⟨Ln, hLn⟩ : ∃ zz, zz = lienS z.allocs := ⟨_, rfl⟩
          obtain ⟨CC, hCC⟩ : ∃ zz, zz = j2 * j3 * j6 := ⟨_, rfl⟩
          have hc0 := Int.mul_nonneg (Int.mul_nonneg hco.1.1 hco.1.2.1) hco.1.2.2
          have hc1 := Int.mul_nonneg hco.1.1 hco.1.2.1
          rw [← hCC] at hco hs1 hc0
          rw [← hL1, ← hS1] at hs1 hi0
          rw [← hLn] at hs1 hi1
          rw [hs1.2] at hi1
          have HNm := Lib.hid (show Ln - L1 = CC ∧ (-9223372036854775808 ≤ CC ∧ CC ≤ 9223372036854775807) ∧ (-9223372036854775808 ≤ j2 * j3 ∧ j2 * j3 ≤ 9223372036854775807) ∧ j2 * j3 * j6 = CC from ⟨by omega, by omega, by omega, hCC.symm⟩)
          have hSn : spentS z.allocs = S1 := hs1.2
          have HLz := Lib.hid (fun (w : World) (hb : Below wn.heap.size wn w) => (show Calls Tryz.prog 19 #[Snp.valV z] w fun e W' => e = .returned (.int .i64 Ln) ∧ Below w.heap.size w W' from by
            have h := liened_any w z (HZ.out w hb).2
            rw [← hLn, Drw.wrap_in (by omega) (by omega)] at h
            exact h))
          have HSz := Lib.hid (fun (w : World) (hb : Below wn.heap.size wn w) => (show Calls Tryz.prog 20 #[Snp.valV z] w fun e W' => e = .returned (.int .i64 S1) ∧ Below w.heap.size w W' from by
            have h := spent_any w z (HZ.out w hb).2
            rw [hSn, Drw.wrap_in (by omega) (by omega)] at h
            exact h))
          have HLy := Lib.hid (fun (w : World) (hb : Below w2.heap.size w2 w) => (show Calls Tryz.prog 19 #[Snp.valV y] w fun e W' => e = .returned (.int .i64 L1) ∧ Below w.heap.size w W' from by
            have h := liened_any w y (HY.out w hb).2.1
            rw [← hL1, Drw.wrap_in (by omega) (by omega)] at h
            exact h))
          have HSy := Lib.hid (fun (w : World) (hb : Below w2.heap.size w2 w) => (show Calls Tryz.prog 20 #[Snp.valV y] w fun e W' => e = .returned (.int .i64 S1) ∧ Below w.heap.size w W' from by
            have h := spent_any w y (HY.out w hb).2.1
            rw [← hS1, Drw.wrap_in (by omega) (by omega)] at h
            exact h))
          have HLyn := Lib.hid (fun (w : World) (hb : Below wn.heap.size wn w) => HLy.out w (below_keep h2n hb))
          have HSyn := Lib.hid (fun (w : World) (hb : Below wn.heap.size wn w) => HSy.out w (below_keep h2n hb))
          have HR1 := Lib.hid (And.intro hL1 (And.intro hS1 (And.intro hi0 hs1)))
          clear hbs hba hbn han h2n hzi hz hnz hb hza hs1 hi0 hi1 hco hL1 hS1 hLn hCC hc0 hc1 hSn HA HV HYd
          go_upto_region 10 with fail
          rw [show we.alloc (.cells (cS z) 29) = wn from HWn.out.1.symm, ← HWn.out.2]
          clear HWn
          refine Rel.wp_region_rel (G := Rel.Gr) (Rel.tab [.is (.int .i64 0), .is (.bool false), .is (.bool false), .is (Snp.valV z), .is (.int .i64 Ln), .is (Snp.valV y), .is (.int .i64 L1), .is (.int .i64 CC), .is (.pointer (some ⟨bj, 2, none⟩)), .is (.int .i64 j2), .is (.pointer (some ⟨bj, 3, none⟩)), .is (.int .i64 j3), .is (.int .i64 (j2 * j3)), .is (.pointer (some ⟨bj, 6, none⟩)), .is (.int .i64 j6), .is (.int .i64 CC), .is (.bool false), .is (.bool false), .is (.bool false), .is (Snp.valV z), .is (.int .i64 S1), .is (Snp.valV y), .is (.int .i64 S1), .is (.bool false), .is (.bool false)]) (fun _ w => Below wn.heap.size wn w) (by kernel_rfl) (by kernel_rfl) (by kernel_rfl) (by kernel_rfl) (fun w => Rel.gr_refl _) (below_drew _) ?_ ?_
          · refine ⟨?_, ?_, ?_, ?_, ?_, ?_, ?_, ?_, ?_, ?_, ?_, ?_, ?_, ?_, ?_, ?_, ?_, ?_, ?_, ?_, ?_, ?_, ?_, ?_, ?_, trivial⟩
            · intro L a w c
              refine .inl ⟨Rel.wanted_free (by kernel_rfl) _, ?_⟩
              exact Rel.wp_mv _ rfl ⟨_, rfl, Rel.gr_refl _, (c.old 15 (v := .int .i64 0) (by kernel_rfl) (by kernel_rfl)), c.inv⟩
            · intro L a w c
              refine .inl ⟨Rel.wanted_free (by kernel_rfl) _, ?_⟩
              exact Rel.wp_bo _ _ _ _ _ rfl (u := .bool false) (c.get 0 65 (by kernel_rfl)) rfl (by simp [go_sem]) ⟨_, rfl, Rel.gr_refl _, rfl, c.inv⟩
            · intro L a w c
              refine .inl ⟨Rel.wanted_free (by kernel_rfl) _, ?_⟩
              exact Rel.wp_mv _ rfl ⟨_, rfl, Rel.gr_refl _, (c.get 1 66 (by kernel_rfl)), c.inv⟩
            · intro L a w c
              refine .inl ⟨Rel.wanted_by (j := 2) (b := false) (d := 67) (by kernel_rfl) (c.get 2 67 (by kernel_rfl)), ?_⟩
              exact wp_load_st (.tmp 14) rfl bn (Rel.eval_tmp (c.old 14 (v := .pointer (some ⟨bn, 0, none⟩)) (by kernel_rfl) (by kernel_rfl))) z (HZ.out w c.inv).1 ⟨_, rfl, Rel.gr_refl _, rfl, c.inv⟩
            · intro L a w c
              refine .inl ⟨Rel.wanted_by (j := 2) (b := false) (d := 67) (by kernel_rfl) (c.get 2 67 (by kernel_rfl)), ?_⟩
              refine Rel.wp_cl _ _ _ rfl Tryz.func19 (by kernel_rfl) ?_
              show Calls _ _ #[Rel.slot a 68] w _
              rw [show Rel.slot a 68 = Snp.valV z from (c.get 3 68 (by kernel_rfl))]
              refine (HLz.out w c.inv).mono ?_
              rintro e w' ⟨rfl, hb⟩
              exact ⟨_, rfl, _, rfl, hb, rfl, below_keep c.inv hb⟩
            · intro L a w c
              refine .inl ⟨Rel.wanted_by (j := 2) (b := false) (d := 67) (by kernel_rfl) (c.get 2 67 (by kernel_rfl)), ?_⟩
              exact wp_load_st (.tmp 9) rfl B (Rel.eval_tmp (c.old 9 (v := .pointer (some ⟨B, 0, none⟩)) (by kernel_rfl) (by kernel_rfl))) y (HYn.out w c.inv).1 ⟨_, rfl, Rel.gr_refl _, rfl, c.inv⟩
            · intro L a w c
              refine .inl ⟨Rel.wanted_by (j := 2) (b := false) (d := 67) (by kernel_rfl) (c.get 2 67 (by kernel_rfl)), ?_⟩
              refine Rel.wp_cl _ _ _ rfl Tryz.func19 (by kernel_rfl) ?_
              show Calls _ _ #[Rel.slot a 70] w _
              rw [show Rel.slot a 70 = Snp.valV y from (c.get 5 70 (by kernel_rfl))]
              refine (HLyn.out w c.inv).mono ?_
              rintro e w' ⟨rfl, hb⟩
              exact ⟨_, rfl, _, rfl, hb, rfl, below_keep c.inv hb⟩
            · intro L a w c
              refine .inl ⟨Rel.wanted_by (j := 2) (b := false) (d := 67) (by kernel_rfl) (c.get 2 67 (by kernel_rfl)), ?_⟩
              exact Rel.wp_bo _ _ _ _ _ rfl (u := .int .i64 CC) (c.get 4 69 (by kernel_rfl)) (c.get 6 71 (by kernel_rfl)) (run_subI HNm.out.1 HNm.out.2.1 _ _ w) ⟨_, rfl, Rel.gr_refl _, rfl, c.inv⟩
            · intro L a w c
              refine .inl ⟨Rel.wanted_by (j := 2) (b := false) (d := 67) (by kernel_rfl) (c.get 2 67 (by kernel_rfl)), ?_⟩
              exact Chn.wp_fa _ _ _ rfl (c.old 11 (v := .pointer (some ⟨bj, 0, none⟩)) (by kernel_rfl) (by kernel_rfl)) (by simp [go_sem]) ⟨_, rfl, Rel.gr_refl _, rfl, c.inv⟩
            · intro L a w c
              refine .inl ⟨Rel.wanted_by (j := 2) (b := false) (d := 67) (by kernel_rfl) (c.get 2 67 (by kernel_rfl)), ?_⟩
              exact Rel.wp_ld _ _ rfl (c.get 8 73 (by kernel_rfl)) (Tre.run_ld2 (HJn.out w c.inv).2.1) ⟨_, rfl, Rel.gr_refl _, rfl, c.inv⟩
            · intro L a w c
              refine .inl ⟨Rel.wanted_by (j := 2) (b := false) (d := 67) (by kernel_rfl) (c.get 2 67 (by kernel_rfl)), ?_⟩
              exact Chn.wp_fa _ _ _ rfl (c.old 11 (v := .pointer (some ⟨bj, 0, none⟩)) (by kernel_rfl) (by kernel_rfl)) (by simp [go_sem]) ⟨_, rfl, Rel.gr_refl _, rfl, c.inv⟩
            · intro L a w c
              refine .inl ⟨Rel.wanted_by (j := 2) (b := false) (d := 67) (by kernel_rfl) (c.get 2 67 (by kernel_rfl)), ?_⟩
              exact Rel.wp_ld _ _ rfl (c.get 10 75 (by kernel_rfl)) (Tre.run_ld2 (HJn.out w c.inv).2.2.1) ⟨_, rfl, Rel.gr_refl _, rfl, c.inv⟩
            · intro L a w c
              refine .inl ⟨Rel.wanted_by (j := 2) (b := false) (d := 67) (by kernel_rfl) (c.get 2 67 (by kernel_rfl)), ?_⟩
              exact Rel.wp_bo _ _ _ _ _ rfl (u := .int .i64 (j2 * j3)) (c.get 9 74 (by kernel_rfl)) (c.get 11 76 (by kernel_rfl)) (run_mulI rfl HNm.out.2.2.1 _ _ w) ⟨_, rfl, Rel.gr_refl _, rfl, c.inv⟩
            · intro L a w c
              refine .inl ⟨Rel.wanted_by (j := 2) (b := false) (d := 67) (by kernel_rfl) (c.get 2 67 (by kernel_rfl)), ?_⟩
              exact Chn.wp_fa _ _ _ rfl (c.old 11 (v := .pointer (some ⟨bj, 0, none⟩)) (by kernel_rfl) (by kernel_rfl)) (by simp [go_sem]) ⟨_, rfl, Rel.gr_refl _, rfl, c.inv⟩
            · intro L a w c
              refine .inl ⟨Rel.wanted_by (j := 2) (b := false) (d := 67) (by kernel_rfl) (c.get 2 67 (by kernel_rfl)), ?_⟩
              exact Rel.wp_ld _ _ rfl (c.get 13 78 (by kernel_rfl)) (Tre.run_ld2 (HJn.out w c.inv).2.2.2) ⟨_, rfl, Rel.gr_refl _, rfl, c.inv⟩
            · intro L a w c
              refine .inl ⟨Rel.wanted_by (j := 2) (b := false) (d := 67) (by kernel_rfl) (c.get 2 67 (by kernel_rfl)), ?_⟩
              exact Rel.wp_bo _ _ _ _ _ rfl (u := .int .i64 CC) (c.get 12 77 (by kernel_rfl)) (c.get 14 79 (by kernel_rfl)) (run_mulI HNm.out.2.2.2 HNm.out.2.1 _ _ w) ⟨_, rfl, Rel.gr_refl _, rfl, c.inv⟩
            · intro L a w c
              refine .inl ⟨Rel.wanted_by (j := 2) (b := false) (d := 67) (by kernel_rfl) (c.get 2 67 (by kernel_rfl)), ?_⟩
              exact Rel.wp_bo _ _ _ _ _ rfl (u := .bool false) (c.get 7 72 (by kernel_rfl)) (c.get 15 80 (by kernel_rfl)) (by simp [go_sem]) ⟨_, rfl, Rel.gr_refl _, rfl, c.inv⟩
            · intro L a w c
              refine .inl ⟨Rel.wanted_free (by kernel_rfl) _, ?_⟩
              exact Rel.wp_pk _ _ _ rfl (b := false) (c.get 2 67 (by kernel_rfl)) ⟨_, rfl, Rel.gr_refl _, (c.get 16 81 (by kernel_rfl)), c.inv⟩
            · intro L a w c
              refine .inl ⟨Rel.wanted_free (by kernel_rfl) _, ?_⟩
              exact Rel.wp_mv _ rfl ⟨_, rfl, Rel.gr_refl _, (c.get 17 82 (by kernel_rfl)), c.inv⟩
            · intro L a w c
              refine .inl ⟨Rel.wanted_by (j := 18) (b := false) (d := 83) (by kernel_rfl) (c.get 18 83 (by kernel_rfl)), ?_⟩
              exact wp_load_st (.tmp 14) rfl bn (Rel.eval_tmp (c.old 14 (v := .pointer (some ⟨bn, 0, none⟩)) (by kernel_rfl) (by kernel_rfl))) z (HZ.out w c.inv).1 ⟨_, rfl, Rel.gr_refl _, rfl, c.inv⟩
            · intro L a w c
              refine .inl ⟨Rel.wanted_by (j := 18) (b := false) (d := 83) (by kernel_rfl) (c.get 18 83 (by kernel_rfl)), ?_⟩
              refine Rel.wp_cl _ _ _ rfl Tryz.func20 (by kernel_rfl) ?_
              show Calls _ _ #[Rel.slot a 84] w _
              rw [show Rel.slot a 84 = Snp.valV z from (c.get 19 84 (by kernel_rfl))]
              refine (HSz.out w c.inv).mono ?_
              rintro e w' ⟨rfl, hb⟩
              exact ⟨_, rfl, _, rfl, hb, rfl, below_keep c.inv hb⟩
            · intro L a w c
              refine .inl ⟨Rel.wanted_by (j := 18) (b := false) (d := 83) (by kernel_rfl) (c.get 18 83 (by kernel_rfl)), ?_⟩
              exact wp_load_st (.tmp 9) rfl B (Rel.eval_tmp (c.old 9 (v := .pointer (some ⟨B, 0, none⟩)) (by kernel_rfl) (by kernel_rfl))) y (HYn.out w c.inv).1 ⟨_, rfl, Rel.gr_refl _, rfl, c.inv⟩
            · intro L a w c
              refine .inl ⟨Rel.wanted_by (j := 18) (b := false) (d := 83) (by kernel_rfl) (c.get 18 83 (by kernel_rfl)), ?_⟩
              refine Rel.wp_cl _ _ _ rfl Tryz.func20 (by kernel_rfl) ?_
              show Calls _ _ #[Rel.slot a 86] w _
              rw [show Rel.slot a 86 = Snp.valV y from (c.get 21 86 (by kernel_rfl))]
              refine (HSyn.out w c.inv).mono ?_
              rintro e w' ⟨rfl, hb⟩
              exact ⟨_, rfl, _, rfl, hb, rfl, below_keep c.inv hb⟩
            · intro L a w c
              refine .inl ⟨Rel.wanted_by (j := 18) (b := false) (d := 83) (by kernel_rfl) (c.get 18 83 (by kernel_rfl)), ?_⟩
              exact Rel.wp_bo _ _ _ _ _ rfl (u := .bool false) (c.get 20 85 (by kernel_rfl)) (c.get 22 87 (by kernel_rfl)) (by simp [go_sem]) ⟨_, rfl, Rel.gr_refl _, rfl, c.inv⟩
            · intro L a w c
              refine .inl ⟨Rel.wanted_free (by kernel_rfl) _, ?_⟩
              exact Rel.wp_pk _ _ _ rfl (b := false) (c.get 18 83 (by kernel_rfl)) ⟨_, rfl, Rel.gr_refl _, (c.get 23 88 (by kernel_rfl)), c.inv⟩
          intro a wp hbase hroom hdef hJ hV
          have hbp : Below wn.heap.size wn wp := hJ
          clear hJ
          have s89 : Rel.slot a 89 = .bool false := hV 24 _ _ rfl rfl
          rw [Chn.act_puts [65, 66, 67, 68, 69, 70, 71, 72, 73, 74, 75, 76, 77, 78, 79, 80, 81, 82, 83, 84, 85, 86, 87, 88, 89] hbase hroom hdef (by kernel_rfl)]
          clear hbase hroom hdef hV
          simp only [List.foldl_cons, List.foldl_nil]
          generalize Rel.slot a 65 = u65 at *
          generalize Rel.slot a 66 = u66 at *
          generalize Rel.slot a 67 = u67 at *
          generalize Rel.slot a 68 = u68 at *
          generalize Rel.slot a 69 = u69 at *
          generalize Rel.slot a 70 = u70 at *
          generalize Rel.slot a 71 = u71 at *
          generalize Rel.slot a 72 = u72 at *
          generalize Rel.slot a 73 = u73 at *
          generalize Rel.slot a 74 = u74 at *
          generalize Rel.slot a 75 = u75 at *
          generalize Rel.slot a 76 = u76 at *
          generalize Rel.slot a 77 = u77 at *
          generalize Rel.slot a 78 = u78 at *
          generalize Rel.slot a 79 = u79 at *
          generalize Rel.slot a 80 = u80 at *
          generalize Rel.slot a 81 = u81 at *
          generalize Rel.slot a 82 = u82 at *
          generalize Rel.slot a 83 = u83 at *
          generalize Rel.slot a 84 = u84 at *
          generalize Rel.slot a 85 = u85 at *
          generalize Rel.slot a 86 = u86 at *
          generalize Rel.slot a 87 = u87 at *
          generalize Rel.slot a 88 = u88 at *
          rw [s89]
          clear s89
          simp only [Act.put, List.setIfInBounds_toArray, List.set_cons_succ, List.set_cons_zero]
          have hbk : doE N (txR j0) = 0 ∧ (doS N (txR j0)).allocs = y.allocs ∧ (doS N (txR j0)).world = y.world := back_of HG.out.1 HN.out.1
          have HBk := Lib.hid hbk
          have HBp := Lib.hid (And.intro hbp (below_keep HBn.out.1 hbp))
          have HZp := Lib.hid (HZ.out wp hbp)
          have q0 := (HJn.out wp hbp).1
          have hbb := below_alloc wp (.cells #[.int .i64 j0] 3)
          have hib : IntsL (wp.alloc (.cells #[.int .i64 j0] 3)) (some ⟨wp.heap.size, 0, none⟩) 1 1 (txR j0).args := lst_new encI_len wp [j0] _ _ _ 1 rfl rfl rfl (by omega)
          obtain ⟨wq, hwq⟩ : ∃ zz, zz = wp.alloc (.cells #[.int .i64 j0] 3) := ⟨_, rfl⟩
          rw [← hwq] at hbb hib
          have HF := Lib.hid (show Calls Tryz.prog 10 #[Snp.valV z, Ent.valV ⟨txR j0, some ⟨wp.heap.size, 0, none⟩, 1, 1, none, 0, 0⟩] wq fun e W' => ∃ v : Tv, e = .returned (.tuple #[Ent.valV v, .int .i64 0]) ∧ v.t = doT N (txR j0) ∧ NewT W' wq.heap.size v ∧ Below wq.heap.size wq W' from by
            have h := HP.out.fill wq z ⟨txR j0, some ⟨wp.heap.size, 0, none⟩, 1, 1, none, 0, 0⟩ (HZ.out wq (below_keep hbp hbb)).2 (by rw [HZt.out]; exact HN.out.2.2.1) (by rw [HZt.out]; exact HN.out.2.1) (tv_in hib rfl (Nat.zero_le 1) (Nat.zero_le 1)) (txR_ok HJt.out.2.1)
            rw [HZt.out, hbk.1] at h
            exact h)
          have HWq := Lib.hid (And.intro hwq (below_keep hbp hbb))
          clear hbb hib hwq hbk hbp
          go_wp2_with (first | (refine Arr.wpList_load_blk rfl 29 (.tmp 14) rfl bn rfl (Snp.encV z) 29 HZp.out.1 _ Tryz.underlying29 rfl info_st ?_) | fail)
          rw [← HWq.out.1]
          refine HF.out.mono ?_
          rintro e wc2 ⟨v2, rfl, hv, hnv, hb⟩
          have hbs := Arr.blk_new wc2 wc2.heap.size 34 (Ent.encV v2) rfl
          have hba := below_alloc wc2 (.cells (Ent.encV v2).toArray 34)
          obtain ⟨bv2, hB⟩ : ∃ zz, zz = wc2.heap.size := ⟨_, rfl⟩
          obtain ⟨wg, hw⟩ : ∃ zz, zz = wc2.alloc (.cells (Ent.encV v2).toArray 34) := ⟨_, rfl⟩
          rw [← hw, ← hB] at hbs
          rw [← hw] at hba
          have HWg := Lib.hid (And.intro (show wg = wc2.alloc (.cells (cT v2) 34) from hw) hB)
          clear hB hw
          have hbg := below_keep HWq.out.2 (below_keep hb hba)
          have HV2 := Lib.hid (And.intro hbs (And.intro (newT_keep hnv hba).inn hv))
          have HZg := Lib.hid (And.intro (HZ.out wg hbg) hbg)
          have HA := Lib.hid (show Calls Tryz.prog 13 #[Snp.valV z, Ent.valV v2] wg fun e W' => ∃ m : Sv, e = .returned (.tuple #[Snp.valV m, .int .i64 0]) ∧ m.t = doS N (txR j0) ∧ NewS W' wg.heap.size m ∧ Below wg.heap.size wg W' from by
            have h := HP.out.apply wg z v2 HZg.out.1.2 (by rw [HZt.out]; exact HN.out.2.2.1) (by rw [HZt.out]; exact HN.out.2.1) HV2.out.2.1 (by rw [HV2.out.2.2]; exact filled_ok HN.out.2.1 HN.out.2.2.1 (txR_ok HJt.out.2.1))
            rw [HV2.out.2.2, HZt.out, (apply_filled HBk.out.1).1, (apply_filled HBk.out.1).2] at h
            exact h)
          clear hbs hba hbg hv hnv hb HF HWq HZp q0
          go_upto_region 13 with fail
          rw [show wc2.alloc (.cells (cT v2) 34) = wg from HWg.out.1.symm, ← HWg.out.2]
          clear HWg
          go_wp2_with (first | (refine Arr.wpList_load_blk rfl 29 (.tmp 14) rfl bn rfl (Snp.encV z) 29 HZg.out.1.1 _ Tryz.underlying29 rfl info_st ?_) | (refine Arr.wpList_load_blk rfl 34 (.tmp 16) rfl bv2 rfl (Ent.encV v2) 34 HV2.out.1 _ Tryz.underlying34 rfl info_tx7 ?_) | fail)
          refine HA.out.mono ?_
          rintro e wh ⟨m, rfl, hmt, hnm, hb⟩
          have hbs := Arr.blk_new wh wh.heap.size 29 (Snp.encV m) rfl
          have hba := below_alloc wh (.cells (Snp.encV m).toArray 29)
          obtain ⟨bm, hB⟩ : ∃ zz, zz = wh.heap.size := ⟨_, rfl⟩
          obtain ⟨wi, hw⟩ : ∃ zz, zz = wh.alloc (.cells (Snp.encV m).toArray 29) := ⟨_, rfl⟩
          rw [← hw, ← hB] at hbs
          rw [← hw] at hba
          have HWi := Lib.hid (And.intro (show wi = wh.alloc (.cells (cS m) 29) from hw) hB)
          clear hB hw
          have hbi := below_keep HZg.out.2 (below_keep hb hba)
          have hmi := (newS_keep hnm hba).inn
          have hma : m.allocs = y.allocs := (congrArg Sn.allocs hmt).trans HBk.out.2.1
          have hmw : m.world = y.world := (congrArg Sn.world hmt).trans HBk.out.2.2
          have hyi := HYn.out wi hbi
          have hml : m.l.n = y.l.n := by
            have h1 := hmi.allocs.len
            have h2 := hyi.2.1.allocs.len
            rw [hma] at h1
            omega
          have hmal := hmi.allocs
          rw [hma, hml] at hmal
          have HSa := Lib.hid (Led.same_any m.l.a y.l.a y.l.n m.l.c y.l.c y.allocs wi hmal hyi.2.1.allocs)
          obtain ⟨-, r1, -, -, r4, -, -, -⟩ := Snp.box_cells hbs
          obtain ⟨-, s1, -, -, s4, -, -, -⟩ := Snp.box_cells hyi.1
          rw [hmw] at r1
          rw [hml] at r4
          have HR := Lib.hid (And.intro r1 s1)
          have HBi := Lib.hid hbi
          clear hbs hba hbi hmi hma hmw hyi hml hmal r1 s1 hmt hnm hb HA HV2 HZg
          go_upto_region 14 with fail
          rw [show wh.alloc (.cells (cS m) 29) = wi from HWi.out.1.symm, ← HWi.out.2]
          clear HWi
          go_wp2_with fail
          refine HSa.out.mono ?_
          rintro e wj ⟨rfl, hb⟩
          have r1 := cell_keep hb HR.out.1
          have s1 := cell_keep hb HR.out.2
          have hbj := below_keep HBi.out hb
          have HBj := Lib.hid hbj
          obtain ⟨q0, -, q3, -⟩ := HJn.out wj hbj
          have hw1 := HJt.out.2.2.1
          have hw2 := HJt.out.2.2.2
          clear hb hbj HSa r4 s4
          go_upto_region 17 with fail
          obtain ⟨kk, hkk⟩ : ∃ zz, zz = used % (j3 + 1) := ⟨_, rfl⟩
          rw [← hkk]
          have hk0 : 0 ≤ kk ∧ kk ≤ j3 := by
            have h1 := Int.emod_nonneg used (b := j3 + 1) (by omega)
            have h2 := Int.emod_lt_of_pos used (b := j3 + 1) (by omega)
            rw [hkk]; omega
          have htx := txE_ok (id := j0) (k := kk) HJt.out.2.1 (by omega)
          have hen : doE N (txE j0 kk) = 0 ∧ lienS (doS N (txE j0 kk)).allocs = lienS y.allocs ∧ spentS (doS N (txE j0 kk)).allocs = spentS y.allocs + j2 * kk * j6 ∧ doE (doS N (txE j0 kk)) (txE j0 kk) = 9 := end_of HG.out.1 HN.out.1 hk0
          have hcl := cost_less HN.out.1.cost hk0
          have hco := cost_ok HN.out.1.cost
          simp only at hcl hco
          have HEn := Lib.hid (And.intro hen (And.intro htx hk0))
          have HInv := Lib.hid (And.intro (inv_do HN.out.2 (by omega) htx hen.1) (do_good hen.1 HN.out.1.good))
          have HCo := Lib.hid (And.intro hcl hco)
          have HZj := Lib.hid (HZ.out wj HBj.out)
          have hbb := below_alloc wj (.cells #[.int .i64 j0, .int .i64 kk] 3)
          have hib : IntsL (wj.alloc (.cells #[.int .i64 j0, .int .i64 kk] 3)) (some ⟨wj.heap.size, 0, none⟩) 2 2 (txE j0 kk).args := lst_new encI_len wj [j0, kk] _ _ _ 2 rfl rfl rfl (by omega)
          obtain ⟨wk, hwk⟩ : ∃ zz, zz = wj.alloc (.cells #[.int .i64 j0, .int .i64 kk] 3) := ⟨_, rfl⟩
          rw [← hwk] at hbb hib
          have HF := Lib.hid (show Calls Tryz.prog 10 #[Snp.valV z, Ent.valV ⟨txE j0 kk, some ⟨wj.heap.size, 0, none⟩, 2, 2, none, 0, 0⟩] wk fun e W' => ∃ v : Tv, e = .returned (.tuple #[Ent.valV v, .int .i64 0]) ∧ v.t = doT N (txE j0 kk) ∧ NewT W' wk.heap.size v ∧ Below wk.heap.size wk W' from by
            have h := HP.out.fill wk z ⟨txE j0 kk, some ⟨wj.heap.size, 0, none⟩, 2, 2, none, 0, 0⟩ (HZ.out wk (below_keep HBj.out hbb)).2 (by rw [HZt.out]; exact HN.out.2.2.1) (by rw [HZt.out]; exact HN.out.2.1) (tv_in hib rfl (Nat.zero_le 1) (Nat.zero_le 1)) htx
            rw [HZt.out, hen.1] at h
            exact h)
          have HWk := Lib.hid (And.intro hwk (below_keep HBj.out hbb))
          clear hbb hib hwk hen hcl hco htx hk0 hkk hw1 hw2 r1 s1 q3
          go_wp2_with (first | (refine Arr.wpList_load_blk rfl 29 (.tmp 14) rfl bn rfl (Snp.encV z) 29 HZj.out.1 _ Tryz.underlying29 rfl info_st ?_) | fail)
          rw [← HWk.out.1]
          refine HF.out.mono ?_
          rintro e wl ⟨v3, rfl, hv, hnv, hb⟩
          have hbs := Arr.blk_new wl wl.heap.size 34 (Ent.encV v3) rfl
          have hba := below_alloc wl (.cells (Ent.encV v3).toArray 34)
          obtain ⟨bv3, hB⟩ : ∃ zz, zz = wl.heap.size := ⟨_, rfl⟩
          obtain ⟨wm, hw⟩ : ∃ zz, zz = wl.alloc (.cells (Ent.encV v3).toArray 34) := ⟨_, rfl⟩
          rw [← hw, ← hB] at hbs
          rw [← hw] at hba
          have HWm := Lib.hid (And.intro (show wm = wl.alloc (.cells (cT v3) 34) from hw) hB)
          clear hB hw
          have hbm := below_keep HWk.out.2 (below_keep hb hba)
          have HV3 := Lib.hid (And.intro hbs (And.intro (newT_keep hnv hba).inn hv))
          have HZm := Lib.hid (And.intro (HZ.out wm hbm) hbm)
          have HA := Lib.hid (show Calls Tryz.prog 13 #[Snp.valV z, Ent.valV v3] wm fun e W' => ∃ o : Sv, e = .returned (.tuple #[Snp.valV o, .int .i64 0]) ∧ o.t = doS N (txE j0 kk) ∧ NewS W' wm.heap.size o ∧ Below wm.heap.size wm W' from by
            have h := HP.out.apply wm z v3 HZm.out.1.2 (by rw [HZt.out]; exact HN.out.2.2.1) (by rw [HZt.out]; exact HN.out.2.1) HV3.out.2.1 (by rw [HV3.out.2.2]; exact filled_ok HN.out.2.1 HN.out.2.2.1 HEn.out.2.1)
            rw [HV3.out.2.2, HZt.out, (apply_filled HEn.out.1.1).1, (apply_filled HEn.out.1.1).2] at h
            exact h)
          clear hbs hba hbm hv hnv hb HF HWk HZj q0
          go_upto_region 18 with fail
          rw [show wl.alloc (.cells (cT v3) 34) = wm from HWm.out.1.symm, ← HWm.out.2]
          clear HWm
          go_wp2_with (first | (refine Arr.wpList_load_blk rfl 29 (.tmp 14) rfl bn rfl (Snp.encV z) 29 HZm.out.1.1 _ Tryz.underlying29 rfl info_st ?_) | (refine Arr.wpList_load_blk rfl 34 (.tmp 21) rfl bv3 rfl (Ent.encV v3) 34 HV3.out.1 _ Tryz.underlying34 rfl info_tx7 ?_) | fail)
          refine HA.out.mono ?_
          rintro e wo ⟨o, rfl, hot, hno, hb⟩
          have hbs := Arr.blk_new wo wo.heap.size 29 (Snp.encV o) rfl
          have hba := below_alloc wo (.cells (Snp.encV o).toArray 29)
          obtain ⟨bo, hB⟩ : ∃ zz, zz = wo.heap.size := ⟨_, rfl⟩
          obtain ⟨wt, hw⟩ : ∃ zz, zz = wo.alloc (.cells (Snp.encV o).toArray 29) := ⟨_, rfl⟩
          rw [← hw, ← hB] at hbs
          rw [← hw] at hba
          have HWt := Lib.hid (And.intro (show wt = wo.alloc (.cells (cS o) 29) from hw) hB)
          clear hB hw
          have hbt := below_keep HZm.out.2 (below_keep hb hba)
          have hoi := (newS_keep hno hba).inn
          have HO := Lib.hid (fun (w : World) (hb : Below wt.heap.size wt w) => (show Arr.Blk w bo 29 (Snp.encV o) ∧ o.In w from ⟨Arr.blk_below hbs hb (Arr.blk_lt hbs), Snp.in_keep hoi hb⟩))
          have HYt := Lib.hid (fun (w : World) (hb : Below wt.heap.size wt w) => HYn.out w (below_keep hbt hb))
          have HJt2 := Lib.hid (fun (w : World) (hb : Below wt.heap.size wt w) => HJn.out w (below_keep hbt hb))
          have HLyt := Lib.hid (fun (w : World) (hb : Below wt.heap.size wt w) => HLyn.out w (below_keep hbt hb))
          have HSyt := Lib.hid (fun (w : World) (hb : Below wt.heap.size wt w) => HSyn.out w (below_keep hbt hb))
          have HOt := Lib.hid hot
          have HBt := Lib.hid hbt
          have hoa : o.allocs = (doS N (txE j0 kk)).allocs := congrArg Sn.allocs hot
          have hl := HEn.out.1.2.1
          have hs := HEn.out.1.2.2.1
          have hi := sums_in HInv.out.2.sol
          rw [← hoa] at hl hs hi
          rw [← HR1.out.1] at hl
          rw [← HR1.out.2.1] at hs
          have hr1 := HR1.out.2.2.1
          have hcl := HCo.out.1
          have hco := HCo.out.2
          obtain ⟨So, hSo⟩ : ∃ zz, zz = spentS o.allocs := ⟨_, rfl⟩
          obtain ⟨CK, hCK⟩ : ∃ zz, zz = j2 * kk * j6 := ⟨_, rfl⟩
          rw [← hSo, ← hCK] at hs
          rw [← hSo] at hi
          rw [← hCK] at hcl
          have HNk := Lib.hid (show So - S1 = CK ∧ (-9223372036854775808 ≤ CK ∧ CK ≤ 9223372036854775807) ∧ (-9223372036854775808 ≤ j2 * kk ∧ j2 * kk ≤ 9223372036854775807) ∧ j2 * kk * j6 = CK from ⟨by omega, by omega, by omega, hCK.symm⟩)
          have HLo := Lib.hid (fun (w : World) (hb : Below wt.heap.size wt w) => (show Calls Tryz.prog 19 #[Snp.valV o] w fun e W' => e = .returned (.int .i64 L1) ∧ Below w.heap.size w W' from by
            have h := liened_any w o (HO.out w hb).2
            rw [hl, Drw.wrap_in (by omega) (by omega)] at h
            exact h))
          have HSo := Lib.hid (fun (w : World) (hb : Below wt.heap.size wt w) => (show Calls Tryz.prog 20 #[Snp.valV o] w fun e W' => e = .returned (.int .i64 So) ∧ Below w.heap.size w W' from by
            have h := spent_any w o (HO.out w hb).2
            rw [← hSo, Drw.wrap_in (by omega) (by omega)] at h
            exact h))
          clear hbs hba hbt hoi hot hno hb hoa hl hs hi hr1 hcl hco hSo hCK HA HV3 HZm
          go_upto_region 19 with fail
          rw [show wo.alloc (.cells (cS o) 29) = wt from HWt.out.1.symm, ← HWt.out.2]
          clear HWt
          refine Rel.wp_region_rel (G := Rel.Gr) (Rel.tab [.is (.int .i64 0), .is (.bool false), .is (.bool false), .is (.int .i64 0), .is (.bool false), .is (.bool false), .is (.bool false), .is (Snp.valV o), .is (.int .i64 L1), .is (Snp.valV y), .is (.int .i64 L1), .is (.bool false), .is (.bool false), .is (.bool false), .is (Snp.valV o), .is (.int .i64 So), .is (Snp.valV y), .is (.int .i64 S1), .is (.int .i64 CK), .is (.pointer (some ⟨bj, 2, none⟩)), .is (.int .i64 j2), .is (.int .i64 kk), .is (.int .i64 (j2 * kk)), .is (.pointer (some ⟨bj, 6, none⟩)), .is (.int .i64 j6), .is (.int .i64 CK), .is (.bool false), .is (.bool false)]) (fun _ w => Below wt.heap.size wt w) (by kernel_rfl) (by kernel_rfl) (by kernel_rfl) (by kernel_rfl) (fun w => Rel.gr_refl _) (below_drew _) ?_ ?_
          · refine ⟨?_, ?_, ?_, ?_, ?_, ?_, ?_, ?_, ?_, ?_, ?_, ?_, ?_, ?_, ?_, ?_, ?_, ?_, ?_, ?_, ?_, ?_, ?_, ?_, ?_, ?_, ?_, ?_, trivial⟩
            · intro L a w c
              refine .inl ⟨Rel.wanted_free (by kernel_rfl) _, ?_⟩
              exact Rel.wp_mv _ rfl ⟨_, rfl, Rel.gr_refl _, (c.old 22 (v := .int .i64 0) (by kernel_rfl) (by kernel_rfl)), c.inv⟩
            · intro L a w c
              refine .inl ⟨Rel.wanted_free (by kernel_rfl) _, ?_⟩
              exact Rel.wp_bo _ _ _ _ _ rfl (u := .bool false) (c.get 0 148 (by kernel_rfl)) rfl (by simp [go_sem]) ⟨_, rfl, Rel.gr_refl _, rfl, c.inv⟩
            · intro L a w c
              refine .inl ⟨Rel.wanted_free (by kernel_rfl) _, ?_⟩
              exact Rel.wp_mv _ rfl ⟨_, rfl, Rel.gr_refl _, (c.get 1 149 (by kernel_rfl)), c.inv⟩
            · intro L a w c
              refine .inl ⟨Rel.wanted_by (j := 2) (b := false) (d := 150) (by kernel_rfl) (c.get 2 150 (by kernel_rfl)), ?_⟩
              exact Rel.wp_mv _ rfl ⟨_, rfl, Rel.gr_refl _, (c.old 24 (v := .int .i64 0) (by kernel_rfl) (by kernel_rfl)), c.inv⟩
            · intro L a w c
              refine .inl ⟨Rel.wanted_by (j := 2) (b := false) (d := 150) (by kernel_rfl) (c.get 2 150 (by kernel_rfl)), ?_⟩
              exact Rel.wp_bo _ _ _ _ _ rfl (u := .bool false) (c.get 3 151 (by kernel_rfl)) rfl (by simp [go_sem]) ⟨_, rfl, Rel.gr_refl _, rfl, c.inv⟩
            · intro L a w c
              refine .inl ⟨Rel.wanted_free (by kernel_rfl) _, ?_⟩
              exact Rel.wp_pk _ _ _ rfl (b := false) (c.get 2 150 (by kernel_rfl)) ⟨_, rfl, Rel.gr_refl _, (c.get 4 152 (by kernel_rfl)), c.inv⟩
            · intro L a w c
              refine .inl ⟨Rel.wanted_free (by kernel_rfl) _, ?_⟩
              exact Rel.wp_mv _ rfl ⟨_, rfl, Rel.gr_refl _, (c.get 5 153 (by kernel_rfl)), c.inv⟩
            · intro L a w c
              refine .inl ⟨Rel.wanted_by (j := 6) (b := false) (d := 154) (by kernel_rfl) (c.get 6 154 (by kernel_rfl)), ?_⟩
              exact wp_load_st (.tmp 23) rfl bo (Rel.eval_tmp (c.old 23 (v := .pointer (some ⟨bo, 0, none⟩)) (by kernel_rfl) (by kernel_rfl))) o (HO.out w c.inv).1 ⟨_, rfl, Rel.gr_refl _, rfl, c.inv⟩
            · intro L a w c
              refine .inl ⟨Rel.wanted_by (j := 6) (b := false) (d := 154) (by kernel_rfl) (c.get 6 154 (by kernel_rfl)), ?_⟩
              refine Rel.wp_cl _ _ _ rfl Tryz.func19 (by kernel_rfl) ?_
              show Calls _ _ #[Rel.slot a 155] w _
              rw [show Rel.slot a 155 = Snp.valV o from (c.get 7 155 (by kernel_rfl))]
              refine (HLo.out w c.inv).mono ?_
              rintro e w' ⟨rfl, hb⟩
              exact ⟨_, rfl, _, rfl, hb, rfl, below_keep c.inv hb⟩
            · intro L a w c
              refine .inl ⟨Rel.wanted_by (j := 6) (b := false) (d := 154) (by kernel_rfl) (c.get 6 154 (by kernel_rfl)), ?_⟩
              exact wp_load_st (.tmp 9) rfl B (Rel.eval_tmp (c.old 9 (v := .pointer (some ⟨B, 0, none⟩)) (by kernel_rfl) (by kernel_rfl))) y (HYt.out w c.inv).1 ⟨_, rfl, Rel.gr_refl _, rfl, c.inv⟩
            · intro L a w c
              refine .inl ⟨Rel.wanted_by (j := 6) (b := false) (d := 154) (by kernel_rfl) (c.get 6 154 (by kernel_rfl)), ?_⟩
              refine Rel.wp_cl _ _ _ rfl Tryz.func19 (by kernel_rfl) ?_
              show Calls _ _ #[Rel.slot a 157] w _
              rw [show Rel.slot a 157 = Snp.valV y from (c.get 9 157 (by kernel_rfl))]
              refine (HLyt.out w c.inv).mono ?_
              rintro e w' ⟨rfl, hb⟩
              exact ⟨_, rfl, _, rfl, hb, rfl, below_keep c.inv hb⟩
            · intro L a w c
              refine .inl ⟨Rel.wanted_by (j := 6) (b := false) (d := 154) (by kernel_rfl) (c.get 6 154 (by kernel_rfl)), ?_⟩
              exact Rel.wp_bo _ _ _ _ _ rfl (u := .bool false) (c.get 8 156 (by kernel_rfl)) (c.get 10 158 (by kernel_rfl)) (by simp [go_sem]) ⟨_, rfl, Rel.gr_refl _, rfl, c.inv⟩
            · intro L a w c
              refine .inl ⟨Rel.wanted_free (by kernel_rfl) _, ?_⟩
              exact Rel.wp_pk _ _ _ rfl (b := false) (c.get 6 154 (by kernel_rfl)) ⟨_, rfl, Rel.gr_refl _, (c.get 11 159 (by kernel_rfl)), c.inv⟩
            · intro L a w c
              refine .inl ⟨Rel.wanted_free (by kernel_rfl) _, ?_⟩
              exact Rel.wp_mv _ rfl ⟨_, rfl, Rel.gr_refl _, (c.get 12 160 (by kernel_rfl)), c.inv⟩
            · intro L a w c
              refine .inl ⟨Rel.wanted_by (j := 13) (b := false) (d := 161) (by kernel_rfl) (c.get 13 161 (by kernel_rfl)), ?_⟩
              exact wp_load_st (.tmp 23) rfl bo (Rel.eval_tmp (c.old 23 (v := .pointer (some ⟨bo, 0, none⟩)) (by kernel_rfl) (by kernel_rfl))) o (HO.out w c.inv).1 ⟨_, rfl, Rel.gr_refl _, rfl, c.inv⟩
            · intro L a w c
              refine .inl ⟨Rel.wanted_by (j := 13) (b := false) (d := 161) (by kernel_rfl) (c.get 13 161 (by kernel_rfl)), ?_⟩
              refine Rel.wp_cl _ _ _ rfl Tryz.func20 (by kernel_rfl) ?_
              show Calls _ _ #[Rel.slot a 162] w _
              rw [show Rel.slot a 162 = Snp.valV o from (c.get 14 162 (by kernel_rfl))]
              refine (HSo.out w c.inv).mono ?_
              rintro e w' ⟨rfl, hb⟩
              exact ⟨_, rfl, _, rfl, hb, rfl, below_keep c.inv hb⟩
            · intro L a w c
              refine .inl ⟨Rel.wanted_by (j := 13) (b := false) (d := 161) (by kernel_rfl) (c.get 13 161 (by kernel_rfl)), ?_⟩
              exact wp_load_st (.tmp 9) rfl B (Rel.eval_tmp (c.old 9 (v := .pointer (some ⟨B, 0, none⟩)) (by kernel_rfl) (by kernel_rfl))) y (HYt.out w c.inv).1 ⟨_, rfl, Rel.gr_refl _, rfl, c.inv⟩
            · intro L a w c
              refine .inl ⟨Rel.wanted_by (j := 13) (b := false) (d := 161) (by kernel_rfl) (c.get 13 161 (by kernel_rfl)), ?_⟩
              refine Rel.wp_cl _ _ _ rfl Tryz.func20 (by kernel_rfl) ?_
              show Calls _ _ #[Rel.slot a 164] w _
              rw [show Rel.slot a 164 = Snp.valV y from (c.get 16 164 (by kernel_rfl))]
              refine (HSyt.out w c.inv).mono ?_
              rintro e w' ⟨rfl, hb⟩
              exact ⟨_, rfl, _, rfl, hb, rfl, below_keep c.inv hb⟩
            · intro L a w c
              refine .inl ⟨Rel.wanted_by (j := 13) (b := false) (d := 161) (by kernel_rfl) (c.get 13 161 (by kernel_rfl)), ?_⟩
              exact Rel.wp_bo _ _ _ _ _ rfl (u := .int .i64 CK) (c.get 15 163 (by kernel_rfl)) (c.get 17 165 (by kernel_rfl)) (run_subI HNk.out.1 HNk.out.2.1 _ _ w) ⟨_, rfl, Rel.gr_refl _, rfl, c.inv⟩
            · intro L a w c
              refine .inl ⟨Rel.wanted_by (j := 13) (b := false) (d := 161) (by kernel_rfl) (c.get 13 161 (by kernel_rfl)), ?_⟩
              exact Chn.wp_fa _ _ _ rfl (c.old 11 (v := .pointer (some ⟨bj, 0, none⟩)) (by kernel_rfl) (by kernel_rfl)) (by simp [go_sem]) ⟨_, rfl, Rel.gr_refl _, rfl, c.inv⟩
            · intro L a w c
              refine .inl ⟨Rel.wanted_by (j := 13) (b := false) (d := 161) (by kernel_rfl) (c.get 13 161 (by kernel_rfl)), ?_⟩
              exact Rel.wp_ld _ _ rfl (c.get 19 167 (by kernel_rfl)) (Tre.run_ld2 (HJt2.out w c.inv).2.1) ⟨_, rfl, Rel.gr_refl _, rfl, c.inv⟩
            · intro L a w c
              refine .inl ⟨Rel.wanted_by (j := 13) (b := false) (d := 161) (by kernel_rfl) (c.get 13 161 (by kernel_rfl)), ?_⟩
              exact Rel.wp_mv _ rfl ⟨_, rfl, Rel.gr_refl _, (c.old 20 (v := .int .i64 kk) (by kernel_rfl) (by kernel_rfl)), c.inv⟩
            · intro L a w c
              refine .inl ⟨Rel.wanted_by (j := 13) (b := false) (d := 161) (by kernel_rfl) (c.get 13 161 (by kernel_rfl)), ?_⟩
              exact Rel.wp_bo _ _ _ _ _ rfl (u := .int .i64 (j2 * kk)) (c.get 20 168 (by kernel_rfl)) (c.get 21 169 (by kernel_rfl)) (run_mulI rfl HNk.out.2.2.1 _ _ w) ⟨_, rfl, Rel.gr_refl _, rfl, c.inv⟩
            · intro L a w c
              refine .inl ⟨Rel.wanted_by (j := 13) (b := false) (d := 161) (by kernel_rfl) (c.get 13 161 (by kernel_rfl)), ?_⟩
              exact Chn.wp_fa _ _ _ rfl (c.old 11 (v := .pointer (some ⟨bj, 0, none⟩)) (by kernel_rfl) (by kernel_rfl)) (by simp [go_sem]) ⟨_, rfl, Rel.gr_refl _, rfl, c.inv⟩
            · intro L a w c
              refine .inl ⟨Rel.wanted_by (j := 13) (b := false) (d := 161) (by kernel_rfl) (c.get 13 161 (by kernel_rfl)), ?_⟩
              exact Rel.wp_ld _ _ rfl (c.get 23 171 (by kernel_rfl)) (Tre.run_ld2 (HJt2.out w c.inv).2.2.2) ⟨_, rfl, Rel.gr_refl _, rfl, c.inv⟩
            · intro L a w c
              refine .inl ⟨Rel.wanted_by (j := 13) (b := false) (d := 161) (by kernel_rfl) (c.get 13 161 (by kernel_rfl)), ?_⟩
              exact Rel.wp_bo _ _ _ _ _ rfl (u := .int .i64 CK) (c.get 22 170 (by kernel_rfl)) (c.get 24 172 (by kernel_rfl)) (run_mulI HNk.out.2.2.2 HNk.out.2.1 _ _ w) ⟨_, rfl, Rel.gr_refl _, rfl, c.inv⟩
            · intro L a w c
              refine .inl ⟨Rel.wanted_by (j := 13) (b := false) (d := 161) (by kernel_rfl) (c.get 13 161 (by kernel_rfl)), ?_⟩
              exact Rel.wp_bo _ _ _ _ _ rfl (u := .bool false) (c.get 18 166 (by kernel_rfl)) (c.get 25 173 (by kernel_rfl)) (by simp [go_sem]) ⟨_, rfl, Rel.gr_refl _, rfl, c.inv⟩
            · intro L a w c
              refine .inl ⟨Rel.wanted_free (by kernel_rfl) _, ?_⟩
              exact Rel.wp_pk _ _ _ rfl (b := false) (c.get 13 161 (by kernel_rfl)) ⟨_, rfl, Rel.gr_refl _, (c.get 26 174 (by kernel_rfl)), c.inv⟩
          intro a wu hbase hroom hdef hJ hV
          have hbu : Below wt.heap.size wt wu := hJ
          clear hJ
          have s175 : Rel.slot a 175 = .bool false := hV 27 _ _ rfl rfl
          rw [Chn.act_puts [148, 149, 150, 151, 152, 153, 154, 155, 156, 157, 158, 159, 160, 161, 162, 163, 164, 165, 166, 167, 168, 169, 170, 171, 172, 173, 174, 175] hbase hroom hdef (by kernel_rfl)]
          clear hbase hroom hdef hV
          simp only [List.foldl_cons, List.foldl_nil]
          generalize Rel.slot a 148 = u148 at *
          generalize Rel.slot a 149 = u149 at *
          generalize Rel.slot a 150 = u150 at *
          generalize Rel.slot a 151 = u151 at *
          generalize Rel.slot a 152 = u152 at *
          generalize Rel.slot a 153 = u153 at *
          generalize Rel.slot a 154 = u154 at *
          generalize Rel.slot a 155 = u155 at *
          generalize Rel.slot a 156 = u156 at *
          generalize Rel.slot a 157 = u157 at *
          generalize Rel.slot a 158 = u158 at *
          generalize Rel.slot a 159 = u159 at *
          generalize Rel.slot a 160 = u160 at *
          generalize Rel.slot a 161 = u161 at *
          generalize Rel.slot a 162 = u162 at *
          generalize Rel.slot a 163 = u163 at *
          generalize Rel.slot a 164 = u164 at *
          generalize Rel.slot a 165 = u165 at *
          generalize Rel.slot a 166 = u166 at *
          generalize Rel.slot a 167 = u167 at *
          generalize Rel.slot a 168 = u168 at *
          generalize Rel.slot a 169 = u169 at *
          generalize Rel.slot a 170 = u170 at *
          generalize Rel.slot a 171 = u171 at *
          generalize Rel.slot a 172 = u172 at *
          generalize Rel.slot a 173 = u173 at *
          generalize Rel.slot a 174 = u174 at *
          rw [s175]
          clear s175
          simp only [Act.put, List.setIfInBounds_toArray, List.set_cons_succ, List.set_cons_zero]
          have HBu := Lib.hid hbu
          have HOu := Lib.hid (HO.out wu hbu)
          have q0 := (HJt2.out wu hbu).1
          have hbb := below_alloc wu (.cells #[.int .i64 j0, .int .i64 kk] 3)
          have hib : IntsL (wu.alloc (.cells #[.int .i64 j0, .int .i64 kk] 3)) (some ⟨wu.heap.size, 0, none⟩) 2 2 (txE j0 kk).args := lst_new encI_len wu [j0, kk] _ _ _ 2 rfl rfl rfl (by omega)
          obtain ⟨wv, hwv⟩ : ∃ zz, zz = wu.alloc (.cells #[.int .i64 j0, .int .i64 kk] 3) := ⟨_, rfl⟩
          rw [← hwv] at hbb hib
          have HF := Lib.hid (show Calls Tryz.prog 10 #[Snp.valV o, Ent.valV ⟨txE j0 kk, some ⟨wu.heap.size, 0, none⟩, 2, 2, none, 0, 0⟩] wv fun e W' => ∃ v : Tv, e = .returned (.tuple #[Ent.valV v, .int .i64 9]) ∧ v.t = doT (doS N (txE j0 kk)) (txE j0 kk) ∧ NewT W' wv.heap.size v ∧ Below wv.heap.size wv W' from by
            have h := HP.out.fill wv o ⟨txE j0 kk, some ⟨wu.heap.size, 0, none⟩, 2, 2, none, 0, 0⟩ (HO.out wv (below_keep hbu hbb)).2 (by rw [HOt.out]; exact HInv.out.1.2.1) (by rw [HOt.out]; exact HInv.out.1.1) (tv_in hib rfl (Nat.zero_le 1) (Nat.zero_le 1)) HEn.out.2.1
            rw [HOt.out, HEn.out.1.2.2.2] at h
            exact h)
          have HWv := Lib.hid (And.intro hwv (below_keep (below_keep HBn.out.1 HBt.out) (below_keep hbu hbb)))
          clear hbb hib hwv hbu
          go_wp2_with (first | (refine Arr.wpList_load_blk rfl 29 (.tmp 23) rfl bo rfl (Snp.encV o) 29 HOu.out.1 _ Tryz.underlying29 rfl info_st ?_) | fail)
          rw [← HWv.out.1]
          refine HF.out.mono ?_
          rintro e wx ⟨v4, rfl, -, -, hb⟩
          have hba := below_alloc wx (.cells (cT v4) 34)
          have HBx := Lib.hid (below_keep HWv.out.2 (below_keep hb hba))
          clear hb hba HF q0
          go_wp2_with fail
          go_roundw
          case rel => exact ⟨k + 1, by omega, by go_num, HBx.out⟩
          case measure => simp [intOf]; omega
        · have hne : (e0 != 0) = true := bne_iff_ne.2 he
          have hne2 : (e0 == 0) = false := beq_false_of_ne he
          go_wp2_with fail
          go_roundw
          case rel => exact ⟨k + 1, by omega, by go_num, HBd.out.2⟩
          case measure => simp [intOf]; omega
      · have hne : (j7 != 1) = true := bne_iff_ne.2 hst
        have hne2 : (j7 == 1) = false := beq_false_of_ne hst
        go_wp2_with fail
        go_roundw
        case rel => exact ⟨k + 1, by omega, by go_num, HBa.out⟩
        case measure => simp [intOf]; omega
    · obtain rfl : k = y.j.n := by omega
      have HAw := Lib.hid (awake_any HP.out wr)
      go_wp2_with fail
      refine HAw.out.mono ?_
      rintro e wz ⟨rfl, hb⟩
      have HB := Lib.hid (below_keep (HY.out wr HBr.out).2.2 hb)
      clear hb
      go_wp2_with fail
      go_ret
      exact ⟨rfl, HB.out⟩
end Go.Proofs.YtjcndgopijpibaaGreat.Bok
