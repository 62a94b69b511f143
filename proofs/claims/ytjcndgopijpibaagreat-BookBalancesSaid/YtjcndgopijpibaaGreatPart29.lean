/- Common to the claims of this seat, part 29: texts that were written one by one, laid behind one another. -/
import Derived.Test.YtjcndgopijpibaaGreatPart10
import Derived.Test.YtjcndgopijpibaaGreatPart27
import Derived.Test.YtjcndgopijpibaaGreatPart28
/- Book: BookBalances, over any book that does as it should. -/
namespace Go.Proofs.YtjcndgopijpibaaGreat.Bok
set_option maxRecDepth 100000
open Go.RowKit
open Go.Sort
open Kit
open Foot
open Tre (Lst inI lst_keep lst_at IntsL encI encI_len encL_len int_cell)
open Led (Lg encG encG_len leg_cells amts flatN wrap_add)
open Ent (Tx Tv)
open Snp (Sn Sv)
set_option linter.unusedVariables false
variable {w w' : World}
theorem wp_load_txb {o : Oper} {a : Act} {w : World} {K : Act → World → Prop} {Q : Exit → Act → World → Prop} (x : Operand) (ho : o.op = .load 34 x) (B : Nat) (hx : a.eval x = .pointer (some ⟨B, 0, none⟩)) (u : Tv) (hB : Arr.Blk w B 34 (Ent.encV u)) (h : K (a.put o.dst (Ent.valV u)) w) : o.wp Tryz.prog a w K Q :=
  wp_load_row 34 x ho B hx 34 (Ent.encV u).toArray (0, 0) _ hB Tryz.underlying34 rfl info_tx7 h
theorem run_ldAs {a : Addr} {b : Option Addr} {n c : Nat} (h : w.cell? a = some (.slice b n c)) : (Instr.loadAt 24 (.pointer (some a))).run Tryz.prog w = .ok (.slice b n c) w := by
  simp [go_sem, h]
theorem take_sum {l : List Int} {k : Nat} {y : Int} (h : l[k]? = some y) : (l.take (k + 1)).sum = (l.take k).sum + y := by
  have hk := (List.getElem?_eq_some_iff.1 h).1
  have he := (List.getElem?_eq_some_iff.1 h).2
  rw [List.take_succ_eq_append_getElem hk, he, List.sum_append]; simp
theorem do_few {s : Sn} {t : Tx} (h : doE s t = 0) (hm : MayS s) (hok : s.ok) (ht : t.ok) : (doS s t).allocs.length ≤ 16 := by
  obtain ⟨p1, p2, p3, p4, p5⟩ := do_parts h
  have hk := kind_kept p1 p3 hm hok ht
  obtain ⟨q1, q2, q3, q4, q5, q6, q7, q8, q9⟩ := posted_kept (legs := kindL s t) hk hok.2.1 p4
  rw [doS_ok h]
  show (posted (kindS s t) (kindL s t)).allocs.length ≤ 16
  rw [q7]; exact hk.nl
theorem tx_boxB {b : Nat} {v : Tv} (h : Arr.Blk w b 34 (Ent.encV v)) : w.cell? ⟨b, 0, none⟩ = some (.int .i64 v.t.seq) ∧ w.cell? ⟨b, 1, none⟩ = some (.int .i64 v.t.time) ∧ w.cell? ⟨b, 2, none⟩ = some (.int .i64 v.t.kind) ∧ w.cell? ⟨b, 3, none⟩ = some (.string v.t.key) ∧ w.cell? ⟨b, 4, none⟩ = some (.string v.t.name) ∧ w.cell? ⟨b, 5, none⟩ = some (.slice v.a1 v.n1 v.c1) ∧ w.cell? ⟨b, 6, none⟩ = some (.slice v.a2 v.n2 v.c2) :=
  ⟨Arr.blk_cell h 0, Arr.blk_cell h 1, Arr.blk_cell h 2, Arr.blk_cell h 3, Arr.blk_cell h 4, Arr.blk_cell h 5, Arr.blk_cell h 6⟩
def kInt (base : Nat) (l : List Int) : Rel.Kd Rel.Gr := ⟨fun w u => Tre.NewI w base u l, fun _ _ _ h hn => Tre.newI_keep hn h⟩
set_option maxHeartbeats 16000000 in
theorem bal_any (hP : Prog) (W : World) (y : Sv) (hy : y.In W) (hyo : y.t.ok) (x : Tv) (hx : x.In W) (hxo : x.t.ok) :
    Calls Tryz.prog 4 #[Snp.valV y, Ent.valV x] W fun e W' => e = .returned (.bool true) ∧ Below W.heap.size W W' := by
  have HP := Lib.hid hP
  have HO := Lib.hid (And.intro hyo hxo)
  have hbs := Arr.blk_new W W.heap.size 29 (Snp.encV y) rfl
  have hba := below_alloc W (.cells (Snp.encV y).toArray 29)
  obtain ⟨b1, hB⟩ : ∃ zz, zz = W.heap.size := ⟨_, rfl⟩
  obtain ⟨w1, hw⟩ : ∃ zz, zz = W.alloc (.cells (Snp.encV y).toArray 29) := ⟨_, rfl⟩
  rw [← hw, ← hB] at hbs
  rw [← hw] at hba
  have HW1 := Lib.hid (And.intro (show w1 = W.alloc (.cells (cS y) 29) from hw) hB)
  clear hB hw
  have h1 := And.intro hbs hba
  clear hbs hba
  have hbs := Arr.blk_new w1 w1.heap.size 34 (Ent.encV x) rfl
  have hba := below_alloc w1 (.cells (Ent.encV x).toArray 34)
  obtain ⟨b2, hB⟩ : ∃ zz, zz = w1.heap.size := ⟨_, rfl⟩
  obtain ⟨w2, hw⟩ : ∃ zz, zz = w1.alloc (.cells (Ent.encV x).toArray 34) := ⟨_, rfl⟩
  rw [← hw, ← hB] at hbs
  rw [← hw] at hba
  have HW2 := Lib.hid (And.intro (show w2 = w1.alloc (.cells (cT x) 34) from hw) hB)
  clear hB hw
  have hb02 := below_keep h1.2 hba
  have H2 := Lib.hid (And.intro (Arr.blk_below h1.1 hba (Arr.blk_lt h1.1)) (And.intro hbs (And.intro (Snp.in_keep hy hb02) (And.intro (Ent.in_keep hx hb02) hb02))))
  have HM := Lib.hid (rmay_any w2 y H2.out.2.2.1)
  clear hP hy hyo hx hxo hbs hba h1 hb02
  go_enter Tryz.func4, Tryz.ntmps4
  go_upto_region 1 with fail
  rw [show (W.alloc (.cells (cS y) 29)) = w1 from HW1.out.1.symm, ← HW1.out.2]
  rw [show (w1.alloc (.cells (cT x) 34)) = w2 from HW2.out.1.symm, show b1 + 1 = b2 by rw [HW2.out.2, HW1.out.1, HW1.out.2]; simp]
  clear HW1 HW2
  go_wp2_with (first | (refine Arr.wpList_load_blk rfl 29 (.tmp 2) rfl b1 rfl (Snp.encV y) 29 H2.out.1 _ Tryz.underlying29 rfl info_st ?_) | fail)
  refine HM.out.mono ?_
  rintro e w3 ⟨b, rfl, hbm, hb⟩
  have H3 := Lib.hid (And.intro (Arr.blk_below H2.out.1 hb (Arr.blk_lt H2.out.1)) (And.intro (Arr.blk_below H2.out.2.1 hb (Arr.blk_lt H2.out.2.1)) (And.intro (Snp.in_keep H2.out.2.2.1 hb) (And.intro (Ent.in_keep H2.out.2.2.2.1 hb) (below_keep H2.out.2.2.2.2 hb)))))
  clear hb HM
  by_cases hm : MayS y.t
  · obtain rfl : b = true := hbm.2 hm
    have HMy := Lib.hid hm
    clear hbm hm
    obtain ⟨s0, hs0⟩ : ∃ zz, zz = y.t := ⟨_, rfl⟩
    obtain ⟨t0, ht0⟩ : ∃ zz, zz = smallT x.t := ⟨_, rfl⟩
    obtain ⟨e0, he0⟩ : ∃ zz, zz = doE s0 t0 := ⟨_, rfl⟩
    have HSm := Lib.hid (fun (w : World) (hb : Below w3.heap.size w3 w) => (show Calls Tryz.prog 9 #[Ent.valV x] w fun e W' => ∃ u : Tv, e = .returned (Ent.valV u) ∧ u.t = t0 ∧ u.In W' ∧ Below w.heap.size w W' from by
      rw [ht0]; exact small_any w x (Ent.in_keep H3.out.2.2.2.1 hb)))
    have HT0 := Lib.hid (show t0.ok by rw [ht0]; exact small_ok HO.out.2)
    have HF := Lib.hid (fun (w : World) (hb : Below w3.heap.size w3 w) (u : Tv) (hu : u.t = t0) (hui : u.In w) => (show Calls Tryz.prog 10 #[Snp.valV y, Ent.valV u] w fun e W' => ∃ v : Tv, e = .returned (.tuple #[Ent.valV v, .int .i64 e0]) ∧ v.t = doT s0 t0 ∧ NewT W' w.heap.size v ∧ Below w.heap.size w W' from by
      have h := HP.out.fill w y u (Snp.in_keep H3.out.2.2.1 hb) HO.out.1 HMy.out hui (by rw [hu]; exact HT0.out)
      rw [hu, ← hs0, ← he0] at h
      exact h))
    have HE := Lib.hid (And.intro hs0 he0)
    clear hs0 ht0 he0
    go_upto_region 3 with fail
    refine Rel.wp_region_seen (G := Rel.Gt) (Rel.tab [.is (Snp.valV y), .is (Ent.valV x), Rel.Kd.any, Rel.Kd.any, Rel.Kd.any, Rel.Kd.any, .is (.int .i64 e0), Rel.Kd.any, Rel.Kd.any, .is (.int .i64 e0)]) (fun L f w => BoxCal.J nBa w3 (doT s0 t0) e0 L f w ∧ Sm 2 24 8 t0 L f w) (by kernel_rfl) (by kernel_rfl) (by kernel_rfl) (by kernel_rfl) (fun w => trivial) (⟨BoxCal.start (Below.refl _ _) _ _, Sm.start _ _ _⟩) ?_ ?_
    · refine ⟨?_, ?_, ?_, ?_, ?_, ?_, ?_, ?_, ?_, ?_, trivial⟩
      · intro L a w c j
        refine .inl ⟨Rel.wanted_free (by kernel_rfl) _, ?_⟩
        exact wp_load_st (.tmp 2) rfl b1 (Rel.eval_tmp (c.old 2 (v := .pointer (some ⟨b1, 0, none⟩)) (by kernel_rfl) (by kernel_rfl))) y (Arr.blk_below H3.out.1 j.1.below (Arr.blk_lt H3.out.1)) ⟨_, rfl, trivial, rfl, ⟨BoxCal.go j.1 (k := 0) (d := 22) (by kernel_rfl) (by kernel_rfl) (Below.refl _ _), Sm.go j.2 (k := 0) (e := 22) (by kernel_rfl) (by kernel_rfl) (Below.refl _ _)⟩⟩
      · intro L a w c j
        refine .inl ⟨Rel.wanted_free (by kernel_rfl) _, ?_⟩
        exact wp_load_txb (.tmp 3) rfl b2 (Rel.eval_tmp (c.old 3 (v := .pointer (some ⟨b2, 0, none⟩)) (by kernel_rfl) (by kernel_rfl))) x (Arr.blk_below H3.out.2.1 j.1.below (Arr.blk_lt H3.out.2.1)) ⟨_, rfl, trivial, rfl, ⟨BoxCal.go j.1 (k := 1) (d := 23) (by kernel_rfl) (by kernel_rfl) (Below.refl _ _), Sm.go j.2 (k := 1) (e := 23) (by kernel_rfl) (by kernel_rfl) (Below.refl _ _)⟩⟩
      · intro L a w c j
        refine .inl ⟨Rel.wanted_free (by kernel_rfl) _, ?_⟩
        refine Rel.wp_cl _ _ _ rfl Tryz.func9 (by kernel_rfl) ?_
        show Calls _ _ #[Rel.slot a 23] w _
        rw [show Rel.slot a 23 = Ent.valV x from (c.get 1 23 (by kernel_rfl))]
        refine (HSm.out w j.1.below).mono ?_
        rintro e w' ⟨u, rfl, hu, hui, hb⟩
        exact ⟨_, rfl, _, rfl, trivial, trivial, BoxCal.go j.1 (by kernel_rfl) (by kernel_rfl) hb, Sm.cl (by rw [c.room]; exact of_decide_eq_true (by kernel_rfl)) hu hui⟩
      · intro L a w c j
        refine .inl ⟨Rel.wanted_free (by kernel_rfl) _, ?_⟩
        refine Rel.wp_cl _ _ _ rfl Tryz.func10 (by kernel_rfl) ?_
        show Calls _ _ #[Rel.slot a 22, Rel.slot a 24] w _
        obtain ⟨u, e4, hu, hui⟩ := j.2 (c.later 8 (by kernel_rfl)) (c.came 2 (by kernel_rfl))
        rw [show Rel.slot a 22 = Snp.valV y from (c.get 0 22 (by kernel_rfl)), e4]
        refine (HF.out w j.1.below u hu hui).mono ?_
        rintro e w' ⟨v, rfl, hv, hn, hb⟩
        exact ⟨_, rfl, _, rfl, trivial, trivial, BoxCal.cl j.1 (by kernel_rfl) (by kernel_rfl) (by rw [c.room]; exact of_decide_eq_true (by kernel_rfl)) (by rw [c.size]; exact of_decide_eq_true (by kernel_rfl)) (c.later 4 (by kernel_rfl)) (c.later2 5 4 (by kernel_rfl) (c.later 4 (by kernel_rfl))) (c.later 8 (by kernel_rfl)) hb hv hn, Sm.go j.2 (by kernel_rfl) (by kernel_rfl) hb⟩
      · intro L a w c j
        refine .inl ⟨Rel.wanted_free (by kernel_rfl) _, ?_⟩
        exact Rel.wp_mv _ rfl ⟨_, rfl, trivial, trivial, BoxCal.mv j.1 (by kernel_rfl) (by kernel_rfl) (by rw [c.room]; exact of_decide_eq_true (by kernel_rfl)) (by rw [c.size]; exact of_decide_eq_true (by kernel_rfl)), Sm.go j.2 (by kernel_rfl) (by kernel_rfl) (Below.refl _ _)⟩
      · intro L a w c j
        refine .inl ⟨Rel.wanted_free (by kernel_rfl) _, ?_⟩
        obtain ⟨u, hu, hj⟩ := BoxCal.ex j.1 (by kernel_rfl) (by kernel_rfl) (by rw [c.room]; exact of_decide_eq_true (by kernel_rfl)) (by rw [c.size]; exact of_decide_eq_true (by kernel_rfl)) (c.via 4 3 (by kernel_rfl) (c.came 4 (by kernel_rfl))) (c.came 4 (by kernel_rfl))
        exact Rel.wp_ex _ _ rfl (Rel.eval_tmp hu) (run_ex_t0 _ _ w) ⟨_, rfl, trivial, trivial, hj, Sm.go j.2 (by kernel_rfl) (by kernel_rfl) (Below.refl _ _)⟩
      · intro L a w c j
        refine .inl ⟨Rel.wanted_free (by kernel_rfl) _, ?_⟩
        obtain ⟨u, hu⟩ := BoxCal.mvd j.1 (c.via 4 3 (by kernel_rfl) (c.came 4 (by kernel_rfl))) (c.came 4 (by kernel_rfl))
        exact Rel.wp_ex _ _ rfl (Rel.eval_tmp hu) (run_ex_t1 _ _ w) ⟨_, rfl, trivial, rfl, ⟨BoxCal.go j.1 (k := 6) (d := 27) (by kernel_rfl) (by kernel_rfl) (Below.refl _ _), Sm.go j.2 (k := 6) (e := 27) (by kernel_rfl) (by kernel_rfl) (Below.refl _ _)⟩⟩
      · intro L a w c j
        refine .inl ⟨Rel.wanted_free (by kernel_rfl) _, ?_⟩
        exact Rel.wp_al _ rfl (run_alloc_tx w) ⟨_, rfl, trivial, trivial, BoxCal.al j.1 (by kernel_rfl) (by kernel_rfl) (by rw [c.room]; exact of_decide_eq_true (by kernel_rfl)) (by rw [c.size]; exact of_decide_eq_true (by kernel_rfl)) (c.later 8 (by kernel_rfl)), Sm.go j.2 (by kernel_rfl) (by kernel_rfl) (below_alloc _ _)⟩
      · intro L a w c j
        refine .inl ⟨Rel.wanted_free (by kernel_rfl) _, ?_⟩
        obtain ⟨b9, u, hb9, hu, hblk, hj⟩ := BoxCal.st j.1 (by kernel_rfl) (c.via 4 3 (by kernel_rfl) (c.via 5 4 (by kernel_rfl) (c.came 5 (by kernel_rfl)))) (c.came 5 (by kernel_rfl)) (c.came 7 (by kernel_rfl)) (Rel.free_no c.free) c.size (of_decide_eq_true (by kernel_rfl))
        exact wp_store_row 34 (.tmp 5) (.tmp 26) rfl b9 (Ent.encV u).toArray (Rel.eval_tmp hb9) (Rel.eval_tmp hu) 34 z7.toArray hblk info_tx7 rfl (one_tx u) ⟨_, rfl, trivial, trivial, hj, Sm.st c.size (of_decide_eq_true (by kernel_rfl)) _⟩
      · intro L a w c j
        refine .inl ⟨Rel.wanted_free (by kernel_rfl) _, ?_⟩
        exact Rel.wp_as _ rfl ⟨_, rfl, trivial, (c.get 6 27 (by kernel_rfl)), ⟨BoxCal.go j.1 (k := 9) (d := 6) (by kernel_rfl) (by kernel_rfl) (Below.refl _ _), Sm.go j.2 (k := 9) (e := 6) (by kernel_rfl) (by kernel_rfl) (Below.refl _ _)⟩⟩
    intro a w9 hbase hroom hdef hJ hV
    obtain ⟨b9, v, e1, hvt, hnv, hb9, hbk, hbw⟩ := BoxCal.fin hJ.1 (by decide) (by decide)
    clear hJ
    change Rel.slot a 5 = _ at e1
    have s6 : Rel.slot a 6 = .int .i64 e0 := hV 9 _ _ rfl rfl
    have k5 : (Rel.Kd.any : Rel.Kd (Rel.Gt)).p w9 (Rel.slot a 5) := hV 7 _ _ rfl rfl
    rw [Chn.act_puts [22, 23, 24, 25, 21, 26, 27, 5, 6] hbase hroom hdef (by kernel_rfl)]
    clear hbase hroom hdef hV
    simp only [List.foldl_cons, List.foldl_nil]
    generalize Rel.slot a 22 = u22 at *
    generalize Rel.slot a 23 = u23 at *
    generalize Rel.slot a 24 = u24 at *
    generalize Rel.slot a 25 = u25 at *
    generalize Rel.slot a 21 = u21 at *
    generalize Rel.slot a 26 = u26 at *
    generalize Rel.slot a 27 = u27 at *
    generalize Rel.slot a 5 = u5 at *
    rw [s6]
    clear s6
    simp only [Act.put, List.setIfInBounds_toArray, List.set_cons_succ, List.set_cons_zero]
    rw [e1]
    have H9 := Lib.hid (And.intro (Arr.blk_below H3.out.1 hbw (Arr.blk_lt H3.out.1)) (And.intro hbk (And.intro (Snp.in_keep H3.out.2.2.1 hbw) (And.intro hnv (And.intro hvt (And.intro hb9 (below_keep H3.out.2.2.2.2 hbw)))))))
    clear hbk hnv hvt hb9 hbw k5 e1 HSm HF
    by_cases he : e0 = 0
    · subst he
      have hd0 : doE s0 t0 = 0 := HE.out.2.symm
      have HD := Lib.hid hd0
      have HLg := Lib.hid (show v.t.legs = kindL s0 t0 by rw [H9.out.2.2.2.2.1, doT_ok hd0])
      have hp6 := Arr.blk_cell H9.out.2.1 6
      simp only [Ent.encV, List.getElem?_cons_zero, List.getElem?_cons_succ] at hp6
      have hn2 : v.n2 ≤ 9223372036854775807 := by have h1 := H9.out.2.2.2.1.inn.legs.cap; have h2 := H9.out.2.2.2.1.inn.legs.max; unfold maxLen at h2; omega
      have HA := Lib.hid (show Calls Tryz.prog 13 #[Snp.valV y, Ent.valV v] w9 fun e W' => ∃ z : Sv, e = .returned (.tuple #[Snp.valV z, .int .i64 0]) ∧ z.t = doS s0 t0 ∧ NewS W' w9.heap.size z ∧ Below w9.heap.size w9 W' from by
        have hmy := HMy.out
        have hoy := HO.out.1
        rw [← HE.out.1] at hmy hoy
        have h := HP.out.apply w9 y v H9.out.2.2.1 HO.out.1 HMy.out H9.out.2.2.2.1.inn (by rw [H9.out.2.2.2.2.1]; exact filled_ok hmy hoy HT0.out)
        rw [H9.out.2.2.2.2.1, ← HE.out.1, (apply_filled hd0).1, (apply_filled hd0).2] at h
        exact h)
      clear hd0
      go_wp2_with fail
      go_loop [7, 8] (fun sv iv => ∃ (k : Nat) (q : Int), k ≤ v.n2 ∧ iv = .int .i64 (k : Nat) ∧ sv = .int .i64 q ∧ Hid (q = wrap64 ((amts v.t.legs).take k).sum)) (fun _ iv => v.n2 - (intOf iv).toNat)
      case atStart => exact ⟨0, 0, Nat.zero_le _, rfl, rfl, Lib.hid (by simp [wrap64])⟩
      case round =>
        obtain ⟨k, q, hk, rfl, rfl, hq⟩ := hrel
        by_cases hlt : k < v.n2
        · have hkl : k < v.t.legs.length := by rw [H9.out.2.2.2.1.inn.legs.len]; exact hlt
          obtain ⟨gb, go, hva⟩ := lst_at H9.out.2.2.2.1.inn.legs (by omega)
          have hlg := H9.out.2.2.2.1.inn.legs
          rw [hva] at hp6 hlg
          obtain ⟨-, p1⟩ := leg_cells hlg hkl
          have hy : (amts v.t.legs)[k]? = some (v.t.legs[k]).amt := by
            unfold amts
            rw [List.getElem?_map, List.getElem?_eq_getElem hkl]; rfl
          have HQ := Lib.hid (show wrap64 (q + (v.t.legs[k]).amt) = wrap64 ((amts v.t.legs).take (k + 1)).sum by rw [hq.out, wrap_add, take_sum hy])
          generalize (v.t.legs[k]).amt = am at *
          generalize v.n2 = vn at *
          clear hkl hlg hva hy hq
          go_wp2_with fail
          go_round
          case rel => exact ⟨k + 1, _, by omega, by go_num, rfl, Lib.hid HQ.out⟩
          case measure => simp [intOf]; omega
        · have hke : k = v.n2 := by omega
          obtain rfl : q = 0 := by
            rw [hq.out, List.take_of_length_le (by unfold amts; rw [List.length_map, H9.out.2.2.2.1.inn.legs.len]; omega), HLg.out, (legs_zero HD.out).1]
            simp [wrap64]
          obtain rfl : k = v.n2 := hke
          clear hq
          go_wp2_with (first | (refine Arr.wpList_load_blk rfl 29 (.tmp 2) rfl b1 rfl (Snp.encV y) 29 H9.out.1 _ Tryz.underlying29 rfl info_st ?_) | (refine Arr.wpList_load_blk rfl 34 (.tmp 5) rfl b9 rfl (Ent.encV v) 34 H9.out.2.1 _ Tryz.underlying34 rfl info_tx7 ?_) | fail)
          refine HA.out.mono ?_
          rintro e wl ⟨z, rfl, hz, hnz, hb⟩
          have hbs := Arr.blk_new wl wl.heap.size 29 (Snp.encV z) rfl
          have hba := below_alloc wl (.cells (Snp.encV z).toArray 29)
          obtain ⟨b11, hB⟩ : ∃ zz, zz = wl.heap.size := ⟨_, rfl⟩
          obtain ⟨wm, hw⟩ : ∃ zz, zz = wl.alloc (.cells (Snp.encV z).toArray 29) := ⟨_, rfl⟩
          rw [← hw, ← hB] at hbs
          rw [← hw] at hba
          have HWm := Lib.hid (And.intro (show wm = wl.alloc (.cells (cS z) 29) from hw) hB)
          clear hB hw
          have hb9m := below_keep hb hba
          have Hm := Lib.hid (And.intro (Arr.blk_below H9.out.1 hb9m (Arr.blk_lt H9.out.1)) (And.intro (Arr.blk_below H9.out.2.1 hb9m (Arr.blk_lt H9.out.2.1)) (And.intro hbs (And.intro (Snp.in_keep H9.out.2.2.1 hb9m) (And.intro (newS_keep hnz hba).inn (And.intro hz (below_keep H9.out.2.2.2.2.2.2 hb9m)))))))
          obtain ⟨fl1, hf1⟩ : ∃ zz, zz = flatN y.world y.allocs := ⟨_, rfl⟩
          obtain ⟨fl2, hf2⟩ : ∃ zz, zz = flatN z.world z.allocs := ⟨_, rfl⟩
          have HFl := Lib.hid (show fl2.sum = fl1.sum by
            have h := do_flat HD.out
            rw [show doS s0 t0 = z.t from hz.symm, HE.out.1] at h
            rw [hf1, hf2]; exact h)
          have HFl1 := Lib.hid (fun (w : World) (hb : Below wm.heap.size wm w) => (show Calls Tryz.prog 17 #[.int .i64 y.world, .slice y.l.a y.l.n y.l.c] w fun e W' => ∃ v, e = .returned v ∧ Tre.OwI W' w.heap.size v fl1 ∧ Below w.heap.size w W' from by
            rw [hf1]; exact Led.flat_any _ _ _ _ _ _ (Snp.in_keep Hm.out.2.2.2.1 hb).allocs (by have h1 : y.allocs.length ≤ 16 := HMy.out.1.2.1; have h2 := Hm.out.2.2.2.1.allocs.len; omega)))
          have HFl2 := Lib.hid (fun (w : World) (hb : Below wm.heap.size wm w) => (show Calls Tryz.prog 17 #[.int .i64 z.world, .slice z.l.a z.l.n z.l.c] w fun e W' => ∃ v, e = .returned v ∧ Tre.OwI W' w.heap.size v fl2 ∧ Below w.heap.size w W' from by
            rw [hf2]; exact Led.flat_any _ _ _ _ _ _ (Snp.in_keep Hm.out.2.2.2.2.1 hb).allocs (by
              have hmy := HMy.out
              have hoy := HO.out.1
              rw [← HE.out.1] at hmy hoy
              have h1 := do_few HD.out hmy hoy HT0.out
              rw [← Hm.out.2.2.2.2.2.1] at h1
              have h2 := Hm.out.2.2.2.2.1.allocs.len
              have h3 : z.t.allocs.length = z.allocs.length := rfl
              omega)))
          have p1 := Arr.blk_cell Hm.out.1 1
          have p4 := Arr.blk_cell Hm.out.1 4
          have q1 := Arr.blk_cell Hm.out.2.2.1 1
          have q4 := Arr.blk_cell Hm.out.2.2.1 4
          simp only [Snp.encV, List.getElem?_cons_zero, List.getElem?_cons_succ] at p1 p4 q1 q4
          have HC := Lib.hid (And.intro p1 (And.intro p4 (And.intro q1 q4)))
          clear p1 p4 q1 q4 hbs hba hb9m hz hnz hb HA hf1 hf2 hp6
          go_upto_region 13 with fail
          rw [show wl.alloc (.cells (cS z) 29) = wm from HWm.out.1.symm, ← HWm.out.2]
          clear HWm
          refine Rel.wp_region_rel (G := Rel.Gr) (Rel.tab [.is (.pointer (some ⟨b1, 1, none⟩)), .is (.int .i64 y.world), .is (.pointer (some ⟨b1, 4, none⟩)), .is (.slice y.l.a y.l.n y.l.c), kInt wm.heap.size fl1, .is (.pointer (some ⟨b11, 1, none⟩)), .is (.int .i64 z.world), .is (.pointer (some ⟨b11, 4, none⟩)), .is (.slice z.l.a z.l.n z.l.c), kInt wm.heap.size fl2, kInt wm.heap.size fl1, kInt wm.heap.size fl2]) (fun _ w => Below wm.heap.size wm w) (by kernel_rfl) (by kernel_rfl) (by kernel_rfl) (by kernel_rfl) (fun w => Rel.gr_refl _) (below_drew _) ?_ ?_
          · refine ⟨?_, ?_, ?_, ?_, ?_, ?_, ?_, ?_, ?_, ?_, ?_, ?_, trivial⟩
            · intro L a w c
              refine .inl ⟨Rel.wanted_free (by kernel_rfl) _, ?_⟩
              exact Chn.wp_fa _ _ _ rfl (c.old 2 (v := .pointer (some ⟨b1, 0, none⟩)) (by kernel_rfl) (by kernel_rfl)) (by simp [go_sem]) ⟨_, rfl, Rel.gr_refl _, rfl, c.inv⟩
            · intro L a w c
              refine .inl ⟨Rel.wanted_free (by kernel_rfl) _, ?_⟩
              exact Rel.wp_ld _ _ rfl (c.get 0 57 (by kernel_rfl)) (Tre.run_ld2 (cell_keep c.inv HC.out.1)) ⟨_, rfl, Rel.gr_refl _, rfl, c.inv⟩
            · intro L a w c
              refine .inl ⟨Rel.wanted_free (by kernel_rfl) _, ?_⟩
              exact Chn.wp_fa _ _ _ rfl (c.old 2 (v := .pointer (some ⟨b1, 0, none⟩)) (by kernel_rfl) (by kernel_rfl)) (by simp [go_sem]) ⟨_, rfl, Rel.gr_refl _, rfl, c.inv⟩
            · intro L a w c
              refine .inl ⟨Rel.wanted_free (by kernel_rfl) _, ?_⟩
              exact Rel.wp_ld _ _ rfl (c.get 2 59 (by kernel_rfl)) (run_ldAs (cell_keep c.inv HC.out.2.1)) ⟨_, rfl, Rel.gr_refl _, rfl, c.inv⟩
            · intro L a w c
              refine .inl ⟨Rel.wanted_free (by kernel_rfl) _, ?_⟩
              refine Rel.wp_cl _ _ _ rfl Tryz.func17 (by kernel_rfl) ?_
              show Calls _ _ #[Rel.slot a 58, Rel.slot a 60] w _
              rw [show Rel.slot a 58 = .int .i64 y.world from (c.get 1 58 (by kernel_rfl)), show Rel.slot a 60 = .slice y.l.a y.l.n y.l.c from (c.get 3 60 (by kernel_rfl))]
              refine (HFl1.out w c.inv).mono ?_
              rintro e w' ⟨v, rfl, hn, hb⟩
              exact ⟨_, rfl, _, rfl, hb, Tre.newI_le (Tre.newI_own hn) c.inv.size, below_keep c.inv hb⟩
            · intro L a w c
              refine .inl ⟨Rel.wanted_free (by kernel_rfl) _, ?_⟩
              exact Chn.wp_fa _ _ _ rfl (c.old 9 (v := .pointer (some ⟨b11, 0, none⟩)) (by kernel_rfl) (by kernel_rfl)) (by simp [go_sem]) ⟨_, rfl, Rel.gr_refl _, rfl, c.inv⟩
            · intro L a w c
              refine .inl ⟨Rel.wanted_free (by kernel_rfl) _, ?_⟩
              exact Rel.wp_ld _ _ rfl (c.get 5 62 (by kernel_rfl)) (Tre.run_ld2 (cell_keep c.inv HC.out.2.2.1)) ⟨_, rfl, Rel.gr_refl _, rfl, c.inv⟩
            · intro L a w c
              refine .inl ⟨Rel.wanted_free (by kernel_rfl) _, ?_⟩
              exact Chn.wp_fa _ _ _ rfl (c.old 9 (v := .pointer (some ⟨b11, 0, none⟩)) (by kernel_rfl) (by kernel_rfl)) (by simp [go_sem]) ⟨_, rfl, Rel.gr_refl _, rfl, c.inv⟩
            · intro L a w c
              refine .inl ⟨Rel.wanted_free (by kernel_rfl) _, ?_⟩
              exact Rel.wp_ld _ _ rfl (c.get 7 64 (by kernel_rfl)) (run_ldAs (cell_keep c.inv HC.out.2.2.2)) ⟨_, rfl, Rel.gr_refl _, rfl, c.inv⟩
            · intro L a w c
              refine .inl ⟨Rel.wanted_free (by kernel_rfl) _, ?_⟩
              refine Rel.wp_cl _ _ _ rfl Tryz.func17 (by kernel_rfl) ?_
              show Calls _ _ #[Rel.slot a 63, Rel.slot a 65] w _
              rw [show Rel.slot a 63 = .int .i64 z.world from (c.get 6 63 (by kernel_rfl)), show Rel.slot a 65 = .slice z.l.a z.l.n z.l.c from (c.get 8 65 (by kernel_rfl))]
              refine (HFl2.out w c.inv).mono ?_
              rintro e w' ⟨v, rfl, hn, hb⟩
              exact ⟨_, rfl, _, rfl, hb, Tre.newI_le (Tre.newI_own hn) c.inv.size, below_keep c.inv hb⟩
            · intro L a w c
              refine .inl ⟨Rel.wanted_free (by kernel_rfl) _, ?_⟩
              exact Rel.wp_as _ rfl ⟨_, rfl, Rel.gr_refl _, (c.get 4 61 (by kernel_rfl)), c.inv⟩
            · intro L a w c
              refine .inl ⟨Rel.wanted_free (by kernel_rfl) _, ?_⟩
              exact Rel.wp_as _ rfl ⟨_, rfl, Rel.gr_refl _, (c.get 9 66 (by kernel_rfl)), c.inv⟩
          intro a wn hbase hroom hdef hJ hV
          have hbj : Below wm.heap.size wm wn := hJ
          clear hJ
          have k13 : (kInt wm.heap.size fl1 : Rel.Kd (Rel.Gr)).p wn (Rel.slot a 13) := hV 10 _ _ rfl rfl
          have k14 : (kInt wm.heap.size fl2 : Rel.Kd (Rel.Gr)).p wn (Rel.slot a 14) := hV 11 _ _ rfl rfl
          rw [Chn.act_puts [57, 58, 59, 60, 61, 62, 63, 64, 65, 66, 13, 14] hbase hroom hdef (by kernel_rfl)]
          clear hbase hroom hdef hV
          simp only [List.foldl_cons, List.foldl_nil]
          generalize Rel.slot a 57 = u57 at *
          generalize Rel.slot a 58 = u58 at *
          generalize Rel.slot a 59 = u59 at *
          generalize Rel.slot a 60 = u60 at *
          generalize Rel.slot a 61 = u61 at *
          generalize Rel.slot a 62 = u62 at *
          generalize Rel.slot a 63 = u63 at *
          generalize Rel.slot a 64 = u64 at *
          generalize Rel.slot a 65 = u65 at *
          generalize Rel.slot a 66 = u66 at *
          generalize Rel.slot a 13 = u13 at *
          generalize Rel.slot a 14 = u14 at *
          simp only [Act.put, List.setIfInBounds_toArray, List.set_cons_succ, List.set_cons_zero]
          obtain ⟨xa, xc, e1, hx1, -⟩ := k13
          obtain ⟨xb, xd, e2, hx2, -⟩ := k14
          subst e1 e2
          have HXs := Lib.hid (And.intro hx1 (And.intro hx2 hbj))
          obtain ⟨m1, hm1⟩ : ∃ zz, zz = fl1.length := ⟨_, rfl⟩
          obtain ⟨m2, hm2⟩ : ∃ zz, zz = fl2.length := ⟨_, rfl⟩
          rw [← hm1, ← hm2]
          have hl1 : m1 ≤ 9223372036854775807 := by have h1 := hx1.cap; have h2 := hx1.max; unfold maxLen at h2; omega
          have hl2 : m2 ≤ 9223372036854775807 := by have h1 := hx2.cap; have h2 := hx2.max; unfold maxLen at h2; omega
          have HMs := Lib.hid (And.intro hm1 hm2)
          clear hx1 hx2 hbj hm1 hm2 HFl1 HFl2
          go_wp2_with fail
          go_loop [11, 15] (fun sv iv => ∃ (k : Nat) (q : Int), k ≤ m1 ∧ iv = .int .i64 (k : Nat) ∧ sv = .int .i64 q ∧ Hid (q = wrap64 (fl1.take k).sum)) (fun _ iv => m1 - (intOf iv).toNat)
          case atStart => exact ⟨0, 0, Nat.zero_le _, rfl, rfl, Lib.hid (by simp [wrap64])⟩
          case round =>
            obtain ⟨k, q, hk, rfl, rfl, hq⟩ := hrel
            by_cases hlt : k < m1
            · have hkl : k < fl1.length := by rw [← HMs.out.1]; exact hlt
              obtain ⟨gb, go, rfl⟩ := lst_at HXs.out.1 (by omega)
              have p1 := int_cell HXs.out.1 hkl
              have HQ := Lib.hid (show wrap64 (q + fl1[k]) = wrap64 (fl1.take (k + 1)).sum by rw [hq.out, wrap_add, take_sum (List.getElem?_eq_getElem hkl)])
              generalize fl1[k] = am at *
              clear hkl hq
              go_wp2_with fail
              go_round
              case rel => exact ⟨k + 1, _, by omega, by go_num, rfl, Lib.hid HQ.out⟩
              case measure => simp [intOf]; omega
            · obtain rfl : k = m1 := by omega
              have HQ1 := Lib.hid (show q = wrap64 fl1.sum by rw [hq.out, List.take_of_length_le (by rw [HMs.out.1]; exact Nat.le_refl _)])
              clear hq
              go_wp2_with fail
              go_loop [12, 16] (fun sv iv => ∃ (k : Nat) (q : Int), k ≤ m2 ∧ iv = .int .i64 (k : Nat) ∧ sv = .int .i64 q ∧ Hid (q = wrap64 (fl2.take k).sum)) (fun _ iv => m2 - (intOf iv).toNat)
              case atStart => exact ⟨0, 0, Nat.zero_le _, rfl, rfl, Lib.hid (by simp [wrap64])⟩
              case round =>
                obtain ⟨k', q', hk', rfl, rfl, hq'⟩ := hrel
                by_cases hlt' : k' < m2
                · have hkl : k' < fl2.length := by rw [← HMs.out.2]; exact hlt'
                  obtain ⟨gb, go, rfl⟩ := lst_at HXs.out.2.1 (by omega)
                  have p1 := int_cell HXs.out.2.1 hkl
                  have HQ := Lib.hid (show wrap64 (q' + fl2[k']) = wrap64 (fl2.take (k' + 1)).sum by rw [hq'.out, wrap_add, take_sum (List.getElem?_eq_getElem hkl)])
                  generalize fl2[k'] = am at *
                  clear hkl hq'
                  go_wp2_with fail
                  go_round
                  case rel => exact ⟨k' + 1, _, by omega, by go_num, rfl, Lib.hid HQ.out⟩
                  case measure => simp [intOf]; omega
                · obtain rfl : k' = m2 := by omega
                  obtain rfl : q' = q := by rw [hq'.out, List.take_of_length_le (by rw [HMs.out.2]; exact Nat.le_refl _), HFl.out, HQ1.out]
                  have HAw := Lib.hid (awake_any HP.out wn)
                  clear hq'
                  go_wp2_with fail
                  refine HAw.out.mono ?_
                  rintro e wo ⟨rfl, hb⟩
                  have hbo := below_keep HXs.out.2.2 hb
                  have hsq : y.seq ≤ 1152921504606846976 ∧ 0 ≤ y.seq := ⟨HMy.out.2.1.2.1, HMy.out.2.1.1⟩
                  have hz0 : z.seq = y.seq + 1 := by
                    have h := congrArg Sn.seq Hm.out.2.2.2.2.2.1
                    rw [doS_ok HD.out, HE.out.1] at h
                    exact h
                  have hv0 : v.t.seq = y.seq + 1 := by
                    have h := congrArg Ent.Tx.seq H9.out.2.2.2.2.1
                    rw [doT_ok HD.out, HE.out.1] at h
                    exact h
                  have p0 := Arr.blk_cell (Arr.blk_below Hm.out.1 hbo (Arr.blk_lt Hm.out.1)) 0
                  have q0 := Arr.blk_cell (Arr.blk_below Hm.out.2.1 hbo (Arr.blk_lt Hm.out.2.1)) 0
                  have r0 := Arr.blk_cell (Arr.blk_below Hm.out.2.2.1 hbo (Arr.blk_lt Hm.out.2.2.1)) 0
                  simp only [Snp.encV, Ent.encV, List.getElem?_cons_zero, hz0, hv0] at p0 q0 r0
                  have HBo := Lib.hid (below_keep Hm.out.2.2.2.2.2.2 hbo)
                  obtain ⟨s1, s2⟩ := hsq
                  clear hz0 hv0 hbo hb HAw
                  generalize y.seq = sq at *
                  go_wp2_with fail
                  go_ret
                  exact ⟨rfl, HBo.out⟩
    · have he2 : (e0 == 0) = false := beq_false_of_ne he
      have HAw := Lib.hid (awake_any HP.out w9)
      have HVt := Lib.hid (show v.t = Ent.zeroT by rw [H9.out.2.2.2.2.1, doT_no (by rw [← HE.out.2]; exact he)])
      go_wp2_with fail
      refine HAw.out.mono ?_
      rintro e wa ⟨rfl, hb⟩
      have hbk := Arr.blk_below H9.out.2.1 hb (Arr.blk_lt H9.out.2.1)
      have HS := Lib.hid (Ent.rsame_any wa v ⟨Ent.zeroT, none, 0, 0, none, 0, 0⟩ (Ent.in_keep H9.out.2.2.2.1.inn hb) (tv_in (Tre.lst_none _ _ _) rfl (by decide) (by decide)))
      have HBa := Lib.hid (And.intro hbk (below_keep H9.out.2.2.2.2.2.2 hb))
      obtain ⟨c0, c1, c2, c3, c4, c5, c6⟩ := tx_boxB hbk
      clear hb hbk HAw
      go_wp2_with fail
      refine HS.out.mono ?_
      rintro e wb ⟨b, rfl, hbt, hb⟩
      obtain rfl : b = true := hbt.2 HVt.out
      have HBb := Lib.hid (below_keep HBa.out.2 hb)
      clear hb hbt
      go_wp2_with fail
      go_ret
      exact ⟨rfl, HBb.out⟩
  · obtain rfl : b = false := by
      cases b with
      | false => rfl
      | true => exact absurd (hbm.1 rfl) hm
    have HAw := Lib.hid (awake_any HP.out w3)
    clear hbm
    go_wp2_with fail
    refine HAw.out.mono ?_
    rintro e w4 ⟨rfl, hb⟩
    have HB4 := Lib.hid (below_keep H3.out.2.2.2.2 hb)
    clear hb
    go_wp2_with fail
    go_ret
    exact ⟨rfl, HB4.out⟩
end Go.Proofs.YtjcndgopijpibaaGreat.Bok
