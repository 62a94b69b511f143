/- Ledger: LedgerBack, over any ledger that does as it should. -/
import Derived.Test.YtmlbdmfmaebdeaaLedZero
namespace Go.Proofs.Ytmlbdmfmaebdeaa.Led
set_option maxRecDepth 100000
open Go.RowKit
open Go.Sort
open Kit
open Mon
open Tre
set_option linter.unusedVariables false
variable {w w' : World}

abbrev nBack : Nest.At := ⟨14, 54, 1002, 2002, 1003, 2003, 13, 53, 1004, 2004, 1005, 2005, 15, 11, 54⟩
theorem run_ig {b o n c k : Nat} (h : k < n) (w : World) : (Instr.indexAt 23 (.slice (some ⟨b, o, none⟩) n c) (.int .i64 (k : Nat))).run Try.prog w = .ok (.pointer (some ⟨b, o + k * 2, none⟩)) w := by
  simp [go_sem, h]
theorem run_neg {x : Int} (h : -1152921504606846976 ≤ x ∧ x ≤ 1152921504606846976) (w : World) : (Op.unary .neg (.int .i64 x)).run Try.prog w = .ok (.int .i64 (-x)) w := by
  have e : IntKind.i64.wrap (-x) = -x := by
    simp [IntKind.wrap, IntKind.bits, IntKind.signed]
    omega
  simp [go_sem, e]
theorem run_bd_leg (x y : Int) (w : World) : (Instr.build 43 #[(0, .int .i64 x), (1, .int .i64 y)]).run Try.prog w = .ok (.agg #[.int .i64 x, .int .i64 y]) w := by
  simp [go_sem]
theorem run_bs_leg (x y : Int) (w : World) : (Instr.buildSlice 23 1 #[(0, .agg #[.int .i64 x, .int .i64 y])]).run Try.prog w = .ok (.slice (some ⟨w.heap.size, 0, none⟩) 1 1) (w.alloc (.cells #[.int .i64 x, .int .i64 y] 43)) := by
  simp [go_sem]
theorem turned_drop {legs : List Lg} {q : Nat} {g : Lg} (h : legs[q]? = some g) : turned (legs.drop q) = turned (legs.drop (q + 1)) ++ [turn g] := by
  have hq := (List.getElem?_eq_some_iff.1 h).1
  have he := (List.getElem?_eq_some_iff.1 h).2
  unfold turned
  rw [List.drop_eq_getElem_cons hq, he, List.map_cons, List.reverse_cons]
theorem own_empty_g (w : World) (base : Nat) (hb : base ≤ w.heap.size) : Owns encG 2 43 (w.alloc (.cells #[] 43)) base (.slice (some ⟨w.heap.size, 0, none⟩) 0 0) [] :=
  ⟨rfl, .inr ⟨w.heap.size, 0, _, rfl, hb, heap_alloc_new w _, Nat.le_refl _, by unfold maxLen; omega, rfl, rfl⟩⟩

set_option maxHeartbeats 16000000 in
theorem back_any (hP : Prog) (W : World) (wd : Int) (hw : inI wd) (a : Option Addr) (n c : Nat) (al : List Al) (hA : Allocs W a n c al) (hok : ∀ x ∈ al, x.ok) (a2 : Option Addr) (n2 c2 : Nat) (legs : List Lg) (hG : Legs W a2 n2 c2 legs) (hokg : ∀ x ∈ legs, x.ok) :
    Calls Try.prog 6 #[.int .i64 wd, .slice a n c, .slice a2 n2 c2] W fun e W' => e = .returned (.bool true) ∧ Below W.heap.size W W' := by
  obtain ⟨m, X, hm, hX, hAX, hokX, hm20⟩ := cut_al hA hok
  obtain ⟨m2, Y, hm2, hY, hGY, hokY, hm70⟩ := cut_legs hG hokg
  have HFew := Lib.hid (few_any a n c m hA.cap hA.max hm W)
  have HSome := Lib.hid (fun w => some_any a2 n2 c2 m2 hG.cap hG.max hm2 w)
  have HX := Lib.hid (And.intro hAX (And.intro hG hG.len))
  have HPo := Lib.hid (hP.post W wd a m c X a2 m2 c2 Y hw hAX hokX (by omega) hGY hokY (by omega))
  have hXl := hAX.len
  have hYl := hGY.len
  have hm2n : m2 ≤ n2 := by omega
  have HM2 := Lib.hid (And.intro hm2 (And.intro hY hYl))
  have HAw := Lib.hid (fun w => awake_any hP w)
  clear hm hX hAX hm2 hY hGY hA hok hG hokg
  by_cases hE : postE wd X Y = 0
  · obtain ⟨hpw, hpo⟩ := post_ok hE hw hokX
    have hpl : (postA wd X Y).length = m := by rw [postA_ok hE, setA_len]; exact hXl
    obtain ⟨hp1, hp2, -, hp4, -⟩ := pre_iff.1 (post_iff.1 hE).1
    have hfit : ∀ g ∈ Y, -1152921504606846976 ≤ g.amt ∧ g.amt ≤ 1152921504606846976 := fun g hg => fitsB_iff.1 ((addE_iff.1 hp4).1 g.amt (List.mem_map.2 ⟨g, hg, rfl⟩))
    have hm21 : 1 ≤ m2 := by rw [← hYl]; exact hp2
    have htl : (turned Y).length = m2 := by rw [turned_len]; exact hYl
    have htk : ∀ x ∈ turned Y, x.ok := fun x hx => by
      unfold turned at hx
      rw [List.mem_reverse, List.mem_map] at hx
      obtain ⟨g, hg, rfl⟩ := hx
      have h1 := hfit g hg
      exact ⟨(hokY g hg).1, by unfold turn inI; simp only; omega⟩
    have HP2 := Lib.hid (fun w x3 c3 h1 x4 c4 h2 => hP.post w (postW wd X Y) x3 m c3 (postA wd X Y) x4 m2 c4 (turned Y) hpw h1 hpo (by omega) h2 htk (by omega))
    have HBk := Lib.hid (fun h => post_back (w := wd) (al := X) (legs := Y) hE h)
    rw [hE] at HPo
    generalize postW wd X Y = pw at HPo HP2 HBk
    generalize postA wd X Y = pa at HPo HP2 HBk hpl
    generalize postW pw pa (turned Y) = pw2 at HP2 HBk
    generalize postE pw pa (turned Y) = pe2 at HP2 HBk
    generalize postA pw pa (turned Y) = pa2 at HP2 HBk
    have HFit := Lib.hid hfit
    have HTl := Lib.hid htl
    have HXl := Lib.hid (And.intro hXl hpl)
    clear hE hpw hpo hokX hokY hw hp1 hp2 hp4 hfit htl htk hXl hpl hYl hP
    go_enter Try.func6, Try.ntmps6
    go_wp2_with fail
    refine HFew.out.mono ?_
    rintro e w1 ⟨rfl, rfl⟩
    go_wp2_with fail
    refine (HSome.out W).mono ?_
    rintro e w1 ⟨rfl, rfl⟩
    go_wp2_with fail
    refine HPo.out.mono ?_
    rintro e w1 ⟨v1, rfl, ho1, hb1⟩
    obtain ⟨x3, c3, rfl, hl3⟩ := outA_lst ho1
    rw [HXl.out.2] at hl3 ⊢
    have HB1 := Lib.hid (And.intro hb1 hl3)
    have HEm := Lib.hid (And.intro (own_empty_g w1 w1.heap.size (Nat.le_refl _)) (below_alloc w1 (.cells #[] 43)))
    clear ho1 hb1 hl3 HPo
    go_wp2_with fail
    refine (HSome.out _).mono ?_
    rintro e w2 ⟨rfl, rfl⟩
    go_wp2_with fail
    go_loopw [11, 12] (fun v i wr => ∃ (z : Int), -1 ≤ z ∧ z < (m2 : Int) ∧ i = .int .i64 z ∧ Owns encG 2 43 wr w1.heap.size v (turned (Y.drop (z + 1).toNat)) ∧ Below w1.heap.size w1 wr) (fun _ i _ => (intOf i + 1).toNat)
    case atStart => exact ⟨(m2 : Int) - 1, by omega, by omega, rfl, by rw [show ((m2 : Int) - 1 + 1).toNat = m2 by omega, List.drop_eq_nil_of_le (by rw [HM2.out.2.2]; exact Nat.le_refl _)]; exact HEm.out.1, HEm.out.2⟩
    case round =>
      obtain ⟨z, hz1, hz2, rfl, hown, hb⟩ := hrel
      have HO := Lib.hid (And.intro hown hb)
      clear hown hb
      by_cases hz0 : 0 ≤ z
      · obtain ⟨q, rfl⟩ : ∃ q : Nat, z = q := ⟨z.toNat, by omega⟩
        have hqm : q < m2 := by omega
        have hqn : q < n2 := by omega
        have hql : q < legs.length := by rw [HX.out.2.2]; exact hqn
        obtain ⟨b2, o2, rfl⟩ := lst_at HX.out.2.1 (by omega)
        have hcl := leg_cells (lst_keep encG_len HX.out.2.1 HB1.out.1) hql
        have hYq : Y[q]? = some legs[q] := by rw [HM2.out.2.1, List.getElem?_take_of_lt hqm, List.getElem?_eq_getElem hql]
        have htd := turned_drop hYq
        have hft := HFit.out _ (List.mem_of_getElem? hYq)
        generalize legs[q] = x at *
        obtain ⟨ac, am⟩ := x
        simp only [turn] at hcl htd hft
        have HQ := Lib.hid hcl
        have HQn := Lib.hid hqn
        have HAm := Lib.hid hft
        rw [show ((q : Int) + 1).toNat = q + 1 by omega] at HO
        have hll : (turned (Y.drop (q + 1))).length ≤ 100 := by rw [turned_len, List.length_drop, HM2.out.2.2]; omega
        obtain ⟨lx, hx⟩ : ∃ lx, lx = turned (Y.drop (q + 1)) := ⟨_, rfl⟩
        rw [← hx] at HO htd hll
        have HTd := Lib.hid htd
        have HD := Lib.hid (show lx.length + ([⟨ac, -am⟩] : List Lg).length ≤ maxLen ∧ (lx.length + ([⟨ac, -am⟩] : List Lg).length) * 16 ≤ 140737488355328 by unfold maxLen; simp only [List.length_cons, List.length_nil]; omega)
        clear hcl hYq htd hft hqn hx hll
        go_wp2_with fail
        refine Rel.wp_region_see (G := Rel.Gt) (Rel.tab [.is (u11), .is (.slice (some ⟨b2, o2, none⟩) n2 c2), .is (.int .i64 (q : Nat)), .is (.pointer (some ⟨b2, o2 + q * 2, none⟩)), .is (.pointer (some ⟨b2, o2 + q * 2, none⟩)), .is (.int .i64 ac), .is (.slice (some ⟨b2, o2, none⟩) n2 c2), .is (.int .i64 (q : Nat)), .is (.pointer (some ⟨b2, o2 + q * 2, none⟩)), .is (.pointer (some ⟨b2, o2 + q * 2 + 1, none⟩)), .is (.int .i64 am), .is (.int .i64 (-am)), .is (.agg #[.int .i64 ac, .int .i64 (-am)]), Rel.Kd.any, Rel.Kd.any, Rel.Kd.any]) (Nest.J nBack encG 2 43 w1 u11 u11 lx [⟨ac, -am⟩] [] []) (by kernel_rfl) (by kernel_rfl) (by kernel_rfl) (by kernel_rfl) (fun w => trivial) (Nest.start _ _ _ rfl (Nest.own_on HO.out.1 (below_drew _)) (below_keep HO.out.2 (below_drew _))) ?_ ?_
        · refine ⟨?_, ?_, ?_, ?_, ?_, ?_, ?_, ?_, ?_, ?_, ?_, ?_, ?_, ?_, ?_, ?_, trivial⟩
          · intro L a w c j
            refine .inl ⟨Rel.wanted_free (by kernel_rfl) _, ?_⟩
            exact Rel.wp_mv _ rfl ⟨_, rfl, trivial, j.old (c.later 15 (by kernel_rfl)), (Nest.go encG_len j (k := 0) (d := 40) (by kernel_rfl) (by kernel_rfl) (Below.refl _ _))⟩
          · intro L a w c j
            refine .inl ⟨Rel.wanted_free (by kernel_rfl) _, ?_⟩
            exact Rel.wp_mv _ rfl ⟨_, rfl, trivial, (c.old 2 (v := .slice (some ⟨b2, o2, none⟩) n2 c2) (by kernel_rfl) (by kernel_rfl)), (Nest.go encG_len j (k := 1) (d := 41) (by kernel_rfl) (by kernel_rfl) (Below.refl _ _))⟩
          · intro L a w c j
            refine .inl ⟨Rel.wanted_free (by kernel_rfl) _, ?_⟩
            exact Rel.wp_mv _ rfl ⟨_, rfl, trivial, (c.old 12 (v := .int .i64 (q : Nat)) (by kernel_rfl) (by kernel_rfl)), (Nest.go encG_len j (k := 2) (d := 42) (by kernel_rfl) (by kernel_rfl) (Below.refl _ _))⟩
          · intro L a w c j
            refine .inl ⟨Rel.wanted_free (by kernel_rfl) _, ?_⟩
            exact Rel.wp_ia _ _ _ rfl (c.get 1 41 (by kernel_rfl)) (c.get 2 42 (by kernel_rfl)) (run_ig HQn.out w) ⟨_, rfl, trivial, rfl, (Nest.go encG_len j (k := 3) (d := 43) (by kernel_rfl) (by kernel_rfl) (Below.refl _ _))⟩
          · intro L a w c j
            refine .inl ⟨Rel.wanted_free (by kernel_rfl) _, ?_⟩
            exact Chn.wp_fa _ _ _ rfl (c.get 3 43 (by kernel_rfl)) (by simp [go_sem]) ⟨_, rfl, trivial, rfl, (Nest.go encG_len j (k := 4) (d := 44) (by kernel_rfl) (by kernel_rfl) (Below.refl _ _))⟩
          · intro L a w c j
            refine .inl ⟨Rel.wanted_free (by kernel_rfl) _, ?_⟩
            exact Rel.wp_ld _ _ rfl (c.get 4 44 (by kernel_rfl)) (run_ld2 (cell_keep j.below HQ.out.1)) ⟨_, rfl, trivial, rfl, (Nest.go encG_len j (k := 5) (d := 45) (by kernel_rfl) (by kernel_rfl) (Below.refl _ _))⟩
          · intro L a w c j
            refine .inl ⟨Rel.wanted_free (by kernel_rfl) _, ?_⟩
            exact Rel.wp_mv _ rfl ⟨_, rfl, trivial, (c.old 2 (v := .slice (some ⟨b2, o2, none⟩) n2 c2) (by kernel_rfl) (by kernel_rfl)), (Nest.go encG_len j (k := 6) (d := 46) (by kernel_rfl) (by kernel_rfl) (Below.refl _ _))⟩
          · intro L a w c j
            refine .inl ⟨Rel.wanted_free (by kernel_rfl) _, ?_⟩
            exact Rel.wp_mv _ rfl ⟨_, rfl, trivial, (c.old 12 (v := .int .i64 (q : Nat)) (by kernel_rfl) (by kernel_rfl)), (Nest.go encG_len j (k := 7) (d := 47) (by kernel_rfl) (by kernel_rfl) (Below.refl _ _))⟩
          · intro L a w c j
            refine .inl ⟨Rel.wanted_free (by kernel_rfl) _, ?_⟩
            exact Rel.wp_ia _ _ _ rfl (c.get 6 46 (by kernel_rfl)) (c.get 7 47 (by kernel_rfl)) (run_ig HQn.out w) ⟨_, rfl, trivial, rfl, (Nest.go encG_len j (k := 8) (d := 48) (by kernel_rfl) (by kernel_rfl) (Below.refl _ _))⟩
          · intro L a w c j
            refine .inl ⟨Rel.wanted_free (by kernel_rfl) _, ?_⟩
            exact Chn.wp_fa _ _ _ rfl (c.get 8 48 (by kernel_rfl)) (by simp [go_sem]) ⟨_, rfl, trivial, rfl, (Nest.go encG_len j (k := 9) (d := 49) (by kernel_rfl) (by kernel_rfl) (Below.refl _ _))⟩
          · intro L a w c j
            refine .inl ⟨Rel.wanted_free (by kernel_rfl) _, ?_⟩
            exact Rel.wp_ld _ _ rfl (c.get 9 49 (by kernel_rfl)) (run_ld2 (cell_keep j.below HQ.out.2)) ⟨_, rfl, trivial, rfl, (Nest.go encG_len j (k := 10) (d := 50) (by kernel_rfl) (by kernel_rfl) (Below.refl _ _))⟩
          · intro L a w c j
            refine .inl ⟨Rel.wanted_free (by kernel_rfl) _, ?_⟩
            exact Chn.wp_uo _ _ _ rfl (c.get 10 50 (by kernel_rfl)) (run_neg HAm.out w) ⟨_, rfl, trivial, rfl, (Nest.go encG_len j (k := 11) (d := 51) (by kernel_rfl) (by kernel_rfl) (Below.refl _ _))⟩
          · intro L a w c j
            refine .inl ⟨Rel.wanted_free (by kernel_rfl) _, ?_⟩
            exact Chn.wp_bd2 _ _ _ _ _ rfl (c.get 5 45 (by kernel_rfl)) (c.get 11 51 (by kernel_rfl)) (run_bd_leg ac (-am) w) ⟨_, rfl, trivial, rfl, (Nest.go encG_len j (k := 12) (d := 52) (by kernel_rfl) (by kernel_rfl) (Below.refl _ _))⟩
          · intro L a w c j
            refine .inl ⟨Rel.wanted_free (by kernel_rfl) _, ?_⟩
            exact Chn.wp_bs1 _ _ rfl (c.get 12 52 (by kernel_rfl)) (run_bs_leg ac (-am) w) ⟨_, rfl, trivial, trivial, Nest.mk1 encG_len j (by kernel_rfl) (by kernel_rfl) (by rw [c.room]; exact of_decide_eq_true (by kernel_rfl)) (below_alloc _ _) (fun v hv => Nest.part_new encG_len w [⟨ac, -am⟩] _ rfl 1 v hv)⟩
          · intro L a w c j
            refine .inl ⟨Rel.wanted_free (by kernel_rfl) _, ?_⟩
            obtain ⟨v9, w9, hr, hj⟩ := Nest.ap1 tyG j (by kernel_rfl) (by kernel_rfl) (by rw [c.room]; exact of_decide_eq_true (by kernel_rfl)) (by rw [c.size]; exact of_decide_eq_true (by kernel_rfl)) (Rel.free_no c.free) (Nest.far_no j (by rw [c.size]; exact of_decide_eq_true (by kernel_rfl))) (Nest.far_no j (by rw [c.size]; exact of_decide_eq_true (by kernel_rfl))) (c.came 13 (by kernel_rfl)) (c.later 15 (by kernel_rfl)) HD.out.1 HD.out.2 23
            exact Chn.wp_ap _ _ _ rfl (c.get 0 40 (by kernel_rfl)) rfl hr ⟨_, rfl, trivial, trivial, hj⟩
          · intro L a w c j
            refine .inl ⟨Rel.wanted_free (by kernel_rfl) _, ?_⟩
            exact Rel.wp_as _ rfl ⟨_, rfl, trivial, trivial, Nest.asg j (by kernel_rfl) (by kernel_rfl) (by rw [c.room]; exact of_decide_eq_true (by kernel_rfl)) (by rw [c.size]; exact of_decide_eq_true (by kernel_rfl))⟩
        intro a w9 hbase hroom hdef hJ hV
        have hE := Nest.end1 hJ (of_decide_eq_true (by kernel_rfl)) (of_decide_eq_true (by kernel_rfl)) (of_decide_eq_true (by kernel_rfl)) (of_decide_eq_true (by kernel_rfl)) rfl
        change Below w1.heap.size w1 w9 ∧ Owns encG 2 43 w9 w1.heap.size (Rel.slot a 11) (lx ++ [⟨ac, -am⟩]) at hE
        clear hJ
        have k11 : (Rel.Kd.any : Rel.Kd (Rel.Gt)).p w9 (Rel.slot a 11) := hV 15 _ _ rfl rfl
        rw [Chn.act_puts [40, 41, 42, 43, 44, 45, 46, 47, 48, 49, 50, 51, 52, 53, 54, 11] hbase hroom hdef (by kernel_rfl)]
        clear hbase hroom hdef hV
        simp only [List.foldl_cons, List.foldl_nil]
        generalize Rel.slot a 40 = u40 at *
        generalize Rel.slot a 41 = u41 at *
        generalize Rel.slot a 42 = u42 at *
        generalize Rel.slot a 43 = u43 at *
        generalize Rel.slot a 44 = u44 at *
        generalize Rel.slot a 45 = u45 at *
        generalize Rel.slot a 46 = u46 at *
        generalize Rel.slot a 47 = u47 at *
        generalize Rel.slot a 48 = u48 at *
        generalize Rel.slot a 49 = u49 at *
        generalize Rel.slot a 50 = u50 at *
        generalize Rel.slot a 51 = u51 at *
        generalize Rel.slot a 52 = u52 at *
        generalize Rel.slot a 53 = u53 at *
        generalize Rel.slot a 54 = u54 at *
        generalize Rel.slot a 11 = u11 at *
        simp only [Act.put, List.setIfInBounds_toArray, List.set_cons_succ, List.set_cons_zero]
        have HE := Lib.hid hE
        clear hE
        go_wp2_with fail
        go_roundw
        case rel => exact ⟨(q : Int) - 1, by omega, by omega, rfl, by rw [show ((q : Int) - 1 + 1).toNat = q by omega, HTd.out]; exact HE.out.2, HE.out.1⟩
        case measure => first | (simp [intOf]; done) | (simp [intOf]; omega)
      · obtain rfl : z = -1 := by omega
        have hdr : Y.drop ((-1 : Int) + 1).toNat = Y := rfl
        rw [hdr] at HO
        obtain ⟨g4, c4, rfl, -, hg4, hg5⟩ := owns_at encG_len HO.out.1 (by rw [HTl.out]; exact hm21)
        rw [HTl.out] at hg4 ⊢
        have hl4 : Legs wr (some ⟨g4, 0, none⟩) m2 c4 (turned Y) := by
          obtain ⟨a', c', hv, h1, h2, h3, h4⟩ := owns_row encG_len HO.out.1
          rw [HTl.out] at hv
          injection hv with e1 e2 e3
          subst e1
          exact ⟨HTl.out, hg4, hg5, (fun e => by cases e), h4⟩
        have HP3 := Lib.hid (HP2.out wr x3 c3 (lst_keep encL_len HB1.out.2 HO.out.2) (some ⟨g4, 0, none⟩) c4 hl4)
        have HB2 := Lib.hid (below_keep HB1.out.1 HO.out.2)
        clear hdr hg4 hg5 hl4 hz0 hz1 hz2 HO HP2
        go_wp2_with fail
        refine HP3.out.mono ?_
        rintro e w5 ⟨v5, rfl, ho5, hb5⟩
        obtain ⟨x5, c5, rfl, hl5⟩ := outA_lst ho5
        obtain ⟨n5, hn5⟩ : ∃ n5, n5 = pa2.length := ⟨_, rfl⟩
        rw [← hn5] at hl5 ⊢
        have HN5 := Lib.hid hn5
        have HB5 := Lib.hid (And.intro (below_keep HB2.out hb5) hl5)
        clear ho5 hb5 hl5 hn5 HP3
        go_wp2_with fail
        go_loop [16] (fun i => ∃ j : Nat, j ≤ m ∧ i = .int .i64 (j : Nat) ∧ Hid ((0 < wd → j = 0) ∧ ∀ x ∈ X.take j, 0 ≤ x.avail ∧ 0 ≤ x.lien ∧ 0 ≤ x.spent)) (fun i => m - (intOf i).toNat)
        case atStart => exact ⟨0, Nat.zero_le _, rfl, Lib.hid ⟨fun _ => rfl, fun x hx => by simp at hx⟩⟩
        case round =>
          obtain ⟨j, hj, rfl, hsm⟩ := hrel
          by_cases hlt : j < m
          · have hjX : j < X.length := by rw [HXl.out.1]; exact hlt
            obtain ⟨b, o, rfl⟩ := lst_at HX.out.1 (by omega)
            obtain ⟨-, -, -, p3, p4, p5⟩ := alloc_cells6 (lst_keep encL_len HX.out.1 HB5.out.1) hjX
            have HTk := Lib.hid (List.take_succ_eq_append_getElem hjX)
            generalize X[j] = x at *
            obtain ⟨x0, x1, x2, y3, y4, y5⟩ := x
            simp only at p3 p4 p5
            by_cases hgd : ¬ 0 < wd ∧ 0 ≤ y3 ∧ 0 ≤ y4 ∧ 0 ≤ y5
            · have HSk := Lib.hid (show (0 < wd → j + 1 = 0) ∧ ∀ x ∈ X.take (j + 1), 0 ≤ x.avail ∧ 0 ≤ x.lien ∧ 0 ≤ x.spent from ⟨fun h => absurd h hgd.1, fun x hx => by
                rw [HTk.out, List.mem_append, List.mem_singleton] at hx
                rcases hx with hx | rfl
                · exact hsm.out.2 x hx
                · exact hgd.2⟩)
              obtain ⟨t1, t2, t3, t4⟩ : ¬ 0 < wd ∧ ¬ y3 < 0 ∧ ¬ y4 < 0 ∧ ¬ y5 < 0 := by omega
              clear hgd
              go_wp2_with fail
              go_round
              case rel => exact ⟨j + 1, by omega, by go_num, HSk⟩
              case measure => simp [intOf]; omega
            · have hor : 0 < wd ∨ (¬ 0 < wd ∧ y3 < 0) ∨ (¬ 0 < wd ∧ ¬ y3 < 0 ∧ y4 < 0) ∨ (¬ 0 < wd ∧ ¬ y3 < 0 ∧ ¬ y4 < 0 ∧ y5 < 0) := by omega
              clear hgd
              rcases hor with t1 | ⟨t1, t2⟩ | ⟨t1, t2, t3⟩ | ⟨t1, t2, t3, t4⟩
              all_goals
                go_wp2_with fail
                refine (HAw.out w5).mono ?_
                rintro e w6 ⟨rfl, hb6⟩
                have HB6 := Lib.hid (below_keep HB5.out.1 hb6)
                clear hb6
                go_wp2_with fail
                go_ret
                exact ⟨rfl, HB6.out⟩
          · obtain rfl : m = j := by omega
            by_cases hwd : 0 < wd
            · go_wp2_with fail
              refine (HAw.out w5).mono ?_
              rintro e w6 ⟨rfl, hb6⟩
              have HB6 := Lib.hid (below_keep HB5.out.1 hb6)
              clear hb6
              go_wp2_with fail
              go_ret
              exact ⟨by first | rfl | exact ret_bool (by simp), HB6.out⟩
            · obtain ⟨k1, k2, k3⟩ := HBk.out ⟨by omega, fun x hx => hsm.out.2 x (by rw [List.take_of_length_le (by rw [HXl.out.1]; exact Nat.le_refl _)]; exact hx)⟩
              have hnm : n5 = m := by rw [HN5.out, k3]; exact HXl.out.1
              subst k1 k2 k3
              subst hnm
              clear hsm
              go_wp2_with fail
              refine (HAw.out w5).mono ?_
              rintro e w6 ⟨rfl, hb6⟩
              have HB6 := Lib.hid (below_keep HB5.out.1 hb6)
              have HSm := Lib.hid (same_any x5 a _ c5 c pa2 w6 (lst_keep encL_len HB5.out.2 hb6) (lst_keep encL_len HX.out.1 (below_keep HB5.out.1 hb6)))
              clear hb6
              go_wp2_with fail
              refine HSm.out.mono ?_
              rintro e w7 ⟨rfl, hb7⟩
              have HB7 := Lib.hid (below_keep HB6.out hb7)
              clear hb7
              go_wp2_with fail
              go_ret
              exact ⟨by first | rfl | exact ret_bool (by simp), HB7.out⟩
  · have hpe : (postE wd X Y == 0) = false := beq_false_of_ne hE
    rw [postW_no hE, postA_no hE] at HPo
    generalize postE wd X Y = pe at *
    clear hE hokX hokY hw hXl hYl hP
    go_enter Try.func6, Try.ntmps6
    go_wp2_with fail
    refine HFew.out.mono ?_
    rintro e w1 ⟨rfl, rfl⟩
    go_wp2_with fail
    refine (HSome.out W).mono ?_
    rintro e w1 ⟨rfl, rfl⟩
    go_wp2_with fail
    refine HPo.out.mono ?_
    rintro e w1 ⟨v1, rfl, ho1, hb1⟩
    have HB1 := Lib.hid hb1
    clear ho1 hb1 HPo
    go_wp2_with fail
    refine (HAw.out w1).mono ?_
    rintro e w3 ⟨rfl, hb3⟩
    have HB3 := Lib.hid (below_keep HB1.out hb3)
    clear hb3
    go_wp2_with fail
    go_ret
    exact ⟨by first | rfl | exact ret_bool (by simp), HB3.out⟩
end Go.Proofs.Ytmlbdmfmaebdeaa.Led
