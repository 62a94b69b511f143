/- Order, the landed: Asks; what the program's order must do, done. -/
import Derived.Test.YtkjkhfkaihncdaaOrdDoO
import Derived.Test.YtkjkhfkaihncdaaRegTwo
namespace Go.Proofs.Ytkjkhfkaihncdaa.Ord
set_option maxRecDepth 100000
open Go.RowKit
open Go.Sort
open Kit
open Foot
open Tre (Lst inI lst_keep lst_take lst_at lst_new lst_none encI encI_len encI_one OwI own_chg' info_i NewI newI_own int_cell run_ld2)
open Job (Jb Jv Jobs encJ encJ_len encJ_one job_cell)
set_option linter.unusedVariables false
variable {w w' : World}

theorem encQ_one (x : Aq) : ∀ u ∈ encQ x, u.oneCell' = true := by
  intro u hu
  simp [encQ] at hu
  rcases hu with rfl | rfl <;> rfl
theorem run_bd_q (x y : Int) (w : World) : (Instr.build 29 #[(0, .int .i64 x), (1, .int .i64 y)]).run Try.prog w = .ok (.agg #[.int .i64 x, .int .i64 y]) w := by
  simp [go_sem]
theorem run_bs_q (x y : Int) (w : World) : (Instr.buildSlice 26 1 #[(0, .agg #[.int .i64 x, .int .i64 y])]).run Try.prog w = .ok (.slice (some ⟨w.heap.size, 0, none⟩) 1 1) (w.alloc (.cells #[.int .i64 x, .int .i64 y] 29)) := by
  simp [go_sem]
theorem row_q (w : World) (s : Aq) : Kit.Row encQ 2 (w.alloc (.cells #[.int .i64 s.nodes, .int .i64 s.wall] 29)) (some ⟨w.heap.size, 0, none⟩) [s] := row_new encQ_len w [s] _ _ _ rfl rfl
def kLitQ (s : Aq) : Rel.Kd Rel.Gr := ⟨fun w u => ∃ B, u = .slice (some ⟨B, 0, none⟩) 1 1 ∧ Kit.Row encQ 2 w (some ⟨B, 0, none⟩) [s], fun _ _ _ h ⟨B, e, hr⟩ => ⟨B, e, row_keep encQ_len hr h⟩⟩
abbrev OwQ (w : World) (base : Nat) (v : Value) (l : List Aq) : Prop := Owns encQ 2 29 w base v l
theorem newQ_own {base : Nat} {v : Value} {l : List Aq} (h : OwQ w base v l) : NewQ w base v l := by
  obtain ⟨a, c, rfl, h1, h2, h3, h4⟩ := owns_row encQ_len h
  refine ⟨a, c, rfl, ⟨rfl, h1, h2, fun e => ⟨by have := h3 e; omega, h3 e⟩, h4⟩, fun q hq => ?_⟩
  subst hq
  exact World.ownsRow.lt h q.block rfl
theorem take_map {l : List Jb} {k m : Nat} {x : Jb} (h : (ord l)[k]? = some m) (hx : l[m]? = some x) : ((ord l).take (k + 1)).map (askOf l) = ((ord l).take k).map (askOf l) ++ [⟨x.nodes, x.wall⟩] := by
  obtain ⟨hk, e⟩ := List.getElem?_eq_some_iff.1 h
  rw [List.take_succ_eq_append_getElem hk, e, List.map_append]
  unfold askOf
  simp [hx]

set_option maxHeartbeats 16000000 in
theorem asks_any (W : World) (a : Option Addr) (n cb : Nat) (l : List Jv) (hA : Jobs W a n cb l) (hn : n ≤ 40) :
    Calls Try.prog 8 #[.slice a n cb] W fun e w' => ∃ v, e = .returned v ∧ OwQ w' W.heap.size v (asksOf (ts l)) ∧ Below W.heap.size W w' := by
  have HL := Lib.hid (And.intro hA (And.intro hA.len hn))
  have HO := Lib.hid (order_any W a n cb l hA hn)
  clear hA hn
  go_enter Try.func8, Try.ntmps8
  go_wp2_with fail
  refine HO.out.mono ?_
  rintro e w1 ⟨v1, rfl, ho1, hb1⟩
  obtain ⟨a1, c1, rfl, s1, s2, s3, s4⟩ := owns_row encI_len ho1
  have HR1 := Lib.hid (And.intro s4 hb1)
  obtain ⟨r, hr⟩ : ∃ r, r = (places (ts l)).length := ⟨_, rfl⟩
  have hr40 : r ≤ 40 := by
    rw [hr]
    exact Nat.le_trans (places_len _) (by unfold ts; rw [List.length_map, HL.out.2.1]; exact HL.out.2.2)
  have hro : r = (ord (ts l)).length := by rw [hr]; unfold places; rw [List.length_map]
  rw [← hr]
  have HRr := Lib.hid (And.intro hr hro)
  clear s1 s2 s3 s4 hb1 ho1 hr hro HO
  go_wp2_with fail
  go_loopw [3, 9] (fun v i wr => ∃ k : Nat, k ≤ r ∧ i = .int .i64 (k : Nat) ∧ OwQ wr w1.heap.size v (((ord (ts l)).take k).map (askOf (ts l))) ∧ Below w1.heap.size w1 wr) (fun _ i _ => r - (intOf i).toNat)
  case atStart => exact ⟨0, Nat.zero_le _, rfl, owns_nil _ _ _, Below.refl _ _⟩
  case round =>
    obtain ⟨k, hk, rfl, hown, hb⟩ := hrel
    have HB := Lib.hid (And.intro hown hb)
    by_cases hlt : k < r
    · obtain ⟨q, hq⟩ : ∃ q, (ord (ts l))[k]? = some q := ⟨_, List.getElem?_eq_getElem (by rw [← HRr.out.2]; exact hlt)⟩
      obtain ⟨x, hx, -, hql⟩ := ord_at hq
      have hqn : q < n := by unfold ts at hql; rw [List.length_map, HL.out.2.1] at hql; exact hql
      have hrow1 := row_keep encI_len HR1.out.1 hb
      obtain ⟨B1, O1, rfl⟩ : ∃ B O, a1 = some ⟨B, O, none⟩ := by
        rcases HR1.out.1 with h | ⟨B, O, h, -⟩
        · have := HRr.out.1
          rw [h] at this
          have : r = 0 := this
          omega
        · exact ⟨B, O, h⟩
      have hkp : k < (places (ts l)).length := by rw [← HRr.out.1]; exact hlt
      have hpk : (places (ts l))[k] = (q : Int) := by
        have h1 : (places (ts l))[k]? = some (q : Int) := by unfold places; rw [List.getElem?_map, hq]; rfl
        rw [List.getElem?_eq_getElem hkp] at h1
        injection h1
      have q1 : wr.cell? ⟨B1, O1 + k, none⟩ = some (.int .i64 (q : Nat)) := by
        have := row_cell hrow1 (j := k) hkp hpk (i := 0) (by omega)
        rw [Nat.mul_one, Nat.add_zero] at this
        exact this
      obtain ⟨b1, o1, rfl⟩ := lst_at HL.out.1 (by omega)
      obtain ⟨y, hy⟩ : ∃ y, l[q]? = some y := ⟨_, List.getElem?_eq_getElem (by rw [HL.out.2.1]; exact hqn)⟩
      have hyx : y.t = x := by
        unfold ts at hx
        rw [List.getElem?_map, hy] at hx
        injection hx
      have hJw := lst_keep encJ_len HL.out.1 (below_keep HR1.out.2 hb)
      have q2 := job_cell hJw (k := q) (by rw [HL.out.2.1]; exact hqn) 2 (by omega)
      have q3 := job_cell hJw (k := q) (by rw [HL.out.2.1]; exact hqn) 3 (by omega)
      have hge : l[q]'(by rw [HL.out.2.1]; exact hqn) = y := by
        have := List.getElem?_eq_getElem (show q < l.length by rw [HL.out.2.1]; exact hqn)
        rw [hy] at this; injection this with this; exact this.symm
      rw [hge] at q2 q3
      obtain ⟨xn, hxn⟩ : ∃ v, v = x.nodes := ⟨_, rfl⟩
      obtain ⟨xw, hxw⟩ : ∃ v, v = x.wall := ⟨_, rfl⟩
      have HE := Lib.hid (show ((ord (ts l)).take (k + 1)).map (askOf (ts l)) = ((ord (ts l)).take k).map (askOf (ts l)) ++ [⟨xn, xw⟩] by rw [take_map hq hx, hxn, hxw])
      have hlx : (((ord (ts l)).take k).map (askOf (ts l))).length ≤ 40 := by
        rw [List.length_map, List.length_take]
        omega
      have HQ := Lib.hid (show wr.cell? ⟨b1, o1 + q * 12 + 2, none⟩ = some (.int .i64 xn) ∧ wr.cell? ⟨b1, o1 + q * 12 + 3, none⟩ = some (.int .i64 xw) by
        rw [hxn, hxw, ← hyx]; exact ⟨q2, q3⟩)
      obtain ⟨lx, hlx2⟩ : ∃ lx, lx = ((ord (ts l)).take k).map (askOf (ts l)) := ⟨_, rfl⟩
      rw [← hlx2] at HB HE hlx
      have HLn := Lib.hid (show lx.length + 1 ≤ maxLen ∧ (lx.length + 1) * 16 ≤ 140737488355328 by unfold maxLen; omega)
      have hq40 : q ≤ 40 := by have := HL.out.2.2; omega
      obtain ⟨ao, co, rfl, hcl, hcm, hcn, hcr⟩ := owns_row encQ_len HB.out.1
      obtain ⟨m, hm⟩ : ∃ m, m = lx.length := ⟨_, rfl⟩
      rw [← hm] at HB ⊢
      clear hcl hcm hcn hcr hm hown hb hq hx hql hrow1 hkp hpk hy hyx hJw q2 q3 hge hxn hxw hlx2 hlx
      go_wp2_with fail
      refine Rel.wp_region_ends (G := Rel.Gr) _ _ (Rel.tab [.is (.slice ao m co), .is (.slice (some ⟨b1, o1, none⟩) n cb), .is (.int .i64 (q : Nat)), .is (.pointer (some ⟨b1, o1 + q * 12, none⟩)), .is (.pointer (some ⟨b1, o1 + q * 12 + 2, none⟩)), .is (.int .i64 xn), .is (.slice (some ⟨b1, o1, none⟩) n cb), .is (.int .i64 (q : Nat)), .is (.pointer (some ⟨b1, o1 + q * 12, none⟩)), .is (.pointer (some ⟨b1, o1 + q * 12 + 3, none⟩)), .is (.int .i64 xw), .is (.agg #[.int .i64 xn, .int .i64 xw]), kLitQ ⟨xn, xw⟩]) (fun _ w => Below wr.heap.size wr w) (by kernel_rfl) rfl rfl (by kernel_rfl) (by kernel_rfl) (by kernel_rfl) (by kernel_rfl) (by kernel_rfl) (by kernel_rfl) (below_drew _) ?_ ?_
      · refine ⟨?_, ?_, ?_, ?_, ?_, ?_, ?_, ?_, ?_, ?_, ?_, ?_, ?_, trivial⟩
        · intro L a w c
          refine .inl ⟨Rel.wanted_free (by kernel_rfl) _, ?_⟩
          exact Rel.wp_mv _ rfl ⟨_, rfl, Rel.gr_refl _, (c.old 3 (v := .slice ao m co) (by kernel_rfl) (by kernel_rfl)), c.inv⟩
        · intro L a w c
          refine .inl ⟨Rel.wanted_free (by kernel_rfl) _, ?_⟩
          exact Rel.wp_mv _ rfl ⟨_, rfl, Rel.gr_refl _, (c.old 0 (v := .slice (some ⟨b1, o1, none⟩) n cb) (by kernel_rfl) (by kernel_rfl)), c.inv⟩
        · intro L a w c
          refine .inl ⟨Rel.wanted_free (by kernel_rfl) _, ?_⟩
          exact Rel.wp_mv _ rfl ⟨_, rfl, Rel.gr_refl _, (c.old 5 (v := .int .i64 (q : Nat)) (by kernel_rfl) (by kernel_rfl)), c.inv⟩
        · intro L a w c
          refine .inl ⟨Rel.wanted_free (by kernel_rfl) _, ?_⟩
          exact Rel.wp_ia _ _ _ rfl (c.get 1 14 (by kernel_rfl)) (c.get 2 15 (by kernel_rfl)) (run_ij hqn w) ⟨_, rfl, Rel.gr_refl _, rfl, c.inv⟩
        · intro L a w c
          refine .inl ⟨Rel.wanted_free (by kernel_rfl) _, ?_⟩
          exact Chn.wp_fa _ _ _ rfl (c.get 3 16 (by kernel_rfl)) (by simp [go_sem]) ⟨_, rfl, Rel.gr_refl _, rfl, c.inv⟩
        · intro L a w c
          refine .inl ⟨Rel.wanted_free (by kernel_rfl) _, ?_⟩
          exact Rel.wp_ld _ _ rfl (c.get 4 17 (by kernel_rfl)) (run_ld2 (cell_keep c.inv HQ.out.1)) ⟨_, rfl, Rel.gr_refl _, rfl, c.inv⟩
        · intro L a w c
          refine .inl ⟨Rel.wanted_free (by kernel_rfl) _, ?_⟩
          exact Rel.wp_mv _ rfl ⟨_, rfl, Rel.gr_refl _, (c.old 0 (v := .slice (some ⟨b1, o1, none⟩) n cb) (by kernel_rfl) (by kernel_rfl)), c.inv⟩
        · intro L a w c
          refine .inl ⟨Rel.wanted_free (by kernel_rfl) _, ?_⟩
          exact Rel.wp_mv _ rfl ⟨_, rfl, Rel.gr_refl _, (c.old 5 (v := .int .i64 (q : Nat)) (by kernel_rfl) (by kernel_rfl)), c.inv⟩
        · intro L a w c
          refine .inl ⟨Rel.wanted_free (by kernel_rfl) _, ?_⟩
          exact Rel.wp_ia _ _ _ rfl (c.get 6 19 (by kernel_rfl)) (c.get 7 20 (by kernel_rfl)) (run_ij hqn w) ⟨_, rfl, Rel.gr_refl _, rfl, c.inv⟩
        · intro L a w c
          refine .inl ⟨Rel.wanted_free (by kernel_rfl) _, ?_⟩
          exact Chn.wp_fa _ _ _ rfl (c.get 8 21 (by kernel_rfl)) (by simp [go_sem]) ⟨_, rfl, Rel.gr_refl _, rfl, c.inv⟩
        · intro L a w c
          refine .inl ⟨Rel.wanted_free (by kernel_rfl) _, ?_⟩
          exact Rel.wp_ld _ _ rfl (c.get 9 22 (by kernel_rfl)) (run_ld2 (cell_keep c.inv HQ.out.2)) ⟨_, rfl, Rel.gr_refl _, rfl, c.inv⟩
        · intro L a w c
          refine .inl ⟨Rel.wanted_free (by kernel_rfl) _, ?_⟩
          exact Chn.wp_bd2 _ _ _ _ _ rfl (Rel.eval_tmp (c.get 5 18 (by kernel_rfl))) (Rel.eval_tmp (c.get 10 23 (by kernel_rfl))) (run_bd_q _ _ w) ⟨_, rfl, Rel.gr_refl _, rfl, c.inv⟩
        · intro L a w c
          refine .inl ⟨Rel.wanted_free (by kernel_rfl) _, ?_⟩
          exact Chn.wp_bs1 _ _ rfl (Rel.eval_tmp (c.get 11 24 (by kernel_rfl))) (run_bs_q _ _ w) ⟨_, rfl, below_alloc _ _, ⟨_, rfl, row_q w _⟩, below_keep c.inv (below_alloc _ _)⟩
      intro a w5 hbase hroom hdef hJ hV
      have s13 : Rel.slot a 13 = .slice ao m co := hV 0 _ _ rfl rfl
      have k25 : (kLitQ ⟨xn, xw⟩ : Rel.Kd (Rel.Gr)).p w5 (Rel.slot a 25) := hV 12 _ _ rfl rfl
      rw [Chn.act_puts [13, 14, 15, 16, 17, 18, 19, 20, 21, 22, 23, 24, 25] hbase hroom hdef (by kernel_rfl)]
      clear hbase hroom hdef hV
      simp only [List.foldl_cons, List.foldl_nil]
      rw [s13]
      clear s13
      generalize Rel.slot a 14 = u14 at *
      generalize Rel.slot a 15 = u15 at *
      generalize Rel.slot a 16 = u16 at *
      generalize Rel.slot a 17 = u17 at *
      generalize Rel.slot a 18 = u18 at *
      generalize Rel.slot a 19 = u19 at *
      generalize Rel.slot a 20 = u20 at *
      generalize Rel.slot a 21 = u21 at *
      generalize Rel.slot a 22 = u22 at *
      generalize Rel.slot a 23 = u23 at *
      generalize Rel.slot a 24 = u24 at *
      generalize Rel.slot a 25 = u25 at *
      simp only [Act.put, List.setIfInBounds_toArray, List.set_cons_succ, List.set_cons_zero]
      obtain ⟨g9, rfl, hrow⟩ := k25
      have HA := Lib.hid (show OwQ w5 w1.heap.size (.slice ao m co) lx ∧ Below w1.heap.size w1 w5 from ⟨Nest.own_on HB.out.1 hJ, below_keep HB.out.2 hJ⟩)
      have HS5 := Lib.hid (show w1.heap.size ≤ w5.heap.size from HA.out.2.size)
      clear hJ
      dsimp only [List.getLast]
      obtain ⟨v9, w9, hr9, ho9, hg9, _⟩ := Two.run_append_apart (P := Try.prog) encQ_len (by omega) encQ_one (w := w5) 26 26 29 Try.underlying26 (.agg #[.int .i64 0, .int .i64 0]) 16 info_ask rfl w1.heap.size (.slice ao m co) lx HA.out.1 (some ⟨g9, 0, none⟩) 1 1 [(⟨xn, xw⟩ : Aq)] rfl hrow (fun h => by cases h) HLn.out.1 HLn.out.2 HS5.out
      have HE9 := Lib.hid (And.intro ho9 (HA.out.2.trans (Two.below_grown HA.out.1 hg9 HS5.out)))
      refine Chn.wp_ap (.tmp 13) (.tmp 25) 26 rfl rfl rfl hr9 ?_
      refine Rel.wp_as _ rfl ?_
      clear hr9 ho9 hg9 hrow
      go_wp2_with fail
      go_roundw
      case rel => exact ⟨k + 1, by omega, by go_num, by rw [HE.out]; exact HE9.out.1, HE9.out.2⟩
      case measure => simp [intOf]; omega
    · obtain rfl : k = r := by omega
      have he : ((ord (ts l)).take k).map (askOf (ts l)) = asksOf (ts l) := by
        unfold asksOf
        rw [HRr.out.2, List.take_length]
      rw [he] at HB
      have HF := Lib.hid (And.intro (owns_le HB.out.1 HR1.out.2.size) (below_keep HR1.out.2 HB.out.2))
      clear hown hb he
      go_wp2_with fail
      go_ret
      exact ⟨_, rfl, HF.out.1, HF.out.2⟩
/-- The landed order does what it must. -/
theorem order_prog : Prog where
  order W a n c l h1 h2 h3 h4 := (order_any W a n c l h1 h4).mono fun e w' ⟨v, e1, ho, hb⟩ => ⟨v, e1, newI_own ho, hb⟩
  asks W a n c l h1 h2 h3 h4 := (asks_any W a n c l h1 h4).mono fun e w' ⟨v, e1, ho, hb⟩ => ⟨v, e1, newQ_own ho, hb⟩
end Go.Proofs.Ytkjkhfkaihncdaa.Ord
