/- Common to the claims of this seat, part 9: texts that were written one by one, laid behind one another. -/
import Derived.BigFrame
import Derived.BigQuiet
import Derived.Deep.DeepCutAuto
import Derived.Deep.CutBlock
import Derived.WalkLawsBesides
import Derived.LoopTactic
import Derived.Test.YtjcndgopijpibaaGreatPart1
import Derived.Test.YtjcndgopijpibaaGreatPart5
import Derived.Test.YtjcndgopijpibaaGreatPart6
import Derived.Test.YtjcndgopijpibaaGreatPart8
/- Book: the laws' plays: some transactions, as far as they may be. -/
namespace Go.Proofs.YtjcndgopijpibaaGreat.Bok
set_option maxRecDepth 100000
open Go.RowKit
open Go.Sort
open Kit
open Foot
open Tre (Lst inI lst_keep lst_at IntsL encI encI_len encF encF_len)
open Rte (encR encR_len)
open Job (Jb Jv Jobs encJ encJ_len)
open Drw (Dw encD encD_len)
open Led (Lg encG encG_len)
open Ent (Tx Tv)
open Snp (Sn Sv encK encK_len)
set_option linter.unusedVariables false
variable {w w' : World}
theorem info_tx7 : (Tryz.prog.info? 34).map (·.size) = some 7 := by kernel_rfl
theorem wp_load_st {o : Oper} {a : Act} {w : World} {K : Act → World → Prop} {Q : Exit → Act → World → Prop} (x : Operand) (ho : o.op = .load 29 x) (B : Nat) (hx : a.eval x = .pointer (some ⟨B, 0, none⟩)) (y : Sv) (hB : Arr.Blk w B 29 (Snp.encV y)) (h : K (a.put o.dst (Snp.valV y)) w) : o.wp Tryz.prog a w K Q :=
  wp_load_row 29 x ho B hx 29 (Snp.encV y).toArray (0, 0) _ hB Tryz.underlying29 rfl info_st h
theorem wp_load_tx {o : Oper} {a : Act} {w : World} {K : Act → World → Prop} {Q : Exit → Act → World → Prop} (x : Operand) (ho : o.op = .load 34 x) (b q : Nat) (hx : a.eval x = .pointer (some ⟨b, q, none⟩)) (t : Tv) (hc : w.rangeAt b q (Ent.encV t)) (h : K (a.put o.dst (Ent.valV t)) w) : o.wp Tryz.prog a w K Q :=
  wp_load_mid 34 x ho b q hx (Ent.encV t) _ hc Tryz.underlying34 rfl info_tx7 h
theorem range_tx {b o n c k : Nat} {l : List Tv} {t : Tv} (h : Txs w (some ⟨b, o, none⟩) n c l) (ht : l[k]? = some t) (hb : Below w.heap.size w w') : w'.rangeAt b (o + k * 7) (Ent.encV t) := fun i v hv => by
  obtain ⟨hk, e⟩ := List.getElem?_eq_some_iff.1 ht
  have hi : i < 7 := (List.getElem?_eq_some_iff.1 hv).1
  have := row_cell h.row hk rfl (i := i) hi
  rw [e, hv] at this
  exact cell_keep hb this
theorem run_itx {b o n c k : Nat} (h : k < n) (w : World) : (Instr.indexAt 22 (.slice (some ⟨b, o, none⟩) n c) (.int .i64 (k : Nat))).run Tryz.prog w = .ok (.pointer (some ⟨b, o + k * 7, none⟩)) w := by simp [go_sem, h]
theorem run_ex_t0 (u v : Value) (w : World) : (Instr.extract (.tuple #[u, v]) 0).run Tryz.prog w = .ok u w := by simp [go_sem]
theorem run_ex_t1 (u v : Value) (w : World) : (Instr.extract (.tuple #[u, v]) 1).run Tryz.prog w = .ok v w := by simp [go_sem]
theorem run_alloc_tx (w : World) : (Instr.alloc 34 true (.tuple #[])).run Tryz.prog w = .ok (.pointer (some ⟨w.heap.size, 0, none⟩)) (w.alloc (.cells z7.toArray 34)) := by
  simp [go_sem]
  rfl
theorem one_tx (u : Tv) : (Ent.encV u).toArray.all (·.oneCell') = true := by
  rw [List.all_toArray]
  simp [Ent.encV]
  exact ⟨rfl, rfl, rfl, rfl, rfl, rfl, rfl⟩
theorem BoxCal.mvd {n : BoxCal.At} {W : World} {T : Tx} {e : Int} {L : Array Bool} {a : Act} (h : BoxCal.J n W T e L (Rel.slot a) w) (hc : L.getD n.ic false = true) (hm : L.getD n.im false = true) : ∃ u : Tv, Rel.slot a n.dm = .tuple #[Ent.valV u, .int .i64 e] := by
  obtain ⟨u, g1, g2, g3, g4, g5, g6, g7⟩ := h.call hc
  exact ⟨u, (g5 hm).trans g1⟩
def nPl : BoxCal.At := ⟨5, 29, 6, 23, 7, 30, 9, 7, 10⟩
def SvAt (y : Sv) (q : Addr) : Prop := y.f.a = some q ∨ y.l.a = some q ∨ y.r.a = some q ∨ y.j.a = some q ∨ y.k.a = some q ∨ ∃ x ∈ y.jobs, x.a = some q
theorem newS_at {base : Nat} {y : Sv} (h : NewS w base y) {q : Addr} (hq : SvAt y q) : base ≤ q.block ∧ q.block < w.heap.size := by
  rcases hq with e | e | e | e | e | ⟨x, hx, e⟩
  · exact ⟨(h.f.new q e).1, (h.f.new q e).2.1⟩
  · exact ⟨(h.l.new q e).1, (h.l.new q e).2.1⟩
  · exact ⟨(h.r.new q e).1, (h.r.new q e).2.1⟩
  · exact ⟨(h.j.new q e).1, (h.j.new q e).2.1⟩
  · exact ⟨(h.k.new q e).1, (h.k.new q e).2.1⟩
  · exact ⟨((h.d x hx).new q e).1, ((h.d x hx).new q e).2.1⟩
theorem newS_chg {base : Nat} {y : Sv} {F : Nat → Prop} (h : NewS w base y) (hC : Chg F w w') (hF : ∀ q, SvAt y q → ¬ F q.block) : NewS w' base y := by
  have f := newL_chg encF_len h.f hC fun q e => hF q (.inl e)
  have l := newL_chg Tre.encL_len h.l hC fun q e => hF q (.inr (.inl e))
  have r := newL_chg encR_len h.r hC fun q e => hF q (.inr (.inr (.inl e)))
  have j := newL_chg encJ_len h.j hC fun q e => hF q (.inr (.inr (.inr (.inl e))))
  have k := newL_chg encK_len h.k hC fun q e => hF q (.inr (.inr (.inr (.inr (.inl e)))))
  have d := fun x hx => newL_chg encD_len (h.d x hx) hC fun q e => hF q (.inr (.inr (.inr (.inr (.inr ⟨x, hx, e⟩)))))
  exact ⟨⟨f.lst, l.lst, r.lst, j.lst, k.lst, fun x hx => (d x hx).lst⟩, f, r, k, l, j, d⟩
theorem newS_keep {base : Nat} {y : Sv} (h : NewS w base y) (hb : Below w.heap.size w w') : NewS w' base y := newS_chg (F := fun _ => False) h (new_chg hb _) fun _ _ => id
theorem newS_le {base base' : Nat} {y : Sv} (h : NewS w base y) (hb : base' ≤ base) : NewS w base' y := ⟨h.inn, newL_le h.f hb, newL_le h.r hb, newL_le h.k hb, newL_le h.l hb, newL_le h.j hb, fun x hx => newL_le (h.d x hx) hb⟩
def z8 : List Value := [.int .i64 0, .int .i64 0, .int .i64 0, .slice none 0 0, .slice none 0 0, .slice none 0 0, .slice none 0 0, .slice none 0 0]
theorem one_st (y : Sv) : (Snp.encV y).all (·.oneCell') = true := by
  simp [Snp.encV]
  exact ⟨rfl, rfl, rfl, rfl, rfl, rfl, rfl, rfl⟩
set_option maxHeartbeats 16000000 in
theorem plays_any (hP : Prog) (W : World) (ab : Option Addr) (n cc : Nat) (l : List Tv) (h : Txs W ab n cc l) (hin : ∀ t ∈ l, t.In W) (hok : ∀ t ∈ l, t.t.ok) (m : Nat) (hm : m ≤ 100) :
    Calls Tryz.prog 18 #[.slice ab n cc, .int .i64 m] W fun e W' => ∃ y : Sv, e = .returned (Snp.valV y) ∧ y.t = playS ((l.map (·.t)).take m) ∧ Inv m y.t ∧ NewS W' W.heap.size y ∧ Below W.heap.size W W' := by
  have hb1 := below_alloc W (.cells z8.toArray 29)
  have hr1 := Arr.blk_new W W.heap.size 29 z8 rfl
  obtain ⟨w1, hw1⟩ : ∃ y, y = W.alloc (.cells #[.int .i64 0, .int .i64 0, .int .i64 0, .slice none 0 0, .slice none 0 0, .slice none 0 0, .slice none 0 0, .slice none 0 0] 29) := ⟨_, rfl⟩
  rw [show W.alloc (.cells z8.toArray 29) = w1 from hw1.symm] at hb1 hr1
  have H1 := Lib.hid (And.intro hr1 hb1)
  have HW1 := Lib.hid hw1
  have HL := Lib.hid (And.intro h (And.intro hin (And.intro hok h.len)))
  have HN := Lib.hid (hP.new w1)
  have HP := Lib.hid hP
  have hn63 : n ≤ 9223372036854775807 := by have h1 := h.cap; have h2 := h.max; unfold maxLen at h2; omega
  clear hb1 hr1 hw1 h hin hok hP
  go_enter Tryz.func18, Tryz.ntmps18
  go_upto_region 1 with fail
  rw [show W.alloc (.cells #[.int .i64 0, .int .i64 0, .int .i64 0, .slice none 0 0, .slice none 0 0, .slice none 0 0, .slice none 0 0, .slice none 0 0] 29) = w1 from HW1.out.symm]
  go_wp2_with fail
  refine HN.out.mono ?_
  rintro e w2 ⟨y0, rfl, hy0, hn0, hb2⟩
  have hbs := Arr.blk_new w2 w2.heap.size 29 (Snp.encV y0) rfl
  have hba := below_alloc w2 (.cells (Snp.encV y0).toArray 29)
  obtain ⟨B, hB⟩ : ∃ B, B = w2.heap.size := ⟨_, rfl⟩
  have hlt0 : W.heap.size < w2.heap.size := Nat.lt_of_lt_of_le (Arr.blk_lt H1.out.1) hb2.size
  obtain ⟨w3, hw3⟩ : ∃ x, x = w2.alloc (.cells (Snp.encV y0).toArray 29) := ⟨_, rfl⟩
  rw [← hw3, ← hB] at hbs
  rw [← hw3] at hba
  have hbr := Arr.blk_below (Arr.blk_below H1.out.1 hb2 (Arr.blk_lt H1.out.1)) hba (by omega)
  have HI0 := Lib.hid (show Arr.Blk w3 B 29 (Snp.encV y0) ∧ Arr.Blk w3 W.heap.size 29 z8 ∧ Below W.heap.size W w3 ∧ y0.t = playS ((l.map (·.t)).take 0) ∧ NewS w3 (W.heap.size + 1) y0 ∧ (∀ q, SvAt y0 q → q.block ≠ B) ∧ W.heap.size < B from
    ⟨hbs, hbr, below_keep H1.out.2 (below_keep hb2 hba), by rw [List.take_zero]; exact hy0, newS_le (newS_keep hn0 hba) (Arr.blk_lt H1.out.1), fun q hq => by have := (newS_at hn0 hq).2; omega, by omega⟩)
  have HW3 := Lib.hid (show w3 = w2.alloc (.cells #[.int .i64 y0.seq, .int .i64 y0.world, .int .i64 y0.next, .slice y0.f.a y0.f.n y0.f.c, .slice y0.l.a y0.l.n y0.l.c, .slice y0.r.a y0.r.n y0.r.c, .slice y0.j.a y0.j.n y0.j.c, .slice y0.k.a y0.k.n y0.k.c] 29) from hw3)
  have HBe := Lib.hid hB
  clear hbs hba hbr hlt0 hn0 hb2 hy0 hw3 hB
  go_upto_block 0 with fail
  rw [show w2.alloc (.cells #[.int .i64 y0.seq, .int .i64 y0.world, .int .i64 y0.next, .slice y0.f.a y0.f.n y0.f.c, .slice y0.l.a y0.l.n y0.l.c, .slice y0.r.a y0.r.n y0.r.c, .slice y0.j.a y0.j.n y0.j.c, .slice y0.k.a y0.k.n y0.k.c] 29) = w3 from HW3.out.symm, ← HBe.out]
  clear HW3 HBe
  go_wp2_with fail
  go_loopw [6] (fun iv wr => ∃ (k : Nat) (y : Sv), k ≤ n ∧ k ≤ m ∧ iv = .int .i64 (k : Nat) ∧ Arr.Blk wr B 29 (Snp.encV y) ∧ Arr.Blk wr W.heap.size 29 z8 ∧ Below W.heap.size W wr ∧ y.t = playS ((l.map (·.t)).take k) ∧ NewS wr (W.heap.size + 1) y ∧ (∀ q, SvAt y q → q.block ≠ B) ∧ Inv k y.t) (fun iv _ => n - (intOf iv).toNat)
  case atStart => exact ⟨0, y0, Nat.zero_le _, Nat.zero_le _, rfl, HI0.out.1, HI0.out.2.1, HI0.out.2.2.1, HI0.out.2.2.2.1, HI0.out.2.2.2.2.1, HI0.out.2.2.2.2.2.1, by rw [HI0.out.2.2.2.1, List.take_zero]; exact inv_new⟩
  case round =>
    obtain ⟨k, y, hk, hkm, rfl, hbk, hbr, hb, hy, hnw, hfar, hinv⟩ := hrel
    have HS := Lib.hid (And.intro hbk (And.intro hbr (And.intro hfar (And.intro hb (And.intro hy (And.intro hnw hinv))))))
    clear hbk hbr hfar hb hy hnw hinv
    by_cases hlt : k < n
    · by_cases hltm : k < m
      · obtain ⟨t, htk⟩ : ∃ x, l[k]? = some x := ⟨_, List.getElem?_eq_getElem (by rw [HL.out.2.2.2]; exact hlt)⟩
        have hmem := List.mem_of_getElem? htk
        obtain ⟨b, o, rfl⟩ := lst_at HL.out.1 (by omega)
        have HT := Lib.hid (And.intro HL.out.1 htk)
        have HLt := Lib.hid hlt
        have HTi := Lib.hid (HL.out.2.2.1 t hmem)
        have hbW := HS.out.2.2.2.1
        have hns := HS.out.2.2.2.2.2.1
        have hiv := HS.out.2.2.2.2.2.2
        obtain ⟨s0, hs0⟩ : ∃ x, x = y.t := ⟨_, rfl⟩
        obtain ⟨t0, ht0⟩ : ∃ x, x = t.t := ⟨_, rfl⟩
        obtain ⟨e0, he0⟩ : ∃ x, x = doE s0 t0 := ⟨_, rfl⟩
        have HF := Lib.hid (fun (w : World) (hb : Below wr.heap.size wr w) => (show Calls Tryz.prog 10 #[Snp.valV y, Ent.valV t] w fun e W' => ∃ u : Tv, e = .returned (.tuple #[Ent.valV u, .int .i64 e0]) ∧ u.t = doT s0 t0 ∧ NewT W' w.heap.size u ∧ Below w.heap.size w W' from by
          have h := HP.out.fill w y t (Snp.in_keep hns.inn hb) hiv.2.1 hiv.1 (Ent.in_keep (HL.out.2.1 t hmem) (below_keep hbW hb)) HTi.out
          rw [← hs0, ← ht0, ← he0] at h
          exact h))
        have hbr5 : True := trivial
        have HE := Lib.hid (And.intro hs0 (And.intro ht0 he0))
        have HMp := Lib.hid (show (l.map (·.t))[k]? = some t0 by rw [List.getElem?_map, htk, ht0]; rfl)
        clear htk hmem hbW hns hiv hs0 ht0 he0 hbr5
        go_upto_region 5 with fail
        refine Rel.wp_region_seen (G := Rel.Gt) (Rel.tab [.is (Snp.valV y), .is (.slice (some ⟨b, o, none⟩) n cc), .is (.int .i64 (k : Nat)), .is (.pointer (some ⟨b, o + k * 7, none⟩)), .is (Ent.valV t), Rel.Kd.any, Rel.Kd.any, Rel.Kd.any, .is (.int .i64 e0), Rel.Kd.any, Rel.Kd.any, .is (.int .i64 e0)]) (BoxCal.J nPl wr (doT s0 t0) e0) (by kernel_rfl) (by kernel_rfl) (by kernel_rfl) (by kernel_rfl) (fun w => trivial) (BoxCal.start (Below.refl _ _) _ _) ?_ ?_
        · refine ⟨?_, ?_, ?_, ?_, ?_, ?_, ?_, ?_, ?_, ?_, ?_, ?_, trivial⟩
          · intro L a w c j
            refine .inl ⟨Rel.wanted_free (by kernel_rfl) _, ?_⟩
            exact wp_load_st (.tmp 5) rfl B (Rel.eval_tmp (c.old 5 (v := .pointer (some ⟨B, 0, none⟩)) (by kernel_rfl) (by kernel_rfl))) y (Arr.blk_below HS.out.1 j.below (Arr.blk_lt HS.out.1)) ⟨_, rfl, trivial, rfl, (BoxCal.go j (k := 0) (d := 24) (by kernel_rfl) (by kernel_rfl) (Below.refl _ _))⟩
          · intro L a w c j
            refine .inl ⟨Rel.wanted_free (by kernel_rfl) _, ?_⟩
            exact Rel.wp_mv _ rfl ⟨_, rfl, trivial, (c.old 0 (v := .slice (some ⟨b, o, none⟩) n cc) (by kernel_rfl) (by kernel_rfl)), (BoxCal.go j (k := 1) (d := 25) (by kernel_rfl) (by kernel_rfl) (Below.refl _ _))⟩
          · intro L a w c j
            refine .inl ⟨Rel.wanted_free (by kernel_rfl) _, ?_⟩
            exact Rel.wp_mv _ rfl ⟨_, rfl, trivial, (c.old 6 (v := .int .i64 (k : Nat)) (by kernel_rfl) (by kernel_rfl)), (BoxCal.go j (k := 2) (d := 26) (by kernel_rfl) (by kernel_rfl) (Below.refl _ _))⟩
          · intro L a w c j
            refine .inl ⟨Rel.wanted_free (by kernel_rfl) _, ?_⟩
            exact Rel.wp_ia _ _ _ rfl (c.get 1 25 (by kernel_rfl)) (c.get 2 26 (by kernel_rfl)) (run_itx HLt.out w) ⟨_, rfl, trivial, rfl, (BoxCal.go j (k := 3) (d := 27) (by kernel_rfl) (by kernel_rfl) (Below.refl _ _))⟩
          · intro L a w c j
            refine .inl ⟨Rel.wanted_free (by kernel_rfl) _, ?_⟩
            exact wp_load_tx (.tmp 27) rfl b (o + k * 7) (Rel.eval_tmp (c.get 3 27 (by kernel_rfl))) t (range_tx HT.out.1 HT.out.2 (below_keep HS.out.2.2.2.1 j.below)) ⟨_, rfl, trivial, rfl, (BoxCal.go j (k := 4) (d := 28) (by kernel_rfl) (by kernel_rfl) (Below.refl _ _))⟩
          · intro L a w c j
            refine .inl ⟨Rel.wanted_free (by kernel_rfl) _, ?_⟩
            refine Rel.wp_cl _ _ _ rfl Tryz.func10 (by kernel_rfl) ?_
            show Calls _ _ #[Rel.slot a 24, Rel.slot a 28] w _
            rw [show Rel.slot a 24 = Snp.valV y from (c.get 0 24 (by kernel_rfl)), show Rel.slot a 28 = Ent.valV t from (c.get 4 28 (by kernel_rfl))]
            refine (HF.out w j.below).mono ?_
            rintro e w' ⟨u, rfl, hu, hn, hb⟩
            exact ⟨_, rfl, _, rfl, trivial, trivial, BoxCal.cl j (by kernel_rfl) (by kernel_rfl) (by rw [c.room]; exact of_decide_eq_true (by kernel_rfl)) (by rw [c.size]; exact of_decide_eq_true (by kernel_rfl)) (c.later 6 (by kernel_rfl)) (c.later2 7 6 (by kernel_rfl) (c.later 6 (by kernel_rfl))) (c.later 10 (by kernel_rfl)) hb hu hn⟩
          · intro L a w c j
            refine .inl ⟨Rel.wanted_free (by kernel_rfl) _, ?_⟩
            exact Rel.wp_mv _ rfl ⟨_, rfl, trivial, trivial, BoxCal.mv j (by kernel_rfl) (by kernel_rfl) (by rw [c.room]; exact of_decide_eq_true (by kernel_rfl)) (by rw [c.size]; exact of_decide_eq_true (by kernel_rfl))⟩
          · intro L a w c j
            refine .inl ⟨Rel.wanted_free (by kernel_rfl) _, ?_⟩
            obtain ⟨u, hu, hj⟩ := BoxCal.ex j (by kernel_rfl) (by kernel_rfl) (by rw [c.room]; exact of_decide_eq_true (by kernel_rfl)) (by rw [c.size]; exact of_decide_eq_true (by kernel_rfl)) (c.via 6 5 (by kernel_rfl) (c.came 6 (by kernel_rfl))) (c.came 6 (by kernel_rfl))
            exact Rel.wp_ex _ _ rfl (Rel.eval_tmp hu) (run_ex_t0 _ _ w) ⟨_, rfl, trivial, trivial, hj⟩
          · intro L a w c j
            refine .inl ⟨Rel.wanted_free (by kernel_rfl) _, ?_⟩
            obtain ⟨u, hu⟩ := BoxCal.mvd j (c.via 6 5 (by kernel_rfl) (c.came 6 (by kernel_rfl))) (c.came 6 (by kernel_rfl))
            exact Rel.wp_ex _ _ rfl (Rel.eval_tmp hu) (run_ex_t1 _ _ w) ⟨_, rfl, trivial, rfl, (BoxCal.go j (k := 8) (d := 31) (by kernel_rfl) (by kernel_rfl) (Below.refl _ _))⟩
          · intro L a w c j
            refine .inl ⟨Rel.wanted_free (by kernel_rfl) _, ?_⟩
            exact Rel.wp_al _ rfl (run_alloc_tx w) ⟨_, rfl, trivial, trivial, BoxCal.al j (by kernel_rfl) (by kernel_rfl) (by rw [c.room]; exact of_decide_eq_true (by kernel_rfl)) (by rw [c.size]; exact of_decide_eq_true (by kernel_rfl)) (c.later 10 (by kernel_rfl))⟩
          · intro L a w c j
            refine .inl ⟨Rel.wanted_free (by kernel_rfl) _, ?_⟩
            obtain ⟨b9, u, hb9, hu, hblk, hj⟩ := BoxCal.st j (by kernel_rfl) (c.via 6 5 (by kernel_rfl) (c.via 7 6 (by kernel_rfl) (c.came 7 (by kernel_rfl)))) (c.came 7 (by kernel_rfl)) (c.came 9 (by kernel_rfl)) (Rel.free_no c.free) c.size (of_decide_eq_true (by kernel_rfl))
            exact wp_store_row 34 (.tmp 7) (.tmp 30) rfl b9 (Ent.encV u).toArray (Rel.eval_tmp hb9) (Rel.eval_tmp hu) 34 z7.toArray hblk info_tx7 rfl (one_tx u) ⟨_, rfl, trivial, trivial, hj⟩
          · intro L a w c j
            refine .inl ⟨Rel.wanted_free (by kernel_rfl) _, ?_⟩
            exact Rel.wp_as _ rfl ⟨_, rfl, trivial, (c.get 8 31 (by kernel_rfl)), (BoxCal.go j (k := 11) (d := 8) (by kernel_rfl) (by kernel_rfl) (Below.refl _ _))⟩
        intro a w9 hbase hroom hdef hJ hV
        obtain ⟨b9, u, e1, hut, hnt, hb9, hbk, hbw⟩ := BoxCal.fin hJ (by decide) (by decide)
        clear hJ
        change Rel.slot a 7 = _ at e1
        have s8 : Rel.slot a 8 = .int .i64 e0 := hV 11 _ _ rfl rfl
        have k7 : (Rel.Kd.any : Rel.Kd (Rel.Gt)).p w9 (Rel.slot a 7) := hV 9 _ _ rfl rfl
        rw [Chn.act_puts [24, 25, 26, 27, 28, 29, 23, 30, 31, 7, 8] hbase hroom hdef (by kernel_rfl)]
        clear hbase hroom hdef hV
        simp only [List.foldl_cons, List.foldl_nil]
        generalize Rel.slot a 24 = u24 at *
        generalize Rel.slot a 25 = u25 at *
        generalize Rel.slot a 26 = u26 at *
        generalize Rel.slot a 27 = u27 at *
        generalize Rel.slot a 28 = u28 at *
        generalize Rel.slot a 29 = u29 at *
        generalize Rel.slot a 23 = u23 at *
        generalize Rel.slot a 30 = u30 at *
        generalize Rel.slot a 31 = u31 at *
        generalize Rel.slot a 7 = u7 at *
        rw [s8]
        clear s8
        simp only [Act.put, List.setIfInBounds_toArray, List.set_cons_succ, List.set_cons_zero]
        rw [e1]
        have hS9 : Arr.Blk w9 B 29 (Snp.encV y) ∧ Arr.Blk w9 W.heap.size 29 z8 ∧ Below W.heap.size W w9 := ⟨Arr.blk_below HS.out.1 hbw (Arr.blk_lt HS.out.1), Arr.blk_below HS.out.2.1 hbw (Arr.blk_lt HS.out.2.1), below_keep HS.out.2.2.2.1 hbw⟩
        have H9 := Lib.hid (And.intro hbk (And.intro hS9 (And.intro (newS_keep HS.out.2.2.2.2.2.1 hbw) (And.intro hnt (And.intro hut hb9)))))
        clear hbk hS9 hnt hut hbw k7 e1
        by_cases he : e0 = 0
        · subst he
          have hd0 : doE s0 t0 = 0 := HE.out.2.2.symm
          have HSt := Lib.hid (show playS ((l.map (·.t)).take (k + 1)) = doS s0 t0 by
            rw [play_next HMp.out, ← HS.out.2.2.2.2.1, ← HE.out.1]
            unfold stepS
            rw [if_pos hd0])
          have hinv := HS.out.2.2.2.2.2.2
          rw [← HE.out.1] at hinv
          have ht0 : t0.ok := by rw [HE.out.2.1]; exact HTi.out
          have HIv := Lib.hid (inv_do hinv (by omega) ht0 hd0)
          have HA := Lib.hid (show Calls Tryz.prog 13 #[Snp.valV y, Ent.valV u] w9 fun e W' => ∃ y2 : Sv, e = .returned (.tuple #[Snp.valV y2, .int .i64 0]) ∧ y2.t = doS s0 t0 ∧ NewS W' w9.heap.size y2 ∧ Below w9.heap.size w9 W' from by
            have h := HP.out.apply w9 y u H9.out.2.2.1.inn (by rw [← HE.out.1]; exact hinv.2.1) (by rw [← HE.out.1]; exact hinv.1) H9.out.2.2.2.1.inn (by rw [H9.out.2.2.2.2.1]; exact filled_ok hinv.1 hinv.2.1 ht0)
            rw [H9.out.2.2.2.2.1, ← HE.out.1, (apply_filled hd0).1, (apply_filled hd0).2] at h
            exact h)
          clear hinv ht0 hd0
          go_wp2_with (first | (refine Arr.wpList_load_blk rfl 29 (.tmp 5) rfl B rfl (Snp.encV y) 29 H9.out.2.1.1 _ Tryz.underlying29 rfl info_st ?_) | (refine Arr.wpList_load_blk rfl 34 (.tmp 7) rfl b9 rfl (Ent.encV u) 34 H9.out.1 _ Tryz.underlying34 rfl info_tx7 ?_) | fail)
          refine HA.out.mono ?_
          rintro e w10 ⟨y2, rfl, hy2, hn2, hb10⟩
          have hba := below_alloc w10 (.cells (Snp.encV y2).toArray 29)
          have hbs := Arr.blk_new w10 w10.heap.size 29 (Snp.encV y2) rfl
          obtain ⟨w11, hw11⟩ : ∃ x, x = w10.alloc (.cells (Snp.encV y2).toArray 29) := ⟨_, rfl⟩
          rw [← hw11] at hba hbs
          obtain ⟨C, hC⟩ : ∃ x, x = w10.heap.size := ⟨_, rfl⟩
          rw [← hC] at hbs
          have hB9 : B < w9.heap.size := Arr.blk_lt H9.out.2.1.1
          have hb11 := below_keep hb10 hba
          have H11 := Lib.hid (show Arr.Blk w11 C 29 (Snp.encV y2) ∧ Arr.Blk w11 B 29 (Snp.encV y) ∧ Arr.Blk w11 W.heap.size 29 z8 ∧ Below W.heap.size W w11 ∧ y2.t = doS s0 t0 ∧ NewS w11 w9.heap.size y2 ∧ B < w9.heap.size ∧ W.heap.size + 1 ≤ w9.heap.size from
            ⟨hbs, Arr.blk_below H9.out.2.1.1 hb11 hB9, Arr.blk_below H9.out.2.1.2.1 hb11 (Arr.blk_lt H9.out.2.1.2.1), below_keep H9.out.2.1.2.2 hb11, hy2, newS_keep hn2 hba, hB9, Arr.blk_lt H9.out.2.1.2.1⟩)
          have HW11 := Lib.hid (And.intro (show w11 = w10.alloc (.cells #[.int .i64 y2.seq, .int .i64 y2.world, .int .i64 y2.next, .slice y2.f.a y2.f.n y2.f.c, .slice y2.l.a y2.l.n y2.l.c, .slice y2.r.a y2.r.n y2.r.c, .slice y2.j.a y2.j.n y2.j.c, .slice y2.k.a y2.k.n y2.k.c] 29) from hw11) hC)
          clear hba hbs hw11 hC hB9 hb11 hy2 hn2 hb10 HA
          go_upto_region 9 with fail
          rw [show w10.alloc (.cells #[.int .i64 y2.seq, .int .i64 y2.world, .int .i64 y2.next, .slice y2.f.a y2.f.n y2.f.c, .slice y2.l.a y2.l.n y2.l.c, .slice y2.r.a y2.r.n y2.r.c, .slice y2.j.a y2.j.n y2.j.c, .slice y2.k.a y2.k.n y2.k.c] 29) = w11 from HW11.out.1.symm, ← HW11.out.2]
          clear HW11
          go_wp2_with (first | (refine Arr.wpList_load_blk rfl 29 (.tmp 9) rfl C rfl (Snp.encV y2) 29 H11.out.1 _ Tryz.underlying29 rfl info_st ?_) | (refine wpList_store_own rfl 29 (.tmp 5) (.tmp 42) rfl B (Snp.encV y2) rfl rfl (Snp.encV y) 29 H11.out.2.1 info_st rfl (one_st y2) ?_; intro wz hblk hCz hsz) | fail)
          go_roundw
          case rel =>
            refine ⟨k + 1, y2, by omega, by omega, by go_num, hblk, blk_chg hCz H11.out.2.2.1 (by have := HI0.out.2.2.2.2.2.2; omega), H11.out.2.2.2.1.trans (chg_below hCz (fun k hk => by have := HI0.out.2.2.2.2.2.2; omega) H11.out.2.2.2.1.size), by rw [HSt.out]; exact H11.out.2.2.2.2.1, newS_le (newS_chg H11.out.2.2.2.2.2.1 hCz fun q hq e => ?_) H11.out.2.2.2.2.2.2.2, fun q hq e => ?_, ?_⟩
            · have h1 := (newS_at H11.out.2.2.2.2.2.1 hq).1
              have h2 := H11.out.2.2.2.2.2.2.1
              replace e : q.block = B := e
              omega
            · have h1 := (newS_at H11.out.2.2.2.2.2.1 hq).1
              have h2 := H11.out.2.2.2.2.2.2.1
              omega
            · rw [H11.out.2.2.2.2.1]; exact HIv.out
          case measure => simp [intOf]; omega
        · have he2 : (e0 == 0) = false := beq_false_of_ne he
          have HSt := Lib.hid (show playS ((l.map (·.t)).take (k + 1)) = s0 by
            rw [play_next HMp.out, ← HS.out.2.2.2.2.1, ← HE.out.1]
            unfold stepS
            rw [if_neg (by rw [← HE.out.2.2]; exact he)])
          go_wp2_with fail
          go_roundw
          case rel => exact ⟨k + 1, y, by omega, by omega, by go_num, H9.out.2.1.1, H9.out.2.1.2.1, H9.out.2.1.2.2, by rw [HSt.out, HE.out.1], H9.out.2.2.1, HS.out.2.2.1, inv_le HS.out.2.2.2.2.2.2 (by omega)⟩
          case measure => simp [intOf]; omega
      · obtain rfl : k = m := by omega
        have HPl := Lib.hid (show y.t = playS ((l.map (·.t)).take k) by rw [HS.out.2.2.2.2.1])
        go_wp2_with (first | (refine Arr.wpList_load_blk rfl 29 (.tmp 5) rfl B rfl (Snp.encV y) 29 HS.out.1 _ Tryz.underlying29 rfl info_st ?_) | (refine wpList_store_own rfl 29 (.tmp 4) (.tmp 43) rfl W.heap.size (Snp.encV y) rfl rfl z8 29 HS.out.2.1 info_st rfl (one_st y) ?_; intro wz hblk hCz hsz) | fail)
        refine bodyPost_ret (results_cell_blk rfl _ _ W.heap.size 29 (Snp.encV y) _ rfl hblk Tryz.underlying29 rfl info_st) rfl ?_
        have hn := newS_chg HS.out.2.2.2.2.2.1 hCz fun q hq e => by have h1 := (newS_at HS.out.2.2.2.2.2.1 hq).1; replace e : q.block = W.heap.size := e; omega
        exact ⟨y, rfl, HPl.out, inv_le HS.out.2.2.2.2.2.2 (by omega), newS_le hn (Nat.le_succ _), HS.out.2.2.2.1.trans (chg_below hCz (fun k hk => Nat.le_of_eq hk.symm) HS.out.2.2.2.1.size)⟩
    · obtain rfl : k = n := by omega
      · have HPl := Lib.hid (show y.t = playS ((l.map (·.t)).take m) by rw [HS.out.2.2.2.2.1]; rw [List.take_of_length_le (by rw [List.length_map, HL.out.2.2.2]; exact Nat.le_refl _), List.take_of_length_le (by rw [List.length_map, HL.out.2.2.2]; omega)])
        go_wp2_with (first | (refine Arr.wpList_load_blk rfl 29 (.tmp 5) rfl B rfl (Snp.encV y) 29 HS.out.1 _ Tryz.underlying29 rfl info_st ?_) | (refine wpList_store_own rfl 29 (.tmp 4) (.tmp 43) rfl W.heap.size (Snp.encV y) rfl rfl z8 29 HS.out.2.1 info_st rfl (one_st y) ?_; intro wz hblk hCz hsz) | fail)
        refine bodyPost_ret (results_cell_blk rfl _ _ W.heap.size 29 (Snp.encV y) _ rfl hblk Tryz.underlying29 rfl info_st) rfl ?_
        have hn := newS_chg HS.out.2.2.2.2.2.1 hCz fun q hq e => by have h1 := (newS_at HS.out.2.2.2.2.2.1 hq).1; replace e : q.block = W.heap.size := e; omega
        exact ⟨y, rfl, HPl.out, inv_le HS.out.2.2.2.2.2.2 (by omega), newS_le hn (Nat.le_succ _), HS.out.2.2.2.1.trans (chg_below hCz (fun k hk => Nat.le_of_eq hk.symm) HS.out.2.2.2.1.size)⟩
end Go.Proofs.YtjcndgopijpibaaGreat.Bok
/- Ledger: two lists of allocations that are one (the document's Same). -/
namespace Go.Proofs.YtjcndgopijpibaaGreat.Led
set_option maxRecDepth 100000
open Go.RowKit
open Go.Sort
open Kit
open Tre
set_option linter.unusedVariables false
variable {w w' : World}
set_option maxHeartbeats 4000000 in
theorem same_any (a1 a2 : Option Addr) (n c1 c2 : Nat) (l : List Al) (w : World) (h1 : Allocs w a1 n c1 l) (h2 : Allocs w a2 n c2 l) :
    Calls Tryz.prog 21 #[.slice a1 n c1, .slice a2 n c2] w fun e w' => e = .returned (.bool true) ∧ Below w.heap.size w w' := by
  have hm1 : n ≤ 9223372036854775807 := by have := h1.cap; have := h1.max; unfold maxLen at this; omega
  have HL := Lib.hid (And.intro h1 (And.intro h2 h1.len))
  clear h1 h2
  go_enter Tryz.func21, Tryz.ntmps21
  go_wp2_with fail
  go_loopw [5] (fun i wr => ∃ k : Nat, k ≤ n ∧ i = .int .i64 (k : Nat) ∧ Below w.heap.size w wr) (fun i _ => n - (intOf i).toNat)
  case atStart => exact ⟨0, Nat.zero_le _, rfl, Below.refl _ _⟩
  case round =>
    obtain ⟨k, hk, rfl, hb⟩ := hrel
    have HB := Lib.hid hb
    clear hb
    by_cases hlt : k < n
    · have hkl : k < l.length := by rw [HL.out.2.2]; exact hlt
      obtain ⟨b1, o1, rfl⟩ := lst_at HL.out.1 (by omega)
      obtain ⟨b2, o2, rfl⟩ := lst_at HL.out.2.1 (by omega)
      obtain ⟨p0, p1, p2, p3, p4, p5⟩ := alloc_cells6 (lst_keep encL_len HL.out.1 HB.out) hkl
      obtain ⟨q0, q1, q2, q3, q4, q5⟩ := alloc_cells6 (lst_keep encL_len HL.out.2.1 HB.out) hkl
      generalize l[k] = x at *
      obtain ⟨x0, x1, x2, x3, x4, x5⟩ := x
      simp only at p0 p1 p2 p3 p4 p5 q0 q1 q2 q3 q4 q5
      go_wp2_with fail
      go_quiet (fail)
      go_wp2_with fail
      go_roundw
      case rel => exact ⟨k + 1, by omega, by go_num, below_keep HB.out (below_drewN' _ _)⟩
      case measure => simp [intOf]; omega
    · obtain rfl : k = n := by omega
      go_wp2_with fail
      go_ret
      exact ⟨rfl, HB.out⟩
end Go.Proofs.YtjcndgopijpibaaGreat.Led
/- Snap: a state's cells, and those of what its lists hold. -/
namespace Go.Proofs.YtjcndgopijpibaaGreat.Snp
set_option maxRecDepth 100000
open Go.RowKit
open Go.Sort
open Kit
open Tre (Lst inI lst_keep lst_at lst_new lst_none IntsL int_cell encI encI_len below_drewN' Funds Allocs Al encF encF_len encL_len fund_cells alloc_cells6)
open Rte (Rt Rates encR encR_len rate_cells)
open Job (Jb Jv Jobs encJ encJ_len job_cell job_keep)
open Drw (Dw Draws encD encD_len draw_cells)
set_option linter.unusedVariables false
variable {w w' : World}
theorem box_cells {B : Nat} {x : Sv} (h : Arr.Blk w B 29 (encV x)) :
    w.cell? ⟨B, 0, none⟩ = some (.int .i64 x.seq) ∧ w.cell? ⟨B, 1, none⟩ = some (.int .i64 x.world) ∧ w.cell? ⟨B, 2, none⟩ = some (.int .i64 x.next) ∧ w.cell? ⟨B, 3, none⟩ = some (.slice x.f.a x.f.n x.f.c) ∧ w.cell? ⟨B, 4, none⟩ = some (.slice x.l.a x.l.n x.l.c) ∧ w.cell? ⟨B, 5, none⟩ = some (.slice x.r.a x.r.n x.r.c) ∧ w.cell? ⟨B, 6, none⟩ = some (.slice x.j.a x.j.n x.j.c) ∧ w.cell? ⟨B, 7, none⟩ = some (.slice x.k.a x.k.n x.k.c) :=
  ⟨Arr.blk_cell h 0, Arr.blk_cell h 1, Arr.blk_cell h 2, Arr.blk_cell h 3, Arr.blk_cell h 4, Arr.blk_cell h 5, Arr.blk_cell h 6, Arr.blk_cell h 7⟩
theorem all_next {α : Type} {l : List α} {k : Nat} {x : α} (h : l[k]? = some x) {p : α → Prop} (hp : ∀ y ∈ l.take k, p y) (hx : p x) : ∀ y ∈ l.take (k + 1), p y := by
  obtain ⟨hk, e⟩ := List.getElem?_eq_some_iff.1 h
  intro y hy
  rw [List.take_succ_eq_append_getElem hk, e] at hy
  rcases List.mem_append.1 hy with hy | hy
  · exact hp y hy
  · rw [List.mem_singleton] at hy; subst hy; exact hx
theorem all_none {α : Type} {l : List α} {p : α → Prop} : ∀ y ∈ l.take 0, p y := fun y hy => by rw [List.take_zero] at hy; cases hy
theorem alloc_at {b o n c k : Nat} {l : List Al} {x : Al} (h : Allocs w (some ⟨b, o, none⟩) n c l) (hx : l[k]? = some x) : w.cell? ⟨b, o + k * 6, none⟩ = some (.int .i64 x.fund) ∧ w.cell? ⟨b, o + k * 6 + 1, none⟩ = some (.int .i64 x.from') ∧ w.cell? ⟨b, o + k * 6 + 2, none⟩ = some (.int .i64 x.till) ∧ w.cell? ⟨b, o + k * 6 + 3, none⟩ = some (.int .i64 x.avail) ∧ w.cell? ⟨b, o + k * 6 + 4, none⟩ = some (.int .i64 x.lien) ∧ w.cell? ⟨b, o + k * 6 + 5, none⟩ = some (.int .i64 x.spent) := by
  obtain ⟨hk, e⟩ := List.getElem?_eq_some_iff.1 hx
  have := alloc_cells6 h hk
  rwa [e] at this
theorem rate_at {b o n c k : Nat} {l : List Rt} {x : Rt} (h : Rates w (some ⟨b, o, none⟩) n c l) (hx : l[k]? = some x) : w.cell? ⟨b, o + k * 3, none⟩ = some (.int .i64 x.qos) ∧ w.cell? ⟨b, o + k * 3 + 1, none⟩ = some (.int .i64 x.from') ∧ w.cell? ⟨b, o + k * 3 + 2, none⟩ = some (.int .i64 x.price) := by
  obtain ⟨hk, e⟩ := List.getElem?_eq_some_iff.1 hx
  have := rate_cells h hk
  rwa [e] at this
theorem job_all {b o n c k : Nat} {l : List Jv} {x : Jv} (h : Jobs w (some ⟨b, o, none⟩) n c l) (hx : l[k]? = some x) : w.cell? ⟨b, o + k * 12, none⟩ = some (.int .i64 x.t.id) ∧ w.cell? ⟨b, o + k * 12 + 1, none⟩ = some (.int .i64 x.t.fund) ∧ w.cell? ⟨b, o + k * 12 + 2, none⟩ = some (.int .i64 x.t.nodes) ∧ w.cell? ⟨b, o + k * 12 + 3, none⟩ = some (.int .i64 x.t.wall) ∧ w.cell? ⟨b, o + k * 12 + 4, none⟩ = some (.int .i64 x.t.qos) ∧ w.cell? ⟨b, o + k * 12 + 5, none⟩ = some (.int .i64 x.t.prio) ∧ w.cell? ⟨b, o + k * 12 + 6, none⟩ = some (.int .i64 x.t.price) ∧ w.cell? ⟨b, o + k * 12 + 7, none⟩ = some (.int .i64 x.t.state) ∧ w.cell? ⟨b, o + k * 12 + 8, none⟩ = some (.int .i64 x.t.start) ∧ w.cell? ⟨b, o + k * 12 + 9, none⟩ = some (.int .i64 x.t.mask) ∧ w.cell? ⟨b, o + k * 12 + 10, none⟩ = some (.int .i64 x.t.used) ∧ w.cell? ⟨b, o + k * 12 + 11, none⟩ = some (.slice x.a x.n x.c) := by
  obtain ⟨hk, e⟩ := List.getElem?_eq_some_iff.1 hx
  have h' := fun i hi => job_cell h hk i hi
  rw [e] at h'
  exact ⟨h' 0 (by omega), h' 1 (by omega), h' 2 (by omega), h' 3 (by omega), h' 4 (by omega), h' 5 (by omega), h' 6 (by omega), h' 7 (by omega), h' 8 (by omega), h' 9 (by omega), h' 10 (by omega), h' 11 (by omega)⟩
theorem draw_at {b o n c k : Nat} {l : List Dw} {x : Dw} (h : Draws w (some ⟨b, o, none⟩) n c l) (hx : l[k]? = some x) : w.cell? ⟨b, o + k * 2, none⟩ = some (.int .i64 x.alloc) ∧ w.cell? ⟨b, o + k * 2 + 1, none⟩ = some (.int .i64 x.amt) := by
  obtain ⟨hk, e⟩ := List.getElem?_eq_some_iff.1 hx
  have := draw_cells h hk
  rwa [e] at this
theorem fund_at {b o n c k : Nat} {l : List Tre.Fd} {x : Tre.Fd} (h : Funds w (some ⟨b, o, none⟩) n c l) (hx : l[k]? = some x) : w.cell? ⟨b, o + k * 3, none⟩ = some (.string x.name) ∧ w.cell? ⟨b, o + k * 3 + 1, none⟩ = some (.int .i64 x.par) ∧ w.cell? ⟨b, o + k * 3 + 2, none⟩ = some (.int .i64 x.lim) := by
  obtain ⟨hk, e⟩ := List.getElem?_eq_some_iff.1 hx
  have := fund_cells h hk
  rwa [e] at this
end Go.Proofs.YtjcndgopijpibaaGreat.Snp
