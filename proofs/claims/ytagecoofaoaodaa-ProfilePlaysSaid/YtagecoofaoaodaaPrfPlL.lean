/- Profile: ProfilePlays, over any profiles that do as they should. -/
import Derived.Test.YtagecoofaoaodaaPrfTkL
import Derived.Test.YtagecoofaoaodaaRegLst
import Derived.Test.YtagecoofaoaodaaRegTwo
import Derived.Test.YtagecoofaoaodaaArrs
namespace Go.Proofs.Ytagecoofaoaodaa.Prf
set_option maxRecDepth 100000
open Go.RowKit
open Go.Sort
open Kit
open Tre (Lst inI lst_keep lst_take lst_at lst_new lst_none below_drewN' run_ld2 i64_wf cells_int)
set_option linter.unusedVariables false
variable {w w' : World}

/-! ### What is taken -/

structure Ct where
  tick : Int
  long : Int
  nodes : Int
def encC (c : Ct) : List Value := [.int .i64 c.tick, .int .i64 c.long, .int .i64 c.nodes]
theorem encC_len (c : Ct) : (encC c).length = 3 := rfl
abbrev Cuts := Lst encC 3
theorem cut_cells {b o n c k : Nat} {l : List Ct} (h : Cuts w (some ⟨b, o, none⟩) n c l) (hk : k < l.length) :
    w.cell? ⟨b, o + k * 3, none⟩ = some (.int .i64 l[k].tick) ∧ w.cell? ⟨b, o + k * 3 + 1, none⟩ = some (.int .i64 l[k].long) ∧ w.cell? ⟨b, o + k * 3 + 2, none⟩ = some (.int .i64 l[k].nodes) :=
  ⟨row_cell h.row hk rfl (i := 0) (by omega), row_cell h.row hk rfl (i := 1) (by omega), row_cell h.row hk rfl (i := 2) (by omega)⟩
def RCt (cs : List Value) (x : Ct) : Prop := cs = encC x
theorem cells_cut : Try.prog.cellsOf 33 = 3 := by kernel_rfl
theorem opens_cut : Opn.Opens Try.prog w 33 RCt := by
  refine Opn.opens_struct Try.underlying33 fun cs hlen hf => ?_
  rw [cells_cut] at hlen
  match cs, hlen with
  | [c0, c1, c2], _ =>
    obtain ⟨k0, h0, w0⟩ := hf 0 _ rfl _ _ (Opn.opens_int Try.underlying3)
    obtain ⟨k1, h1, w1⟩ := hf 1 _ rfl _ _ (Opn.opens_int Try.underlying3)
    obtain ⟨k2, h2, w2⟩ := hf 2 _ rfl _ _ (Opn.opens_int Try.underlying3)
    simp [cells_int] at h0 h1 h2
    subst h0 h1 h2
    exact ⟨⟨k0, k1, k2⟩, rfl⟩
theorem opens_cuts : Opn.Opens Try.prog w 23 (Opn.RSlice RCt 3 w) := Opn.opens_slice Try.underlying23 cells_cut (by omega) opens_cut
theorem cuts_arg {a : Option Addr} {len cap : Nat} {l : List Ct} (h : Opn.RSlice RCt 3 w [.slice a len cap] l) : Cuts w a len cap l := by
  obtain ⟨a', len', cap', he, hl, hc, hm, hn, hcs⟩ := h
  simp at he
  obtain ⟨rfl, rfl, rfl⟩ := he
  exact ⟨hl, hc, hm, hn, Kit.row_of_cells (fun _ _ h => h) hcs⟩
def zero3 : List Value := [.int .i64 0, .int .i64 0, .int .i64 0]
theorem info_ct : (Try.prog.info? 33).map (·.size) = some 3 := by kernel_rfl
theorem run_ic {b o n c k : Nat} (h : k < n) (w : World) : (Instr.indexAt 23 (.slice (some ⟨b, o, none⟩) n c) (.int .i64 (k : Nat))).run Try.prog w = .ok (.pointer (some ⟨b, o + k * 3, none⟩)) w := by
  simp [go_sem, h]
theorem run_alloc_ct (w : World) : (Instr.alloc 33 true (.tuple #[])).run Try.prog w = .ok (.pointer (some ⟨w.heap.size, 0, none⟩)) (w.alloc (.cells zero3.toArray 33)) := by
  simp [go_sem]
  rfl
theorem run_build3 (x y z : Int) (w : World) : (Instr.build 33 #[(0, .int .i64 x), (1, .int .i64 y), (2, .int .i64 z)]).run Try.prog w = .ok (.agg #[.int .i64 x, .int .i64 y, .int .i64 z]) w := by
  simp [go_sem]
theorem wp_bd3 {P : Program} {o : Oper} {a : Act} {K : Act → World → Prop} {Q : Exit → Act → World → Prop} (t : TypeId) (x y z : Operand) (ho : o.op = .build t #[(0, x), (1, y), (2, z)]) {vx vy vz r : Value} {w' : World} (hx : a.eval x = vx) (hy : a.eval y = vy) (hz : a.eval z = vz) (hr : (Instr.build t #[(0, vx), (1, vy), (2, vz)]).run P w = .ok r w') (h : K (a.put o.dst r) w') : o.wp P a w K Q := by
  subst hx hy hz
  unfold Oper.wp execOp
  have hm : (#[(0, x), (1, y), (2, z)] : Array (Nat × Operand)).map (fun (i, x) => (i, a.eval x)) = #[(0, a.eval x), (1, a.eval y), (2, a.eval z)] := by simp
  simp only [ho, Sem.run_bind, hm, hr]
  exact h
def kC (base : Nat) : Rel.Kd Rel.Gr := ⟨fun w u => ∃ B, u = .pointer (some ⟨B, 0, none⟩) ∧ base ≤ B ∧ Arr.Blk w B 33 zero3, fun _ _ _ h ⟨B, e, h1, h2⟩ => ⟨B, e, h1, Arr.blk_below h2 h (Arr.blk_lt h2)⟩⟩
def kPr (q : List St) : Rel.Kd Rel.Gr := ⟨fun w u => ∃ a c, u = .slice a q.length c ∧ Steps w a q.length c q, fun _ _ _ h ⟨a, c, e, hs⟩ => ⟨a, c, e, lst_keep encS_len hs h⟩⟩
theorem taken_there {K : Nat} {p : List St} {u at' long nodes : Int} (hp : Pg K p u) (h0 : 0 ≤ long) (ha : Tk at') (hal : Tk (at' + long)) (hnd : Nd nodes) : ∃ q, IsP q (takeF p at' long nodes) u ∧ Pg (K + 1) q u := by
  obtain ⟨ts, hts⟩ := isT_there u (at' :: (at' + long) :: p.map (·.tick))
  obtain ⟨h1, _⟩ := take_isP (nodes := nodes) h0 hts
  exact ⟨_, h1, pg_take hp h0 ha hal hnd h1⟩

theorem Pg.more {K : Nat} {p : List St} {u : Int} (h : Pg K p u) : Pg (K + 1) p u :=
  ⟨h.norm, h.head, by have := h.len; omega, h.tick, fun s hs => by have := h.free s hs; omega⟩
/-- Two slices of one list. -/
def TwoS (W w : World) (a1 a2 : Option Addr) (np c1 c2 : Nat) (p : List St) : Prop := Below W.heap.size W w ∧ Steps w a1 np c1 p ∧ Steps w a2 np c2 p
theorem two_keep {W w w' : World} {a1 a2 : Option Addr} {np c1 c2 : Nat} {p : List St} (h : TwoS W w a1 a2 np c1 c2 p) (hb : Below w.heap.size w w') : TwoS W w' a1 a2 np c1 c2 p :=
  ⟨below_keep h.1 hb, lst_keep encS_len h.2.1 hb, lst_keep encS_len h.2.2 hb⟩
set_option maxHeartbeats 32000000 in
theorem plays_any (hP : Prog) (W : World) (now total : Int) (ab : Option Addr) (n cb : Nat) (l : List Bz) (a3 : Option Addr) (nc c3 : Nat) (X : List Ct) (t nodes long : Int) (h : Busys W ab n cb l) (hX : Cuts W a3 nc c3 X) :
    Calls Try.prog 3 #[.int .i64 now, .int .i64 total, .slice ab n cb, .slice a3 nc c3, .int .i64 t, .int .i64 nodes, .int .i64 long] W fun e w' => e = .returned (.bool true) ∧ Below W.heap.size W w' := by
  have hmc : nc ≤ 9223372036854775807 := by have := hX.cap; have := hX.max; unfold maxLen at this; omega
  have HP := Lib.hid hP
  have HL := Lib.hid (And.intro h (And.intro hX hX.len))
  have hH : ∀ x m w, Calls Try.prog 7 #[.int .i64 x, .int .i64 m] w fun e w' => e = .returned (.int .i64 (held x m)) ∧ Below w.heap.size w w' := rheld_any
  have HH := Lib.hid hH
  clear hP h hX hH
  go_enter Try.func3, Try.ntmps3
  go_wp2_with fail
  refine (HH.out now 1125899906842624 W).mono ?_
  rintro e w1 ⟨rfl, hb1⟩
  have H1 := Lib.hid hb1
  clear hb1
  obtain ⟨u, hu⟩ : ∃ u, u = held now 1125899906842624 := ⟨_, rfl⟩
  have hu0 := held_may (n := now) (most := 1125899906842624) (by omega)
  rw [← hu] at hu0 ⊢
  clear hu
  go_wp2_with fail
  refine (HH.out total 1048576 w1).mono ?_
  rintro e w2 ⟨rfl, hb2⟩
  have H2 := Lib.hid (below_keep H1.out hb2)
  clear hb2
  obtain ⟨tot, ht⟩ : ∃ tot, tot = held total 1048576 := ⟨_, rfl⟩
  have ht0 := held_may (n := total) (most := 1048576) (by omega)
  rw [← ht] at ht0 ⊢
  have HU := Lib.hid (And.intro (show Tk u from hu0) (show Nd tot from ht0))
  clear ht hu0 ht0
  have HC0 := Lib.hid (rbusy_any w2 ab n cb l (lst_keep encZ_len HL.out.1 H2.out))
  obtain ⟨lb, hlb⟩ : ∃ lb, lb = busyH l := ⟨_, rfl⟩
  have hmay := busyH_may (l := l)
  rw [← hlb] at HC0 hmay
  obtain ⟨nb, hnb⟩ : ∃ nb, nb = lb.length := ⟨_, rfl⟩
  have HM := Lib.hid (And.intro hmay hnb)
  have HLb := Lib.hid hlb
  clear hlb hmay hnb
  go_wp2_with fail
  refine HC0.out.mono ?_
  rintro e w3 ⟨v3, rfl, ho3, hb3⟩
  obtain ⟨a4, c4, rfl, hl4⟩ := own_busys ho3
  rw [← HM.out.2] at hl4 ⊢
  have hnb40 : nb ≤ 40 := by rw [HM.out.2]; exact HM.out.1.2
  have H3 := Lib.hid (below_keep H2.out hb3)
  have HC1 := Lib.hid (HP.out.new w3 u tot a4 nb c4 lb HU.out.1 HU.out.2 hl4 HM.out.1.1 (by omega))
  clear hb3 hl4 ho3 HC0
  go_wp2_with fail
  refine HC1.out.mono ?_
  rintro e w4 ⟨a1, c1, p, rfl, hs4, hp4, hb4⟩
  have hg4 : Pg 0 p u := pg_new HU.out.1 HU.out.2 HM.out.1.1 HM.out.1.2 hp4
  obtain ⟨np, hnp⟩ : ∃ np, np = p.length := ⟨_, rfl⟩
  rw [← hnp] at hs4 ⊢
  have HG4 := Lib.hid (And.intro hg4 (And.intro hp4 hnp))
  have H4 := Lib.hid (And.intro (below_keep H3.out hb4) hs4)
  have HC2 := Lib.hid (rbusy_any w4 ab n cb l (lst_keep encZ_len HL.out.1 H4.out.1))
  clear hb4 hs4 hp4 hg4 hnp HC1
  go_wp2_with fail
  refine HC2.out.mono ?_
  rintro e w5 ⟨v5, rfl, ho5, hb5⟩
  obtain ⟨a5, c5, rfl, hl5⟩ := own_busys ho5
  have HM2 := Lib.hid (And.intro (busyH_may (l := l)) (show newF tot lb = newF tot lb from rfl))
  obtain ⟨lb2, hlb2⟩ : ∃ lb2, lb2 = busyH l := ⟨_, rfl⟩
  rw [← hlb2] at hl5 ⊢
  have HE2 := Lib.hid (show lb2 = lb by rw [hlb2]; exact HLb.out.symm)
  clear hlb2 HM2
  obtain ⟨n5, hn5⟩ : ∃ n5, n5 = lb2.length := ⟨_, rfl⟩
  rw [← hn5] at hl5 ⊢
  have hn5b : n5 ≤ 40 := by rw [hn5, HE2.out]; exact HM.out.1.2
  have H5 := Lib.hid (And.intro (below_keep H4.out.1 hb5) (lst_keep encS_len H4.out.2 hb5))
  have HC3 := Lib.hid (rnew_any w5 u tot a5 n5 c5 lb2 HU.out.1 HU.out.2 hl5 (fun b hb => HM.out.1.1 b (by rw [← HE2.out]; exact hb)) (by omega))
  rw [HE2.out] at HC3
  clear hb5 ho5 hl5 hn5 HC2
  go_wp2_with fail
  refine HC3.out.mono ?_
  rintro e w6 ⟨v6, p6, rfl, ho6, hp6, -, hb6⟩
  obtain rfl : p = p6 := isP_one HG4.out.2.1 hp6
  obtain ⟨a6, c6, rfl, hs6⟩ := own_steps ho6
  rw [← HG4.out.2.2] at hs6 ⊢
  have H6 := Lib.hid (And.intro (below_keep H5.out.1 hb6) (And.intro (lst_keep encS_len H5.out.2 hb6) hs6))
  clear hb6 hs6 ho6 hp6 HC3
  go_wp2_with fail
  obtain ⟨no, hno⟩ : ∃ no, no = held nodes 1048576 := ⟨_, rfl⟩
  have HNo := Lib.hid (And.intro hno (show Nd no by rw [hno]; exact held_may (by omega)))
  obtain ⟨lo, hlo⟩ : ∃ lo, lo = held long 1125899906842624 := ⟨_, rfl⟩
  have HLo := Lib.hid (And.intro hlo (show Tk lo by rw [hlo]; exact held_may (by omega)))
  obtain ⟨ti, hti⟩ : ∃ ti, ti = held t 1125899906842624 := ⟨_, rfl⟩
  have HTi := Lib.hid (And.intro hti (show Tk ti by rw [hti]; exact held_may (by omega)))
  clear hno hlo hti
  go_loopw [17, 18, 19] (fun pv rv i wr => ∃ (k np : Nat) (p : List St) (a1 a2 : Option Addr) (c1 c2 : Nat), k ≤ nc + 1 ∧ k ≤ 12 ∧ i = .int .i64 (k : Nat) ∧ pv = .slice a1 np c1 ∧ rv = .slice a2 np c2 ∧ Steps wr a1 np c1 p ∧ Steps wr a2 np c2 p ∧ Pg k p u ∧ Below W.heap.size W wr) (fun _ _ i _ => 12 - (intOf i).toNat)
  case atStart => exact ⟨0, np, p, a1, a6, c1, c6, Nat.zero_le _, Nat.zero_le _, rfl, rfl, rfl, H6.out.2.1, H6.out.2.2, HG4.out.1, H6.out.1⟩
  clear H6 H5 H4 HG4 H3 H2 H1
  case round =>
    obtain ⟨k, np, p, a1, a2, c1, c2, hk, hk12, rfl, rfl, rfl, hs1, hs2, hg, hb⟩ := hrel
    have H1 := Lib.hid (show TwoS W wr a1 a2 np c1 c2 p from ⟨hb, hs1, hs2⟩)
    have hnp : np ≤ 1000 := by have := hs1.len; have := hg.len; omega
    have HG := Lib.hid hg
    have HPf := Lib.hid (hg.pf (by omega))
    clear hb hs1 hs2 hg
    by_cases hkn : k ≤ nc
    · have hkni : (k : Int) ≤ (nc : Int) := by omega
      by_cases hk1 : k < 12
      · have hk1i : (k : Int) < 12 := by omega
        go_wp2_with fail
        refine (HH.out nodes 1048576 wr).mono ?_
        rintro e x1 ⟨rfl, hb⟩
        rw [← HNo.out.1]
        have K1 := Lib.hid (two_keep H1.out hb)
        clear hb
        go_wp2_with fail
        refine (HH.out long 1125899906842624 x1).mono ?_
        rintro e x2 ⟨rfl, hb⟩
        rw [← HLo.out.1]
        have K2 := Lib.hid (two_keep K1.out hb)
        clear hb
        have HC := Lib.hid (HP.out.fit x2 no lo a1 np c1 p HNo.out.2 HLo.out.2 K2.out.2.1 HPf.out)
        go_wp2_with fail
        refine HC.out.mono ?_
        rintro e x3 ⟨m, b, rfl, hf, hb⟩
        have HF := Lib.hid hf
        have K3 := Lib.hid (two_keep K2.out hb)
        clear hb hf HC K1 K2
        go_wp2_with fail
        refine (HH.out nodes 1048576 x3).mono ?_
        rintro e x4 ⟨rfl, hb⟩
        rw [← HNo.out.1]
        have K4 := Lib.hid (two_keep K3.out hb)
        clear hb
        go_wp2_with fail
        refine (HH.out long 1125899906842624 x4).mono ?_
        rintro e x5 ⟨rfl, hb⟩
        rw [← HLo.out.1]
        have K5 := Lib.hid (two_keep K4.out hb)
        clear hb
        have HC := Lib.hid (rfit_any x5 no lo a2 np c2 p HLo.out.2 K5.out.2.2 HPf.out)
        go_wp2_with fail
        refine HC.out.mono ?_
        rintro e x6 ⟨m2, b2, rfl, hf, hb⟩
        obtain ⟨rfl, rfl⟩ := isF_one HF.out hf
        have K6 := Lib.hid (two_keep K5.out hb)
        have HC2 := Lib.hid (rsame_any a1 a2 np c1 c2 p x6 K6.out.2.1 K6.out.2.2)
        clear hb hf HC K3 K4 K5 HF
        go_wp2_with fail
        refine HC2.out.mono ?_
        rintro e x7 ⟨rfl, hb⟩
        have K7 := Lib.hid (two_keep K6.out hb)
        clear hb HC2 K6
        go_wp2_with fail
        refine (HH.out t 1125899906842624 x7).mono ?_
        rintro e x8 ⟨rfl, hb⟩
        rw [← HTi.out.1]
        have K8 := Lib.hid (two_keep K7.out hb)
        clear hb
        have HC := Lib.hid (HP.out.at_ x8 ti a1 np c1 p HTi.out.2 K8.out.2.1 HPf.out)
        go_wp2_with fail
        refine HC.out.mono ?_
        rintro e x9 ⟨rfl, hb⟩
        have K9 := Lib.hid (two_keep K8.out hb)
        clear hb HC K7 K8
        go_wp2_with fail
        refine (HH.out t 1125899906842624 x9).mono ?_
        rintro e x10 ⟨rfl, hb⟩
        rw [← HTi.out.1]
        have K10 := Lib.hid (two_keep K9.out hb)
        clear hb
        have HC := Lib.hid (rat_any x10 ti a2 np c2 p K10.out.2.2 (by omega))
        go_wp2_with fail
        refine HC.out.mono ?_
        rintro e x11 ⟨rfl, hb⟩
        have K11 := Lib.hid (two_keep K10.out hb)
        clear hb HC K9 K10
        by_cases hltc : k < nc
        · have hlci : (k : Int) < (nc : Int) := by omega
          have hkX : k < X.length := by rw [HL.out.2.2]; exact hltc
          obtain ⟨b3, o3, rfl⟩ := lst_at HL.out.2.1 (by omega)
          obtain ⟨q0, q1, q2⟩ := cut_cells (lst_keep encC_len HL.out.2.1 K11.out.1) hkX
          generalize X[k] = xyz at *
          obtain ⟨x, y, z⟩ := xyz
          simp only at q0 q1 q2
          have HQ := Lib.hid (And.intro q0 (And.intro q1 q2))
          clear q0 q1 q2
          go_wp2_with fail
          refine Rel.wp_region_last (G := Rel.Gr) _ (Rel.tab [.is (.slice (some ⟨b3, o3, none⟩) nc c3), .is (.int .i64 (k : Nat)), .is (.pointer (some ⟨b3, o3 + k * 3, none⟩)), .is (.pointer (some ⟨b3, o3 + k * 3, none⟩)), .is (.int .i64 x), .is (.int .i64 (held x 562949953421312)), .is (.slice (some ⟨b3, o3, none⟩) nc c3), .is (.int .i64 (k : Nat)), .is (.pointer (some ⟨b3, o3 + k * 3, none⟩)), .is (.pointer (some ⟨b3, o3 + k * 3 + 1, none⟩)), .is (.int .i64 y), .is (.int .i64 (held y 562949953421312)), .is (.slice (some ⟨b3, o3, none⟩) nc c3), .is (.int .i64 (k : Nat)), .is (.pointer (some ⟨b3, o3 + k * 3, none⟩)), .is (.pointer (some ⟨b3, o3 + k * 3 + 2, none⟩)), .is (.int .i64 z), .is (.int .i64 (held z 1048576)), .is (.agg #[.int .i64 (held x 562949953421312), .int .i64 (held y 562949953421312), .int .i64 (held z 1048576)]), kC x11.heap.size]) (fun _ w => Below x11.heap.size x11 w) (by kernel_rfl) rfl (by kernel_rfl) (by kernel_rfl) (by kernel_rfl) (by kernel_rfl) (by kernel_rfl) (below_drew _) ?_ ?_
          · refine ⟨?_, ?_, ?_, ?_, ?_, ?_, ?_, ?_, ?_, ?_, ?_, ?_, ?_, ?_, ?_, ?_, ?_, ?_, ?_, ?_, trivial⟩
            · intro L a w c
              refine .inl ⟨Rel.wanted_free (by kernel_rfl) _, ?_⟩
              exact Rel.wp_mv _ rfl ⟨_, rfl, Rel.gr_refl _, (c.old 3 (v := .slice (some ⟨b3, o3, none⟩) nc c3) (by kernel_rfl) (by kernel_rfl)), c.inv⟩
            · intro L a w c
              refine .inl ⟨Rel.wanted_free (by kernel_rfl) _, ?_⟩
              exact Rel.wp_mv _ rfl ⟨_, rfl, Rel.gr_refl _, (c.old 19 (v := .int .i64 (k : Nat)) (by kernel_rfl) (by kernel_rfl)), c.inv⟩
            · intro L a w c
              refine .inl ⟨Rel.wanted_free (by kernel_rfl) _, ?_⟩
              exact Rel.wp_ia _ _ _ rfl (c.get 0 96 (by kernel_rfl)) (c.get 1 97 (by kernel_rfl)) (run_ic hltc w) ⟨_, rfl, Rel.gr_refl _, rfl, c.inv⟩
            · intro L a w c
              refine .inl ⟨Rel.wanted_free (by kernel_rfl) _, ?_⟩
              exact Chn.wp_fa _ _ _ rfl (c.get 2 98 (by kernel_rfl)) (by simp [go_sem]) ⟨_, rfl, Rel.gr_refl _, rfl, c.inv⟩
            · intro L a w c
              refine .inl ⟨Rel.wanted_free (by kernel_rfl) _, ?_⟩
              exact Rel.wp_ld _ _ rfl (c.get 3 99 (by kernel_rfl)) (run_ld2 (cell_keep c.inv HQ.out.1)) ⟨_, rfl, Rel.gr_refl _, rfl, c.inv⟩
            · intro L a w c
              refine .inl ⟨Rel.wanted_free (by kernel_rfl) _, ?_⟩
              refine Rel.wp_cl _ _ _ rfl Try.func7 (by kernel_rfl) ?_
              show Calls _ _ #[Rel.slot a 100, .int .i64 562949953421312] w _
              rw [show Rel.slot a 100 = .int .i64 x from (c.get 4 100 (by kernel_rfl))]
              refine (rheld_any x 562949953421312 w).mono ?_
              rintro e w' ⟨rfl, hb⟩
              exact ⟨_, rfl, _, rfl, hb, rfl, below_keep c.inv hb⟩
            · intro L a w c
              refine .inl ⟨Rel.wanted_free (by kernel_rfl) _, ?_⟩
              exact Rel.wp_mv _ rfl ⟨_, rfl, Rel.gr_refl _, (c.old 3 (v := .slice (some ⟨b3, o3, none⟩) nc c3) (by kernel_rfl) (by kernel_rfl)), c.inv⟩
            · intro L a w c
              refine .inl ⟨Rel.wanted_free (by kernel_rfl) _, ?_⟩
              exact Rel.wp_mv _ rfl ⟨_, rfl, Rel.gr_refl _, (c.old 19 (v := .int .i64 (k : Nat)) (by kernel_rfl) (by kernel_rfl)), c.inv⟩
            · intro L a w c
              refine .inl ⟨Rel.wanted_free (by kernel_rfl) _, ?_⟩
              exact Rel.wp_ia _ _ _ rfl (c.get 6 102 (by kernel_rfl)) (c.get 7 103 (by kernel_rfl)) (run_ic hltc w) ⟨_, rfl, Rel.gr_refl _, rfl, c.inv⟩
            · intro L a w c
              refine .inl ⟨Rel.wanted_free (by kernel_rfl) _, ?_⟩
              exact Chn.wp_fa _ _ _ rfl (c.get 8 104 (by kernel_rfl)) (by simp [go_sem]) ⟨_, rfl, Rel.gr_refl _, rfl, c.inv⟩
            · intro L a w c
              refine .inl ⟨Rel.wanted_free (by kernel_rfl) _, ?_⟩
              exact Rel.wp_ld _ _ rfl (c.get 9 105 (by kernel_rfl)) (run_ld2 (cell_keep c.inv HQ.out.2.1)) ⟨_, rfl, Rel.gr_refl _, rfl, c.inv⟩
            · intro L a w c
              refine .inl ⟨Rel.wanted_free (by kernel_rfl) _, ?_⟩
              refine Rel.wp_cl _ _ _ rfl Try.func7 (by kernel_rfl) ?_
              show Calls _ _ #[Rel.slot a 106, .int .i64 562949953421312] w _
              rw [show Rel.slot a 106 = .int .i64 y from (c.get 10 106 (by kernel_rfl))]
              refine (rheld_any y 562949953421312 w).mono ?_
              rintro e w' ⟨rfl, hb⟩
              exact ⟨_, rfl, _, rfl, hb, rfl, below_keep c.inv hb⟩
            · intro L a w c
              refine .inl ⟨Rel.wanted_free (by kernel_rfl) _, ?_⟩
              exact Rel.wp_mv _ rfl ⟨_, rfl, Rel.gr_refl _, (c.old 3 (v := .slice (some ⟨b3, o3, none⟩) nc c3) (by kernel_rfl) (by kernel_rfl)), c.inv⟩
            · intro L a w c
              refine .inl ⟨Rel.wanted_free (by kernel_rfl) _, ?_⟩
              exact Rel.wp_mv _ rfl ⟨_, rfl, Rel.gr_refl _, (c.old 19 (v := .int .i64 (k : Nat)) (by kernel_rfl) (by kernel_rfl)), c.inv⟩
            · intro L a w c
              refine .inl ⟨Rel.wanted_free (by kernel_rfl) _, ?_⟩
              exact Rel.wp_ia _ _ _ rfl (c.get 12 108 (by kernel_rfl)) (c.get 13 109 (by kernel_rfl)) (run_ic hltc w) ⟨_, rfl, Rel.gr_refl _, rfl, c.inv⟩
            · intro L a w c
              refine .inl ⟨Rel.wanted_free (by kernel_rfl) _, ?_⟩
              exact Chn.wp_fa _ _ _ rfl (c.get 14 110 (by kernel_rfl)) (by simp [go_sem]) ⟨_, rfl, Rel.gr_refl _, rfl, c.inv⟩
            · intro L a w c
              refine .inl ⟨Rel.wanted_free (by kernel_rfl) _, ?_⟩
              exact Rel.wp_ld _ _ rfl (c.get 15 111 (by kernel_rfl)) (run_ld2 (cell_keep c.inv HQ.out.2.2)) ⟨_, rfl, Rel.gr_refl _, rfl, c.inv⟩
            · intro L a w c
              refine .inl ⟨Rel.wanted_free (by kernel_rfl) _, ?_⟩
              refine Rel.wp_cl _ _ _ rfl Try.func7 (by kernel_rfl) ?_
              show Calls _ _ #[Rel.slot a 112, .int .i64 1048576] w _
              rw [show Rel.slot a 112 = .int .i64 z from (c.get 16 112 (by kernel_rfl))]
              refine (rheld_any z 1048576 w).mono ?_
              rintro e w' ⟨rfl, hb⟩
              exact ⟨_, rfl, _, rfl, hb, rfl, below_keep c.inv hb⟩
            · intro L a w c
              refine .inl ⟨Rel.wanted_free (by kernel_rfl) _, ?_⟩
              exact wp_bd3 _ _ _ _ rfl (Rel.eval_tmp (c.get 5 101 (by kernel_rfl))) (Rel.eval_tmp (c.get 11 107 (by kernel_rfl))) (Rel.eval_tmp (c.get 17 113 (by kernel_rfl))) (run_build3 _ _ _ w) ⟨_, rfl, Rel.gr_refl _, rfl, c.inv⟩
            · intro L a w c
              refine .inl ⟨Rel.wanted_free (by kernel_rfl) _, ?_⟩
              exact Rel.wp_al _ rfl (run_alloc_ct w) ⟨_, rfl, below_alloc _ _, ⟨_, rfl, c.inv.size, Arr.blk_new w _ _ zero3 rfl⟩, below_keep c.inv (below_alloc _ _)⟩
          intro a w9 hbase hroom hdef hJ hV
          have s114 : Rel.slot a 114 = .agg #[.int .i64 (held x 562949953421312), .int .i64 (held y 562949953421312), .int .i64 (held z 1048576)] := hV 18 _ _ rfl rfl
          have k24 : (kC x11.heap.size : Rel.Kd (Rel.Gr)).p w9 (Rel.slot a 24) := hV 19 _ _ rfl rfl
          rw [Chn.act_puts [96, 97, 98, 99, 100, 101, 102, 103, 104, 105, 106, 107, 108, 109, 110, 111, 112, 113, 114, 24] hbase hroom hdef (by kernel_rfl)]
          clear hbase hroom hdef hV
          simp only [List.foldl_cons, List.foldl_nil]
          generalize Rel.slot a 96 = u96 at *
          generalize Rel.slot a 97 = u97 at *
          generalize Rel.slot a 98 = u98 at *
          generalize Rel.slot a 99 = u99 at *
          generalize Rel.slot a 100 = u100 at *
          generalize Rel.slot a 101 = u101 at *
          generalize Rel.slot a 102 = u102 at *
          generalize Rel.slot a 103 = u103 at *
          generalize Rel.slot a 104 = u104 at *
          generalize Rel.slot a 105 = u105 at *
          generalize Rel.slot a 106 = u106 at *
          generalize Rel.slot a 107 = u107 at *
          generalize Rel.slot a 108 = u108 at *
          generalize Rel.slot a 109 = u109 at *
          generalize Rel.slot a 110 = u110 at *
          generalize Rel.slot a 111 = u111 at *
          generalize Rel.slot a 112 = u112 at *
          generalize Rel.slot a 113 = u113 at *
          rw [s114]
          clear s114
          generalize Rel.slot a 24 = u24 at *
          simp only [Act.put, List.setIfInBounds_toArray, List.set_cons_succ, List.set_cons_zero]
          obtain ⟨B, rfl, hB, hblk⟩ := k24
          have K12 := Lib.hid (two_keep K11.out hJ)
          dsimp only [List.getLast]
          refine wp_store_row 33 (.tmp 24) (.tmp 114) rfl B #[.int .i64 (held x 562949953421312), .int .i64 (held y 562949953421312), .int .i64 (held z 1048576)] rfl rfl 33 zero3.toArray hblk info_ct rfl (by simp [Value.oneCell']) ?_
          have hx := held_may (n := x) (most := 562949953421312) (by omega)
          have hy := held_may (n := y) (most := 562949953421312) (by omega)
          have hz := held_may (n := z) (most := 1048576) (by omega)
          have hbk := Arr.blk_row hblk [.int .i64 (held x 562949953421312), .int .i64 (held y 562949953421312), .int .i64 (held z 1048576)]
          clear hblk HQ
          generalize held x 562949953421312 = x at *
          generalize held y 562949953421312 = y at *
          generalize held z 1048576 = z at *
          have hbx := Arr.below_row hJ hB #[.int .i64 x, .int .i64 y, .int .i64 z]
          obtain ⟨xb, hxb⟩ : ∃ xx, xx = w9.setRow B #[.int .i64 x, .int .i64 y, .int .i64 z] := ⟨_, rfl⟩
          rw [← hxb] at hbx ⊢
          have hbk' : Arr.Blk xb B 33 [.int .i64 x, .int .i64 y, .int .i64 z] := by rw [hxb]; exact hbk
          have HT := Lib.hid (And.intro (show Tk x from ⟨hx.1, by omega⟩) (And.intro hy.1 (And.intro (show Tk (x + y) from ⟨by omega, by omega⟩) (show Nd z from hz))))
          obtain ⟨q, hq, hgq⟩ := taken_there HG.out HT.out.2.1 HT.out.1 HT.out.2.2.1 HT.out.2.2.2
          have HQq := Lib.hid hq
          have HGq := Lib.hid hgq
          have HS0 := Lib.hid (two_keep K11.out hbx)
          have HS := Lib.hid HS0.out.2
          have HX := Lib.hid (And.intro ((Arr.blk_cell hbk' 0).trans rfl) (And.intro ((Arr.blk_cell hbk' 1).trans rfl) ((Arr.blk_cell hbk' 2).trans rfl)))
          clear hx hy hz hbk hbk' hxb hbx hB hJ K12 hq hgq
          go_wp2_with fail
          refine Rel.wp_region_ends (G := Rel.Gr) _ _ (Rel.tab [.is (.slice a1 np c1), .is (.pointer (some ⟨B, 0, none⟩)), .is (.int .i64 x), .is (.pointer (some ⟨B, 1, none⟩)), .is (.int .i64 y), .is (.pointer (some ⟨B, 2, none⟩)), .is (.int .i64 z), kPr q, .is (.slice a2 np c2), .is (.pointer (some ⟨B, 0, none⟩)), .is (.int .i64 x), .is (.pointer (some ⟨B, 1, none⟩)), .is (.int .i64 y), .is (.pointer (some ⟨B, 2, none⟩)), .is (.int .i64 z), kPr q]) (fun _ w => Below xb.heap.size xb w) (by kernel_rfl) rfl rfl (by kernel_rfl) (by kernel_rfl) (by kernel_rfl) (by kernel_rfl) (by kernel_rfl) (by kernel_rfl) (below_drew _) ?_ ?_
          · refine ⟨?_, ?_, ?_, ?_, ?_, ?_, ?_, ?_, ?_, ?_, ?_, ?_, ?_, ?_, ?_, ?_, trivial⟩
            · intro L a w c
              refine .inl ⟨Rel.wanted_free (by kernel_rfl) _, ?_⟩
              exact Rel.wp_mv _ rfl ⟨_, rfl, Rel.gr_refl _, (c.old 17 (v := .slice a1 np c1) (by kernel_rfl) (by kernel_rfl)), c.inv⟩
            · intro L a w c
              refine .inl ⟨Rel.wanted_free (by kernel_rfl) _, ?_⟩
              exact Chn.wp_fa _ _ _ rfl (c.old 24 (v := .pointer (some ⟨B, 0, none⟩)) (by kernel_rfl) (by kernel_rfl)) (by simp [go_sem]) ⟨_, rfl, Rel.gr_refl _, rfl, c.inv⟩
            · intro L a w c
              refine .inl ⟨Rel.wanted_free (by kernel_rfl) _, ?_⟩
              exact Rel.wp_ld _ _ rfl (c.get 1 116 (by kernel_rfl)) (run_ld2 (cell_keep c.inv HX.out.1)) ⟨_, rfl, Rel.gr_refl _, rfl, c.inv⟩
            · intro L a w c
              refine .inl ⟨Rel.wanted_free (by kernel_rfl) _, ?_⟩
              exact Chn.wp_fa _ _ _ rfl (c.old 24 (v := .pointer (some ⟨B, 0, none⟩)) (by kernel_rfl) (by kernel_rfl)) (by simp [go_sem]) ⟨_, rfl, Rel.gr_refl _, rfl, c.inv⟩
            · intro L a w c
              refine .inl ⟨Rel.wanted_free (by kernel_rfl) _, ?_⟩
              exact Rel.wp_ld _ _ rfl (c.get 3 118 (by kernel_rfl)) (run_ld2 (cell_keep c.inv HX.out.2.1)) ⟨_, rfl, Rel.gr_refl _, rfl, c.inv⟩
            · intro L a w c
              refine .inl ⟨Rel.wanted_free (by kernel_rfl) _, ?_⟩
              exact Chn.wp_fa _ _ _ rfl (c.old 24 (v := .pointer (some ⟨B, 0, none⟩)) (by kernel_rfl) (by kernel_rfl)) (by simp [go_sem]) ⟨_, rfl, Rel.gr_refl _, rfl, c.inv⟩
            · intro L a w c
              refine .inl ⟨Rel.wanted_free (by kernel_rfl) _, ?_⟩
              exact Rel.wp_ld _ _ rfl (c.get 5 120 (by kernel_rfl)) (run_ld2 (cell_keep c.inv HX.out.2.2)) ⟨_, rfl, Rel.gr_refl _, rfl, c.inv⟩
            · intro L a w c
              refine .inl ⟨Rel.wanted_free (by kernel_rfl) _, ?_⟩
              refine Rel.wp_cl _ _ _ rfl Try.func16 (by kernel_rfl) ?_
              show Calls _ _ #[Rel.slot a 115, Rel.slot a 117, Rel.slot a 119, Rel.slot a 121] w _
              rw [show Rel.slot a 115 = .slice a1 np c1 from (c.get 0 115 (by kernel_rfl)), show Rel.slot a 117 = .int .i64 x from (c.get 2 117 (by kernel_rfl)), show Rel.slot a 119 = .int .i64 y from (c.get 4 119 (by kernel_rfl)), show Rel.slot a 121 = .int .i64 z from (c.get 6 121 (by kernel_rfl))]
              refine (HP.out.take w x y z a1 np c1 p HT.out.1 HT.out.2.1 HT.out.2.2.1 HT.out.2.2.2 (lst_keep encS_len HS.out.1 c.inv) HPf.out).mono ?_
              rintro e w' ⟨a9, c9, q9, rfl, hs9, -, hq9, hb9⟩
              obtain rfl : q = q9 := isP_one HQq.out (HG.out.take hq9)
              exact ⟨_, rfl, _, rfl, hb9, ⟨a9, c9, rfl, hs9⟩, below_keep c.inv hb9⟩
            · intro L a w c
              refine .inl ⟨Rel.wanted_free (by kernel_rfl) _, ?_⟩
              exact Rel.wp_mv _ rfl ⟨_, rfl, Rel.gr_refl _, (c.old 18 (v := .slice a2 np c2) (by kernel_rfl) (by kernel_rfl)), c.inv⟩
            · intro L a w c
              refine .inl ⟨Rel.wanted_free (by kernel_rfl) _, ?_⟩
              exact Chn.wp_fa _ _ _ rfl (c.old 24 (v := .pointer (some ⟨B, 0, none⟩)) (by kernel_rfl) (by kernel_rfl)) (by simp [go_sem]) ⟨_, rfl, Rel.gr_refl _, rfl, c.inv⟩
            · intro L a w c
              refine .inl ⟨Rel.wanted_free (by kernel_rfl) _, ?_⟩
              exact Rel.wp_ld _ _ rfl (c.get 9 124 (by kernel_rfl)) (run_ld2 (cell_keep c.inv HX.out.1)) ⟨_, rfl, Rel.gr_refl _, rfl, c.inv⟩
            · intro L a w c
              refine .inl ⟨Rel.wanted_free (by kernel_rfl) _, ?_⟩
              exact Chn.wp_fa _ _ _ rfl (c.old 24 (v := .pointer (some ⟨B, 0, none⟩)) (by kernel_rfl) (by kernel_rfl)) (by simp [go_sem]) ⟨_, rfl, Rel.gr_refl _, rfl, c.inv⟩
            · intro L a w c
              refine .inl ⟨Rel.wanted_free (by kernel_rfl) _, ?_⟩
              exact Rel.wp_ld _ _ rfl (c.get 11 126 (by kernel_rfl)) (run_ld2 (cell_keep c.inv HX.out.2.1)) ⟨_, rfl, Rel.gr_refl _, rfl, c.inv⟩
            · intro L a w c
              refine .inl ⟨Rel.wanted_free (by kernel_rfl) _, ?_⟩
              exact Chn.wp_fa _ _ _ rfl (c.old 24 (v := .pointer (some ⟨B, 0, none⟩)) (by kernel_rfl) (by kernel_rfl)) (by simp [go_sem]) ⟨_, rfl, Rel.gr_refl _, rfl, c.inv⟩
            · intro L a w c
              refine .inl ⟨Rel.wanted_free (by kernel_rfl) _, ?_⟩
              exact Rel.wp_ld _ _ rfl (c.get 13 128 (by kernel_rfl)) (run_ld2 (cell_keep c.inv HX.out.2.2)) ⟨_, rfl, Rel.gr_refl _, rfl, c.inv⟩
            · intro L a w c
              refine .inl ⟨Rel.wanted_free (by kernel_rfl) _, ?_⟩
              refine Rel.wp_cl _ _ _ rfl Try.func17 (by kernel_rfl) ?_
              show Calls _ _ #[Rel.slot a 123, Rel.slot a 125, Rel.slot a 127, Rel.slot a 129] w _
              rw [show Rel.slot a 123 = .slice a2 np c2 from (c.get 8 123 (by kernel_rfl)), show Rel.slot a 125 = .int .i64 x from (c.get 10 125 (by kernel_rfl)), show Rel.slot a 127 = .int .i64 y from (c.get 12 127 (by kernel_rfl)), show Rel.slot a 129 = .int .i64 z from (c.get 14 129 (by kernel_rfl))]
              refine (rtake_any w x y z a2 np c2 p HT.out.1 HT.out.2.1 HT.out.2.2.1 HT.out.2.2.2 (lst_keep encS_len HS.out.2 c.inv) HPf.out).mono ?_
              rintro e w' ⟨v9, q9, rfl, ho9, -, hq9, hb9⟩
              obtain rfl : q = q9 := isP_one HQq.out (HG.out.take fun s l e => (hq9 s l e).1)
              obtain ⟨a9, c9, rfl, hs9⟩ := own_steps ho9
              exact ⟨_, rfl, _, rfl, hb9, ⟨a9, c9, rfl, hs9⟩, below_keep c.inv hb9⟩
          intro a wd hbase hroom hdef hJ hV
          have k122 : (kPr q : Rel.Kd (Rel.Gr)).p wd (Rel.slot a 122) := hV 7 _ _ rfl rfl
          have k130 : (kPr q : Rel.Kd (Rel.Gr)).p wd (Rel.slot a 130) := hV 15 _ _ rfl rfl
          rw [Chn.act_puts [115, 116, 117, 118, 119, 120, 121, 122, 123, 124, 125, 126, 127, 128, 129, 130] hbase hroom hdef (by kernel_rfl)]
          clear hbase hroom hdef hV
          simp only [List.foldl_cons, List.foldl_nil]
          generalize Rel.slot a 115 = u115 at *
          generalize Rel.slot a 116 = u116 at *
          generalize Rel.slot a 117 = u117 at *
          generalize Rel.slot a 118 = u118 at *
          generalize Rel.slot a 119 = u119 at *
          generalize Rel.slot a 120 = u120 at *
          generalize Rel.slot a 121 = u121 at *
          generalize Rel.slot a 122 = u122 at *
          generalize Rel.slot a 123 = u123 at *
          generalize Rel.slot a 124 = u124 at *
          generalize Rel.slot a 125 = u125 at *
          generalize Rel.slot a 126 = u126 at *
          generalize Rel.slot a 127 = u127 at *
          generalize Rel.slot a 128 = u128 at *
          generalize Rel.slot a 129 = u129 at *
          generalize Rel.slot a 130 = u130 at *
          simp only [Act.put, List.setIfInBounds_toArray, List.set_cons_succ, List.set_cons_zero]
          obtain ⟨a7, c7, rfl, hs7⟩ := k122
          obtain ⟨a8, c8, rfl, hs8⟩ := k130
          have H9 := Lib.hid (And.intro (below_keep HS0.out.1 hJ) (And.intro hs7 hs8))
          obtain ⟨nq, hnq⟩ : ∃ nq, nq = q.length := ⟨_, rfl⟩
          rw [← hnq] at H9 ⊢
          clear hs7 hs8 hJ hnq
          dsimp only [List.getLast]
          refine Rel.wp_as _ rfl ?_
          refine Rel.wp_as _ rfl ?_
          go_wp2_with fail
          go_roundw
          case rel => exact ⟨k + 1, nq, q, a7, a8, c7, c8, by omega, by omega, by go_num, rfl, rfl, H9.out.2.1, H9.out.2.2, HGq.out, H9.out.1⟩
          case measure => first | (simp [intOf]; done) | (simp [intOf]; omega)
        · have hlci : ¬ (k : Int) < (nc : Int) := by omega
          have HGs := Lib.hid (HG.out.more)
          go_wp2_with fail
          go_roundw
          case rel => exact ⟨k + 1, np, p, a1, a2, c1, c2, by omega, by omega, by go_num, rfl, rfl, K11.out.2.1, K11.out.2.2, HGs.out, K11.out.1⟩
          case measure => first | (simp [intOf]; done) | (simp [intOf]; omega)
      · have hk1i : ¬ (k : Int) < 12 := by omega
        have HC5 := Lib.hid (awake_any HP.out wr)
        go_wp2_with fail
        refine HC5.out.mono ?_
        rintro e w7 ⟨rfl, hb7⟩
        have H7 := Lib.hid (below_keep H1.out.1 hb7)
        clear hb7 HC5
        go_wp2_with fail
        go_ret
        exact ⟨rfl, H7.out⟩
    · have hkni : ¬ (k : Int) ≤ (nc : Int) := by omega
      have HC5 := Lib.hid (awake_any HP.out wr)
      go_wp2_with fail
      refine HC5.out.mono ?_
      rintro e w7 ⟨rfl, hb7⟩
      have H7 := Lib.hid (below_keep H1.out.1 hb7)
      clear hb7 HC5
      go_wp2_with fail
      go_ret
      exact ⟨rfl, H7.out⟩
end Go.Proofs.Ytagecoofaoaodaa.Prf
