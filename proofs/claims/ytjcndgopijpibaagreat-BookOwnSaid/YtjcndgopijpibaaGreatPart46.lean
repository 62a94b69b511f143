/- Common to the claims of this seat, part 46: texts that were written one by one, laid behind one another. -/
import Derived.Test.YtjcndgopijpibaaGreatPart5
import Derived.Test.YtjcndgopijpibaaGreatPart20
import Derived.Test.YtjcndgopijpibaaGreatPart37
import Derived.Test.YtjcndgopijpibaaGreatPart41
import Derived.Test.YtjcndgopijpibaaGreatPart45
/- Book, the landed: TxStart. -/
namespace Go.Proofs.YtjcndgopijpibaaGreat.Bok
set_option maxRecDepth 100000
open Go.RowKit
open Go.Sort
open Kit
open Foot
open Tre (Lst inI lst_keep lst_at lst_new lst_none encF encF_len encL_len IntsL goodB)
open Led (Lg encG encG_len)
open Job (Jb Jv Jobs encJ encJ_len encJ_one findI)
open Drw (Dw Draws encD encD_len encD_one)
open Go.Proofs.YtjcndgopijpibaaGreat.Ord (ts)
open Snp (Sn Sv encK encK_len encK_one)
set_option linter.unusedVariables false
variable {w w' W0 W : World} {B : Nat}
theorem run_st_d {w : World} {a : Addr} {u : Value} {b : Option Addr} {n c : Nat} (h : w.cell? a = some u) (hf : w.frozen? a = false) : (Instr.storeAt 56 (.pointer (some a)) (.slice b n c)).run Tryz.prog w = .ok () (w.setCell a (.slice b n c)) := by
  simp [go_sem, h, hf]
def phi4 (w0 : World) (g o1 o2 o3 o4 : Nat) (v1 v2 v3 v4 : Value) : Nat → List Value → World → Prop
  | 0, _, w => w = w0.drew
  | 1, _, w => w = w0.drew.setCell ⟨g, o1, none⟩ v1
  | 2, _, w => w = (w0.drew.setCell ⟨g, o1, none⟩ v1).setCell ⟨g, o2, none⟩ v2
  | 3, _, w => w = ((w0.drew.setCell ⟨g, o1, none⟩ v1).setCell ⟨g, o2, none⟩ v2).setCell ⟨g, o3, none⟩ v3
  | 4, _, w => w = (((w0.drew.setCell ⟨g, o1, none⟩ v1).setCell ⟨g, o2, none⟩ v2).setCell ⟨g, o3, none⟩ v3).setCell ⟨g, o4, none⟩ v4
  | _, _, _ => False
theorem phi4_cell {w0 : World} {g o1 o2 o3 o4 j : Nat} {v1 v2 v3 v4 : Value} {vs : List Value} {q r : Nat} {u : Value} (hq : q ≠ g) (h : phi4 w0 g o1 o2 o3 o4 v1 v2 v3 v4 j vs w) (hc : w0.cell? ⟨q, r, none⟩ = some u) : w.cell? ⟨q, r, none⟩ = some u := by
  have h0 : w0.drew.cell? ⟨q, r, none⟩ = some u := cell_keep (below_drew w0) hc
  have key : ∀ (x : World) (o : Nat) (v : Value), x.cell? ⟨q, r, none⟩ = some u → (x.setCell ⟨g, o, none⟩ v).cell? ⟨q, r, none⟩ = some u := fun x o v hx => cell_chg (set_chg x g o v) hx hq
  match j, h with
  | 0, h => rw [h]; exact h0
  | 1, h => rw [h]; exact key _ _ _ h0
  | 2, h => rw [h]; exact key _ _ _ (key _ _ _ h0)
  | 3, h => rw [h]; exact key _ _ _ (key _ _ _ (key _ _ _ h0))
  | 4, h => rw [h]; exact key _ _ _ (key _ _ _ (key _ _ _ (key _ _ _ h0)))
  | _ + 5, h => exact h.elim
set_option maxHeartbeats 16000000 in
theorem start_any (y : Sv) (hc : Cal W0 W B y) (hn : y.jobs.length ≤ 16) (hfa : (∀ x ∈ y.funds, x.ok) ∧ (∀ x ∈ y.allocs, x.ok) ∧ y.funds.length ≤ 8 ∧ y.allocs.length ≤ 16) (sq tm kd : Int) (ky nm : ByteArray) (aa ga : Option Addr) (cp gn gc : Nat) (p0 p1 : Int) (hA : IntsL W aa 2 cp [p0, p1]) :
    Calls Tryz.prog 77 #[.pointer (some ⟨B, 0, none⟩), .agg #[.int .i64 sq, .int .i64 tm, .int .i64 kd, .string ky, .string nm, .slice aa 2 cp, .slice ga gn gc]] W (LegP W0 B (jobsE y.t 14 tm [p0, p1]) (jobsS y.t 14 tm [p0, p1]) (jobsL y.t 14 tm [p0, p1])) := by
  obtain ⟨ba, oa, rfl⟩ := lst_at hA (by omega)
  obtain ⟨E, hE⟩ : ∃ E, E = jobsE y.t 14 tm [p0, p1] := ⟨_, rfl⟩
  obtain ⟨S, hS⟩ : ∃ S, S = jobsS y.t 14 tm [p0, p1] := ⟨_, rfl⟩
  obtain ⟨L, hL⟩ : ∃ L, L = jobsL y.t 14 tm [p0, p1] := ⟨_, rfl⟩
  rw [← hE, ← hS, ← hL]
  have hj := jobs_cases y 14 tm [p0, p1] [1] (fun st => by show decide (st = 1) = _; by_cases h : st = 1 <;> simp [h])
  rw [← hE] at hj
  have hba := below_alloc W (.cells #[.int .i64 sq, .int .i64 tm, .int .i64 kd, .string ky, .string nm, .slice (some ⟨ba, oa, none⟩) 2 cp, .slice ga gn gc] 34)
  have htb := tx_box W sq tm kd ky nm (some ⟨ba, oa, none⟩) ga 2 cp gn gc
  obtain ⟨wa, hwa⟩ : ∃ z, z = W.alloc (.cells #[.int .i64 sq, .int .i64 tm, .int .i64 kd, .string ky, .string nm, .slice (some ⟨ba, oa, none⟩) 2 cp, .slice ga gn gc] 34) := ⟨_, rfl⟩
  rw [← hwa] at htb hba
  have HWa := Lib.hid hwa
  have hA2 := lst_keep Tre.encI_len hA hba
  have k5 : wa.cell? ⟨W.heap.size, 5, none⟩ = some (.slice (some ⟨ba, oa, none⟩) 2 cp) := Arr.blk_cell htb 5
  have hca := hc.keep hba
  have HBo := Lib.hid hca
  have hgeW := Lib.hid hca.below.size
  have q0 : wa.cell? ⟨ba, oa, none⟩ = some (.int .i64 p0) := Tre.int_cell hA2 (k := 0) (by simp)
  have hbb := below_alloc wa (.cells #[.int .i64 1] 3)
  have hcb := hca.keep hbb
  have hSt : IntsL (wa.alloc (.cells #[.int .i64 1] 3)) (some ⟨wa.heap.size, 0, none⟩) 1 1 [1] := lst_new Tre.encI_len wa [1] _ _ _ 1 rfl rfl rfl (by omega)
  have HJ := Lib.hid (fun p E h => jobIn_any (wa.alloc (.cells #[.int .i64 1] 3)) B y.j.a y.j.n y.j.c y.jobs (own_lst encJ_len hcb.bo.o.j) (Arr.blk_cell hcb.bo.b 6) p0 (some ⟨wa.heap.size, 0, none⟩) 1 1 [1] hSt p E h)
  have HJc := Lib.hid hj
  have HTb := Lib.hid (And.intro (Arr.blk_alloc htb (.cells #[.int .i64 1] 3)) (lst_keep Tre.encI_len hA2 hbb))
  have HC := Lib.hid (And.intro hcb (And.intro (And.intro hS hL) (And.intro hn hfa)))
  have HWlt := Lib.hid (show W.heap.size < wa.heap.size from Arr.blk_lt htb)
  clear hj hE hS hL hn hfa hA hA2 hca htb hba hwa hc hbb hcb hSt
  go_enter Tryz.func77, Tryz.ntmps77
  go_upto_region 1 with fail
  rw [← HWa.out]
  go_wp2_with fail
  rcases HJc.out with ⟨p, h1, h2⟩ | ⟨n, z, h1, h2, h3, h4, h5, h6⟩
  · refine (HJ.out p E h1).mono ?_
    rintro e w3 ⟨rfl, hb3⟩
    have H3 := Lib.hid (HC.out.1.keep hb3)
    clear hb3 h1
    rcases h2 with rfl | rfl
    · go_wp2_with fail
      go_ret2
      exact ⟨y, none, 0, 0, rfl, (fun h => absurd h (by decide)), H3.out.below⟩
    · go_wp2_with fail
      go_ret2
      exact ⟨y, none, 0, 0, rfl, (fun h => absurd h (by decide)), H3.out.below⟩
  · skip
    refine (HJ.out (n : Int) 0 h1).mono ?_
    rintro e w3 ⟨rfl, hb3⟩
    have H3 := Lib.hid (HC.out.1.keep hb3)
    have hkl := (List.getElem?_eq_some_iff.1 h3).1
    obtain ⟨g, cap, hj, hge⟩ := H3.out.bo.at_j (by omega)
    obtain ⟨nn, hnn⟩ : ∃ n, n = y.jobs.length := ⟨_, rfl⟩
    rw [← hnn] at hj hkl
    have p6 : w3.cell? ⟨B, 6, none⟩ = some (.slice (some ⟨g, 0, none⟩) nn cap) := by
      rw [Arr.blk_cell H3.out.bo.b 6]
      show some (Value.slice y.j.a y.j.n y.j.c) = _
      rw [hj]
    have hJb : Jobs w3 (some ⟨g, 0, none⟩) nn cap y.jobs := by
      have := own_lst encJ_len H3.out.bo.o.j
      rw [hj] at this
      exact this
    have HG := Lib.hid (And.intro hj (And.intro h3 (And.intro (List.mem_of_getElem? h3) (Nat.le_refl 0))))
    have hsm : (n : Int) ≤ 100 := by have := HC.out.2.2.1; omega
    obtain ⟨xn, hxn⟩ : ∃ q, q = z.t.nodes := ⟨_, rfl⟩
    obtain ⟨xw, hxw⟩ : ∃ q, q = z.t.wall := ⟨_, rfl⟩
    obtain ⟨xp, hxp⟩ : ∃ q, q = z.t.price := ⟨_, rfl⟩
    obtain ⟨xf, hxf⟩ : ∃ q, q = z.t.fund := ⟨_, rfl⟩
    obtain ⟨cn, hcn⟩ : ∃ q, q = Mon.costN xn xw xp := ⟨_, rfl⟩
    obtain ⟨ce, hce⟩ : ∃ q, q = Mon.costE xn xw xp := ⟨_, rfl⟩
    obtain ⟨mk, hmk⟩ : ∃ q, q = Job.maskL (ts y.jobs) := ⟨_, rfl⟩
    obtain ⟨DE, hDE⟩ : ∃ q, q = Drw.drawsE y.funds y.allocs xf cn tm := ⟨_, rfl⟩
    obtain ⟨DL, hDL⟩ : ∃ q, q = Drw.drawsL y.funds y.allocs xf cn tm := ⟨_, rfl⟩
    have HE := Lib.hid (show E = if p1 < 0 ∨ 4294967296 ≤ p1 ∨ ((Poo.cnt (Poo.lo p1) : Nat) : Int) ≠ xn then 1 else if bits BinOp.and IntKind.i64 p1 mk ≠ 0 then 13 else if ce ≠ 0 then ce else DE by
      rw [h6, hDE, hmk, hce, hcn, hxw, hxp, hxn, hxf]
      rfl)
    have HCo := Lib.hid (fun w => show Calls Tryz.prog 101 #[.int .i64 xn, .int .i64 xw, .int .i64 xp] w fun e w' => e = .returned (.tuple #[.int .i64 cn, .int .i64 ce]) ∧ Below w.heap.size w w' from by rw [hcn, hce]; exact Mon.cost_any xn xw xp w)
    have HCn := Lib.hid (fun h : ce = 0 => show inI cn from by rw [hcn]; exact cost_in (by rw [← hce]; exact h))
    have HSL := Lib.hid (show S = { y.t with jobs := y.t.jobs.set n { z.t with state := 3, start := tm, mask := p1, draws := DL } } ∧ L = Drw.legsW DL DL 1 2 0 from ⟨by
      rw [HC.out.2.1.1, jobsS_at (by decide) h2 h5, hDL, hcn, hxn, hxp, hxw, hxf]
      rfl, by
      rw [HC.out.2.1.2]
      show jobL y.t 14 tm [p0, p1] (atJ y.t [p0, p1]) = _
      rw [h5, hDL, hcn, hxn, hxp, hxw, hxf]
      rfl⟩)
    have HDn := Lib.hid (fun h : DE = 0 => show ∀ d ∈ DL, Drw.Near d from by rw [hDL]; exact (draws_dp (by rw [← hDE]; exact h) HC.out.2.2.2.2.2.2 HC.out.2.2.2.2.1).2)
    have HDl := Lib.hid (fun h : DE = 0 => show DL.length ≤ 16 from by rw [hDL]; exact (draws_dp (by rw [← hDE]; exact h) HC.out.2.2.2.2.2.2 HC.out.2.2.2.2.1).1)
    have HDr := Lib.hid (fun (w : World) (a a2 : Option Addr) (n c n2 c2 : Nat) (hF : Tre.Funds w a n c y.funds) (hAl : Tre.Allocs w a2 n2 c2 y.allocs) (hi : inI cn) => show Calls Tryz.prog 109 #[.slice a n c, .slice a2 n2 c2, .int .i64 xf, .int .i64 cn, .int .i64 tm] w fun e W' => ∃ v, e = .returned (.tuple #[v, .int .i64 DE]) ∧ Owns encD 2 63 W' w.heap.size v DL ∧ Below w.heap.size w W' from by
      rw [hDE, hDL]
      exact Drw.draws_own w y.funds y.allocs a a2 n c n2 c2 xf cn tm hF hAl HC.out.2.2.2.1 HC.out.2.2.2.2.1 (by have := hF.len; have := HC.out.2.2.2.2.2.1; omega) (by have := hAl.len; have := HC.out.2.2.2.2.2.2; omega) hi)
    have k5' : w3.cell? ⟨W.heap.size, 5, none⟩ = some (.slice (some ⟨ba, oa, none⟩) 2 cp) := cell_keep hb3 (Arr.blk_cell HTb.out.1 5)
    have q1' : w3.cell? ⟨ba, oa + 1, none⟩ = some (.int .i64 p1) := cell_keep hb3 (Tre.int_cell HTb.out.2 (k := 1) (by simp))
    have HT3 := Lib.hid (show w3.cell? ⟨W.heap.size, 1, none⟩ = some (.int .i64 tm) from cell_keep hb3 (Arr.blk_cell HTb.out.1 1))
    have HNg := Lib.hid (show W.heap.size ≠ g from by
      have hw := H3.out.bo.o.j
      rw [hj] at hw
      obtain ⟨cur, hcur⟩ := own_type hw (g := g) rfl
      exact type_ne (Arr.blk_below HTb.out.1 hb3 (Arr.blk_lt HTb.out.1)) hcur (by decide))
    have HMk := Lib.hid hmk
    have HXs := Lib.hid (And.intro hxn (And.intro hxw (And.intro hxp hxf)))
    clear hb3 h1 h2 h3 h4 h5 h6 hge hnn k5 q0 hJb hcn hce hxn hxw hxp hxf hj hmk hDE hDL
    go_wp2_with fail
    go_big_quiet (fail)
    generalize hw2 : World.drewN w3 _ = w4
    have hq2 : Below w3.heap.size w3 w4 := by rw [← hw2]; exact Tre.below_drewN' _ _
    have H4 := Lib.hid (H3.out.keep hq2)
    have HT4 := Lib.hid (cell_keep hq2 HT3.out)
    clear hw2 hq2 k5' q1' p6 HT3
    have hJ4 : Jobs w4 (some ⟨g, 0, none⟩) nn cap y.jobs := by
      have := own_lst encJ_len H4.out.bo.o.j
      rw [HG.out.1] at this
      exact this
    have c1 : w4.cell? ⟨g, n * 12 + 1, none⟩ = some (.int .i64 xf) := at_zero hJ4 HG.out.2.1 (by omega) (by rw [HXs.out.2.2.2]; rfl)
    have c2 : w4.cell? ⟨g, n * 12 + 2, none⟩ = some (.int .i64 xn) := at_zero hJ4 HG.out.2.1 (by omega) (by rw [HXs.out.1]; rfl)
    have c3 : w4.cell? ⟨g, n * 12 + 3, none⟩ = some (.int .i64 xw) := at_zero hJ4 HG.out.2.1 (by omega) (by rw [HXs.out.2.1]; rfl)
    have c6 : w4.cell? ⟨g, n * 12 + 6, none⟩ = some (.int .i64 xp) := at_zero hJ4 HG.out.2.1 (by omega) (by rw [HXs.out.2.2.1]; rfl)
    have HQ := Lib.hid (And.intro c2 (And.intro c3 (And.intro c6 c1)))
    clear hJ4 c1 c2 c3 c6
    cases hb : Job.ofN p1 with
    | false =>
      have HNe := Lib.hid (show (bits BinOp.and IntKind.i64 p1 4294967295 == p1) = !true by rw [Job.ofN_eq, hb]; rfl)
      have HCt := Lib.hid (show (true == false) = !true from rfl)
      have hE1 : E = 1 := by
        rw [HE.out, if_pos]
        unfold Job.ofN at hb
        have := of_decide_eq_false hb
        omega
      subst hE1
      clear hb
      go_upto_region 5 with fail
      refine Rel.wp_region_rel (G := Rel.Gr) (Rel.tab [.is (.int .i64 p1), .is (.int .i64 4294967295), .is (.int .i64 (bits BinOp.and IntKind.i64 p1 4294967295)), .is (.int .i64 p1), .is (.bool true), .is (.bool true), .is undef, .is undef, .is undef, .is undef, .is undef, .is undef, .is undef, .is (.bool true)]) (fun _ w => Below w4.heap.size w4 w) (by kernel_rfl) (by kernel_rfl) (by kernel_rfl) (by kernel_rfl) (fun w => Rel.gr_refl _) (below_drew _) ?_ ?_
      · refine ⟨?_, ?_, ?_, ?_, ?_, ?_, ?_, ?_, ?_, ?_, ?_, ?_, ?_, ?_, trivial⟩
        · intro L a w c
          refine .inl ⟨Rel.wanted_free (by kernel_rfl) _, ?_⟩
          exact Rel.wp_mv _ rfl ⟨_, rfl, Rel.gr_refl _, (c.old 9 (v := .int .i64 p1) (by kernel_rfl) (by kernel_rfl)), c.inv⟩
        · intro L a w c
          refine .inl ⟨Rel.wanted_free (by kernel_rfl) _, ?_⟩
          refine Rel.wp_cl _ _ _ rfl Tryz.func106 (by kernel_rfl) ?_
          show Calls _ _ #[.int .i64 32] w _
          refine (Job.all32 w).mono ?_
          rintro e w' ⟨rfl, rfl⟩
          exact ⟨_, rfl, _, rfl, Rel.gr_refl _, rfl, c.inv⟩
        · intro L a w c
          refine .inl ⟨Rel.wanted_free (by kernel_rfl) _, ?_⟩
          exact Rel.wp_bo _ _ _ _ _ rfl (u := .int .i64 (bits BinOp.and IntKind.i64 p1 4294967295)) (c.get 0 35 (by kernel_rfl)) (c.get 1 36 (by kernel_rfl)) (by simp [go_sem]) ⟨_, rfl, Rel.gr_refl _, rfl, c.inv⟩
        · intro L a w c
          refine .inl ⟨Rel.wanted_free (by kernel_rfl) _, ?_⟩
          exact Rel.wp_mv _ rfl ⟨_, rfl, Rel.gr_refl _, (c.old 9 (v := .int .i64 p1) (by kernel_rfl) (by kernel_rfl)), c.inv⟩
        · intro L a w c
          refine .inl ⟨Rel.wanted_free (by kernel_rfl) _, ?_⟩
          exact Rel.wp_bo _ _ _ _ _ rfl (u := .bool true) (c.get 2 37 (by kernel_rfl)) (c.get 3 38 (by kernel_rfl)) (run_neI HNe.out _ _ w) ⟨_, rfl, Rel.gr_refl _, rfl, c.inv⟩
        · intro L a w c
          refine .inl ⟨Rel.wanted_free (by kernel_rfl) _, ?_⟩
          exact Rel.wp_mv _ rfl ⟨_, rfl, Rel.gr_refl _, (c.get 4 39 (by kernel_rfl)), c.inv⟩
        · intro L a w c
          exact .inr ⟨Chn.wanted_not (j := 5) (b := false) (d := 40) (by kernel_rfl) (c.get 5 40 (by kernel_rfl)), rfl, c.inv⟩
        · intro L a w c
          exact .inr ⟨Chn.wanted_not (j := 5) (b := false) (d := 40) (by kernel_rfl) (c.get 5 40 (by kernel_rfl)), rfl, c.inv⟩
        · intro L a w c
          exact .inr ⟨Chn.wanted_not (j := 5) (b := false) (d := 40) (by kernel_rfl) (c.get 5 40 (by kernel_rfl)), rfl, c.inv⟩
        · intro L a w c
          exact .inr ⟨Chn.wanted_not (j := 5) (b := false) (d := 40) (by kernel_rfl) (c.get 5 40 (by kernel_rfl)), rfl, c.inv⟩
        · intro L a w c
          exact .inr ⟨Chn.wanted_not (j := 5) (b := false) (d := 40) (by kernel_rfl) (c.get 5 40 (by kernel_rfl)), rfl, c.inv⟩
        · intro L a w c
          exact .inr ⟨Chn.wanted_not (j := 5) (b := false) (d := 40) (by kernel_rfl) (c.get 5 40 (by kernel_rfl)), rfl, c.inv⟩
        · intro L a w c
          exact .inr ⟨Chn.wanted_not (j := 5) (b := false) (d := 40) (by kernel_rfl) (c.get 5 40 (by kernel_rfl)), rfl, c.inv⟩
        · intro L a w c
          refine .inl ⟨Rel.wanted_free (by kernel_rfl) _, ?_⟩
          exact Rel.wp_pk _ _ _ rfl (b := true) (c.get 5 40 (by kernel_rfl)) ⟨_, rfl, Rel.gr_refl _, rfl, c.inv⟩
      intro a w5 hbase hroom hdef hJ hV
      have s48 : Rel.slot a 48 = .bool true := hV 13 _ _ rfl rfl
      rw [Chn.act_puts [35, 36, 37, 38, 39, 40, 41, 42, 43, 44, 45, 46, 47, 48] hbase hroom hdef (by kernel_rfl)]
      clear hbase hroom hdef hV
      simp only [List.foldl_cons, List.foldl_nil]
      generalize Rel.slot a 35 = u35 at *
      generalize Rel.slot a 36 = u36 at *
      generalize Rel.slot a 37 = u37 at *
      generalize Rel.slot a 38 = u38 at *
      generalize Rel.slot a 39 = u39 at *
      generalize Rel.slot a 40 = u40 at *
      generalize Rel.slot a 41 = u41 at *
      generalize Rel.slot a 42 = u42 at *
      generalize Rel.slot a 43 = u43 at *
      generalize Rel.slot a 44 = u44 at *
      generalize Rel.slot a 45 = u45 at *
      generalize Rel.slot a 46 = u46 at *
      generalize Rel.slot a 47 = u47 at *
      rw [s48]
      clear s48
      simp only [Act.put, List.setIfInBounds_toArray, List.set_cons_succ, List.set_cons_zero]
      have H5 := Lib.hid (H4.out.keep hJ)
      clear hJ
      go_wp2_with fail
      go_ret2
      exact ⟨y, none, 0, 0, rfl, (fun h => absurd h (by decide)), H5.out.below⟩
    | true =>
      have HNe := Lib.hid (show (bits BinOp.and IntKind.i64 p1 4294967295 == p1) = !false by rw [Job.ofN_eq, hb]; rfl)
      have hb2 : 0 ≤ p1 ∧ p1 < 4294967296 := by unfold Job.ofN at hb; exact of_decide_eq_true hb
      clear hb
      by_cases hct : ((Poo.cnt (Poo.lo p1) : Nat) : Int) = xn
      rotate_left
      · have HCt := Lib.hid (show (((Poo.cnt (Poo.lo p1) : Nat) : Int) == xn) = !true from beq_false_of_ne hct)
        have hE1 : E = 1 := by rw [HE.out, if_pos (.inr (.inr hct))]
        subst hE1
        clear hb2
        go_upto_region 5 with fail
        refine Rel.wp_region_rel (G := Rel.Gr) (Rel.tab [.is (.int .i64 p1), .is (.int .i64 4294967295), .is (.int .i64 (bits BinOp.and IntKind.i64 p1 4294967295)), .is (.int .i64 p1), .is (.bool false), .is (.bool false), .is (.int .i64 p1), .is (.int .i64 (Poo.cnt (Poo.lo p1) : Nat)), .is (.pointer (some ⟨g, n * 12, none⟩)), .is (.pointer (some ⟨g, n * 12, none⟩)), .is (.pointer (some ⟨g, n * 12 + 2, none⟩)), .is (.int .i64 xn), .is (.bool true), .is (.bool true)]) (fun _ w => Below w4.heap.size w4 w) (by kernel_rfl) (by kernel_rfl) (by kernel_rfl) (by kernel_rfl) (fun w => Rel.gr_refl _) (below_drew _) ?_ ?_
        · refine ⟨?_, ?_, ?_, ?_, ?_, ?_, ?_, ?_, ?_, ?_, ?_, ?_, ?_, ?_, trivial⟩
          · intro L a w c
            refine .inl ⟨Rel.wanted_free (by kernel_rfl) _, ?_⟩
            exact Rel.wp_mv _ rfl ⟨_, rfl, Rel.gr_refl _, (c.old 9 (v := .int .i64 p1) (by kernel_rfl) (by kernel_rfl)), c.inv⟩
          · intro L a w c
            refine .inl ⟨Rel.wanted_free (by kernel_rfl) _, ?_⟩
            refine Rel.wp_cl _ _ _ rfl Tryz.func106 (by kernel_rfl) ?_
            show Calls _ _ #[.int .i64 32] w _
            refine (Job.all32 w).mono ?_
            rintro e w' ⟨rfl, rfl⟩
            exact ⟨_, rfl, _, rfl, Rel.gr_refl _, rfl, c.inv⟩
          · intro L a w c
            refine .inl ⟨Rel.wanted_free (by kernel_rfl) _, ?_⟩
            exact Rel.wp_bo _ _ _ _ _ rfl (u := .int .i64 (bits BinOp.and IntKind.i64 p1 4294967295)) (c.get 0 35 (by kernel_rfl)) (c.get 1 36 (by kernel_rfl)) (by simp [go_sem]) ⟨_, rfl, Rel.gr_refl _, rfl, c.inv⟩
          · intro L a w c
            refine .inl ⟨Rel.wanted_free (by kernel_rfl) _, ?_⟩
            exact Rel.wp_mv _ rfl ⟨_, rfl, Rel.gr_refl _, (c.old 9 (v := .int .i64 p1) (by kernel_rfl) (by kernel_rfl)), c.inv⟩
          · intro L a w c
            refine .inl ⟨Rel.wanted_free (by kernel_rfl) _, ?_⟩
            exact Rel.wp_bo _ _ _ _ _ rfl (u := .bool false) (c.get 2 37 (by kernel_rfl)) (c.get 3 38 (by kernel_rfl)) (run_neI HNe.out _ _ w) ⟨_, rfl, Rel.gr_refl _, rfl, c.inv⟩
          · intro L a w c
            refine .inl ⟨Rel.wanted_free (by kernel_rfl) _, ?_⟩
            exact Rel.wp_mv _ rfl ⟨_, rfl, Rel.gr_refl _, (c.get 4 39 (by kernel_rfl)), c.inv⟩
          · intro L a w c
            refine .inl ⟨Rel.wanted_by (j := 5) (b := false) (d := 40) (by kernel_rfl) (c.get 5 40 (by kernel_rfl)), ?_⟩
            exact Rel.wp_mv _ rfl ⟨_, rfl, Rel.gr_refl _, (c.old 9 (v := .int .i64 p1) (by kernel_rfl) (by kernel_rfl)), c.inv⟩
          · intro L a w c
            refine .inl ⟨Rel.wanted_by (j := 5) (b := false) (d := 40) (by kernel_rfl) (c.get 5 40 (by kernel_rfl)), ?_⟩
            refine Rel.wp_cl _ _ _ rfl Tryz.func107 (by kernel_rfl) ?_
            show Calls _ _ #[Rel.slot a 41] w _
            rw [show Rel.slot a 41 = .int .i64 p1 from (c.get 6 41 (by kernel_rfl))]
            refine (Poo.count_any w p1).mono ?_
            rintro e w' ⟨rfl, rfl⟩
            exact ⟨_, rfl, _, rfl, Rel.gr_refl _, rfl, c.inv⟩
          · intro L a w c
            refine .inl ⟨Rel.wanted_by (j := 5) (b := false) (d := 40) (by kernel_rfl) (c.get 5 40 (by kernel_rfl)), ?_⟩
            exact Rel.wp_mv _ rfl ⟨_, rfl, Rel.gr_refl _, (c.old 8 (v := .pointer (some ⟨g, n * 12, none⟩)) (by kernel_rfl) (by kernel_rfl)), c.inv⟩
          · intro L a w c
            refine .inl ⟨Rel.wanted_by (j := 5) (b := false) (d := 40) (by kernel_rfl) (c.get 5 40 (by kernel_rfl)), ?_⟩
            exact Chn.wp_nc _ rfl (c.get 8 43 (by kernel_rfl)) ⟨_, rfl, Rel.gr_refl _, rfl, c.inv⟩
          · intro L a w c
            refine .inl ⟨Rel.wanted_by (j := 5) (b := false) (d := 40) (by kernel_rfl) (c.get 5 40 (by kernel_rfl)), ?_⟩
            exact Chn.wp_fa _ _ _ rfl (c.get 9 44 (by kernel_rfl)) (by simp [go_sem]) ⟨_, rfl, Rel.gr_refl _, rfl, c.inv⟩
          · intro L a w c
            refine .inl ⟨Rel.wanted_by (j := 5) (b := false) (d := 40) (by kernel_rfl) (c.get 5 40 (by kernel_rfl)), ?_⟩
            exact Rel.wp_ld _ _ rfl (c.get 10 45 (by kernel_rfl)) (run_ldI (cell_keep c.inv HQ.out.1)) ⟨_, rfl, Rel.gr_refl _, rfl, c.inv⟩
          · intro L a w c
            refine .inl ⟨Rel.wanted_by (j := 5) (b := false) (d := 40) (by kernel_rfl) (c.get 5 40 (by kernel_rfl)), ?_⟩
            exact Rel.wp_bo _ _ _ _ _ rfl (u := .bool true) (c.get 7 42 (by kernel_rfl)) (c.get 11 46 (by kernel_rfl)) (run_neI HCt.out _ _ w) ⟨_, rfl, Rel.gr_refl _, rfl, c.inv⟩
          · intro L a w c
            refine .inl ⟨Rel.wanted_free (by kernel_rfl) _, ?_⟩
            exact Rel.wp_pk _ _ _ rfl (b := false) (c.get 5 40 (by kernel_rfl)) ⟨_, rfl, Rel.gr_refl _, (c.get 12 47 (by kernel_rfl)), c.inv⟩
        intro a w5 hbase hroom hdef hJ hV
        have s48 : Rel.slot a 48 = .bool true := hV 13 _ _ rfl rfl
        rw [Chn.act_puts [35, 36, 37, 38, 39, 40, 41, 42, 43, 44, 45, 46, 47, 48] hbase hroom hdef (by kernel_rfl)]
        clear hbase hroom hdef hV
        simp only [List.foldl_cons, List.foldl_nil]
        generalize Rel.slot a 35 = u35 at *
        generalize Rel.slot a 36 = u36 at *
        generalize Rel.slot a 37 = u37 at *
        generalize Rel.slot a 38 = u38 at *
        generalize Rel.slot a 39 = u39 at *
        generalize Rel.slot a 40 = u40 at *
        generalize Rel.slot a 41 = u41 at *
        generalize Rel.slot a 42 = u42 at *
        generalize Rel.slot a 43 = u43 at *
        generalize Rel.slot a 44 = u44 at *
        generalize Rel.slot a 45 = u45 at *
        generalize Rel.slot a 46 = u46 at *
        generalize Rel.slot a 47 = u47 at *
        rw [s48]
        clear s48
        simp only [Act.put, List.setIfInBounds_toArray, List.set_cons_succ, List.set_cons_zero]
        have H5 := Lib.hid (H4.out.keep hJ)
        clear hJ
        go_wp2_with fail
        go_ret2
        exact ⟨y, none, 0, 0, rfl, (fun h => absurd h (by decide)), H5.out.below⟩
      have HCt := Lib.hid (show (((Poo.cnt (Poo.lo p1) : Nat) : Int) == xn) = !false from beq_iff_eq.2 hct)
      have HE1 := Lib.hid (show E = if bits BinOp.and IntKind.i64 p1 mk ≠ 0 then 13 else if ce ≠ 0 then ce else DE by rw [HE.out, if_neg (by omega)])
      clear HE hct hb2
      go_upto_region 5 with fail
      refine Rel.wp_region_rel (G := Rel.Gr) (Rel.tab [.is (.int .i64 p1), .is (.int .i64 4294967295), .is (.int .i64 (bits BinOp.and IntKind.i64 p1 4294967295)), .is (.int .i64 p1), .is (.bool false), .is (.bool false), .is (.int .i64 p1), .is (.int .i64 (Poo.cnt (Poo.lo p1) : Nat)), .is (.pointer (some ⟨g, n * 12, none⟩)), .is (.pointer (some ⟨g, n * 12, none⟩)), .is (.pointer (some ⟨g, n * 12 + 2, none⟩)), .is (.int .i64 xn), .is (.bool false), .is (.bool false)]) (fun _ w => Below w4.heap.size w4 w) (by kernel_rfl) (by kernel_rfl) (by kernel_rfl) (by kernel_rfl) (fun w => Rel.gr_refl _) (below_drew _) ?_ ?_
      · refine ⟨?_, ?_, ?_, ?_, ?_, ?_, ?_, ?_, ?_, ?_, ?_, ?_, ?_, ?_, trivial⟩
        · intro L a w c
          refine .inl ⟨Rel.wanted_free (by kernel_rfl) _, ?_⟩
          exact Rel.wp_mv _ rfl ⟨_, rfl, Rel.gr_refl _, (c.old 9 (v := .int .i64 p1) (by kernel_rfl) (by kernel_rfl)), c.inv⟩
        · intro L a w c
          refine .inl ⟨Rel.wanted_free (by kernel_rfl) _, ?_⟩
          refine Rel.wp_cl _ _ _ rfl Tryz.func106 (by kernel_rfl) ?_
          show Calls _ _ #[.int .i64 32] w _
          refine (Job.all32 w).mono ?_
          rintro e w' ⟨rfl, rfl⟩
          exact ⟨_, rfl, _, rfl, Rel.gr_refl _, rfl, c.inv⟩
        · intro L a w c
          refine .inl ⟨Rel.wanted_free (by kernel_rfl) _, ?_⟩
          exact Rel.wp_bo _ _ _ _ _ rfl (u := .int .i64 (bits BinOp.and IntKind.i64 p1 4294967295)) (c.get 0 35 (by kernel_rfl)) (c.get 1 36 (by kernel_rfl)) (by simp [go_sem]) ⟨_, rfl, Rel.gr_refl _, rfl, c.inv⟩
        · intro L a w c
          refine .inl ⟨Rel.wanted_free (by kernel_rfl) _, ?_⟩
          exact Rel.wp_mv _ rfl ⟨_, rfl, Rel.gr_refl _, (c.old 9 (v := .int .i64 p1) (by kernel_rfl) (by kernel_rfl)), c.inv⟩
        · intro L a w c
          refine .inl ⟨Rel.wanted_free (by kernel_rfl) _, ?_⟩
          exact Rel.wp_bo _ _ _ _ _ rfl (u := .bool false) (c.get 2 37 (by kernel_rfl)) (c.get 3 38 (by kernel_rfl)) (run_neI HNe.out _ _ w) ⟨_, rfl, Rel.gr_refl _, rfl, c.inv⟩
        · intro L a w c
          refine .inl ⟨Rel.wanted_free (by kernel_rfl) _, ?_⟩
          exact Rel.wp_mv _ rfl ⟨_, rfl, Rel.gr_refl _, (c.get 4 39 (by kernel_rfl)), c.inv⟩
        · intro L a w c
          refine .inl ⟨Rel.wanted_by (j := 5) (b := false) (d := 40) (by kernel_rfl) (c.get 5 40 (by kernel_rfl)), ?_⟩
          exact Rel.wp_mv _ rfl ⟨_, rfl, Rel.gr_refl _, (c.old 9 (v := .int .i64 p1) (by kernel_rfl) (by kernel_rfl)), c.inv⟩
        · intro L a w c
          refine .inl ⟨Rel.wanted_by (j := 5) (b := false) (d := 40) (by kernel_rfl) (c.get 5 40 (by kernel_rfl)), ?_⟩
          refine Rel.wp_cl _ _ _ rfl Tryz.func107 (by kernel_rfl) ?_
          show Calls _ _ #[Rel.slot a 41] w _
          rw [show Rel.slot a 41 = .int .i64 p1 from (c.get 6 41 (by kernel_rfl))]
          refine (Poo.count_any w p1).mono ?_
          rintro e w' ⟨rfl, rfl⟩
          exact ⟨_, rfl, _, rfl, Rel.gr_refl _, rfl, c.inv⟩
        · intro L a w c
          refine .inl ⟨Rel.wanted_by (j := 5) (b := false) (d := 40) (by kernel_rfl) (c.get 5 40 (by kernel_rfl)), ?_⟩
          exact Rel.wp_mv _ rfl ⟨_, rfl, Rel.gr_refl _, (c.old 8 (v := .pointer (some ⟨g, n * 12, none⟩)) (by kernel_rfl) (by kernel_rfl)), c.inv⟩
        · intro L a w c
          refine .inl ⟨Rel.wanted_by (j := 5) (b := false) (d := 40) (by kernel_rfl) (c.get 5 40 (by kernel_rfl)), ?_⟩
          exact Chn.wp_nc _ rfl (c.get 8 43 (by kernel_rfl)) ⟨_, rfl, Rel.gr_refl _, rfl, c.inv⟩
        · intro L a w c
          refine .inl ⟨Rel.wanted_by (j := 5) (b := false) (d := 40) (by kernel_rfl) (c.get 5 40 (by kernel_rfl)), ?_⟩
          exact Chn.wp_fa _ _ _ rfl (c.get 9 44 (by kernel_rfl)) (by simp [go_sem]) ⟨_, rfl, Rel.gr_refl _, rfl, c.inv⟩
        · intro L a w c
          refine .inl ⟨Rel.wanted_by (j := 5) (b := false) (d := 40) (by kernel_rfl) (c.get 5 40 (by kernel_rfl)), ?_⟩
          exact Rel.wp_ld _ _ rfl (c.get 10 45 (by kernel_rfl)) (run_ldI (cell_keep c.inv HQ.out.1)) ⟨_, rfl, Rel.gr_refl _, rfl, c.inv⟩
        · intro L a w c
          refine .inl ⟨Rel.wanted_by (j := 5) (b := false) (d := 40) (by kernel_rfl) (c.get 5 40 (by kernel_rfl)), ?_⟩
          exact Rel.wp_bo _ _ _ _ _ rfl (u := .bool false) (c.get 7 42 (by kernel_rfl)) (c.get 11 46 (by kernel_rfl)) (run_neI HCt.out _ _ w) ⟨_, rfl, Rel.gr_refl _, rfl, c.inv⟩
        · intro L a w c
          refine .inl ⟨Rel.wanted_free (by kernel_rfl) _, ?_⟩
          exact Rel.wp_pk _ _ _ rfl (b := false) (c.get 5 40 (by kernel_rfl)) ⟨_, rfl, Rel.gr_refl _, (c.get 12 47 (by kernel_rfl)), c.inv⟩
      intro a w5 hbase hroom hdef hJ hV
      have s48 : Rel.slot a 48 = .bool false := hV 13 _ _ rfl rfl
      rw [Chn.act_puts [35, 36, 37, 38, 39, 40, 41, 42, 43, 44, 45, 46, 47, 48] hbase hroom hdef (by kernel_rfl)]
      clear hbase hroom hdef hV
      simp only [List.foldl_cons, List.foldl_nil]
      generalize Rel.slot a 35 = u35 at *
      generalize Rel.slot a 36 = u36 at *
      generalize Rel.slot a 37 = u37 at *
      generalize Rel.slot a 38 = u38 at *
      generalize Rel.slot a 39 = u39 at *
      generalize Rel.slot a 40 = u40 at *
      generalize Rel.slot a 41 = u41 at *
      generalize Rel.slot a 42 = u42 at *
      generalize Rel.slot a 43 = u43 at *
      generalize Rel.slot a 44 = u44 at *
      generalize Rel.slot a 45 = u45 at *
      generalize Rel.slot a 46 = u46 at *
      generalize Rel.slot a 47 = u47 at *
      rw [s48]
      clear s48
      simp only [Act.put, List.setIfInBounds_toArray, List.set_cons_succ, List.set_cons_zero]
      have H5 := Lib.hid (H4.out.keep hJ)
      have HT5 := Lib.hid (cell_keep hJ HT4.out)
      have HQ5 := Lib.hid (And.intro (cell_keep hJ HQ.out.1) (And.intro (cell_keep hJ HQ.out.2.1) (And.intro (cell_keep hJ HQ.out.2.2.1) (cell_keep hJ HQ.out.2.2.2))))
      clear hJ HQ HT4
      have p6 : w5.cell? ⟨B, 6, none⟩ = some (.slice y.j.a y.j.n y.j.c) := Arr.blk_cell H5.out.bo.b 6
      have hmsk := Job.mask_any w5 y.j.a y.j.n y.j.c y.jobs (own_lst encJ_len H5.out.bo.o.j) (by have := (own_lst encJ_len H5.out.bo.o.j).len; have := HC.out.2.2.1; omega)
      rw [← HMk.out] at hmsk
      have HMs := Lib.hid hmsk
      clear hmsk
      go_wp2_with fail
      refine HMs.out.mono ?_
      rintro e w6 ⟨rfl, hb6⟩
      have H6 := Lib.hid (H5.out.keep hb6)
      have HT6 := Lib.hid (cell_keep hb6 HT5.out)
      have HQ6 := Lib.hid (And.intro (cell_keep hb6 HQ5.out.1) (And.intro (cell_keep hb6 HQ5.out.2.1) (And.intro (cell_keep hb6 HQ5.out.2.2.1) (cell_keep hb6 HQ5.out.2.2.2))))
      clear hb6 HQ5 HT5 p6 HMs
      by_cases hbm : bits BinOp.and IntKind.i64 p1 mk = 0
      rotate_left
      · have hE1 : E = 13 := by rw [HE1.out, if_pos hbm]
        have hbb : (bits BinOp.and IntKind.i64 p1 mk == 0) = false := beq_false_of_ne hbm
        subst hE1
        go_wp2_with fail
        go_ret2
        exact ⟨y, none, 0, 0, rfl, (fun h => absurd h (by decide)), H6.out.below⟩
      have HE2 := Lib.hid (show E = if ce ≠ 0 then ce else DE by rw [HE1.out, if_neg (by simpa using hbm)])
      clear HE1
      go_upto_region 9 with fail
      clear hbm
      refine Rel.wp_region_rel (G := Rel.Gr) (Rel.tab [.is (.pointer (some ⟨g, n * 12, none⟩)), .is (.pointer (some ⟨g, n * 12, none⟩)), .is (.pointer (some ⟨g, n * 12 + 2, none⟩)), .is (.int .i64 xn), .is (.pointer (some ⟨g, n * 12, none⟩)), .is (.pointer (some ⟨g, n * 12, none⟩)), .is (.pointer (some ⟨g, n * 12 + 3, none⟩)), .is (.int .i64 xw), .is (.pointer (some ⟨g, n * 12, none⟩)), .is (.pointer (some ⟨g, n * 12, none⟩)), .is (.pointer (some ⟨g, n * 12 + 6, none⟩)), .is (.int .i64 xp), .is (.tuple #[.int .i64 cn, .int .i64 ce]), .is (.tuple #[.int .i64 cn, .int .i64 ce]), .is (.int .i64 cn), .is (.int .i64 ce), .is (.int .i64 cn), .is (.int .i64 ce)]) (fun _ w => Below w6.heap.size w6 w) (by kernel_rfl) (by kernel_rfl) (by kernel_rfl) (by kernel_rfl) (fun w => Rel.gr_refl _) (below_drew _) ?_ ?_
      · refine ⟨?_, ?_, ?_, ?_, ?_, ?_, ?_, ?_, ?_, ?_, ?_, ?_, ?_, ?_, ?_, ?_, ?_, ?_, trivial⟩
        · intro L a w c
          refine .inl ⟨Rel.wanted_free (by kernel_rfl) _, ?_⟩
          exact Rel.wp_mv _ rfl ⟨_, rfl, Rel.gr_refl _, (c.old 8 (v := .pointer (some ⟨g, n * 12, none⟩)) (by kernel_rfl) (by kernel_rfl)), c.inv⟩
        · intro L a w c
          refine .inl ⟨Rel.wanted_free (by kernel_rfl) _, ?_⟩
          exact Chn.wp_nc _ rfl (c.get 0 58 (by kernel_rfl)) ⟨_, rfl, Rel.gr_refl _, rfl, c.inv⟩
        · intro L a w c
          refine .inl ⟨Rel.wanted_free (by kernel_rfl) _, ?_⟩
          exact Chn.wp_fa _ _ _ rfl (c.get 1 59 (by kernel_rfl)) (by simp [go_sem]) ⟨_, rfl, Rel.gr_refl _, rfl, c.inv⟩
        · intro L a w c
          refine .inl ⟨Rel.wanted_free (by kernel_rfl) _, ?_⟩
          exact Rel.wp_ld _ _ rfl (c.get 2 60 (by kernel_rfl)) (run_ldI (cell_keep c.inv HQ6.out.1)) ⟨_, rfl, Rel.gr_refl _, rfl, c.inv⟩
        · intro L a w c
          refine .inl ⟨Rel.wanted_free (by kernel_rfl) _, ?_⟩
          exact Rel.wp_mv _ rfl ⟨_, rfl, Rel.gr_refl _, (c.old 8 (v := .pointer (some ⟨g, n * 12, none⟩)) (by kernel_rfl) (by kernel_rfl)), c.inv⟩
        · intro L a w c
          refine .inl ⟨Rel.wanted_free (by kernel_rfl) _, ?_⟩
          exact Chn.wp_nc _ rfl (c.get 4 62 (by kernel_rfl)) ⟨_, rfl, Rel.gr_refl _, rfl, c.inv⟩
        · intro L a w c
          refine .inl ⟨Rel.wanted_free (by kernel_rfl) _, ?_⟩
          exact Chn.wp_fa _ _ _ rfl (c.get 5 63 (by kernel_rfl)) (by simp [go_sem]) ⟨_, rfl, Rel.gr_refl _, rfl, c.inv⟩
        · intro L a w c
          refine .inl ⟨Rel.wanted_free (by kernel_rfl) _, ?_⟩
          exact Rel.wp_ld _ _ rfl (c.get 6 64 (by kernel_rfl)) (run_ldI (cell_keep c.inv HQ6.out.2.1)) ⟨_, rfl, Rel.gr_refl _, rfl, c.inv⟩
        · intro L a w c
          refine .inl ⟨Rel.wanted_free (by kernel_rfl) _, ?_⟩
          exact Rel.wp_mv _ rfl ⟨_, rfl, Rel.gr_refl _, (c.old 8 (v := .pointer (some ⟨g, n * 12, none⟩)) (by kernel_rfl) (by kernel_rfl)), c.inv⟩
        · intro L a w c
          refine .inl ⟨Rel.wanted_free (by kernel_rfl) _, ?_⟩
          exact Chn.wp_nc _ rfl (c.get 8 66 (by kernel_rfl)) ⟨_, rfl, Rel.gr_refl _, rfl, c.inv⟩
        · intro L a w c
          refine .inl ⟨Rel.wanted_free (by kernel_rfl) _, ?_⟩
          exact Chn.wp_fa _ _ _ rfl (c.get 9 67 (by kernel_rfl)) (by simp [go_sem]) ⟨_, rfl, Rel.gr_refl _, rfl, c.inv⟩
        · intro L a w c
          refine .inl ⟨Rel.wanted_free (by kernel_rfl) _, ?_⟩
          exact Rel.wp_ld _ _ rfl (c.get 10 68 (by kernel_rfl)) (run_ldI (cell_keep c.inv HQ6.out.2.2.1)) ⟨_, rfl, Rel.gr_refl _, rfl, c.inv⟩
        · intro L a w c
          refine .inl ⟨Rel.wanted_free (by kernel_rfl) _, ?_⟩
          refine Rel.wp_cl _ _ _ rfl Tryz.func101 (by kernel_rfl) ?_
          show Calls _ _ #[Rel.slot a 61, Rel.slot a 65, Rel.slot a 69] w _
          rw [show Rel.slot a 61 = .int .i64 xn from (c.get 3 61 (by kernel_rfl)), show Rel.slot a 65 = .int .i64 xw from (c.get 7 65 (by kernel_rfl)), show Rel.slot a 69 = .int .i64 xp from (c.get 11 69 (by kernel_rfl))]
          refine (HCo.out w).mono ?_
          rintro e w' ⟨rfl, hb⟩
          exact ⟨_, rfl, _, rfl, hb, rfl, below_keep c.inv hb⟩
        · intro L a w c
          refine .inl ⟨Rel.wanted_free (by kernel_rfl) _, ?_⟩
          exact Rel.wp_mv _ rfl ⟨_, rfl, Rel.gr_refl _, (c.get 12 70 (by kernel_rfl)), c.inv⟩
        · intro L a w c
          refine .inl ⟨Rel.wanted_free (by kernel_rfl) _, ?_⟩
          exact Rel.wp_ex _ _ rfl (c.get 13 57 (by kernel_rfl)) (by simp [go_sem]) ⟨_, rfl, Rel.gr_refl _, rfl, c.inv⟩
        · intro L a w c
          refine .inl ⟨Rel.wanted_free (by kernel_rfl) _, ?_⟩
          exact Rel.wp_ex _ _ rfl (c.get 13 57 (by kernel_rfl)) (by simp [go_sem]) ⟨_, rfl, Rel.gr_refl _, rfl, c.inv⟩
        · intro L a w c
          refine .inl ⟨Rel.wanted_free (by kernel_rfl) _, ?_⟩
          exact Rel.wp_as _ rfl ⟨_, rfl, Rel.gr_refl _, (c.get 14 71 (by kernel_rfl)), c.inv⟩
        · intro L a w c
          refine .inl ⟨Rel.wanted_free (by kernel_rfl) _, ?_⟩
          exact Rel.wp_as _ rfl ⟨_, rfl, Rel.gr_refl _, (c.get 15 72 (by kernel_rfl)), c.inv⟩
      intro a w7 hbase hroom hdef hJ hV
      have s10 : Rel.slot a 10 = .int .i64 cn := hV 16 _ _ rfl rfl
      have s7 : Rel.slot a 7 = .int .i64 ce := hV 17 _ _ rfl rfl
      rw [Chn.act_puts [58, 59, 60, 61, 62, 63, 64, 65, 66, 67, 68, 69, 70, 57, 71, 72, 10, 7] hbase hroom hdef (by kernel_rfl)]
      clear hbase hroom hdef hV
      simp only [List.foldl_cons, List.foldl_nil]
      generalize Rel.slot a 58 = u58 at *
      generalize Rel.slot a 59 = u59 at *
      generalize Rel.slot a 60 = u60 at *
      generalize Rel.slot a 61 = u61 at *
      generalize Rel.slot a 62 = u62 at *
      generalize Rel.slot a 63 = u63 at *
      generalize Rel.slot a 64 = u64 at *
      generalize Rel.slot a 65 = u65 at *
      generalize Rel.slot a 66 = u66 at *
      generalize Rel.slot a 67 = u67 at *
      generalize Rel.slot a 68 = u68 at *
      generalize Rel.slot a 69 = u69 at *
      generalize Rel.slot a 70 = u70 at *
      generalize Rel.slot a 57 = u57 at *
      generalize Rel.slot a 71 = u71 at *
      generalize Rel.slot a 72 = u72 at *
      rw [s10]
      clear s10
      rw [s7]
      clear s7
      simp only [Act.put, List.setIfInBounds_toArray, List.set_cons_succ, List.set_cons_zero]
      have H7 := Lib.hid (H6.out.keep hJ)
      have HT7 := Lib.hid (cell_keep hJ HT6.out)
      have HQ7a := Lib.hid (cell_keep hJ HQ6.out.2.2.2)
      clear hJ HQ6 HT6
      by_cases hce : ce = 0
      rotate_left
      · have hE1 : E = ce := by rw [HE2.out, if_pos hce]
        have hcb : (ce == 0) = false := beq_false_of_ne hce
        have HCe := Lib.hid hce
        subst hE1
        go_wp2_with fail
        go_ret2
        exact ⟨y, none, 0, 0, rfl, (fun h => absurd h HCe.out), H7.out.below⟩
      subst hce
      have hE3 : E = DE := by rw [HE2.out, if_neg (by simp)]
      subst hE3
      have HDr2 := Lib.hid (fun (w : World) (hb : Below w7.heap.size w7 w) => HDr.out w y.f.a y.l.a y.f.n y.f.c y.l.n y.l.c (own_lst encF_len (H7.out.bo.keep hb).o.f) (own_lst encL_len (H7.out.bo.keep hb).o.l) (HCn.out rfl))
      clear HDr HE2
      have HDr := HDr2
      have HQ7 := Lib.hid (show w7.cell? ⟨B, 3, none⟩ = some (.slice y.f.a y.f.n y.f.c) ∧ w7.cell? ⟨B, 4, none⟩ = some (.slice y.l.a y.l.n y.l.c) ∧ w7.cell? ⟨g, n * 12 + 1, none⟩ = some (.int .i64 xf) ∧ w7.cell? ⟨W.heap.size, 1, none⟩ = some (.int .i64 tm) from ⟨Arr.blk_cell H7.out.bo.b 3, Arr.blk_cell H7.out.bo.b 4, HQ7a.out, HT7.out⟩)
      clear HQ7a HDr2
      go_upto_region 12 with fail
      refine Rel.wp_region_rel (G := Rel.Gr) (Rel.tab [.is (.pointer (some ⟨B, 0, none⟩)), .is (.pointer (some ⟨B, 0, none⟩)), .is (.pointer (some ⟨B, 3, none⟩)), .is (.slice y.f.a y.f.n y.f.c), .is (.pointer (some ⟨B, 0, none⟩)), .is (.pointer (some ⟨B, 0, none⟩)), .is (.pointer (some ⟨B, 4, none⟩)), .is (.slice y.l.a y.l.n y.l.c), .is (.pointer (some ⟨g, n * 12, none⟩)), .is (.pointer (some ⟨g, n * 12, none⟩)), .is (.pointer (some ⟨g, n * 12 + 1, none⟩)), .is (.int .i64 xf), .is (.int .i64 cn), .is (.pointer (some ⟨W.heap.size, 1, none⟩)), .is (.int .i64 tm), kDr w7.heap.size E DL, kDr w7.heap.size E DL, kDl w7.heap.size DL, .is (.int .i64 E), kDl w7.heap.size DL, .is (.int .i64 E)]) (fun _ w => Below w7.heap.size w7 w) (by kernel_rfl) (by kernel_rfl) (by kernel_rfl) (by kernel_rfl) (fun w => Rel.gr_refl _) (below_drew _) ?_ ?_
      · refine ⟨?_, ?_, ?_, ?_, ?_, ?_, ?_, ?_, ?_, ?_, ?_, ?_, ?_, ?_, ?_, ?_, ?_, ?_, ?_, ?_, ?_, trivial⟩
        · intro L a w c
          refine .inl ⟨Rel.wanted_free (by kernel_rfl) _, ?_⟩
          exact Rel.wp_mv _ rfl ⟨_, rfl, Rel.gr_refl _, (c.old 0 (v := .pointer (some ⟨B, 0, none⟩)) (by kernel_rfl) (by kernel_rfl)), c.inv⟩
        · intro L a w c
          refine .inl ⟨Rel.wanted_free (by kernel_rfl) _, ?_⟩
          exact Chn.wp_nc _ rfl (c.get 0 77 (by kernel_rfl)) ⟨_, rfl, Rel.gr_refl _, rfl, c.inv⟩
        · intro L a w c
          refine .inl ⟨Rel.wanted_free (by kernel_rfl) _, ?_⟩
          exact Chn.wp_fa _ _ _ rfl (c.get 1 78 (by kernel_rfl)) (by simp [go_sem]) ⟨_, rfl, Rel.gr_refl _, rfl, c.inv⟩
        · intro L a w c
          refine .inl ⟨Rel.wanted_free (by kernel_rfl) _, ?_⟩
          exact Rel.wp_ld _ _ rfl (c.get 2 79 (by kernel_rfl)) (run_ld_f (cell_keep c.inv HQ7.out.1)) ⟨_, rfl, Rel.gr_refl _, rfl, c.inv⟩
        · intro L a w c
          refine .inl ⟨Rel.wanted_free (by kernel_rfl) _, ?_⟩
          exact Rel.wp_mv _ rfl ⟨_, rfl, Rel.gr_refl _, (c.old 0 (v := .pointer (some ⟨B, 0, none⟩)) (by kernel_rfl) (by kernel_rfl)), c.inv⟩
        · intro L a w c
          refine .inl ⟨Rel.wanted_free (by kernel_rfl) _, ?_⟩
          exact Chn.wp_nc _ rfl (c.get 4 81 (by kernel_rfl)) ⟨_, rfl, Rel.gr_refl _, rfl, c.inv⟩
        · intro L a w c
          refine .inl ⟨Rel.wanted_free (by kernel_rfl) _, ?_⟩
          exact Chn.wp_fa _ _ _ rfl (c.get 5 82 (by kernel_rfl)) (by simp [go_sem]) ⟨_, rfl, Rel.gr_refl _, rfl, c.inv⟩
        · intro L a w c
          refine .inl ⟨Rel.wanted_free (by kernel_rfl) _, ?_⟩
          exact Rel.wp_ld _ _ rfl (c.get 6 83 (by kernel_rfl)) (run_ld_a (cell_keep c.inv HQ7.out.2.1)) ⟨_, rfl, Rel.gr_refl _, rfl, c.inv⟩
        · intro L a w c
          refine .inl ⟨Rel.wanted_free (by kernel_rfl) _, ?_⟩
          exact Rel.wp_mv _ rfl ⟨_, rfl, Rel.gr_refl _, (c.old 8 (v := .pointer (some ⟨g, n * 12, none⟩)) (by kernel_rfl) (by kernel_rfl)), c.inv⟩
        · intro L a w c
          refine .inl ⟨Rel.wanted_free (by kernel_rfl) _, ?_⟩
          exact Chn.wp_nc _ rfl (c.get 8 85 (by kernel_rfl)) ⟨_, rfl, Rel.gr_refl _, rfl, c.inv⟩
        · intro L a w c
          refine .inl ⟨Rel.wanted_free (by kernel_rfl) _, ?_⟩
          exact Chn.wp_fa _ _ _ rfl (c.get 9 86 (by kernel_rfl)) (by simp [go_sem]) ⟨_, rfl, Rel.gr_refl _, rfl, c.inv⟩
        · intro L a w c
          refine .inl ⟨Rel.wanted_free (by kernel_rfl) _, ?_⟩
          exact Rel.wp_ld _ _ rfl (c.get 10 87 (by kernel_rfl)) (run_ldI (cell_keep c.inv HQ7.out.2.2.1)) ⟨_, rfl, Rel.gr_refl _, rfl, c.inv⟩
        · intro L a w c
          refine .inl ⟨Rel.wanted_free (by kernel_rfl) _, ?_⟩
          exact Rel.wp_mv _ rfl ⟨_, rfl, Rel.gr_refl _, (c.old 10 (v := .int .i64 cn) (by kernel_rfl) (by kernel_rfl)), c.inv⟩
        · intro L a w c
          refine .inl ⟨Rel.wanted_free (by kernel_rfl) _, ?_⟩
          exact Chn.wp_fa _ _ _ rfl (c.old 3 (v := .pointer (some ⟨W.heap.size, 0, none⟩)) (by kernel_rfl) (by kernel_rfl)) (by simp [go_sem]) ⟨_, rfl, Rel.gr_refl _, rfl, c.inv⟩
        · intro L a w c
          refine .inl ⟨Rel.wanted_free (by kernel_rfl) _, ?_⟩
          exact Rel.wp_ld _ _ rfl (c.get 13 90 (by kernel_rfl)) (run_ldI (cell_keep c.inv HQ7.out.2.2.2)) ⟨_, rfl, Rel.gr_refl _, rfl, c.inv⟩
        · intro L a w c
          refine .inl ⟨Rel.wanted_free (by kernel_rfl) _, ?_⟩
          refine Rel.wp_cl _ _ _ rfl Tryz.func109 (by kernel_rfl) ?_
          show Calls _ _ #[Rel.slot a 80, Rel.slot a 84, Rel.slot a 88, Rel.slot a 89, Rel.slot a 91] w _
          rw [show Rel.slot a 80 = .slice y.f.a y.f.n y.f.c from (c.get 3 80 (by kernel_rfl)), show Rel.slot a 84 = .slice y.l.a y.l.n y.l.c from (c.get 7 84 (by kernel_rfl)), show Rel.slot a 88 = .int .i64 xf from (c.get 11 88 (by kernel_rfl)), show Rel.slot a 89 = .int .i64 cn from (c.get 12 89 (by kernel_rfl)), show Rel.slot a 91 = .int .i64 tm from (c.get 14 91 (by kernel_rfl))]
          refine (HDr.out w c.inv).mono ?_
          rintro e w' ⟨v, rfl, ho, hb⟩
          obtain ⟨va, vc, rfl, -, -, -, -⟩ := owns_row encD_len ho
          exact ⟨_, rfl, _, rfl, hb, ⟨va, _, vc, rfl, owns_le ho c.inv.size⟩, below_keep c.inv hb⟩
        · intro L a w c
          refine .inl ⟨Rel.wanted_free (by kernel_rfl) _, ?_⟩
          exact Rel.wp_mv _ rfl ⟨_, rfl, Rel.gr_refl _, (c.get 15 92 (by kernel_rfl)), c.inv⟩
        · intro L a w c
          refine .inl ⟨Rel.wanted_free (by kernel_rfl) _, ?_⟩
          obtain ⟨va, vn, vc, e, ho⟩ := c.get 16 76 (by kernel_rfl)
          exact Rel.wp_ex _ _ rfl e (by simp [go_sem]) ⟨_, rfl, Rel.gr_refl _, ⟨va, vn, vc, rfl, ho⟩, c.inv⟩
        · intro L a w c
          refine .inl ⟨Rel.wanted_free (by kernel_rfl) _, ?_⟩
          obtain ⟨va, vn, vc, e, ho⟩ := c.get 16 76 (by kernel_rfl)
          exact Rel.wp_ex _ _ rfl e (by simp [go_sem]) ⟨_, rfl, Rel.gr_refl _, rfl, c.inv⟩
        · intro L a w c
          refine .inl ⟨Rel.wanted_free (by kernel_rfl) _, ?_⟩
          exact Rel.wp_as _ rfl ⟨_, rfl, Rel.gr_refl _, (c.get 17 93 (by kernel_rfl)), c.inv⟩
        · intro L a w c
          refine .inl ⟨Rel.wanted_free (by kernel_rfl) _, ?_⟩
          exact Rel.wp_as _ rfl ⟨_, rfl, Rel.gr_refl _, (c.get 18 94 (by kernel_rfl)), c.inv⟩
      intro a w8 hbase hroom hdef hJ hV
      have s7 : Rel.slot a 7 = .int .i64 E := hV 20 _ _ rfl rfl
      have k11 : (kDl w7.heap.size DL : Rel.Kd (Rel.Gr)).p w8 (Rel.slot a 11) := hV 19 _ _ rfl rfl
      rw [Chn.act_puts [77, 78, 79, 80, 81, 82, 83, 84, 85, 86, 87, 88, 89, 90, 91, 92, 76, 93, 94, 11, 7] hbase hroom hdef (by kernel_rfl)]
      clear hbase hroom hdef hV
      simp only [List.foldl_cons, List.foldl_nil]
      generalize Rel.slot a 77 = u77 at *
      generalize Rel.slot a 78 = u78 at *
      generalize Rel.slot a 79 = u79 at *
      generalize Rel.slot a 80 = u80 at *
      generalize Rel.slot a 81 = u81 at *
      generalize Rel.slot a 82 = u82 at *
      generalize Rel.slot a 83 = u83 at *
      generalize Rel.slot a 84 = u84 at *
      generalize Rel.slot a 85 = u85 at *
      generalize Rel.slot a 86 = u86 at *
      generalize Rel.slot a 87 = u87 at *
      generalize Rel.slot a 88 = u88 at *
      generalize Rel.slot a 89 = u89 at *
      generalize Rel.slot a 90 = u90 at *
      generalize Rel.slot a 91 = u91 at *
      generalize Rel.slot a 92 = u92 at *
      generalize Rel.slot a 76 = u76 at *
      generalize Rel.slot a 93 = u93 at *
      generalize Rel.slot a 94 = u94 at *
      generalize Rel.slot a 11 = u11 at *
      rw [s7]
      clear s7
      simp only [Act.put, List.setIfInBounds_toArray, List.set_cons_succ, List.set_cons_zero]
      obtain ⟨da, dn, dc, rfl, ho8⟩ := k11
      have H8 := Lib.hid (H7.out.keep hJ)
      have HT8 := Lib.hid (And.intro (cell_keep hJ HT7.out) HNg.out)
      have HD8 := Lib.hid (owns_le ho8 H7.out.below.size)
      clear hJ HQ7 ho8 HT7 HDr
      by_cases hE0 : E = 0
      rotate_left
      · have hcb : (E == 0) = false := beq_false_of_ne hE0
        have HCe := Lib.hid hE0
        go_wp2_with fail
        go_ret2
        exact ⟨y, none, 0, 0, rfl, (fun h => absurd h HCe.out), H8.out.below⟩
      subst hE0
      have H8d := Lib.hid (H8.out.keep (below_drew w8))
      obtain ⟨a1, b1, c1, d1, hbo, hbl⟩ := H8d.out.bo.four HG.out.1 HG.out.2.1 (i1 := 7) (i2 := 8) (i3 := 9) (by omega) (by omega) (by omega) (fun x => { x with t := { x.t with state := 3 } }) (fun x => { x with t := { x.t with start := tm } }) (fun x => { x with t := { x.t with mask := p1 } }) (.int .i64 3) (.int .i64 tm) (.int .i64 p1) (fun a => rfl) (fun a => rfl) (fun a => rfl) (fun x => ⟨rfl, rfl, rfl, rfl⟩) (fun x => ⟨rfl, rfl, rfl, rfl⟩) (fun x => ⟨rfl, rfl, rfl, rfl⟩) da dn dc DL (Nest.own_on HD8.out (below_drew w8))
      have H4f := Lib.hid (And.intro a1 (And.intro b1 (And.intro c1 d1)))
      have hown9 := H8d.out.bo.far4 HG.out.1 (by decide) (Nest.own_on HD8.out (below_drew w8)) (i1 := n * 12 + 7) (i2 := n * 12 + 8) (i3 := n * 12 + 9) (i4 := n * 12 + 11) (.int .i64 3) (.int .i64 tm) (.int .i64 p1) (.slice da dn dc)
      have HR := Lib.hid (And.intro hbo (And.intro (H8d.out.below.trans hbl) hown9))
      clear a1 b1 c1 d1 hbo hbl hown9
      go_upto_region 15 with fail
      refine Chn.wp_region_chain (fun idx => match idx with | 0 => some (.pointer (some ⟨g, n * 12, none⟩)) | 1 => some (.pointer (some ⟨g, n * 12, none⟩)) | 2 => some (.pointer (some ⟨g, n * 12, none⟩)) | 3 => some (.pointer (some ⟨g, n * 12, none⟩)) | 4 => some (.pointer (some ⟨W.heap.size, 1, none⟩)) | 5 => some (.int .i64 tm) | 6 => some (.int .i64 p1) | 7 => some (.slice da dn dc) | 8 => some (.pointer (some ⟨g, n * 12, none⟩)) | 9 => some (.pointer (some ⟨g, n * 12 + 7, none⟩)) | 11 => some (.pointer (some ⟨g, n * 12, none⟩)) | 12 => some (.pointer (some ⟨g, n * 12 + 8, none⟩)) | 14 => some (.pointer (some ⟨g, n * 12, none⟩)) | 15 => some (.pointer (some ⟨g, n * 12 + 9, none⟩)) | 17 => some (.pointer (some ⟨g, n * 12, none⟩)) | 18 => some (.pointer (some ⟨g, n * 12 + 11, none⟩)) | _ => none) [10, 13, 16, 19] (phi4 w8 g (n * 12 + 7) (n * 12 + 8) (n * 12 + 9) (n * 12 + 11) (.int .i64 3) (.int .i64 tm) (.int .i64 p1) (.slice da dn dc)) (by kernel_rfl) (by kernel_rfl) (by kernel_rfl) (by kernel_rfl) (by kernel_rfl) (by decide) (by kernel_rfl) (rfl) ?_ ?_
      · refine ⟨?_, ?_, ?_, ?_, ?_, ?_, ?_, ?_, ?_, ?_, ?_, ?_, ?_, ?_, ?_, ?_, ?_, ?_, ?_, ?_, trivial⟩
        · intro a ww jj vs c hj0 hΦ
          have hj : jj ≤ 0 := Nat.le_trans hj0 (of_decide_eq_true (by kernel_rfl))
          refine .inl ⟨Rel.wanted_free (by kernel_rfl) _, ?_⟩
          exact Rel.wp_mv _ rfl ⟨congrArg (a.put _) (c.old 8 (v := .pointer (some ⟨g, n * 12, none⟩)) (by kernel_rfl) (by kernel_rfl)), rfl⟩
        · intro a ww jj vs c hj0 hΦ
          have hj : jj ≤ 1 := Nat.le_trans hj0 (of_decide_eq_true (by kernel_rfl))
          refine .inl ⟨Rel.wanted_free (by kernel_rfl) _, ?_⟩
          exact Rel.wp_mv _ rfl ⟨congrArg (a.put _) (c.old 8 (v := .pointer (some ⟨g, n * 12, none⟩)) (by kernel_rfl) (by kernel_rfl)), rfl⟩
        · intro a ww jj vs c hj0 hΦ
          have hj : jj ≤ 2 := Nat.le_trans hj0 (of_decide_eq_true (by kernel_rfl))
          refine .inl ⟨Rel.wanted_free (by kernel_rfl) _, ?_⟩
          exact Rel.wp_mv _ rfl ⟨congrArg (a.put _) (c.old 8 (v := .pointer (some ⟨g, n * 12, none⟩)) (by kernel_rfl) (by kernel_rfl)), rfl⟩
        · intro a ww jj vs c hj0 hΦ
          have hj : jj ≤ 3 := Nat.le_trans hj0 (of_decide_eq_true (by kernel_rfl))
          refine .inl ⟨Rel.wanted_free (by kernel_rfl) _, ?_⟩
          exact Rel.wp_mv _ rfl ⟨congrArg (a.put _) (c.old 8 (v := .pointer (some ⟨g, n * 12, none⟩)) (by kernel_rfl) (by kernel_rfl)), rfl⟩
        · intro a ww jj vs c hj0 hΦ
          have hj : jj ≤ 1 := Nat.le_trans hj0 (of_decide_eq_true (by kernel_rfl))
          refine .inl ⟨Rel.wanted_free (by kernel_rfl) _, ?_⟩
          exact Chn.wp_fa _ _ _ rfl (c.old 3 (v := .pointer (some ⟨W.heap.size, 0, none⟩)) (by kernel_rfl) (by kernel_rfl)) (by simp [go_sem]) ⟨rfl, rfl⟩
        · intro a ww jj vs c hj0 hΦ
          have hj : jj ≤ 1 := Nat.le_trans hj0 (of_decide_eq_true (by kernel_rfl))
          refine .inl ⟨Rel.wanted_free (by kernel_rfl) _, ?_⟩
          exact Rel.wp_ld _ _ rfl (c.get 4 102 (by kernel_rfl) rfl) (run_ldI (phi4_cell HT8.out.2 hΦ HT8.out.1)) ⟨rfl, rfl⟩
        · intro a ww jj vs c hj0 hΦ
          have hj : jj ≤ 2 := Nat.le_trans hj0 (of_decide_eq_true (by kernel_rfl))
          refine .inl ⟨Rel.wanted_free (by kernel_rfl) _, ?_⟩
          exact Rel.wp_mv _ rfl ⟨congrArg (a.put _) (c.old 9 (v := .int .i64 p1) (by kernel_rfl) (by kernel_rfl)), rfl⟩
        · intro a ww jj vs c hj0 hΦ
          have hj : jj ≤ 3 := Nat.le_trans hj0 (of_decide_eq_true (by kernel_rfl))
          refine .inl ⟨Rel.wanted_free (by kernel_rfl) _, ?_⟩
          exact Rel.wp_mv _ rfl ⟨congrArg (a.put _) (c.old 11 (v := .slice da dn dc) (by kernel_rfl) (by kernel_rfl)), rfl⟩
        · intro a ww jj vs c hj0 hΦ
          have hj : jj ≤ 0 := Nat.le_trans hj0 (of_decide_eq_true (by kernel_rfl))
          refine .inl ⟨Rel.wanted_free (by kernel_rfl) _, ?_⟩
          exact Chn.wp_nc _ rfl (c.get 0 98 (by kernel_rfl) rfl) ⟨rfl, rfl⟩
        · intro a ww jj vs c hj0 hΦ
          have hj : jj ≤ 0 := Nat.le_trans hj0 (of_decide_eq_true (by kernel_rfl))
          refine .inl ⟨Rel.wanted_free (by kernel_rfl) _, ?_⟩
          exact Chn.wp_fa _ _ _ rfl (c.get 8 106 (by kernel_rfl) rfl) (by simp [go_sem]) ⟨rfl, rfl⟩
        · refine ⟨0, rfl, ?_⟩
          intro a ww c hΦ
          have h : (phi4 w8 g (n * 12 + 7) (n * 12 + 8) (n * 12 + 9) (n * 12 + 11) (.int .i64 3) (.int .i64 tm) (.int .i64 p1) (.slice da dn dc)) 0 [] ww := hΦ
          clear hΦ
          refine ⟨Rel.wanted_free (by kernel_rfl) _, ?_⟩
          have hw : ww = w8.drew := h
          subst hw
          exact Chn.wp_st _ _ _ rfl (c.get 9 107 (by kernel_rfl) rfl) rfl (run_stI H4f.out.1.1 H4f.out.1.2) ⟨undef, rfl, rfl⟩
        · intro a ww jj vs c hj0 hΦ
          have hj : jj ≤ 1 := Nat.le_trans hj0 (of_decide_eq_true (by kernel_rfl))
          refine .inl ⟨Rel.wanted_free (by kernel_rfl) _, ?_⟩
          exact Chn.wp_nc _ rfl (c.get 1 99 (by kernel_rfl) rfl) ⟨rfl, rfl⟩
        · intro a ww jj vs c hj0 hΦ
          have hj : jj ≤ 1 := Nat.le_trans hj0 (of_decide_eq_true (by kernel_rfl))
          refine .inl ⟨Rel.wanted_free (by kernel_rfl) _, ?_⟩
          exact Chn.wp_fa _ _ _ rfl (c.get 11 108 (by kernel_rfl) rfl) (by simp [go_sem]) ⟨rfl, rfl⟩
        · refine ⟨1, rfl, ?_⟩
          intro a ww c hΦ
          have h : (phi4 w8 g (n * 12 + 7) (n * 12 + 8) (n * 12 + 9) (n * 12 + 11) (.int .i64 3) (.int .i64 tm) (.int .i64 p1) (.slice da dn dc)) 1 [undef] ww := hΦ
          clear hΦ
          refine ⟨Rel.wanted_free (by kernel_rfl) _, ?_⟩
          have hw := show ww = _ from h
          subst hw
          exact Chn.wp_st _ _ _ rfl (c.get 12 109 (by kernel_rfl) rfl) (c.get 5 103 (by kernel_rfl) rfl) (run_stI H4f.out.2.1.1 H4f.out.2.1.2) ⟨undef, rfl, rfl⟩
        · intro a ww jj vs c hj0 hΦ
          have hj : jj ≤ 2 := Nat.le_trans hj0 (of_decide_eq_true (by kernel_rfl))
          refine .inl ⟨Rel.wanted_free (by kernel_rfl) _, ?_⟩
          exact Chn.wp_nc _ rfl (c.get 2 100 (by kernel_rfl) rfl) ⟨rfl, rfl⟩
        · intro a ww jj vs c hj0 hΦ
          have hj : jj ≤ 2 := Nat.le_trans hj0 (of_decide_eq_true (by kernel_rfl))
          refine .inl ⟨Rel.wanted_free (by kernel_rfl) _, ?_⟩
          exact Chn.wp_fa _ _ _ rfl (c.get 14 110 (by kernel_rfl) rfl) (by simp [go_sem]) ⟨rfl, rfl⟩
        · refine ⟨2, rfl, ?_⟩
          intro a ww c hΦ
          have h : (phi4 w8 g (n * 12 + 7) (n * 12 + 8) (n * 12 + 9) (n * 12 + 11) (.int .i64 3) (.int .i64 tm) (.int .i64 p1) (.slice da dn dc)) 2 [undef, undef] ww := hΦ
          clear hΦ
          refine ⟨Rel.wanted_free (by kernel_rfl) _, ?_⟩
          have hw := show ww = _ from h
          subst hw
          exact Chn.wp_st _ _ _ rfl (c.get 15 111 (by kernel_rfl) rfl) (c.get 6 104 (by kernel_rfl) rfl) (run_stI H4f.out.2.2.1.1 H4f.out.2.2.1.2) ⟨undef, rfl, rfl⟩
        · intro a ww jj vs c hj0 hΦ
          have hj : jj ≤ 3 := Nat.le_trans hj0 (of_decide_eq_true (by kernel_rfl))
          refine .inl ⟨Rel.wanted_free (by kernel_rfl) _, ?_⟩
          exact Chn.wp_nc _ rfl (c.get 3 101 (by kernel_rfl) rfl) ⟨rfl, rfl⟩
        · intro a ww jj vs c hj0 hΦ
          have hj : jj ≤ 3 := Nat.le_trans hj0 (of_decide_eq_true (by kernel_rfl))
          refine .inl ⟨Rel.wanted_free (by kernel_rfl) _, ?_⟩
          exact Chn.wp_fa _ _ _ rfl (c.get 17 112 (by kernel_rfl) rfl) (by simp [go_sem]) ⟨rfl, rfl⟩
        · refine ⟨3, rfl, ?_⟩
          intro a ww c hΦ
          have h : (phi4 w8 g (n * 12 + 7) (n * 12 + 8) (n * 12 + 9) (n * 12 + 11) (.int .i64 3) (.int .i64 tm) (.int .i64 p1) (.slice da dn dc)) 3 [undef, undef, undef] ww := hΦ
          clear hΦ
          refine ⟨Rel.wanted_free (by kernel_rfl) _, ?_⟩
          have hw := show ww = _ from h
          subst hw
          exact Chn.wp_st _ _ _ rfl (c.get 18 113 (by kernel_rfl) rfl) (c.get 7 105 (by kernel_rfl) rfl) (run_st_d H4f.out.2.2.2.1 H4f.out.2.2.2.2) ⟨undef, rfl, rfl⟩
      intro a w9 hbase hroom hdef hΦ hV
      have h : (phi4 w8 g (n * 12 + 7) (n * 12 + 8) (n * 12 + 9) (n * 12 + 11) (.int .i64 3) (.int .i64 tm) (.int .i64 p1) (.slice da dn dc)) 4 [undef, undef, undef, undef] w9 := hΦ
      rw [Chn.act_puts [98, 99, 100, 101, 102, 103, 104, 105, 106, 107, 108, 109, 110, 111, 112, 113] hbase hroom hdef (by kernel_rfl)]
      clear hbase hroom hdef hΦ hV
      simp only [List.foldl_cons, List.foldl_nil]
      generalize Rel.slot a 98 = u98 at *
      generalize Rel.slot a 99 = u99 at *
      generalize Rel.slot a 100 = u100 at *
      generalize Rel.slot a 101 = u101 at *
      generalize Rel.slot a 102 = u102 at *
      generalize Rel.slot a 103 = u103 at *
      generalize Rel.slot a 104 = u104 at *
      generalize Rel.slot a 105 = u105 at *
      generalize Rel.slot a 106 = u106 at *
      generalize Rel.slot a 107 = u107 at *
      generalize Rel.slot a 108 = u108 at *
      generalize Rel.slot a 109 = u109 at *
      generalize Rel.slot a 110 = u110 at *
      generalize Rel.slot a 111 = u111 at *
      generalize Rel.slot a 112 = u112 at *
      generalize Rel.slot a 113 = u113 at *
      have hw9 : w9 = ((((w8.drew.setCell ⟨g, n * 12 + 7, none⟩ (.int .i64 3)).setCell ⟨g, n * 12 + 8, none⟩ (.int .i64 tm)).setCell ⟨g, n * 12 + 9, none⟩ (.int .i64 p1)).setCell ⟨g, n * 12 + 11, none⟩ (.slice da dn dc)) := h
      rw [← hw9] at HR
      clear h hw9
      have hdl := own_lst encD_len HR.out.2.2
      have HLi := Lib.hid (Drw.lienW_any w9 da dn dc DL hdl (HDn.out rfl) (by have := hdl.len; have := HDl.out rfl; omega))
      clear hdl
      go_wp2_with fail
      refine HLi.out.mono ?_
      rintro e w10 ⟨v10, rfl, ho10, hb10⟩
      obtain ⟨la, lc, rfl, -, -, -, -⟩ := owns_row encG_len ho10
      have H10 := Lib.hid (And.intro (HR.out.1.keep hb10) (And.intro (below_keep HR.out.2.1 hb10) (owns_le ho10 HR.out.2.1.size)))
      clear ho10 hb10 HLi
      go_wp2_with fail
      go_ret2
      exact ⟨_, la, _, lc, rfl, (fun _ => ⟨by rw [HSL.out.1]; exact set_t, H10.out.1, by rw [HSL.out.2]; exact H10.out.2.2⟩), H10.out.2.1⟩
end Go.Proofs.YtjcndgopijpibaaGreat.Bok
