/- Common to the claims of this seat, part 40: texts that were written one by one, laid behind one another. -/
import Derived.Test.YtjcndgopijpibaaGreatPart14
import Derived.Test.YtjcndgopijpibaaGreatPart35
import Derived.Test.YtjcndgopijpibaaGreatPart37
/- Book, the landed: TxCancel. -/
namespace Go.Proofs.YtjcndgopijpibaaGreat.Bok
set_option maxRecDepth 100000
open Go.RowKit
open Go.Sort
open Kit
open Foot
open Tre (Lst inI lst_keep lst_at lst_new lst_none encF encF_len encL_len IntsL goodB)
open Led (Lg encG encG_len)
open Job (Jb Jv Jobs encJ encJ_len encJ_one findI)
open Drw (Dw Draws encD encD_len encD_one)
open Go.Proofs.YtjcndgopijpibaaGreat.Ord (ts)
open Snp (Sn Sv encK encK_len encK_one)
set_option linter.unusedVariables false
variable {w w' W0 W : World} {B : Nat}
theorem two_may (st : Int) : mayK 10 st = ([1, 2] : List Int).contains st := by
  show decide (st = 1 ∨ st = 2) = _
  by_cases h1 : st = 1
  · simp [h1]
  · by_cases h2 : st = 2
    · simp [h2]
    · simp [h1, h2]
set_option maxHeartbeats 8000000 in
theorem cancel_any (y : Sv) (hc : Cal W0 W B y) (hn : y.jobs.length ≤ 16) (sq tm kd : Int) (ky nm : ByteArray) (aa ga : Option Addr) (cp gn gc : Nat) (now p0 : Int) (hA : IntsL W aa 1 cp [p0]) :
    Calls Tryz.prog 73 #[.pointer (some ⟨B, 0, none⟩), .agg #[.int .i64 sq, .int .i64 tm, .int .i64 kd, .string ky, .string nm, .slice aa 1 cp, .slice ga gn gc]] W (ErrP W0 B (jobsE y.t 10 now [p0]) (jobsS y.t 10 now [p0])) := by
  obtain ⟨ba, oa, rfl⟩ := lst_at hA (by omega)
  obtain ⟨E, hE⟩ : ∃ E, E = jobsE y.t 10 now [p0] := ⟨_, rfl⟩
  obtain ⟨S, hS⟩ : ∃ S, S = jobsS y.t 10 now [p0] := ⟨_, rfl⟩
  rw [← hE, ← hS]
  have hj := jobs_cases y 10 now [p0] [1, 2] two_may
  rw [← hE] at hj
  have hba := below_alloc W (.cells #[.int .i64 sq, .int .i64 tm, .int .i64 kd, .string ky, .string nm, .slice (some ⟨ba, oa, none⟩) 1 cp, .slice ga gn gc] 34)
  have htb := tx_box W sq tm kd ky nm (some ⟨ba, oa, none⟩) ga 1 cp gn gc
  obtain ⟨wa, hwa⟩ : ∃ z, z = W.alloc (.cells #[.int .i64 sq, .int .i64 tm, .int .i64 kd, .string ky, .string nm, .slice (some ⟨ba, oa, none⟩) 1 cp, .slice ga gn gc] 34) := ⟨_, rfl⟩
  rw [← hwa] at htb hba
  have HWa := Lib.hid hwa
  have hA2 := lst_keep Tre.encI_len hA hba
  have k5 : wa.cell? ⟨W.heap.size, 5, none⟩ = some (.slice (some ⟨ba, oa, none⟩) 1 cp) := Arr.blk_cell htb 5
  have hca := hc.keep hba
  have HBo := Lib.hid hca
  have hgeW := Lib.hid hca.below.size
  have q0 : wa.cell? ⟨ba, oa, none⟩ = some (.int .i64 p0) := Tre.int_cell hA2 (k := 0) (by simp)
  have hbb := below_alloc wa (.cells #[.int .i64 1, .int .i64 2] 3)
  have hcb := hca.keep hbb
  have hSt : IntsL (wa.alloc (.cells #[.int .i64 1, .int .i64 2] 3)) (some ⟨wa.heap.size, 0, none⟩) 2 2 [1, 2] := lst_new Tre.encI_len wa [1, 2] _ _ _ 2 rfl rfl rfl (by omega)
  have HJ := Lib.hid (fun p E h => jobIn_any (wa.alloc (.cells #[.int .i64 1, .int .i64 2] 3)) B y.j.a y.j.n y.j.c y.jobs (own_lst encJ_len hcb.bo.o.j) (Arr.blk_cell hcb.bo.b 6) p0 (some ⟨wa.heap.size, 0, none⟩) 2 2 [1, 2] hSt p E h)
  have HC := Lib.hid (And.intro hcb (And.intro hS hn))
  have HJc := Lib.hid hj
  clear hj hE hS hn hA hA2 hca htb hba hwa hc hbb hcb hSt
  go_enter Tryz.func73, Tryz.ntmps73
  go_upto_region 1 with fail
  rw [← HWa.out]
  go_wp2_with fail
  rcases HJc.out with ⟨p, h1, h2⟩ | ⟨n, z, h1, h2, h3, h4, h5, h6⟩
  · refine (HJ.out p E h1).mono ?_
    rintro e w3 ⟨rfl, hb3⟩
    have H3 := Lib.hid (HC.out.1.keep hb3)
    clear hb3 h1
    rcases h2 with rfl | rfl
    · go_wp2_with fail
      go_ret
      exact ⟨y, rfl, (fun h => absurd h (by decide)), H3.out.below⟩
    · go_wp2_with fail
      go_ret
      exact ⟨y, rfl, (fun h => absurd h (by decide)), H3.out.below⟩
  · refine (HJ.out (n : Int) 0 h1).mono ?_
    rintro e w3 ⟨rfl, hb3⟩
    have H3 := Lib.hid (HC.out.1.keep hb3)
    have hkl := (List.getElem?_eq_some_iff.1 h3).1
    obtain ⟨g, cap, hj, hge⟩ := H3.out.bo.at_j (by omega)
    obtain ⟨nn, hnn⟩ : ∃ n, n = y.jobs.length := ⟨_, rfl⟩
    rw [← hnn] at hj hkl
    obtain ⟨m, hm⟩ : ∃ m, m + 1 = nn := ⟨nn - 1, by omega⟩
    have hE0 : E = 0 := h6
    have HES := Lib.hid (show E = 0 ∧ S = { y.t with jobs := y.t.jobs.eraseIdx n } from ⟨hE0, by
      rw [HC.out.2.1]
      unfold jobsS
      rw [if_pos rfl, show findI y.t.jobs (ag [p0] 0) = (n : Int) from h2, Int.toNat_natCast]⟩)
    have hown : Owns encJ 12 58 w3 W0.heap.size (.slice (some ⟨g, 0, none⟩) nn cap) y.jobs := by
      have := H3.out.bo.o.j
      rw [hj] at this
      exact this
    have p6 : w3.cell? ⟨B, 6, none⟩ = some (.slice (some ⟨g, 0, none⟩) nn cap) := by
      rw [Arr.blk_cell H3.out.bo.b 6]
      show some (Value.slice y.j.a y.j.n y.j.c) = _
      rw [hj]
    have HD := Lib.hid (delete_any w3 W0.heap.size g nn m cap n y.jobs ((n : Int) + 1) hm hown hkl (by have := HC.out.2.2; omega) (by omega))
    have HG := Lib.hid (And.intro hj hge)
    have hsm : (n : Int) ≤ 100 := by have := HC.out.2.2; omega
    clear hb3 h1 h2 h3 h4 h5 h6 hE0 hown hj hge hkl hm hnn k5 q0
    go_wp2_with fail
    refine HD.out.mono ?_
    rintro e w4 ⟨rfl, ho4, hC4⟩
    obtain ⟨hb4, hbo4, hbl4⟩ := H3.out.bo.delJ HG.out.1 ho4 hC4
    have r6 : w4.cell? ⟨B, 6, none⟩ = some (.slice y.j.a y.j.n y.j.c) := Arr.blk_cell hb4 6
    have rf : w4.frozen? ⟨B, 6, none⟩ = false := Arr.blk_frozen hb4 6
    have H4 := Lib.hid (And.intro hbo4 (H3.out.below.trans (hbl4 H3.out.below.size)))
    clear ho4 hC4 hb4 hbo4 hbl4 p6
    go_wp2_with fail
    go_ret
    exact ⟨_, by rw [HES.out.1]; rfl, (fun _ => ⟨by rw [HES.out.2]; exact del_t, H4.out.1⟩), H4.out.2⟩
end Go.Proofs.YtjcndgopijpibaaGreat.Bok
/- Book, the landed: TxRequeue. -/
namespace Go.Proofs.YtjcndgopijpibaaGreat.Bok
set_option maxRecDepth 100000
open Go.RowKit
open Go.Sort
open Kit
open Foot
open Tre (Lst inI lst_keep lst_at lst_new lst_none encF encF_len encL_len IntsL goodB)
open Led (Lg encG encG_len)
open Job (Jb Jv Jobs encJ encJ_len encJ_one findI)
open Drw (Dw Draws encD encD_len encD_one)
open Go.Proofs.YtjcndgopijpibaaGreat.Ord (ts)
open Snp (Sn Sv encK encK_len encK_one)
set_option linter.unusedVariables false
variable {w w' W0 W : World} {B : Nat}
set_option maxHeartbeats 16000000 in
theorem requeue_any (y : Sv) (hc : Cal W0 W B y) (hn : y.jobs.length ≤ 16) (hdr : ∀ x ∈ y.jobs, x.t.draws.length ≤ 16 ∧ ∀ d ∈ x.t.draws, Drw.Near d) (sq tm kd : Int) (ky nm : ByteArray) (aa ga : Option Addr) (cp gn gc : Nat) (p0 : Int) (hA : IntsL W aa 1 cp [p0]) :
    Calls Tryz.prog 74 #[.pointer (some ⟨B, 0, none⟩), .agg #[.int .i64 sq, .int .i64 tm, .int .i64 kd, .string ky, .string nm, .slice aa 1 cp, .slice ga gn gc]] W (LegP W0 B (jobsE y.t 11 tm [p0]) (jobsS y.t 11 tm [p0]) (jobsL y.t 11 tm [p0])) := by
  obtain ⟨ba, oa, rfl⟩ := lst_at hA (by omega)
  obtain ⟨E, hE⟩ : ∃ E, E = jobsE y.t 11 tm [p0] := ⟨_, rfl⟩
  obtain ⟨S, hS⟩ : ∃ S, S = jobsS y.t 11 tm [p0] := ⟨_, rfl⟩
  obtain ⟨L, hL⟩ : ∃ L, L = jobsL y.t 11 tm [p0] := ⟨_, rfl⟩
  rw [← hE, ← hS, ← hL]
  have hj := jobs_cases y 11 tm [p0] [3] (fun st => by show decide (st = 3) = _; by_cases h : st = 3 <;> simp [h])
  rw [← hE] at hj
  have hba := below_alloc W (.cells #[.int .i64 sq, .int .i64 tm, .int .i64 kd, .string ky, .string nm, .slice (some ⟨ba, oa, none⟩) 1 cp, .slice ga gn gc] 34)
  have htb := tx_box W sq tm kd ky nm (some ⟨ba, oa, none⟩) ga 1 cp gn gc
  obtain ⟨wa, hwa⟩ : ∃ z, z = W.alloc (.cells #[.int .i64 sq, .int .i64 tm, .int .i64 kd, .string ky, .string nm, .slice (some ⟨ba, oa, none⟩) 1 cp, .slice ga gn gc] 34) := ⟨_, rfl⟩
  rw [← hwa] at htb hba
  have HWa := Lib.hid hwa
  have hA2 := lst_keep Tre.encI_len hA hba
  have k5 : wa.cell? ⟨W.heap.size, 5, none⟩ = some (.slice (some ⟨ba, oa, none⟩) 1 cp) := Arr.blk_cell htb 5
  have hca := hc.keep hba
  have HBo := Lib.hid hca
  have hgeW := Lib.hid hca.below.size
  have q0 : wa.cell? ⟨ba, oa, none⟩ = some (.int .i64 p0) := Tre.int_cell hA2 (k := 0) (by simp)
  have hbb := below_alloc wa (.cells #[.int .i64 3] 3)
  have hcb := hca.keep hbb
  have hSt : IntsL (wa.alloc (.cells #[.int .i64 3] 3)) (some ⟨wa.heap.size, 0, none⟩) 1 1 [3] := lst_new Tre.encI_len wa [3] _ _ _ 1 rfl rfl rfl (by omega)
  have HJ := Lib.hid (fun p E h => jobIn_any (wa.alloc (.cells #[.int .i64 3] 3)) B y.j.a y.j.n y.j.c y.jobs (own_lst encJ_len hcb.bo.o.j) (Arr.blk_cell hcb.bo.b 6) p0 (some ⟨wa.heap.size, 0, none⟩) 1 1 [3] hSt p E h)
  have HJc := Lib.hid hj
  have HTb := Lib.hid (And.intro (Arr.blk_alloc htb (.cells #[.int .i64 3] 3)) (lst_keep Tre.encI_len hA2 hbb))
  have HC := Lib.hid (And.intro hcb (And.intro (And.intro hS hL) (And.intro hn hdr)))
  clear hj hE hS hL hn hdr hA hA2 hca htb hba hwa hc hbb hcb hSt
  go_enter Tryz.func74, Tryz.ntmps74
  go_upto_region 1 with fail
  rw [← HWa.out]
  go_wp2_with fail
  rcases HJc.out with ⟨p, h1, h2⟩ | ⟨n, z, h1, h2, h3, h4, h5, h6⟩
  · refine (HJ.out p E h1).mono ?_
    rintro e w3 ⟨rfl, hb3⟩
    have H3 := Lib.hid (HC.out.1.keep hb3)
    clear hb3 h1
    rcases h2 with rfl | rfl
    · go_wp2_with fail
      go_ret2
      exact ⟨y, none, 0, 0, rfl, (fun h => absurd h (by decide)), H3.out.below⟩
    · go_wp2_with fail
      go_ret2
      exact ⟨y, none, 0, 0, rfl, (fun h => absurd h (by decide)), H3.out.below⟩
  · skip
    refine (HJ.out (n : Int) 0 h1).mono ?_
    rintro e w3 ⟨rfl, hb3⟩
    have H3 := Lib.hid (HC.out.1.keep hb3)
    have hkl := (List.getElem?_eq_some_iff.1 h3).1
    obtain ⟨g, cap, hj, hge⟩ := H3.out.bo.at_j (by omega)
    obtain ⟨nn, hnn⟩ : ∃ n, n = y.jobs.length := ⟨_, rfl⟩
    rw [← hnn] at hj hkl
    have p6 : w3.cell? ⟨B, 6, none⟩ = some (.slice (some ⟨g, 0, none⟩) nn cap) := by
      rw [Arr.blk_cell H3.out.bo.b 6]
      show some (Value.slice y.j.a y.j.n y.j.c) = _
      rw [hj]
    have hJb : Jobs w3 (some ⟨g, 0, none⟩) nn cap y.jobs := by
      have := own_lst encJ_len H3.out.bo.o.j
      rw [hj] at this
      exact this
    have HG := Lib.hid (And.intro hj (And.intro h3 (And.intro (List.mem_of_getElem? h3) (Nat.le_refl 0))))
    have hsm : (n : Int) ≤ 100 := by have := HC.out.2.2.1; omega
    have hE0 : E = 0 := h6
    have HES := Lib.hid (show E = 0 ∧ S = { y.t with jobs := y.t.jobs.set n { z.t with state := 1, start := 0, mask := 0, draws := [] } } ∧ L = Drw.legsW z.t.draws z.t.draws 2 1 0 from ⟨hE0, by
      rw [HC.out.2.1.1, jobsS_at (by decide) h2 h5]
      rfl, by
      rw [HC.out.2.1.2]
      show jobL y.t 11 tm [p0] (atJ y.t [p0]) = _
      rw [h5]
      rfl⟩)
    have c11 : w3.cell? ⟨g, n * 12 + 11, none⟩ = some (.slice z.a z.n z.c) := at_zero hJb h3 (by omega) rfl
    have hdz := HC.out.2.2.2 z HG.out.2.2.1
    have hdl := own_lst encD_len (H3.out.bo.o.d z HG.out.2.2.1)
    have HF := Lib.hid (Drw.freeW_any w3 z.a z.n z.c z.t.draws hdl hdz.2 (by have := hdl.len; omega))
    clear hb3 h1 h2 h3 h4 h5 h6 hE0 hj hge hnn k5 q0 hJb hdz hdl
    go_wp2_with fail
    refine HF.out.mono ?_
    rintro e w4 ⟨v4, rfl, ho4, hb4⟩
    obtain ⟨la, lc, rfl, -, -, -, -⟩ := owns_row encG_len ho4
    have H4 := Lib.hid (H3.out.keep hb4)
    obtain ⟨⟨a1, a2⟩, ⟨b1, b2⟩, ⟨c1, c2⟩, ⟨d1, d2⟩, hbo, hbl⟩ := H4.out.bo.four HG.out.1 HG.out.2.1 (i1 := 7) (i2 := 8) (i3 := 9) (by omega) (by omega) (by omega) (fun x => { x with t := { x.t with state := 1 } }) (fun x => { x with t := { x.t with start := 0 } }) (fun x => { x with t := { x.t with mask := 0 } }) (.int .i64 1) (.int .i64 0) (.int .i64 0) (fun a => rfl) (fun a => rfl) (fun a => rfl) (fun x => ⟨rfl, rfl, rfl, rfl⟩) (fun x => ⟨rfl, rfl, rfl, rfl⟩) (fun x => ⟨rfl, rfl, rfl, rfl⟩) none 0 0 [] (owns_nil _ _ _)
    have HR := Lib.hid (And.intro hbo (H4.out.below.trans hbl))
    have HLo := Lib.hid (H4.out.bo.far4 HG.out.1 (by decide) (owns_le ho4 H3.out.below.size) (i1 := n * 12 + 7) (i2 := n * 12 + 8) (i3 := n * 12 + 9) (i4 := n * 12 + 11) (.int .i64 1) (.int .i64 0) (.int .i64 0) (.slice none 0 0))
    clear hbo hbl ho4 hb4 c11 p6 HF
    simp only [encJ, List.getElem?_cons_zero, List.getElem?_cons_succ] at a1 b1 c1
    go_wp2_with fail
    go_ret2
    exact ⟨_, la, _, lc, by rw [HES.out.1]; rfl, (fun _ => ⟨by rw [HES.out.2.1]; exact set_t, HR.out.1, by rw [HES.out.2.2]; exact HLo.out⟩), HR.out.2⟩
end Go.Proofs.YtjcndgopijpibaaGreat.Bok
/- Book, the landed: TxRefund, whole. -/
namespace Go.Proofs.YtjcndgopijpibaaGreat.Bok
set_option maxRecDepth 100000
open Go.RowKit
open Go.Sort
open Kit
open Foot
open Tre (Lst inI lst_keep lst_at lst_new lst_none encF encF_len encL_len IntsL goodB)
open Led (Lg encG encG_len)
open Job (Jb Jv Jobs encJ encJ_len encJ_one findI)
open Drw (Dw Draws encD encD_len encD_one)
open Go.Proofs.YtjcndgopijpibaaGreat.Ord (ts)
open Snp (Sn Sv encK encK_len encK_one)
set_option linter.unusedVariables false
variable {w w' W0 W : World} {B : Nat}
set_option maxHeartbeats 16000000 in
theorem refund_any (y : Sv) (hc : Cal W0 W B y) (hds : Dist y) (hn : y.jobs.length ≤ 16) (hdr : ∀ x ∈ y.jobs, x.t.draws.length ≤ 16 ∧ ∀ d ∈ x.t.draws, Drw.Near d) (sq tm kd : Int) (ky nm : ByteArray) (aa ga : Option Addr) (cp gn gc : Nat) (p0 p1 : Int) (hp : inI p1) (hA : IntsL W aa 2 cp [p0, p1]) :
    Calls Tryz.prog 76 #[.pointer (some ⟨B, 0, none⟩), .agg #[.int .i64 sq, .int .i64 tm, .int .i64 kd, .string ky, .string nm, .slice aa 2 cp, .slice ga gn gc]] W (LegP W0 B (jobsE y.t 13 tm [p0, p1]) (jobsS y.t 13 tm [p0, p1]) (jobsL y.t 13 tm [p0, p1])) := by
  obtain ⟨ba, oa, rfl⟩ := lst_at hA (by omega)
  obtain ⟨E, hE⟩ : ∃ E, E = jobsE y.t 13 tm [p0, p1] := ⟨_, rfl⟩
  obtain ⟨S, hS⟩ : ∃ S, S = jobsS y.t 13 tm [p0, p1] := ⟨_, rfl⟩
  obtain ⟨L, hL⟩ : ∃ L, L = jobsL y.t 13 tm [p0, p1] := ⟨_, rfl⟩
  rw [← hE, ← hS, ← hL]
  have hj := jobs_cases y 13 tm [p0, p1] [4] (fun st => by show decide (st = 4) = _; by_cases h : st = 4 <;> simp [h])
  rw [← hE] at hj
  have hba := below_alloc W (.cells #[.int .i64 sq, .int .i64 tm, .int .i64 kd, .string ky, .string nm, .slice (some ⟨ba, oa, none⟩) 2 cp, .slice ga gn gc] 34)
  have htb := tx_box W sq tm kd ky nm (some ⟨ba, oa, none⟩) ga 2 cp gn gc
  obtain ⟨wa, hwa⟩ : ∃ z, z = W.alloc (.cells #[.int .i64 sq, .int .i64 tm, .int .i64 kd, .string ky, .string nm, .slice (some ⟨ba, oa, none⟩) 2 cp, .slice ga gn gc] 34) := ⟨_, rfl⟩
  rw [← hwa] at htb hba
  have HWa := Lib.hid hwa
  have hA2 := lst_keep Tre.encI_len hA hba
  have k5 : wa.cell? ⟨W.heap.size, 5, none⟩ = some (.slice (some ⟨ba, oa, none⟩) 2 cp) := Arr.blk_cell htb 5
  have hca := hc.keep hba
  have HBo := Lib.hid hca
  have hgeW := Lib.hid hca.below.size
  have q0 : wa.cell? ⟨ba, oa, none⟩ = some (.int .i64 p0) := Tre.int_cell hA2 (k := 0) (by simp)
  have hbb := below_alloc wa (.cells #[.int .i64 4] 3)
  have hcb := hca.keep hbb
  have hSt : IntsL (wa.alloc (.cells #[.int .i64 4] 3)) (some ⟨wa.heap.size, 0, none⟩) 1 1 [4] := lst_new Tre.encI_len wa [4] _ _ _ 1 rfl rfl rfl (by omega)
  have HJ := Lib.hid (fun p E h => jobIn_any (wa.alloc (.cells #[.int .i64 4] 3)) B y.j.a y.j.n y.j.c y.jobs (own_lst encJ_len hcb.bo.o.j) (Arr.blk_cell hcb.bo.b 6) p0 (some ⟨wa.heap.size, 0, none⟩) 1 1 [4] hSt p E h)
  have HJc := Lib.hid hj
  have HTb := Lib.hid (And.intro (Arr.blk_alloc htb (.cells #[.int .i64 4] 3)) (lst_keep Tre.encI_len hA2 hbb))
  have HC := Lib.hid (And.intro hcb (And.intro (And.intro hS hL) (And.intro hn (And.intro hdr (And.intro hp hds)))))
  clear hj hE hS hL hn hdr hA hA2 hca htb hba hwa hc hbb hcb hSt hp hds
  go_enter Tryz.func76, Tryz.ntmps76
  go_upto_region 1 with fail
  rw [← HWa.out]
  go_wp2_with fail
  rcases HJc.out with ⟨p, h1, h2⟩ | ⟨n, z, h1, h2, h3, h4, h5, h6⟩
  · refine (HJ.out p E h1).mono ?_
    rintro e w3 ⟨rfl, hb3⟩
    have H3 := Lib.hid (HC.out.1.keep hb3)
    clear hb3 h1
    rcases h2 with rfl | rfl
    · go_wp2_with fail
      go_ret2
      exact ⟨y, none, 0, 0, rfl, (fun h => absurd h (by decide)), H3.out.below⟩
    · go_wp2_with fail
      go_ret2
      exact ⟨y, none, 0, 0, rfl, (fun h => absurd h (by decide)), H3.out.below⟩
  · skip
    refine (HJ.out (n : Int) 0 h1).mono ?_
    rintro e w3 ⟨rfl, hb3⟩
    have H3 := Lib.hid (HC.out.1.keep hb3)
    have hkl := (List.getElem?_eq_some_iff.1 h3).1
    obtain ⟨g, cap, hj, hge⟩ := H3.out.bo.at_j (by omega)
    obtain ⟨nn, hnn⟩ : ∃ n, n = y.jobs.length := ⟨_, rfl⟩
    rw [← hnn] at hj hkl
    have p6 : w3.cell? ⟨B, 6, none⟩ = some (.slice (some ⟨g, 0, none⟩) nn cap) := by
      rw [Arr.blk_cell H3.out.bo.b 6]
      show some (Value.slice y.j.a y.j.n y.j.c) = _
      rw [hj]
    have hJb : Jobs w3 (some ⟨g, 0, none⟩) nn cap y.jobs := by
      have := own_lst encJ_len H3.out.bo.o.j
      rw [hj] at this
      exact this
    have HG := Lib.hid (And.intro hj (And.intro h3 (And.intro (List.mem_of_getElem? h3) (Nat.le_refl 0))))
    have hsm : (n : Int) ≤ 100 := by have := HC.out.2.2.1; omega
    have HE := Lib.hid (show E = if p1 < 1 then 1 else Drw.chargeE z.t.draws p1 by rw [h6]; rfl)
    have HSL := Lib.hid (show S = { y.t with jobs := y.t.jobs.set n { z.t with draws := someD (restD (Drw.chargeL z.t.draws p1) z.t.draws) } } ∧ L = Drw.legsW (Drw.chargeL z.t.draws p1) (Drw.chargeL z.t.draws p1) 3 1 0 from ⟨by
      rw [HC.out.2.1.1, jobsS_at (by decide) h2 h5]
      rfl, by
      rw [HC.out.2.1.2]
      show jobL y.t 13 tm [p0, p1] (atJ y.t [p0, p1]) = _
      rw [h5]
      rfl⟩)
    have k5' : w3.cell? ⟨W.heap.size, 5, none⟩ = some (.slice (some ⟨ba, oa, none⟩) 2 cp) := cell_keep hb3 (Arr.blk_cell HTb.out.1 5)
    have q1' : w3.cell? ⟨ba, oa + 1, none⟩ = some (.int .i64 p1) := cell_keep hb3 (Tre.int_cell HTb.out.2 (k := 1) (by simp))
    clear hb3 h1 h2 h3 h4 h5 h6 hge hnn k5 q0 hJb hj
    go_wp2_with fail
    go_big_quiet (fail)
    generalize hw2 : World.drewN w3 _ = w5
    have hq2 : Below w3.heap.size w3 w5 := by rw [← hw2]; exact Tre.below_drewN' _ _
    have H5 := Lib.hid (H3.out.keep hq2)
    clear hw2 hq2 k5' q1' p6
    by_cases h0 : p1 < 1
    · have hE1 : E = 1 := by rw [HE.out, if_pos h0]
      subst hE1
      go_wp2_with fail
      go_ret2
      exact ⟨y, none, 0, 0, rfl, (fun h => absurd h (by decide)), H5.out.below⟩
    have HE2 := Lib.hid (show E = Drw.chargeE z.t.draws p1 by rw [HE.out, if_neg h0])
    have hJ5 : Jobs w5 (some ⟨g, 0, none⟩) nn cap y.jobs := by
      have := own_lst encJ_len H5.out.bo.o.j
      rw [HG.out.1] at this
      exact this
    have c11 : w5.cell? ⟨g, n * 12 + 11, none⟩ = some (.slice z.a z.n z.c) := at_zero hJ5 HG.out.2.1 (by omega) rfl
    have hdz := HC.out.2.2.2.1 z HG.out.2.2.1
    have hdl := own_lst encD_len (H5.out.bo.o.d z HG.out.2.2.1)
    have HCh := Lib.hid (Drw.charge_own z.a z.n z.c z.t.draws p1 w5 hdl (by have := hdl.len; omega) (fun d hd => near_ok (hdz.2 d hd)) HC.out.2.2.2.2.1)
    clear HE hdz hdl hJ5
    go_wp2_with fail
    refine HCh.out.mono ?_
    rintro e w6 ⟨v6, rfl, ho6, hb6⟩
    obtain ⟨ca, cc, rfl, -, -, -, -⟩ := owns_row encD_len ho6
    obtain ⟨cl, hcl⟩ : ∃ q, q = (Drw.chargeL z.t.draws p1).length := ⟨_, rfl⟩
    rw [← hcl] at ho6
    rw [← HE2.out, ← hcl]
    have H6 := Lib.hid (And.intro (H5.out.keep hb6) (And.intro ho6 hb6))
    clear hb6 HCh ho6 c11
    by_cases hE0 : E = 0
    rotate_left
    · have hcb : (E == 0) = false := beq_false_of_ne hE0
      have HCe := Lib.hid hE0
      clear hcl
      go_wp2_with fail
      go_ret2
      exact ⟨y, none, 0, 0, rfl, (fun h => absurd h HCe.out), H6.out.1.below⟩
    have hch0 : Drw.chargeE z.t.draws p1 = 0 := by rw [← HE2.out]; exact hE0
    subst hE0
    have hmem := chargeL_mem hch0
    have hdz := HC.out.2.2.2.1 z HG.out.2.2.1
    obtain ⟨R, hR⟩ : ∃ R, R = restD (Drw.chargeL z.t.draws p1) z.t.draws := ⟨_, rfl⟩
    have hRl : R.length = z.t.draws.length := by rw [hR]; unfold restD; rw [List.length_zipWith, hmem.1, Nat.min_self]
    have HR0 := Lib.hid (And.intro hR (And.intro hRl (And.intro hmem (And.intro hdz (And.intro hcl hch0)))))
    have hcl16 : cl ≤ 16 := by rw [hcl, hmem.1]; exact hdz.1
    clear hmem hdz hR hRl hcl hch0 h0
    go_wp2_with fail
    go_loopw [52] (fun i wr => ∃ k : Nat, k ≤ cl ∧ i = .int .i64 (k : Nat) ∧ Owns encD 2 63 wr W0.heap.size (.slice z.a z.n z.c) (R.take k ++ z.t.draws.drop k) ∧ Chg (fun q => some q = (Value.slice z.a z.n z.c).ownBlock) w6 wr) (fun i _ => cl - (intOf i).toNat)
    case atStart => exact ⟨0, Nat.zero_le _, rfl, by rw [List.take_zero, List.drop_zero, List.nil_append]; exact H6.out.1.bo.o.d z HG.out.2.2.1, chg_refl _ _⟩
    case round =>
      obtain ⟨k, hk, rfl, hown, hch⟩ := hrel
      have HO := Lib.hid (And.intro hown hch)
      have hboK := H6.out.1.bo.setD HC.out.2.2.2.2.2 HG.out.2.1 hown hch
      have HBK := Lib.hid hboK
      clear hown hch hboK
      by_cases hlt : k < cl
      · have hlti : (k : Int) < (cl : Int) := by omega
        have hkc : k < (Drw.chargeL z.t.draws p1).length := by rw [← HR0.out.2.2.2.2.1]; exact hlt
        have hkd : k < z.t.draws.length := by rw [← HR0.out.2.2.1.1]; exact hkc
        obtain ⟨gd, dcap, hv, hgd, hcap, hmx⟩ := owns_at encD_len HO.out.1 (by rw [List.length_append, List.length_take, List.length_drop, HR0.out.2.1]; omega)
        injection hv with ea en ec
        obtain ⟨dn, hdn⟩ : ∃ q, q = z.n := ⟨_, rfl⟩
        obtain ⟨dc, hdc⟩ : ∃ q, q = z.c := ⟨_, rfl⟩
        have hDkl : (R.take k ++ z.t.draws.drop k).length = dn := by rw [hdn]; exact en.symm
        have hDkl2 : dn = z.t.draws.length := by rw [← hDkl, List.length_append, List.length_take, List.length_drop, HR0.out.2.1]; omega
        have hod : Owns encD 2 63 wr W0.heap.size (.slice (some ⟨gd, 0, none⟩) dn dc) (R.take k ++ z.t.draws.drop k) := by
          have := HO.out.1
          rw [ea, ← hdn, ← hdc] at this
          exact this
        obtain ⟨cb, ccap, hcv, hcg, -, -⟩ := owns_at encD_len H6.out.2.1 (by omega)
        injection hcv with ec1 ec2 ec3
        subst ec1
        have hback := own_chg HO.out.2 H6.out.2.1 (fun q hq e => by
          have l1 := (World.ownsRow.lt H6.out.2.1 q hq).1
          have l2 := (World.ownsRow.lt (H5.out.bo.o.d z HG.out.2.2.1) q e.symm).2
          omega)
        obtain ⟨q0, q1⟩ := Drw.draw_cells (own_lst encD_len hback) hkc
        simp only [Nat.zero_add] at q0 q1
        obtain ⟨hgx, hsw⟩ := swap_step (R := R) (ds := z.t.draws) hkd HR0.out.2.1
        have hyx := HR0.out.2.2.1.2.2 k (Drw.chargeL z.t.draws p1)[k] (List.getElem?_eq_getElem hkc)
        have hRk : R[k]'(by rw [HR0.out.2.1]; exact hkd) = ⟨(Drw.chargeL z.t.draws p1)[k].alloc, wrap64 (z.t.draws[k].amt - (Drw.chargeL z.t.draws p1)[k].amt)⟩ := by
          have e := HR0.out.1
          subst e
          unfold restD
          rw [List.getElem_zipWith]
        rw [hRk] at hsw
        obtain ⟨xd, hxd, hal, hx0, hyl, hy0⟩ := hyx
        have hxe : xd = z.t.draws[k] := by rw [List.getElem?_eq_getElem hkd] at hxd; injection hxd with h; exact h.symm
        subst hxe
        have hnx := (HR0.out.2.2.2.1.2 _ (List.getElem_mem hkd)).2
        generalize (Drw.chargeL z.t.draws p1)[k] = yv at *
        generalize z.t.draws[k] = xv at *
        obtain ⟨y0, y1⟩ := yv
        obtain ⟨x0, x1⟩ := xv
        simp only at q0 q1 hal hx0 hyl hy0 hsw hgx hnx
        subst hal
        have hwr : wrap64 (x1 - y1) = x1 - y1 := Drw.wrap_in (by omega) (by have := hnx.2; omega)
        rw [hwr] at hsw
        obtain ⟨m1, m2, m3⟩ := owns_put encD_len hod hDkl hgx (i := 1) (by omega) (fun d => { d with amt := x1 - y1 }) (.int .i64 (x1 - y1)) (fun a => rfl)
        have m1' : wr.cell? ⟨gd, k * 2 + 1, none⟩ = some (.int .i64 x1) := m1
        have hb1 := below_alloc wr (.cells #[.int .i64 y0, .int .i64 y1] 63)
        have hbx : Arr.Blk (wr.alloc (.cells #[.int .i64 y0, .int .i64 y1] 63)) wr.heap.size 63 [.int .i64 y0, .int .i64 y1] := Arr.blk_new _ _ _ _ rfl
        obtain ⟨wb, hwb⟩ : ∃ q, q = wr.alloc (.cells #[.int .i64 y0, .int .i64 y1] 63) := ⟨_, rfl⟩
        rw [← hwb] at hb1 hbx
        have HWb := Lib.hid hwb
        have hod2 := Nest.own_on (Nest.own_on hod hb1) (below_drew wb)
        obtain ⟨u1, u2, u3⟩ := owns_put encD_len hod2 hDkl hgx (i := 1) (by omega) (fun d => { d with amt := x1 - y1 }) (.int .i64 (x1 - y1)) (fun a => rfl)
        have hsw2 : (R.take k ++ z.t.draws.drop k).set k { (⟨y0, x1⟩ : Dw) with amt := x1 - y1 } = R.take (k + 1) ++ z.t.draws.drop (k + 1) := hsw
        rw [hsw2] at u3
        have u3' : Owns encD 2 63 (wb.drew.setCell ⟨gd, k * 2 + 1, none⟩ (.int .i64 (x1 - y1))) W0.heap.size (.slice z.a z.n z.c) (R.take (k + 1) ++ z.t.draws.drop (k + 1)) := by rw [ea, ← hdn, ← hdc]; exact u3
        have HU := Lib.hid (And.intro u3' (chg_set (F := fun q => some q = (Value.slice z.a z.n z.c).ownBlock) (chg_drew (chg_trans HO.out.2 (new_chg hb1 (fun q => some q = (Value.slice z.a z.n z.c).ownBlock)) (fun x hx => .inl hx))) (b := gd) (.inl (by rw [ea]; rfl)) (k * 2 + 1) (.int .i64 (x1 - y1))))
        have HFz := Lib.hid u2
        have hzk : (y.jobs.set n { z with t := { z.t with draws := R.take k ++ z.t.draws.drop k } })[n]? = some { z with t := { z.t with draws := R.take k ++ z.t.draws.drop k } } := List.getElem?_set_self (List.getElem?_eq_some_iff.1 HG.out.2.1).1
        have hJk : Jobs wr (some ⟨g, 0, none⟩) nn cap (y.jobs.set n { z with t := { z.t with draws := R.take k ++ z.t.draws.drop k } }) := by
          have := own_lst encJ_len HBK.out.o.j
          rw [show ({ y with jobs := y.jobs.set n { z with t := { z.t with draws := R.take k ++ z.t.draws.drop k } } } : Sv).j = y.j from rfl, HG.out.1] at this
          exact this
        have c11 : wb.cell? ⟨g, n * 12 + 11, none⟩ = some (.slice (some ⟨gd, 0, none⟩) dn dc) := cell_keep hb1 (by
          have := at_zero hJk hzk (i := 11) (by omega) (u := .slice z.a z.n z.c) rfl
          rw [ea, ← hdn, ← hdc] at this
          exact this)
        have HQ := Lib.hid (show wb.cell? ⟨g, n * 12 + 11, none⟩ = some (.slice (some ⟨gd, 0, none⟩) dn dc) ∧ wb.cell? ⟨gd, k * 2 + 1, none⟩ = some (.int .i64 x1) ∧ wb.cell? ⟨wr.heap.size, 1, none⟩ = some (.int .i64 y1) from ⟨c11, cell_keep hb1 m1', Arr.blk_cell hbx 1⟩)
        have HK := Lib.hid (show k < dn by rw [hDkl2]; exact hkd)
        have HX := Lib.hid (show -9223372036854775808 ≤ x1 - y1 ∧ x1 - y1 ≤ 9223372036854775807 by have := hnx.2; omega)
        clear c11 hzk hJk u1 u2 u3 u3' hod2 hod hbx hb1 hwb m1' m1 m2 m3 hwr hnx hgx hsw hsw2 hx0 hyl hy0 hback hxd hRk hDkl hDkl2 ea en ec hgd hcap hmx hkd hkc hcg ec2 hdn hdc ec3
        go_upto_region 13 with fail
        rw [← HWb.out]
        clear q0 q1
        refine Chn.wp_region_chain (fun idx => match idx with | 0 => some (.pointer (some ⟨g, n * 12, none⟩)) | 1 => some (.pointer (some ⟨g, n * 12, none⟩)) | 2 => some (.pointer (some ⟨g, n * 12 + 11, none⟩)) | 3 => some (.slice (some ⟨gd, 0, none⟩) dn dc) | 4 => some (.int .i64 (k : Nat)) | 5 => some (.pointer (some ⟨gd, k * 2, none⟩)) | 6 => some (.pointer (some ⟨gd, k * 2 + 1, none⟩)) | 7 => some (.int .i64 x1) | 8 => some (.pointer (some ⟨wr.heap.size, 1, none⟩)) | 9 => some (.int .i64 y1) | 10 => some (.int .i64 (x1 - y1)) | 11 => some (.pointer (some ⟨gd, k * 2, none⟩)) | 12 => some (.pointer (some ⟨gd, k * 2 + 1, none⟩)) | _ => none) [13] (phiS wb gd (k * 2 + 1) (.int .i64 (x1 - y1))) (by kernel_rfl) (by kernel_rfl) (by kernel_rfl) (by kernel_rfl) (by kernel_rfl) (by decide) (by kernel_rfl) (rfl) ?_ ?_
        · refine ⟨?_, ?_, ?_, ?_, ?_, ?_, ?_, ?_, ?_, ?_, ?_, ?_, ?_, ?_, trivial⟩
          · intro a ww jj vs c hj0 hΦ
            have hj : jj ≤ 0 := Nat.le_trans hj0 (of_decide_eq_true (by kernel_rfl))
            refine .inl ⟨Rel.wanted_free (by kernel_rfl) _, ?_⟩
            exact Rel.wp_mv _ rfl ⟨congrArg (a.put _) (c.old 8 (v := .pointer (some ⟨g, n * 12, none⟩)) (by kernel_rfl) (by kernel_rfl)), rfl⟩
          · intro a ww jj vs c hj0 hΦ
            have hj : jj ≤ 0 := Nat.le_trans hj0 (of_decide_eq_true (by kernel_rfl))
            refine .inl ⟨Rel.wanted_free (by kernel_rfl) _, ?_⟩
            exact Chn.wp_nc _ rfl (c.get 0 57 (by kernel_rfl) rfl) ⟨rfl, rfl⟩
          · intro a ww jj vs c hj0 hΦ
            have hj : jj ≤ 0 := Nat.le_trans hj0 (of_decide_eq_true (by kernel_rfl))
            refine .inl ⟨Rel.wanted_free (by kernel_rfl) _, ?_⟩
            exact Chn.wp_fa _ _ _ rfl (c.get 1 58 (by kernel_rfl) rfl) (by simp [go_sem]) ⟨rfl, rfl⟩
          · intro a ww jj vs c hj0 hΦ
            have hj : jj ≤ 0 := Nat.le_trans hj0 (of_decide_eq_true (by kernel_rfl))
            refine .inl ⟨Rel.wanted_free (by kernel_rfl) _, ?_⟩
            exact Rel.wp_ld _ _ rfl (c.get 2 59 (by kernel_rfl) rfl) (run_ld_d (phiS_cell (by omega) hΦ HQ.out.1)) ⟨rfl, rfl⟩
          · intro a ww jj vs c hj0 hΦ
            have hj : jj ≤ 0 := Nat.le_trans hj0 (of_decide_eq_true (by kernel_rfl))
            refine .inl ⟨Rel.wanted_free (by kernel_rfl) _, ?_⟩
            exact Rel.wp_mv _ rfl ⟨congrArg (a.put _) (c.old 11 (v := .int .i64 (k : Nat)) (by kernel_rfl) (by kernel_rfl)), rfl⟩
          · intro a ww jj vs c hj0 hΦ
            have hj : jj ≤ 0 := Nat.le_trans hj0 (of_decide_eq_true (by kernel_rfl))
            refine .inl ⟨Rel.wanted_free (by kernel_rfl) _, ?_⟩
            exact Rel.wp_ia _ _ _ rfl (c.get 3 60 (by kernel_rfl) rfl) (c.get 4 61 (by kernel_rfl) rfl) (run_ia_d HK.out ww) ⟨rfl, rfl⟩
          · intro a ww jj vs c hj0 hΦ
            have hj : jj ≤ 0 := Nat.le_trans hj0 (of_decide_eq_true (by kernel_rfl))
            refine .inl ⟨Rel.wanted_free (by kernel_rfl) _, ?_⟩
            exact Chn.wp_fa _ _ _ rfl (c.get 5 62 (by kernel_rfl) rfl) (by simp [go_sem]) ⟨rfl, rfl⟩
          · intro a ww jj vs c hj0 hΦ
            have hj : jj ≤ 0 := Nat.le_trans hj0 (of_decide_eq_true (by kernel_rfl))
            refine .inl ⟨Rel.wanted_free (by kernel_rfl) _, ?_⟩
            exact Rel.wp_ld _ _ rfl (c.get 6 63 (by kernel_rfl) rfl) (run_ldI (phiS_cell (by omega) hΦ HQ.out.2.1)) ⟨rfl, rfl⟩
          · intro a ww jj vs c hj0 hΦ
            have hj : jj ≤ 0 := Nat.le_trans hj0 (of_decide_eq_true (by kernel_rfl))
            refine .inl ⟨Rel.wanted_free (by kernel_rfl) _, ?_⟩
            exact Chn.wp_fa _ _ _ rfl (c.old 12 (v := .pointer (some ⟨wr.heap.size, 0, none⟩)) (by kernel_rfl) (by kernel_rfl)) (by simp [go_sem]) ⟨rfl, rfl⟩
          · intro a ww jj vs c hj0 hΦ
            have hj : jj ≤ 0 := Nat.le_trans hj0 (of_decide_eq_true (by kernel_rfl))
            refine .inl ⟨Rel.wanted_free (by kernel_rfl) _, ?_⟩
            exact Rel.wp_ld _ _ rfl (c.get 8 65 (by kernel_rfl) rfl) (run_ldI (phiS_cell (by omega) hΦ HQ.out.2.2)) ⟨rfl, rfl⟩
          · intro a ww jj vs c hj0 hΦ
            have hj : jj ≤ 0 := Nat.le_trans hj0 (of_decide_eq_true (by kernel_rfl))
            refine .inl ⟨Rel.wanted_free (by kernel_rfl) _, ?_⟩
            exact Rel.wp_bo _ _ _ _ _ rfl (c.get 7 64 (by kernel_rfl) rfl) (c.get 9 66 (by kernel_rfl) rfl) (run_subB rfl HX.out _ _ ww) ⟨rfl, rfl⟩
          · intro a ww jj vs c hj0 hΦ
            have hj : jj ≤ 0 := Nat.le_trans hj0 (of_decide_eq_true (by kernel_rfl))
            refine .inl ⟨Rel.wanted_free (by kernel_rfl) _, ?_⟩
            exact Rel.wp_ia _ _ _ rfl (c.get 3 60 (by kernel_rfl) rfl) (c.get 4 61 (by kernel_rfl) rfl) (run_ia_d HK.out ww) ⟨rfl, rfl⟩
          · intro a ww jj vs c hj0 hΦ
            have hj : jj ≤ 0 := Nat.le_trans hj0 (of_decide_eq_true (by kernel_rfl))
            refine .inl ⟨Rel.wanted_free (by kernel_rfl) _, ?_⟩
            exact Chn.wp_fa _ _ _ rfl (c.get 11 68 (by kernel_rfl) rfl) (by simp [go_sem]) ⟨rfl, rfl⟩
          · refine ⟨0, rfl, ?_⟩
            intro a ww c hΦ
            have h : (phiS wb gd (k * 2 + 1) (.int .i64 (x1 - y1))) 0 [] ww := hΦ
            clear hΦ
            refine ⟨Rel.wanted_free (by kernel_rfl) _, ?_⟩
            have hw : ww = wb.drew := h
            subst hw
            exact Chn.wp_st _ _ _ rfl (c.get 12 69 (by kernel_rfl) rfl) (c.get 10 67 (by kernel_rfl) rfl) (run_stI (u := .int .i64 x1) (cell_keep (below_drew wb) HQ.out.2.1) HFz.out) ⟨undef, rfl, rfl⟩
        intro a w9 hbase hroom hdef hΦ hV
        have h : (phiS wb gd (k * 2 + 1) (.int .i64 (x1 - y1))) 1 [undef] w9 := hΦ
        rw [Chn.act_puts [57, 58, 59, 60, 61, 62, 63, 64, 65, 66, 67, 68, 69] hbase hroom hdef (by kernel_rfl)]
        clear hbase hroom hdef hΦ hV
        simp only [List.foldl_cons, List.foldl_nil]
        generalize Rel.slot a 57 = u57 at *
        generalize Rel.slot a 58 = u58 at *
        generalize Rel.slot a 59 = u59 at *
        generalize Rel.slot a 60 = u60 at *
        generalize Rel.slot a 61 = u61 at *
        generalize Rel.slot a 62 = u62 at *
        generalize Rel.slot a 63 = u63 at *
        generalize Rel.slot a 64 = u64 at *
        generalize Rel.slot a 65 = u65 at *
        generalize Rel.slot a 66 = u66 at *
        generalize Rel.slot a 67 = u67 at *
        generalize Rel.slot a 68 = u68 at *
        generalize Rel.slot a 69 = u69 at *
        have hw9 : w9 = wb.drew.setCell ⟨gd, k * 2 + 1, none⟩ (.int .i64 (x1 - y1)) := h
        rw [← hw9] at HU
        clear h hw9
        go_wp2_with fail
        go_roundw
        case rel => exact ⟨k + 1, by omega, by go_num, HU.out.1, HU.out.2⟩
        case measure => simp [intOf]; omega
      · obtain rfl : k = cl := by omega
        have hni : ¬ (k : Int) < (k : Int) := by omega
        have hRe : R.take k ++ z.t.draws.drop k = R := by
          have e1 : k = z.t.draws.length := by rw [HR0.out.2.2.2.2.1, HR0.out.2.2.1.1]
          rw [List.take_of_length_le (by rw [HR0.out.2.1, ← e1]; exact Nat.le_refl _), List.drop_of_length_le (by rw [← e1]; exact Nat.le_refl _), List.append_nil]
        rw [hRe] at HO HBK
        have hzk : (y.jobs.set n { z with t := { z.t with draws := R } })[n]? = some { z with t := { z.t with draws := R } } := List.getElem?_set_self (List.getElem?_eq_some_iff.1 HG.out.2.1).1
        have hb6r : Below W0.heap.size w6 wr := chg_below HO.out.2 (fun q hq => (World.ownsRow.lt (H6.out.1.bo.o.d z HG.out.2.2.1) q hq.symm).1) H6.out.1.below.size
        have hJk : Jobs wr (some ⟨g, 0, none⟩) nn cap (y.jobs.set n { z with t := { z.t with draws := R } }) := by
          have := own_lst encJ_len HBK.out.o.j
          rw [show ({ y with jobs := y.jobs.set n { z with t := { z.t with draws := R } } } : Sv).j = y.j from rfl, HG.out.1] at this
          exact this
        have c11 : wr.cell? ⟨g, n * 12 + 11, none⟩ = some (.slice z.a z.n z.c) := at_zero hJk hzk (by omega) rfl
        have HTh := Lib.hid (thatAre_any wr W0.heap.size (.slice z.a z.n z.c) R HO.out.1 (Nat.le_trans H6.out.1.below.size hb6r.size) (by rw [HR0.out.2.1]; have := HR0.out.2.2.2.1.1; omega))
        clear hb6r hJk hRe hzk
        go_wp2_with fail
        refine HTh.out.mono ?_
        rintro e w8 ⟨v8, rfl, ho8, hc8⟩
        obtain ⟨ta, tc, rfl, -, -, -, -⟩ := owns_row encD_len ho8
        obtain ⟨tl, htl⟩ : ∃ q, q = (someD R).length := ⟨_, rfl⟩
        rw [← htl] at ho8 ⊢
        have hC68 := chg_trans HO.out.2 hc8 (fun x hx => .inl hx)
        obtain ⟨s1, s2, s3, s4⟩ := H6.out.1.bo.setDJ HC.out.2.2.2.2.2 HG.out.1 HG.out.2.1 hC68 ta tl tc (someD R) ho8
        have hback := own_chg hC68 H6.out.2.1 (fun q hq e => by
          have l1 := (World.ownsRow.lt H6.out.2.1 q hq).1
          have l2 := (World.ownsRow.lt (H5.out.bo.o.d z HG.out.2.2.1) q e.symm).2
          omega)
        have H9 := Lib.hid (And.intro s3 (H6.out.1.below.trans (s4 H6.out.1.below.size)))
        have hjw : Owns encJ 12 58 w6 W0.heap.size (.slice (some ⟨g, 0, none⟩) nn cap) y.jobs := by
          have := H6.out.1.bo.o.j
          rw [HG.out.1] at this
          exact this
        obtain ⟨cur, hcur⟩ := own_type hjw (g := g) rfl
        have hbk9 := own_typed hback (set_chg w8 g (n * 12 + 11) (.slice ta tl tc)) (by
          have hj8 := own_typed hjw hC68 (typed_own (H6.out.1.bo.o.d z HG.out.2.2.1) (by decide))
          obtain ⟨cur8, hcur8⟩ := own_type hj8 (g := g) rfl
          exact typed_one hcur8 (by decide))
        have HBa := Lib.hid (Drw.backW_any _ ca k cc (Drw.chargeL z.t.draws p1) (own_lst encD_len hbk9) (near_charge HR0.out.2.2.2.2.2 HR0.out.2.2.2.1.2) (by omega))
        clear ho8 hc8 hC68 s3 s4 hback hjw hcur hbk9 htl HTh c11
        go_wp2_with fail
        refine HBa.out.mono ?_
        rintro e w10 ⟨v10, rfl, ho10, hb10⟩
        obtain ⟨la, lc, rfl, -, -, -, -⟩ := owns_row encG_len ho10
        have H10 := Lib.hid (And.intro (H9.out.1.keep hb10) (And.intro (below_keep H9.out.2 hb10) (owns_le ho10 H9.out.2.size)))
        clear ho10 hb10 HBa
        go_wp2_with fail
        go_ret2
        exact ⟨_, la, _, lc, rfl, (fun _ => ⟨by rw [HSL.out.1, ← HR0.out.1]; exact set_t, H10.out.1, by rw [HSL.out.2]; exact H10.out.2.2⟩), H10.out.2.1⟩
end Go.Proofs.YtjcndgopijpibaaGreat.Bok
