/- Common to the claims of this seat, part 39: texts that were written one by one, laid behind one another. -/
import Derived.Test.YtjcndgopijpibaaGreatPart21
import Derived.Test.YtjcndgopijpibaaGreatPart37
import Derived.Test.YtjcndgopijpibaaGreatPart38
/- Book, the landed: TxSubmit. -/
namespace Go.Proofs.YtjcndgopijpibaaGreat.Bok
set_option maxRecDepth 100000
open Go.RowKit
open Go.Sort
open Kit
open Foot
open Tre (Lst inI lst_keep lst_at lst_new lst_none encF encF_len encL_len IntsL goodB)
open Led (Lg encG encG_len)
open Job (Jb Jv Jobs encJ encJ_len encJ_one findI)
open Drw (Dw Draws encD encD_len encD_one)
open Go.Proofs.YtjcndgopijpibaaGreat.Ord (ts)
open Snp (Sn Sv encK encK_len encK_one)
set_option linter.unusedVariables false
variable {w w' W0 W : World} {B : Nat}
theorem run_ld_jl {w : World} {a : Addr} {b : Option Addr} {n c : Nat} (h : w.cell? a = some (.slice b n c)) : (Instr.loadAt 26 (.pointer (some a))).run Tryz.prog w = .ok (.slice b n c) w := by
  simp [go_sem, h]
theorem run_st_jl {w : World} {a : Addr} {u : Value} {b : Option Addr} {n c : Nat} (h : w.cell? a = some u) (hf : w.frozen? a = false) : (Instr.storeAt 26 (.pointer (some a)) (.slice b n c)).run Tryz.prog w = .ok () (w.setCell a (.slice b n c)) := by
  simp [go_sem, h, hf]
theorem run_bs_j1 (x0 x1 x2 x3 x4 x5 x6 : Int) (w : World) : (Instr.buildSlice 26 1 #[(0, .agg #[.int .i64 x0, .int .i64 x1, .int .i64 x2, .int .i64 x3, .int .i64 x4, .int .i64 x5, .int .i64 x6, .int .i64 1, .int .i64 0, .int .i64 0, .int .i64 0, .slice none 0 0])]).run Tryz.prog w = .ok (.slice (some ⟨w.heap.size, 0, none⟩) 1 1) (w.alloc (.cells #[.int .i64 x0, .int .i64 x1, .int .i64 x2, .int .i64 x3, .int .i64 x4, .int .i64 x5, .int .i64 x6, .int .i64 1, .int .i64 0, .int .i64 0, .int .i64 0, .slice none 0 0] 58)) := by
  simp [go_sem]
theorem bo_jn {base : Nat} {y y0 : Sv} {wa : World} {p0 p1 p2 p3 p4 p5 : Int} {vs : List Value} (h : Bo wa base B y) (hb : base ≤ wa.heap.size) (hp : phiB encJ 12 58 wa base (.slice y.j.a y.j.n y.j.c) y.jobs (nJ y0 p0 p1 p2 p3 p4 p5) B 6 3 vs w) :
    ∃ ax nx cx, Bo w base B (withJ y (nJ y0 p0 p1 p2 p3 p4 p5) ax nx cx) ∧ Below base wa w := by
  obtain ⟨ax, nx, cx, w3, h1, h2, rfl⟩ := hp
  have b3 := blk_typed h.b h2 (typed_own h.o.j (by decide))
  refine ⟨ax, nx, cx, ⟨Arr.blk_set b3 6 _, ⟨own_st b3 (own_typed h.o.f h2 (typed_own h.o.j (by decide))) (by decide) 6 _, own_st b3 (own_typed h.o.l h2 (typed_own h.o.j (by decide))) (by decide) 6 _, own_st b3 (own_typed h.o.r h2 (typed_own h.o.j (by decide))) (by decide) 6 _, own_st b3 h1 (by decide) 6 _, own_st b3 (own_typed h.o.k h2 (typed_own h.o.j (by decide))) (by decide) 6 _, fun x hx => ?_⟩, h.ge⟩, ?_⟩
  · rcases List.mem_append.1 hx with hx | hx
    · exact own_st b3 (own_typed (h.o.d x hx) h2 (typed_own h.o.j (by decide))) (by decide) 6 _
    · rw [List.mem_singleton] at hx
      subst hx
      exact owns_nil _ _ _
  · exact Arr.below_set (chg_below h2 (fun k hk => (World.ownsRow.lt h.o.j k hk.symm).1) hb) h.ge 6 _
theorem Bo.setN {base : Nat} {y : Sv} (h : Bo w base B y) (m : Int) : Bo (w.setCell ⟨B, 2, none⟩ (.int .i64 m)) base B { y with next := m } ∧ Below base w (w.setCell ⟨B, 2, none⟩ (.int .i64 m)) :=
  ⟨⟨Arr.blk_set h.b 2 _, ⟨(OwV.st h.b h.o 2 _).f, (OwV.st h.b h.o 2 _).l, (OwV.st h.b h.o 2 _).r, (OwV.st h.b h.o 2 _).j, (OwV.st h.b h.o 2 _).k, (OwV.st h.b h.o 2 _).d⟩, h.ge⟩, Arr.below_set (Below.refl base w) h.ge 2 _⟩
set_option maxHeartbeats 16000000 in
theorem submit_any (y : Sv) (hc : Cal W0 W B y) (hn : y.jobs.length ≤ 16) (hnx : inI (y.next + 1)) (sq tm kd : Int) (ky nm : ByteArray) (aa ga : Option Addr) (cp gn gc : Nat) (p0 p1 p2 p3 p4 p5 : Int) (hA : IntsL W aa 6 cp [p0, p1, p2, p3, p4, p5]) :
    Calls Tryz.prog 70 #[.pointer (some ⟨B, 0, none⟩), .agg #[.int .i64 sq, .int .i64 tm, .int .i64 kd, .string ky, .string nm, .slice aa 6 cp, .slice ga gn gc]] W (ErrP W0 B (submitE y.t [p0, p1, p2, p3, p4, p5]) (submitS y.t [p0, p1, p2, p3, p4, p5])) := by
  obtain ⟨ba, oa, rfl⟩ := lst_at hA (by omega)
  have hff : y.f.n = y.funds.length := (own_lst encF_len hc.bo.o.f).len.symm
  have hjn : y.j.n = y.jobs.length := (own_lst encJ_len hc.bo.o.j).len.symm
  obtain ⟨E, hE⟩ : ∃ E, E = submitE y.t [p0, p1, p2, p3, p4, p5] := ⟨_, rfl⟩
  obtain ⟨S, hS⟩ : ∃ S, S = submitS y.t [p0, p1, p2, p3, p4, p5] := ⟨_, rfl⟩
  rw [← hE, ← hS]
  obtain ⟨gb, hgb⟩ : ∃ b, b = Job.goodJ (newJ y.t [p0, p1, p2, p3, p4, p5]) := ⟨_, rfl⟩
  have HE := Lib.hid (show E = if 0 ≤ p0 ∧ p0 < (y.funds.length : Int) then (if gb = true then (if 16 ≤ y.t.jobs.length ∧ bestJ y.t.jobs = none then 14 else 0) else 1) else 4 by
    rw [hE, hgb]
    show (if inL y.funds p0 then (if Job.goodJ (newJ y.t [p0, p1, p2, p3, p4, p5]) then (if 16 ≤ y.t.jobs.length ∧ bestJ y.t.jobs = none then (14 : Int) else 0) else 1) else 4) = _
    unfold inL; simp only [decide_eq_true_eq])
  have HSu := Lib.hid (show S = { y.t with jobs := kept y.t.jobs ++ [newJ y.t [p0, p1, p2, p3, p4, p5]], next := y.next + 1 } by rw [hS]; rfl)
  have HGb := Lib.hid hgb
  have hba := below_alloc W (.cells #[.int .i64 sq, .int .i64 tm, .int .i64 kd, .string ky, .string nm, .slice (some ⟨ba, oa, none⟩) 6 cp, .slice ga gn gc] 34)
  have htb := tx_box W sq tm kd ky nm (some ⟨ba, oa, none⟩) ga 6 cp gn gc
  obtain ⟨wa, hwa⟩ : ∃ z, z = W.alloc (.cells #[.int .i64 sq, .int .i64 tm, .int .i64 kd, .string ky, .string nm, .slice (some ⟨ba, oa, none⟩) 6 cp, .slice ga gn gc] 34) := ⟨_, rfl⟩
  rw [← hwa] at htb hba
  have HWa := Lib.hid hwa
  have hA2 := lst_keep Tre.encI_len hA hba
  have k5 : wa.cell? ⟨W.heap.size, 5, none⟩ = some (.slice (some ⟨ba, oa, none⟩) 6 cp) := Arr.blk_cell htb 5
  have hca := hc.keep hba
  have HBo := Lib.hid hca
  have hgeW := Lib.hid hca.below.size
  have HQ := Lib.hid (show wa.cell? ⟨B, 2, none⟩ = some (.int .i64 y.next) ∧ wa.cell? ⟨ba, oa, none⟩ = some (.int .i64 p0) ∧ wa.cell? ⟨ba, oa + 1, none⟩ = some (.int .i64 p1) ∧ wa.cell? ⟨ba, oa + 2, none⟩ = some (.int .i64 p2) ∧ wa.cell? ⟨ba, oa + 3, none⟩ = some (.int .i64 p3) ∧ wa.cell? ⟨ba, oa + 4, none⟩ = some (.int .i64 p4) ∧ wa.cell? ⟨ba, oa + 5, none⟩ = some (.int .i64 p5) from ⟨Arr.blk_cell hca.bo.b 2, Tre.int_cell hA2 (k := 0) (by simp), Tre.int_cell hA2 (k := 1) (by simp), Tre.int_cell hA2 (k := 2) (by simp), Tre.int_cell hA2 (k := 3) (by simp), Tre.int_cell hA2 (k := 4) (by simp), Tre.int_cell hA2 (k := 5) (by simp)⟩)
  have HP := Lib.hid (And.intro hff (And.intro hjn (And.intro hn hnx)))
  clear hE hS hgb hA hA2 htb hba hwa hca hc hff hjn hn
  obtain ⟨hnx1, hnx2⟩ := hnx
  go_enter Tryz.func70, Tryz.ntmps70
  go_upto_region 1 with fail
  rw [← HWa.out]
  go_upto_region 2 with fail
  clear k5
  refine Chn.wp_region_chain (fun idx => match idx with | 0 => some (.pointer (some ⟨B, 0, none⟩)) | 1 => some (.pointer (some ⟨B, 0, none⟩)) | 2 => some (.pointer (some ⟨B, 2, none⟩)) | 3 => some (.int .i64 y.next) | 4 => some (.slice (some ⟨ba, oa, none⟩) 6 cp) | 5 => some (.pointer (some ⟨ba, oa, none⟩)) | 6 => some (.int .i64 p0) | 7 => some (.slice (some ⟨ba, oa, none⟩) 6 cp) | 8 => some (.pointer (some ⟨ba, oa + 1, none⟩)) | 9 => some (.int .i64 p1) | 10 => some (.slice (some ⟨ba, oa, none⟩) 6 cp) | 11 => some (.pointer (some ⟨ba, oa + 2, none⟩)) | 12 => some (.int .i64 p2) | 13 => some (.slice (some ⟨ba, oa, none⟩) 6 cp) | 14 => some (.pointer (some ⟨ba, oa + 3, none⟩)) | 15 => some (.int .i64 p3) | 16 => some (.slice (some ⟨ba, oa, none⟩) 6 cp) | 17 => some (.pointer (some ⟨ba, oa + 4, none⟩)) | 18 => some (.int .i64 p4) | 19 => some (.slice (some ⟨ba, oa, none⟩) 6 cp) | 20 => some (.pointer (some ⟨ba, oa + 5, none⟩)) | 21 => some (.int .i64 p5) | 22 => some (.agg #[.int .i64 y.next, .int .i64 p0, .int .i64 p1, .int .i64 p2, .int .i64 p3, .int .i64 p4, .int .i64 p5, .int .i64 1, .int .i64 0, .int .i64 0, .int .i64 0, .slice none 0 0]) | _ => none) [23, 24] (phiJ wa #[.int .i64 y.next, .int .i64 p0, .int .i64 p1, .int .i64 p2, .int .i64 p3, .int .i64 p4, .int .i64 p5, .int .i64 1, .int .i64 0, .int .i64 0, .int .i64 0, .slice none 0 0]) (by kernel_rfl) (by kernel_rfl) (by kernel_rfl) (by kernel_rfl) (by kernel_rfl) (by decide) (by kernel_rfl) (rfl) ?_ ?_
  · refine ⟨?_, ?_, ?_, ?_, ?_, ?_, ?_, ?_, ?_, ?_, ?_, ?_, ?_, ?_, ?_, ?_, ?_, ?_, ?_, ?_, ?_, ?_, ?_, ?_, ?_, trivial⟩
    · intro a ww jj vs c hj0 hΦ
      have hj : jj ≤ 1 := Nat.le_trans hj0 (of_decide_eq_true (by kernel_rfl))
      refine .inl ⟨Rel.wanted_free (by kernel_rfl) _, ?_⟩
      exact Rel.wp_mv _ rfl ⟨congrArg (a.put _) (c.old 0 (v := .pointer (some ⟨B, 0, none⟩)) (by kernel_rfl) (by kernel_rfl)), rfl⟩
    · intro a ww jj vs c hj0 hΦ
      have hj : jj ≤ 1 := Nat.le_trans hj0 (of_decide_eq_true (by kernel_rfl))
      refine .inl ⟨Rel.wanted_free (by kernel_rfl) _, ?_⟩
      exact Chn.wp_nc _ rfl (c.get 0 10 (by kernel_rfl) rfl) ⟨rfl, rfl⟩
    · intro a ww jj vs c hj0 hΦ
      have hj : jj ≤ 1 := Nat.le_trans hj0 (of_decide_eq_true (by kernel_rfl))
      refine .inl ⟨Rel.wanted_free (by kernel_rfl) _, ?_⟩
      exact Chn.wp_fa _ _ _ rfl (c.get 1 11 (by kernel_rfl) rfl) (by simp [go_sem]) ⟨rfl, rfl⟩
    · intro a ww jj vs c hj0 hΦ
      have hj : jj ≤ 1 := Nat.le_trans hj0 (of_decide_eq_true (by kernel_rfl))
      refine .inl ⟨Rel.wanted_free (by kernel_rfl) _, ?_⟩
      exact Rel.wp_ld _ _ rfl (c.get 2 12 (by kernel_rfl) rfl) (run_ldI (phiJ_cell (by omega) hΦ HQ.out.1)) ⟨rfl, rfl⟩
    · intro a ww jj vs c hj0 hΦ
      have hj : jj ≤ 1 := Nat.le_trans hj0 (of_decide_eq_true (by kernel_rfl))
      refine .inl ⟨Rel.wanted_free (by kernel_rfl) _, ?_⟩
      exact Rel.wp_mv _ rfl ⟨congrArg (a.put _) (c.old 5 (v := .slice (some ⟨ba, oa, none⟩) 6 cp) (by kernel_rfl) (by kernel_rfl)), rfl⟩
    · intro a ww jj vs c hj0 hΦ
      have hj : jj ≤ 1 := Nat.le_trans hj0 (of_decide_eq_true (by kernel_rfl))
      refine .inl ⟨Rel.wanted_free (by kernel_rfl) _, ?_⟩
      exact Rel.wp_ia _ _ _ rfl (c.get 4 14 (by kernel_rfl) rfl) rfl (run_iaN 0 (by omega) ww) ⟨rfl, rfl⟩
    · intro a ww jj vs c hj0 hΦ
      have hj : jj ≤ 1 := Nat.le_trans hj0 (of_decide_eq_true (by kernel_rfl))
      refine .inl ⟨Rel.wanted_free (by kernel_rfl) _, ?_⟩
      exact Rel.wp_ld _ _ rfl (c.get 5 15 (by kernel_rfl) rfl) (run_ldI (phiJ_cell (by omega) hΦ HQ.out.2.1)) ⟨rfl, rfl⟩
    · intro a ww jj vs c hj0 hΦ
      have hj : jj ≤ 1 := Nat.le_trans hj0 (of_decide_eq_true (by kernel_rfl))
      refine .inl ⟨Rel.wanted_free (by kernel_rfl) _, ?_⟩
      exact Rel.wp_mv _ rfl ⟨congrArg (a.put _) (c.old 5 (v := .slice (some ⟨ba, oa, none⟩) 6 cp) (by kernel_rfl) (by kernel_rfl)), rfl⟩
    · intro a ww jj vs c hj0 hΦ
      have hj : jj ≤ 1 := Nat.le_trans hj0 (of_decide_eq_true (by kernel_rfl))
      refine .inl ⟨Rel.wanted_free (by kernel_rfl) _, ?_⟩
      exact Rel.wp_ia _ _ _ rfl (c.get 7 17 (by kernel_rfl) rfl) rfl (run_iaN 1 (by omega) ww) ⟨rfl, rfl⟩
    · intro a ww jj vs c hj0 hΦ
      have hj : jj ≤ 1 := Nat.le_trans hj0 (of_decide_eq_true (by kernel_rfl))
      refine .inl ⟨Rel.wanted_free (by kernel_rfl) _, ?_⟩
      exact Rel.wp_ld _ _ rfl (c.get 8 18 (by kernel_rfl) rfl) (run_ldI (phiJ_cell (by omega) hΦ HQ.out.2.2.1)) ⟨rfl, rfl⟩
    · intro a ww jj vs c hj0 hΦ
      have hj : jj ≤ 1 := Nat.le_trans hj0 (of_decide_eq_true (by kernel_rfl))
      refine .inl ⟨Rel.wanted_free (by kernel_rfl) _, ?_⟩
      exact Rel.wp_mv _ rfl ⟨congrArg (a.put _) (c.old 5 (v := .slice (some ⟨ba, oa, none⟩) 6 cp) (by kernel_rfl) (by kernel_rfl)), rfl⟩
    · intro a ww jj vs c hj0 hΦ
      have hj : jj ≤ 1 := Nat.le_trans hj0 (of_decide_eq_true (by kernel_rfl))
      refine .inl ⟨Rel.wanted_free (by kernel_rfl) _, ?_⟩
      exact Rel.wp_ia _ _ _ rfl (c.get 10 20 (by kernel_rfl) rfl) rfl (run_iaN 2 (by omega) ww) ⟨rfl, rfl⟩
    · intro a ww jj vs c hj0 hΦ
      have hj : jj ≤ 1 := Nat.le_trans hj0 (of_decide_eq_true (by kernel_rfl))
      refine .inl ⟨Rel.wanted_free (by kernel_rfl) _, ?_⟩
      exact Rel.wp_ld _ _ rfl (c.get 11 21 (by kernel_rfl) rfl) (run_ldI (phiJ_cell (by omega) hΦ HQ.out.2.2.2.1)) ⟨rfl, rfl⟩
    · intro a ww jj vs c hj0 hΦ
      have hj : jj ≤ 1 := Nat.le_trans hj0 (of_decide_eq_true (by kernel_rfl))
      refine .inl ⟨Rel.wanted_free (by kernel_rfl) _, ?_⟩
      exact Rel.wp_mv _ rfl ⟨congrArg (a.put _) (c.old 5 (v := .slice (some ⟨ba, oa, none⟩) 6 cp) (by kernel_rfl) (by kernel_rfl)), rfl⟩
    · intro a ww jj vs c hj0 hΦ
      have hj : jj ≤ 1 := Nat.le_trans hj0 (of_decide_eq_true (by kernel_rfl))
      refine .inl ⟨Rel.wanted_free (by kernel_rfl) _, ?_⟩
      exact Rel.wp_ia _ _ _ rfl (c.get 13 23 (by kernel_rfl) rfl) rfl (run_iaN 3 (by omega) ww) ⟨rfl, rfl⟩
    · intro a ww jj vs c hj0 hΦ
      have hj : jj ≤ 1 := Nat.le_trans hj0 (of_decide_eq_true (by kernel_rfl))
      refine .inl ⟨Rel.wanted_free (by kernel_rfl) _, ?_⟩
      exact Rel.wp_ld _ _ rfl (c.get 14 24 (by kernel_rfl) rfl) (run_ldI (phiJ_cell (by omega) hΦ HQ.out.2.2.2.2.1)) ⟨rfl, rfl⟩
    · intro a ww jj vs c hj0 hΦ
      have hj : jj ≤ 1 := Nat.le_trans hj0 (of_decide_eq_true (by kernel_rfl))
      refine .inl ⟨Rel.wanted_free (by kernel_rfl) _, ?_⟩
      exact Rel.wp_mv _ rfl ⟨congrArg (a.put _) (c.old 5 (v := .slice (some ⟨ba, oa, none⟩) 6 cp) (by kernel_rfl) (by kernel_rfl)), rfl⟩
    · intro a ww jj vs c hj0 hΦ
      have hj : jj ≤ 1 := Nat.le_trans hj0 (of_decide_eq_true (by kernel_rfl))
      refine .inl ⟨Rel.wanted_free (by kernel_rfl) _, ?_⟩
      exact Rel.wp_ia _ _ _ rfl (c.get 16 26 (by kernel_rfl) rfl) rfl (run_iaN 4 (by omega) ww) ⟨rfl, rfl⟩
    · intro a ww jj vs c hj0 hΦ
      have hj : jj ≤ 1 := Nat.le_trans hj0 (of_decide_eq_true (by kernel_rfl))
      refine .inl ⟨Rel.wanted_free (by kernel_rfl) _, ?_⟩
      exact Rel.wp_ld _ _ rfl (c.get 17 27 (by kernel_rfl) rfl) (run_ldI (phiJ_cell (by omega) hΦ HQ.out.2.2.2.2.2.1)) ⟨rfl, rfl⟩
    · intro a ww jj vs c hj0 hΦ
      have hj : jj ≤ 1 := Nat.le_trans hj0 (of_decide_eq_true (by kernel_rfl))
      refine .inl ⟨Rel.wanted_free (by kernel_rfl) _, ?_⟩
      exact Rel.wp_mv _ rfl ⟨congrArg (a.put _) (c.old 5 (v := .slice (some ⟨ba, oa, none⟩) 6 cp) (by kernel_rfl) (by kernel_rfl)), rfl⟩
    · intro a ww jj vs c hj0 hΦ
      have hj : jj ≤ 1 := Nat.le_trans hj0 (of_decide_eq_true (by kernel_rfl))
      refine .inl ⟨Rel.wanted_free (by kernel_rfl) _, ?_⟩
      exact Rel.wp_ia _ _ _ rfl (c.get 19 29 (by kernel_rfl) rfl) rfl (run_iaN 5 (by omega) ww) ⟨rfl, rfl⟩
    · intro a ww jj vs c hj0 hΦ
      have hj : jj ≤ 1 := Nat.le_trans hj0 (of_decide_eq_true (by kernel_rfl))
      refine .inl ⟨Rel.wanted_free (by kernel_rfl) _, ?_⟩
      exact Rel.wp_ld _ _ rfl (c.get 20 30 (by kernel_rfl) rfl) (run_ldI (phiJ_cell (by omega) hΦ HQ.out.2.2.2.2.2.2)) ⟨rfl, rfl⟩
    · intro a ww jj vs c hj0 hΦ
      have hj : jj ≤ 1 := Nat.le_trans hj0 (of_decide_eq_true (by kernel_rfl))
      refine .inl ⟨Rel.wanted_free (by kernel_rfl) _, ?_⟩
      exact wp_bd8J _ _ _ _ _ _ _ _ _ rfl (c.get 3 13 (by kernel_rfl) rfl) (c.get 6 16 (by kernel_rfl) rfl) (c.get 9 19 (by kernel_rfl) rfl) (c.get 12 22 (by kernel_rfl) rfl) (c.get 15 25 (by kernel_rfl) rfl) (c.get 18 28 (by kernel_rfl) rfl) (c.get 21 31 (by kernel_rfl) rfl) rfl (run_bd_j _ _ _ _ _ _ _ _) ⟨rfl, rfl⟩
    · refine ⟨0, rfl, ?_⟩
      intro a ww c hΦ
      have h : (phiJ wa #[.int .i64 y.next, .int .i64 p0, .int .i64 p1, .int .i64 p2, .int .i64 p3, .int .i64 p4, .int .i64 p5, .int .i64 1, .int .i64 0, .int .i64 0, .int .i64 0, .slice none 0 0]) 0 [] ww := hΦ
      clear hΦ
      refine ⟨Rel.wanted_free (by kernel_rfl) _, ?_⟩
      have hw : ww = wa.drew := h
      subst hw
      exact wp_alJ _ rfl (run_alloc_jb _) ⟨_, rfl, rfl, rfl⟩
    · refine ⟨1, rfl, ?_⟩
      intro a ww c hΦ
      have h : (phiJ wa #[.int .i64 y.next, .int .i64 p0, .int .i64 p1, .int .i64 p2, .int .i64 p3, .int .i64 p4, .int .i64 p5, .int .i64 1, .int .i64 0, .int .i64 0, .int .i64 0, .slice none 0 0]) 1 [Rel.slot a 6] ww := hΦ
      clear hΦ
      refine ⟨Rel.wanted_free (by kernel_rfl) _, ?_⟩
      obtain ⟨hu, hw⟩ := h
      exact Chn.wp_st _ _ _ rfl hu (c.get 22 32 (by kernel_rfl) rfl) (by rw [hw]; exact run_st_jb _ _ _ _ _ _ _ wa.drew) ⟨undef, rfl, hu, rfl⟩
  intro a w1 hbase hroom hdef hΦ hV
  have h : (phiJ wa #[.int .i64 y.next, .int .i64 p0, .int .i64 p1, .int .i64 p2, .int .i64 p3, .int .i64 p4, .int .i64 p5, .int .i64 1, .int .i64 0, .int .i64 0, .int .i64 0, .slice none 0 0]) 2 [Rel.slot a 6, undef] w1 := hΦ
  rw [Chn.act_puts [10, 11, 12, 13, 14, 15, 16, 17, 18, 19, 20, 21, 22, 23, 24, 25, 26, 27, 28, 29, 30, 31, 32, 6] hbase hroom hdef (by kernel_rfl)]
  clear hbase hroom hdef hΦ hV
  simp only [List.foldl_cons, List.foldl_nil]
  generalize Rel.slot a 10 = u10 at *
  generalize Rel.slot a 11 = u11 at *
  generalize Rel.slot a 12 = u12 at *
  generalize Rel.slot a 13 = u13 at *
  generalize Rel.slot a 14 = u14 at *
  generalize Rel.slot a 15 = u15 at *
  generalize Rel.slot a 16 = u16 at *
  generalize Rel.slot a 17 = u17 at *
  generalize Rel.slot a 18 = u18 at *
  generalize Rel.slot a 19 = u19 at *
  generalize Rel.slot a 20 = u20 at *
  generalize Rel.slot a 21 = u21 at *
  generalize Rel.slot a 22 = u22 at *
  generalize Rel.slot a 23 = u23 at *
  generalize Rel.slot a 24 = u24 at *
  generalize Rel.slot a 25 = u25 at *
  generalize Rel.slot a 26 = u26 at *
  generalize Rel.slot a 27 = u27 at *
  generalize Rel.slot a 28 = u28 at *
  generalize Rel.slot a 29 = u29 at *
  generalize Rel.slot a 30 = u30 at *
  generalize Rel.slot a 31 = u31 at *
  generalize Rel.slot a 32 = u32 at *
  generalize Rel.slot a 6 = u6 at *
  obtain ⟨e1, hw1⟩ := h
  subst e1
  have hbw : Below wa.heap.size wa w1 := by rw [hw1]; exact below_keep (below_drew wa) (below_alloc _ _)
  have hgb : Arr.Blk w1 wa.heap.size 58 (encJ (nJ y p0 p1 p2 p3 p4 p5)) := by rw [hw1]; exact Arr.blk_new wa.drew _ _ _ rfl
  have H1 := Lib.hid (And.intro (HBo.out.keep hbw) hgb)
  have g1 : w1.cell? ⟨wa.heap.size, 1, none⟩ = some (.int .i64 p0) := Arr.blk_cell hgb 1
  have p3' : w1.cell? ⟨B, 3, none⟩ = some (.slice y.f.a y.f.n y.f.c) := Arr.blk_cell H1.out.1.bo.b 3
  clear hbw hgb hw1
  by_cases hin : 0 ≤ p0 ∧ p0 < (y.f.n : Int)
  rotate_left
  · have HI := Lib.hid (isFund_any w1 B y.f.a y.f.n y.f.c p0 false p3' ⟨(fun h => by cases h), fun h => absurd h hin⟩)
    have HE2 := Lib.hid (show E = 4 by rw [HE.out, if_neg (by rw [← HP.out.1]; exact hin)])
    clear hin p3'
    go_wp2_with fail
    refine HI.out.mono ?_
    rintro e w3 ⟨rfl, h3⟩
    subst h3
    go_wp2_with fail
    go_ret
    exact ⟨y, by rw [HE2.out]; rfl, (fun h => by rw [HE2.out] at h; exact absurd h (by decide)), H1.out.1.below⟩
  have HI := Lib.hid (isFund_any w1 B y.f.a y.f.n y.f.c p0 true p3' ⟨fun _ => hin, fun _ => rfl⟩)
  have HE1 := Lib.hid (show E = if gb = true then (if 16 ≤ y.t.jobs.length ∧ bestJ y.t.jobs = none then 14 else 0) else 1 by rw [HE.out, if_pos (by rw [← HP.out.1]; exact hin)])
  have HGd := Lib.hid (show Calls Tryz.prog 95 #[.agg (encJ (nJ y p0 p1 p2 p3 p4 p5)).toArray] w1 fun e w' => e = .returned (.bool gb) ∧ Below w1.heap.size w1 w' by
    rw [HGb.out]
    exact Job.good_any (nJ y p0 p1 p2 p3 p4 p5) w1 (lst_none encD 2 w1))
  clear hin p3' HE
  go_wp2_with fail
  refine HI.out.mono ?_
  rintro e w3 ⟨rfl, h3⟩
  subst h3
  go_upto_region 5 with fail
  clear g1
  go_wp2_with (first | (refine Arr.wpList_load_blk rfl 58 (.tmp 6) rfl wa.heap.size rfl (encJ (nJ y p0 p1 p2 p3 p4 p5)) 58 H1.out.2 _ Tryz.underlying58 rfl info_j12 ?_) | fail)
  refine HGd.out.mono ?_
  rintro e w3 ⟨rfl, hb3⟩
  have H3 := Lib.hid (And.intro (H1.out.1.keep hb3) (Arr.blk_below H1.out.2 hb3 (Arr.blk_lt H1.out.2)))
  clear hb3 HGd
  have p6 : w3.cell? ⟨B, 6, none⟩ = some (.slice y.j.a y.j.n y.j.c) := Arr.blk_cell H3.out.1.bo.b 6
  cases gb with
  | false =>
    have HE2 := Lib.hid (show E = 1 by rw [HE1.out]; rfl)
    clear p6
    go_wp2_with fail
    go_ret
    exact ⟨y, by rw [HE2.out]; rfl, (fun h => by rw [HE2.out] at h; exact absurd h (by decide)), H3.out.1.below⟩
  | true =>
    have HE1b := Lib.hid (show E = if 16 ≤ y.t.jobs.length ∧ bestJ y.t.jobs = none then 14 else 0 by rw [HE1.out]; rfl)
    have HTl := Lib.hid (show y.t.jobs.length = y.jobs.length from List.length_map _)
    clear HE1
    by_cases h16 : 16 ≤ y.jobs.length
    · have h16n : (16 : Int) ≤ (y.j.n : Int) := by rw [HP.out.2.1]; omega
      have HLd := Lib.hid (least_any w3 y.j.a y.j.n y.j.c y.jobs (own_lst encJ_len H3.out.1.bo.o.j) (by have := HP.out.2.1; have := HP.out.2.2.1; omega))
      rcases ld_best (l := ts y.jobs) with ⟨hb, hl⟩ | ⟨K, hb, hl, hK⟩
      · rw [hl] at HLd
        have HE2 := Lib.hid (show E = 14 by rw [HE1b.out, if_pos ⟨by rw [HTl.out]; exact h16, hb⟩])
        clear hl h16 hb
        go_wp2_with fail
        refine HLd.out.mono ?_
        rintro e w4 ⟨rfl, hb4⟩
        have H4 := Lib.hid (H3.out.1.keep hb4)
        clear hb4
        go_wp2_with fail
        go_ret
        exact ⟨y, by rw [HE2.out]; rfl, (fun h => by rw [HE2.out] at h; exact absurd h (by decide)), H4.out.below⟩
      · rw [hl] at HLd
        have hKl : K < y.jobs.length := by unfold ts at hK; rw [List.length_map] at hK; exact hK
        have HE2 := Lib.hid (show E = 0 by rw [HE1b.out, if_neg (fun h => by rw [show bestJ y.t.jobs = some K from hb] at h; cases h.2)])
        have HKp := Lib.hid (show kept y.t.jobs = y.t.jobs.eraseIdx K by
          unfold kept
          rw [if_pos (by rw [HTl.out]; exact h16), show bestJ y.t.jobs = some K from hb])
        have HKl := Lib.hid hKl
        have hKne : ((K : Int) == -1) = false := beq_false_of_ne (by omega)
        have hK100 : (K : Int) ≤ 100 := by have := HP.out.2.2.1; omega
        clear hl h16 hb hK hKl
        go_wp2_with fail
        refine HLd.out.mono ?_
        rintro e w4 ⟨rfl, hb4⟩
        have H4 := Lib.hid (And.intro (H3.out.1.keep hb4) (Arr.blk_below H3.out.2 hb4 (Arr.blk_lt H3.out.2)))
        obtain ⟨g, cap, hj, hge⟩ := H4.out.1.bo.at_j (by have := HKl.out; omega)
        obtain ⟨nn, hnn⟩ : ∃ q, q = y.jobs.length := ⟨_, rfl⟩
        rw [← hnn] at hj
        obtain ⟨m, hm⟩ : ∃ m, m + 1 = nn := ⟨nn - 1, by have := HKl.out; omega⟩
        have hown : Owns encJ 12 58 w4 W0.heap.size (.slice (some ⟨g, 0, none⟩) nn cap) y.jobs := by
          have := H4.out.1.bo.o.j
          rw [hj] at this
          exact this
        have hgne : wa.heap.size ≠ g := by
          have h0 := HBo.out.bo.o.j
          rw [hj] at h0
          have := (World.ownsRow.lt h0 g rfl).2
          omega
        have q6 : w4.cell? ⟨B, 6, none⟩ = some (.slice (some ⟨g, 0, none⟩) nn cap) := by
          rw [Arr.blk_cell H4.out.1.bo.b 6]
          show some (Value.slice y.j.a y.j.n y.j.c) = _
          rw [hj]
        have HD := Lib.hid (delete_any w4 W0.heap.size g nn m cap K y.jobs ((K : Int) + 1) hm hown (by rw [hnn]; exact HKl.out) (by have := HP.out.2.2.1; omega) (by omega))
        have HG := Lib.hid (And.intro hj (And.intro hgne (And.intro hnn hm)))
        clear hb4 hown hj hge hm hnn p6 hgne HLd
        go_wp2_with fail
        refine HD.out.mono ?_
        rintro e w5 ⟨rfl, ho5, hC5⟩
        obtain ⟨hb5, hbo5, hbl5⟩ := H4.out.1.bo.delJ HG.out.1 ho5 hC5
        have r6 : w5.cell? ⟨B, 6, none⟩ = some (.slice y.j.a y.j.n y.j.c) := Arr.blk_cell hb5 6
        have rf : w5.frozen? ⟨B, 6, none⟩ = false := Arr.blk_frozen hb5 6
        obtain ⟨w6, hw6⟩ : ∃ q, q = w5.setCell ⟨B, 6, none⟩ (.slice (some ⟨g, 0, none⟩) m cap) := ⟨_, rfl⟩
        obtain ⟨y6, hy6⟩ : ∃ q, q = ({ y with jobs := y.jobs.eraseIdx K, j := ⟨some ⟨g, 0, none⟩, m, cap⟩ } : Sv) := ⟨_, rfl⟩
        rw [← hw6, ← hy6] at hbo5
        rw [← hw6] at hbl5
        have hjb6 : Arr.Blk w6 wa.heap.size 58 (encJ (nJ y p0 p1 p2 p3 p4 p5)) := by
          rw [hw6]
          refine blk_chg (set_chg w5 B 6 _) (blk_chg hC5 H4.out.2 HG.out.2.1) ?_
          intro e
          have := (H1.out.2 : w1.heap[wa.heap.size]? = _)
          have hB1 := H1.out.1.bo.b
          exact type_ne hB1 this (by decide) e.symm
        have H6 := Lib.hid (show Cal W0 w6 B y6 ∧ Arr.Blk w6 wa.heap.size 58 (encJ (nJ y p0 p1 p2 p3 p4 p5)) ∧ w6.cell? ⟨B, 6, none⟩ = some (.slice y6.j.a y6.j.n y6.j.c) ∧ (y6.t = { y.t with jobs := kept y.t.jobs } ∧ y6.next = y.next) ∧ y6.jobs.length ≤ 16 from ⟨⟨hbo5, H4.out.1.below.trans (hbl5 H4.out.1.below.size)⟩, hjb6, Arr.blk_cell hbo5.b 6, ⟨by rw [hy6, HKp.out]; exact del_t, by rw [hy6]⟩, by
          rw [hy6]
          show (y.jobs.eraseIdx K).length ≤ 16
          have := List.length_eraseIdx_le y.jobs K
          have := HP.out.2.2.1
          omega⟩)
        have HW6 := Lib.hid hw6
        clear ho5 hC5 hb5 hbo5 hbl5 hjb6 hw6 hy6 q6
        go_upto_region 12 with fail
        rw [← HW6.out]
        clear r6 rf hKne hK100 h16n
        have HO := Lib.hid (show Owns encJ 12 58 w6 W0.heap.size (.slice y6.j.a y6.j.n y6.j.c) y6.jobs ∧ W0.heap.size ≤ w6.heap.size ∧ y6.jobs.length + 1 ≤ 100000 from ⟨H6.out.1.bo.o.j, H6.out.1.below.size, by have := H6.out.2.2.2.2; omega⟩)
        go_upto_region 12 with fail
        refine Chn.wp_region_chain (fun idx => match idx with | 0 => some (.pointer (some ⟨B, 0, none⟩)) | 1 => some (.pointer (some ⟨B, 0, none⟩)) | 2 => some (.pointer (some ⟨B, 0, none⟩)) | 3 => some (.pointer (some ⟨B, 6, none⟩)) | 4 => some (.slice y6.j.a y6.j.n y6.j.c) | 5 => some (.agg #[.int .i64 y.next, .int .i64 p0, .int .i64 p1, .int .i64 p2, .int .i64 p3, .int .i64 p4, .int .i64 p5, .int .i64 1, .int .i64 0, .int .i64 0, .int .i64 0, .slice none 0 0]) | 8 => some (.pointer (some ⟨B, 0, none⟩)) | 9 => some (.pointer (some ⟨B, 6, none⟩)) | _ => none) [6, 7, 10] (phiB encJ 12 58 w6 W0.heap.size (.slice y6.j.a y6.j.n y6.j.c) y6.jobs (nJ y p0 p1 p2 p3 p4 p5) B 6) (by kernel_rfl) (by kernel_rfl) (by kernel_rfl) (by kernel_rfl) (by kernel_rfl) (by decide) (by kernel_rfl) (rfl) ?_ ?_
        · refine ⟨?_, ?_, ?_, ?_, ?_, ?_, ?_, ?_, ?_, ?_, ?_, trivial⟩
          · intro a ww jj vs c hj0 hΦ
            have hj : jj ≤ 2 := Nat.le_trans hj0 (of_decide_eq_true (by kernel_rfl))
            refine .inl ⟨Rel.wanted_free (by kernel_rfl) _, ?_⟩
            exact Rel.wp_mv _ rfl ⟨congrArg (a.put _) (c.old 0 (v := .pointer (some ⟨B, 0, none⟩)) (by kernel_rfl) (by kernel_rfl)), rfl⟩
          · intro a ww jj vs c hj0 hΦ
            have hj : jj ≤ 1 := Nat.le_trans hj0 (of_decide_eq_true (by kernel_rfl))
            refine .inl ⟨Rel.wanted_free (by kernel_rfl) _, ?_⟩
            exact Rel.wp_mv _ rfl ⟨congrArg (a.put _) (c.old 0 (v := .pointer (some ⟨B, 0, none⟩)) (by kernel_rfl) (by kernel_rfl)), rfl⟩
          · intro a ww jj vs c hj0 hΦ
            have hj : jj ≤ 1 := Nat.le_trans hj0 (of_decide_eq_true (by kernel_rfl))
            refine .inl ⟨Rel.wanted_free (by kernel_rfl) _, ?_⟩
            exact Chn.wp_nc _ rfl (c.get 1 66 (by kernel_rfl) rfl) ⟨rfl, rfl⟩
          · intro a ww jj vs c hj0 hΦ
            have hj : jj ≤ 1 := Nat.le_trans hj0 (of_decide_eq_true (by kernel_rfl))
            refine .inl ⟨Rel.wanted_free (by kernel_rfl) _, ?_⟩
            exact Chn.wp_fa _ _ _ rfl (c.get 2 67 (by kernel_rfl) rfl) (by simp [go_sem]) ⟨rfl, rfl⟩
          · intro a ww jj vs c hj0 hΦ
            have hj : jj ≤ 1 := Nat.le_trans hj0 (of_decide_eq_true (by kernel_rfl))
            refine .inl ⟨Rel.wanted_free (by kernel_rfl) _, ?_⟩
            exact Rel.wp_ld _ _ rfl (c.get 3 68 (by kernel_rfl) rfl) (run_ld_jl (phiB_cell (by omega) hΦ H6.out.2.2.1)) ⟨rfl, rfl⟩
          · intro a ww jj vs c hj0 hΦ
            have hj : jj ≤ 0 := Nat.le_trans hj0 (of_decide_eq_true (by kernel_rfl))
            refine .inl ⟨Rel.wanted_free (by kernel_rfl) _, ?_⟩
            exact Rel.wp_ld _ _ rfl (c.old 6 (v := .pointer (some ⟨wa.heap.size, 0, none⟩)) (by kernel_rfl) (by kernel_rfl)) (run_ldJb (phiB_blk (by omega) hΦ H6.out.2.1) rfl) ⟨rfl, rfl⟩
          · refine ⟨0, rfl, ?_⟩
            intro a ww c hΦ
            have h : (phiB encJ 12 58 w6 W0.heap.size (.slice y6.j.a y6.j.n y6.j.c) y6.jobs (nJ y p0 p1 p2 p3 p4 p5) B 6) 0 [] ww := hΦ
            clear hΦ
            refine ⟨Rel.wanted_free (by kernel_rfl) _, ?_⟩
            have hw : ww = w6.drew := h
            subst hw
            exact Chn.wp_bs1 _ _ rfl (c.get 5 70 (by kernel_rfl) rfl) (run_bs_j1 _ _ _ _ _ _ _ _) ⟨_, rfl, rfl, rfl⟩
          · refine ⟨1, rfl, ?_⟩
            intro a ww c hΦ
            have h : (phiB encJ 12 58 w6 W0.heap.size (.slice y6.j.a y6.j.n y6.j.c) y6.jobs (nJ y p0 p1 p2 p3 p4 p5) B 6) 1 [Rel.slot a 71] ww := hΦ
            clear hΦ
            refine ⟨Rel.wanted_free (by kernel_rfl) _, ?_⟩
            obtain ⟨hu, hw⟩ := h
            obtain ⟨v, w3, hx, hm⟩ := phiB_app tyJ (y := nJ y p0 p1 p2 p3 p4 p5) 26 HO.out.1 HO.out.2.1 HO.out.2.2 (by omega) hw
            exact Chn.wp_ap _ _ _ rfl (c.get 4 69 (by kernel_rfl) rfl) hu hx ⟨_, rfl, hm⟩
          · intro a ww jj vs c hj0 hΦ
            have hj : jj ≤ 2 := Nat.le_trans hj0 (of_decide_eq_true (by kernel_rfl))
            refine .inl ⟨Rel.wanted_free (by kernel_rfl) _, ?_⟩
            exact Chn.wp_nc _ rfl (c.get 0 65 (by kernel_rfl) rfl) ⟨rfl, rfl⟩
          · intro a ww jj vs c hj0 hΦ
            have hj : jj ≤ 2 := Nat.le_trans hj0 (of_decide_eq_true (by kernel_rfl))
            refine .inl ⟨Rel.wanted_free (by kernel_rfl) _, ?_⟩
            exact Chn.wp_fa _ _ _ rfl (c.get 8 73 (by kernel_rfl) rfl) (by simp [go_sem]) ⟨rfl, rfl⟩
          · refine ⟨2, rfl, ?_⟩
            intro a ww c hΦ
            have h : (phiB encJ 12 58 w6 W0.heap.size (.slice y6.j.a y6.j.n y6.j.c) y6.jobs (nJ y p0 p1 p2 p3 p4 p5) B 6) 2 [Rel.slot a 71, Rel.slot a 72] ww := hΦ
            clear hΦ
            refine ⟨Rel.wanted_free (by kernel_rfl) _, ?_⟩
            obtain ⟨⟨ax, nx, cx, hx⟩, h1, h2⟩ := h
            rw [hx] at h1
            have hbx := blk_typed H6.out.1.bo.b h2 (typed_own HO.out.1 (by decide))
            exact Chn.wp_st _ _ _ rfl (c.get 9 74 (by kernel_rfl) rfl) hx (run_st_jl (u := .slice y6.j.a y6.j.n y6.j.c) (by rw [Arr.blk_cell hbx]; rfl) (Arr.blk_frozen hbx 6)) ⟨undef, rfl, ax, nx, cx, ww, h1, h2, rfl⟩
        intro a w9 hbase hroom hdef hΦ hV
        have h : (phiB encJ 12 58 w6 W0.heap.size (.slice y6.j.a y6.j.n y6.j.c) y6.jobs (nJ y p0 p1 p2 p3 p4 p5) B 6) 3 [Rel.slot a 71, Rel.slot a 72, undef] w9 := hΦ
        rw [Chn.act_puts [65, 66, 67, 68, 69, 70, 71, 72, 73, 74] hbase hroom hdef (by kernel_rfl)]
        clear hbase hroom hdef hΦ hV
        simp only [List.foldl_cons, List.foldl_nil]
        generalize Rel.slot a 65 = u65 at *
        generalize Rel.slot a 66 = u66 at *
        generalize Rel.slot a 67 = u67 at *
        generalize Rel.slot a 68 = u68 at *
        generalize Rel.slot a 69 = u69 at *
        generalize Rel.slot a 70 = u70 at *
        generalize Rel.slot a 71 = u71 at *
        generalize Rel.slot a 72 = u72 at *
        generalize Rel.slot a 73 = u73 at *
        generalize Rel.slot a 74 = u74 at *
        obtain ⟨ax, nx, cx, hb9, hw9⟩ := bo_jn H6.out.1.bo H6.out.1.below.size h
        obtain ⟨y9, hy9⟩ : ∃ q, q = withJ y6 (nJ y p0 p1 p2 p3 p4 p5) ax nx cx := ⟨_, rfl⟩
        rw [← hy9] at hb9
        have hS9 : y9.t = { y.t with jobs := kept y.t.jobs ++ [newJ y.t [p0, p1, p2, p3, p4, p5]] } ∧ y9.next = y.next := by
          rw [hy9]
          refine ⟨?_, H6.out.2.2.2.1.2⟩
          have e := H6.out.2.2.2.1.1
          show (⟨y6.seq, y6.world, y6.next, y6.funds, y6.allocs, y6.rates, (y6.jobs ++ [nJ y p0 p1 p2 p3 p4 p5]).map (·.t), y6.keys⟩ : Sn) = _
          rw [List.map_append, show (y6.jobs.map (·.t) : List Jb) = y6.t.jobs from rfl]
          have e2 : y6.t.jobs = kept y.t.jobs := by rw [e]
          rw [e2]
          have f1 : y6.seq = y.seq := congrArg Sn.seq e
          have f2 : y6.world = y.world := congrArg Sn.world e
          have f3 : y6.next = y.next := congrArg Sn.next e
          have f4 : y6.funds = y.funds := congrArg Sn.funds e
          have f5 : y6.allocs = y.allocs := congrArg Sn.allocs e
          have f6 : y6.rates = y.rates := congrArg Sn.rates e
          have f7 : y6.keys = y.keys := congrArg Sn.keys e
          rw [f1, f2, f3, f4, f5, f6, f7]
          rfl
        have p2 := Arr.blk_cell hb9.b 2
        have p2f := Arr.blk_frozen hb9.b 2
        simp only [Snp.encV, List.getElem?_cons_zero, List.getElem?_cons_succ] at p2
        rw [hS9.2] at p2
        have H9 := Lib.hid (And.intro (hb9.setN (y.next + 1)) (And.intro (H6.out.1.below.trans hw9) hS9))
        clear h hb9 hw9 hy9 hS9
        go_wp2_with fail
        go_ret
        refine ⟨_, by rw [HE2.out]; rfl, (fun _ => ⟨?_, H9.out.1.1⟩), H9.out.2.1.trans H9.out.1.2⟩
        rw [HSu.out]
        show ({ y9.t with next := y.next + 1 } : Sn) = _
        rw [H9.out.2.2.1]
    · have h16n : ¬ (16 : Int) ≤ (y.j.n : Int) := by rw [HP.out.2.1]; omega
      have HE2 := Lib.hid (show E = 0 by rw [HE1b.out, if_neg (fun h => h16 (by rw [← HTl.out]; exact h.1))])
      obtain ⟨y6, hy6⟩ : ∃ q, q = y := ⟨_, rfl⟩
      have H6 := Lib.hid (show Cal W0 w3 B y6 ∧ Arr.Blk w3 wa.heap.size 58 (encJ (nJ y p0 p1 p2 p3 p4 p5)) ∧ w3.cell? ⟨B, 6, none⟩ = some (.slice y6.j.a y6.j.n y6.j.c) ∧ (y6.t = { y.t with jobs := kept y.t.jobs } ∧ y6.next = y.next) ∧ y6.jobs.length ≤ 16 by
        rw [hy6]
        refine ⟨H3.out.1, H3.out.2, p6, ⟨?_, rfl⟩, HP.out.2.2.1⟩
        have : kept y.t.jobs = y.t.jobs := by
          unfold kept
          rw [if_neg (by rw [HTl.out]; exact h16)]
        rw [this])
      clear h16 hy6
      go_upto_region 12 with fail
      clear p6 h16n
      have HO := Lib.hid (show Owns encJ 12 58 w3 W0.heap.size (.slice y6.j.a y6.j.n y6.j.c) y6.jobs ∧ W0.heap.size ≤ w3.heap.size ∧ y6.jobs.length + 1 ≤ 100000 from ⟨H6.out.1.bo.o.j, H6.out.1.below.size, by have := H6.out.2.2.2.2; omega⟩)
      go_upto_region 12 with fail
      refine Chn.wp_region_chain (fun idx => match idx with | 0 => some (.pointer (some ⟨B, 0, none⟩)) | 1 => some (.pointer (some ⟨B, 0, none⟩)) | 2 => some (.pointer (some ⟨B, 0, none⟩)) | 3 => some (.pointer (some ⟨B, 6, none⟩)) | 4 => some (.slice y6.j.a y6.j.n y6.j.c) | 5 => some (.agg #[.int .i64 y.next, .int .i64 p0, .int .i64 p1, .int .i64 p2, .int .i64 p3, .int .i64 p4, .int .i64 p5, .int .i64 1, .int .i64 0, .int .i64 0, .int .i64 0, .slice none 0 0]) | 8 => some (.pointer (some ⟨B, 0, none⟩)) | 9 => some (.pointer (some ⟨B, 6, none⟩)) | _ => none) [6, 7, 10] (phiB encJ 12 58 w3 W0.heap.size (.slice y6.j.a y6.j.n y6.j.c) y6.jobs (nJ y p0 p1 p2 p3 p4 p5) B 6) (by kernel_rfl) (by kernel_rfl) (by kernel_rfl) (by kernel_rfl) (by kernel_rfl) (by decide) (by kernel_rfl) (rfl) ?_ ?_
      · refine ⟨?_, ?_, ?_, ?_, ?_, ?_, ?_, ?_, ?_, ?_, ?_, trivial⟩
        · intro a ww jj vs c hj0 hΦ
          have hj : jj ≤ 2 := Nat.le_trans hj0 (of_decide_eq_true (by kernel_rfl))
          refine .inl ⟨Rel.wanted_free (by kernel_rfl) _, ?_⟩
          exact Rel.wp_mv _ rfl ⟨congrArg (a.put _) (c.old 0 (v := .pointer (some ⟨B, 0, none⟩)) (by kernel_rfl) (by kernel_rfl)), rfl⟩
        · intro a ww jj vs c hj0 hΦ
          have hj : jj ≤ 1 := Nat.le_trans hj0 (of_decide_eq_true (by kernel_rfl))
          refine .inl ⟨Rel.wanted_free (by kernel_rfl) _, ?_⟩
          exact Rel.wp_mv _ rfl ⟨congrArg (a.put _) (c.old 0 (v := .pointer (some ⟨B, 0, none⟩)) (by kernel_rfl) (by kernel_rfl)), rfl⟩
        · intro a ww jj vs c hj0 hΦ
          have hj : jj ≤ 1 := Nat.le_trans hj0 (of_decide_eq_true (by kernel_rfl))
          refine .inl ⟨Rel.wanted_free (by kernel_rfl) _, ?_⟩
          exact Chn.wp_nc _ rfl (c.get 1 66 (by kernel_rfl) rfl) ⟨rfl, rfl⟩
        · intro a ww jj vs c hj0 hΦ
          have hj : jj ≤ 1 := Nat.le_trans hj0 (of_decide_eq_true (by kernel_rfl))
          refine .inl ⟨Rel.wanted_free (by kernel_rfl) _, ?_⟩
          exact Chn.wp_fa _ _ _ rfl (c.get 2 67 (by kernel_rfl) rfl) (by simp [go_sem]) ⟨rfl, rfl⟩
        · intro a ww jj vs c hj0 hΦ
          have hj : jj ≤ 1 := Nat.le_trans hj0 (of_decide_eq_true (by kernel_rfl))
          refine .inl ⟨Rel.wanted_free (by kernel_rfl) _, ?_⟩
          exact Rel.wp_ld _ _ rfl (c.get 3 68 (by kernel_rfl) rfl) (run_ld_jl (phiB_cell (by omega) hΦ H6.out.2.2.1)) ⟨rfl, rfl⟩
        · intro a ww jj vs c hj0 hΦ
          have hj : jj ≤ 0 := Nat.le_trans hj0 (of_decide_eq_true (by kernel_rfl))
          refine .inl ⟨Rel.wanted_free (by kernel_rfl) _, ?_⟩
          exact Rel.wp_ld _ _ rfl (c.old 6 (v := .pointer (some ⟨wa.heap.size, 0, none⟩)) (by kernel_rfl) (by kernel_rfl)) (run_ldJb (phiB_blk (by omega) hΦ H6.out.2.1) rfl) ⟨rfl, rfl⟩
        · refine ⟨0, rfl, ?_⟩
          intro a ww c hΦ
          have h : (phiB encJ 12 58 w3 W0.heap.size (.slice y6.j.a y6.j.n y6.j.c) y6.jobs (nJ y p0 p1 p2 p3 p4 p5) B 6) 0 [] ww := hΦ
          clear hΦ
          refine ⟨Rel.wanted_free (by kernel_rfl) _, ?_⟩
          have hw : ww = w3.drew := h
          subst hw
          exact Chn.wp_bs1 _ _ rfl (c.get 5 70 (by kernel_rfl) rfl) (run_bs_j1 _ _ _ _ _ _ _ _) ⟨_, rfl, rfl, rfl⟩
        · refine ⟨1, rfl, ?_⟩
          intro a ww c hΦ
          have h : (phiB encJ 12 58 w3 W0.heap.size (.slice y6.j.a y6.j.n y6.j.c) y6.jobs (nJ y p0 p1 p2 p3 p4 p5) B 6) 1 [Rel.slot a 71] ww := hΦ
          clear hΦ
          refine ⟨Rel.wanted_free (by kernel_rfl) _, ?_⟩
          obtain ⟨hu, hw⟩ := h
          obtain ⟨v, w3, hx, hm⟩ := phiB_app tyJ (y := nJ y p0 p1 p2 p3 p4 p5) 26 HO.out.1 HO.out.2.1 HO.out.2.2 (by omega) hw
          exact Chn.wp_ap _ _ _ rfl (c.get 4 69 (by kernel_rfl) rfl) hu hx ⟨_, rfl, hm⟩
        · intro a ww jj vs c hj0 hΦ
          have hj : jj ≤ 2 := Nat.le_trans hj0 (of_decide_eq_true (by kernel_rfl))
          refine .inl ⟨Rel.wanted_free (by kernel_rfl) _, ?_⟩
          exact Chn.wp_nc _ rfl (c.get 0 65 (by kernel_rfl) rfl) ⟨rfl, rfl⟩
        · intro a ww jj vs c hj0 hΦ
          have hj : jj ≤ 2 := Nat.le_trans hj0 (of_decide_eq_true (by kernel_rfl))
          refine .inl ⟨Rel.wanted_free (by kernel_rfl) _, ?_⟩
          exact Chn.wp_fa _ _ _ rfl (c.get 8 73 (by kernel_rfl) rfl) (by simp [go_sem]) ⟨rfl, rfl⟩
        · refine ⟨2, rfl, ?_⟩
          intro a ww c hΦ
          have h : (phiB encJ 12 58 w3 W0.heap.size (.slice y6.j.a y6.j.n y6.j.c) y6.jobs (nJ y p0 p1 p2 p3 p4 p5) B 6) 2 [Rel.slot a 71, Rel.slot a 72] ww := hΦ
          clear hΦ
          refine ⟨Rel.wanted_free (by kernel_rfl) _, ?_⟩
          obtain ⟨⟨ax, nx, cx, hx⟩, h1, h2⟩ := h
          rw [hx] at h1
          have hbx := blk_typed H6.out.1.bo.b h2 (typed_own HO.out.1 (by decide))
          exact Chn.wp_st _ _ _ rfl (c.get 9 74 (by kernel_rfl) rfl) hx (run_st_jl (u := .slice y6.j.a y6.j.n y6.j.c) (by rw [Arr.blk_cell hbx]; rfl) (Arr.blk_frozen hbx 6)) ⟨undef, rfl, ax, nx, cx, ww, h1, h2, rfl⟩
      intro a w9 hbase hroom hdef hΦ hV
      have h : (phiB encJ 12 58 w3 W0.heap.size (.slice y6.j.a y6.j.n y6.j.c) y6.jobs (nJ y p0 p1 p2 p3 p4 p5) B 6) 3 [Rel.slot a 71, Rel.slot a 72, undef] w9 := hΦ
      rw [Chn.act_puts [65, 66, 67, 68, 69, 70, 71, 72, 73, 74] hbase hroom hdef (by kernel_rfl)]
      clear hbase hroom hdef hΦ hV
      simp only [List.foldl_cons, List.foldl_nil]
      generalize Rel.slot a 65 = u65 at *
      generalize Rel.slot a 66 = u66 at *
      generalize Rel.slot a 67 = u67 at *
      generalize Rel.slot a 68 = u68 at *
      generalize Rel.slot a 69 = u69 at *
      generalize Rel.slot a 70 = u70 at *
      generalize Rel.slot a 71 = u71 at *
      generalize Rel.slot a 72 = u72 at *
      generalize Rel.slot a 73 = u73 at *
      generalize Rel.slot a 74 = u74 at *
      obtain ⟨ax, nx, cx, hb9, hw9⟩ := bo_jn H6.out.1.bo H6.out.1.below.size h
      obtain ⟨y9, hy9⟩ : ∃ q, q = withJ y6 (nJ y p0 p1 p2 p3 p4 p5) ax nx cx := ⟨_, rfl⟩
      rw [← hy9] at hb9
      have hS9 : y9.t = { y.t with jobs := kept y.t.jobs ++ [newJ y.t [p0, p1, p2, p3, p4, p5]] } ∧ y9.next = y.next := by
        rw [hy9]
        refine ⟨?_, H6.out.2.2.2.1.2⟩
        have e := H6.out.2.2.2.1.1
        show (⟨y6.seq, y6.world, y6.next, y6.funds, y6.allocs, y6.rates, (y6.jobs ++ [nJ y p0 p1 p2 p3 p4 p5]).map (·.t), y6.keys⟩ : Sn) = _
        rw [List.map_append, show (y6.jobs.map (·.t) : List Jb) = y6.t.jobs from rfl]
        have e2 : y6.t.jobs = kept y.t.jobs := by rw [e]
        rw [e2]
        have f1 : y6.seq = y.seq := congrArg Sn.seq e
        have f2 : y6.world = y.world := congrArg Sn.world e
        have f3 : y6.next = y.next := congrArg Sn.next e
        have f4 : y6.funds = y.funds := congrArg Sn.funds e
        have f5 : y6.allocs = y.allocs := congrArg Sn.allocs e
        have f6 : y6.rates = y.rates := congrArg Sn.rates e
        have f7 : y6.keys = y.keys := congrArg Sn.keys e
        rw [f1, f2, f3, f4, f5, f6, f7]
        rfl
      have p2 := Arr.blk_cell hb9.b 2
      have p2f := Arr.blk_frozen hb9.b 2
      simp only [Snp.encV, List.getElem?_cons_zero, List.getElem?_cons_succ] at p2
      rw [hS9.2] at p2
      have H9 := Lib.hid (And.intro (hb9.setN (y.next + 1)) (And.intro (H6.out.1.below.trans hw9) hS9))
      clear h hb9 hw9 hy9 hS9
      go_wp2_with fail
      go_ret
      refine ⟨_, by rw [HE2.out]; rfl, (fun _ => ⟨?_, H9.out.1.1⟩), H9.out.2.1.trans H9.out.1.2⟩
      rw [HSu.out]
      show ({ y9.t with next := y.next + 1 } : Sn) = _
      rw [H9.out.2.2.1]
end Go.Proofs.YtjcndgopijpibaaGreat.Bok
