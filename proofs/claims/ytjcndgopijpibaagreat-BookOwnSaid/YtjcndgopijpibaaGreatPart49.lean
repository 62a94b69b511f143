/- Common to the claims of this seat, part 49: texts that were written one by one, laid behind one another. -/
import Derived.Test.YtjcndgopijpibaaGreatPart6
import Derived.Test.YtjcndgopijpibaaGreatPart11
import Derived.Test.YtjcndgopijpibaaGreatPart48
/- Book, the landed: legs posted. -/
namespace Go.Proofs.YtjcndgopijpibaaGreat.Bok
set_option maxRecDepth 100000
open Go.RowKit
open Go.Sort
open Kit
open Foot
open Tre (Lst inI lst_keep lst_at lst_new lst_none encF encF_len encL_len IntsL goodB)
open Led (Lg encG encG_len)
open Snp (Sn Sv encK encK_len encK_one)
set_option linter.unusedVariables false
variable {w w' W0 W : World} {B : Nat}
def kPo (base : Nat) (PW PE : Int) (l : List Tre.Al) : Rel.Kd Rel.Gr := ⟨fun w u => ∃ a n c, u = .tuple #[.int .i64 PW, .slice a n c, .int .i64 PE] ∧ Owns Tre.encL 6 65 w base (.slice a n c) l, fun _ _ _ h ⟨a, n, c, e, ho⟩ => ⟨a, n, c, e, Nest.own_on ho h⟩⟩
def kPl (base : Nat) (l : List Tre.Al) : Rel.Kd Rel.Gr := ⟨fun w u => ∃ a n c, u = .slice a n c ∧ Owns Tre.encL 6 65 w base (.slice a n c) l, fun _ _ _ h ⟨a, n, c, e, ho⟩ => ⟨a, n, c, e, Nest.own_on ho h⟩⟩
theorem Bo.setP {base : Nat} {y : Sv} (h : Bo w base B y) (m : Int) (la : Option Addr) (ln lc : Nat) (al : List Tre.Al) (ho : Owns Tre.encL 6 65 w base (.slice la ln lc) al) : Bo ((w.setCell ⟨B, 1, none⟩ (.int .i64 m)).setCell ⟨B, 4, none⟩ (.slice la ln lc)) base B { y with world := m, allocs := al, l := ⟨la, ln, lc⟩ } ∧ Below base w ((w.setCell ⟨B, 1, none⟩ (.int .i64 m)).setCell ⟨B, 4, none⟩ (.slice la ln lc)) := by
  have b1 := Arr.blk_set h.b 1 (.int .i64 m)
  have o1 := OwV.st h.b h.o 1 (.int .i64 m)
  have o2 := OwV.st b1 o1 4 (.slice la ln lc)
  exact ⟨⟨Arr.blk_set b1 4 _, ⟨o2.f, own_st b1 (own_st h.b ho (by decide) 1 _) (by decide) 4 _, o2.r, o2.j, o2.k, o2.d⟩, h.ge⟩, Arr.below_set (Arr.below_set (Below.refl base w) h.ge 1 _) h.ge 4 _⟩
def PstP (W0 : World) (B : Nat) (la : Option Addr) (ln lc : Nat) (L : List Lg) (E : Int) (S : Sn) (e : Ending) (W' : World) : Prop :=
  ∃ y' : Sv, e = .returned (.int .i64 E) ∧ (E = 0 → y'.t = S ∧ Bo W' W0.heap.size B y') ∧ Below W0.heap.size W0 W' ∧ Owns encG 2 49 W' W0.heap.size (.slice la ln lc) L
set_option maxHeartbeats 8000000 in
theorem post_any (y : Sv) (hc : Cal W0 W B y) (hal : ∀ x ∈ y.allocs, x.ok) (hn : y.allocs.length ≤ 16) (hwd : inI y.world) (la : Option Addr) (ln lc : Nat) (L : List Lg) (hLw : Owns encG 2 49 W W0.heap.size (.slice la ln lc) L) (hLo : ∀ x ∈ L, x.ok) (hLn : L.length ≤ 100) :
    Calls Tryz.prog 36 #[.pointer (some ⟨B, 0, none⟩), .slice la ln lc] W (PstP W0 B la ln lc L (postedE y.t L) (posted y.t L)) := by
  have hL := own_lst encG_len hLw
  obtain ⟨E, hE⟩ : ∃ E, E = postedE y.t L := ⟨_, rfl⟩
  obtain ⟨S, hS⟩ : ∃ S, S = posted y.t L := ⟨_, rfl⟩
  rw [← hE, ← hS]
  have HB := Lib.hid hc
  have HLw := Lib.hid hLw
  clear hLw
  have hlen := hL.len
  by_cases h0 : L = []
  · have hln : ln = 0 := by rw [← hlen, h0]; rfl
    subst hln
    have HE := Lib.hid (show E = 0 ∧ S = y.t from ⟨by rw [hE]; unfold postedE; rw [if_pos h0], by rw [hS]; unfold posted; rw [if_pos h0]⟩)
    clear hE hS hc hal hL hLo hLn hlen h0 hn hwd
    go_enter Tryz.func36, Tryz.ntmps36
    go_wp2_with fail
    go_ret
    exact ⟨y, by rw [HE.out.1]; rfl, (fun _ => ⟨HE.out.2.symm, HB.out.bo⟩), HB.out.below, HLw.out⟩
  · obtain ⟨PW, hPW⟩ : ∃ q, q = Led.postW y.world y.allocs L := ⟨_, rfl⟩
    obtain ⟨PE, hPE⟩ : ∃ q, q = Led.postE y.world y.allocs L := ⟨_, rfl⟩
    obtain ⟨PA, hPA⟩ : ∃ q, q = Led.postA y.world y.allocs L := ⟨_, rfl⟩
    have HE := Lib.hid (show E = PE ∧ S = { y.t with world := PW, allocs := PA } from ⟨by rw [hE, hPE]; unfold postedE; rw [if_neg h0], by rw [hS, hPW, hPA]; unfold posted; rw [if_neg h0]⟩)
    have HPo := Lib.hid (fun (w : World) (hb : Below W.heap.size W w) => show Calls Tryz.prog 79 #[.int .i64 y.world, .slice y.l.a y.l.n y.l.c, .slice la ln lc] w fun e W' => ∃ v, e = .returned (.tuple #[.int .i64 PW, v, .int .i64 PE]) ∧ Owns Tre.encL 6 65 W' w.heap.size v PA ∧ Below w.heap.size w W' from by
      rw [hPW, hPE, hPA]
      have hll := own_lst encL_len (hc.bo.keep hb).o.l
      exact Led.post_own w y.world y.l.a y.l.n y.l.c y.allocs la ln lc L hwd hll hal (by have := hll.len; omega) (lst_keep encG_len hL hb) hLo (by omega))
    have HQ := Lib.hid (show W.cell? ⟨B, 1, none⟩ = some (.int .i64 y.world) ∧ W.cell? ⟨B, 4, none⟩ = some (.slice y.l.a y.l.n y.l.c) from ⟨Arr.blk_cell hc.bo.b 1, Arr.blk_cell hc.bo.b 4⟩)
    have hlnb : ((ln : Int) == 0) = false := beq_false_of_ne (by
      intro e
      have : L.length = 0 := by omega
      exact h0 (List.length_eq_zero_iff.1 this))
    clear hE hS hc hal hL hLo hLn hlen h0 hn hwd hPW hPE hPA
    go_enter Tryz.func36, Tryz.ntmps36
    go_upto_region 3 with fail
    refine Rel.wp_region_rel (G := Rel.Gr) (Rel.tab [.is (.pointer (some ⟨B, 0, none⟩)), .is (.pointer (some ⟨B, 0, none⟩)), .is (.pointer (some ⟨B, 1, none⟩)), .is (.int .i64 y.world), .is (.pointer (some ⟨B, 0, none⟩)), .is (.pointer (some ⟨B, 0, none⟩)), .is (.pointer (some ⟨B, 4, none⟩)), .is (.slice y.l.a y.l.n y.l.c), .is (.slice la ln lc), kPo W.heap.size PW PE PA, kPo W.heap.size PW PE PA, .is (.int .i64 PW), kPl W.heap.size PA, .is (.int .i64 PE), .is (.int .i64 PW), kPl W.heap.size PA, .is (.int .i64 PE)]) (fun _ w => Below W.heap.size W w) (by kernel_rfl) (by kernel_rfl) (by kernel_rfl) (by kernel_rfl) (fun w => Rel.gr_refl _) (below_drew _) ?_ ?_
    · refine ⟨?_, ?_, ?_, ?_, ?_, ?_, ?_, ?_, ?_, ?_, ?_, ?_, ?_, ?_, ?_, ?_, ?_, trivial⟩
      · intro L a w c
        refine .inl ⟨Rel.wanted_free (by kernel_rfl) _, ?_⟩
        exact Rel.wp_mv _ rfl ⟨_, rfl, Rel.gr_refl _, (c.old 0 (v := .pointer (some ⟨B, 0, none⟩)) (by kernel_rfl) (by kernel_rfl)), c.inv⟩
      · intro L a w c
        refine .inl ⟨Rel.wanted_free (by kernel_rfl) _, ?_⟩
        exact Chn.wp_nc _ rfl (c.get 0 12 (by kernel_rfl)) ⟨_, rfl, Rel.gr_refl _, rfl, c.inv⟩
      · intro L a w c
        refine .inl ⟨Rel.wanted_free (by kernel_rfl) _, ?_⟩
        exact Chn.wp_fa _ _ _ rfl (c.get 1 13 (by kernel_rfl)) (by simp [go_sem]) ⟨_, rfl, Rel.gr_refl _, rfl, c.inv⟩
      · intro L a w c
        refine .inl ⟨Rel.wanted_free (by kernel_rfl) _, ?_⟩
        exact Rel.wp_ld _ _ rfl (c.get 2 14 (by kernel_rfl)) (run_ldI (cell_keep c.inv HQ.out.1)) ⟨_, rfl, Rel.gr_refl _, rfl, c.inv⟩
      · intro L a w c
        refine .inl ⟨Rel.wanted_free (by kernel_rfl) _, ?_⟩
        exact Rel.wp_mv _ rfl ⟨_, rfl, Rel.gr_refl _, (c.old 0 (v := .pointer (some ⟨B, 0, none⟩)) (by kernel_rfl) (by kernel_rfl)), c.inv⟩
      · intro L a w c
        refine .inl ⟨Rel.wanted_free (by kernel_rfl) _, ?_⟩
        exact Chn.wp_nc _ rfl (c.get 4 16 (by kernel_rfl)) ⟨_, rfl, Rel.gr_refl _, rfl, c.inv⟩
      · intro L a w c
        refine .inl ⟨Rel.wanted_free (by kernel_rfl) _, ?_⟩
        exact Chn.wp_fa _ _ _ rfl (c.get 5 17 (by kernel_rfl)) (by simp [go_sem]) ⟨_, rfl, Rel.gr_refl _, rfl, c.inv⟩
      · intro L a w c
        refine .inl ⟨Rel.wanted_free (by kernel_rfl) _, ?_⟩
        exact Rel.wp_ld _ _ rfl (c.get 6 18 (by kernel_rfl)) (run_ld_a (cell_keep c.inv HQ.out.2)) ⟨_, rfl, Rel.gr_refl _, rfl, c.inv⟩
      · intro L a w c
        refine .inl ⟨Rel.wanted_free (by kernel_rfl) _, ?_⟩
        exact Rel.wp_mv _ rfl ⟨_, rfl, Rel.gr_refl _, (c.old 1 (v := .slice la ln lc) (by kernel_rfl) (by kernel_rfl)), c.inv⟩
      · intro L a w c
        refine .inl ⟨Rel.wanted_free (by kernel_rfl) _, ?_⟩
        refine Rel.wp_cl _ _ _ rfl Tryz.func79 (by kernel_rfl) ?_
        show Calls _ _ #[Rel.slot a 15, Rel.slot a 19, Rel.slot a 20] w _
        rw [show Rel.slot a 15 = .int .i64 y.world from (c.get 3 15 (by kernel_rfl)), show Rel.slot a 19 = .slice y.l.a y.l.n y.l.c from (c.get 7 19 (by kernel_rfl)), show Rel.slot a 20 = .slice la ln lc from (c.get 8 20 (by kernel_rfl))]
        refine (HPo.out w c.inv).mono ?_
        rintro e w' ⟨v, rfl, ho, hb⟩
        obtain ⟨va, vc, rfl, -, -, -, -⟩ := owns_row encL_len ho
        exact ⟨_, rfl, _, rfl, hb, ⟨va, _, vc, rfl, owns_le ho c.inv.size⟩, below_keep c.inv hb⟩
      · intro L a w c
        refine .inl ⟨Rel.wanted_free (by kernel_rfl) _, ?_⟩
        exact Rel.wp_mv _ rfl ⟨_, rfl, Rel.gr_refl _, (c.get 9 21 (by kernel_rfl)), c.inv⟩
      · intro L a w c
        refine .inl ⟨Rel.wanted_free (by kernel_rfl) _, ?_⟩
        obtain ⟨va, vn, vc, e, ho⟩ := c.get 10 11 (by kernel_rfl)
        exact Rel.wp_ex _ _ rfl e (by simp [go_sem]) ⟨_, rfl, Rel.gr_refl _, rfl, c.inv⟩
      · intro L a w c
        refine .inl ⟨Rel.wanted_free (by kernel_rfl) _, ?_⟩
        obtain ⟨va, vn, vc, e, ho⟩ := c.get 10 11 (by kernel_rfl)
        exact Rel.wp_ex _ _ rfl e (by simp [go_sem]) ⟨_, rfl, Rel.gr_refl _, ⟨va, vn, vc, rfl, ho⟩, c.inv⟩
      · intro L a w c
        refine .inl ⟨Rel.wanted_free (by kernel_rfl) _, ?_⟩
        obtain ⟨va, vn, vc, e, ho⟩ := c.get 10 11 (by kernel_rfl)
        exact Rel.wp_ex _ _ rfl e (by simp [go_sem]) ⟨_, rfl, Rel.gr_refl _, rfl, c.inv⟩
      · intro L a w c
        refine .inl ⟨Rel.wanted_free (by kernel_rfl) _, ?_⟩
        exact Rel.wp_as _ rfl ⟨_, rfl, Rel.gr_refl _, (c.get 11 22 (by kernel_rfl)), c.inv⟩
      · intro L a w c
        refine .inl ⟨Rel.wanted_free (by kernel_rfl) _, ?_⟩
        exact Rel.wp_as _ rfl ⟨_, rfl, Rel.gr_refl _, (c.get 12 23 (by kernel_rfl)), c.inv⟩
      · intro L a w c
        refine .inl ⟨Rel.wanted_free (by kernel_rfl) _, ?_⟩
        exact Rel.wp_as _ rfl ⟨_, rfl, Rel.gr_refl _, (c.get 13 24 (by kernel_rfl)), c.inv⟩
    intro a w5 hbase hroom hdef hJ hV
    have s5 : Rel.slot a 5 = .int .i64 PW := hV 14 _ _ rfl rfl
    have s7 : Rel.slot a 7 = .int .i64 PE := hV 16 _ _ rfl rfl
    have k6 : (kPl W.heap.size PA : Rel.Kd (Rel.Gr)).p w5 (Rel.slot a 6) := hV 15 _ _ rfl rfl
    rw [Chn.act_puts [12, 13, 14, 15, 16, 17, 18, 19, 20, 21, 11, 22, 23, 24, 5, 6, 7] hbase hroom hdef (by kernel_rfl)]
    clear hbase hroom hdef hV
    simp only [List.foldl_cons, List.foldl_nil]
    generalize Rel.slot a 12 = u12 at *
    generalize Rel.slot a 13 = u13 at *
    generalize Rel.slot a 14 = u14 at *
    generalize Rel.slot a 15 = u15 at *
    generalize Rel.slot a 16 = u16 at *
    generalize Rel.slot a 17 = u17 at *
    generalize Rel.slot a 18 = u18 at *
    generalize Rel.slot a 19 = u19 at *
    generalize Rel.slot a 20 = u20 at *
    generalize Rel.slot a 21 = u21 at *
    generalize Rel.slot a 11 = u11 at *
    generalize Rel.slot a 22 = u22 at *
    generalize Rel.slot a 23 = u23 at *
    generalize Rel.slot a 24 = u24 at *
    rw [s5]
    clear s5
    generalize Rel.slot a 6 = u6 at *
    rw [s7]
    clear s7
    simp only [Act.put, List.setIfInBounds_toArray, List.set_cons_succ, List.set_cons_zero]
    obtain ⟨pa, pn, pc, rfl, hop⟩ := k6
    have H5 := Lib.hid (HB.out.keep hJ)
    obtain ⟨hb5, hbl5⟩ := H5.out.bo.setP PW pa pn pc PA (owns_le hop HB.out.below.size)
    have c1 : w5.cell? ⟨B, 1, none⟩ = some (.int .i64 y.world) := Arr.blk_cell H5.out.bo.b 1
    have f1 : w5.frozen? ⟨B, 1, none⟩ = false := Arr.blk_frozen H5.out.bo.b 1
    have b1 := Arr.blk_set H5.out.bo.b 1 (.int .i64 PW)
    have c4 : (w5.setCell ⟨B, 1, none⟩ (.int .i64 PW)).cell? ⟨B, 4, none⟩ = some (.slice y.l.a y.l.n y.l.c) := Arr.blk_cell b1 4
    have f4 : (w5.setCell ⟨B, 1, none⟩ (.int .i64 PW)).frozen? ⟨B, 4, none⟩ = false := Arr.blk_frozen b1 4
    have HR := Lib.hid (And.intro hb5 (And.intro (H5.out.below.trans hbl5) (own_st b1 (own_st H5.out.bo.b (Nest.own_on HLw.out hJ) (by decide) 1 (.int .i64 PW)) (by decide) 4 (.slice pa pn pc))))
    clear hJ hop hb5 hbl5 b1 HQ
    go_wp2_with fail
    go_ret
    exact ⟨_, by rw [HE.out.1]; rfl, (fun _ => ⟨by rw [HE.out.2], HR.out.1⟩), HR.out.2.1, HR.out.2.2⟩
end Go.Proofs.YtjcndgopijpibaaGreat.Bok
