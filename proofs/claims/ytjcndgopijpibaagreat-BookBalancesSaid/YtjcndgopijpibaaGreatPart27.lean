/- Common to the claims of this seat, part 27: texts that were written one by one, laid behind one another. -/
import Derived.BigFrame
import Derived.BigQuiet
import Derived.Deep.DeepCutAuto
import Derived.Deep.CutBlock
import Derived.WalkLawsBesides
import Derived.LoopTactic
import Derived.Test.YtjcndgopijpibaaGreatPart3
import Derived.Test.YtjcndgopijpibaaGreatPart5
import Derived.Test.YtjcndgopijpibaaGreatPart8
import Derived.Test.YtjcndgopijpibaaGreatPart9
/- Book: what 'small' gives within a drawn region, until it is handed on. -/
namespace Go.Proofs.YtjcndgopijpibaaGreat.Bok
set_option maxRecDepth 100000
open Go.RowKit
open Go.Sort
open Kit
open Rel (slot)
open Ent (Tx Tv)
set_option linter.unusedVariables false
variable {w w' : World}
def Sm (i d s : Nat) (T : Tx) (L : Array Bool) (f : Nat → Value) (w : World) : Prop := L.getD s false = false → L.getD i false = true → ∃ u : Tv, f d = Ent.valV u ∧ u.t = T ∧ u.In w
namespace Sm
variable {i d s : Nat} {T : Tx} {L : Array Bool} {a : Act}
theorem start (m : Nat) (f : Nat → Value) (w : World) : Sm i d s T (Array.replicate m false) f w := by
  intro _ h
  by_cases hi : i < m <;> simp [hi] at h
theorem go {k e : Nat} {v : Value} (h : Sm i d s T L (slot a) w) (hk : BoxCal.farB k [i, s] = true) (hd : BoxCal.farB e [d] = true) (hb : Below w.heap.size w w') : Sm i d s T (L.setIfInBounds k true) (slot (a.put (some e) v)) w' := by
  simp only [BoxCal.farB, List.all_cons, List.all_nil, Bool.and_true, Bool.and_eq_true, bne_iff_ne, ne_eq] at hk hd
  obtain ⟨k1, k2⟩ := hk
  unfold Sm
  rw [Rel.set_ne k1, Rel.set_ne k2, Rel.slot_put_ne hd]
  intro h1 h2
  obtain ⟨u, g1, g2, g3⟩ := h h1 h2
  exact ⟨u, g1, g2, Ent.in_keep g3 hb⟩
theorem cl {u : Tv} (hd : d < a.tmps.size) (hu : u.t = T) (hi : u.In w') : Sm i d s T (L.setIfInBounds i true) (slot (a.put (some d) (Ent.valV u))) w' := by
  intro _ _
  exact ⟨u, Rel.slot_put hd, hu, hi⟩
theorem st {m : Nat} (hm : L.size = m) (hs : s < m) (w : World) : Sm i d s T (L.setIfInBounds s true) (slot a) w := by
  intro h
  rw [Rel.set_eq hm hs] at h
  cases h
end Sm
def nBa : BoxCal.At := ⟨3, 25, 4, 21, 5, 26, 7, 5, 8⟩
end Go.Proofs.YtjcndgopijpibaaGreat.Bok
/- Book: the document's May. -/
namespace Go.Proofs.YtjcndgopijpibaaGreat.Bok
set_option maxRecDepth 100000
open Go.RowKit
open Go.Sort
open Kit
open Tre (Lst inI lst_keep lst_at below_drewN')
open Job (Jb Jv Jobs encJ encJ_len)
open Drw (Dw Draws encD encD_len)
open Snp (Sn Sv encV box_cells job_all draw_at all_next all_none in_keep)
set_option linter.unusedVariables false
variable {w w' : World}
def MayJ (j : Jb) : Prop := (0 ≤ j.start ∧ j.start ≤ 1125899906842624 ∧ 0 ≤ j.wall ∧ j.wall ≤ 1125899906842624 ∧ j.draws.length ≤ 16) ∧ ∀ d ∈ j.draws, 0 ≤ d.alloc ∧ d.alloc ≤ 15
theorem mayS_jobs {s : Sn} (h : MayS s) : ∀ j ∈ s.jobs, MayJ j := h.2.2
def OutMay (W : World) (t : Sn) (e : Ending) (w : World) : Prop := ∃ b, e = .returned (.bool b) ∧ (b = true ↔ MayS t) ∧ Below W.heap.size W w
theorem may_bad {W w : World} {t : Sn} (h : ¬ MayS t) (hb : Below W.heap.size W w) : OutMay W t (.returned (.bool false)) w := ⟨false, rfl, by simp [h], hb⟩
theorem may_ok {W w : World} {t : Sn} (h : MayS t) (hb : Below W.heap.size W w) : OutMay W t (.returned (.bool true)) w := ⟨true, rfl, by simp [h], hb⟩
set_option maxHeartbeats 8000000 in
theorem rmay_any (W : World) (x : Sv) (hx : x.In W) :
    Calls Tryz.prog 16 #[Snp.valV x] W (OutMay W x.t) := by
  obtain ⟨W1, hW1⟩ : ∃ y, y = W.alloc (.cells (encV x).toArray 29) := ⟨_, rfl⟩
  have hb1 : Below W.heap.size W W1 := by rw [hW1]; exact below_alloc _ _
  have hbx : Arr.Blk W1 W.heap.size 29 (encV x) := by rw [hW1]; exact Arr.blk_new W _ _ _ rfl
  have hx1 := in_keep hx hb1
  have HBx := Lib.hid (And.intro (box_cells hbx) (And.intro hb1 (Arr.blk_lt hbx)))
  obtain ⟨t, ht⟩ : ∃ t : Sn, t = x.t := ⟨_, rfl⟩
  rw [← ht]
  obtain ⟨sq, wd, nx, fs, ls, rs, js, ks, ⟨af, nf, cf⟩, ⟨al, nl, cl⟩, ⟨ar, nr, cr⟩, ⟨aj, nj, cj⟩, ⟨ak, nk, ck⟩⟩ := x
  obtain ⟨g1, g2, g3, g4, g5, g6⟩ := hx1
  simp only at g1 g2 g3 g4 g5 g6 HBx hW1 ⊢
  have HW1 := Lib.hid hW1
  have HB := Lib.hid (And.intro hb1 (show W.heap.size + 1 ≤ W1.heap.size by have := HBx.out.2.2; omega))
  have HCs := Lib.hid (fun w (hb : Below W1.heap.size W1 w) => cell_keep hb HBx.out.1.2.2.2.2.2.2.1)
  have HI := Lib.hid (And.intro g4 g6)
  have HN := Lib.hid (And.intro g1.len (And.intro g2.len (And.intro g3.len (And.intro g4.len g5.len))))
  have hm1 : nf ≤ 9223372036854775807 := by have h1 := g1.cap; have h2 := g1.max; unfold maxLen at h2; omega
  have hm2 : nl ≤ 9223372036854775807 := by have h1 := g2.cap; have h2 := g2.max; unfold maxLen at h2; omega
  have hm3 : nr ≤ 9223372036854775807 := by have h1 := g3.cap; have h2 := g3.max; unfold maxLen at h2; omega
  have hm4 : nj ≤ 9223372036854775807 := by have h1 := g4.cap; have h2 := g4.max; unfold maxLen at h2; omega
  have hm5 : nk ≤ 9223372036854775807 := by have h1 := g5.cap; have h2 := g5.max; unfold maxLen at h2; omega
  have HTt := Lib.hid (show t = ⟨sq, wd, nx, fs, ls, rs, js.map (·.t), ks⟩ from ht)
  clear g1 g2 g3 g4 g5 g6 hb1 hbx hx hW1 ht
  obtain ⟨q0, q1, q2, q3, q4, q5, q6, q7⟩ := HBx.out.1
  have HB1 := Lib.hid HBx.out.2.1
  have hhead : MayS t → (nf ≤ 8 ∧ nl ≤ 16 ∧ nr ≤ 16 ∧ nj ≤ 16 ∧ nk ≤ 8) ∧ 0 ≤ sq ∧ sq ≤ 1152921504606846976 ∧ 0 ≤ nx ∧ nx ≤ 1152921504606846976 := fun h => by
    obtain ⟨⟨h1, h2, h3, h4, h5⟩, ⟨h6, h7, h8, h9⟩, _⟩ := h
    rw [HTt.out] at h1 h2 h3 h4 h5 h6 h7 h8 h9
    simp only [List.length_map] at h1 h2 h3 h4 h5 h6 h7 h8 h9
    have hn := HN.out
    omega
  have HHd := Lib.hid hhead
  clear hhead
  by_cases hgood : (nf ≤ 8 ∧ nl ≤ 16 ∧ nr ≤ 16 ∧ nj ≤ 16 ∧ nk ≤ 8) ∧ 0 ≤ sq ∧ sq ≤ 1152921504606846976 ∧ 0 ≤ nx ∧ nx ≤ 1152921504606846976
  · obtain ⟨⟨k1, k2, k3, k4, k5⟩, k6, k7, k8, k9⟩ := hgood
    have t1 : ¬ (8 : Int) < (nf : Int) := by omega
    have t2 : ¬ (16 : Int) < (nl : Int) := by omega
    have t3 : ¬ (16 : Int) < (nr : Int) := by omega
    have t4 : ¬ (16 : Int) < (nj : Int) := by omega
    have t5 : ¬ (8 : Int) < (nk : Int) := by omega
    have t6 : ¬ sq < 0 := by omega
    have t7 : ¬ 1152921504606846976 < sq := by omega
    have t8 : ¬ nx < 0 := by omega
    have t9 : ¬ 1152921504606846976 < nx := by omega
    have HK := Lib.hid (And.intro (And.intro k1 (And.intro k2 (And.intro k3 (And.intro k4 k5)))) (And.intro k6 (And.intro k7 (And.intro k8 k9))))
    clear k6 k7 k8 k9 HBx HHd
    go_enter Tryz.func16, Tryz.ntmps16
    go_upto_region 1 with fail
    rw [show W.alloc (.cells #[.int .i64 sq, .int .i64 wd, .int .i64 nx, .slice af nf cf, .slice al nl cl, .slice ar nr cr, .slice aj nj cj, .slice ak nk ck] 29) = W1 from HW1.out.symm]
    go_wp2_with fail
    go_loopw [3] (fun iv wr => ∃ k : Nat, k ≤ nj ∧ iv = .int .i64 (k : Nat) ∧ Below W1.heap.size W1 wr ∧ ∀ x ∈ js.take k, MayJ x.t) (fun iv _ => nj - (intOf iv).toNat)
    case atStart => exact ⟨0, Nat.zero_le _, rfl, Below.refl _ _, all_none⟩
    case round =>
      obtain ⟨k, hk, rfl, hat, hall⟩ := hrel
      have q6 := HCs.out _ hat
      have HAl := Lib.hid hall
      clear hall t1 t2 t3 t4 t5 t6 t7 t8 t9
      by_cases hlt : k < nj
      · obtain ⟨y, hjb⟩ : ∃ x, js[k]? = some x := ⟨_, List.getElem?_eq_getElem (by rw [HN.out.2.2.2.1]; exact hlt)⟩
        obtain ⟨b, o, rfl⟩ := lst_at HI.out.1 (by omega)
        have hyi := HI.out.2 y (List.mem_of_getElem? hjb)
        have hall12 := job_all (lst_keep encJ_len HI.out.1 hat) hjb
        have HJb := Lib.hid hjb
        have HMj := Lib.hid (show MayS t → MayJ y.t from fun h => mayS_jobs h y.t (by rw [HTt.out]; exact List.mem_map.2 ⟨_, List.mem_of_getElem? HJb.out, rfl⟩))
        obtain ⟨⟨j0, j1, j2, j3, j4, j5, j6, j7, j8, j9, j10, ds⟩, ad, nd, cd⟩ := y
        simp only at hall12
        obtain ⟨c0, c1, c2, c3, c4, c5, c6, c7, c8, c9, c10, c11⟩ := hall12
        have hyl : Draws W1 ad nd cd ds := hyi
        have HDl := Lib.hid (And.intro hyl.len hyl)
        have hm : nd ≤ 9223372036854775807 := by have h1 := hyl.cap; have h2 := hyl.max; unfold maxLen at h2; omega
        have hba := below_alloc wr (.cells [.int .i64 j0, .int .i64 j1, .int .i64 j2, .int .i64 j3, .int .i64 j4, .int .i64 j5, .int .i64 j6, .int .i64 j7, .int .i64 j8, .int .i64 j9, .int .i64 j10, .slice ad nd cd].toArray 58)
        have hbl := Arr.blk_new wr wr.heap.size 58 [.int .i64 j0, .int .i64 j1, .int .i64 j2, .int .i64 j3, .int .i64 j4, .int .i64 j5, .int .i64 j6, .int .i64 j7, .int .i64 j8, .int .i64 j9, .int .i64 j10, .slice ad nd cd] rfl
        clear hjb hyi hyl
        go_upto_region 7 with fail
        obtain ⟨w5, hw5⟩ : ∃ x, x = wr.alloc (.cells #[.int .i64 j0, .int .i64 j1, .int .i64 j2, .int .i64 j3, .int .i64 j4, .int .i64 j5, .int .i64 j6, .int .i64 j7, .int .i64 j8, .int .i64 j9, .int .i64 j10, .slice ad nd cd] 58) := ⟨_, rfl⟩
        rw [show wr.alloc (.cells [Value.int .i64 j0, .int .i64 j1, .int .i64 j2, .int .i64 j3, .int .i64 j4, .int .i64 j5, .int .i64 j6, .int .i64 j7, .int .i64 j8, .int .i64 j9, .int .i64 j10, .slice ad nd cd].toArray 58) = w5 from hw5.symm] at hbl hba
        rw [← hw5]
        obtain ⟨B5, hB5⟩ : ∃ B5, B5 = wr.heap.size := ⟨_, rfl⟩
        rw [← hB5] at hbl ⊢
        have p3 := Arr.blk_cell hbl 3
        have p8 := Arr.blk_cell hbl 8
        have p11 := Arr.blk_cell hbl 11
        simp only [List.getElem?_cons_zero, List.getElem?_cons_succ] at p3 p8 p11
        have HBl := Lib.hid (And.intro (below_keep hat hba) hbl)
        clear hw5 hB5 hba hbl hat c0 c1 c2 c3 c4 c5 c6 c7 c8 c9 c10 c11 q6
        by_cases hg : (0 ≤ j8 ∧ j8 ≤ 1125899906842624 ∧ 0 ≤ j3 ∧ j3 ≤ 1125899906842624) ∧ nd ≤ 16
        · have e1 : ¬ j8 < 0 := by omega
          have e2 : ¬ 1125899906842624 < j8 := by omega
          have e3 : ¬ j3 < 0 := by omega
          have e4 : ¬ 1125899906842624 < j3 := by omega
          have e5 : ¬ (16 : Int) < (nd : Int) := by omega
          have hd16 := hg.2
          have HG := Lib.hid hg
          clear hg
          go_wp2_with fail
          go_loopw [5] (fun iv wq => ∃ q : Nat, q ≤ nd ∧ iv = .int .i64 (q : Nat) ∧ Below w5.heap.size w5 wq ∧ ∀ d ∈ ds.take q, 0 ≤ d.alloc ∧ d.alloc ≤ 15) (fun iv _ => nd - (intOf iv).toNat)
          case atStart => exact ⟨0, Nat.zero_le _, rfl, Below.refl _ _, all_none⟩
          case round =>
            obtain ⟨q, hq, rfl, hb, hds⟩ := hrel
            have p11 := cell_keep hb p11
            have HAd := Lib.hid hds
            clear hds e1 e2 e3 e4 e5 p3 p8
            by_cases hqn : q < nd
            · obtain ⟨⟨z0, z1⟩, hdw⟩ : ∃ x, ds[q]? = some x := ⟨_, List.getElem?_eq_getElem (by rw [HDl.out.1]; exact hqn)⟩
              obtain ⟨bd, od, rfl⟩ := lst_at HDl.out.2 (by omega)
              obtain ⟨d0, d1⟩ := draw_at (lst_keep encD_len HDl.out.2 (below_keep HBl.out.1 hb)) hdw
              simp only at d0 d1
              have HDw := Lib.hid hdw
              have HBq := Lib.hid hb
              clear hdw hb
              by_cases hz : 0 ≤ z0 ∧ z0 ≤ 15
              · have z1' : ¬ z0 < 0 := by omega
                have z2' : ¬ 15 < z0 := by omega
                have HAn := Lib.hid (all_next HDw.out HAd.out (show 0 ≤ z0 ∧ z0 ≤ 15 from hz))
                clear hz
                go_wp2_with fail
                go_roundw
                case rel => exact ⟨q + 1, by omega, by go_num, HBq.out, HAn.out⟩
                case measure => simp [intOf]; omega
              · have HBad := Lib.hid (show ¬ MayS t from fun hm => hz ((HMj.out hm).2 ⟨z0, z1⟩ (List.mem_of_getElem? HDw.out)))
                have hor : z0 < 0 ∨ (¬ z0 < 0 ∧ 15 < z0) := by omega
                clear hz
                rcases hor with z1' | ⟨z1', z2'⟩
                all_goals
                  go_wp2_with fail
                  go_ret
                  exact may_bad HBad.out (below_keep HB.out.1 (below_keep HBl.out.1 HBq.out))
            · obtain rfl : q = nd := by omega
              have HJ := Lib.hid (show ∀ x ∈ js.take (k + 1), MayJ x.t from all_next HJb.out HAl.out ⟨⟨HG.out.1.1, HG.out.1.2.1, HG.out.1.2.2.1, HG.out.1.2.2.2, by have := HDl.out.1; show ds.length ≤ 16; omega⟩, by
                have h := HAd.out
                rw [List.take_of_length_le (by rw [HDl.out.1]; exact Nat.le_refl _)] at h
                exact h⟩)
              have HBq := Lib.hid (below_keep HBl.out.1 hb)
              clear hb
              go_wp2_with fail
              go_roundw
              case rel => exact ⟨k + 1, by omega, by go_num, HBq.out, HJ.out⟩
              case measure => simp [intOf]; omega
        · have HBad := Lib.hid (show ¬ MayS t from fun hm => hg (by
            obtain ⟨⟨h1, h2, h3, h4, h5⟩, _⟩ := HMj.out hm
            have h6 := HDl.out.1
            simp only at h1 h2 h3 h4 h5
            omega))
          have hor : (j8 < 0) ∨ (¬ j8 < 0 ∧ 1125899906842624 < j8) ∨ (¬ j8 < 0 ∧ ¬ 1125899906842624 < j8 ∧ j3 < 0) ∨ (¬ j8 < 0 ∧ ¬ 1125899906842624 < j8 ∧ ¬ j3 < 0 ∧ 1125899906842624 < j3) ∨ (¬ j8 < 0 ∧ ¬ 1125899906842624 < j8 ∧ ¬ j3 < 0 ∧ ¬ 1125899906842624 < j3 ∧ (16 : Int) < (nd : Int)) := by omega
          clear hg
          rcases hor with e1 | ⟨e1, e2⟩ | ⟨e1, e2, e3⟩ | ⟨e1, e2, e3, e4⟩ | ⟨e1, e2, e3, e4, e5⟩
          all_goals
            go_wp2_with fail
            go_ret
            exact may_bad HBad.out (below_keep HB.out.1 HBl.out.1)
      · obtain rfl : k = nj := by omega
        have HT := Lib.hid (show js.take k = js from List.take_of_length_le (by rw [HN.out.2.2.2.1]; exact Nat.le_refl _))
        have HA := Lib.hid hat
        have HM := Lib.hid (show MayS t by
          have hn := HN.out
          have hkk := HK.out
          rw [HTt.out]
          refine ⟨⟨by simp only; omega, by simp only; omega, by simp only; omega, by simp only [List.length_map]; omega, by simp only; omega⟩, hkk.2, fun j hj => ?_⟩
          obtain ⟨y, hy, rfl⟩ := List.mem_map.1 hj
          have h := HAl.out
          rw [HT.out] at h
          exact h y hy)
        clear hat
        go_wp2_with fail
        go_ret
        exact may_ok HM.out (below_keep HB.out.1 HA.out)
  · have HBad := Lib.hid (show ¬ MayS t from fun h => hgood (HHd.out h))
    have hor : (8 : Int) < (nf : Int) ∨ (¬ (8 : Int) < (nf : Int) ∧ (16 : Int) < (nl : Int)) ∨ (¬ (8 : Int) < (nf : Int) ∧ ¬ (16 : Int) < (nl : Int) ∧ (16 : Int) < (nr : Int)) ∨ (¬ (8 : Int) < (nf : Int) ∧ ¬ (16 : Int) < (nl : Int) ∧ ¬ (16 : Int) < (nr : Int) ∧ (16 : Int) < (nj : Int)) ∨ (¬ (8 : Int) < (nf : Int) ∧ ¬ (16 : Int) < (nl : Int) ∧ ¬ (16 : Int) < (nr : Int) ∧ ¬ (16 : Int) < (nj : Int) ∧ (8 : Int) < (nk : Int)) ∨ (¬ (8 : Int) < (nf : Int) ∧ ¬ (16 : Int) < (nl : Int) ∧ ¬ (16 : Int) < (nr : Int) ∧ ¬ (16 : Int) < (nj : Int) ∧ ¬ (8 : Int) < (nk : Int) ∧ sq < 0) ∨ (¬ (8 : Int) < (nf : Int) ∧ ¬ (16 : Int) < (nl : Int) ∧ ¬ (16 : Int) < (nr : Int) ∧ ¬ (16 : Int) < (nj : Int) ∧ ¬ (8 : Int) < (nk : Int) ∧ ¬ sq < 0 ∧ 1152921504606846976 < sq) ∨ (¬ (8 : Int) < (nf : Int) ∧ ¬ (16 : Int) < (nl : Int) ∧ ¬ (16 : Int) < (nr : Int) ∧ ¬ (16 : Int) < (nj : Int) ∧ ¬ (8 : Int) < (nk : Int) ∧ ¬ sq < 0 ∧ ¬ 1152921504606846976 < sq ∧ nx < 0) ∨ (¬ (8 : Int) < (nf : Int) ∧ ¬ (16 : Int) < (nl : Int) ∧ ¬ (16 : Int) < (nr : Int) ∧ ¬ (16 : Int) < (nj : Int) ∧ ¬ (8 : Int) < (nk : Int) ∧ ¬ sq < 0 ∧ ¬ 1152921504606846976 < sq ∧ ¬ nx < 0 ∧ 1152921504606846976 < nx) := by omega
    clear hgood HBx HN HHd
    rcases hor with t1 | ⟨t1, t2⟩ | ⟨t1, t2, t3⟩ | ⟨t1, t2, t3, t4⟩ | ⟨t1, t2, t3, t4, t5⟩ | ⟨t1, t2, t3, t4, t5, t6⟩ | ⟨t1, t2, t3, t4, t5, t6, t7⟩ | ⟨t1, t2, t3, t4, t5, t6, t7, t8⟩ | ⟨t1, t2, t3, t4, t5, t6, t7, t8, t9⟩
    all_goals
      go_enter Tryz.func16, Tryz.ntmps16
      go_upto_region 1 with fail
      rw [show W.alloc (.cells #[.int .i64 sq, .int .i64 wd, .int .i64 nx, .slice af nf cf, .slice al nl cl, .slice ar nr cr, .slice aj nj cj, .slice ak nk ck] 29) = W1 from HW1.out.symm]
      go_wp2_with fail
      go_ret
      exact may_bad HBad.out HB1.out
end Go.Proofs.YtjcndgopijpibaaGreat.Bok
/- Entry: two transactions that are one (the document's Same). -/
namespace Go.Proofs.YtjcndgopijpibaaGreat.Ent
set_option maxRecDepth 100000
open Go.RowKit
open Go.Sort
open Kit
open Tre (Lst inI lst_keep lst_take lst_at lst_new lst_none i64_wf cells_int IntsL int_cell encI encI_len encI_one OwI own_chg' info_i run_ld2 below_drewN')
open Led (Lg encG encG_len encG_one Legs leg_cells)
set_option linter.unusedVariables false
variable {w w' : World}
theorem text_ne {a b : ByteArray} (h : a ≠ b) : ¬ a.toList = b.toList := fun e => h (by
  rw [ByteArray.toList_eq, ByteArray.toList_eq] at e
  exact ByteArray.ext (Array.toList_inj.1 e))
theorem diff_at {α : Type} : ∀ (l k : List α), l.length = k.length → (∀ (i : Nat) (x y : α), l[i]? = some x → k[i]? = some y → x = y) → l = k
  | [], [], _, _ => rfl
  | x :: l, y :: k, h, hi => by
    have h0 := hi 0 x y rfl rfl
    have h1 := diff_at l k (by simpa using h) fun i a b ha hb => hi (i + 1) a b (by simpa using ha) (by simpa using hb)
    rw [h0, h1]
  | [], _ :: _, h, _ => by simp at h
  | _ :: _, [], h, _ => by simp at h
set_option maxHeartbeats 16000000 in
theorem rsame_any (W : World) (x y : Tv) (hx : x.In W) (hy : y.In W) :
    Calls Tryz.prog 12 #[valV x, valV y] W fun e W' => ∃ b, e = .returned (.bool b) ∧ (b = true ↔ x.t = y.t) ∧ Below W.heap.size W W' := by
  obtain ⟨⟨sq, tm, kd, ky, nm, ag, lg⟩, a1, n1, c1, a2, n2, c2⟩ := x
  obtain ⟨⟨sq', tm', kd', ky', nm', ag', lg'⟩, a1', n1', c1', a2', n2', c2'⟩ := y
  obtain ⟨g1, g2, g3, g4⟩ := hx
  obtain ⟨h1, h2, h3, h4⟩ := hy
  simp only at g1 g2 g3 g4 h1 h2 h3 h4 ⊢
  have hb1 := below_alloc W (.cells #[.int .i64 sq, .int .i64 tm, .int .i64 kd, .string ky, .string nm, .slice a1 n1 c1, .slice a2 n2 c2] 34)
  have hb2 := below_alloc (W.alloc (.cells #[.int .i64 sq, .int .i64 tm, .int .i64 kd, .string ky, .string nm, .slice a1 n1 c1, .slice a2 n2 c2] 34)) (.cells #[.int .i64 sq', .int .i64 tm', .int .i64 kd', .string ky', .string nm', .slice a1' n1' c1', .slice a2' n2' c2'] 34)
  have HB := Lib.hid (below_keep hb1 hb2)
  have HI := Lib.hid (And.intro g1 (And.intro g2 (And.intro h1 h2)))
  have HLn := Lib.hid (And.intro g1.len (And.intro g2.len (And.intro h1.len h2.len)))
  have hn1 : n1 ≤ 9223372036854775807 := by have e1 := g1.cap; have e2 := g1.max; unfold maxLen at e2; omega
  have hn2 : n2 ≤ 9223372036854775807 := by have e1 := g2.cap; have e2 := g2.max; unfold maxLen at e2; omega
  have hn1' : n1' ≤ 9223372036854775807 := by have e1 := h1.cap; have e2 := h1.max; unfold maxLen at e2; omega
  have hn2' : n2' ≤ 9223372036854775807 := by have e1 := h2.cap; have e2 := h2.max; unfold maxLen at e2; omega
  clear g1 g2 g3 g4 h1 h2 h3 h4 hb1 hb2
  by_cases hh : sq = sq' ∧ tm = tm' ∧ kd = kd' ∧ ky = ky' ∧ nm = nm' ∧ n1 = n1' ∧ n2 = n2'
  · obtain ⟨rfl, rfl, rfl, rfl, rfl, rfl, rfl⟩ := hh
    go_enter Tryz.func12, Tryz.ntmps12
    go_wp2_with fail
    obtain ⟨w2, hw2⟩ : ∃ x, x = (W.alloc (.cells #[.int .i64 sq, .int .i64 tm, .int .i64 kd, .string ky, .string nm, .slice a1 n1 c1, .slice a2 n2 c2] 34)).alloc (.cells #[.int .i64 sq, .int .i64 tm, .int .i64 kd, .string ky, .string nm, .slice a1' n1 c1', .slice a2' n2 c2'] 34) := ⟨_, rfl⟩
    have hcx : (w2.cell? ⟨W.heap.size, 5, none⟩ = some (.slice a1 n1 c1) ∧ w2.cell? ⟨W.heap.size, 6, none⟩ = some (.slice a2 n2 c2)) ∧ w2.cell? ⟨W.heap.size + 1, 5, none⟩ = some (.slice a1' n1 c1') ∧ w2.cell? ⟨W.heap.size + 1, 6, none⟩ = some (.slice a2' n2 c2') := by
      have hz : (W.alloc (.cells #[.int .i64 sq, .int .i64 tm, .int .i64 kd, .string ky, .string nm, .slice a1 n1 c1, .slice a2 n2 c2] 34)).heap.size = W.heap.size + 1 := by simp
      rw [hw2]
      refine ⟨⟨cell_alloc (by rw [World.cell?_alloc_new]; rfl), cell_alloc (by rw [World.cell?_alloc_new]; rfl)⟩, ?_, ?_⟩
      · rw [← hz, World.cell?_alloc_new]; rfl
      · rw [← hz, World.cell?_alloc_new]; rfl
    rw [← hw2] at HB ⊢
    have HC := Lib.hid hcx
    clear hcx hw2
    go_loopw [5] (fun iv wr => ∃ k : Nat, k ≤ n1 ∧ iv = .int .i64 (k : Nat) ∧ (∀ (i : Nat) (u v : Int), i < k → ag[i]? = some u → ag'[i]? = some v → u = v) ∧ Below w2.heap.size w2 wr) (fun iv _ => n1 - (intOf iv).toNat)
    case atStart => exact ⟨0, Nat.zero_le _, rfl, (fun i u v hi => by omega), Below.refl _ _⟩
    case round =>
      obtain ⟨k, hk, rfl, hal, hb⟩ := hrel
      have HO := Lib.hid (And.intro hal hb)
      have q1 := cell_keep hb HC.out.1.1
      have q2 := cell_keep hb HC.out.2.1
      by_cases hlt : k < n1
      · have hk1 : k < ag.length := by rw [HLn.out.1]; exact hlt
        have hk2 : k < ag'.length := by rw [HLn.out.2.2.1]; exact hlt
        obtain ⟨b, o, rfl⟩ := lst_at HI.out.1 (by omega)
        obtain ⟨b', o', rfl⟩ := lst_at HI.out.2.2.1 (by omega)
        have p1 := int_cell (lst_keep encI_len HI.out.1 (below_keep HB.out hb)) hk1
        have p2 := int_cell (lst_keep encI_len HI.out.2.2.1 (below_keep HB.out hb)) hk2
        have e1 := List.getElem?_eq_getElem hk1
        have e2 := List.getElem?_eq_getElem hk2
        generalize ag[k] = u at p1 e1
        generalize ag'[k] = v at p2 e2
        have HE := Lib.hid (And.intro e1 e2)
        clear hal hb e1 e2 hk1 hk2
        by_cases huv : u = v
        · subst huv
          go_wp2_with fail
          go_quiet (fail)
          go_wp2_with fail
          go_roundw
          case rel => exact ⟨k + 1, by omega, by go_num, fun i x y hi hx hy => by
            rcases Nat.lt_succ_iff_lt_or_eq.1 hi with h | h
            · exact HO.out.1 i x y h hx hy
            · subst h
              have e1 := HE.out.1.symm.trans hx
              have e2 := HE.out.2.symm.trans hy
              injection e1 with e1
              injection e2 with e2
              rw [← e1, ← e2], below_keep HO.out.2 (below_drewN' _ _)⟩
          case measure => simp [intOf]; omega
        · have HNe := Lib.hid (show ¬ (⟨sq, tm, kd, ky, nm, ag, lg⟩ : Tx) = ⟨sq, tm, kd, ky, nm, ag', lg'⟩ from fun e => by
            injection e with _ _ _ _ _ e6 _
            have e1 := HE.out.1
            rw [e6, HE.out.2] at e1
            injection e1 with e1
            exact huv e1.symm)
          have hne : (u == v) = false := beq_false_of_ne huv
          clear huv
          go_wp2_with fail
          go_quiet (fail)
          go_wp2_with fail
          go_ret
          exact ⟨false, rfl, ⟨(fun h => by cases h), fun h => absurd h HNe.out⟩, below_keep HB.out (below_keep HO.out.2 (below_drewN' _ _))⟩
      · obtain rfl : k = n1 := by omega
        have HAg := Lib.hid (show ag = ag' from diff_at ag ag' (by rw [HLn.out.1, HLn.out.2.2.1]) fun i u v hu hv => HO.out.1 i u v (by rw [← HLn.out.1]; exact (List.getElem?_eq_some_iff.1 hu).1) hu hv)
        clear hal hb
        go_wp2_with fail
        go_loopw [6] (fun iv wx => ∃ j : Nat, j ≤ n2 ∧ iv = .int .i64 (j : Nat) ∧ (∀ (i : Nat) (u v : Lg), i < j → lg[i]? = some u → lg'[i]? = some v → u = v) ∧ Below w2.heap.size w2 wx) (fun iv _ => n2 - (intOf iv).toNat)
        case atStart => exact ⟨0, Nat.zero_le _, rfl, (fun i u v hi => by omega), HO.out.2⟩
        case round =>
          obtain ⟨j, hj, rfl, hal, hb⟩ := hrel
          have HP := Lib.hid (And.intro hal hb)
          have q3 := cell_keep hb HC.out.1.2
          have q4 := cell_keep hb HC.out.2.2
          clear q1 q2
          by_cases hlt2 : j < n2
          · have hk1 : j < lg.length := by rw [HLn.out.2.1]; exact hlt2
            have hk2 : j < lg'.length := by rw [HLn.out.2.2.2]; exact hlt2
            obtain ⟨b, o, rfl⟩ := lst_at HI.out.2.1 (by omega)
            obtain ⟨b', o', rfl⟩ := lst_at HI.out.2.2.2 (by omega)
            obtain ⟨p1, p2⟩ := leg_cells (lst_keep encG_len HI.out.2.1 (below_keep HB.out hb)) hk1
            obtain ⟨p3, p4⟩ := leg_cells (lst_keep encG_len HI.out.2.2.2 (below_keep HB.out hb)) hk2
            have e1 := List.getElem?_eq_getElem hk1
            have e2 := List.getElem?_eq_getElem hk2
            generalize lg[j] = u at p1 p2 e1
            generalize lg'[j] = v at p3 p4 e2
            obtain ⟨uc, um⟩ := u
            obtain ⟨vc, vm⟩ := v
            simp only at p1 p2 p3 p4
            have HE := Lib.hid (And.intro e1 e2)
            clear hal hb e1 e2 hk1 hk2
            by_cases huv : uc = vc ∧ um = vm
            · obtain ⟨rfl, rfl⟩ := huv
              go_wp2_with fail
              go_quiet (fail)
              go_wp2_with fail
              go_roundw
              case rel => exact ⟨j + 1, by omega, by go_num, fun i x y hi hx hy => by
                rcases Nat.lt_succ_iff_lt_or_eq.1 hi with h | h
                · exact HP.out.1 i x y h hx hy
                · subst h
                  have e1 := HE.out.1.symm.trans hx
                  have e2 := HE.out.2.symm.trans hy
                  injection e1 with e1
                  injection e2 with e2
                  rw [← e1, ← e2], below_keep HP.out.2 (below_drewN' _ _)⟩
              case measure => simp [intOf]; omega
            · have HNe := Lib.hid (show ¬ (⟨sq, tm, kd, ky, nm, ag, lg⟩ : Tx) = ⟨sq, tm, kd, ky, nm, ag', lg'⟩ from fun e => by
                injection e with _ _ _ _ _ _ e7
                have e1 := HE.out.1
                rw [e7, HE.out.2] at e1
                injection e1 with e1
                injection e1 with e1 e2
                exact huv ⟨e1.symm, e2.symm⟩)
              have hor : ((uc == vc) = false) ∨ (uc = vc ∧ (um == vm) = false) := by
                by_cases h : uc = vc
                · exact .inr ⟨h, beq_false_of_ne fun h2 => huv ⟨h, h2⟩⟩
                · exact .inl (beq_false_of_ne h)
              clear huv
              rcases hor with t1 | ⟨rfl, t1⟩
              all_goals
                go_wp2_with fail
                go_quiet (fail)
                go_wp2_with fail
                go_ret
                exact ⟨false, rfl, ⟨(fun h => by cases h), fun h => absurd h HNe.out⟩, below_keep HB.out (below_keep HP.out.2 (below_drewN' _ _))⟩
          · obtain rfl : j = n2 := by omega
            have HLg := Lib.hid (show lg = lg' from diff_at lg lg' (by rw [HLn.out.2.1, HLn.out.2.2.2]) fun i u v hu hv => HP.out.1 i u v (by rw [← HLn.out.2.1]; exact (List.getElem?_eq_some_iff.1 hu).1) hu hv)
            clear hal hb
            go_wp2_with fail
            go_ret
            exact ⟨true, rfl, ⟨fun _ => by rw [HAg.out, HLg.out], fun _ => rfl⟩, below_keep HB.out HP.out.2⟩
  · have hor : (¬ sq = sq') ∨ (sq = sq' ∧ ¬ tm = tm') ∨ (sq = sq' ∧ tm = tm' ∧ ¬ kd = kd') ∨ (sq = sq' ∧ tm = tm' ∧ kd = kd' ∧ ¬ ky.toList = ky'.toList) ∨ (sq = sq' ∧ tm = tm' ∧ kd = kd' ∧ ky = ky' ∧ ¬ nm.toList = nm'.toList) ∨ (sq = sq' ∧ tm = tm' ∧ kd = kd' ∧ ky = ky' ∧ nm = nm' ∧ ¬ (n1 : Int) = (n1' : Int)) ∨ (sq = sq' ∧ tm = tm' ∧ kd = kd' ∧ ky = ky' ∧ nm = nm' ∧ n1 = n1' ∧ ¬ (n2 : Int) = (n2' : Int)) := by
      by_cases e1 : sq = sq'
      · by_cases e2 : tm = tm'
        · by_cases e3 : kd = kd'
          · by_cases e4 : ky = ky'
            · by_cases e5 : nm = nm'
              · by_cases e6 : n1 = n1'
                · have e7 : n2 ≠ n2' := fun e7 => hh ⟨e1, e2, e3, e4, e5, e6, e7⟩
                  exact .inr (.inr (.inr (.inr (.inr (.inr ⟨e1, e2, e3, e4, e5, e6, by omega⟩)))))
                · exact .inr (.inr (.inr (.inr (.inr (.inl ⟨e1, e2, e3, e4, e5, by omega⟩)))))
              · exact .inr (.inr (.inr (.inr (.inl ⟨e1, e2, e3, e4, text_ne e5⟩))))
            · exact .inr (.inr (.inr (.inl ⟨e1, e2, e3, text_ne e4⟩)))
          · exact .inr (.inr (.inl ⟨e1, e2, e3⟩))
        · exact .inr (.inl ⟨e1, e2⟩)
      · exact .inl (e1)
    have HNe := Lib.hid (show ¬ (⟨sq, tm, kd, ky, nm, ag, lg⟩ : Tx) = ⟨sq', tm', kd', ky', nm', ag', lg'⟩ from fun e => by
      injection e with e1 e2 e3 e4 e5 e6 e7
      refine hh ⟨e1, e2, e3, e4, e5, ?_, ?_⟩
      · rw [← HLn.out.1, ← HLn.out.2.2.1, e6]
      · rw [← HLn.out.2.1, ← HLn.out.2.2.2, e7])
    clear hh
    rcases hor with t1 | ⟨rfl, t1⟩ | ⟨rfl, rfl, t1⟩ | ⟨rfl, rfl, rfl, t1⟩ | ⟨rfl, rfl, rfl, rfl, t1⟩ | ⟨rfl, rfl, rfl, rfl, rfl, t1⟩ | ⟨rfl, rfl, rfl, rfl, rfl, rfl, t1⟩
    all_goals
      go_enter Tryz.func12, Tryz.ntmps12
      go_wp2_with fail
      go_ret
      exact ⟨false, rfl, ⟨(fun h => by cases h), fun h => absurd h HNe.out⟩, HB.out⟩
end Go.Proofs.YtjcndgopijpibaaGreat.Ent
