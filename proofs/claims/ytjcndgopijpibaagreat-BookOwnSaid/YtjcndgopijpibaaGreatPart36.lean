/- Common to the claims of this seat, part 36: texts that were written one by one, laid behind one another. -/
import Derived.Test.YtjcndgopijpibaaGreatPart6
import Derived.Test.YtjcndgopijpibaaGreatPart11
import Derived.Test.YtjcndgopijpibaaGreatPart12
import Derived.Test.YtjcndgopijpibaaGreatPart13
import Derived.Test.YtjcndgopijpibaaGreatPart14
import Derived.Test.YtjcndgopijpibaaGreatPart15
import Derived.Test.YtjcndgopijpibaaGreatPart35
/- Book, the landed: draws of nothing go (the library's slices.IndexFunc, slices.DeleteFunc). -/
namespace Go.Proofs.YtjcndgopijpibaaGreat.Bok
set_option maxRecDepth 100000
open Go.RowKit
open Go.Sort
open Kit
open Foot
open Tre (Lst inI lst_keep lst_at lst_new lst_none encF encF_len encL_len IntsL goodB)
open Led (Lg encG encG_len)
open Job (Jb Jv Jobs encJ encJ_len encJ_one findI)
open Drw (Dw Draws encD encD_len encD_one)
open Go.Proofs.YtjcndgopijpibaaGreat.Ord (ts)
open Snp (Sn Sv encK encK_len encK_one)
set_option linter.unusedVariables false
variable {w w' W0 W : World} {B : Nat}
theorem none_any (W : World) (x : Dw) (z : Bool) (hz : (x.amt == 0) = z) : Calls Tryz.prog 129 #[.agg #[.int .i64 x.alloc, .int .i64 x.amt]] W fun e w' => e = .returned (.bool z) ∧ Below W.heap.size W w' := by
  obtain ⟨x0, x1⟩ := x
  have hb := Lib.hid (below_alloc W (.cells #[.int .i64 x0, .int .i64 x1] 63))
  simp only at hz ⊢
  go_enter Tryz.func129, Tryz.ntmps129
  go_wp2_with fail
  go_ret
  exact ⟨by first | rfl | exact ret_bool hz, hb.out⟩
theorem cut_first : ∀ l : List Dw, ∃ A Z, l = A ++ Z ∧ (∀ x ∈ A, x.amt ≠ 0) ∧ (∀ z, Z.head? = some z → z.amt = 0)
  | [] => ⟨[], [], rfl, (fun x h => by cases h), (fun z h => by cases h)⟩
  | x :: l => by
    by_cases hx : x.amt = 0
    · exact ⟨[], x :: l, rfl, (fun x h => by cases h), (fun z h => by simp at h; rw [← h]; exact hx)⟩
    · obtain ⟨A, Z, e, h1, h2⟩ := cut_first l
      refine ⟨x :: A, Z, by rw [e]; rfl, fun y hy => ?_, h2⟩
      rcases List.mem_cons.1 hy with rfl | hy
      · exact hx
      · exact h1 y hy
set_option maxHeartbeats 4000000 in
theorem idx_any (W : World) (a : Option Addr) (n c : Nat) (A Z : List Dw) (h : Draws W a n c (A ++ Z)) (hA : ∀ x ∈ A, x.amt ≠ 0) (hZ : ∀ z, Z.head? = some z → z.amt = 0) :
    Calls Tryz.prog 150 #[.slice a n c, .func (.func 129) #[] #[]] W fun e w' => e = .returned (.int .i64 (Drw.idxZ A Z)) ∧ Below W.heap.size W w' := by
  have hm1 : n ≤ 9223372036854775807 := by have := h.cap; have := h.max; unfold maxLen at this; omega
  have HL := Lib.hid (And.intro h (And.intro h.len (And.intro hA hZ)))
  clear h hA hZ
  go_enter Tryz.func150, Tryz.ntmps150
  go_wp2_with fail
  go_loopw [5, 8] (fun _ i wr => ∃ k : Nat, k ≤ n ∧ k ≤ A.length ∧ i = .int .i64 (k : Nat) ∧ Below W.heap.size W wr) (fun _ i _ => n - (intOf i).toNat)
  case atStart => exact ⟨0, Nat.zero_le _, Nat.zero_le _, rfl, Below.refl _ _⟩
  case round =>
    obtain ⟨k, hk, hkA, rfl, hb⟩ := hrel
    have HB := Lib.hid hb
    clear hb
    by_cases hlt : k < n
    · have hkl : k < (A ++ Z).length := by rw [HL.out.2.1]; exact hlt
      obtain ⟨b, o, rfl⟩ := lst_at HL.out.1 (by omega)
      obtain ⟨q0, q1⟩ := Drw.draw_cells (lst_keep encD_len HL.out.1 HB.out) hkl
      by_cases hka : k < A.length
      · have hne : (A ++ Z)[k].amt ≠ 0 := by
          rw [List.getElem_append_left hka]
          exact HL.out.2.2.1 _ (List.getElem_mem hka)
        generalize (A ++ Z)[k] = x at *
        have HC := Lib.hid (none_any wr x false (beq_false_of_ne hne))
        obtain ⟨x0, x1⟩ := x
        simp only at q0 q1 HC
        clear hne
        go_wp2_with fail
        refine HC.out.mono ?_
        rintro e w2 ⟨rfl, hb2⟩
        have HB2 := Lib.hid (below_keep HB.out hb2)
        clear hb2
        go_wp2_with fail
        go_roundw
        case rel => exact ⟨k + 1, by omega, by omega, by go_num, HB2.out⟩
        case measure => simp [intOf]; omega
      · obtain rfl : k = A.length := by omega
        have hz : (A ++ Z)[A.length].amt = 0 := by
          rw [List.getElem_append_right (Nat.le_refl _)]
          refine HL.out.2.2.2 _ ?_
          have hl0 : 0 < Z.length := by rw [List.length_append] at hkl; omega
          cases Z with
          | nil => simp at hl0
          | cons z Z => simp
        have HE := Lib.hid (show Drw.idxZ A Z = A.length by
          unfold Drw.idxZ
          rw [if_neg]
          intro e
          rw [e] at hkl
          simp at hkl)
        generalize (A ++ Z)[A.length] = x at *
        have HC := Lib.hid (none_any wr x true (beq_iff_eq.2 hz))
        obtain ⟨x0, x1⟩ := x
        simp only at q0 q1 HC
        clear hz hkl hka
        go_wp2_with fail
        refine HC.out.mono ?_
        rintro e w2 ⟨rfl, hb2⟩
        have HB2 := Lib.hid (below_keep HB.out hb2)
        clear hb2
        go_wp2_with fail
        go_ret
        exact ⟨by rw [HE.out]; rfl, HB2.out⟩
    · have HE := Lib.hid (show Drw.idxZ A Z = -1 by
        unfold Drw.idxZ
        rw [if_pos]
        have := HL.out.2.1
        rw [List.length_append] at this
        exact List.length_eq_zero_iff.1 (by omega))
      obtain rfl : n = k := by omega
      go_wp2_with fail
      go_ret
      exact ⟨by rw [HE.out]; rfl, HB.out⟩
theorem own_clear2 {base g cap : Nat} {A Z : List Dw} (h : Owns encD 2 63 w base (.slice (some ⟨g, 0, none⟩) (A ++ Z).length cap) (A ++ Z)) (hz : Z ≠ []) :
    ∃ w2, (∀ ty, (Builtin.clear_ #[56] ty #[.slice (some ⟨g, A.length * 2, none⟩) ((A ++ Z).length - A.length) (cap - A.length)]).run Tryz.prog w = .ok (.tuple #[]) w2) ∧ Owns encD 2 63 w2 base (.slice (some ⟨g, 0, none⟩) A.length cap) A ∧ Chg (fun k => k = g) w w2 := by
  have hzl : 0 < Z.length := List.length_pos_iff.2 hz
  have hal : (A ++ Z).length = A.length + Z.length := List.length_append
  obtain ⟨cur, hbl, -, h1, h2, h3, h4, hg⟩ := blk_of_own encD_len h
  obtain ⟨cs', k1, k2, k3⟩ := Drw.set_blk g 63 (List.replicate (Z.length * 2) (Value.int .i64 0)) (A.length * 2) w cur hbl
  refine ⟨w.setCells g (A.length * 2) (List.replicate (Z.length * 2) (Value.int .i64 0)), fun ty => ?_, ?_, Drw.set_chgs g _ _ w w (chg_refl _ w)⟩
  · rw [show (A ++ Z).length - A.length = Z.length by omega]
    refine Drw.run_clear_d w ty g (A.length * 2) Z.length _ hzl (fun j hj => ?_) (fun j hj => Arr.blk_frozen hbl _)
    rw [Arr.blk_cell hbl]
    have : A.length * 2 + j < cur.length := by omega
    rw [List.getElem?_eq_getElem this]; rfl
  · refine own_of_blk encD_len k1 (by omega) h2 (by rw [k2]; exact h3) ?_ hg
    rw [k3 _ (Nat.le_refl _)]
    have e3 : (cur.take ((A ++ Z).length * 2)).take (A.length * 2) = (flat encD (A ++ Z)).take (A.length * 2) := by rw [h4]
    rw [List.take_take, Nat.min_eq_left (by omega), flat_append, ← flat_length encD_len A, List.take_left, flat_length encD_len A] at e3
    exact e3
end Go.Proofs.YtjcndgopijpibaaGreat.Bok
/- Book, the landed: draws of nothing go, whole. -/
namespace Go.Proofs.YtjcndgopijpibaaGreat.Bok
set_option maxRecDepth 100000
open Go.RowKit
open Go.Sort
open Kit
open Foot
open Tre (Lst inI lst_keep lst_at lst_new lst_none encF encF_len encL_len IntsL goodB)
open Led (Lg encG encG_len)
open Job (Jb Jv Jobs encJ encJ_len encJ_one findI)
open Drw (Dw Draws encD encD_len encD_one)
open Go.Proofs.YtjcndgopijpibaaGreat.Ord (ts)
open Snp (Sn Sv encK encK_len encK_one)
set_option linter.unusedVariables false
variable {w w' W0 W : World} {B : Nat}
theorem someD_snoc (l : List Dw) (x : Dw) : someD (l ++ [x]) = if x.amt = 0 then someD l else someD l ++ [x] := by
  unfold someD
  rw [List.filter_append]
  by_cases h : x.amt = 0 <;> simp [h]
theorem someD_step {l : List Dw} {k : Nat} {x : Dw} (h : l[k]? = some x) : someD (l.take (k + 1)) = if x.amt = 0 then someD (l.take k) else someD (l.take k) ++ [x] := by
  obtain ⟨hk, e⟩ := List.getElem?_eq_some_iff.1 h
  rw [List.take_succ_eq_append_getElem hk, e, someD_snoc]
theorem someD_all {l : List Dw} (h : ∀ x ∈ l, x.amt ≠ 0) : someD l = l := List.filter_eq_self.2 fun x hx => by simpa using h x hx
set_option maxHeartbeats 16000000 in
theorem any_any (W : World) (base : Nat) (v : Value) (l : List Dw) (hO : Owns encD 2 63 W base v l) (hbs : base ≤ W.heap.size) (hl100 : l.length ≤ 100) :
    Calls Tryz.prog 128 #[v, .func (.func 129) #[] #[]] W fun e w' => ∃ v', e = .returned v' ∧ Owns encD 2 63 w' base v' (someD l) ∧ Chg (fun k => some k = v.ownBlock) W w' := by
  obtain ⟨A, Z, hcut, hA, hZ⟩ := cut_first l
  obtain ⟨a, c, rfl, hrc, hrm, hrn, hrow⟩ := owns_row encD_len hO
  have hL := own_lst encD_len hO
  have HI := Lib.hid (idx_any W a _ c A Z (by rw [← hcut]; exact hL) hA hZ)
  by_cases hz : Z = []
  · subst hz
    have hi : Drw.idxZ A [] = -1 := rfl
    rw [hi] at HI
    have HS := Lib.hid (show someD l = l from someD_all (by rw [hcut, List.append_nil]; exact hA))
    have HO := Lib.hid hO
    clear hO hL hA hZ hi hbs hrc hrm hrn hrow
    obtain ⟨n, hn⟩ : ∃ n, n = l.length := ⟨_, rfl⟩
    rw [← hn] at HI HO ⊢
    clear hcut hn hl100
    go_enter Tryz.func128, Tryz.ntmps128
    go_wp2_with fail
    refine HI.out.mono ?_
    rintro e w2 ⟨rfl, hb2⟩
    have HB2 := Lib.hid (And.intro (Nest.own_on HO.out hb2) (new_chg hb2 (fun k => some k = (Value.slice a n c).ownBlock)))
    clear hb2
    go_wp2_with fail
    go_ret
    exact ⟨_, rfl, by rw [HS.out]; exact HB2.out.1, HB2.out.2⟩
  · have hi : Drw.idxZ A Z = A.length := by unfold Drw.idxZ; rw [if_neg hz]
    rw [hi] at HI
    have hzl : 0 < Z.length := List.length_pos_iff.2 hz
    have hal : l.length = A.length + Z.length := by rw [hcut]; exact List.length_append
    obtain ⟨g, cap, hv, hg, hcap, hmx⟩ := owns_at encD_len hO (by omega)
    simp only [Value.slice.injEq, true_and] at hv
    obtain ⟨rfl, rfl⟩ := hv
    have hz0 : someD (l.take (A.length + 1)) = A := by
      cases Z with
      | nil => exact absurd rfl hz
      | cons z R =>
        have hzz : z.amt = 0 := hZ z rfl
        have : l.take (A.length + 1) = A ++ [z] := by
          rw [hcut, List.take_append, List.take_of_length_le (Nat.le_succ _), Nat.add_sub_cancel_left]
          rfl
        rw [this, someD_snoc, if_pos hzz, someD_all hA]
    obtain ⟨n, hn⟩ : ∃ n, n = l.length := ⟨_, rfl⟩
    have hAn : A.length < n := by omega
    have hlA : l.take A.length = A := by rw [hcut, List.take_left]
    rw [← hn] at HI hL hO ⊢
    obtain ⟨na, hna⟩ : ∃ na, na = A.length := ⟨_, rfl⟩
    rw [← hna] at HI hz0 hAn hlA
    have HO := Lib.hid (And.intro hO (And.intro (show na + 1 ≤ n by omega) (And.intro hn.symm (And.intro hz0 (And.intro hlA hna)))))
    have hcA : (na : Int) < (c : Int) := by omega
    have hm1 : n ≤ 9223372036854775807 := by omega
    have hcn : n ≤ c := by omega
    clear hO hL hA hZ hi hbs hrc hrm hrn hrow hcut hcap hmx hzl hal hz hz0 hlA hna hn hl100
    go_enter Tryz.func128, Tryz.ntmps128
    go_wp2_with fail
    refine HI.out.mono ?_
    rintro e w2 ⟨rfl, hb2⟩
    have HB2 := Lib.hid hb2
    clear hb2 HI
    have hne : ((na : Int) == -1) = false := beq_false_of_ne (by omega)
    go_wp2_with fail
    go_loopw [5, 6] (fun i5 i wr => ∃ (j i2 : Nat) (M : List Dw), i5 = .int .i64 (i2 : Nat) ∧ i = .int .i64 (j : Nat) ∧ (na + 1 ≤ j ∧ j ≤ n ∧ i2 < j ∧ M.length = n ∧ M.take i2 = someD (l.take j) ∧ M.drop j = l.drop j ∧ i2 = (someD (l.take j)).length) ∧ Owns encD 2 63 wr base (.slice (some ⟨g, 0, none⟩) n c) M ∧ Chg (fun k => k = g) W wr) (fun _ i _ => n - (intOf i).toNat)
    case atStart =>
      refine ⟨na + 1, na, l, rfl, by go_num, ⟨Nat.le_refl _, HO.out.2.1, Nat.lt_succ_self _, HO.out.2.2.1, ?_, rfl, ?_⟩, Nest.own_on HO.out.1 HB2.out, new_chg HB2.out _⟩
      · rw [HO.out.2.2.2.1]; exact HO.out.2.2.2.2.1
      · rw [HO.out.2.2.2.1]; exact HO.out.2.2.2.2.2
    case round =>
      obtain ⟨j, i2, M, rfl, rfl, hM, hown, hch⟩ := hrel
      have HM := Lib.hid hM
      have HW := Lib.hid (And.intro hown hch)
      clear hown hch
      by_cases hlt : j < n
      · have hjl : j < M.length := by rw [HM.out.2.2.2.1]; exact hlt
        have hjl2 : j < l.length := by rw [HO.out.2.2.1]; exact hlt
        have hget : M[j] = l[j] := by
          have e := congrArg (fun L => L[0]?) HM.out.2.2.2.2.2.1
          simp only [List.getElem?_drop, Nat.add_zero] at e
          rw [List.getElem?_eq_getElem hjl, List.getElem?_eq_getElem hjl2] at e
          injection e
        obtain ⟨q0, q1⟩ := Drw.draw_cells (own_lst encD_len HW.out.1) hjl
        simp only [Nat.zero_add] at q0 q1
        rw [hget] at q0 q1
        have hst := someD_step (List.getElem?_eq_getElem hjl2)
        have hmj : M[j]? = some l[j] := by rw [List.getElem?_eq_getElem hjl, hget]
        generalize l[j] = x at *
        have hb1 := below_alloc wr (.cells #[.int .i64 x.alloc, .int .i64 x.amt] 63)
        have hi2 : i2 < j := HM.out.2.2.1
        by_cases hz : x.amt = 0
        · have HC := Lib.hid (none_any (wr.alloc (.cells #[.int .i64 x.alloc, .int .i64 x.amt] 63)) x true (beq_iff_eq.2 hz))
          have HS := Lib.hid (show someD (l.take (j + 1)) = someD (l.take j) by rw [hst, if_pos hz])
          have HB1 := Lib.hid hb1
          obtain ⟨x0, x1⟩ := x
          simp only at q0 q1 HC HB1
          clear hst hz hmj hget hjl hjl2 hb1 hM
          go_wp2_with fail
          refine HC.out.mono ?_
          rintro e w3 ⟨rfl, hb3⟩
          have HB3 := Lib.hid (below_keep HB1.out hb3)
          clear hb3
          go_wp2_with fail
          go_roundw
          case rel =>
            refine ⟨j + 1, i2, M, rfl, by go_num, ⟨Nat.le_succ_of_le HM.out.1, by omega, by omega, HM.out.2.2.2.1, by rw [HS.out]; exact HM.out.2.2.2.2.1, ?_, by rw [HS.out]; exact HM.out.2.2.2.2.2.2⟩, Nest.own_on HW.out.1 HB3.out, chg_trans HW.out.2 (new_chg HB3.out (fun k => k = g)) (fun x hx => .inl hx)⟩
            rw [← List.drop_drop, HM.out.2.2.2.2.2.1, List.drop_drop]
          case measure => simp [intOf]; omega
        · have HC := Lib.hid (none_any (wr.alloc (.cells #[.int .i64 x.alloc, .int .i64 x.amt] 63)) x false (beq_false_of_ne hz))
          have HS := Lib.hid (show someD (l.take (j + 1)) = someD (l.take j) ++ [x] by rw [hst, if_neg hz])
          have HB1 := Lib.hid hb1
          have hbx : Arr.Blk (wr.alloc (.cells #[.int .i64 x.alloc, .int .i64 x.amt] 63)) wr.heap.size 63 [.int .i64 x.alloc, .int .i64 x.amt] := Arr.blk_new _ _ _ _ rfl
          have HBx := Lib.hid hbx
          obtain ⟨x0, x1⟩ := x
          simp only at q0 q1 HC HB1 HBx
          clear hst hz hmj hget hjl hjl2 hb1 hM hbx
          go_wp2_with fail
          refine HC.out.mono ?_
          rintro e w3 ⟨rfl, hb3⟩
          have HB3 := Lib.hid (below_keep HB1.out hb3)
          have hb9 := Arr.blk_below HBx.out hb3 (Arr.blk_lt HBx.out)
          have r0 : w3.cell? ⟨wr.heap.size, 0, none⟩ = some (.int .i64 x0) := Arr.blk_cell hb9 0
          have r1 : w3.cell? ⟨wr.heap.size, 1, none⟩ = some (.int .i64 x1) := Arr.blk_cell hb9 1
          have ho3 := Nest.own_on HW.out.1 HB3.out
          have hil : i2 < M.length := by rw [HM.out.2.2.2.1]; omega
          obtain ⟨a1, a2, a3⟩ := owns_put encD_len ho3 HM.out.2.2.2.1 (k := i2) (i := 0) (List.getElem?_eq_getElem hil) (by omega) (fun d => { d with alloc := x0 }) (.int .i64 x0) (fun a => rfl)
          have hil2 : i2 < (M.set i2 { M[i2] with alloc := x0 }).length := by rw [List.length_set]; exact hil
          obtain ⟨b1, b2, b3⟩ := owns_put encD_len a3 (by rw [List.length_set]; exact HM.out.2.2.2.1) (k := i2) (i := 1) (List.getElem?_eq_getElem hil2) (by omega) (fun d => { d with amt := x1 }) (.int .i64 x1) (fun a => rfl)
          have a1' : w3.cell? ⟨g, i2 * 2, none⟩ = some (.int .i64 M[i2].alloc) := a1
          have a2' : w3.frozen? ⟨g, i2 * 2, none⟩ = false := a2
          obtain ⟨om, hom⟩ : ∃ q : Int, q = (M.set i2 { M[i2] with alloc := x0 })[i2].amt := ⟨_, rfl⟩
          have b1' : (w3.setCell ⟨g, i2 * 2, none⟩ (.int .i64 x0)).cell? ⟨g, i2 * 2 + 1, none⟩ = some (.int .i64 om) := by rw [hom]; exact b1
          have b2' : (w3.setCell ⟨g, i2 * 2, none⟩ (.int .i64 x0)).frozen? ⟨g, i2 * 2 + 1, none⟩ = false := b2
          have hset : (M.set i2 { M[i2] with alloc := x0 }).set i2 { (M.set i2 { M[i2] with alloc := x0 })[i2] with amt := x1 } = M.set i2 ⟨x0, x1⟩ := by
            rw [List.set_set]
            congr 1
            rw [List.getElem_set_self]
          have b3' : Owns encD 2 63 ((w3.setCell ⟨g, i2 * 2, none⟩ (.int .i64 x0)).setCell ⟨g, i2 * 2 + 1, none⟩ (.int .i64 x1)) base (.slice (some ⟨g, 0, none⟩) n c) (M.set i2 ⟨x0, x1⟩) := by rw [← hset]; exact b3
          have HF := Lib.hid (And.intro b3' (chg_set (F := fun k => k = g) (chg_set (F := fun k => k = g) (chg_trans HW.out.2 (new_chg HB3.out (fun k => k = g)) (fun x hx => .inl hx)) (.inl rfl) (i2 * 2) (.int .i64 x0)) (.inl rfl) (i2 * 2 + 1) (.int .i64 x1)))
          clear hb3 hb9 a1 a2 a3 b1 b2 b3 hil2 hset hom b3' ho3
          go_wp2_with fail
          go_roundw
          case rel =>
            refine ⟨j + 1, i2 + 1, M.set i2 ⟨x0, x1⟩, by go_num, by go_num, ⟨Nat.le_succ_of_le HM.out.1, by omega, by omega, by rw [List.length_set]; exact HM.out.2.2.2.1, ?_, ?_, ?_⟩, HF.out.1, HF.out.2⟩
            · rw [List.take_succ_eq_append_getElem (by rw [List.length_set]; exact hil), List.take_set_of_le (Nat.le_refl _), List.getElem_set_self, HS.out, HM.out.2.2.2.2.1]
            · rw [List.drop_set_of_lt (by omega), ← List.drop_drop, HM.out.2.2.2.2.2.1, List.drop_drop]
            · rw [HS.out, List.length_append, ← HM.out.2.2.2.2.2.2]; rfl
          case measure => simp [intOf]; omega
      · obtain rfl : n = j := by have := HM.out.2.1; omega
        have hi2 : i2 < n := HM.out.2.2.1
        have htk : l.take n = l := List.take_of_length_le (by rw [HO.out.2.2.1]; exact Nat.le_refl _)
        have hMe : M.take i2 ++ M.drop i2 = M := List.take_append_drop i2 M
        have hAl : (M.take i2).length = i2 := by rw [List.length_take, HM.out.2.2.2.1]; omega
        obtain ⟨wz, hcl, ho2, hc2⟩ := own_clear2 (w := wr) (base := base) (g := g) (cap := c) (A := M.take i2) (Z := M.drop i2) (by rw [hMe, HM.out.2.2.2.1]; exact HW.out.1) (by
          intro e
          have := congrArg List.length e
          rw [List.length_drop, HM.out.2.2.2.1] at this
          simp at this
          omega)
        rw [hMe, hAl, HM.out.2.2.2.1] at hcl
        rw [hAl, HM.out.2.2.2.2.1, htk] at ho2
        have HE := Lib.hid (And.intro ho2 (chg_trans HW.out.2 hc2 (fun x hx => .inl hx)))
        have hcne : ¬ c = i2 := by omega
        clear ho2 hc2 hMe hAl htk hM
        go_wp2_with fail
        go_ret
        refine ⟨_, rfl, HE.out.1, chg_mono HE.out.2 fun k _ hk => ?_⟩
        rw [hk]; rfl
end Go.Proofs.YtjcndgopijpibaaGreat.Bok
/- Book, the landed: TxEnd. -/
namespace Go.Proofs.YtjcndgopijpibaaGreat.Bok
set_option maxRecDepth 100000
open Go.RowKit
open Go.Sort
open Kit
open Foot
open Tre (Lst inI lst_keep lst_at lst_new lst_none encF encF_len encL_len IntsL goodB)
open Led (Lg encG encG_len)
open Job (Jb Jv Jobs encJ encJ_len encJ_one findI)
open Drw (Dw Draws encD encD_len encD_one)
open Go.Proofs.YtjcndgopijpibaaGreat.Ord (ts)
open Snp (Sn Sv encK encK_len encK_one)
set_option linter.unusedVariables false
variable {w w' W0 W : World} {B : Nat}
theorem cost_in {a b c : Int} (h : Mon.costE a b c = 0) : inI (Mon.costN a b c) := by
  have h1 := cost_ok h
  have h2 := (cost_of h1).2
  have h3 : 0 ≤ a * b * c := Int.mul_nonneg (Int.mul_nonneg h1.1.1 h1.1.2.1) h1.1.2.2
  rw [h2]
  exact ⟨by omega, by have := h1.2.2.2.2.2; omega⟩
theorem near_charge {l : List Dw} {a : Int} (h : Drw.chargeE l a = 0) (hl : ∀ d ∈ l, Drw.Near d) : ∀ d ∈ Drw.chargeL l a, Drw.Near d := fun c hc => by
  obtain ⟨q, hq⟩ := List.getElem?_of_mem hc
  obtain ⟨d, e1, e2, e3, e4, e5⟩ := (chargeL_mem h).2.2 q c hq
  have := hl d (List.mem_of_getElem? e1)
  obtain ⟨⟨n1, n2⟩, n3, n4⟩ := this
  exact ⟨⟨by omega, by omega⟩, by omega, by omega⟩
theorem near_ok {d : Dw} (h : Drw.Near d) : d.ok := ⟨⟨by have := h.1.1; omega, by have := h.1.2; omega⟩, h.2⟩
theorem thatAre_any (W : World) (base : Nat) (v : Value) (l : List Dw) (hO : Owns encD 2 63 W base v l) (hbs : base ≤ W.heap.size) (hl100 : l.length ≤ 100) :
    Calls Tryz.prog 104 #[v] W fun e w' => ∃ v', e = .returned v' ∧ Owns encD 2 63 w' base v' (someD l) ∧ Chg (fun k => some k = v.ownBlock) W w' := by
  have HD := Lib.hid (any_any W base v l hO hbs hl100)
  clear hO hl100
  go_enter Tryz.func104, Tryz.ntmps104
  go_wp2_with fail
  refine HD.out.mono ?_
  rintro e w2 ⟨v', rfl, ho, hc⟩
  have H2 := Lib.hid (And.intro ho hc)
  clear ho hc
  go_wp2_with fail
  go_ret
  exact ⟨v', rfl, H2.out.1, H2.out.2⟩
set_option maxHeartbeats 16000000 in
theorem end_any (y : Sv) (hc : Cal W0 W B y) (hn : y.jobs.length ≤ 16) (hdr : ∀ x ∈ y.jobs, x.t.draws.length ≤ 16 ∧ ∀ d ∈ x.t.draws, Drw.Near d) (sq tm kd : Int) (ky nm : ByteArray) (aa ga : Option Addr) (cp gn gc : Nat) (p0 p1 : Int) (hA : IntsL W aa 2 cp [p0, p1]) :
    Calls Tryz.prog 75 #[.pointer (some ⟨B, 0, none⟩), .agg #[.int .i64 sq, .int .i64 tm, .int .i64 kd, .string ky, .string nm, .slice aa 2 cp, .slice ga gn gc]] W (LegP W0 B (jobsE y.t 12 tm [p0, p1]) (jobsS y.t 12 tm [p0, p1]) (jobsL y.t 12 tm [p0, p1])) := by
  obtain ⟨ba, oa, rfl⟩ := lst_at hA (by omega)
  obtain ⟨E, hE⟩ : ∃ E, E = jobsE y.t 12 tm [p0, p1] := ⟨_, rfl⟩
  obtain ⟨S, hS⟩ : ∃ S, S = jobsS y.t 12 tm [p0, p1] := ⟨_, rfl⟩
  obtain ⟨L, hL⟩ : ∃ L, L = jobsL y.t 12 tm [p0, p1] := ⟨_, rfl⟩
  rw [← hE, ← hS, ← hL]
  have hj := jobs_cases y 12 tm [p0, p1] [3] (fun st => by show decide (st = 3) = _; by_cases h : st = 3 <;> simp [h])
  rw [← hE] at hj
  have hba := below_alloc W (.cells #[.int .i64 sq, .int .i64 tm, .int .i64 kd, .string ky, .string nm, .slice (some ⟨ba, oa, none⟩) 2 cp, .slice ga gn gc] 34)
  have htb := tx_box W sq tm kd ky nm (some ⟨ba, oa, none⟩) ga 2 cp gn gc
  obtain ⟨wa, hwa⟩ : ∃ z, z = W.alloc (.cells #[.int .i64 sq, .int .i64 tm, .int .i64 kd, .string ky, .string nm, .slice (some ⟨ba, oa, none⟩) 2 cp, .slice ga gn gc] 34) := ⟨_, rfl⟩
  rw [← hwa] at htb hba
  have HWa := Lib.hid hwa
  have hA2 := lst_keep Tre.encI_len hA hba
  have k5 : wa.cell? ⟨W.heap.size, 5, none⟩ = some (.slice (some ⟨ba, oa, none⟩) 2 cp) := Arr.blk_cell htb 5
  have hca := hc.keep hba
  have HBo := Lib.hid hca
  have hgeW := Lib.hid hca.below.size
  have q0 : wa.cell? ⟨ba, oa, none⟩ = some (.int .i64 p0) := Tre.int_cell hA2 (k := 0) (by simp)
  have hbb := below_alloc wa (.cells #[.int .i64 3] 3)
  have hcb := hca.keep hbb
  have hSt : IntsL (wa.alloc (.cells #[.int .i64 3] 3)) (some ⟨wa.heap.size, 0, none⟩) 1 1 [3] := lst_new Tre.encI_len wa [3] _ _ _ 1 rfl rfl rfl (by omega)
  have HJ := Lib.hid (fun p E h => jobIn_any (wa.alloc (.cells #[.int .i64 3] 3)) B y.j.a y.j.n y.j.c y.jobs (own_lst encJ_len hcb.bo.o.j) (Arr.blk_cell hcb.bo.b 6) p0 (some ⟨wa.heap.size, 0, none⟩) 1 1 [3] hSt p E h)
  have HJc := Lib.hid hj
  have HTb := Lib.hid (And.intro (Arr.blk_alloc htb (.cells #[.int .i64 3] 3)) (lst_keep Tre.encI_len hA2 hbb))
  have HC := Lib.hid (And.intro hcb (And.intro (And.intro hS hL) (And.intro hn hdr)))
  clear hj hE hS hL hn hdr hA hA2 hca htb hba hwa hc hbb hcb hSt
  go_enter Tryz.func75, Tryz.ntmps75
  go_upto_region 1 with fail
  rw [← HWa.out]
  go_wp2_with fail
  rcases HJc.out with ⟨p, h1, h2⟩ | ⟨n, z, h1, h2, h3, h4, h5, h6⟩
  · refine (HJ.out p E h1).mono ?_
    rintro e w3 ⟨rfl, hb3⟩
    have H3 := Lib.hid (HC.out.1.keep hb3)
    clear hb3 h1
    rcases h2 with rfl | rfl
    · go_wp2_with fail
      go_ret2
      exact ⟨y, none, 0, 0, rfl, (fun h => absurd h (by decide)), H3.out.below⟩
    · go_wp2_with fail
      go_ret2
      exact ⟨y, none, 0, 0, rfl, (fun h => absurd h (by decide)), H3.out.below⟩
  · skip
    refine (HJ.out (n : Int) 0 h1).mono ?_
    rintro e w3 ⟨rfl, hb3⟩
    have H3 := Lib.hid (HC.out.1.keep hb3)
    have hkl := (List.getElem?_eq_some_iff.1 h3).1
    obtain ⟨g, cap, hj, hge⟩ := H3.out.bo.at_j (by omega)
    obtain ⟨nn, hnn⟩ : ∃ n, n = y.jobs.length := ⟨_, rfl⟩
    rw [← hnn] at hj hkl
    have p6 : w3.cell? ⟨B, 6, none⟩ = some (.slice (some ⟨g, 0, none⟩) nn cap) := by
      rw [Arr.blk_cell H3.out.bo.b 6]
      show some (Value.slice y.j.a y.j.n y.j.c) = _
      rw [hj]
    have hJb : Jobs w3 (some ⟨g, 0, none⟩) nn cap y.jobs := by
      have := own_lst encJ_len H3.out.bo.o.j
      rw [hj] at this
      exact this
    have HG := Lib.hid (And.intro hj (And.intro h3 (And.intro (List.mem_of_getElem? h3) (Nat.le_refl 0))))
    have hsm : (n : Int) ≤ 100 := by have := HC.out.2.2.1; omega
    obtain ⟨xn, hxn⟩ : ∃ q, q = z.t.nodes := ⟨_, rfl⟩
    obtain ⟨xw, hxw⟩ : ∃ q, q = z.t.wall := ⟨_, rfl⟩
    obtain ⟨xp, hxp⟩ : ∃ q, q = z.t.price := ⟨_, rfl⟩
    obtain ⟨cn, hcn⟩ : ∃ q, q = Mon.costN xn p1 xp := ⟨_, rfl⟩
    obtain ⟨ce, hce⟩ : ∃ q, q = Mon.costE xn p1 xp := ⟨_, rfl⟩
    have HE := Lib.hid (show E = if p1 < 0 ∨ xw < p1 then 1 else if ce ≠ 0 then ce else Drw.chargeE z.t.draws cn by
      rw [h6, hce, hcn, hxw, hxp, hxn]
      rfl)
    have HCo := Lib.hid (fun w => show Calls Tryz.prog 101 #[.int .i64 xn, .int .i64 p1, .int .i64 xp] w fun e w' => e = .returned (.tuple #[.int .i64 cn, .int .i64 ce]) ∧ Below w.heap.size w w' from by rw [hcn, hce]; exact Mon.cost_any xn p1 xp w)
    have HCn := Lib.hid (fun h : ce = 0 => show inI cn from by rw [hcn]; exact cost_in (by rw [← hce]; exact h))
    have HSL := Lib.hid (show S = { y.t with jobs := y.t.jobs.set n { z.t with state := 4, used := p1, mask := 0, draws := someD (Drw.chargeL z.t.draws cn) } } ∧ L = Drw.legsW z.t.draws (Drw.chargeL z.t.draws cn) 2 3 1 from ⟨by
      rw [HC.out.2.1.1, jobsS_at (by decide) h2 h5, hcn, hxn, hxp]
      rfl, by
      rw [HC.out.2.1.2]
      show jobL y.t 12 tm [p0, p1] (atJ y.t [p0, p1]) = _
      rw [h5, hcn, hxn, hxp]
      rfl⟩)
    have k5' : w3.cell? ⟨W.heap.size, 5, none⟩ = some (.slice (some ⟨ba, oa, none⟩) 2 cp) := cell_keep hb3 (Arr.blk_cell HTb.out.1 5)
    have q1' : w3.cell? ⟨ba, oa + 1, none⟩ = some (.int .i64 p1) := cell_keep hb3 (Tre.int_cell HTb.out.2 (k := 1) (by simp))
    have HXs := Lib.hid (And.intro hxn (And.intro hxw hxp))
    clear hb3 h1 h2 h3 h4 h5 h6 hge hnn k5 q0 hJb hcn hce hxn hxw hxp hj
    go_wp2_with fail
    go_big_quiet (fail)
    generalize hw2 : World.drewN w3 _ = w4
    have hq2 : Below w3.heap.size w3 w4 := by rw [← hw2]; exact Tre.below_drewN' _ _
    have H4 := Lib.hid (H3.out.keep hq2)
    clear hw2 hq2 k5' q1' p6
    have hJ4 : Jobs w4 (some ⟨g, 0, none⟩) nn cap y.jobs := by
      have := own_lst encJ_len H4.out.bo.o.j
      rw [HG.out.1] at this
      exact this
    have c3 : w4.cell? ⟨g, n * 12 + 3, none⟩ = some (.int .i64 xw) := at_zero hJ4 HG.out.2.1 (by omega) (by rw [HXs.out.2.1]; rfl)
    have c2 : w4.cell? ⟨g, n * 12 + 2, none⟩ = some (.int .i64 xn) := at_zero hJ4 HG.out.2.1 (by omega) (by rw [HXs.out.1]; rfl)
    have c6 : w4.cell? ⟨g, n * 12 + 6, none⟩ = some (.int .i64 xp) := at_zero hJ4 HG.out.2.1 (by omega) (by rw [HXs.out.2.2]; rfl)
    have c11 : w4.cell? ⟨g, n * 12 + 11, none⟩ = some (.slice z.a z.n z.c) := at_zero hJ4 HG.out.2.1 (by omega) rfl
    have HQ := Lib.hid (And.intro c2 c6)
    have HQ2 := Lib.hid c11
    clear hJ4 c2 c6 c11
    have hin : (¬ p1 < 0 ∧ ¬ xw < p1) ∨ p1 < 0 ∨ (¬ p1 < 0 ∧ xw < p1) := by omega
    rcases hin with hin | h0 | ⟨h0, h1⟩
    rotate_left
    · have hE1 : E = 1 := by rw [HE.out, if_pos (.inl h0)]
      have d0 : decide (p1 < 0) = true := decide_eq_true h0
      subst hE1
      go_wp2_with fail
      go_ret2
      exact ⟨y, none, 0, 0, rfl, (fun h => absurd h (by decide)), H4.out.below⟩
    · have hE1 : E = 1 := by rw [HE.out, if_pos (.inr h1)]
      have d0 : decide (p1 < 0) = false := decide_eq_false h0
      have d1 : decide (xw < p1) = true := decide_eq_true h1
      subst hE1
      go_wp2_with fail
      go_ret2
      exact ⟨y, none, 0, 0, rfl, (fun h => absurd h (by decide)), H4.out.below⟩
    have d0 : decide (p1 < 0) = false := decide_eq_false hin.1
    have d1 : decide (xw < p1) = false := decide_eq_false hin.2
    have HE1 := Lib.hid (show E = if ce ≠ 0 then ce else Drw.chargeE z.t.draws cn by rw [HE.out, if_neg (by omega)])
    clear HE hin
    go_upto_region 7 with fail
    clear c3 d0 d1
    refine Rel.wp_region_rel (G := Rel.Gr) (Rel.tab [.is (.pointer (some ⟨g, n * 12, none⟩)), .is (.pointer (some ⟨g, n * 12, none⟩)), .is (.pointer (some ⟨g, n * 12 + 2, none⟩)), .is (.int .i64 xn), .is (.int .i64 p1), .is (.pointer (some ⟨g, n * 12, none⟩)), .is (.pointer (some ⟨g, n * 12, none⟩)), .is (.pointer (some ⟨g, n * 12 + 6, none⟩)), .is (.int .i64 xp), .is (.tuple #[.int .i64 cn, .int .i64 ce]), .is (.tuple #[.int .i64 cn, .int .i64 ce]), .is (.int .i64 cn), .is (.int .i64 ce), .is (.int .i64 cn), .is (.int .i64 ce)]) (fun _ w => Below w4.heap.size w4 w) (by kernel_rfl) (by kernel_rfl) (by kernel_rfl) (by kernel_rfl) (fun w => Rel.gr_refl _) (below_drew _) ?_ ?_
    · refine ⟨?_, ?_, ?_, ?_, ?_, ?_, ?_, ?_, ?_, ?_, ?_, ?_, ?_, ?_, ?_, trivial⟩
      · intro L a w c
        refine .inl ⟨Rel.wanted_free (by kernel_rfl) _, ?_⟩
        exact Rel.wp_mv _ rfl ⟨_, rfl, Rel.gr_refl _, (c.old 8 (v := .pointer (some ⟨g, n * 12, none⟩)) (by kernel_rfl) (by kernel_rfl)), c.inv⟩
      · intro L a w c
        refine .inl ⟨Rel.wanted_free (by kernel_rfl) _, ?_⟩
        exact Chn.wp_nc _ rfl (c.get 0 47 (by kernel_rfl)) ⟨_, rfl, Rel.gr_refl _, rfl, c.inv⟩
      · intro L a w c
        refine .inl ⟨Rel.wanted_free (by kernel_rfl) _, ?_⟩
        exact Chn.wp_fa _ _ _ rfl (c.get 1 48 (by kernel_rfl)) (by simp [go_sem]) ⟨_, rfl, Rel.gr_refl _, rfl, c.inv⟩
      · intro L a w c
        refine .inl ⟨Rel.wanted_free (by kernel_rfl) _, ?_⟩
        exact Rel.wp_ld _ _ rfl (c.get 2 49 (by kernel_rfl)) (run_ldI (cell_keep c.inv HQ.out.1)) ⟨_, rfl, Rel.gr_refl _, rfl, c.inv⟩
      · intro L a w c
        refine .inl ⟨Rel.wanted_free (by kernel_rfl) _, ?_⟩
        exact Rel.wp_mv _ rfl ⟨_, rfl, Rel.gr_refl _, (c.old 9 (v := .int .i64 p1) (by kernel_rfl) (by kernel_rfl)), c.inv⟩
      · intro L a w c
        refine .inl ⟨Rel.wanted_free (by kernel_rfl) _, ?_⟩
        exact Rel.wp_mv _ rfl ⟨_, rfl, Rel.gr_refl _, (c.old 8 (v := .pointer (some ⟨g, n * 12, none⟩)) (by kernel_rfl) (by kernel_rfl)), c.inv⟩
      · intro L a w c
        refine .inl ⟨Rel.wanted_free (by kernel_rfl) _, ?_⟩
        exact Chn.wp_nc _ rfl (c.get 5 52 (by kernel_rfl)) ⟨_, rfl, Rel.gr_refl _, rfl, c.inv⟩
      · intro L a w c
        refine .inl ⟨Rel.wanted_free (by kernel_rfl) _, ?_⟩
        exact Chn.wp_fa _ _ _ rfl (c.get 6 53 (by kernel_rfl)) (by simp [go_sem]) ⟨_, rfl, Rel.gr_refl _, rfl, c.inv⟩
      · intro L a w c
        refine .inl ⟨Rel.wanted_free (by kernel_rfl) _, ?_⟩
        exact Rel.wp_ld _ _ rfl (c.get 7 54 (by kernel_rfl)) (run_ldI (cell_keep c.inv HQ.out.2)) ⟨_, rfl, Rel.gr_refl _, rfl, c.inv⟩
      · intro L a w c
        refine .inl ⟨Rel.wanted_free (by kernel_rfl) _, ?_⟩
        refine Rel.wp_cl _ _ _ rfl Tryz.func101 (by kernel_rfl) ?_
        show Calls _ _ #[Rel.slot a 50, Rel.slot a 51, Rel.slot a 55] w _
        rw [show Rel.slot a 50 = .int .i64 xn from (c.get 3 50 (by kernel_rfl)), show Rel.slot a 51 = .int .i64 p1 from (c.get 4 51 (by kernel_rfl)), show Rel.slot a 55 = .int .i64 xp from (c.get 8 55 (by kernel_rfl))]
        refine (HCo.out w).mono ?_
        rintro e w' ⟨rfl, hb⟩
        exact ⟨_, rfl, _, rfl, hb, rfl, below_keep c.inv hb⟩
      · intro L a w c
        refine .inl ⟨Rel.wanted_free (by kernel_rfl) _, ?_⟩
        exact Rel.wp_mv _ rfl ⟨_, rfl, Rel.gr_refl _, (c.get 9 56 (by kernel_rfl)), c.inv⟩
      · intro L a w c
        refine .inl ⟨Rel.wanted_free (by kernel_rfl) _, ?_⟩
        exact Rel.wp_ex _ _ rfl (c.get 10 46 (by kernel_rfl)) (by simp [go_sem]) ⟨_, rfl, Rel.gr_refl _, rfl, c.inv⟩
      · intro L a w c
        refine .inl ⟨Rel.wanted_free (by kernel_rfl) _, ?_⟩
        exact Rel.wp_ex _ _ rfl (c.get 10 46 (by kernel_rfl)) (by simp [go_sem]) ⟨_, rfl, Rel.gr_refl _, rfl, c.inv⟩
      · intro L a w c
        refine .inl ⟨Rel.wanted_free (by kernel_rfl) _, ?_⟩
        exact Rel.wp_as _ rfl ⟨_, rfl, Rel.gr_refl _, (c.get 11 57 (by kernel_rfl)), c.inv⟩
      · intro L a w c
        refine .inl ⟨Rel.wanted_free (by kernel_rfl) _, ?_⟩
        exact Rel.wp_as _ rfl ⟨_, rfl, Rel.gr_refl _, (c.get 12 58 (by kernel_rfl)), c.inv⟩
    intro a w5 hbase hroom hdef hJ hV
    have s10 : Rel.slot a 10 = .int .i64 cn := hV 13 _ _ rfl rfl
    have s7 : Rel.slot a 7 = .int .i64 ce := hV 14 _ _ rfl rfl
    rw [Chn.act_puts [47, 48, 49, 50, 51, 52, 53, 54, 55, 56, 46, 57, 58, 10, 7] hbase hroom hdef (by kernel_rfl)]
    clear hbase hroom hdef hV
    simp only [List.foldl_cons, List.foldl_nil]
    generalize Rel.slot a 47 = u47 at *
    generalize Rel.slot a 48 = u48 at *
    generalize Rel.slot a 49 = u49 at *
    generalize Rel.slot a 50 = u50 at *
    generalize Rel.slot a 51 = u51 at *
    generalize Rel.slot a 52 = u52 at *
    generalize Rel.slot a 53 = u53 at *
    generalize Rel.slot a 54 = u54 at *
    generalize Rel.slot a 55 = u55 at *
    generalize Rel.slot a 56 = u56 at *
    generalize Rel.slot a 46 = u46 at *
    generalize Rel.slot a 57 = u57 at *
    generalize Rel.slot a 58 = u58 at *
    rw [s10]
    clear s10
    rw [s7]
    clear s7
    simp only [Act.put, List.setIfInBounds_toArray, List.set_cons_succ, List.set_cons_zero]
    have H5 := Lib.hid (H4.out.keep hJ)
    have c11 := cell_keep hJ HQ2.out
    clear hJ HQ
    by_cases hce : ce = 0
    rotate_left
    · have hE1 : E = ce := by rw [HE1.out, if_pos hce]
      have hcb : (ce == 0) = false := beq_false_of_ne hce
      have HCe := Lib.hid hce
      subst hE1
      go_wp2_with fail
      go_ret2
      exact ⟨y, none, 0, 0, rfl, (fun h => absurd h HCe.out), H5.out.below⟩
    subst hce
    have HE2 := Lib.hid (show E = Drw.chargeE z.t.draws cn by rw [HE1.out, if_neg (by simp)])
    have hdz := HC.out.2.2.2 z HG.out.2.2.1
    have hdl := own_lst encD_len (H5.out.bo.o.d z HG.out.2.2.1)
    have HCh := Lib.hid (Drw.charge_own z.a z.n z.c z.t.draws cn w5 hdl (by have := hdl.len; omega) (fun d hd => near_ok (hdz.2 d hd)) (HCn.out rfl))
    clear HE1 hdz hdl
    go_wp2_with fail
    refine HCh.out.mono ?_
    rintro e w6 ⟨v6, rfl, ho6, hb6⟩
    obtain ⟨ca, cc, rfl, -, -, -, -⟩ := owns_row encD_len ho6
    obtain ⟨cl, hcl⟩ : ∃ q, q = (Drw.chargeL z.t.draws cn).length := ⟨_, rfl⟩
    rw [← hcl] at ho6
    rw [← HE2.out, ← hcl]
    have H6 := Lib.hid (And.intro (H5.out.keep hb6) (And.intro ho6 hb6))
    have e11 := cell_keep hb6 c11
    clear hb6 HCh ho6 c11
    by_cases hE0 : E = 0
    rotate_left
    · have hcb : (E == 0) = false := beq_false_of_ne hE0
      have HCe := Lib.hid hE0
      clear hcl
      go_wp2_with fail
      go_ret2
      exact ⟨y, none, 0, 0, rfl, (fun h => absurd h HCe.out), H6.out.1.below⟩
    have hch0 : Drw.chargeE z.t.draws cn = 0 := by rw [← HE2.out]; exact hE0
    subst hE0
    have hdz := HC.out.2.2.2 z HG.out.2.2.1
    have hlen := (chargeL_mem hch0).1
    have hdl := own_lst encD_len (H6.out.1.bo.o.d z HG.out.2.2.1)
    have hdc := own_lst encD_len H6.out.2.1
    have hzn : z.n = cl := by rw [hcl, hlen]; exact hdl.len.symm
    have hsp := Drw.spendW_any w6 z.a ca z.n z.c cl cc z.t.draws (Drw.chargeL z.t.draws cn) hdl hdc hdz.2 (near_charge hch0 hdz.2) (by have := hdl.len; omega) (by have := hdl.len; omega)
    rw [if_pos hzn] at hsp
    have HSp := Lib.hid hsp
    have HLc := Lib.hid (show (Drw.chargeL z.t.draws cn).length ≤ 100 by rw [hlen]; omega)
    clear hsp hdz hlen hdl hdc hzn hch0 hcl
    go_wp2_with fail
    refine HSp.out.mono ?_
    rintro e w7 ⟨v7, rfl, ho7, hb7⟩
    obtain ⟨la, lc, rfl, -, -, -, -⟩ := owns_row encG_len ho7
    obtain ⟨ll, hll⟩ : ∃ q, q = (Drw.legsW z.t.draws (Drw.chargeL z.t.draws cn) 2 3 1).length := ⟨_, rfl⟩
    rw [← hll] at ho7 ⊢
    have H7 := Lib.hid (And.intro ho7 (And.intro hb7 (Nest.own_on H6.out.2.1 hb7)))
    have HTh := Lib.hid (thatAre_any w7 w5.heap.size (.slice ca cl cc) (Drw.chargeL z.t.draws cn) H7.out.2.2 (Nat.le_trans H6.out.2.2.size hb7.size) HLc.out)
    clear ho7 hb7 HSp e11 hll
    go_wp2_with fail
    refine HTh.out.mono ?_
    rintro e w8 ⟨v8, rfl, ho8, hc8⟩
    obtain ⟨ta, tc, rfl, -, -, -, -⟩ := owns_row encD_len ho8
    obtain ⟨tl, htl⟩ : ∃ q, q = (someD (Drw.chargeL z.t.draws cn)).length := ⟨_, rfl⟩
    rw [← htl] at ho8 ⊢
    have hb58 : Below w5.heap.size w5 w8 := (below_keep H6.out.2.2 H7.out.2.1).trans (chg_below hc8 (fun k hk => (World.ownsRow.lt H6.out.2.1 k hk.symm).1) (Nat.le_trans H6.out.2.2.size H7.out.2.1.size))
    have H8 := Lib.hid (H5.out.keep hb58)
    have hlg8 := own_typed H7.out.1 hc8 (typed_own H7.out.2.2 (by decide))
    obtain ⟨⟨a1, a2⟩, ⟨b1, b2⟩, ⟨c1, c2⟩, ⟨d1, d2⟩, hbo, hbl⟩ := H8.out.bo.four HG.out.1 HG.out.2.1 (i1 := 7) (i2 := 10) (i3 := 9) (by omega) (by omega) (by omega) (fun x => { x with t := { x.t with state := 4 } }) (fun x => { x with t := { x.t with used := p1 } }) (fun x => { x with t := { x.t with mask := 0 } }) (.int .i64 4) (.int .i64 p1) (.int .i64 0) (fun a => rfl) (fun a => rfl) (fun a => rfl) (fun x => ⟨rfl, rfl, rfl, rfl⟩) (fun x => ⟨rfl, rfl, rfl, rfl⟩) (fun x => ⟨rfl, rfl, rfl, rfl⟩) ta tl tc (someD (Drw.chargeL z.t.draws cn)) (owns_le ho8 H5.out.below.size)
    have HR := Lib.hid (And.intro hbo (H8.out.below.trans hbl))
    have HLo := Lib.hid (H8.out.bo.far4 HG.out.1 (by decide) (owns_le hlg8 H6.out.1.below.size) (i1 := n * 12 + 7) (i2 := n * 12 + 10) (i3 := n * 12 + 9) (i4 := n * 12 + 11) (.int .i64 4) (.int .i64 p1) (.int .i64 0) (.slice ta tl tc))
    clear hbo hbl ho8 hc8 hlg8 hb58 HTh htl
    simp only [encJ, List.getElem?_cons_zero, List.getElem?_cons_succ] at a1 b1 c1
    go_wp2_with fail
    go_ret2
    exact ⟨_, la, ll, lc, rfl, (fun _ => ⟨by rw [HSL.out.1]; exact set_t, HR.out.1, by rw [HSL.out.2]; exact HLo.out⟩), HR.out.2⟩
end Go.Proofs.YtjcndgopijpibaaGreat.Bok
