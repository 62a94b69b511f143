/- Common to the claims of this seat, part 4: texts that were written one by one, laid behind one another. -/
import Derived.Shelf.Abstract
import Derived.Test.YtcndihekpdebhaaPart2
import Derived.Test.YtcndihekpdebhaaPart3
/- Job, the landed: those of which it is so, those that run, and where one is. -/
namespace Go.Proofs.Ytcndihekpdebhaa.Job
set_option maxRecDepth 100000
open Go.RowKit
open Go.Sort
open Kit
open Tre (Lst inI lst_keep lst_take lst_at lst_new lst_none run_ld2)
open Go.Proofs.Ytcndihekpdebhaa.Ord (ts)
set_option linter.unusedVariables false
variable {w w' : World}

set_option maxHeartbeats 8000000 in
theorem those_any (W : World) (a1 : Option Addr) (n c1 : Nat) (l : List Jv) (h : Jobs W a1 n c1 l) (hn : n ≤ 100) (f : Nat) (cb : Array Value) (p : Jv → Bool)
    (eg : ∀ args w, (callFunc f args).run Try.prog w = .ok (.enter f args) w)
    (hcl : ∀ (w : World) (x : Jv), Below W.heap.size W w → x ∈ l → Calls Try.prog f (#[.agg (encJ x).toArray] ++ cb) w fun e w' => e = .returned (.bool (p x)) ∧ Below w.heap.size w w') :
    Calls Try.prog 30 #[.slice a1 n c1, .func (.func f) #[] cb] W fun e W' => ∃ v, e = .returned v ∧ OwJ W' W.heap.size v (l.filter p) ∧ Below W.heap.size W W' := by
  have hm1 : n ≤ 9223372036854775807 := by omega
  have HL := Lib.hid (And.intro h h.len)
  have HC := Lib.hid hcl
  clear h hcl
  go_enter Try.func30, Try.ntmps30
  go_wp2_with fail
  go_loopw [5, 10] (fun v i wr => ∃ k : Nat, k ≤ n ∧ i = .int .i64 (k : Nat) ∧ OwJ wr W.heap.size v ((l.take k).filter p) ∧ Below W.heap.size W wr) (fun _ i _ => n - (intOf i).toNat)
  case atStart => exact ⟨0, Nat.zero_le _, rfl, owns_nil _ _ _, Below.refl _ _⟩
  case round =>
    obtain ⟨k, hk, rfl, hown, hb⟩ := hrel
    have HO := Lib.hid (And.intro hown hb)
    clear hown hb
    by_cases hlt : k < n
    · have hlti : (k : Int) < (n : Int) := by omega
      have hkl : k < l.length := by rw [HL.out.2]; exact hlt
      obtain ⟨x, hx⟩ : ∃ x, l[k]? = some x := ⟨_, List.getElem?_eq_getElem hkl⟩
      obtain ⟨b, o, rfl⟩ := lst_at HL.out.1 (by omega)
      have HRx := Lib.hid (job_range (lst_keep encJ_len HL.out.1 HO.out.2) hx)
      have HN := Lib.hid (filter_take p hx)
      have HM := Lib.hid (List.mem_of_getElem? hx)
      have hlo : ((l.take k).filter p).length ≤ 100 := by have := List.length_filter_le p (l.take k); rw [List.length_take] at this; omega
      obtain ⟨out, hout⟩ : ∃ v, v = (l.take k).filter p := ⟨_, rfl⟩
      rw [← hout] at HN HO hlo
      have HDL := Lib.hid (show out.length + 1 ≤ maxLen ∧ (out.length + 1) * 112 ≤ 140737488355328 by unfold maxLen; omega)
      clear hout hx hkl hlo
      obtain ⟨w1, rfl⟩ : ∃ z, z = wr := ⟨_, rfl⟩
      go_upto_region 5 with (first | (refine wpList_load_mid rfl 40 (.tmp 12) rfl b (o + k * 12) rfl (encJ x) _ HRx.out Try.underlying40 rfl info_job12 ?_) | (refine Arr.wpList_store_blk rfl 40 (.tmp 7) (.tmp 13) rfl w1.heap.size (encJ x) rfl rfl zeroJ 40 (Arr.blk_new _ _ _ zeroJ rfl) info_job12 rfl (one12L' x) w1.heap.size (Nat.le_refl _) ?_; intro w2 hblk hbel; have HW2 := Lib.hid (And.intro hblk ((below_alloc w1 (.cells zeroJ.toArray 40)).trans hbel)); clear hbel hblk) | fail)
      have HB2 := Lib.hid (And.intro (Nest.own_on HO.out.1 HW2.out.2) (below_keep HO.out.2 HW2.out.2))
      have HCx := Lib.hid (HC.out w2 x HB2.out.2 HM.out)
      go_wp2_with (first | (refine Arr.wpList_load_blk rfl 40 (.tmp 7) rfl w1.heap.size rfl (encJ x) 40 HW2.out.1 _ Try.underlying40 rfl info_job12 ?_) | fail)
      refine HCx.out.mono ?_
      rintro e w3 ⟨rfl, hb3⟩
      have hE2 := Arr.blk_below HW2.out.1 hb3 (Arr.blk_lt HW2.out.1)
      have HB3 := Lib.hid (And.intro (Nest.own_on HB2.out.1 hb3) (below_keep HB2.out.2 hb3))
      clear hb3 HCx HB2 HW2 HO HRx HM
      cases hp : p x with
      | true =>
        have HE := Lib.hid (show (l.take (k + 1)).filter p = out ++ [x] by rw [HN.out, if_pos hp])
        clear hp HN
        generalize Value.agg (encJ x).toArray = u13
        obtain ⟨⟨y0, y1, y2, y3, y4, y5, y6, y7, y8, y9, y10, yd⟩, ya, yn, yc⟩ := x
        have p0 := Arr.blk_cell hE2 0
        have p1 := Arr.blk_cell hE2 1
        have p2 := Arr.blk_cell hE2 2
        have p3 := Arr.blk_cell hE2 3
        have p4 := Arr.blk_cell hE2 4
        have p5 := Arr.blk_cell hE2 5
        have p6 := Arr.blk_cell hE2 6
        have p7 := Arr.blk_cell hE2 7
        have p8 := Arr.blk_cell hE2 8
        have p9 := Arr.blk_cell hE2 9
        have p10 := Arr.blk_cell hE2 10
        have p11 := Arr.blk_cell hE2 11
        simp only [encJ, List.getElem?_cons_zero, List.getElem?_cons_succ] at p0 p1 p2 p3 p4 p5 p6 p7 p8 p9 p10 p11
        have HA1 := Lib.hid (owns_alloc HB3.out.1 (.cells #[.int .i64 y0, .int .i64 y1, .int .i64 y2, .int .i64 y3, .int .i64 y4, .int .i64 y5, .int .i64 y6, .int .i64 y7, .int .i64 y8, .int .i64 y9, .int .i64 y10, .slice ya yn yc] 40))
        have HA2 := Lib.hid (lst_new encJ_len w3 [(⟨⟨y0, y1, y2, y3, y4, y5, y6, y7, y8, y9, y10, yd⟩, ya, yn, yc⟩ : Jv)] #[.int .i64 y0, .int .i64 y1, .int .i64 y2, .int .i64 y3, .int .i64 y4, .int .i64 y5, .int .i64 y6, .int .i64 y7, .int .i64 y8, .int .i64 y9, .int .i64 y10, .slice ya yn yc] 40 _ 1 rfl rfl rfl (by omega)).row
        have HA3 := Lib.hid (HB3.out.2.alloc HB3.out.2.size (.cells #[.int .i64 y0, .int .i64 y1, .int .i64 y2, .int .i64 y3, .int .i64 y4, .int .i64 y5, .int .i64 y6, .int .i64 y7, .int .i64 y8, .int .i64 y9, .int .i64 y10, .slice ya yn yc] 40))
        clear hE2
        go_wp2_with (first | (at_builtin; refine Two.append_apart encJ_len (by omega) encJ_one rfl (.tmp 17) (.tmp 19) 22 40 rfl Try.underlying22 (.agg zeroJ.toArray) 112 info_jobs rfl W.heap.size _ out rfl HA1.out (some ⟨w3.heap.size, 0, none⟩) 1 1 [(⟨⟨y0, y1, y2, y3, y4, y5, y6, y7, y8, y9, y10, yd⟩, ya, yn, yc⟩ : Jv)] rfl rfl HA2.out (fun h => by cases h) HDL.out.1 HDL.out.2 HA3.out.size ?_; intro v8 w8 ho8 hg8 hx8; have HO8 := Lib.hid (And.intro ho8 (HA3.out.trans (Two.below_grown HA1.out hg8 HA3.out.size))); clear ho8 hg8 hx8) | fail)
        go_roundw
        case rel => exact ⟨k + 1, by omega, by go_num, by rw [HE.out]; exact HO8.out.1, HO8.out.2⟩
        case measure => simp [intOf]; omega
      | false =>
        have HE := Lib.hid (show (l.take (k + 1)).filter p = out by rw [HN.out, if_neg (by rw [hp]; exact Bool.false_ne_true)])
        clear hp HN hE2
        go_wp2_with fail
        go_roundw
        case rel => exact ⟨k + 1, by omega, by go_num, by rw [HE.out]; exact HB3.out.1, HB3.out.2⟩
        case measure => simp [intOf]; omega
    · obtain rfl : k = n := by omega
      have hni : ¬ (k : Int) < (k : Int) := by omega
      have HT := Lib.hid (show (l.take k).filter p = l.filter p by rw [List.take_of_length_le (by rw [HL.out.2]; exact Nat.le_refl _)])
      go_wp2_with fail
      go_ret
      exact ⟨_, rfl, by rw [← HT.out]; exact HO.out.1, HO.out.2⟩

/-- Those that run. -/
def runL (l : List Jv) : List Jv := l.filter fun x => runB x.t
theorem running_any (W : World) (a1 : Option Addr) (n c1 : Nat) (l : List Jv) (h : Jobs W a1 n c1 l) (hn : n ≤ 100) :
    Calls Try.prog 26 #[.slice a1 n c1] W fun e W' => ∃ v, e = .returned v ∧ OwJ W' W.heap.size v (runL l) ∧ Below W.heap.size W W' := by
  have HC := Lib.hid (those_any W a1 n c1 l h hn 40 #[] (fun x => runB x.t) (enters_of Try.func40 (by kernel_rfl) rfl) (fun w x _ _ => isrun_any x w))
  clear h
  go_enter Try.func26, Try.ntmps26
  go_wp2_with fail
  refine HC.out.mono ?_
  rintro e w1 ⟨v, rfl, h1, h2⟩
  have HR := Lib.hid (And.intro h1 h2)
  clear h1 h2
  go_wp2_with fail
  go_ret
  exact ⟨_, rfl, HR.out.1, HR.out.2⟩
set_option maxHeartbeats 4000000 in
theorem index_any (W : World) (a : Option Addr) (n c1 : Nat) (l : List Jv) (id : Int) (bx : Nat) (h : Jobs W a n c1 l) (hX : W.cell? ⟨bx, 0, none⟩ = some (.int .i64 id)) :
    Calls Try.prog 24 #[.slice a n c1, .func (.func 25) #[] #[.pointer (some ⟨bx, 0, none⟩)]] W fun e W' => e = .returned (.int .i64 (findI (ts l) id)) ∧ Below W.heap.size W W' := by
  have hm1 : n ≤ 9223372036854775807 := by have := h.cap; have := h.max; unfold maxLen at this; omega
  have HL := Lib.hid (And.intro h h.len)
  have HX := Lib.hid hX
  have HF := Lib.hid (show findI (ts l) id = fndI (firstId id (ts l)) from rfl)
  clear h hX
  go_enter Try.func24, Try.ntmps24
  go_wp2_with fail
  go_loopw [8] (fun i wr => ∃ k : Nat, k ≤ n ∧ i = .int .i64 (k : Nat) ∧ (firstId id ((ts l).drop k)).map (· + k) = firstId id (ts l) ∧ Below W.heap.size W wr) (fun i _ => n - (intOf i).toNat)
  case atStart => exact ⟨0, Nat.zero_le _, rfl, by simp, Below.refl _ _⟩
  case round =>
    obtain ⟨k, hk, rfl, hf, hb⟩ := hrel
    have HB := Lib.hid (And.intro hb hf)
    clear hb hf
    by_cases hlt : k < n
    · have hlti : (k : Int) < (n : Int) := by omega
      have hkl : k < l.length := by rw [HL.out.2]; exact hlt
      obtain ⟨x, hx⟩ : ∃ x, l[k]? = some x := ⟨_, List.getElem?_eq_getElem hkl⟩
      obtain ⟨b, o, rfl⟩ := lst_at HL.out.1 (by omega)
      have HRx := Lib.hid (job_range (lst_keep encJ_len HL.out.1 HB.out.1) hx)
      have hst := findF_step (id := id) (ts_get hx)
      rw [HB.out.2] at hst
      have HS := Lib.hid hst
      have HCx := Lib.hid (isid_any x id bx wr (cell_keep HB.out.1 HX.out))
      clear hst hx hkl
      go_wp2_with (first | (refine wpList_load_mid rfl 40 (.tmp 14) rfl b (o + k * 12) rfl (encJ x) _ HRx.out Try.underlying40 rfl info_job12 ?_) | fail)
      refine HCx.out.mono ?_
      rintro e w3 ⟨rfl, hb3⟩
      have HB3 := Lib.hid (below_keep HB.out.1 hb3)
      clear hb3 HCx
      by_cases he : x.t.id = id
      · have HA := Lib.hid (show findI (ts l) id = (k : Nat) by rw [HF.out, HS.out, if_pos he]; rfl)
        have heb : (x.t.id == id) = true := by rw [he]; exact beq_self_eq_true _
        rw [heb]
        clear he heb
        go_wp2_with fail
        go_ret
        exact ⟨by rw [HA.out]; try rfl, HB3.out⟩
      · have HN := Lib.hid (show (firstId id ((ts l).drop (k + 1))).map (· + (k + 1)) = firstId id (ts l) by rw [HS.out, if_neg he])
        have heb : (x.t.id == id) = false := beq_false_of_ne he
        rw [heb]
        clear he heb
        go_wp2_with fail
        go_roundw
        case rel => exact ⟨k + 1, by omega, by go_num, HN.out, HB3.out⟩
        case measure => simp [intOf]; omega
    · obtain rfl : k = n := by omega
      have hni : ¬ (k : Int) < (k : Int) := by omega
      have HA := Lib.hid (show findI (ts l) id = -1 by
        rw [HF.out, ← HB.out.2, List.drop_eq_nil_of_le (by rw [ts_len, HL.out.2]; exact Nat.le_refl _)]; rfl)
      go_wp2_with fail
      go_ret
      exact ⟨by rw [HA.out]; try rfl, HB.out.1⟩
theorem find_any (W : World) (a : Option Addr) (n c1 : Nat) (l : List Jv) (id : Int) (h : Jobs W a n c1 l) :
    Calls Try.prog 8 #[.slice a n c1, .int .i64 id] W fun e W' => e = .returned (.int .i64 (findI (ts l) id)) ∧ Below W.heap.size W W' := by
  have hb := below_alloc W (.cells #[.int .i64 id] 3)
  have HC := Lib.hid (index_any (W.alloc (.cells #[.int .i64 id] 3)) a n c1 l id W.heap.size (lst_keep encJ_len h hb) (by simp))
  have HB := Lib.hid hb
  clear h hb
  go_enter Try.func8, Try.ntmps8
  go_wp2_with fail
  refine HC.out.mono ?_
  rintro e w1 ⟨rfl, h1⟩
  have HR := Lib.hid (below_keep HB.out h1)
  clear h1
  go_wp2_with fail
  go_ret
  exact ⟨rfl, HR.out⟩
end Go.Proofs.Ytcndihekpdebhaa.Job
/- Job, the landed: what all that run have. -/
namespace Go.Proofs.Ytcndihekpdebhaa.Job
set_option maxRecDepth 100000
open Go.RowKit
open Go.Sort
open Kit
open Foot (owns_le)
open Tre (Lst inI lst_keep lst_take lst_at lst_new lst_none run_ld2)
open Prf (Bz Busys encZ encZ_len encZ_one OwZ own_busys own_keepZ info_busy run_bd_z run_bs_z row_z kLitZ)
open Pla (Bx rowsL info_box)
open Bxm (Bxs encX encX_len encX_one)
open Go.Proofs.Ytcndihekpdebhaa.Ord (ts)
set_option linter.unusedVariables false
variable {w w' : World}

theorem runL_ts (l : List Jv) : (ts l).filter runB = ts (runL l) := by
  unfold ts runL
  rw [List.filter_map]; rfl
theorem runL_len (l : List Jv) : (runL l).length ≤ l.length := List.length_filter_le _ _
theorem runL_mem {l : List Jv} {x : Jv} (h : x ∈ runL l) : x ∈ l := (List.mem_filter.1 h).1
def maskR (l : List Jv) : Int := l.foldl (fun a x => orW a x.t.mask) 0
def busyR (l : List Jv) : List Bz := l.map fun x => ⟨endJ x.t, x.t.nodes⟩
def boxesR (l : List Jv) : List Bx := l.flatMap fun x => rowsL x.t.start x.t.wall x.t.mask
theorem maskR_eq (l : List Jv) : maskR (runL l) = maskL (ts l) := by
  unfold maskR maskL runL ts
  generalize (0 : Int) = a
  induction l generalizing a with
  | nil => rfl
  | cons x l ih =>
    rw [List.filter_cons, List.map_cons, List.foldl_cons]
    unfold maskS
    cases hr : runB x.t with
    | true => rw [if_pos rfl, if_pos rfl, List.foldl_cons]; exact ih _
    | false => rw [if_neg Bool.false_ne_true, if_neg Bool.false_ne_true]; exact ih _
theorem busyR_eq (l : List Jv) : busyR (runL l) = busyL (ts l) := by
  unfold busyL busyR
  rw [runL_ts]
  unfold ts
  rw [List.map_map]; rfl
theorem boxesR_eq (l : List Jv) : boxesR (runL l) = boxesL (ts l) := by
  unfold boxesL boxesR
  rw [runL_ts]
  unfold ts
  rw [List.flatMap_map]
theorem take_snoc {α : Type} {l : List α} {k : Nat} {x : α} (h : l[k]? = some x) : l.take (k + 1) = l.take k ++ [x] := by
  obtain ⟨hk, e⟩ := List.getElem?_eq_some_iff.1 h
  rw [List.take_succ_eq_append_getElem hk, e]
theorem maskR_take {l : List Jv} {k : Nat} {x : Jv} (h : l[k]? = some x) : maskR (l.take (k + 1)) = bits BinOp.or IntKind.i64 (maskR (l.take k)) x.t.mask := by
  unfold maskR
  rw [take_snoc h, List.foldl_append]; rfl
theorem busyR_take {l : List Jv} {k : Nat} {x : Jv} (h : l[k]? = some x) : busyR (l.take (k + 1)) = busyR (l.take k) ++ [⟨endJ x.t, x.t.nodes⟩] := by
  unfold busyR
  rw [take_snoc h, List.map_append]; rfl
theorem boxesR_take {l : List Jv} {k : Nat} {x : Jv} (h : l[k]? = some x) : boxesR (l.take (k + 1)) = boxesR (l.take k) ++ rowsL x.t.start x.t.wall x.t.mask := by
  unfold boxesR
  rw [take_snoc h, List.flatMap_append]; simp
theorem boxesR_len (l : List Jv) : (boxesR l).length ≤ 32 * l.length := by
  unfold boxesR
  induction l with
  | nil => exact Nat.le_refl _
  | cons x l ih =>
    rw [List.flatMap_cons, List.length_append, List.length_cons]
    have := rows_len x.t.start x.t.wall x.t.mask
    omega
set_option maxHeartbeats 8000000 in
theorem mask_any (W : World) (a1 : Option Addr) (n c1 : Nat) (l : List Jv) (h : Jobs W a1 n c1 l) (hn : n ≤ 100) :
    Calls Try.prog 10 #[.slice a1 n c1] W fun e W' => e = .returned (.int .i64 (maskL (ts l))) ∧ Below W.heap.size W W' := by
  have HC := Lib.hid (And.intro (running_any W a1 n c1 l h hn) (show (runL l).length ≤ 100 by have := runL_len l; have := h.len; omega))
  have HF := Lib.hid (maskR_eq l)
  clear h
  go_enter Try.func10, Try.ntmps10
  go_wp2_with fail
  refine HC.out.1.mono ?_
  rintro e w0 ⟨v, rfl, hown, hb⟩
  obtain ⟨R, hR⟩ : ∃ R, R = runL l := ⟨_, rfl⟩
  rw [← hR] at hown HC HF
  clear hR
  obtain ⟨ar, cr, rfl, hJ⟩ := own_jobs hown
  obtain ⟨m, hm⟩ : ∃ m, m = R.length := ⟨_, rfl⟩
  rw [← hm] at hJ ⊢
  have hm1 : m ≤ 100 := by rw [hm]; exact HC.out.2
  have HL := Lib.hid (And.intro hJ (And.intro hm hb))
  clear hJ hm hb hown HC
  go_wp2_with fail
  go_loopw [3, 9] (fun v i wr => ∃ k : Nat, k ≤ m ∧ i = .int .i64 (k : Nat) ∧ v = .int .i64 (maskR (R.take k)) ∧ Below w0.heap.size w0 wr) (fun _ i _ => m - (intOf i).toNat)
  case atStart => exact ⟨0, Nat.zero_le _, rfl, rfl, Below.refl _ _⟩
  case round =>
    obtain ⟨k, hk, rfl, rfl, hb⟩ := hrel
    have HO := Lib.hid hb
    clear hb
    by_cases hlt : k < m
    · have hlti : (k : Int) < (m : Int) := by omega
      have hkl : k < R.length := by rw [← HL.out.2.1]; exact hlt
      obtain ⟨x, hx⟩ : ∃ x, R[k]? = some x := ⟨_, List.getElem?_eq_getElem hkl⟩
      obtain ⟨b, o, rfl⟩ := lst_at HL.out.1 (by omega)
      have HRx := Lib.hid (job_range (lst_keep encJ_len HL.out.1 HO.out) hx)
      have HN := Lib.hid (maskR_take hx)
      obtain ⟨z, hz⟩ : ∃ z, z = maskR (R.take k) := ⟨_, rfl⟩
      rw [← hz] at HN ⊢
      clear hx hkl hz
      obtain ⟨w1, rfl⟩ : ∃ z, z = wr := ⟨_, rfl⟩
      go_upto_region 5 with (first | (refine wpList_load_mid rfl 40 (.tmp 11) rfl b (o + k * 12) rfl (encJ x) _ HRx.out Try.underlying40 rfl info_job12 ?_) | (refine Arr.wpList_store_blk rfl 40 (.tmp 5) (.tmp 12) rfl w1.heap.size (encJ x) rfl rfl zeroJ 40 (Arr.blk_new _ _ _ zeroJ rfl) info_job12 rfl (one12L' x) w1.heap.size (Nat.le_refl _) ?_; intro w2 hblk hbel; have HW2 := Lib.hid (And.intro hblk ((below_alloc w1 (.cells zeroJ.toArray 40)).trans hbel)); clear hbel hblk) | fail)
      have q9 : w2.cell? ⟨w1.heap.size, 9, none⟩ = some (.int .i64 x.t.mask) := Arr.blk_cell HW2.out.1 9
      obtain ⟨mk, hmk⟩ : ∃ mk, mk = x.t.mask := ⟨_, rfl⟩
      rw [← hmk] at q9 HN
      have HB2 := Lib.hid (below_keep HO.out HW2.out.2)
      generalize Value.agg (encJ x).toArray = u13
      clear hmk HW2 HRx HO
      go_wp2_with fail
      go_roundw
      case rel => exact ⟨k + 1, by omega, by go_num, by rw [HN.out], HB2.out⟩
      case measure => simp [intOf]; omega
    · obtain rfl : k = m := by omega
      have hni : ¬ (k : Int) < (k : Int) := by omega
      have HA := Lib.hid (show maskR (R.take k) = maskL (ts l) by rw [← HF.out, List.take_of_length_le (by rw [HL.out.2.1]; exact Nat.le_refl _)])
      rw [HA.out]
      go_wp2_with fail
      go_ret
      exact ⟨rfl, below_keep HL.out.2.2 HO.out⟩
set_option maxHeartbeats 8000000 in
theorem busy_any (W : World) (a1 : Option Addr) (n c1 : Nat) (l : List Jv) (h : Jobs W a1 n c1 l) (hn : n ≤ 100) (hok : ∀ x ∈ l, okT x.t) :
    Calls Try.prog 13 #[.slice a1 n c1] W fun e W' => ∃ v, e = .returned v ∧ OwZ W' W.heap.size v (busyL (ts l)) ∧ Below W.heap.size W W' := by
  have HC := Lib.hid (And.intro (running_any W a1 n c1 l h hn) (And.intro (show (runL l).length ≤ 100 by have := runL_len l; have := h.len; omega) (show ∀ x ∈ runL l, okT x.t from fun x hx => hok x (runL_mem hx))))
  have HF := Lib.hid (busyR_eq l)
  clear h hok
  go_enter Try.func13, Try.ntmps13
  go_wp2_with fail
  refine HC.out.1.mono ?_
  rintro e w0 ⟨v, rfl, hown, hb⟩
  obtain ⟨R, hR⟩ : ∃ R, R = runL l := ⟨_, rfl⟩
  rw [← hR] at hown HC HF
  clear hR
  obtain ⟨ar, cr, rfl, hJ⟩ := own_jobs hown
  obtain ⟨m, hm⟩ : ∃ m, m = R.length := ⟨_, rfl⟩
  rw [← hm] at hJ ⊢
  have hm1 : m ≤ 100 := by rw [hm]; exact HC.out.2.1
  have HL := Lib.hid (And.intro hJ (And.intro hm (And.intro hb HC.out.2.2)))
  clear hJ hm hb hown HC
  go_wp2_with fail
  go_loopw [3, 9] (fun v i wr => ∃ k : Nat, k ≤ m ∧ i = .int .i64 (k : Nat) ∧ OwZ wr w0.heap.size v (busyR (R.take k)) ∧ Below w0.heap.size w0 wr) (fun _ i _ => m - (intOf i).toNat)
  case atStart => exact ⟨0, Nat.zero_le _, rfl, owns_nil _ _ _, Below.refl _ _⟩
  case round =>
    obtain ⟨k, hk, rfl, hown, hb⟩ := hrel
    have HO := Lib.hid (And.intro hown hb)
    clear hown hb
    by_cases hlt : k < m
    · have hlti : (k : Int) < (m : Int) := by omega
      have hkl : k < R.length := by rw [← HL.out.2.1]; exact hlt
      obtain ⟨x, hx⟩ : ∃ x, R[k]? = some x := ⟨_, List.getElem?_eq_getElem hkl⟩
      obtain ⟨b, o, rfl⟩ := lst_at HL.out.1 (by omega)
      have HRx := Lib.hid (job_range (lst_keep encJ_len HL.out.1 HO.out.2) hx)
      have HN := Lib.hid (busyR_take hx)
      have HX := Lib.hid (HL.out.2.2.2 x (List.mem_of_getElem? hx))
      have hlx : (busyR (R.take k)).length ≤ 100 := by unfold busyR; rw [List.length_map, List.length_take]; omega
      obtain ⟨lx, hlx'⟩ : ∃ lx, lx = busyR (R.take k) := ⟨_, rfl⟩
      rw [← hlx'] at HO HN hlx
      have HLn := Lib.hid (show lx.length + 1 ≤ maxLen ∧ (lx.length + 1) * 16 ≤ 140737488355328 by unfold maxLen; omega)
      obtain ⟨ao, co, rfl, hcl, hcm, hcn, hcr⟩ := owns_row encZ_len HO.out.1
      obtain ⟨mo, hmo⟩ : ∃ mo, mo = lx.length := ⟨_, rfl⟩
      rw [← hmo] at HO ⊢
      clear hx hkl hlx hlx' hcl hcm hcn hcr hmo
      obtain ⟨w1, rfl⟩ : ∃ z, z = wr := ⟨_, rfl⟩
      go_upto_region 5 with (first | (refine wpList_load_mid rfl 40 (.tmp 11) rfl b (o + k * 12) rfl (encJ x) _ HRx.out Try.underlying40 rfl info_job12 ?_) | (refine Arr.wpList_store_blk rfl 40 (.tmp 5) (.tmp 12) rfl w1.heap.size (encJ x) rfl rfl zeroJ 40 (Arr.blk_new _ _ _ zeroJ rfl) info_job12 rfl (one12L' x) w1.heap.size (Nat.le_refl _) ?_; intro w2 hblk hbel; have HW2 := Lib.hid (And.intro hblk ((below_alloc w1 (.cells zeroJ.toArray 40)).trans hbel)); clear hbel hblk) | fail)
      have HB2 := Lib.hid (And.intro (Nest.own_on HO.out.1 HW2.out.2) (below_keep HO.out.2 HW2.out.2))
      obtain ⟨B1, hB1⟩ : ∃ z, z = w1.heap.size := ⟨_, rfl⟩
      rw [← hB1] at HW2 ⊢
      have HQ := Lib.hid (show w2.rangeAt B1 0 (encJ x) ∧ w2.cell? ⟨B1, 2, none⟩ = some (.int .i64 x.t.nodes) from ⟨blk_range HW2.out.1, Arr.blk_cell HW2.out.1 2⟩)
      generalize Value.agg (encJ x).toArray = u13
      clear hB1 HW2 HRx HO
      refine Rel.wp_region_ends (G := Rel.Gr) _ _ (Rel.tab [.is (.slice ao mo co), .is (.agg (encJ x).toArray), .is (.int .i64 (endJ x.t)), .is (.pointer (some ⟨B1, 2, none⟩)), .is (.int .i64 x.t.nodes), .is (.agg #[.int .i64 (endJ x.t), .int .i64 x.t.nodes]), kLitZ ⟨endJ x.t, x.t.nodes⟩]) (fun _ w => Below w2.heap.size w2 w) (by kernel_rfl) rfl rfl (by kernel_rfl) (by kernel_rfl) (by kernel_rfl) (by kernel_rfl) (by kernel_rfl) (by kernel_rfl) (below_drew _) ?_ ?_
      · refine ⟨?_, ?_, ?_, ?_, ?_, ?_, ?_, trivial⟩
        · intro L a w c
          refine .inl ⟨Rel.wanted_free (by kernel_rfl) _, ?_⟩
          exact Rel.wp_mv _ rfl ⟨_, rfl, Rel.gr_refl _, (c.old 3 (v := .slice ao mo co) (by kernel_rfl) (by kernel_rfl)), c.inv⟩
        · intro L a w c
          refine .inl ⟨Rel.wanted_free (by kernel_rfl) _, ?_⟩
          exact Rel.wp_ld _ _ rfl (c.old 5 (v := .pointer (some ⟨B1, 0, none⟩)) (by kernel_rfl) (by kernel_rfl)) (run_ldJob (range_keep c.inv HQ.out.1)) ⟨_, rfl, Rel.gr_refl _, rfl, c.inv⟩
        · intro L a w c
          refine .inl ⟨Rel.wanted_free (by kernel_rfl) _, ?_⟩
          refine Rel.wp_cl _ _ _ rfl Try.func27 (by kernel_rfl) ?_
          show Calls _ _ #[Rel.slot a 14] w _
          rw [show Rel.slot a 14 = .agg (encJ x).toArray from (c.get 1 14 (by kernel_rfl))]
          refine (end_any x w HX.out).mono ?_
          rintro e w' ⟨rfl, hb, hd⟩
          exact ⟨_, rfl, _, rfl, hb, rfl, below_keep c.inv hb⟩
        · intro L a w c
          refine .inl ⟨Rel.wanted_free (by kernel_rfl) _, ?_⟩
          exact Chn.wp_fa _ _ _ rfl (c.old 5 (v := .pointer (some ⟨B1, 0, none⟩)) (by kernel_rfl) (by kernel_rfl)) (by simp [go_sem]) ⟨_, rfl, Rel.gr_refl _, rfl, c.inv⟩
        · intro L a w c
          refine .inl ⟨Rel.wanted_free (by kernel_rfl) _, ?_⟩
          exact Rel.wp_ld _ _ rfl (c.get 3 16 (by kernel_rfl)) (run_ld2 (cell_keep c.inv HQ.out.2)) ⟨_, rfl, Rel.gr_refl _, rfl, c.inv⟩
        · intro L a w c
          refine .inl ⟨Rel.wanted_free (by kernel_rfl) _, ?_⟩
          exact Chn.wp_bd2 _ _ _ _ _ rfl (c.get 2 15 (by kernel_rfl)) (c.get 4 17 (by kernel_rfl)) (run_bd_z _ _ w) ⟨_, rfl, Rel.gr_refl _, rfl, c.inv⟩
        · intro L a w c
          refine .inl ⟨Rel.wanted_free (by kernel_rfl) _, ?_⟩
          exact Chn.wp_bs1 _ _ rfl (c.get 5 18 (by kernel_rfl)) (run_bs_z _ _ w) ⟨_, rfl, below_alloc _ _, ⟨_, rfl, row_z w _⟩, below_keep c.inv (below_alloc _ _)⟩
      intro a w5 hbase hroom hdef hJ hV
      have s13 : Rel.slot a 13 = .slice ao mo co := hV 0 _ _ rfl rfl
      have k19 : (kLitZ ⟨endJ x.t, x.t.nodes⟩ : Rel.Kd (Rel.Gr)).p w5 (Rel.slot a 19) := hV 6 _ _ rfl rfl
      rw [Chn.act_puts [13, 14, 15, 16, 17, 18, 19] hbase hroom hdef (by kernel_rfl)]
      clear hbase hroom hdef hV
      simp only [List.foldl_cons, List.foldl_nil]
      rw [s13]
      clear s13
      generalize Rel.slot a 14 = u14 at *
      generalize Rel.slot a 15 = u15 at *
      generalize Rel.slot a 16 = u16 at *
      generalize Rel.slot a 17 = u17 at *
      generalize Rel.slot a 18 = u18 at *
      generalize Rel.slot a 19 = u19 at *
      simp only [Act.put, List.setIfInBounds_toArray, List.set_cons_succ, List.set_cons_zero]
      obtain ⟨g9, rfl, hrow⟩ := k19
      have HA := Lib.hid (show OwZ w5 w0.heap.size (.slice ao mo co) lx ∧ Below w0.heap.size w0 w5 from ⟨own_keepZ HB2.out.1 hJ, below_keep HB2.out.2 hJ⟩)
      clear hJ
      dsimp only [List.getLast]
      obtain ⟨v9, w9, hr9, ho9, hg9, _⟩ := Two.run_append_apart (P := Try.prog) encZ_len (by omega) encZ_one (w := w5) 28 28 48 Try.underlying28 (.agg #[.int .i64 0, .int .i64 0]) 16 info_busy rfl w0.heap.size (.slice ao mo co) lx HA.out.1 (some ⟨g9, 0, none⟩) 1 1 [(⟨endJ x.t, x.t.nodes⟩ : Bz)] rfl hrow (fun h => by cases h) HLn.out.1 HLn.out.2 HA.out.2.size
      have HE9 := Lib.hid (And.intro ho9 (HA.out.2.trans (Two.below_grown HA.out.1 hg9 HA.out.2.size)))
      refine Chn.wp_ap (.tmp 13) (.tmp 19) 28 rfl rfl rfl hr9 ?_
      refine Rel.wp_as _ rfl ?_
      clear hr9 ho9 hg9 hrow
      go_wp2_with fail
      go_roundw
      case rel => exact ⟨k + 1, by omega, by go_num, by rw [HN.out]; exact HE9.out.1, HE9.out.2⟩
      case measure => simp [intOf]; omega
    · obtain rfl : k = m := by omega
      have hni : ¬ (k : Int) < (k : Int) := by omega
      have HT := Lib.hid (show busyR (R.take k) = busyL (ts l) by rw [← HF.out, List.take_of_length_le (by rw [HL.out.2.1]; exact Nat.le_refl _)])
      go_wp2_with fail
      go_ret
      exact ⟨_, rfl, by rw [← HT.out]; exact owns_le HO.out.1 HL.out.2.2.1.size, below_keep HL.out.2.2.1 HO.out.2⟩
set_option maxHeartbeats 8000000 in
theorem boxes_any (W : World) (a1 : Option Addr) (n c1 : Nat) (l : List Jv) (h : Jobs W a1 n c1 l) (hn : n ≤ 100) (hok : ∀ x ∈ l, okT x.t) :
    Calls Try.prog 16 #[.slice a1 n c1] W fun e W' => ∃ v, e = .returned v ∧ OwX W' W.heap.size v (boxesL (ts l)) ∧ Below W.heap.size W W' := by
  have HC := Lib.hid (And.intro (running_any W a1 n c1 l h hn) (And.intro (show (runL l).length ≤ 100 by have := runL_len l; have := h.len; omega) (show ∀ x ∈ runL l, okT x.t from fun x hx => hok x (runL_mem hx))))
  have HF := Lib.hid (boxesR_eq l)
  clear h hok
  go_enter Try.func16, Try.ntmps16
  go_wp2_with fail
  refine HC.out.1.mono ?_
  rintro e w0 ⟨v, rfl, hown, hb⟩
  obtain ⟨R, hR⟩ : ∃ R, R = runL l := ⟨_, rfl⟩
  rw [← hR] at hown HC HF
  clear hR
  obtain ⟨ar, cr, rfl, hJ⟩ := own_jobs hown
  obtain ⟨m, hm⟩ : ∃ m, m = R.length := ⟨_, rfl⟩
  rw [← hm] at hJ ⊢
  have hm1 : m ≤ 100 := by rw [hm]; exact HC.out.2.1
  have HL := Lib.hid (And.intro hJ (And.intro hm (And.intro hb HC.out.2.2)))
  clear hJ hm hb hown HC
  go_wp2_with fail
  go_loopw [3, 9] (fun v i wr => ∃ k : Nat, k ≤ m ∧ i = .int .i64 (k : Nat) ∧ OwX wr w0.heap.size v (boxesR (R.take k)) ∧ Below w0.heap.size w0 wr) (fun _ i _ => m - (intOf i).toNat)
  case atStart => exact ⟨0, Nat.zero_le _, rfl, owns_nil _ _ _, Below.refl _ _⟩
  case round =>
    obtain ⟨k, hk, rfl, hown, hb⟩ := hrel
    have HO := Lib.hid (And.intro hown hb)
    clear hown hb
    by_cases hlt : k < m
    · have hlti : (k : Int) < (m : Int) := by omega
      have hkl : k < R.length := by rw [← HL.out.2.1]; exact hlt
      obtain ⟨x, hx⟩ : ∃ x, R[k]? = some x := ⟨_, List.getElem?_eq_getElem hkl⟩
      obtain ⟨b, o, rfl⟩ := lst_at HL.out.1 (by omega)
      have HRx := Lib.hid (job_range (lst_keep encJ_len HL.out.1 HO.out.2) hx)
      have HN := Lib.hid (boxesR_take hx)
      have HX := Lib.hid (HL.out.2.2.2 x (List.mem_of_getElem? hx))
      have hlx : (boxesR (R.take k)).length ≤ 3200 := by have := boxesR_len (R.take k); rw [List.length_take] at this; omega
      obtain ⟨lx, hlx'⟩ : ∃ lx, lx = boxesR (R.take k) := ⟨_, rfl⟩
      rw [← hlx'] at HO HN hlx
      have HLn := Lib.hid (show lx.length + (rowsL x.t.start x.t.wall x.t.mask).length ≤ maxLen ∧ (lx.length + (rowsL x.t.start x.t.wall x.t.mask).length) * 32 ≤ 140737488355328 by have := rows_len x.t.start x.t.wall x.t.mask; unfold maxLen; omega)
      obtain ⟨ao, co, rfl, hcl, hcm, hcn, hcr⟩ := owns_row encX_len HO.out.1
      obtain ⟨mo, hmo⟩ : ∃ mo, mo = lx.length := ⟨_, rfl⟩
      rw [← hmo] at HO ⊢
      clear hx hkl hlx hlx' hcl hcm hcn hcr hmo
      obtain ⟨w1, rfl⟩ : ∃ z, z = wr := ⟨_, rfl⟩
      go_upto_region 5 with (first | (refine wpList_load_mid rfl 40 (.tmp 11) rfl b (o + k * 12) rfl (encJ x) _ HRx.out Try.underlying40 rfl info_job12 ?_) | (refine Arr.wpList_store_blk rfl 40 (.tmp 5) (.tmp 12) rfl w1.heap.size (encJ x) rfl rfl zeroJ 40 (Arr.blk_new _ _ _ zeroJ rfl) info_job12 rfl (one12L' x) w1.heap.size (Nat.le_refl _) ?_; intro w2 hblk hbel; have HW2 := Lib.hid (And.intro hblk ((below_alloc w1 (.cells zeroJ.toArray 40)).trans hbel)); clear hbel hblk) | fail)
      have HB2 := Lib.hid (And.intro (Nest.own_on HO.out.1 HW2.out.2) (below_keep HO.out.2 HW2.out.2))
      obtain ⟨B1, hB1⟩ : ∃ z, z = w1.heap.size := ⟨_, rfl⟩
      rw [← hB1] at HW2 ⊢
      have q8 : w2.cell? ⟨B1, 8, none⟩ = some (.int .i64 x.t.start) := Arr.blk_cell HW2.out.1 8
      have q3 : w2.cell? ⟨B1, 3, none⟩ = some (.int .i64 x.t.wall) := Arr.blk_cell HW2.out.1 3
      have q9 : w2.cell? ⟨B1, 9, none⟩ = some (.int .i64 x.t.mask) := Arr.blk_cell HW2.out.1 9
      obtain ⟨xs, hxs⟩ : ∃ z, z = x.t.start := ⟨_, rfl⟩
      obtain ⟨xw, hxw⟩ : ∃ z, z = x.t.wall := ⟨_, rfl⟩
      obtain ⟨xm, hxm⟩ : ∃ z, z = x.t.mask := ⟨_, rfl⟩
      rw [← hxs, ← hxw, ← hxm] at HN HLn
      rw [← hxs] at q8
      rw [← hxw] at q3
      rw [← hxm] at q9
      have HC7 := Lib.hid (Pla.rows_any xs xw xm w2 (by have := HX.out; unfold okT at this; rw [← hxs, ← hxw] at this; unfold Pla.Wide; omega) (by have := HX.out; unfold okT at this; rw [← hxs, ← hxw] at this; unfold Pla.Wide; omega))
      generalize Value.agg (encJ x).toArray = u13
      clear hB1 HW2 HRx HO hxs hxw hxm
      go_wp2_with fail
      refine HC7.out.mono ?_
      intro e w5 ho
      obtain ⟨a9, c9, rfl, hl9, hb9⟩ := Bxm.out_lst ho
      have HA := Lib.hid (show OwX w5 w0.heap.size (.slice ao mo co) lx ∧ Below w0.heap.size w0 w5 from ⟨Nest.own_on HB2.out.1 hb9, below_keep HB2.out.2 hb9⟩)
      have HR9 := Lib.hid (And.intro hl9.row hl9.nil)
      obtain ⟨RR, hRR⟩ : ∃ z, z = rowsL xs xw xm := ⟨_, rfl⟩
      rw [← hRR] at HN HLn HR9 ⊢
      obtain ⟨nr, hnr⟩ : ∃ z, z = RR.length := ⟨_, rfl⟩
      rw [← hnr] at HLn HR9 ⊢
      have HNr := Lib.hid hnr
      clear ho hl9 hb9 hRR hnr HC7
      go_wp2_with (first | (at_builtin; refine Two.append_apart encX_len (by omega) encX_one rfl (.tmp 13) (.tmp 20) 31 52 rfl Try.underlying31 (.agg #[.int .i64 0, .int .i64 0, .int .i64 0, .int .i64 0]) 32 info_box rfl w0.heap.size (.slice ao mo co) lx rfl HA.out.1 a9 nr c9 RR rfl HNr.out.symm HR9.out.1 HR9.out.2 HLn.out.1 HLn.out.2 HA.out.2.size ?_; intro v9 w9 ho9 hg9 hx9; have HE9 := Lib.hid (And.intro ho9 (HA.out.2.trans (Two.below_grown HA.out.1 hg9 HA.out.2.size))); clear ho9 hg9 hx9) | fail)
      go_roundw
      case rel => exact ⟨k + 1, by omega, by go_num, by rw [HN.out]; exact HE9.out.1, HE9.out.2⟩
      case measure => simp [intOf]; omega
    · obtain rfl : k = m := by omega
      have hni : ¬ (k : Int) < (k : Int) := by omega
      have HT := Lib.hid (show boxesR (R.take k) = boxesL (ts l) by rw [← HF.out, List.take_of_length_le (by rw [HL.out.2.1]; exact Nat.le_refl _)])
      go_wp2_with fail
      go_ret
      exact ⟨_, rfl, by rw [← HT.out]; exact owns_le HO.out.1 HL.out.2.2.1.size, below_keep HL.out.2.2.1 HO.out.2⟩
end Go.Proofs.Ytcndihekpdebhaa.Job
