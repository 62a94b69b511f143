/- Rate, the landed: mayBe, Good and Price do as rates must. -/
import Derived.Test.YtpmllbecgiedeaaRatRef
import Derived.Test.YtpmllbecgiedeaaResC
namespace Go.Proofs.Ytpmllbecgiedeaa.Rte
set_option maxRecDepth 100000
open Go.RowKit
open Go.Sort
open Kit
open Tre
open Foot
set_option linter.unusedVariables false
variable {w w' : World}

theorem maybe_no (W : World) (y0 y1 y2 : Int) (h : y0 < 0 ∨ 7 < y0 ∨ y1 < 0 ∨ 1099511627776 < y1 ∨ y2 < 0 ∨ 1099511627776 < y2) :
    Calls Try.prog 12 #[.agg #[.int .i64 y0, .int .i64 y1, .int .i64 y2]] W fun e w' => e = .returned (.bool false) ∧ Below W.heap.size W w' := by
  have hb := Lib.hid (below_alloc W (.cells #[.int .i64 y0, .int .i64 y1, .int .i64 y2] 33))
  have hor : decide (0 ≤ y0) = false ∨ (0 ≤ y0 ∧ decide (y0 < 8) = false) ∨ (0 ≤ y0 ∧ y0 < 8 ∧ decide (0 ≤ y1) = false) ∨ (0 ≤ y0 ∧ y0 < 8 ∧ 0 ≤ y1 ∧ decide (y1 ≤ 1099511627776) = false) ∨ (0 ≤ y0 ∧ y0 < 8 ∧ 0 ≤ y1 ∧ y1 ≤ 1099511627776 ∧ decide (0 ≤ y2) = false) ∨ (0 ≤ y0 ∧ y0 < 8 ∧ 0 ≤ y1 ∧ y1 ≤ 1099511627776 ∧ 0 ≤ y2 ∧ decide (y2 ≤ 1099511627776) = false) := by
    simp only [decide_eq_false_iff_not]
    omega
  clear h
  rcases hor with t1 | ⟨t1, t2⟩ | ⟨t1, t2, t3⟩ | ⟨t1, t2, t3, t4⟩ | ⟨t1, t2, t3, t4, t5⟩ | ⟨t1, t2, t3, t4, t5, t6⟩
  all_goals
    go_enter Try.func12, Try.ntmps12
    go_wp2_with fail
    go_ret
    exact ⟨rfl, hb.out⟩
theorem maybe_yes (W : World) (y0 y1 y2 : Int) (h : ¬ (y0 < 0 ∨ 7 < y0 ∨ y1 < 0 ∨ 1099511627776 < y1 ∨ y2 < 0 ∨ 1099511627776 < y2)) :
    Calls Try.prog 12 #[.agg #[.int .i64 y0, .int .i64 y1, .int .i64 y2]] W fun e w' => e = .returned (.bool true) ∧ Below W.heap.size W w' := by
  have hb := Lib.hid (below_alloc W (.cells #[.int .i64 y0, .int .i64 y1, .int .i64 y2] 33))
  obtain ⟨t1, t2, t3, t4, t5, t6⟩ : 0 ≤ y0 ∧ y0 < 8 ∧ 0 ≤ y1 ∧ y1 ≤ 1099511627776 ∧ 0 ≤ y2 ∧ y2 ≤ 1099511627776 := by omega
  clear h
  go_enter Try.func12, Try.ntmps12
  go_wp2_with fail
  go_ret
  exact ⟨rfl, hb.out⟩
theorem maybe_any (W : World) (x : Rt) : Calls Try.prog 12 #[.agg #[.int .i64 x.qos, .int .i64 x.from', .int .i64 x.price]] W fun e w' => e = .returned (.bool (okR x)) ∧ Below W.heap.size W w' := by
  by_cases h : x.qos < 0 ∨ 7 < x.qos ∨ x.from' < 0 ∨ 1099511627776 < x.from' ∨ x.price < 0 ∨ 1099511627776 < x.price
  · rw [okR_false h]; exact maybe_no W _ _ _ h
  · rw [okR_true h]; exact maybe_yes W _ _ _ h
set_option maxHeartbeats 4000000 in
theorem good_land (W : World) (a : Option Addr) (n c : Nat) (l : List Rt) (h : Rates W a n c l) (hn : n ≤ 100) :
    Calls Try.prog 10 #[.slice a n c] W fun e w' => e = .returned (.bool (goodR l)) ∧ Below W.heap.size W w' := by
  have HL := Lib.hid (And.intro h h.len)
  clear h
  by_cases h16 : n ≤ 16
  · have h16i : ¬ (16 : Int) < (n : Int) := by omega
    go_enter Try.func10, Try.ntmps10
    go_wp2_with fail
    go_loopw [10] (fun i wr => ∃ k : Nat, k ≤ n ∧ i = .int .i64 (k : Nat) ∧ (∀ x ∈ l.take k, okR x = true) ∧ Below W.heap.size W wr) (fun i _ => n - (intOf i).toNat)
    case atStart => exact ⟨0, Nat.zero_le _, rfl, (fun x hx => by simp at hx), Below.refl _ _⟩
    case round =>
      obtain ⟨k, hk, rfl, hall, hb⟩ := hrel
      have HO := Lib.hid (And.intro hall hb)
      clear hall hb
      by_cases hlt : k < n
      · have hkl : k < l.length := by rw [HL.out.2]; exact hlt
        obtain ⟨b, o, rfl⟩ := lst_at HL.out.1 (by omega)
        obtain ⟨q0, q1, q2⟩ := rate_cells (lst_keep encR_len HL.out.1 HO.out.2) hkl
        have HTk := Lib.hid (List.take_succ_eq_append_getElem hkl)
        have HMe := Lib.hid (List.getElem_mem hkl)
        generalize l[k] = x at *
        have hno : okR x = false → goodR l = false := good_no HMe.out
        have HC := Lib.hid (maybe_any (wr.alloc (.cells #[.int .i64 x.qos, .int .i64 x.from', .int .i64 x.price] 33)) x)
        have HW := Lib.hid (below_keep HO.out.2 (below_alloc wr (.cells #[.int .i64 x.qos, .int .i64 x.from', .int .i64 x.price] 33)))
        obtain ⟨bb, hbb⟩ : ∃ bb, okR x = bb := ⟨_, rfl⟩
        have HBB := Lib.hid (And.intro hbb hno)
        rw [hbb] at HC
        obtain ⟨y0, y1, y2⟩ := x
        simp only at q0 q1 q2
        clear hno hbb
        cases bb with
        | false =>
          have HR := Lib.hid (HBB.out.2 HBB.out.1)
          go_wp2_with fail
          refine HC.out.mono ?_
          rintro e w1 ⟨rfl, hb1⟩
          have HB1 := Lib.hid (below_keep HW.out hb1)
          clear hb1
          go_wp2_with fail
          go_ret
          exact ⟨by rw [HR.out]; rfl, HB1.out⟩
        | true =>
          have HAl := Lib.hid (show ∀ x ∈ l.take (k + 1), okR x = true by
            intro x hx
            rw [HTk.out, List.mem_append, List.mem_singleton] at hx
            rcases hx with hx | rfl
            · exact HO.out.1 x hx
            · exact HBB.out.1)
          go_wp2_with fail
          refine HC.out.mono ?_
          rintro e w1 ⟨rfl, hb1⟩
          have HB1 := Lib.hid (below_keep HW.out hb1)
          clear hb1
          go_wp2_with fail
          go_roundw
          case rel => exact ⟨k + 1, by omega, by go_num, HAl.out, HB1.out⟩
          case measure => simp [intOf]; omega
      · obtain rfl : n = k := by omega
        have HG := Lib.hid (show goodR l = true by
          unfold goodR
          rw [HL.out.2, List.all_eq_true.2 (fun x hx => HO.out.1 x (by rw [List.take_of_length_le (by rw [HL.out.2]; exact Nat.le_refl _)]; exact hx)), Bool.and_true]
          exact decide_eq_true h16)
        go_wp2_with fail
        go_ret
        exact ⟨by rw [HG.out]; rfl, HO.out.2⟩
  · have h16i : (16 : Int) < (n : Int) := by omega
    have HG := Lib.hid (show goodR l = false by unfold goodR; rw [HL.out.2, decide_eq_false h16]; rfl)
    go_enter Try.func10, Try.ntmps10
    go_wp2_with fail
    go_ret
    exact ⟨by rw [HG.out]; rfl, Below.refl _ _⟩

/-! ### Price -/

def bv : Option Rt → Rt | none => ⟨0, 0, 0⟩ | some r => r
theorem info_rt : (Try.prog.info? 33).map (·.size) = some 3 := by kernel_rfl
theorem price_bv (l : List Rt) (q t : Int) : (best q t l).isSome = true → priceN l q t = (bv (best q t l)).price ∧ priceE l q t = 0 := by
  intro h
  unfold priceN priceE
  cases hb : best q t l with
  | none => rw [hb] at h; cases h
  | some b => exact ⟨rfl, rfl⟩
theorem price_no (l : List Rt) (q t : Int) : (best q t l).isSome = false → priceN l q t = 0 ∧ priceE l q t = 12 := by
  intro h
  unfold priceN priceE
  cases hb : best q t l with
  | none => exact ⟨rfl, rfl⟩
  | some b => rw [hb] at h; cases h
theorem better_none {q t : Int} {r : Rt} (h : fitR q t r = true) : better q t none r = some r := by
  unfold better; rw [h]; rfl
theorem better_some {q t : Int} {b r : Rt} (h : fitR q t r = true) (hb : b.from' ≤ r.from') : better q t (some b) r = some r := by
  unfold better; rw [h]; simp [beats, hb]
theorem better_old {q t : Int} {b r : Rt} (hb : ¬ b.from' ≤ r.from') : better q t (some b) r = some b := by
  unfold better; simp [beats, hb]
set_option maxHeartbeats 8000000 in
theorem price_land (W : World) (a : Option Addr) (n c : Nat) (l : List Rt) (q t : Int) (h : Rates W a n c l) (hn : n ≤ 100) :
    Calls Try.prog 7 #[.slice a n c, .int .i64 q, .int .i64 t] W fun e w' => e = .returned (.tuple #[.int .i64 (priceN l q t), .int .i64 (priceE l q t)]) ∧ Below W.heap.size W w' := by
  have HL := Lib.hid (And.intro h h.len)
  clear h
  go_enter Try.func7, Try.ntmps7
  go_wp2_with fail
  go_loopw [9, 14] (fun f i wr => ∃ k : Nat, k ≤ n ∧ i = .int .i64 (k : Nat) ∧ f = .bool (best q t (l.take k)).isSome ∧ Arr.Blk wr W.heap.size 33 (encR (bv (best q t (l.take k)))) ∧ Below W.heap.size W wr ∧ W.heap.size < wr.heap.size) (fun _ i _ => n - (intOf i).toNat)
  case atStart => exact ⟨0, Nat.zero_le _, rfl, rfl, Arr.blk_new W _ _ _ rfl, below_alloc _ _, by simp⟩
  case round =>
    obtain ⟨k, hk, rfl, rfl, hblk, hb, hlt0⟩ := hrel
    have HO := Lib.hid (And.intro hblk (And.intro hb hlt0))
    clear hblk hb hlt0
    by_cases hlt : k < n
    · have hkl : k < l.length := by rw [HL.out.2]; exact hlt
      obtain ⟨b, o, rfl⟩ := lst_at HL.out.1 (by omega)
      obtain ⟨q0, q1, q2⟩ := rate_cells (lst_keep encR_len HL.out.1 HO.out.2.1) hkl
      have hbt := best_take (q := q) (t := t) (List.getElem?_eq_getElem hkl)
      generalize l[k] = x at *
      obtain ⟨y0, y1, y2⟩ := x
      simp only at q0 q1 q2
      have hba := below_alloc wr (.cells #[.int .i64 y0, .int .i64 y1, .int .i64 y2] 33)
      have hbk := Arr.blk_below HO.out.1 hba HO.out.2.2
      have HW := Lib.hid (And.intro hbk (And.intro (below_keep HO.out.2.1 hba) (show W.heap.size < (wr.alloc (.cells #[.int .i64 y0, .int .i64 y1, .int .i64 y2] 33)).heap.size by have := HO.out.2.2; simp; omega)))
      clear hba hbk
      generalize best q t (l.take k) = bo at *
      have HBt := Lib.hid hbt
      clear hbt
      by_cases g0 : y0 = q
      · subst g0
        by_cases g1 : y1 ≤ t
        · have hf : fitR y0 t ⟨y0, y1, y2⟩ = true := fit_iff.2 ⟨rfl, g1⟩
          have g1i : ¬ t < y1 := by omega
          cases bo with
          | none =>
            have HN := Lib.hid (HBt.out.trans (better_none hf))
            clear hf
            simp only [Option.isSome_none]
            go_wp2_with (first | (refine wpList_store_own rfl 33 (.tmp 8) (.tmp 37) rfl W.heap.size [.int .i64 y0, .int .i64 y1, .int .i64 y2] rfl rfl (encR (bv none)) 33 HW.out.1 info_rt rfl rfl ?_; intro w4 hblk hC hsz; have H4 := Lib.hid (And.intro hblk (And.intro hC hsz)); clear hblk hC hsz) | fail)
            go_roundw
            case rel => exact ⟨k + 1, by omega, by go_num, by rw [HN.out]; rfl, by rw [HN.out]; exact H4.out.1, HW.out.2.1.trans (chg_below H4.out.2.1 (fun y hy => Nat.le_of_eq hy.symm) HW.out.2.1.size), by rw [H4.out.2.2]; exact HW.out.2.2⟩
            case measure => simp [intOf]; omega
          | some bb =>
            obtain ⟨z0, z1, z2⟩ := bb
            have c1 : (wr.alloc (.cells #[.int .i64 y0, .int .i64 y1, .int .i64 y2] 33)).cell? ⟨W.heap.size, 1, none⟩ = some (.int .i64 z1) := Arr.blk_cell HW.out.1 1
            simp only [Option.isSome_some]
            by_cases g2 : z1 ≤ y1
            · have HN := Lib.hid (HBt.out.trans (better_some hf g2))
              clear hf
              go_wp2_with (first | (refine wpList_store_own rfl 33 (.tmp 8) (.tmp 37) rfl W.heap.size [.int .i64 y0, .int .i64 y1, .int .i64 y2] rfl rfl (encR (bv (some ⟨z0, z1, z2⟩))) 33 HW.out.1 info_rt rfl rfl ?_; intro w4 hblk hC hsz; have H4 := Lib.hid (And.intro hblk (And.intro hC hsz)); clear hblk hC hsz) | fail)
              go_roundw
              case rel => exact ⟨k + 1, by omega, by go_num, by rw [HN.out]; rfl, by rw [HN.out]; exact H4.out.1, HW.out.2.1.trans (chg_below H4.out.2.1 (fun y hy => Nat.le_of_eq hy.symm) HW.out.2.1.size), by rw [H4.out.2.2]; exact HW.out.2.2⟩
              case measure => simp [intOf]; omega
            · have HN := Lib.hid (HBt.out.trans (better_old g2))
              clear hf
              go_wp2_with fail
              go_roundw
              case rel => exact ⟨k + 1, by omega, by go_num, by rw [HN.out]; rfl, by rw [HN.out]; exact HW.out.1, HW.out.2.1, HW.out.2.2⟩
              case measure => simp [intOf]; omega
        · have hf : fitR y0 t ⟨y0, y1, y2⟩ = false := by rw [Bool.eq_false_iff]; intro h; exact g1 (fit_iff.1 h).2
          have HN := Lib.hid (HBt.out.trans (better_unfit hf))
          have g1i : t < y1 := by omega
          clear hf
          go_wp2_with fail
          go_roundw
          case rel => exact ⟨k + 1, by omega, by go_num, by rw [HN.out], by rw [HN.out]; exact HW.out.1, HW.out.2.1, HW.out.2.2⟩
          case measure => simp [intOf]; omega
      · have hf : fitR q t ⟨y0, y1, y2⟩ = false := by rw [Bool.eq_false_iff]; intro h; exact g0 (fit_iff.1 h).1
        have HN := Lib.hid (HBt.out.trans (better_unfit hf))
        have g0b : (y0 != q) = true := by simp [g0]
        clear hf
        go_wp2_with fail
        go_roundw
        case rel => exact ⟨k + 1, by omega, by go_num, by rw [HN.out], by rw [HN.out]; exact HW.out.1, HW.out.2.1, HW.out.2.2⟩
        case measure => simp [intOf]; omega
    · obtain rfl : k = n := by omega
      have htk : l.take k = l := List.take_of_length_le (by rw [HL.out.2]; exact Nat.le_refl _)
      rw [htk] at HO ⊢
      have c2 : wr.cell? ⟨W.heap.size, 2, none⟩ = some (.int .i64 (bv (best q t l)).price) := Arr.blk_cell HO.out.1 2
      have hy := price_bv l q t
      have hn' := price_no l q t
      have HP := Lib.hid (And.intro hy hn')
      clear hy hn' htk
      obtain ⟨bb, hbb⟩ : ∃ bb, (best q t l).isSome = bb := ⟨_, rfl⟩
      have HBB := Lib.hid hbb
      rw [hbb]
      clear hbb
      cases bb with
      | true =>
        go_wp2_with fail
        go_ret2
        exact ⟨by rw [(HP.out.1 HBB.out).1, (HP.out.1 HBB.out).2]; rfl, HO.out.2.1⟩
      | false =>
        go_wp2_with fail
        go_ret2
        exact ⟨by rw [(HP.out.2 HBB.out).1, (HP.out.2 HBB.out).2]; rfl, HO.out.2.1⟩
theorem rate_prog : Prog where
  price := fun W a n c l q t h _ hn _ _ => price_land W a n c l q t h hn
  good := fun W a n c l h _ hn => good_land W a n c l h hn
end Go.Proofs.Ytpmllbecgiedeaa.Rte
