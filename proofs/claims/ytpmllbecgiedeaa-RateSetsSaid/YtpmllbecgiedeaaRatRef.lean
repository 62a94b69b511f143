/- Rate: the document's Good and Price, as they run. -/
import Derived.Test.YtpmllbecgiedeaaRatMem
namespace Go.Proofs.Ytpmllbecgiedeaa.Rte
set_option maxRecDepth 100000
open Go.RowKit
open Go.Sort
open Kit
open Tre
set_option linter.unusedVariables false
variable {w w' : World}

theorem okR_false {x : Rt} (h : x.qos < 0 ∨ 7 < x.qos ∨ x.from' < 0 ∨ 1099511627776 < x.from' ∨ x.price < 0 ∨ 1099511627776 < x.price) : okR x = false := by
  unfold okR
  rw [Bool.eq_false_iff]
  intro hc
  simp only [Bool.and_eq_true, decide_eq_true_eq] at hc
  omega
theorem okR_true {x : Rt} (h : ¬ (x.qos < 0 ∨ 7 < x.qos ∨ x.from' < 0 ∨ 1099511627776 < x.from' ∨ x.price < 0 ∨ 1099511627776 < x.price)) : okR x = true := by
  unfold okR
  simp only [Bool.and_eq_true, decide_eq_true_eq]
  omega
theorem good_no {l : List Rt} {x : Rt} (hx : x ∈ l) (h : okR x = false) : goodR l = false := by
  unfold goodR
  rw [List.all_eq_false.2 ⟨x, hx, by rw [h]; exact Bool.false_ne_true⟩, Bool.and_false]
set_option maxHeartbeats 4000000 in
theorem rgood_any (a : Option Addr) (n c : Nat) (l : List Rt) (w : World) (h : Rates w a n c l) (hn : n ≤ 100) :
    Calls Try.prog 11 #[.slice a n c] w fun e w' => e = .returned (.bool (goodR l)) ∧ Below w.heap.size w w' := by
  have HL := Lib.hid (And.intro h h.len)
  clear h
  go_enter Try.func11, Try.ntmps11
  go_wp2_with fail
  go_loopw [3, 4] (fun i _ wr => ∃ k : Nat, k ≤ n ∧ i = .int .i64 (k : Nat) ∧ (∀ x ∈ l.take k, okR x = true) ∧ Below w.heap.size w wr) (fun i _ _ => n - (intOf i).toNat)
  case atStart => exact ⟨0, Nat.zero_le _, rfl, (fun x hx => by simp at hx), Below.refl _ _⟩
  case round =>
    obtain ⟨k, hk, rfl, hall, hb⟩ := hrel
    have HO := Lib.hid (And.intro hall hb)
    clear hall hb
    by_cases hlt : k < n
    · have hkl : k < l.length := by rw [HL.out.2]; exact hlt
      obtain ⟨b, o, rfl⟩ := lst_at HL.out.1 (by omega)
      obtain ⟨q0, q1, q2⟩ := rate_cells (lst_keep encR_len HL.out.1 HO.out.2) hkl
      have HTk := Lib.hid (List.take_succ_eq_append_getElem hkl)
      have HMe := Lib.hid (List.getElem_mem hkl)
      generalize l[k] = x at *
      have hno : okR x = false → goodR l = false := good_no HMe.out
      have hfl := @okR_false x
      have htr := @okR_true x
      have HIf := Lib.hid (And.intro hno (And.intro hfl htr))
      obtain ⟨y0, y1, y2⟩ := x
      simp only at q0 q1 q2
      clear hno hfl htr
      have HW := Lib.hid (below_keep HO.out.2 (below_alloc wr (.cells #[.int .i64 y0, .int .i64 y1, .int .i64 y2] 33)))
      by_cases hbd : y0 < 0 ∨ 7 < y0 ∨ y1 < 0 ∨ 1099511627776 < y1 ∨ y2 < 0 ∨ 1099511627776 < y2
      · have HR := Lib.hid (HIf.out.1 (HIf.out.2.1 hbd))
        have hor : y0 < 0 ∨ (¬ y0 < 0 ∧ 7 < y0) ∨ (¬ y0 < 0 ∧ ¬ 7 < y0 ∧ y1 < 0) ∨ (¬ y0 < 0 ∧ ¬ 7 < y0 ∧ ¬ y1 < 0 ∧ 1099511627776 < y1) ∨ (¬ y0 < 0 ∧ ¬ 7 < y0 ∧ ¬ y1 < 0 ∧ ¬ 1099511627776 < y1 ∧ y2 < 0) ∨ (¬ y0 < 0 ∧ ¬ 7 < y0 ∧ ¬ y1 < 0 ∧ ¬ 1099511627776 < y1 ∧ ¬ y2 < 0 ∧ 1099511627776 < y2) := by omega
        clear hbd
        rcases hor with t1 | ⟨t1, t2⟩ | ⟨t1, t2, t3⟩ | ⟨t1, t2, t3, t4⟩ | ⟨t1, t2, t3, t4, t5⟩ | ⟨t1, t2, t3, t4, t5, t6⟩
        all_goals
          go_wp2_with fail
          go_ret
          exact ⟨by rw [HR.out]; rfl, HW.out⟩
      · have HAl := Lib.hid (show ∀ x ∈ l.take (k + 1), okR x = true by
          intro x hx
          rw [HTk.out, List.mem_append, List.mem_singleton] at hx
          rcases hx with hx | rfl
          · exact HO.out.1 x hx
          · exact HIf.out.2.2 hbd)
        obtain ⟨t1, t2, t3, t4, t5, t6⟩ : ¬ y0 < 0 ∧ ¬ 7 < y0 ∧ ¬ y1 < 0 ∧ ¬ 1099511627776 < y1 ∧ ¬ y2 < 0 ∧ ¬ 1099511627776 < y2 := by omega
        clear hbd
        go_wp2_with fail
        go_roundw
        case rel => exact ⟨k + 1, by omega, by go_num, HAl.out, HW.out⟩
        case measure => simp [intOf]; omega
    · obtain rfl : n = k := by omega
      have HG := Lib.hid (show goodR l = decide (n ≤ 16) by
        unfold goodR
        rw [HL.out.2, List.all_eq_true.2 (fun x hx => HO.out.1 x (by rw [List.take_of_length_le (by rw [HL.out.2]; exact Nat.le_refl _)]; exact hx)), Bool.and_true])
      by_cases h16 : n ≤ 16
      · have h16i : (n : Int) ≤ 16 := by omega
        have HD := Lib.hid (decide_eq_true h16)
        go_wp2_with fail
        go_ret
        exact ⟨by rw [HG.out, HD.out]; first | rfl | exact ret_bool (decide_eq_true h16i), HO.out.2⟩
      · have h16i : ¬ (n : Int) ≤ 16 := by omega
        have HD := Lib.hid (decide_eq_false h16)
        go_wp2_with fail
        go_ret
        exact ⟨by rw [HG.out, HD.out]; first | rfl | exact ret_bool (decide_eq_false h16i), HO.out.2⟩

/-! ### Price -/

def topsTo (q t : Int) (l : List Rt) (j : Nat) (r : Rt) : Bool := fitR q t r && (l.take j).all fun x => !(fitR q t x && decide (r.from' < x.from'))
theorem tops_all {q t : Int} {l : List Rt} {r : Rt} {j : Nat} (h : l.length ≤ j) : topsTo q t l j r = tops q t l r := by
  unfold topsTo tops
  rw [List.take_of_length_le h]
theorem tops_step {q t : Int} {l : List Rt} {r x : Rt} {j : Nat} (h : l[j]? = some x) : topsTo q t l (j + 1) r = (topsTo q t l j r && !(fitR q t x && decide (r.from' < x.from'))) := by
  have hk := (List.getElem?_eq_some_iff.1 h).1
  have he := (List.getElem?_eq_some_iff.1 h).2
  unfold topsTo
  rw [List.take_succ_eq_append_getElem hk, he, List.all_append, List.all_cons, List.all_nil, Bool.and_true, Bool.and_assoc]
theorem tops_no {q t : Int} {l : List Rt} {r : Rt} {j : Nat} (h : topsTo q t l j r = false) : tops q t l r = false := by
  cases hc : tops q t l r with
  | false => rfl
  | true =>
    unfold tops at hc
    unfold topsTo at h
    rw [Bool.and_eq_true, List.all_eq_true] at hc
    rw [hc.1, Bool.true_and, List.all_eq_false] at h
    obtain ⟨x, hx, hn⟩ := h
    exact absurd (hc.2 x (List.mem_of_mem_take hx)) hn
set_option maxHeartbeats 8000000 in
theorem rprice_any (a : Option Addr) (n c : Nat) (l : List Rt) (q t : Int) (w : World) (h : Rates w a n c l) (hn : n ≤ 100) :
    Calls Try.prog 8 #[.slice a n c, .int .i64 q, .int .i64 t] w fun e w' => e = .returned (.tuple #[.int .i64 (priceN l q t), .int .i64 (priceE l q t)]) ∧ Below w.heap.size w w' := by
  have HL := Lib.hid (And.intro h h.len)
  clear h
  go_enter Try.func8, Try.ntmps8
  go_wp2_with fail
  go_loopw [8, 9] (fun i _ wr => ∃ z : Int, -1 ≤ z ∧ z < (n : Int) ∧ i = .int .i64 z ∧ (∀ (k : Nat) (x : Rt), z < (k : Int) → l[k]? = some x → tops q t l x = false) ∧ Below w.heap.size w wr) (fun i _ _ => (intOf i + 1).toNat)
  case atStart => exact ⟨(n : Int) - 1, by omega, by omega, rfl, (fun k x hk hx => by
    have := (List.getElem?_eq_some_iff.1 hx).1
    rw [HL.out.2] at this
    omega), Below.refl _ _⟩
  case round =>
    obtain ⟨z, hz1, hz2, rfl, hall, hb⟩ := hrel
    have HO := Lib.hid (And.intro hall hb)
    clear hall hb
    by_cases hz0 : 0 ≤ z
    · obtain ⟨k, rfl⟩ : ∃ k : Nat, z = k := ⟨z.toNat, by omega⟩
      have hkn : k < n := by omega
      have hkl : k < l.length := by rw [HL.out.2]; exact hkn
      obtain ⟨b, o, rfl⟩ := lst_at HL.out.1 (by omega)
      obtain ⟨p0, p1, p2⟩ := rate_cells (lst_keep encR_len HL.out.1 HO.out.2) hkl
      have hget := List.getElem?_eq_getElem hkl
      generalize l[k] = x at *
      have hst := fun j (y : Rt) (hy : l[j]? = some y) => tops_step (q := q) (t := t) (r := x) hy
      have ht0 : topsTo q t l 0 x = fitR q t x := by unfold topsTo; simp
      have htn := fun j => @tops_no q t l x j
      have hta := @tops_all q t l x n (by rw [HL.out.2]; exact Nat.le_refl _)
      have hbe := fun ht => best_from_end (q := q) (t := t) hget ht (fun k' x' hk' hx' => HO.out.1 k' x' (by omega) hx')
      have HX := Lib.hid (And.intro hst (And.intro ht0 (And.intro htn (And.intro hta (And.intro hbe hget)))))
      obtain ⟨y0, y1, y2⟩ := x
      simp only at p0 p1 p2
      clear hst ht0 htn hta hbe hget
      obtain ⟨g0, g1, g2⟩ := boxed_rate wr y0 y1 y2
      have hbw := below_alloc wr (.cells #[.int .i64 y0, .int .i64 y1, .int .i64 y2] 33)
      have HW := Lib.hid (And.intro (below_keep HO.out.2 hbw) (And.intro g1 g2))
      have hfit : fitR q t ⟨y0, y1, y2⟩ = (decide (y0 = q) && decide (y1 ≤ t)) := rfl
      have HFt := Lib.hid hfit
      clear hbw hfit g1 g2
      have hor : (y0 = q ∧ y1 ≤ t) ∨ (y0 = q ∧ ¬ y1 ≤ t) ∨ (¬ y0 = q) := by omega
      rcases hor with ⟨s1, s2⟩ | ⟨s1, s2⟩ | s1
      · have HB0 := Lib.hid (show fitR q t ⟨y0, y1, y2⟩ = true by rw [HFt.out]; simp [s1, s2])
        subst s1
        go_wp2_with fail
        go_loopw [10, 11] (fun bv i w3 => ∃ (j : Nat) (bb : Bool), j ≤ n ∧ i = .int .i64 (j : Nat) ∧ bv = .bool bb ∧ Hid (bb = topsTo y0 t l j ⟨y0, y1, y2⟩) ∧ Below (wr.alloc (.cells #[.int .i64 y0, .int .i64 y1, .int .i64 y2] 33)).heap.size (wr.alloc (.cells #[.int .i64 y0, .int .i64 y1, .int .i64 y2] 33)) w3) (fun _ i _ => n - (intOf i).toNat)
        case atStart => exact ⟨0, _, Nat.zero_le _, rfl, rfl, Lib.hid (by rw [HX.out.2.1]; exact HB0.out.symm), Below.refl _ _⟩
        case round =>
          obtain ⟨j, bb, hj, rfl, rfl, hbb, hbj⟩ := hrel
          have HBj := Lib.hid (below_keep HW.out.1 hbj)
          have hbj2 := Lib.hid hbj
          by_cases hgo : j < n ∧ bb = true
          · obtain ⟨hlt, rfl⟩ := hgo
            have hjl : j < l.length := by rw [HL.out.2]; exact hlt
            have g1 := cell_keep hbj HW.out.2.1
            obtain ⟨r0, r1, -⟩ := rate_cells (lst_keep encR_len HL.out.1 HBj.out) hjl
            have hst := HX.out.1 j _ (List.getElem?_eq_getElem hjl)
            rw [← hbb.out, Bool.true_and] at hst
            generalize l[j] = x at *
            obtain ⟨x0, x1, x2⟩ := x
            simp only at r0 r1
            have hfx : fitR y0 t ⟨x0, x1, x2⟩ = (decide (x0 = y0) && decide (x1 ≤ t)) := rfl
            rw [hfx] at hst
            simp only at hst
            have HSt := Lib.hid hst
            clear hst hfx hbj hbb
            have hor2 : (x0 = y0 ∧ x1 ≤ t ∧ y1 < x1) ∨ (x0 = y0 ∧ x1 ≤ t ∧ ¬ y1 < x1) ∨ (x0 = y0 ∧ ¬ x1 ≤ t) ∨ (¬ x0 = y0) := by omega
            rcases hor2 with ⟨u1, u2, u3⟩ | ⟨u1, u2, u3⟩ | ⟨u1, u2⟩ | u1
            · have HR := Lib.hid (show false = topsTo y0 t l (j + 1) ⟨y0, y1, y2⟩ by rw [HSt.out]; simp [u1, u2, u3])
              have u4 : (x0 == y0) = true := by rw [u1]; exact beq_self_eq_true _
              clear u1
              go_wp2_with fail
              go_quiet (fail)
              go_wp2_with fail
              go_roundw
              case rel => exact ⟨j + 1, false, by omega, by go_num, rfl, HR, below_keep hbj2.out (below_drewN' _ _)⟩
              case measure => simp [intOf]; omega
            · have HR := Lib.hid (show true = topsTo y0 t l (j + 1) ⟨y0, y1, y2⟩ by rw [HSt.out]; simp [u1, u2]; omega)
              have u4 : (x0 == y0) = true := by rw [u1]; exact beq_self_eq_true _
              clear u1
              go_wp2_with fail
              go_quiet (fail)
              go_wp2_with fail
              go_roundw
              case rel => exact ⟨j + 1, true, by omega, by go_num, rfl, HR, below_keep hbj2.out (below_drewN' _ _)⟩
              case measure => simp [intOf]; omega
            · have HR := Lib.hid (show true = topsTo y0 t l (j + 1) ⟨y0, y1, y2⟩ by rw [HSt.out]; simp [u1, u2])
              have u5 : decide (x1 ≤ t) = false := decide_eq_false u2
              have u4 : (x0 == y0) = true := by rw [u1]; exact beq_self_eq_true _
              clear u1
              go_wp2_with fail
              go_quiet (fail)
              go_wp2_with fail
              go_roundw
              case rel => exact ⟨j + 1, true, by omega, by go_num, rfl, HR, below_keep hbj2.out (below_drewN' _ _)⟩
              case measure => simp [intOf]; omega
            · have HR := Lib.hid (show true = topsTo y0 t l (j + 1) ⟨y0, y1, y2⟩ by rw [HSt.out]; simp [u1])
              have u4 : (x0 == y0) = false := beq_false_of_ne u1
              clear u1
              go_wp2_with fail
              go_quiet (fail)
              go_wp2_with fail
              go_roundw
              case rel => exact ⟨j + 1, true, by omega, by go_num, rfl, HR, below_keep hbj2.out (below_drewN' _ _)⟩
              case measure => simp [intOf]; omega
          · have hex : bb = tops y0 t l ⟨y0, y1, y2⟩ := by
              by_cases hjn : j = n
              · rw [hbb.out, hjn, HX.out.2.2.2.1]
              · have hbf : bb = false := by
                  cases bb with
                  | false => rfl
                  | true => exact absurd ⟨by omega, rfl⟩ hgo
                rw [hbf]
                exact (HX.out.2.2.1 j (by rw [← hbb.out]; exact hbf)).symm
            have g2 := cell_keep hbj HW.out.2.2
            have hor3 : (¬ (j : Int) < (n : Int)) ∨ ((j : Int) < (n : Int) ∧ bb = false) := by
              by_cases hjn : j < n
              · refine .inr ⟨by omega, ?_⟩
                cases bb with
                | false => rfl
                | true => exact absurd ⟨hjn, rfl⟩ hgo
              · exact .inl (by omega)
            clear hgo hbj hbb
            cases bb with
            | true =>
              have HBe := Lib.hid (show priceN l y0 t = y2 ∧ priceE l y0 t = 0 by
                have := HX.out.2.2.2.2.1 hex.symm
                unfold priceN priceE
                rw [this]; exact ⟨rfl, rfl⟩)
              have v1 : ¬ (j : Int) < (n : Int) := by
                rcases hor3 with h | ⟨_, h⟩
                · exact h
                · cases h
              clear hex hor3
              go_wp2_with fail
              go_ret2
              exact ⟨by rw [HBe.out.1, HBe.out.2]; rfl, HBj.out⟩
            | false =>
              have HNx := Lib.hid (show ∀ (k' : Nat) (x' : Rt), (k : Int) - 1 < (k' : Int) → l[k']? = some x' → tops y0 t l x' = false from fun k' x' hk' hx' => by
                by_cases hkk : k' = k
                · rw [hkk, HX.out.2.2.2.2.2] at hx'
                  injection hx' with hx'
                  rw [← hx']; exact hex.symm
                · exact HO.out.1 k' x' (by omega) hx')
              clear hex
              rcases hor3 with v1 | ⟨v1, -⟩
              all_goals
                go_wp2_with fail
                go_roundw
                case rel => exact ⟨(k : Int) - 1, by omega, by omega, rfl, HNx.out, HBj.out⟩
                case measure => first | (simp [intOf]; done) | (simp [intOf]; omega)
      · have HB0 := Lib.hid (show fitR q t ⟨y0, y1, y2⟩ = false by rw [HFt.out]; simp [s2])
        subst s1
        go_wp2_with fail
        go_loopw [10, 11] (fun bv i w3 => ∃ (j : Nat) (bb : Bool), j ≤ n ∧ i = .int .i64 (j : Nat) ∧ bv = .bool bb ∧ Hid (bb = topsTo y0 t l j ⟨y0, y1, y2⟩) ∧ Below (wr.alloc (.cells #[.int .i64 y0, .int .i64 y1, .int .i64 y2] 33)).heap.size (wr.alloc (.cells #[.int .i64 y0, .int .i64 y1, .int .i64 y2] 33)) w3) (fun _ i _ => n - (intOf i).toNat)
        case atStart => exact ⟨0, _, Nat.zero_le _, rfl, rfl, Lib.hid (by rw [HX.out.2.1]; exact HB0.out.symm), Below.refl _ _⟩
        case round =>
          obtain ⟨j, bb, hj, rfl, rfl, hbb, hbj⟩ := hrel
          have HBj := Lib.hid (below_keep HW.out.1 hbj)
          have hbj2 := Lib.hid hbj
          by_cases hgo : j < n ∧ bb = true
          · obtain ⟨hlt, rfl⟩ := hgo
            have hjl : j < l.length := by rw [HL.out.2]; exact hlt
            have g1 := cell_keep hbj HW.out.2.1
            obtain ⟨r0, r1, -⟩ := rate_cells (lst_keep encR_len HL.out.1 HBj.out) hjl
            have hst := HX.out.1 j _ (List.getElem?_eq_getElem hjl)
            rw [← hbb.out, Bool.true_and] at hst
            generalize l[j] = x at *
            obtain ⟨x0, x1, x2⟩ := x
            simp only at r0 r1
            have hfx : fitR y0 t ⟨x0, x1, x2⟩ = (decide (x0 = y0) && decide (x1 ≤ t)) := rfl
            rw [hfx] at hst
            simp only at hst
            have HSt := Lib.hid hst
            clear hst hfx hbj hbb
            have hor2 : (x0 = y0 ∧ x1 ≤ t ∧ y1 < x1) ∨ (x0 = y0 ∧ x1 ≤ t ∧ ¬ y1 < x1) ∨ (x0 = y0 ∧ ¬ x1 ≤ t) ∨ (¬ x0 = y0) := by omega
            rcases hor2 with ⟨u1, u2, u3⟩ | ⟨u1, u2, u3⟩ | ⟨u1, u2⟩ | u1
            · have HR := Lib.hid (show false = topsTo y0 t l (j + 1) ⟨y0, y1, y2⟩ by rw [HSt.out]; simp [u1, u2, u3])
              have u4 : (x0 == y0) = true := by rw [u1]; exact beq_self_eq_true _
              clear u1
              go_wp2_with fail
              go_quiet (fail)
              go_wp2_with fail
              go_roundw
              case rel => exact ⟨j + 1, false, by omega, by go_num, rfl, HR, below_keep hbj2.out (below_drewN' _ _)⟩
              case measure => simp [intOf]; omega
            · have HR := Lib.hid (show true = topsTo y0 t l (j + 1) ⟨y0, y1, y2⟩ by rw [HSt.out]; simp [u1, u2]; omega)
              have u4 : (x0 == y0) = true := by rw [u1]; exact beq_self_eq_true _
              clear u1
              go_wp2_with fail
              go_quiet (fail)
              go_wp2_with fail
              go_roundw
              case rel => exact ⟨j + 1, true, by omega, by go_num, rfl, HR, below_keep hbj2.out (below_drewN' _ _)⟩
              case measure => simp [intOf]; omega
            · have HR := Lib.hid (show true = topsTo y0 t l (j + 1) ⟨y0, y1, y2⟩ by rw [HSt.out]; simp [u1, u2])
              have u5 : decide (x1 ≤ t) = false := decide_eq_false u2
              have u4 : (x0 == y0) = true := by rw [u1]; exact beq_self_eq_true _
              clear u1
              go_wp2_with fail
              go_quiet (fail)
              go_wp2_with fail
              go_roundw
              case rel => exact ⟨j + 1, true, by omega, by go_num, rfl, HR, below_keep hbj2.out (below_drewN' _ _)⟩
              case measure => simp [intOf]; omega
            · have HR := Lib.hid (show true = topsTo y0 t l (j + 1) ⟨y0, y1, y2⟩ by rw [HSt.out]; simp [u1])
              have u4 : (x0 == y0) = false := beq_false_of_ne u1
              clear u1
              go_wp2_with fail
              go_quiet (fail)
              go_wp2_with fail
              go_roundw
              case rel => exact ⟨j + 1, true, by omega, by go_num, rfl, HR, below_keep hbj2.out (below_drewN' _ _)⟩
              case measure => simp [intOf]; omega
          · have hex : bb = tops y0 t l ⟨y0, y1, y2⟩ := by
              by_cases hjn : j = n
              · rw [hbb.out, hjn, HX.out.2.2.2.1]
              · have hbf : bb = false := by
                  cases bb with
                  | false => rfl
                  | true => exact absurd ⟨by omega, rfl⟩ hgo
                rw [hbf]
                exact (HX.out.2.2.1 j (by rw [← hbb.out]; exact hbf)).symm
            have g2 := cell_keep hbj HW.out.2.2
            have hor3 : (¬ (j : Int) < (n : Int)) ∨ ((j : Int) < (n : Int) ∧ bb = false) := by
              by_cases hjn : j < n
              · refine .inr ⟨by omega, ?_⟩
                cases bb with
                | false => rfl
                | true => exact absurd ⟨hjn, rfl⟩ hgo
              · exact .inl (by omega)
            clear hgo hbj hbb
            cases bb with
            | true =>
              have HBe := Lib.hid (show priceN l y0 t = y2 ∧ priceE l y0 t = 0 by
                have := HX.out.2.2.2.2.1 hex.symm
                unfold priceN priceE
                rw [this]; exact ⟨rfl, rfl⟩)
              have v1 : ¬ (j : Int) < (n : Int) := by
                rcases hor3 with h | ⟨_, h⟩
                · exact h
                · cases h
              clear hex hor3
              go_wp2_with fail
              go_ret2
              exact ⟨by rw [HBe.out.1, HBe.out.2]; rfl, HBj.out⟩
            | false =>
              have HNx := Lib.hid (show ∀ (k' : Nat) (x' : Rt), (k : Int) - 1 < (k' : Int) → l[k']? = some x' → tops y0 t l x' = false from fun k' x' hk' hx' => by
                by_cases hkk : k' = k
                · rw [hkk, HX.out.2.2.2.2.2] at hx'
                  injection hx' with hx'
                  rw [← hx']; exact hex.symm
                · exact HO.out.1 k' x' (by omega) hx')
              clear hex
              rcases hor3 with v1 | ⟨v1, -⟩
              all_goals
                go_wp2_with fail
                go_roundw
                case rel => exact ⟨(k : Int) - 1, by omega, by omega, rfl, HNx.out, HBj.out⟩
                case measure => first | (simp [intOf]; done) | (simp [intOf]; omega)
      · have HB0 := Lib.hid (show fitR q t ⟨y0, y1, y2⟩ = false by rw [HFt.out]; simp [s1])
        have s3 : (y0 == q) = false := beq_false_of_ne s1
        clear s1
        go_wp2_with fail
        go_loopw [10, 11] (fun bv i w3 => ∃ (j : Nat) (bb : Bool), j ≤ n ∧ i = .int .i64 (j : Nat) ∧ bv = .bool bb ∧ Hid (bb = topsTo q t l j ⟨y0, y1, y2⟩) ∧ Below (wr.alloc (.cells #[.int .i64 y0, .int .i64 y1, .int .i64 y2] 33)).heap.size (wr.alloc (.cells #[.int .i64 y0, .int .i64 y1, .int .i64 y2] 33)) w3) (fun _ i _ => n - (intOf i).toNat)
        case atStart => exact ⟨0, _, Nat.zero_le _, rfl, rfl, Lib.hid (by rw [HX.out.2.1]; exact HB0.out.symm), Below.refl _ _⟩
        case round =>
          obtain ⟨j, bb, hj, rfl, rfl, hbb, hbj⟩ := hrel
          have HBj := Lib.hid (below_keep HW.out.1 hbj)
          have hbj2 := Lib.hid hbj
          by_cases hgo : j < n ∧ bb = true
          · obtain ⟨hlt, rfl⟩ := hgo
            have hjl : j < l.length := by rw [HL.out.2]; exact hlt
            have g1 := cell_keep hbj HW.out.2.1
            obtain ⟨r0, r1, -⟩ := rate_cells (lst_keep encR_len HL.out.1 HBj.out) hjl
            have hst := HX.out.1 j _ (List.getElem?_eq_getElem hjl)
            rw [← hbb.out, Bool.true_and] at hst
            generalize l[j] = x at *
            obtain ⟨x0, x1, x2⟩ := x
            simp only at r0 r1
            have hfx : fitR q t ⟨x0, x1, x2⟩ = (decide (x0 = q) && decide (x1 ≤ t)) := rfl
            rw [hfx] at hst
            simp only at hst
            have HSt := Lib.hid hst
            clear hst hfx hbj hbb
            have hor2 : (x0 = q ∧ x1 ≤ t ∧ y1 < x1) ∨ (x0 = q ∧ x1 ≤ t ∧ ¬ y1 < x1) ∨ (x0 = q ∧ ¬ x1 ≤ t) ∨ (¬ x0 = q) := by omega
            rcases hor2 with ⟨u1, u2, u3⟩ | ⟨u1, u2, u3⟩ | ⟨u1, u2⟩ | u1
            · have HR := Lib.hid (show false = topsTo q t l (j + 1) ⟨y0, y1, y2⟩ by rw [HSt.out]; simp [u1, u2, u3])
              have u4 : (x0 == q) = true := by rw [u1]; exact beq_self_eq_true _
              clear u1
              go_wp2_with fail
              go_quiet (fail)
              go_wp2_with fail
              go_roundw
              case rel => exact ⟨j + 1, false, by omega, by go_num, rfl, HR, below_keep hbj2.out (below_drewN' _ _)⟩
              case measure => simp [intOf]; omega
            · have HR := Lib.hid (show true = topsTo q t l (j + 1) ⟨y0, y1, y2⟩ by rw [HSt.out]; simp [u1, u2]; omega)
              have u4 : (x0 == q) = true := by rw [u1]; exact beq_self_eq_true _
              clear u1
              go_wp2_with fail
              go_quiet (fail)
              go_wp2_with fail
              go_roundw
              case rel => exact ⟨j + 1, true, by omega, by go_num, rfl, HR, below_keep hbj2.out (below_drewN' _ _)⟩
              case measure => simp [intOf]; omega
            · have HR := Lib.hid (show true = topsTo q t l (j + 1) ⟨y0, y1, y2⟩ by rw [HSt.out]; simp [u1, u2])
              have u5 : decide (x1 ≤ t) = false := decide_eq_false u2
              have u4 : (x0 == q) = true := by rw [u1]; exact beq_self_eq_true _
              clear u1
              go_wp2_with fail
              go_quiet (fail)
              go_wp2_with fail
              go_roundw
              case rel => exact ⟨j + 1, true, by omega, by go_num, rfl, HR, below_keep hbj2.out (below_drewN' _ _)⟩
              case measure => simp [intOf]; omega
            · have HR := Lib.hid (show true = topsTo q t l (j + 1) ⟨y0, y1, y2⟩ by rw [HSt.out]; simp [u1])
              have u4 : (x0 == q) = false := beq_false_of_ne u1
              clear u1
              go_wp2_with fail
              go_quiet (fail)
              go_wp2_with fail
              go_roundw
              case rel => exact ⟨j + 1, true, by omega, by go_num, rfl, HR, below_keep hbj2.out (below_drewN' _ _)⟩
              case measure => simp [intOf]; omega
          · have hex : bb = tops q t l ⟨y0, y1, y2⟩ := by
              by_cases hjn : j = n
              · rw [hbb.out, hjn, HX.out.2.2.2.1]
              · have hbf : bb = false := by
                  cases bb with
                  | false => rfl
                  | true => exact absurd ⟨by omega, rfl⟩ hgo
                rw [hbf]
                exact (HX.out.2.2.1 j (by rw [← hbb.out]; exact hbf)).symm
            have g2 := cell_keep hbj HW.out.2.2
            have hor3 : (¬ (j : Int) < (n : Int)) ∨ ((j : Int) < (n : Int) ∧ bb = false) := by
              by_cases hjn : j < n
              · refine .inr ⟨by omega, ?_⟩
                cases bb with
                | false => rfl
                | true => exact absurd ⟨hjn, rfl⟩ hgo
              · exact .inl (by omega)
            clear hgo hbj hbb
            cases bb with
            | true =>
              have HBe := Lib.hid (show priceN l q t = y2 ∧ priceE l q t = 0 by
                have := HX.out.2.2.2.2.1 hex.symm
                unfold priceN priceE
                rw [this]; exact ⟨rfl, rfl⟩)
              have v1 : ¬ (j : Int) < (n : Int) := by
                rcases hor3 with h | ⟨_, h⟩
                · exact h
                · cases h
              clear hex hor3
              go_wp2_with fail
              go_ret2
              exact ⟨by rw [HBe.out.1, HBe.out.2]; rfl, HBj.out⟩
            | false =>
              have HNx := Lib.hid (show ∀ (k' : Nat) (x' : Rt), (k : Int) - 1 < (k' : Int) → l[k']? = some x' → tops q t l x' = false from fun k' x' hk' hx' => by
                by_cases hkk : k' = k
                · rw [hkk, HX.out.2.2.2.2.2] at hx'
                  injection hx' with hx'
                  rw [← hx']; exact hex.symm
                · exact HO.out.1 k' x' (by omega) hx')
              clear hex
              rcases hor3 with v1 | ⟨v1, -⟩
              all_goals
                go_wp2_with fail
                go_roundw
                case rel => exact ⟨(k : Int) - 1, by omega, by omega, rfl, HNx.out, HBj.out⟩
                case measure => first | (simp [intOf]; done) | (simp [intOf]; omega)
    · obtain rfl : z = -1 := by omega
      have HN := Lib.hid (show best q t l = none from best_none fun x hx => by
        obtain ⟨k, hk, he⟩ := List.getElem_of_mem hx
        exact HO.out.1 k x (by omega) (by rw [List.getElem?_eq_getElem hk, he]))
      have HN2 := Lib.hid (show priceN l q t = 0 ∧ priceE l q t = 12 by unfold priceN priceE; rw [HN.out]; exact ⟨rfl, rfl⟩)
      go_wp2_with fail
      go_ret2
      exact ⟨by rw [HN2.out.1, HN2.out.2]; rfl, HO.out.2⟩
end Go.Proofs.Ytpmllbecgiedeaa.Rte
