/- Common to the claims of this seat, part 38: texts that were written one by one, laid behind one another. -/
import Derived.Test.YtjcndgopijpibaaGreatPart15
import Derived.Test.YtjcndgopijpibaaGreatPart35
/- Book, the landed: of those Done the one of the least ID, looked for from the front. -/
namespace Go.Proofs.YtjcndgopijpibaaGreat.Bok
set_option maxRecDepth 100000
open Go.RowKit
open Go.Sort
open Kit
open Foot
open Tre (Lst inI lst_keep lst_at lst_new lst_none encF encF_len encL_len IntsL goodB)
open Led (Lg encG encG_len)
open Job (Jb Jv Jobs encJ encJ_len encJ_one findI)
open Drw (Dw Draws encD encD_len encD_one)
open Go.Proofs.YtjcndgopijpibaaGreat.Ord (ts)
open Snp (Sn Sv encK encK_len encK_one)
set_option linter.unusedVariables false
variable {w w' W0 W : World} {B : Nat}
theorem best_snoc (x : Jb) : ∀ l : List Jb, bestFrom (l ++ [x]) = if x.state = 4 then (match bestFrom l with | none => some (l.length, x.id) | some (k, m) => if x.id < m then some (l.length, x.id) else some (k, m)) else bestFrom l
  | [] => by simp [bestFrom]
  | j :: l => by
    have ih := best_snoc x l
    rw [List.cons_append, bestFrom, ih, bestFrom, List.length_cons]
    by_cases hx : x.state = 4
    · rw [if_pos hx, if_pos hx]
      cases hb : bestFrom l with
      | none =>
        by_cases hj : j.state = 4
        · by_cases h1 : j.id ≤ x.id
          · simp [hj, h1, Int.not_lt.2 h1]
          · simp [hj, h1, Int.not_le.1 h1]
        · simp [hj]
      | some p =>
        obtain ⟨k, m⟩ := p
        by_cases h2 : x.id < m
        · simp only [h2, if_true]
          by_cases hj : j.state = 4
          · by_cases h1 : j.id ≤ x.id
            · have h3 : j.id ≤ m := by omega
              have h4 : ¬ x.id < j.id := by omega
              simp [hj, h1, h3, h4]
            · have h4 : x.id < j.id := by omega
              by_cases h3 : j.id ≤ m
              · simp [hj, h1, h3, h4]
              · simp [hj, h1, h3, h2]
          · simp [hj, h2]
        · simp only [h2, if_false]
          by_cases hj : j.state = 4
          · by_cases h3 : j.id ≤ m
            · have h4 : ¬ x.id < j.id := by omega
              simp [hj, h3, h4]
            · simp [hj, h3, h2]
          · simp [hj, h2]
    · rw [if_neg hx, if_neg hx]
theorem best_at : ∀ (l : List Jb) (k : Nat) (m : Int), bestFrom l = some (k, m) → ∃ x, l[k]? = some x ∧ x.id = m ∧ k < l.length
  | [], k, m, h => by simp [bestFrom] at h
  | j :: l, k, m, h => by
    rw [bestFrom] at h
    cases hb : bestFrom l with
    | none =>
      rw [hb] at h
      by_cases hj : j.state = 4
      · simp [hj] at h
        obtain ⟨rfl, rfl⟩ := h
        exact ⟨j, rfl, rfl, by simp⟩
      · simp [hj] at h
    | some p =>
      obtain ⟨k2, m2⟩ := p
      rw [hb] at h
      obtain ⟨x, e1, e2, e3⟩ := best_at l k2 m2 hb
      by_cases hj : j.state = 4 ∧ j.id ≤ m2
      · simp [hj] at h
        obtain ⟨rfl, rfl⟩ := h
        exact ⟨j, rfl, rfl, by simp⟩
      · simp only [hj, if_false] at h
        injection h with h
        injection h with h1 h2
        subst h1 h2
        exact ⟨x, by rw [List.getElem?_cons_succ]; exact e1, e2, by simp; omega⟩
def ldI (l : List Jb) : Int := match bestFrom l with | none => -1 | some (k, _) => (k : Int)
theorem ld_best {l : List Jb} : (bestJ l = none ∧ ldI l = -1) ∨ ∃ k, bestJ l = some k ∧ ldI l = (k : Int) ∧ k < l.length := by
  unfold bestJ ldI
  cases hb : bestFrom l with
  | none => exact .inl ⟨rfl, rfl⟩
  | some p =>
    obtain ⟨k, m⟩ := p
    obtain ⟨x, -, -, h⟩ := best_at l k m hb
    exact .inr ⟨k, rfl, rfl, h⟩
theorem ld_step {l : List Jb} {k : Nat} {x : Jb} (hx : l[k]? = some x) :
    (¬ x.state = 4 → ldI (l.take (k + 1)) = ldI (l.take k)) ∧ (x.state = 4 → (ldI (l.take k) = -1 ∧ ldI (l.take (k + 1)) = (k : Int)) ∨ ∃ (q : Nat) (z : Jb), ldI (l.take k) = (q : Int) ∧ q < k ∧ l[q]? = some z ∧ (x.id < z.id → ldI (l.take (k + 1)) = (k : Int)) ∧ (¬ x.id < z.id → ldI (l.take (k + 1)) = (q : Int))) := by
  obtain ⟨hk, e⟩ := List.getElem?_eq_some_iff.1 hx
  have hsn := best_snoc x (l.take k)
  have hlk : (l.take k).length = k := by rw [List.length_take]; omega
  rw [hlk] at hsn
  have ht : l.take (k + 1) = l.take k ++ [x] := by rw [List.take_succ_eq_append_getElem hk, e]
  refine ⟨fun h => ?_, fun h => ?_⟩
  · unfold ldI
    rw [ht, hsn, if_neg h]
  · rw [if_pos h] at hsn
    unfold ldI
    rw [ht, hsn]
    cases hb : bestFrom (l.take k) with
    | none => exact .inl ⟨rfl, rfl⟩
    | some p =>
      obtain ⟨q, m⟩ := p
      obtain ⟨z, h1, h2, h3⟩ := best_at _ q m hb
      rw [hlk] at h3
      rw [List.getElem?_take, if_pos h3] at h1
      refine .inr ⟨q, z, rfl, h3, h1, fun h4 => ?_, fun h4 => ?_⟩
      · rw [h2] at h4; simp [h4]
      · rw [h2] at h4; simp [h4]
set_option maxHeartbeats 8000000 in
theorem least_any (W : World) (a1 : Option Addr) (n c1 : Nat) (l : List Jv) (h : Jobs W a1 n c1 l) (hn : n ≤ 100) :
    Calls Tryz.prog 96 #[.slice a1 n c1] W fun e W' => e = .returned (.int .i64 (ldI (ts l))) ∧ Below W.heap.size W W' := by
  have HL := Lib.hid (And.intro h h.len)
  clear h
  go_enter Tryz.func96, Tryz.ntmps96
  go_wp2_with fail
  go_loopw [3, 8] (fun v i wr => ∃ (k : Nat) (s : Int), k ≤ n ∧ i = .int .i64 (k : Nat) ∧ v = .int .i64 s ∧ s = ldI ((ts l).take k) ∧ Below W.heap.size W wr) (fun _ i _ => n - (intOf i).toNat)
  case atStart => exact ⟨0, -1, Nat.zero_le _, rfl, rfl, rfl, Below.refl _ _⟩
  case round =>
    obtain ⟨k, s, hk, rfl, rfl, hs, hb⟩ := hrel
    have HO := Lib.hid (And.intro hs hb)
    clear hs hb
    by_cases hlt : k < n
    · have hlti : (k : Int) < (n : Int) := by omega
      have hkl : k < l.length := by rw [HL.out.2]; exact hlt
      obtain ⟨x, hx⟩ : ∃ x, l[k]? = some x := ⟨_, List.getElem?_eq_getElem hkl⟩
      obtain ⟨b, o, rfl⟩ := lst_at HL.out.1 (by omega)
      have HRx := Lib.hid (Job.job_range (lst_keep encJ_len HL.out.1 HO.out.2) hx)
      have HSt := Lib.hid (ld_step (Job.ts_get hx))
      clear hkl
      have HX := Lib.hid hx
      clear hx
      obtain ⟨w1, rfl⟩ : ∃ z, z = wr := ⟨_, rfl⟩
      go_upto_region 5 with (first | (refine wpList_load_mid rfl 58 (.tmp 11) rfl b (o + k * 12) rfl (encJ x) _ HRx.out Tryz.underlying58 rfl info_j12 ?_) | (refine Arr.wpList_store_blk rfl 58 (.tmp 5) (.tmp 12) rfl w1.heap.size (encJ x) rfl rfl zeroJ12 58 (Arr.blk_new _ _ _ zeroJ12 rfl) info_j12 rfl (one12C x) w1.heap.size (Nat.le_refl _) ?_; intro w2 hblk hbel; have HW2 := Lib.hid (And.intro hblk ((below_alloc w1 (.cells zeroJ12.toArray 58)).trans hbel)); clear hbel hblk) | fail)
      have HB2 := Lib.hid (below_keep HO.out.2 HW2.out.2)
      generalize Value.agg (encJ x).toArray = u12
      have p0 : w2.cell? ⟨w1.heap.size, 0, none⟩ = some (.int .i64 x.t.id) := Arr.blk_cell HW2.out.1 0
      have p7 : w2.cell? ⟨w1.heap.size, 7, none⟩ = some (.int .i64 x.t.state) := Arr.blk_cell HW2.out.1 7
      by_cases h4 : x.t.state = 4
      · rcases HSt.out.2 h4 with ⟨e1, e2⟩ | ⟨q, z, e1, hqk, hz, e2, e3⟩
        · have hs1 : s = -1 := by rw [HO.out.1]; exact e1
          have HE := Lib.hid e2
          rw [h4] at p7
          subst hs1
          clear e1 e2 h4
          go_wp2_with fail
          go_big_quiet (fail)
          generalize hw9 : World.drewN w2 _ = w9
          have HB9 := Lib.hid (show Below W.heap.size W w9 by rw [← hw9]; exact below_keep HB2.out (Tre.below_drewN' _ _))
          clear hw9
          go_wp2_with fail
          go_roundw
          case rel => exact ⟨k + 1, (k : Int), by omega, by go_num, rfl, HE.out.symm, HB9.out⟩
          case measure => simp [intOf]; omega
        · have hs1 : s = (q : Int) := by rw [HO.out.1]; exact e1
          subst hs1
          have hzl : (ts l)[q]? = some z := hz
          have hql : q < l.length := by have := (List.getElem?_eq_some_iff.1 hz).1; unfold ts at this; simpa using this
          have hqn : q < n := by rw [← HL.out.2]; exact hql
          have hzc := Job.job_cell (lst_keep encJ_len HL.out.1 HB2.out) hql 0 (by omega)
          have hzt : l[q].t = z := by
            unfold ts at hzl
            rw [List.getElem?_map, List.getElem?_eq_getElem hql] at hzl
            simpa using hzl
          have c0 : w2.cell? ⟨b, o + q * 12, none⟩ = some (.int .i64 z.id) := by
            rw [← hzt]; exact hzc
          have hqne : ((q : Int) == -1) = false := beq_false_of_ne (by omega)
          rw [h4] at p7
          clear hzc hzt hzl hql hz h4 e1
          by_cases hlt2 : x.t.id < z.id
          · have HE := Lib.hid (e2 hlt2)
            have d1 : decide (x.t.id < z.id) = true := decide_eq_true hlt2
            clear e2 e3 hlt2
            go_wp2_with fail
            go_big_quiet (fail)
            generalize hw9 : World.drewN w2 _ = w9
            have HB9 := Lib.hid (show Below W.heap.size W w9 by rw [← hw9]; exact below_keep HB2.out (Tre.below_drewN' _ _))
            clear hw9
            go_wp2_with fail
            go_roundw
            case rel => exact ⟨k + 1, (k : Int), by omega, by go_num, rfl, HE.out.symm, HB9.out⟩
            case measure => simp [intOf]; omega
          · have HE := Lib.hid (e3 hlt2)
            have d1 : decide (x.t.id < z.id) = false := decide_eq_false hlt2
            clear e2 e3 hlt2
            go_wp2_with fail
            go_big_quiet (fail)
            generalize hw9 : World.drewN w2 _ = w9
            have HB9 := Lib.hid (show Below W.heap.size W w9 by rw [← hw9]; exact below_keep HB2.out (Tre.below_drewN' _ _))
            clear hw9
            go_wp2_with fail
            go_roundw
            case rel => exact ⟨k + 1, (q : Int), by omega, by go_num, rfl, HE.out.symm, HB9.out⟩
            case measure => simp [intOf]; omega
      · have HE := Lib.hid (HSt.out.1 h4)
        have h4b : (x.t.state == 4) = false := beq_false_of_ne h4
        clear h4
        go_wp2_with fail
        go_big_quiet (fail)
        generalize hw9 : World.drewN w2 _ = w9
        have HB9 := Lib.hid (show Below W.heap.size W w9 by rw [← hw9]; exact below_keep HB2.out (Tre.below_drewN' _ _))
        clear hw9
        go_wp2_with fail
        go_roundw
        case rel => exact ⟨k + 1, s, by omega, by go_num, rfl, by rw [HE.out]; exact HO.out.1, HB9.out⟩
        case measure => simp [intOf]; omega
    · obtain rfl : k = n := by omega
      have hni : ¬ (k : Int) < (k : Int) := by omega
      have HT := Lib.hid (show s = ldI (ts l) by rw [HO.out.1, List.take_of_length_le (by unfold ts; rw [List.length_map, HL.out.2]; exact Nat.le_refl _)])
      go_wp2_with fail
      go_ret
      exact ⟨by first | exact HT.out | exact ret_int HT.out | rw [HT.out], HO.out.2⟩
end Go.Proofs.YtjcndgopijpibaaGreat.Bok
