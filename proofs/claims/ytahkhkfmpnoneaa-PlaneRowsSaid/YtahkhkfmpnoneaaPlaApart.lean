/- Plane: Apart. -/
import Derived.Test.YtahkhkfmpnoneaaPlaList
namespace Go.Proofs.Ytahkhkfmpnoneaa.Pla
open Go.RowKit
open Go.Sort

/-- Each is good, and meets none ahead of it. -/
def ApartTo (L : List Bx) (k : Nat) : Prop := ∀ i (h : i < L.length), i < k → L[i].good = true ∧ ∀ j (hj : j < i), (L[j]'(by omega)).meets L[i] = false
def Bx.none : Bx := ⟨0, 0, 0, 0⟩
def apartB (L : List Bx) : Bool := (List.range L.length).all fun i => (L.getD i Bx.none).good && (List.range i).all fun j => !(L.getD j Bx.none).meets (L.getD i Bx.none)
theorem getD_in {L : List Bx} {i : Nat} (h : i < L.length) : L.getD i Bx.none = L[i] := by simp [List.getD, h]
theorem apartB_iff {L : List Bx} : apartB L = true ↔ ApartTo L L.length := by
  unfold apartB ApartTo
  rw [List.all_eq_true]
  constructor
  · intro h i hi _
    have := h i (List.mem_range.2 hi)
    rw [Bool.and_eq_true, List.all_eq_true, getD_in hi] at this
    refine ⟨this.1, fun j hj => ?_⟩
    have := this.2 j (List.mem_range.2 hj)
    rw [getD_in (by omega)] at this
    simpa using this
  · intro h i hi
    rw [List.mem_range] at hi
    obtain ⟨h1, h2⟩ := h i hi hi
    rw [Bool.and_eq_true, List.all_eq_true, getD_in hi]
    refine ⟨h1, fun j hj => ?_⟩
    rw [List.mem_range] at hj
    rw [getD_in (by omega), h2 j hj]
    rfl
theorem apartB_yes {L : List Bx} (h : ApartTo L L.length) : true = apartB L := (apartB_iff.2 h).symm
theorem apartB_no {L : List Bx} (h : ¬ ApartTo L L.length) : false = apartB L := by
  rw [eq_comm, Bool.eq_false_iff]; exact fun h' => h (apartB_iff.1 h')

theorem any_false {L : List Bx} {k : Nat} {f : Bx → Bool} (h : (L.take k).any f = false) (j : Nat) (hj : j < k) (hl : j < L.length) : f L[j] = false := by
  rw [List.any_eq_false] at h
  have := h L[j] (by rw [List.mem_take_iff_getElem]; exact ⟨j, by omega, rfl⟩)
  simpa using this
theorem any_true {L : List Bx} {k : Nat} {f : Bx → Bool} (h : (L.take k).any f = true) : ∃ j, ∃ hl : j < L.length, j < k ∧ f L[j] = true := by
  rw [List.any_eq_true] at h
  obtain ⟨x, hx, hf⟩ := h
  rw [List.mem_take_iff_getElem] at hx
  obtain ⟨j, hj, rfl⟩ := hx
  exact ⟨j, by omega, by omega, hf⟩

theorem boxes_take {w : World} {a : Option Addr} {l : List Bx} (h : Boxes w a l) (k : Nat) : Boxes w a (l.take k) := by
  rcases h with h | ⟨b, off, h1, h2⟩
  · exact .inl (by rw [h]; simp)
  · refine .inr ⟨b, off, h1, fun j hj => ?_⟩
    rw [List.length_take] at hj
    rw [List.getElem_take]
    exact h2 j (by omega)

set_option maxHeartbeats 1000000 in
theorem apart_any (a : Option Addr) (len cap : Nat) (L : List Bx) (w : World) (hw : ∀ y ∈ L, y.wide) (hl : L.length = len) (hc : len ≤ cap) (hm : cap ≤ maxLen) (hE : Boxes w a L) :
    Calls Try.prog 15 #[.slice a len cap] w fun e w' => e = .returned (.bool (apartB L)) ∧ Below w.heap.size w w' := by
  have hm' := hm
  unfold maxLen at hm
  have HL := Lib.hid hl
  have HE := Lib.hid hE
  have HM := Lib.hid hm'
  clear hl hE hm'
  go_enter Try.func15, Try.ntmps15
  go_wp2
  go_loopw [7] (fun i wr => ∃ k : Nat, k ≤ len ∧ i = .int .i64 k ∧ Hid (ApartTo L k) ∧ Below w.heap.size w wr) (fun i _ => len - (intOf i).toNat)
  case atStart => exact ⟨0, Nat.zero_le _, rfl, fun i h hi => absurd hi (Nat.not_lt_zero i), Below.refl _ _⟩
  case round =>
    obtain ⟨k, hk, rfl, ha, hb⟩ := hrel
    by_cases hlt : k < len
    · have hkl : k < L.length := by rw [HL.out]; exact hlt
      have hE1 := boxes_below HE.out hb
      obtain ⟨b, off, HA, hbl, d0, d1, d2, d3⟩ := boxes_at hE1 hkl
      have hy := hw _ (List.getElem_mem hkl)
      have HY := Lib.hid (rfl : L[k] = L[k])
      generalize hyy : L[k] = y at d0 d1 d2 d3 hy
      have HYY := Lib.hid hyy
      clear hyy HY
      obtain ⟨t, n, l, m⟩ := y
      obtain ⟨W, hW⟩ : ∃ W : World, W = wr.alloc (.cells #[.int .i64 t, .int .i64 n, .int .i64 l, .int .i64 m] 23) := ⟨_, rfl⟩
      have hbW : Below wr.heap.size wr W := by rw [hW]; exact (Below.refl _ _).alloc (Nat.le_refl _) _
      have k0 : ∀ d os, (grow (redrawn W d) os).cell? ⟨wr.heap.size, 0, none⟩ = some (.int .i64 t) := by intro d os; refine cell_regrown ?_ d os; rw [hW]; simp [go_sem]
      have k1 : ∀ d os, (grow (redrawn W d) os).cell? ⟨wr.heap.size, 1, none⟩ = some (.int .i64 n) := by intro d os; refine cell_regrown ?_ d os; rw [hW]; simp [go_sem]
      have k2 : ∀ d os, (grow (redrawn W d) os).cell? ⟨wr.heap.size, 2, none⟩ = some (.int .i64 l) := by intro d os; refine cell_regrown ?_ d os; rw [hW]; simp [go_sem]
      have k3 : ∀ d os, (grow (redrawn W d) os).cell? ⟨wr.heap.size, 3, none⟩ = some (.int .i64 m) := by intro d os; refine cell_regrown ?_ d os; rw [hW]; simp [go_sem]
      have cG := fun d os => Calls.regrown_of (w := W) (d := d) (os := os) (good_any t n l m _ hy.1 hy.2.1 hy.2.2.1 hy.2.2.2)
      have cM := fun d os => Calls.regrown_of (w := W) (d := d) (os := os) (meetsAny_any ⟨t, n, l, m⟩ a k cap (L.take k) _ hy (fun y hy => hw y (List.mem_of_mem_take hy)) (by rw [List.length_take]; omega) (by unfold maxLen; omega) (boxes_take (boxes_below (boxes_below hE1 hbW) (below_regrown W d os)) k))
      have HW := Lib.hid hW
      have HB := Lib.hid hb
      have HBW := Lib.hid hbW
      have ha' := HA.out
      subst ha'
      have i0 : (0 : Int) ≤ (k : Int) := by omega
      have i1 : (k : Int) ≤ (cap : Int) := by omega
      clear hW hb hbW hE1
      cases hg : goodB t n l m with
      | false =>
        have HS : Hid (false = apartB L) := by
          refine apartB_no fun h => ?_
          have := (h k hkl hkl).1
          rw [HYY.out] at this
          unfold Bx.good at this
          rw [hg] at this
          cases this
        rw [hg] at cG
        clear hg cM
        go_wp2
        rw [← HW.out]
        refine wp_region_quiet_below (by kernel_rfl) (by kernel_rfl) ?_
        repeat (quiet_step (first | (with_reducible exact cG _ _)))
        refine wpQuiet_nil ?_
        intro _ hw'
        obtain ⟨⟨dq, osq⟩, hw''⟩ := hw'
        subst hw''
        go_wp2
        go_ret
        exact ⟨ret_bool HS.out, below_keep (below_keep HB.out HBW.out) (below_regrown W dq osq)⟩
      | true =>
        rw [hg] at cG
        cases hn : (L.take k).any (fun y => y.meets ⟨t, n, l, m⟩) with
        | true =>
          have HS : Hid (false = apartB L) := by
            refine apartB_no fun h => ?_
            obtain ⟨j, hj, hjk, hjm⟩ := any_true hn
            have := (h k hkl hkl).2 j hjk
            rw [HYY.out, hjm] at this
            cases this
          rw [hn] at cM
          clear hg hn
          go_wp2
          rw [← HW.out]
          refine wp_region_quiet_below (by kernel_rfl) (by kernel_rfl) ?_
          repeat (quiet_step (first | (with_reducible exact cG _ _) | (with_reducible exact cM _ _)))
          refine wpQuiet_nil ?_
          intro _ hw'
          obtain ⟨⟨dq, osq⟩, hw''⟩ := hw'
          subst hw''
          go_wp2
          go_ret
          exact ⟨ret_bool HS.out, below_keep (below_keep HB.out HBW.out) (below_regrown W dq osq)⟩
        | false =>
          have HS : Hid (ApartTo L (k + 1)) := by
            intro i hi hik
            by_cases he : i = k
            · subst he
              refine ⟨by rw [HYY.out]; exact hg, fun j hj => ?_⟩
              have := any_false hn j hj (by omega)
              rw [HYY.out]; exact this
            · exact ha.out i hi (by omega)
          rw [hn] at cM
          clear hg hn ha
          go_wp2
          rw [← HW.out]
          refine wp_region_quiet_below (by kernel_rfl) (by kernel_rfl) ?_
          repeat (quiet_step (first | (with_reducible exact cG _ _) | (with_reducible exact cM _ _)))
          refine wpQuiet_nil ?_
          intro _ hw'
          obtain ⟨⟨dq, osq⟩, hw''⟩ := hw'
          subst hw''
          go_wp2
          go_roundw
          case rel => exact ⟨k + 1, by omega, by go_num, HS, below_keep (below_keep HB.out HBW.out) (below_regrown W dq osq)⟩
          case measure => simp [intOf]; omega
    · have HS : Hid (true = apartB L) := apartB_yes fun i hi h => ha.out i hi (by rw [HL.out] at h; omega)
      have HB := Lib.hid hb
      clear ha hb
      go_wp2
      go_ret
      exact ⟨ret_bool HS.out, HB.out⟩

end Go.Proofs.Ytahkhkfmpnoneaa.Pla
