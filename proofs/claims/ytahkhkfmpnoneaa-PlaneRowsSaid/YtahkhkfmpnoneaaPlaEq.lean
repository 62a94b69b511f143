/- Plane: two lists that are one; the fixed fact. -/
import Derived.Test.YtahkhkfmpnoneaaPlaRefR
namespace Go.Proofs.Ytahkhkfmpnoneaa.Pla
open Go.RowKit
open Go.Sort

set_option maxHeartbeats 1000000 in
theorem boxes_same (a b : Option Addr) (len cap cap' : Nat) (L : List Bx) (w : World) (hl : L.length = len) (hm : len ≤ maxLen) (hA : Boxes w a L) (hB : Boxes w b L) :
    Calls Try.prog 17 #[.slice a len cap, .slice b len cap'] w fun e w' => e = .returned (.bool true) ∧ Below w.heap.size w w' := by
  unfold maxLen at hm
  have HL := Lib.hid hl
  have HA := Lib.hid hA
  have HB := Lib.hid hB
  clear hl hA hB
  go_enter Try.func17, Try.ntmps17
  go_wp2
  go_loopw [5] (fun i wr => ∃ k : Nat, k ≤ len ∧ i = .int .i64 k ∧ Below w.heap.size w wr) (fun i _ => len - (intOf i).toNat)
  case atStart => exact ⟨0, by omega, rfl, Below.refl _ _⟩
  case round =>
    obtain ⟨k, hk, rfl, hb⟩ := hrel
    by_cases hlt : k < len
    · have hkl : k < L.length := by rw [HL.out]; exact hlt
      obtain ⟨p, po, hp⟩ := boxes_some HA.out (by omega)
      obtain ⟨q, qo, hq⟩ := boxes_some HB.out (by omega)
      have hp' := hp.out
      have hq' := hq.out
      subst hp' hq'
      obtain ⟨x, hx⟩ : ∃ x, L[k] = x := ⟨_, rfl⟩
      have hA1 := boxes_below HA.out hb
      have hB1 := boxes_below HB.out hb
      have c0 := fun d os => (boxes_cells (boxes_regrown hA1 d os) hkl hx).1
      have c1 := fun d os => (boxes_cells (boxes_regrown hA1 d os) hkl hx).2.1
      have c2 := fun d os => (boxes_cells (boxes_regrown hA1 d os) hkl hx).2.2.1
      have c3 := fun d os => (boxes_cells (boxes_regrown hA1 d os) hkl hx).2.2.2
      have e0 := fun d os => (boxes_cells (boxes_regrown hB1 d os) hkl hx).1
      have e1 := fun d os => (boxes_cells (boxes_regrown hB1 d os) hkl hx).2.1
      have e2 := fun d os => (boxes_cells (boxes_regrown hB1 d os) hkl hx).2.2.1
      have e3 := fun d os => (boxes_cells (boxes_regrown hB1 d os) hkl hx).2.2.2
      have i0 : (0 : Int) ≤ (k : Int) := by omega
      have i1 : (k : Int) < (len : Int) := by omega
      have HBB := Lib.hid hb
      clear hx hA1 hB1 hb
      go_wp2
      refine wp_region_quiet_below (by kernel_rfl) (by kernel_rfl) ?_
      repeat (quiet_step (fail))
      refine wpQuiet_nil ?_
      intro _ hw'
      obtain ⟨⟨dq, osq⟩, hw''⟩ := hw'
      subst hw''
      go_wp2
      go_roundw
      case rel => exact ⟨k + 1, by omega, by go_num, below_keep HBB.out (below_regrown wr dq osq)⟩
      case measure => simp [intOf]; omega
    · have HBB := Lib.hid hb
      clear hb
      go_wp2
      go_ret
      exact ⟨rfl, HBB.out⟩

end Go.Proofs.Ytahkhkfmpnoneaa.Pla
