/- Common to the claims of this seat, part 33: texts that were written one by one, laid behind one another. -/
import Derived.BigFrame
import Derived.BigQuiet
import Derived.Deep.DeepCutAuto
import Derived.Deep.CutBlock
import Derived.WalkLawsBesides
import Derived.LoopTactic
import Derived.Test.YtjcndgopijpibaaGreatPart8
import Derived.Test.YtjcndgopijpibaaGreatPart9
import Derived.Test.YtjcndgopijpibaaGreatPart13
/- Book: what is liened and spent, of all allocations (the laws' liened, spent). -/
namespace Go.Proofs.YtjcndgopijpibaaGreat.Bok
set_option maxRecDepth 100000
open Go.RowKit
open Go.Sort
open Kit
open Foot
open Tre (Al Lst lst_keep lst_at encL_len alloc_cells6)
open Led (wrap_add)
open Snp (Sv)
set_option linter.unusedVariables false
variable {w w' : World}
theorem take_sum_of {l : List Al} (f : Al → Int) {k : Nat} (h : k < l.length) : ((l.take (k + 1)).map f).sum = ((l.take k).map f).sum + f l[k] := by
  rw [List.take_succ_eq_append_getElem h, List.map_append, List.sum_append]; simp
theorem liened_any (W : World) (y : Sv) (hy : y.In W) :
    Calls Tryz.prog 19 #[Snp.valV y] W fun e W' => e = .returned (.int .i64 (wrap64 (lienS y.allocs))) ∧ Below W.heap.size W W' := by
  have hbs := Arr.blk_new W W.heap.size 29 (Snp.encV y) rfl
  have hba := below_alloc W (.cells (Snp.encV y).toArray 29)
  obtain ⟨w1, hw1⟩ : ∃ zz, zz = W.alloc (.cells (Snp.encV y).toArray 29) := ⟨_, rfl⟩
  rw [← hw1] at hbs hba
  have HW1 := Lib.hid (show w1 = W.alloc (.cells #[.int .i64 y.seq, .int .i64 y.world, .int .i64 y.next, .slice y.f.a y.f.n y.f.c, .slice y.l.a y.l.n y.l.c, .slice y.r.a y.r.n y.r.c, .slice y.j.a y.j.n y.j.c, .slice y.k.a y.k.n y.k.c] 29) from hw1)
  have HA := Lib.hid (And.intro (Snp.in_keep hy hba).allocs (And.intro hba (Snp.in_keep hy hba).allocs.len))
  have p4 := (Snp.box_cells hbs).2.2.2.2.1
  have hm : y.l.n ≤ 9223372036854775807 := by have h1 := hy.allocs.cap; have h2 := hy.allocs.max; unfold maxLen at h2; omega
  clear hbs hba hw1 hy
  go_enter Tryz.func19, Tryz.ntmps19
  go_upto_region 1 with fail
  rw [show W.alloc (.cells #[.int .i64 y.seq, .int .i64 y.world, .int .i64 y.next, .slice y.f.a y.f.n y.f.c, .slice y.l.a y.l.n y.l.c, .slice y.r.a y.r.n y.r.c, .slice y.j.a y.j.n y.j.c, .slice y.k.a y.k.n y.k.c] 29) = w1 from HW1.out.symm]
  clear HW1
  generalize y.l.n = n at *
  go_wp2_with fail
  go_loop [3, 4] (fun sv iv => ∃ (k : Nat) (q : Int), k ≤ n ∧ iv = .int .i64 (k : Nat) ∧ sv = .int .i64 q ∧ Hid (q = wrap64 ((y.allocs.take k).map (·.lien)).sum)) (fun _ iv => n - (intOf iv).toNat)
  case atStart => exact ⟨0, 0, Nat.zero_le _, rfl, rfl, Lib.hid (by simp [wrap64])⟩
  case round =>
    obtain ⟨k, q, hk, rfl, rfl, hq⟩ := hrel
    by_cases hlt : k < n
    · have hkl : k < y.allocs.length := by rw [HA.out.2.2]; exact hlt
      obtain ⟨b, o, ha⟩ := lst_at HA.out.1 (by omega)
      have hal := HA.out.1
      rw [ha] at p4 hal
      have c4 := (alloc_cells6 hal hkl).2.2.2.2.1
      have HQ := Lib.hid (show wrap64 (q + (y.allocs[k]).lien) = wrap64 ((y.allocs.take (k + 1)).map (·.lien)).sum by rw [hq.out, wrap_add, take_sum_of (·.lien) hkl])
      generalize (y.allocs[k]).lien = am at *
      clear hkl hal ha hq
      go_wp2_with fail
      go_round
      case rel => exact ⟨k + 1, _, by omega, by go_num, rfl, Lib.hid HQ.out⟩
      case measure => simp [intOf]; omega
    · obtain rfl : k = n := by omega
      have HQ := Lib.hid (show q = wrap64 (lienS y.allocs) by rw [hq.out, List.take_of_length_le (by rw [HA.out.2.2]; exact Nat.le_refl _)]; rfl)
      clear hq
      go_wp2_with fail
      go_ret
      exact ⟨by rw [HQ.out]; rfl, HA.out.2.1⟩
theorem spent_any (W : World) (y : Sv) (hy : y.In W) :
    Calls Tryz.prog 20 #[Snp.valV y] W fun e W' => e = .returned (.int .i64 (wrap64 (spentS y.allocs))) ∧ Below W.heap.size W W' := by
  have hbs := Arr.blk_new W W.heap.size 29 (Snp.encV y) rfl
  have hba := below_alloc W (.cells (Snp.encV y).toArray 29)
  obtain ⟨w1, hw1⟩ : ∃ zz, zz = W.alloc (.cells (Snp.encV y).toArray 29) := ⟨_, rfl⟩
  rw [← hw1] at hbs hba
  have HW1 := Lib.hid (show w1 = W.alloc (.cells #[.int .i64 y.seq, .int .i64 y.world, .int .i64 y.next, .slice y.f.a y.f.n y.f.c, .slice y.l.a y.l.n y.l.c, .slice y.r.a y.r.n y.r.c, .slice y.j.a y.j.n y.j.c, .slice y.k.a y.k.n y.k.c] 29) from hw1)
  have HA := Lib.hid (And.intro (Snp.in_keep hy hba).allocs (And.intro hba (Snp.in_keep hy hba).allocs.len))
  have p4 := (Snp.box_cells hbs).2.2.2.2.1
  have hm : y.l.n ≤ 9223372036854775807 := by have h1 := hy.allocs.cap; have h2 := hy.allocs.max; unfold maxLen at h2; omega
  clear hbs hba hw1 hy
  go_enter Tryz.func20, Tryz.ntmps20
  go_upto_region 1 with fail
  rw [show W.alloc (.cells #[.int .i64 y.seq, .int .i64 y.world, .int .i64 y.next, .slice y.f.a y.f.n y.f.c, .slice y.l.a y.l.n y.l.c, .slice y.r.a y.r.n y.r.c, .slice y.j.a y.j.n y.j.c, .slice y.k.a y.k.n y.k.c] 29) = w1 from HW1.out.symm]
  clear HW1
  generalize y.l.n = n at *
  go_wp2_with fail
  go_loop [3, 4] (fun sv iv => ∃ (k : Nat) (q : Int), k ≤ n ∧ iv = .int .i64 (k : Nat) ∧ sv = .int .i64 q ∧ Hid (q = wrap64 ((y.allocs.take k).map (·.spent)).sum)) (fun _ iv => n - (intOf iv).toNat)
  case atStart => exact ⟨0, 0, Nat.zero_le _, rfl, rfl, Lib.hid (by simp [wrap64])⟩
  case round =>
    obtain ⟨k, q, hk, rfl, rfl, hq⟩ := hrel
    by_cases hlt : k < n
    · have hkl : k < y.allocs.length := by rw [HA.out.2.2]; exact hlt
      obtain ⟨b, o, ha⟩ := lst_at HA.out.1 (by omega)
      have hal := HA.out.1
      rw [ha] at p4 hal
      have c4 := (alloc_cells6 hal hkl).2.2.2.2.2
      have HQ := Lib.hid (show wrap64 (q + (y.allocs[k]).spent) = wrap64 ((y.allocs.take (k + 1)).map (·.spent)).sum by rw [hq.out, wrap_add, take_sum_of (·.spent) hkl])
      generalize (y.allocs[k]).spent = am at *
      clear hkl hal ha hq
      go_wp2_with fail
      go_round
      case rel => exact ⟨k + 1, _, by omega, by go_num, rfl, Lib.hid HQ.out⟩
      case measure => simp [intOf]; omega
    · obtain rfl : k = n := by omega
      have HQ := Lib.hid (show q = wrap64 (spentS y.allocs) by rw [hq.out, List.take_of_length_le (by rw [HA.out.2.2]; exact Nat.le_refl _)]; rfl)
      clear hq
      go_wp2_with fail
      go_ret
      exact ⟨by rw [HQ.out]; rfl, HA.out.2.1⟩
theorem run_mulI {a b c : Int} (h : a * b = c) (hc : -9223372036854775808 ≤ c ∧ c ≤ 9223372036854775807) (x y : Operand) (w : World) : (do eqGuard .mul 3 x y (.int .i64 a) (.int .i64 b); binOp .mul 3 (.int .i64 a) (.int .i64 b) : Sem Value).run Tryz.prog w = .ok (.int .i64 c) w := by
  subst h
  simp [go_sem]
  exact IntWalk.i64_in _ hc
theorem run_subI {a b c : Int} (h : a - b = c) (hc : -9223372036854775808 ≤ c ∧ c ≤ 9223372036854775807) (x y : Operand) (w : World) : (do eqGuard .sub 3 x y (.int .i64 a) (.int .i64 b); binOp .sub 3 (.int .i64 a) (.int .i64 b) : Sem Value).run Tryz.prog w = .ok (.int .i64 c) w := by
  subst h
  simp [go_sem]
  exact IntWalk.i64_in _ hc
end Go.Proofs.YtjcndgopijpibaaGreat.Bok
