/- Pool: the fixed fact; PoolTakes, over any pool that does as it should. -/
import Derived.Test.YtlhkjcggfgconaaPooTak
namespace Go.Proofs.Ytlhkjcggfgconaa.Poo
set_option maxRecDepth 100000
open Go.RowKit
open Go.Sort
open Kit
open Tre (inI)
set_option linter.unusedVariables false

theorem in_lit {n : Int} (h : -1000000 ≤ n ∧ n ≤ 1000000) : inI n := ⟨by omega, by omega⟩
theorem fixed : takeV (lo 13) 2 = 5 ∧ takeOk (lo 13) 2 = true ∧ takeOk (lo 13) 4 = false ∧ takeV (lo 13) 4 = 0 ∧ allN 3 = 7 ∧ cnt (lo 13) = 3 ∧ allN 99 = 4294967295 := by decide
theorem awake_any (hP : Prog) (W : World) : Calls Try.prog 8 #[] W fun e W' => e = .returned (.bool true) ∧ Below W.heap.size W W' := by
  obtain ⟨f1, f2, f3, f4, f5, f6, f7⟩ := fixed
  have H1 := Lib.hid (hP.take W 13 2 (in_lit (by omega)) (in_lit (by omega)))
  rw [f1, f2] at H1
  have H2 := Lib.hid (fun w => hP.take w 13 4 (in_lit (by omega)) (in_lit (by omega)))
  rw [f3, f4] at H2
  have H3 := Lib.hid (fun w => hP.all w 3 (in_lit (by omega)))
  rw [f5] at H3
  have H4 := Lib.hid (fun w => hP.count w 13 (in_lit (by omega)))
  rw [f6] at H4
  have H5 := Lib.hid (fun w => hP.all w 99 (in_lit (by omega)))
  rw [f7] at H5
  clear f1 f2 f3 f4 f5 f6 f7 hP
  go_enter Try.func8, Try.ntmps8
  go_wp2_with fail
  refine H1.out.mono ?_
  rintro e w1 ⟨rfl, hb1⟩
  have B1 := Lib.hid hb1
  clear hb1
  go_wp2_with fail
  refine (H2.out w1).mono ?_
  rintro e w2 ⟨rfl, hb2⟩
  have B2 := Lib.hid (below_keep B1.out hb2)
  clear hb2
  go_wp2_with fail
  refine (H3.out w2).mono ?_
  rintro e w3 ⟨rfl, hb3⟩
  have B3 := Lib.hid (below_keep B2.out hb3)
  clear hb3
  go_wp2_with fail
  refine (H4.out w3).mono ?_
  rintro e w4 ⟨rfl, hb4⟩
  have B4 := Lib.hid (below_keep B3.out hb4)
  clear hb4
  go_wp2_with fail
  refine (H5.out w4).mono ?_
  rintro e w5 ⟨rfl, hb5⟩
  have B5 := Lib.hid (below_keep B4.out hb5)
  clear hb5
  go_wp2_with fail
  go_ret
  exact ⟨rfl, B5.out⟩
theorem takes_any (hP : Prog) (W : World) (f n : Int) (hf : inI f) (hn : inI n) : Calls Try.prog 3 #[.int .i64 f, .int .i64 n] W fun e W' => e = .returned (.bool true) ∧ Below W.heap.size W W' := by
  have H1 := Lib.hid (hP.take W f n hf hn)
  have H2 := Lib.hid (fun w => rtake_any w f n hn)
  have H3 := Lib.hid (fun w => awake_any hP w)
  have H4 := Lib.hid (fun w => hP.count w f hf)
  have H5 := Lib.hid (fun w => rcount_any w f)
  have H6 := Lib.hid (fun w => hP.all w n hn)
  have H7 := Lib.hid (fun w => rall_any w n hn)
  generalize takeV (lo f) n = V at H1 H2
  generalize takeOk (lo f) n = O at H1 H2
  generalize cnt (lo f) = C at H4 H5
  generalize allN n = A at H6 H7
  clear hP hf hn
  go_enter Try.func3, Try.ntmps3
  go_wp2_with fail
  refine H1.out.mono ?_
  rintro e w1 ⟨rfl, hb1⟩
  have B1 := Lib.hid hb1
  clear hb1
  go_wp2_with fail
  refine (H2.out w1).mono ?_
  rintro e w2 ⟨rfl, rfl⟩
  go_wp2_with fail
  refine (H3.out w1).mono ?_
  rintro e w3 ⟨rfl, hb3⟩
  have B3 := Lib.hid (below_keep B1.out hb3)
  clear hb3
  go_wp2_with fail
  refine (H4.out w3).mono ?_
  rintro e w4 ⟨rfl, hb4⟩
  have B4 := Lib.hid (below_keep B3.out hb4)
  clear hb4
  go_wp2_with fail
  refine (H5.out w4).mono ?_
  rintro e w5 ⟨rfl, rfl⟩
  go_wp2_with fail
  refine (H6.out w4).mono ?_
  rintro e w6 ⟨rfl, hb6⟩
  have B6 := Lib.hid (below_keep B4.out hb6)
  clear hb6
  go_wp2_with fail
  refine (H7.out w6).mono ?_
  rintro e w7 ⟨rfl, rfl⟩
  go_wp2_with fail
  go_ret
  exact ⟨rfl, B6.out⟩
end Go.Proofs.Ytlhkjcggfgconaa.Poo
