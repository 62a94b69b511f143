/- Cons: the laws' fixed fact, over any cons that does as it should. -/
import Derived.Test.YtckebhknnocpkaaConMem
import Derived.Test.YtckebhknnocpkaaConRef
import Derived.Test.YtckebhknnocpkaaIntsEq
namespace Go.Proofs.Ytckebhknnocpkaa.Cns
set_option maxRecDepth 100000
open Go.RowKit
open Go.Sort
open Kit
open Tre (Lst inI lst_keep lst_at lst_new lst_none below_drewN' run_ld2 IntsL encI encI_len NewI ints_any int_cell)
open Prf (Bz Nd Busys encZ encZ_len)
open Esy (T9 okB Bools)
open Go.Proofs.Ytckebhknnocpkaa.Ord (Aq Asks encQ encQ_len)
set_option linter.unusedVariables false
variable {w w' : World}

/-- The plan, with its length told. -/
theorem plan_is (hP : Prog) (W : World) (now total : Int) (a : Option Addr) (n c : Nat) (l : List Bz) (a2 : Option Addr) (n2 c2 : Nat) (q : List Aq) (a3 : Option Addr) (n3 c3 : Nat) (rf : List Bool) (L : List Int) (hL : plan now total l q rf = L) (m : Nat) (hm : L.length = m)
    (h1 : T9 now) (h2 : Nd total) (h3 : Busys W a n c l) (h4 : ∀ b ∈ l, okD b) (h5 : n ≤ 100) (h6 : Asks W a2 n2 c2 q) (h7 : ∀ x ∈ q, okC x) (h8 : n2 ≤ 100) (h9 : Bools W a3 n3 c3 rf) :
    Calls Try.prog 13 #[.int .i64 now, .int .i64 total, .slice a n c, .slice a2 n2 c2, .slice a3 n3 c3] W fun e W' => ∃ a c, e = .returned (.slice a m c) ∧ IntsL W' a m c L ∧ Below W.heap.size W W' := by
  subst hL hm
  refine (hP.plan W now total a n c l a2 n2 c2 q a3 n3 c3 rf h1 h2 h3 h4 h5 h6 h7 h8 h9).mono ?_
  rintro e w' ⟨v, rfl, ⟨a, c, rfl, hi, -⟩, hb⟩
  exact ⟨a, c, rfl, hi, hb⟩
abbrev r1 : List Bz := [⟨5, 3⟩]
abbrev q3 : List Aq := [⟨2, 9⟩, ⟨1, 5⟩, ⟨1, 9⟩]
theorem aw_1 : nextI 0 4 r1 q3 [] = 1 ∧ nextB 0 4 r1 q3 [] = true := by decide +kernel
theorem aw_2 : plan 0 4 r1 q3 [] = [5, 0, 5] := by decide +kernel
theorem r1_ok : ∀ b ∈ r1, okD b := by
  intro b hb
  simp at hb
  subst hb
  exact ⟨⟨by simp, by simp⟩, ⟨by simp, by simp⟩⟩
theorem q3_ok : ∀ x ∈ q3, okC x := by
  intro b hb
  simp at hb
  rcases hb with rfl | rfl | rfl <;> exact ⟨⟨by simp, by simp⟩, ⟨by simp, by simp⟩⟩
abbrev cR : Array Value := #[.int .i64 5, .int .i64 3]
abbrev cQ : Array Value := #[.int .i64 2, .int .i64 9, .int .i64 1, .int .i64 5, .int .i64 1, .int .i64 9]
set_option maxHeartbeats 4000000 in
theorem awake_any (hP : Prog) (w : World) : Calls Try.prog 11 #[] w fun e w' => e = .returned (.bool true) ∧ Below w.heap.size w w' := by
  have HP := Lib.hid hP
  clear hP
  have b1 := below_alloc w (.cells cR 36)
  obtain ⟨w1, hw1⟩ : ∃ x, x = w.alloc (.cells cR 36) := ⟨_, rfl⟩
  have l1 : Busys w1 (some ⟨w.heap.size, 0, none⟩) 1 1 r1 := by rw [hw1]; exact lst_new encZ_len w r1 _ _ _ 1 rfl rfl rfl (by omega)
  have hs1 : w1.heap.size = w.heap.size + 1 := by rw [hw1]; simp
  rw [← hw1] at b1
  have b2 := below_alloc w1 (.cells cQ 38)
  have l2 : Asks (w1.alloc (.cells cQ 38)) (some ⟨w.heap.size + 1, 0, none⟩) 3 3 q3 := by rw [← hs1]; exact lst_new encQ_len w1 q3 _ _ _ 3 rfl rfl rfl (by omega)
  have H2 := Lib.hid (And.intro (below_keep b1 b2) (And.intro (lst_keep encZ_len l1 b2) l2))
  have HW1 := Lib.hid hw1
  have HC1 := Lib.hid (HP.out.next (w1.alloc (.cells cQ 38)) 0 4 _ 1 1 r1 _ 3 3 q3 none 0 0 [] ⟨by omega, by omega⟩ ⟨by omega, by omega⟩ H2.out.2.1 r1_ok (by omega) H2.out.2.2 q3_ok (by omega) (lst_none _ _ _))
  rw [aw_1.1, aw_1.2] at HC1
  rw [hw1] at HC1 H2
  clear hw1 hs1 b1 b2 l1 l2 HW1
  clear w1
  go_enter Try.func11, Try.ntmps11
  go_wp2_with fail
  refine HC1.out.mono ?_
  rintro e w3 ⟨rfl, hb3⟩
  have H3 := Lib.hid (And.intro (below_keep H2.out.1 hb3) (And.intro (lst_keep encZ_len H2.out.2.1 hb3) (lst_keep encQ_len H2.out.2.2 hb3)))
  have HC2 := Lib.hid (plan_is HP.out w3 0 4 _ 1 1 r1 _ 3 3 q3 none 0 0 [] _ aw_2 3 rfl ⟨by omega, by omega⟩ ⟨by omega, by omega⟩ H3.out.2.1 r1_ok (by omega) H3.out.2.2 q3_ok (by omega) (lst_none _ _ _))
  clear hb3 HC1 H2
  go_wp2_with fail
  refine HC2.out.mono ?_
  rintro e w4 ⟨a4, c4, rfl, i4, hb4⟩
  have b5 := below_alloc w4 (.cells #[.int .i64 5, .int .i64 0, .int .i64 5] 3)
  have H4 := Lib.hid (below_keep (below_keep H3.out.1 hb4) b5)
  have HC3 := Lib.hid (ints_any a4 (some ⟨w4.heap.size, 0, none⟩) 3 c4 3 3 [5, 0, 5] [5, 0, 5] (w4.alloc (.cells #[.int .i64 5, .int .i64 0, .int .i64 5] 3)) (lst_keep encI_len i4 b5) (lst_new encI_len w4 [5, 0, 5] _ _ _ 3 rfl rfl rfl (by omega)))
  rw [decide_eq_true rfl] at HC3
  clear hb4 i4 b5 HC2 H3
  go_wp2_with fail
  refine HC3.out.mono ?_
  rintro e w5 ⟨rfl, hb5⟩
  have H5 := Lib.hid (below_keep H4.out hb5)
  clear hb5 HC3
  go_wp2_with fail
  go_ret
  exact ⟨rfl, H5.out⟩
end Go.Proofs.Ytckebhknnocpkaa.Cns
