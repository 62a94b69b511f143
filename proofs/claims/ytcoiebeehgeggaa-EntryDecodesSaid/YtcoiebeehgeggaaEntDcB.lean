/- Entry: what the document's Decode holds in memory, step by step. -/
import Derived.Test.YtcoiebeehgeggaaEntSt
import Derived.Test.YtcoiebeehgeggaaEntNum
import Derived.Test.YtcoiebeehgeggaaEntBak
import Derived.Test.YtcoiebeehgeggaaPut
namespace Go.Proofs.Ytcoiebeehgeggaa.Ent
set_option maxRecDepth 100000
open Go.RowKit
open Go.Sort
open Kit
open Oct
open Foot
open Tre (Lst inI lst_keep lst_take lst_at lst_new lst_none i64_wf cells_int IntsL int_cell encI encI_len encI_one OwI own_chg' info_i run_ld2 newI_own)
open Led (Lg encG encG_len encG_one Legs leg_cells info_leg)
set_option linter.unusedVariables false
variable {w w' : World}

theorem got_up {base B : Nat} {v : Value} {l : List Int} {q : Int} (h : GotI w base v l q) (hB : B < base) : ∃ a n c, v = .slice a n c ∧ (0 ≤ q → Up w B a n c l) := by
  rcases h with ⟨_, ho⟩ | ⟨hq, rfl⟩
  · obtain ⟨a, c, e, h1, h2⟩ := newI_own ho
    exact ⟨a, _, c, e, fun _ => ⟨h1, fun p hp => by have := (h2 p hp).1; omega⟩⟩
  · exact ⟨none, 0, 0, rfl, fun h => by omega⟩
theorem got_three {base : Nat} {v : Value} {x y z q : Int} (h : GotI w base v [x, y, z] q) (hq : 0 ≤ q) : ∃ g c, v = .slice (some ⟨g, 0, none⟩) 3 c ∧ w.cell? ⟨g, 0, none⟩ = some (.int .i64 x) ∧ w.cell? ⟨g, 1, none⟩ = some (.int .i64 y) ∧ w.cell? ⟨g, 2, none⟩ = some (.int .i64 z) := by
  rcases h with ⟨_, ho⟩ | ⟨h, _⟩
  · obtain ⟨g, c, rfl, h1, h2, h3⟩ := owns_at encI_len ho (by simp)
    obtain ⟨a, c', e, k1, k2, k3, k4⟩ := owns_row encI_len ho
    injection e with e1 e2 e3
    subst e1 e3
    have hL : IntsL w (some ⟨g, 0, none⟩) 3 c [x, y, z] := ⟨rfl, h2, h3, (fun e => by cases e), k4⟩
    exact ⟨g, c, rfl, int_cell (k := 0) hL (by simp), int_cell (k := 1) hL (by simp), int_cell (k := 2) hL (by simp)⟩
  · omega
theorem rInts3 {s s1 s2 s3 : RS} {a b c : Int} (h1 : rInt s = (a, s1)) (h2 : rInt s1 = (b, s2)) (h3 : rInt s2 = (c, s3)) : rInts 3 s = ([a, b, c], s3) := by
  simp only [rInts, h1, h2, h3]
theorem pairs_at : ∀ (m : Nat) (l : List Int), l.length = 2 * m → ∀ j, j < m → ∃ x y, l[2 * j]? = some x ∧ l[2 * j + 1]? = some y ∧ (pairs l)[j]? = some ⟨x, y⟩
  | 0, l, h, j, hj => by omega
  | m + 1, [], h, j, hj => by simp at h
  | m + 1, [a], h, j, hj => by simp at h; omega
  | m + 1, a :: b :: r, h, 0, hj => ⟨a, b, rfl, rfl, rfl⟩
  | m + 1, a :: b :: r, h, j + 1, hj => by
    obtain ⟨x, y, h1, h2, h3⟩ := pairs_at m r (by simp at h; omega) j (by omega)
    refine ⟨x, y, ?_, ?_, h3⟩
    · rw [show 2 * (j + 1) = 2 * j + 1 + 1 by omega]; exact h1
    · rw [show 2 * (j + 1) + 1 = (2 * j + 1) + 1 + 1 by omega]; exact h2
end Go.Proofs.Ytcoiebeehgeggaa.Ent
