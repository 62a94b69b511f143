/- Plane: what each function of package plane answers, call by call. -/
import Derived.Test.YtahkhkfmpnoneaaChecked
import Derived.Test.YtahkhkfmpnoneaaPlaMath
import Derived.WalkKit
import Derived.WalkSpells
import Derived.WalkLawsBesides
import Derived.LoopTactic
import Derived.Lib.Hide
import Derived.Below
import Derived.Deep.QuietTactic
import Derived.BigQuiet
import Derived.Deep.RegionHeld3
import Derived.Laws.FloatArith
import Derived.Laws.ComplexArith
import Derived.Outline
namespace Go.Proofs.Ytahkhkfmpnoneaa.Pla
open Go.RowKit

theorem ret_bool {a b : Bool} (h : a = b) : Ending.returned (.bool a) = .returned (.bool b) := by rw [h]
theorem ret_int {k : IntKind} {a b : Int} (h : a = b) : Ending.returned (.int k a) = .returned (.int k b) := by rw [h]
theorem ret_cx {a b c d : Nat} (h : a = c) (g : b = d) : Ending.returned (.complex .f64 a b) = .returned (.complex .f64 c d) := by rw [h, g]
theorem bcell {W w1 : World} (hb : Below W.heap.size W w1) : (∀ b o, b < W.heap.size → w1.cell? ⟨b, o, none⟩ = W.cell? ⟨b, o, none⟩) ∧ (∀ b o, b < W.heap.size → w1.frozen? ⟨b, o, none⟩ = W.frozen? ⟨b, o, none⟩) :=
  ⟨fun b o h => hb.cell (p := ⟨b, o, none⟩) h, fun b o h => hb.frozen (p := ⟨b, o, none⟩) h⟩

theorem within_any (pr pi lr li hr hi : Nat) (w : World) :
    Calls Try.prog 20 #[.complex .f64 pr pi, .complex .f64 lr li, .complex .f64 hr hi] w fun e w' => e = .returned (.bool (leF lr pr && leF pr hr && leF li pi && leF pi hi)) ∧ w = w' := by
  cases h1 : leF lr pr
  case false =>
    unfold leF at h1
    go_enter Try.func20, Try.ntmps20
    go_wp2
    go_ret
    exact ⟨rfl, rfl⟩
  cases h2 : leF pr hr
  case false =>
    unfold leF at h1 h2
    go_enter Try.func20, Try.ntmps20
    go_wp2
    go_ret
    exact ⟨rfl, rfl⟩
  cases h3 : leF li pi
  case false =>
    unfold leF at h1 h2 h3
    go_enter Try.func20, Try.ntmps20
    go_wp2
    go_ret
    exact ⟨rfl, rfl⟩
  cases h4 : leF pi hi
  all_goals
    unfold leF at h1 h2 h3 h4
    go_enter Try.func20, Try.ntmps20
    go_wp2
    go_ret
    exact ⟨rfl, rfl⟩

theorem ahead_any (pr pi qr qi : Nat) (w : World) :
    Calls Try.prog 25 #[.complex .f64 pr pi, .complex .f64 qr qi] w fun e w' => e = .returned (.bool (ltF pr qr && ltF pi qi)) ∧ w = w' := by
  cases h1 : ltF pr qr
  case false =>
    unfold ltF at h1
    go_enter Try.func25, Try.ntmps25
    go_wp2
    go_ret
    exact ⟨rfl, rfl⟩
  cases h2 : ltF pi qi
  all_goals
    unfold ltF at h1 h2
    go_enter Try.func25, Try.ntmps25
    go_wp2
    go_ret
    exact ⟨rfl, rfl⟩

theorem corner_any (t n l m : Int) (w : World) :
    Calls Try.prog 21 #[.agg #[.int .i64 t, .int .i64 n, .int .i64 l, .int .i64 m]] w fun e w' => e = .returned (.complex .f64 (Flo.near t) (Flo.near n)) ∧ Below w.heap.size w w' := by
  go_enter Try.func21, Try.ntmps21
  go_wp2
  go_ret
  exact ⟨rfl, (Below.refl _ _).alloc (Nat.le_refl _) _⟩

theorem size_any (t n l m : Int) (w : World) :
    Calls Try.prog 22 #[.agg #[.int .i64 t, .int .i64 n, .int .i64 l, .int .i64 m]] w fun e w' => e = .returned (.complex .f64 (Flo.near l) (Flo.near m)) ∧ Below w.heap.size w w' := by
  go_enter Try.func22, Try.ntmps22
  go_wp2
  go_ret
  exact ⟨rfl, (Below.refl _ _).alloc (Nat.le_refl _) _⟩

end Go.Proofs.Ytahkhkfmpnoneaa.Pla
