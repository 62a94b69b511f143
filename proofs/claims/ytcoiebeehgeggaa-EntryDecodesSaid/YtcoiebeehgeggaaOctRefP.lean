/- Octet: the document's own words on what is put. -/
import Derived.Test.YtcoiebeehgeggaaOctRefT
import Derived.BigFrame
import Derived.BigQuiet
import Derived.Deep.DeepCutAuto
import Derived.WalkLawsBesides
import Derived.LoopTactic
namespace Go.Proofs.Ytcoiebeehgeggaa.Oct
open Go.RowKit
open Go.Sort
open Kit
set_option linter.unusedVariables false

set_option maxHeartbeats 4000000 in
theorem rint_any (a : Option Addr) (len cap : Nat) (n : Int) (l : List UInt8) (w : World) (hl : l.length = len) (hn : a = none → len = 0 ∧ cap = 0) (hE : RowB w a l) (hm : len ≤ 140737488355328) :
    Calls Try.prog 15 #[.slice a len cap, .int .i64 n] w fun e w' => ∃ v, e = .returned v ∧ OwnB w' w.heap.size v (l ++ beB 8 (toU64 n)) ∧ Below w.heap.size w w' := by
  have hlt := toU64_lt n
  subst hl
  go_enter Try.func15, Try.ntmps15
  go_wp2_with (first | (at_builtin; refine append_b rfl _ _ rfl w.heap.size _ [] rfl (own_empty w _ (Nat.le_refl _)) a l.length cap l rfl rfl (row_alloc hE _) hn (by simp; omega) (by simp) ?_) | go_in)
  intro v w1 hown hb
  have HO := Lib.hid hown
  have HB := Lib.hid ((below_alloc w _).trans hb)
  clear hown hb
  go_wp2
  go_loopw [5, 6] (fun v i wr => ∃ (k : Nat) (L : List UInt8), k ≤ 8 ∧ L ++ beB k (toU64 n) = l ++ beB 8 (toU64 n) ∧ i = .int .i64 ((k : Int) - 1) ∧ OwnB wr w.heap.size v L ∧ Below w.heap.size w wr) (fun _ i _ => (intOf i + 1).toNat)
  case atStart => exact ⟨8, l, Nat.le_refl _, rfl, rfl, HO.out, HB.out⟩
  case round =>
    obtain ⟨k, L, hk, hL, rfl, hown, hbel⟩ := hrel
    have hlen : L.length + k = l.length + 8 := by have := congrArg List.length hL; simpa [beB_length] using this
    cases k with
    | zero =>
      have HL : Hid (L = l ++ beB 8 (toU64 n)) := Lib.hid (by simpa [beB] using hL)
      have HR := Lib.hid hown
      clear hL hown
      go_wp2
      go_ret
      exact ⟨_, rfl, by rw [← HL.out]; exact HR.out, hbel⟩
    | succ k =>
      have hsz : w.heap.size ≤ wr.heap.size := hbel.size
      go_wp2_with (first | (at_builtin; refine append_b rfl _ _ rfl w.heap.size _ L rfl (owns_alloc hown _) (some ⟨wr.heap.size, 0, none⟩) 1 1 [UInt8.ofNat (toU64 n / 2 ^ (8 * k))] rfl rfl ?c1 (fun h => by cases h) (by omega) (by simp; omega) ?_) | go_in)
      case c1 => exact row_one wr (byte_w n k)
      intro v' w2 hown2 hb2
      have hR := Lib.hid (show (L ++ [UInt8.ofNat (toU64 n / 2 ^ (8 * k))]) ++ beB k (toU64 n) = l ++ beB 8 (toU64 n) by rw [← hL, be_shift]; simp)
      have hB := Lib.hid ((hbel.alloc hsz _).trans hb2)
      have hO := Lib.hid hown2
      clear hown hown2 hb2 hL
      go_wp2
      go_roundw
      case rel => exact ⟨k, L ++ [UInt8.ofNat (toU64 n / 2 ^ (8 * k))], by omega, hR.out, by go_num, hO.out, hB.out⟩
      case measure => simp [intOf]

end Go.Proofs.Ytcoiebeehgeggaa.Oct
