/- Octet: what bytes come to. -/
import Derived.Test.YtpmpigglekgfnaaChecked
import Derived.Test.YtpmpigglekgfnaaOctByte
import Derived.ProofKit
import Derived.WalkKit
import Derived.BigFrame
import Derived.BigQuiet
import Derived.Deep.DeepCutAuto
import Derived.WalkLawsBesides
import Derived.LoopTactic
import Derived.Lib.Hide
import Derived.Laws.BitsAllLaws
namespace Go.Proofs.Ytpmpigglekgfnaa.Oct
open Go.RowKit
open Go.Sort
open Kit
set_option linter.unusedVariables false

theorem or_low (x y : Nat) (hy : y < 256) : bits BinOp.or IntKind.u64 (IntKind.u64.wrap ((x : Int) * 256)) (y : Int) = (((x * 256 + y) % 18446744073709551616 : Nat) : Int) := by
  have e : IntKind.u64.wrap ((x : Int) * 256) = ((x * 256 % 18446744073709551616 : Nat) : Int) := by rw [IntKind.wrap_u64]; omega
  rw [e, bits_or_u64_nat _ _ (by omega) (by omega), nat_join 8 _ _ (by omega) hy]
  omega

set_option maxHeartbeats 1000000 in
theorem number_any (a : Option Addr) (len cap : Nat) (l : List UInt8) (w : World) (hl : l.length = len) (hm : len ≤ maxLen) (hE : RowB w a l) :
    Calls Try.prog 47 #[.slice a len cap] w fun e w' => e = .returned (.int .u64 (numB l : Nat)) ∧ w = w' := by
  unfold maxLen at hm
  have HL := Lib.hid hl
  have HE := Lib.hid hE
  clear hl hE
  go_enter Try.func47, Try.ntmps47
  go_wp2
  go_loop [3, 8] (fun n i => ∃ k : Nat, k ≤ len ∧ i = .int .i64 k ∧ n = .int .u64 (numF 0 (l.take k) : Nat)) (fun _ i => len - (intOf i).toNat)
  case atStart => exact ⟨0, Nat.zero_le _, rfl, rfl⟩
  case round =>
    obtain ⟨k, hk, rfl, rfl⟩ := hrel
    by_cases hlt : k < len
    · have hkl : k < l.length := by rw [HL.out]; exact hlt
      obtain ⟨b, off, HA⟩ := row_some HE.out (by omega)
      have ha := HA.out
      subst ha
      have c0 := row_cell HE.out hkl rfl (i := 0) (by omega)
      have hb := (l[k]).toNat_lt
      have HS : Hid (numF 0 (l.take (k + 1)) = (numF 0 (l.take k) * 256 + (l[k]).toNat) % 18446744073709551616) := by
        exact Lib.hid (by rw [List.take_succ_eq_append_getElem hkl, numF_snoc])
      have hn := numF_lt 0 (by decide) (l.take k)
      simp only [encB, Nat.mul_one, Nat.add_zero, List.getElem?_cons_zero] at c0
      generalize hx : numF 0 (l.take k) = x at *
      generalize hy : l[k].toNat = y at *
      go_wp2
      go_round
      case rel => exact ⟨k + 1, by omega, by go_num, by rw [HS.out, or_low x y hb]⟩
      case measure => simp [intOf]; omega
    · obtain rfl : k = len := by omega
      go_wp2
      go_ret
      have e : l.take k = l := by rw [← HL.out, List.take_length]
      refine ⟨?_, rfl⟩
      rw [e]; rfl

set_option maxHeartbeats 1000000 in
theorem spoil_any (p : Nat) (v0 v1 : Value) (w : World) (h0 : w.cell? ⟨p, 0, none⟩ = some v0) (h1 : w.cell? ⟨p, 1, none⟩ = some v1) (f0 : w.frozen? ⟨p, 0, none⟩ = false) (f1 : w.frozen? ⟨p, 1, none⟩ = false) :
    Calls Try.prog 49 #[.pointer (some ⟨p, 0, none⟩)] w fun e w' => e = .returned (.tuple #[]) ∧ w' = (w.setCell ⟨p, 1, none⟩ (.bool true)).setCell ⟨p, 0, none⟩ (.slice none 0 0) := by
  go_enter Try.func49, Try.ntmps49
  go_wp2
  go_end0
  exact ⟨rfl, rfl⟩

end Go.Proofs.Ytpmpigglekgfnaa.Oct
