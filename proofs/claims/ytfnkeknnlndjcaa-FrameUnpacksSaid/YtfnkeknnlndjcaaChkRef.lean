/- Check: the document's own sums, as they run. -/
import Derived.Test.YtfnkeknnlndjcaaChkByte
import Derived.BigFrame
import Derived.BigQuiet
import Derived.Deep.DeepCutAuto
import Derived.WalkLawsBesides
import Derived.LoopTactic
namespace Go.Proofs.Ytfnkeknnlndjcaa.Chk
open Go.RowKit
open Go.Sort
open Kit
open Oct
set_option linter.unusedVariables false

/-- A sum. -/
abbrev uv (s : BitVec 32) : Value := .int .u32 (s.toNat : Int)

theorem take_bits (s : BitVec 32) (b : UInt8) (j : Nat) (h : j < 8) : bitsZ s ((bitsOf b).take (j + 1)) = bitZ (bitsZ s ((bitsOf b).take j)) (b.toNat.testBit (7 - j)) := by
  have e : (bitsOf b).take (j + 1) = (bitsOf b).take j ++ [b.toNat.testBit (7 - j)] := by
    have hl : j < (bitsOf b).length := by rw [bitsOf_length]; exact h
    rw [List.take_succ_eq_append_getElem hl]
    have := bitsOf_at b j h
    rw [List.getElem?_eq_getElem hl] at this
    injection this with this
    rw [this]
  rw [e, bitsZ_append]
  rfl

theorem bit_one (y : UInt8) (r : Nat) : Go.bits .and .u32 ((y.toNat : Int) / 2 ^ r % 4294967296) 1 = (((y.toNat.testBit r).toNat : Nat) : Int) := by
  have e : ((y.toNat : Int) / 2 ^ r % 4294967296) = ((y.toNat / 2 ^ r % 4294967296 : Nat) : Int) := by
    rw [Int.natCast_emod, Int.natCast_ediv, Int.natCast_pow]; rfl
  rw [e, show (1 : Int) = ((1 : Nat) : Int) from rfl, u32_and_nat _ _ (Nat.mod_lt _ (by decide)) (by decide), nat_mask1, Nat.mod_mod_of_dvd _ (by decide), Nat.testBit_eq_decide_div_mod_eq]
  rcases Nat.mod_two_eq_zero_or_one (y.toNat / 2 ^ r) with h | h <;> rw [h] <;> rfl
theorem xor_poly (z : BitVec 32) : Go.bits .xor .u32 ((z.toNat : Int) * 2 % 4294967296) 79764919 = ((z.toNat * 2 % 4294967296 ^^^ polyN : Nat) : Int) := by
  have e : ((z.toNat : Int) * 2 % 4294967296) = ((z.toNat * 2 % 4294967296 : Nat) : Int) := by omega
  rw [e, show (79764919 : Int) = ((79764919 : Nat) : Int) from rfl, u32_xor_nat _ _ (Nat.mod_lt _ (by decide)) (by decide)]
  rfl
theorem bit_ne {z : BitVec 32} {y : UInt8} {r : Nat} (h : ((z.toNat : Int) / 2147483648 != Go.bits .and .u32 ((y.toNat : Int) / 2 ^ r % 4294967296) 1) = true) : Go.bits .xor .u32 ((z.toNat : Int) * 2 % 4294967296) 79764919 = ((bitZ z (y.toNat.testBit r)).toNat : Int) := by
  rw [bit_one, bne_iff_ne] at h
  rw [xor_poly, bitZ_toNat, bitN, if_neg (by omega)]
theorem bit_eq {z : BitVec 32} {y : UInt8} {r : Nat} (h : ((z.toNat : Int) / 2147483648 != Go.bits .and .u32 ((y.toNat : Int) / 2 ^ r % 4294967296) 1) = false) : (z.toNat : Int) * 2 % 4294967296 = ((bitZ z (y.toNat.testBit r)).toNat : Int) := by
  rw [bit_one, bne_eq_false_iff_eq] at h
  rw [bitZ_toNat, bitN, if_pos (by omega)]
  omega

set_option maxHeartbeats 4000000 in
theorem rfrom_any (s : BitVec 32) (a : Option Addr) (len cap : Nat) (l : List UInt8) (w : World) (hl : l.length = len) (hm : len ≤ 2000) (hE : RowB w a l) :
    Calls Try.prog 28 #[uv s, .slice a len cap] w fun e w' => e = .returned (uv (crc s l)) ∧ w = w' := by
  have HL := Lib.hid hl
  have HE := Lib.hid hE
  clear hl hE
  go_enter Try.func28, Try.ntmps28
  go_wp2
  go_loop [0, 5] (fun v i => ∃ k : Nat, k ≤ len ∧ i = .int .i64 k ∧ v = uv (crc s (l.take k))) (fun _ i => len - (intOf i).toNat)
  case atStart => exact ⟨0, Nat.zero_le _, rfl, rfl⟩
  case round =>
    obtain ⟨k, hk, rfl, rfl⟩ := hrel
    by_cases hlt : k < len
    · have hkl : k < l.length := by rw [HL.out]; exact hlt
      obtain ⟨b, off, HA⟩ := row_some HE.out (by omega)
      have ha := HA.out
      subst ha
      have c0 := row_cell HE.out hkl rfl (i := 0) (by omega)
      have HS : Hid (crc s (l.take (k + 1)) = bitsZ (crc s (l.take k)) (bitsOf l[k])) := by
        exact Lib.hid (by rw [List.take_succ_eq_append_getElem hkl, crc_snoc])
      simp only [encB, Nat.mul_one, Nat.add_zero, List.getElem?_cons_zero] at c0
      generalize hx : crc s (l.take k) = x at *
      generalize hy : l[k] = y at *
      clear hx hy
      go_wp2
      go_loop [0, 6] (fun v i => ∃ j : Nat, j ≤ 8 ∧ i = .int .i64 (7 - (j : Int)) ∧ v = uv (bitsZ x ((bitsOf y).take j))) (fun _ i => (intOf i + 1).toNat)
      case atStart => exact ⟨0, Nat.zero_le _, rfl, rfl⟩
      case round =>
        obtain ⟨j, hj, rfl, rfl⟩ := hrel
        by_cases hj8 : j < 8
        · have HT : Hid (bitsZ x ((bitsOf y).take (j + 1)) = bitZ (bitsZ x ((bitsOf y).take j)) (y.toNat.testBit (7 - j))) := Lib.hid (take_bits x y j hj8)
          generalize hz : bitsZ x ((bitsOf y).take j) = z at *
          clear hz
          go_wp2
          · rename_i _ h
            have HB := Lib.hid (bit_ne h)
            clear h
            go_round
            case rel => exact ⟨j + 1, by omega, by go_num, by rw [HT.out, HB.out]⟩
            case measure => simp [intOf]; omega
          · rename_i _ h
            have HB := Lib.hid (bit_eq h)
            clear h
            go_round
            case rel => exact ⟨j + 1, by omega, by go_num, by rw [HT.out, HB.out]⟩
            case measure => simp [intOf]; omega
        · obtain rfl : j = 8 := by omega
          go_wp2
          go_round
          case rel => exact ⟨k + 1, by omega, by go_num, by rw [HS.out]; rfl⟩
          case measure => simp [intOf]; omega
    · obtain rfl : k = len := by omega
      go_wp2
      go_ret
      have e : l.take k = l := by rw [← HL.out, List.take_length]
      refine ⟨?_, rfl⟩
      rw [e]; rfl

set_option maxHeartbeats 1000000 in
theorem rof_any (a : Option Addr) (len cap : Nat) (l : List UInt8) (w : World) (hl : l.length = len) (hm : len ≤ 2000) (hE : RowB w a l) :
    Calls Try.prog 19 #[.slice a len cap] w fun e w' => e = .returned (uv (crc 0xffffffff#32 l)) ∧ w = w' := by
  have HC := Lib.hid (rfrom_any 0xffffffff#32 a len cap l w hl hm hE)
  clear hl hE
  go_enter Try.func19, Try.ntmps19
  go_wp2_with fail
  refine HC.out.mono ?_
  rintro e w1 ⟨rfl, rfl⟩
  go_wp2
  go_ret
  exact ⟨rfl, rfl⟩

/-- The sum of bytes. -/
def sumB (l : List UInt8) : BitVec 32 := crc 0xffffffff#32 l
end Go.Proofs.Ytfnkeknnlndjcaa.Chk
