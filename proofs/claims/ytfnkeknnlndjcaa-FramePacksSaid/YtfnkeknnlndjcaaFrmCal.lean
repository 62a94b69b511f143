/- Frame: the landed small calls: Sectors, the stamp, its halves, a number's lowest bytes. -/
import Derived.Test.YtfnkeknnlndjcaaFrmLaw
import Derived.Test.YtfnkeknnlndjcaaFrmLand
import Derived.Test.YtfnkeknnlndjcaaOctNew
import Derived.Test.YtfnkeknnlndjcaaOctCopy
import Derived.Test.YtfnkeknnlndjcaaChkOf
namespace Go.Proofs.Ytfnkeknnlndjcaa.Frm
open Go.RowKit
open Go.Sort
open Kit
open Oct
open Chk
set_option linter.unusedVariables false

set_option maxHeartbeats 1000000 in
theorem half_any (n : Int) (w : World) (hn : -9223372036854775808 ≤ n ∧ n ≤ 9223372036854775807) : Calls Try.prog 14 #[.int .i64 n] w fun e w' => e = .returned (.bool (decide (0 ≤ n ∧ n < 4294967296))) ∧ w = w' := by
  by_cases h0 : 0 ≤ n
  · by_cases h1 : n ≤ 4294967295
    · go_enter Try.func14, Try.ntmps14
      go_wp2
      go_ret
      exact ⟨ret_bool (by simp; omega), rfl⟩
    · go_enter Try.func14, Try.ntmps14
      go_wp2
      go_ret
      exact ⟨ret_bool (by simp; omega), rfl⟩
  · go_enter Try.func14, Try.ntmps14
    go_wp2
    go_ret
    exact ⟨ret_bool (by simp; omega), rfl⟩

set_option maxHeartbeats 1000000 in
theorem sectors_any (n : Int) (hn : -9223372036854775808 ≤ n ∧ n ≤ 9223372036854775807) (w : World) :
    Calls Try.prog 10 #[.int .i64 n] w fun e w' => e = .returned (.int .i64 (secsI n : Nat)) ∧ w = w' := by
  by_cases h0 : n < 0
  · have e : Hid (secsI n = 0) := Lib.hid (by unfold secsI; rw [if_pos (.inl h0)])
    go_enter Try.func10, Try.ntmps10
    go_wp2
    go_ret
    exact ⟨by rw [e.out]; rfl, rfl⟩
  · by_cases h1 : 65535 < n
    · have e : Hid (secsI n = 0) := Lib.hid (by unfold secsI; rw [if_pos (.inr h1)])
      go_enter Try.func10, Try.ntmps10
      go_wp2
      go_ret
      exact ⟨by rw [e.out]; rfl, rfl⟩
    · have e : Hid (((secsI n : Nat) : Int) = (n + 29) / 24) := Lib.hid (by unfold secsI secs; rw [if_neg (by omega)]; omega)
      go_enter Try.func10, Try.ntmps10
      go_wp2
      go_ret
      refine ⟨ret_int ?_, rfl⟩
      rw [e.out]
      first | rfl | (congr 1; omega) | omega

theorem sectors_is (n m : Nat) (hn : n ≤ 65535) (hm : secs n = m) (w : World) : Calls Try.prog 10 #[.int .i64 (n : Nat)] w fun e w' => e = .returned (.int .i64 (m : Nat)) ∧ w = w' := by
  subst hm
  have := sectors_any (n : Int) (by omega) w
  rwa [show secsI (n : Int) = secs n by unfold secsI; rw [if_neg (by omega)]; rfl] at this

theorem u8_eq (a b : Nat) (h : a % 256 = b % 256) : UInt8.ofNat a = UInt8.ofNat b := UInt8.toNat.inj (by rw [u8_of, u8_of, h])
theorem mark_be (e q : Nat) (hq : q < 4294967296) : beB 8 (e * 4294967296 + q) = mark e q := by
  simp only [mark, beB, List.cons_append, List.nil_append, Nat.reducePow]
  rw [u8_eq ((e * 4294967296 + q) / 72057594037927936) (e / 16777216) (by omega), u8_eq ((e * 4294967296 + q) / 281474976710656) (e / 65536) (by omega), u8_eq ((e * 4294967296 + q) / 1099511627776) (e / 256) (by omega), u8_eq ((e * 4294967296 + q) / 4294967296) (e / 1) (by omega),
    u8_eq ((e * 4294967296 + q) / 16777216) (q / 16777216) (by omega), u8_eq ((e * 4294967296 + q) / 65536) (q / 65536) (by omega), u8_eq ((e * 4294967296 + q) / 256) (q / 256) (by omega), u8_eq ((e * 4294967296 + q) / 1) (q / 1) (by omega)]
theorem or_stamp (e q : Nat) (he : e < 4294967296) (hq : q < 4294967296) : toU64 (Go.bits .or .i64 (wrap64 ((e : Int) * 4294967296)) (q : Int)) = e * 4294967296 + q := by
  have h : (BitVec.ofInt 64 (wrap64 ((e : Int) * 4294967296)) ||| BitVec.ofInt 64 (q : Int)).toNat = e * 4294967296 + q := by
    rw [BitVec.toNat_or, BitVec.toNat_ofInt, BitVec.toNat_ofInt, show (wrap64 ((e : Int) * 4294967296) % ((2 ^ 64 : Nat) : Int)).toNat = e * 4294967296 by unfold wrap64; omega, show ((q : Int) % ((2 ^ 64 : Nat) : Int)).toNat = q by omega]
    exact nat_join 32 _ _ (by omega) (by omega)
  show toU64 (IntKind.i64.wrap ((BitVec.ofInt 64 (wrap64 ((e : Int) * 4294967296)) ||| BitVec.ofInt 64 (q : Int)).toNat : Int)) = _
  rw [h, IntKind.wrap_i64]
  unfold toU64; omega
set_option maxHeartbeats 1000000 in
theorem stampOf_any (e q : Nat) (he : e < 4294967296) (hq : q < 4294967296) (w : World) :
    Calls Try.prog 15 #[.int .i64 (e : Nat), .int .i64 (q : Nat)] w fun e' w' => ∃ g cap, e' = .returned (.slice (some ⟨g, 0, none⟩) 8 cap) ∧ 8 ≤ cap ∧ cap ≤ maxLen ∧ RowB w' (some ⟨g, 0, none⟩) (mark e q) ∧ Below w.heap.size w w' := by
  go_enter Try.func15, Try.ntmps15
  go_wp2_with fail
  refine (int_is none 0 0 8 _ [] (mark e q) w rfl (fun _ => ⟨rfl, rfl⟩) (.inl rfl) (by omega) (by rw [or_stamp e q he hq, List.nil_append, mark_be e q hq]) (mark_length e q)).mono ?_
  rintro e' w1 ⟨g, c, rfl, h1, h2, h3, hb⟩
  go_wp2
  go_ret
  exact ⟨g, c, rfl, h1, h2, h3, hb⟩

theorem beB_drop (n k : Nat) : ∀ j, (beB (j + k) n).drop j = beB k n
  | 0 => by rw [Nat.zero_add, List.drop_zero]
  | j + 1 => by rw [show j + 1 + k = (j + k) + 1 by omega]; exact beB_drop n k j
theorem toU64_nat (n : Nat) (h : n < 18446744073709551616) : toU64 (n : Int) = n := by unfold toU64; omega
/-- A cut of bytes in memory. -/
def AtB (w : World) (v : Value) (n : Nat) (l : Bs) : Prop := ∃ b o c, v = .slice (some ⟨b, o, none⟩) n c ∧ n ≤ c ∧ c ≤ maxLen ∧ RowB w (some ⟨b, o, none⟩) l
set_option maxHeartbeats 1000000 in
theorem lowest_any (n k : Nat) (hn : n < 9223372036854775808) (hk : 1 ≤ k) (hk8 : k ≤ 8) (w : World) :
    Calls Try.prog 25 #[.int .i64 (n : Nat), .int .i64 (k : Nat)] w fun e' w' => ∃ v, e' = .returned v ∧ AtB w' v k (beB k n) ∧ Below w.heap.size w w' := by
  go_enter Try.func25, Try.ntmps25
  go_wp2_with fail
  refine (int_is none 0 0 8 _ [] (beB 8 n) w rfl (fun _ => ⟨rfl, rfl⟩) (.inl rfl) (by omega) (by rw [toU64_nat n (by omega), List.nil_append]) (beB_length _ _)).mono ?_
  rintro e' w1 ⟨g, c, rfl, h1, h2, h3, hb⟩
  have h4 := row_from h3 (8 - k)
  rw [show beB 8 n = beB ((8 - k) + k) n by rw [show 8 - k + k = 8 by omega], beB_drop, Nat.zero_add] at h4
  have H4 := Lib.hid h4
  unfold maxLen at h2
  clear h3 h4
  go_wp2
  go_ret
  exact ⟨_, rfl, ⟨g, 8 - k, c - (8 - k), by first | rfl | (simp; omega), by omega, by unfold maxLen; omega, H4.out⟩, hb⟩

set_option maxHeartbeats 1000000 in
theorem stampAt_any (b o len cap i : Nat) (l : Bs) (w : World) (hl : l.length = len) (hi : 32 * (i + 1) ≤ len) (hc : len ≤ cap) (hm : cap ≤ maxLen) (hE : RowB w (some ⟨b, o, none⟩) l) :
    Calls Try.prog 22 #[.slice (some ⟨b, o, none⟩) len cap, .int .i64 (i : Nat)] w fun e' w' => ∃ v, e' = .returned v ∧ AtB w v 8 (stampL l i) ∧ w = w' := by
  have h4 := row_take (row_from hE (32 * i + 24)) 8
  have H4 := Lib.hid (show RowB w (some ⟨b, o + (32 * i + 24), none⟩) (stampL l i) from h4)
  unfold maxLen at hm
  clear hE h4
  go_enter Try.func22, Try.ntmps22
  go_wp2
  go_ret
  exact ⟨_, rfl, ⟨b, o + (32 * i + 24), cap - (32 * i + 24), by first | rfl | (simp; omega), by omega, by unfold maxLen; omega, H4.out⟩, rfl⟩

end Go.Proofs.Ytfnkeknnlndjcaa.Frm
