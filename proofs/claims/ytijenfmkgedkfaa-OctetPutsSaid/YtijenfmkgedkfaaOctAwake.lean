/- Octet: the fixed fact. -/
import Derived.Test.YtijenfmkgedkfaaOctRead
namespace Go.Proofs.Ytijenfmkgedkfaa.Oct
open Go.RowKit
open Go.Sort
open Kit
set_option linter.unusedVariables false

theorem int_is (a : Option Addr) (len cap n' : Nat) (n : Int) (l L : List UInt8) (w : World) (hl : l.length = len) (hn : a = none → len = 0 ∧ cap = 0) (hE : RowB w a l) (hm : len ≤ 140737488355328) (hL : l ++ beB 8 (toU64 n) = L) (hn' : L.length = n') :
    Calls Try.prog 10 #[.slice a len cap, .int .i64 n] w fun e w' => ∃ g cap, e = .returned (.slice (some ⟨g, 0, none⟩) n' cap) ∧ n' ≤ cap ∧ cap ≤ maxLen ∧ RowB w' (some ⟨g, 0, none⟩) L ∧ Below w.heap.size w w' := by
  subst hL hn'
  refine (int_any a len cap n l w hl hn hE hm).mono ?_
  rintro e w' ⟨g, c, rfl, ⟨h1, h2, h3⟩, hb⟩
  obtain ⟨a', c', he, _, h5, _, h6⟩ := own_row h3
  injection he with e1 e2 e3
  subst e1 e3
  exact ⟨g, c, rfl, h2, h5, h6, hb⟩
theorem text_is (a : Option Addr) (len cap n' : Nat) (s : ByteArray) (l L : List UInt8) (w : World) (hl : l.length = len) (hn : a = none → len = 0 ∧ cap = 0) (hE : RowB w a l) (hm : len ≤ 140737488355328) (hs : s.size ≤ 65535) (hL : l ++ beB 2 s.size ++ s.data.toList = L) (hn' : L.length = n') :
    Calls Try.prog 8 #[.slice a len cap, .string s] w fun e w' => ∃ g cap, e = .returned (.tuple #[.slice (some ⟨g, 0, none⟩) n' cap, .int .i64 0]) ∧ n' ≤ cap ∧ cap ≤ maxLen ∧ RowB w' (some ⟨g, 0, none⟩) L ∧ Below w.heap.size w w' := by
  subst hL hn'
  refine (text_any a len cap s l w hl hn hE hm hs).mono ?_
  rintro e w' ⟨g, c, rfl, ⟨h1, h2, h3⟩, hb⟩
  obtain ⟨a', c', he, _, h5, _, h6⟩ := own_row h3
  injection he with e1 e2 e3
  subst e1 e3
  have e : (l ++ beB 2 s.size ++ s.data.toList).length = len + 2 + s.size := by
    rw [List.length_append, List.length_append, beB_length, hl, Array.length_toList]; rfl
  exact ⟨g, c, by rw [e], h2, h5, h6, hb⟩
theorem text_rdr_is {B : Nat} {p : Nat} {s s' : RS} {t : ByteArray} {w : World} (most : Int) (h : Rdr B w p s) (ht : rText most s = (t, s')) :
    Calls Try.prog 15 #[.pointer (some ⟨p, 0, none⟩), .int .i64 most] w fun e w' => e = .returned (.string t) ∧ Rdr B w' p s' ∧ w.grownBy w' (some p) := by
  have := text_rdr most h
  rw [ht] at this; exact this
theorem int_rdr_is {B : Nat} {p : Nat} {s s' : RS} {n : Int} {w : World} (h : Rdr B w p s) (ht : rInt s = (n, s')) :
    Calls Try.prog 17 #[.pointer (some ⟨p, 0, none⟩)] w fun e w' => e = .returned (.int .i64 n) ∧ Rdr B w' p s' ∧ w.grownBy w' (some p) := by
  have := int_rdr h
  rw [ht] at this; exact this
theorem end_rdr_is {B : Nat} {p : Nat} {s : RS} {b : Bool} {w : World} (h : Rdr B w p s) (hb : decide (s = some []) = b) :
    Calls Try.prog 18 #[.pointer (some ⟨p, 0, none⟩)] w fun e w' => e = .returned (.bool b) ∧ w = w' := by
  subst hb; exact end_rdr h

theorem row_other {w w' : World} {g off p : Nat} {l : List UInt8} (h : RowB w (some ⟨g, off, none⟩) l) (hg : w.grownBy w' (some p)) (hne : g ≠ p) : RowB w' (some ⟨g, off, none⟩) l :=
  row_far h hg fun q hq e => by
    injection hq with hq
    subst hq
    injection e with e
    exact hne e
theorem aw1 : [(9 : UInt8)] ++ beB 8 (toU64 258) = [9, 0, 0, 0, 0, 0, 0, 1, 2] := by decide
theorem aw2 : [] ++ beB 2 (ByteArray.mk #[97, 98]).size ++ (ByteArray.mk #[97, 98]).data.toList = [0, 2, 97, 98] := by decide
theorem aw3 : rText 2 (some [0, 2, 97, 98]) = (⟨#[97, 98]⟩, some []) := by decide

set_option maxHeartbeats 4000000 in
theorem awake_any (w : World) : Calls Try.prog 9 #[] w fun e w' => e = .returned (.bool true) ∧ Below w.heap.size w w' := by
  have kc := fun (W : World) (a : Option Addr) (len cap : Nat) (l : List UInt8) => conv_row (P := Try.prog) (src := 22) (dst := 9) Try.underlying22 Try.underlying5 Try.underlying9 (w := W) (a := a) (len := len) (cap := cap) (l := l)
  have KC := Lib.hid kc
  clear kc
  go_enter Try.func9, Try.ntmps9
  go_wp2_with fail
  refine (int_is _ 1 1 9 258 [9] _ _ rfl (fun h => by cases h) (row_one w rfl) (by omega) aw1 rfl).mono ?_
  rintro e w1 ⟨g, c1, rfl, hc1, hm1, hr1, hb⟩
  have HB := Lib.hid ((below_alloc w _).trans (hb.mono (by simp)))
  clear hb
  go_wp2_with fail
  refine (text_is none 0 0 4 ⟨#[97, 98]⟩ [] _ w1 rfl (fun _ => ⟨rfl, rfl⟩) (.inl rfl) (by omega) (by decide) aw2 rfl).mono ?_
  rintro e w2 ⟨g2, c2, rfl, hc2, hm2, hr2, hb⟩
  replace HB := Lib.hid (below_keep HB.out hb)
  replace hr1 := row_keep encB_len hr1 hb
  clear hb
  go_wp2_with fail
  refine (new_any _ 4 c2 [0, 2, 97, 98] w2 rfl (fun h => by cases h) hr2 (by omega)).mono ?_
  rintro e w3 ⟨p, rfl, hR, hb⟩
  have hs2 := HB.out.size
  have l1 := row_lt encB_len (by omega) hr1 (by decide)
  have l2 := row_lt encB_len (by omega) hr2 (by decide)
  replace HB := Lib.hid (below_keep HB.out hb)
  replace hr1 := row_keep encB_len hr1 hb
  replace hr2 := row_keep encB_len hr2 hb
  have hp := rdr_ge hR
  clear hb
  go_wp2_with fail
  refine (text_rdr_is 2 hR aw3).mono ?_
  rintro e w4 ⟨rfl, hR4, hg⟩
  replace HB := Lib.hid (HB.out.trans (grown_below hg HB.out.size (Nat.le_trans hs2 hp)))
  replace hr1 := row_other hr1 hg (by omega)
  replace hr2 := row_other hr2 hg (by omega)
  have q1 := KC.out w4 _ 9 c1 _ rfl (fun h => by cases h) hr1
  have q2 := KC.out (w4.alloc (.cells #[.int .u8 9, .int .u8 0, .int .u8 0, .int .u8 0, .int .u8 0, .int .u8 0, .int .u8 0, .int .u8 1, .int .u8 2] 5)) (some ⟨w4.heap.size, 0, none⟩) 9 9 [9, 0, 0, 0, 0, 0, 0, 1, 2] rfl (fun h => by cases h) (Kit.row_new encB_len w4 _ _ _ _ rfl rfl)
  have q3 := KC.out (w4.alloc (.cells #[.int .u8 9, .int .u8 0, .int .u8 0, .int .u8 0, .int .u8 0, .int .u8 0, .int .u8 0, .int .u8 1, .int .u8 2] 5)) _ 4 c2 _ rfl (fun h => by cases h) (row_alloc hr2 _)
  have q4 := KC.out ((w4.alloc (.cells #[.int .u8 9, .int .u8 0, .int .u8 0, .int .u8 0, .int .u8 0, .int .u8 0, .int .u8 0, .int .u8 1, .int .u8 2] 5)).alloc (.cells #[.int .u8 0, .int .u8 2, .int .u8 97, .int .u8 98] 5)) (some ⟨w4.heap.size + 1, 0, none⟩) 4 4 [0, 2, 97, 98] rfl (fun h => by cases h) (Kit.row_new encB_len _ _ _ _ _ (by simp) rfl)
  have HR := Lib.hid (fun o o' => end_rdr_is (b := true) (rdr_keep (rdr_keep hR4 (below_alloc w4 o)) (below_alloc _ o')) (by decide))
  clear hr1 hr2 hg hR hR4
  go_wp2_with fail
  refine (HR.out _ _).mono ?_
  rintro e w5 ⟨rfl, rfl⟩
  go_wp2
  go_ret
  exact ⟨rfl, (HB.out.alloc HB.out.size _).alloc (Nat.le_trans HB.out.size (by simp)) _⟩

end Go.Proofs.Ytijenfmkgedkfaa.Oct
