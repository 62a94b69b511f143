/- Octet: numbers and texts that are put. -/
import Derived.Test.YtpmpigglekgfnaaOctRdr
import Derived.OwnWalk
import Derived.Lib.AppendStr
import Derived.Deep.DeepAppendWide
namespace Go.Proofs.Ytpmpigglekgfnaa.Oct
open Go.RowKit
open Go.Sort
open Kit
set_option linter.unusedVariables false

theorem strCells_eq (s : ByteArray) : Lib.strCells s = cellsB s.data.toList := rfl
set_option maxHeartbeats 1000000 in
theorem roomy_any (a : Option Addr) (len cap more : Nat) (l : List UInt8) (w : World) (hl : l.length = len) (hn : a = none → len = 0 ∧ cap = 0) (hE : RowB w a l) (hm : len + more ≤ 281474976710656) :
    Calls Try.prog 46 #[.slice a len cap, .int .i64 more] w fun e w' => e = .returned (.slice (some ⟨w.heap.size, 0, none⟩) len (len + more)) ∧ OwnB w' w.heap.size (.slice (some ⟨w.heap.size, 0, none⟩) len (len + more)) l ∧ Below w.heap.size w w' := by
  obtain ⟨i0, hi, hz0, hz1, hz2⟩ := info_parts info8
  go_enter Try.func46, Try.ntmps46
  go_wp2_with (first | (at_make; refine wpList_make_own _ rfl _ _ 29 rfl w.heap.size 5 i0 (.int .u8 0) 1 Try.underlying29 hi hz0 hz1 _ _ _ (len + more) rfl rfl (by omega) (by rw [hz2]; omega) (by unfold maxLen; omega) (Nat.le_refl _) ?_) | go_in)
  intro w1 hown hgr
  have hE1 := row_cells (row_far hE hgr (fun q hq => by simp))
  go_wp2_with (first | (at_builtin; refine wpList_append_fits_any _ rfl _ _ 29 rfl w.heap.size 5 i0 1 Try.underlying29 hi hz1 w.heap.size 0 (len + more) [] rfl hown a len cap (cellsB l) rfl (by rw [cellsB_length, hl, Nat.mul_one]) hn hE1 (cellsB_one l) (by omega) ?_) | go_in)
  intro w2 hown2 hgr2
  go_wp2
  go_ret
  refine ⟨rfl, own_iff.2 (by rw [hl]; exact hown2), ?_⟩
  exact grown_below (grown_trans (g := some w.heap.size) ⟨hgr.os, hgr.tape, hgr.output, hgr.size, fun k hk _ => hgr.block k hk (by simp)⟩ hgr2) (Nat.le_refl _) (Nat.le_refl _)


/-- What is owned, with its spare room. -/
def OwnR (w : World) (base g : Nat) (cap : Nat) (l : List UInt8) : Prop := base ≤ g ∧ l.length ≤ cap ∧ OwnB w base (.slice (some ⟨g, 0, none⟩) l.length cap) l

theorem put_more {base g cap n k : Nat} {L T : List UInt8} {w wr w2 : World} {b : Obj} (hbg : base ≤ g) (hbel : Below base w wr) (hsz : base ≤ wr.heap.size)
    (hown2 : w2.ownsRow base 5 1 (.slice (some ⟨g, 0, none⟩) (L.length + 1) cap) (L.length + 1) (cellsB L ++ [.int .u8 ((UInt8.ofNat (n / 2 ^ (8 * k))).toNat : Int)])) (hgr2 : (wr.alloc b).grownBy w2 (some g)) (hc : L.length + 1 ≤ cap)
    (hL : L ++ beB (k + 1) n = T) : (L ++ [UInt8.ofNat (n / 2 ^ (8 * k))]) ++ beB k n = T ∧ OwnR w2 base g cap (L ++ [UInt8.ofNat (n / 2 ^ (8 * k))]) ∧ Below base w w2 := by
  refine ⟨by rw [← hL, be_shift]; simp, ⟨hbg, by simpa using hc, own_iff.2 ?_⟩, ?_⟩
  · rw [cellsB_append, List.length_append]
    exact hown2
  · exact (hbel.alloc hsz b).trans (grown_below hgr2 (by simp; omega) hbg)

set_option maxRecDepth 100000 in
set_option maxHeartbeats 2000000 in
theorem put_any (base g cap n size : Nat) (l : List UInt8) (w : World) (hs : 1 ≤ size) (hs8 : size ≤ 8) (hown : OwnR w base g cap l) (hroom : l.length + size ≤ cap) (hn : n < 18446744073709551616) (hbase : base ≤ w.heap.size) :
    Calls Try.prog 45 #[.slice (some ⟨g, 0, none⟩) l.length cap, .int .u64 n, .int .i64 size] w fun e w' => e = .returned (.slice (some ⟨g, 0, none⟩) (l.length + size) cap) ∧ OwnR w' base g cap (l ++ beB size n) ∧ Below base w w' := by
  obtain ⟨i0, hi, hz0, hz1, hz2⟩ := info_parts info8
  go_enter Try.func45, Try.ntmps45
  have HO := Lib.hid hown
  clear hown
  go_wp2
  go_loopw [0, 7] (fun v i wr => ∃ (k : Nat) (L : List UInt8), k ≤ size ∧ L ++ beB k n = l ++ beB size n ∧ v = .slice (some ⟨g, 0, none⟩) L.length cap ∧ i = .int .i64 (8 * ((k : Int) - 1)) ∧ OwnR wr base g cap L ∧ Below base w wr) (fun _ i _ => (intOf i + 8).toNat)
  case atStart => exact ⟨size, l, Nat.le_refl _, rfl, rfl, rfl, HO.out, Below.refl _ _⟩
  case round =>
    obtain ⟨k, L, hk, hL, rfl, rfl, hown, hbel⟩ := hrel
    have hlen : L.length + k = l.length + size := by have := congrArg List.length hL; simpa [beB_length] using this
    cases k with
    | zero =>
      have HL : Hid (L = l ++ beB size n) := Lib.hid (by simpa [beB] using hL)
      have HR := Lib.hid hown
      clear hL hown
      go_wp2
      go_ret
      refine ⟨?_, by rw [← HL.out]; exact HR.out, hbel⟩
      rw [show L.length = l.length + size by omega]; rfl
    | succ k =>
      obtain ⟨hbg, hLc, hown⟩ := hown
      have hsz : base ≤ wr.heap.size := Nat.le_trans hbase hbel.size
      go_wp2_with (first | (at_builtin; refine wpList_append_fits _ rfl _ _ 29 rfl base 5 i0 1 Try.underlying29 hi hz1 g L.length cap (cellsB L) rfl ((own_iff.1 hown).alloc _) ⟨wr.heap.size, 0, none⟩ 1 1 [.int .u8 ((UInt8.ofNat (n / 2 ^ (8 * k))).toNat : Int)] rfl rfl ?c1 ?c2 (by omega) ?_) | go_in)
      case c1 => exact one_cell wr (byte_val n k)
      case c2 => exact by intro u hu; simp at hu; subst hu; rfl
      intro w2 hown2 hgr2
      have hR := Lib.hid (put_more hbg hbel hsz hown2 hgr2 (by omega) hL)
      clear hown hown2 hgr2 hL
      go_wp2
      go_roundw
      case rel => exact ⟨k, L ++ [UInt8.ofNat (n / 2 ^ (8 * k))], by omega, hR.out.1, by simp, by go_num, hR.out.2.1, hR.out.2.2⟩
      case measure => simp [intOf]; omega

theorem below_row {w w' : World} {base : Nat} (h : Below base w w') : Below base w w' := h
/-- What a call that makes a list of bytes leaves: a list of its own. -/
def OutB (w : World) (l : List UInt8) (e : Ending) (w' : World) : Prop := ∃ g cap, e = .returned (.slice (some ⟨g, 0, none⟩) l.length cap) ∧ OwnR w' w.heap.size g cap l ∧ Below w.heap.size w w'

set_option maxHeartbeats 1000000 in
theorem int_any (a : Option Addr) (len cap : Nat) (n : Int) (l : List UInt8) (w : World) (hl : l.length = len) (hn : a = none → len = 0 ∧ cap = 0) (hE : RowB w a l) (hm : len ≤ 140737488355328) :
    Calls Try.prog 36 #[.slice a len cap, .int .i64 n] w (OutB w (l ++ beB 8 (toU64 n))) := by
  subst hl
  go_enter Try.func36, Try.ntmps36
  go_wp2_with fail
  refine (roomy_any a l.length cap 8 l w rfl hn hE (by omega)).mono ?_
  rintro e w1 ⟨rfl, hown, hbel⟩
  go_wp2_with fail
  rw [wrap_u]
  refine (put_any w.heap.size w.heap.size (l.length + 8) (toU64 n) 8 l w1 (by omega) (by omega) ⟨Nat.le_refl _, by omega, hown⟩ (by omega) (toU64_lt n) hbel.size).mono ?_
  rintro e w2 ⟨rfl, hR, hb2⟩
  go_wp2
  go_ret
  exact ⟨_, _, by rw [List.length_append, beB_length]; rfl, hR, hbel.trans hb2⟩

end Go.Proofs.Ytpmpigglekgfnaa.Oct
