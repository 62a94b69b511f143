/- Common to the claims of this seat, part 4: texts that were written one by one, laid behind one another. -/
import Derived.OwnWalk
import Derived.Lib.AppendStr
import Derived.Deep.DeepAppendWide
import Derived.Laws.CopyOwn
import Derived.BigFrame
import Derived.BigQuiet
import Derived.Deep.DeepCutAuto
import Derived.WalkLawsBesides
import Derived.LoopTactic
import Derived.Lib.SmallJoins
import Derived.RangeFuncBox
import Derived.RangeFuncLeaves
import Derived.RangeFuncCalls
import Derived.OwnWalkIn
import Derived.TacticsInMore
import Derived.LoopNIn
import Derived.LoopIn
import Derived.OrdersIn
import Derived.Shelf.Abstract
import Derived.Test.YtdgfoldobofgoaaPart3
/- Octet: numbers and texts that are put. -/
namespace Go.Proofs.Ytdgfoldobofgoaa.Oct
open Go.RowKit
open Go.Sort
open Kit
set_option linter.unusedVariables false

theorem strCells_eq (s : ByteArray) : Lib.strCells s = cellsB s.data.toList := rfl
set_option maxHeartbeats 1000000 in
theorem roomy_any (a : Option Addr) (len cap more : Nat) (l : List UInt8) (w : World) (hl : l.length = len) (hn : a = none → len = 0 ∧ cap = 0) (hE : RowB w a l) (hm : len + more ≤ 281474976710656) :
    Calls Try.prog 64 #[.slice a len cap, .int .i64 more] w fun e w' => e = .returned (.slice (some ⟨w.heap.size, 0, none⟩) len (len + more)) ∧ OwnB w' w.heap.size (.slice (some ⟨w.heap.size, 0, none⟩) len (len + more)) l ∧ Below w.heap.size w w' := by
  obtain ⟨i0, hi, hz0, hz1, hz2⟩ := info_parts info8
  go_enter Try.func64, Try.ntmps64
  go_wp2_with (first | (at_make; refine wpList_make_own _ rfl _ _ 27 rfl w.heap.size 5 i0 (.int .u8 0) 1 Try.underlying27 hi hz0 hz1 _ _ _ (len + more) rfl rfl (by omega) (by rw [hz2]; omega) (by unfold maxLen; omega) (Nat.le_refl _) ?_) | go_in)
  intro w1 hown hgr
  have hE1 := row_cells (row_far hE hgr (fun q hq => by simp))
  go_wp2_with (first | (at_builtin; refine wpList_append_fits_any _ rfl _ _ 27 rfl w.heap.size 5 i0 1 Try.underlying27 hi hz1 w.heap.size 0 (len + more) [] rfl hown a len cap (cellsB l) rfl (by rw [cellsB_length, hl, Nat.mul_one]) hn hE1 (cellsB_one l) (by omega) ?_) | go_in)
  intro w2 hown2 hgr2
  go_wp2
  go_ret
  refine ⟨rfl, own_iff.2 (by rw [hl]; exact hown2), ?_⟩
  exact grown_below (grown_trans (g := some w.heap.size) ⟨hgr.os, hgr.tape, hgr.output, hgr.size, fun k hk _ => hgr.block k hk (by simp)⟩ hgr2) (Nat.le_refl _) (Nat.le_refl _)


/-- What is owned, with its spare room. -/
def OwnR (w : World) (base g : Nat) (cap : Nat) (l : List UInt8) : Prop := base ≤ g ∧ l.length ≤ cap ∧ OwnB w base (.slice (some ⟨g, 0, none⟩) l.length cap) l

theorem put_more {base g cap n k : Nat} {L T : List UInt8} {w wr w2 : World} {b : Obj} (hbg : base ≤ g) (hbel : Below base w wr) (hsz : base ≤ wr.heap.size)
    (hown2 : w2.ownsRow base 5 1 (.slice (some ⟨g, 0, none⟩) (L.length + 1) cap) (L.length + 1) (cellsB L ++ [.int .u8 ((UInt8.ofNat (n / 2 ^ (8 * k))).toNat : Int)])) (hgr2 : (wr.alloc b).grownBy w2 (some g)) (hc : L.length + 1 ≤ cap)
    (hL : L ++ beB (k + 1) n = T) : (L ++ [UInt8.ofNat (n / 2 ^ (8 * k))]) ++ beB k n = T ∧ OwnR w2 base g cap (L ++ [UInt8.ofNat (n / 2 ^ (8 * k))]) ∧ Below base w w2 := by
  refine ⟨by rw [← hL, be_shift]; simp, ⟨hbg, by simpa using hc, own_iff.2 ?_⟩, ?_⟩
  · rw [cellsB_append, List.length_append]
    exact hown2
  · exact (hbel.alloc hsz b).trans (grown_below hgr2 (by simp; omega) hbg)

set_option maxRecDepth 100000 in
set_option maxHeartbeats 2000000 in
theorem put_any (base g cap n size : Nat) (l : List UInt8) (w : World) (hs : 1 ≤ size) (hs8 : size ≤ 8) (hown : OwnR w base g cap l) (hroom : l.length + size ≤ cap) (hn : n < 18446744073709551616) (hbase : base ≤ w.heap.size) :
    Calls Try.prog 63 #[.slice (some ⟨g, 0, none⟩) l.length cap, .int .u64 n, .int .i64 size] w fun e w' => e = .returned (.slice (some ⟨g, 0, none⟩) (l.length + size) cap) ∧ OwnR w' base g cap (l ++ beB size n) ∧ Below base w w' := by
  obtain ⟨i0, hi, hz0, hz1, hz2⟩ := info_parts info8
  go_enter Try.func63, Try.ntmps63
  have HO := Lib.hid hown
  clear hown
  go_wp2
  go_loopw [0, 7] (fun v i wr => ∃ (k : Nat) (L : List UInt8), k ≤ size ∧ L ++ beB k n = l ++ beB size n ∧ v = .slice (some ⟨g, 0, none⟩) L.length cap ∧ i = .int .i64 (8 * ((k : Int) - 1)) ∧ OwnR wr base g cap L ∧ Below base w wr) (fun _ i _ => (intOf i + 8).toNat)
  case atStart => exact ⟨size, l, Nat.le_refl _, rfl, rfl, rfl, HO.out, Below.refl _ _⟩
  case round =>
    obtain ⟨k, L, hk, hL, rfl, rfl, hown, hbel⟩ := hrel
    have hlen : L.length + k = l.length + size := by have := congrArg List.length hL; simpa [beB_length] using this
    cases k with
    | zero =>
      have HL : Hid (L = l ++ beB size n) := Lib.hid (by simpa [beB] using hL)
      have HR := Lib.hid hown
      clear hL hown
      go_wp2
      go_ret
      refine ⟨?_, by rw [← HL.out]; exact HR.out, hbel⟩
      rw [show L.length = l.length + size by omega]; rfl
    | succ k =>
      obtain ⟨hbg, hLc, hown⟩ := hown
      have hsz : base ≤ wr.heap.size := Nat.le_trans hbase hbel.size
      go_wp2_with (first | (at_builtin; refine wpList_append_fits _ rfl _ _ 27 rfl base 5 i0 1 Try.underlying27 hi hz1 g L.length cap (cellsB L) rfl ((own_iff.1 hown).alloc _) ⟨wr.heap.size, 0, none⟩ 1 1 [.int .u8 ((UInt8.ofNat (n / 2 ^ (8 * k))).toNat : Int)] rfl rfl ?c1 ?c2 (by omega) ?_) | go_in)
      case c1 => exact one_cell wr (byte_val n k)
      case c2 => exact by intro u hu; simp at hu; subst hu; rfl
      intro w2 hown2 hgr2
      have hR := Lib.hid (put_more hbg hbel hsz hown2 hgr2 (by omega) hL)
      clear hown hown2 hgr2 hL
      go_wp2
      go_roundw
      case rel => exact ⟨k, L ++ [UInt8.ofNat (n / 2 ^ (8 * k))], by omega, hR.out.1, by simp, by go_num, hR.out.2.1, hR.out.2.2⟩
      case measure => simp [intOf]; omega

theorem below_row {w w' : World} {base : Nat} (h : Below base w w') : Below base w w' := h
/-- Two's complement, as a number without bound. -/
def toU64 (n : Int) : Nat := (n % 18446744073709551616).toNat
theorem toU64_lt (n : Int) : toU64 n < 18446744073709551616 := by unfold toU64; omega
theorem toI_toU (n : Int) (h1 : -9223372036854775808 ≤ n) (h2 : n ≤ 9223372036854775807) : toI64 (toU64 n) = n := by unfold toI64 toU64; omega
theorem wrap_u (n : Int) : IntKind.u64.wrap n = (toU64 n : Int) := by rw [IntKind.wrap_u64]; unfold toU64; omega

/-- What a call that makes a list of bytes leaves: a list of its own. -/
def OutB (w : World) (l : List UInt8) (e : Ending) (w' : World) : Prop := ∃ g cap, e = .returned (.slice (some ⟨g, 0, none⟩) l.length cap) ∧ OwnR w' w.heap.size g cap l ∧ Below w.heap.size w w'

set_option maxHeartbeats 1000000 in
theorem int_any (a : Option Addr) (len cap : Nat) (n : Int) (l : List UInt8) (w : World) (hl : l.length = len) (hn : a = none → len = 0 ∧ cap = 0) (hE : RowB w a l) (hm : len ≤ 140737488355328) :
    Calls Try.prog 51 #[.slice a len cap, .int .i64 n] w (OutB w (l ++ beB 8 (toU64 n))) := by
  subst hl
  go_enter Try.func51, Try.ntmps51
  go_wp2_with fail
  refine (roomy_any a l.length cap 8 l w rfl hn hE (by omega)).mono ?_
  rintro e w1 ⟨rfl, hown, hbel⟩
  go_wp2_with fail
  rw [wrap_u]
  refine (put_any w.heap.size w.heap.size (l.length + 8) (toU64 n) 8 l w1 (by omega) (by omega) ⟨Nat.le_refl _, by omega, hown⟩ (by omega) (toU64_lt n) hbel.size).mono ?_
  rintro e w2 ⟨rfl, hR, hb2⟩
  go_wp2
  go_ret
  exact ⟨_, _, by rw [List.length_append, beB_length]; rfl, hR, hbel.trans hb2⟩

end Go.Proofs.Ytdgfoldobofgoaa.Oct
/- Octet: a Reader that is made; the document's own words on what is put and read. -/
namespace Go.Proofs.Ytdgfoldobofgoaa.Oct
set_option maxRecDepth 100000
open Go.RowKit
open Go.Sort
open Kit
set_option linter.unusedVariables false

theorem nil_slice (a : Option Addr) (len cap : Nat) (h : a = none → len = 0 ∧ cap = 0) : (Value.slice a len cap = .slice none 0 0 ↔ a = none) := by
  constructor
  · intro e; injection e
  · intro e; obtain ⟨rfl, rfl⟩ := h e; rw [e]

set_option maxHeartbeats 1000000 in
theorem clone_any (a : Option Addr) (len cap : Nat) (l : List UInt8) (w : World) (hl : l.length = len) (hn : a = none → len = 0 ∧ cap = 0) (hE : RowB w a l) (hm : len ≤ 140737488355328) :
    Calls Try.prog 67 #[.slice a len cap] w fun e w' => ∃ v, e = .returned v ∧ OwnB w' w.heap.size v l ∧ Below w.heap.size w w' := by
  subst hl
  obtain ⟨i0, hi, hz0, hz1, hz2⟩ := info_parts info8
  cases a with
  | none =>
    obtain ⟨h1, rfl⟩ := hn rfl
    have : l = [] := List.length_eq_zero_iff.1 h1
    subst this
    have he : ∀ w : World, (binOp .eql 27 (.slice none 0 0) (.slice none 0 0)).run Try.prog w = .ok (.bool true) w := fun _ => rfl
    go_enter Try.func67, Try.ntmps67
    go_wp2
    go_ret
    exact ⟨_, rfl, owns_nil _ _ _, Below.refl _ _⟩
  | some q =>
    have hE1 := row_cells hE q rfl
    have he : ∀ w : World, (binOp .eql 27 (.slice (some q) l.length cap) (.slice none 0 0)).run Try.prog w = .ok (.bool false) w := fun _ => rfl
    go_enter Try.func67, Try.ntmps67
    go_wp2_with (first | (at_builtin; refine append_b rfl _ _ rfl w.heap.size _ [] rfl (own_empty w _ (Nat.le_refl _)) (some q) l.length cap l rfl rfl (row_alloc hE _) hn (by simp; omega) (by simp) ?_) | go_in)
    intro v w1 hown hb
    go_wp2
    go_ret
    exact ⟨_, rfl, hown, (below_alloc w _).trans hb⟩

theorem new_made {w1 : World} {base cap : Nat} {a : Option Addr} {l : List UInt8} {T : TypeId} (hown : OwnB w1 base (.slice a l.length cap) l) (hb : base ≤ w1.heap.size) (h1 : l.length ≤ cap) (h2 : cap ≤ maxLen) (h3 : a = none → cap = 0) (h4 : RowB w1 a l) :
    Rdr base (w1.alloc (.cells #[.slice a l.length cap, .bool false] T)) w1.heap.size (some l) := by
  refine ⟨a, cap, by rw [World.cell?_alloc_new]; rfl, by rw [World.cell?_alloc_new]; rfl, by simp [go_sem], by simp [go_sem], h1, h2, h3, row_alloc h4 _, hb, fun q hq => ?_⟩
  subst hq
  have := (own_iff.1 hown).lt q.block rfl
  simp
  omega

set_option maxHeartbeats 1000000 in
theorem new_any (a : Option Addr) (len cap : Nat) (l : List UInt8) (w : World) (hl : l.length = len) (hn : a = none → len = 0 ∧ cap = 0) (hE : RowB w a l) (hm : len ≤ 140737488355328) :
    Calls Try.prog 59 #[.slice a len cap] w fun e w' => ∃ p, e = .returned (.pointer (some ⟨p, 0, none⟩)) ∧ Rdr w.heap.size w' p (some l) ∧ Below w.heap.size w w' := by
  subst hl
  go_enter Try.func59, Try.ntmps59
  go_wp2_with fail
  refine (clone_any a l.length cap l w rfl hn hE hm).mono ?_
  rintro e w1 ⟨v, rfl, hown, hb⟩
  obtain ⟨a', cap', rfl, h1, h2, h3, h4⟩ := own_row hown
  have hR := Lib.hid (fun T => new_made (T := T) hown hb.size h1 h2 h3 h4)
  have hB := Lib.hid (fun o => hb.alloc hb.size o)
  clear hown hb h4
  go_wp2
  go_ret
  exact ⟨_, rfl, hR.out _, hB.out _⟩

theorem int_is (a : Option Addr) (len cap n' : Nat) (n : Int) (l L : List UInt8) (w : World) (hl : l.length = len) (hn : a = none → len = 0 ∧ cap = 0) (hE : RowB w a l) (hm : len ≤ 140737488355328) (hL : l ++ beB 8 (toU64 n) = L) (hn' : L.length = n') :
    Calls Try.prog 51 #[.slice a len cap, .int .i64 n] w fun e w' => ∃ g cap, e = .returned (.slice (some ⟨g, 0, none⟩) n' cap) ∧ n' ≤ cap ∧ cap ≤ maxLen ∧ RowB w' (some ⟨g, 0, none⟩) L ∧ Below w.heap.size w w' := by
  subst hL hn'
  refine (int_any a len cap n l w hl hn hE hm).mono ?_
  rintro e w' ⟨g, c, rfl, ⟨h1, h2, h3⟩, hb⟩
  obtain ⟨a', c', he, _, h5, _, h6⟩ := own_row h3
  injection he with e1 e2 e3
  subst e1 e3
  exact ⟨g, c, rfl, h2, h5, h6, hb⟩
theorem int_rdr_is {B : Nat} {p : Nat} {s s' : RS} {n : Int} {w : World} (h : Rdr B w p s) (ht : rInt s = (n, s')) :
    Calls Try.prog 60 #[.pointer (some ⟨p, 0, none⟩)] w fun e w' => e = .returned (.int .i64 n) ∧ Rdr B w' p s' ∧ w.grownBy w' (some p) := by
  have := int_rdr h
  rw [ht] at this; exact this
theorem row_other {w w' : World} {g off p : Nat} {l : List UInt8} (h : RowB w (some ⟨g, off, none⟩) l) (hg : w.grownBy w' (some p)) (hne : g ≠ p) : RowB w' (some ⟨g, off, none⟩) l :=
  row_far h hg fun q hq e => by
    injection hq with hq
    subst hq
    injection e with e
    exact hne e

end Go.Proofs.Ytdgfoldobofgoaa.Oct
/- Common: copy of bytes onto bytes of the call's own; cuts of what a call made. -/
namespace Go.Proofs.Ytdgfoldobofgoaa.Oct
open Go.RowKit
open Go.Sort
open Kit
set_option linter.unusedVariables false

theorem size_b : (Try.prog.info? 5).map (·.size) = some 1 := by kernel_rfl
/-- Bytes that are laid over some of a list's. -/
def lay (L : List UInt8) (off : Nat) (k : List UInt8) : List UInt8 := L.take off ++ k ++ L.drop (off + k.length)
theorem lay_length {L k : List UInt8} {off : Nat} (h : off + k.length ≤ L.length) : (lay L off k).length = L.length := by
  simp [lay]; omega
theorem lay_at {α : Type} {A k : List α} {off : Nat} (h : off + k.length ≤ A.length) (i : Nat) : (A.take off ++ k ++ A.drop (off + k.length))[i]? = if i < off then A[i]? else if i < off + k.length then k[i - off]? else A[i]? := by
  have h1 : (A.take off).length = off := by rw [List.length_take]; omega
  by_cases ha : i < off
  · rw [if_pos ha, List.append_assoc, List.getElem?_append_left (by omega), List.getElem?_take_of_lt ha]
  · rw [if_neg ha]
    by_cases hb : i < off + k.length
    · rw [if_pos hb, List.getElem?_append_left (by rw [List.length_append]; omega), List.getElem?_append_right (by omega), h1]
    · rw [if_neg hb, List.getElem?_append_right (by rw [List.length_append]; omega), List.length_append, h1, List.getElem?_drop]
      congr 1; omega
theorem run_copy_b {w : World} {base g n cap off dl dc m c : Nat} {ty : TypeId} {L k : List UInt8} {ad : Option Addr} (hown : OwnB w base (.slice (some ⟨g, 0, none⟩) n cap) L) (hn : L.length = n) (hk : k.length = m) (hrow : RowB w ad k) (hm : m ≤ dl) (hfit : off + m ≤ n) :
    ∃ w', (Builtin.copy_ #[27, 27] ty #[.slice (some ⟨g, off, none⟩) dl dc, .slice ad m c]).run Try.prog w = .ok (.int .i64 (m : Nat)) w' ∧ OwnB w' base (.slice (some ⟨g, 0, none⟩) n cap) (lay L off k) ∧ w.grownBy w' (some g) := by
  subst hn hk
  by_cases h0 : k.length = 0
  · obtain rfl : k = [] := List.length_eq_zero_iff.1 h0
    refine ⟨w, ?_, ?_, ⟨rfl, rfl, rfl, Nat.le_refl _, fun _ _ _ => rfl⟩⟩
    · have := run_copy_none (P := Try.prog) w 27 27 ty 5 (some ⟨g, off, none⟩) ad dl dc 0 c Try.underlying27 size_b (by simp)
      exact this
    · unfold lay
      rw [List.append_nil, List.length_nil, Nat.add_zero, List.take_append_drop]; exact hown
  · rcases hrow with rfl | ⟨b, o, rfl, hr⟩
    · exact absurd rfl h0
    have ho := own_iff.1 hown
    rcases ho.2 with ⟨he, _⟩ | ⟨g', cap', cur, he, hbg, hg, hnc, hcm, hcs, htake⟩
    · cases he
    injection he with e1 e2 e3
    injection e1 with e1
    injection e1 with e1
    subst e1 e3
    have hcs' : cur.size = cap := by simpa using hcs
    have hcl : cur.toList.length = cap := by simpa using hcs'
    have hsrc := row_cells (w := w) (a := some ⟨b, o, none⟩) (l := k) (.inr ⟨b, o, rfl, hr⟩) _ rfl
    have hrun := run_copy_row (P := Try.prog) w 27 27 ty 5 g off dl dc ⟨b, o, none⟩ k.length c cur 5 (cellsB k) Try.underlying27 size_b hg (by rw [cellsB_length]; exact (Nat.min_eq_left hm).symm) hsrc (by rw [cellsB_length]; omega) (cellsB_one k)
    rw [cellsB_length] at hrun
    refine ⟨_, hrun, own_iff.2 ?_, ⟨rfl, rfl, rfl, by simp [World.setRow], fun i _ hi => setRow_other w g i _ (fun e => hi (by rw [e]))⟩⟩
    have hll := lay_length (L := L) (k := k) (off := off) (by omega)
    rw [hll]
    refine ⟨by rw [cellsB_length, hll, Nat.mul_one], .inr ⟨g, cap, _, rfl, hbg, setRow_heap w g _ _ _ _ hg, hnc, hcm, ?_, ?_⟩⟩
    · simp only [List.size_toArray, List.length_append, List.length_take, List.length_drop, cellsB_length, hcl]; omega
    · have ht : cur.toList.take L.length = cellsB L := by simpa using htake
      apply List.ext_getElem?
      intro i
      have hL : ∀ j, j < L.length → cur.toList[j]? = (cellsB L)[j]? := fun j hj => by rw [← ht, List.getElem?_take_of_lt hj]
      rw [Nat.mul_one]
      by_cases hi : i < L.length
      · rw [List.getElem?_take_of_lt hi]
        show ((cur.toList.take off ++ cellsB k) ++ cur.toList.drop (off + k.length))[i]? = (cellsB (L.take off ++ k ++ L.drop (off + k.length)))[i]?
        have e : cellsB (L.take off ++ k ++ L.drop (off + k.length)) = (cellsB L).take off ++ cellsB k ++ (cellsB L).drop (off + (cellsB k).length) := by
          rw [cellsB_append, cellsB_append, cellsB_length]; simp only [cellsB, List.map_take, List.map_drop]
        have e2 := lay_at (A := cur.toList) (k := cellsB k) (off := off) (by rw [cellsB_length]; omega) i
        have e3 := lay_at (A := cellsB L) (k := cellsB k) (off := off) (by rw [cellsB_length, cellsB_length]; omega) i
        rw [cellsB_length] at e2
        rw [e, e3, e2, hL i hi, cellsB_length]
      · rw [List.getElem?_eq_none (by rw [List.length_take]; omega), List.getElem?_eq_none (by rw [cellsB_length, hll]; omega)]
theorem copy_b {w : World} {ops : Array Oper} {rest : List Oper} {o : Oper} {A : Act} {Q : Exit → Act → World → Prop} (hgd : o.guard = none) (d s : Operand)
    (ho : o.op = .call { callee := .builtin .copy, args := #[d, s], argTypes := #[27, 27] })
    (base g n cap : Nat) (L : List UInt8) (hown : OwnB w base (.slice (some ⟨g, 0, none⟩) n cap) L) (hn : L.length = n) (off dl dc : Nat) (hd : A.eval d = .slice (some ⟨g, off, none⟩) dl dc)
    (ad : Option Addr) (m c : Nat) (k : List UInt8) (hx : A.eval s = .slice ad m c) (hk : k.length = m) (hrow : RowB w ad k) (hm : m ≤ dl) (hfit : off + m ≤ n)
    (h : ∀ w', OwnB w' base (.slice (some ⟨g, 0, none⟩) n cap) (lay L off k) → w.grownBy w' (some g) → wpList Try.prog ops Q rest (A.put o.dst (.int .i64 (m : Nat))) w') : wpList Try.prog ops Q (o :: rest) A w := by
  refine wpList_plain hgd fun K hK => ?_
  obtain ⟨w', hrun, h1, h2⟩ := run_copy_b (ty := o.type) (dl := dl) (dc := dc) (c := c) hown hn hk hrow hm hfit
  unfold Oper.wp
  simp [execOp, ho, resolve, invoke, builtin, hd, hx, hrun, Result.andThen]
  exact hK _ _ (h w' h1 h2)
/-- What is behind place m of bytes in memory. -/
theorem row_from {w : World} {b o : Nat} {l : List UInt8} (h : RowB w (some ⟨b, o, none⟩) l) (m : Nat) : RowB w (some ⟨b, o + m, none⟩) (l.drop m) := by
  have := row_drop h m
  rw [Nat.mul_one] at this; exact this
theorem run_from (g n m c : Nat) (h1 : m ≤ n) (h2 : n ≤ c) (h3 : m < c) (w : World) : (Instr.sliceAt 27 (.slice (some ⟨g, 0, none⟩) n c) (some (.int .i64 (m : Nat))) none none).run Try.prog w = .ok (.slice (some ⟨g, m, none⟩) (n - m) (c - m)) w := by
  simp [go_sem]
  rw [if_pos (show m ≤ n by omega), if_neg (show ¬ c = m by omega)]
theorem lay_zeros (A k : List UInt8) (m : Nat) (off : Nat) (h : A.length = off) : lay (A ++ List.replicate m 0) off k = (A ++ k) ++ List.replicate (m - k.length) 0 := by
  subst h
  unfold lay
  rw [List.take_left, List.drop_append, List.drop_of_length_le (by omega), List.nil_append, List.drop_replicate, show A.length + k.length - A.length = k.length by omega]
end Go.Proofs.Ytdgfoldobofgoaa.Oct
/- Check: sums as values, bit by bit. -/
namespace Go.Proofs.Ytdgfoldobofgoaa.Chk
open Go.RowKit
open Go.Sort
open Kit
open Oct
set_option linter.unusedVariables false

/-- A sum. -/
abbrev uv (s : BitVec 32) : Value := .int .u32 (s.toNat : Int)

theorem take_bits (s : BitVec 32) (b : UInt8) (j : Nat) (h : j < 8) : bitsZ s ((bitsOf b).take (j + 1)) = bitZ (bitsZ s ((bitsOf b).take j)) (b.toNat.testBit (7 - j)) := by
  have e : (bitsOf b).take (j + 1) = (bitsOf b).take j ++ [b.toNat.testBit (7 - j)] := by
    have hl : j < (bitsOf b).length := by rw [bitsOf_length]; exact h
    rw [List.take_succ_eq_append_getElem hl]
    have := bitsOf_at b j h
    rw [List.getElem?_eq_getElem hl] at this
    injection this with this
    rw [this]
  rw [e, bitsZ_append]
  rfl

theorem bit_one (y : UInt8) (r : Nat) : Go.bits .and .u32 ((y.toNat : Int) / 2 ^ r % 4294967296) 1 = (((y.toNat.testBit r).toNat : Nat) : Int) := by
  have e : ((y.toNat : Int) / 2 ^ r % 4294967296) = ((y.toNat / 2 ^ r % 4294967296 : Nat) : Int) := by
    rw [Int.natCast_emod, Int.natCast_ediv, Int.natCast_pow]; rfl
  rw [e, show (1 : Int) = ((1 : Nat) : Int) from rfl, u32_and_nat _ _ (Nat.mod_lt _ (by decide)) (by decide), nat_mask1, Nat.mod_mod_of_dvd _ (by decide), Nat.testBit_eq_decide_div_mod_eq]
  rcases Nat.mod_two_eq_zero_or_one (y.toNat / 2 ^ r) with h | h <;> rw [h] <;> rfl
theorem xor_poly (z : BitVec 32) : Go.bits .xor .u32 ((z.toNat : Int) * 2 % 4294967296) 79764919 = ((z.toNat * 2 % 4294967296 ^^^ polyN : Nat) : Int) := by
  have e : ((z.toNat : Int) * 2 % 4294967296) = ((z.toNat * 2 % 4294967296 : Nat) : Int) := by omega
  rw [e, show (79764919 : Int) = ((79764919 : Nat) : Int) from rfl, u32_xor_nat _ _ (Nat.mod_lt _ (by decide)) (by decide)]
  rfl
theorem bit_ne {z : BitVec 32} {y : UInt8} {r : Nat} (h : ((z.toNat : Int) / 2147483648 != Go.bits .and .u32 ((y.toNat : Int) / 2 ^ r % 4294967296) 1) = true) : Go.bits .xor .u32 ((z.toNat : Int) * 2 % 4294967296) 79764919 = ((bitZ z (y.toNat.testBit r)).toNat : Int) := by
  rw [bit_one, bne_iff_ne] at h
  rw [xor_poly, bitZ_toNat, bitN, if_neg (by omega)]
theorem bit_eq {z : BitVec 32} {y : UInt8} {r : Nat} (h : ((z.toNat : Int) / 2147483648 != Go.bits .and .u32 ((y.toNat : Int) / 2 ^ r % 4294967296) 1) = false) : (z.toNat : Int) * 2 % 4294967296 = ((bitZ z (y.toNat.testBit r)).toNat : Int) := by
  rw [bit_one, bne_eq_false_iff_eq] at h
  rw [bitZ_toNat, bitN, if_pos (by omega)]
  omega

/-- The sum of bytes. -/
def sumB (l : List UInt8) : BitVec 32 := crc 0xffffffff#32 l
end Go.Proofs.Ytdgfoldobofgoaa.Chk
/- Check: the program's own sums, by a table that jumps make. -/
namespace Go.Proofs.Ytdgfoldobofgoaa.Chk
open Go.RowKit
open Go.Sort
open Kit
open Oct
open Scp
set_option linter.unusedVariables false

theorem Z_toNat (z : BitVec 32) : (Z z).toNat = if z.toNat / 2147483648 = 1 then z.toNat * 2 % 4294967296 ^^^ polyN else z.toNat * 2 % 4294967296 := by
  have h := bitZ_toNat z false
  have e : bitZ z false = Z z := by unfold bitZ; rw [show hi1 false = 0#32 from rfl, BitVec.xor_zero]
  have hz := z.isLt
  rw [e] at h
  rw [h, bitN]
  by_cases h1 : z.toNat / 2147483648 = 1
  · rw [if_pos h1, if_neg (by rw [h1]; decide)]
  · rw [if_neg h1, if_pos (by show _ = 0; omega)]

set_option maxHeartbeats 1000000 in
theorem doubled_any (z : BitVec 32) (w : World) : Calls Try.prog 70 #[uv z] w fun e w' => e = .returned (uv (Z z)) ∧ w = w' := by
  have hz := z.isLt
  have hn := Z_toNat z
  have hx := xor_poly z
  by_cases h1 : z.toNat / 2147483648 = 1
  · rw [if_pos h1] at hn
    have HN := Lib.hid (hx.trans (congrArg (fun n : Nat => (n : Int)) hn.symm))
    have hd : ((z.toNat : Int) / 2147483648 == 1) = true := by rw [beq_iff_eq]; omega
    clear hn hx h1
    go_enter Try.func70, Try.ntmps70
    go_wp2
    go_ret
    exact ⟨ret_int HN.out, rfl⟩
  · rw [if_neg h1] at hn
    have HN : Hid ((z.toNat : Int) * 2 % 4294967296 = ((Z z).toNat : Int)) := Lib.hid (by omega)
    have hd : ((z.toNat : Int) / 2147483648 == 1) = false := by rw [beq_eq_false_iff_ne]; omega
    clear hn hx h1
    go_enter Try.func70, Try.ntmps70
    go_wp2
    go_ret
    exact ⟨ret_int HN.out, rfl⟩

/-- 16 sums in a block. -/
def row (f : Nat → BitVec 32) : List Value := (List.range 16).map fun j => uv (f j)
abbrev BlkT (w : World) (b : Nat) (f : Nat → BitVec 32) : Prop := Arr.Blk w b 101 (row f)
theorem row_at (f : Nat → BitVec 32) (j : Nat) (h : j < 16) : (row f)[j]? = some (uv (f j)) := by
  unfold row; rw [List.getElem?_map, List.getElem?_range h]; rfl
theorem row_set (f g : Nat → BitVec 32) (i : Nat) (s : BitVec 32) (h : ∀ j, j < 16 → g j = if j = i then s else f j) : (row f).set i (uv s) = row g := by
  apply List.ext_getElem?
  intro j
  by_cases hj : j < 16
  · rw [row_at g j hj, h j hj, List.getElem?_set]
    by_cases he : i = j
    · subst he
      rw [if_pos rfl, if_pos rfl, if_pos (by simp [row]; exact hj)]
    · rw [if_neg he, row_at f j hj, if_neg (fun e => he e.symm)]
  · rw [List.getElem?_eq_none (by simp [row]; omega), List.getElem?_eq_none (by simp [row]; omega)]
/-- What half a byte leaves. -/
def nib (j : Nat) : BitVec 32 := Zn 4 (BitVec.ofNat 32 j <<< 28)
/-- The table, made up to a piece, and there up to a bit. -/
def part (piece bit : Nat) (j : Nat) : BitVec 32 := if j < piece then nib j else if j = piece then Zn bit (BitVec.ofNat 32 j <<< 28) else 0#32
def upto (piece : Nat) (j : Nat) : BitVec 32 := if j < piece then nib j else 0#32
theorem Zn_succ (n : Nat) : ∀ x, Zn (n + 1) x = Z (Zn n x) := by
  induction n with
  | zero => intro x; rfl
  | succ n ih => intro x; exact ih (Z x)

def AtNext (w : World) (a' : Act) (w' : World) : Prop :=
  ∃ (piece : Nat) (bit u4 u5 u6 u7 u8 u9 u10 u11 u12 u13 u14 u15 u16 u17 u18 u19 u20 u21 u22 u23 : Value), a' = { tmps := #[.pointer (some ⟨w.heap.size, 0, none⟩), .pointer (some ⟨w.heap.size + 1, 0, none⟩), .int .i64 piece, bit, u4, u5, u6, u7, u8, u9, u10, u11, u12, u13, u14, u15, u16, u17, u18, u19, u20, u21, u22, u23], defers := [] } ∧
    piece ≤ 16 ∧ Below w.heap.size w w' ∧ BlkT w' w.heap.size (fun _ => 0#32) ∧ BlkT w' (w.heap.size + 1) (upto piece)
def AtDouble (w : World) (a' : Act) (w' : World) : Prop :=
  ∃ (piece bit : Nat) (u4 u5 u6 u7 u8 u9 u10 u11 u12 u13 u14 u15 u16 u17 u18 u19 u20 u21 u22 u23 : Value), a' = { tmps := #[.pointer (some ⟨w.heap.size, 0, none⟩), .pointer (some ⟨w.heap.size + 1, 0, none⟩), .int .i64 piece, .int .i64 bit, u4, u5, u6, u7, u8, u9, u10, u11, u12, u13, u14, u15, u16, u17, u18, u19, u20, u21, u22, u23], defers := [] } ∧
    piece < 16 ∧ bit ≤ 4 ∧ Below w.heap.size w w' ∧ BlkT w' w.heap.size (fun _ => 0#32) ∧ BlkT w' (w.heap.size + 1) (part piece bit)
def pieceOf (a : Act) : Nat := (intOf (a.tmps.getD 2 undef)).toNat
def bitOf (a : Act) : Nat := (intOf (a.tmps.getD 3 undef)).toNat

def table : Value := .agg (row nib).toArray

set_option maxRecDepth 100000 in
set_option maxHeartbeats 4000000 in
theorem madeTable_any (w : World) : Calls Try.prog 65 #[] w fun e w' => e = .returned table ∧ Below w.heap.size w w' := by
  go_enter Try.func65, Try.ntmps65
  go_wp2
  refine wp_falls (AtNext w) (AtDouble w) (fun a _ => 8 * (16 - pieceOf a)) (fun a _ => 8 * (16 - pieceOf a) - 1 - bitOf a) rfl rfl ?_ ?_ ?_
  · rintro a' w' ⟨piece, bit, u4, u5, u6, u7, u8, u9, u10, u11, u12, u13, u14, u15, u16, u17, u18, u19, u20, u21, u22, u23, rfl, h1, h2, hb, hR, hT⟩
    have h6 : pieceOf { tmps := #[.pointer (some ⟨w.heap.size, 0, none⟩), .pointer (some ⟨w.heap.size + 1, 0, none⟩), .int .i64 piece, .int .i64 bit, u4, u5, u6, u7, u8, u9, u10, u11, u12, u13, u14, u15, u16, u17, u18, u19, u20, u21, u22, u23], defers := [] } = piece := by simp [pieceOf, intOf]
    have h7 : bitOf { tmps := #[.pointer (some ⟨w.heap.size, 0, none⟩), .pointer (some ⟨w.heap.size + 1, 0, none⟩), .int .i64 piece, .int .i64 bit, u4, u5, u6, u7, u8, u9, u10, u11, u12, u13, u14, u15, u16, u17, u18, u19, u20, u21, u22, u23], defers := [] } = bit := by simp [bitOf, intOf]
    rw [h6, h7]
    clear h6 h7
    have HB := Lib.hid hb
    have HR := Lib.hid hR
    have HT := Lib.hid hT
    clear hb hR
    by_cases hlt : bit < 4
    · have c0 := Arr.blk_cell hT piece
      have f0 := Arr.blk_frozen hT piece
      rw [row_at _ _ h1, show part piece bit piece = Zn bit (BitVec.ofNat 32 piece <<< 28) by unfold part; rw [if_neg (by omega), if_pos rfl]] at c0
      have HE := Lib.hid (row_set (part piece bit) (part piece (bit + 1)) piece (Z (Zn bit (BitVec.ofNat 32 piece <<< 28))) (by
        intro j _
        unfold part
        by_cases hj : j < piece
        · rw [if_pos hj, if_neg (by omega), if_pos hj]
        · by_cases he : j = piece
          · rw [if_neg hj, if_pos he, if_pos he, Zn_succ, he]
          · rw [if_neg hj, if_neg he, if_neg he, if_neg hj, if_neg he]))
      generalize hz : Zn bit (BitVec.ofNat 32 piece <<< 28) = z at *
      clear hT hz
      go_wp2_with fail
      refine (doubled_any z _).mono ?_
      rintro e w1 ⟨rfl, rfl⟩
      go_wp2
      go_step3
      refine .inr ⟨rfl, ⟨piece, bit + 1, _, _, _, _, _, _, _, _, _, _, _, _, _, _, _, _, _, _, _, _, rfl, h1, by omega, Arr.below_set HB.out (by omega) _ _, Arr.blk_set_far HR.out (by omega) _ _, by rw [BlkT, ← HE.out]; exact Arr.blk_set HT.out _ _⟩, ?_⟩
      simp only [pieceOf, bitOf, intOf]
      simp
      omega
    · obtain rfl : bit = 4 := by omega
      have HE : Hid (part piece 4 = upto (piece + 1)) := Lib.hid (by
        funext j
        unfold part upto
        by_cases hj : j < piece
        · rw [if_pos hj, if_pos (by omega)]
        · by_cases he : j = piece
          · rw [if_neg hj, if_pos he, if_pos (by omega)]; rfl
          · rw [if_neg hj, if_neg he, if_neg (by omega)])
      clear hT
      go_wp2
      go_step3
      refine .inl ⟨rfl, ⟨piece + 1, _, _, _, _, _, _, _, _, _, _, _, _, _, _, _, _, _, _, _, _, _, rfl, by omega, HB.out, HR.out, by rw [← HE.out]; exact HT.out⟩, ?_⟩
      simp only [pieceOf, intOf]
      simp
      omega
  · intro hp1
    rintro a' w' ⟨piece, bit, u4, u5, u6, u7, u8, u9, u10, u11, u12, u13, u14, u15, u16, u17, u18, u19, u20, u21, u22, u23, rfl, h1, hb, hR, hT⟩
    have HP := Lib.hid hp1
    have HB := Lib.hid hb
    have HR := Lib.hid hR
    have HT := Lib.hid hT
    clear hb hR hp1
    by_cases hlt : piece < 16
    · have c0 := Arr.blk_cell hT piece
      have f0 := Arr.blk_frozen hT piece
      rw [row_at _ _ hlt] at c0
      clear hT
      have HE := Lib.hid (row_set (upto piece) (part piece 0) piece (BitVec.ofNat 32 piece <<< 28) (by
        intro j _
        unfold part upto
        by_cases hj : j < piece
        · rw [if_pos hj, if_neg (by omega), if_pos hj]
        · by_cases he : j = piece
          · rw [if_neg hj, if_pos he, if_pos he, he]; rfl
          · rw [if_neg hj, if_neg he, if_neg he, if_neg hj]))
      have hv : (BitVec.ofNat 32 piece <<< 28).toNat = piece * 268435456 := by
        rw [BitVec.toNat_shiftLeft, BitVec.toNat_ofNat, Nat.shiftLeft_eq]; omega
      have HV : Hid (Value.int IntKind.u32 ((piece : Int) * 268435456) = uv (BitVec.ofNat 32 piece <<< 28)) := Lib.hid (by
        show Value.int IntKind.u32 _ = Value.int IntKind.u32 _
        rw [hv]; congr 1)
      clear hv
      go_wp2
      go_step3
      rename_i hK
      refine hK _ _ (HP.out _ _ _ ?_ ?_)
      · exact ⟨piece, 0, _, _, _, _, _, _, _, _, _, _, _, _, _, _, _, _, _, _, _, _, rfl, hlt, by omega, Arr.below_set HB.out (by omega) _ _, Arr.blk_set_far HR.out (by omega) _ _, by rw [BlkT, HV.out, ← HE.out]; exact Arr.blk_set HT.out _ _⟩
      · simp only [pieceOf, bitOf, intOf]
        simp
    · obtain rfl : piece = 16 := by omega
      have HN : Hid (Arr.Blk w' (w.heap.size + 1) 101 (row nib)) := Lib.hid (by
        rw [← show row (upto 16) = row nib from by
          unfold row
          apply List.map_congr_left
          intro j hj
          have := List.mem_range.1 hj
          unfold upto; rw [if_pos this]]
        exact HT.out)
      have HO : Hid (Arr.Blk w' w.heap.size 101 (row fun _ => 0#32)) := Lib.hid HR.out
      have hi : ∀ f : Nat → BitVec 32, (Try.prog.info? 101).map (·.size) = some (row f).toArray.size := fun f => by
        rw [show (row f).toArray.size = 16 from rfl]; kernel_rfl
      have h1c : ∀ f : Nat → BitVec 32, (row f).toArray.all (·.oneCell') = true := fun f => by
        simp only [row, List.all_toArray, List.all_map, List.all_eq_true]
        intro j _; rfl
      have HF := Lib.hid (And.intro hi h1c)
      clear hT HT HR hi h1c
      go_wp2_with (first
        | (refine wpList_load_row rfl 101 (.tmp 1) rfl (w.heap.size + 1) rfl 101 (row nib).toArray (0, 0) _ HN.out Try.underlying101 rfl (HF.out.1 _) ?_)
        | (refine wpList_store_row rfl 101 (.tmp 0) (.tmp 6) rfl w.heap.size (row nib).toArray rfl rfl 101 _ HO.out (HF.out.1 _) rfl (HF.out.2 _) ?_))
      simp only [jumps_ret]
      refine bodyPost_ret (results_cell_row rfl _ _ w.heap.size 101 (row nib).toArray (0, 0) _ rfl (Arr.blk_row HO.out _) Try.underlying101 rfl (HF.out.1 _)) rfl ?_
      exact ⟨rfl, Arr.below_row HB.out (by omega) _⟩
  · intro hp0
    have HP := Lib.hid hp0
    clear hp0
    go_wp2
    go_step3
    rename_i hK
    refine hK _ _ (HP.out _ _ ?_)
    exact ⟨0, _, _, _, _, _, _, _, _, _, _, _, _, _, _, _, _, _, _, _, _, _, rfl, by omega, (below_alloc w _).alloc (by simp) _, Arr.blk_alloc (Arr.blk_new w _ _ (row fun _ => 0#32) rfl) _, Arr.blk_new _ _ _ (row (upto 0)) (by simp)⟩

/-- Half a byte at once. -/
theorem nib_step (s : BitVec 32) : (s <<< 4) ^^^ nib (s.toNat / 268435456) = Zn 4 s := by
  have e : s = (s >>> 28 <<< 28) ^^^ (s &&& 0xFFFFFFF#32) := by
    apply BitVec.eq_of_getLsbD_eq
    intro i hi
    have hc : (0xFFFFFFF#32 : BitVec 32).getLsbD i = decide (i < 28) := by
      have : ∀ i : Fin 32, (0xFFFFFFF#32 : BitVec 32).getLsbD i.val = decide (i.val < 28) := by decide
      exact this ⟨i, hi⟩
    simp only [BitVec.getLsbD_xor, BitVec.getLsbD_shiftLeft, BitVec.getLsbD_ushiftRight, BitVec.getLsbD_and, hc]
    by_cases h : i < 28
    · simp [h]
    · simp [h, hi, show 28 + (i - 28) = i by omega]
  have hc : ∀ i, i < 32 → (0xFFFFFFF#32 : BitVec 32).getLsbD i = decide (i < 28) := by
    intro i hi
    have : ∀ i : Fin 32, (0xFFFFFFF#32 : BitVec 32).getLsbD i.val = decide (i.val < 28) := by decide
    exact this ⟨i, hi⟩
  have e2 : Zn 4 (s &&& 0xFFFFFFF#32) = s <<< 4 := by
    rw [Zn_shl 4]
    · apply BitVec.eq_of_getLsbD_eq
      intro i hi
      rw [BitVec.getLsbD_shiftLeft, BitVec.getLsbD_shiftLeft, BitVec.getLsbD_and]
      by_cases h4 : i < 4
      · simp [h4]
      · rw [hc _ (by omega)]
        simp [h4, show i - 4 < 28 by omega]
    · intro i hi
      rw [BitVec.getLsbD_and]
      by_cases h32 : i < 32
      · rw [hc i h32, decide_eq_false (by omega), Bool.and_false]
      · rw [BitVec.getLsbD_of_ge _ _ (by omega)]; rfl
  have e3 : BitVec.ofNat 32 (s.toNat / 268435456) = s >>> 28 := by
    apply BitVec.eq_of_toNat_eq
    have := s.isLt
    rw [BitVec.toNat_ofNat, BitVec.toNat_ushiftRight, Nat.shiftRight_eq_div_pow]
    omega
  conv => rhs; rw [e]
  rw [Zn_xor, e2]
  unfold nib
  rw [e3, BitVec.xor_comm]
theorem Zn_add (m n : Nat) (x : BitVec 32) : Zn (m + n) x = Zn n (Zn m x) := by
  induction m generalizing x with
  | zero => rw [Nat.zero_add]; rfl
  | succ m ih => rw [show m + 1 + n = (m + n) + 1 by omega]; exact ih (Z x)
theorem byte_xor (s : BitVec 32) (b : UInt8) : bitsZ s (bitsOf b) = Zn 8 (s ^^^ (wide b <<< 24)) := by
  rw [bitsZ_top _ _ (by rw [bitsOf_length]; omega), bitsOf_length, top_bitsOf]

theorem xor_uv (a b : BitVec 32) (x y : Int) (hx : x = (a.toNat : Int)) (hy : y = (b.toNat : Int)) : Value.int IntKind.u32 (Go.bits .xor .u32 x y) = uv (a ^^^ b) := by
  subst hx hy
  show Value.int IntKind.u32 _ = Value.int IntKind.u32 _
  rw [u32_xor_nat _ _ a.isLt b.isLt, BitVec.toNat_xor]
theorem xor_first (x : BitVec 32) (y : UInt8) : Value.int IntKind.u32 (Go.bits .xor .u32 (x.toNat : Int) ((y.toNat : Int) % 4294967296 * 16777216 % 4294967296)) = uv (Zn (4 * 0) (x ^^^ (wide y <<< 24))) := by
  have hy := y.toNat_lt
  refine xor_uv x (wide y <<< 24) _ _ rfl ?_
  rw [BitVec.toNat_shiftLeft, wide, BitVec.toNat_ofNat, Nat.shiftLeft_eq]
  omega
theorem xor_nib (z nb t : BitVec 32) (h : z <<< 4 ^^^ nb = t) : Value.int IntKind.u32 (Go.bits .xor .u32 ((z.toNat : Int) * 16 % 4294967296) (nb.toNat : Int)) = uv t := by
  rw [← h]
  refine xor_uv (z <<< 4) nb _ _ ?_ rfl
  rw [BitVec.toNat_shiftLeft, Nat.shiftLeft_eq]
  omega

set_option maxHeartbeats 4000000 in
theorem from_any (s : BitVec 32) (a : Option Addr) (len cap : Nat) (l : List UInt8) (w : World) (hl : l.length = len) (hm : len ≤ 4000) (hE : RowB w a l) :
    Calls Try.prog 54 #[uv s, .slice a len cap] w fun e w' => e = .returned (uv (crc s l)) ∧ Below w.heap.size w w' := by
  have HL := Lib.hid hl
  clear hl
  have hi : (Try.prog.info? 101).map (·.size) = some (row nib).length := by
    rw [show (row nib).length = 16 from rfl]; kernel_rfl
  have h1c : (row nib).all (·.oneCell') = true := by
    simp only [row, List.all_map, List.all_eq_true]
    intro j _; rfl
  have HF := Lib.hid (And.intro hi h1c)
  clear hi h1c
  go_enter Try.func54, Try.ntmps54
  go_wp2_with fail
  refine (madeTable_any w).mono ?_
  rintro e w1 ⟨rfl, hb⟩
  have HE := Lib.hid (row_keep encB_len hE hb)
  have HB := Lib.hid hb
  have hsz := hb.size
  clear hb hE
  go_wp2_with (refine Arr.wpList_store_blk rfl 101 (.tmp 5) (.tmp 8) rfl w1.heap.size (row nib) rfl rfl (row fun _ => 0#32) 101 (Arr.blk_new w1 _ _ (row fun _ => 0#32) rfl) HF.out.1 rfl HF.out.2 w1.heap.size (Nat.le_refl _) ?_; intro w2 hT hb)
  have HB2 := Lib.hid (below_keep HB.out ((below_alloc w1 _).trans hb))
  have HE2 := Lib.hid (row_keep encB_len HE.out ((below_alloc w1 _).trans hb))
  have HT := Lib.hid hT
  clear hT hb HB HE HF
  go_wp2
  go_loop [0, 11] (fun v i => ∃ k : Nat, k ≤ len ∧ i = .int .i64 k ∧ v = uv (crc s (l.take k))) (fun _ i => len - (intOf i).toNat)
  case atStart => exact ⟨0, Nat.zero_le _, rfl, rfl⟩
  case round =>
    obtain ⟨k, hk, rfl, rfl⟩ := hrel
    by_cases hlt : k < len
    · have hkl : k < l.length := by rw [HL.out]; exact hlt
      obtain ⟨b, off, HA⟩ := row_some HE2.out (by omega)
      have ha := HA.out
      subst ha
      have c0 := row_cell HE2.out hkl rfl (i := 0) (by omega)
      have HS : Hid (crc s (l.take (k + 1)) = bitsZ (crc s (l.take k)) (bitsOf l[k])) := by
        exact Lib.hid (by rw [List.take_succ_eq_append_getElem hkl, crc_snoc])
      simp only [encB, Nat.mul_one, Nat.add_zero, List.getElem?_cons_zero] at c0
      generalize hx : crc s (l.take k) = x at *
      generalize hy : l[k] = y at *
      clear hx hy
      go_wp2
      go_loop [0, 20] (fun v i => ∃ j : Nat, j ≤ 2 ∧ i = .int .i64 j ∧ v = uv (Zn (4 * j) (x ^^^ (wide y <<< 24)))) (fun _ i => 2 - (intOf i).toNat)
      case atStart => exact ⟨0, Nat.zero_le _, rfl, xor_first x y⟩
      case round =>
        obtain ⟨j, hj, rfl, rfl⟩ := hrel
        by_cases hj2 : j < 2
        · have hn := nib_step (Zn (4 * j) (x ^^^ (wide y <<< 24)))
          rw [← Zn_add] at hn
          generalize hz : Zn (4 * j) (x ^^^ (wide y <<< 24)) = z at *
          clear hz
          have hz : z.toNat < 4294967296 := z.isLt
          have t0 := Arr.blk_cell HT.out (z.toNat / 268435456)
          rw [row_at _ _ (by omega)] at t0
          generalize hnb : nib (z.toNat / 268435456) = nb at *
          have HN := Lib.hid hn
          clear hn hnb
          have HX := Lib.hid (xor_nib z nb _ HN.out)
          go_wp2
          go_round
          case rel => exact ⟨j + 1, by omega, by go_num, HX.out⟩
          case measure => simp [intOf]; omega
        · obtain rfl : j = 2 := by omega
          have HX := Lib.hid (HS.out.trans (byte_xor x y))
          go_wp2
          go_round
          case rel => exact ⟨k + 1, by omega, by go_num, congrArg uv HX.out.symm⟩
          case measure => simp [intOf]; omega
    · obtain rfl : k = len := by omega
      have e : l.take k = l := by rw [← HL.out, List.take_length]
      have HQ := Lib.hid (congrArg (crc s) e)
      clear e
      go_wp2
      go_ret
      exact ⟨congrArg (fun z => Ending.returned (uv z)) HQ.out, HB2.out⟩

set_option maxHeartbeats 1000000 in
theorem start_any (w : World) : Calls Try.prog 66 #[] w fun e w' => e = .returned (.int .u32 4294967295) ∧ w = w' := by
  go_enter Try.func66, Try.ntmps66
  go_wp2
  go_ret
  exact ⟨rfl, rfl⟩

end Go.Proofs.Ytdgfoldobofgoaa.Chk
/- Check: the landed Of. -/
namespace Go.Proofs.Ytdgfoldobofgoaa.Chk
open Go.RowKit
open Go.Sort
open Kit
open Oct
open Scp
set_option linter.unusedVariables false

set_option maxHeartbeats 1000000 in
theorem of_any (a : Option Addr) (len cap : Nat) (l : List UInt8) (w : World) (hl : l.length = len) (hm : len ≤ 4000) (hE : RowB w a l) :
    Calls Try.prog 55 #[.slice a len cap] w fun e w' => e = .returned (uv (sumB l)) ∧ Below w.heap.size w w' := by
  have HC := Lib.hid (from_any 0xffffffff#32 a len cap l w hl hm hE)
  clear hl hE
  go_enter Try.func55, Try.ntmps55
  go_wp2_with fail
  refine (start_any w).mono ?_
  rintro e w1 ⟨rfl, rfl⟩
  go_wp2_with fail
  refine HC.out.mono ?_
  rintro e w1 ⟨rfl, hb⟩
  go_wp2
  go_ret
  exact ⟨rfl, hb⟩
/-- With the sum as a value that is told. -/
theorem of_is (a : Option Addr) (len cap : Nat) (l : List UInt8) (s : BitVec 32) (w : World) (hl : l.length = len) (hm : len ≤ 4000) (hE : RowB w a l) (hs : sumB l = s) :
    Calls Try.prog 55 #[.slice a len cap] w fun e w' => e = .returned (uv s) ∧ Below w.heap.size w w' := by
  subst hs; exact of_any a len cap l w hl hm hE

end Go.Proofs.Ytdgfoldobofgoaa.Chk
/- Frame: the landed small calls: Sectors, the stamp, its halves, a number's lowest bytes. -/
namespace Go.Proofs.Ytdgfoldobofgoaa.Frm
open Go.RowKit
open Go.Sort
open Kit
open Oct
open Chk
set_option linter.unusedVariables false

set_option maxHeartbeats 1000000 in
theorem half_any (n : Int) (w : World) (hn : -9223372036854775808 ≤ n ∧ n ≤ 9223372036854775807) : Calls Try.prog 41 #[.int .i64 n] w fun e w' => e = .returned (.bool (decide (0 ≤ n ∧ n < 4294967296))) ∧ w = w' := by
  by_cases h0 : 0 ≤ n
  · by_cases h1 : n ≤ 4294967295
    · go_enter Try.func41, Try.ntmps41
      go_wp2
      go_ret
      exact ⟨ret_bool (by simp; omega), rfl⟩
    · go_enter Try.func41, Try.ntmps41
      go_wp2
      go_ret
      exact ⟨ret_bool (by simp; omega), rfl⟩
  · go_enter Try.func41, Try.ntmps41
    go_wp2
    go_ret
    exact ⟨ret_bool (by simp; omega), rfl⟩

set_option maxHeartbeats 1000000 in
theorem sectors_any (n : Int) (hn : -9223372036854775808 ≤ n ∧ n ≤ 9223372036854775807) (w : World) :
    Calls Try.prog 34 #[.int .i64 n] w fun e w' => e = .returned (.int .i64 (secsI n : Nat)) ∧ w = w' := by
  by_cases h0 : n < 0
  · have e : Hid (secsI n = 0) := Lib.hid (by unfold secsI; rw [if_pos (.inl h0)])
    go_enter Try.func34, Try.ntmps34
    go_wp2
    go_ret
    exact ⟨by rw [e.out]; rfl, rfl⟩
  · by_cases h1 : 65535 < n
    · have e : Hid (secsI n = 0) := Lib.hid (by unfold secsI; rw [if_pos (.inr h1)])
      go_enter Try.func34, Try.ntmps34
      go_wp2
      go_ret
      exact ⟨by rw [e.out]; rfl, rfl⟩
    · have e : Hid (((secsI n : Nat) : Int) = (n + 29) / 24) := Lib.hid (by unfold secsI secs; rw [if_neg (by omega)]; omega)
      go_enter Try.func34, Try.ntmps34
      go_wp2
      go_ret
      refine ⟨ret_int ?_, rfl⟩
      rw [e.out]
      first | rfl | (congr 1; omega) | omega

theorem sectors_is (n m : Nat) (hn : n ≤ 65535) (hm : secs n = m) (w : World) : Calls Try.prog 34 #[.int .i64 (n : Nat)] w fun e w' => e = .returned (.int .i64 (m : Nat)) ∧ w = w' := by
  subst hm
  have := sectors_any (n : Int) (by omega) w
  rwa [show secsI (n : Int) = secs n by unfold secsI; rw [if_neg (by omega)]; rfl] at this

theorem u8_eq (a b : Nat) (h : a % 256 = b % 256) : UInt8.ofNat a = UInt8.ofNat b := UInt8.toNat.inj (by rw [u8_of, u8_of, h])
theorem mark_be (e q : Nat) (hq : q < 4294967296) : beB 8 (e * 4294967296 + q) = mark e q := by
  simp only [mark, beB, List.cons_append, List.nil_append, Nat.reducePow]
  rw [u8_eq ((e * 4294967296 + q) / 72057594037927936) (e / 16777216) (by omega), u8_eq ((e * 4294967296 + q) / 281474976710656) (e / 65536) (by omega), u8_eq ((e * 4294967296 + q) / 1099511627776) (e / 256) (by omega), u8_eq ((e * 4294967296 + q) / 4294967296) (e / 1) (by omega),
    u8_eq ((e * 4294967296 + q) / 16777216) (q / 16777216) (by omega), u8_eq ((e * 4294967296 + q) / 65536) (q / 65536) (by omega), u8_eq ((e * 4294967296 + q) / 256) (q / 256) (by omega), u8_eq ((e * 4294967296 + q) / 1) (q / 1) (by omega)]
theorem or_stamp (e q : Nat) (he : e < 4294967296) (hq : q < 4294967296) : toU64 (Go.bits .or .i64 (wrap64 ((e : Int) * 4294967296)) (q : Int)) = e * 4294967296 + q := by
  have h : (BitVec.ofInt 64 (wrap64 ((e : Int) * 4294967296)) ||| BitVec.ofInt 64 (q : Int)).toNat = e * 4294967296 + q := by
    rw [BitVec.toNat_or, BitVec.toNat_ofInt, BitVec.toNat_ofInt, show (wrap64 ((e : Int) * 4294967296) % ((2 ^ 64 : Nat) : Int)).toNat = e * 4294967296 by unfold wrap64; omega, show ((q : Int) % ((2 ^ 64 : Nat) : Int)).toNat = q by omega]
    exact nat_join 32 _ _ (by omega) (by omega)
  show toU64 (IntKind.i64.wrap ((BitVec.ofInt 64 (wrap64 ((e : Int) * 4294967296)) ||| BitVec.ofInt 64 (q : Int)).toNat : Int)) = _
  rw [h, IntKind.wrap_i64]
  unfold toU64; omega
set_option maxHeartbeats 1000000 in
theorem stampOf_any (e q : Nat) (he : e < 4294967296) (hq : q < 4294967296) (w : World) :
    Calls Try.prog 42 #[.int .i64 (e : Nat), .int .i64 (q : Nat)] w fun e' w' => ∃ g cap, e' = .returned (.slice (some ⟨g, 0, none⟩) 8 cap) ∧ 8 ≤ cap ∧ cap ≤ maxLen ∧ RowB w' (some ⟨g, 0, none⟩) (mark e q) ∧ Below w.heap.size w w' := by
  go_enter Try.func42, Try.ntmps42
  go_wp2_with fail
  refine (int_is none 0 0 8 _ [] (mark e q) w rfl (fun _ => ⟨rfl, rfl⟩) (.inl rfl) (by omega) (by rw [or_stamp e q he hq, List.nil_append, mark_be e q hq]) (mark_length e q)).mono ?_
  rintro e' w1 ⟨g, c, rfl, h1, h2, h3, hb⟩
  go_wp2
  go_ret
  exact ⟨g, c, rfl, h1, h2, h3, hb⟩

theorem beB_drop (n k : Nat) : ∀ j, (beB (j + k) n).drop j = beB k n
  | 0 => by rw [Nat.zero_add, List.drop_zero]
  | j + 1 => by rw [show j + 1 + k = (j + k) + 1 by omega]; exact beB_drop n k j
theorem toU64_nat (n : Nat) (h : n < 18446744073709551616) : toU64 (n : Int) = n := by unfold toU64; omega
/-- A cut of bytes in memory. -/
def AtB (w : World) (v : Value) (n : Nat) (l : Bs) : Prop := ∃ b o c, v = .slice (some ⟨b, o, none⟩) n c ∧ n ≤ c ∧ c ≤ maxLen ∧ RowB w (some ⟨b, o, none⟩) l
set_option maxHeartbeats 1000000 in
theorem lowest_any (n k : Nat) (hn : n < 9223372036854775808) (hk : 1 ≤ k) (hk8 : k ≤ 8) (w : World) :
    Calls Try.prog 53 #[.int .i64 (n : Nat), .int .i64 (k : Nat)] w fun e' w' => ∃ v, e' = .returned v ∧ AtB w' v k (beB k n) ∧ Below w.heap.size w w' := by
  go_enter Try.func53, Try.ntmps53
  go_wp2_with fail
  refine (int_is none 0 0 8 _ [] (beB 8 n) w rfl (fun _ => ⟨rfl, rfl⟩) (.inl rfl) (by omega) (by rw [toU64_nat n (by omega), List.nil_append]) (beB_length _ _)).mono ?_
  rintro e' w1 ⟨g, c, rfl, h1, h2, h3, hb⟩
  have h4 := row_from h3 (8 - k)
  rw [show beB 8 n = beB ((8 - k) + k) n by rw [show 8 - k + k = 8 by omega], beB_drop, Nat.zero_add] at h4
  have H4 := Lib.hid h4
  unfold maxLen at h2
  clear h3 h4
  go_wp2
  go_ret
  exact ⟨_, rfl, ⟨g, 8 - k, c - (8 - k), by first | rfl | (simp; omega), by omega, by unfold maxLen; omega, H4.out⟩, hb⟩

set_option maxHeartbeats 1000000 in
theorem stampAt_any (b o len cap i : Nat) (l : Bs) (w : World) (hl : l.length = len) (hi : 32 * (i + 1) ≤ len) (hc : len ≤ cap) (hm : cap ≤ maxLen) (hE : RowB w (some ⟨b, o, none⟩) l) :
    Calls Try.prog 48 #[.slice (some ⟨b, o, none⟩) len cap, .int .i64 (i : Nat)] w fun e' w' => ∃ v, e' = .returned v ∧ AtB w v 8 (stampL l i) ∧ w = w' := by
  have h4 := row_take (row_from hE (32 * i + 24)) 8
  have H4 := Lib.hid (show RowB w (some ⟨b, o + (32 * i + 24), none⟩) (stampL l i) from h4)
  unfold maxLen at hm
  clear hE h4
  go_enter Try.func48, Try.ntmps48
  go_wp2
  go_ret
  exact ⟨_, rfl, ⟨b, o + (32 * i + 24), cap - (32 * i + 24), by first | rfl | (simp; omega), by omega, by unfold maxLen; omega, H4.out⟩, rfl⟩

end Go.Proofs.Ytdgfoldobofgoaa.Frm
/- Frame: the landed dataOf. -/
namespace Go.Proofs.Ytdgfoldobofgoaa.Frm
set_option maxRecDepth 100000
open Go.RowKit
open Go.Sort
open Kit
open Oct
open Chk
set_option linter.unusedVariables false

theorem run_cv_u32 (s : BitVec 32) (w : World) : (convert 89 3 (.int .u32 (s.toNat : Nat))).run Try.prog w = .ok (.int .i64 (s.toNat : Nat)) w := by
  have := s.isLt
  simp [go_sem]
  rw [IntKind.wrap_i64]; omega
def phiDat (w0 : World) (B g n c : Nat) (L : Bs) (s : Nat) : Nat → List Value → World → Prop
  | 0, _, w => w = w0.drew
  | 1, vs, w => ∃ v, vs = [v] ∧ AtB w v 4 (beB 4 s) ∧ Below w0.heap.size w0 w
  | _, _, w => OwnB w B (.slice (some ⟨g, 0, none⟩) n c) (lay L 2 (beB 4 s)) ∧ Below B w0 w
theorem dataP_lay (st b : Bs) (n : Nat) (hn : n = 24 * secs b.length) : lay (lay (lay (List.replicate n 0) 0 (beB 2 b.length)) 2 (beB 4 (crc 0xffffffff#32 (st ++ beB 2 b.length ++ b)).toNat)) 6 b = dataP st b := by
  have h := lay_zeros [] (beB 2 b.length) n 0 rfl
  rw [List.nil_append, List.nil_append] at h
  rw [h, lay_zeros _ _ _ 2 (beB_length 2 _), lay_zeros _ _ _ 6 (by rw [List.length_append, beB_length, beB_length])]
  unfold dataP rawD
  rw [beB_length, beB_length, show n - 2 - 4 - b.length = 24 * secs b.length - (b.length + 6) by omega]
theorem run_mk_b (n : Nat) (hn : n ≤ 1000000) (w : World) : (Instr.makeSlice 27 (.int .i64 (n : Int)) (.int .i64 (n : Int))).run Try.prog w = .ok (.slice (some ⟨w.heap.size, 0, none⟩) n n) (w.alloc (.cells (madeCells #[.int .u8 0] n) 5)) := run_make_b n n rfl hn w

set_option maxHeartbeats 4000000 in
theorem dataOf_any (sv : Value) (st : Bs) (aa : Option Addr) (len cap : Nat) (l : Bs) (w : World) (hs : AtB w sv 8 st) (hst : st.length = 8) (h : Arg w aa len cap l) (hm : len ≤ 3000) :
    Calls Try.prog 44 #[sv, .slice aa len cap] w fun e w' => ∃ g c, e = .returned (.slice (some ⟨g, 0, none⟩) (24 * secs len) c) ∧ OwnB w' w.heap.size (.slice (some ⟨g, 0, none⟩) (24 * secs len) c) (dataP st l) ∧ Below w.heap.size w w' := by
  obtain ⟨sb, so, sc, rfl, hs1, hs2, hs3⟩ := hs
  have HA := Lib.hid h
  have HS := Lib.hid (And.intro hs3 hst)
  have hcl := h.cap
  have hcm := h.max
  have hll := h.len
  unfold maxLen at hs2 hcm
  clear h hs3 hst
  go_enter Try.func44, Try.ntmps44
  go_wp2_with fail
  refine (lowest_any len 2 (by omega) (by omega) (by omega) w).mono ?_
  rintro e1 w1 ⟨v2, rfl, ⟨b2, o2, c2, rfl, h21, h22, h23⟩, hb1⟩
  have H2 := Lib.hid h23
  have HB1 := Lib.hid hb1
  unfold maxLen at h22
  clear h23 hb1
  go_wp2_with fail
  refine (of_is (some ⟨sb, so, none⟩) 8 sc st (crc 0xffffffff#32 st) w1 HS.out.2 (by omega) (row_keep encB_len HS.out.1 HB1.out) rfl).mono ?_
  rintro e2 w2 ⟨rfl, hb2⟩
  have HB2 := Lib.hid (below_keep HB1.out hb2)
  have H22 := Lib.hid (row_keep encB_len H2.out hb2)
  clear hb2
  generalize hx1 : crc 0xffffffff#32 st = x1 at *
  go_wp2_with fail
  refine (from_any x1 (some ⟨b2, o2, none⟩) 2 c2 (beB 2 len) w2 (beB_length _ _) (by omega) H22.out).mono ?_
  rintro e3 w3 ⟨rfl, hb3⟩
  have HB3 := Lib.hid (below_keep HB2.out hb3)
  have H23 := Lib.hid (row_keep encB_len H22.out hb3)
  clear hb3
  generalize hx2 : crc x1 (beB 2 len) = x2 at *
  go_wp2_with fail
  refine (from_any x2 aa len cap l w3 HA.out.len (by omega) (row_keep encB_len HA.out.row HB3.out)).mono ?_
  rintro e4 w4 ⟨rfl, hb4⟩
  have HB4 := Lib.hid (below_keep HB3.out hb4)
  have H24 := Lib.hid (row_keep encB_len H23.out hb4)
  clear hb4
  have hX : crc x2 l = crc 0xffffffff#32 (st ++ beB 2 l.length ++ l) := by rw [crc_append, crc_append, hx1, hll, hx2]
  generalize crc x2 l = s3 at *
  have HX := Lib.hid hX
  clear hX hx1 hx2
  go_wp2_with fail
  obtain ⟨K, hK⟩ : ∃ K, secs len = K := ⟨_, rfl⟩
  refine (sectors_is len K (by omega) hK w4).mono ?_
  rintro e5 w5 ⟨rfl, rfl⟩
  have hsr := secs_room len
  have hsl : secs len ≤ 126 := by unfold secs; omega
  obtain ⟨n24, hn24⟩ : ∃ n, n = 24 * secs len := ⟨_, rfl⟩
  have hmul : (K : Int) * 24 = (n24 : Nat) := by omega
  have HN := Lib.hid (show len + 6 ≤ n24 ∧ n24 ≤ n24 ∧ n24 = 24 * secs len from ⟨by omega, Nat.le_refl _, hn24⟩)
  have hn6 : len + 6 ≤ n24 := by omega
  have hn7 : n24 ≤ 3100 := by omega
  have hn8 : 24 ≤ n24 := by have := secs_pos len; omega
  clear hsr hsl hK hn24
  have hmk := run_mk_b n24 (by omega) w4
  have HO := Lib.hid (own_made_b w4 w.heap.size n24 HB4.out.size (by unfold maxLen; omega))
  have HBa := Lib.hid (HB4.out.alloc HB4.out.size (.cells (madeCells #[.int .u8 0] n24) 5))
  have HR2 := Lib.hid (row_keep encB_len H24.out (below_alloc w4 (.cells (madeCells #[.int .u8 0] n24) 5)))
  go_wp2_with (first
    | (refine copy_b rfl (.tmp 22) (.tmp 23) rfl w.heap.size w4.heap.size n24 n24 (List.replicate n24 0) HO.out (List.length_replicate ..) 0 n24 n24 rfl (some ⟨b2, o2, none⟩) 2 c2 (beB 2 len) rfl (beB_length _ _) HR2.out (by omega) (by omega) ?_; intro w6 ho6 hg6
       have HO6 := Lib.hid (And.intro ho6 (show (lay (List.replicate n24 0) 0 (beB 2 len)).length = n24 by rw [lay_length (by rw [beB_length, List.length_replicate]; omega), List.length_replicate]))
       have HB6 := Lib.hid (HBa.out.trans (grown_below hg6 (Nat.le_trans HB4.out.size (by simp)) HB4.out.size))
       clear ho6 hg6)
    | fail)
  obtain ⟨L, hL⟩ : ∃ L, L = lay (List.replicate n24 0) 0 (beB 2 len) := ⟨_, rfl⟩
  rw [← hL] at HO6
  have HL := Lib.hid hL
  clear hmk hL hmul HO HR2
  refine Chn.wp_region_chain (fun idx => match idx with | 0 => some (.slice (some ⟨w4.heap.size, 0, none⟩) n24 n24) | 1 => some (.slice (some ⟨w4.heap.size, 2, none⟩) (n24 - 2) (n24 - 2)) | 2 => some (.int .u32 (s3.toNat : Nat)) | 3 => some (.int .i64 (s3.toNat : Nat)) | _ => none) [4, 5] (phiDat w6 w.heap.size w4.heap.size n24 n24 L s3.toNat) (by kernel_rfl) (by kernel_rfl) (by kernel_rfl) (by kernel_rfl) (by kernel_rfl) (by decide) (by kernel_rfl) (rfl) ?_ ?_
  · refine ⟨?_, ?_, ?_, ?_, ?_, ?_, trivial⟩
    · intro a ww jj vs c hj0 hΦ
      have hj : jj ≤ 1 := Nat.le_trans hj0 (of_decide_eq_true (by kernel_rfl))
      refine .inl ⟨Rel.wanted_free (by kernel_rfl) _, ?_⟩
      exact Rel.wp_mv _ rfl ⟨congrArg (a.put _) (c.old 7 (v := .slice (some ⟨w4.heap.size, 0, none⟩) n24 n24) (by kernel_rfl) (by kernel_rfl)), rfl⟩
    · intro a ww jj vs c hj0 hΦ
      have hj : jj ≤ 1 := Nat.le_trans hj0 (of_decide_eq_true (by kernel_rfl))
      refine .inl ⟨Rel.wanted_free (by kernel_rfl) _, ?_⟩
      exact Rel.wp_sl _ _ _ _ _ rfl (c.get 0 25 (by kernel_rfl) rfl) rfl rfl rfl (run_from w4.heap.size n24 2 n24 (by have := HN.out; omega) HN.out.2.1 (by have := HN.out; omega) ww) ⟨rfl, rfl⟩
    · intro a ww jj vs c hj0 hΦ
      have hj : jj ≤ 0 := Nat.le_trans hj0 (of_decide_eq_true (by kernel_rfl))
      refine .inl ⟨Rel.wanted_free (by kernel_rfl) _, ?_⟩
      exact Rel.wp_mv _ rfl ⟨congrArg (a.put _) (c.old 6 (v := .int .u32 (s3.toNat : Nat)) (by kernel_rfl) (by kernel_rfl)), rfl⟩
    · intro a ww jj vs c hj0 hΦ
      have hj : jj ≤ 0 := Nat.le_trans hj0 (of_decide_eq_true (by kernel_rfl))
      refine .inl ⟨Rel.wanted_free (by kernel_rfl) _, ?_⟩
      exact Rel.wp_cv _ _ _ rfl (c.get 2 27 (by kernel_rfl) rfl) (run_cv_u32 s3 ww) ⟨rfl, rfl⟩
    · refine ⟨0, rfl, ?_⟩
      intro a ww c hΦ
      have h : (phiDat w6 w.heap.size w4.heap.size n24 n24 L s3.toNat) 0 [] ww := hΦ
      clear hΦ
      refine ⟨Rel.wanted_free (by kernel_rfl) _, ?_⟩
      have hw : ww = w6.drew := h
      subst hw
      refine Rel.wp_cl _ [.tmp 28, .const (.int .i64 4)] _ rfl Try.func53 (by kernel_rfl) ?_
      show Calls _ _ #[Rel.slot a 28, .int .i64 4] w6.drew _
      rw [c.get 3 28 (by kernel_rfl) rfl]
      refine (lowest_any s3.toNat 4 (by have := s3.isLt; omega) (by omega) (by omega) w6.drew).mono ?_
      rintro e9 w9 ⟨v, rfl, hv, hb⟩
      exact ⟨v, rfl, _, rfl, v, rfl, hv, (below_drew w6).trans hb⟩
    · refine ⟨1, rfl, ?_⟩
      intro a ww c hΦ
      have h : (phiDat w6 w.heap.size w4.heap.size n24 n24 L s3.toNat) 1 [Rel.slot a 29] ww := hΦ
      clear hΦ
      refine ⟨Rel.wanted_free (by kernel_rfl) _, ?_⟩
      obtain ⟨v, hv0, hv, hb⟩ := h
      injection hv0 with hv0 _
      obtain ⟨b4, o4, c4, rfl, h41, h42, h43⟩ := hv
      obtain ⟨wz, hr, ho, hg⟩ := run_copy_b (dl := n24 - 2) (dc := n24 - 2) (c := c4) (ty := 3) (off := 2) (own_keep HO6.out.1 hb) HO6.out.2 (beB_length 4 s3.toNat) h43 (by have := HN.out; omega) (by have := HN.out; omega)
      exact Rel.wp_cp _ _ _ _ rfl (c.get 1 26 (by kernel_rfl) rfl) hv0 hr ⟨_, rfl, ho, (hb.mono HB6.out.size).trans (grown_below hg (Nat.le_trans HB6.out.size hb.size) (own_lt HO6.out.1).1)⟩
  intro a w8 hbase hroom hdef hΦ hV
  have h : (phiDat w6 w.heap.size w4.heap.size n24 n24 L s3.toNat) 2 [Rel.slot a 29, Rel.slot a 30] w8 := hΦ
  rw [Chn.act_puts [25, 26, 27, 28, 29, 30] hbase hroom hdef (by kernel_rfl)]
  clear hbase hroom hdef hΦ hV
  simp only [List.foldl_cons, List.foldl_nil]
  generalize Rel.slot a 25 = u25 at *
  generalize Rel.slot a 26 = u26 at *
  generalize Rel.slot a 27 = u27 at *
  generalize Rel.slot a 28 = u28 at *
  generalize Rel.slot a 29 = u29 at *
  generalize Rel.slot a 30 = u30 at *
  obtain ⟨ho8, hb8⟩ := (show OwnB w8 w.heap.size (.slice (some ⟨w4.heap.size, 0, none⟩) n24 n24) (lay L 2 (beB 4 s3.toNat)) ∧ Below w.heap.size w6 w8 from h)
  have HO8 := Lib.hid (And.intro ho8 (show (lay L 2 (beB 4 s3.toNat)).length = n24 by rw [lay_length (by rw [beB_length, HO6.out.2]; omega), HO6.out.2]))
  have HB8 := Lib.hid (HB6.out.trans hb8)
  have HR8 := Lib.hid (row_keep encB_len HA.out.row HB8.out)
  clear ho8 hb8 h
  go_wp2_with (first
    | (refine copy_b rfl (.tmp 32) (.tmp 33) rfl w.heap.size w4.heap.size n24 n24 (lay L 2 (beB 4 s3.toNat)) HO8.out.1 HO8.out.2 6 (n24 - 6) (n24 - 6) rfl aa len cap l rfl HA.out.len HR8.out (by omega) (by omega) ?_; intro w9 ho9 hg9
       have HO9 := Lib.hid ho9
       have HB9 := Lib.hid (HB8.out.trans (grown_below hg9 HB8.out.size (own_lt HO8.out.1).1))
       clear ho9 hg9)
    | fail)
  go_wp2
  go_ret
  refine ⟨w4.heap.size, n24, ?_, ?_, HB9.out⟩
  · rw [← HN.out.2.2]; rfl
  · rw [← HN.out.2.2]
    have e := dataP_lay st l n24 (by rw [hll]; exact HN.out.2.2)
    rw [← HX.out, hll, ← HL.out] at e
    rw [← e]
    exact HO9.out

end Go.Proofs.Ytdgfoldobofgoaa.Frm
/- The body of a range over a function: a region of it that draws its order, where no operation calls a function: what holds of it outside of rounds holds in them. -/
namespace Go.Proofs.Ytdgfoldobofgoaa.Rng
open Go.RowKit

/-- An operation that calls no function, whatever its operands hold. -/
def calmB (o : Oper) : Bool := match o.op with
  | .move _ | .assign _ | .load _ _ | .store _ _ _ | .slice _ _ _ _ _ | .convert _ _ _ | .binOp _ _ _ _ _ | .indexAddr _ _ _ => true
  | .call c => (match c.callee with | .builtin .append => true | .builtin .len => true | .builtin .copy => true | _ => false)
  | _ => false

theorem run_v {P : Program} {w w' : World} {s : Sem Value} {x : Next} (h : (do pure (Next.value (← s)) : Sem Next).run P w = .ok x w') : ∃ v, x = .value v := by
  simp only [Sem.run_bind] at h
  cases hs : s.run P w with
  | ok u w1 => rw [hs] at h; simp at h; exact ⟨u, h.1.symm⟩
  | halt e w1 => rw [hs] at h; simp at h
theorem run_u {P : Program} {w w' : World} {s : Sem Unit} {x : Next} (h : (do s; pure Next.skip : Sem Next).run P w = .ok x w') : x = .skip := by
  simp only [Sem.run_bind] at h
  cases hs : s.run P w with
  | ok u w1 => rw [hs] at h; simp at h; exact h.1.symm
  | halt e w1 => rw [hs] at h; simp at h
theorem calm_ok {P : Program} {o : Oper} {ρ : Operand → Value} {w w' : World} {x : Next} (hc : calmB o = true) (h : (execOp ρ o).run P w = .ok x w') : (∃ v, x = .value v) ∨ x = .skip := by
  unfold calmB at hc
  unfold execOp at h
  cases ho : o.op <;> rw [ho] at hc h <;> simp only at hc h <;> first
    | (cases hc; done)
    | exact .inl (run_v h)
    | exact .inr (run_u h)
    | (simp at h; exact .inl ⟨_, h.1.symm⟩)
    | skip
  rename_i c
  obtain ⟨cl, args, tys⟩ := c
  cases cl with
  | builtin b =>
    cases b <;> simp only at hc <;> first
      | (cases hc; done)
      | (simp only [resolve, invoke, builtin, Sem.run_bind, Sem.run_pure] at h
         exact .inl (run_v h))
  | _ => simp at hc
theorem calm_about {P : Program} {o : Oper} {ρ : Operand → Value} {w : World} (hc : calmB o = true) : o.about P w ρ = none := by
  unfold calmB at hc
  unfold Oper.about
  cases ho : o.op <;> rw [ho] at hc <;> simp only at hc ⊢ <;> try (cases hc; done)
  rename_i c
  obtain ⟨cl, args, tys⟩ := c
  cases cl with
  | builtin b => simp [resolve, Target.leads]
  | _ => simp at hc

variable {F : Fence} {n : Nat} {P : Program} {ops : Array Oper} {Q : Exit → Act → World → Prop} {md : Region.Mode}
theorem oper_in {o : Oper} {a : Act} {w : World} {K : Act → World → Prop} (hc : calmB o = true) (h : o.wp P a w K Q) : o.wpIn F n P a w K Q := by
  refine ⟨fun f hf => (by rw [calm_about hc] at hf; cases hf), ?_⟩
  rw [Oper.semAt_plain F a.eval o (fun c e => by unfold calmB at hc; rw [e] at hc; cases hc)]
  unfold Oper.wp at h
  cases hr : (execOp a.eval o).run P w with
  | ok x w' =>
    rw [hr] at h
    rcases calm_ok hc hr with ⟨v, rfl⟩ | rfl
    · exact h
    · exact h
  | halt e w' =>
    rw [hr] at h
    cases e <;> exact h
theorem op_in {i : Nat} {a : Act} {w : World} {K K' : Act → World → Prop} (hc : ∀ (i : Nat) (o : Oper), ops[i]? = some o → calmB o = true) (hQ : ¬ LetsOut Q) (hK : ∀ a w, K a w → K' a w) (h : wpOp P ops Q i K a w) : wpOpIn F n P ops Q i K' a w := by
  unfold wpOp at h
  unfold wpOpIn
  cases ho : ops[i]? with
  | none => rw [ho] at h; exact hK _ _ h
  | some o =>
    rw [ho] at h
    simp only at h ⊢
    by_cases hw : Region.wanted o (yielded ops a.tmps) = true
    · rw [if_pos hw] at h ⊢
      rcases h with h | h
      · exact Oper.wpIn_mono hK (oper_in (hc i o ho) h)
      · exact absurd h.2 hQ
    · rw [if_neg hw] at h ⊢
      exact ⟨fun f hf => (by rw [calm_about (hc i o ho)] at hf; cases hf), hK _ _ h⟩
theorem any_in (hc : ∀ (i : Nat) (o : Oper), ops[i]? = some o → calmB o = true) (hQ : ¬ LetsOut Q) : ∀ (fuel : Nat) (listed : Array Bool) (a : Act) (w : World), wpAny P md ops Q fuel listed a w → wpAnyIn F n P md ops Q fuel listed a w
  | 0, _, _, _, h => h
  | fuel + 1, _, _, _, h => ⟨h.1, fun i hi => op_in hc hQ (fun a w h => any_in hc hQ fuel _ a w h) (h.2 i hi)⟩

/-- A region of calm operations, by all its ways outside of rounds. -/
theorem region_in {id : Nat} {l : List Oper} {a : Act} {w : World} (hm : P.follows .mixedOrders = true) (hc : l.all calmB = true) (hQ : ¬ LetsOut Q) (h : wpAny P .any l.toArray Q l.toArray.size (Array.replicate l.toArray.size false) a w.drew) : (Code.region id l.toArray true).wpIn F n P Q a w :=
  wpIn_region_any hm (any_in (fun i o ho => List.all_eq_true.1 hc o (List.mem_of_getElem? (by simpa using ho))) hQ _ _ _ _ h)
theorem lets_own {α : Type} (Kp : World → World → Prop) (I : List α → World → Prop) (Ix : Code → List α → World → Prop) (xs : List α) (W : World) : ¬ LetsOut (ownPostK Kp I Ix xs W) := fun h => by
  first | exact h.elim | (simp [LetsOut, ownPostK] at h)
theorem lets_block {id : Nat} {Q : Exit → Act → World → Prop} (h : ¬ LetsOut Q) : ¬ LetsOut (Exit.inBlock id Q) := fun ⟨a, w, hq⟩ => h ⟨a, w, hq⟩
end Go.Proofs.Ytdgfoldobofgoaa.Rng
/- Frame: the landed pieces: bytes, so many at a time, ranged over. -/
namespace Go.Proofs.Ytdgfoldobofgoaa.Frm
open Go.RowKit
open Go.Sort
open Kit
open Oct
open Chk
set_option linter.unusedVariables false
attribute [local go_sem] Oper.semAt_some

/-- What pieces has captured: the bytes, and how many at a time. -/
def Stuff (b0 b1 : Nat) (v0 v1 : Value) (W : World) : Prop := Boxed W b0 27 v0 ∧ Boxed W b1 3 v1
def KpS (b0 b1 : Nat) (v0 v1 : Value) (A B : World) : Prop := Stuff b0 b1 v0 v1 A → Stuff b0 b1 v0 v1 B
theorem kps_t {b0 b1 : Nat} {v0 v1 : Value} {A B C : World} (h : KpS b0 b1 v0 v1 A B) (k : KpS b0 b1 v0 v1 B C) : KpS b0 b1 v0 v1 A C := fun s => k (h s)
theorem boxed_put {W : World} {b l : Nat} {t : TypeId} {v : Value} {o o' : Obj} (h : Boxed W b t v) (hl : W.heap[l]? = some o) (hc : o.isCells = false) : Boxed (W.putObj l o') b t v :=
  h.kept (grownBy_putObj' W l o') (fun e => by
    injection e with e
    subst e
    have h1 : W.heap[b]? = some (.cells #[v] t (0, 0)) := h
    rw [h1] at hl
    injection hl with hl
    subst hl
    cases hc)
theorem kps_b {b0 b1 : Nat} {v0 v1 : Value} {W : World} {l : Nat} {o o' : Obj} (hl : W.heap[l]? = some o) (hc : o.isCells = false) : KpS b0 b1 v0 v1 W (W.putObj l o') := fun s => ⟨boxed_put s.1 hl hc, boxed_put s.2 hl hc⟩
theorem boxed_below {w W : World} {b : Nat} {t : TypeId} {v : Value} (h : Boxed w b t v) (hb : Below w.heap.size w W) : Boxed W b t v := (hb.block b (Boxed.lt h)).trans h

set_option maxHeartbeats 1000000 in
theorem pieces_any (a : Option Addr) (len cap size : Nat) (w : World) :
    Calls Try.prog 43 #[.slice a len cap, .int .i64 (size : Nat)] w fun e w' => e = .returned (.func (.func 52) #[] #[.pointer (some ⟨w.heap.size, 0, none⟩), .pointer (some ⟨w.heap.size + 1, 0, none⟩)]) ∧
      w' = (w.alloc (.cells #[.slice a len cap] 27)).alloc (.cells #[.int .i64 (size : Nat)] 3) := by
  go_enter Try.func43, Try.ntmps43
  go_wp2
  go_ret
  exact ⟨rfl, rfl⟩

/-- A piece. -/
def encP (bb oo cap size cnt : Nat) (x : { k : Nat // k < cnt }) : Array Value := #[.slice (some ⟨bb, oo + size * x.1, none⟩) size (cap - size * x.1)]

set_option maxRecDepth 100000 in
set_option maxHeartbeats 2000000 in
theorem pieces1_in (F : Fence) (n : Nat) (hf : F.fn 52) (hro : F.round = none) (hn : 1 ≤ n) (l b0 b1 bb oo len cap size cnt : Nat) (hs : 1 ≤ size) (hlen : size * cnt = len) (hm : len ≤ 5000) (hc : len ≤ cap) (hcm : cap ≤ maxLen) (J Jx : List { k : Nat // k < cnt } → World → Prop)
    (hY : ∀ pre x W, J pre W → pre.length < cnt → YieldAt F (n - 1) Try.prog l (encP bb oo cap size cnt x) W fun e W' =>
      (e = .returned (.bool true) ∧ J (pre ++ [x]) W' ∧ KpS b0 b1 (.slice (some ⟨bb, oo, none⟩) len cap) (.int .i64 (size : Nat)) W W') ∨ (e = .returned (.bool false) ∧ Jx (pre ++ [x]) W'))
    (W : World) (hS : Stuff b0 b1 (.slice (some ⟨bb, oo, none⟩) len cap) (.int .i64 (size : Nat)) W) (h0 : J [] W) :
    CallsIn F n Try.prog 52 #[.func (.yield l) #[] #[], .pointer (some ⟨b0, 0, none⟩), .pointer (some ⟨b1, 0, none⟩)] W fun e W' => (∃ v, e = .returned v) ∧
      ((∃ ys : List { k : Nat // k < cnt }, ys.map (·.1) = List.range cnt ∧ J ys W') ∨ (∃ pre, True ∧ Jx pre W')) := by
  unfold maxLen at hcm
  refine callsIn_of_wp Try.func52 rfl hf ?_ hro
  simp only [Try.ntmps52, List.size_toArray, List.length_cons, List.length_nil, Nat.reduceAdd, Nat.reduceSub, Array.replicate_succ, Array.replicate_zero, List.push_toArray, List.append_toArray, List.nil_append, List.cons_append]
  gi_wp2
  gi_loopw [4] (fun p wr => ∃ (pre : List { k : Nat // k < cnt }) (K : Nat), p = .int .i64 (K : Nat) ∧ K = size * pre.length ∧ pre.map (·.1) = List.range pre.length ∧ pre.length ≤ cnt ∧ J pre wr ∧ Stuff b0 b1 (.slice (some ⟨bb, oo, none⟩) len cap) (.int .i64 (size : Nat)) wr)
    (fun p _ => len - (intOf p).toNat)
  case atStart => exact ⟨[], 0, rfl, rfl, rfl, Nat.zero_le _, h0, hS⟩
  case round =>
    obtain ⟨pre, K, rfl, hK, hpre, hle, hJ, hSt⟩ := hrel
    have c0 := hSt.1.cell
    have c1 := hSt.2.cell
    by_cases hlt : pre.length < cnt
    · have hmul : size * (pre.length + 1) ≤ size * cnt := Nat.mul_le_mul_left _ hlt
      rw [Nat.mul_add, Nat.mul_one, ← hK, hlen] at hmul
      have hKl : K < len := by omega
      obtain ⟨fn, tmps, assign, body, hy, hR⟩ := hY pre ⟨pre.length, hlt⟩ wr hJ hlt
      unfold encP at hy
      dsimp only at hy
      rw [← hK] at hy
      have HK := Lib.hid hK
      clear hK
      gi_wp2
      refine hR.mono ?_
      rintro e W3 (⟨rfl, hJ3, hk3⟩ | ⟨rfl, hJx3⟩)
      · have hS3 := hk3 hSt
        have d0 := hS3.1.cell
        have d1 := hS3.2.cell
        gi_wp2
        go_roundw
        case rel => exact ⟨pre ++ [⟨pre.length, hlt⟩], K + size, by go_num, by rw [List.length_append, List.length_singleton, Nat.mul_add, Nat.mul_one, HK.out], by rw [List.map_append, hpre, List.length_append, List.length_singleton, List.range_succ]; rfl, by rw [List.length_append, List.length_singleton]; exact hlt, hJ3, hS3⟩
        case measure => simp [intOf]; omega
      · gi_wp2
        refine bodyPost_ret (results_none rfl _ _ _) rfl ?_
        exact ⟨⟨_, rfl⟩, .inr ⟨_, trivial, hJx3⟩⟩
    · have hKl : K = len := by
        have : pre.length = cnt := by omega
        rw [hK, this, hlen]
      clear hK
      gi_wp2
      go_end0
      exact ⟨⟨_, rfl⟩, .inl ⟨pre, by rw [hpre, show pre.length = cnt by omega], hJ⟩⟩

/-- The pieces of bytes in memory: all, one behind the other. -/
theorem pieces_stops (F : Fence) (n : Nat) (hf : F.fn 52) (hro : F.round = none) (hn : 1 ≤ n) (b0 b1 bb oo len cap size cnt : Nat) (w : World) (hs : 1 ≤ size) (hlen : size * cnt = len) (hm : len ≤ 5000) (hc : len ≤ cap) (hcm : cap ≤ maxLen)
    (hS : Stuff b0 b1 (.slice (some ⟨bb, oo, none⟩) len cap) (.int .i64 (size : Nat)) w) :
    SeqStopsK F n Try.prog 52 #[.pointer (some ⟨b0, 0, none⟩), .pointer (some ⟨b1, 0, none⟩)] (encP bb oo cap size cnt) (KpS b0 b1 (.slice (some ⟨bb, oo, none⟩) len cap) (.int .i64 (size : Nat))) (fun ys => ys.map (·.1) = List.range cnt) (fun _ => True) cnt w :=
  fun l J Jx W hW _ _ hY h0 => pieces1_in F n hf hro hn l b0 b1 bb oo len cap size cnt hs hlen hm hc hcm J Jx hY W ⟨boxed_below hS.1 hW, boxed_below hS.2 hW⟩ h0

end Go.Proofs.Ytdgfoldobofgoaa.Frm
/- The body of a range over a function that appends bytes to a list of the caller's own, which lies in a box. -/
namespace Go.Proofs.Ytdgfoldobofgoaa.Rng
open Go.RowKit
open Kit
open Oct
set_option linter.unusedVariables false

abbrev tB : TypeId := 27
/-- While a round runs: the box B holds v, the list f is u; other bytes in memory, other boxes. -/
structure Mid (w0 : World) (base B : Nat) (rows : List (Option Addr × List UInt8)) (boxes : List (Nat × TypeId × Value)) (f : List UInt8) (W : World) (v u : Value) : Prop where
  box : Boxed W B tB v
  own : OwnB W base u f
  vnot : ∀ i : Int, v ≠ .int .u8 i
  far : ∀ r ∈ rows, ∀ q, r.1 = some q → u.ownBlock ≠ some q.block ∧ q.block < W.heap.size
  row : ∀ r ∈ rows, RowB W r.1 r.2
  bx : ∀ b ∈ boxes, b.1 ≠ B ∧ b.2.1 ≠ 5 ∧ Boxed W b.1 b.2.1 b.2.2
  low : base ≤ B ∧ base ≤ w0.heap.size
  bel : Below base w0 W
def Inv9 (w0 : World) (base B : Nat) (rows : List (Option Addr × List UInt8)) (boxes : List (Nat × TypeId × Value)) (f : List UInt8) (W : World) : Prop := ∃ v, Mid w0 base B rows boxes f W v v

theorem own_not_int {W : World} {base : Nat} {u : Value} {f : List UInt8} (h : OwnB W base u f) (i : Int) : u ≠ .int .u8 i := by
  obtain ⟨a, c, rfl, _⟩ := own_row h
  intro e; cases e
/-- A block with a byte in it is no box of something else. -/
theorem row_ne_box {W : World} {B : Nat} {t : TypeId} {v : Value} {a : Option Addr} {l : List UInt8} (hb : Boxed W B t v) (hv : ∀ i : Int, v ≠ .int .u8 i) (h : RowB W a l) (hl : l ≠ []) : ∀ q, a = some q → q.block ≠ B := by
  intro q hq e
  rcases h with h | ⟨b, off, h1, h2⟩
  · exact hl h
  · rw [h1] at hq
    injection hq with hq
    subst hq
    have hpos : 0 < l.length := by cases l with | nil => exact absurd rfl hl | cons x l => simp
    have h3 := h2 0 hpos 0 (by omega)
    simp only at e
    subst e
    rw [Nat.zero_mul, Nat.add_zero] at h3
    have hB : W.heap[b]? = some (.cells #[v] t (0, 0)) := hb
    unfold World.cell? at h3
    simp only [hB] at h3
    simp only [encB, List.getElem?_cons_zero] at h3
    cases off with
    | zero => simp at h3; exact hv _ h3
    | succ o => simp at h3
theorem row_grown {W W' : World} {row : Option Nat} {a : Option Addr} {l : List UInt8} (h : RowB W a l) (hg : W.grownBy W' row) (hrow : ∀ r, row = some r → ∃ o : Obj, W.heap[r]? = some o ∧ o.isCells = false) : RowB W' a l := by
  by_cases hl : l = []
  · exact .inl hl
  · refine row_far h hg fun q hq e => ?_
    obtain ⟨o, ho, hc⟩ := hrow q.block e.symm
    rcases h with h | ⟨b, off, h1, h2⟩
    · exact hl h
    · rw [h1] at hq
      injection hq with hq
      subst hq
      have hpos : 0 < l.length := by cases l with | nil => exact absurd rfl hl | cons x l => simp
      have h3 := h2 0 hpos 0 (by omega)
      simp only [encB, List.getElem?_cons_zero] at h3
      obtain ⟨o', ho', hc'⟩ := cells_of_cell h3
      simp only at ho ho'
      rw [ho] at ho'
      injection ho' with ho'
      subst ho'
      rw [hc] at hc'; cases hc'

variable {w0 W W' : World} {base B : Nat} {rows : List (Option Addr × List UInt8)} {boxes : List (Nat × TypeId × Value)} {f k : List UInt8} {v u u' : Value}
theorem own_cells (h : OwnB W base u f) : ∀ (j : Nat) (o : Obj), u.ownBlock = some j → W.heap[j]? = some o → o.isCells = true := by
  intro j o hj ho
  rcases h.2 with ⟨rfl, _⟩ | ⟨g, cap, cur, rfl, _, hgb, _⟩
  · simp [Value.ownBlock] at hj
  · obtain rfl : g = j := by simpa [Value.ownBlock] using hj
    rw [hgb] at ho; cases ho; rfl
theorem ne_u8 : tB ≠ 5 := by decide
/-- Bytes appended. -/
theorem mid_append (h : Mid w0 base B rows boxes f W v u) (ho : OwnB W' base u' k) (hg : W.grownBy W' u.ownBlock) (hu : u'.ownBlock = u.ownBlock ∨ u'.ownBlock = some W.heap.size) : Mid w0 base B rows boxes k W' v u' := by
  obtain ⟨h1, h2, h3, h4, h5, h6, h7, h8⟩ := h
  have hb : base ≤ W.heap.size := Nat.le_trans h7.2 h8.size
  refine ⟨h1.kept hg (h1.not_row ne_u8 h2), ho, h3, fun r hr q hq => ?_, fun r hr => row_far (h5 r hr) hg fun q hq e => (h4 r hr q hq).1 e.symm, fun b hb => ⟨(h6 b hb).1, (h6 b hb).2.1, (h6 b hb).2.2.kept hg ((h6 b hb).2.2.not_row (h6 b hb).2.1 h2)⟩, h7, h8.trans (Two.below_grown h2 hg hb)⟩
  have h9 := h4 r hr q hq
  refine ⟨?_, Nat.lt_of_lt_of_le h9.2 hg.size⟩
  rcases hu with hu | hu
  · rw [hu]; exact h9.1
  · rw [hu]; intro e; injection e with e; omega
theorem keeps_append (h : OwnB W base u f) (hg : W.grownBy W' u.ownBlock) : KeepsOthers W W' := KeepsOthers.of_grownBy hg fun j o e ho => own_cells h j o e ho
/-- The box is stored. -/
theorem mid_store (h : Mid w0 base B rows boxes f W v u) : Mid w0 base B rows boxes f (W.setCell ⟨B, 0, none⟩ u) u u := by
  obtain ⟨h1, h2, h3, h4, h5, h6, h7, h8⟩ := h
  have hg := grownBy_setCell' W B u
  refine ⟨h1.set u, World.ownsRow.kept h2 hg (.inr fun e => h1.not_row ne_u8 h2 e.symm), own_not_int h2, fun r hr q hq => ⟨(h4 r hr q hq).1, Nat.lt_of_lt_of_le (h4 r hr q hq).2 hg.size⟩, fun r hr => ?_, fun b hb => ⟨(h6 b hb).1, (h6 b hb).2.1, (h6 b hb).2.2.kept hg (fun e => (h6 b hb).1 (by injection e))⟩, h7, ?_⟩
  · by_cases hl : r.2 = []
    · rw [hl]; exact .inl rfl
    · exact row_far (h5 r hr) hg fun q hq e => row_ne_box h1 h3 (h5 r hr) hl q hq (by injection e)
  · exact h8.trans (grown_below hg (Nat.le_trans h7.2 h8.size) h7.1)
/-- What is no cells is turned. -/
theorem inv_from (w0 : World) (base B D : Nat) (rows : List (Option Addr × List UInt8)) (boxes : List (Nat × TypeId × Value)) {β : Type} (F : β → List UInt8) (hD : base ≤ D) : OwnFrom D (fun (s : β) W => Inv9 w0 base B rows boxes (F s) W) := by
  rintro s X Y row ⟨v, h1, h2, h3, h4, h5, h6, h7, h8⟩ hg hrow
  have hr : ∀ r, row = some r → ∃ o : Obj, X.heap[r]? = some o ∧ o.isCells = false := fun r e => (hrow r e).2
  have hbx : ∀ {b : Nat} {t : TypeId} {x : Value}, Boxed X b t x → Boxed Y b t x := fun {b t x} hb => hb.kept hg fun e => by
    obtain ⟨o, ho, hc⟩ := hr b e.symm
    rw [show X.heap[b]? = _ from hb] at ho; cases ho; cases hc
  refine ⟨v, hbx h1, World.ownsRow.kept h2 hg ?_, h3, fun r hr' q hq => ⟨(h4 r hr' q hq).1, Nat.lt_of_lt_of_le (h4 r hr' q hq).2 hg.size⟩, fun r hr' => row_grown (h5 r hr') hg hr, fun b hb => ⟨(h6 b hb).1, (h6 b hb).2.1, hbx (h6 b hb).2.2⟩, h7, h8.grown hg (Nat.le_trans h7.2 h8.size) fun k e => Nat.le_trans hD (hrow k e).1⟩
  rcases h2.2 with ⟨rfl, _⟩ | ⟨g, cap, cur, rfl, _, hgb, _⟩
  · exact .inl rfl
  · refine .inr fun e' => ?_
    obtain ⟨o, ho, hc⟩ := hr g (by simpa [Value.ownBlock] using e'.symm)
    rw [hgb] at ho; cases ho; cases hc
theorem inv_put (h : Inv9 w0 base B rows boxes f W) {l : Nat} {o : Obj} (o' : Obj) (hl : W.heap[l]? = some o) (ho : o.isCells = false) (hD : base ≤ l) : Inv9 w0 base B rows boxes f (W.putObj l o') :=
  inv_from w0 base B base rows boxes (fun _ : Unit => f) (Nat.le_refl _) () W _ (some l) h (grownBy_putObj' W l o') fun r e => by cases e; exact ⟨hD, o, hl, ho⟩
theorem inv_drew (h : Inv9 w0 base B rows boxes f W) : Inv9 w0 base B rows boxes f W.drew := by
  obtain ⟨v, h1, h2, h3, h4, h5, h6, h7, h8⟩ := h
  exact ⟨v, h1, h2, h3, h4, h5, h6, h7, h8.drew⟩
theorem run_ld_sl {a : Option Addr} {n c b : Nat} (h : W.cell? ⟨b, 0, none⟩ = some (.slice a n c)) : (Instr.loadAt tB (.pointer (some ⟨b, 0, none⟩))).run Try.prog W = .ok (.slice a n c) W := by
  simp [go_sem, h]
theorem run_st_sl {a : Option Addr} {n c b : Nat} {x : Value} (h : W.cell? ⟨b, 0, none⟩ = some x) (hf : W.frozen? ⟨b, 0, none⟩ = false) : (Instr.storeAt tB (.pointer (some ⟨b, 0, none⟩)) (.slice a n c)).run Try.prog W = .ok () (W.setCell ⟨b, 0, none⟩ (.slice a n c)) := by
  simp [go_sem, h, hf]
/-- 'append' to the list, as it runs. -/
theorem mid_run (h : Mid w0 base B rows boxes f W v u) (ty : TypeId) {ad : Option Addr} {m c : Nat} {k : List UInt8} (hk : k.length = m) (hrow : RowB W ad k) (hn : ad = none → m = 0 ∧ c = 0) (hm : f.length + m ≤ 1000000) :
    ∃ u' W', (Builtin.append_ #[tB, tB] ty #[u, .slice ad m c]).run Try.prog W = .ok u' W' ∧ Mid w0 base B rows boxes (f ++ k) W' v u' ∧ KeepsOthers W W' ∧ W.grownBy W' u.ownBlock := by
  obtain ⟨u', W', hr, h1, h2, h3⟩ := Two.run_append_apart (P := Try.prog) encB_len (by decide) encB_one tB ty 5 Try.underlying27 (.int .u8 0) 1 info8 rfl base u f h.own ad m c k hk hrow hn (by unfold maxLen; omega) (by omega) (Nat.le_trans h.low.2 h.bel.size)
  exact ⟨u', W', hr, mid_append h h1 h2 h3, keeps_append h.own h2, h2⟩
end Go.Proofs.Ytdgfoldobofgoaa.Rng
/- Frame: the landed Pack. -/
namespace Go.Proofs.Ytdgfoldobofgoaa.Frm
open Go.RowKit
open Go.Sort
open Kit
open Oct
open Chk
open Rng
set_option linter.unusedVariables false
attribute [local go_sem] Oper.semAt_some

def FP {cnt : Nat} (g : Nat → Bs) (pre : List { k : Nat // k < cnt }) : Bs := pre.flatMap fun x => g x.1
theorem fp_snoc {cnt : Nat} (g : Nat → Bs) (pre : List { k : Nat // k < cnt }) (x : { k : Nat // k < cnt }) : FP g (pre ++ [x]) = FP g pre ++ g x.1 := by simp [FP]
theorem fp_length {cnt : Nat} {g : Nat → Bs} {m : Nat} (hg : ∀ k, k < cnt → (g k).length = m) : ∀ pre : List { k : Nat // k < cnt }, (FP g pre).length = m * pre.length
  | [] => rfl
  | x :: pre => by
    have := fp_length hg pre
    show (g x.1 ++ FP g pre).length = _
    rw [List.length_append, hg x.1 x.2, this, List.length_cons, Nat.mul_add, Nat.mul_one]; omega
theorem fp_map {cnt : Nat} (g : Nat → Bs) (pre : List { k : Nat // k < cnt }) : FP g pre = (pre.map (·.1)).flatMap g := by
  unfold FP; rw [List.flatMap_map]
theorem packN_flat (d mk : Bs) : ∀ k, (List.range k).flatMap (fun i => chunk d i ++ mk) = packN d mk (24 * k)
  | 0 => rfl
  | k + 1 => by rw [List.range_succ, List.flatMap_append, packN_flat d mk k, packN_sector, List.append_assoc]; simp

/-- A round that appends two lists, in any order of its reading. -/
def phiPut (W w0 : World) (base B : Nat) (rows : List (Option Addr × Bs)) (boxes : List (Nat × TypeId × Value)) (f k1 k2 : Bs) (v : Value) : Nat → List Value → World → Prop
  | 0, _, w => w = W.drew
  | 1, vs, w => ∃ u, vs = [u] ∧ Mid w0 base B rows boxes (f ++ k1) w v u ∧ KeepsOthers W w
  | 2, vs, w => ∃ x u, vs = [x, u] ∧ Mid w0 base B rows boxes (f ++ k1 ++ k2) w v u ∧ KeepsOthers W w
  | _, _, w => Inv9 w0 base B rows boxes (f ++ k1 ++ k2) w ∧ KeepsOthers W w
theorem mid_drew {w0 W : World} {base B : Nat} {rows : List (Option Addr × Bs)} {boxes : List (Nat × TypeId × Value)} {f : Bs} {v u : Value} (h : Mid w0 base B rows boxes f W v u) : Mid w0 base B rows boxes f W.drew v u :=
  ⟨h.box, h.own, h.vnot, h.far, h.row, h.bx, h.low, h.bel.drew⟩
theorem put_bx {W w0 w : World} {base B : Nat} {rows : List (Option Addr × Bs)} {boxes : List (Nat × TypeId × Value)} {f k1 k2 : Bs} {v : Value} {j : Nat} {vs : List Value} (hM : Mid w0 base B rows boxes f W v v) (hj : j ≤ 1) (h : phiPut W w0 base B rows boxes f k1 k2 v j vs w) {b : Nat × TypeId × Value} (hb : b ∈ boxes) : Boxed w b.1 b.2.1 b.2.2 := by
  match j, hj with
  | 0, _ => obtain rfl : w = W.drew := h; exact ((mid_drew hM).bx b hb).2.2
  | 1, _ => obtain ⟨u, _, hm, _⟩ := h; exact (hm.bx b hb).2.2

theorem put_v0 {W w0 w : World} {base B : Nat} {rows : List (Option Addr × Bs)} {boxes : List (Nat × TypeId × Value)} {f k1 k2 : Bs} {v : Value} {j : Nat} {vs : List Value} (hM : Mid w0 base B rows boxes f W v v) (hj : j ≤ 0) (h : phiPut W w0 base B rows boxes f k1 k2 v j vs w) : w.cell? ⟨B, 0, none⟩ = some v := by
  match j, hj with
  | 0, _ => obtain rfl : w = W.drew := h; exact (mid_drew hM).box.cell

theorem run_make_cap (n : Nat) (hn : n ≤ 1000000) (w : World) : (Instr.makeSlice 27 (.int .i64 0) (.int .i64 (n : Nat))).run Try.prog w = .ok (.slice (some ⟨w.heap.size, 0, none⟩) 0 n) (w.alloc (.cells (madeCells #[.int .u8 0] n) 5)) := by
  obtain ⟨i0, hi, hz0, hz1, hz2⟩ := info_parts info8
  have := run_make (P := Try.prog) w 27 5 i0 (.int .u8 0) Try.underlying27 hi hz0 .i64 .i64 0 n (by omega) (by omega) (by rw [hz2]; omega) (by omega)
  rw [hz1, Nat.mul_one] at this
  exact this
theorem own_made_cap (w : World) (base n : Nat) (hb : base ≤ w.heap.size) (hn : n ≤ maxLen) : OwnB (w.alloc (.cells (madeCells #[.int .u8 0] n) 5)) base (.slice (some ⟨w.heap.size, 0, none⟩) 0 n) [] :=
  own_iff.2 ⟨rfl, .inr ⟨_, n, _, rfl, hb, heap_alloc_new w _, Nat.zero_le _, hn, by rw [size_madeCells, Nat.mul_one], by simp [cellsB]⟩⟩

set_option maxHeartbeats 4000000 in
theorem pack_bad (e q : Int) (he : -9223372036854775808 ≤ e ∧ e ≤ 9223372036854775807) (hq : -9223372036854775808 ≤ q ∧ q ≤ 9223372036854775807) (aa : Option Addr) (len cap : Nat) (w : World) (h : ¬ inE e q) :
    Calls Try.prog 35 #[.int .i64 e, .int .i64 q, .slice aa len cap] w fun e w' => e = .returned (.tuple #[.slice none 0 0, .int .i64 1]) ∧ w = w' := by
  have HQ := Lib.hid (And.intro he hq)
  by_cases h0 : 0 ≤ e ∧ e < 4294967296
  · have h1 : ¬ (0 ≤ q ∧ q < 4294967296) := fun h1 => h ⟨h0, h1⟩
    have d0 := Lib.hid (decide_eq_true h0)
    have d1 := Lib.hid (decide_eq_false h1)
    clear h0 h1 h he hq
    go_enter Try.func35, Try.ntmps35
    go_wp2_with fail
    refine (half_any e w HQ.out.1).mono ?_
    rw [d0.out]
    rintro e1 w1 ⟨rfl, rfl⟩
    go_wp2_with fail
    refine (half_any q w HQ.out.2).mono ?_
    rw [d1.out]
    rintro e1 w1 ⟨rfl, rfl⟩
    go_wp2
    go_ret2
    exact ⟨rfl, rfl⟩
  · have d0 := Lib.hid (decide_eq_false h0)
    clear h0 h he hq
    go_enter Try.func35, Try.ntmps35
    go_wp2_with fail
    refine (half_any e w HQ.out.1).mono ?_
    rw [d0.out]
    rintro e1 w1 ⟨rfl, rfl⟩
    go_wp2
    go_ret2
    exact ⟨rfl, rfl⟩

set_option maxRecDepth 100000 in
set_option maxHeartbeats 8000000 in
theorem pack_ok (e q : Nat) (he : e < 4294967296) (hq : q < 4294967296) (aa : Option Addr) (len cap : Nat) (l : Bs) (w : World) (h : Arg w aa len cap l) (hm : len ≤ 3000) :
    Calls Try.prog 35 #[.int .i64 (e : Nat), .int .i64 (q : Nat), .slice aa len cap] w fun e' w' => ∃ v, e' = .returned (.tuple #[v, .int .i64 0]) ∧ OwnB w' w.heap.size v (packB e q l) ∧ Below w.heap.size w w' := by
  have HA := Lib.hid h
  have hcl := h.cap
  have hcm := h.max
  unfold maxLen at hcm
  have H1 := half_any (e : Int) w (by omega)
  rw [show decide (0 ≤ (e : Int) ∧ (e : Int) < 4294967296) = true from decide_eq_true (by omega)] at H1
  have H2 := half_any (q : Int) w (by omega)
  rw [show decide (0 ≤ (q : Int) ∧ (q : Int) < 4294967296) = true from decide_eq_true (by omega)] at H2
  have HH := Lib.hid (And.intro H1 H2)
  clear H1 H2 h
  refine (callsIn_wide (n := 9)).1 ?_
  refine callsIn_of_wp_marks Try.func35 rfl trivial ?_ rfl
  simp only [Try.ntmps35, List.size_toArray, List.length_cons, List.length_nil, Nat.reduceAdd, Nat.reduceSub, Array.replicate_succ, Array.replicate_zero, List.push_toArray, List.append_toArray, List.nil_append, List.cons_append]
  gi_wp2_with fail
  refine ⟨trivial, callsIn_wide.2 (HH.out.1.mono ?_)⟩
  rintro e1 w1 ⟨rfl, rfl⟩
  gi_wp2_with fail
  refine ⟨trivial, callsIn_wide.2 (HH.out.2.mono ?_)⟩
  rintro e1 w1 ⟨rfl, rfl⟩
  gi_wp2_with fail
  refine ⟨trivial, callsIn_wide.2 ((stampOf_any e q he hq w).mono ?_)⟩
  rintro e1 w1 ⟨sb, sc, rfl, hs1, hs2, hs3, hb1⟩
  have HS := Lib.hid (And.intro hs3 hb1)
  unfold maxLen at hs2
  clear hs3 hb1
  gi_wp2_with fail
  obtain ⟨K, hK⟩ : ∃ K, secs len = K := ⟨_, rfl⟩
  refine ⟨trivial, callsIn_wide.2 ((sectors_is len K (by omega) hK _).mono ?_)⟩
  rintro e2 w2 ⟨rfl, hw⟩
  have hsl : secs len ≤ 126 := by unfold secs; omega
  obtain ⟨n32, hn32⟩ : ∃ n, n = 32 * K := ⟨_, rfl⟩
  have hmul : (K : Int) * 32 = (n32 : Nat) := by omega
  have hn7 : n32 ≤ 4100 := by omega
  obtain ⟨B8, hB8⟩ : ∃ x, x = w1.heap.size := ⟨_, rfl⟩
  have hsz2 : w2.heap.size = B8 + 1 := by rw [← hw, hB8]; simp
  have hBel2 : Below w.heap.size w w2 := by rw [← hw]; exact HS.out.2.alloc HS.out.2.size _
  have hwB8 : w.heap.size ≤ B8 := by rw [hB8]; exact HS.out.2.size
  have H2 := Lib.hid (show Boxed w2 B8 tB (.slice (some ⟨sb, 0, none⟩) 8 sc) ∧ RowB w2 (some ⟨sb, 0, none⟩) (mark e q) ∧ sb < B8 ∧ w2.heap.size = B8 + 1 ∧ Below w.heap.size w w2 ∧ w.heap.size ≤ B8 from ⟨by rw [← hw, hB8]; exact Boxed.new _ _ _, by rw [← hw]; exact row_alloc HS.out.1 _, by rw [hB8]; exact Kit.row_lt encB_len (by omega) HS.out.1 (by rw [mark_length]; omega), hsz2, hBel2, hwB8⟩)
  have HK := Lib.hid (And.intro hK hn32)
  rw [← hB8]
  clear hw hB8 hsl hBel2 hwB8 hK hn32 HS
  have hmk := run_make_cap n32 (by omega) w2
  have b9 := Boxed.new (w2.alloc (.cells (madeCells #[.int .u8 0] n32) 5)) tB (.slice (some ⟨w2.heap.size, 0, none⟩) 0 n32)
  rw [World.size_alloc] at b9
  have o9 := own_made_cap w2 w.heap.size n32 (Nat.le_trans H2.out.2.2.2.2.2 (by rw [hsz2]; omega)) (by unfold maxLen; omega)
  have c8 := ((H2.out.1.alloc (.cells (madeCells #[.int .u8 0] n32) 5)).alloc (.cells #[.slice (some ⟨w2.heap.size, 0, none⟩) 0 n32] tB)).cell
  have b8 := (H2.out.1.alloc (.cells (madeCells #[.int .u8 0] n32) 5)).alloc (.cells #[.slice (some ⟨w2.heap.size, 0, none⟩) 0 n32] tB)
  have r8 := row_alloc (row_alloc H2.out.2.1 (.cells (madeCells #[.int .u8 0] n32) 5)) (.cells #[.slice (some ⟨w2.heap.size, 0, none⟩) 0 n32] tB)
  have hB3 := (H2.out.2.2.2.2.1.alloc (H2.out.2.2.2.2.1.size) (.cells (madeCells #[.int .u8 0] n32) 5)).alloc (Nat.le_trans H2.out.2.2.2.2.1.size (by simp)) (.cells #[.slice (some ⟨w2.heap.size, 0, none⟩) 0 n32] tB)
  have H3 := Lib.hid (And.intro b9 (And.intro (owns_alloc o9 (.cells #[.slice (some ⟨w2.heap.size, 0, none⟩) 0 n32] tB)) (And.intro b8 (And.intro r8 hB3))))
  clear b9 o9 hsz2 b8 r8 hB3
  gi_wp2_with fail
  refine ⟨trivial, callsIn_wide.2 ((dataOf_any (.slice (some ⟨sb, 0, none⟩) 8 sc) (mark e q) aa len cap l _ ⟨sb, 0, sc, rfl, hs1, by unfold maxLen; omega, H3.out.2.2.2.1⟩ (mark_length e q) (arg_keep (arg_keep HA.out H2.out.2.2.2.2.1) ((below_alloc w2 (.cells (madeCells #[.int .u8 0] n32) 5)).alloc (by simp) (.cells #[.slice (some ⟨w2.heap.size, 0, none⟩) 0 n32] tB))) hm).mono ?_)⟩
  rintro e3 w4 ⟨gd, cd, rfl, ho4, hb4⟩
  clear hmk c8
  rw [HK.out.1] at ho4 ⊢
  gi_wp2_with fail
  refine ⟨trivial, callsIn_wide.2 ((pieces_any (some ⟨gd, 0, none⟩) (24 * K) cd 24 w4).mono ?_)⟩
  rintro e4 w5 ⟨rfl, rfl⟩
  gi_wp2_with fail
  obtain ⟨ROWS, hROWS⟩ : ∃ R, R = ([(some ⟨gd, 0, none⟩, dataP (mark e q) l), (some ⟨sb, 0, none⟩, mark e q)] : List (Option Addr × Bs)) := ⟨_, rfl⟩
  obtain ⟨BOXES, hBOXES⟩ : ∃ R, R = ([(B8, tB, .slice (some ⟨sb, 0, none⟩) 8 sc), (w4.heap.size, tB, .slice (some ⟨gd, 0, none⟩) (24 * K) cd), (w4.heap.size + 1, 3, .int .i64 24)] : List (Nat × TypeId × Value)) := ⟨_, rfl⟩
  have HMem : Hid ((B8, tB, Value.slice (some ⟨sb, 0, none⟩) 8 sc) ∈ BOXES ∧ ((some ⟨sb, 0, none⟩ : Option Addr), mark e q) ∈ ROWS ∧ ((some ⟨gd, 0, none⟩ : Option Addr), dataP (mark e q) l) ∈ ROWS ∧ (w4.heap.size, tB, Value.slice (some ⟨gd, 0, none⟩) (24 * K) cd) ∈ BOXES ∧ (w4.heap.size + 1, 3, Value.int .i64 24) ∈ BOXES) := Lib.hid (by rw [hROWS, hBOXES]; simp)
  have HM : Hid (Mid w w.heap.size (w2.heap.size + 1) ROWS BOXES []
      ((w4.alloc (.cells #[.slice (some ⟨gd, 0, none⟩) (24 * K) cd] 27)).alloc (.cells #[.int .i64 24] 3)) (.slice (some ⟨w2.heap.size, 0, none⟩) 0 n32) (.slice (some ⟨w2.heap.size, 0, none⟩) 0 n32)) := Lib.hid (by
    have hgd := own_lt ho4
    have h4 := hb4.size
    have hr4 := own_row' ho4
    obtain ⟨p1, p2, p3, p4, p5⟩ := H3.out
    obtain ⟨q1, q2, q3, q4, q5, q6⟩ := H2.out
    simp only [World.size_alloc] at hgd h4
    refine ⟨((boxed_below p1 hb4).alloc _).alloc _, owns_alloc (owns_alloc (own_keep p2 hb4) _) _, (fun i h => by cases h), ?_, ?_, ?_, ⟨by omega, Nat.le_refl _⟩, ((below_keep p5 hb4).alloc (by omega) _).alloc (by simp; omega) _⟩
    · intro r hr q' hq'
      rw [hROWS] at hr
      simp only [List.mem_cons, List.not_mem_nil, or_false] at hr
      rcases hr with rfl | rfl
      · injection hq' with hq'
        subst hq'
        exact ⟨by simp [Value.ownBlock]; omega, by simp; omega⟩
      · injection hq' with hq'
        subst hq'
        exact ⟨by simp [Value.ownBlock]; omega, by simp; omega⟩
    · intro r hr
      rw [hROWS] at hr
      simp only [List.mem_cons, List.not_mem_nil, or_false] at hr
      rcases hr with rfl | rfl
      · exact row_alloc (row_alloc hr4 _) _
      · exact row_alloc (row_alloc (row_keep encB_len p4 hb4) _) _
    · intro b hb
      rw [hBOXES] at hb
      simp only [List.mem_cons, List.not_mem_nil, or_false] at hb
      rcases hb with rfl | rfl | rfl
      · exact ⟨by simp; omega, ne_u8, ((boxed_below p3 hb4).alloc _).alloc _⟩
      · exact ⟨by simp; omega, ne_u8, (Boxed.new _ _ _).alloc _⟩
      · refine ⟨by simp; omega, (by show (3 : Nat) ≠ 5; decide), ?_⟩
        have := Boxed.new (w4.alloc (.cells #[.slice (some ⟨gd, 0, none⟩) (24 * K) cd] 27)) 3 (.int .i64 24)
        rw [World.size_alloc] at this
        exact this)
  have hlc := own_row ho4
  obtain ⟨_, _, he9, hcd, hcdm, _, _⟩ := hlc
  injection he9 with e1 e2 e3
  subst e1 e3
  clear e2
  have hdl := dataP_length (mark e q) l
  rw [HA.out.len, HK.out.1] at hdl
  rw [hdl] at hcd
  have HDL := Lib.hid hdl
  have hsp : 1 ≤ K := by rw [← HK.out.1]; exact secs_pos len
  have hwz : w.heap.size ≤ w4.heap.size := Nat.le_trans H3.out.2.2.2.2.size hb4.size
  have HSt := Lib.hid (And.intro ((HM.out.bx _ HMem.out.2.2.2.1).2.2) ((HM.out.bx _ HMem.out.2.2.2.2).2.2))
  have hfg : ∀ k, k < K → (chunk (dataB e q l) k ++ mark e q).length = 32 := fun k _ => by rw [List.length_append, chunk_length, mark_length]
  have HFG := Lib.hid hfg
  clear ho4 hb4 hdl hROWS hBOXES hfg
  refine wpIn_rangeFunc_ownF rfl (by omega) (gf := 52) (lb := #[.pointer (some ⟨w4.heap.size, 0, none⟩), .pointer (some ⟨w4.heap.size + 1, 0, none⟩)]) rfl trivial (enters_of Try.func52 (by kernel_rfl) rfl)
    (pieces_stops Fence.wide 8 trivial rfl (by omega) w4.heap.size (w4.heap.size + 1) gd 0 (24 * K) cd 24 K _ (by omega) rfl (by omega) hcd hcdm HSt.out) (fun h k => kps_t h k) (fun _ _ _ _ _ hl hc _ => kps_b hl hc) (Below.refl _ _) (fun _ => rfl)
    (fun pre W => Inv9 w w.heap.size (w2.heap.size + 1) ROWS BOXES (FP (fun i => chunk (dataB e q l) i ++ mark e q) pre) W)
    (fun _ _ _ => False)
    (inv_from w w.heap.size (w2.heap.size + 1) _ _ _ (fun pre => FP (fun i => chunk (dataB e q l) i ++ mark e q) pre) (by simp only [World.size_alloc]; omega))
    (fun _ _ _ _ _ hs _ _ => hs)
    ⟨_, HM.out⟩
    (fun x => { tmps := #[.int .i64 e, .int .i64 q, .slice aa len cap, undef, undef, undef,
          .slice none 0 0, .int .i64 0, .pointer (some ⟨B8, 0, none⟩),
          .pointer (some ⟨w2.heap.size + 1, 0, none⟩), .slice (some ⟨gd, 24 * x.1, none⟩) 24 (cd - 24 * x.1), .int .i64 e,
          .bool true, .bool false, .bool false, .int .i64 q, .bool true,
          .bool false, .bool false, .slice aa len cap, .int .i64 len,
          .bool (decide (65535 < (len : Int))), .int .i64 e, .int .i64 q,
          .slice (some ⟨sb, 0, none⟩) 8 sc, .slice aa len cap, .int .i64 len,
          .int .i64 K, .int .i64 n32,
          .slice (some ⟨w2.heap.size, 0, none⟩) 0 n32,
          .slice (some ⟨sb, 0, none⟩) 8 sc, .slice aa len cap,
          .slice (some ⟨gd, 0, none⟩) (24 * K) cd,
          .func (.func 52) #[] #[.pointer (some ⟨w4.heap.size, 0, none⟩), .pointer (some ⟨w4.heap.size + 1, 0, none⟩)],
          .slice (some ⟨gd, 24 * x.1, none⟩) 24 (cd - 24 * x.1), undef, undef, undef, undef, undef, undef], defers := [] }) ?assign ?body ?done ?stop
  case assign =>
    intro l0 x W Kc hKc
    unfold encP
    gi_wp2
    exact hKc
  case body =>
    rintro l0 pre x W ⟨v, hMd⟩ hlen
    refine wpIn_block ?_
    obtain ⟨va, vc, rfl, _⟩ := own_row hMd.own
    have hfl := fp_length HFG.out pre
    have hrp := row_take (row_from (hMd.row _ HMem.out.2.2.1) (24 * x.1)) 24
    rw [Nat.zero_add, piece_chunk e q l (by rw [HA.out.len, HK.out.1]; exact x.2)] at hrp
    have HFS := Lib.hid (fp_snoc (fun i => chunk (dataB e q l) i ++ mark e q) pre x)
    have hcl := chunk_length (dataB e q l) x.1
    obtain ⟨k1, hk1⟩ : ∃ k, k = chunk (dataB e q l) x.1 := ⟨_, rfl⟩
    obtain ⟨f, hf⟩ : ∃ f, f = FP (fun i => chunk (dataB e q l) i ++ mark e q) pre := ⟨_, rfl⟩
    rw [← hk1] at hrp hcl
    rw [← hf] at hMd hfl
    have HMd := Lib.hid hMd
    have HK1 := Lib.hid (And.intro hcl hrp)
    have HF := Lib.hid (show f.length ≤ 32 * 130 by have := HK.out.2; rw [hfl]; omega)
    have HEq := Lib.hid (And.intro hk1 hf)
    clear hMd hfl hrp hcl hk1 hf
    refine Rng.region_in (by kernel_rfl) (by kernel_rfl) (Rng.lets_block (Rng.lets_own _ _ _ _ _)) (Chn.any_chain (fun idx => match idx with | 0 => some (.slice va f.length vc) | 1 => some (.slice (some ⟨gd, 24 * x.1, none⟩) 24 (cd - 24 * x.1)) | 3 => some (.slice (some ⟨sb, 0, none⟩) 8 sc) | _ => none) [2, 4, 5] (phiPut W w w.heap.size (w2.heap.size + 1) ROWS BOXES f k1 (mark e q) (.slice va f.length vc)) (by kernel_rfl) (by kernel_rfl) (by kernel_rfl) (by kernel_rfl) (by decide) (by kernel_rfl) (rfl) ?_ ?_)
    · refine ⟨?_, ?_, ?_, ?_, ?_, ?_, trivial⟩
      · intro a ww jj vs c hj0 hΦ
        have hj : jj ≤ 0 := Nat.le_trans hj0 (of_decide_eq_true (by kernel_rfl))
        refine .inl ⟨Rel.wanted_free (by kernel_rfl) _, ?_⟩
        exact Rel.wp_ld _ _ rfl (c.old 9 (v := .pointer (some ⟨w2.heap.size + 1, 0, none⟩)) (by kernel_rfl) (by kernel_rfl)) (run_ld_sl (put_v0 HMd.out hj hΦ)) ⟨rfl, rfl⟩
      · intro a ww jj vs c hj0 hΦ
        have hj : jj ≤ 0 := Nat.le_trans hj0 (of_decide_eq_true (by kernel_rfl))
        refine .inl ⟨Rel.wanted_free (by kernel_rfl) _, ?_⟩
        exact Rel.wp_mv _ rfl ⟨congrArg (a.put _) (c.old 10 (v := .slice (some ⟨gd, 24 * x.1, none⟩) 24 (cd - 24 * x.1)) (by kernel_rfl) (by kernel_rfl)), rfl⟩
      · refine ⟨0, rfl, ?_⟩
        intro a ww c hΦ
        have h : (phiPut W w w.heap.size (w2.heap.size + 1) ROWS BOXES f k1 (mark e q) (.slice va f.length vc)) 0 [] ww := hΦ
        clear hΦ
        refine ⟨Rel.wanted_free (by kernel_rfl) _, ?_⟩
        obtain rfl : ww = W.drew := h
        obtain ⟨u, wz, hr, hm9, hk9, _⟩ := mid_run (mid_drew HMd.out) 27 (c := cd - 24 * x.1) HK1.out.1 HK1.out.2 (fun h => by cases h) (by have := HF.out; omega)
        exact Chn.wp_ap _ _ _ rfl (c.get 0 35 (by kernel_rfl) rfl) (c.get 1 36 (by kernel_rfl) rfl) hr ⟨_, rfl, u, rfl, hm9, (KeepsOthers.drew W).trans hk9⟩
      · intro a ww jj vs c hj0 hΦ
        have hj : jj ≤ 1 := Nat.le_trans hj0 (of_decide_eq_true (by kernel_rfl))
        refine .inl ⟨Rel.wanted_free (by kernel_rfl) _, ?_⟩
        exact Rel.wp_ld _ _ rfl (c.old 8 (v := .pointer (some ⟨B8, 0, none⟩)) (by kernel_rfl) (by kernel_rfl)) (run_ld_sl (put_bx HMd.out hj hΦ HMem.out.1).cell) ⟨rfl, rfl⟩
      · refine ⟨1, rfl, ?_⟩
        intro a ww c hΦ
        have h : (phiPut W w w.heap.size (w2.heap.size + 1) ROWS BOXES f k1 (mark e q) (.slice va f.length vc)) 1 [Rel.slot a 37] ww := hΦ
        clear hΦ
        refine ⟨Rel.wanted_free (by kernel_rfl) _, ?_⟩
        obtain ⟨u, hu, hm8, hk8⟩ := h
        injection hu with hu _
        obtain ⟨u2, wz, hr, hm9, hk9, _⟩ := mid_run hm8 27 (c := sc) (mark_length e q) (hm8.row _ HMem.out.2.1) (fun h => by cases h) (by rw [List.length_append, HK1.out.1]; have := HF.out; omega)
        exact Chn.wp_ap _ _ _ rfl hu (c.get 3 38 (by kernel_rfl) rfl) hr ⟨_, rfl, _, u2, rfl, hm9, hk8.trans hk9⟩
      · refine ⟨2, rfl, ?_⟩
        intro a ww c hΦ
        have h : (phiPut W w w.heap.size (w2.heap.size + 1) ROWS BOXES f k1 (mark e q) (.slice va f.length vc)) 2 [Rel.slot a 37, Rel.slot a 39] ww := hΦ
        clear hΦ
        refine ⟨Rel.wanted_free (by kernel_rfl) _, ?_⟩
        obtain ⟨x0, u, hu, hm8, hk8⟩ := h
        injection hu with _ hu
        injection hu with hu _
        obtain ⟨ua, uc, hue, _⟩ := own_row hm8.own
        subst hue
        exact Chn.wp_st _ _ _ rfl (c.old 9 (v := .pointer (some ⟨w2.heap.size + 1, 0, none⟩)) (by kernel_rfl) (by kernel_rfl)) hu (run_st_sl hm8.box.cell hm8.box.frozen) ⟨undef, rfl, ⟨_, mid_store hm8⟩, hk8.trans (KeepsOthers.setCell _ _ _)⟩
    intro a w9 hbase hroom hdef hΦ hV
    have h : (phiPut W w w.heap.size (w2.heap.size + 1) ROWS BOXES f k1 (mark e q) (.slice va f.length vc)) 3 [Rel.slot a 37, Rel.slot a 39, undef] w9 := hΦ
    clear hbase hroom hdef hΦ hV
    obtain ⟨⟨v9, hM9⟩, hk9⟩ := (show Inv9 w w.heap.size (w2.heap.size + 1) ROWS BOXES (f ++ k1 ++ mark e q) w9 ∧ KeepsOthers W w9 from h)
    refine ⟨hk9, fun _ => ⟨(hM9.bx _ HMem.out.2.2.2.1).2.2, (hM9.bx _ HMem.out.2.2.2.2).2.2⟩, v9, ?_⟩
    rw [HFS.out, ← HEq.out.1, ← HEq.out.2, ← List.append_assoc]
    exact hM9
  case done =>
    rintro D ys W hD hys ⟨v, hM⟩ hKd
    have hF : FP (fun i => chunk (dataB e q l) i ++ mark e q) ys = packB e q l := by
      rw [fp_map, hys, packN_flat]
      unfold packB
      rw [HA.out.len, HK.out.1]
    rw [hF] at hM
    obtain ⟨va, vc, rfl, _⟩ := own_row hM.own
    have c9 := hM.box.cell
    have HM9 := Lib.hid hM
    clear hM hF
    gi_wp2
    refine ⟨by simp, .inl ⟨_, _, rfl, run_takeDeferred hKd, ?_⟩⟩
    refine ⟨_, results_tmp2 rfl _ _ _, .slice va (packB e q l).length vc, rfl, ownsRow_putObj HM9.out.own _ hKd rfl, HM9.out.bel.trans (belowK_b (w := w) (Nat.le_refl _) W D _ _ (by simp only [World.size_alloc] at hD; omega) hKd rfl rfl)⟩
  case stop =>
    rintro D c pre W _ _ h _
    exact h.elim
end Go.Proofs.Ytdgfoldobofgoaa.Frm
/- Frame: the landed way back: the halves of a stamp, stamps that are alike, what is between the stamps. -/
namespace Go.Proofs.Ytdgfoldobofgoaa.Frm
open Go.RowKit
open Go.Sort
open Kit
open Oct
open Chk
open Rng
set_option linter.unusedVariables false

set_option maxHeartbeats 1000000 in
theorem equal_any (a1 a2 : Option Addr) (n1 n2 c1 c2 : Nat) (l1 l2 : Bs) (w : World) (h1 : l1.length = n1) (h2 : l2.length = n2) (e1 : a1 = none → n1 = 0) (e2 : a2 = none → n2 = 0) (r1 : RowB w a1 l1) (r2 : RowB w a2 l2) :
    Calls Try.prog 58 #[.slice a1 n1 c1, .slice a2 n2 c2] w fun e w' => e = .returned (.bool (decide (l1 = l2))) ∧ w = w' := by
  have k1 : (convert 27 9 (.slice a1 n1 c1)).run Try.prog w = .ok (.string ⟨l1.toArray⟩) w := conv_row Try.underlying27 Try.underlying5 Try.underlying9 h1 e1 r1
  have k2 : (convert 27 9 (.slice a2 n2 c2)).run Try.prog w = .ok (.string ⟨l2.toArray⟩) w := conv_row Try.underlying27 Try.underlying5 Try.underlying9 h2 e2 r2
  by_cases h : l1 = l2
  · subst h
    have hd := Lib.hid (decide_eq_true (rfl : l1 = l1))
    clear h1 h2 e1 e2 r1 r2
    go_enter Try.func58, Try.ntmps58
    go_wp2
    go_ret
    exact ⟨ret_bool (by simp), rfl⟩
  · have hd := Lib.hid (decide_eq_false h)
    clear h1 h2 e1 e2 r1 r2
    go_enter Try.func58, Try.ntmps58
    go_wp2
    go_ret
    refine ⟨ret_bool ?_, rfl⟩
    rw [hd.out]
    simp [h]
theorem equal_at (v1 v2 : Value) (n : Nat) (l1 l2 : Bs) (w : World) (h1 : l1.length = n) (h2 : l2.length = n) (r1 : AtB w v1 n l1) (r2 : AtB w v2 n l2) :
    Calls Try.prog 58 #[v1, v2] w fun e w' => e = .returned (.bool (decide (l1 = l2))) ∧ w = w' := by
  obtain ⟨b1, o1, c1, rfl, _, _, q1⟩ := r1
  obtain ⟨b2, o2, c2, rfl, _, _, q2⟩ := r2
  exact equal_any _ _ n n c1 c2 l1 l2 w h1 h2 (fun e => by cases e) (fun e => by cases e) q1 q2

theorem run_cv_u64 (z : Int) (N : Nat) (hz : toU64 z = N) (w : World) : (convert 3 95 (.int .i64 z)).run Try.prog w = .ok (.int .u64 (N : Nat)) w := by
  subst hz
  simp [go_sem]
  exact wrap_u z
theorem toU_toI (N : Nat) (h : N < 18446744073709551616) : toU64 (toI64 N) = N := by unfold toU64 toI64; split <;> omega
theorem and_half (N : Nat) (h : N < 18446744073709551616) : Go.bits .and .u64 (N : Int) 4294967295 = ((N % 4294967296 : Nat) : Int) := by
  have := bits_and_u64_nat N 4294967295 h (by omega)
  rw [show ((4294967295 : Nat) : Int) = 4294967295 from rfl] at this
  rw [this, show (4294967295 : Nat) = 2 ^ 32 - 1 from rfl, Nat.and_two_pow_sub_one_eq_mod]
set_option maxHeartbeats 1000000 in
theorem halves_any (v : Value) (e q : Nat) (he : e < 4294967296) (hq : q < 4294967296) (w : World) (h : AtB w v 8 (mark e q)) :
    Calls Try.prog 47 #[v] w fun e' w' => e' = .returned (.tuple #[.int .i64 (e : Nat), .int .i64 (q : Nat)]) ∧ Below w.heap.size w w' := by
  obtain ⟨b, o, c, rfl, h1, h2, h3⟩ := h
  have hN : e * 4294967296 + q < 18446744073709551616 := by omega
  have hr : rInt (some (mark e q)) = (toI64 (e * 4294967296 + q), some []) := by
    simp only [rInt]
    rw [if_pos (by rw [mark_length]; omega), List.take_of_length_le (by rw [mark_length]; omega), List.drop_of_length_le (by rw [mark_length]; omega), ← mark_be e q hq, numB_be8 _ hN]
  have HA := Lib.hid (and_half _ hN)
  have HM := Lib.hid (show ((e * 4294967296 + q : Nat) : Int) / 4294967296 = (e : Nat) ∧ (((e * 4294967296 + q) % 4294967296 : Nat) : Int) = (q : Nat) from ⟨by omega, by omega⟩)
  obtain ⟨z, hz⟩ : ∃ z, z = toI64 (e * 4294967296 + q) := ⟨_, rfl⟩
  have hzu : toU64 z = e * 4294967296 + q := by rw [hz]; exact toU_toI _ hN
  rw [← hz] at hr
  obtain ⟨N, hNN⟩ : ∃ N, N = e * 4294967296 + q := ⟨_, rfl⟩
  rw [← hNN] at hzu HA HM hN
  have HR := Lib.hid hr
  have HZ := Lib.hid (fun W => run_cv_u64 z N hzu W)
  clear hz hr hzu hNN
  go_enter Try.func47, Try.ntmps47
  go_wp2_with fail
  refine (new_any (some ⟨b, o, none⟩) 8 c (mark e q) w (mark_length e q) (fun h => by cases h) h3 (by omega)).mono ?_
  rintro e1 w1 ⟨p, rfl, hR, hb⟩
  have HB := Lib.hid hb
  have hp := rdr_ge hR
  go_wp2_with fail
  refine (int_rdr_is hR HR.out).mono ?_
  rintro e2 w2 ⟨rfl, hR2, hg⟩
  have HB2 := Lib.hid (HB.out.trans (grown_below hg HB.out.size hp))
  have hcv := HZ.out w2
  clear hR hb hg hR2 hp
  go_wp2
  go_ret2
  refine ⟨?_, HB2.out⟩
  have hq2 : wrap64 (q : Int) = q := by unfold wrap64; omega
  show Ending.returned (.tuple #[.int .i64 ((N : Int) / 4294967296), .int .i64 (wrap64 (Go.bits .and .u64 (N : Int) 4294967295))]) = _
  rw [HA.out, HM.out.1, HM.out.2, hq2]

def StampR (K : Nat) (l : Bs) (e' : Ending) : Prop := ∃ r : Bool, e' = .returned (.bool r) ∧ (r = true ↔ ∀ i, i < K → stampL l i = stampL l 0)
set_option maxHeartbeats 2000000 in
theorem stamped_any (b o len cap K : Nat) (l : Bs) (w : World) (hl : l.length = len) (hK : 32 * K ≤ len) (hc : len ≤ cap) (hm : cap ≤ maxLen) (hE : RowB w (some ⟨b, o, none⟩) l) :
    Calls Try.prog 56 #[.slice (some ⟨b, o, none⟩) len cap, .int .i64 (K : Nat)] w fun e' w' => StampR K l e' ∧ w = w' := by
  have HE := Lib.hid hE
  have HC := Lib.hid (And.intro hl (And.intro hc hm))
  unfold maxLen at hm
  clear hE hl
  go_enter Try.func56, Try.ntmps56
  go_wp2
  go_loop [7] (fun iv => ∃ k : Nat, k ≤ K ∧ iv = .int .i64 k ∧ ∀ i, i < k → stampL l i = stampL l 0) (fun iv => K - (intOf iv).toNat)
  case atStart => exact ⟨0, Nat.zero_le _, rfl, fun i hi => by omega⟩
  case round =>
    obtain ⟨k, hk, rfl, hall⟩ := hrel
    have HAll := Lib.hid hall
    clear hall
    by_cases hlt : k < K
    · go_wp2_with fail
      refine (stampAt_any b o len cap k l w HC.out.1 (by omega) HC.out.2.1 HC.out.2.2 HE.out).mono ?_
      rintro e1 w1 ⟨v1, rfl, hv1, rfl⟩
      have HV1 := Lib.hid hv1
      clear hv1
      go_wp2_with fail
      refine (stampAt_any b o len cap 0 l w HC.out.1 (by omega) HC.out.2.1 HC.out.2.2 HE.out).mono ?_
      rintro e2 w2 ⟨v2, rfl, hv2, rfl⟩
      have HV2 := Lib.hid hv2
      clear hv2
      go_wp2_with fail
      refine (equal_at v1 v2 8 _ _ w (stampL_length (by rw [HC.out.1]; omega)) (stampL_length (by rw [HC.out.1]; omega)) HV1.out HV2.out).mono ?_
      rintro e3 w3 ⟨rfl, rfl⟩
      by_cases heq : stampL l k = stampL l 0
      · rw [decide_eq_true heq]
        have HQ := Lib.hid heq
        clear heq
        go_wp2
        go_round
        case rel => exact ⟨k + 1, by omega, by go_num, fun i hi => by
          rcases Nat.lt_or_ge i k with h | h
          · exact HAll.out i h
          · obtain rfl : i = k := by omega
            exact HQ.out⟩
        case measure => simp [intOf]; omega
      · rw [decide_eq_false heq]
        have HQ := Lib.hid heq
        clear heq
        go_wp2
        go_ret
        exact ⟨⟨false, rfl, ⟨(fun h => by cases h), fun h => absurd (h k hlt) HQ.out⟩⟩, rfl⟩
    · obtain rfl : k = K := by omega
      go_wp2
      go_ret
      exact ⟨⟨true, rfl, ⟨fun _ => HAll.out, fun _ => rfl⟩⟩, rfl⟩

/-- A round that appends one list. -/
def phiOne (W w0 : World) (base B : Nat) (rows : List (Option Addr × Bs)) (boxes : List (Nat × TypeId × Value)) (f k1 : Bs) (v : Value) : Nat → List Value → World → Prop
  | 0, _, w => w = W.drew
  | 1, vs, w => ∃ u, vs = [u] ∧ Mid w0 base B rows boxes (f ++ k1) w v u ∧ KeepsOthers W w
  | _, _, w => Inv9 w0 base B rows boxes (f ++ k1) w ∧ KeepsOthers W w
theorem one_v0 {W w0 w : World} {base B : Nat} {rows : List (Option Addr × Bs)} {boxes : List (Nat × TypeId × Value)} {f k1 : Bs} {v : Value} {j : Nat} {vs : List Value} (hM : Mid w0 base B rows boxes f W v v) (hj : j ≤ 0) (h : phiOne W w0 base B rows boxes f k1 v j vs w) : w.cell? ⟨B, 0, none⟩ = some v := by
  match j, hj with
  | 0, _ => obtain rfl : w = W.drew := h; exact (mid_drew hM).box.cell
theorem dataL_flat (s : Bs) : ∀ k, 32 * k ≤ s.length → (List.range k).flatMap (fun i => (s.drop (32 * i)).take 24) = dataL s k
  | 0, _ => rfl
  | k + 1, h => by rw [List.range_succ, List.flatMap_append, dataL_flat s k (by omega), ← dataL_succ (s := s) (k := k) (by omega)]; simp

attribute [local go_sem] Oper.semAt_some
set_option maxRecDepth 100000 in
set_option maxHeartbeats 8000000 in
theorem dataIn_any (b o cap K : Nat) (l : Bs) (w : World) (hK : 1 ≤ K) (hl : 32 * K ≤ l.length) (hm : l.length ≤ 4000) (hc : 32 * K ≤ cap) (hcm : cap ≤ maxLen) (hE : RowB w (some ⟨b, o, none⟩) l) :
    Calls Try.prog 57 #[.slice (some ⟨b, o, none⟩) (32 * K) cap] w fun e' w' => ∃ v, e' = .returned v ∧ OwnB w' w.heap.size v (dataL l K) ∧ Below w.heap.size w w' := by
  have HE := Lib.hid hE
  have hblt := Kit.row_lt encB_len (by omega) hE (by omega)
  clear hE
  unfold maxLen at hcm
  refine (callsIn_wide (n := 9)).1 ?_
  refine callsIn_of_wp_marks Try.func57 rfl trivial ?_ rfl
  simp only [Try.ntmps57, List.size_toArray, List.length_cons, List.length_nil, Nat.reduceAdd, Nat.reduceSub, Array.replicate_succ, Array.replicate_zero, List.push_toArray, List.append_toArray, List.nil_append, List.cons_append]
  gi_wp2_with fail
  refine ⟨trivial, callsIn_wide.2 ((pieces_any (some ⟨b, o, none⟩) (32 * K) cap 32 _).mono ?_)⟩
  rintro e4 w5 ⟨rfl, rfl⟩
  simp only [World.size_alloc]
  gi_wp2_with fail
  obtain ⟨ROWS, hROWS⟩ : ∃ R, R = ([(some ⟨b, o, none⟩, l)] : List (Option Addr × Bs)) := ⟨_, rfl⟩
  obtain ⟨BOXES, hBOXES⟩ : ∃ R, R = ([(w.heap.size + 1, tB, .slice (some ⟨b, o, none⟩) (32 * K) cap), (w.heap.size + 1 + 1, 3, .int .i64 32)] : List (Nat × TypeId × Value)) := ⟨_, rfl⟩
  have HMem : Hid (((some ⟨b, o, none⟩ : Option Addr), l) ∈ ROWS ∧ (w.heap.size + 1, tB, Value.slice (some ⟨b, o, none⟩) (32 * K) cap) ∈ BOXES ∧ (w.heap.size + 1 + 1, 3, Value.int .i64 32) ∈ BOXES) := Lib.hid (by rw [hROWS, hBOXES]; simp)
  have HM : Hid (Mid w w.heap.size w.heap.size ROWS BOXES []
      (((w.alloc (.cells #[.slice none 0 0] 27)).alloc (.cells #[.slice (some ⟨b, o, none⟩) (32 * K) cap] 27)).alloc (.cells #[.int .i64 32] 3)) (.slice none 0 0) (.slice none 0 0)) := Lib.hid (by
    have b0 := Boxed.new w tB (.slice none 0 0)
    have b1 := Boxed.new (w.alloc (.cells #[.slice none 0 0] tB)) tB (.slice (some ⟨b, o, none⟩) (32 * K) cap)
    have b2 := Boxed.new ((w.alloc (.cells #[.slice none 0 0] tB)).alloc (.cells #[.slice (some ⟨b, o, none⟩) (32 * K) cap] tB)) 3 (.int .i64 32)
    simp only [World.size_alloc] at b1 b2
    refine ⟨(b0.alloc _).alloc _, owns_nil _ _ _, (fun i h => by cases h), ?_, ?_, ?_, ⟨Nat.le_refl _, Nat.le_refl _⟩, (((below_alloc w _).alloc (by simp) _).alloc (by simp; omega) _)⟩
    · intro r hr q' hq'
      rw [hROWS] at hr
      simp only [List.mem_cons, List.not_mem_nil, or_false] at hr
      subst hr
      injection hq' with hq'
      subst hq'
      exact ⟨by simp [Value.ownBlock], by simp only [World.size_alloc]; omega⟩
    · intro r hr
      rw [hROWS] at hr
      simp only [List.mem_cons, List.not_mem_nil, or_false] at hr
      subst hr
      exact row_alloc (row_alloc (row_alloc HE.out _) _) _
    · intro x hx
      rw [hBOXES] at hx
      simp only [List.mem_cons, List.not_mem_nil, or_false] at hx
      rcases hx with rfl | rfl
      · exact ⟨by simp, ne_u8, b1.alloc _⟩
      · exact ⟨by simp; omega, (by show (3 : Nat) ≠ 5; decide), b2⟩)
  have HSt := Lib.hid (And.intro ((HM.out.bx _ HMem.out.2.1).2.2) ((HM.out.bx _ HMem.out.2.2).2.2))
  have hfg : ∀ k, k < K → ((l.drop (32 * k)).take 24).length = 24 := fun k hk => by rw [List.length_take, List.length_drop]; omega
  have HFG := Lib.hid hfg
  have HC := Lib.hid (And.intro hc (And.intro hl hm))
  clear hROWS hBOXES hfg
  refine wpIn_rangeFunc_ownF rfl (by omega) (gf := 52) (lb := #[.pointer (some ⟨w.heap.size + 1, 0, none⟩), .pointer (some ⟨w.heap.size + 1 + 1, 0, none⟩)]) rfl trivial (enters_of Try.func52 (by kernel_rfl) rfl)
    (pieces_stops Fence.wide 8 trivial rfl (by omega) (w.heap.size + 1) (w.heap.size + 1 + 1) b o (32 * K) cap 32 K _ (by omega) rfl (by omega) hc (by unfold maxLen; omega) HSt.out) (fun h k => kps_t h k) (fun _ _ _ _ _ hl hc _ => kps_b hl hc) (Below.refl _ _) (fun _ => rfl)
    (fun pre W => Inv9 w w.heap.size w.heap.size ROWS BOXES (FP (fun i => (l.drop (32 * i)).take 24) pre) W)
    (fun _ _ _ => False)
    (inv_from w w.heap.size w.heap.size _ _ _ (fun pre => FP (fun i => (l.drop (32 * i)).take 24) pre) (by simp only [World.size_alloc]; omega))
    (fun _ _ _ _ _ hs _ _ => hs)
    ⟨_, HM.out⟩
    (fun x => { tmps := #[.slice (some ⟨b, o, none⟩) (32 * K) cap, undef, .slice none 0 0, .pointer (some ⟨w.heap.size, 0, none⟩), .slice (some ⟨b, o + 32 * x.1, none⟩) 32 (cap - 32 * x.1),
          .slice (some ⟨b, o, none⟩) (32 * K) cap, .func (.func 52) #[] #[.pointer (some ⟨w.heap.size + 1, 0, none⟩), .pointer (some ⟨w.heap.size + 1 + 1, 0, none⟩)],
          .slice (some ⟨b, o + 32 * x.1, none⟩) 32 (cap - 32 * x.1), undef, undef, undef, undef, undef], defers := [] }) ?assign ?body ?done ?stop
  case assign =>
    intro l0 x W Kc hKc
    unfold encP
    gi_wp2
    exact hKc
  case body =>
    rintro l0 pre x W ⟨v, hMd⟩ hlen
    refine wpIn_block ?_
    obtain ⟨va, vc, rfl, _⟩ := own_row hMd.own
    have hfl := fp_length HFG.out pre
    have hrp := row_take (row_from (hMd.row _ HMem.out.1) (32 * x.1)) 24
    have HFS := Lib.hid (fp_snoc (fun i => (l.drop (32 * i)).take 24) pre x)
    have hcl := HFG.out x.1 x.2
    have hx32 : 32 * x.1 + 32 ≤ 32 * K := by have := x.2; omega
    have HC2 := Lib.hid (show 24 ≤ cap - 32 * x.1 ∧ 32 ≤ cap - 32 * x.1 from ⟨by omega, by omega⟩)
    obtain ⟨k1, hk1⟩ : ∃ k, k = (l.drop (32 * x.1)).take 24 := ⟨_, rfl⟩
    obtain ⟨f, hf⟩ : ∃ f, f = FP (fun i => (l.drop (32 * i)).take 24) pre := ⟨_, rfl⟩
    rw [← hk1] at hrp hcl
    rw [← hf] at hMd hfl
    have HMd := Lib.hid hMd
    have HK1 := Lib.hid (And.intro hcl hrp)
    have HF := Lib.hid (show f.length ≤ 24 * 130 by rw [hfl]; omega)
    have HEq := Lib.hid (And.intro hk1 hf)
    clear hMd hfl hrp hcl hk1 hf
    refine Rng.region_in (by kernel_rfl) (by kernel_rfl) (Rng.lets_block (Rng.lets_own _ _ _ _ _)) (Chn.any_chain (fun idx => match idx with | 0 => some (.slice va f.length vc) | 1 => some (.slice (some ⟨b, o + 32 * x.1, none⟩) 32 (cap - 32 * x.1)) | 2 => some (.slice (some ⟨b, o + 32 * x.1, none⟩) 24 (cap - 32 * x.1)) | _ => none) [3, 4] (phiOne W w w.heap.size w.heap.size ROWS BOXES f k1 (.slice va f.length vc)) (by kernel_rfl) (by kernel_rfl) (by kernel_rfl) (by kernel_rfl) (by decide) (by kernel_rfl) (rfl) ?_ ?_)
    · refine ⟨?_, ?_, ?_, ?_, ?_, trivial⟩
      · intro a ww jj vs c hj0 hΦ
        have hj : jj ≤ 0 := Nat.le_trans hj0 (of_decide_eq_true (by kernel_rfl))
        refine .inl ⟨Rel.wanted_free (by kernel_rfl) _, ?_⟩
        exact Rel.wp_ld _ _ rfl (c.old 3 (v := .pointer (some ⟨w.heap.size, 0, none⟩)) (by kernel_rfl) (by kernel_rfl)) (run_ld_sl (one_v0 HMd.out hj hΦ)) ⟨rfl, rfl⟩
      · intro a ww jj vs c hj0 hΦ
        have hj : jj ≤ 0 := Nat.le_trans hj0 (of_decide_eq_true (by kernel_rfl))
        refine .inl ⟨Rel.wanted_free (by kernel_rfl) _, ?_⟩
        exact Rel.wp_mv _ rfl ⟨congrArg (a.put _) (c.old 4 (v := .slice (some ⟨b, o + 32 * x.1, none⟩) 32 (cap - 32 * x.1)) (by kernel_rfl) (by kernel_rfl)), rfl⟩
      · intro a ww jj vs c hj0 hΦ
        have hj : jj ≤ 0 := Nat.le_trans hj0 (of_decide_eq_true (by kernel_rfl))
        refine .inl ⟨Rel.wanted_free (by kernel_rfl) _, ?_⟩
        exact Rel.wp_sl _ _ _ _ _ rfl (c.get 1 9 (by kernel_rfl) rfl) rfl rfl rfl (run_cut _ 32 24 _ (by omega) HC2.out.2 ww) ⟨rfl, rfl⟩
      · refine ⟨0, rfl, ?_⟩
        intro a ww c hΦ
        have h : (phiOne W w w.heap.size w.heap.size ROWS BOXES f k1 (.slice va f.length vc)) 0 [] ww := hΦ
        clear hΦ
        refine ⟨Rel.wanted_free (by kernel_rfl) _, ?_⟩
        obtain rfl : ww = W.drew := h
        obtain ⟨u, wz, hr, hm9, hk9, _⟩ := mid_run (mid_drew HMd.out) 27 (c := cap - 32 * x.1) HK1.out.1 HK1.out.2 (fun h => by cases h) (by have := HF.out; omega)
        exact Chn.wp_ap _ _ _ rfl (c.get 0 8 (by kernel_rfl) rfl) (c.get 2 10 (by kernel_rfl) rfl) hr ⟨_, rfl, u, rfl, hm9, (KeepsOthers.drew W).trans hk9⟩
      · refine ⟨1, rfl, ?_⟩
        intro a ww c hΦ
        have h : (phiOne W w w.heap.size w.heap.size ROWS BOXES f k1 (.slice va f.length vc)) 1 [Rel.slot a 11] ww := hΦ
        clear hΦ
        refine ⟨Rel.wanted_free (by kernel_rfl) _, ?_⟩
        obtain ⟨u, hu, hm8, hk8⟩ := h
        injection hu with hu _
        obtain ⟨ua, uc, hue, _⟩ := own_row hm8.own
        subst hue
        exact Chn.wp_st _ _ _ rfl (c.old 3 (v := .pointer (some ⟨w.heap.size, 0, none⟩)) (by kernel_rfl) (by kernel_rfl)) hu (run_st_sl hm8.box.cell hm8.box.frozen) ⟨undef, rfl, ⟨_, mid_store hm8⟩, hk8.trans (KeepsOthers.setCell _ _ _)⟩
    intro a w9 hbase hroom hdef hΦ hV
    have h : (phiOne W w w.heap.size w.heap.size ROWS BOXES f k1 (.slice va f.length vc)) 2 [Rel.slot a 11, undef] w9 := hΦ
    clear hbase hroom hdef hΦ hV
    obtain ⟨⟨v9, hM9⟩, hk9⟩ := (show Inv9 w w.heap.size w.heap.size ROWS BOXES (f ++ k1) w9 ∧ KeepsOthers W w9 from h)
    refine ⟨hk9, fun _ => ⟨(hM9.bx _ HMem.out.2.1).2.2, (hM9.bx _ HMem.out.2.2).2.2⟩, v9, ?_⟩
    rw [HFS.out, ← HEq.out.1, ← HEq.out.2]
    exact hM9
  case done =>
    rintro D ys W hD hys ⟨v, hM⟩ hKd
    have hF : FP (fun i => (l.drop (32 * i)).take 24) ys = dataL l K := by
      rw [fp_map, hys, dataL_flat l K HC.out.2.1]
    rw [hF] at hM
    obtain ⟨va, vc, rfl, _⟩ := own_row hM.own
    have c9 := hM.box.cell
    have HM9 := Lib.hid hM
    clear hM hF
    gi_wp2
    refine ⟨by simp, .inl ⟨_, _, rfl, run_takeDeferred hKd, ?_⟩⟩
    exact ⟨_, results_tmp rfl _ _ _, .slice va (dataL l K).length vc, rfl, ownsRow_putObj HM9.out.own _ hKd rfl, HM9.out.bel.trans (belowK_b (w := w) (Nat.le_refl _) W D _ _ (by simp only [World.size_alloc] at hD; omega) hKd rfl rfl)⟩
  case stop =>
    rintro D c pre W _ _ h _
    exact h.elim
end Go.Proofs.Ytdgfoldobofgoaa.Frm
/- Frame: the landed read and Unpack; the landed frame keeps all its contracts. -/
namespace Go.Proofs.Ytdgfoldobofgoaa.Frm
open Go.RowKit
open Go.Sort
open Kit
open Oct
open Chk
open Rng
set_option linter.unusedVariables false

theorem or_two (x y : UInt8) : Go.bits .or .i64 ((x.toNat : Int) * 256) (y.toNat : Int) = ((x.toNat * 256 + y.toNat : Nat) : Int) := by
  have h1 := x.toNat_lt
  have h2 := y.toNat_lt
  have h : (BitVec.ofInt 64 ((x.toNat : Int) * 256) ||| BitVec.ofInt 64 (y.toNat : Int)).toNat = x.toNat * 256 + y.toNat := by
    rw [BitVec.toNat_or, BitVec.toNat_ofInt, BitVec.toNat_ofInt, show ((x.toNat : Int) * 256 % ((2 ^ 64 : Nat) : Int)).toNat = x.toNat * 256 by omega, show ((y.toNat : Int) % ((2 ^ 64 : Nat) : Int)).toNat = y.toNat by omega]
    exact nat_join 8 _ _ (by omega) (by omega)
  show IntKind.i64.wrap ((BitVec.ofInt 64 ((x.toNat : Int) * 256) ||| BitVec.ofInt 64 (y.toNat : Int)).toNat : Int) = _
  rw [h, IntKind.wrap_i64]; omega

/-- What read answers. -/
def ReadR (w : World) (s : Bs) (e' : Ending) (w' : World) : Prop := (unpackB s = none ∧ e' = .returned (.tuple #[.slice none 0 0, .bool false]) ∨ ∃ e q b k v, unpackB s = some (e, q, b, k) ∧ e' = .returned (.tuple #[v, .bool true]) ∧ NewB w' w.heap.size v b) ∧ Below w.heap.size w w'

set_option maxRecDepth 100000 in
set_option maxHeartbeats 8000000 in
theorem read_any (aa : Option Addr) (len cap : Nat) (l : Bs) (w : World) (h : Arg w aa len cap l) (hm : len ≤ 4000) : Calls Try.prog 46 #[.slice aa len cap] w fun e' w' => ReadR w l e' w' := by
  obtain ⟨hl, hlc, hcm, hn, hE⟩ := h
  subst hl
  by_cases h32 : l.length < 32
  · have h32i : (l.length : Int) < 32 := by omega
    have HN := Lib.hid (show unpackB l = none by unfold unpackB; rw [if_pos h32])
    clear hE
    go_enter Try.func46, Try.ntmps46
    go_wp2
    go_ret2
    exact ⟨.inl ⟨HN.out, rfl⟩, Below.refl _ _⟩
  · obtain ⟨b, o, rfl⟩ := row_at hE (by omega)
    have h32i : ¬ (l.length : Int) < 32 := by omega
    have x0 := byte_at hE (k := 0) (by omega)
    have x1 := byte_at hE (k := 1) (by omega)
    rw [Nat.add_zero] at x0
    have hnn : (l.getD 0 0).toNat * 256 + (l.getD 1 0).toNat = two l := by unfold two; omega
    have hn3 := two_lt l
    have HE := Lib.hid hE
    have HX := Lib.hid (And.intro x0 x1)
    have HLand := Lib.hid (fun hk => unpack_land h32 hk)
    obtain ⟨n, hnt⟩ : ∃ n, n = two l := ⟨_, rfl⟩
    rw [← hnt] at hnn hn3 HLand
    have HNN := Lib.hid hnn
    generalize l.getD 0 0 = X0 at *
    generalize l.getD 1 0 = X1 at *
    obtain ⟨K, hK⟩ : ∃ K, secs n = K := ⟨_, rfl⟩
    have hsp : 1 ≤ K := by rw [← hK]; exact secs_pos n
    have hsr : n + 6 ≤ 24 * K := by rw [← hK]; exact secs_room n
    have hsl : K ≤ 2732 := by rw [← hK]; unfold secs; omega
    have HNone := Lib.hid (fun (hk : l.length < 32 * K) => show unpackB l = none by
      unfold unpackB
      rw [if_neg h32, if_pos (by rw [← hnt, hK]; exact hk)])
    rw [hK] at HLand
    have HK := Lib.hid hK
    unfold maxLen at hcm
    clear hE x0 x1 hnn hnt hn hK
    go_enter Try.func46, Try.ntmps46
    go_wp2_with fail
    refine Chn.wp_region_chain (fun idx => match idx with | 0 => some (.slice (some ⟨b, o, none⟩) l.length cap) | 1 => some (.pointer (some ⟨b, o, none⟩)) | 2 => some (.int .u8 (X0.toNat : Int)) | 3 => some (.int .i64 (X0.toNat : Int)) | 4 => some (.int .i64 ((X0.toNat : Int) * 256)) | 5 => some (.slice (some ⟨b, o, none⟩) l.length cap) | 6 => some (.pointer (some ⟨b, o + 1, none⟩)) | 7 => some (.int .u8 (X1.toNat : Int)) | 8 => some (.int .i64 (X1.toNat : Int)) | 9 => some (.int .i64 (n : Nat)) | 10 => some (.int .i64 (n : Nat)) | _ => none) [] (fun (_ : Nat) (_ : List Value) (ww : World) => ww = w.drew) (by kernel_rfl) (by kernel_rfl) (by kernel_rfl) (by kernel_rfl) (by kernel_rfl) (by decide) (by kernel_rfl) (rfl) ?_ ?_
    · refine ⟨?_, ?_, ?_, ?_, ?_, ?_, ?_, ?_, ?_, ?_, ?_, trivial⟩
      · intro a ww jj vs c hj0 hΦ
        have hj : jj ≤ 0 := Nat.le_trans hj0 (of_decide_eq_true (by kernel_rfl))
        refine .inl ⟨Rel.wanted_free (by kernel_rfl) _, ?_⟩
        exact Rel.wp_mv _ rfl ⟨congrArg (a.put _) (c.old 0 (v := .slice (some ⟨b, o, none⟩) l.length cap) (by kernel_rfl) (by kernel_rfl)), rfl⟩
      · intro a ww jj vs c hj0 hΦ
        have hj : jj ≤ 0 := Nat.le_trans hj0 (of_decide_eq_true (by kernel_rfl))
        refine .inl ⟨Rel.wanted_free (by kernel_rfl) _, ?_⟩
        exact Rel.wp_ia _ _ _ rfl (c.get 0 11 (by kernel_rfl) rfl) rfl (run_at_b b o _ cap 0 (by omega) _) ⟨rfl, rfl⟩
      · intro a ww jj vs c hj0 hΦ
        have hj : jj ≤ 0 := Nat.le_trans hj0 (of_decide_eq_true (by kernel_rfl))
        refine .inl ⟨Rel.wanted_free (by kernel_rfl) _, ?_⟩
        exact Rel.wp_ld _ _ rfl (c.get 1 12 (by kernel_rfl) rfl) (by rw [show ww = w.drew from hΦ]; exact run_ld_byte (w := w.drew) HX.out.1) ⟨rfl, rfl⟩
      · intro a ww jj vs c hj0 hΦ
        have hj : jj ≤ 0 := Nat.le_trans hj0 (of_decide_eq_true (by kernel_rfl))
        refine .inl ⟨Rel.wanted_free (by kernel_rfl) _, ?_⟩
        exact Rel.wp_cv _ _ _ rfl (c.get 2 13 (by kernel_rfl) rfl) (run_cv_byte X0 _) ⟨rfl, rfl⟩
      · intro a ww jj vs c hj0 hΦ
        have hj : jj ≤ 0 := Nat.le_trans hj0 (of_decide_eq_true (by kernel_rfl))
        refine .inl ⟨Rel.wanted_free (by kernel_rfl) _, ?_⟩
        exact Rel.wp_bo _ _ _ _ _ rfl (c.get 3 14 (by kernel_rfl) rfl) rfl (by have := X0.toNat_lt; simp [go_sem, IntKind.wrap_i64]; omega) ⟨rfl, rfl⟩
      · intro a ww jj vs c hj0 hΦ
        have hj : jj ≤ 0 := Nat.le_trans hj0 (of_decide_eq_true (by kernel_rfl))
        refine .inl ⟨Rel.wanted_free (by kernel_rfl) _, ?_⟩
        exact Rel.wp_mv _ rfl ⟨congrArg (a.put _) (c.old 0 (v := .slice (some ⟨b, o, none⟩) l.length cap) (by kernel_rfl) (by kernel_rfl)), rfl⟩
      · intro a ww jj vs c hj0 hΦ
        have hj : jj ≤ 0 := Nat.le_trans hj0 (of_decide_eq_true (by kernel_rfl))
        refine .inl ⟨Rel.wanted_free (by kernel_rfl) _, ?_⟩
        exact Rel.wp_ia _ _ _ rfl (c.get 5 16 (by kernel_rfl) rfl) rfl (run_at_b b o _ cap 1 (by omega) _) ⟨rfl, rfl⟩
      · intro a ww jj vs c hj0 hΦ
        have hj : jj ≤ 0 := Nat.le_trans hj0 (of_decide_eq_true (by kernel_rfl))
        refine .inl ⟨Rel.wanted_free (by kernel_rfl) _, ?_⟩
        exact Rel.wp_ld _ _ rfl (c.get 6 17 (by kernel_rfl) rfl) (by rw [show ww = w.drew from hΦ]; exact run_ld_byte (w := w.drew) HX.out.2) ⟨rfl, rfl⟩
      · intro a ww jj vs c hj0 hΦ
        have hj : jj ≤ 0 := Nat.le_trans hj0 (of_decide_eq_true (by kernel_rfl))
        refine .inl ⟨Rel.wanted_free (by kernel_rfl) _, ?_⟩
        exact Rel.wp_cv _ _ _ rfl (c.get 7 18 (by kernel_rfl) rfl) (run_cv_byte X1 _) ⟨rfl, rfl⟩
      · intro a ww jj vs c hj0 hΦ
        have hj : jj ≤ 0 := Nat.le_trans hj0 (of_decide_eq_true (by kernel_rfl))
        refine .inl ⟨Rel.wanted_free (by kernel_rfl) _, ?_⟩
        exact Rel.wp_bo _ _ _ _ _ rfl (c.get 4 15 (by kernel_rfl) rfl) (c.get 8 19 (by kernel_rfl) rfl) (by simp only [go_sem]; simp; rw [or_two, HNN.out]) ⟨rfl, rfl⟩
      · intro a ww jj vs c hj0 hΦ
        have hj : jj ≤ 0 := Nat.le_trans hj0 (of_decide_eq_true (by kernel_rfl))
        refine .inl ⟨Rel.wanted_free (by kernel_rfl) _, ?_⟩
        exact Rel.wp_as _ rfl ⟨congrArg (a.put _) (c.get 9 20 (by kernel_rfl) rfl), rfl⟩
    intro a w8 hbase hroom hdef hΦ hV
    have h : (fun (_ : Nat) (_ : List Value) (ww : World) => ww = w.drew) 0 [] w8 := hΦ
    have s4 := hV 10 _ 4 _ rfl rfl rfl
    rw [Chn.act_puts [11, 12, 13, 14, 15, 16, 17, 18, 19, 20, 4] hbase hroom hdef (by kernel_rfl)]
    clear hbase hroom hdef hΦ hV
    simp only [List.foldl_cons, List.foldl_nil]
    generalize Rel.slot a 11 = u11 at *
    generalize Rel.slot a 12 = u12 at *
    generalize Rel.slot a 13 = u13 at *
    generalize Rel.slot a 14 = u14 at *
    generalize Rel.slot a 15 = u15 at *
    generalize Rel.slot a 16 = u16 at *
    generalize Rel.slot a 17 = u17 at *
    generalize Rel.slot a 18 = u18 at *
    generalize Rel.slot a 19 = u19 at *
    generalize Rel.slot a 20 = u20 at *
    rw [s4]
    clear s4
    subst h
    go_wp2_with fail
    refine (sectors_is n K (by omega) HK.out _).mono ?_
    rintro e1 w1 ⟨rfl, hw⟩
    subst hw
    by_cases hk : l.length < 32 * K
    · have hki : (l.length : Int) / 32 < (K : Int) := by omega
      have HN := Lib.hid (HNone.out hk)
      go_wp2
      go_ret2
      exact ⟨.inl ⟨HN.out, rfl⟩, below_drew w⟩
    · have hki : ¬ (l.length : Int) / 32 < (K : Int) := by omega
      have HU := Lib.hid (HLand.out hk)
      have hn19 : n ≤ 3000 := by omega
      have hnl : 24 * K ≤ 3000 := by omega
      clear hsl
      go_wp2_with fail
      refine (stamped_any b o l.length cap K l w.drew rfl (by omega) hlc (by unfold maxLen; omega) HE.out).mono ?_
      rintro e2 w2 ⟨⟨r, rfl, hr⟩, hw⟩
      subst hw
      cases r with
      | false =>
        have HN := Lib.hid (show unpackB l = none by
          rw [HU.out, if_neg]
          rintro ⟨h1, _⟩
          exact absurd (hr.2 h1) (by decide))
        clear hr
        go_wp2
        go_ret2
        exact ⟨.inl ⟨HN.out, rfl⟩, below_drew w⟩
      | true =>
        have HAlike := Lib.hid (hr.1 rfl)
        obtain ⟨n32, hn32⟩ : ∃ n, n = 32 * K := ⟨_, rfl⟩
        have hmul : (K : Int) * 32 = (n32 : Nat) := by omega
        have hle32 : n32 ≤ l.length := by omega
        have HD := dataIn_any b o cap K l w.drew hsp (by omega) hm (by omega) (by unfold maxLen; omega) HE.out
        rw [← hn32] at HD
        have HDat := Lib.hid HD
        clear hr HD hn32 hki hk
        go_wp2_with fail
        refine HDat.out.mono ?_
        rintro e3 w3 ⟨vd, rfl, hod, hbd⟩
        have hdl := dataL_length l K
        obtain ⟨gd, cd, rfl, hrd, hgb, hgl, hdc, hdm⟩ := own_form hod (by rw [hdl]; omega)
        rw [hdl] at hdc ⊢
        unfold maxLen at hdm
        have hbody := row_take (row_from hrd 6) n
        rw [Nat.zero_add, ← body_data l hsr] at hbody
        have HBd := Lib.hid (And.intro hrd (And.intro hbody (And.intro hdl (And.intro hgb hgl))))
        have HB3 := Lib.hid hbd
        clear hod hbd hrd hbody hdl hgb hgl
        go_wp2_with fail
        refine (stampAt_any b o l.length cap 0 l w3 rfl (by omega) hlc (by unfold maxLen; omega) (row_keep encB_len (show RowB w.drew (some ⟨b, o, none⟩) l from HE.out) HB3.out)).mono ?_
        rintro e4 w4 ⟨sv, rfl, hsv, hw⟩
        subst hw
        have HSv := Lib.hid hsv
        clear hsv
        go_wp2_with fail
        have hArg : Arg w3 (some ⟨gd, 6, none⟩) n (cd - 6) (bodyB l n) := ⟨bodyB_length l n, by omega, by unfold maxLen; omega, (fun h => by cases h), HBd.out.2.1⟩
        refine (dataOf_any sv (stampL l 0) (some ⟨gd, 6, none⟩) n (cd - 6) (bodyB l n) w3 HSv.out (stampL_length (by omega)) hArg hn19).mono ?_
        rintro e5 w5 ⟨gp, cp, rfl, hop, hbp⟩
        have hsn := HK.out
        rw [hsn] at hop ⊢
        have HP := Lib.hid (And.intro (own_row' hop) hbp)
        clear hArg hop hbp hsn
        go_wp2_with fail
        refine (equal_any (some ⟨gd, 0, none⟩) (some ⟨gp, 0, none⟩) (24 * K) (24 * K) cd cp (dataL l K) (dataP (stampL l 0) (bodyB l n)) w5 HBd.out.2.2.1 (by rw [dataP_length, bodyB_length, HK.out]) (fun h => by cases h) (fun h => by cases h) (row_keep encB_len HBd.out.1 HP.out.2) HP.out.1).mono ?_
        rintro e6 w6 ⟨rfl, hw⟩
        subst hw
        have HB5 := Lib.hid ((below_drew w).trans ((HB3.out.mono (Nat.le_refl _)).trans (HP.out.2.mono HB3.out.size)))
        by_cases heq : dataL l K = dataP (stampL l 0) (bodyB l n)
        · rw [decide_eq_true heq]
          have HS := Lib.hid (show unpackB l = some (numK l 24 4, numK l 28 4, bodyB l n, K) by rw [HU.out, if_pos ⟨HAlike.out, heq⟩])
          have HNew := Lib.hid (show NewB w5 w.heap.size (.slice (some ⟨gd, 6, none⟩) n (cd - 6)) (bodyB l n) from ⟨some ⟨gd, 6, none⟩, cd - 6, by rw [bodyB_length], by rw [bodyB_length]; omega, by unfold maxLen; omega, (fun h => by cases h), row_keep encB_len HBd.out.2.1 HP.out.2, fun q hq => by
            injection hq with hq
            subst hq
            exact ⟨HBd.out.2.2.2.1, Nat.lt_of_lt_of_le HBd.out.2.2.2.2 HP.out.2.size⟩⟩)
          clear heq
          go_wp2
          go_ret2
          exact ⟨.inr ⟨_, _, _, _, _, HS.out, rfl, HNew.out⟩, HB5.out⟩
        · rw [decide_eq_false heq]
          have HN := Lib.hid (show unpackB l = none by rw [HU.out, if_neg fun h => heq h.2])
          clear heq
          go_wp2
          go_ret2
          exact ⟨.inl ⟨HN.out, rfl⟩, HB5.out⟩

theorem unpack_nums {s : Bs} {e q k : Nat} {b : Bs} (h : unpackB s = some (e, q, b, k)) : mark e q = stampL s 0 ∧ 32 ≤ s.length := by
  unfold unpackB at h
  split at h
  · cases h
  · rename_i h32
    split at h
    · cases h
    · split at h
      · injection h with h
        injection h with h4 h
        injection h with h5 h
        subst h4 h5
        exact ⟨mark_stamp (by omega), by omega⟩
      · cases h

set_option maxRecDepth 100000 in
set_option maxHeartbeats 4000000 in
theorem unpack_any (aa : Option Addr) (len cap : Nat) (l : Bs) (w : World) (h : Arg w aa len cap l) (hm : len ≤ 4000) : Calls Try.prog 37 #[.slice aa len cap] w fun e' w' => UnpN w l e' w' := by
  have HA := Lib.hid h
  clear h
  go_enter Try.func37, Try.ntmps37
  go_wp2_with fail
  refine (read_any aa len cap l w HA.out hm).mono ?_
  rintro e1 w1 ⟨(⟨hn, rfl⟩ | ⟨e, q, b, k, v, hs, rfl, hv⟩), hb⟩
  · have HB := Lib.hid hb
    have HN := Lib.hid (ansU_none hn)
    clear hb hn
    go_wp2
    refine bodyPost_ret (results_tmp5 rfl _ _ _) rfl ?_
    show UnpN w l _ _
    unfold UnpN
    rw [HN.out]
    exact ⟨_, rfl, new_nil _ _, HB.out⟩
  · obtain ⟨h1, h2, h3, h4, h5, h6⟩ := unpack_some hs
    obtain ⟨h7, h8⟩ := unpack_nums hs
    have HS := Lib.hid (ansU_some hs)
    obtain ⟨av, cv, rfl, hv1, hv2, hv3, hv4, hv5⟩ := hv
    have hl := HA.out.len
    have hlc := HA.out.cap
    have hcm := HA.out.max
    have hr := HA.out.row
    obtain ⟨sb, so, rfl⟩ := row_at hr (by omega)
    have HR := Lib.hid (row_keep encB_len hr hb)
    have HB := Lib.hid hb
    have HV := Lib.hid (show NewB w1 w.heap.size (.slice av b.length cv) b from ⟨av, cv, rfl, hv1, hv2, hv3, hv4, hv5⟩)
    have HM := Lib.hid h7
    have HK := Lib.hid h4
    have hbl : b.length ≤ 65535 := by omega
    unfold maxLen at hcm hv2
    clear hs h6 h7 hr hb hv3 hv4 hv5 h4
    subst hl
    go_wp2_with fail
    refine (stampAt_any sb so l.length cap 0 l w1 rfl (by omega) hlc (by unfold maxLen; omega) HR.out).mono ?_
    rintro e4 w4 ⟨sv, rfl, hsv, hw⟩
    subst hw
    rw [← HM.out] at hsv
    have HSv := Lib.hid hsv
    clear hsv
    go_wp2_with fail
    refine (halves_any sv e q h1 h2 w1 HSv.out).mono ?_
    rintro e5 w5 ⟨rfl, hb5⟩
    have HB5 := Lib.hid (below_keep HB.out hb5)
    have HV5 := Lib.hid (show NewB w5 w.heap.size (.slice av b.length cv) b from by
      obtain ⟨a, c, he, n1, n2, n3, n4, n5⟩ := HV.out
      exact ⟨a, c, he, n1, n2, n3, row_keep encB_len n4 hb5, fun q hq => ⟨(n5 q hq).1, Nat.lt_of_lt_of_le (n5 q hq).2 hb5.size⟩⟩)
    clear hb5
    go_wp2_with fail
    refine (sectors_is b.length k hbl HK.out.symm w5).mono ?_
    rintro e6 w6 ⟨rfl, hw⟩
    subst hw
    go_wp2
    refine bodyPost_ret (results_tmp5 rfl _ _ _) rfl ?_
    show UnpN w l _ _
    unfold UnpN
    rw [HS.out]
    exact ⟨_, rfl, HV5.out, HB5.out⟩

/-- The landed frame keeps its contracts. -/
theorem frame_prog : Prog where
  sectors := fun n w hn => (sectors_any n hn w).mono fun e w' ⟨he, hw⟩ => ⟨he, by subst hw; exact Below.refl _ _⟩
  pack := fun e q aa len cap l w he hq h hm => by
    unfold PackR packA
    by_cases hi : inE e q
    · rw [if_pos hi]
      obtain ⟨⟨h1, h2⟩, h3, h4⟩ := hi
      obtain ⟨en, rfl⟩ : ∃ n : Nat, e = n := ⟨e.toNat, by omega⟩
      obtain ⟨qn, rfl⟩ : ∃ n : Nat, q = n := ⟨q.toNat, by omega⟩
      exact (pack_ok en qn (by omega) (by omega) aa len cap l w h hm).mono fun e' w' ⟨v, he, ho, hb⟩ => ⟨v, he, new_own ho, hb⟩
    · rw [if_neg hi]
      refine (pack_bad e q he hq aa len cap w hi).mono fun e' w' ⟨he, hw⟩ => ?_
      subst hw
      exact ⟨_, he, new_nil _ _, Below.refl _ _⟩
  unpack := fun aa len cap l w h hm => unpack_any aa len cap l w h hm

end Go.Proofs.Ytdgfoldobofgoaa.Frm
/- Journal: the landed journal over the landed disk and frame. -/
namespace Go.Proofs.Ytdgfoldobofgoaa.Jrn
set_option linter.unusedVariables false
theorem nil_size : NilSize := fun w => (Dsk.nsize_any w).mono fun e w' ⟨h1, h2⟩ => ⟨h1, by subst h2; exact Go.RowKit.Below.refl _ _⟩
theorem jrn_prog : JProg Dsk.Dk Jr := journal_prog Dsk.disk_prog Frm.frame_prog nil_size
end Go.Proofs.Ytdgfoldobofgoaa.Jrn
