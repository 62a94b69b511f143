/- Octet: numbers and texts that are put. -/
import Derived.Test.YtijenfmkgedkfaaOctTxt
import Derived.OwnWalk
import Derived.Lib.AppendStr
import Derived.Deep.DeepAppendWide
namespace Go.Proofs.Ytijenfmkgedkfaa.Oct
open Go.RowKit
open Go.Sort
open Kit
set_option linter.unusedVariables false

theorem info8 : (Try.prog.info? 5).map (fun i => (i.zero, i.size, i.bytes)) = some (some (.int .u8 0), 1, 1) := by kernel_rfl

/-- A list of bytes of the call's own. -/
abbrev OwnB (w : World) (base : Nat) (v : Value) (l : List UInt8) : Prop := Kit.Owns encB 1 5 w base v l

def cellsB (l : List UInt8) : List Value := l.map fun b => Value.int .u8 (b.toNat : Int)
theorem flat_cells : ∀ l : List UInt8, Kit.flat encB l = cellsB l
  | [] => rfl
  | b :: l => by
    show encB b ++ Kit.flat encB l = _
    rw [flat_cells l]; rfl
theorem cellsB_length (l : List UInt8) : (cellsB l).length = l.length := by simp [cellsB]
theorem cellsB_one (l : List UInt8) : ∀ u ∈ cellsB l, u.oneCell' = true := by
  intro u hu
  simp only [cellsB, List.mem_map] at hu
  obtain ⟨b, _, rfl⟩ := hu
  rfl
theorem cellsB_append (l k : List UInt8) : cellsB (l ++ k) = cellsB l ++ cellsB k := by simp [cellsB]
theorem strCells_eq (s : ByteArray) : Lib.strCells s = cellsB s.data.toList := rfl
theorem own_iff {w : World} {base : Nat} {v : Value} {l : List UInt8} : OwnB w base v l ↔ w.ownsRow base 5 1 v l.length (cellsB l) := by
  unfold OwnB Kit.Owns; rw [flat_cells]

/-- The cells of a list that lies in memory. -/
theorem row_cells {w : World} {a : Option Addr} {l : List UInt8} (h : RowB w a l) : ∀ ad, a = some ad → ∀ j u, (cellsB l)[j]? = some u → w.cell? (ad.add j) = some u := by
  intro ad had j u hu
  have hj : j < l.length := by rw [← cellsB_length]; exact (List.getElem?_eq_some_iff.1 hu).1
  rcases h with rfl | ⟨b, off, h1, h2⟩
  · simp at hj
  · rw [h1] at had
    injection had with had
    subst had
    rw [add_plain]
    have := h2 j hj 0 (by omega)
    simp only [cellsB, List.getElem?_map, List.getElem?_eq_getElem hj, Option.map_some] at hu
    injection hu with hu
    subst hu
    simpa [encB] using this

set_option maxHeartbeats 1000000 in
theorem roomy_any (a : Option Addr) (len cap more : Nat) (l : List UInt8) (w : World) (hl : l.length = len) (hn : a = none → len = 0 ∧ cap = 0) (hE : RowB w a l) (hm : len + more ≤ 281474976710656) :
    Calls Try.prog 20 #[.slice a len cap, .int .i64 more] w fun e w' => e = .returned (.slice (some ⟨w.heap.size, 0, none⟩) len (len + more)) ∧ OwnB w' w.heap.size (.slice (some ⟨w.heap.size, 0, none⟩) len (len + more)) l ∧ Below w.heap.size w w' := by
  obtain ⟨i0, hi, hz0, hz1, hz2⟩ := info_parts info8
  go_enter Try.func20, Try.ntmps20
  go_wp2_with (first | (at_make; refine wpList_make_own _ rfl _ _ 22 rfl w.heap.size 5 i0 (.int .u8 0) 1 Try.underlying22 hi hz0 hz1 _ _ _ (len + more) rfl rfl (by omega) (by rw [hz2]; omega) (by unfold maxLen; omega) (Nat.le_refl _) ?_) | go_in)
  intro w1 hown hgr
  have hE1 := row_cells (row_far hE hgr (fun q hq => by simp))
  go_wp2_with (first | (at_builtin; refine wpList_append_fits_any _ rfl _ _ 22 rfl w.heap.size 5 i0 1 Try.underlying22 hi hz1 w.heap.size 0 (len + more) [] rfl hown a len cap (cellsB l) rfl (by rw [cellsB_length, hl, Nat.mul_one]) hn hE1 (cellsB_one l) (by omega) ?_) | go_in)
  intro w2 hown2 hgr2
  go_wp2
  go_ret
  refine ⟨rfl, own_iff.2 (by rw [hl]; exact hown2), ?_⟩
  exact grown_below (grown_trans (g := some w.heap.size) ⟨hgr.os, hgr.tape, hgr.output, hgr.size, fun k hk _ => hgr.block k hk (by simp)⟩ hgr2) (Nat.le_refl _) (Nat.le_refl _)

theorem be_shift (n k : Nat) : beB (k + 1) n = UInt8.ofNat (n / 2 ^ (8 * k)) :: beB k n := by
  show UInt8.ofNat (n / 256 ^ k) :: _ = _
  rw [show (256 : Nat) = 2 ^ 8 from rfl, ← Nat.pow_mul]

/-- What is owned, with its spare room. -/
def OwnR (w : World) (base g : Nat) (cap : Nat) (l : List UInt8) : Prop := base ≤ g ∧ l.length ≤ cap ∧ OwnB w base (.slice (some ⟨g, 0, none⟩) l.length cap) l

theorem byte_val (n k : Nat) : Value.int .u8 ((n : Int) / 2 ^ (8 * k) % 256) = .int .u8 ((UInt8.ofNat (n / 2 ^ (8 * k))).toNat : Int) := by
  rw [u8_of, Int.natCast_emod, Int.natCast_ediv, Int.natCast_pow]; rfl
theorem one_cell (w : World) {u v : Value} {T : TypeId} (h : u = v) : ∀ (j : Nat) (x : Value), [v][j]? = some x → (w.alloc (.cells #[u] T)).cell? ((⟨w.heap.size, 0, none⟩ : Addr).add j) = some x := by
  intro j x hj
  subst h
  rw [add_plain, World.cell?_alloc_new]
  cases j with
  | zero => simpa using hj
  | succ j => simp at hj

theorem put_more {base g cap n k : Nat} {L T : List UInt8} {w wr w2 : World} {b : Obj} (hbg : base ≤ g) (hbel : Below base w wr) (hsz : base ≤ wr.heap.size)
    (hown2 : w2.ownsRow base 5 1 (.slice (some ⟨g, 0, none⟩) (L.length + 1) cap) (L.length + 1) (cellsB L ++ [.int .u8 ((UInt8.ofNat (n / 2 ^ (8 * k))).toNat : Int)])) (hgr2 : (wr.alloc b).grownBy w2 (some g)) (hc : L.length + 1 ≤ cap)
    (hL : L ++ beB (k + 1) n = T) : (L ++ [UInt8.ofNat (n / 2 ^ (8 * k))]) ++ beB k n = T ∧ OwnR w2 base g cap (L ++ [UInt8.ofNat (n / 2 ^ (8 * k))]) ∧ Below base w w2 := by
  refine ⟨by rw [← hL, be_shift]; simp, ⟨hbg, by simpa using hc, own_iff.2 ?_⟩, ?_⟩
  · rw [cellsB_append, List.length_append]
    exact hown2
  · exact (hbel.alloc hsz b).trans (grown_below hgr2 (by simp; omega) hbg)

set_option maxHeartbeats 2000000 in
theorem put_any (base g cap n size : Nat) (l : List UInt8) (w : World) (hs : 1 ≤ size) (hs8 : size ≤ 8) (hown : OwnR w base g cap l) (hroom : l.length + size ≤ cap) (hn : n < 18446744073709551616) (hbase : base ≤ w.heap.size) :
    Calls Try.prog 19 #[.slice (some ⟨g, 0, none⟩) l.length cap, .int .u64 n, .int .i64 size] w fun e w' => e = .returned (.slice (some ⟨g, 0, none⟩) (l.length + size) cap) ∧ OwnR w' base g cap (l ++ beB size n) ∧ Below base w w' := by
  obtain ⟨i0, hi, hz0, hz1, hz2⟩ := info_parts info8
  go_enter Try.func19, Try.ntmps19
  have HO := Lib.hid hown
  clear hown
  go_wp2
  go_loopw [0, 7] (fun v i wr => ∃ (k : Nat) (L : List UInt8), k ≤ size ∧ L ++ beB k n = l ++ beB size n ∧ v = .slice (some ⟨g, 0, none⟩) L.length cap ∧ i = .int .i64 (8 * ((k : Int) - 1)) ∧ OwnR wr base g cap L ∧ Below base w wr) (fun _ i _ => (intOf i + 8).toNat)
  case atStart => exact ⟨size, l, Nat.le_refl _, rfl, rfl, rfl, HO.out, Below.refl _ _⟩
  case round =>
    obtain ⟨k, L, hk, hL, rfl, rfl, hown, hbel⟩ := hrel
    have hlen : L.length + k = l.length + size := by have := congrArg List.length hL; simpa [beB_length] using this
    cases k with
    | zero =>
      have HL : Hid (L = l ++ beB size n) := Lib.hid (by simpa [beB] using hL)
      have HR := Lib.hid hown
      clear hL hown
      go_wp2
      go_ret
      refine ⟨?_, by rw [← HL.out]; exact HR.out, hbel⟩
      rw [show L.length = l.length + size by omega]; rfl
    | succ k =>
      obtain ⟨hbg, hLc, hown⟩ := hown
      have hsz : base ≤ wr.heap.size := Nat.le_trans hbase hbel.size
      go_wp2_with (first | (at_builtin; refine wpList_append_fits _ rfl _ _ 22 rfl base 5 i0 1 Try.underlying22 hi hz1 g L.length cap (cellsB L) rfl ((own_iff.1 hown).alloc _) ⟨wr.heap.size, 0, none⟩ 1 1 [.int .u8 ((UInt8.ofNat (n / 2 ^ (8 * k))).toNat : Int)] rfl rfl ?c1 ?c2 (by omega) ?_) | go_in)
      case c1 => exact one_cell wr (byte_val n k)
      case c2 => exact by intro u hu; simp at hu; subst hu; rfl
      intro w2 hown2 hgr2
      have hR := Lib.hid (put_more hbg hbel hsz hown2 hgr2 (by omega) hL)
      clear hown hown2 hgr2 hL
      go_wp2
      go_roundw
      case rel => exact ⟨k, L ++ [UInt8.ofNat (n / 2 ^ (8 * k))], by omega, hR.out.1, by simp, by go_num, hR.out.2.1, hR.out.2.2⟩
      case measure => simp [intOf]; omega

theorem below_row {w w' : World} {base : Nat} (h : Below base w w') : Below base w w' := h
theorem own_row {w : World} {base : Nat} {v : Value} {l : List UInt8} (h : OwnB w base v l) : ∃ a cap, v = .slice a l.length cap ∧ l.length ≤ cap ∧ cap ≤ maxLen ∧ (a = none → cap = 0) ∧ RowB w a l := Kit.owns_row encB_len h

/-- Two's complement, as a number without bound. -/
def toU64 (n : Int) : Nat := (n % 18446744073709551616).toNat
theorem toU64_lt (n : Int) : toU64 n < 18446744073709551616 := by unfold toU64; omega
theorem toI_toU (n : Int) (h1 : -9223372036854775808 ≤ n) (h2 : n ≤ 9223372036854775807) : toI64 (toU64 n) = n := by unfold toI64 toU64; omega
theorem wrap_u (n : Int) : IntKind.u64.wrap n = (toU64 n : Int) := by rw [IntKind.wrap_u64]; unfold toU64; omega

/-- What a call that makes a list of bytes leaves: a list of its own. -/
def OutB (w : World) (l : List UInt8) (e : Ending) (w' : World) : Prop := ∃ g cap, e = .returned (.slice (some ⟨g, 0, none⟩) l.length cap) ∧ OwnR w' w.heap.size g cap l ∧ Below w.heap.size w w'

set_option maxHeartbeats 1000000 in
theorem int_any (a : Option Addr) (len cap : Nat) (n : Int) (l : List UInt8) (w : World) (hl : l.length = len) (hn : a = none → len = 0 ∧ cap = 0) (hE : RowB w a l) (hm : len ≤ 140737488355328) :
    Calls Try.prog 10 #[.slice a len cap, .int .i64 n] w (OutB w (l ++ beB 8 (toU64 n))) := by
  subst hl
  go_enter Try.func10, Try.ntmps10
  go_wp2_with fail
  refine (roomy_any a l.length cap 8 l w rfl hn hE (by omega)).mono ?_
  rintro e w1 ⟨rfl, hown, hbel⟩
  go_wp2_with fail
  rw [wrap_u]
  refine (put_any w.heap.size w.heap.size (l.length + 8) (toU64 n) 8 l w1 (by omega) (by omega) ⟨Nat.le_refl _, by omega, hown⟩ (by omega) (toU64_lt n) hbel.size).mono ?_
  rintro e w2 ⟨rfl, hR, hb2⟩
  go_wp2
  go_ret
  exact ⟨_, _, by rw [List.length_append, beB_length]; rfl, hR, hbel.trans hb2⟩

/-- 'append(b, s...)' where there is room. -/
theorem wpList_append_str_fits {P : Program} {w : World} {ops : Array Oper} {rest : List Oper} {o : Oper} {a : Act} {Q : Exit → Act → World → Prop} (hgd : o.guard = none) (sl x : Operand) (t u : TypeId)
    (ho : o.op = .call { callee := .builtin .append, args := #[sl, x], argTypes := #[t, u] })
    (base : Nat) (e : TypeId) (i : TypeInfo) (ht : P.underlying t = some (.slice e)) (hu : P.underlying u = some .string) (hi : P.info? e = some i) (hsize : i.size = 1)
    (g n cap : Nat) (xs : List Value) (hs : a.eval sl = .slice (some ⟨g, 0, none⟩) n cap) (hown : w.ownsRow base e 1 (.slice (some ⟨g, 0, none⟩) n cap) n xs) (s : ByteArray) (hx : a.eval x = .string s) (hroom : n + s.size ≤ cap)
    (h : ∀ w', w'.ownsRow base e 1 (.slice (some ⟨g, 0, none⟩) (n + s.size) cap) (n + s.size) (xs ++ Lib.strCells s) → w.grownBy w' (some g) → wpList P ops Q rest (a.put o.dst (.slice (some ⟨g, 0, none⟩) (n + s.size) cap)) w') : wpList P ops Q (o :: rest) a w := by
  refine wpList_plain hgd fun K hK => ?_
  have hxl : xs.length = n := by simpa using hown.1
  rcases hown.2 with ⟨he, _⟩ | ⟨g', cap', cur, he, hbg, hg, hnc, hcm, hcs, htake⟩
  · cases he
  · injection he with e1 e2 e3
    injection e1 with e1
    injection e1 with e1
    subst e1 e3
    have hcs' : cur.size = cap := by simpa using hcs
    have hr := Lib.run_append_room_string (P := P) w t u o.type e i ht hu hi hsize g n cap cur hg s hroom (by omega)
    unfold Oper.wp execOp
    simp only [ho, resolve, invoke, builtin, Sem.run_bind, Sem.run_pure, Result.andThen_ok, List.map_toArray, List.map_cons, List.map_nil, hs, hx, hr]
    have hlen : (xs ++ Lib.strCells s).length = (n + s.size) * 1 := by rw [List.length_append, hxl, Lib.strCells_length, Nat.mul_one]
    refine hK _ _ (h _ ⟨hlen, .inr ⟨g, cap, _, rfl, hbg, setRow_heap w g cur _ e _ hg, hroom, hcm, ?_, ?_⟩⟩ ⟨rfl, rfl, rfl, by simp, fun k _ hk => setRow_other w g k _ (fun e => hk (by simp [e]))⟩)
    · simp only [List.size_toArray, List.length_append, List.length_take, List.length_drop, Array.length_toList, Lib.strCells_length]
      omega
    · have ht' : cur.toList.take n = xs := by simpa using htake
      rw [ht', ← hlen]
      exact List.take_left

theorem text_made {w w2 w3 : World} {base g cap n : Nat} {l : List UInt8} {s : ByteArray} (hbg : base ≤ g) (hb : Below base w w2) (hsz : base ≤ w.heap.size) (hl : l.length = n)
    (h : w3.ownsRow base 5 1 (.slice (some ⟨g, 0, none⟩) (n + s.size) cap) (n + s.size) (cellsB l ++ Lib.strCells s)) (hgr : w2.grownBy w3 (some g)) (hc : n + s.size ≤ cap) :
    OwnR w3 base g cap (l ++ s.data.toList) ∧ Below base w w3 := by
  have e : s.data.toList.length = s.size := by rw [Array.length_toList]; rfl
  refine ⟨⟨hbg, by rw [List.length_append, hl, e]; exact hc, own_iff.2 ?_⟩, hb.trans (grown_below hgr (Nat.le_trans hsz hb.size) hbg)⟩
  rw [cellsB_append, List.length_append, hl, e]
  exact h

set_option maxHeartbeats 1000000 in
theorem text_any (a : Option Addr) (len cap : Nat) (s : ByteArray) (l : List UInt8) (w : World) (hl : l.length = len) (hn : a = none → len = 0 ∧ cap = 0) (hE : RowB w a l) (hm : len ≤ 140737488355328) (hs : s.size ≤ 65535) :
    Calls Try.prog 8 #[.slice a len cap, .string s] w fun e w' => ∃ g cap, e = .returned (.tuple #[.slice (some ⟨g, 0, none⟩) (len + 2 + s.size) cap, .int .i64 0]) ∧ OwnR w' w.heap.size g cap (l ++ beB 2 s.size ++ s.data.toList) ∧ Below w.heap.size w w' := by
  subst hl
  obtain ⟨i0, hi, hz0, hz1, hz2⟩ := info_parts info8
  go_enter Try.func8, Try.ntmps8
  go_wp2_with fail
  refine (roomy_any a l.length cap (2 + s.size) l w rfl hn hE (by omega)).mono ?_
  rintro e w1 ⟨rfl, hown, hbel⟩
  go_wp2_with fail
  refine (put_any w.heap.size w.heap.size (l.length + (2 + s.size)) s.size 2 l w1 (by omega) (by omega) ⟨Nat.le_refl _, by omega, hown⟩ (by omega) (by omega) hbel.size).mono ?_
  rintro e w2 ⟨rfl, hR, hb2⟩
  have hlen : (l ++ beB 2 s.size).length = l.length + 2 := by rw [List.length_append, beB_length]
  have ho := own_iff.1 hR.2.2
  rw [hlen] at ho
  go_wp2_with (first | (at_builtin; refine wpList_append_str_fits rfl _ _ 22 9 rfl w.heap.size 5 i0 Try.underlying22 Try.underlying9 hi hz1 w.heap.size (l.length + 2) (l.length + (2 + s.size)) _ rfl ho s rfl (by omega) ?_) | go_in)
  intro w3 hown3 hgr3
  have hM := Lib.hid (text_made (Nat.le_refl _) (hbel.trans hb2) (Nat.le_refl _) hlen hown3 hgr3 (by omega))
  clear hown3 hgr3 ho hR hown
  go_wp2
  go_ret2
  exact ⟨_, _, rfl, hM.out.1, hM.out.2⟩

set_option maxHeartbeats 1000000 in
theorem text_over (v : Value) (s : ByteArray) (w : World) (hm : s.size ≤ maxLen) (hs : 65535 < s.size) :
    Calls Try.prog 8 #[v, .string s] w fun e w' => e = .returned (.tuple #[.slice none 0 0, .int .i64 2]) ∧ w = w' := by
  unfold maxLen at hm
  go_enter Try.func8, Try.ntmps8
  go_wp2
  go_ret2
  exact ⟨rfl, rfl⟩

end Go.Proofs.Ytijenfmkgedkfaa.Oct
