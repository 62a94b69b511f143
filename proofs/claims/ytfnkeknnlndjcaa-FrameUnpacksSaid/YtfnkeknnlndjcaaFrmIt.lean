/- Frame: the landed pieces: bytes, so many at a time, ranged over. -/
import Derived.Test.YtfnkeknnlndjcaaFrmDat
import Derived.Test.YtfnkeknnlndjcaaRngIn
namespace Go.Proofs.Ytfnkeknnlndjcaa.Frm
open Go.RowKit
open Go.Sort
open Kit
open Oct
open Chk
set_option linter.unusedVariables false
attribute [local go_sem] Oper.semAt_some

/-- What pieces has captured: the bytes, and how many at a time. -/
def Stuff (b0 b1 : Nat) (v0 v1 : Value) (W : World) : Prop := Boxed W b0 22 v0 ∧ Boxed W b1 3 v1
def KpS (b0 b1 : Nat) (v0 v1 : Value) (A B : World) : Prop := Stuff b0 b1 v0 v1 A → Stuff b0 b1 v0 v1 B
theorem kps_t {b0 b1 : Nat} {v0 v1 : Value} {A B C : World} (h : KpS b0 b1 v0 v1 A B) (k : KpS b0 b1 v0 v1 B C) : KpS b0 b1 v0 v1 A C := fun s => k (h s)
theorem boxed_put {W : World} {b l : Nat} {t : TypeId} {v : Value} {o o' : Obj} (h : Boxed W b t v) (hl : W.heap[l]? = some o) (hc : o.isCells = false) : Boxed (W.putObj l o') b t v :=
  h.kept (grownBy_putObj' W l o') (fun e => by
    injection e with e
    subst e
    have h1 : W.heap[b]? = some (.cells #[v] t (0, 0)) := h
    rw [h1] at hl
    injection hl with hl
    subst hl
    cases hc)
theorem kps_b {b0 b1 : Nat} {v0 v1 : Value} {W : World} {l : Nat} {o o' : Obj} (hl : W.heap[l]? = some o) (hc : o.isCells = false) : KpS b0 b1 v0 v1 W (W.putObj l o') := fun s => ⟨boxed_put s.1 hl hc, boxed_put s.2 hl hc⟩
theorem boxed_below {w W : World} {b : Nat} {t : TypeId} {v : Value} (h : Boxed w b t v) (hb : Below w.heap.size w W) : Boxed W b t v := (hb.block b (Boxed.lt h)).trans h

set_option maxHeartbeats 1000000 in
theorem pieces_any (a : Option Addr) (len cap size : Nat) (w : World) :
    Calls Try.prog 16 #[.slice a len cap, .int .i64 (size : Nat)] w fun e w' => e = .returned (.func (.func 24) #[] #[.pointer (some ⟨w.heap.size, 0, none⟩), .pointer (some ⟨w.heap.size + 1, 0, none⟩)]) ∧
      w' = (w.alloc (.cells #[.slice a len cap] 22)).alloc (.cells #[.int .i64 (size : Nat)] 3) := by
  go_enter Try.func16, Try.ntmps16
  go_wp2
  go_ret
  exact ⟨rfl, rfl⟩

/-- A piece. -/
def encP (bb oo cap size cnt : Nat) (x : { k : Nat // k < cnt }) : Array Value := #[.slice (some ⟨bb, oo + size * x.1, none⟩) size (cap - size * x.1)]

set_option maxRecDepth 100000 in
set_option maxHeartbeats 2000000 in
theorem pieces1_in (F : Fence) (n : Nat) (hf : F.fn 24) (hro : F.round = none) (hn : 1 ≤ n) (l b0 b1 bb oo len cap size cnt : Nat) (hs : 1 ≤ size) (hlen : size * cnt = len) (hm : len ≤ 5000) (hc : len ≤ cap) (hcm : cap ≤ maxLen) (J Jx : List { k : Nat // k < cnt } → World → Prop)
    (hY : ∀ pre x W, J pre W → pre.length < cnt → YieldAt F (n - 1) Try.prog l (encP bb oo cap size cnt x) W fun e W' =>
      (e = .returned (.bool true) ∧ J (pre ++ [x]) W' ∧ KpS b0 b1 (.slice (some ⟨bb, oo, none⟩) len cap) (.int .i64 (size : Nat)) W W') ∨ (e = .returned (.bool false) ∧ Jx (pre ++ [x]) W'))
    (W : World) (hS : Stuff b0 b1 (.slice (some ⟨bb, oo, none⟩) len cap) (.int .i64 (size : Nat)) W) (h0 : J [] W) :
    CallsIn F n Try.prog 24 #[.func (.yield l) #[] #[], .pointer (some ⟨b0, 0, none⟩), .pointer (some ⟨b1, 0, none⟩)] W fun e W' => (∃ v, e = .returned v) ∧
      ((∃ ys : List { k : Nat // k < cnt }, ys.map (·.1) = List.range cnt ∧ J ys W') ∨ (∃ pre, True ∧ Jx pre W')) := by
  unfold maxLen at hcm
  refine callsIn_of_wp Try.func24 rfl hf ?_ hro
  simp only [Try.ntmps24, List.size_toArray, List.length_cons, List.length_nil, Nat.reduceAdd, Nat.reduceSub, Array.replicate_succ, Array.replicate_zero, List.push_toArray, List.append_toArray, List.nil_append, List.cons_append]
  gi_wp2
  gi_loopw [4] (fun p wr => ∃ (pre : List { k : Nat // k < cnt }) (K : Nat), p = .int .i64 (K : Nat) ∧ K = size * pre.length ∧ pre.map (·.1) = List.range pre.length ∧ pre.length ≤ cnt ∧ J pre wr ∧ Stuff b0 b1 (.slice (some ⟨bb, oo, none⟩) len cap) (.int .i64 (size : Nat)) wr)
    (fun p _ => len - (intOf p).toNat)
  case atStart => exact ⟨[], 0, rfl, rfl, rfl, Nat.zero_le _, h0, hS⟩
  case round =>
    obtain ⟨pre, K, rfl, hK, hpre, hle, hJ, hSt⟩ := hrel
    have c0 := hSt.1.cell
    have c1 := hSt.2.cell
    by_cases hlt : pre.length < cnt
    · have hmul : size * (pre.length + 1) ≤ size * cnt := Nat.mul_le_mul_left _ hlt
      rw [Nat.mul_add, Nat.mul_one, ← hK, hlen] at hmul
      have hKl : K < len := by omega
      obtain ⟨fn, tmps, assign, body, hy, hR⟩ := hY pre ⟨pre.length, hlt⟩ wr hJ hlt
      unfold encP at hy
      dsimp only at hy
      rw [← hK] at hy
      have HK := Lib.hid hK
      clear hK
      gi_wp2
      refine hR.mono ?_
      rintro e W3 (⟨rfl, hJ3, hk3⟩ | ⟨rfl, hJx3⟩)
      · have hS3 := hk3 hSt
        have d0 := hS3.1.cell
        have d1 := hS3.2.cell
        gi_wp2
        go_roundw
        case rel => exact ⟨pre ++ [⟨pre.length, hlt⟩], K + size, by go_num, by rw [List.length_append, List.length_singleton, Nat.mul_add, Nat.mul_one, HK.out], by rw [List.map_append, hpre, List.length_append, List.length_singleton, List.range_succ]; rfl, by rw [List.length_append, List.length_singleton]; exact hlt, hJ3, hS3⟩
        case measure => simp [intOf]; omega
      · gi_wp2
        refine bodyPost_ret (results_none rfl _ _ _) rfl ?_
        exact ⟨⟨_, rfl⟩, .inr ⟨_, trivial, hJx3⟩⟩
    · have hKl : K = len := by
        have : pre.length = cnt := by omega
        rw [hK, this, hlen]
      clear hK
      gi_wp2
      go_end0
      exact ⟨⟨_, rfl⟩, .inl ⟨pre, by rw [hpre, show pre.length = cnt by omega], hJ⟩⟩

/-- The pieces of bytes in memory: all, one behind the other. -/
theorem pieces_stops (F : Fence) (n : Nat) (hf : F.fn 24) (hro : F.round = none) (hn : 1 ≤ n) (b0 b1 bb oo len cap size cnt : Nat) (w : World) (hs : 1 ≤ size) (hlen : size * cnt = len) (hm : len ≤ 5000) (hc : len ≤ cap) (hcm : cap ≤ maxLen)
    (hS : Stuff b0 b1 (.slice (some ⟨bb, oo, none⟩) len cap) (.int .i64 (size : Nat)) w) :
    SeqStopsK F n Try.prog 24 #[.pointer (some ⟨b0, 0, none⟩), .pointer (some ⟨b1, 0, none⟩)] (encP bb oo cap size cnt) (KpS b0 b1 (.slice (some ⟨bb, oo, none⟩) len cap) (.int .i64 (size : Nat))) (fun ys => ys.map (·.1) = List.range cnt) (fun _ => True) cnt w :=
  fun l J Jx W hW _ _ hY h0 => pieces1_in F n hf hro hn l b0 b1 bb oo len cap size cnt hs hlen hm hc hcm J Jx hY W ⟨boxed_below hS.1 hW, boxed_below hS.2 hW⟩ h0

end Go.Proofs.Ytfnkeknnlndjcaa.Frm
