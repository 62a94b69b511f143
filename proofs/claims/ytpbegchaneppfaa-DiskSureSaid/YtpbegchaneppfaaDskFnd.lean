/- Disk: the landed disk: New, and where in its cache a sector is. -/
import Derived.Test.YtpbegchaneppfaaDskMem
namespace Go.Proofs.Ytpbegchaneppfaa.Dsk
open Go.RowKit
open Go.Sort
open Kit
open Oct
open Foot
set_option linter.unusedVariables false

/-! ### New -/

theorem encS_zero : encS (List.replicate 32 0) = List.replicate 32 (Value.int .u8 0) := by kernel_rfl
theorem encS_nil : encS [] = List.replicate 32 (Value.int .u8 0) := by kernel_rfl
theorem flat_zeros : ∀ m : Nat, flat encS (List.replicate m (List.replicate 32 0)) = List.replicate (m * 32) (Value.int .u8 0)
  | 0 => rfl
  | m + 1 => by
    rw [List.replicate_succ]
    show encS _ ++ flat encS _ = _
    rw [flat_zeros m, encS_zero, List.replicate_append_replicate, Nat.add_mul, Nat.one_mul, Nat.add_comm]
theorem rep_at (n j : Nat) (v : Value) (h : 0 < n) : (List.replicate n v).toArray[j % (List.replicate n v).toArray.size]! = v := by
  have hj : j % (List.replicate n v).toArray.size < (List.replicate n v).toArray.size := Nat.mod_lt _ (by simpa using h)
  rw [getElem!_pos (List.replicate n v).toArray _ hj]
  simp
theorem made_secs (m : Nat) : (madeCells (encS []).toArray (m * 32)).toList = flat encS (List.replicate m (List.replicate 32 0)) := by
  rw [flat_zeros, encS_nil]
  apply List.eq_replicate_iff.2
  refine ⟨by simp [madeCells], fun v hv => ?_⟩
  simp only [madeCells, Array.toList_map, List.mem_map] at hv
  obtain ⟨j, _, rfl⟩ := hv
  exact rep_at _ _ _ (by decide)
theorem run_mksec (w : World) (z : Int) (m : Nat) (hz : z = (m : Int)) (hm : m ≤ 1024) : (Instr.makeSlice 52 (.int .i64 z) (.int .i64 z)).run Try.prog w = .ok (.slice (some ⟨w.heap.size, 0, none⟩) m m) (w.alloc (.cells (madeCells (encS []).toArray (m * 32)) 64)) := by
  subst hz
  obtain ⟨i0, hi, hz0, hz1, hz2⟩ := info_parts info_sec
  have := run_make (P := Try.prog) w 52 64 i0 (.agg (encS []).toArray) Try.underlying52 hi hz0 .i64 .i64 m m (by omega) (by omega) (by rw [hz2]; omega) (by omega)
  rw [hz1, Int.toNat_natCast] at this
  exact this
theorem own_secs (w : World) (m : Nat) (hm : m ≤ 1024) : Owns encS 32 64 (w.alloc (.cells (madeCells (encS []).toArray (m * 32)) 64)) 0 (.slice (some ⟨w.heap.size, 0, none⟩) m m) (List.replicate m (List.replicate 32 0)) := by
  refine ⟨by rw [flat_length encS_len], .inr ⟨_, m, _, by rw [List.length_replicate], Nat.zero_le _, heap_alloc_new w _, by rw [List.length_replicate]; exact Nat.le_refl _, by unfold maxLen; omega, size_madeCells _ _, ?_⟩⟩
  rw [made_secs, List.length_replicate, List.take_of_length_le]
  rw [flat_length encS_len, List.length_replicate]; exact Nat.le_refl _
abbrev newDk (w : World) (m : Nat) : World := (w.alloc (.cells (madeCells (encS []).toArray (m * 32)) 64)).alloc (.cells #[.slice (some ⟨w.heap.size, 0, none⟩) m m, .slice none 0 0, .bool false, .int .i64 0] 55)
theorem newDk_is (w : World) (n : Int) (m : Nat) (hm : m = if n < 1024 then n.toNat else 1024) : Dk (newDk w m) (More (fun _ => False) w (newDk w m)) (w.heap.size + 1) (DS.new n) ∧ Below w.heap.size w (newDk w m) := by
  have hm4 : m ≤ 1024 := by rw [hm]; split <;> omega
  have hg : (DS.new n).good = List.replicate m (List.replicate 32 0) := by rw [hm]; rfl
  have hl : (DS.new n).good.length = m := by rw [hg, List.length_replicate]
  have hb : Below w.heap.size w (newDk w m) := ((below_alloc w _).alloc (by simp) _)
  refine ⟨⟨some ⟨w.heap.size, 0, none⟩, none, m, 0, false, 0, ?_, ?_, ?_, ?_, owns_nil _ _ _, (fun k hk => by cases hk), new_ok n, rfl, by omega⟩, hb⟩
  · rw [hl]
    exact Arr.blk_new _ _ _ _ (by simp)
  · exact .inr ⟨by omega, by simp⟩
  · rw [hl, hg]
    exact owns_alloc (own_secs w m hm4) _
  · intro k hk
    injection hk with hk
    subst hk
    exact .inr ⟨Nat.le_refl _, by simp; omega⟩

theorem dnew_any (n : Int) (w : World) (h1 : -9223372036854775808 ≤ n) (h2 : n ≤ 9223372036854775807) :
    Calls Try.prog 8 #[.int .i64 n] w fun e w' => ∃ p, e = .returned (.pointer (some ⟨p, 0, none⟩)) ∧ Dk w' (More (fun _ => False) w w') p (DS.new n) ∧ Below w.heap.size w w' := by
  by_cases h0 : n < 0
  · have hmk := run_mksec w 0 0 rfl (by omega)
    have HN := Lib.hid (newDk_is w n 0 (by split <;> omega))
    go_enter Try.func8, Try.ntmps8
    go_wp2
    go_ret
    exact ⟨_, rfl, HN.out⟩
  · by_cases h3 : n ≤ 1024
    · obtain ⟨m, rfl⟩ : ∃ m : Nat, n = m := ⟨n.toNat, by omega⟩
      have hmk := run_mksec w m m rfl (by omega)
      have HN := Lib.hid (newDk_is w m m (by split <;> omega))
      go_enter Try.func8, Try.ntmps8
      go_wp2
      go_ret
      exact ⟨_, rfl, HN.out⟩
    · have hmk := run_mksec w 1024 1024 rfl (by omega)
      have HN := Lib.hid (newDk_is w n 1024 (by split <;> omega))
      go_enter Try.func8, Try.ntmps8
      go_wp2
      go_ret
      exact ⟨_, rfl, HN.out⟩

/-! ### Where a sector is cached -/

theorem dfind1_any {w : World} (x : Nat × Sec) (i : Int) (bx : Nat) (hb : w.cell? ⟨bx, 0, none⟩ = some (.int .i64 i)) :
    Calls Try.prog 35 #[.agg (encC x).toArray, .pointer (some ⟨bx, 0, none⟩)] w fun e w' => e = .returned (.bool ((x.1 : Int) == i)) ∧ Below w.heap.size w w' := by
  have c0 : (w.alloc (.cells (encC x).toArray 66)).cell? ⟨w.heap.size, 0, none⟩ = some (.int .i64 (x.1 : Int)) := by
    rw [World.cell?_alloc_new]
    rfl
  have c1 := cell_alloc hb (o := .cells (encC x).toArray 66)
  have HB := Lib.hid (below_alloc w (.cells (encC x).toArray 66))
  generalize (encC x).toArray = C at *
  go_enter Try.func35, Try.ntmps35
  go_wp2
  go_ret
  exact ⟨rfl, HB.out⟩
/-- Place j of the list l, or none. -/
def Found (l : List (Nat × Sec)) (i : Int) (j : Int) : Prop := (j = -1 ∧ ∀ x ∈ l, (x.1 : Int) ≠ i) ∨ ∃ k : Nat, ∃ h : k < l.length, j = k ∧ (l[k].1 : Int) = i
theorem run_ld_cd {w : World} {b o : Nat} {x : Nat × Sec} (h : w.rangeAt b o (encC x)) : (Instr.loadAt 66 (.pointer (some ⟨b, o, none⟩))).run Try.prog w = .ok (.agg (encC x).toArray) w :=
  run_loadAt_mid w b o _ _ _ h Try.underlying66 rfl (by rw [encC_len]; kernel_rfl)
theorem run_ld_sec {w : World} {b o : Nat} {l : Sec} (h : w.rangeAt b o (encS l)) : (Instr.loadAt 64 (.pointer (some ⟨b, o, none⟩))).run Try.prog w = .ok (.agg (encS l).toArray) w :=
  run_loadAt_mid w b o _ _ _ h Try.underlying64 rfl (by rw [encS_len]; kernel_rfl)
theorem row_range {α : Type} {enc : α → List Value} {size : Nat} (hs : ∀ x, (enc x).length = size) {w : World} {b o k : Nat} {l : List α} {x : α} (h : Kit.Row enc size w (some ⟨b, o, none⟩) l) (hk : k < l.length) (hx : l[k] = x) : w.rangeAt b (o + k * size) (enc x) := by
  intro j v hv
  have hj : j < size := by rw [← hs x]; exact (List.getElem?_eq_some_iff.1 hv).1
  rw [row_cell h hk hx hj]
  exact hv

set_option maxHeartbeats 1000000 in
theorem dindex_any {w : World} (aa : Option Addr) (len cap : Nat) (l : List (Nat × Sec)) (hl : l.length = len) (hm : len ≤ 9223372036854775807) (hE : Kit.Row encC 33 w aa l) (i : Int) (bx : Nat) (hb : w.cell? ⟨bx, 0, none⟩ = some (.int .i64 i)) :
    Calls Try.prog 34 #[.slice aa len cap, .func (.func 35) #[] #[.pointer (some ⟨bx, 0, none⟩)]] w fun e w' => ∃ j, e = .returned (.int .i64 j) ∧ Found l i j ∧ Below w.heap.size w w' := by
  subst hl
  have HE := Lib.hid hE
  have HB := Lib.hid hb
  clear hE hb
  go_enter Try.func34, Try.ntmps34
  go_wp2_with fail
  go_loopw [5, 8] (fun _ iv wx => ∃ k : Nat, k ≤ l.length ∧ iv = .int .i64 k ∧ Below w.heap.size w wx ∧ ∀ x ∈ l.take k, (x.1 : Int) ≠ i) (fun _ iv _ => l.length - (intOf iv).toNat)
  case atStart => exact ⟨0, Nat.zero_le _, rfl, Below.refl _ _, by simp⟩
  case round =>
    obtain ⟨k, hk, rfl, hbl, hno⟩ := hrel
    have HBl := Lib.hid hbl
    have HNo := Lib.hid hno
    by_cases hlt : k < l.length
    · obtain ⟨b, o, rfl⟩ := Kit.row_some HE.out (by omega)
      have hr := row_keep encC_len HE.out hbl
      have hrg := row_range encC_len hr hlt rfl
      have htk : l.take (k + 1) = l.take k ++ [l[k]] := List.take_succ_eq_append_getElem hlt
      have hmem : l[k] ∈ l := List.getElem_mem hlt
      have hfnd : (l[k].1 : Int) = i → Found l i k := fun h => .inr ⟨k, hlt, rfl, h⟩
      generalize l[k] = x at *
      have HTk := Lib.hid htk
      have HRg := Lib.hid hrg
      have HSz : Hid ((Try.prog.info? 66).map (·.size) = some (encC x).length) := Lib.hid (by rw [encC_len]; kernel_rfl)
      have HFd := Lib.hid hfnd
      have hC := dfind1_any x i bx (cell_keep hbl HB.out)
      have HC := Lib.hid hC
      clear hno hbl hr htk hfnd hC hmem hrg
      cases hq : ((x.1 : Int) == i) with
      | true =>
        have hqe := Lib.hid (beq_iff_eq.1 hq)
        have HQ := Lib.hid hq
        clear hq
        go_wp2_with (first | (refine wpList_load_mid rfl 66 (.tmp 14) rfl b (o + k * 33) rfl (encC x) _ HRg.out Try.underlying66 rfl HSz.out ?_) | (go_at_call 35; refine HC.out.mono ?_; rw [HQ.out]; rintro e w2 ⟨rfl, hb2⟩; have HB2 := Lib.hid (below_keep HBl.out hb2); clear hb2) | fail)
        go_ret
        exact ⟨_, rfl, HFd.out hqe.out, HB2.out⟩
      | false =>
        have hqe := Lib.hid (beq_eq_false_iff_ne.1 hq)
        have HQ := Lib.hid hq
        clear hq
        go_wp2_with (first | (refine wpList_load_mid rfl 66 (.tmp 14) rfl b (o + k * 33) rfl (encC x) _ HRg.out Try.underlying66 rfl HSz.out ?_) | (go_at_call 35; refine HC.out.mono ?_; rw [HQ.out]; rintro e w2 ⟨rfl, hb2⟩; have HB2 := Lib.hid (below_keep HBl.out hb2); clear hb2) | fail)
        go_roundw
        case rel =>
          refine ⟨k + 1, by omega, by go_num, HB2.out, ?_⟩
          rw [HTk.out]
          intro y hy
          rcases List.mem_append.1 hy with hy | hy
          · exact HNo.out y hy
          · simp at hy; subst hy; exact hqe.out
        case measure => simp [intOf]; omega
    · obtain rfl : k = l.length := by omega
      have HF : Hid (Found l i (-1)) := Lib.hid (.inl ⟨rfl, by rw [List.take_length] at hno; exact hno⟩)
      clear hno hbl
      go_wp2
      go_ret
      exact ⟨_, rfl, HF.out, HBl.out⟩

theorem dfind_any {w : World} {F : Nat → Prop} {p : Nat} {s : DS} (h : Dk w F p s) (i : Int) :
    Calls Try.prog 29 #[.pointer (some ⟨p, 0, none⟩), .int .i64 i] w fun e w' => ∃ j, e = .returned (.int .i64 j) ∧ Found (cacheOf s) i j ∧ Below w.heap.size w w' := by
  obtain ⟨al, ac, cl, cc, fu, left, r⟩ := h
  have c1 := Arr.blk_cell (blk_chg (new_chg (below_alloc w (.cells #[.int .i64 i] 3)) (fun _ => False)) r.blk id) 1
  simp only [List.getElem?_cons_zero, List.getElem?_cons_succ] at c1
  obtain ⟨a', c', hv, _, hcm, _, hrow⟩ := owns_row encC_len r.cown
  injection hv with hv1 hv2 hv3
  subst hv1
  have hok := r.ok
  have hol : s.order.length ≤ 9223372036854775807 := by rw [hv2]; unfold maxLen at hcm; omega
  have HI := Lib.hid (dindex_any ac s.order.length cc (cacheOf s) (cacheOf_len s) hol (row_keep encC_len hrow (below_alloc w (.cells #[.int .i64 i] 3))) i w.heap.size (World.cell?_alloc_new w _ _ 0))
  have hmf : ∀ (fn : Fn) (first cap : Array Value) (w : World), (Instr.makeFunc fn first cap).run Try.prog w = .ok (.func fn first cap) w := fun _ _ _ _ => rfl
  have HB := Lib.hid (below_alloc w (.cells #[.int .i64 i] 3))
  clear r hv2 hv3 hrow hok
  go_enter Try.func29, Try.ntmps29
  go_wp2_with (first | (go_at_call 34; refine HI.out.mono ?_; rintro e w2 ⟨j, rfl, hj, hb2⟩; have HJ := Lib.hid hj; have HB2 := Lib.hid (below_keep HB.out hb2); clear hj hb2) | fail)
  go_ret
  exact ⟨j, rfl, HJ.out, HB2.out⟩

end Go.Proofs.Ytpbegchaneppfaa.Dsk
