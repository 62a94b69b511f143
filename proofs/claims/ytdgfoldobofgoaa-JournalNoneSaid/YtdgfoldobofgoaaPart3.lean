/- Common to the claims of this seat, part 3: texts that were written one by one, laid behind one another. -/
import Derived.Deep.MidRow
import Derived.Laws.CopyOwn
import Derived.Laws.Bits128
import Derived.Test.YtdgfoldobofgoaaChecked
import Derived.ProofKit
import Derived.WalkKit
import Derived.BigFrame
import Derived.BigQuiet
import Derived.Deep.DeepCutAuto
import Derived.WalkLawsBesides
import Derived.LoopTactic
import Derived.Lib.Hide
import Derived.Laws.BitsAllLaws
import Derived.Laws.IdiomStrings
import Derived.OwnWalk
import Derived.Lib.AppendStr
import Derived.Deep.DeepAppendWide
import Derived.Lib.SmallJoins
import Derived.RangeFuncBox
import Derived.RangeFuncLeaves
import Derived.RangeFuncCalls
import Derived.OwnWalkIn
import Derived.TacticsInMore
import Derived.LoopNIn
import Derived.LoopIn
import Derived.OrdersIn
import Derived.Shelf.Abstract
import Derived.Test.YtdgfoldobofgoaaPart2
/- Disk: the landed disk, as it lies in memory; its small calls. -/
namespace Go.Proofs.Ytdgfoldobofgoaa.Dsk
open Go.RowKit
open Go.Sort
open Kit
open Oct
open Foot
set_option linter.unusedVariables false

/-! ### Sectors, and cached sectors, as cells -/

def pad (l : Sec) : Sec := (l ++ List.replicate 32 0).take 32
theorem pad_len (l : Sec) : (pad l).length = 32 := by unfold pad; rw [List.length_take, List.length_append, List.length_replicate]; omega
theorem pad_is {l : Sec} (h : l.length = 32) : pad l = l := by unfold pad; rw [List.take_append_of_le_length (by omega), List.take_of_length_le (by omega)]
def encS (l : Sec) : List Value := cellsB (pad l)
theorem encS_len (l : Sec) : (encS l).length = 32 := by unfold encS; rw [cellsB_length, pad_len]
theorem encS_one (l : Sec) : ∀ u ∈ encS l, u.oneCell' = true := cellsB_one _
theorem encS_is {l : Sec} (h : l.length = 32) : encS l = cellsB l := by unfold encS; rw [pad_is h]
def encC (x : Nat × Sec) : List Value := .int .i64 (x.1 : Int) :: encS x.2
theorem encC_len (x : Nat × Sec) : (encC x).length = 33 := by unfold encC; rw [List.length_cons, encS_len]
theorem encC_one (x : Nat × Sec) : ∀ u ∈ encC x, u.oneCell' = true := by
  intro u hu
  rcases List.mem_cons.1 hu with rfl | hu
  · rfl
  · exact encS_one _ u hu
theorem info_sec : (Try.prog.info? 73).map (fun i => (i.zero, i.size, i.bytes)) = some (some (.agg (encS []).toArray), 32, 32) := by kernel_rfl
theorem info_cd : (Try.prog.info? 75).map (fun i => (i.zero, i.size, i.bytes)) = some (some (.agg (encC (0, [])).toArray), 33, 40) := by kernel_rfl
theorem ne_dk_sec : (50 : TypeId) ≠ 73 := by decide
theorem ne_dk_cd : (50 : TypeId) ≠ 75 := by decide
theorem ne_sec_cd : (73 : TypeId) ≠ 75 := by decide

/-! ### The disk in memory -/

def cacheOf (s : DS) : List (Nat × Sec) := s.order.map fun i => (i, s.now.getD i [])
theorem cacheOf_len (s : DS) : (cacheOf s).length = s.order.length := List.length_map ..
theorem cacheOf_at (s : DS) {k : Nat} (h : k < (cacheOf s).length) (h' : k < s.order.length) : (cacheOf s)[k] = (s.order[k], s.now.getD s.order[k] []) := by simp [cacheOf]

structure DkAt (w : World) (F : Nat → Prop) (p : Nat) (s : DS) (al ac : Option Addr) (cl cc : Nat) (fused : Bool) (left : Int) : Prop where
  blk : Arr.Blk w p 50 [.slice al s.good.length cl, .slice ac s.order.length cc, .bool fused, .int .i64 left]
  own : F p
  lown : Owns encS 32 73 w 0 (.slice al s.good.length cl) s.good
  lfoot : ∀ k, (Value.slice al s.good.length cl).ownBlock = some k → F k
  cown : Owns encC 33 75 w 0 (.slice ac s.order.length cc) (cacheOf s)
  cfoot : ∀ k, (Value.slice ac s.order.length cc).ownBlock = some k → F k
  ok : s.Ok
  fuse : s.fuse = cond fused left (-1)
  left0 : 0 ≤ left ∧ left ≤ 9223372036854775807
def Dk (w : World) (F : Nat → Prop) (p : Nat) (s : DS) : Prop := ∃ al ac cl cc fused left, DkAt w F p s al ac cl cc fused left

theorem dkat_mono {w : World} {F G : Nat → Prop} {p : Nat} {s : DS} {al ac : Option Addr} {cl cc : Nat} {fused : Bool} {left : Int} (r : DkAt w F p s al ac cl cc fused left) (hf : ∀ k, F k → G k) : DkAt w G p s al ac cl cc fused left :=
  ⟨r.blk, hf _ r.own, r.lown, fun k hk => hf k (r.lfoot k hk), r.cown, fun k hk => hf k (r.cfoot k hk), r.ok, r.fuse, r.left0⟩
theorem dkat_chg {w w' : World} {F G : Nat → Prop} {p : Nat} {s : DS} {al ac : Option Addr} {cl cc : Nat} {fused : Bool} {left : Int} (r : DkAt w F p s al ac cl cc fused left) (hc : Chg G w w') (ha : ∀ k, F k → ¬ G k) : DkAt w' F p s al ac cl cc fused left :=
  ⟨blk_chg hc r.blk (ha _ r.own), r.own, own_chg hc r.lown (fun g hg => ha g (r.lfoot g hg)), r.lfoot, own_chg hc r.cown (fun g hg => ha g (r.cfoot g hg)), r.cfoot, r.ok, r.fuse, r.left0⟩
theorem dk_mono {w : World} {F G : Nat → Prop} {p : Nat} {s : DS} (h : Dk w F p s) (hf : ∀ k, F k → G k) : Dk w G p s := by
  obtain ⟨al, ac, cl, cc, fu, left, r⟩ := h
  exact ⟨al, ac, cl, cc, fu, left, dkat_mono r hf⟩
theorem dk_chg {w w' : World} {F G : Nat → Prop} {p : Nat} {s : DS} (h : Dk w F p s) (hc : Chg G w w') (ha : ∀ k, F k → ¬ G k) : Dk w' F p s := by
  obtain ⟨al, ac, cl, cc, fu, left, r⟩ := h
  exact ⟨al, ac, cl, cc, fu, left, dkat_chg r hc ha⟩
theorem dk_ok {w : World} {F : Nat → Prop} {p : Nat} {s : DS} (h : Dk w F p s) : s.Ok := by obtain ⟨_, _, _, _, _, _, r⟩ := h; exact r.ok
theorem dk_keep {w w' : World} {F : Nat → Prop} {p : Nat} {s : DS} (h : Dk w F p s) (hb : Below w.heap.size w w') : Dk w' F p s := dk_chg h (new_chg hb (fun _ => False)) (fun _ _ => id)

/-! ### What a store into the disk's own cells leaves -/

theorem lown_dk {w : World} {v u : Value} {l : List Sec} {p i : Nat} {cs : List Value} (h : Owns encS 32 73 w 0 v l) (hp : Arr.Blk w p 50 cs) : Owns encS 32 73 (w.setCell ⟨p, i, none⟩ u) 0 v l :=
  own_typed h (set_chg w p i u) (typed_one hp ne_dk_sec)
theorem cown_dk {w : World} {v u : Value} {l : List (Nat × Sec)} {p i : Nat} {cs : List Value} (h : Owns encC 33 75 w 0 v l) (hp : Arr.Blk w p 50 cs) : Owns encC 33 75 (w.setCell ⟨p, i, none⟩ u) 0 v l :=
  own_typed h (set_chg w p i u) (typed_one hp ne_dk_cd)

/-! ### Small calls -/

theorem dsize_any {w : World} {F : Nat → Prop} {p : Nat} {s : DS} (h : Dk w F p s) : Calls Try.prog 22 #[.pointer (some ⟨p, 0, none⟩)] w fun e w' => e = .returned (.int .i64 s.good.length) ∧ w' = w := by
  obtain ⟨al, ac, cl, cc, fu, left, r⟩ := h
  have c0 := Arr.blk_cell r.blk 0
  simp only [List.getElem?_cons_zero] at c0
  clear r
  go_enter Try.func22, Try.ntmps22
  go_wp2
  go_ret
  exact ⟨rfl, rfl⟩
theorem dhas_any {w : World} {F : Nat → Prop} {p : Nat} {s : DS} (h : Dk w F p s) (i : Int) : Calls Try.prog 49 #[.pointer (some ⟨p, 0, none⟩), .int .i64 i] w fun e w' => e = .returned (.bool (decide (inR i s.good.length))) ∧ w' = w := by
  have HS := Lib.hid (dsize_any h)
  clear h
  by_cases h0 : 0 ≤ i
  · by_cases h1 : i < s.good.length
    · have hd : Hid (decide (inR i s.good.length) = true) := Lib.hid (decide_eq_true ⟨h0, h1⟩)
      go_enter Try.func49, Try.ntmps49
      go_wp2_with (first | (go_at_call 22; refine HS.out.mono ?_; rintro e w1 ⟨rfl, rfl⟩) | fail)
      go_ret
      exact ⟨by rw [hd.out]; first | rfl | exact ret_bool (decide_eq_false (by omega)), rfl⟩
    · have hd : Hid (decide (inR i s.good.length) = false) := Lib.hid (decide_eq_false (fun h => h1 h.2))
      go_enter Try.func49, Try.ntmps49
      go_wp2_with (first | (go_at_call 22; refine HS.out.mono ?_; rintro e w1 ⟨rfl, rfl⟩) | fail)
      go_ret
      exact ⟨by rw [hd.out]; first | rfl | exact ret_bool (decide_eq_false (by omega)), rfl⟩
  · have hd : Hid (decide (inR i s.good.length) = false) := Lib.hid (decide_eq_false (fun h => h0 h.1))
    go_enter Try.func49, Try.ntmps49
    go_wp2_with (first | (go_at_call 22; refine HS.out.mono ?_; rintro e w1 ⟨rfl, rfl⟩) | fail)
    go_ret
    exact ⟨by rw [hd.out]; first | rfl | exact ret_bool (decide_eq_false (by omega)), rfl⟩

/-- The fuse lets one more through, or not. -/
theorem dpasses_any {w : World} {F : Nat → Prop} {p : Nat} {s : DS} (h : Dk w F p s) :
    Calls Try.prog 39 #[.pointer (some ⟨p, 0, none⟩)] w fun e w' => e = .returned (.bool (!decide (s.fuse = 0))) ∧ Dk w' F p { s with fuse := burnt s.fuse } ∧ Chg F w w' ∧ w'.heap.size = w.heap.size := by
  obtain ⟨al, ac, cl, cc, fu, left, r⟩ := h
  have c2 := Arr.blk_cell r.blk 2
  have c3 := Arr.blk_cell r.blk 3
  have f3 := Arr.blk_frozen r.blk 3
  simp only [List.getElem?_cons_zero, List.getElem?_cons_succ] at c2 c3
  have hf := r.fuse
  have h0 := r.left0
  cases fu with
  | false =>
    have hf1 : s.fuse = -1 := hf
    have e1 : decide (s.fuse = 0) = false := decide_eq_false (by omega)
    have e2 : burnt s.fuse = s.fuse := by unfold burnt; rw [if_neg (by omega)]
    rw [e1, e2]
    have HR := Lib.hid r
    clear r
    go_enter Try.func39, Try.ntmps39
    go_wp2
    go_ret
    exact ⟨rfl, ⟨al, ac, cl, cc, false, left, HR.out⟩, chg_refl F w, rfl⟩
  | true =>
    have hf1 : s.fuse = left := hf
    by_cases hz : left = 0
    · subst hz
      have e1 : decide (s.fuse = 0) = true := decide_eq_true hf1
      have e2 : burnt s.fuse = s.fuse := by unfold burnt; rw [if_neg (by omega)]
      rw [e1, e2]
      have HR := Lib.hid r
      clear r hf hf1
      go_enter Try.func39, Try.ntmps39
      go_wp2
      go_ret
      exact ⟨rfl, ⟨al, ac, cl, cc, true, 0, HR.out⟩, chg_refl F w, rfl⟩
    · have e1 : decide (s.fuse = 0) = false := decide_eq_false (by omega)
      have e2 : burnt s.fuse = left - 1 := by unfold burnt; rw [if_pos (by omega), hf1]
      have hzb : (left == 0) = false := by rw [beq_eq_false_iff_ne]; exact hz
      rw [e1, e2]
      have hr : DkAt (w.setCell ⟨p, 3, none⟩ (.int .i64 (left - 1))) F p { s with fuse := left - 1 } al ac cl cc true (left - 1) :=
        ⟨Arr.blk_set r.blk 3 _, r.own, lown_dk r.lown r.blk, r.lfoot, cown_dk r.cown r.blk, r.cfoot, fuse_ok r.ok _, rfl, by omega, by omega⟩
      have HR := Lib.hid (And.intro hr (chg_set (chg_refl F w) (.inl r.own) 3 (.int .i64 (left - 1))))
      clear r hr hf hf1 e2
      go_enter Try.func39, Try.ntmps39
      go_wp2
      go_ret
      exact ⟨rfl, ⟨al, ac, cl, cc, true, left - 1, HR.out.1⟩, HR.out.2, setCell_size _ _ _⟩
theorem dfuse_any {w : World} {F : Nat → Prop} {p : Nat} {s : DS} (h : Dk w F p s) (n : Int) (hn : -9223372036854775808 ≤ n ∧ n ≤ 9223372036854775807) :
    Calls Try.prog 13 #[.pointer (some ⟨p, 0, none⟩), .int .i64 n] w fun e w' => e = .returned (.tuple #[]) ∧ Dk w' F p { s with fuse := nf n } ∧ Chg F w w' ∧ w'.heap.size = w.heap.size := by
  obtain ⟨al, ac, cl, cc, fu, left, r⟩ := h
  have c2 := Arr.blk_cell r.blk 2
  have c3 := Arr.blk_cell r.blk 3
  have f2 := Arr.blk_frozen r.blk 2
  have f3 := Arr.blk_frozen r.blk 3
  simp only [List.getElem?_cons_zero, List.getElem?_cons_succ] at c2 c3
  have step : ∀ (b : Bool) (m : Int), nf n = cond b m (-1) → 0 ≤ m ∧ m ≤ 9223372036854775807 →
      DkAt ((w.setCell ⟨p, 2, none⟩ (.bool b)).setCell ⟨p, 3, none⟩ (.int .i64 m)) F p { s with fuse := nf n } al ac cl cc b m ∧ Chg F w ((w.setCell ⟨p, 2, none⟩ (.bool b)).setCell ⟨p, 3, none⟩ (.int .i64 m)) := by
    intro b m hb hm
    have b1 := Arr.blk_set r.blk 2 (.bool b)
    exact ⟨⟨Arr.blk_set b1 3 (.int .i64 m), r.own, lown_dk (lown_dk r.lown r.blk) b1, r.lfoot, cown_dk (cown_dk r.cown r.blk) b1, r.cfoot, fuse_ok r.ok _, hb, hm⟩, chg_set (chg_set (chg_refl F w) (.inl r.own) 2 _) (.inl r.own) 3 _⟩
  by_cases hz : 0 ≤ n
  · have hm : (if n < 0 then (0 : Int) else n) = n := if_neg (by omega)
    have HS := Lib.hid (step true n (by unfold nf; rw [if_neg (by omega)]; rfl) ⟨hz, hn.2⟩)
    clear r step
    go_enter Try.func13, Try.ntmps13
    go_wp2
    go_end0
    exact ⟨rfl, ⟨al, ac, cl, cc, true, n, HS.out.1⟩, HS.out.2, by rw [setCell_size, setCell_size]⟩
  · have HS := Lib.hid (step false 0 (by unfold nf; rw [if_pos (by omega)]; rfl) ⟨by omega, by omega⟩)
    clear r step
    go_enter Try.func13, Try.ntmps13
    go_wp2
    go_end0
    exact ⟨rfl, ⟨al, ac, cl, cc, false, 0, HS.out.1⟩, HS.out.2, by rw [setCell_size, setCell_size]⟩

end Go.Proofs.Ytdgfoldobofgoaa.Dsk
/- Disk: the landed disk: New, and where in its cache a sector is. -/
namespace Go.Proofs.Ytdgfoldobofgoaa.Dsk
open Go.RowKit
open Go.Sort
open Kit
open Oct
open Foot
set_option linter.unusedVariables false

/-! ### New -/

theorem encS_zero : encS (List.replicate 32 0) = List.replicate 32 (Value.int .u8 0) := by kernel_rfl
theorem encS_nil : encS [] = List.replicate 32 (Value.int .u8 0) := by kernel_rfl
theorem flat_zeros : ∀ m : Nat, flat encS (List.replicate m (List.replicate 32 0)) = List.replicate (m * 32) (Value.int .u8 0)
  | 0 => rfl
  | m + 1 => by
    rw [List.replicate_succ]
    show encS _ ++ flat encS _ = _
    rw [flat_zeros m, encS_zero, List.replicate_append_replicate, Nat.add_mul, Nat.one_mul, Nat.add_comm]
theorem rep_at (n j : Nat) (v : Value) (h : 0 < n) : (List.replicate n v).toArray[j % (List.replicate n v).toArray.size]! = v := by
  have hj : j % (List.replicate n v).toArray.size < (List.replicate n v).toArray.size := Nat.mod_lt _ (by simpa using h)
  rw [getElem!_pos (List.replicate n v).toArray _ hj]
  simp
theorem made_secs (m : Nat) : (madeCells (encS []).toArray (m * 32)).toList = flat encS (List.replicate m (List.replicate 32 0)) := by
  rw [flat_zeros, encS_nil]
  apply List.eq_replicate_iff.2
  refine ⟨by simp [madeCells], fun v hv => ?_⟩
  simp only [madeCells, Array.toList_map, List.mem_map] at hv
  obtain ⟨j, _, rfl⟩ := hv
  exact rep_at _ _ _ (by decide)
theorem run_mksec (w : World) (z : Int) (m : Nat) (hz : z = (m : Int)) (hm : m ≤ 1024) : (Instr.makeSlice 47 (.int .i64 z) (.int .i64 z)).run Try.prog w = .ok (.slice (some ⟨w.heap.size, 0, none⟩) m m) (w.alloc (.cells (madeCells (encS []).toArray (m * 32)) 73)) := by
  subst hz
  obtain ⟨i0, hi, hz0, hz1, hz2⟩ := info_parts info_sec
  have := run_make (P := Try.prog) w 47 73 i0 (.agg (encS []).toArray) Try.underlying47 hi hz0 .i64 .i64 m m (by omega) (by omega) (by rw [hz2]; omega) (by omega)
  rw [hz1, Int.toNat_natCast] at this
  exact this
theorem own_secs (w : World) (m : Nat) (hm : m ≤ 1024) : Owns encS 32 73 (w.alloc (.cells (madeCells (encS []).toArray (m * 32)) 73)) 0 (.slice (some ⟨w.heap.size, 0, none⟩) m m) (List.replicate m (List.replicate 32 0)) := by
  refine ⟨by rw [flat_length encS_len], .inr ⟨_, m, _, by rw [List.length_replicate], Nat.zero_le _, heap_alloc_new w _, by rw [List.length_replicate]; exact Nat.le_refl _, by unfold maxLen; omega, size_madeCells _ _, ?_⟩⟩
  rw [made_secs, List.length_replicate, List.take_of_length_le]
  rw [flat_length encS_len, List.length_replicate]; exact Nat.le_refl _
abbrev newDk (w : World) (m : Nat) : World := (w.alloc (.cells (madeCells (encS []).toArray (m * 32)) 73)).alloc (.cells #[.slice (some ⟨w.heap.size, 0, none⟩) m m, .slice none 0 0, .bool false, .int .i64 0] 50)
theorem newDk_is (w : World) (n : Int) (m : Nat) (hm : m = if n < 1024 then n.toNat else 1024) : Dk (newDk w m) (More (fun _ => False) w (newDk w m)) (w.heap.size + 1) (DS.new n) ∧ Below w.heap.size w (newDk w m) := by
  have hm4 : m ≤ 1024 := by rw [hm]; split <;> omega
  have hg : (DS.new n).good = List.replicate m (List.replicate 32 0) := by rw [hm]; rfl
  have hl : (DS.new n).good.length = m := by rw [hg, List.length_replicate]
  have hb : Below w.heap.size w (newDk w m) := ((below_alloc w _).alloc (by simp) _)
  refine ⟨⟨some ⟨w.heap.size, 0, none⟩, none, m, 0, false, 0, ?_, ?_, ?_, ?_, owns_nil _ _ _, (fun k hk => by cases hk), new_ok n, rfl, by omega⟩, hb⟩
  · rw [hl]
    exact Arr.blk_new _ _ _ _ (by simp)
  · exact .inr ⟨by omega, by simp⟩
  · rw [hl, hg]
    exact owns_alloc (own_secs w m hm4) _
  · intro k hk
    injection hk with hk
    subst hk
    exact .inr ⟨Nat.le_refl _, by simp; omega⟩

theorem dnew_any (n : Int) (w : World) (h1 : -9223372036854775808 ≤ n) (h2 : n ≤ 9223372036854775807) :
    Calls Try.prog 7 #[.int .i64 n] w fun e w' => ∃ p, e = .returned (.pointer (some ⟨p, 0, none⟩)) ∧ Dk w' (More (fun _ => False) w w') p (DS.new n) ∧ Below w.heap.size w w' := by
  by_cases h0 : n < 0
  · have hmk := run_mksec w 0 0 rfl (by omega)
    have HN := Lib.hid (newDk_is w n 0 (by split <;> omega))
    go_enter Try.func7, Try.ntmps7
    go_wp2
    go_ret
    exact ⟨_, rfl, HN.out⟩
  · by_cases h3 : n ≤ 1024
    · obtain ⟨m, rfl⟩ : ∃ m : Nat, n = m := ⟨n.toNat, by omega⟩
      have hmk := run_mksec w m m rfl (by omega)
      have HN := Lib.hid (newDk_is w m m (by split <;> omega))
      go_enter Try.func7, Try.ntmps7
      go_wp2
      go_ret
      exact ⟨_, rfl, HN.out⟩
    · have hmk := run_mksec w 1024 1024 rfl (by omega)
      have HN := Lib.hid (newDk_is w n 1024 (by split <;> omega))
      go_enter Try.func7, Try.ntmps7
      go_wp2
      go_ret
      exact ⟨_, rfl, HN.out⟩

/-! ### Where a sector is cached -/

theorem dfind1_any {w : World} (x : Nat × Sec) (i : Int) (bx : Nat) (hb : w.cell? ⟨bx, 0, none⟩ = some (.int .i64 i)) :
    Calls Try.prog 62 #[.agg (encC x).toArray, .pointer (some ⟨bx, 0, none⟩)] w fun e w' => e = .returned (.bool ((x.1 : Int) == i)) ∧ Below w.heap.size w w' := by
  have c0 : (w.alloc (.cells (encC x).toArray 75)).cell? ⟨w.heap.size, 0, none⟩ = some (.int .i64 (x.1 : Int)) := by
    rw [World.cell?_alloc_new]
    rfl
  have c1 := cell_alloc hb (o := .cells (encC x).toArray 75)
  have HB := Lib.hid (below_alloc w (.cells (encC x).toArray 75))
  generalize (encC x).toArray = C at *
  go_enter Try.func62, Try.ntmps62
  go_wp2
  go_ret
  exact ⟨rfl, HB.out⟩
/-- Place j of the list l, or none. -/
def Found (l : List (Nat × Sec)) (i : Int) (j : Int) : Prop := (j = -1 ∧ ∀ x ∈ l, (x.1 : Int) ≠ i) ∨ ∃ k : Nat, ∃ h : k < l.length, j = k ∧ (l[k].1 : Int) = i
theorem run_ld_cd {w : World} {b o : Nat} {x : Nat × Sec} (h : w.rangeAt b o (encC x)) : (Instr.loadAt 75 (.pointer (some ⟨b, o, none⟩))).run Try.prog w = .ok (.agg (encC x).toArray) w :=
  run_loadAt_mid w b o _ _ _ h Try.underlying75 rfl (by rw [encC_len]; kernel_rfl)
theorem run_ld_sec {w : World} {b o : Nat} {l : Sec} (h : w.rangeAt b o (encS l)) : (Instr.loadAt 73 (.pointer (some ⟨b, o, none⟩))).run Try.prog w = .ok (.agg (encS l).toArray) w :=
  run_loadAt_mid w b o _ _ _ h Try.underlying73 rfl (by rw [encS_len]; kernel_rfl)
theorem row_range {α : Type} {enc : α → List Value} {size : Nat} (hs : ∀ x, (enc x).length = size) {w : World} {b o k : Nat} {l : List α} {x : α} (h : Kit.Row enc size w (some ⟨b, o, none⟩) l) (hk : k < l.length) (hx : l[k] = x) : w.rangeAt b (o + k * size) (enc x) := by
  intro j v hv
  have hj : j < size := by rw [← hs x]; exact (List.getElem?_eq_some_iff.1 hv).1
  rw [row_cell h hk hx hj]
  exact hv

set_option maxHeartbeats 1000000 in
theorem dindex_any {w : World} (aa : Option Addr) (len cap : Nat) (l : List (Nat × Sec)) (hl : l.length = len) (hm : len ≤ 9223372036854775807) (hE : Kit.Row encC 33 w aa l) (i : Int) (bx : Nat) (hb : w.cell? ⟨bx, 0, none⟩ = some (.int .i64 i)) :
    Calls Try.prog 61 #[.slice aa len cap, .func (.func 62) #[] #[.pointer (some ⟨bx, 0, none⟩)]] w fun e w' => ∃ j, e = .returned (.int .i64 j) ∧ Found l i j ∧ Below w.heap.size w w' := by
  subst hl
  have HE := Lib.hid hE
  have HB := Lib.hid hb
  clear hE hb
  go_enter Try.func61, Try.ntmps61
  go_wp2_with fail
  go_loopw [5, 8] (fun _ iv wx => ∃ k : Nat, k ≤ l.length ∧ iv = .int .i64 k ∧ Below w.heap.size w wx ∧ ∀ x ∈ l.take k, (x.1 : Int) ≠ i) (fun _ iv _ => l.length - (intOf iv).toNat)
  case atStart => exact ⟨0, Nat.zero_le _, rfl, Below.refl _ _, by simp⟩
  case round =>
    obtain ⟨k, hk, rfl, hbl, hno⟩ := hrel
    have HBl := Lib.hid hbl
    have HNo := Lib.hid hno
    by_cases hlt : k < l.length
    · obtain ⟨b, o, rfl⟩ := Kit.row_some HE.out (by omega)
      have hr := row_keep encC_len HE.out hbl
      have hrg := row_range encC_len hr hlt rfl
      have htk : l.take (k + 1) = l.take k ++ [l[k]] := List.take_succ_eq_append_getElem hlt
      have hmem : l[k] ∈ l := List.getElem_mem hlt
      have hfnd : (l[k].1 : Int) = i → Found l i k := fun h => .inr ⟨k, hlt, rfl, h⟩
      generalize l[k] = x at *
      have HTk := Lib.hid htk
      have HRg := Lib.hid hrg
      have HSz : Hid ((Try.prog.info? 75).map (·.size) = some (encC x).length) := Lib.hid (by rw [encC_len]; kernel_rfl)
      have HFd := Lib.hid hfnd
      have hC := dfind1_any x i bx (cell_keep hbl HB.out)
      have HC := Lib.hid hC
      clear hno hbl hr htk hfnd hC hmem hrg
      cases hq : ((x.1 : Int) == i) with
      | true =>
        have hqe := Lib.hid (beq_iff_eq.1 hq)
        have HQ := Lib.hid hq
        clear hq
        go_wp2_with (first | (refine wpList_load_mid rfl 75 (.tmp 14) rfl b (o + k * 33) rfl (encC x) _ HRg.out Try.underlying75 rfl HSz.out ?_) | (go_at_call 62; refine HC.out.mono ?_; rw [HQ.out]; rintro e w2 ⟨rfl, hb2⟩; have HB2 := Lib.hid (below_keep HBl.out hb2); clear hb2) | fail)
        go_ret
        exact ⟨_, rfl, HFd.out hqe.out, HB2.out⟩
      | false =>
        have hqe := Lib.hid (beq_eq_false_iff_ne.1 hq)
        have HQ := Lib.hid hq
        clear hq
        go_wp2_with (first | (refine wpList_load_mid rfl 75 (.tmp 14) rfl b (o + k * 33) rfl (encC x) _ HRg.out Try.underlying75 rfl HSz.out ?_) | (go_at_call 62; refine HC.out.mono ?_; rw [HQ.out]; rintro e w2 ⟨rfl, hb2⟩; have HB2 := Lib.hid (below_keep HBl.out hb2); clear hb2) | fail)
        go_roundw
        case rel =>
          refine ⟨k + 1, by omega, by go_num, HB2.out, ?_⟩
          rw [HTk.out]
          intro y hy
          rcases List.mem_append.1 hy with hy | hy
          · exact HNo.out y hy
          · simp at hy; subst hy; exact hqe.out
        case measure => simp [intOf]; omega
    · obtain rfl : k = l.length := by omega
      have HF : Hid (Found l i (-1)) := Lib.hid (.inl ⟨rfl, by rw [List.take_length] at hno; exact hno⟩)
      clear hno hbl
      go_wp2
      go_ret
      exact ⟨_, rfl, HF.out, HBl.out⟩

theorem dfind_any {w : World} {F : Nat → Prop} {p : Nat} {s : DS} (h : Dk w F p s) (i : Int) :
    Calls Try.prog 50 #[.pointer (some ⟨p, 0, none⟩), .int .i64 i] w fun e w' => ∃ j, e = .returned (.int .i64 j) ∧ Found (cacheOf s) i j ∧ Below w.heap.size w w' := by
  obtain ⟨al, ac, cl, cc, fu, left, r⟩ := h
  have c1 := Arr.blk_cell (blk_chg (new_chg (below_alloc w (.cells #[.int .i64 i] 3)) (fun _ => False)) r.blk id) 1
  simp only [List.getElem?_cons_zero, List.getElem?_cons_succ] at c1
  obtain ⟨a', c', hv, _, hcm, _, hrow⟩ := owns_row encC_len r.cown
  injection hv with hv1 hv2 hv3
  subst hv1
  have hok := r.ok
  have hol : s.order.length ≤ 9223372036854775807 := by rw [hv2]; unfold maxLen at hcm; omega
  have HI := Lib.hid (dindex_any ac s.order.length cc (cacheOf s) (cacheOf_len s) hol (row_keep encC_len hrow (below_alloc w (.cells #[.int .i64 i] 3))) i w.heap.size (World.cell?_alloc_new w _ _ 0))
  have hmf : ∀ (fn : Fn) (first cap : Array Value) (w : World), (Instr.makeFunc fn first cap).run Try.prog w = .ok (.func fn first cap) w := fun _ _ _ _ => rfl
  have HB := Lib.hid (below_alloc w (.cells #[.int .i64 i] 3))
  clear r hv2 hv3 hrow hok
  go_enter Try.func50, Try.ntmps50
  go_wp2_with (first | (go_at_call 61; refine HI.out.mono ?_; rintro e w2 ⟨j, rfl, hj, hb2⟩; have HJ := Lib.hid hj; have HB2 := Lib.hid (below_keep HB.out hb2); clear hj hb2) | fail)
  go_ret
  exact ⟨j, rfl, HJ.out, HB2.out⟩

end Go.Proofs.Ytdgfoldobofgoaa.Dsk
/- Disk: the landed disk: a write. -/
namespace Go.Proofs.Ytdgfoldobofgoaa.Dsk
open Go.RowKit
open Go.Sort
open Kit
open Oct
open Foot
set_option linter.unusedVariables false

/-! ### Cells that are laid over some of a list's -/

theorem splice_at {α : Type} {L cs : List α} {off : Nat} (h : off + cs.length ≤ L.length) (j : Nat) : (splice L off cs)[j]? = if j < off then L[j]? else if j < off + cs.length then cs[j - off]? else L[j]? := by
  unfold splice
  have h1 : (L.take off).length = off := by rw [List.length_take]; omega
  by_cases h2 : j < off
  · rw [if_pos h2, List.getElem?_append_left (by omega), List.getElem?_take_of_lt h2]
  · rw [if_neg h2, List.getElem?_append_right (by omega), h1]
    by_cases h3 : j < off + cs.length
    · rw [if_pos h3, List.getElem?_append_left (by omega)]
    · rw [if_neg h3, List.getElem?_append_right (by omega), List.getElem?_drop]
      congr 1; omega
/-- One element of a list of the call's own is changed in part. -/
theorem owns_splice {α : Type} {enc : α → List Value} {size : Nat} (hs : ∀ x, (enc x).length = size) (hz : 0 < size) {e : TypeId} {w : World} {base g n cap : Nat} {l : List α} (h : Owns enc size e w base (.slice (some ⟨g, 0, none⟩) n cap) l)
    {k : Nat} (hk : k < l.length) (o : Nat) (cs : List Value) (x' : α) (hfit : o + cs.length ≤ size) (hx : enc x' = splice (enc l[k]) o cs) :
    ∃ cur, w.heap[g]? = some (.cells cur e (0, 0)) ∧ k * size + o + cs.length ≤ cur.size ∧ Owns enc size e (w.setRow g (splice cur.toList (k * size + o) cs).toArray) base (.slice (some ⟨g, 0, none⟩) n cap) (l.set k x') := by
  obtain ⟨h1, h2⟩ := h
  rcases h2 with ⟨h2, _⟩ | ⟨g', cap', cur, h2, hb, hg, hn, hm, hc, ht⟩
  · cases h2
  injection h2 with h2 h3 h4
  injection h2 with h2
  injection h2 with h2
  subst h2 h3 h4
  have hfl := flat_length hs l
  have hmul : (k + 1) * size ≤ l.length * size := Nat.mul_le_mul_right _ (by omega)
  rw [Nat.add_mul, Nat.one_mul] at hmul
  have hcap : l.length * size ≤ cap * size := Nat.mul_le_mul_right _ hn
  have hcl : cur.toList.length = cap * size := by simpa using hc
  have hin : k * size + o + cs.length ≤ cur.toList.length := by omega
  refine ⟨cur, hg, by rw [hc]; omega, by rw [flat_length hs], .inr ⟨g, cap, _, by rw [List.length_set], hb, setRow_heap w g _ _ _ _ hg, by rw [List.length_set]; exact hn, hm, ?_, ?_⟩⟩
  · show (splice cur.toList _ cs).length = _
    rw [length_splice _ _ _ hin, hcl]
  · rw [List.length_set]
    apply List.ext_getElem?
    intro j
    by_cases hj : j < l.length * size
    · rw [List.getElem?_take_of_lt hj]
      show (splice cur.toList _ cs)[j]? = _
      rw [splice_at hin]
      have hq : j / size < l.length := by rw [Nat.div_lt_iff_lt_mul hz]; exact hj
      have hr := Nat.mod_lt j hz
      have hjq : j / size * size + j % size = j := by rw [Nat.mul_comm]; exact Nat.div_add_mod j size
      have hset := flat_at hs (l.set k x') (j / size) (by rw [List.length_set]; exact hq) (j % size) hr
      have hold := flat_at hs l (j / size) hq (j % size) hr
      rw [hjq] at hset hold
      have hcur : cur.toList[j]? = (flat enc l)[j]? := by rw [← ht, List.getElem?_take_of_lt hj]
      rw [hset]
      by_cases hkq : k = j / size
      · subst hkq
        rw [List.getElem_set_self, hx, splice_at (by rw [hs]; exact hfit)]
        rw [hold] at hcur
        rw [hcur]
        generalize j / size * size = m at *
        by_cases ha : j < m + o
        · rw [if_pos ha, if_pos (show j % size < o by omega)]
        · rw [if_neg ha, if_neg (show ¬ j % size < o by omega)]
          by_cases hb : j < m + o + cs.length
          · rw [if_pos hb, if_pos (show j % size < o + cs.length by omega)]
            congr 1; omega
          · rw [if_neg hb, if_neg (show ¬ j % size < o + cs.length by omega)]
      · rw [List.getElem_set_ne hkq]
        rw [hold] at hcur
        rw [← hcur]
        have hne : j < k * size ∨ k * size + size ≤ j := by
          rcases Nat.lt_or_gt_of_ne hkq with h5 | h5
          · have : (k + 1) * size ≤ j / size * size := Nat.mul_le_mul_right _ h5
            rw [Nat.add_mul, Nat.one_mul] at this
            omega
          · have : (j / size + 1) * size ≤ k * size := Nat.mul_le_mul_right _ h5
            rw [Nat.add_mul, Nat.one_mul] at this
            omega
        by_cases ha : j < k * size + o
        · rw [if_pos ha]
        · rw [if_neg ha, if_neg (by omega)]
    · rw [List.getElem?_eq_none (by rw [List.length_take]; omega), List.getElem?_eq_none (by rw [flat_length hs, List.length_set]; omega)]

/-- 'copy' onto bytes in a block: the world behind it by name. -/
theorem wpList_copy_hid {P : Program} {w : World} {ops : Array Oper} {rest : List Oper} {o : Oper} {a : Act} {Q : Exit → Act → World → Prop} (hgd : o.guard = none) (d s : Operand) (dT sT : TypeId)
    (ho : o.op = .call { callee := .builtin .copy, args := #[d, s], argTypes := #[dT, sT] }) (elem : TypeId) (hu : P.underlying dT = some (.slice elem)) (hsz : (P.info? elem).map (·.size) = some 1)
    (g off dLen dCap : Nat) (ad : Addr) (sLen sCap : Nat) (hd : a.eval d = .slice (some ⟨g, off, none⟩) dLen dCap) (hs : a.eval s = .slice (some ad) sLen sCap)
    (cur : Array Value) (t : TypeId) (hg : w.heap[g]? = some (.cells cur t (0, 0))) (cs : List Value) (hn : cs.length = Nat.min sLen dLen)
    (hsrc : ∀ j v, cs[j]? = some v → w.cell? (ad.add j) = some v) (hfit : off + cs.length ≤ cur.size) (h1 : ∀ v ∈ cs, v.oneCell' = true)
    (h : ∀ w', Hid (w' = w.setRow g (splice cur.toList off cs).toArray) → wpList P ops Q rest (a.put o.dst (goInt cs.length)) w') : wpList P ops Q (o :: rest) a w :=
  wpList_copy_own hgd d s dT sT ho elem hu hsz g off dLen dCap ad sLen sCap hd hs cur t hg cs hn hsrc hfit h1 (h _ rfl)
theorem size_u8 : (Try.prog.info? 5).map (·.size) = some 1 := by kernel_rfl

/-! ### The disk in memory, whatever is cached -/

structure DkM (w : World) (F : Nat → Prop) (p : Nat) (good : List Sec) (cache : List (Nat × Sec)) (al ac : Option Addr) (cl cc : Nat) (fused : Bool) (left : Int) : Prop where
  blk : Arr.Blk w p 50 [.slice al good.length cl, .slice ac cache.length cc, .bool fused, .int .i64 left]
  own : F p
  lown : Owns encS 32 73 w 0 (.slice al good.length cl) good
  lfoot : ∀ k, (Value.slice al good.length cl).ownBlock = some k → F k
  cown : Owns encC 33 75 w 0 (.slice ac cache.length cc) cache
  cfoot : ∀ k, (Value.slice ac cache.length cc).ownBlock = some k → F k
variable {w w' : World} {F G : Nat → Prop} {p cl cc : Nat} {good : List Sec} {cache : List (Nat × Sec)} {al ac : Option Addr} {fu : Bool} {left : Int} {s : DS}
theorem dkm_of (r : DkAt w F p s al ac cl cc fu left) : DkM w F p s.good (cacheOf s) al ac cl cc fu left := by
  obtain ⟨h1, h2, h3, h4, h5, h6, _, _, _⟩ := r
  rw [← cacheOf_len s] at h1 h5 h6
  exact ⟨h1, h2, h3, h4, h5, h6⟩
theorem dkm_at (h : DkM w F p s.good (cacheOf s) al ac cl cc fu left) (ok : s.Ok) (hf : s.fuse = cond fu left (-1)) (h0 : 0 ≤ left ∧ left ≤ 9223372036854775807) : DkAt w F p s al ac cl cc fu left := by
  obtain ⟨h1, h2, h3, h4, h5, h6⟩ := h
  rw [cacheOf_len s] at h1 h5 h6
  exact ⟨h1, h2, h3, h4, h5, h6, ok, hf, h0⟩
theorem dkm_mono (r : DkM w F p good cache al ac cl cc fu left) (hf : ∀ k, F k → G k) : DkM w G p good cache al ac cl cc fu left :=
  ⟨r.blk, hf _ r.own, r.lown, fun k hk => hf k (r.lfoot k hk), r.cown, fun k hk => hf k (r.cfoot k hk)⟩
theorem dkm_chg (r : DkM w F p good cache al ac cl cc fu left) (hc : Chg G w w') (ha : ∀ k, F k → ¬ G k) : DkM w' F p good cache al ac cl cc fu left :=
  ⟨blk_chg hc r.blk (ha _ r.own), r.own, own_chg hc r.lown (fun g hg => ha g (r.lfoot g hg)), r.lfoot, own_chg hc r.cown (fun g hg => ha g (r.cfoot g hg)), r.cfoot⟩
theorem dkm_keep (r : DkM w F p good cache al ac cl cc fu left) (hb : Below w.heap.size w w') : DkM w' F p good cache al ac cl cc fu left := dkm_chg r (new_chg hb (fun _ => False)) (fun _ _ => id)
theorem row_chgF (w : World) (b : Nat) (ds : Array Value) : Chg (fun k => k = b) w (w.setRow b ds) := chg_row (F := fun k => k = b) (chg_refl _ w) (.inl rfl) ds
theorem encC_splice {q : Nat} {old l : Sec} (hl : l.length = 32) : encC (q, l) = splice (encC (q, old)) 1 (cellsB l) := by
  unfold splice
  rw [cellsB_length, hl, List.drop_of_length_le (by rw [encC_len]; exact Nat.le_refl _), List.append_nil]
  show _ :: encS l = [_] ++ cellsB l
  rw [encS_is hl]; rfl
/-- Cached sector k is l. -/
theorem dkm_copy (r : DkM w F p good cache al ac cl cc fu left) {k q : Nat} (hk : k < cache.length) (hq : cache[k].1 = q) {l : Sec} (hl : l.length = 32) :
    ∃ b cur, ac = some ⟨b, 0, none⟩ ∧ F b ∧ w.heap[b]? = some (.cells cur 75 (0, 0)) ∧ k * 33 + 1 + 32 ≤ cur.size ∧
      ∀ w', w' = w.setRow b (splice cur.toList (k * 33 + 1) (cellsB l)).toArray → DkM w' F p good (cache.set k (q, l)) al ac cl cc fu left ∧ Chg F w w' := by
  obtain ⟨b, rfl, _, _, _⟩ := own_at encC_len r.cown (by omega)
  have hF := r.cfoot b rfl
  have hxe : encC (q, l) = splice (encC cache[k]) 1 (cellsB l) := by
    generalize cache[k] = y at hq
    subst hq
    exact encC_splice hl
  obtain ⟨cur, hcur, hsz, ho⟩ := owns_splice encC_len (by omega) r.cown hk 1 (cellsB l) (q, l) (by rw [cellsB_length, hl]; exact Nat.le_refl _) hxe
  rw [cellsB_length, hl] at hsz
  refine ⟨b, cur, rfl, hF, hcur, hsz, fun w' hw' => ?_⟩
  subst hw'
  have hc := row_chgF w b (splice cur.toList (k * 33 + 1) (cellsB l)).toArray
  refine ⟨⟨?_, r.own, own_typed r.lown hc (typed_one hcur (Ne.symm ne_sec_cd)), r.lfoot, ?_, ?_⟩, chg_row (chg_refl F w) (.inl hF) _⟩
  · rw [List.length_set]
    exact blk_chg hc r.blk fun e => by
      have := r.blk
      unfold Arr.Blk at this
      rw [e, hcur] at this
      injection this with this
      injection this with _ h2 _
      exact ne_dk_cd h2.symm
  · rw [List.length_set]; exact ho
  · rw [List.length_set]; exact r.cfoot
/-- One more is cached. -/
theorem dkm_append {wa w9 : World} {v9 : Value} {x : Nat × Sec} (r : DkM wa F p good cache al ac cl cc fu left) (hF : ∀ k, F k → k < wa.heap.size) (ho : Owns encC 33 75 w9 0 v9 (cache ++ [x])) (hg : wa.grownBy w9 (Value.slice ac cache.length cc).ownBlock) (hw : v9.ownBlock = (Value.slice ac cache.length cc).ownBlock ∨ v9.ownBlock = some wa.heap.size) :
    ∃ b9 c9, v9 = .slice (some ⟨b9, 0, none⟩) (cache.length + 1) c9 ∧ (w9.cell? ⟨p, 1, none⟩ = some (.slice ac cache.length cc) ∧ w9.frozen? ⟨p, 1, none⟩ = false) ∧
      DkM (w9.setCell ⟨p, 1, none⟩ (.slice (some ⟨b9, 0, none⟩) (cache.length + 1) c9)) (More F wa w9) p good (cache ++ [x]) al (some ⟨b9, 0, none⟩) cl c9 fu left ∧ Chg F wa (w9.setCell ⟨p, 1, none⟩ (.slice (some ⟨b9, 0, none⟩) (cache.length + 1) c9)) := by
  obtain ⟨a9, c9, rfl, _, _, _, _⟩ := owns_row encC_len ho
  obtain ⟨b9, rfl, _, _, _⟩ := own_at encC_len ho (by simp)
  have hl : (cache ++ [x]).length = cache.length + 1 := by simp
  rw [hl] at ho hw
  have c3 := grown_chg hg
  have b3 := blk_typed r.blk c3 (typed_own r.cown (Ne.symm ne_dk_cd))
  have l3 := own_typed r.lown c3 (typed_own r.cown (Ne.symm ne_sec_cd))
  have hC : Chg F wa w9 := chg_trans (chg_refl F wa) c3 fun k hk => .inl (r.cfoot k hk.symm)
  have b4 := Arr.blk_set b3 1 (.slice (some ⟨b9, 0, none⟩) (cache.length + 1) c9)
  refine ⟨b9, c9, by rw [hl], ⟨Arr.blk_cell b3 1, Arr.blk_frozen b3 1⟩, ⟨?_, more_old r.own, lown_dk l3 b3, fun k hk => more_old (r.lfoot k hk), ?_, ?_⟩, chg_set hC (.inl r.own) _ _⟩
  · rw [hl]; exact b4
  · rw [hl]; exact cown_dk ho b3
  · intro k hk
    rcases hw with hw | hw
    · exact more_old (r.cfoot k (by rw [← hw]; exact hk))
    · rw [show (Value.slice (some ⟨b9, 0, none⟩) (cache.length + 1) c9).ownBlock = some b9 from rfl] at hw
      injection hw with hw
      injection hk with hk
      subst hk
      have hlt : b9 < w9.heap.size := (World.ownsRow.lt ho b9 rfl).2
      replace hw : b9 = wa.heap.size := hw
      have := hg.size
      show More F wa w9 b9
      exact more_new (by omega) hlt

/-! ### What is cached, in words of a disk -/

theorem cacheOf_in (ok : s.Ok) {k q : Nat} (hk : k < s.order.length) (hq : s.order[k] = q) (l : Sec) (f : Int) : cacheOf { s with now := s.now.set q l, fuse := f } = (cacheOf s).set k (q, l) := by
  subst hq
  have hqn : s.order[k] < s.now.length := by rw [ok.len]; exact ok.ordLt _ (List.getElem_mem hk)
  apply List.ext_getElem
  · rw [List.length_set, cacheOf_len, cacheOf_len]
  · intro j h1 h2
    rw [cacheOf_len] at h1
    have h1' : j < s.order.length := h1
    rw [cacheOf_at _ (by rw [cacheOf_len]; exact h1) h1, List.getElem_set]
    by_cases hj : k = j
    · subst hj
      rw [if_pos rfl]
      show (s.order[k], (s.now.set s.order[k] l).getD s.order[k] []) = _
      rw [List.getD, List.getElem?_set_self hqn]; rfl
    · rw [if_neg hj, cacheOf_at _ (by rw [cacheOf_len]; exact h1') h1']
      show (s.order[j], (s.now.set s.order[k] l).getD s.order[j] []) = _
      have hne : s.order[k] ≠ s.order[j] := fun e => hj ((List.getElem_inj ok.nodup).1 e)
      rw [List.getD, List.getElem?_set_ne hne]; rfl
theorem cacheOf_new (ok : s.Ok) {q : Nat} (hq : q < s.good.length) (hn : q ∉ s.order) (l : Sec) (f : Int) : cacheOf { s with now := s.now.set q l, order := s.order ++ [q], fuse := f } = cacheOf s ++ [(q, l)] := by
  have hqn : q < s.now.length := by rw [ok.len]; exact hq
  unfold cacheOf
  simp only [List.map_append, List.map_cons, List.map_nil]
  congr 1
  · apply List.map_congr_left
    intro j hj
    have hne : q ≠ j := fun e => hn (e ▸ hj)
    rw [List.getD, List.getElem?_set_ne hne]; rfl
  · rw [List.getD, List.getElem?_set_self hqn]; rfl
theorem found_none {q : Nat} (h : ∀ x ∈ cacheOf s, (x.1 : Int) ≠ (q : Int)) : q ∉ s.order := fun hm => h (q, s.now.getD q []) (List.mem_map.2 ⟨q, hm, rfl⟩) rfl
theorem found_some {q k : Nat} (hk : k < (cacheOf s).length) (h : (((cacheOf s)[k].1 : Nat) : Int) = (q : Int)) : ∃ h' : k < s.order.length, s.order[k] = q := by
  have h' : k < s.order.length := by rw [← cacheOf_len s]; exact hk
  refine ⟨h', ?_⟩
  rw [cacheOf_at s hk h'] at h
  exact Int.natCast_inj.1 h
theorem nodup_le : ∀ (n : Nat) (l : List Nat), l.Nodup → (∀ i ∈ l, i < n) → l.length ≤ n
  | 0, l, _, h => by
    cases l with
    | nil => exact Nat.le_refl _
    | cons x l => exact absurd (h x (by simp)) (by omega)
  | n + 1, l, hd, h => by
    have h1 := nodup_le n (l.erase n) (hd.erase n) fun i hi => by
      obtain ⟨h2, h3⟩ := (hd.mem_erase_iff).1 hi
      have := h i h3; omega
    rw [List.length_erase] at h1
    split at h1 <;> omega
theorem order_le (ok : s.Ok) : s.order.length ≤ 1024 := by
  have h1 := ok.small
  have h2 : s.order.length ≤ s.good.length := nodup_le _ s.order ok.nodup ok.ordLt
  omega

/-! ### Write -/

theorem row_chg' {ad : Addr} {l : List UInt8} (hr : RowB w (some ad) l) (hA : ¬ F ad.block) (hF : ∀ k, F k → k < w.heap.size) (hC : Chg F w w') : RowB w' (some ad) l := by
  rcases hr with e | ⟨b, o, e, h⟩
  · exact .inl e
  · injection e with e
    subst e
    exact row_chg encB_len hC (.inr ⟨b, o, rfl, h⟩) hA


set_option maxHeartbeats 2000000 in
theorem dwrite_any (h : Dk w F p s) (hF : ∀ k, F k → k < w.heap.size) (i : Int) (aa : Option Addr) (len cp : Nat) (l : Sec) (hi : -9223372036854775808 ≤ i ∧ i ≤ 9223372036854775807) (hl : l.length = len) (hlc : len ≤ cp) (hcm : cp ≤ maxLen) (hn : aa = none → len = 0 ∧ cp = 0) (hE : RowB w aa l) (hA : ∀ q, aa = some q → ¬ F q.block) :
    Calls Try.prog 45 #[.pointer (some ⟨p, 0, none⟩), .int .i64 i, .slice aa len cp] w fun e w' => e = .returned (.int .i64 (s.write i l).1) ∧ Dk w' (More F w w') p (s.write i l).2 ∧ Chg F w w' := by
  have hH := dhas_any h i
  have hmx : len ≤ 9223372036854775807 := by unfold maxLen at hcm; omega
  by_cases h1 : inR i s.good.length
  · rw [decide_eq_true h1] at hH
    have HH := Lib.hid hH
    clear hH
    by_cases h2 : l.length = 32
    · have hlen : len = 32 := by rw [← hl]; exact h2
      subst hlen
      have HP := Lib.hid (dpasses_any h)
      by_cases h0 : s.fuse = 0
      · have hw : s.write i l = (10, s) := by
          unfold DS.write
          rw [if_neg (by simp only [Decidable.not_not]; exact ⟨h1, h2⟩), if_pos h0]
        have HW := Lib.hid hw
        have hb : ({ s with fuse := burnt s.fuse } : DS) = s := by
          have : burnt s.fuse = s.fuse := by rw [h0]; rfl
          rw [this]
        have HB := Lib.hid hb
        have HZ := Lib.hid (decide_eq_true h0)
        clear hw hb h1 h0 h
        go_enter Try.func45, Try.ntmps45
        go_wp2_with (first
          | (go_at_call 49; refine HH.out.mono ?_; rintro e w0 ⟨rfl, h0⟩; replace h0 := h0.symm; subst h0)
          | (go_at_call 39; refine HP.out.mono ?_; rw [HZ.out, HB.out]; rintro e w1 ⟨rfl, hd, hC, hz⟩; have HD := Lib.hid (And.intro hd hC); clear hd hC hz)
          | fail)
        go_ret
        exact ⟨by rw [HW.out]; rfl, by rw [HW.out]; exact dk_mono HD.out.1 (fun _ => more_old), HD.out.2⟩
      · have hd0 := decide_eq_false h0
        have HZ := Lib.hid hd0
        obtain ⟨q, rfl⟩ : ∃ q : Nat, i = q := ⟨i.toNat, by have := h1.1; omega⟩
        have hqg : q < s.good.length := by have := h1.2; omega
        have hok := dk_ok h
        obtain ⟨S2, hS2⟩ : ∃ S2 : DS, S2 = { s with now := s.now.set q l, order := if q ∈ s.order then s.order else s.order ++ [q], fuse := burnt s.fuse } := ⟨_, rfl⟩
        have hwr : s.write q l = (0, S2) := by
          unfold DS.write
          rw [if_neg (by simp only [Decidable.not_not]; exact ⟨h1, h2⟩), if_neg h0, Int.toNat_natCast, hS2]
        have HS2 := Lib.hid hS2
        have hok2 := write_ok hok q l
        rw [hwr] at hok2 ⊢
        obtain ⟨ad, rfl⟩ : ∃ ad, aa = some ad := by
          cases aa with
          | none => have := (hn rfl).1; omega
          | some ad => exact ⟨ad, rfl⟩
        have HO := Lib.hid (And.intro hok hok2)
        have HR := Lib.hid (And.intro hE (hA ad rfl))
        have HF := Lib.hid hF
        have HQ := Lib.hid hqg
        have HL := Lib.hid (And.intro h2 (order_le hok))
        clear hok hok2 hE hA hF hqg hwr hn h1 h0 hd0 h hS2
        go_enter Try.func45, Try.ntmps45
        go_wp2_with (first
          | (go_at_call 49; refine HH.out.mono ?_; rintro e w0 ⟨rfl, h0⟩; replace h0 := h0.symm; subst h0)
          | (go_at_call 39; refine HP.out.mono ?_; rw [HZ.out]; rintro e w1 ⟨rfl, hd, hC, hz⟩; have HD := Lib.hid (And.intro hd (And.intro hC hz)); clear hd hC hz)
          | fail)
        refine (dfind_any HD.out.1 q).mono ?_
        rintro e w2 ⟨j, rfl, hj, hb2⟩
        have hj' : Found (cacheOf s) q j := hj
        have hd2 := dk_keep HD.out.1 hb2
        obtain ⟨al, ac, cl, cc, fu, left, r⟩ := hd2
        have rm := dkm_of r
        have hC2 : Chg F w w2 := chg_trans HD.out.2.1 (new_chg hb2 F) fun _ h => .inl h
        have hfl : burnt s.fuse = cond fu left (-1) := r.fuse
        have hl0 := r.left0
        have HC2 := Lib.hid (And.intro hC2 (And.intro hfl hl0))
        have HX := Lib.hid r.ok
        rw [show (cacheOf { s with fuse := burnt s.fuse }) = cacheOf s from rfl, show ({ s with fuse := burnt s.fuse } : DS).good = s.good from rfl] at rm
        have hrow2 : RowB w2 (some ad) l := by
          rcases HR.out.1 with e | ⟨b, o, e, h⟩
          · exact .inl e
          · injection e with e
            subst e
            exact row_chg encB_len hC2 (.inr ⟨b, o, rfl, h⟩) HR.out.2
        clear r hj hb2 hC2 hfl hl0
        rcases hj' with ⟨rfl, hno⟩ | ⟨k, hk, rfl, hkq⟩
        · have hnm := found_none hno
          have c1 := Arr.blk_cell rm.blk 1
          simp only [List.getElem?_cons_zero, List.getElem?_cons_succ] at c1
          have hown := owns_alloc rm.cown (.cells (encC (q, [])).toArray 75)
          have ra := dkm_keep rm (below_alloc w2 (.cells (encC (q, [])).toArray 75))
          have hb2 := below_alloc w2 (.cells (encC (q, [])).toArray 75)
          have hFa : ∀ k, F k → k < (w2.alloc (.cells (encC (q, [])).toArray 75)).heap.size := fun k hk => Nat.lt_of_lt_of_le (HF.out k hk) (Nat.le_trans HC2.out.1.size hb2.size)
          have hrowa := row_keep encB_len hrow2 hb2
          have hCa : Chg F w (w2.alloc (.cells (encC (q, [])).toArray 75)) := chg_trans HC2.out.1 (new_chg hb2 F) fun _ h => .inl h
          have hcl := cacheOf_len s
          have hcl4 : (cacheOf s).length ≤ 1024 := by rw [hcl]; exact HL.out.2
          have HNm := Lib.hid hnm
          have HA := Lib.hid (And.intro hown (And.intro ra (And.intro hFa (And.intro hrowa hCa))))
          have HCl := Lib.hid (And.intro hcl hcl4)
          have c1a := cell_alloc c1 (o := .cells (encC (q, [])).toArray 75)
          clear hno hnm hown ra hFa hrowa hCa hb2 rm hrow2 hcl hcl4
          go_wp2_with (first
            | (at_builtin; refine Two.append_apart encC_len (by omega) encC_one rfl (.tmp 34) (.tmp 37) 48 75 rfl Try.underlying48 (.agg (encC (0, [])).toArray) 40 info_cd (by simp [Value.cells, encC_len]) 0 (.slice ac (cacheOf s).length cc) (cacheOf s) rfl HA.out.1 (some ⟨w2.heap.size, 0, none⟩) 1 1 [(q, [])] rfl rfl (Kit.row_new encC_len w2 [(q, [])] _ _ _ rfl rfl) (fun h => by cases h) (by have := HCl.out.2; unfold maxLen; omega) (by have := HCl.out.2; omega) (Nat.zero_le _) ?_; intro v9 w9 ho9 hg9 hw9
               obtain ⟨b9, c9, rfl, ⟨p1, f1⟩, r9, hC9⟩ := dkm_append HA.out.2.1 HA.out.2.2.1 ho9 hg9 hw9
               have hrow9 := row_chg' HA.out.2.2.2.1 (HR.out.2) (HA.out.2.2.1) hC9
               obtain ⟨b, cur, hbe, hFb, hcur, hsz, hcp⟩ := dkm_copy r9 (k := (cacheOf s).length) (q := q) (by simp) (by simp) HL.out.1
               obtain rfl : b9 = b := by injection hbe with hbe; injection hbe
               have hCw := chg_trans HA.out.2.2.2.2 hC9 fun _ h => .inl h
               have HCp := Lib.hid (And.intro hcp (And.intro hcur (And.intro hsz (And.intro hbe hCw))))
               have HRw := Lib.hid (row_cells hrow9 ad rfl)
               clear ho9 hg9 hw9 r9 hC9 hrow9 hcp hcur hsz hbe hFb hCw)
            | (refine wpList_copy_hid rfl (.tmp 48) (.tmp 49) 27 27 rfl 5 Try.underlying27 size_u8 b9 ((cacheOf s).length * 33 + 1) 32 32 ad 32 cp rfl rfl cur 75 HCp.out.2.1 (cellsB l) (by rw [cellsB_length, HL.out.1]; rfl) HRw.out (by rw [cellsB_length, HL.out.1]; exact HCp.out.2.2.1) (cellsB_one l) ?_; intro w10 hw10; have H10 := Lib.hid (HCp.out.1 w10 hw10.out); clear hw10)
            | fail)
          go_ret
          have h10 := H10.out
          have hs2 := HS2.out
          rw [if_neg HNm.out] at hs2
          have hset : (cacheOf s ++ [(q, [])]).set (cacheOf s).length (q, l) = cacheOf s ++ [(q, l)] := by simp
          rw [hset, ← cacheOf_new HO.out.1 HQ.out HNm.out l (burnt s.fuse), ← hs2] at h10
          rw [show s.good = S2.good by rw [hs2]] at h10
          have hCa := HA.out.2.2.2.2
          have hCw := HCp.out.2.2.2.2
          have hsz : w9.heap.size ≤ w10.heap.size := by have := h10.2.size; rw [setCell_size] at this; exact this
          have hC : Chg F w w10 := chg_trans hCw h10.2 fun x hx => hx.imp id fun h => Nat.le_trans hCa.size h.1
          refine ⟨rfl, ⟨al, _, cl, c9, fu, left, dkm_at (dkm_mono h10.1 fun x hx => hx.imp id fun h => ⟨Nat.le_trans hCa.size h.1, Nat.lt_of_lt_of_le h.2 hsz⟩) HO.out.2 (by rw [hs2]; exact HC2.out.2.1) HC2.out.2.2⟩, hC⟩
        · obtain ⟨hko, hkq'⟩ := found_some hk hkq
          obtain ⟨b, cur, rfl, hFb, hcur, hsz, hcp⟩ := dkm_copy rm hk (Int.natCast_inj.1 hkq) HL.out.1
          have c1 := Arr.blk_cell rm.blk 1
          simp only [List.getElem?_cons_zero, List.getElem?_cons_succ] at c1
          rw [cacheOf_len] at c1
          have hklt : (k : Int) < s.order.length := by omega
          have HCp := Lib.hid (And.intro hcp (And.intro hcur hsz))
          have HRw := Lib.hid (row_cells hrow2 ad rfl)
          have HKq := Lib.hid (And.intro hkq' hko)
          have hmem : q ∈ s.order := by rw [← hkq']; exact List.getElem_mem hko
          have HMem := Lib.hid hmem
          clear hrow2 hcp hcur hsz rm hkq hkq' hk hmem
          go_wp2_with (first
            | (refine wpList_copy_hid rfl (.tmp 48) (.tmp 49) 27 27 rfl 5 Try.underlying27 size_u8 b (k * 33 + 1) 32 32 ad 32 cp rfl rfl cur 75 HCp.out.2.1 (cellsB l) (by rw [cellsB_length, HL.out.1]; rfl) HRw.out (by rw [cellsB_length, HL.out.1]; exact HCp.out.2.2) (cellsB_one l) ?_; intro w9 hw9; have H9 := Lib.hid (HCp.out.1 w9 hw9.out); clear hw9)
            | fail)
          go_ret
          refine ⟨rfl, ⟨al, some ⟨b, 0, none⟩, cl, cc, fu, left, ?_⟩, chg_trans HC2.out.1 H9.out.2 fun _ h => .inl h⟩
          have h9 := H9.out.1
          have hs2 := HS2.out
          rw [if_pos HMem.out] at hs2
          rw [← cacheOf_in HO.out.1 HKq.out.2 HKq.out.1 l (burnt s.fuse), ← hs2] at h9
          rw [show s.good = S2.good by rw [hs2]] at h9
          exact dkm_at (dkm_mono h9 fun _ => more_old) HO.out.2 (by rw [hs2]; exact HC2.out.2.1) HC2.out.2.2
    · have hw : s.write i l = (1, s) := by
        unfold DS.write
        rw [if_pos (show ¬ (inR i s.good.length ∧ l.length = 32) from fun h => h2 h.2)]
      have HW := Lib.hid hw
      have HD := Lib.hid h
      have hne : ((len : Int) == 32) = false := by rw [beq_eq_false_iff_ne]; omega
      clear hw h h1
      go_enter Try.func45, Try.ntmps45
      go_wp2_with (first
        | (go_at_call 49; refine HH.out.mono ?_; rintro e w0 ⟨rfl, h0⟩; replace h0 := h0.symm; subst h0)
        | fail)
      go_ret
      exact ⟨by rw [HW.out]; rfl, by rw [HW.out]; exact dk_mono HD.out (fun _ => more_old), chg_refl F w⟩
  · have hw : s.write i l = (1, s) := by
      unfold DS.write
      rw [if_pos (show ¬ (inR i s.good.length ∧ l.length = 32) from fun h => h1 h.1)]
    rw [decide_eq_false h1] at hH
    have HH := Lib.hid hH
    have HW := Lib.hid hw
    have HD := Lib.hid h
    clear hw h h1 hH
    go_enter Try.func45, Try.ntmps45
    go_wp2_with (first
      | (go_at_call 49; refine HH.out.mono ?_; rintro e w0 ⟨rfl, h0⟩; replace h0 := h0.symm; subst h0)
      | fail)
    go_ret
    exact ⟨by rw [HW.out]; rfl, by rw [HW.out]; exact dk_mono HD.out (fun _ => more_old), chg_refl F w⟩

end Go.Proofs.Ytdgfoldobofgoaa.Dsk
/- Disk: the landed disk: a read. -/
namespace Go.Proofs.Ytdgfoldobofgoaa.Dsk
open Go.RowKit
open Go.Sort
open Kit
open Oct
open Foot
set_option linter.unusedVariables false
variable {w w' : World} {F G : Nat → Prop} {p cl cc : Nat} {good : List Sec} {cache : List (Nat × Sec)} {al ac : Option Addr} {fu : Bool} {left : Int} {s : DS}

theorem row_blk {x : Nat} {t : TypeId} {l : Sec} (h : Arr.Blk w x t (cellsB l)) : RowB w (some ⟨x, 0, none⟩) l := by
  refine .inr ⟨x, 0, rfl, fun j hj i hi => ?_⟩
  have : i = 0 := by omega
  subst this
  rw [Nat.mul_one, Nat.zero_add, Nat.add_zero, Arr.blk_cell h]
  simp [encB, cellsB, List.getElem?_eq_getElem hj]
/-- What was read of a block of its own. -/
theorem rd_blk {x : Nat} {t : TypeId} {l : Sec} {base : Nat} (h : Arr.Blk w x t (encS l)) (hl : l.length = 32) (hb : base ≤ x) : RdB w base (.slice (some ⟨x, 0, none⟩) 32 32) l := by
  rw [encS_is hl] at h
  refine ⟨_, 32, by rw [hl], by omega, by unfold maxLen; omega, (fun e => by cases e), row_blk h, fun q hq => ?_⟩
  injection hq with hq
  subst hq
  exact ⟨rfl, hb, Arr.blk_lt h⟩
theorem size_sec (l : Sec) : (Try.prog.info? 73).map (·.size) = some (encS l).length := by rw [encS_len]; kernel_rfl
theorem encS_all (l : Sec) : (encS l).all (·.oneCell') = true := List.all_eq_true.2 (encS_one l)
theorem cd_range {b o k : Nat} {l : List (Nat × Sec)} (h : Kit.Row encC 33 w (some ⟨b, o, none⟩) l) (hk : k < l.length) {x : Nat × Sec} (hx : l[k] = x) : w.rangeAt b (o + k * 33 + 1) (encS x.2) := by
  intro j v hv
  have hj : j < 32 := by rw [← encS_len x.2]; exact (List.getElem?_eq_some_iff.1 hv).1
  have := row_range encC_len h hk hx (j + 1) v (by show (Value.int .i64 _ :: encS x.2)[j + 1]? = _; rw [List.getElem?_cons_succ]; exact hv)
  rw [show o + k * 33 + 1 + j = o + k * 33 + (j + 1) by omega]
  exact this

set_option maxHeartbeats 2000000 in
theorem dread_any (h : Dk w F p s) (i : Int) (hi : -9223372036854775808 ≤ i ∧ i ≤ 9223372036854775807) :
    Calls Try.prog 38 #[.pointer (some ⟨p, 0, none⟩), .int .i64 i] w fun e w' => ∃ v, e = .returned (.tuple #[v, .int .i64 (s.read i).2]) ∧ RdB w' w.heap.size v (s.read i).1 ∧ Below w.heap.size w w' := by
  have hH := dhas_any h i
  by_cases h1 : inR i s.good.length
  · rw [decide_eq_true h1] at hH
    have HH := Lib.hid hH
    clear hH
    obtain ⟨q, rfl⟩ : ∃ q : Nat, i = q := ⟨i.toNat, by have := h1.1; omega⟩
    have hqg : q < s.good.length := by have := h1.2; omega
    have hrd : s.read q = (s.now.getD q [], 0) := by unfold DS.read; rw [if_pos h1]; rfl
    rw [hrd]
    obtain ⟨al, ac, cl, cc, fu, left, r⟩ := h
    have hok := r.ok
    have hnq : q < s.now.length := by rw [hok.len]; exact hqg
    have hn32 : (s.now.getD q []).length = 32 := hok.now32 _ (getD_mem hnq)
    have hg32 : s.good[q].length = 32 := hok.good32 _ (List.getElem_mem hqg)
    have hrest : q ∉ s.order → s.now.getD q [] = s.good[q] := fun hn => by
      rw [List.getD, hok.rest q hn, List.getElem?_eq_getElem hqg]; rfl
    have hol := order_le hok
    have c0 := Arr.blk_cell r.blk 0
    simp only [List.getElem?_cons_zero] at c0
    obtain ⟨gl, rfl, _, _, hrowl⟩ := own_at encS_len r.lown (by omega)
    have hrg := row_range encS_len hrowl hqg rfl
    rw [Nat.zero_add] at hrg
    have hlt : (q : Int) < s.good.length := by omega
    generalize s.good[q] = old at *
    obtain ⟨new, hnew⟩ : ∃ n, n = s.now.getD q [] := ⟨_, rfl⟩
    rw [← hnew] at hn32 hrest ⊢
    have HR := Lib.hid r
    have HRg := Lib.hid hrg
    have HNew := Lib.hid (And.intro hnew (And.intro hn32 (And.intro hg32 (And.intro hrest hol))))
    have hba := below_alloc w (.cells (encS []).toArray 73)
    have hblk : Arr.Blk (w.alloc (.cells (encS []).toArray 73)) w.heap.size 73 (encS []) := Arr.blk_new _ _ _ _ rfl
    have HBk := Lib.hid hblk
    have HBa := Lib.hid hba
    clear r hok hnq hn32 hg32 hrest hol hrowl hrg hnew h1 hrd hba hblk
    go_enter Try.func38, Try.ntmps38
    go_wp2_with (first
      | (go_at_call 49; refine HH.out.mono ?_; rintro e w0 ⟨rfl, h0⟩; replace h0 := h0.symm; subst h0)
      | (refine wpList_load_mid rfl 73 (.tmp 17) rfl gl (q * 32) rfl (encS old) _ HRg.out Try.underlying73 rfl (size_sec old) ?_)
      | (refine Arr.wpList_store_blk rfl 73 (.tmp 6) (.tmp 18) rfl w.heap.size (encS old) rfl rfl (encS []) 73 HBk.out (size_sec old) (by rw [encS_len, encS_len]) (encS_all old) w.heap.size (Nat.le_refl _) ?_; intro w3 hB3 hb3; have H3 := Lib.hid (And.intro hB3 (HBa.out.trans hb3)); clear hB3 hb3)
      | fail)
    refine (dfind_any ⟨_, _, _, _, _, _, dkat_chg HR.out (new_chg H3.out.2 (fun _ => False)) (fun _ _ => id)⟩ q).mono ?_
    rintro e w4 ⟨j, rfl, hj, hb4⟩
    have hb04 := below_keep H3.out.2 hb4
    have r4 := dkat_chg HR.out (new_chg hb04 (fun _ => False)) (fun _ _ => id)
    have hB4 := Arr.blk_below H3.out.1 hb4 (Arr.blk_lt H3.out.1)
    have H4 := Lib.hid (And.intro hB4 hb04)
    rcases hj with ⟨rfl, hno⟩ | ⟨k, hk, rfl, hkq⟩
    · have hnm := found_none hno
      have HE := Lib.hid (HNew.out.2.2.2.1 hnm)
      clear hnm hno hb4 hb04 r4 hB4
      go_wp2
      go_ret2
      refine ⟨_, rfl, ?_, H4.out.2⟩
      show RdB _ _ _ new
      rw [HE.out]
      exact rd_blk H4.out.1 HNew.out.2.2.1 (Nat.le_refl _)
    · obtain ⟨hko, hkq'⟩ := found_some hk hkq
      have c1 := Arr.blk_cell r4.blk 1
      simp only [List.getElem?_cons_zero, List.getElem?_cons_succ] at c1
      obtain ⟨b, rfl, _, _, hrowc⟩ := own_at encC_len r4.cown (by omega)
      have hrg := cd_range hrowc hk (cacheOf_at s hk hko)
      rw [Nat.zero_add] at hrg
      have hdat : s.now.getD s.order[k] [] = new := by rw [hkq', HNew.out.1]
      simp only at hrg
      rw [hdat] at hrg
      have HRk := Lib.hid hrg
      have hklt : (k : Int) < s.order.length := by omega
      clear hb4 hb04 r4 hB4 hkq hk hko hkq' hrowc hrg hdat
      go_wp2_with (first
        | (refine wpList_load_mid rfl 73 (.tmp 30) rfl b (k * 33 + 1) rfl (encS new) _ HRk.out Try.underlying73 rfl (size_sec new) ?_)
        | (refine Arr.wpList_store_blk rfl 73 (.tmp 6) (.tmp 31) rfl w.heap.size (encS new) rfl rfl (encS old) 73 H4.out.1 (size_sec new) (by rw [encS_len, encS_len]) (encS_all new) w.heap.size (Nat.le_refl _) ?_; intro w5 hB5 hb5; have H5 := Lib.hid (And.intro hB5 (H4.out.2.trans hb5)); clear hB5 hb5)
        | fail)
      go_ret2
      exact ⟨_, rfl, rd_blk H5.out.1 HNew.out.2.1 (Nat.le_refl _), H5.out.2⟩
  · rw [decide_eq_false h1] at hH
    have HH := Lib.hid hH
    have hrd : s.read i = ([], 1) := by unfold DS.read; rw [if_neg h1]
    rw [hrd]
    clear hH h h1 hrd
    go_enter Try.func38, Try.ntmps38
    go_wp2_with (first
      | (go_at_call 49; refine HH.out.mono ?_; rintro e w0 ⟨rfl, h0⟩; replace h0 := h0.symm; subst h0)
      | fail)
    go_ret2
    exact ⟨_, rfl, ⟨none, 0, rfl, Nat.le_refl _, by unfold maxLen; omega, fun _ => rfl, .inl rfl, fun q hq => by cases hq⟩, Below.refl _ _⟩

end Go.Proofs.Ytdgfoldobofgoaa.Dsk
/- Common: drawn regions: calls of function values, and of copy. -/
namespace Go.Proofs.Ytdgfoldobofgoaa.Rel
open Go.RowKit
variable {P : Program} {Q : Exit → Act → World → Prop} {o : Oper} {a : Act} {w : World} {K : Act → World → Prop}
/-- A function value (a closure: what it has captured stands behind its arguments). -/
theorem wp_fv (x : Operand) (xs : List Operand) (ts : Array TypeId) (ho : o.op = .call { callee := .value x, args := xs.toArray, argTypes := ts }) {f : FuncId} {caps : Array Value} (hx : a.eval x = .func (.func f) #[] caps) {fn : Func} (hf : P.funcs[f]? = some fn) (hk : (fn.body.isSome && !(fn.name == "runtime.NumGoroutine")) = true)
    (hc : Calls P f ((xs.map a.eval).toArray ++ caps) w fun e w' => ∃ v, e = .returned v ∧ K (a.put o.dst v) w') : o.wp P a w K Q := by
  unfold Oper.wp execOp
  simp only [ho]
  simp [resolve, Deferred.ofValue, invoke, hx]
  have hr : (callFunc f ((xs.map a.eval).toArray ++ caps)).run P w = .ok (.enter f ((xs.map a.eval).toArray ++ caps)) w := by
    simp only [Bool.and_eq_true, Bool.not_eq_true', Option.isSome_iff_exists] at hk
    obtain ⟨⟨c, hb⟩, hn⟩ := hk
    have hn' : ¬ fn.name = "runtime.NumGoroutine" := by simpa using hn
    simp [callFunc, hf, hb, hn']
  rw [hr]
  refine hc.mono fun e w' ⟨v, he, hK⟩ => ?_
  subst he
  exact hK
theorem wp_cp (d s : Operand) (t t' : TypeId) (ho : o.op = .call { callee := .builtin .copy, args := #[d, s], argTypes := #[t, t'] }) {v u v' : Value} {w' : World} (hd : a.eval d = v) (hs : a.eval s = u)
    (hr : (Builtin.copy_ #[t, t'] o.type #[v, u]).run P w = .ok v' w') (h : K (a.put o.dst v') w') : o.wp P a w K Q := by
  unfold Oper.wp execOp
  simp only [ho, resolve, invoke, builtin, Sem.run_bind, Sem.run_pure, Result.andThen_ok, List.map_toArray, List.map_cons, List.map_nil, hd, hs, hr]
  exact h
end Go.Proofs.Ytdgfoldobofgoaa.Rel
/- Disk: the landed disk: what is cached becomes for good, or in part; Flush and Crash. -/
namespace Go.Proofs.Ytdgfoldobofgoaa.Dsk
open Go.RowKit
open Go.Sort
open Kit
open Oct
open Foot
set_option linter.unusedVariables false

/-! ### In words of a disk -/

/-- The first n cached sectors are settled, each by as many bytes as m tells. -/
def settleF (m : Nat → Nat) (now : List Sec) (order : List Nat) : Nat → List Sec → List Sec
  | 0, g => g
  | n + 1, g => let g' := settleF m now order n g; let i := order.getD n 0; g'.set i (mix (m n) (g'.getD i []) (now.getD i []))
theorem settle_is (keep torn cut : Int) (now : List Sec) (order : List Nat) (g : List Sec) : ∀ n, settle keep torn cut now order n g = settleF (many keep torn cut) now order n g
  | 0 => rfl
  | n + 1 => by simp only [settle, settleF]; rw [settle_is keep torn cut now order g n]
variable {m : Nat → Nat}
theorem settleF_length (now : List Sec) (order : List Nat) (n : Nat) (g : List Sec) : (settleF m now order n g).length = g.length := by
  induction n with
  | zero => rfl
  | succ n ih => simp only [settleF]; rw [List.length_set, ih]
theorem settleF_32 (hm : ∀ n, m n ≤ 32) (now : List Sec) (order : List Nat) (g : List Sec) (hn : ∀ l ∈ now, l.length = 32) (hg : ∀ l ∈ g, l.length = 32) (hl : now.length = g.length) (ho : ∀ i ∈ order, i < g.length) :
    ∀ n, n ≤ order.length → ∀ l ∈ settleF m now order n g, l.length = 32
  | 0, _ => hg
  | n + 1, h => by
    intro l hmem
    simp only [settleF] at hmem
    have ih := settleF_32 hm now order g hn hg hl ho n (by omega)
    have hi : order.getD n 0 < g.length := ho _ (getD_mem (by omega))
    rcases List.mem_or_eq_of_mem_set hmem with hmem | rfl
    · exact ih l hmem
    · refine mix_length ?_ ?_ (hm n)
      · exact ih _ (getD_mem (by rw [settleF_length]; exact hi))
      · exact hn _ (getD_mem (by omega))
theorem settleF_all (now : List Sec) (order : List Nat) (g : List Sec) (hn : ∀ l ∈ now, l.length = 32) (hg : ∀ l ∈ g, l.length = 32) (hl : now.length = g.length) (ho : ∀ i ∈ order, i < g.length) :
    ∀ n, n ≤ order.length → ∀ i, (settleF (fun _ => 32) now order n g)[i]? = if i ∈ order.take n then now[i]? else g[i]?
  | 0, _, i => by simp [settleF]
  | n + 1, h, i => by
    have ih := settleF_all now order g hn hg hl ho n (by omega)
    have h32 := settleF_32 (m := fun _ => 32) (fun _ => Nat.le_refl _) now order g hn hg hl ho n (by omega)
    have hi : order.getD n 0 < g.length := ho _ (getD_mem (by omega))
    have hgl := settleF_length (m := fun _ => 32) now order n g
    have htk : order.take (n + 1) = order.take n ++ [order.getD n 0] := by rw [List.take_succ_eq_append_getElem (by omega), getD_at (by omega)]
    simp only [settleF]
    rw [htk]
    generalize order.getD n 0 = q at *
    rw [mix_whole (h32 _ (getD_mem (by omega))) (hn _ (getD_mem (by omega)))]
    by_cases hq : q = i
    · subst hq
      rw [List.getElem?_set_self (by omega), if_pos (by simp), getD_at (by omega), List.getElem?_eq_getElem (by omega)]
    · rw [List.getElem?_set_ne hq, ih i]
      have : (i ∈ order.take n ++ [q]) ↔ i ∈ order.take n := by simp [Ne.symm hq]
      by_cases hm : i ∈ order.take n
      · rw [if_pos hm, if_pos (this.2 hm)]
      · rw [if_neg hm, if_neg (fun h => hm (this.1 h))]
theorem settleF_flush {s : DS} (ok : s.Ok) : settleF (fun _ => 32) s.now s.order s.order.length s.good = s.now := by
  apply List.ext_getElem?
  intro i
  rw [settleF_all s.now s.order s.good ok.now32 ok.good32 ok.len ok.ordLt _ (Nat.le_refl _), List.take_length]
  by_cases h : i ∈ s.order
  · rw [if_pos h]
  · rw [if_neg h, ok.rest i h]

/-! ### In memory -/

variable {w w' : World} {F G : Nat → Prop} {p cl cc : Nat} {good : List Sec} {cache : List (Nat × Sec)} {al ac : Option Addr} {fu : Bool} {left : Int} {s : DS}
theorem cellsB_take (l : Sec) (m : Nat) : cellsB (l.take m) = (cellsB l).take m := by simp [cellsB]
theorem cellsB_drop (l : Sec) (m : Nat) : cellsB (l.drop m) = (cellsB l).drop m := by simp [cellsB]
theorem encS_mix {m : Nat} {old new : Sec} (h1 : old.length = 32) (h2 : new.length = 32) (hm : m ≤ 32) : encS (mix m old new) = splice (encS old) 0 ((encS new).take m) := by
  have hl : ((encS new).take m).length = m := by rw [List.length_take, encS_len]; omega
  unfold splice
  rw [hl, encS_is (mix_length h1 h2 hm), encS_is h1, encS_is h2]
  unfold mix
  rw [cellsB_append, cellsB_take, cellsB_drop, List.take_zero, List.nil_append, Nat.zero_add]
/-- The first m bytes of sector q become for good as they were written. -/
theorem dkm_settle (r : DkM w F p good cache al ac cl cc fu left) {q m : Nat} (hq : q < good.length) {new : Sec} (h1 : (good.getD q []).length = 32) (h2 : new.length = 32) (hm : m ≤ 32) :
    ∃ b cur, al = some ⟨b, 0, none⟩ ∧ b ≠ p ∧ F b ∧ w.heap[b]? = some (.cells cur 73 (0, 0)) ∧ q * 32 + 0 + m ≤ cur.size ∧
      ∀ w', w' = w.setRow b (splice cur.toList (q * 32 + 0) ((encS new).take m)).toArray → DkM w' F p (good.set q (mix m (good.getD q []) new)) cache al ac cl cc fu left ∧ Chg F w w' := by
  obtain ⟨b, rfl, _, _, _⟩ := own_at encS_len r.lown (by omega)
  have hF := r.lfoot b rfl
  rw [getD_at hq] at h1 ⊢
  have hcl : ((encS new).take m).length = m := by rw [List.length_take, encS_len]; omega
  obtain ⟨cur, hcur, hsz, ho⟩ := owns_splice encS_len (by omega) r.lown hq 0 ((encS new).take m) (mix m good[q] new) (by rw [hcl]; omega) (encS_mix h1 h2 hm)
  rw [hcl] at hsz
  have hbp : b ≠ p := fun e => by
    have := r.blk
    unfold Arr.Blk at this
    rw [← e, hcur] at this
    injection this with this
    injection this with _ h2 _
    exact ne_dk_sec h2.symm
  refine ⟨b, cur, rfl, hbp, hF, hcur, hsz, fun w' hw' => ?_⟩
  subst hw'
  have hc := row_chgF w b (splice cur.toList (q * 32 + 0) ((encS new).take m)).toArray
  refine ⟨⟨?_, r.own, ?_, ?_, own_typed r.cown hc (typed_one hcur ne_sec_cd), r.cfoot⟩, chg_row (chg_refl F w) (.inl hF) _⟩
  · rw [List.length_set]
    exact blk_chg hc r.blk (Ne.symm hbp)
  · rw [List.length_set]; exact ho
  · rw [List.length_set]; exact r.lfoot
theorem run_ld_secs {w : World} {a : Addr} {ag : Option Addr} {n c : Nat} (h : w.cell? a = some (.slice ag n c)) : (Instr.loadAt 47 (.pointer (some a))).run Try.prog w = .ok (.slice ag n c) w := by
  simp [go_sem, h]
theorem run_ia_secs (b q n c : Nat) (h : q < n) (w : World) : (Instr.indexAt 47 (.slice (some ⟨b, 0, none⟩) n c) (.int .i64 (q : Nat))).run Try.prog w = .ok (.pointer (some ⟨b, q * 32, none⟩)) w := by
  simp [go_sem]
  omega
theorem run_sl_arr (b o : Nat) (w : World) : (Instr.sliceAt 73 (.pointer (some ⟨b, o, none⟩)) none none none).run Try.prog w = .ok (.slice (some ⟨b, o, none⟩) 32 32) w := by
  simp [go_sem]
theorem run_sl_to (b o m : Nat) (h : m ≤ 32) (w : World) : (Instr.sliceAt 73 (.pointer (some ⟨b, o, none⟩)) none (some (.int .i64 (m : Nat))) none).run Try.prog w = .ok (.slice (some ⟨b, o, none⟩) m 32) w := by
  obtain ⟨i0, hi, _⟩ := info_parts info8
  simp [Instr.sliceAt, Instr.sliceBounds, Instr.sliceBound, Instr.sureAddr, asIntOf, run_underlying Try.underlying73, sizeOf, typeInfo, h, hi, Addr.add]

theorem run_copy_splice {P : Program} (w : World) (dT sT ty elem : TypeId) (g o dLen dCap : Nat) (a : Addr) (sLen sCap : Nat) (cur : Array Value) (t : TypeId) (cs : List Value)
    (hu : P.underlying dT = some (.slice elem)) (hs : (P.info? elem).map (·.size) = some 1)
    (hg : w.heap[g]? = some (.cells cur t (0, 0))) (hn : cs.length = Nat.min sLen dLen)
    (hsrc : ∀ j v, cs[j]? = some v → w.cell? (a.add j) = some v) (hfit : o + cs.length ≤ cur.size) (h1 : ∀ v ∈ cs, v.oneCell' = true) :
    (Builtin.copy_ #[dT, sT] ty #[.slice (some ⟨g, o, none⟩) dLen dCap, .slice (some a) sLen sCap]).run P w = .ok (goInt cs.length) (w.setRow g (splice cur.toList o cs).toArray) := by
  rw [run_copy_row P w dT sT ty elem g o dLen dCap a sLen sCap cur t cs hu hs hg hn hsrc hfit h1, List.append_assoc]; rfl

/-- In the region that settles one: only the copy, its last operation, changes anything. -/
def JS (b : Nat) (W X : World) (L : Array Bool) (w : World) : Prop := Chg (fun k => k = b) W w ∧ cond (L.getD 13 false) (w = X) (w = W.drew)
variable {b : Nat} {W X : World} {L : Array Bool}
theorem js_set (h : JS b W X L w) {k : Nat} (hk : k ≠ 13) : JS b W X (L.setIfInBounds k true) w := by
  unfold JS at h ⊢
  rw [set_far hk]; exact h
theorem js_start (b : Nat) (W X : World) {n : Nat} : JS b W X (Array.replicate n false) W.drew := by
  have e : (Array.replicate n false).getD 13 false = false := by
    by_cases hm : 13 < n <;> simp [hm]
  refine ⟨chg_drew (chg_refl _ _), ?_⟩
  rw [e]; rfl
theorem js_first (h : JS b W X L w) (hf : L.getD 13 true = false) : w = W.drew := by
  have := h.2
  rw [free_it hf] at this
  exact this
theorem js_last (h : JS b W X L w) (hf : L.getD 13 true = false) (hC : Chg (fun k => k = b) W X) (hw : w' = X) : JS b W X (L.setIfInBounds 13 true) w' := by
  subst hw
  refine ⟨hC, ?_⟩
  rw [set_it hf]; rfl
theorem js_end {n : Nat} (h : JS b W X (Array.replicate n true) w) (hn : 13 < n) : w = X := by
  have e : (Array.replicate n true).getD 13 false = true := by simp [hn]
  have := h.2
  rw [e] at this
  exact this

set_option maxRecDepth 100000 in
set_option maxHeartbeats 4000000 in
theorem dsettle_any (m : Nat → Nat) (hm : ∀ n, m n ≤ 32) (r : DkM w F p s.good (cacheOf s) al ac cl cc fu left) (ok : s.Ok) (hF : ∀ k, F k → k < w.heap.size) (f : FuncId) (caps : Array Value) (fn : Func) (hf : Try.prog.funcs[f]? = some fn) (hk : (fn.body.isSome && !(fn.name == "runtime.NumGoroutine")) = true)
    (hcall : ∀ (k : Nat) (wx : World), k < s.order.length → Chg F w wx → Calls Try.prog f (#[.int .i64 (k : Nat)] ++ caps) wx fun e w' => e = .returned (.int .i64 (m k : Nat)) ∧ w' = wx) :
    Calls Try.prog 28 #[.pointer (some ⟨p, 0, none⟩), .func (.func f) #[] caps] w fun e w' => e = .returned (.tuple #[]) ∧ DkM w' F p (settleF m s.now s.order s.order.length s.good) [] al none cl 0 fu left ∧ Chg F w w' := by
  have c1 := Arr.blk_cell r.blk 1
  simp only [List.getElem?_cons_zero, List.getElem?_cons_succ] at c1
  have hcl := cacheOf_len s
  have HR := Lib.hid r
  have HFn := Lib.hid (And.intro hf hk)
  have HCall := Lib.hid hcall
  have HF := Lib.hid hF
  have HOk := Lib.hid ok
  have HM := Lib.hid hm
  have HCl := Lib.hid hcl
  have hol := order_le ok
  clear r hf hk hcall hF ok hm
  rw [hcl] at c1
  generalize s.order.length = n at *
  clear hcl
  go_enter Try.func28, Try.ntmps28
  go_wp2_with fail
  go_loopw [11] (fun iv wx => ∃ k : Nat, k ≤ n ∧ iv = .int .i64 k ∧ DkM wx F p (settleF m s.now s.order k s.good) (cacheOf s) al ac cl cc fu left ∧ Chg F w wx) (fun iv _ => n - (intOf iv).toNat)
  case atStart => exact ⟨0, Nat.zero_le _, rfl, HR.out, chg_refl F w⟩
  case round =>
    obtain ⟨k, hk, rfl, hr, hC⟩ := hrel
    have HRr := Lib.hid hr
    have HCr := Lib.hid hC
    clear hr hC
    by_cases hlt : k < n
    · obtain ⟨b, rfl, _, _, hrow⟩ := own_at encC_len HRr.out.cown (by rw [HCl.out]; omega)
      have hkc : k < (cacheOf s).length := by rw [HCl.out]; exact hlt
      have hko : k < s.order.length := by rw [← cacheOf_len s]; exact hkc
      have hrg := row_range encC_len hrow hkc (cacheOf_at s hkc hko)
      rw [Nat.zero_add] at hrg
      have hqg : s.order[k] < s.good.length := HOk.out.ordLt _ (List.getElem_mem hko)
      have hstep : settleF m s.now s.order (k + 1) s.good = (settleF m s.now s.order k s.good).set s.order[k] (mix (m k) ((settleF m s.now s.order k s.good).getD s.order[k] []) (s.now.getD s.order[k] [])) := by
        simp only [settleF]; rw [getD_at hko]
      have hg32 := settleF_32 HM.out s.now s.order s.good HOk.out.now32 HOk.out.good32 HOk.out.len HOk.out.ordLt k (Nat.le_of_lt hko)
      have hgl := settleF_length (m := m) s.now s.order k s.good
      have hn32 : (s.now.getD s.order[k] []).length = 32 := HOk.out.now32 _ (getD_mem (by rw [HOk.out.len]; exact hqg))
      rw [← hgl] at hqg
      have ho32 : ((settleF m s.now s.order k s.good).getD s.order[k] []).length = 32 := hg32 _ (getD_mem hqg)
      have hmk := HM.out k
      have hcall := fun wx => HCall.out k wx hlt
      have HRr' := HRr
      clear HRr
      generalize settleF m s.now s.order k s.good = g at *
      generalize s.order[k] = q at *
      generalize s.now.getD q [] = new at *
      generalize m k = mk at *
      have HRg := Lib.hid hrg
      have HSz : Hid ((Try.prog.info? 75).map (·.size) = some (encC (q, new)).length) := Lib.hid (by rw [encC_len]; kernel_rfl)
      have HAll : Hid ((encC (q, new)).all (·.oneCell') = true) := Lib.hid (List.all_eq_true.2 (encC_one (q, new)))
      have hba := below_alloc wr (.cells (encC (0, [])).toArray 75)
      have HBk : Hid (Arr.Blk (wr.alloc (.cells (encC (0, [])).toArray 75)) wr.heap.size 75 (encC (0, []))) := Lib.hid (Arr.blk_new _ _ _ _ rfl)
      have HBa := Lib.hid hba
      have HStep := Lib.hid hstep
      have HSt := Lib.hid (And.intro hqg (And.intro ho32 (And.intro hn32 hmk)))
      have HCa := Lib.hid hcall
      have HMk := Lib.hid hmk
      clear hrow hrg hba hstep hg32 hgl hqg ho32 hn32 hmk hcall hko hkc
      go_wp2_with (first
        | (refine wpList_load_mid rfl 75 (.tmp 14) rfl b (k * 33) rfl (encC (q, new)) _ HRg.out Try.underlying75 rfl HSz.out ?_)
        | (refine Arr.wpList_store_blk rfl 75 (.tmp 5) (.tmp 15) rfl wr.heap.size (encC (q, new)) rfl rfl (encC (0, [])) 75 HBk.out HSz.out (by rw [encC_len, encC_len]) HAll.out wr.heap.size (Nat.le_refl _) ?_; intro w3 hB3 hb3; have H3 := Lib.hid (And.intro hB3 (HBa.out.trans hb3)); clear hB3 hb3)
        | fail)
      have hs3 : wr.heap.size ≤ w3.heap.size := H3.out.2.size
      have hC3 : Chg F w w3 := chg_trans HCr.out (new_chg H3.out.2 F) fun _ h => .inl h
      have r3 := dkm_keep HRr'.out H3.out.2
      have r3d := dkm_keep r3 (below_drew w3)
      obtain ⟨gl, cur, rfl, hbp, hFb, hcur, hsz, hst⟩ := dkm_settle r3d HSt.out.1 HSt.out.2.1 HSt.out.2.2.1 HSt.out.2.2.2
      have hglw : gl < wr.heap.size := Nat.lt_of_lt_of_le (HF.out _ hFb) HCr.out.size
      have k0 := Arr.blk_cell r3.blk 0
      have k1 := Arr.blk_cell H3.out.1 0
      simp only [List.getElem?_cons_zero] at k0
      have HCe : Hid (w3.cell? ⟨p, 0, none⟩ = some (.slice (some ⟨gl, 0, none⟩) g.length cl) ∧ w3.cell? ⟨wr.heap.size, 0, none⟩ = some (.int .i64 (q : Nat))) := Lib.hid ⟨k0, k1⟩
      have HNe : Hid (¬ (p = gl) ∧ ¬ (wr.heap.size = gl)) := Lib.hid ⟨fun e => hbp e.symm, fun e => by omega⟩
      have HLq : Hid (q < g.length) := Lib.hid HSt.out.1
      have HCf := Lib.hid (fun (wz : World) (hz : Chg (fun k => k = gl) w3 wz) => HCa.out wz (chg_trans hC3 hz fun x hx => .inl (by subst hx; exact hFb)))
      have hrun := run_copy_splice (P := Try.prog) w3.drew 27 27 3 5 gl (q * 32 + 0) 32 32 ⟨wr.heap.size, 1, none⟩ mk 32 cur 73 ((encS new).take mk) Try.underlying27 size_u8 hcur
        (by rw [List.length_take, encS_len])
        (fun j v hv => by
          have hj : j < mk := by have := (List.getElem?_eq_some_iff.1 hv).1; rw [List.length_take] at this; omega
          rw [List.getElem?_take_of_lt hj] at hv
          rw [add_plain]
          have := Arr.blk_cell (blk_chg (new_chg (below_drew w3) (fun _ => False)) H3.out.1 id) (1 + j)
          rw [this, Nat.add_comm]
          exact hv)
        (by have := HSt.out.2.2.2; rw [List.length_take, encS_len]; omega) (fun v hv => encS_one new v (List.mem_of_mem_take hv))
      have HCp := Lib.hid (And.intro hrun (And.intro (chg_row (F := fun k => k = gl) (chg_drew (chg_refl _ w3)) (.inl rfl) (splice cur.toList (q * 32 + 0) ((encS new).take mk)).toArray) (hst _ rfl)))
      have HC3 := Lib.hid hC3
      clear hs3 hC3 r3 r3d hbp hFb hcur hsz hst hglw k0 k1 hrun
      generalize hgn : g.length = gn at *
      refine Rel.wp_region_rel (G := fun _ _ => True) (Rel.tab [.is (.pointer (some ⟨p, 0, none⟩)), .is (.pointer (some ⟨p, 0, none⟩)), .is (.pointer (some ⟨p, 0, none⟩)), .is (.slice (some ⟨gl, 0, none⟩) gn cl), .is (.pointer (some ⟨wr.heap.size, 0, none⟩)), .is (.int .i64 (q : Nat)), .is (.pointer (some ⟨gl, q * 32, none⟩)), .is (.slice (some ⟨gl, q * 32, none⟩) 32 32), .is (.pointer (some ⟨wr.heap.size, 1, none⟩)), .is (.func (.func f) #[] caps), .is (.int .i64 (k : Nat)), .is (.int .i64 (mk : Nat)), .is (.slice (some ⟨wr.heap.size, 1, none⟩) mk 32), Rel.Kd.any]) (JS gl w3 (w3.drew.setRow gl (splice cur.toList (q * 32 + 0) ((encS new).take mk)).toArray)) (by kernel_rfl) (by kernel_rfl) (by kernel_rfl) (by kernel_rfl) (fun w => trivial) (js_start _ _ _) ?_ ?_
      · refine ⟨?_, ?_, ?_, ?_, ?_, ?_, ?_, ?_, ?_, ?_, ?_, ?_, ?_, ?_, trivial⟩
        · intro L a w c
          refine .inl ⟨Rel.wanted_free (by kernel_rfl) _, ?_⟩
          exact Rel.wp_mv _ rfl ⟨_, rfl, trivial, (c.old 0 (v := .pointer (some ⟨p, 0, none⟩)) (by kernel_rfl) (by kernel_rfl)), (js_set c.inv (by decide))⟩
        · intro L a w c
          refine .inl ⟨Rel.wanted_free (by kernel_rfl) _, ?_⟩
          exact Chn.wp_nc _ rfl (c.get 0 16 (by kernel_rfl)) ⟨_, rfl, trivial, rfl, (js_set c.inv (by decide))⟩
        · intro L a w c
          refine .inl ⟨Rel.wanted_free (by kernel_rfl) _, ?_⟩
          exact Chn.wp_fa _ _ _ rfl (c.get 1 17 (by kernel_rfl)) (by simp [go_sem]) ⟨_, rfl, trivial, rfl, (js_set c.inv (by decide))⟩
        · intro L a w c
          refine .inl ⟨Rel.wanted_free (by kernel_rfl) _, ?_⟩
          exact Rel.wp_ld _ _ rfl (c.get 2 18 (by kernel_rfl)) (run_ld_secs (cell_chg c.inv.1 HCe.out.1 HNe.out.1)) ⟨_, rfl, trivial, rfl, (js_set c.inv (by decide))⟩
        · intro L a w c
          refine .inl ⟨Rel.wanted_free (by kernel_rfl) _, ?_⟩
          exact Chn.wp_fa _ _ _ rfl (c.old 5 (v := .pointer (some ⟨wr.heap.size, 0, none⟩)) (by kernel_rfl) (by kernel_rfl)) (by simp [go_sem]) ⟨_, rfl, trivial, rfl, (js_set c.inv (by decide))⟩
        · intro L a w c
          refine .inl ⟨Rel.wanted_free (by kernel_rfl) _, ?_⟩
          exact Rel.wp_ld _ _ rfl (c.get 4 20 (by kernel_rfl)) (run_ld_i (cell_chg c.inv.1 HCe.out.2 HNe.out.2)) ⟨_, rfl, trivial, rfl, (js_set c.inv (by decide))⟩
        · intro L a w c
          refine .inl ⟨Rel.wanted_free (by kernel_rfl) _, ?_⟩
          exact Rel.wp_ia _ _ _ rfl (c.get 3 19 (by kernel_rfl)) (c.get 5 21 (by kernel_rfl)) (run_ia_secs gl q gn cl HLq.out w) ⟨_, rfl, trivial, rfl, js_set c.inv (by decide)⟩
        · intro L a w c
          refine .inl ⟨Rel.wanted_free (by kernel_rfl) _, ?_⟩
          exact Rel.wp_sl _ _ _ _ _ rfl (c.get 6 22 (by kernel_rfl)) rfl rfl rfl (run_sl_arr gl (q * 32) w) ⟨_, rfl, trivial, rfl, js_set c.inv (by decide)⟩
        · intro L a w c
          refine .inl ⟨Rel.wanted_free (by kernel_rfl) _, ?_⟩
          exact Chn.wp_fa _ _ _ rfl (c.old 5 (v := .pointer (some ⟨wr.heap.size, 0, none⟩)) (by kernel_rfl) (by kernel_rfl)) (by simp [go_sem]) ⟨_, rfl, trivial, rfl, (js_set c.inv (by decide))⟩
        · intro L a w c
          refine .inl ⟨Rel.wanted_free (by kernel_rfl) _, ?_⟩
          exact Rel.wp_mv _ rfl ⟨_, rfl, trivial, (c.old 1 (v := .func (.func f) #[] caps) (by kernel_rfl) (by kernel_rfl)), (js_set c.inv (by decide))⟩
        · intro L a w c
          refine .inl ⟨Rel.wanted_free (by kernel_rfl) _, ?_⟩
          exact Rel.wp_mv _ rfl ⟨_, rfl, trivial, (c.old 4 (v := .int .i64 (k : Nat)) (by kernel_rfl) (by kernel_rfl)), (js_set c.inv (by decide))⟩
        · intro L a w c
          refine .inl ⟨Rel.wanted_free (by kernel_rfl) _, ?_⟩
          refine Rel.wp_fv _ [.tmp 26] _ rfl (c.get 9 25 (by kernel_rfl)) HFn.out.1 HFn.out.2 ?_
          show Calls _ _ (#[Rel.slot a 26] ++ caps) w _
          rw [show Rel.slot a 26 = .int .i64 (k : Nat) from c.get 10 26 (by kernel_rfl)]
          refine (HCf.out w c.inv.1).mono ?_
          rintro e w' ⟨rfl, hw'⟩
          subst hw'
          exact ⟨_, rfl, _, rfl, trivial, rfl, js_set c.inv (by decide)⟩
        · intro L a w c
          refine .inl ⟨Rel.wanted_free (by kernel_rfl) _, ?_⟩
          exact Rel.wp_sl _ _ _ _ _ rfl (c.get 8 24 (by kernel_rfl)) rfl (congrArg some (c.get 11 27 (by kernel_rfl))) rfl (run_sl_to wr.heap.size 1 mk HMk.out w) ⟨_, rfl, trivial, rfl, js_set c.inv (by decide)⟩
        · intro L a w c
          refine .inl ⟨Rel.wanted_free (by kernel_rfl) _, ?_⟩
          have hw := js_first c.inv c.free
          subst hw
          exact Rel.wp_cp _ _ _ _ rfl (c.get 7 23 (by kernel_rfl)) (c.get 12 28 (by kernel_rfl)) HCp.out.1 ⟨_, rfl, trivial, trivial, js_last c.inv c.free HCp.out.2.1 rfl⟩
      intro a w9 hbase hroom hdef hJ hV
      rw [Chn.act_puts [16, 17, 18, 19, 20, 21, 22, 23, 24, 25, 26, 27, 28, 29] hbase hroom hdef (by kernel_rfl)]
      clear hbase hroom hdef hV
      simp only [List.foldl_cons, List.foldl_nil]
      generalize Rel.slot a 16 = u16 at *
      generalize Rel.slot a 17 = u17 at *
      generalize Rel.slot a 18 = u18 at *
      generalize Rel.slot a 19 = u19 at *
      generalize Rel.slot a 20 = u20 at *
      generalize Rel.slot a 21 = u21 at *
      generalize Rel.slot a 22 = u22 at *
      generalize Rel.slot a 23 = u23 at *
      generalize Rel.slot a 24 = u24 at *
      generalize Rel.slot a 25 = u25 at *
      generalize Rel.slot a 26 = u26 at *
      generalize Rel.slot a 27 = u27 at *
      generalize Rel.slot a 28 = u28 at *
      generalize Rel.slot a 29 = u29 at *
      simp only [Act.put, List.setIfInBounds_toArray, List.set_cons_succ, List.set_cons_zero]
      have hw9 := js_end hJ (by decide)
      have HX := Lib.hid (hw9 ▸ HCp.out.2.2)
      clear hJ hw9
      go_wp2_with fail
      go_roundw
      case rel => exact ⟨k + 1, by omega, by go_num, by rw [HStep.out]; exact HX.out.1, chg_trans (chg_drew HC3.out) HX.out.2 fun _ h => .inl h⟩
      case measure => simp [intOf]; omega
    · obtain rfl : k = n := by omega
      have hb := HRr.out.blk
      have q1 := Arr.blk_cell hb 1
      have q2 := Arr.blk_frozen hb 1
      simp only [List.getElem?_cons_zero, List.getElem?_cons_succ] at q1
      have HE : Hid (DkM (wr.setCell ⟨p, 1, none⟩ (.slice none 0 0)) F p (settleF m s.now s.order k s.good) [] al none cl 0 fu left ∧ Chg F w (wr.setCell ⟨p, 1, none⟩ (.slice none 0 0))) :=
        Lib.hid ⟨⟨Arr.blk_set hb 1 _, HRr.out.own, lown_dk HRr.out.lown hb, HRr.out.lfoot, owns_nil _ _ _, fun k hk => by cases hk⟩, chg_set HCr.out (.inl HRr.out.own) 1 _⟩
      clear hb
      go_wp2
      go_end0
      exact ⟨rfl, HE.out⟩

end Go.Proofs.Ytdgfoldobofgoaa.Dsk
/- Disk: the landed disk: Flush, Crash; all that a disk is to do, done; and no disk at all. -/
namespace Go.Proofs.Ytdgfoldobofgoaa.Dsk
open Go.RowKit
open Go.Sort
open Kit
open Oct
open Foot
set_option linter.unusedVariables false
variable {w w' : World} {F G : Nat → Prop} {p cl cc : Nat} {al ac : Option Addr} {fu : Bool} {left : Int} {s : DS}

/-! ### Flush -/

theorem dflush1_any (k : Nat) (w : World) : Calls Try.prog 40 (#[.int .i64 (k : Nat)] ++ #[]) w fun e w' => e = .returned (.int .i64 (32 : Nat)) ∧ w' = w := by
  show Calls Try.prog 40 #[.int .i64 (k : Nat)] w _
  go_enter Try.func40, Try.ntmps40
  go_wp2
  go_ret
  exact ⟨rfl, rfl⟩
set_option maxHeartbeats 1000000 in
theorem dflush_any (h : Dk w F p s) (hF : ∀ k, F k → k < w.heap.size) :
    Calls Try.prog 31 #[.pointer (some ⟨p, 0, none⟩)] w fun e w' => e = .returned (.int .i64 s.flush.1) ∧ Dk w' F p s.flush.2 ∧ Chg F w w' := by
  have hok := dk_ok h
  have HP := Lib.hid (dpasses_any h)
  have HF := Lib.hid hF
  by_cases h0 : s.fuse = 0
  · have hw : s.flush = (10, s) := by unfold DS.flush; rw [if_pos h0]
    have hb : ({ s with fuse := burnt s.fuse } : DS) = s := by
      have : burnt s.fuse = s.fuse := by rw [h0]; rfl
      rw [this]
    rw [hw]
    have HB := Lib.hid hb
    have HZ := Lib.hid (decide_eq_true h0)
    clear hw hb h0 h hok hF
    go_enter Try.func31, Try.ntmps31
    go_wp2_with (first
      | (go_at_call 39; refine HP.out.mono ?_; rw [HZ.out, HB.out]; rintro e w1 ⟨rfl, hd, hC, hz⟩; have HD := Lib.hid (And.intro hd hC); clear hd hC hz)
      | fail)
    go_ret
    exact ⟨rfl, HD.out⟩
  · have hw : s.flush = (0, { s with good := s.now, order := [], fuse := burnt s.fuse }) := by unfold DS.flush; rw [if_neg h0]
    have hok2 := flush_ok hok
    rw [hw] at hok2 ⊢
    have HZ := Lib.hid (decide_eq_false h0)
    have HO := Lib.hid (And.intro hok hok2)
    clear hw h0 h hok hok2 hF
    go_enter Try.func31, Try.ntmps31
    go_wp2_with (first
      | (go_at_call 39; refine HP.out.mono ?_; rw [HZ.out]; rintro e w1 ⟨rfl, hd, hC, hz⟩; have HD := Lib.hid (And.intro hd (And.intro hC hz)); clear hd hC hz)
      | fail)
    obtain ⟨al, ac, cl, cc, fu, left, r⟩ := HD.out.1
    refine (dsettle_any (fun _ => 32) (fun _ => Nat.le_refl _) (dkm_of r) r.ok (fun k hk => by rw [HD.out.2.2]; exact HF.out k hk) 40 #[] _ rfl (by kernel_rfl) (fun k wx _ _ => dflush1_any k wx)).mono ?_
    rintro e w2 ⟨rfl, hr, hC⟩
    have hfl := settleF_flush HO.out.1
    have hr2 : DkM w2 F p (settleF (fun _ => 32) s.now s.order s.order.length s.good) [] al none cl 0 fu left := hr
    rw [hfl] at hr2
    have HE : Hid (Dk w2 F p { s with good := s.now, order := [], fuse := burnt s.fuse } ∧ Chg F w w2) := Lib.hid ⟨⟨al, none, cl, 0, fu, left, dkm_at (s := { s with good := s.now, order := [], fuse := burnt s.fuse }) hr2 HO.out.2 r.fuse r.left0⟩, chg_trans HD.out.2.1 hC fun _ h => .inl h⟩
    clear r hr hr2 hC hfl
    go_wp2
    go_ret
    exact ⟨rfl, HE.out⟩

/-! ### Crash -/

theorem i64_and1 (n : Int) : bits .and .i64 n 1 = n % 2 := by
  have h1 : (BitVec.ofInt 64 1).toNat = 2 ^ 1 - 1 := by decide
  have key : (BitVec.ofInt 64 n &&& BitVec.ofInt 64 1).toNat = (n % ((2 ^ 64 : Nat) : Int)).toNat % 2 ^ 1 := by
    rw [BitVec.toNat_and, BitVec.toNat_ofInt, h1, Nat.and_two_pow_sub_one_eq_mod]
  show IntKind.i64.wrap ((BitVec.ofInt 64 n &&& BitVec.ofInt 64 1).toNat : Nat) = n % 2
  rw [key, IntKind.wrap_i64]
  omega
theorem bit_shr {keep : Int} {n : Nat} (hn : n < 62) : (bits .and .i64 (keep / 2 ^ n) 1 == 1) = bitOf keep n := by
  rw [i64_and1]
  have e : keep = keep % 18446744073709551616 + (keep / 18446744073709551616 * 2 ^ (64 - n)) * 2 ^ n := by
    have h1 : (2 : Int) ^ (64 - n) * 2 ^ n = 18446744073709551616 := by rw [← Int.pow_add, show 64 - n + n = 64 by omega]; decide
    rw [Int.mul_assoc, h1]
    omega
  have hp : (2 : Int) ^ n ≠ 0 := by
    have : (0 : Int) < 2 ^ n := Int.pow_pos (by decide)
    omega
  have h2 : keep / 2 ^ n = keep % 18446744073709551616 / 2 ^ n + keep / 18446744073709551616 * 2 ^ (64 - n) := by
    have := Int.add_mul_ediv_right (keep % 18446744073709551616) (keep / 18446744073709551616 * 2 ^ (64 - n)) hp
    rw [← e] at this
    exact this
  have h3 : (2 : Int) ^ (64 - n) = 2 * 2 ^ (63 - n) := by rw [show 64 - n = (63 - n) + 1 by omega, Int.pow_succ, Int.mul_comm]
  rw [h3, ← Int.mul_assoc, Int.mul_comm _ (2 : Int), Int.mul_assoc] at h2
  have hr : keep % 18446744073709551616 = ((keep % 18446744073709551616).toNat : Int) := by omega
  have h4 : keep % 18446744073709551616 / 2 ^ n = (((keep % 18446744073709551616).toNat / 2 ^ n : Nat) : Int) := by
    rw [Int.natCast_ediv, Int.natCast_pow, ← hr]; rfl
  rw [h4] at h2
  generalize keep / 18446744073709551616 * 2 ^ (63 - n) = c at h2
  unfold bitOf
  rw [Nat.testBit_eq_decide_div_mod_eq, Bool.eq_iff_iff, beq_iff_eq, decide_eq_true_iff, h2]
  omega
theorem many_at {keep torn cut : Int} {k : Nat} (h : (k : Int) = torn) : (many keep torn cut k : Int) = if cut < 0 then 0 else if cut ≤ 32 then cut else 32 := by
  unfold many; rw [if_pos h]
  split
  · split <;> (try split) <;> omega
  · split <;> (try split) <;> omega
theorem many_bit {keep torn cut : Int} {k : Nat} (h : (k : Int) ≠ torn) (h2 : k < 62) : (many keep torn cut k : Int) = cond (bitOf keep k) 32 0 := by
  unfold many; rw [if_neg h]
  cases bitOf keep k <;> simp [h2]
theorem many_high {keep torn cut : Int} {k : Nat} (h : (k : Int) ≠ torn) (h2 : ¬ k < 62) : (many keep torn cut k : Int) = 0 := by
  unfold many; rw [if_neg h, if_neg (fun h3 => h2 h3.1)]; rfl

set_option maxHeartbeats 1000000 in
theorem dcrash1_any (k : Nat) (hk : k < 9223372036854775807) {w : World} {keep torn cut : Int} {bk bt bc : Nat} (h1 : w.cell? ⟨bt, 0, none⟩ = some (.int .i64 torn)) (h2 : w.cell? ⟨bc, 0, none⟩ = some (.int .i64 cut)) (h3 : w.cell? ⟨bk, 0, none⟩ = some (.int .i64 keep)) :
    Calls Try.prog 29 (#[.int .i64 (k : Nat)] ++ #[.pointer (some ⟨bt, 0, none⟩), .pointer (some ⟨bc, 0, none⟩), .pointer (some ⟨bk, 0, none⟩)]) w fun e w' => e = .returned (.int .i64 (many keep torn cut k : Nat)) ∧ w' = w := by
  show Calls Try.prog 29 #[.int .i64 (k : Nat), .pointer (some ⟨bt, 0, none⟩), .pointer (some ⟨bc, 0, none⟩), .pointer (some ⟨bk, 0, none⟩)] w _
  by_cases ht : (k : Int) = torn
  · have hm := many_at (keep := keep) (cut := cut) ht
    have htb : ((k : Int) == torn) = true := beq_iff_eq.2 ht
    generalize many keep torn cut k = M at *
    have HM := Lib.hid hm
    clear hm ht
    by_cases c1 : cut < 0
    · have e : Hid ((M : Int) = 0) := Lib.hid (by rw [HM.out, if_pos c1])
      go_enter Try.func29, Try.ntmps29
      go_wp2
      go_ret
      exact ⟨ret_int e.out.symm, rfl⟩
    · by_cases c2 : cut ≤ 32
      · have e : Hid ((M : Int) = cut) := Lib.hid (by rw [HM.out, if_neg c1, if_pos c2])
        go_enter Try.func29, Try.ntmps29
        go_wp2
        go_ret
        exact ⟨ret_int e.out.symm, rfl⟩
      · have e : Hid ((M : Int) = 32) := Lib.hid (by rw [HM.out, if_neg c1, if_neg c2])
        go_enter Try.func29, Try.ntmps29
        go_wp2
        go_ret
        exact ⟨ret_int e.out.symm, rfl⟩
  · have htb : ((k : Int) == torn) = false := beq_eq_false_iff_ne.2 ht
    by_cases h62 : k < 62
    · have hm := many_bit (keep := keep) (cut := cut) ht h62
      have hb := bit_shr (keep := keep) h62
      generalize many keep torn cut k = M at *
      have hlt : (k : Int) < 62 := by omega
      generalize bitOf keep k = B at *
      cases B with
      | true =>
        have e : Hid ((M : Int) = 32) := Lib.hid hm
        clear hm ht
        go_enter Try.func29, Try.ntmps29
        go_wp2
        go_ret
        exact ⟨ret_int e.out.symm, rfl⟩
      | false =>
        have e : Hid ((M : Int) = 0) := Lib.hid hm
        clear hm ht
        go_enter Try.func29, Try.ntmps29
        go_wp2
        go_ret
        exact ⟨ret_int e.out.symm, rfl⟩
    · have e : Hid ((many keep torn cut k : Int) = 0) := Lib.hid (many_high ht h62)
      generalize many keep torn cut k = M at *
      have hlt : ¬ (k : Int) < 62 := by omega
      clear ht
      go_enter Try.func29, Try.ntmps29
      go_wp2
      go_ret
      exact ⟨ret_int e.out.symm, rfl⟩

set_option maxHeartbeats 1000000 in
theorem dcrash_any (h : Dk w F p s) (hF : ∀ k, F k → k < w.heap.size) (keep torn cut : Int) :
    Calls Try.prog 11 #[.pointer (some ⟨p, 0, none⟩), .int .i64 keep, .int .i64 torn, .int .i64 cut] w fun e w' => e = .returned (.tuple #[]) ∧ Dk w' F p (s.crash keep torn cut) ∧ Chg F w w' := by
  obtain ⟨wb, hwb⟩ : ∃ wb, wb = ((w.alloc (.cells #[.int .i64 keep] 3)).alloc (.cells #[.int .i64 torn] 3)).alloc (.cells #[.int .i64 cut] 3) := ⟨_, rfl⟩
  have hb : Below w.heap.size w wb := by rw [hwb]; exact ((below_alloc w _).alloc (by simp) _).alloc (by simp; omega) _
  have k1 : wb.cell? ⟨w.heap.size, 0, none⟩ = some (.int .i64 keep) := by rw [hwb]; exact cell_alloc (cell_alloc (World.cell?_alloc_new w _ _ 0))
  have k2 : wb.cell? ⟨w.heap.size + 1, 0, none⟩ = some (.int .i64 torn) := by
    rw [hwb]
    have := World.cell?_alloc_new (w.alloc (.cells #[.int .i64 keep] 3)) #[.int .i64 torn] 3 0
    rw [show (w.alloc (.cells #[.int .i64 keep] 3)).heap.size = w.heap.size + 1 by simp] at this
    exact cell_alloc this
  have k3 : wb.cell? ⟨w.heap.size + 2, 0, none⟩ = some (.int .i64 cut) := by
    rw [hwb]
    have := World.cell?_alloc_new ((w.alloc (.cells #[.int .i64 keep] 3)).alloc (.cells #[.int .i64 torn] 3)) #[.int .i64 cut] 3 0
    rw [show ((w.alloc (.cells #[.int .i64 keep] 3)).alloc (.cells #[.int .i64 torn] 3)).heap.size = w.heap.size + 2 by simp] at this
    exact this
  have hC : Chg F w wb := new_chg hb F
  obtain ⟨al, ac, cl, cc, fu, left, r⟩ := dk_keep h hb
  have hnF : ∀ j, ¬ F (w.heap.size + j) := fun j hj => by have := hF _ hj; omega
  have hset := dsettle_any (many keep torn cut) (many_le keep torn cut) (dkm_of r) r.ok (fun k hk => Nat.lt_of_lt_of_le (hF k hk) hb.size) 29 #[.pointer (some ⟨w.heap.size + 1, 0, none⟩), .pointer (some ⟨w.heap.size + 2, 0, none⟩), .pointer (some ⟨w.heap.size, 0, none⟩)] _ rfl (by kernel_rfl)
    (fun k wx hk hx => dcrash1_any k (by have := order_le r.ok; omega) (cell_chg hx k2 (hnF 1)) (cell_chg hx k3 (hnF 2)) (cell_chg hx k1 (hnF 0)))
  rw [← settle_is] at hset
  have hok := crash_ok r.ok keep torn cut
  have hcr : s.crash keep torn cut = { good := settle keep torn cut s.now s.order s.order.length s.good, now := settle keep torn cut s.now s.order s.order.length s.good, order := [], fuse := -1 } := rfl
  rw [hcr] at hok ⊢
  have hfl := r.fuse
  have hl0 := r.left0
  generalize settle keep torn cut s.now s.order s.order.length s.good = g at *
  have HS := Lib.hid hset
  have HO := Lib.hid (And.intro hok (And.intro hfl hl0))
  have HC := Lib.hid hC
  have hmf : ∀ (fn : Fn) (first cap : Array Value) (w : World), (Instr.makeFunc fn first cap).run Try.prog w = .ok (.func fn first cap) w := fun _ _ _ _ => rfl
  clear r hset hok hfl hl0 hC hb k1 k2 k3 hnF h hcr
  go_enter Try.func11, Try.ntmps11
  go_wp2_with fail
  rw [← hwb]
  refine HS.out.mono ?_
  rintro e w2 ⟨rfl, hr, hC2⟩
  have hd : Dk w2 F p { good := g, now := g, order := [], fuse := cond fu left (-1) } := ⟨al, none, cl, 0, fu, left, dkm_at (s := { good := g, now := g, order := [], fuse := cond fu left (-1) }) hr (fuse_ok HO.out.1 _) rfl HO.out.2.2⟩
  have HD := Lib.hid (dfuse_any hd (-1) (by omega))
  have HC2 := Lib.hid (chg_trans HC.out hC2 fun _ h => .inl h)
  clear hr hC2 hd hwb
  go_wp2_with (first | (go_at_call 13; refine HD.out.mono ?_; rintro e w3 ⟨rfl, hd, hC3, _⟩; have HE := Lib.hid (And.intro hd (chg_trans HC2.out hC3 fun _ h => .inl h)); clear hd hC3) | fail)
  go_end0
  exact ⟨rfl, HE.out⟩

/-! ### All that a disk is to do -/

theorem disk_prog : Prog Dk where
  mono := dk_mono
  chg := dk_chg
  ok := dk_ok
  new := dnew_any
  size := fun h => (dsize_any h).mono fun e w' ⟨he, hw⟩ => ⟨he, by subst hw; exact Below.refl _ _⟩
  write := fun h hF i aa len cc l hi hl hlc hcm hn hE hA => dwrite_any h hF i aa len cc l hi hl hlc hcm hn hE hA
  read := fun h i hi => dread_any h i hi
  flush := fun h hF => (dflush_any h hF).mono fun e w' ⟨he, hd, hC⟩ => ⟨he, dk_mono hd fun _ => more_old, hC⟩
  fuse := fun h hF n hn => (dfuse_any h n hn).mono fun e w' ⟨he, hd, hC, _⟩ => ⟨he, dk_mono hd fun _ => more_old, hC⟩
  crash := fun h hF keep torn cut _ _ _ => (dcrash_any h hF keep torn cut).mono fun e w' ⟨he, hd, hC⟩ => ⟨he, dk_mono hd fun _ => more_old, hC⟩

/-! ### No disk -/

theorem nsize_any (w : World) : Calls Try.prog 22 #[.pointer none] w fun e w' => e = .returned (.int .i64 0) ∧ w' = w := by
  go_enter Try.func22, Try.ntmps22
  go_wp2
  go_ret
  exact ⟨rfl, rfl⟩

end Go.Proofs.Ytdgfoldobofgoaa.Dsk
/- Frame: the landed way of a record, as plain data: its data with what fills the last sector; sectors read a piece at a time. -/
namespace Go.Proofs.Ytdgfoldobofgoaa.Frm
open Oct
open Chk
set_option linter.unusedVariables false

/-- What a record's sectors have, but for their stamps. -/
def rawD (st b : Bs) : Bs := beB 2 b.length ++ beB 4 (crc 0xffffffff#32 (st ++ beB 2 b.length ++ b)).toNat ++ b
theorem rawD_length (st b : Bs) : (rawD st b).length = b.length + 6 := by simp [rawD, beB_length]; omega
theorem rawD_mark (e q : Nat) (b : Bs) : rawD (mark e q) b = dataB e q b := rfl
def dataP (st b : Bs) : Bs := rawD st b ++ List.replicate (24 * secs b.length - (b.length + 6)) 0
theorem dataP_length (st b : Bs) : (dataP st b).length = 24 * secs b.length := by
  have := secs_room b.length
  rw [dataP, List.length_append, rawD_length, List.length_replicate]; omega
theorem dataP_at (st b : Bs) (i : Nat) : (dataP st b).getD i 0 = (rawD st b).getD i 0 := by
  unfold dataP
  by_cases h : i < (rawD st b).length
  · rw [getD_left h]
  · rw [getD_past (by omega : (rawD st b).length ≤ i), List.getD, List.getElem?_append_right (by omega)]
    cases hx : (List.replicate (24 * secs b.length - (b.length + 6)) (0 : UInt8))[i - (rawD st b).length]? with
    | none => rfl
    | some x =>
      have := List.mem_of_getElem? hx
      rw [List.mem_replicate] at this
      rw [this.2]; rfl
theorem getD_ext {l k : Bs} (hl : l.length = k.length) (h : ∀ i, i < l.length → l.getD i 0 = k.getD i 0) : l = k := by
  apply List.ext_getElem hl
  intro i h1 h2
  have := h i h1
  simpa [List.getD, h1, h2] using this
theorem getD_drop (l : Bs) (a i : Nat) : (l.drop a).getD i 0 = l.getD (a + i) 0 := by simp [List.getD, List.getElem?_drop]
theorem getD_take {l : Bs} {a i : Nat} (h : i < a) : (l.take a).getD i 0 = l.getD i 0 := by simp [List.getD, List.getElem?_take_of_lt h]
/-- A piece of the data. -/
theorem piece_chunk (e q : Nat) (b : Bs) {k : Nat} (hk : k < secs b.length) : ((dataP (mark e q) b).drop (24 * k)).take 24 = chunk (dataB e q b) k := by
  have hl := dataP_length (mark e q) b
  apply getD_ext
  · rw [List.length_take, List.length_drop, hl, chunk_length]; omega
  · intro i hi
    rw [List.length_take, List.length_drop, hl] at hi
    rw [getD_take (by omega), getD_drop, dataP_at, rawD_mark]
    unfold chunk
    simp [List.getD, show i < 24 by omega]

/-- What sectors have, but for their stamps; the stamp of each. -/
def dataL (s : Bs) (K : Nat) : Bs := (List.range (24 * K)).map fun i => s.getD (i / 24 * 32 + i % 24) 0
theorem dataL_length (s : Bs) (K : Nat) : (dataL s K).length = 24 * K := by simp [dataL]
theorem dataL_at (s : Bs) {K i : Nat} (h : i < 24 * K) : (dataL s K).getD i 0 = s.getD (i / 24 * 32 + i % 24) 0 := by
  simp [dataL, List.getD, h]
def stampL (s : Bs) (i : Nat) : Bs := (s.drop (32 * i + 24)).take 8
theorem stampL_length {s : Bs} {i : Nat} (h : 32 * (i + 1) ≤ s.length) : (stampL s i).length = 8 := by
  rw [stampL, List.length_take, List.length_drop]; omega
theorem stampL_at (s : Bs) {i r : Nat} (h : r < 8) : (stampL s i).getD r 0 = s.getD (32 * i + 24 + r) 0 := by
  rw [stampL, getD_take h, getD_drop]
/-- One sector more. -/
theorem dataL_succ {s : Bs} {k : Nat} (h : 32 * (k + 1) ≤ s.length) : dataL s k ++ (s.drop (32 * k)).take 24 = dataL s (k + 1) := by
  have hl := dataL_length s k
  apply getD_ext
  · rw [List.length_append, hl, dataL_length, List.length_take, List.length_drop]; omega
  · intro i hi
    rw [List.length_append, hl, List.length_take, List.length_drop] at hi
    rw [dataL_at s (by omega)]
    by_cases h1 : i < 24 * k
    · rw [getD_left (by omega), dataL_at s h1]
    · rw [List.getD, List.getElem?_append_right (by omega), hl, ← List.getD, getD_take (by omega), getD_drop]
      congr 1; omega
theorem body_data (s : Bs) {n K : Nat} (h : n + 6 ≤ 24 * K) : bodyB s n = ((dataL s K).drop 6).take n := by
  apply getD_ext
  · rw [bodyB_length, List.length_take, List.length_drop, dataL_length]; omega
  · intro i hi
    rw [bodyB_length] at hi
    rw [getD_take hi, getD_drop, dataL_at s (by omega)]
    simp [bodyB, List.getD, hi]
/-- The first stamp is the mark of the numbers in it. -/
theorem mark_stamp {s : Bs} (h : 32 ≤ s.length) : mark (numK s 24 4) (numK s 28 4) = stampL s 0 := by
  apply getD_ext
  · rw [mark_length, stampL_length (by omega)]
  · intro i hi
    rw [mark_length] at hi
    rw [stampL_at s hi, Nat.mul_zero, Nat.zero_add]
    have b4 : ∀ (o r : Nat), r < 4 → (beB 4 (numK s o 4)).getD r 0 = s.getD (o + r) 0 := by
      intro o r hr
      rw [getD_is (beB_at 4 _ r hr)]
      apply UInt8.toNat.inj
      rw [u8_of]
      simp only [numK]
      obtain ⟨x0, hx0⟩ : ∃ x, x = s.getD (o + 0) 0 := ⟨_, rfl⟩
      obtain ⟨x1, hx1⟩ : ∃ x, x = s.getD (o + 1) 0 := ⟨_, rfl⟩
      obtain ⟨x2, hx2⟩ : ∃ x, x = s.getD (o + 2) 0 := ⟨_, rfl⟩
      obtain ⟨x3, hx3⟩ : ∃ x, x = s.getD (o + 3) 0 := ⟨_, rfl⟩
      have h0 := x0.toNat_lt
      have h1 := x1.toNat_lt
      have h2 := x2.toNat_lt
      have h3 := x3.toNat_lt
      rw [← hx0, ← hx1, ← hx2, ← hx3]
      obtain rfl | rfl | rfl | rfl : r = 0 ∨ r = 1 ∨ r = 2 ∨ r = 3 := by omega
      · rw [← hx0, show (256 : Nat) ^ (4 - 1 - 0) = 16777216 from rfl]; clear hx0 hx1 hx2 hx3; omega
      · rw [← hx1, show (256 : Nat) ^ (4 - 1 - 1) = 65536 from rfl]; clear hx0 hx1 hx2 hx3; omega
      · rw [← hx2, show (256 : Nat) ^ (4 - 1 - 2) = 256 from rfl]; clear hx0 hx1 hx2 hx3; omega
      · rw [← hx3, show (256 : Nat) ^ (4 - 1 - 3) = 1 from rfl]; clear hx0 hx1 hx2 hx3; omega
    unfold mark
    by_cases h4 : i < 4
    · rw [getD_left (by rw [beB_length]; exact h4), b4 24 i h4]
    · rw [List.getD, List.getElem?_append_right (by rw [beB_length]; omega), beB_length, ← List.getD, b4 28 (i - 4) (by omega)]
      congr 1; omega
/-- The landed way to see whether sectors are a record's. -/
theorem pack_iff {s b : Bs} {e q : Nat} (hl : 32 * secs b.length ≤ s.length) : packB e q b = s.take (32 * secs b.length) ↔ (∀ i, i < secs b.length → stampL s i = mark e q) ∧ dataL s (secs b.length) = dataP (mark e q) b := by
  have hpl := packB_length e q b
  constructor
  · intro h
    have hg : ∀ i, i < 32 * secs b.length → (packB e q b).getD i 0 = s.getD i 0 := fun i hi => by rw [h, getD_take hi]
    refine ⟨fun i hi => getD_ext (by rw [stampL_length (by omega), mark_length]) fun r hr => ?_, getD_ext (by rw [dataL_length, dataP_length]) fun i hi => ?_⟩
    · rw [stampL_length (by omega)] at hr
      rw [stampL_at s hr, ← hg _ (by omega)]
      have := packN_stamp (d := dataB e q b) (mark_length e q) hi hr
      unfold packB
      rw [List.getD, this, List.getD]
    · rw [dataL_length] at hi
      rw [dataL_at s hi, dataP_at, rawD_mark, ← hg _ (by omega)]
      have := packN_data (d := dataB e q b) (mark_length e q) (k := secs b.length) (q := i / 24) (r := i % 24) (by omega) (by omega)
      unfold packB
      rw [show i / 24 * 32 + i % 24 = 32 * (i / 24) + i % 24 by omega, getD_is this, show 24 * (i / 24) + i % 24 = i by omega]
  · rintro ⟨h1, h2⟩
    apply getD_ext
    · rw [hpl, List.length_take]; omega
    · intro i hi
      rw [hpl] at hi
      rw [getD_take hi]
      have hq : i / 32 < secs b.length := by omega
      by_cases hr : i % 32 < 24
      · have := packN_data (d := dataB e q b) (mark_length e q) hq hr
        unfold packB
        rw [show i = 32 * (i / 32) + i % 32 by omega, getD_is this]
        have h3 := dataP_at (mark e q) b (24 * (i / 32) + i % 32)
        rw [← h2, rawD_mark, dataL_at s (by omega)] at h3
        rw [← h3]
        congr 1; omega
      · have := packN_stamp (d := dataB e q b) (mark_length e q) hq (r := i % 32 - 24) (by omega)
        unfold packB
        rw [show i = 32 * (i / 32) + 24 + (i % 32 - 24) by omega, List.getD, this, ← List.getD, ← h1 _ hq, stampL_at s (by omega)]
/-- What the landed way finds. -/
theorem unpack_land {s : Bs} (h32 : ¬ s.length < 32) (hk : ¬ s.length < 32 * secs (two s)) : unpackB s = if (∀ i, i < secs (two s) → stampL s i = stampL s 0) ∧ dataL s (secs (two s)) = dataP (stampL s 0) (bodyB s (two s)) then some (numK s 24 4, numK s 28 4, bodyB s (two s), secs (two s)) else none := by
  have hp := pack_iff (s := s) (b := bodyB s (two s)) (e := numK s 24 4) (q := numK s 28 4) (by rw [bodyB_length]; omega)
  rw [bodyB_length, mark_stamp (by omega)] at hp
  unfold unpackB
  rw [if_neg h32, if_neg hk]
  by_cases h : packB (numK s 24 4) (numK s 28 4) (bodyB s (two s)) = s.take (32 * secs (two s))
  · rw [if_pos h, if_pos (hp.1 h)]
  · rw [if_neg h, if_neg fun h' => h (hp.2 h')]
end Go.Proofs.Ytdgfoldobofgoaa.Frm
/- Octet: what bytes come to. -/
namespace Go.Proofs.Ytdgfoldobofgoaa.Oct
open Go.RowKit
open Go.Sort
open Kit
set_option linter.unusedVariables false

theorem or_low (x y : Nat) (hy : y < 256) : bits BinOp.or IntKind.u64 (IntKind.u64.wrap ((x : Int) * 256)) (y : Int) = (((x * 256 + y) % 18446744073709551616 : Nat) : Int) := by
  have e : IntKind.u64.wrap ((x : Int) * 256) = ((x * 256 % 18446744073709551616 : Nat) : Int) := by rw [IntKind.wrap_u64]; omega
  rw [e, bits_or_u64_nat _ _ (by omega) (by omega), nat_join 8 _ _ (by omega) hy]
  omega

set_option maxHeartbeats 1000000 in
theorem number_any (a : Option Addr) (len cap : Nat) (l : List UInt8) (w : World) (hl : l.length = len) (hm : len ≤ maxLen) (hE : RowB w a l) :
    Calls Try.prog 68 #[.slice a len cap] w fun e w' => e = .returned (.int .u64 (numB l : Nat)) ∧ w = w' := by
  unfold maxLen at hm
  have HL := Lib.hid hl
  have HE := Lib.hid hE
  clear hl hE
  go_enter Try.func68, Try.ntmps68
  go_wp2
  go_loop [3, 8] (fun n i => ∃ k : Nat, k ≤ len ∧ i = .int .i64 k ∧ n = .int .u64 (numF 0 (l.take k) : Nat)) (fun _ i => len - (intOf i).toNat)
  case atStart => exact ⟨0, Nat.zero_le _, rfl, rfl⟩
  case round =>
    obtain ⟨k, hk, rfl, rfl⟩ := hrel
    by_cases hlt : k < len
    · have hkl : k < l.length := by rw [HL.out]; exact hlt
      obtain ⟨b, off, HA⟩ := row_some HE.out (by omega)
      have ha := HA.out
      subst ha
      have c0 := row_cell HE.out hkl rfl (i := 0) (by omega)
      have hb := (l[k]).toNat_lt
      have HS : Hid (numF 0 (l.take (k + 1)) = (numF 0 (l.take k) * 256 + (l[k]).toNat) % 18446744073709551616) := by
        exact Lib.hid (by rw [List.take_succ_eq_append_getElem hkl, numF_snoc])
      have hn := numF_lt 0 (by decide) (l.take k)
      simp only [encB, Nat.mul_one, Nat.add_zero, List.getElem?_cons_zero] at c0
      generalize hx : numF 0 (l.take k) = x at *
      generalize hy : l[k].toNat = y at *
      go_wp2
      go_round
      case rel => exact ⟨k + 1, by omega, by go_num, by rw [HS.out, or_low x y hb]⟩
      case measure => simp [intOf]; omega
    · obtain rfl : k = len := by omega
      go_wp2
      go_ret
      have e : l.take k = l := by rw [← HL.out, List.take_length]
      refine ⟨?_, rfl⟩
      rw [e]; rfl

set_option maxHeartbeats 1000000 in
theorem spoil_any (p : Nat) (v0 v1 : Value) (w : World) (h0 : w.cell? ⟨p, 0, none⟩ = some v0) (h1 : w.cell? ⟨p, 1, none⟩ = some v1) (f0 : w.frozen? ⟨p, 0, none⟩ = false) (f1 : w.frozen? ⟨p, 1, none⟩ = false) :
    Calls Try.prog 71 #[.pointer (some ⟨p, 0, none⟩)] w fun e w' => e = .returned (.tuple #[]) ∧ w' = (w.setCell ⟨p, 1, none⟩ (.bool true)).setCell ⟨p, 0, none⟩ (.slice none 0 0) := by
  go_enter Try.func71, Try.ntmps71
  go_wp2
  go_end0
  exact ⟨rfl, rfl⟩

end Go.Proofs.Ytdgfoldobofgoaa.Oct
/- Octet: what a Reader holds. -/
namespace Go.Proofs.Ytdgfoldobofgoaa.Oct
open Go.RowKit
open Go.Sort
open Kit
set_option linter.unusedVariables false

/-- A Reader's state: what is left to read; none: it is bad. -/
abbrev RS := Option (List UInt8)

/-- The Reader at p, all of it from block B on. -/
def Rdr (B : Nat) (w : World) (p : Nat) (s : RS) : Prop :=
  ∃ a cap, w.cell? ⟨p, 0, none⟩ = some (.slice a (s.getD []).length cap) ∧ w.cell? ⟨p, 1, none⟩ = some (.bool s.isNone) ∧ w.frozen? ⟨p, 0, none⟩ = false ∧ w.frozen? ⟨p, 1, none⟩ = false ∧
    (s.getD []).length ≤ cap ∧ cap ≤ maxLen ∧ (a = none → cap = 0) ∧ RowB w a (s.getD []) ∧ B ≤ p ∧ (∀ q, a = some q → B ≤ q.block ∧ q.block ≠ p ∧ q.block < w.heap.size)

theorem rdr_lt {B : Nat} {w : World} {p : Nat} {s : RS} (h : Rdr B w p s) : p < w.heap.size := by
  obtain ⟨a, cap, h0, _⟩ := h
  exact World.block_lt_of_cell? w _ h0
theorem rdr_ge {B : Nat} {w : World} {p : Nat} {s : RS} (h : Rdr B w p s) : B ≤ p := by
  obtain ⟨a, cap, _, _, _, _, _, _, _, _, h6, _⟩ := h
  exact h6
theorem rdr_far {B : Nat} {w w' : World} {p g : Nat} {s : RS} (h : Rdr B w p s) (hg : w.grownBy w' (some g)) (hne : g < B) : Rdr B w' p s := by
  have hp := rdr_lt h
  obtain ⟨a, cap, h0, h1, f0, f1, h2, h3, h4, h5, h6, h7⟩ := h
  have hk := hg.block p hp (by intro e; injection e; omega)
  refine ⟨a, cap, hg.cell h0 (by simp; omega), hg.cell h1 (by simp; omega), (frozen_of_block hk).trans f0, (frozen_of_block hk).trans f1, h2, h3, h4, row_far h5 hg ?_, h6, fun q hq => ?_⟩
  · intro q hq e
    have := (h7 q hq).1
    injection e; omega
  · have := h7 q hq
    exact ⟨this.1, this.2.1, Nat.lt_of_lt_of_le this.2.2 hg.size⟩
theorem rdr_keep {B : Nat} {w w' : World} {p : Nat} {s : RS} (h : Rdr B w p s) (hb : Below w.heap.size w w') : Rdr B w' p s := by
  have hp := rdr_lt h
  obtain ⟨a, cap, h0, h1, f0, f1, h2, h3, h4, h5, h6, h7⟩ := h
  exact ⟨a, cap, cell_keep hb h0, cell_keep hb h1, ((bcell hb).2 p 0 hp).trans f0, ((bcell hb).2 p 1 hp).trans f1, h2, h3, h4, row_keep encB_len h5 hb, h6, fun q hq => ⟨(h7 q hq).1, (h7 q hq).2.1, Nat.lt_of_lt_of_le (h7 q hq).2.2 hb.size⟩⟩

/-- Both fields of a Reader set. -/
theorem rdr_set {B : Nat} {w : World} {p : Nat} {s : RS} (h : Rdr B w p s) (v1 : Value) (v0 : Value) :
    ((w.setCell ⟨p, 1, none⟩ v1).setCell ⟨p, 0, none⟩ v0).cell? ⟨p, 0, none⟩ = some v0 ∧ ((w.setCell ⟨p, 1, none⟩ v1).setCell ⟨p, 0, none⟩ v0).cell? ⟨p, 1, none⟩ = some v1 := by
  obtain ⟨a, cap, h0, h1, _⟩ := h
  exact ⟨same_cell (set_off (by decide) h0) _, set_off (by decide) (same_cell h1 _)⟩

theorem rdr_bad {B : Nat} {w : World} {p : Nat} {s : RS} (h : Rdr B w p s) :
    Rdr B ((w.setCell ⟨p, 1, none⟩ (.bool true)).setCell ⟨p, 0, none⟩ (.slice none 0 0)) p none ∧ w.grownBy ((w.setCell ⟨p, 1, none⟩ (.bool true)).setCell ⟨p, 0, none⟩ (.slice none 0 0)) (some p) := by
  have hs := rdr_set h (.bool true) (.slice none 0 0)
  obtain ⟨a, cap, h0, h1, f0, f1, h2, h3, h4, h5, h6, h7⟩ := h
  refine ⟨⟨none, 0, hs.1, hs.2, ?_, ?_, Nat.le_refl _, by unfold maxLen; omega, fun _ => rfl, .inl rfl, h6, fun q hq => by cases hq⟩, grown_trans (grown_setCell _ _ _ _) (grown_setCell _ _ _ _)⟩
  · simp [go_sem, f0]
  · simp [go_sem, f1]

theorem spoil_rdr {B : Nat} {p : Nat} {s : RS} {w : World} (h : Rdr B w p s) :
    Calls Try.prog 71 #[.pointer (some ⟨p, 0, none⟩)] w fun e w' => e = .returned (.tuple #[]) ∧ Rdr B w' p none ∧ w.grownBy w' (some p) := by
  have hb := rdr_bad h
  obtain ⟨a, cap, h0, h1, f0, f1, _⟩ := h
  refine (spoil_any p _ _ w h0 h1 f0 f1).mono fun e w' he => ?_
  obtain ⟨rfl, rfl⟩ := he
  exact ⟨rfl, hb⟩

set_option maxHeartbeats 1000000 in
theorem spoil_nil (w : World) :
    Calls Try.prog 71 #[.pointer none] w fun e w' => e = .returned (.tuple #[]) ∧ w = w' := by
  go_enter Try.func71, Try.ntmps71
  go_wp2
  go_end0
  exact ⟨rfl, rfl⟩

/-! ### take -/

/-- A Reader whose rest is set. -/
theorem rdr_rest {B : Nat} {w : World} {p n : Nat} {l : List UInt8} {a a' : Option Addr} {cap cap' : Nat} (h0 : w.cell? ⟨p, 0, none⟩ = some (.slice a l.length cap)) (h1 : w.cell? ⟨p, 1, none⟩ = some (.bool false))
    (f0 : w.frozen? ⟨p, 0, none⟩ = false) (f1 : w.frozen? ⟨p, 1, none⟩ = false) (h6 : B ≤ p) (hc : l.length - n ≤ cap') (hm : cap' ≤ maxLen) (hz : a' = none → cap' = 0) (hr : RowB w a' (l.drop n))
    (hq : ∀ q, a' = some q → B ≤ q.block ∧ q.block ≠ p ∧ q.block < w.heap.size) : Rdr B (w.setCell ⟨p, 0, none⟩ (.slice a' (l.length - n) cap')) p (some (l.drop n)) := by
  refine ⟨a', cap', ?_, set_off (by decide) h1, ?_, ?_, ?_, hm, hz, row_setCell hr fun q hq' => (hq q hq').2.1, h6, fun q hq' => ⟨(hq q hq').1, (hq q hq').2.1, ?_⟩⟩
  · rw [same_cell h0]; simp
  · simp [go_sem, f0]
  · simp [go_sem, f1]
  · simpa using hc
  · rw [setCell_size]; exact (hq q hq').2.2

theorem take_end1 {B : Nat} {p n : Nat} {l : List UInt8} {w : World} {a : Option Addr} {cap : Nat} (h0 : w.cell? ⟨p, 0, none⟩ = some (.slice a l.length cap)) (h1 : w.cell? ⟨p, 1, none⟩ = some (.bool false))
    (f0 : w.frozen? ⟨p, 0, none⟩ = false) (f1 : w.frozen? ⟨p, 1, none⟩ = false) (h2 : l.length ≤ cap) (h3 : cap ≤ 2 ^ 63 - 1) (h4 : a = none → cap = 0) (h5 : RowB w a l) (h6 : B ≤ p) (h7 : ∀ q, a = some q → B ≤ q.block ∧ q.block ≠ p ∧ q.block < w.heap.size)
    (hn : n ≤ l.length) (hc : cap = n) (w' : World) (hw : w' = w.setCell ⟨p, 0, none⟩ (.slice a (l.length - n) 0)) :
    n ≤ n ∧ n ≤ maxLen ∧ (a = none → n = 0) ∧ RowB w' a (l.take n) ∧ Rdr B w' p (some (l.drop n)) ∧ w.grownBy w' (some p) := by
  subst hw hc
  have e : l.drop cap = [] := List.drop_eq_nil_iff.2 (by omega)
  exact ⟨by omega, h3, h4, row_setCell (row_take h5 cap) fun q hq => (h7 q hq).2.1, rdr_rest h0 h1 f0 f1 h6 (by omega) (by unfold maxLen; omega) (fun _ => rfl) (by rw [e]; exact .inl rfl) h7, grown_setCell _ _ _ _⟩

theorem take_end2 {B : Nat} {p n : Nat} {l : List UInt8} {w : World} {a : Option Addr} {cap : Nat} (h0 : w.cell? ⟨p, 0, none⟩ = some (.slice a l.length cap)) (h1 : w.cell? ⟨p, 1, none⟩ = some (.bool false))
    (f0 : w.frozen? ⟨p, 0, none⟩ = false) (f1 : w.frozen? ⟨p, 1, none⟩ = false) (h2 : l.length ≤ cap) (h3 : cap ≤ 2 ^ 63 - 1) (h4 : a = none → cap = 0) (h5 : RowB w a l) (h6 : B ≤ p) (h7 : ∀ q, a = some q → B ≤ q.block ∧ q.block ≠ p ∧ q.block < w.heap.size)
    (_hn : n ≤ l.length) (hc : ¬ cap = n) (w' : World) (hw : w' = w.setCell ⟨p, 0, none⟩ (.slice (Option.map (fun x => x.add n) a) (l.length - n) (cap - n))) :
    n ≤ cap ∧ cap ≤ maxLen ∧ (a = none → cap = 0) ∧ RowB w' a (l.take n) ∧ Rdr B w' p (some (l.drop n)) ∧ w.grownBy w' (some p) := by
  subst hw
  refine ⟨by omega, h3, h4, row_setCell (row_take h5 n) fun q hq => (h7 q hq).2.1, rdr_rest h0 h1 f0 f1 h6 (by omega) (by unfold maxLen; omega) ?_ ?_ ?_, grown_setCell _ _ _ _⟩
  · intro he
    rw [Option.map_eq_none_iff] at he
    have := h4 he
    omega
  · have h5' := h5
    rcases h5' with rfl | ⟨b, off, rfl, _⟩
    · exact .inl (by simp)
    · have := row_drop h5 n
      rw [Nat.mul_one] at this
      simp only [Option.map_some, add_plain]
      exact this
  · intro q hq
    obtain ⟨q', hq', rfl⟩ := Option.map_eq_some_iff.1 hq
    have e : (q'.add n).block = q'.block := by unfold Addr.add; split <;> rfl
    rw [e]; exact h7 q' hq'

set_option maxHeartbeats 1000000 in
theorem take_bad {B : Nat} {p : Nat} {s : RS} {w : World} (n : Nat) (h : Rdr B w p s) (hn : ∀ l, s = some l → l.length < n) :
    Calls Try.prog 69 #[.pointer (some ⟨p, 0, none⟩), .int .i64 n] w fun e w' => e = .returned (.slice none 0 0) ∧ Rdr B w' p none ∧ w.grownBy w' (some p) := by
  have hc := spoil_rdr h
  have HC := Lib.hid hc
  obtain ⟨a, cap, h0, h1, _⟩ := h
  clear hc
  cases s with
  | none =>
    simp only [Option.getD_none, Option.isNone_none, List.length_nil] at h0 h1
    go_enter Try.func69, Try.ntmps69
    go_wp2_with fail
    refine HC.out.mono ?_
    rintro e w1 ⟨rfl, h2, h3⟩
    go_wp2
    go_ret
    exact ⟨rfl, h2, h3⟩
  | some l =>
    have hl := hn l rfl
    simp only [Option.getD_some, Option.isNone_some] at h0 h1
    go_enter Try.func69, Try.ntmps69
    go_wp2_with fail
    refine HC.out.mono ?_
    rintro e w1 ⟨rfl, h2, h3⟩
    go_wp2
    go_ret
    exact ⟨rfl, h2, h3⟩

set_option maxHeartbeats 1000000 in
theorem take_nil (w : World) (n : Nat) :
    Calls Try.prog 69 #[.pointer none, .int .i64 n] w fun e w' => e = .returned (.slice none 0 0) ∧ w = w' := by
  go_enter Try.func69, Try.ntmps69
  go_wp2_with fail
  refine (spoil_nil w).mono ?_
  rintro e w1 ⟨rfl, rfl⟩
  go_wp2
  go_ret
  exact ⟨rfl, rfl⟩

set_option maxHeartbeats 1000000 in
theorem take_ok {B : Nat} {p : Nat} {l : List UInt8} {w : World} (n : Nat) (h : Rdr B w p (some l)) (hn : n ≤ l.length) :
    Calls Try.prog 69 #[.pointer (some ⟨p, 0, none⟩), .int .i64 n] w fun e w' => ∃ a c, e = .returned (.slice a n c) ∧ n ≤ c ∧ c ≤ maxLen ∧ (a = none → c = 0) ∧ RowB w' a (l.take n) ∧ Rdr B w' p (some (l.drop n)) ∧ w.grownBy w' (some p) := by
  obtain ⟨a, cap, h0, h1, f0, f1, h2, h3, h4, h5, h6, h7⟩ := h
  simp only [Option.getD_some, Option.isNone_some] at h0 h1 h2 h5
  unfold maxLen at h3
  go_enter Try.func69, Try.ntmps69
  go_wp2
  case inl =>
    go_ret
    exact ⟨_, _, rfl, take_end1 h0 h1 f0 f1 h2 h3 h4 h5 h6 h7 hn (by omega) _ rfl⟩
  case inr =>
    go_ret
    exact ⟨_, _, rfl, take_end2 h0 h1 f0 f1 h2 h3 h4 h5 h6 h7 hn (by omega) _ rfl⟩

/-! ### Int, Text -/

def toI64 (n : Nat) : Int := if n < 9223372036854775808 then (n : Int) else (n : Int) - 18446744073709551616
def rInt : RS → Int × RS
  | some l => if 8 ≤ l.length then (toI64 (numB (l.take 8)), some (l.drop 8)) else (0, none)
  | none => (0, none)
def rText (most : Int) : RS → ByteArray × RS
  | some l => if 2 ≤ l.length ∧ ((numB (l.take 2) : Nat) : Int) ≤ most ∧ numB (l.take 2) ≤ l.length - 2 then (⟨((l.drop 2).take (numB (l.take 2))).toArray⟩, some ((l.drop 2).drop (numB (l.take 2)))) else (⟨#[]⟩, none)
  | none => (⟨#[]⟩, none)

theorem wrap_i64 (n : Nat) (h : n < 18446744073709551616) : wrap64 (n : Int) = toI64 n := by
  unfold toI64 wrap64
  split <;> omega
theorem number_nil (w : World) : Calls Try.prog 68 #[.slice none 0 0] w fun e w' => e = .returned (.int .u64 0) ∧ w = w' :=
  number_any none 0 0 [] w rfl (by unfold maxLen; omega) (.inl rfl)

set_option maxHeartbeats 1000000 in
theorem int_rdr {B : Nat} {p : Nat} {s : RS} {w : World} (h : Rdr B w p s) :
    Calls Try.prog 60 #[.pointer (some ⟨p, 0, none⟩)] w fun e w' => e = .returned (.int .i64 (rInt s).1) ∧ Rdr B w' p (rInt s).2 ∧ w.grownBy w' (some p) := by
  by_cases hok : ∃ l, s = some l ∧ 8 ≤ l.length
  · obtain ⟨l, rfl, hl⟩ := hok
    have e : rInt (some l) = (toI64 (numB (l.take 8)), some (l.drop 8)) := by simp only [rInt]; rw [if_pos hl]
    have hlt := numB_lt (l.take 8)
    have HE := Lib.hid e
    clear e
    go_enter Try.func60, Try.ntmps60
    go_wp2_with fail
    refine (take_ok 8 h hl).mono ?_
    rintro e w1 ⟨a, c, rfl, h1, h2, h3, h4, h5, h6⟩
    go_wp2_with fail
    refine (number_any a 8 c (l.take 8) w1 (by rw [List.length_take]; omega) (by unfold maxLen; omega) h4).mono ?_
    rintro e w2 ⟨rfl, rfl⟩
    go_wp2
    go_ret
    rw [HE.out]
    exact ⟨by rw [← wrap_i64 _ hlt]; rfl, h5, h6⟩
  · have e : rInt s = (0, none) := by
      cases s with
      | none => rfl
      | some l => simp only [rInt]; exact if_neg (fun hl => hok ⟨l, rfl, hl⟩)
    have HE := Lib.hid e
    clear e
    go_enter Try.func60, Try.ntmps60
    go_wp2_with fail
    refine (take_bad 8 h (fun l hl => by rcases Nat.lt_or_ge l.length 8 with h8 | h8; exact h8; exact absurd ⟨l, hl, h8⟩ hok)).mono ?_
    rintro e w1 ⟨rfl, h5, h6⟩
    go_wp2_with fail
    refine (number_nil w1).mono ?_
    rintro e w2 ⟨rfl, rfl⟩
    go_wp2
    go_ret
    rw [HE.out]
    exact ⟨rfl, h5, h6⟩

set_option maxHeartbeats 1000000 in
theorem int_nil (w : World) :
    Calls Try.prog 60 #[.pointer none] w fun e w' => e = .returned (.int .i64 0) ∧ w = w' := by
  go_enter Try.func60, Try.ntmps60
  go_wp2_with fail
  refine (take_nil w 8).mono ?_
  rintro e w1 ⟨rfl, rfl⟩
  go_wp2_with fail
  refine (number_nil w).mono ?_
  rintro e w2 ⟨rfl, rfl⟩
  go_wp2
  go_ret
  exact ⟨rfl, rfl⟩

end Go.Proofs.Ytdgfoldobofgoaa.Oct
/- Octet: numbers and texts that are put. -/
namespace Go.Proofs.Ytdgfoldobofgoaa.Oct
open Go.RowKit
open Go.Sort
open Kit
set_option linter.unusedVariables false

theorem strCells_eq (s : ByteArray) : Lib.strCells s = cellsB s.data.toList := rfl
set_option maxHeartbeats 1000000 in
theorem roomy_any (a : Option Addr) (len cap more : Nat) (l : List UInt8) (w : World) (hl : l.length = len) (hn : a = none → len = 0 ∧ cap = 0) (hE : RowB w a l) (hm : len + more ≤ 281474976710656) :
    Calls Try.prog 64 #[.slice a len cap, .int .i64 more] w fun e w' => e = .returned (.slice (some ⟨w.heap.size, 0, none⟩) len (len + more)) ∧ OwnB w' w.heap.size (.slice (some ⟨w.heap.size, 0, none⟩) len (len + more)) l ∧ Below w.heap.size w w' := by
  obtain ⟨i0, hi, hz0, hz1, hz2⟩ := info_parts info8
  go_enter Try.func64, Try.ntmps64
  go_wp2_with (first | (at_make; refine wpList_make_own _ rfl _ _ 27 rfl w.heap.size 5 i0 (.int .u8 0) 1 Try.underlying27 hi hz0 hz1 _ _ _ (len + more) rfl rfl (by omega) (by rw [hz2]; omega) (by unfold maxLen; omega) (Nat.le_refl _) ?_) | go_in)
  intro w1 hown hgr
  have hE1 := row_cells (row_far hE hgr (fun q hq => by simp))
  go_wp2_with (first | (at_builtin; refine wpList_append_fits_any _ rfl _ _ 27 rfl w.heap.size 5 i0 1 Try.underlying27 hi hz1 w.heap.size 0 (len + more) [] rfl hown a len cap (cellsB l) rfl (by rw [cellsB_length, hl, Nat.mul_one]) hn hE1 (cellsB_one l) (by omega) ?_) | go_in)
  intro w2 hown2 hgr2
  go_wp2
  go_ret
  refine ⟨rfl, own_iff.2 (by rw [hl]; exact hown2), ?_⟩
  exact grown_below (grown_trans (g := some w.heap.size) ⟨hgr.os, hgr.tape, hgr.output, hgr.size, fun k hk _ => hgr.block k hk (by simp)⟩ hgr2) (Nat.le_refl _) (Nat.le_refl _)


/-- What is owned, with its spare room. -/
def OwnR (w : World) (base g : Nat) (cap : Nat) (l : List UInt8) : Prop := base ≤ g ∧ l.length ≤ cap ∧ OwnB w base (.slice (some ⟨g, 0, none⟩) l.length cap) l

theorem put_more {base g cap n k : Nat} {L T : List UInt8} {w wr w2 : World} {b : Obj} (hbg : base ≤ g) (hbel : Below base w wr) (hsz : base ≤ wr.heap.size)
    (hown2 : w2.ownsRow base 5 1 (.slice (some ⟨g, 0, none⟩) (L.length + 1) cap) (L.length + 1) (cellsB L ++ [.int .u8 ((UInt8.ofNat (n / 2 ^ (8 * k))).toNat : Int)])) (hgr2 : (wr.alloc b).grownBy w2 (some g)) (hc : L.length + 1 ≤ cap)
    (hL : L ++ beB (k + 1) n = T) : (L ++ [UInt8.ofNat (n / 2 ^ (8 * k))]) ++ beB k n = T ∧ OwnR w2 base g cap (L ++ [UInt8.ofNat (n / 2 ^ (8 * k))]) ∧ Below base w w2 := by
  refine ⟨by rw [← hL, be_shift]; simp, ⟨hbg, by simpa using hc, own_iff.2 ?_⟩, ?_⟩
  · rw [cellsB_append, List.length_append]
    exact hown2
  · exact (hbel.alloc hsz b).trans (grown_below hgr2 (by simp; omega) hbg)

set_option maxRecDepth 100000 in
set_option maxHeartbeats 2000000 in
theorem put_any (base g cap n size : Nat) (l : List UInt8) (w : World) (hs : 1 ≤ size) (hs8 : size ≤ 8) (hown : OwnR w base g cap l) (hroom : l.length + size ≤ cap) (hn : n < 18446744073709551616) (hbase : base ≤ w.heap.size) :
    Calls Try.prog 63 #[.slice (some ⟨g, 0, none⟩) l.length cap, .int .u64 n, .int .i64 size] w fun e w' => e = .returned (.slice (some ⟨g, 0, none⟩) (l.length + size) cap) ∧ OwnR w' base g cap (l ++ beB size n) ∧ Below base w w' := by
  obtain ⟨i0, hi, hz0, hz1, hz2⟩ := info_parts info8
  go_enter Try.func63, Try.ntmps63
  have HO := Lib.hid hown
  clear hown
  go_wp2
  go_loopw [0, 7] (fun v i wr => ∃ (k : Nat) (L : List UInt8), k ≤ size ∧ L ++ beB k n = l ++ beB size n ∧ v = .slice (some ⟨g, 0, none⟩) L.length cap ∧ i = .int .i64 (8 * ((k : Int) - 1)) ∧ OwnR wr base g cap L ∧ Below base w wr) (fun _ i _ => (intOf i + 8).toNat)
  case atStart => exact ⟨size, l, Nat.le_refl _, rfl, rfl, rfl, HO.out, Below.refl _ _⟩
  case round =>
    obtain ⟨k, L, hk, hL, rfl, rfl, hown, hbel⟩ := hrel
    have hlen : L.length + k = l.length + size := by have := congrArg List.length hL; simpa [beB_length] using this
    cases k with
    | zero =>
      have HL : Hid (L = l ++ beB size n) := Lib.hid (by simpa [beB] using hL)
      have HR := Lib.hid hown
      clear hL hown
      go_wp2
      go_ret
      refine ⟨?_, by rw [← HL.out]; exact HR.out, hbel⟩
      rw [show L.length = l.length + size by omega]; rfl
    | succ k =>
      obtain ⟨hbg, hLc, hown⟩ := hown
      have hsz : base ≤ wr.heap.size := Nat.le_trans hbase hbel.size
      go_wp2_with (first | (at_builtin; refine wpList_append_fits _ rfl _ _ 27 rfl base 5 i0 1 Try.underlying27 hi hz1 g L.length cap (cellsB L) rfl ((own_iff.1 hown).alloc _) ⟨wr.heap.size, 0, none⟩ 1 1 [.int .u8 ((UInt8.ofNat (n / 2 ^ (8 * k))).toNat : Int)] rfl rfl ?c1 ?c2 (by omega) ?_) | go_in)
      case c1 => exact one_cell wr (byte_val n k)
      case c2 => exact by intro u hu; simp at hu; subst hu; rfl
      intro w2 hown2 hgr2
      have hR := Lib.hid (put_more hbg hbel hsz hown2 hgr2 (by omega) hL)
      clear hown hown2 hgr2 hL
      go_wp2
      go_roundw
      case rel => exact ⟨k, L ++ [UInt8.ofNat (n / 2 ^ (8 * k))], by omega, hR.out.1, by simp, by go_num, hR.out.2.1, hR.out.2.2⟩
      case measure => simp [intOf]; omega

theorem below_row {w w' : World} {base : Nat} (h : Below base w w') : Below base w w' := h
/-- Two's complement, as a number without bound. -/
def toU64 (n : Int) : Nat := (n % 18446744073709551616).toNat
theorem toU64_lt (n : Int) : toU64 n < 18446744073709551616 := by unfold toU64; omega
theorem toI_toU (n : Int) (h1 : -9223372036854775808 ≤ n) (h2 : n ≤ 9223372036854775807) : toI64 (toU64 n) = n := by unfold toI64 toU64; omega
theorem wrap_u (n : Int) : IntKind.u64.wrap n = (toU64 n : Int) := by rw [IntKind.wrap_u64]; unfold toU64; omega

/-- What a call that makes a list of bytes leaves: a list of its own. -/
def OutB (w : World) (l : List UInt8) (e : Ending) (w' : World) : Prop := ∃ g cap, e = .returned (.slice (some ⟨g, 0, none⟩) l.length cap) ∧ OwnR w' w.heap.size g cap l ∧ Below w.heap.size w w'

set_option maxHeartbeats 1000000 in
theorem int_any (a : Option Addr) (len cap : Nat) (n : Int) (l : List UInt8) (w : World) (hl : l.length = len) (hn : a = none → len = 0 ∧ cap = 0) (hE : RowB w a l) (hm : len ≤ 140737488355328) :
    Calls Try.prog 51 #[.slice a len cap, .int .i64 n] w (OutB w (l ++ beB 8 (toU64 n))) := by
  subst hl
  go_enter Try.func51, Try.ntmps51
  go_wp2_with fail
  refine (roomy_any a l.length cap 8 l w rfl hn hE (by omega)).mono ?_
  rintro e w1 ⟨rfl, hown, hbel⟩
  go_wp2_with fail
  rw [wrap_u]
  refine (put_any w.heap.size w.heap.size (l.length + 8) (toU64 n) 8 l w1 (by omega) (by omega) ⟨Nat.le_refl _, by omega, hown⟩ (by omega) (toU64_lt n) hbel.size).mono ?_
  rintro e w2 ⟨rfl, hR, hb2⟩
  go_wp2
  go_ret
  exact ⟨_, _, by rw [List.length_append, beB_length]; rfl, hR, hbel.trans hb2⟩

end Go.Proofs.Ytdgfoldobofgoaa.Oct
/- Octet: a Reader that is made; the document's own words on what is put and read. -/
namespace Go.Proofs.Ytdgfoldobofgoaa.Oct
set_option maxRecDepth 100000
open Go.RowKit
open Go.Sort
open Kit
set_option linter.unusedVariables false

theorem nil_slice (a : Option Addr) (len cap : Nat) (h : a = none → len = 0 ∧ cap = 0) : (Value.slice a len cap = .slice none 0 0 ↔ a = none) := by
  constructor
  · intro e; injection e
  · intro e; obtain ⟨rfl, rfl⟩ := h e; rw [e]

set_option maxHeartbeats 1000000 in
theorem clone_any (a : Option Addr) (len cap : Nat) (l : List UInt8) (w : World) (hl : l.length = len) (hn : a = none → len = 0 ∧ cap = 0) (hE : RowB w a l) (hm : len ≤ 140737488355328) :
    Calls Try.prog 67 #[.slice a len cap] w fun e w' => ∃ v, e = .returned v ∧ OwnB w' w.heap.size v l ∧ Below w.heap.size w w' := by
  subst hl
  obtain ⟨i0, hi, hz0, hz1, hz2⟩ := info_parts info8
  cases a with
  | none =>
    obtain ⟨h1, rfl⟩ := hn rfl
    have : l = [] := List.length_eq_zero_iff.1 h1
    subst this
    have he : ∀ w : World, (binOp .eql 27 (.slice none 0 0) (.slice none 0 0)).run Try.prog w = .ok (.bool true) w := fun _ => rfl
    go_enter Try.func67, Try.ntmps67
    go_wp2
    go_ret
    exact ⟨_, rfl, owns_nil _ _ _, Below.refl _ _⟩
  | some q =>
    have hE1 := row_cells hE q rfl
    have he : ∀ w : World, (binOp .eql 27 (.slice (some q) l.length cap) (.slice none 0 0)).run Try.prog w = .ok (.bool false) w := fun _ => rfl
    go_enter Try.func67, Try.ntmps67
    go_wp2_with (first | (at_builtin; refine append_b rfl _ _ rfl w.heap.size _ [] rfl (own_empty w _ (Nat.le_refl _)) (some q) l.length cap l rfl rfl (row_alloc hE _) hn (by simp; omega) (by simp) ?_) | go_in)
    intro v w1 hown hb
    go_wp2
    go_ret
    exact ⟨_, rfl, hown, (below_alloc w _).trans hb⟩

theorem new_made {w1 : World} {base cap : Nat} {a : Option Addr} {l : List UInt8} {T : TypeId} (hown : OwnB w1 base (.slice a l.length cap) l) (hb : base ≤ w1.heap.size) (h1 : l.length ≤ cap) (h2 : cap ≤ maxLen) (h3 : a = none → cap = 0) (h4 : RowB w1 a l) :
    Rdr base (w1.alloc (.cells #[.slice a l.length cap, .bool false] T)) w1.heap.size (some l) := by
  refine ⟨a, cap, by rw [World.cell?_alloc_new]; rfl, by rw [World.cell?_alloc_new]; rfl, by simp [go_sem], by simp [go_sem], h1, h2, h3, row_alloc h4 _, hb, fun q hq => ?_⟩
  subst hq
  have := (own_iff.1 hown).lt q.block rfl
  simp
  omega

set_option maxHeartbeats 1000000 in
theorem new_any (a : Option Addr) (len cap : Nat) (l : List UInt8) (w : World) (hl : l.length = len) (hn : a = none → len = 0 ∧ cap = 0) (hE : RowB w a l) (hm : len ≤ 140737488355328) :
    Calls Try.prog 59 #[.slice a len cap] w fun e w' => ∃ p, e = .returned (.pointer (some ⟨p, 0, none⟩)) ∧ Rdr w.heap.size w' p (some l) ∧ Below w.heap.size w w' := by
  subst hl
  go_enter Try.func59, Try.ntmps59
  go_wp2_with fail
  refine (clone_any a l.length cap l w rfl hn hE hm).mono ?_
  rintro e w1 ⟨v, rfl, hown, hb⟩
  obtain ⟨a', cap', rfl, h1, h2, h3, h4⟩ := own_row hown
  have hR := Lib.hid (fun T => new_made (T := T) hown hb.size h1 h2 h3 h4)
  have hB := Lib.hid (fun o => hb.alloc hb.size o)
  clear hown hb h4
  go_wp2
  go_ret
  exact ⟨_, rfl, hR.out _, hB.out _⟩

theorem int_is (a : Option Addr) (len cap n' : Nat) (n : Int) (l L : List UInt8) (w : World) (hl : l.length = len) (hn : a = none → len = 0 ∧ cap = 0) (hE : RowB w a l) (hm : len ≤ 140737488355328) (hL : l ++ beB 8 (toU64 n) = L) (hn' : L.length = n') :
    Calls Try.prog 51 #[.slice a len cap, .int .i64 n] w fun e w' => ∃ g cap, e = .returned (.slice (some ⟨g, 0, none⟩) n' cap) ∧ n' ≤ cap ∧ cap ≤ maxLen ∧ RowB w' (some ⟨g, 0, none⟩) L ∧ Below w.heap.size w w' := by
  subst hL hn'
  refine (int_any a len cap n l w hl hn hE hm).mono ?_
  rintro e w' ⟨g, c, rfl, ⟨h1, h2, h3⟩, hb⟩
  obtain ⟨a', c', he, _, h5, _, h6⟩ := own_row h3
  injection he with e1 e2 e3
  subst e1 e3
  exact ⟨g, c, rfl, h2, h5, h6, hb⟩
theorem int_rdr_is {B : Nat} {p : Nat} {s s' : RS} {n : Int} {w : World} (h : Rdr B w p s) (ht : rInt s = (n, s')) :
    Calls Try.prog 60 #[.pointer (some ⟨p, 0, none⟩)] w fun e w' => e = .returned (.int .i64 n) ∧ Rdr B w' p s' ∧ w.grownBy w' (some p) := by
  have := int_rdr h
  rw [ht] at this; exact this
theorem row_other {w w' : World} {g off p : Nat} {l : List UInt8} (h : RowB w (some ⟨g, off, none⟩) l) (hg : w.grownBy w' (some p)) (hne : g ≠ p) : RowB w' (some ⟨g, off, none⟩) l :=
  row_far h hg fun q hq e => by
    injection hq with hq
    subst hq
    injection e with e
    exact hne e

end Go.Proofs.Ytdgfoldobofgoaa.Oct
/- Common: copy of bytes onto bytes of the call's own; cuts of what a call made. -/
namespace Go.Proofs.Ytdgfoldobofgoaa.Oct
open Go.RowKit
open Go.Sort
open Kit
set_option linter.unusedVariables false

theorem size_b : (Try.prog.info? 5).map (·.size) = some 1 := by kernel_rfl
/-- Bytes that are laid over some of a list's. -/
def lay (L : List UInt8) (off : Nat) (k : List UInt8) : List UInt8 := L.take off ++ k ++ L.drop (off + k.length)
theorem lay_length {L k : List UInt8} {off : Nat} (h : off + k.length ≤ L.length) : (lay L off k).length = L.length := by
  simp [lay]; omega
theorem lay_at {α : Type} {A k : List α} {off : Nat} (h : off + k.length ≤ A.length) (i : Nat) : (A.take off ++ k ++ A.drop (off + k.length))[i]? = if i < off then A[i]? else if i < off + k.length then k[i - off]? else A[i]? := by
  have h1 : (A.take off).length = off := by rw [List.length_take]; omega
  by_cases ha : i < off
  · rw [if_pos ha, List.append_assoc, List.getElem?_append_left (by omega), List.getElem?_take_of_lt ha]
  · rw [if_neg ha]
    by_cases hb : i < off + k.length
    · rw [if_pos hb, List.getElem?_append_left (by rw [List.length_append]; omega), List.getElem?_append_right (by omega), h1]
    · rw [if_neg hb, List.getElem?_append_right (by rw [List.length_append]; omega), List.length_append, h1, List.getElem?_drop]
      congr 1; omega
theorem run_copy_b {w : World} {base g n cap off dl dc m c : Nat} {ty : TypeId} {L k : List UInt8} {ad : Option Addr} (hown : OwnB w base (.slice (some ⟨g, 0, none⟩) n cap) L) (hn : L.length = n) (hk : k.length = m) (hrow : RowB w ad k) (hm : m ≤ dl) (hfit : off + m ≤ n) :
    ∃ w', (Builtin.copy_ #[27, 27] ty #[.slice (some ⟨g, off, none⟩) dl dc, .slice ad m c]).run Try.prog w = .ok (.int .i64 (m : Nat)) w' ∧ OwnB w' base (.slice (some ⟨g, 0, none⟩) n cap) (lay L off k) ∧ w.grownBy w' (some g) := by
  subst hn hk
  by_cases h0 : k.length = 0
  · obtain rfl : k = [] := List.length_eq_zero_iff.1 h0
    refine ⟨w, ?_, ?_, ⟨rfl, rfl, rfl, Nat.le_refl _, fun _ _ _ => rfl⟩⟩
    · have := run_copy_none (P := Try.prog) w 27 27 ty 5 (some ⟨g, off, none⟩) ad dl dc 0 c Try.underlying27 size_b (by simp)
      exact this
    · unfold lay
      rw [List.append_nil, List.length_nil, Nat.add_zero, List.take_append_drop]; exact hown
  · rcases hrow with rfl | ⟨b, o, rfl, hr⟩
    · exact absurd rfl h0
    have ho := own_iff.1 hown
    rcases ho.2 with ⟨he, _⟩ | ⟨g', cap', cur, he, hbg, hg, hnc, hcm, hcs, htake⟩
    · cases he
    injection he with e1 e2 e3
    injection e1 with e1
    injection e1 with e1
    subst e1 e3
    have hcs' : cur.size = cap := by simpa using hcs
    have hcl : cur.toList.length = cap := by simpa using hcs'
    have hsrc := row_cells (w := w) (a := some ⟨b, o, none⟩) (l := k) (.inr ⟨b, o, rfl, hr⟩) _ rfl
    have hrun := run_copy_row (P := Try.prog) w 27 27 ty 5 g off dl dc ⟨b, o, none⟩ k.length c cur 5 (cellsB k) Try.underlying27 size_b hg (by rw [cellsB_length]; exact (Nat.min_eq_left hm).symm) hsrc (by rw [cellsB_length]; omega) (cellsB_one k)
    rw [cellsB_length] at hrun
    refine ⟨_, hrun, own_iff.2 ?_, ⟨rfl, rfl, rfl, by simp [World.setRow], fun i _ hi => setRow_other w g i _ (fun e => hi (by rw [e]))⟩⟩
    have hll := lay_length (L := L) (k := k) (off := off) (by omega)
    rw [hll]
    refine ⟨by rw [cellsB_length, hll, Nat.mul_one], .inr ⟨g, cap, _, rfl, hbg, setRow_heap w g _ _ _ _ hg, hnc, hcm, ?_, ?_⟩⟩
    · simp only [List.size_toArray, List.length_append, List.length_take, List.length_drop, cellsB_length, hcl]; omega
    · have ht : cur.toList.take L.length = cellsB L := by simpa using htake
      apply List.ext_getElem?
      intro i
      have hL : ∀ j, j < L.length → cur.toList[j]? = (cellsB L)[j]? := fun j hj => by rw [← ht, List.getElem?_take_of_lt hj]
      rw [Nat.mul_one]
      by_cases hi : i < L.length
      · rw [List.getElem?_take_of_lt hi]
        show ((cur.toList.take off ++ cellsB k) ++ cur.toList.drop (off + k.length))[i]? = (cellsB (L.take off ++ k ++ L.drop (off + k.length)))[i]?
        have e : cellsB (L.take off ++ k ++ L.drop (off + k.length)) = (cellsB L).take off ++ cellsB k ++ (cellsB L).drop (off + (cellsB k).length) := by
          rw [cellsB_append, cellsB_append, cellsB_length]; simp only [cellsB, List.map_take, List.map_drop]
        have e2 := lay_at (A := cur.toList) (k := cellsB k) (off := off) (by rw [cellsB_length]; omega) i
        have e3 := lay_at (A := cellsB L) (k := cellsB k) (off := off) (by rw [cellsB_length, cellsB_length]; omega) i
        rw [cellsB_length] at e2
        rw [e, e3, e2, hL i hi, cellsB_length]
      · rw [List.getElem?_eq_none (by rw [List.length_take]; omega), List.getElem?_eq_none (by rw [cellsB_length, hll]; omega)]
theorem copy_b {w : World} {ops : Array Oper} {rest : List Oper} {o : Oper} {A : Act} {Q : Exit → Act → World → Prop} (hgd : o.guard = none) (d s : Operand)
    (ho : o.op = .call { callee := .builtin .copy, args := #[d, s], argTypes := #[27, 27] })
    (base g n cap : Nat) (L : List UInt8) (hown : OwnB w base (.slice (some ⟨g, 0, none⟩) n cap) L) (hn : L.length = n) (off dl dc : Nat) (hd : A.eval d = .slice (some ⟨g, off, none⟩) dl dc)
    (ad : Option Addr) (m c : Nat) (k : List UInt8) (hx : A.eval s = .slice ad m c) (hk : k.length = m) (hrow : RowB w ad k) (hm : m ≤ dl) (hfit : off + m ≤ n)
    (h : ∀ w', OwnB w' base (.slice (some ⟨g, 0, none⟩) n cap) (lay L off k) → w.grownBy w' (some g) → wpList Try.prog ops Q rest (A.put o.dst (.int .i64 (m : Nat))) w') : wpList Try.prog ops Q (o :: rest) A w := by
  refine wpList_plain hgd fun K hK => ?_
  obtain ⟨w', hrun, h1, h2⟩ := run_copy_b (ty := o.type) (dl := dl) (dc := dc) (c := c) hown hn hk hrow hm hfit
  unfold Oper.wp
  simp [execOp, ho, resolve, invoke, builtin, hd, hx, hrun, Result.andThen]
  exact hK _ _ (h w' h1 h2)
/-- What is behind place m of bytes in memory. -/
theorem row_from {w : World} {b o : Nat} {l : List UInt8} (h : RowB w (some ⟨b, o, none⟩) l) (m : Nat) : RowB w (some ⟨b, o + m, none⟩) (l.drop m) := by
  have := row_drop h m
  rw [Nat.mul_one] at this; exact this
theorem run_from (g n m c : Nat) (h1 : m ≤ n) (h2 : n ≤ c) (h3 : m < c) (w : World) : (Instr.sliceAt 27 (.slice (some ⟨g, 0, none⟩) n c) (some (.int .i64 (m : Nat))) none none).run Try.prog w = .ok (.slice (some ⟨g, m, none⟩) (n - m) (c - m)) w := by
  simp [go_sem]
  rw [if_pos (show m ≤ n by omega), if_neg (show ¬ c = m by omega)]
theorem lay_zeros (A k : List UInt8) (m : Nat) (off : Nat) (h : A.length = off) : lay (A ++ List.replicate m 0) off k = (A ++ k) ++ List.replicate (m - k.length) 0 := by
  subst h
  unfold lay
  rw [List.take_left, List.drop_append, List.drop_of_length_le (by omega), List.nil_append, List.drop_replicate, show A.length + k.length - A.length = k.length by omega]
end Go.Proofs.Ytdgfoldobofgoaa.Oct
/- Check: sums as values, bit by bit. -/
namespace Go.Proofs.Ytdgfoldobofgoaa.Chk
open Go.RowKit
open Go.Sort
open Kit
open Oct
set_option linter.unusedVariables false

/-- A sum. -/
abbrev uv (s : BitVec 32) : Value := .int .u32 (s.toNat : Int)

theorem take_bits (s : BitVec 32) (b : UInt8) (j : Nat) (h : j < 8) : bitsZ s ((bitsOf b).take (j + 1)) = bitZ (bitsZ s ((bitsOf b).take j)) (b.toNat.testBit (7 - j)) := by
  have e : (bitsOf b).take (j + 1) = (bitsOf b).take j ++ [b.toNat.testBit (7 - j)] := by
    have hl : j < (bitsOf b).length := by rw [bitsOf_length]; exact h
    rw [List.take_succ_eq_append_getElem hl]
    have := bitsOf_at b j h
    rw [List.getElem?_eq_getElem hl] at this
    injection this with this
    rw [this]
  rw [e, bitsZ_append]
  rfl

theorem bit_one (y : UInt8) (r : Nat) : Go.bits .and .u32 ((y.toNat : Int) / 2 ^ r % 4294967296) 1 = (((y.toNat.testBit r).toNat : Nat) : Int) := by
  have e : ((y.toNat : Int) / 2 ^ r % 4294967296) = ((y.toNat / 2 ^ r % 4294967296 : Nat) : Int) := by
    rw [Int.natCast_emod, Int.natCast_ediv, Int.natCast_pow]; rfl
  rw [e, show (1 : Int) = ((1 : Nat) : Int) from rfl, u32_and_nat _ _ (Nat.mod_lt _ (by decide)) (by decide), nat_mask1, Nat.mod_mod_of_dvd _ (by decide), Nat.testBit_eq_decide_div_mod_eq]
  rcases Nat.mod_two_eq_zero_or_one (y.toNat / 2 ^ r) with h | h <;> rw [h] <;> rfl
theorem xor_poly (z : BitVec 32) : Go.bits .xor .u32 ((z.toNat : Int) * 2 % 4294967296) 79764919 = ((z.toNat * 2 % 4294967296 ^^^ polyN : Nat) : Int) := by
  have e : ((z.toNat : Int) * 2 % 4294967296) = ((z.toNat * 2 % 4294967296 : Nat) : Int) := by omega
  rw [e, show (79764919 : Int) = ((79764919 : Nat) : Int) from rfl, u32_xor_nat _ _ (Nat.mod_lt _ (by decide)) (by decide)]
  rfl
theorem bit_ne {z : BitVec 32} {y : UInt8} {r : Nat} (h : ((z.toNat : Int) / 2147483648 != Go.bits .and .u32 ((y.toNat : Int) / 2 ^ r % 4294967296) 1) = true) : Go.bits .xor .u32 ((z.toNat : Int) * 2 % 4294967296) 79764919 = ((bitZ z (y.toNat.testBit r)).toNat : Int) := by
  rw [bit_one, bne_iff_ne] at h
  rw [xor_poly, bitZ_toNat, bitN, if_neg (by omega)]
theorem bit_eq {z : BitVec 32} {y : UInt8} {r : Nat} (h : ((z.toNat : Int) / 2147483648 != Go.bits .and .u32 ((y.toNat : Int) / 2 ^ r % 4294967296) 1) = false) : (z.toNat : Int) * 2 % 4294967296 = ((bitZ z (y.toNat.testBit r)).toNat : Int) := by
  rw [bit_one, bne_eq_false_iff_eq] at h
  rw [bitZ_toNat, bitN, if_pos (by omega)]
  omega

/-- The sum of bytes. -/
def sumB (l : List UInt8) : BitVec 32 := crc 0xffffffff#32 l
end Go.Proofs.Ytdgfoldobofgoaa.Chk
/- Check: the program's own sums, by a table that jumps make. -/
namespace Go.Proofs.Ytdgfoldobofgoaa.Chk
open Go.RowKit
open Go.Sort
open Kit
open Oct
open Scp
set_option linter.unusedVariables false

theorem Z_toNat (z : BitVec 32) : (Z z).toNat = if z.toNat / 2147483648 = 1 then z.toNat * 2 % 4294967296 ^^^ polyN else z.toNat * 2 % 4294967296 := by
  have h := bitZ_toNat z false
  have e : bitZ z false = Z z := by unfold bitZ; rw [show hi1 false = 0#32 from rfl, BitVec.xor_zero]
  have hz := z.isLt
  rw [e] at h
  rw [h, bitN]
  by_cases h1 : z.toNat / 2147483648 = 1
  · rw [if_pos h1, if_neg (by rw [h1]; decide)]
  · rw [if_neg h1, if_pos (by show _ = 0; omega)]

set_option maxHeartbeats 1000000 in
theorem doubled_any (z : BitVec 32) (w : World) : Calls Try.prog 70 #[uv z] w fun e w' => e = .returned (uv (Z z)) ∧ w = w' := by
  have hz := z.isLt
  have hn := Z_toNat z
  have hx := xor_poly z
  by_cases h1 : z.toNat / 2147483648 = 1
  · rw [if_pos h1] at hn
    have HN := Lib.hid (hx.trans (congrArg (fun n : Nat => (n : Int)) hn.symm))
    have hd : ((z.toNat : Int) / 2147483648 == 1) = true := by rw [beq_iff_eq]; omega
    clear hn hx h1
    go_enter Try.func70, Try.ntmps70
    go_wp2
    go_ret
    exact ⟨ret_int HN.out, rfl⟩
  · rw [if_neg h1] at hn
    have HN : Hid ((z.toNat : Int) * 2 % 4294967296 = ((Z z).toNat : Int)) := Lib.hid (by omega)
    have hd : ((z.toNat : Int) / 2147483648 == 1) = false := by rw [beq_eq_false_iff_ne]; omega
    clear hn hx h1
    go_enter Try.func70, Try.ntmps70
    go_wp2
    go_ret
    exact ⟨ret_int HN.out, rfl⟩

/-- 16 sums in a block. -/
def row (f : Nat → BitVec 32) : List Value := (List.range 16).map fun j => uv (f j)
abbrev BlkT (w : World) (b : Nat) (f : Nat → BitVec 32) : Prop := Arr.Blk w b 101 (row f)
theorem row_at (f : Nat → BitVec 32) (j : Nat) (h : j < 16) : (row f)[j]? = some (uv (f j)) := by
  unfold row; rw [List.getElem?_map, List.getElem?_range h]; rfl
theorem row_set (f g : Nat → BitVec 32) (i : Nat) (s : BitVec 32) (h : ∀ j, j < 16 → g j = if j = i then s else f j) : (row f).set i (uv s) = row g := by
  apply List.ext_getElem?
  intro j
  by_cases hj : j < 16
  · rw [row_at g j hj, h j hj, List.getElem?_set]
    by_cases he : i = j
    · subst he
      rw [if_pos rfl, if_pos rfl, if_pos (by simp [row]; exact hj)]
    · rw [if_neg he, row_at f j hj, if_neg (fun e => he e.symm)]
  · rw [List.getElem?_eq_none (by simp [row]; omega), List.getElem?_eq_none (by simp [row]; omega)]
/-- What half a byte leaves. -/
def nib (j : Nat) : BitVec 32 := Zn 4 (BitVec.ofNat 32 j <<< 28)
/-- The table, made up to a piece, and there up to a bit. -/
def part (piece bit : Nat) (j : Nat) : BitVec 32 := if j < piece then nib j else if j = piece then Zn bit (BitVec.ofNat 32 j <<< 28) else 0#32
def upto (piece : Nat) (j : Nat) : BitVec 32 := if j < piece then nib j else 0#32
theorem Zn_succ (n : Nat) : ∀ x, Zn (n + 1) x = Z (Zn n x) := by
  induction n with
  | zero => intro x; rfl
  | succ n ih => intro x; exact ih (Z x)

def AtNext (w : World) (a' : Act) (w' : World) : Prop :=
  ∃ (piece : Nat) (bit u4 u5 u6 u7 u8 u9 u10 u11 u12 u13 u14 u15 u16 u17 u18 u19 u20 u21 u22 u23 : Value), a' = { tmps := #[.pointer (some ⟨w.heap.size, 0, none⟩), .pointer (some ⟨w.heap.size + 1, 0, none⟩), .int .i64 piece, bit, u4, u5, u6, u7, u8, u9, u10, u11, u12, u13, u14, u15, u16, u17, u18, u19, u20, u21, u22, u23], defers := [] } ∧
    piece ≤ 16 ∧ Below w.heap.size w w' ∧ BlkT w' w.heap.size (fun _ => 0#32) ∧ BlkT w' (w.heap.size + 1) (upto piece)
def AtDouble (w : World) (a' : Act) (w' : World) : Prop :=
  ∃ (piece bit : Nat) (u4 u5 u6 u7 u8 u9 u10 u11 u12 u13 u14 u15 u16 u17 u18 u19 u20 u21 u22 u23 : Value), a' = { tmps := #[.pointer (some ⟨w.heap.size, 0, none⟩), .pointer (some ⟨w.heap.size + 1, 0, none⟩), .int .i64 piece, .int .i64 bit, u4, u5, u6, u7, u8, u9, u10, u11, u12, u13, u14, u15, u16, u17, u18, u19, u20, u21, u22, u23], defers := [] } ∧
    piece < 16 ∧ bit ≤ 4 ∧ Below w.heap.size w w' ∧ BlkT w' w.heap.size (fun _ => 0#32) ∧ BlkT w' (w.heap.size + 1) (part piece bit)
def pieceOf (a : Act) : Nat := (intOf (a.tmps.getD 2 undef)).toNat
def bitOf (a : Act) : Nat := (intOf (a.tmps.getD 3 undef)).toNat

def table : Value := .agg (row nib).toArray

set_option maxRecDepth 100000 in
set_option maxHeartbeats 4000000 in
theorem madeTable_any (w : World) : Calls Try.prog 65 #[] w fun e w' => e = .returned table ∧ Below w.heap.size w w' := by
  go_enter Try.func65, Try.ntmps65
  go_wp2
  refine wp_falls (AtNext w) (AtDouble w) (fun a _ => 8 * (16 - pieceOf a)) (fun a _ => 8 * (16 - pieceOf a) - 1 - bitOf a) rfl rfl ?_ ?_ ?_
  · rintro a' w' ⟨piece, bit, u4, u5, u6, u7, u8, u9, u10, u11, u12, u13, u14, u15, u16, u17, u18, u19, u20, u21, u22, u23, rfl, h1, h2, hb, hR, hT⟩
    have h6 : pieceOf { tmps := #[.pointer (some ⟨w.heap.size, 0, none⟩), .pointer (some ⟨w.heap.size + 1, 0, none⟩), .int .i64 piece, .int .i64 bit, u4, u5, u6, u7, u8, u9, u10, u11, u12, u13, u14, u15, u16, u17, u18, u19, u20, u21, u22, u23], defers := [] } = piece := by simp [pieceOf, intOf]
    have h7 : bitOf { tmps := #[.pointer (some ⟨w.heap.size, 0, none⟩), .pointer (some ⟨w.heap.size + 1, 0, none⟩), .int .i64 piece, .int .i64 bit, u4, u5, u6, u7, u8, u9, u10, u11, u12, u13, u14, u15, u16, u17, u18, u19, u20, u21, u22, u23], defers := [] } = bit := by simp [bitOf, intOf]
    rw [h6, h7]
    clear h6 h7
    have HB := Lib.hid hb
    have HR := Lib.hid hR
    have HT := Lib.hid hT
    clear hb hR
    by_cases hlt : bit < 4
    · have c0 := Arr.blk_cell hT piece
      have f0 := Arr.blk_frozen hT piece
      rw [row_at _ _ h1, show part piece bit piece = Zn bit (BitVec.ofNat 32 piece <<< 28) by unfold part; rw [if_neg (by omega), if_pos rfl]] at c0
      have HE := Lib.hid (row_set (part piece bit) (part piece (bit + 1)) piece (Z (Zn bit (BitVec.ofNat 32 piece <<< 28))) (by
        intro j _
        unfold part
        by_cases hj : j < piece
        · rw [if_pos hj, if_neg (by omega), if_pos hj]
        · by_cases he : j = piece
          · rw [if_neg hj, if_pos he, if_pos he, Zn_succ, he]
          · rw [if_neg hj, if_neg he, if_neg he, if_neg hj, if_neg he]))
      generalize hz : Zn bit (BitVec.ofNat 32 piece <<< 28) = z at *
      clear hT hz
      go_wp2_with fail
      refine (doubled_any z _).mono ?_
      rintro e w1 ⟨rfl, rfl⟩
      go_wp2
      go_step3
      refine .inr ⟨rfl, ⟨piece, bit + 1, _, _, _, _, _, _, _, _, _, _, _, _, _, _, _, _, _, _, _, _, rfl, h1, by omega, Arr.below_set HB.out (by omega) _ _, Arr.blk_set_far HR.out (by omega) _ _, by rw [BlkT, ← HE.out]; exact Arr.blk_set HT.out _ _⟩, ?_⟩
      simp only [pieceOf, bitOf, intOf]
      simp
      omega
    · obtain rfl : bit = 4 := by omega
      have HE : Hid (part piece 4 = upto (piece + 1)) := Lib.hid (by
        funext j
        unfold part upto
        by_cases hj : j < piece
        · rw [if_pos hj, if_pos (by omega)]
        · by_cases he : j = piece
          · rw [if_neg hj, if_pos he, if_pos (by omega)]; rfl
          · rw [if_neg hj, if_neg he, if_neg (by omega)])
      clear hT
      go_wp2
      go_step3
      refine .inl ⟨rfl, ⟨piece + 1, _, _, _, _, _, _, _, _, _, _, _, _, _, _, _, _, _, _, _, _, _, rfl, by omega, HB.out, HR.out, by rw [← HE.out]; exact HT.out⟩, ?_⟩
      simp only [pieceOf, intOf]
      simp
      omega
  · intro hp1
    rintro a' w' ⟨piece, bit, u4, u5, u6, u7, u8, u9, u10, u11, u12, u13, u14, u15, u16, u17, u18, u19, u20, u21, u22, u23, rfl, h1, hb, hR, hT⟩
    have HP := Lib.hid hp1
    have HB := Lib.hid hb
    have HR := Lib.hid hR
    have HT := Lib.hid hT
    clear hb hR hp1
    by_cases hlt : piece < 16
    · have c0 := Arr.blk_cell hT piece
      have f0 := Arr.blk_frozen hT piece
      rw [row_at _ _ hlt] at c0
      clear hT
      have HE := Lib.hid (row_set (upto piece) (part piece 0) piece (BitVec.ofNat 32 piece <<< 28) (by
        intro j _
        unfold part upto
        by_cases hj : j < piece
        · rw [if_pos hj, if_neg (by omega), if_pos hj]
        · by_cases he : j = piece
          · rw [if_neg hj, if_pos he, if_pos he, he]; rfl
          · rw [if_neg hj, if_neg he, if_neg he, if_neg hj]))
      have hv : (BitVec.ofNat 32 piece <<< 28).toNat = piece * 268435456 := by
        rw [BitVec.toNat_shiftLeft, BitVec.toNat_ofNat, Nat.shiftLeft_eq]; omega
      have HV : Hid (Value.int IntKind.u32 ((piece : Int) * 268435456) = uv (BitVec.ofNat 32 piece <<< 28)) := Lib.hid (by
        show Value.int IntKind.u32 _ = Value.int IntKind.u32 _
        rw [hv]; congr 1)
      clear hv
      go_wp2
      go_step3
      rename_i hK
      refine hK _ _ (HP.out _ _ _ ?_ ?_)
      · exact ⟨piece, 0, _, _, _, _, _, _, _, _, _, _, _, _, _, _, _, _, _, _, _, _, rfl, hlt, by omega, Arr.below_set HB.out (by omega) _ _, Arr.blk_set_far HR.out (by omega) _ _, by rw [BlkT, HV.out, ← HE.out]; exact Arr.blk_set HT.out _ _⟩
      · simp only [pieceOf, bitOf, intOf]
        simp
    · obtain rfl : piece = 16 := by omega
      have HN : Hid (Arr.Blk w' (w.heap.size + 1) 101 (row nib)) := Lib.hid (by
        rw [← show row (upto 16) = row nib from by
          unfold row
          apply List.map_congr_left
          intro j hj
          have := List.mem_range.1 hj
          unfold upto; rw [if_pos this]]
        exact HT.out)
      have HO : Hid (Arr.Blk w' w.heap.size 101 (row fun _ => 0#32)) := Lib.hid HR.out
      have hi : ∀ f : Nat → BitVec 32, (Try.prog.info? 101).map (·.size) = some (row f).toArray.size := fun f => by
        rw [show (row f).toArray.size = 16 from rfl]; kernel_rfl
      have h1c : ∀ f : Nat → BitVec 32, (row f).toArray.all (·.oneCell') = true := fun f => by
        simp only [row, List.all_toArray, List.all_map, List.all_eq_true]
        intro j _; rfl
      have HF := Lib.hid (And.intro hi h1c)
      clear hT HT HR hi h1c
      go_wp2_with (first
        | (refine wpList_load_row rfl 101 (.tmp 1) rfl (w.heap.size + 1) rfl 101 (row nib).toArray (0, 0) _ HN.out Try.underlying101 rfl (HF.out.1 _) ?_)
        | (refine wpList_store_row rfl 101 (.tmp 0) (.tmp 6) rfl w.heap.size (row nib).toArray rfl rfl 101 _ HO.out (HF.out.1 _) rfl (HF.out.2 _) ?_))
      simp only [jumps_ret]
      refine bodyPost_ret (results_cell_row rfl _ _ w.heap.size 101 (row nib).toArray (0, 0) _ rfl (Arr.blk_row HO.out _) Try.underlying101 rfl (HF.out.1 _)) rfl ?_
      exact ⟨rfl, Arr.below_row HB.out (by omega) _⟩
  · intro hp0
    have HP := Lib.hid hp0
    clear hp0
    go_wp2
    go_step3
    rename_i hK
    refine hK _ _ (HP.out _ _ ?_)
    exact ⟨0, _, _, _, _, _, _, _, _, _, _, _, _, _, _, _, _, _, _, _, _, _, rfl, by omega, (below_alloc w _).alloc (by simp) _, Arr.blk_alloc (Arr.blk_new w _ _ (row fun _ => 0#32) rfl) _, Arr.blk_new _ _ _ (row (upto 0)) (by simp)⟩

/-- Half a byte at once. -/
theorem nib_step (s : BitVec 32) : (s <<< 4) ^^^ nib (s.toNat / 268435456) = Zn 4 s := by
  have e : s = (s >>> 28 <<< 28) ^^^ (s &&& 0xFFFFFFF#32) := by
    apply BitVec.eq_of_getLsbD_eq
    intro i hi
    have hc : (0xFFFFFFF#32 : BitVec 32).getLsbD i = decide (i < 28) := by
      have : ∀ i : Fin 32, (0xFFFFFFF#32 : BitVec 32).getLsbD i.val = decide (i.val < 28) := by decide
      exact this ⟨i, hi⟩
    simp only [BitVec.getLsbD_xor, BitVec.getLsbD_shiftLeft, BitVec.getLsbD_ushiftRight, BitVec.getLsbD_and, hc]
    by_cases h : i < 28
    · simp [h]
    · simp [h, hi, show 28 + (i - 28) = i by omega]
  have hc : ∀ i, i < 32 → (0xFFFFFFF#32 : BitVec 32).getLsbD i = decide (i < 28) := by
    intro i hi
    have : ∀ i : Fin 32, (0xFFFFFFF#32 : BitVec 32).getLsbD i.val = decide (i.val < 28) := by decide
    exact this ⟨i, hi⟩
  have e2 : Zn 4 (s &&& 0xFFFFFFF#32) = s <<< 4 := by
    rw [Zn_shl 4]
    · apply BitVec.eq_of_getLsbD_eq
      intro i hi
      rw [BitVec.getLsbD_shiftLeft, BitVec.getLsbD_shiftLeft, BitVec.getLsbD_and]
      by_cases h4 : i < 4
      · simp [h4]
      · rw [hc _ (by omega)]
        simp [h4, show i - 4 < 28 by omega]
    · intro i hi
      rw [BitVec.getLsbD_and]
      by_cases h32 : i < 32
      · rw [hc i h32, decide_eq_false (by omega), Bool.and_false]
      · rw [BitVec.getLsbD_of_ge _ _ (by omega)]; rfl
  have e3 : BitVec.ofNat 32 (s.toNat / 268435456) = s >>> 28 := by
    apply BitVec.eq_of_toNat_eq
    have := s.isLt
    rw [BitVec.toNat_ofNat, BitVec.toNat_ushiftRight, Nat.shiftRight_eq_div_pow]
    omega
  conv => rhs; rw [e]
  rw [Zn_xor, e2]
  unfold nib
  rw [e3, BitVec.xor_comm]
theorem Zn_add (m n : Nat) (x : BitVec 32) : Zn (m + n) x = Zn n (Zn m x) := by
  induction m generalizing x with
  | zero => rw [Nat.zero_add]; rfl
  | succ m ih => rw [show m + 1 + n = (m + n) + 1 by omega]; exact ih (Z x)
theorem byte_xor (s : BitVec 32) (b : UInt8) : bitsZ s (bitsOf b) = Zn 8 (s ^^^ (wide b <<< 24)) := by
  rw [bitsZ_top _ _ (by rw [bitsOf_length]; omega), bitsOf_length, top_bitsOf]

theorem xor_uv (a b : BitVec 32) (x y : Int) (hx : x = (a.toNat : Int)) (hy : y = (b.toNat : Int)) : Value.int IntKind.u32 (Go.bits .xor .u32 x y) = uv (a ^^^ b) := by
  subst hx hy
  show Value.int IntKind.u32 _ = Value.int IntKind.u32 _
  rw [u32_xor_nat _ _ a.isLt b.isLt, BitVec.toNat_xor]
theorem xor_first (x : BitVec 32) (y : UInt8) : Value.int IntKind.u32 (Go.bits .xor .u32 (x.toNat : Int) ((y.toNat : Int) % 4294967296 * 16777216 % 4294967296)) = uv (Zn (4 * 0) (x ^^^ (wide y <<< 24))) := by
  have hy := y.toNat_lt
  refine xor_uv x (wide y <<< 24) _ _ rfl ?_
  rw [BitVec.toNat_shiftLeft, wide, BitVec.toNat_ofNat, Nat.shiftLeft_eq]
  omega
theorem xor_nib (z nb t : BitVec 32) (h : z <<< 4 ^^^ nb = t) : Value.int IntKind.u32 (Go.bits .xor .u32 ((z.toNat : Int) * 16 % 4294967296) (nb.toNat : Int)) = uv t := by
  rw [← h]
  refine xor_uv (z <<< 4) nb _ _ ?_ rfl
  rw [BitVec.toNat_shiftLeft, Nat.shiftLeft_eq]
  omega

set_option maxHeartbeats 4000000 in
theorem from_any (s : BitVec 32) (a : Option Addr) (len cap : Nat) (l : List UInt8) (w : World) (hl : l.length = len) (hm : len ≤ 4000) (hE : RowB w a l) :
    Calls Try.prog 54 #[uv s, .slice a len cap] w fun e w' => e = .returned (uv (crc s l)) ∧ Below w.heap.size w w' := by
  have HL := Lib.hid hl
  clear hl
  have hi : (Try.prog.info? 101).map (·.size) = some (row nib).length := by
    rw [show (row nib).length = 16 from rfl]; kernel_rfl
  have h1c : (row nib).all (·.oneCell') = true := by
    simp only [row, List.all_map, List.all_eq_true]
    intro j _; rfl
  have HF := Lib.hid (And.intro hi h1c)
  clear hi h1c
  go_enter Try.func54, Try.ntmps54
  go_wp2_with fail
  refine (madeTable_any w).mono ?_
  rintro e w1 ⟨rfl, hb⟩
  have HE := Lib.hid (row_keep encB_len hE hb)
  have HB := Lib.hid hb
  have hsz := hb.size
  clear hb hE
  go_wp2_with (refine Arr.wpList_store_blk rfl 101 (.tmp 5) (.tmp 8) rfl w1.heap.size (row nib) rfl rfl (row fun _ => 0#32) 101 (Arr.blk_new w1 _ _ (row fun _ => 0#32) rfl) HF.out.1 rfl HF.out.2 w1.heap.size (Nat.le_refl _) ?_; intro w2 hT hb)
  have HB2 := Lib.hid (below_keep HB.out ((below_alloc w1 _).trans hb))
  have HE2 := Lib.hid (row_keep encB_len HE.out ((below_alloc w1 _).trans hb))
  have HT := Lib.hid hT
  clear hT hb HB HE HF
  go_wp2
  go_loop [0, 11] (fun v i => ∃ k : Nat, k ≤ len ∧ i = .int .i64 k ∧ v = uv (crc s (l.take k))) (fun _ i => len - (intOf i).toNat)
  case atStart => exact ⟨0, Nat.zero_le _, rfl, rfl⟩
  case round =>
    obtain ⟨k, hk, rfl, rfl⟩ := hrel
    by_cases hlt : k < len
    · have hkl : k < l.length := by rw [HL.out]; exact hlt
      obtain ⟨b, off, HA⟩ := row_some HE2.out (by omega)
      have ha := HA.out
      subst ha
      have c0 := row_cell HE2.out hkl rfl (i := 0) (by omega)
      have HS : Hid (crc s (l.take (k + 1)) = bitsZ (crc s (l.take k)) (bitsOf l[k])) := by
        exact Lib.hid (by rw [List.take_succ_eq_append_getElem hkl, crc_snoc])
      simp only [encB, Nat.mul_one, Nat.add_zero, List.getElem?_cons_zero] at c0
      generalize hx : crc s (l.take k) = x at *
      generalize hy : l[k] = y at *
      clear hx hy
      go_wp2
      go_loop [0, 20] (fun v i => ∃ j : Nat, j ≤ 2 ∧ i = .int .i64 j ∧ v = uv (Zn (4 * j) (x ^^^ (wide y <<< 24)))) (fun _ i => 2 - (intOf i).toNat)
      case atStart => exact ⟨0, Nat.zero_le _, rfl, xor_first x y⟩
      case round =>
        obtain ⟨j, hj, rfl, rfl⟩ := hrel
        by_cases hj2 : j < 2
        · have hn := nib_step (Zn (4 * j) (x ^^^ (wide y <<< 24)))
          rw [← Zn_add] at hn
          generalize hz : Zn (4 * j) (x ^^^ (wide y <<< 24)) = z at *
          clear hz
          have hz : z.toNat < 4294967296 := z.isLt
          have t0 := Arr.blk_cell HT.out (z.toNat / 268435456)
          rw [row_at _ _ (by omega)] at t0
          generalize hnb : nib (z.toNat / 268435456) = nb at *
          have HN := Lib.hid hn
          clear hn hnb
          have HX := Lib.hid (xor_nib z nb _ HN.out)
          go_wp2
          go_round
          case rel => exact ⟨j + 1, by omega, by go_num, HX.out⟩
          case measure => simp [intOf]; omega
        · obtain rfl : j = 2 := by omega
          have HX := Lib.hid (HS.out.trans (byte_xor x y))
          go_wp2
          go_round
          case rel => exact ⟨k + 1, by omega, by go_num, congrArg uv HX.out.symm⟩
          case measure => simp [intOf]; omega
    · obtain rfl : k = len := by omega
      have e : l.take k = l := by rw [← HL.out, List.take_length]
      have HQ := Lib.hid (congrArg (crc s) e)
      clear e
      go_wp2
      go_ret
      exact ⟨congrArg (fun z => Ending.returned (uv z)) HQ.out, HB2.out⟩

set_option maxHeartbeats 1000000 in
theorem start_any (w : World) : Calls Try.prog 66 #[] w fun e w' => e = .returned (.int .u32 4294967295) ∧ w = w' := by
  go_enter Try.func66, Try.ntmps66
  go_wp2
  go_ret
  exact ⟨rfl, rfl⟩

end Go.Proofs.Ytdgfoldobofgoaa.Chk
/- Check: the landed Of. -/
namespace Go.Proofs.Ytdgfoldobofgoaa.Chk
open Go.RowKit
open Go.Sort
open Kit
open Oct
open Scp
set_option linter.unusedVariables false

set_option maxHeartbeats 1000000 in
theorem of_any (a : Option Addr) (len cap : Nat) (l : List UInt8) (w : World) (hl : l.length = len) (hm : len ≤ 4000) (hE : RowB w a l) :
    Calls Try.prog 55 #[.slice a len cap] w fun e w' => e = .returned (uv (sumB l)) ∧ Below w.heap.size w w' := by
  have HC := Lib.hid (from_any 0xffffffff#32 a len cap l w hl hm hE)
  clear hl hE
  go_enter Try.func55, Try.ntmps55
  go_wp2_with fail
  refine (start_any w).mono ?_
  rintro e w1 ⟨rfl, rfl⟩
  go_wp2_with fail
  refine HC.out.mono ?_
  rintro e w1 ⟨rfl, hb⟩
  go_wp2
  go_ret
  exact ⟨rfl, hb⟩
/-- With the sum as a value that is told. -/
theorem of_is (a : Option Addr) (len cap : Nat) (l : List UInt8) (s : BitVec 32) (w : World) (hl : l.length = len) (hm : len ≤ 4000) (hE : RowB w a l) (hs : sumB l = s) :
    Calls Try.prog 55 #[.slice a len cap] w fun e w' => e = .returned (uv s) ∧ Below w.heap.size w w' := by
  subst hs; exact of_any a len cap l w hl hm hE

end Go.Proofs.Ytdgfoldobofgoaa.Chk
/- Frame: the landed small calls: Sectors, the stamp, its halves, a number's lowest bytes. -/
namespace Go.Proofs.Ytdgfoldobofgoaa.Frm
open Go.RowKit
open Go.Sort
open Kit
open Oct
open Chk
set_option linter.unusedVariables false

set_option maxHeartbeats 1000000 in
theorem half_any (n : Int) (w : World) (hn : -9223372036854775808 ≤ n ∧ n ≤ 9223372036854775807) : Calls Try.prog 41 #[.int .i64 n] w fun e w' => e = .returned (.bool (decide (0 ≤ n ∧ n < 4294967296))) ∧ w = w' := by
  by_cases h0 : 0 ≤ n
  · by_cases h1 : n ≤ 4294967295
    · go_enter Try.func41, Try.ntmps41
      go_wp2
      go_ret
      exact ⟨ret_bool (by simp; omega), rfl⟩
    · go_enter Try.func41, Try.ntmps41
      go_wp2
      go_ret
      exact ⟨ret_bool (by simp; omega), rfl⟩
  · go_enter Try.func41, Try.ntmps41
    go_wp2
    go_ret
    exact ⟨ret_bool (by simp; omega), rfl⟩

set_option maxHeartbeats 1000000 in
theorem sectors_any (n : Int) (hn : -9223372036854775808 ≤ n ∧ n ≤ 9223372036854775807) (w : World) :
    Calls Try.prog 34 #[.int .i64 n] w fun e w' => e = .returned (.int .i64 (secsI n : Nat)) ∧ w = w' := by
  by_cases h0 : n < 0
  · have e : Hid (secsI n = 0) := Lib.hid (by unfold secsI; rw [if_pos (.inl h0)])
    go_enter Try.func34, Try.ntmps34
    go_wp2
    go_ret
    exact ⟨by rw [e.out]; rfl, rfl⟩
  · by_cases h1 : 65535 < n
    · have e : Hid (secsI n = 0) := Lib.hid (by unfold secsI; rw [if_pos (.inr h1)])
      go_enter Try.func34, Try.ntmps34
      go_wp2
      go_ret
      exact ⟨by rw [e.out]; rfl, rfl⟩
    · have e : Hid (((secsI n : Nat) : Int) = (n + 29) / 24) := Lib.hid (by unfold secsI secs; rw [if_neg (by omega)]; omega)
      go_enter Try.func34, Try.ntmps34
      go_wp2
      go_ret
      refine ⟨ret_int ?_, rfl⟩
      rw [e.out]
      first | rfl | (congr 1; omega) | omega

theorem sectors_is (n m : Nat) (hn : n ≤ 65535) (hm : secs n = m) (w : World) : Calls Try.prog 34 #[.int .i64 (n : Nat)] w fun e w' => e = .returned (.int .i64 (m : Nat)) ∧ w = w' := by
  subst hm
  have := sectors_any (n : Int) (by omega) w
  rwa [show secsI (n : Int) = secs n by unfold secsI; rw [if_neg (by omega)]; rfl] at this

theorem u8_eq (a b : Nat) (h : a % 256 = b % 256) : UInt8.ofNat a = UInt8.ofNat b := UInt8.toNat.inj (by rw [u8_of, u8_of, h])
theorem mark_be (e q : Nat) (hq : q < 4294967296) : beB 8 (e * 4294967296 + q) = mark e q := by
  simp only [mark, beB, List.cons_append, List.nil_append, Nat.reducePow]
  rw [u8_eq ((e * 4294967296 + q) / 72057594037927936) (e / 16777216) (by omega), u8_eq ((e * 4294967296 + q) / 281474976710656) (e / 65536) (by omega), u8_eq ((e * 4294967296 + q) / 1099511627776) (e / 256) (by omega), u8_eq ((e * 4294967296 + q) / 4294967296) (e / 1) (by omega),
    u8_eq ((e * 4294967296 + q) / 16777216) (q / 16777216) (by omega), u8_eq ((e * 4294967296 + q) / 65536) (q / 65536) (by omega), u8_eq ((e * 4294967296 + q) / 256) (q / 256) (by omega), u8_eq ((e * 4294967296 + q) / 1) (q / 1) (by omega)]
theorem or_stamp (e q : Nat) (he : e < 4294967296) (hq : q < 4294967296) : toU64 (Go.bits .or .i64 (wrap64 ((e : Int) * 4294967296)) (q : Int)) = e * 4294967296 + q := by
  have h : (BitVec.ofInt 64 (wrap64 ((e : Int) * 4294967296)) ||| BitVec.ofInt 64 (q : Int)).toNat = e * 4294967296 + q := by
    rw [BitVec.toNat_or, BitVec.toNat_ofInt, BitVec.toNat_ofInt, show (wrap64 ((e : Int) * 4294967296) % ((2 ^ 64 : Nat) : Int)).toNat = e * 4294967296 by unfold wrap64; omega, show ((q : Int) % ((2 ^ 64 : Nat) : Int)).toNat = q by omega]
    exact nat_join 32 _ _ (by omega) (by omega)
  show toU64 (IntKind.i64.wrap ((BitVec.ofInt 64 (wrap64 ((e : Int) * 4294967296)) ||| BitVec.ofInt 64 (q : Int)).toNat : Int)) = _
  rw [h, IntKind.wrap_i64]
  unfold toU64; omega
set_option maxHeartbeats 1000000 in
theorem stampOf_any (e q : Nat) (he : e < 4294967296) (hq : q < 4294967296) (w : World) :
    Calls Try.prog 42 #[.int .i64 (e : Nat), .int .i64 (q : Nat)] w fun e' w' => ∃ g cap, e' = .returned (.slice (some ⟨g, 0, none⟩) 8 cap) ∧ 8 ≤ cap ∧ cap ≤ maxLen ∧ RowB w' (some ⟨g, 0, none⟩) (mark e q) ∧ Below w.heap.size w w' := by
  go_enter Try.func42, Try.ntmps42
  go_wp2_with fail
  refine (int_is none 0 0 8 _ [] (mark e q) w rfl (fun _ => ⟨rfl, rfl⟩) (.inl rfl) (by omega) (by rw [or_stamp e q he hq, List.nil_append, mark_be e q hq]) (mark_length e q)).mono ?_
  rintro e' w1 ⟨g, c, rfl, h1, h2, h3, hb⟩
  go_wp2
  go_ret
  exact ⟨g, c, rfl, h1, h2, h3, hb⟩

theorem beB_drop (n k : Nat) : ∀ j, (beB (j + k) n).drop j = beB k n
  | 0 => by rw [Nat.zero_add, List.drop_zero]
  | j + 1 => by rw [show j + 1 + k = (j + k) + 1 by omega]; exact beB_drop n k j
theorem toU64_nat (n : Nat) (h : n < 18446744073709551616) : toU64 (n : Int) = n := by unfold toU64; omega
/-- A cut of bytes in memory. -/
def AtB (w : World) (v : Value) (n : Nat) (l : Bs) : Prop := ∃ b o c, v = .slice (some ⟨b, o, none⟩) n c ∧ n ≤ c ∧ c ≤ maxLen ∧ RowB w (some ⟨b, o, none⟩) l
set_option maxHeartbeats 1000000 in
theorem lowest_any (n k : Nat) (hn : n < 9223372036854775808) (hk : 1 ≤ k) (hk8 : k ≤ 8) (w : World) :
    Calls Try.prog 53 #[.int .i64 (n : Nat), .int .i64 (k : Nat)] w fun e' w' => ∃ v, e' = .returned v ∧ AtB w' v k (beB k n) ∧ Below w.heap.size w w' := by
  go_enter Try.func53, Try.ntmps53
  go_wp2_with fail
  refine (int_is none 0 0 8 _ [] (beB 8 n) w rfl (fun _ => ⟨rfl, rfl⟩) (.inl rfl) (by omega) (by rw [toU64_nat n (by omega), List.nil_append]) (beB_length _ _)).mono ?_
  rintro e' w1 ⟨g, c, rfl, h1, h2, h3, hb⟩
  have h4 := row_from h3 (8 - k)
  rw [show beB 8 n = beB ((8 - k) + k) n by rw [show 8 - k + k = 8 by omega], beB_drop, Nat.zero_add] at h4
  have H4 := Lib.hid h4
  unfold maxLen at h2
  clear h3 h4
  go_wp2
  go_ret
  exact ⟨_, rfl, ⟨g, 8 - k, c - (8 - k), by first | rfl | (simp; omega), by omega, by unfold maxLen; omega, H4.out⟩, hb⟩

set_option maxHeartbeats 1000000 in
theorem stampAt_any (b o len cap i : Nat) (l : Bs) (w : World) (hl : l.length = len) (hi : 32 * (i + 1) ≤ len) (hc : len ≤ cap) (hm : cap ≤ maxLen) (hE : RowB w (some ⟨b, o, none⟩) l) :
    Calls Try.prog 48 #[.slice (some ⟨b, o, none⟩) len cap, .int .i64 (i : Nat)] w fun e' w' => ∃ v, e' = .returned v ∧ AtB w v 8 (stampL l i) ∧ w = w' := by
  have h4 := row_take (row_from hE (32 * i + 24)) 8
  have H4 := Lib.hid (show RowB w (some ⟨b, o + (32 * i + 24), none⟩) (stampL l i) from h4)
  unfold maxLen at hm
  clear hE h4
  go_enter Try.func48, Try.ntmps48
  go_wp2
  go_ret
  exact ⟨_, rfl, ⟨b, o + (32 * i + 24), cap - (32 * i + 24), by first | rfl | (simp; omega), by omega, by unfold maxLen; omega, H4.out⟩, rfl⟩

end Go.Proofs.Ytdgfoldobofgoaa.Frm
/- Frame: the landed dataOf. -/
namespace Go.Proofs.Ytdgfoldobofgoaa.Frm
set_option maxRecDepth 100000
open Go.RowKit
open Go.Sort
open Kit
open Oct
open Chk
set_option linter.unusedVariables false

theorem run_cv_u32 (s : BitVec 32) (w : World) : (convert 89 3 (.int .u32 (s.toNat : Nat))).run Try.prog w = .ok (.int .i64 (s.toNat : Nat)) w := by
  have := s.isLt
  simp [go_sem]
  rw [IntKind.wrap_i64]; omega
def phiDat (w0 : World) (B g n c : Nat) (L : Bs) (s : Nat) : Nat → List Value → World → Prop
  | 0, _, w => w = w0.drew
  | 1, vs, w => ∃ v, vs = [v] ∧ AtB w v 4 (beB 4 s) ∧ Below w0.heap.size w0 w
  | _, _, w => OwnB w B (.slice (some ⟨g, 0, none⟩) n c) (lay L 2 (beB 4 s)) ∧ Below B w0 w
theorem dataP_lay (st b : Bs) (n : Nat) (hn : n = 24 * secs b.length) : lay (lay (lay (List.replicate n 0) 0 (beB 2 b.length)) 2 (beB 4 (crc 0xffffffff#32 (st ++ beB 2 b.length ++ b)).toNat)) 6 b = dataP st b := by
  have h := lay_zeros [] (beB 2 b.length) n 0 rfl
  rw [List.nil_append, List.nil_append] at h
  rw [h, lay_zeros _ _ _ 2 (beB_length 2 _), lay_zeros _ _ _ 6 (by rw [List.length_append, beB_length, beB_length])]
  unfold dataP rawD
  rw [beB_length, beB_length, show n - 2 - 4 - b.length = 24 * secs b.length - (b.length + 6) by omega]
theorem run_mk_b (n : Nat) (hn : n ≤ 1000000) (w : World) : (Instr.makeSlice 27 (.int .i64 (n : Int)) (.int .i64 (n : Int))).run Try.prog w = .ok (.slice (some ⟨w.heap.size, 0, none⟩) n n) (w.alloc (.cells (madeCells #[.int .u8 0] n) 5)) := run_make_b n n rfl hn w

set_option maxHeartbeats 4000000 in
theorem dataOf_any (sv : Value) (st : Bs) (aa : Option Addr) (len cap : Nat) (l : Bs) (w : World) (hs : AtB w sv 8 st) (hst : st.length = 8) (h : Arg w aa len cap l) (hm : len ≤ 3000) :
    Calls Try.prog 44 #[sv, .slice aa len cap] w fun e w' => ∃ g c, e = .returned (.slice (some ⟨g, 0, none⟩) (24 * secs len) c) ∧ OwnB w' w.heap.size (.slice (some ⟨g, 0, none⟩) (24 * secs len) c) (dataP st l) ∧ Below w.heap.size w w' := by
  obtain ⟨sb, so, sc, rfl, hs1, hs2, hs3⟩ := hs
  have HA := Lib.hid h
  have HS := Lib.hid (And.intro hs3 hst)
  have hcl := h.cap
  have hcm := h.max
  have hll := h.len
  unfold maxLen at hs2 hcm
  clear h hs3 hst
  go_enter Try.func44, Try.ntmps44
  go_wp2_with fail
  refine (lowest_any len 2 (by omega) (by omega) (by omega) w).mono ?_
  rintro e1 w1 ⟨v2, rfl, ⟨b2, o2, c2, rfl, h21, h22, h23⟩, hb1⟩
  have H2 := Lib.hid h23
  have HB1 := Lib.hid hb1
  unfold maxLen at h22
  clear h23 hb1
  go_wp2_with fail
  refine (of_is (some ⟨sb, so, none⟩) 8 sc st (crc 0xffffffff#32 st) w1 HS.out.2 (by omega) (row_keep encB_len HS.out.1 HB1.out) rfl).mono ?_
  rintro e2 w2 ⟨rfl, hb2⟩
  have HB2 := Lib.hid (below_keep HB1.out hb2)
  have H22 := Lib.hid (row_keep encB_len H2.out hb2)
  clear hb2
  generalize hx1 : crc 0xffffffff#32 st = x1 at *
  go_wp2_with fail
  refine (from_any x1 (some ⟨b2, o2, none⟩) 2 c2 (beB 2 len) w2 (beB_length _ _) (by omega) H22.out).mono ?_
  rintro e3 w3 ⟨rfl, hb3⟩
  have HB3 := Lib.hid (below_keep HB2.out hb3)
  have H23 := Lib.hid (row_keep encB_len H22.out hb3)
  clear hb3
  generalize hx2 : crc x1 (beB 2 len) = x2 at *
  go_wp2_with fail
  refine (from_any x2 aa len cap l w3 HA.out.len (by omega) (row_keep encB_len HA.out.row HB3.out)).mono ?_
  rintro e4 w4 ⟨rfl, hb4⟩
  have HB4 := Lib.hid (below_keep HB3.out hb4)
  have H24 := Lib.hid (row_keep encB_len H23.out hb4)
  clear hb4
  have hX : crc x2 l = crc 0xffffffff#32 (st ++ beB 2 l.length ++ l) := by rw [crc_append, crc_append, hx1, hll, hx2]
  generalize crc x2 l = s3 at *
  have HX := Lib.hid hX
  clear hX hx1 hx2
  go_wp2_with fail
  obtain ⟨K, hK⟩ : ∃ K, secs len = K := ⟨_, rfl⟩
  refine (sectors_is len K (by omega) hK w4).mono ?_
  rintro e5 w5 ⟨rfl, rfl⟩
  have hsr := secs_room len
  have hsl : secs len ≤ 126 := by unfold secs; omega
  obtain ⟨n24, hn24⟩ : ∃ n, n = 24 * secs len := ⟨_, rfl⟩
  have hmul : (K : Int) * 24 = (n24 : Nat) := by omega
  have HN := Lib.hid (show len + 6 ≤ n24 ∧ n24 ≤ n24 ∧ n24 = 24 * secs len from ⟨by omega, Nat.le_refl _, hn24⟩)
  have hn6 : len + 6 ≤ n24 := by omega
  have hn7 : n24 ≤ 3100 := by omega
  have hn8 : 24 ≤ n24 := by have := secs_pos len; omega
  clear hsr hsl hK hn24
  have hmk := run_mk_b n24 (by omega) w4
  have HO := Lib.hid (own_made_b w4 w.heap.size n24 HB4.out.size (by unfold maxLen; omega))
  have HBa := Lib.hid (HB4.out.alloc HB4.out.size (.cells (madeCells #[.int .u8 0] n24) 5))
  have HR2 := Lib.hid (row_keep encB_len H24.out (below_alloc w4 (.cells (madeCells #[.int .u8 0] n24) 5)))
  go_wp2_with (first
    | (refine copy_b rfl (.tmp 22) (.tmp 23) rfl w.heap.size w4.heap.size n24 n24 (List.replicate n24 0) HO.out (List.length_replicate ..) 0 n24 n24 rfl (some ⟨b2, o2, none⟩) 2 c2 (beB 2 len) rfl (beB_length _ _) HR2.out (by omega) (by omega) ?_; intro w6 ho6 hg6
       have HO6 := Lib.hid (And.intro ho6 (show (lay (List.replicate n24 0) 0 (beB 2 len)).length = n24 by rw [lay_length (by rw [beB_length, List.length_replicate]; omega), List.length_replicate]))
       have HB6 := Lib.hid (HBa.out.trans (grown_below hg6 (Nat.le_trans HB4.out.size (by simp)) HB4.out.size))
       clear ho6 hg6)
    | fail)
  obtain ⟨L, hL⟩ : ∃ L, L = lay (List.replicate n24 0) 0 (beB 2 len) := ⟨_, rfl⟩
  rw [← hL] at HO6
  have HL := Lib.hid hL
  clear hmk hL hmul HO HR2
  refine Chn.wp_region_chain (fun idx => match idx with | 0 => some (.slice (some ⟨w4.heap.size, 0, none⟩) n24 n24) | 1 => some (.slice (some ⟨w4.heap.size, 2, none⟩) (n24 - 2) (n24 - 2)) | 2 => some (.int .u32 (s3.toNat : Nat)) | 3 => some (.int .i64 (s3.toNat : Nat)) | _ => none) [4, 5] (phiDat w6 w.heap.size w4.heap.size n24 n24 L s3.toNat) (by kernel_rfl) (by kernel_rfl) (by kernel_rfl) (by kernel_rfl) (by kernel_rfl) (by decide) (by kernel_rfl) (rfl) ?_ ?_
  · refine ⟨?_, ?_, ?_, ?_, ?_, ?_, trivial⟩
    · intro a ww jj vs c hj0 hΦ
      have hj : jj ≤ 1 := Nat.le_trans hj0 (of_decide_eq_true (by kernel_rfl))
      refine .inl ⟨Rel.wanted_free (by kernel_rfl) _, ?_⟩
      exact Rel.wp_mv _ rfl ⟨congrArg (a.put _) (c.old 7 (v := .slice (some ⟨w4.heap.size, 0, none⟩) n24 n24) (by kernel_rfl) (by kernel_rfl)), rfl⟩
    · intro a ww jj vs c hj0 hΦ
      have hj : jj ≤ 1 := Nat.le_trans hj0 (of_decide_eq_true (by kernel_rfl))
      refine .inl ⟨Rel.wanted_free (by kernel_rfl) _, ?_⟩
      exact Rel.wp_sl _ _ _ _ _ rfl (c.get 0 25 (by kernel_rfl) rfl) rfl rfl rfl (run_from w4.heap.size n24 2 n24 (by have := HN.out; omega) HN.out.2.1 (by have := HN.out; omega) ww) ⟨rfl, rfl⟩
    · intro a ww jj vs c hj0 hΦ
      have hj : jj ≤ 0 := Nat.le_trans hj0 (of_decide_eq_true (by kernel_rfl))
      refine .inl ⟨Rel.wanted_free (by kernel_rfl) _, ?_⟩
      exact Rel.wp_mv _ rfl ⟨congrArg (a.put _) (c.old 6 (v := .int .u32 (s3.toNat : Nat)) (by kernel_rfl) (by kernel_rfl)), rfl⟩
    · intro a ww jj vs c hj0 hΦ
      have hj : jj ≤ 0 := Nat.le_trans hj0 (of_decide_eq_true (by kernel_rfl))
      refine .inl ⟨Rel.wanted_free (by kernel_rfl) _, ?_⟩
      exact Rel.wp_cv _ _ _ rfl (c.get 2 27 (by kernel_rfl) rfl) (run_cv_u32 s3 ww) ⟨rfl, rfl⟩
    · refine ⟨0, rfl, ?_⟩
      intro a ww c hΦ
      have h : (phiDat w6 w.heap.size w4.heap.size n24 n24 L s3.toNat) 0 [] ww := hΦ
      clear hΦ
      refine ⟨Rel.wanted_free (by kernel_rfl) _, ?_⟩
      have hw : ww = w6.drew := h
      subst hw
      refine Rel.wp_cl _ [.tmp 28, .const (.int .i64 4)] _ rfl Try.func53 (by kernel_rfl) ?_
      show Calls _ _ #[Rel.slot a 28, .int .i64 4] w6.drew _
      rw [c.get 3 28 (by kernel_rfl) rfl]
      refine (lowest_any s3.toNat 4 (by have := s3.isLt; omega) (by omega) (by omega) w6.drew).mono ?_
      rintro e9 w9 ⟨v, rfl, hv, hb⟩
      exact ⟨v, rfl, _, rfl, v, rfl, hv, (below_drew w6).trans hb⟩
    · refine ⟨1, rfl, ?_⟩
      intro a ww c hΦ
      have h : (phiDat w6 w.heap.size w4.heap.size n24 n24 L s3.toNat) 1 [Rel.slot a 29] ww := hΦ
      clear hΦ
      refine ⟨Rel.wanted_free (by kernel_rfl) _, ?_⟩
      obtain ⟨v, hv0, hv, hb⟩ := h
      injection hv0 with hv0 _
      obtain ⟨b4, o4, c4, rfl, h41, h42, h43⟩ := hv
      obtain ⟨wz, hr, ho, hg⟩ := run_copy_b (dl := n24 - 2) (dc := n24 - 2) (c := c4) (ty := 3) (off := 2) (own_keep HO6.out.1 hb) HO6.out.2 (beB_length 4 s3.toNat) h43 (by have := HN.out; omega) (by have := HN.out; omega)
      exact Rel.wp_cp _ _ _ _ rfl (c.get 1 26 (by kernel_rfl) rfl) hv0 hr ⟨_, rfl, ho, (hb.mono HB6.out.size).trans (grown_below hg (Nat.le_trans HB6.out.size hb.size) (own_lt HO6.out.1).1)⟩
  intro a w8 hbase hroom hdef hΦ hV
  have h : (phiDat w6 w.heap.size w4.heap.size n24 n24 L s3.toNat) 2 [Rel.slot a 29, Rel.slot a 30] w8 := hΦ
  rw [Chn.act_puts [25, 26, 27, 28, 29, 30] hbase hroom hdef (by kernel_rfl)]
  clear hbase hroom hdef hΦ hV
  simp only [List.foldl_cons, List.foldl_nil]
  generalize Rel.slot a 25 = u25 at *
  generalize Rel.slot a 26 = u26 at *
  generalize Rel.slot a 27 = u27 at *
  generalize Rel.slot a 28 = u28 at *
  generalize Rel.slot a 29 = u29 at *
  generalize Rel.slot a 30 = u30 at *
  obtain ⟨ho8, hb8⟩ := (show OwnB w8 w.heap.size (.slice (some ⟨w4.heap.size, 0, none⟩) n24 n24) (lay L 2 (beB 4 s3.toNat)) ∧ Below w.heap.size w6 w8 from h)
  have HO8 := Lib.hid (And.intro ho8 (show (lay L 2 (beB 4 s3.toNat)).length = n24 by rw [lay_length (by rw [beB_length, HO6.out.2]; omega), HO6.out.2]))
  have HB8 := Lib.hid (HB6.out.trans hb8)
  have HR8 := Lib.hid (row_keep encB_len HA.out.row HB8.out)
  clear ho8 hb8 h
  go_wp2_with (first
    | (refine copy_b rfl (.tmp 32) (.tmp 33) rfl w.heap.size w4.heap.size n24 n24 (lay L 2 (beB 4 s3.toNat)) HO8.out.1 HO8.out.2 6 (n24 - 6) (n24 - 6) rfl aa len cap l rfl HA.out.len HR8.out (by omega) (by omega) ?_; intro w9 ho9 hg9
       have HO9 := Lib.hid ho9
       have HB9 := Lib.hid (HB8.out.trans (grown_below hg9 HB8.out.size (own_lt HO8.out.1).1))
       clear ho9 hg9)
    | fail)
  go_wp2
  go_ret
  refine ⟨w4.heap.size, n24, ?_, ?_, HB9.out⟩
  · rw [← HN.out.2.2]; rfl
  · rw [← HN.out.2.2]
    have e := dataP_lay st l n24 (by rw [hll]; exact HN.out.2.2)
    rw [← HX.out, hll, ← HL.out] at e
    rw [← e]
    exact HO9.out

end Go.Proofs.Ytdgfoldobofgoaa.Frm
/- The body of a range over a function: a region of it that draws its order, where no operation calls a function: what holds of it outside of rounds holds in them. -/
namespace Go.Proofs.Ytdgfoldobofgoaa.Rng
open Go.RowKit

/-- An operation that calls no function, whatever its operands hold. -/
def calmB (o : Oper) : Bool := match o.op with
  | .move _ | .assign _ | .load _ _ | .store _ _ _ | .slice _ _ _ _ _ | .convert _ _ _ | .binOp _ _ _ _ _ | .indexAddr _ _ _ => true
  | .call c => (match c.callee with | .builtin .append => true | .builtin .len => true | .builtin .copy => true | _ => false)
  | _ => false

theorem run_v {P : Program} {w w' : World} {s : Sem Value} {x : Next} (h : (do pure (Next.value (← s)) : Sem Next).run P w = .ok x w') : ∃ v, x = .value v := by
  simp only [Sem.run_bind] at h
  cases hs : s.run P w with
  | ok u w1 => rw [hs] at h; simp at h; exact ⟨u, h.1.symm⟩
  | halt e w1 => rw [hs] at h; simp at h
theorem run_u {P : Program} {w w' : World} {s : Sem Unit} {x : Next} (h : (do s; pure Next.skip : Sem Next).run P w = .ok x w') : x = .skip := by
  simp only [Sem.run_bind] at h
  cases hs : s.run P w with
  | ok u w1 => rw [hs] at h; simp at h; exact h.1.symm
  | halt e w1 => rw [hs] at h; simp at h
theorem calm_ok {P : Program} {o : Oper} {ρ : Operand → Value} {w w' : World} {x : Next} (hc : calmB o = true) (h : (execOp ρ o).run P w = .ok x w') : (∃ v, x = .value v) ∨ x = .skip := by
  unfold calmB at hc
  unfold execOp at h
  cases ho : o.op <;> rw [ho] at hc h <;> simp only at hc h <;> first
    | (cases hc; done)
    | exact .inl (run_v h)
    | exact .inr (run_u h)
    | (simp at h; exact .inl ⟨_, h.1.symm⟩)
    | skip
  rename_i c
  obtain ⟨cl, args, tys⟩ := c
  cases cl with
  | builtin b =>
    cases b <;> simp only at hc <;> first
      | (cases hc; done)
      | (simp only [resolve, invoke, builtin, Sem.run_bind, Sem.run_pure] at h
         exact .inl (run_v h))
  | _ => simp at hc
theorem calm_about {P : Program} {o : Oper} {ρ : Operand → Value} {w : World} (hc : calmB o = true) : o.about P w ρ = none := by
  unfold calmB at hc
  unfold Oper.about
  cases ho : o.op <;> rw [ho] at hc <;> simp only at hc ⊢ <;> try (cases hc; done)
  rename_i c
  obtain ⟨cl, args, tys⟩ := c
  cases cl with
  | builtin b => simp [resolve, Target.leads]
  | _ => simp at hc

variable {F : Fence} {n : Nat} {P : Program} {ops : Array Oper} {Q : Exit → Act → World → Prop} {md : Region.Mode}
theorem oper_in {o : Oper} {a : Act} {w : World} {K : Act → World → Prop} (hc : calmB o = true) (h : o.wp P a w K Q) : o.wpIn F n P a w K Q := by
  refine ⟨fun f hf => (by rw [calm_about hc] at hf; cases hf), ?_⟩
  rw [Oper.semAt_plain F a.eval o (fun c e => by unfold calmB at hc; rw [e] at hc; cases hc)]
  unfold Oper.wp at h
  cases hr : (execOp a.eval o).run P w with
  | ok x w' =>
    rw [hr] at h
    rcases calm_ok hc hr with ⟨v, rfl⟩ | rfl
    · exact h
    · exact h
  | halt e w' =>
    rw [hr] at h
    cases e <;> exact h
theorem op_in {i : Nat} {a : Act} {w : World} {K K' : Act → World → Prop} (hc : ∀ (i : Nat) (o : Oper), ops[i]? = some o → calmB o = true) (hQ : ¬ LetsOut Q) (hK : ∀ a w, K a w → K' a w) (h : wpOp P ops Q i K a w) : wpOpIn F n P ops Q i K' a w := by
  unfold wpOp at h
  unfold wpOpIn
  cases ho : ops[i]? with
  | none => rw [ho] at h; exact hK _ _ h
  | some o =>
    rw [ho] at h
    simp only at h ⊢
    by_cases hw : Region.wanted o (yielded ops a.tmps) = true
    · rw [if_pos hw] at h ⊢
      rcases h with h | h
      · exact Oper.wpIn_mono hK (oper_in (hc i o ho) h)
      · exact absurd h.2 hQ
    · rw [if_neg hw] at h ⊢
      exact ⟨fun f hf => (by rw [calm_about (hc i o ho)] at hf; cases hf), hK _ _ h⟩
theorem any_in (hc : ∀ (i : Nat) (o : Oper), ops[i]? = some o → calmB o = true) (hQ : ¬ LetsOut Q) : ∀ (fuel : Nat) (listed : Array Bool) (a : Act) (w : World), wpAny P md ops Q fuel listed a w → wpAnyIn F n P md ops Q fuel listed a w
  | 0, _, _, _, h => h
  | fuel + 1, _, _, _, h => ⟨h.1, fun i hi => op_in hc hQ (fun a w h => any_in hc hQ fuel _ a w h) (h.2 i hi)⟩

/-- A region of calm operations, by all its ways outside of rounds. -/
theorem region_in {id : Nat} {l : List Oper} {a : Act} {w : World} (hm : P.follows .mixedOrders = true) (hc : l.all calmB = true) (hQ : ¬ LetsOut Q) (h : wpAny P .any l.toArray Q l.toArray.size (Array.replicate l.toArray.size false) a w.drew) : (Code.region id l.toArray true).wpIn F n P Q a w :=
  wpIn_region_any hm (any_in (fun i o ho => List.all_eq_true.1 hc o (List.mem_of_getElem? (by simpa using ho))) hQ _ _ _ _ h)
theorem lets_own {α : Type} (Kp : World → World → Prop) (I : List α → World → Prop) (Ix : Code → List α → World → Prop) (xs : List α) (W : World) : ¬ LetsOut (ownPostK Kp I Ix xs W) := fun h => by
  first | exact h.elim | (simp [LetsOut, ownPostK] at h)
theorem lets_block {id : Nat} {Q : Exit → Act → World → Prop} (h : ¬ LetsOut Q) : ¬ LetsOut (Exit.inBlock id Q) := fun ⟨a, w, hq⟩ => h ⟨a, w, hq⟩
end Go.Proofs.Ytdgfoldobofgoaa.Rng
/- Frame: the landed pieces: bytes, so many at a time, ranged over. -/
namespace Go.Proofs.Ytdgfoldobofgoaa.Frm
open Go.RowKit
open Go.Sort
open Kit
open Oct
open Chk
set_option linter.unusedVariables false
attribute [local go_sem] Oper.semAt_some

/-- What pieces has captured: the bytes, and how many at a time. -/
def Stuff (b0 b1 : Nat) (v0 v1 : Value) (W : World) : Prop := Boxed W b0 27 v0 ∧ Boxed W b1 3 v1
def KpS (b0 b1 : Nat) (v0 v1 : Value) (A B : World) : Prop := Stuff b0 b1 v0 v1 A → Stuff b0 b1 v0 v1 B
theorem kps_t {b0 b1 : Nat} {v0 v1 : Value} {A B C : World} (h : KpS b0 b1 v0 v1 A B) (k : KpS b0 b1 v0 v1 B C) : KpS b0 b1 v0 v1 A C := fun s => k (h s)
theorem boxed_put {W : World} {b l : Nat} {t : TypeId} {v : Value} {o o' : Obj} (h : Boxed W b t v) (hl : W.heap[l]? = some o) (hc : o.isCells = false) : Boxed (W.putObj l o') b t v :=
  h.kept (grownBy_putObj' W l o') (fun e => by
    injection e with e
    subst e
    have h1 : W.heap[b]? = some (.cells #[v] t (0, 0)) := h
    rw [h1] at hl
    injection hl with hl
    subst hl
    cases hc)
theorem kps_b {b0 b1 : Nat} {v0 v1 : Value} {W : World} {l : Nat} {o o' : Obj} (hl : W.heap[l]? = some o) (hc : o.isCells = false) : KpS b0 b1 v0 v1 W (W.putObj l o') := fun s => ⟨boxed_put s.1 hl hc, boxed_put s.2 hl hc⟩
theorem boxed_below {w W : World} {b : Nat} {t : TypeId} {v : Value} (h : Boxed w b t v) (hb : Below w.heap.size w W) : Boxed W b t v := (hb.block b (Boxed.lt h)).trans h

set_option maxHeartbeats 1000000 in
theorem pieces_any (a : Option Addr) (len cap size : Nat) (w : World) :
    Calls Try.prog 43 #[.slice a len cap, .int .i64 (size : Nat)] w fun e w' => e = .returned (.func (.func 52) #[] #[.pointer (some ⟨w.heap.size, 0, none⟩), .pointer (some ⟨w.heap.size + 1, 0, none⟩)]) ∧
      w' = (w.alloc (.cells #[.slice a len cap] 27)).alloc (.cells #[.int .i64 (size : Nat)] 3) := by
  go_enter Try.func43, Try.ntmps43
  go_wp2
  go_ret
  exact ⟨rfl, rfl⟩

/-- A piece. -/
def encP (bb oo cap size cnt : Nat) (x : { k : Nat // k < cnt }) : Array Value := #[.slice (some ⟨bb, oo + size * x.1, none⟩) size (cap - size * x.1)]

set_option maxRecDepth 100000 in
set_option maxHeartbeats 2000000 in
theorem pieces1_in (F : Fence) (n : Nat) (hf : F.fn 52) (hro : F.round = none) (hn : 1 ≤ n) (l b0 b1 bb oo len cap size cnt : Nat) (hs : 1 ≤ size) (hlen : size * cnt = len) (hm : len ≤ 5000) (hc : len ≤ cap) (hcm : cap ≤ maxLen) (J Jx : List { k : Nat // k < cnt } → World → Prop)
    (hY : ∀ pre x W, J pre W → pre.length < cnt → YieldAt F (n - 1) Try.prog l (encP bb oo cap size cnt x) W fun e W' =>
      (e = .returned (.bool true) ∧ J (pre ++ [x]) W' ∧ KpS b0 b1 (.slice (some ⟨bb, oo, none⟩) len cap) (.int .i64 (size : Nat)) W W') ∨ (e = .returned (.bool false) ∧ Jx (pre ++ [x]) W'))
    (W : World) (hS : Stuff b0 b1 (.slice (some ⟨bb, oo, none⟩) len cap) (.int .i64 (size : Nat)) W) (h0 : J [] W) :
    CallsIn F n Try.prog 52 #[.func (.yield l) #[] #[], .pointer (some ⟨b0, 0, none⟩), .pointer (some ⟨b1, 0, none⟩)] W fun e W' => (∃ v, e = .returned v) ∧
      ((∃ ys : List { k : Nat // k < cnt }, ys.map (·.1) = List.range cnt ∧ J ys W') ∨ (∃ pre, True ∧ Jx pre W')) := by
  unfold maxLen at hcm
  refine callsIn_of_wp Try.func52 rfl hf ?_ hro
  simp only [Try.ntmps52, List.size_toArray, List.length_cons, List.length_nil, Nat.reduceAdd, Nat.reduceSub, Array.replicate_succ, Array.replicate_zero, List.push_toArray, List.append_toArray, List.nil_append, List.cons_append]
  gi_wp2
  gi_loopw [4] (fun p wr => ∃ (pre : List { k : Nat // k < cnt }) (K : Nat), p = .int .i64 (K : Nat) ∧ K = size * pre.length ∧ pre.map (·.1) = List.range pre.length ∧ pre.length ≤ cnt ∧ J pre wr ∧ Stuff b0 b1 (.slice (some ⟨bb, oo, none⟩) len cap) (.int .i64 (size : Nat)) wr)
    (fun p _ => len - (intOf p).toNat)
  case atStart => exact ⟨[], 0, rfl, rfl, rfl, Nat.zero_le _, h0, hS⟩
  case round =>
    obtain ⟨pre, K, rfl, hK, hpre, hle, hJ, hSt⟩ := hrel
    have c0 := hSt.1.cell
    have c1 := hSt.2.cell
    by_cases hlt : pre.length < cnt
    · have hmul : size * (pre.length + 1) ≤ size * cnt := Nat.mul_le_mul_left _ hlt
      rw [Nat.mul_add, Nat.mul_one, ← hK, hlen] at hmul
      have hKl : K < len := by omega
      obtain ⟨fn, tmps, assign, body, hy, hR⟩ := hY pre ⟨pre.length, hlt⟩ wr hJ hlt
      unfold encP at hy
      dsimp only at hy
      rw [← hK] at hy
      have HK := Lib.hid hK
      clear hK
      gi_wp2
      refine hR.mono ?_
      rintro e W3 (⟨rfl, hJ3, hk3⟩ | ⟨rfl, hJx3⟩)
      · have hS3 := hk3 hSt
        have d0 := hS3.1.cell
        have d1 := hS3.2.cell
        gi_wp2
        go_roundw
        case rel => exact ⟨pre ++ [⟨pre.length, hlt⟩], K + size, by go_num, by rw [List.length_append, List.length_singleton, Nat.mul_add, Nat.mul_one, HK.out], by rw [List.map_append, hpre, List.length_append, List.length_singleton, List.range_succ]; rfl, by rw [List.length_append, List.length_singleton]; exact hlt, hJ3, hS3⟩
        case measure => simp [intOf]; omega
      · gi_wp2
        refine bodyPost_ret (results_none rfl _ _ _) rfl ?_
        exact ⟨⟨_, rfl⟩, .inr ⟨_, trivial, hJx3⟩⟩
    · have hKl : K = len := by
        have : pre.length = cnt := by omega
        rw [hK, this, hlen]
      clear hK
      gi_wp2
      go_end0
      exact ⟨⟨_, rfl⟩, .inl ⟨pre, by rw [hpre, show pre.length = cnt by omega], hJ⟩⟩

/-- The pieces of bytes in memory: all, one behind the other. -/
theorem pieces_stops (F : Fence) (n : Nat) (hf : F.fn 52) (hro : F.round = none) (hn : 1 ≤ n) (b0 b1 bb oo len cap size cnt : Nat) (w : World) (hs : 1 ≤ size) (hlen : size * cnt = len) (hm : len ≤ 5000) (hc : len ≤ cap) (hcm : cap ≤ maxLen)
    (hS : Stuff b0 b1 (.slice (some ⟨bb, oo, none⟩) len cap) (.int .i64 (size : Nat)) w) :
    SeqStopsK F n Try.prog 52 #[.pointer (some ⟨b0, 0, none⟩), .pointer (some ⟨b1, 0, none⟩)] (encP bb oo cap size cnt) (KpS b0 b1 (.slice (some ⟨bb, oo, none⟩) len cap) (.int .i64 (size : Nat))) (fun ys => ys.map (·.1) = List.range cnt) (fun _ => True) cnt w :=
  fun l J Jx W hW _ _ hY h0 => pieces1_in F n hf hro hn l b0 b1 bb oo len cap size cnt hs hlen hm hc hcm J Jx hY W ⟨boxed_below hS.1 hW, boxed_below hS.2 hW⟩ h0

end Go.Proofs.Ytdgfoldobofgoaa.Frm
/- The body of a range over a function that appends bytes to a list of the caller's own, which lies in a box. -/
namespace Go.Proofs.Ytdgfoldobofgoaa.Rng
open Go.RowKit
open Kit
open Oct
set_option linter.unusedVariables false

abbrev tB : TypeId := 27
/-- While a round runs: the box B holds v, the list f is u; other bytes in memory, other boxes. -/
structure Mid (w0 : World) (base B : Nat) (rows : List (Option Addr × List UInt8)) (boxes : List (Nat × TypeId × Value)) (f : List UInt8) (W : World) (v u : Value) : Prop where
  box : Boxed W B tB v
  own : OwnB W base u f
  vnot : ∀ i : Int, v ≠ .int .u8 i
  far : ∀ r ∈ rows, ∀ q, r.1 = some q → u.ownBlock ≠ some q.block ∧ q.block < W.heap.size
  row : ∀ r ∈ rows, RowB W r.1 r.2
  bx : ∀ b ∈ boxes, b.1 ≠ B ∧ b.2.1 ≠ 5 ∧ Boxed W b.1 b.2.1 b.2.2
  low : base ≤ B ∧ base ≤ w0.heap.size
  bel : Below base w0 W
def Inv9 (w0 : World) (base B : Nat) (rows : List (Option Addr × List UInt8)) (boxes : List (Nat × TypeId × Value)) (f : List UInt8) (W : World) : Prop := ∃ v, Mid w0 base B rows boxes f W v v

theorem own_not_int {W : World} {base : Nat} {u : Value} {f : List UInt8} (h : OwnB W base u f) (i : Int) : u ≠ .int .u8 i := by
  obtain ⟨a, c, rfl, _⟩ := own_row h
  intro e; cases e
/-- A block with a byte in it is no box of something else. -/
theorem row_ne_box {W : World} {B : Nat} {t : TypeId} {v : Value} {a : Option Addr} {l : List UInt8} (hb : Boxed W B t v) (hv : ∀ i : Int, v ≠ .int .u8 i) (h : RowB W a l) (hl : l ≠ []) : ∀ q, a = some q → q.block ≠ B := by
  intro q hq e
  rcases h with h | ⟨b, off, h1, h2⟩
  · exact hl h
  · rw [h1] at hq
    injection hq with hq
    subst hq
    have hpos : 0 < l.length := by cases l with | nil => exact absurd rfl hl | cons x l => simp
    have h3 := h2 0 hpos 0 (by omega)
    simp only at e
    subst e
    rw [Nat.zero_mul, Nat.add_zero] at h3
    have hB : W.heap[b]? = some (.cells #[v] t (0, 0)) := hb
    unfold World.cell? at h3
    simp only [hB] at h3
    simp only [encB, List.getElem?_cons_zero] at h3
    cases off with
    | zero => simp at h3; exact hv _ h3
    | succ o => simp at h3
theorem row_grown {W W' : World} {row : Option Nat} {a : Option Addr} {l : List UInt8} (h : RowB W a l) (hg : W.grownBy W' row) (hrow : ∀ r, row = some r → ∃ o : Obj, W.heap[r]? = some o ∧ o.isCells = false) : RowB W' a l := by
  by_cases hl : l = []
  · exact .inl hl
  · refine row_far h hg fun q hq e => ?_
    obtain ⟨o, ho, hc⟩ := hrow q.block e.symm
    rcases h with h | ⟨b, off, h1, h2⟩
    · exact hl h
    · rw [h1] at hq
      injection hq with hq
      subst hq
      have hpos : 0 < l.length := by cases l with | nil => exact absurd rfl hl | cons x l => simp
      have h3 := h2 0 hpos 0 (by omega)
      simp only [encB, List.getElem?_cons_zero] at h3
      obtain ⟨o', ho', hc'⟩ := cells_of_cell h3
      simp only at ho ho'
      rw [ho] at ho'
      injection ho' with ho'
      subst ho'
      rw [hc] at hc'; cases hc'

variable {w0 W W' : World} {base B : Nat} {rows : List (Option Addr × List UInt8)} {boxes : List (Nat × TypeId × Value)} {f k : List UInt8} {v u u' : Value}
theorem own_cells (h : OwnB W base u f) : ∀ (j : Nat) (o : Obj), u.ownBlock = some j → W.heap[j]? = some o → o.isCells = true := by
  intro j o hj ho
  rcases h.2 with ⟨rfl, _⟩ | ⟨g, cap, cur, rfl, _, hgb, _⟩
  · simp [Value.ownBlock] at hj
  · obtain rfl : g = j := by simpa [Value.ownBlock] using hj
    rw [hgb] at ho; cases ho; rfl
theorem ne_u8 : tB ≠ 5 := by decide
/-- Bytes appended. -/
theorem mid_append (h : Mid w0 base B rows boxes f W v u) (ho : OwnB W' base u' k) (hg : W.grownBy W' u.ownBlock) (hu : u'.ownBlock = u.ownBlock ∨ u'.ownBlock = some W.heap.size) : Mid w0 base B rows boxes k W' v u' := by
  obtain ⟨h1, h2, h3, h4, h5, h6, h7, h8⟩ := h
  have hb : base ≤ W.heap.size := Nat.le_trans h7.2 h8.size
  refine ⟨h1.kept hg (h1.not_row ne_u8 h2), ho, h3, fun r hr q hq => ?_, fun r hr => row_far (h5 r hr) hg fun q hq e => (h4 r hr q hq).1 e.symm, fun b hb => ⟨(h6 b hb).1, (h6 b hb).2.1, (h6 b hb).2.2.kept hg ((h6 b hb).2.2.not_row (h6 b hb).2.1 h2)⟩, h7, h8.trans (Two.below_grown h2 hg hb)⟩
  have h9 := h4 r hr q hq
  refine ⟨?_, Nat.lt_of_lt_of_le h9.2 hg.size⟩
  rcases hu with hu | hu
  · rw [hu]; exact h9.1
  · rw [hu]; intro e; injection e with e; omega
theorem keeps_append (h : OwnB W base u f) (hg : W.grownBy W' u.ownBlock) : KeepsOthers W W' := KeepsOthers.of_grownBy hg fun j o e ho => own_cells h j o e ho
/-- The box is stored. -/
theorem mid_store (h : Mid w0 base B rows boxes f W v u) : Mid w0 base B rows boxes f (W.setCell ⟨B, 0, none⟩ u) u u := by
  obtain ⟨h1, h2, h3, h4, h5, h6, h7, h8⟩ := h
  have hg := grownBy_setCell' W B u
  refine ⟨h1.set u, World.ownsRow.kept h2 hg (.inr fun e => h1.not_row ne_u8 h2 e.symm), own_not_int h2, fun r hr q hq => ⟨(h4 r hr q hq).1, Nat.lt_of_lt_of_le (h4 r hr q hq).2 hg.size⟩, fun r hr => ?_, fun b hb => ⟨(h6 b hb).1, (h6 b hb).2.1, (h6 b hb).2.2.kept hg (fun e => (h6 b hb).1 (by injection e))⟩, h7, ?_⟩
  · by_cases hl : r.2 = []
    · rw [hl]; exact .inl rfl
    · exact row_far (h5 r hr) hg fun q hq e => row_ne_box h1 h3 (h5 r hr) hl q hq (by injection e)
  · exact h8.trans (grown_below hg (Nat.le_trans h7.2 h8.size) h7.1)
/-- What is no cells is turned. -/
theorem inv_from (w0 : World) (base B D : Nat) (rows : List (Option Addr × List UInt8)) (boxes : List (Nat × TypeId × Value)) {β : Type} (F : β → List UInt8) (hD : base ≤ D) : OwnFrom D (fun (s : β) W => Inv9 w0 base B rows boxes (F s) W) := by
  rintro s X Y row ⟨v, h1, h2, h3, h4, h5, h6, h7, h8⟩ hg hrow
  have hr : ∀ r, row = some r → ∃ o : Obj, X.heap[r]? = some o ∧ o.isCells = false := fun r e => (hrow r e).2
  have hbx : ∀ {b : Nat} {t : TypeId} {x : Value}, Boxed X b t x → Boxed Y b t x := fun {b t x} hb => hb.kept hg fun e => by
    obtain ⟨o, ho, hc⟩ := hr b e.symm
    rw [show X.heap[b]? = _ from hb] at ho; cases ho; cases hc
  refine ⟨v, hbx h1, World.ownsRow.kept h2 hg ?_, h3, fun r hr' q hq => ⟨(h4 r hr' q hq).1, Nat.lt_of_lt_of_le (h4 r hr' q hq).2 hg.size⟩, fun r hr' => row_grown (h5 r hr') hg hr, fun b hb => ⟨(h6 b hb).1, (h6 b hb).2.1, hbx (h6 b hb).2.2⟩, h7, h8.grown hg (Nat.le_trans h7.2 h8.size) fun k e => Nat.le_trans hD (hrow k e).1⟩
  rcases h2.2 with ⟨rfl, _⟩ | ⟨g, cap, cur, rfl, _, hgb, _⟩
  · exact .inl rfl
  · refine .inr fun e' => ?_
    obtain ⟨o, ho, hc⟩ := hr g (by simpa [Value.ownBlock] using e'.symm)
    rw [hgb] at ho; cases ho; cases hc
theorem inv_put (h : Inv9 w0 base B rows boxes f W) {l : Nat} {o : Obj} (o' : Obj) (hl : W.heap[l]? = some o) (ho : o.isCells = false) (hD : base ≤ l) : Inv9 w0 base B rows boxes f (W.putObj l o') :=
  inv_from w0 base B base rows boxes (fun _ : Unit => f) (Nat.le_refl _) () W _ (some l) h (grownBy_putObj' W l o') fun r e => by cases e; exact ⟨hD, o, hl, ho⟩
theorem inv_drew (h : Inv9 w0 base B rows boxes f W) : Inv9 w0 base B rows boxes f W.drew := by
  obtain ⟨v, h1, h2, h3, h4, h5, h6, h7, h8⟩ := h
  exact ⟨v, h1, h2, h3, h4, h5, h6, h7, h8.drew⟩
theorem run_ld_sl {a : Option Addr} {n c b : Nat} (h : W.cell? ⟨b, 0, none⟩ = some (.slice a n c)) : (Instr.loadAt tB (.pointer (some ⟨b, 0, none⟩))).run Try.prog W = .ok (.slice a n c) W := by
  simp [go_sem, h]
theorem run_st_sl {a : Option Addr} {n c b : Nat} {x : Value} (h : W.cell? ⟨b, 0, none⟩ = some x) (hf : W.frozen? ⟨b, 0, none⟩ = false) : (Instr.storeAt tB (.pointer (some ⟨b, 0, none⟩)) (.slice a n c)).run Try.prog W = .ok () (W.setCell ⟨b, 0, none⟩ (.slice a n c)) := by
  simp [go_sem, h, hf]
/-- 'append' to the list, as it runs. -/
theorem mid_run (h : Mid w0 base B rows boxes f W v u) (ty : TypeId) {ad : Option Addr} {m c : Nat} {k : List UInt8} (hk : k.length = m) (hrow : RowB W ad k) (hn : ad = none → m = 0 ∧ c = 0) (hm : f.length + m ≤ 1000000) :
    ∃ u' W', (Builtin.append_ #[tB, tB] ty #[u, .slice ad m c]).run Try.prog W = .ok u' W' ∧ Mid w0 base B rows boxes (f ++ k) W' v u' ∧ KeepsOthers W W' ∧ W.grownBy W' u.ownBlock := by
  obtain ⟨u', W', hr, h1, h2, h3⟩ := Two.run_append_apart (P := Try.prog) encB_len (by decide) encB_one tB ty 5 Try.underlying27 (.int .u8 0) 1 info8 rfl base u f h.own ad m c k hk hrow hn (by unfold maxLen; omega) (by omega) (Nat.le_trans h.low.2 h.bel.size)
  exact ⟨u', W', hr, mid_append h h1 h2 h3, keeps_append h.own h2, h2⟩
end Go.Proofs.Ytdgfoldobofgoaa.Rng
/- Frame: the landed Pack. -/
namespace Go.Proofs.Ytdgfoldobofgoaa.Frm
open Go.RowKit
open Go.Sort
open Kit
open Oct
open Chk
open Rng
set_option linter.unusedVariables false
attribute [local go_sem] Oper.semAt_some

def FP {cnt : Nat} (g : Nat → Bs) (pre : List { k : Nat // k < cnt }) : Bs := pre.flatMap fun x => g x.1
theorem fp_snoc {cnt : Nat} (g : Nat → Bs) (pre : List { k : Nat // k < cnt }) (x : { k : Nat // k < cnt }) : FP g (pre ++ [x]) = FP g pre ++ g x.1 := by simp [FP]
theorem fp_length {cnt : Nat} {g : Nat → Bs} {m : Nat} (hg : ∀ k, k < cnt → (g k).length = m) : ∀ pre : List { k : Nat // k < cnt }, (FP g pre).length = m * pre.length
  | [] => rfl
  | x :: pre => by
    have := fp_length hg pre
    show (g x.1 ++ FP g pre).length = _
    rw [List.length_append, hg x.1 x.2, this, List.length_cons, Nat.mul_add, Nat.mul_one]; omega
theorem fp_map {cnt : Nat} (g : Nat → Bs) (pre : List { k : Nat // k < cnt }) : FP g pre = (pre.map (·.1)).flatMap g := by
  unfold FP; rw [List.flatMap_map]
theorem packN_flat (d mk : Bs) : ∀ k, (List.range k).flatMap (fun i => chunk d i ++ mk) = packN d mk (24 * k)
  | 0 => rfl
  | k + 1 => by rw [List.range_succ, List.flatMap_append, packN_flat d mk k, packN_sector, List.append_assoc]; simp

/-- A round that appends two lists, in any order of its reading. -/
def phiPut (W w0 : World) (base B : Nat) (rows : List (Option Addr × Bs)) (boxes : List (Nat × TypeId × Value)) (f k1 k2 : Bs) (v : Value) : Nat → List Value → World → Prop
  | 0, _, w => w = W.drew
  | 1, vs, w => ∃ u, vs = [u] ∧ Mid w0 base B rows boxes (f ++ k1) w v u ∧ KeepsOthers W w
  | 2, vs, w => ∃ x u, vs = [x, u] ∧ Mid w0 base B rows boxes (f ++ k1 ++ k2) w v u ∧ KeepsOthers W w
  | _, _, w => Inv9 w0 base B rows boxes (f ++ k1 ++ k2) w ∧ KeepsOthers W w
theorem mid_drew {w0 W : World} {base B : Nat} {rows : List (Option Addr × Bs)} {boxes : List (Nat × TypeId × Value)} {f : Bs} {v u : Value} (h : Mid w0 base B rows boxes f W v u) : Mid w0 base B rows boxes f W.drew v u :=
  ⟨h.box, h.own, h.vnot, h.far, h.row, h.bx, h.low, h.bel.drew⟩
theorem put_bx {W w0 w : World} {base B : Nat} {rows : List (Option Addr × Bs)} {boxes : List (Nat × TypeId × Value)} {f k1 k2 : Bs} {v : Value} {j : Nat} {vs : List Value} (hM : Mid w0 base B rows boxes f W v v) (hj : j ≤ 1) (h : phiPut W w0 base B rows boxes f k1 k2 v j vs w) {b : Nat × TypeId × Value} (hb : b ∈ boxes) : Boxed w b.1 b.2.1 b.2.2 := by
  match j, hj with
  | 0, _ => obtain rfl : w = W.drew := h; exact ((mid_drew hM).bx b hb).2.2
  | 1, _ => obtain ⟨u, _, hm, _⟩ := h; exact (hm.bx b hb).2.2

theorem put_v0 {W w0 w : World} {base B : Nat} {rows : List (Option Addr × Bs)} {boxes : List (Nat × TypeId × Value)} {f k1 k2 : Bs} {v : Value} {j : Nat} {vs : List Value} (hM : Mid w0 base B rows boxes f W v v) (hj : j ≤ 0) (h : phiPut W w0 base B rows boxes f k1 k2 v j vs w) : w.cell? ⟨B, 0, none⟩ = some v := by
  match j, hj with
  | 0, _ => obtain rfl : w = W.drew := h; exact (mid_drew hM).box.cell

theorem run_make_cap (n : Nat) (hn : n ≤ 1000000) (w : World) : (Instr.makeSlice 27 (.int .i64 0) (.int .i64 (n : Nat))).run Try.prog w = .ok (.slice (some ⟨w.heap.size, 0, none⟩) 0 n) (w.alloc (.cells (madeCells #[.int .u8 0] n) 5)) := by
  obtain ⟨i0, hi, hz0, hz1, hz2⟩ := info_parts info8
  have := run_make (P := Try.prog) w 27 5 i0 (.int .u8 0) Try.underlying27 hi hz0 .i64 .i64 0 n (by omega) (by omega) (by rw [hz2]; omega) (by omega)
  rw [hz1, Nat.mul_one] at this
  exact this
theorem own_made_cap (w : World) (base n : Nat) (hb : base ≤ w.heap.size) (hn : n ≤ maxLen) : OwnB (w.alloc (.cells (madeCells #[.int .u8 0] n) 5)) base (.slice (some ⟨w.heap.size, 0, none⟩) 0 n) [] :=
  own_iff.2 ⟨rfl, .inr ⟨_, n, _, rfl, hb, heap_alloc_new w _, Nat.zero_le _, hn, by rw [size_madeCells, Nat.mul_one], by simp [cellsB]⟩⟩

set_option maxHeartbeats 4000000 in
theorem pack_bad (e q : Int) (he : -9223372036854775808 ≤ e ∧ e ≤ 9223372036854775807) (hq : -9223372036854775808 ≤ q ∧ q ≤ 9223372036854775807) (aa : Option Addr) (len cap : Nat) (w : World) (h : ¬ inE e q) :
    Calls Try.prog 35 #[.int .i64 e, .int .i64 q, .slice aa len cap] w fun e w' => e = .returned (.tuple #[.slice none 0 0, .int .i64 1]) ∧ w = w' := by
  have HQ := Lib.hid (And.intro he hq)
  by_cases h0 : 0 ≤ e ∧ e < 4294967296
  · have h1 : ¬ (0 ≤ q ∧ q < 4294967296) := fun h1 => h ⟨h0, h1⟩
    have d0 := Lib.hid (decide_eq_true h0)
    have d1 := Lib.hid (decide_eq_false h1)
    clear h0 h1 h he hq
    go_enter Try.func35, Try.ntmps35
    go_wp2_with fail
    refine (half_any e w HQ.out.1).mono ?_
    rw [d0.out]
    rintro e1 w1 ⟨rfl, rfl⟩
    go_wp2_with fail
    refine (half_any q w HQ.out.2).mono ?_
    rw [d1.out]
    rintro e1 w1 ⟨rfl, rfl⟩
    go_wp2
    go_ret2
    exact ⟨rfl, rfl⟩
  · have d0 := Lib.hid (decide_eq_false h0)
    clear h0 h he hq
    go_enter Try.func35, Try.ntmps35
    go_wp2_with fail
    refine (half_any e w HQ.out.1).mono ?_
    rw [d0.out]
    rintro e1 w1 ⟨rfl, rfl⟩
    go_wp2
    go_ret2
    exact ⟨rfl, rfl⟩

set_option maxRecDepth 100000 in
set_option maxHeartbeats 8000000 in
theorem pack_ok (e q : Nat) (he : e < 4294967296) (hq : q < 4294967296) (aa : Option Addr) (len cap : Nat) (l : Bs) (w : World) (h : Arg w aa len cap l) (hm : len ≤ 3000) :
    Calls Try.prog 35 #[.int .i64 (e : Nat), .int .i64 (q : Nat), .slice aa len cap] w fun e' w' => ∃ v, e' = .returned (.tuple #[v, .int .i64 0]) ∧ OwnB w' w.heap.size v (packB e q l) ∧ Below w.heap.size w w' := by
  have HA := Lib.hid h
  have hcl := h.cap
  have hcm := h.max
  unfold maxLen at hcm
  have H1 := half_any (e : Int) w (by omega)
  rw [show decide (0 ≤ (e : Int) ∧ (e : Int) < 4294967296) = true from decide_eq_true (by omega)] at H1
  have H2 := half_any (q : Int) w (by omega)
  rw [show decide (0 ≤ (q : Int) ∧ (q : Int) < 4294967296) = true from decide_eq_true (by omega)] at H2
  have HH := Lib.hid (And.intro H1 H2)
  clear H1 H2 h
  refine (callsIn_wide (n := 9)).1 ?_
  refine callsIn_of_wp_marks Try.func35 rfl trivial ?_ rfl
  simp only [Try.ntmps35, List.size_toArray, List.length_cons, List.length_nil, Nat.reduceAdd, Nat.reduceSub, Array.replicate_succ, Array.replicate_zero, List.push_toArray, List.append_toArray, List.nil_append, List.cons_append]
  gi_wp2_with fail
  refine ⟨trivial, callsIn_wide.2 (HH.out.1.mono ?_)⟩
  rintro e1 w1 ⟨rfl, rfl⟩
  gi_wp2_with fail
  refine ⟨trivial, callsIn_wide.2 (HH.out.2.mono ?_)⟩
  rintro e1 w1 ⟨rfl, rfl⟩
  gi_wp2_with fail
  refine ⟨trivial, callsIn_wide.2 ((stampOf_any e q he hq w).mono ?_)⟩
  rintro e1 w1 ⟨sb, sc, rfl, hs1, hs2, hs3, hb1⟩
  have HS := Lib.hid (And.intro hs3 hb1)
  unfold maxLen at hs2
  clear hs3 hb1
  gi_wp2_with fail
  obtain ⟨K, hK⟩ : ∃ K, secs len = K := ⟨_, rfl⟩
  refine ⟨trivial, callsIn_wide.2 ((sectors_is len K (by omega) hK _).mono ?_)⟩
  rintro e2 w2 ⟨rfl, hw⟩
  have hsl : secs len ≤ 126 := by unfold secs; omega
  obtain ⟨n32, hn32⟩ : ∃ n, n = 32 * K := ⟨_, rfl⟩
  have hmul : (K : Int) * 32 = (n32 : Nat) := by omega
  have hn7 : n32 ≤ 4100 := by omega
  obtain ⟨B8, hB8⟩ : ∃ x, x = w1.heap.size := ⟨_, rfl⟩
  have hsz2 : w2.heap.size = B8 + 1 := by rw [← hw, hB8]; simp
  have hBel2 : Below w.heap.size w w2 := by rw [← hw]; exact HS.out.2.alloc HS.out.2.size _
  have hwB8 : w.heap.size ≤ B8 := by rw [hB8]; exact HS.out.2.size
  have H2 := Lib.hid (show Boxed w2 B8 tB (.slice (some ⟨sb, 0, none⟩) 8 sc) ∧ RowB w2 (some ⟨sb, 0, none⟩) (mark e q) ∧ sb < B8 ∧ w2.heap.size = B8 + 1 ∧ Below w.heap.size w w2 ∧ w.heap.size ≤ B8 from ⟨by rw [← hw, hB8]; exact Boxed.new _ _ _, by rw [← hw]; exact row_alloc HS.out.1 _, by rw [hB8]; exact Kit.row_lt encB_len (by omega) HS.out.1 (by rw [mark_length]; omega), hsz2, hBel2, hwB8⟩)
  have HK := Lib.hid (And.intro hK hn32)
  rw [← hB8]
  clear hw hB8 hsl hBel2 hwB8 hK hn32 HS
  have hmk := run_make_cap n32 (by omega) w2
  have b9 := Boxed.new (w2.alloc (.cells (madeCells #[.int .u8 0] n32) 5)) tB (.slice (some ⟨w2.heap.size, 0, none⟩) 0 n32)
  rw [World.size_alloc] at b9
  have o9 := own_made_cap w2 w.heap.size n32 (Nat.le_trans H2.out.2.2.2.2.2 (by rw [hsz2]; omega)) (by unfold maxLen; omega)
  have c8 := ((H2.out.1.alloc (.cells (madeCells #[.int .u8 0] n32) 5)).alloc (.cells #[.slice (some ⟨w2.heap.size, 0, none⟩) 0 n32] tB)).cell
  have b8 := (H2.out.1.alloc (.cells (madeCells #[.int .u8 0] n32) 5)).alloc (.cells #[.slice (some ⟨w2.heap.size, 0, none⟩) 0 n32] tB)
  have r8 := row_alloc (row_alloc H2.out.2.1 (.cells (madeCells #[.int .u8 0] n32) 5)) (.cells #[.slice (some ⟨w2.heap.size, 0, none⟩) 0 n32] tB)
  have hB3 := (H2.out.2.2.2.2.1.alloc (H2.out.2.2.2.2.1.size) (.cells (madeCells #[.int .u8 0] n32) 5)).alloc (Nat.le_trans H2.out.2.2.2.2.1.size (by simp)) (.cells #[.slice (some ⟨w2.heap.size, 0, none⟩) 0 n32] tB)
  have H3 := Lib.hid (And.intro b9 (And.intro (owns_alloc o9 (.cells #[.slice (some ⟨w2.heap.size, 0, none⟩) 0 n32] tB)) (And.intro b8 (And.intro r8 hB3))))
  clear b9 o9 hsz2 b8 r8 hB3
  gi_wp2_with fail
  refine ⟨trivial, callsIn_wide.2 ((dataOf_any (.slice (some ⟨sb, 0, none⟩) 8 sc) (mark e q) aa len cap l _ ⟨sb, 0, sc, rfl, hs1, by unfold maxLen; omega, H3.out.2.2.2.1⟩ (mark_length e q) (arg_keep (arg_keep HA.out H2.out.2.2.2.2.1) ((below_alloc w2 (.cells (madeCells #[.int .u8 0] n32) 5)).alloc (by simp) (.cells #[.slice (some ⟨w2.heap.size, 0, none⟩) 0 n32] tB))) hm).mono ?_)⟩
  rintro e3 w4 ⟨gd, cd, rfl, ho4, hb4⟩
  clear hmk c8
  rw [HK.out.1] at ho4 ⊢
  gi_wp2_with fail
  refine ⟨trivial, callsIn_wide.2 ((pieces_any (some ⟨gd, 0, none⟩) (24 * K) cd 24 w4).mono ?_)⟩
  rintro e4 w5 ⟨rfl, rfl⟩
  gi_wp2_with fail
  obtain ⟨ROWS, hROWS⟩ : ∃ R, R = ([(some ⟨gd, 0, none⟩, dataP (mark e q) l), (some ⟨sb, 0, none⟩, mark e q)] : List (Option Addr × Bs)) := ⟨_, rfl⟩
  obtain ⟨BOXES, hBOXES⟩ : ∃ R, R = ([(B8, tB, .slice (some ⟨sb, 0, none⟩) 8 sc), (w4.heap.size, tB, .slice (some ⟨gd, 0, none⟩) (24 * K) cd), (w4.heap.size + 1, 3, .int .i64 24)] : List (Nat × TypeId × Value)) := ⟨_, rfl⟩
  have HMem : Hid ((B8, tB, Value.slice (some ⟨sb, 0, none⟩) 8 sc) ∈ BOXES ∧ ((some ⟨sb, 0, none⟩ : Option Addr), mark e q) ∈ ROWS ∧ ((some ⟨gd, 0, none⟩ : Option Addr), dataP (mark e q) l) ∈ ROWS ∧ (w4.heap.size, tB, Value.slice (some ⟨gd, 0, none⟩) (24 * K) cd) ∈ BOXES ∧ (w4.heap.size + 1, 3, Value.int .i64 24) ∈ BOXES) := Lib.hid (by rw [hROWS, hBOXES]; simp)
  have HM : Hid (Mid w w.heap.size (w2.heap.size + 1) ROWS BOXES []
      ((w4.alloc (.cells #[.slice (some ⟨gd, 0, none⟩) (24 * K) cd] 27)).alloc (.cells #[.int .i64 24] 3)) (.slice (some ⟨w2.heap.size, 0, none⟩) 0 n32) (.slice (some ⟨w2.heap.size, 0, none⟩) 0 n32)) := Lib.hid (by
    have hgd := own_lt ho4
    have h4 := hb4.size
    have hr4 := own_row' ho4
    obtain ⟨p1, p2, p3, p4, p5⟩ := H3.out
    obtain ⟨q1, q2, q3, q4, q5, q6⟩ := H2.out
    simp only [World.size_alloc] at hgd h4
    refine ⟨((boxed_below p1 hb4).alloc _).alloc _, owns_alloc (owns_alloc (own_keep p2 hb4) _) _, (fun i h => by cases h), ?_, ?_, ?_, ⟨by omega, Nat.le_refl _⟩, ((below_keep p5 hb4).alloc (by omega) _).alloc (by simp; omega) _⟩
    · intro r hr q' hq'
      rw [hROWS] at hr
      simp only [List.mem_cons, List.not_mem_nil, or_false] at hr
      rcases hr with rfl | rfl
      · injection hq' with hq'
        subst hq'
        exact ⟨by simp [Value.ownBlock]; omega, by simp; omega⟩
      · injection hq' with hq'
        subst hq'
        exact ⟨by simp [Value.ownBlock]; omega, by simp; omega⟩
    · intro r hr
      rw [hROWS] at hr
      simp only [List.mem_cons, List.not_mem_nil, or_false] at hr
      rcases hr with rfl | rfl
      · exact row_alloc (row_alloc hr4 _) _
      · exact row_alloc (row_alloc (row_keep encB_len p4 hb4) _) _
    · intro b hb
      rw [hBOXES] at hb
      simp only [List.mem_cons, List.not_mem_nil, or_false] at hb
      rcases hb with rfl | rfl | rfl
      · exact ⟨by simp; omega, ne_u8, ((boxed_below p3 hb4).alloc _).alloc _⟩
      · exact ⟨by simp; omega, ne_u8, (Boxed.new _ _ _).alloc _⟩
      · refine ⟨by simp; omega, (by show (3 : Nat) ≠ 5; decide), ?_⟩
        have := Boxed.new (w4.alloc (.cells #[.slice (some ⟨gd, 0, none⟩) (24 * K) cd] 27)) 3 (.int .i64 24)
        rw [World.size_alloc] at this
        exact this)
  have hlc := own_row ho4
  obtain ⟨_, _, he9, hcd, hcdm, _, _⟩ := hlc
  injection he9 with e1 e2 e3
  subst e1 e3
  clear e2
  have hdl := dataP_length (mark e q) l
  rw [HA.out.len, HK.out.1] at hdl
  rw [hdl] at hcd
  have HDL := Lib.hid hdl
  have hsp : 1 ≤ K := by rw [← HK.out.1]; exact secs_pos len
  have hwz : w.heap.size ≤ w4.heap.size := Nat.le_trans H3.out.2.2.2.2.size hb4.size
  have HSt := Lib.hid (And.intro ((HM.out.bx _ HMem.out.2.2.2.1).2.2) ((HM.out.bx _ HMem.out.2.2.2.2).2.2))
  have hfg : ∀ k, k < K → (chunk (dataB e q l) k ++ mark e q).length = 32 := fun k _ => by rw [List.length_append, chunk_length, mark_length]
  have HFG := Lib.hid hfg
  clear ho4 hb4 hdl hROWS hBOXES hfg
  refine wpIn_rangeFunc_ownF rfl (by omega) (gf := 52) (lb := #[.pointer (some ⟨w4.heap.size, 0, none⟩), .pointer (some ⟨w4.heap.size + 1, 0, none⟩)]) rfl trivial (enters_of Try.func52 (by kernel_rfl) rfl)
    (pieces_stops Fence.wide 8 trivial rfl (by omega) w4.heap.size (w4.heap.size + 1) gd 0 (24 * K) cd 24 K _ (by omega) rfl (by omega) hcd hcdm HSt.out) (fun h k => kps_t h k) (fun _ _ _ _ _ hl hc _ => kps_b hl hc) (Below.refl _ _) (fun _ => rfl)
    (fun pre W => Inv9 w w.heap.size (w2.heap.size + 1) ROWS BOXES (FP (fun i => chunk (dataB e q l) i ++ mark e q) pre) W)
    (fun _ _ _ => False)
    (inv_from w w.heap.size (w2.heap.size + 1) _ _ _ (fun pre => FP (fun i => chunk (dataB e q l) i ++ mark e q) pre) (by simp only [World.size_alloc]; omega))
    (fun _ _ _ _ _ hs _ _ => hs)
    ⟨_, HM.out⟩
    (fun x => { tmps := #[.int .i64 e, .int .i64 q, .slice aa len cap, undef, undef, undef,
          .slice none 0 0, .int .i64 0, .pointer (some ⟨B8, 0, none⟩),
          .pointer (some ⟨w2.heap.size + 1, 0, none⟩), .slice (some ⟨gd, 24 * x.1, none⟩) 24 (cd - 24 * x.1), .int .i64 e,
          .bool true, .bool false, .bool false, .int .i64 q, .bool true,
          .bool false, .bool false, .slice aa len cap, .int .i64 len,
          .bool (decide (65535 < (len : Int))), .int .i64 e, .int .i64 q,
          .slice (some ⟨sb, 0, none⟩) 8 sc, .slice aa len cap, .int .i64 len,
          .int .i64 K, .int .i64 n32,
          .slice (some ⟨w2.heap.size, 0, none⟩) 0 n32,
          .slice (some ⟨sb, 0, none⟩) 8 sc, .slice aa len cap,
          .slice (some ⟨gd, 0, none⟩) (24 * K) cd,
          .func (.func 52) #[] #[.pointer (some ⟨w4.heap.size, 0, none⟩), .pointer (some ⟨w4.heap.size + 1, 0, none⟩)],
          .slice (some ⟨gd, 24 * x.1, none⟩) 24 (cd - 24 * x.1), undef, undef, undef, undef, undef, undef], defers := [] }) ?assign ?body ?done ?stop
  case assign =>
    intro l0 x W Kc hKc
    unfold encP
    gi_wp2
    exact hKc
  case body =>
    rintro l0 pre x W ⟨v, hMd⟩ hlen
    refine wpIn_block ?_
    obtain ⟨va, vc, rfl, _⟩ := own_row hMd.own
    have hfl := fp_length HFG.out pre
    have hrp := row_take (row_from (hMd.row _ HMem.out.2.2.1) (24 * x.1)) 24
    rw [Nat.zero_add, piece_chunk e q l (by rw [HA.out.len, HK.out.1]; exact x.2)] at hrp
    have HFS := Lib.hid (fp_snoc (fun i => chunk (dataB e q l) i ++ mark e q) pre x)
    have hcl := chunk_length (dataB e q l) x.1
    obtain ⟨k1, hk1⟩ : ∃ k, k = chunk (dataB e q l) x.1 := ⟨_, rfl⟩
    obtain ⟨f, hf⟩ : ∃ f, f = FP (fun i => chunk (dataB e q l) i ++ mark e q) pre := ⟨_, rfl⟩
    rw [← hk1] at hrp hcl
    rw [← hf] at hMd hfl
    have HMd := Lib.hid hMd
    have HK1 := Lib.hid (And.intro hcl hrp)
    have HF := Lib.hid (show f.length ≤ 32 * 130 by have := HK.out.2; rw [hfl]; omega)
    have HEq := Lib.hid (And.intro hk1 hf)
    clear hMd hfl hrp hcl hk1 hf
    refine Rng.region_in (by kernel_rfl) (by kernel_rfl) (Rng.lets_block (Rng.lets_own _ _ _ _ _)) (Chn.any_chain (fun idx => match idx with | 0 => some (.slice va f.length vc) | 1 => some (.slice (some ⟨gd, 24 * x.1, none⟩) 24 (cd - 24 * x.1)) | 3 => some (.slice (some ⟨sb, 0, none⟩) 8 sc) | _ => none) [2, 4, 5] (phiPut W w w.heap.size (w2.heap.size + 1) ROWS BOXES f k1 (mark e q) (.slice va f.length vc)) (by kernel_rfl) (by kernel_rfl) (by kernel_rfl) (by kernel_rfl) (by decide) (by kernel_rfl) (rfl) ?_ ?_)
    · refine ⟨?_, ?_, ?_, ?_, ?_, ?_, trivial⟩
      · intro a ww jj vs c hj0 hΦ
        have hj : jj ≤ 0 := Nat.le_trans hj0 (of_decide_eq_true (by kernel_rfl))
        refine .inl ⟨Rel.wanted_free (by kernel_rfl) _, ?_⟩
        exact Rel.wp_ld _ _ rfl (c.old 9 (v := .pointer (some ⟨w2.heap.size + 1, 0, none⟩)) (by kernel_rfl) (by kernel_rfl)) (run_ld_sl (put_v0 HMd.out hj hΦ)) ⟨rfl, rfl⟩
      · intro a ww jj vs c hj0 hΦ
        have hj : jj ≤ 0 := Nat.le_trans hj0 (of_decide_eq_true (by kernel_rfl))
        refine .inl ⟨Rel.wanted_free (by kernel_rfl) _, ?_⟩
        exact Rel.wp_mv _ rfl ⟨congrArg (a.put _) (c.old 10 (v := .slice (some ⟨gd, 24 * x.1, none⟩) 24 (cd - 24 * x.1)) (by kernel_rfl) (by kernel_rfl)), rfl⟩
      · refine ⟨0, rfl, ?_⟩
        intro a ww c hΦ
        have h : (phiPut W w w.heap.size (w2.heap.size + 1) ROWS BOXES f k1 (mark e q) (.slice va f.length vc)) 0 [] ww := hΦ
        clear hΦ
        refine ⟨Rel.wanted_free (by kernel_rfl) _, ?_⟩
        obtain rfl : ww = W.drew := h
        obtain ⟨u, wz, hr, hm9, hk9, _⟩ := mid_run (mid_drew HMd.out) 27 (c := cd - 24 * x.1) HK1.out.1 HK1.out.2 (fun h => by cases h) (by have := HF.out; omega)
        exact Chn.wp_ap _ _ _ rfl (c.get 0 35 (by kernel_rfl) rfl) (c.get 1 36 (by kernel_rfl) rfl) hr ⟨_, rfl, u, rfl, hm9, (KeepsOthers.drew W).trans hk9⟩
      · intro a ww jj vs c hj0 hΦ
        have hj : jj ≤ 1 := Nat.le_trans hj0 (of_decide_eq_true (by kernel_rfl))
        refine .inl ⟨Rel.wanted_free (by kernel_rfl) _, ?_⟩
        exact Rel.wp_ld _ _ rfl (c.old 8 (v := .pointer (some ⟨B8, 0, none⟩)) (by kernel_rfl) (by kernel_rfl)) (run_ld_sl (put_bx HMd.out hj hΦ HMem.out.1).cell) ⟨rfl, rfl⟩
      · refine ⟨1, rfl, ?_⟩
        intro a ww c hΦ
        have h : (phiPut W w w.heap.size (w2.heap.size + 1) ROWS BOXES f k1 (mark e q) (.slice va f.length vc)) 1 [Rel.slot a 37] ww := hΦ
        clear hΦ
        refine ⟨Rel.wanted_free (by kernel_rfl) _, ?_⟩
        obtain ⟨u, hu, hm8, hk8⟩ := h
        injection hu with hu _
        obtain ⟨u2, wz, hr, hm9, hk9, _⟩ := mid_run hm8 27 (c := sc) (mark_length e q) (hm8.row _ HMem.out.2.1) (fun h => by cases h) (by rw [List.length_append, HK1.out.1]; have := HF.out; omega)
        exact Chn.wp_ap _ _ _ rfl hu (c.get 3 38 (by kernel_rfl) rfl) hr ⟨_, rfl, _, u2, rfl, hm9, hk8.trans hk9⟩
      · refine ⟨2, rfl, ?_⟩
        intro a ww c hΦ
        have h : (phiPut W w w.heap.size (w2.heap.size + 1) ROWS BOXES f k1 (mark e q) (.slice va f.length vc)) 2 [Rel.slot a 37, Rel.slot a 39] ww := hΦ
        clear hΦ
        refine ⟨Rel.wanted_free (by kernel_rfl) _, ?_⟩
        obtain ⟨x0, u, hu, hm8, hk8⟩ := h
        injection hu with _ hu
        injection hu with hu _
        obtain ⟨ua, uc, hue, _⟩ := own_row hm8.own
        subst hue
        exact Chn.wp_st _ _ _ rfl (c.old 9 (v := .pointer (some ⟨w2.heap.size + 1, 0, none⟩)) (by kernel_rfl) (by kernel_rfl)) hu (run_st_sl hm8.box.cell hm8.box.frozen) ⟨undef, rfl, ⟨_, mid_store hm8⟩, hk8.trans (KeepsOthers.setCell _ _ _)⟩
    intro a w9 hbase hroom hdef hΦ hV
    have h : (phiPut W w w.heap.size (w2.heap.size + 1) ROWS BOXES f k1 (mark e q) (.slice va f.length vc)) 3 [Rel.slot a 37, Rel.slot a 39, undef] w9 := hΦ
    clear hbase hroom hdef hΦ hV
    obtain ⟨⟨v9, hM9⟩, hk9⟩ := (show Inv9 w w.heap.size (w2.heap.size + 1) ROWS BOXES (f ++ k1 ++ mark e q) w9 ∧ KeepsOthers W w9 from h)
    refine ⟨hk9, fun _ => ⟨(hM9.bx _ HMem.out.2.2.2.1).2.2, (hM9.bx _ HMem.out.2.2.2.2).2.2⟩, v9, ?_⟩
    rw [HFS.out, ← HEq.out.1, ← HEq.out.2, ← List.append_assoc]
    exact hM9
  case done =>
    rintro D ys W hD hys ⟨v, hM⟩ hKd
    have hF : FP (fun i => chunk (dataB e q l) i ++ mark e q) ys = packB e q l := by
      rw [fp_map, hys, packN_flat]
      unfold packB
      rw [HA.out.len, HK.out.1]
    rw [hF] at hM
    obtain ⟨va, vc, rfl, _⟩ := own_row hM.own
    have c9 := hM.box.cell
    have HM9 := Lib.hid hM
    clear hM hF
    gi_wp2
    refine ⟨by simp, .inl ⟨_, _, rfl, run_takeDeferred hKd, ?_⟩⟩
    refine ⟨_, results_tmp2 rfl _ _ _, .slice va (packB e q l).length vc, rfl, ownsRow_putObj HM9.out.own _ hKd rfl, HM9.out.bel.trans (belowK_b (w := w) (Nat.le_refl _) W D _ _ (by simp only [World.size_alloc] at hD; omega) hKd rfl rfl)⟩
  case stop =>
    rintro D c pre W _ _ h _
    exact h.elim
end Go.Proofs.Ytdgfoldobofgoaa.Frm
/- Frame: the landed way back: the halves of a stamp, stamps that are alike, what is between the stamps. -/
namespace Go.Proofs.Ytdgfoldobofgoaa.Frm
open Go.RowKit
open Go.Sort
open Kit
open Oct
open Chk
open Rng
set_option linter.unusedVariables false

set_option maxHeartbeats 1000000 in
theorem equal_any (a1 a2 : Option Addr) (n1 n2 c1 c2 : Nat) (l1 l2 : Bs) (w : World) (h1 : l1.length = n1) (h2 : l2.length = n2) (e1 : a1 = none → n1 = 0) (e2 : a2 = none → n2 = 0) (r1 : RowB w a1 l1) (r2 : RowB w a2 l2) :
    Calls Try.prog 58 #[.slice a1 n1 c1, .slice a2 n2 c2] w fun e w' => e = .returned (.bool (decide (l1 = l2))) ∧ w = w' := by
  have k1 : (convert 27 9 (.slice a1 n1 c1)).run Try.prog w = .ok (.string ⟨l1.toArray⟩) w := conv_row Try.underlying27 Try.underlying5 Try.underlying9 h1 e1 r1
  have k2 : (convert 27 9 (.slice a2 n2 c2)).run Try.prog w = .ok (.string ⟨l2.toArray⟩) w := conv_row Try.underlying27 Try.underlying5 Try.underlying9 h2 e2 r2
  by_cases h : l1 = l2
  · subst h
    have hd := Lib.hid (decide_eq_true (rfl : l1 = l1))
    clear h1 h2 e1 e2 r1 r2
    go_enter Try.func58, Try.ntmps58
    go_wp2
    go_ret
    exact ⟨ret_bool (by simp), rfl⟩
  · have hd := Lib.hid (decide_eq_false h)
    clear h1 h2 e1 e2 r1 r2
    go_enter Try.func58, Try.ntmps58
    go_wp2
    go_ret
    refine ⟨ret_bool ?_, rfl⟩
    rw [hd.out]
    simp [h]
theorem equal_at (v1 v2 : Value) (n : Nat) (l1 l2 : Bs) (w : World) (h1 : l1.length = n) (h2 : l2.length = n) (r1 : AtB w v1 n l1) (r2 : AtB w v2 n l2) :
    Calls Try.prog 58 #[v1, v2] w fun e w' => e = .returned (.bool (decide (l1 = l2))) ∧ w = w' := by
  obtain ⟨b1, o1, c1, rfl, _, _, q1⟩ := r1
  obtain ⟨b2, o2, c2, rfl, _, _, q2⟩ := r2
  exact equal_any _ _ n n c1 c2 l1 l2 w h1 h2 (fun e => by cases e) (fun e => by cases e) q1 q2

theorem run_cv_u64 (z : Int) (N : Nat) (hz : toU64 z = N) (w : World) : (convert 3 95 (.int .i64 z)).run Try.prog w = .ok (.int .u64 (N : Nat)) w := by
  subst hz
  simp [go_sem]
  exact wrap_u z
theorem toU_toI (N : Nat) (h : N < 18446744073709551616) : toU64 (toI64 N) = N := by unfold toU64 toI64; split <;> omega
theorem and_half (N : Nat) (h : N < 18446744073709551616) : Go.bits .and .u64 (N : Int) 4294967295 = ((N % 4294967296 : Nat) : Int) := by
  have := bits_and_u64_nat N 4294967295 h (by omega)
  rw [show ((4294967295 : Nat) : Int) = 4294967295 from rfl] at this
  rw [this, show (4294967295 : Nat) = 2 ^ 32 - 1 from rfl, Nat.and_two_pow_sub_one_eq_mod]
set_option maxHeartbeats 1000000 in
theorem halves_any (v : Value) (e q : Nat) (he : e < 4294967296) (hq : q < 4294967296) (w : World) (h : AtB w v 8 (mark e q)) :
    Calls Try.prog 47 #[v] w fun e' w' => e' = .returned (.tuple #[.int .i64 (e : Nat), .int .i64 (q : Nat)]) ∧ Below w.heap.size w w' := by
  obtain ⟨b, o, c, rfl, h1, h2, h3⟩ := h
  have hN : e * 4294967296 + q < 18446744073709551616 := by omega
  have hr : rInt (some (mark e q)) = (toI64 (e * 4294967296 + q), some []) := by
    simp only [rInt]
    rw [if_pos (by rw [mark_length]; omega), List.take_of_length_le (by rw [mark_length]; omega), List.drop_of_length_le (by rw [mark_length]; omega), ← mark_be e q hq, numB_be8 _ hN]
  have HA := Lib.hid (and_half _ hN)
  have HM := Lib.hid (show ((e * 4294967296 + q : Nat) : Int) / 4294967296 = (e : Nat) ∧ (((e * 4294967296 + q) % 4294967296 : Nat) : Int) = (q : Nat) from ⟨by omega, by omega⟩)
  obtain ⟨z, hz⟩ : ∃ z, z = toI64 (e * 4294967296 + q) := ⟨_, rfl⟩
  have hzu : toU64 z = e * 4294967296 + q := by rw [hz]; exact toU_toI _ hN
  rw [← hz] at hr
  obtain ⟨N, hNN⟩ : ∃ N, N = e * 4294967296 + q := ⟨_, rfl⟩
  rw [← hNN] at hzu HA HM hN
  have HR := Lib.hid hr
  have HZ := Lib.hid (fun W => run_cv_u64 z N hzu W)
  clear hz hr hzu hNN
  go_enter Try.func47, Try.ntmps47
  go_wp2_with fail
  refine (new_any (some ⟨b, o, none⟩) 8 c (mark e q) w (mark_length e q) (fun h => by cases h) h3 (by omega)).mono ?_
  rintro e1 w1 ⟨p, rfl, hR, hb⟩
  have HB := Lib.hid hb
  have hp := rdr_ge hR
  go_wp2_with fail
  refine (int_rdr_is hR HR.out).mono ?_
  rintro e2 w2 ⟨rfl, hR2, hg⟩
  have HB2 := Lib.hid (HB.out.trans (grown_below hg HB.out.size hp))
  have hcv := HZ.out w2
  clear hR hb hg hR2 hp
  go_wp2
  go_ret2
  refine ⟨?_, HB2.out⟩
  have hq2 : wrap64 (q : Int) = q := by unfold wrap64; omega
  show Ending.returned (.tuple #[.int .i64 ((N : Int) / 4294967296), .int .i64 (wrap64 (Go.bits .and .u64 (N : Int) 4294967295))]) = _
  rw [HA.out, HM.out.1, HM.out.2, hq2]

def StampR (K : Nat) (l : Bs) (e' : Ending) : Prop := ∃ r : Bool, e' = .returned (.bool r) ∧ (r = true ↔ ∀ i, i < K → stampL l i = stampL l 0)
set_option maxHeartbeats 2000000 in
theorem stamped_any (b o len cap K : Nat) (l : Bs) (w : World) (hl : l.length = len) (hK : 32 * K ≤ len) (hc : len ≤ cap) (hm : cap ≤ maxLen) (hE : RowB w (some ⟨b, o, none⟩) l) :
    Calls Try.prog 56 #[.slice (some ⟨b, o, none⟩) len cap, .int .i64 (K : Nat)] w fun e' w' => StampR K l e' ∧ w = w' := by
  have HE := Lib.hid hE
  have HC := Lib.hid (And.intro hl (And.intro hc hm))
  unfold maxLen at hm
  clear hE hl
  go_enter Try.func56, Try.ntmps56
  go_wp2
  go_loop [7] (fun iv => ∃ k : Nat, k ≤ K ∧ iv = .int .i64 k ∧ ∀ i, i < k → stampL l i = stampL l 0) (fun iv => K - (intOf iv).toNat)
  case atStart => exact ⟨0, Nat.zero_le _, rfl, fun i hi => by omega⟩
  case round =>
    obtain ⟨k, hk, rfl, hall⟩ := hrel
    have HAll := Lib.hid hall
    clear hall
    by_cases hlt : k < K
    · go_wp2_with fail
      refine (stampAt_any b o len cap k l w HC.out.1 (by omega) HC.out.2.1 HC.out.2.2 HE.out).mono ?_
      rintro e1 w1 ⟨v1, rfl, hv1, rfl⟩
      have HV1 := Lib.hid hv1
      clear hv1
      go_wp2_with fail
      refine (stampAt_any b o len cap 0 l w HC.out.1 (by omega) HC.out.2.1 HC.out.2.2 HE.out).mono ?_
      rintro e2 w2 ⟨v2, rfl, hv2, rfl⟩
      have HV2 := Lib.hid hv2
      clear hv2
      go_wp2_with fail
      refine (equal_at v1 v2 8 _ _ w (stampL_length (by rw [HC.out.1]; omega)) (stampL_length (by rw [HC.out.1]; omega)) HV1.out HV2.out).mono ?_
      rintro e3 w3 ⟨rfl, rfl⟩
      by_cases heq : stampL l k = stampL l 0
      · rw [decide_eq_true heq]
        have HQ := Lib.hid heq
        clear heq
        go_wp2
        go_round
        case rel => exact ⟨k + 1, by omega, by go_num, fun i hi => by
          rcases Nat.lt_or_ge i k with h | h
          · exact HAll.out i h
          · obtain rfl : i = k := by omega
            exact HQ.out⟩
        case measure => simp [intOf]; omega
      · rw [decide_eq_false heq]
        have HQ := Lib.hid heq
        clear heq
        go_wp2
        go_ret
        exact ⟨⟨false, rfl, ⟨(fun h => by cases h), fun h => absurd (h k hlt) HQ.out⟩⟩, rfl⟩
    · obtain rfl : k = K := by omega
      go_wp2
      go_ret
      exact ⟨⟨true, rfl, ⟨fun _ => HAll.out, fun _ => rfl⟩⟩, rfl⟩

/-- A round that appends one list. -/
def phiOne (W w0 : World) (base B : Nat) (rows : List (Option Addr × Bs)) (boxes : List (Nat × TypeId × Value)) (f k1 : Bs) (v : Value) : Nat → List Value → World → Prop
  | 0, _, w => w = W.drew
  | 1, vs, w => ∃ u, vs = [u] ∧ Mid w0 base B rows boxes (f ++ k1) w v u ∧ KeepsOthers W w
  | _, _, w => Inv9 w0 base B rows boxes (f ++ k1) w ∧ KeepsOthers W w
theorem one_v0 {W w0 w : World} {base B : Nat} {rows : List (Option Addr × Bs)} {boxes : List (Nat × TypeId × Value)} {f k1 : Bs} {v : Value} {j : Nat} {vs : List Value} (hM : Mid w0 base B rows boxes f W v v) (hj : j ≤ 0) (h : phiOne W w0 base B rows boxes f k1 v j vs w) : w.cell? ⟨B, 0, none⟩ = some v := by
  match j, hj with
  | 0, _ => obtain rfl : w = W.drew := h; exact (mid_drew hM).box.cell
theorem dataL_flat (s : Bs) : ∀ k, 32 * k ≤ s.length → (List.range k).flatMap (fun i => (s.drop (32 * i)).take 24) = dataL s k
  | 0, _ => rfl
  | k + 1, h => by rw [List.range_succ, List.flatMap_append, dataL_flat s k (by omega), ← dataL_succ (s := s) (k := k) (by omega)]; simp

attribute [local go_sem] Oper.semAt_some
set_option maxRecDepth 100000 in
set_option maxHeartbeats 8000000 in
theorem dataIn_any (b o cap K : Nat) (l : Bs) (w : World) (hK : 1 ≤ K) (hl : 32 * K ≤ l.length) (hm : l.length ≤ 4000) (hc : 32 * K ≤ cap) (hcm : cap ≤ maxLen) (hE : RowB w (some ⟨b, o, none⟩) l) :
    Calls Try.prog 57 #[.slice (some ⟨b, o, none⟩) (32 * K) cap] w fun e' w' => ∃ v, e' = .returned v ∧ OwnB w' w.heap.size v (dataL l K) ∧ Below w.heap.size w w' := by
  have HE := Lib.hid hE
  have hblt := Kit.row_lt encB_len (by omega) hE (by omega)
  clear hE
  unfold maxLen at hcm
  refine (callsIn_wide (n := 9)).1 ?_
  refine callsIn_of_wp_marks Try.func57 rfl trivial ?_ rfl
  simp only [Try.ntmps57, List.size_toArray, List.length_cons, List.length_nil, Nat.reduceAdd, Nat.reduceSub, Array.replicate_succ, Array.replicate_zero, List.push_toArray, List.append_toArray, List.nil_append, List.cons_append]
  gi_wp2_with fail
  refine ⟨trivial, callsIn_wide.2 ((pieces_any (some ⟨b, o, none⟩) (32 * K) cap 32 _).mono ?_)⟩
  rintro e4 w5 ⟨rfl, rfl⟩
  simp only [World.size_alloc]
  gi_wp2_with fail
  obtain ⟨ROWS, hROWS⟩ : ∃ R, R = ([(some ⟨b, o, none⟩, l)] : List (Option Addr × Bs)) := ⟨_, rfl⟩
  obtain ⟨BOXES, hBOXES⟩ : ∃ R, R = ([(w.heap.size + 1, tB, .slice (some ⟨b, o, none⟩) (32 * K) cap), (w.heap.size + 1 + 1, 3, .int .i64 32)] : List (Nat × TypeId × Value)) := ⟨_, rfl⟩
  have HMem : Hid (((some ⟨b, o, none⟩ : Option Addr), l) ∈ ROWS ∧ (w.heap.size + 1, tB, Value.slice (some ⟨b, o, none⟩) (32 * K) cap) ∈ BOXES ∧ (w.heap.size + 1 + 1, 3, Value.int .i64 32) ∈ BOXES) := Lib.hid (by rw [hROWS, hBOXES]; simp)
  have HM : Hid (Mid w w.heap.size w.heap.size ROWS BOXES []
      (((w.alloc (.cells #[.slice none 0 0] 27)).alloc (.cells #[.slice (some ⟨b, o, none⟩) (32 * K) cap] 27)).alloc (.cells #[.int .i64 32] 3)) (.slice none 0 0) (.slice none 0 0)) := Lib.hid (by
    have b0 := Boxed.new w tB (.slice none 0 0)
    have b1 := Boxed.new (w.alloc (.cells #[.slice none 0 0] tB)) tB (.slice (some ⟨b, o, none⟩) (32 * K) cap)
    have b2 := Boxed.new ((w.alloc (.cells #[.slice none 0 0] tB)).alloc (.cells #[.slice (some ⟨b, o, none⟩) (32 * K) cap] tB)) 3 (.int .i64 32)
    simp only [World.size_alloc] at b1 b2
    refine ⟨(b0.alloc _).alloc _, owns_nil _ _ _, (fun i h => by cases h), ?_, ?_, ?_, ⟨Nat.le_refl _, Nat.le_refl _⟩, (((below_alloc w _).alloc (by simp) _).alloc (by simp; omega) _)⟩
    · intro r hr q' hq'
      rw [hROWS] at hr
      simp only [List.mem_cons, List.not_mem_nil, or_false] at hr
      subst hr
      injection hq' with hq'
      subst hq'
      exact ⟨by simp [Value.ownBlock], by simp only [World.size_alloc]; omega⟩
    · intro r hr
      rw [hROWS] at hr
      simp only [List.mem_cons, List.not_mem_nil, or_false] at hr
      subst hr
      exact row_alloc (row_alloc (row_alloc HE.out _) _) _
    · intro x hx
      rw [hBOXES] at hx
      simp only [List.mem_cons, List.not_mem_nil, or_false] at hx
      rcases hx with rfl | rfl
      · exact ⟨by simp, ne_u8, b1.alloc _⟩
      · exact ⟨by simp; omega, (by show (3 : Nat) ≠ 5; decide), b2⟩)
  have HSt := Lib.hid (And.intro ((HM.out.bx _ HMem.out.2.1).2.2) ((HM.out.bx _ HMem.out.2.2).2.2))
  have hfg : ∀ k, k < K → ((l.drop (32 * k)).take 24).length = 24 := fun k hk => by rw [List.length_take, List.length_drop]; omega
  have HFG := Lib.hid hfg
  have HC := Lib.hid (And.intro hc (And.intro hl hm))
  clear hROWS hBOXES hfg
  refine wpIn_rangeFunc_ownF rfl (by omega) (gf := 52) (lb := #[.pointer (some ⟨w.heap.size + 1, 0, none⟩), .pointer (some ⟨w.heap.size + 1 + 1, 0, none⟩)]) rfl trivial (enters_of Try.func52 (by kernel_rfl) rfl)
    (pieces_stops Fence.wide 8 trivial rfl (by omega) (w.heap.size + 1) (w.heap.size + 1 + 1) b o (32 * K) cap 32 K _ (by omega) rfl (by omega) hc (by unfold maxLen; omega) HSt.out) (fun h k => kps_t h k) (fun _ _ _ _ _ hl hc _ => kps_b hl hc) (Below.refl _ _) (fun _ => rfl)
    (fun pre W => Inv9 w w.heap.size w.heap.size ROWS BOXES (FP (fun i => (l.drop (32 * i)).take 24) pre) W)
    (fun _ _ _ => False)
    (inv_from w w.heap.size w.heap.size _ _ _ (fun pre => FP (fun i => (l.drop (32 * i)).take 24) pre) (by simp only [World.size_alloc]; omega))
    (fun _ _ _ _ _ hs _ _ => hs)
    ⟨_, HM.out⟩
    (fun x => { tmps := #[.slice (some ⟨b, o, none⟩) (32 * K) cap, undef, .slice none 0 0, .pointer (some ⟨w.heap.size, 0, none⟩), .slice (some ⟨b, o + 32 * x.1, none⟩) 32 (cap - 32 * x.1),
          .slice (some ⟨b, o, none⟩) (32 * K) cap, .func (.func 52) #[] #[.pointer (some ⟨w.heap.size + 1, 0, none⟩), .pointer (some ⟨w.heap.size + 1 + 1, 0, none⟩)],
          .slice (some ⟨b, o + 32 * x.1, none⟩) 32 (cap - 32 * x.1), undef, undef, undef, undef, undef], defers := [] }) ?assign ?body ?done ?stop
  case assign =>
    intro l0 x W Kc hKc
    unfold encP
    gi_wp2
    exact hKc
  case body =>
    rintro l0 pre x W ⟨v, hMd⟩ hlen
    refine wpIn_block ?_
    obtain ⟨va, vc, rfl, _⟩ := own_row hMd.own
    have hfl := fp_length HFG.out pre
    have hrp := row_take (row_from (hMd.row _ HMem.out.1) (32 * x.1)) 24
    have HFS := Lib.hid (fp_snoc (fun i => (l.drop (32 * i)).take 24) pre x)
    have hcl := HFG.out x.1 x.2
    have hx32 : 32 * x.1 + 32 ≤ 32 * K := by have := x.2; omega
    have HC2 := Lib.hid (show 24 ≤ cap - 32 * x.1 ∧ 32 ≤ cap - 32 * x.1 from ⟨by omega, by omega⟩)
    obtain ⟨k1, hk1⟩ : ∃ k, k = (l.drop (32 * x.1)).take 24 := ⟨_, rfl⟩
    obtain ⟨f, hf⟩ : ∃ f, f = FP (fun i => (l.drop (32 * i)).take 24) pre := ⟨_, rfl⟩
    rw [← hk1] at hrp hcl
    rw [← hf] at hMd hfl
    have HMd := Lib.hid hMd
    have HK1 := Lib.hid (And.intro hcl hrp)
    have HF := Lib.hid (show f.length ≤ 24 * 130 by rw [hfl]; omega)
    have HEq := Lib.hid (And.intro hk1 hf)
    clear hMd hfl hrp hcl hk1 hf
    refine Rng.region_in (by kernel_rfl) (by kernel_rfl) (Rng.lets_block (Rng.lets_own _ _ _ _ _)) (Chn.any_chain (fun idx => match idx with | 0 => some (.slice va f.length vc) | 1 => some (.slice (some ⟨b, o + 32 * x.1, none⟩) 32 (cap - 32 * x.1)) | 2 => some (.slice (some ⟨b, o + 32 * x.1, none⟩) 24 (cap - 32 * x.1)) | _ => none) [3, 4] (phiOne W w w.heap.size w.heap.size ROWS BOXES f k1 (.slice va f.length vc)) (by kernel_rfl) (by kernel_rfl) (by kernel_rfl) (by kernel_rfl) (by decide) (by kernel_rfl) (rfl) ?_ ?_)
    · refine ⟨?_, ?_, ?_, ?_, ?_, trivial⟩
      · intro a ww jj vs c hj0 hΦ
        have hj : jj ≤ 0 := Nat.le_trans hj0 (of_decide_eq_true (by kernel_rfl))
        refine .inl ⟨Rel.wanted_free (by kernel_rfl) _, ?_⟩
        exact Rel.wp_ld _ _ rfl (c.old 3 (v := .pointer (some ⟨w.heap.size, 0, none⟩)) (by kernel_rfl) (by kernel_rfl)) (run_ld_sl (one_v0 HMd.out hj hΦ)) ⟨rfl, rfl⟩
      · intro a ww jj vs c hj0 hΦ
        have hj : jj ≤ 0 := Nat.le_trans hj0 (of_decide_eq_true (by kernel_rfl))
        refine .inl ⟨Rel.wanted_free (by kernel_rfl) _, ?_⟩
        exact Rel.wp_mv _ rfl ⟨congrArg (a.put _) (c.old 4 (v := .slice (some ⟨b, o + 32 * x.1, none⟩) 32 (cap - 32 * x.1)) (by kernel_rfl) (by kernel_rfl)), rfl⟩
      · intro a ww jj vs c hj0 hΦ
        have hj : jj ≤ 0 := Nat.le_trans hj0 (of_decide_eq_true (by kernel_rfl))
        refine .inl ⟨Rel.wanted_free (by kernel_rfl) _, ?_⟩
        exact Rel.wp_sl _ _ _ _ _ rfl (c.get 1 9 (by kernel_rfl) rfl) rfl rfl rfl (run_cut _ 32 24 _ (by omega) HC2.out.2 ww) ⟨rfl, rfl⟩
      · refine ⟨0, rfl, ?_⟩
        intro a ww c hΦ
        have h : (phiOne W w w.heap.size w.heap.size ROWS BOXES f k1 (.slice va f.length vc)) 0 [] ww := hΦ
        clear hΦ
        refine ⟨Rel.wanted_free (by kernel_rfl) _, ?_⟩
        obtain rfl : ww = W.drew := h
        obtain ⟨u, wz, hr, hm9, hk9, _⟩ := mid_run (mid_drew HMd.out) 27 (c := cap - 32 * x.1) HK1.out.1 HK1.out.2 (fun h => by cases h) (by have := HF.out; omega)
        exact Chn.wp_ap _ _ _ rfl (c.get 0 8 (by kernel_rfl) rfl) (c.get 2 10 (by kernel_rfl) rfl) hr ⟨_, rfl, u, rfl, hm9, (KeepsOthers.drew W).trans hk9⟩
      · refine ⟨1, rfl, ?_⟩
        intro a ww c hΦ
        have h : (phiOne W w w.heap.size w.heap.size ROWS BOXES f k1 (.slice va f.length vc)) 1 [Rel.slot a 11] ww := hΦ
        clear hΦ
        refine ⟨Rel.wanted_free (by kernel_rfl) _, ?_⟩
        obtain ⟨u, hu, hm8, hk8⟩ := h
        injection hu with hu _
        obtain ⟨ua, uc, hue, _⟩ := own_row hm8.own
        subst hue
        exact Chn.wp_st _ _ _ rfl (c.old 3 (v := .pointer (some ⟨w.heap.size, 0, none⟩)) (by kernel_rfl) (by kernel_rfl)) hu (run_st_sl hm8.box.cell hm8.box.frozen) ⟨undef, rfl, ⟨_, mid_store hm8⟩, hk8.trans (KeepsOthers.setCell _ _ _)⟩
    intro a w9 hbase hroom hdef hΦ hV
    have h : (phiOne W w w.heap.size w.heap.size ROWS BOXES f k1 (.slice va f.length vc)) 2 [Rel.slot a 11, undef] w9 := hΦ
    clear hbase hroom hdef hΦ hV
    obtain ⟨⟨v9, hM9⟩, hk9⟩ := (show Inv9 w w.heap.size w.heap.size ROWS BOXES (f ++ k1) w9 ∧ KeepsOthers W w9 from h)
    refine ⟨hk9, fun _ => ⟨(hM9.bx _ HMem.out.2.1).2.2, (hM9.bx _ HMem.out.2.2).2.2⟩, v9, ?_⟩
    rw [HFS.out, ← HEq.out.1, ← HEq.out.2]
    exact hM9
  case done =>
    rintro D ys W hD hys ⟨v, hM⟩ hKd
    have hF : FP (fun i => (l.drop (32 * i)).take 24) ys = dataL l K := by
      rw [fp_map, hys, dataL_flat l K HC.out.2.1]
    rw [hF] at hM
    obtain ⟨va, vc, rfl, _⟩ := own_row hM.own
    have c9 := hM.box.cell
    have HM9 := Lib.hid hM
    clear hM hF
    gi_wp2
    refine ⟨by simp, .inl ⟨_, _, rfl, run_takeDeferred hKd, ?_⟩⟩
    exact ⟨_, results_tmp rfl _ _ _, .slice va (dataL l K).length vc, rfl, ownsRow_putObj HM9.out.own _ hKd rfl, HM9.out.bel.trans (belowK_b (w := w) (Nat.le_refl _) W D _ _ (by simp only [World.size_alloc] at hD; omega) hKd rfl rfl)⟩
  case stop =>
    rintro D c pre W _ _ h _
    exact h.elim
end Go.Proofs.Ytdgfoldobofgoaa.Frm
