/- Disk: the landed disk, as it lies in memory; its small calls. -/
import Derived.Test.YtpbegchaneppfaaDskList
namespace Go.Proofs.Ytpbegchaneppfaa.Dsk
open Go.RowKit
open Go.Sort
open Kit
open Oct
open Foot
set_option linter.unusedVariables false

/-! ### Sectors, and cached sectors, as cells -/

def pad (l : Sec) : Sec := (l ++ List.replicate 32 0).take 32
theorem pad_len (l : Sec) : (pad l).length = 32 := by unfold pad; rw [List.length_take, List.length_append, List.length_replicate]; omega
theorem pad_is {l : Sec} (h : l.length = 32) : pad l = l := by unfold pad; rw [List.take_append_of_le_length (by omega), List.take_of_length_le (by omega)]
def encS (l : Sec) : List Value := cellsB (pad l)
theorem encS_len (l : Sec) : (encS l).length = 32 := by unfold encS; rw [cellsB_length, pad_len]
theorem encS_one (l : Sec) : ∀ u ∈ encS l, u.oneCell' = true := cellsB_one _
theorem encS_is {l : Sec} (h : l.length = 32) : encS l = cellsB l := by unfold encS; rw [pad_is h]
def encC (x : Nat × Sec) : List Value := .int .i64 (x.1 : Int) :: encS x.2
theorem encC_len (x : Nat × Sec) : (encC x).length = 33 := by unfold encC; rw [List.length_cons, encS_len]
theorem encC_one (x : Nat × Sec) : ∀ u ∈ encC x, u.oneCell' = true := by
  intro u hu
  rcases List.mem_cons.1 hu with rfl | hu
  · rfl
  · exact encS_one _ u hu
theorem info_sec : (Try.prog.info? 64).map (fun i => (i.zero, i.size, i.bytes)) = some (some (.agg (encS []).toArray), 32, 32) := by kernel_rfl
theorem info_cd : (Try.prog.info? 66).map (fun i => (i.zero, i.size, i.bytes)) = some (some (.agg (encC (0, [])).toArray), 33, 40) := by kernel_rfl
theorem ne_dk_sec : (55 : TypeId) ≠ 64 := by decide
theorem ne_dk_cd : (55 : TypeId) ≠ 66 := by decide
theorem ne_sec_cd : (64 : TypeId) ≠ 66 := by decide

/-! ### The disk in memory -/

def cacheOf (s : DS) : List (Nat × Sec) := s.order.map fun i => (i, s.now.getD i [])
theorem cacheOf_len (s : DS) : (cacheOf s).length = s.order.length := List.length_map ..
theorem cacheOf_at (s : DS) {k : Nat} (h : k < (cacheOf s).length) (h' : k < s.order.length) : (cacheOf s)[k] = (s.order[k], s.now.getD s.order[k] []) := by simp [cacheOf]

structure DkAt (w : World) (F : Nat → Prop) (p : Nat) (s : DS) (al ac : Option Addr) (cl cc : Nat) (fused : Bool) (left : Int) : Prop where
  blk : Arr.Blk w p 55 [.slice al s.good.length cl, .slice ac s.order.length cc, .bool fused, .int .i64 left]
  own : F p
  lown : Owns encS 32 64 w 0 (.slice al s.good.length cl) s.good
  lfoot : ∀ k, (Value.slice al s.good.length cl).ownBlock = some k → F k
  cown : Owns encC 33 66 w 0 (.slice ac s.order.length cc) (cacheOf s)
  cfoot : ∀ k, (Value.slice ac s.order.length cc).ownBlock = some k → F k
  ok : s.Ok
  fuse : s.fuse = cond fused left (-1)
  left0 : 0 ≤ left ∧ left ≤ 9223372036854775807
def Dk (w : World) (F : Nat → Prop) (p : Nat) (s : DS) : Prop := ∃ al ac cl cc fused left, DkAt w F p s al ac cl cc fused left

theorem dkat_mono {w : World} {F G : Nat → Prop} {p : Nat} {s : DS} {al ac : Option Addr} {cl cc : Nat} {fused : Bool} {left : Int} (r : DkAt w F p s al ac cl cc fused left) (hf : ∀ k, F k → G k) : DkAt w G p s al ac cl cc fused left :=
  ⟨r.blk, hf _ r.own, r.lown, fun k hk => hf k (r.lfoot k hk), r.cown, fun k hk => hf k (r.cfoot k hk), r.ok, r.fuse, r.left0⟩
theorem dkat_chg {w w' : World} {F G : Nat → Prop} {p : Nat} {s : DS} {al ac : Option Addr} {cl cc : Nat} {fused : Bool} {left : Int} (r : DkAt w F p s al ac cl cc fused left) (hc : Chg G w w') (ha : ∀ k, F k → ¬ G k) : DkAt w' F p s al ac cl cc fused left :=
  ⟨blk_chg hc r.blk (ha _ r.own), r.own, own_chg hc r.lown (fun g hg => ha g (r.lfoot g hg)), r.lfoot, own_chg hc r.cown (fun g hg => ha g (r.cfoot g hg)), r.cfoot, r.ok, r.fuse, r.left0⟩
theorem dk_mono {w : World} {F G : Nat → Prop} {p : Nat} {s : DS} (h : Dk w F p s) (hf : ∀ k, F k → G k) : Dk w G p s := by
  obtain ⟨al, ac, cl, cc, fu, left, r⟩ := h
  exact ⟨al, ac, cl, cc, fu, left, dkat_mono r hf⟩
theorem dk_chg {w w' : World} {F G : Nat → Prop} {p : Nat} {s : DS} (h : Dk w F p s) (hc : Chg G w w') (ha : ∀ k, F k → ¬ G k) : Dk w' F p s := by
  obtain ⟨al, ac, cl, cc, fu, left, r⟩ := h
  exact ⟨al, ac, cl, cc, fu, left, dkat_chg r hc ha⟩
theorem dk_ok {w : World} {F : Nat → Prop} {p : Nat} {s : DS} (h : Dk w F p s) : s.Ok := by obtain ⟨_, _, _, _, _, _, r⟩ := h; exact r.ok
theorem dk_keep {w w' : World} {F : Nat → Prop} {p : Nat} {s : DS} (h : Dk w F p s) (hb : Below w.heap.size w w') : Dk w' F p s := dk_chg h (new_chg hb (fun _ => False)) (fun _ _ => id)

/-! ### What a store into the disk's own cells leaves -/

theorem lown_dk {w : World} {v u : Value} {l : List Sec} {p i : Nat} {cs : List Value} (h : Owns encS 32 64 w 0 v l) (hp : Arr.Blk w p 55 cs) : Owns encS 32 64 (w.setCell ⟨p, i, none⟩ u) 0 v l :=
  own_typed h (set_chg w p i u) (typed_one hp ne_dk_sec)
theorem cown_dk {w : World} {v u : Value} {l : List (Nat × Sec)} {p i : Nat} {cs : List Value} (h : Owns encC 33 66 w 0 v l) (hp : Arr.Blk w p 55 cs) : Owns encC 33 66 (w.setCell ⟨p, i, none⟩ u) 0 v l :=
  own_typed h (set_chg w p i u) (typed_one hp ne_dk_cd)

/-! ### Small calls -/

theorem dsize_any {w : World} {F : Nat → Prop} {p : Nat} {s : DS} (h : Dk w F p s) : Calls Try.prog 21 #[.pointer (some ⟨p, 0, none⟩)] w fun e w' => e = .returned (.int .i64 s.good.length) ∧ w' = w := by
  obtain ⟨al, ac, cl, cc, fu, left, r⟩ := h
  have c0 := Arr.blk_cell r.blk 0
  simp only [List.getElem?_cons_zero] at c0
  clear r
  go_enter Try.func21, Try.ntmps21
  go_wp2
  go_ret
  exact ⟨rfl, rfl⟩
theorem dcached_any {w : World} {F : Nat → Prop} {p : Nat} {s : DS} (h : Dk w F p s) : Calls Try.prog 16 #[.pointer (some ⟨p, 0, none⟩)] w fun e w' => e = .returned (.int .i64 s.order.length) ∧ w' = w := by
  obtain ⟨al, ac, cl, cc, fu, left, r⟩ := h
  have c1 := Arr.blk_cell r.blk 1
  simp only [List.getElem?_cons_zero, List.getElem?_cons_succ] at c1
  clear r
  go_enter Try.func16, Try.ntmps16
  go_wp2
  go_ret
  exact ⟨rfl, rfl⟩
theorem dhas_any {w : World} {F : Nat → Prop} {p : Nat} {s : DS} (h : Dk w F p s) (i : Int) : Calls Try.prog 27 #[.pointer (some ⟨p, 0, none⟩), .int .i64 i] w fun e w' => e = .returned (.bool (decide (inR i s.good.length))) ∧ w' = w := by
  have HS := Lib.hid (dsize_any h)
  clear h
  by_cases h0 : 0 ≤ i
  · by_cases h1 : i < s.good.length
    · have hd : Hid (decide (inR i s.good.length) = true) := Lib.hid (decide_eq_true ⟨h0, h1⟩)
      go_enter Try.func27, Try.ntmps27
      go_wp2_with (first | (go_at_call 21; refine HS.out.mono ?_; rintro e w1 ⟨rfl, rfl⟩) | fail)
      go_ret
      exact ⟨by rw [hd.out]; first | rfl | exact ret_bool (decide_eq_false (by omega)), rfl⟩
    · have hd : Hid (decide (inR i s.good.length) = false) := Lib.hid (decide_eq_false (fun h => h1 h.2))
      go_enter Try.func27, Try.ntmps27
      go_wp2_with (first | (go_at_call 21; refine HS.out.mono ?_; rintro e w1 ⟨rfl, rfl⟩) | fail)
      go_ret
      exact ⟨by rw [hd.out]; first | rfl | exact ret_bool (decide_eq_false (by omega)), rfl⟩
  · have hd : Hid (decide (inR i s.good.length) = false) := Lib.hid (decide_eq_false (fun h => h0 h.1))
    go_enter Try.func27, Try.ntmps27
    go_wp2_with (first | (go_at_call 21; refine HS.out.mono ?_; rintro e w1 ⟨rfl, rfl⟩) | fail)
    go_ret
    exact ⟨by rw [hd.out]; first | rfl | exact ret_bool (decide_eq_false (by omega)), rfl⟩

/-- The fuse lets one more through, or not. -/
theorem dpasses_any {w : World} {F : Nat → Prop} {p : Nat} {s : DS} (h : Dk w F p s) :
    Calls Try.prog 28 #[.pointer (some ⟨p, 0, none⟩)] w fun e w' => e = .returned (.bool (!decide (s.fuse = 0))) ∧ Dk w' F p { s with fuse := burnt s.fuse } ∧ Chg F w w' ∧ w'.heap.size = w.heap.size := by
  obtain ⟨al, ac, cl, cc, fu, left, r⟩ := h
  have c2 := Arr.blk_cell r.blk 2
  have c3 := Arr.blk_cell r.blk 3
  have f3 := Arr.blk_frozen r.blk 3
  simp only [List.getElem?_cons_zero, List.getElem?_cons_succ] at c2 c3
  have hf := r.fuse
  have h0 := r.left0
  cases fu with
  | false =>
    have hf1 : s.fuse = -1 := hf
    have e1 : decide (s.fuse = 0) = false := decide_eq_false (by omega)
    have e2 : burnt s.fuse = s.fuse := by unfold burnt; rw [if_neg (by omega)]
    rw [e1, e2]
    have HR := Lib.hid r
    clear r
    go_enter Try.func28, Try.ntmps28
    go_wp2
    go_ret
    exact ⟨rfl, ⟨al, ac, cl, cc, false, left, HR.out⟩, chg_refl F w, rfl⟩
  | true =>
    have hf1 : s.fuse = left := hf
    by_cases hz : left = 0
    · subst hz
      have e1 : decide (s.fuse = 0) = true := decide_eq_true hf1
      have e2 : burnt s.fuse = s.fuse := by unfold burnt; rw [if_neg (by omega)]
      rw [e1, e2]
      have HR := Lib.hid r
      clear r hf hf1
      go_enter Try.func28, Try.ntmps28
      go_wp2
      go_ret
      exact ⟨rfl, ⟨al, ac, cl, cc, true, 0, HR.out⟩, chg_refl F w, rfl⟩
    · have e1 : decide (s.fuse = 0) = false := decide_eq_false (by omega)
      have e2 : burnt s.fuse = left - 1 := by unfold burnt; rw [if_pos (by omega), hf1]
      have hzb : (left == 0) = false := by rw [beq_eq_false_iff_ne]; exact hz
      rw [e1, e2]
      have hr : DkAt (w.setCell ⟨p, 3, none⟩ (.int .i64 (left - 1))) F p { s with fuse := left - 1 } al ac cl cc true (left - 1) :=
        ⟨Arr.blk_set r.blk 3 _, r.own, lown_dk r.lown r.blk, r.lfoot, cown_dk r.cown r.blk, r.cfoot, fuse_ok r.ok _, rfl, by omega, by omega⟩
      have HR := Lib.hid (And.intro hr (chg_set (chg_refl F w) (.inl r.own) 3 (.int .i64 (left - 1))))
      clear r hr hf hf1 e2
      go_enter Try.func28, Try.ntmps28
      go_wp2
      go_ret
      exact ⟨rfl, ⟨al, ac, cl, cc, true, left - 1, HR.out.1⟩, HR.out.2, setCell_size _ _ _⟩
theorem dfuse_any {w : World} {F : Nat → Prop} {p : Nat} {s : DS} (h : Dk w F p s) (n : Int) (hn : -9223372036854775808 ≤ n ∧ n ≤ 9223372036854775807) :
    Calls Try.prog 19 #[.pointer (some ⟨p, 0, none⟩), .int .i64 n] w fun e w' => e = .returned (.tuple #[]) ∧ Dk w' F p { s with fuse := nf n } ∧ Chg F w w' ∧ w'.heap.size = w.heap.size := by
  obtain ⟨al, ac, cl, cc, fu, left, r⟩ := h
  have c2 := Arr.blk_cell r.blk 2
  have c3 := Arr.blk_cell r.blk 3
  have f2 := Arr.blk_frozen r.blk 2
  have f3 := Arr.blk_frozen r.blk 3
  simp only [List.getElem?_cons_zero, List.getElem?_cons_succ] at c2 c3
  have step : ∀ (b : Bool) (m : Int), nf n = cond b m (-1) → 0 ≤ m ∧ m ≤ 9223372036854775807 →
      DkAt ((w.setCell ⟨p, 2, none⟩ (.bool b)).setCell ⟨p, 3, none⟩ (.int .i64 m)) F p { s with fuse := nf n } al ac cl cc b m ∧ Chg F w ((w.setCell ⟨p, 2, none⟩ (.bool b)).setCell ⟨p, 3, none⟩ (.int .i64 m)) := by
    intro b m hb hm
    have b1 := Arr.blk_set r.blk 2 (.bool b)
    exact ⟨⟨Arr.blk_set b1 3 (.int .i64 m), r.own, lown_dk (lown_dk r.lown r.blk) b1, r.lfoot, cown_dk (cown_dk r.cown r.blk) b1, r.cfoot, fuse_ok r.ok _, hb, hm⟩, chg_set (chg_set (chg_refl F w) (.inl r.own) 2 _) (.inl r.own) 3 _⟩
  by_cases hz : 0 ≤ n
  · have hm : (if n < 0 then (0 : Int) else n) = n := if_neg (by omega)
    have HS := Lib.hid (step true n (by unfold nf; rw [if_neg (by omega)]; rfl) ⟨hz, hn.2⟩)
    clear r step
    go_enter Try.func19, Try.ntmps19
    go_wp2
    go_end0
    exact ⟨rfl, ⟨al, ac, cl, cc, true, n, HS.out.1⟩, HS.out.2, by rw [setCell_size, setCell_size]⟩
  · have HS := Lib.hid (step false 0 (by unfold nf; rw [if_pos (by omega)]; rfl) ⟨by omega, by omega⟩)
    clear r step
    go_enter Try.func19, Try.ntmps19
    go_wp2
    go_end0
    exact ⟨rfl, ⟨al, ac, cl, cc, false, 0, HS.out.1⟩, HS.out.2, by rw [setCell_size, setCell_size]⟩

end Go.Proofs.Ytpbegchaneppfaa.Dsk
