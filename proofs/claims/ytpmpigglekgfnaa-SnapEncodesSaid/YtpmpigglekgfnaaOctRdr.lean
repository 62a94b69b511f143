/- Octet: what a Reader holds. -/
import Derived.Test.YtpmpigglekgfnaaOctNum
import Derived.Test.YtpmpigglekgfnaaOctPur
import Derived.Laws.IdiomStrings
namespace Go.Proofs.Ytpmpigglekgfnaa.Oct
open Go.RowKit
open Go.Sort
open Kit
set_option linter.unusedVariables false

/-- The Reader at p, all of it in these blocks. -/
def RdrS (S : Nat → Prop) (w : World) (p : Nat) (s : RS) : Prop :=
  ∃ a cap, w.cell? ⟨p, 0, none⟩ = some (.slice a (s.getD []).length cap) ∧ w.cell? ⟨p, 1, none⟩ = some (.bool s.isNone) ∧ w.frozen? ⟨p, 0, none⟩ = false ∧ w.frozen? ⟨p, 1, none⟩ = false ∧
    (s.getD []).length ≤ cap ∧ cap ≤ maxLen ∧ (a = none → cap = 0) ∧ RowB w a (s.getD []) ∧ S p ∧ (∀ q, a = some q → S q.block ∧ q.block ≠ p ∧ q.block < w.heap.size)
/-- The Reader at p, all of it from block B on. -/
abbrev Rdr (B : Nat) (w : World) (p : Nat) (s : RS) : Prop := RdrS (fun k => B ≤ k) w p s

theorem rdr_lt {S : Nat → Prop} {w : World} {p : Nat} {s : RS} (h : RdrS S w p s) : p < w.heap.size := by
  obtain ⟨a, cap, h0, _⟩ := h
  exact World.block_lt_of_cell? w _ h0
theorem rdr_ge {B : Nat} {w : World} {p : Nat} {s : RS} (h : Rdr B w p s) : B ≤ p := by
  obtain ⟨a, cap, _, _, _, _, _, _, _, _, h6, _⟩ := h
  exact h6
theorem rdr_far {B : Nat} {w w' : World} {p g : Nat} {s : RS} (h : Rdr B w p s) (hg : w.grownBy w' (some g)) (hne : g < B) : Rdr B w' p s := by
  have hp := rdr_lt h
  obtain ⟨a, cap, h0, h1, f0, f1, h2, h3, h4, h5, h6, h7⟩ := h
  have hk := hg.block p hp (by intro e; injection e; omega)
  refine ⟨a, cap, hg.cell h0 (by simp; omega), hg.cell h1 (by simp; omega), (frozen_of_block hk).trans f0, (frozen_of_block hk).trans f1, h2, h3, h4, row_far h5 hg ?_, h6, fun q hq => ?_⟩
  · intro q hq e
    have := (h7 q hq).1
    injection e; omega
  · have := h7 q hq
    exact ⟨this.1, this.2.1, Nat.lt_of_lt_of_le this.2.2 hg.size⟩
theorem rdr_keep {S : Nat → Prop} {w w' : World} {p : Nat} {s : RS} (h : RdrS S w p s) (hb : Below w.heap.size w w') : RdrS S w' p s := by
  have hp := rdr_lt h
  obtain ⟨a, cap, h0, h1, f0, f1, h2, h3, h4, h5, h6, h7⟩ := h
  exact ⟨a, cap, cell_keep hb h0, cell_keep hb h1, ((bcell hb).2 p 0 hp).trans f0, ((bcell hb).2 p 1 hp).trans f1, h2, h3, h4, row_keep encB_len h5 hb, h6, fun q hq => ⟨(h7 q hq).1, (h7 q hq).2.1, Nat.lt_of_lt_of_le (h7 q hq).2.2 hb.size⟩⟩

/-- Both fields of a Reader set. -/
theorem rdr_set {S : Nat → Prop} {w : World} {p : Nat} {s : RS} (h : RdrS S w p s) (v1 : Value) (v0 : Value) :
    ((w.setCell ⟨p, 1, none⟩ v1).setCell ⟨p, 0, none⟩ v0).cell? ⟨p, 0, none⟩ = some v0 ∧ ((w.setCell ⟨p, 1, none⟩ v1).setCell ⟨p, 0, none⟩ v0).cell? ⟨p, 1, none⟩ = some v1 := by
  obtain ⟨a, cap, h0, h1, _⟩ := h
  exact ⟨same_cell (set_off (by decide) h0) _, set_off (by decide) (same_cell h1 _)⟩

theorem rdr_bad {S : Nat → Prop} {w : World} {p : Nat} {s : RS} (h : RdrS S w p s) :
    RdrS S ((w.setCell ⟨p, 1, none⟩ (.bool true)).setCell ⟨p, 0, none⟩ (.slice none 0 0)) p none ∧ w.grownBy ((w.setCell ⟨p, 1, none⟩ (.bool true)).setCell ⟨p, 0, none⟩ (.slice none 0 0)) (some p) := by
  have hs := rdr_set h (.bool true) (.slice none 0 0)
  obtain ⟨a, cap, h0, h1, f0, f1, h2, h3, h4, h5, h6, h7⟩ := h
  refine ⟨⟨none, 0, hs.1, hs.2, ?_, ?_, Nat.le_refl _, by unfold maxLen; omega, fun _ => rfl, .inl rfl, h6, fun q hq => by cases hq⟩, grown_trans (grown_setCell _ _ _ _) (grown_setCell _ _ _ _)⟩
  · simp [go_sem, f0]
  · simp [go_sem, f1]

theorem spoil_rdr {S : Nat → Prop} {p : Nat} {s : RS} {w : World} (h : RdrS S w p s) :
    Calls Try.prog 49 #[.pointer (some ⟨p, 0, none⟩)] w fun e w' => e = .returned (.tuple #[]) ∧ RdrS S w' p none ∧ w.grownBy w' (some p) := by
  have hb := rdr_bad h
  obtain ⟨a, cap, h0, h1, f0, f1, _⟩ := h
  refine (spoil_any p _ _ w h0 h1 f0 f1).mono fun e w' he => ?_
  obtain ⟨rfl, rfl⟩ := he
  exact ⟨rfl, hb⟩

set_option maxHeartbeats 1000000 in
theorem spoil_nil (w : World) :
    Calls Try.prog 49 #[.pointer none] w fun e w' => e = .returned (.tuple #[]) ∧ w = w' := by
  go_enter Try.func49, Try.ntmps49
  go_wp2
  go_end0
  exact ⟨rfl, rfl⟩

/-! ### take -/

/-- A Reader whose rest is set. -/
theorem rdr_rest {S : Nat → Prop} {w : World} {p n : Nat} {l : List UInt8} {a a' : Option Addr} {cap cap' : Nat} (h0 : w.cell? ⟨p, 0, none⟩ = some (.slice a l.length cap)) (h1 : w.cell? ⟨p, 1, none⟩ = some (.bool false))
    (f0 : w.frozen? ⟨p, 0, none⟩ = false) (f1 : w.frozen? ⟨p, 1, none⟩ = false) (h6 : S p) (hc : l.length - n ≤ cap') (hm : cap' ≤ maxLen) (hz : a' = none → cap' = 0) (hr : RowB w a' (l.drop n))
    (hq : ∀ q, a' = some q → S q.block ∧ q.block ≠ p ∧ q.block < w.heap.size) : RdrS S (w.setCell ⟨p, 0, none⟩ (.slice a' (l.length - n) cap')) p (some (l.drop n)) := by
  refine ⟨a', cap', ?_, set_off (by decide) h1, ?_, ?_, ?_, hm, hz, row_setCell hr fun q hq' => (hq q hq').2.1, h6, fun q hq' => ⟨(hq q hq').1, (hq q hq').2.1, ?_⟩⟩
  · rw [same_cell h0]; simp
  · simp [go_sem, f0]
  · simp [go_sem, f1]
  · simpa using hc
  · rw [setCell_size]; exact (hq q hq').2.2

theorem take_end1 {S : Nat → Prop} {p n : Nat} {l : List UInt8} {w : World} {a : Option Addr} {cap : Nat} (h0 : w.cell? ⟨p, 0, none⟩ = some (.slice a l.length cap)) (h1 : w.cell? ⟨p, 1, none⟩ = some (.bool false))
    (f0 : w.frozen? ⟨p, 0, none⟩ = false) (f1 : w.frozen? ⟨p, 1, none⟩ = false) (h2 : l.length ≤ cap) (h3 : cap ≤ 2 ^ 63 - 1) (h4 : a = none → cap = 0) (h5 : RowB w a l) (h6 : S p) (h7 : ∀ q, a = some q → S q.block ∧ q.block ≠ p ∧ q.block < w.heap.size)
    (hn : n ≤ l.length) (hc : cap = n) (w' : World) (hw : w' = w.setCell ⟨p, 0, none⟩ (.slice a (l.length - n) 0)) :
    n ≤ n ∧ n ≤ maxLen ∧ (a = none → n = 0) ∧ RowB w' a (l.take n) ∧ RdrS S w' p (some (l.drop n)) ∧ w.grownBy w' (some p) := by
  subst hw hc
  have e : l.drop cap = [] := List.drop_eq_nil_iff.2 (by omega)
  exact ⟨by omega, h3, h4, row_setCell (row_take h5 cap) fun q hq => (h7 q hq).2.1, rdr_rest h0 h1 f0 f1 h6 (by omega) (by unfold maxLen; omega) (fun _ => rfl) (by rw [e]; exact .inl rfl) h7, grown_setCell _ _ _ _⟩

theorem take_end2 {S : Nat → Prop} {p n : Nat} {l : List UInt8} {w : World} {a : Option Addr} {cap : Nat} (h0 : w.cell? ⟨p, 0, none⟩ = some (.slice a l.length cap)) (h1 : w.cell? ⟨p, 1, none⟩ = some (.bool false))
    (f0 : w.frozen? ⟨p, 0, none⟩ = false) (f1 : w.frozen? ⟨p, 1, none⟩ = false) (h2 : l.length ≤ cap) (h3 : cap ≤ 2 ^ 63 - 1) (h4 : a = none → cap = 0) (h5 : RowB w a l) (h6 : S p) (h7 : ∀ q, a = some q → S q.block ∧ q.block ≠ p ∧ q.block < w.heap.size)
    (_hn : n ≤ l.length) (hc : ¬ cap = n) (w' : World) (hw : w' = w.setCell ⟨p, 0, none⟩ (.slice (Option.map (fun x => x.add n) a) (l.length - n) (cap - n))) :
    n ≤ cap ∧ cap ≤ maxLen ∧ (a = none → cap = 0) ∧ RowB w' a (l.take n) ∧ RdrS S w' p (some (l.drop n)) ∧ w.grownBy w' (some p) := by
  subst hw
  refine ⟨by omega, h3, h4, row_setCell (row_take h5 n) fun q hq => (h7 q hq).2.1, rdr_rest h0 h1 f0 f1 h6 (by omega) (by unfold maxLen; omega) ?_ ?_ ?_, grown_setCell _ _ _ _⟩
  · intro he
    rw [Option.map_eq_none_iff] at he
    have := h4 he
    omega
  · have h5' := h5
    rcases h5' with rfl | ⟨b, off, rfl, _⟩
    · exact .inl (by simp)
    · have := row_drop h5 n
      rw [Nat.mul_one] at this
      simp only [Option.map_some, add_plain]
      exact this
  · intro q hq
    obtain ⟨q', hq', rfl⟩ := Option.map_eq_some_iff.1 hq
    have e : (q'.add n).block = q'.block := by unfold Addr.add; split <;> rfl
    rw [e]; exact h7 q' hq'

set_option maxHeartbeats 1000000 in
theorem take_bad {S : Nat → Prop} {p : Nat} {s : RS} {w : World} (n : Nat) (h : RdrS S w p s) (hn : ∀ l, s = some l → l.length < n) :
    Calls Try.prog 48 #[.pointer (some ⟨p, 0, none⟩), .int .i64 n] w fun e w' => e = .returned (.slice none 0 0) ∧ RdrS S w' p none ∧ w.grownBy w' (some p) := by
  have hc := spoil_rdr h
  have HC := Lib.hid hc
  obtain ⟨a, cap, h0, h1, _⟩ := h
  clear hc
  cases s with
  | none =>
    simp only [Option.getD_none, Option.isNone_none, List.length_nil] at h0 h1
    go_enter Try.func48, Try.ntmps48
    go_wp2_with fail
    refine HC.out.mono ?_
    rintro e w1 ⟨rfl, h2, h3⟩
    go_wp2
    go_ret
    exact ⟨rfl, h2, h3⟩
  | some l =>
    have hl := hn l rfl
    simp only [Option.getD_some, Option.isNone_some] at h0 h1
    go_enter Try.func48, Try.ntmps48
    go_wp2_with fail
    refine HC.out.mono ?_
    rintro e w1 ⟨rfl, h2, h3⟩
    go_wp2
    go_ret
    exact ⟨rfl, h2, h3⟩

set_option maxHeartbeats 1000000 in
theorem take_nil (w : World) (n : Nat) :
    Calls Try.prog 48 #[.pointer none, .int .i64 n] w fun e w' => e = .returned (.slice none 0 0) ∧ w = w' := by
  go_enter Try.func48, Try.ntmps48
  go_wp2_with fail
  refine (spoil_nil w).mono ?_
  rintro e w1 ⟨rfl, rfl⟩
  go_wp2
  go_ret
  exact ⟨rfl, rfl⟩

set_option maxHeartbeats 1000000 in
theorem take_ok {S : Nat → Prop} {p : Nat} {l : List UInt8} {w : World} (n : Nat) (h : RdrS S w p (some l)) (hn : n ≤ l.length) :
    Calls Try.prog 48 #[.pointer (some ⟨p, 0, none⟩), .int .i64 n] w fun e w' => ∃ a c, e = .returned (.slice a n c) ∧ n ≤ c ∧ c ≤ maxLen ∧ (a = none → c = 0) ∧ RowB w' a (l.take n) ∧ RdrS S w' p (some (l.drop n)) ∧ w.grownBy w' (some p) := by
  obtain ⟨a, cap, h0, h1, f0, f1, h2, h3, h4, h5, h6, h7⟩ := h
  simp only [Option.getD_some, Option.isNone_some] at h0 h1 h2 h5
  unfold maxLen at h3
  go_enter Try.func48, Try.ntmps48
  go_wp2
  case inl =>
    go_ret
    exact ⟨_, _, rfl, take_end1 h0 h1 f0 f1 h2 h3 h4 h5 h6 h7 hn (by omega) _ rfl⟩
  case inr =>
    go_ret
    exact ⟨_, _, rfl, take_end2 h0 h1 f0 f1 h2 h3 h4 h5 h6 h7 hn (by omega) _ rfl⟩

/-! ### Int, Text -/

theorem number_nil (w : World) : Calls Try.prog 47 #[.slice none 0 0] w fun e w' => e = .returned (.int .u64 0) ∧ w = w' :=
  number_any none 0 0 [] w rfl (by unfold maxLen; omega) (.inl rfl)

set_option maxHeartbeats 1000000 in
theorem int_rdr {S : Nat → Prop} {p : Nat} {s : RS} {w : World} (h : RdrS S w p s) :
    Calls Try.prog 39 #[.pointer (some ⟨p, 0, none⟩)] w fun e w' => e = .returned (.int .i64 (rInt s).1) ∧ RdrS S w' p (rInt s).2 ∧ w.grownBy w' (some p) := by
  by_cases hok : ∃ l, s = some l ∧ 8 ≤ l.length
  · obtain ⟨l, rfl, hl⟩ := hok
    have e : rInt (some l) = (toI64 (numB (l.take 8)), some (l.drop 8)) := by simp only [rInt]; rw [if_pos hl]
    have hlt := numB_lt (l.take 8)
    have HE := Lib.hid e
    clear e
    go_enter Try.func39, Try.ntmps39
    go_wp2_with fail
    refine (take_ok 8 h hl).mono ?_
    rintro e w1 ⟨a, c, rfl, h1, h2, h3, h4, h5, h6⟩
    go_wp2_with fail
    refine (number_any a 8 c (l.take 8) w1 (by rw [List.length_take]; omega) (by unfold maxLen; omega) h4).mono ?_
    rintro e w2 ⟨rfl, rfl⟩
    go_wp2
    go_ret
    rw [HE.out]
    exact ⟨by rw [← wrap_i64 _ hlt]; rfl, h5, h6⟩
  · have e : rInt s = (0, none) := by
      cases s with
      | none => rfl
      | some l => simp only [rInt]; exact if_neg (fun hl => hok ⟨l, rfl, hl⟩)
    have HE := Lib.hid e
    clear e
    go_enter Try.func39, Try.ntmps39
    go_wp2_with fail
    refine (take_bad 8 h (fun l hl => by rcases Nat.lt_or_ge l.length 8 with h8 | h8; exact h8; exact absurd ⟨l, hl, h8⟩ hok)).mono ?_
    rintro e w1 ⟨rfl, h5, h6⟩
    go_wp2_with fail
    refine (number_nil w1).mono ?_
    rintro e w2 ⟨rfl, rfl⟩
    go_wp2
    go_ret
    rw [HE.out]
    exact ⟨rfl, h5, h6⟩

set_option maxHeartbeats 1000000 in
theorem int_nil (w : World) :
    Calls Try.prog 39 #[.pointer none] w fun e w' => e = .returned (.int .i64 0) ∧ w = w' := by
  go_enter Try.func39, Try.ntmps39
  go_wp2_with fail
  refine (take_nil w 8).mono ?_
  rintro e w1 ⟨rfl, rfl⟩
  go_wp2_with fail
  refine (number_nil w).mono ?_
  rintro e w2 ⟨rfl, rfl⟩
  go_wp2
  go_ret
  exact ⟨rfl, rfl⟩

end Go.Proofs.Ytpmpigglekgfnaa.Oct
