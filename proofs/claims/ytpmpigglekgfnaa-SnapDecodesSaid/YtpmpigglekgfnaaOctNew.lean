/- Octet: a Reader that is made; the document's own words on what is put and read. -/
import Derived.Test.YtpmpigglekgfnaaOctPut
namespace Go.Proofs.Ytpmpigglekgfnaa.Oct
set_option maxRecDepth 100000
open Go.RowKit
open Go.Sort
open Kit
set_option linter.unusedVariables false

theorem nil_slice (a : Option Addr) (len cap : Nat) (h : a = none → len = 0 ∧ cap = 0) : (Value.slice a len cap = .slice none 0 0 ↔ a = none) := by
  constructor
  · intro e; injection e
  · intro e; obtain ⟨rfl, rfl⟩ := h e; rw [e]

set_option maxHeartbeats 1000000 in
theorem clone_any (a : Option Addr) (len cap : Nat) (l : List UInt8) (w : World) (hl : l.length = len) (hn : a = none → len = 0 ∧ cap = 0) (hE : RowB w a l) (hm : len ≤ 140737488355328) :
    Calls Try.prog 38 #[.slice a len cap] w fun e w' => ∃ v, e = .returned v ∧ OwnB w' w.heap.size v l ∧ Below w.heap.size w w' := by
  subst hl
  obtain ⟨i0, hi, hz0, hz1, hz2⟩ := info_parts info8
  cases a with
  | none =>
    obtain ⟨h1, rfl⟩ := hn rfl
    have : l = [] := List.length_eq_zero_iff.1 h1
    subst this
    have he : ∀ w : World, (binOp .eql 29 (.slice none 0 0) (.slice none 0 0)).run Try.prog w = .ok (.bool true) w := fun _ => rfl
    go_enter Try.func38, Try.ntmps38
    go_wp2
    go_ret
    exact ⟨_, rfl, owns_nil _ _ _, Below.refl _ _⟩
  | some q =>
    have hE1 := row_cells hE q rfl
    have he : ∀ w : World, (binOp .eql 29 (.slice (some q) l.length cap) (.slice none 0 0)).run Try.prog w = .ok (.bool false) w := fun _ => rfl
    go_enter Try.func38, Try.ntmps38
    go_wp2_with (first | (at_builtin; refine append_b rfl _ _ rfl w.heap.size _ [] rfl (own_empty w _ (Nat.le_refl _)) (some q) l.length cap l rfl rfl (row_alloc hE _) hn (by simp; omega) (by simp) ?_) | go_in)
    intro v w1 hown hb
    go_wp2
    go_ret
    exact ⟨_, rfl, hown, (below_alloc w _).trans hb⟩

theorem new_made {w1 : World} {base cap : Nat} {a : Option Addr} {l : List UInt8} {T : TypeId} (hown : OwnB w1 base (.slice a l.length cap) l) (hb : base ≤ w1.heap.size) (h1 : l.length ≤ cap) (h2 : cap ≤ maxLen) (h3 : a = none → cap = 0) (h4 : RowB w1 a l) :
    Rdr base (w1.alloc (.cells #[.slice a l.length cap, .bool false] T)) w1.heap.size (some l) := by
  refine ⟨a, cap, by rw [World.cell?_alloc_new]; rfl, by rw [World.cell?_alloc_new]; rfl, by simp [go_sem], by simp [go_sem], h1, h2, h3, row_alloc h4 _, hb, fun q hq => ?_⟩
  subst hq
  have := (own_iff.1 hown).lt q.block rfl
  simp
  omega

set_option maxHeartbeats 1000000 in
theorem new_any (a : Option Addr) (len cap : Nat) (l : List UInt8) (w : World) (hl : l.length = len) (hn : a = none → len = 0 ∧ cap = 0) (hE : RowB w a l) (hm : len ≤ 140737488355328) :
    Calls Try.prog 19 #[.slice a len cap] w fun e w' => ∃ p, e = .returned (.pointer (some ⟨p, 0, none⟩)) ∧ Rdr w.heap.size w' p (some l) ∧ Below w.heap.size w w' := by
  subst hl
  go_enter Try.func19, Try.ntmps19
  go_wp2_with fail
  refine (clone_any a l.length cap l w rfl hn hE hm).mono ?_
  rintro e w1 ⟨v, rfl, hown, hb⟩
  obtain ⟨a', cap', rfl, h1, h2, h3, h4⟩ := own_row hown
  have hR := Lib.hid (fun T => new_made (T := T) hown hb.size h1 h2 h3 h4)
  have hB := Lib.hid (fun o => hb.alloc hb.size o)
  clear hown hb h4
  go_wp2
  go_ret
  exact ⟨_, rfl, hR.out _, hB.out _⟩

theorem int_is (a : Option Addr) (len cap n' : Nat) (n : Int) (l L : List UInt8) (w : World) (hl : l.length = len) (hn : a = none → len = 0 ∧ cap = 0) (hE : RowB w a l) (hm : len ≤ 140737488355328) (hL : l ++ beB 8 (toU64 n) = L) (hn' : L.length = n') :
    Calls Try.prog 36 #[.slice a len cap, .int .i64 n] w fun e w' => ∃ g cap, e = .returned (.slice (some ⟨g, 0, none⟩) n' cap) ∧ n' ≤ cap ∧ cap ≤ maxLen ∧ RowB w' (some ⟨g, 0, none⟩) L ∧ Below w.heap.size w w' := by
  subst hL hn'
  refine (int_any a len cap n l w hl hn hE hm).mono ?_
  rintro e w' ⟨g, c, rfl, ⟨h1, h2, h3⟩, hb⟩
  obtain ⟨a', c', he, _, h5, _, h6⟩ := own_row h3
  injection he with e1 e2 e3
  subst e1 e3
  exact ⟨g, c, rfl, h2, h5, h6, hb⟩
theorem int_rdr_is {B : Nat} {p : Nat} {s s' : RS} {n : Int} {w : World} (h : Rdr B w p s) (ht : rInt s = (n, s')) :
    Calls Try.prog 39 #[.pointer (some ⟨p, 0, none⟩)] w fun e w' => e = .returned (.int .i64 n) ∧ Rdr B w' p s' ∧ w.grownBy w' (some p) := by
  have := int_rdr h
  rw [ht] at this; exact this
theorem row_other {w w' : World} {g off p : Nat} {l : List UInt8} (h : RowB w (some ⟨g, off, none⟩) l) (hg : w.grownBy w' (some p)) (hne : g ≠ p) : RowB w' (some ⟨g, off, none⟩) l :=
  row_far h hg fun q hq e => by
    injection hq with hq
    subst hq
    injection e with e
    exact hne e

end Go.Proofs.Ytpmpigglekgfnaa.Oct
