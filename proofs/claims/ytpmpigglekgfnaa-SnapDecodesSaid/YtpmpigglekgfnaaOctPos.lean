/- Octet: the document's words at a Reader's place. -/
import Derived.Test.YtpmpigglekgfnaaOctRead
namespace Go.Proofs.Ytpmpigglekgfnaa.Oct
open Go.RowKit
open Go.Sort
open Kit
set_option linter.unusedVariables false

/-! ### At a Reader's place -/

/-- A Reader of l that stands at p; below 0: it is bad. -/
def Pos (l : List UInt8) (s : RS) (p : Int) : Prop := (s = none ∧ p = -1) ∨ ∃ q : Nat, q ≤ l.length ∧ s = some (l.drop q) ∧ p = q
theorem pos_none (l : List UInt8) : Pos l none (-1) := .inl ⟨rfl, rfl⟩
theorem pos_end {l : List UInt8} {s : RS} {p : Int} (h : Pos l s p) {n : Nat} (hn : l.length = n) : decide (s = some []) = (p == (n : Int)) := by
  subst hn
  show _ = decide (p = (l.length : Int))
  rcases h with ⟨rfl, rfl⟩ | ⟨q, hq, rfl, rfl⟩
  · rw [decide_eq_decide]; constructor
    · intro h; cases h
    · intro h; omega
  · rw [decide_eq_decide]
    simp [List.drop_eq_nil_iff]
    omega

theorem word_pos {l : List UInt8} {s : RS} {p : Int} (a : Option Addr) (len cap : Nat) (most : Int) (w : World) (hl : l.length = len) (hc : len ≤ cap) (hcm : cap ≤ maxLen) (hm : len ≤ 140737488351232) (hE : RowB w a l) (h : Pos l s p) :
    Calls Try.prog 44 #[.slice a len cap, .int .i64 p, .int .i64 most] w fun e w' => ∃ S s' n, e = .returned (.tuple #[.string S, .int .i64 n]) ∧ rText most s = (S, s') ∧ Pos l s' n ∧ Below w.heap.size w w' := by
  subst hl
  rcases h with ⟨rfl, rfl⟩ | ⟨q, hq, rfl, rfl⟩
  · refine (rword_bad a l.length cap (-1) most w (by omega) (.inl (by omega)) (by omega)).mono ?_
    rintro e w' ⟨rfl, rfl⟩
    exact ⟨_, none, -1, rfl, rfl, pos_none l, Below.refl _ _⟩
  · by_cases h2 : q + 2 ≤ l.length
    · refine (rword_two a l.length cap q _ most l w rfl hc hcm (by omega) hE h2 rfl).mono ?_
      rintro e w' ⟨rfl, hb⟩
      have hlen : (l.drop q).length - 2 = l.length - q - 2 := by rw [List.length_drop]
      by_cases hok : ((numB ((l.drop q).take 2) : Nat) : Int) ≤ most ∧ numB ((l.drop q).take 2) ≤ l.length - q - 2
      · refine ⟨_, some (((l.drop q).drop 2).drop (numB ((l.drop q).take 2))), _, rfl, ?_, ?_, hb⟩
        · rw [rText_ok ⟨by rw [List.length_drop]; omega, hok.1, by rw [hlen]; exact hok.2⟩, if_pos hok]
        · rw [if_pos hok]
          refine .inr ⟨q + 2 + numB ((l.drop q).take 2), by omega, ?_, rfl⟩
          rw [List.drop_drop, List.drop_drop, Nat.add_assoc]
      · refine ⟨_, none, _, rfl, ?_, ?_, hb⟩
        · rw [rText_bad (fun l' e hh => by injection e with e; subst e; exact hok ⟨hh.2.1, by rw [← hlen]; exact hh.2.2⟩), if_neg hok]
        · rw [if_neg hok]; exact pos_none l
    · refine (rword_bad a l.length cap q most w (by omega) (.inr (by omega)) (by omega)).mono ?_
      rintro e w' ⟨rfl, rfl⟩
      exact ⟨_, none, -1, rfl, rText_bad (fun l' e hh => by injection e with e; subst e; have := hh.1; rw [List.length_drop] at this; omega), pos_none l, Below.refl _ _⟩

theorem number_pos {l : List UInt8} {s : RS} {p : Int} (a : Option Addr) (len cap : Nat) (w : World) (hl : l.length = len) (hm : len ≤ 140737488351232) (hE : RowB w a l) (h : Pos l s p) :
    Calls Try.prog 43 #[.slice a len cap, .int .i64 p] w fun e w' => ∃ N s' n, e = .returned (.tuple #[.int .i64 N, .int .i64 n]) ∧ rInt s = (N, s') ∧ Pos l s' n ∧ w = w' := by
  subst hl
  rcases h with ⟨rfl, rfl⟩ | ⟨q, hq, rfl, rfl⟩
  · refine (rnumber_bad a l.length cap (-1) w (by omega) (.inl (by omega)) (by omega)).mono ?_
    rintro e w' ⟨rfl, rfl⟩
    exact ⟨0, none, -1, rfl, rfl, pos_none l, rfl⟩
  · by_cases h2 : q + 8 ≤ l.length
    · refine (rnumber_ok a l.length cap q l w rfl (by omega) hE h2).mono ?_
      rintro e w' ⟨rfl, rfl⟩
      refine ⟨_, some ((l.drop q).drop 8), _, rfl, ?_, .inr ⟨q + 8, by omega, by rw [List.drop_drop], rfl⟩, rfl⟩
      simp only [rInt]
      rw [if_pos (by rw [List.length_drop]; omega)]
    · refine (rnumber_bad a l.length cap q w (by omega) (.inr (by omega)) (by omega)).mono ?_
      rintro e w' ⟨rfl, rfl⟩
      refine ⟨0, none, -1, rfl, ?_, pos_none l, rfl⟩
      simp only [rInt]
      rw [if_neg (by rw [List.length_drop]; omega)]

end Go.Proofs.Ytpmpigglekgfnaa.Oct
