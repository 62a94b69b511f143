/- Octet: a text that is read. -/
import Derived.Test.YtpmpigglekgfnaaOctRdr
namespace Go.Proofs.Ytpmpigglekgfnaa.Oct
set_option maxRecDepth 100000
open Go.RowKit
open Go.Sort
open Kit
set_option linter.unusedVariables false

set_option maxHeartbeats 4000000 in
theorem text_rdr {S : Nat → Prop} {p : Nat} {s : RS} {w : World} (most : Int) (h : RdrS S w p s) :
    Calls Try.prog 42 #[.pointer (some ⟨p, 0, none⟩), .int .i64 most] w fun e w' => e = .returned (.string (rText most s).1) ∧ RdrS S w' p (rText most s).2 ∧ w.grownBy w' (some p) := by
  have kc := fun (W : World) (a : Option Addr) (len cap : Nat) (l : List UInt8) => conv_row (P := Try.prog) (src := 29) (dst := 9) Try.underlying29 Try.underlying5 Try.underlying9 (w := W) (a := a) (len := len) (cap := cap) (l := l)
  have k0 := fun (W : World) => conv_row (P := Try.prog) (src := 29) (dst := 9) Try.underlying29 Try.underlying5 Try.underlying9 (w := W) (a := none) (len := 0) (cap := 0) (l := []) rfl (fun _ => rfl) (.inl rfl)
  have KC := Lib.hid kc
  clear kc
  by_cases h2 : ∃ l, s = some l ∧ 2 ≤ l.length
  · obtain ⟨l, rfl, hl⟩ := h2
    have hn := numB_two (l.take 2) (by rw [List.length_take]; omega)
    have hw := wrap_small _ hn
    have hl2 : (l.drop 2).length = l.length - 2 := List.length_drop
    by_cases hm : ((numB (l.take 2) : Nat) : Int) ≤ most
    · by_cases hr : numB (l.take 2) ≤ l.length - 2
      · have HE := Lib.hid (rText_ok ⟨hl, hm, hr⟩)
        have HN := Lib.hid (show numB (l.take 2) = numB (l.take 2) from rfl)
        generalize hk : numB (l.take 2) = k at *
        have HK := Lib.hid hk
        clear hk
        go_enter Try.func42, Try.ntmps42
        go_wp2_with fail
        refine (take_ok 2 h hl).mono ?_
        rintro e w1 ⟨a, c, rfl, h1, h2, h3, h4, h5, h6⟩
        go_wp2_with fail
        refine (number_any a 2 c (l.take 2) w1 (by rw [List.length_take]; omega) (by unfold maxLen; omega) h4).mono ?_
        rintro e w2 ⟨rfl, rfl⟩
        rw [HK.out]
        have hgt : ¬ most < (k : Int) := by omega
        go_wp2_with fail
        refine (take_ok k h5 (by omega)).mono ?_
        rintro e w3 ⟨a', c', rfl, g1, g2, g3, g4, g5, g6⟩
        have hc := KC.out w3 a' k c' ((l.drop 2).take k) (by rw [List.length_take]; omega) (fun hz => by have := g3 hz; omega) g4
        go_wp2
        go_ret
        rw [HE.out]
        exact ⟨rfl, g5, grown_trans h6 g6⟩
      · have HE := Lib.hid (rText_bad (most := most) (s := some l) (fun l' e => by injection e with e; subst e; exact fun hh => hr hh.2.2))
        generalize hk : numB (l.take 2) = k at *
        have HK := Lib.hid hk
        clear hk
        go_enter Try.func42, Try.ntmps42
        go_wp2_with fail
        refine (take_ok 2 h hl).mono ?_
        rintro e w1 ⟨a, c, rfl, h1, h2, h3, h4, h5, h6⟩
        go_wp2_with fail
        refine (number_any a 2 c (l.take 2) w1 (by rw [List.length_take]; omega) (by unfold maxLen; omega) h4).mono ?_
        rintro e w2 ⟨rfl, rfl⟩
        rw [HK.out]
        have hgt : ¬ most < (k : Int) := by omega
        go_wp2_with fail
        refine (take_bad k h5 (fun l' e => by injection e with e; subst e; omega)).mono ?_
        rintro e w3 ⟨rfl, g5, g6⟩
        have hc := k0 w3
        go_wp2
        go_ret
        rw [HE.out]
        exact ⟨rfl, g5, grown_trans h6 g6⟩
    · have HE := Lib.hid (rText_bad (most := most) (s := some l) (fun l' e => by injection e with e; subst e; exact fun hh => hm hh.2.1))
      generalize hk : numB (l.take 2) = k at *
      have HK := Lib.hid hk
      clear hk
      go_enter Try.func42, Try.ntmps42
      go_wp2_with fail
      refine (take_ok 2 h hl).mono ?_
      rintro e w1 ⟨a, c, rfl, h1, h2, h3, h4, h5, h6⟩
      go_wp2_with fail
      refine (number_any a 2 c (l.take 2) w1 (by rw [List.length_take]; omega) (by unfold maxLen; omega) h4).mono ?_
      rintro e w2 ⟨rfl, rfl⟩
      rw [HK.out]
      have hgt : most < (k : Int) := by omega
      go_wp2_with fail
      refine (spoil_rdr h5).mono ?_
      rintro e w3 ⟨rfl, g5, g6⟩
      go_wp2_with fail
      refine (take_bad k g5 (fun l' e => by cases e)).mono ?_
      rintro e w4 ⟨rfl, f5, f6⟩
      have hc := k0 w4
      go_wp2
      go_ret
      rw [HE.out]
      exact ⟨rfl, f5, grown_trans h6 (grown_trans g6 f6)⟩
  · have HE := Lib.hid (rText_bad (most := most) (s := s) (fun l e hh => h2 ⟨l, e, hh.1⟩))
    by_cases hm : most < 0
    · go_enter Try.func42, Try.ntmps42
      go_wp2_with fail
      refine (take_bad 2 h (fun l hl => by rcases Nat.lt_or_ge l.length 2 with h8 | h8; exact h8; exact absurd ⟨l, hl, h8⟩ h2)).mono ?_
      rintro e w1 ⟨rfl, h5, h6⟩
      go_wp2_with fail
      refine (number_nil w1).mono ?_
      rintro e w2 ⟨rfl, rfl⟩
      go_wp2_with fail
      refine (spoil_rdr h5).mono ?_
      rintro e w3 ⟨rfl, g5, g6⟩
      go_wp2_with fail
      refine (take_bad 0 g5 (fun l' e => by cases e)).mono ?_
      rintro e w4 ⟨rfl, f5, f6⟩
      have hc := k0 w4
      go_wp2
      go_ret
      rw [HE.out]
      exact ⟨rfl, f5, grown_trans h6 (grown_trans g6 f6)⟩
    · go_enter Try.func42, Try.ntmps42
      go_wp2_with fail
      refine (take_bad 2 h (fun l hl => by rcases Nat.lt_or_ge l.length 2 with h8 | h8; exact h8; exact absurd ⟨l, hl, h8⟩ h2)).mono ?_
      rintro e w1 ⟨rfl, h5, h6⟩
      go_wp2_with fail
      refine (number_nil w1).mono ?_
      rintro e w2 ⟨rfl, rfl⟩
      go_wp2_with fail
      refine (take_bad 0 h5 (fun l' e => by cases e)).mono ?_
      rintro e w4 ⟨rfl, f5, f6⟩
      have hc := k0 w4
      go_wp2
      go_ret
      rw [HE.out]
      exact ⟨rfl, f5, grown_trans h6 f6⟩

set_option maxHeartbeats 1000000 in
theorem text_nil (most : Int) (w : World) :
    Calls Try.prog 42 #[.pointer none, .int .i64 most] w fun e w' => e = .returned (.string ⟨#[]⟩) ∧ w = w' := by
  have k0 := conv_row (P := Try.prog) (src := 29) (dst := 9) Try.underlying29 Try.underlying5 Try.underlying9 (w := w) (a := none) (len := 0) (cap := 0) (l := []) rfl (fun _ => rfl) (.inl rfl)
  by_cases hm : most < 0
  · go_enter Try.func42, Try.ntmps42
    go_wp2_with fail
    refine (take_nil w 2).mono ?_
    rintro e w1 ⟨rfl, rfl⟩
    go_wp2_with fail
    refine (number_nil w).mono ?_
    rintro e w2 ⟨rfl, rfl⟩
    go_wp2_with fail
    refine (spoil_nil w).mono ?_
    rintro e w3 ⟨rfl, rfl⟩
    go_wp2_with fail
    refine (take_nil w 0).mono ?_
    rintro e w4 ⟨rfl, rfl⟩
    go_wp2
    go_ret
    exact ⟨rfl, rfl⟩
  · go_enter Try.func42, Try.ntmps42
    go_wp2_with fail
    refine (take_nil w 2).mono ?_
    rintro e w1 ⟨rfl, rfl⟩
    go_wp2_with fail
    refine (number_nil w).mono ?_
    rintro e w2 ⟨rfl, rfl⟩
    go_wp2_with fail
    refine (take_nil w 0).mono ?_
    rintro e w4 ⟨rfl, rfl⟩
    go_wp2
    go_ret
    exact ⟨rfl, rfl⟩

end Go.Proofs.Ytpmpigglekgfnaa.Oct
