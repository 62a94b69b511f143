/- Money: what each function of package money answers, call by call. -/
import Derived.Test.YtmlbdmfmaebdeaaChecked
import Derived.Test.YtmlbdmfmaebdeaaMonMath
import Derived.WalkKit
import Derived.WalkSpells
import Derived.LoopTactic
import Derived.Lib.Hide
import Derived.Below
import Derived.Deep.QuietTactic
import Derived.BigQuiet
namespace Go.Proofs.Ytmlbdmfmaebdeaa.Mon
open Go.RowKit

theorem ret_int {k : IntKind} {a b : Int} (h : a = b) : Ending.returned (.int k a) = .returned (.int k b) := by rw [h]
theorem ret_two {a b c d : Int} (h : a = c) (g : b = d) : Ending.returned (.tuple #[.int .i64 a, .int .i64 b]) = .returned (.tuple #[.int .i64 c, .int .i64 d]) := by rw [h, g]

theorem fits_yes (n : Int) (w : World) (h : fitsB n = true) : Calls Try.prog 29 #[.int .i64 n] w fun e w' => e = .returned (.bool true) ∧ w = w' := by
  obtain ⟨h1, h2⟩ := fitsB_iff.1 h
  clear h
  go_enter Try.func29, Try.ntmps29
  go_wp2
  go_ret
  exact ⟨rfl, rfl⟩

theorem fits_no (n : Int) (w : World) (h : fitsB n = false) : Calls Try.prog 29 #[.int .i64 n] w fun e w' => e = .returned (.bool false) ∧ w = w' := by
  have h1 := fitsB_no.1 h
  clear h
  by_cases h2 : -1152921504606846976 ≤ n
  · have h3 : decide (n ≤ 1152921504606846976) = false := by simp; omega
    clear h1
    go_enter Try.func29, Try.ntmps29
    go_wp2
    go_ret
    exact ⟨rfl, rfl⟩
  · have h3 : decide (-1152921504606846976 ≤ n) = false := by simp; omega
    clear h1
    go_enter Try.func29, Try.ntmps29
    go_wp2
    go_ret
    exact ⟨rfl, rfl⟩

/-- The numbers of a slice can be read. -/
def Elems (w : World) (a : Option Addr) (l : List Int) : Prop :=
  l = [] ∨ ∃ b off, a = some ⟨b, off, none⟩ ∧ ∀ j, j < l.length → w.cell? ⟨b, off + j, none⟩ = some (.int .i64 (l.getD j 0))

set_option maxHeartbeats 400000 in
theorem add_any (a : Option Addr) (len cap : Nat) (l : List Int) (w : World) (hl : l.length = len) (hm : len ≤ maxLen) (hE : Elems w a l) :
    Calls Try.prog 23 #[.slice a len cap] w fun e w' => e = .returned (.tuple #[.int .i64 (addN l), .int .i64 (addE l)]) ∧ w = w' := by
  unfold maxLen at hm
  have h00 : fitsB 0 = true := by decide
  have hr0 : Rest (fun a b => a + b) (addF l) l 0 0 := rfl
  have HL := Lib.hid hl
  have HE := Lib.hid hE
  have H00 := Lib.hid h00
  clear hl hE h00
  go_enter Try.func23, Try.ntmps23
  go_wp2
  go_loop [4, 9] (fun t i => ∃ k : Nat, ∃ s : Int, k ≤ len ∧ i = .int .i64 k ∧ t = .int .i64 s ∧ Hid (fitsB s = true) ∧ Rest (fun a b => a + b) (addF l) l s k) (fun _ i => len - (intOf i).toNat)
  case atStart => exact ⟨0, 0, Nat.zero_le _, rfl, rfl, H00, hr0⟩
  case round =>
    obtain ⟨k, s, hk, rfl, rfl, hs, hr⟩ := hrel
    by_cases hlt : k < len
    · have hkl : k < l.length := by rw [HL.out]; exact hlt
      obtain ⟨b, off, HA, hc⟩ : ∃ b off, Hid (a = some ⟨b, off, none⟩) ∧ w.cell? ⟨b, off + k, none⟩ = some (.int .i64 (l.getD k 0)) := by
        rcases HE.out with h | ⟨b, off, h, hj⟩
        · rw [h] at hkl; simp at hkl
        · exact ⟨b, off, h, hj k hkl⟩
      have ha := HA.out
      subst ha
      generalize hx : l.getD k 0 = x at *
      have HX := Lib.hid hx
      clear hx
      cases h1 : fitsB x with
      | false =>
        have H1 := Lib.hid h1
        clear h1
        have Hn := Lib.hid (rest_no1 hr hkl (by rw [HX.out]; exact H1.out))
        go_wp2_with (go_at_call 29; refine (fits_no _ _ H1.out).mono ?_; rintro e w' ⟨rfl, rfl⟩)
        go_ret2
        exact ⟨ret_two (none_N Hn.out).symm (none_E Hn.out).symm, rfl⟩
      | true =>
        have hx2 := fitsB_iff.1 h1
        have hs2 := fitsB_iff.1 hs.out
        obtain ⟨hx3, hx4⟩ := hx2
        obtain ⟨hs3, hs4⟩ := hs2
        have H1 := Lib.hid h1
        clear h1
        cases h2 : fitsB (s + x) with
        | false =>
          have H2 := Lib.hid h2
          clear h2
          have Hn := Lib.hid (rest_no2 hr hkl (by rw [HX.out]; exact H2.out))
          go_wp2_with fail
          refine (fits_yes _ _ H1.out).mono ?_
          rintro e w' ⟨rfl, rfl⟩
          go_wp2_with fail
          refine (fits_no _ _ H2.out).mono ?_
          rintro e w' ⟨rfl, rfl⟩
          go_wp2_with fail
          go_ret2
          exact ⟨ret_two (none_N Hn.out).symm (none_E Hn.out).symm, rfl⟩
        | true =>
          have H2 := Lib.hid h2
          clear h2
          have hn : Rest (fun a b => a + b) (addF l) l (s + x) (k + 1) := by
            have := rest_step hr hkl (by rw [HX.out]; exact H1.out) (by rw [HX.out]; exact H2.out)
            rw [HX.out] at this; exact this
          go_wp2_with fail
          refine (fits_yes _ _ H1.out).mono ?_
          rintro e w' ⟨rfl, rfl⟩
          go_wp2_with fail
          refine (fits_yes _ _ H2.out).mono ?_
          rintro e w' ⟨rfl, rfl⟩
          go_wp2_with fail
          go_round
          case rel => exact ⟨k + 1, s + x, by omega, by go_num, rfl, H2, hn⟩
          case measure => simp [intOf]; omega
    · have Hn := Lib.hid (rest_end hr (by rw [HL.out]; omega))
      go_wp2
      go_ret2
      exact ⟨ret_two (some_N Hn.out).symm (some_E Hn.out).symm, rfl⟩

end Go.Proofs.Ytmlbdmfmaebdeaa.Mon
