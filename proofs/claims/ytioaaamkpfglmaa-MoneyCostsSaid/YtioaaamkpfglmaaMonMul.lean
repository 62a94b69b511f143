/- Money: products, call by call. -/
import Derived.Test.YtioaaamkpfglmaaMonCalls
namespace Go.Proofs.Ytioaaamkpfglmaa.Mon
open Go.RowKit

theorem size_any (n : Int) (w : World) (h1 : -1152921504606846976 ≤ n) (h2 : n ≤ 1152921504606846976) :
    Calls Try.prog 20 #[.int .i64 n] w fun e w' => e = .returned (.int .i64 (abs n)) ∧ w = w' := by
  by_cases h : n < 0
  · have HH := Lib.hid (abs_neg h)
    go_enter Try.func20, Try.ntmps20
    go_wp2
    go_ret
    exact ⟨ret_int HH.out.symm, rfl⟩
  · have HH := Lib.hid (abs_pos h)
    go_enter Try.func20, Try.ntmps20
    go_wp2
    go_ret
    exact ⟨ret_int HH.out.symm, rfl⟩

theorem ret_bool {a b : Bool} (h : a = b) : Ending.returned (.bool a) = .returned (.bool b) := by rw [h]

theorem product_any (a b : Int) (w : World) (h1 : -1152921504606846976 ≤ a) (h2 : a ≤ 1152921504606846976) (h3 : -1152921504606846976 ≤ b) (h4 : b ≤ 1152921504606846976) :
    Calls Try.prog 18 #[.int .i64 a, .int .i64 b] w fun e w' => e = .returned (.bool (fitsB (a * b))) ∧ w = w' := by
  by_cases h : b = 0
  · subst h
    have HF := Lib.hid (fits_zero a)
    go_enter Try.func18, Try.ntmps18
    go_wp2_with fail
    go_ret
    exact ⟨ret_bool HF.out.symm, rfl⟩
  · have hb : (b == 0) = false := by simpa using h
    have hq := quot_iff a b h
    have ha0 := abs_ge a
    have hb0 : 1 ≤ abs b := by unfold abs; omega
    cases hf : fitsB (a * b) with
    | false =>
      have hd : decide (abs a ≤ 1152921504606846976 / abs b) = false := by
        rw [decide_eq_false_iff_not, hq, hf]; simp
      clear hq hf h
      go_enter Try.func18, Try.ntmps18
      go_wp2_with fail
      refine (size_any a _ h1 h2).mono ?_
      rintro e w' ⟨rfl, rfl⟩
      go_wp2_with fail
      refine (size_any b _ h3 h4).mono ?_
      rintro e w' ⟨rfl, rfl⟩
      go_wp2_with fail
      go_ret
      exact ⟨rfl, rfl⟩
    | true =>
      have hd : decide (abs a ≤ 1152921504606846976 / abs b) = true := by
        rw [decide_eq_true_iff, hq, hf]
      clear hq hf h
      go_enter Try.func18, Try.ntmps18
      go_wp2_with fail
      refine (size_any a _ h1 h2).mono ?_
      rintro e w' ⟨rfl, rfl⟩
      go_wp2_with fail
      refine (size_any b _ h3 h4).mono ?_
      rintro e w' ⟨rfl, rfl⟩
      go_wp2_with fail
      go_ret
      exact ⟨rfl, rfl⟩

set_option maxHeartbeats 400000 in
theorem mul_any (a : Option Addr) (len cap : Nat) (l : List Int) (w : World) (hl : l.length = len) (hm : len ≤ maxLen) (hE : Elems w a l) :
    Calls Try.prog 12 #[.slice a len cap] w fun e w' => e = .returned (.tuple #[.int .i64 (mulN l), .int .i64 (mulE l)]) ∧ w = w' := by
  unfold maxLen at hm
  have h00 : fitsB 1 = true := by decide
  have hr0 : Rest (fun a b => a * b) (mulF l) l 1 0 := rfl
  have HL := Lib.hid hl
  have HE := Lib.hid hE
  have H00 := Lib.hid h00
  clear hl hE h00
  go_enter Try.func12, Try.ntmps12
  go_wp2
  go_loop [4, 9] (fun t i => ∃ k : Nat, ∃ s : Int, k ≤ len ∧ i = .int .i64 k ∧ t = .int .i64 s ∧ Hid (fitsB s = true) ∧ Rest (fun a b => a * b) (mulF l) l s k) (fun _ i => len - (intOf i).toNat)
  case atStart => exact ⟨0, 1, Nat.zero_le _, rfl, rfl, H00, hr0⟩
  case round =>
    obtain ⟨k, s, hk, rfl, rfl, hs, hr⟩ := hrel
    by_cases hlt : k < len
    · have hkl : k < l.length := by rw [HL.out]; exact hlt
      obtain ⟨b, off, HA, hc⟩ : ∃ b off, Hid (a = some ⟨b, off, none⟩) ∧ w.cell? ⟨b, off + k, none⟩ = some (.int .i64 (l.getD k 0)) := by
        rcases HE.out with h | ⟨b, off, h, hj⟩
        · rw [h] at hkl; simp at hkl
        · exact ⟨b, off, h, hj k hkl⟩
      have ha := HA.out
      subst ha
      generalize hx : l.getD k 0 = x at *
      have HX := Lib.hid hx
      clear hx
      cases h1 : fitsB x with
      | false =>
        have H1 := Lib.hid h1
        clear h1
        have Hn := Lib.hid (rest_no1 hr hkl (by rw [HX.out]; exact H1.out))
        go_wp2_with fail
        refine (fits_no _ _ H1.out).mono ?_
        rintro e w' ⟨rfl, rfl⟩
        go_wp2_with fail
        go_ret2
        exact ⟨ret_two (none_N Hn.out).symm (none_E Hn.out).symm, rfl⟩
      | true =>
        have hx2 := fitsB_iff.1 h1
        have hs2 := fitsB_iff.1 hs.out
        obtain ⟨hx3, hx4⟩ := hx2
        obtain ⟨hs3, hs4⟩ := hs2
        have H1 := Lib.hid h1
        clear h1
        cases h2 : fitsB (s * x) with
        | false =>
          have H2 := Lib.hid h2
          have hp := product_any s x w hs3 hs4 hx3 hx4
          rw [h2] at hp
          have HP := Lib.hid hp
          clear h2 hp
          have Hn := Lib.hid (rest_no2 hr hkl (by rw [HX.out]; exact H2.out))
          go_wp2_with fail
          refine (fits_yes _ _ H1.out).mono ?_
          rintro e w' ⟨rfl, rfl⟩
          go_wp2_with fail
          refine HP.out.mono ?_
          rintro e w' ⟨rfl, rfl⟩
          go_wp2_with fail
          go_ret2
          exact ⟨ret_two (none_N Hn.out).symm (none_E Hn.out).symm, rfl⟩
        | true =>
          have H2 := Lib.hid h2
          have hp := product_any s x w hs3 hs4 hx3 hx4
          rw [h2] at hp
          have HP := Lib.hid hp
          clear h2 hp
          have hn : Rest (fun a b => a * b) (mulF l) l (s * x) (k + 1) := by
            have := rest_step hr hkl (by rw [HX.out]; exact H1.out) (by rw [HX.out]; exact H2.out)
            rw [HX.out] at this; exact this
          obtain ⟨hy1, hy2⟩ := fitsB_iff.1 H2.out
          go_wp2_with fail
          refine (fits_yes _ _ H1.out).mono ?_
          rintro e w' ⟨rfl, rfl⟩
          go_wp2_with fail
          refine HP.out.mono ?_
          rintro e w' ⟨rfl, rfl⟩
          go_wp2_with fail
          go_round
          case rel => exact ⟨k + 1, s * x, by omega, by go_num, rfl, H2, hn⟩
          case measure => simp [intOf]; omega
    · have Hn := Lib.hid (rest_end hr (by rw [HL.out]; omega))
      go_wp2
      go_ret2
      exact ⟨ret_two (some_N Hn.out).symm (some_E Hn.out).symm, rfl⟩

end Go.Proofs.Ytioaaamkpfglmaa.Mon
