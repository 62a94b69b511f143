/- Pool: the landed program's All, Count, Take. -/
import Derived.Test.YtlhkjcggfgconaaPooMem
import Derived.Test.YtlhkjcggfgconaaPooRef
import Derived.Test.YtlhkjcggfgconaaPooTak
import Derived.Test.YtlhkjcggfgconaaPooBit
namespace Go.Proofs.Ytlhkjcggfgconaa.Poo
set_option maxRecDepth 100000
open Go.RowKit
open Go.Sort
open Kit
open Tre (inI)
set_option linter.unusedVariables false

theorem or_add {V k : Nat} (h : V < 2 ^ k) : V ||| 2 ^ k = V + 2 ^ k := by
  have := Nat.two_pow_add_eq_or_of_lt h 1
  rw [Nat.mul_one] at this
  rw [Nat.or_comm, ← this, Nat.add_comm]
theorem has_any (W : World) (m : Int) {k : Nat} (hk : k < 32) : Calls Try.prog 13 #[.int .i64 m, .int .i64 (k : Nat)] W fun e W' => e = .returned (.bool ((lo m).testBit k)) ∧ W = W' := by
  have hb : (Go.bits .and .i64 (m / 2 ^ k) 1 == 1) = (lo m).testBit k := by
    rw [and_one, lo_bit m hk]; rfl
  have HB := Lib.hid hb
  clear hb
  go_enter Try.func13, Try.ntmps13
  go_wp2_with fail
  go_ret
  exact ⟨by rw [← HB.out]; rfl, rfl⟩
theorem count_any (W : World) (m : Int) : Calls Try.prog 9 #[.int .i64 m] W fun e W' => e = .returned (.int .i64 (cnt (lo m) : Nat)) ∧ W = W' := by
  go_enter Try.func9, Try.ntmps9
  go_wp2_with fail
  go_loop [3, 4, 5] (fun v xv iv => ∃ k : Nat, k ≤ 32 ∧ iv = .int .i64 (k : Nat) ∧ v = .int .i64 (cntTo (lo m) k : Nat)) (fun _ _ iv => 32 - (intOf iv).toNat)
  case atStart => exact ⟨0, by omega, rfl, rfl⟩
  case round =>
    obtain ⟨k, hk, rfl, rfl⟩ := hrel
    obtain ⟨c, hc⟩ : ∃ c, c = cntTo (lo m) k := ⟨_, rfl⟩
    have hcl := cnt_le (lo m) k
    rw [← hc] at hcl ⊢
    by_cases hlt : k < 32
    · have HH := Lib.hid (has_any W m hlt)
      have hn : cntTo (lo m) (k + 1) = c + (if (lo m).testBit k then 1 else 0) := by rw [cntTo, hc]
      have HN := Lib.hid hn
      clear hn hc
      go_wp2_with fail
      refine HH.out.mono ?_
      rintro e w1 ⟨rfl, rfl⟩
      cases hb : (lo m).testBit k with
      | true =>
        rw [hb] at HN
        clear hb HH
        go_wp2_with fail
        go_round
        case rel => exact ⟨k + 1, by omega, by go_num, by rw [HN.out]; go_num⟩
        case measure => simp [intOf]; omega
      | false =>
        rw [hb] at HN
        clear hb HH
        go_wp2_with fail
        go_round
        case rel => exact ⟨k + 1, by omega, by go_num, by rw [HN.out]; rfl⟩
        case measure => simp [intOf]; omega
    · obtain rfl : k = 32 := by omega
      have HC := Lib.hid hc
      clear hc
      go_wp2_with fail
      go_ret
      exact ⟨by rw [HC.out]; rfl, rfl⟩
theorem all_any (W : World) (n : Int) (hn : inI n) : Calls Try.prog 11 #[.int .i64 n] W fun e W' => e = .returned (.int .i64 (allN n : Nat)) ∧ W = W' := by
  have hn1 := hn.1
  have hn2 := hn.2
  clear hn
  by_cases hm : 32 < n
  · go_enter Try.func11, Try.ntmps11
    go_wp2_with fail
    go_loop [3, 4, 7] (fun v xv iv => ∃ k V : Nat, k ≤ 32 ∧ k ≤ n.toNat ∧ iv = .int .i64 (k : Nat) ∧ v = .int .i64 (V : Nat) ∧ V + 1 = 2 ^ k) (fun _ _ iv => 32 - (intOf iv).toNat)
    case atStart => exact ⟨0, 0, by omega, by omega, rfl, rfl, rfl⟩
    case round =>
      obtain ⟨k, V, hk, hkn, rfl, rfl, hV⟩ := hrel
      have hV2 := two_le hk
      rw [← hV] at hV2
      have HV := Lib.hid hV
      have hVb : V ≤ 4294967295 := by omega
      have hlt2 : V < 2 ^ k := by omega
      clear hV hV2
      by_cases hlt : k < 32
      · obtain ⟨P, hP, hP2, hP3, hP4⟩ := two_pow (show k < 32 by omega)
        have HN := Lib.hid (show V + P + 1 = 2 ^ (k + 1) by rw [Nat.pow_succ, ← hP]; have := HV.out; omega)
        have hor : Go.bits .or .i64 (V : Int) (P : Int) = ((V + P : Nat) : Int) := by
          rw [or64 (by omega) (by omega), hP, or_add hlt2]
        clear hP hlt2
        go_wp2_with fail
        go_round
        case rel => exact ⟨k + 1, V + P, by omega, by omega, by go_num, by go_num, HN.out⟩
        case measure => simp [intOf]; omega
      · have HF := Lib.hid (show V = allN n by
          unfold allN
          rw [show min 32 n.toNat = k by omega]
          have := HV.out
          omega)
        clear hlt2
        go_wp2_with fail
        go_ret
        exact ⟨by rw [HF.out]; rfl, rfl⟩
  · go_enter Try.func11, Try.ntmps11
    go_wp2_with fail
    go_loop [3, 4, 7] (fun v xv iv => ∃ k V : Nat, k ≤ 32 ∧ k ≤ n.toNat ∧ iv = .int .i64 (k : Nat) ∧ v = .int .i64 (V : Nat) ∧ V + 1 = 2 ^ k) (fun _ _ iv => 32 - (intOf iv).toNat)
    case atStart => exact ⟨0, 0, by omega, by omega, rfl, rfl, rfl⟩
    case round =>
      obtain ⟨k, V, hk, hkn, rfl, rfl, hV⟩ := hrel
      have hV2 := two_le hk
      rw [← hV] at hV2
      have HV := Lib.hid hV
      have hVb : V ≤ 4294967295 := by omega
      have hlt2 : V < 2 ^ k := by omega
      clear hV hV2
      by_cases hlt : (k : Int) < n
      · obtain ⟨P, hP, hP2, hP3, hP4⟩ := two_pow (show k < 32 by omega)
        have HN := Lib.hid (show V + P + 1 = 2 ^ (k + 1) by rw [Nat.pow_succ, ← hP]; have := HV.out; omega)
        have hor : Go.bits .or .i64 (V : Int) (P : Int) = ((V + P : Nat) : Int) := by
          rw [or64 (by omega) (by omega), hP, or_add hlt2]
        clear hP hlt2
        go_wp2_with fail
        go_round
        case rel => exact ⟨k + 1, V + P, by omega, by omega, by go_num, by go_num, HN.out⟩
        case measure => simp [intOf]; omega
      · have HF := Lib.hid (show V = allN n by
          unfold allN
          rw [show min 32 n.toNat = k by omega]
          have := HV.out
          omega)
        clear hlt2
        go_wp2_with fail
        go_ret
        exact ⟨by rw [HF.out]; rfl, rfl⟩
theorem take_any (W : World) (f n : Int) (hn : inI n) : Calls Try.prog 6 #[.int .i64 f, .int .i64 n] W fun e W' => e = .returned (.tuple #[.int .i64 (takeV (lo f) n : Nat), .bool (takeOk (lo f) n)]) ∧ W = W' := by
  have hn1 := hn.1
  have hn2 := hn.2
  clear hn
  by_cases h0 : n < 0
  · have hk : takeOk (lo f) n = false := decide_eq_false (fun h => by omega)
    have HK := Lib.hid (And.intro hk (take_no hk))
    have hn0 : ¬ (0 : Int) < n := by omega
    have hne : ¬ n = 0 := by omega
    clear hk
    go_enter Try.func6, Try.ntmps6
    go_wp2_with fail
    go_loop [6, 7, 8, 10] (fun ov lv xv iv => ∃ k : Nat, k ≤ 32 ∧ iv = .int .i64 (k : Nat) ∧ ov = .int .i64 0 ∧ lv = .int .i64 n) (fun _ _ _ iv => 32 - (intOf iv).toNat)
    case atStart => exact ⟨0, by omega, rfl, rfl, rfl⟩
    case round =>
      obtain ⟨k, hk, rfl, rfl, rfl⟩ := hrel
      by_cases hlt : k < 32
      · go_wp2_with fail
        go_round
        case rel => exact ⟨k + 1, by omega, by go_num, rfl, rfl⟩
        case measure => simp [intOf]; omega
      · obtain rfl : k = 32 := by omega
        go_wp2_with fail
        go_ret2
        exact ⟨by rw [HK.out.1, HK.out.2]; rfl, rfl⟩
  · obtain ⟨N, rfl⟩ : ∃ N : Nat, n = (N : Int) := ⟨n.toNat, by omega⟩
    go_enter Try.func6, Try.ntmps6
    go_wp2_with fail
    go_loop [6, 7, 8, 10] (fun ov lv xv iv => ∃ k : Nat, k ≤ 32 ∧ iv = .int .i64 (k : Nat) ∧ ov = .int .i64 (pick (lo f) N k : Nat) ∧ lv = .int .i64 (N - cntTo (lo f) k : Nat)) (fun _ _ _ iv => 32 - (intOf iv).toNat)
    case atStart => exact ⟨0, by omega, rfl, rfl, by simp [cntTo]⟩
    case round =>
      obtain ⟨k, hk, rfl, rfl, rfl⟩ := hrel
      obtain ⟨L, hL⟩ : ∃ L, L = N - cntTo (lo f) k := ⟨_, rfl⟩
      obtain ⟨O, hO⟩ : ∃ O, O = pick (lo f) N k := ⟨_, rfl⟩
      have hOlt : O < 2 ^ k := by rw [hO]; exact pick_lt (lo f) N k
      have hOb : O < 4294967296 := by
        have h2 := two_le hk
        omega
      have hLb : L ≤ N := by omega
      rw [← hL, ← hO]
      by_cases hlt : k < 32
      · obtain ⟨P, hP, hP2, hP3, hP4⟩ := two_pow hlt
        have hor : Go.bits .or .i64 (O : Int) (P : Int) = ((O + P : Nat) : Int) := by
          rw [or64 hOb (by omega), hP, or_add hOlt]
        by_cases hL0 : L = 0
        · have hle : N ≤ cntTo (lo f) k := by omega
          have HP := Lib.hid (show pick (lo f) N (k + 1) = O ∧ N - cntTo (lo f) (k + 1) = 0 by
            have h3 := cnt_mono (lo f) k 1
            rw [pick, if_neg (fun h => by omega), ← hO]
            exact ⟨rfl, by omega⟩)
          clear hP hL hO hOlt hle hor
          subst hL0
          go_wp2_with fail
          go_round
          case rel => exact ⟨k + 1, by omega, by go_num, by rw [HP.out.1], by rw [HP.out.2]⟩
          case measure => simp [intOf]; omega
        · obtain ⟨L', rfl⟩ : ∃ L', L = L' + 1 := ⟨L - 1, by omega⟩
          have HH := Lib.hid (has_any W f hlt)
          have HP := Lib.hid (show pick (lo f) N (k + 1) = O + (if (lo f).testBit k = true then P else 0) ∧ N - cntTo (lo f) (k + 1) = L' + 1 - (if (lo f).testBit k = true then 1 else 0) by
            rw [pick, cntTo, ← hO, ← hP]
            have h1 : cntTo (lo f) k < N := by omega
            by_cases h2 : (lo f).testBit k = true
            · rw [if_pos ⟨h2, h1⟩, if_pos h2, if_pos h2]; omega
            · rw [if_neg (fun h => h2 h.1), if_neg h2, if_neg h2]; omega)
          clear hP hL hO hL0 hOlt
          go_wp2_with fail
          refine HH.out.mono ?_
          rintro e w1 ⟨rfl, rfl⟩
          cases hb : (lo f).testBit k with
          | true =>
            rw [hb] at HP
            clear hb HH
            go_wp2_with fail
            go_round
            case rel => exact ⟨k + 1, by omega, by go_num, by rw [HP.out.1]; go_num, by rw [HP.out.2]; go_num⟩
            case measure => simp [intOf]; omega
          | false =>
            rw [hb] at HP
            clear hb HH hor
            go_wp2_with fail
            go_round
            case rel => exact ⟨k + 1, by omega, by go_num, by rw [HP.out.1]; rfl, by rw [HP.out.2]; rfl⟩
            case measure => simp [intOf]; omega
      · obtain rfl : k = 32 := by omega
        have hc : cnt (lo f) = cntTo (lo f) 32 := rfl
        by_cases hL0 : L = 0
        · have hy := take_yes (U := lo f) (n := N) (by omega)
          have HY := Lib.hid (And.intro hy.1 (hy.2.trans hO.symm))
          clear hy hL hO hOlt hc
          subst hL0
          go_wp2_with fail
          go_ret2
          exact ⟨by rw [HY.out.1, HY.out.2]; rfl, rfl⟩
        · have hno : takeOk (lo f) N = false := decide_eq_false (fun h => by omega)
          have HK := Lib.hid (And.intro hno (take_no hno))
          clear hno hL hO hOlt hc
          go_wp2_with fail
          go_ret2
          exact ⟨by rw [HK.out.1, HK.out.2]; rfl, rfl⟩
theorem pool_prog : Prog where
  all W n hn := (all_any W n hn).mono fun e W' ⟨h1, h2⟩ => ⟨h1, h2 ▸ Below.refl _ _⟩
  count W m hm := (count_any W m).mono fun e W' ⟨h1, h2⟩ => ⟨h1, h2 ▸ Below.refl _ _⟩
  take W f n hf hn := (take_any W f n hn).mono fun e W' ⟨h1, h2⟩ => ⟨h1, h2 ▸ Below.refl _ _⟩
end Go.Proofs.Ytlhkjcggfgconaa.Poo
