/- Pool: the document's All and Take. -/
import Derived.Test.YtlhkjcggfgconaaPooRef
namespace Go.Proofs.Ytlhkjcggfgconaa.Poo
set_option maxRecDepth 100000
open Go.RowKit
open Go.Sort
open Kit
open Tre (inI)
set_option linter.unusedVariables false

theorem two_pow {k : Nat} (h : k < 32) : ∃ P : Nat, P = 2 ^ k ∧ (2 : Int) ^ k = (P : Nat) ∧ 1 ≤ P ∧ P ≤ 2147483648 :=
  ⟨2 ^ k, rfl, by rw [Int.natCast_pow]; rfl, Nat.pow_pos (by decide), Nat.pow_le_pow_right (n := 2) (by decide) (show k ≤ 31 by omega)⟩
theorem two_le {k : Nat} (h : k ≤ 32) : 1 ≤ 2 ^ k ∧ 2 ^ k ≤ 4294967296 := ⟨Nat.pow_pos (by decide), Nat.pow_le_pow_right (n := 2) (by decide) h⟩
theorem rall_any (W : World) (n : Int) (hn : inI n) : Calls Try.prog 12 #[.int .i64 n] W fun e W' => e = .returned (.int .i64 (allN n : Nat)) ∧ W = W' := by
  have hn1 := hn.1
  have hn2 := hn.2
  clear hn
  go_enter Try.func12, Try.ntmps12
  go_wp2_with fail
  go_loop [3, 4] (fun v iv => ∃ k V : Nat, k ≤ 32 ∧ k ≤ n.toNat ∧ iv = .int .i64 (k : Nat) ∧ v = .int .i64 (V : Nat) ∧ V + 1 = 2 ^ k) (fun _ iv => 32 - (intOf iv).toNat)
  case atStart => exact ⟨0, 0, by omega, by omega, rfl, rfl, rfl⟩
  case round =>
    obtain ⟨k, V, hk, hkn, rfl, rfl, hV⟩ := hrel
    have hV2 := two_le hk
    rw [← hV] at hV2
    have HV := Lib.hid hV
    have hVb : V ≤ 4294967295 := by omega
    clear hV hV2
    by_cases hlt : k < 32
    · by_cases hkn2 : (k : Int) < n
      · obtain ⟨P, hP, hP2, hP3, hP4⟩ := two_pow hlt
        have HN := Lib.hid (show V + P + 1 = 2 ^ (k + 1) by rw [Nat.pow_succ, ← hP]; have := HV.out; omega)
        clear hP
        go_wp2_with fail
        go_round
        case rel => exact ⟨k + 1, V + P, by omega, by omega, by go_num, by go_num, HN.out⟩
        case measure => simp [intOf]; omega
      · have HF := Lib.hid (show V = allN n by
          unfold allN
          rw [show min 32 n.toNat = k by omega]
          have := HV.out
          omega)
        go_wp2_with fail
        go_ret
        exact ⟨by rw [HF.out]; rfl, rfl⟩
    · obtain rfl : k = 32 := by omega
      have HF := Lib.hid (show V = allN n by
        unfold allN
        rw [show min 32 n.toNat = 32 by omega]
        have := HV.out
        omega)
      go_wp2_with fail
      go_ret
      exact ⟨by rw [HF.out]; rfl, rfl⟩
theorem take_no {U : Nat} {n : Int} (h : takeOk U n = false) : takeV U n = 0 := by unfold takeV; rw [h]; rfl
theorem take_yes {U n : Nat} (h : n ≤ cnt U) : takeOk U n = true ∧ takeV U n = pick U n 32 := by
  have h1 : takeOk U n = true := by unfold takeOk; exact decide_eq_true ⟨by omega, by omega⟩
  exact ⟨h1, by unfold takeV; rw [h1, if_pos rfl, Int.toNat_natCast]⟩
theorem rtake_any (W : World) (f n : Int) (hn : inI n) : Calls Try.prog 7 #[.int .i64 f, .int .i64 n] W fun e W' => e = .returned (.tuple #[.int .i64 (takeV (lo f) n : Nat), .bool (takeOk (lo f) n)]) ∧ W = W' := by
  have hn1 := hn.1
  have hn2 := hn.2
  clear hn
  by_cases h0 : n < 0
  · have hk : takeOk (lo f) n = false := decide_eq_false (fun h => by omega)
    have HK := Lib.hid (And.intro hk (take_no hk))
    have hn0 : ¬ (0 : Int) < n := by omega
    clear hk
    go_enter Try.func7, Try.ntmps7
    go_wp2_with fail
    go_loop [6, 7, 8] (fun ov lv iv => ov = .int .i64 0 ∧ lv = .int .i64 n ∧ iv = .int .i64 0) (fun _ _ _ => 0)
    case atStart => exact ⟨rfl, rfl, rfl⟩
    case round =>
      obtain ⟨rfl, rfl, rfl⟩ := hrel
      go_wp2_with fail
      go_ret2
      exact ⟨by rw [HK.out.1, HK.out.2]; rfl, rfl⟩
  · obtain ⟨N, rfl⟩ : ∃ N : Nat, n = (N : Int) := ⟨n.toNat, by omega⟩
    go_enter Try.func7, Try.ntmps7
    go_wp2_with fail
    go_loop [6, 7, 8] (fun ov lv iv => ∃ k : Nat, k ≤ 32 ∧ iv = .int .i64 (k : Nat) ∧ ov = .int .i64 (pick (lo f) N k : Nat) ∧ lv = .int .i64 (N - cntTo (lo f) k : Nat)) (fun _ _ iv => 32 - (intOf iv).toNat)
    case atStart => exact ⟨0, by omega, rfl, rfl, by simp [cntTo]⟩
    case round =>
      obtain ⟨k, hk, rfl, rfl, rfl⟩ := hrel
      obtain ⟨L, hL⟩ : ∃ L, L = N - cntTo (lo f) k := ⟨_, rfl⟩
      obtain ⟨O, hO⟩ : ∃ O, O = pick (lo f) N k := ⟨_, rfl⟩
      have hOb : O < 4294967296 := by
        have h1 := pick_lt (lo f) N k
        have h2 := two_le hk
        omega
      have hLb : L ≤ N := by omega
      rw [← hL, ← hO]
      by_cases hL0 : L = 0
      · have hle : N ≤ cntTo (lo f) k := by omega
        have hy := take_yes (U := lo f) (n := N) (Nat.le_trans hle (cnt_mono' hk))
        have hd := pick_done (lo f) N hle (32 - k)
        rw [show k + (32 - k) = 32 by omega, ← hO] at hd
        have HY := Lib.hid (And.intro hy.1 (hy.2.trans hd))
        clear hy hd hL hO hle
        subst hL0
        by_cases hlt : k < 32
        · go_wp2_with fail
          go_ret2
          exact ⟨by rw [HY.out.1, HY.out.2]; rfl, rfl⟩
        · obtain rfl : k = 32 := by omega
          go_wp2_with fail
          go_ret2
          exact ⟨by rw [HY.out.1, HY.out.2]; rfl, rfl⟩
      · obtain ⟨L', rfl⟩ : ∃ L', L = L' + 1 := ⟨L - 1, by omega⟩
        by_cases hlt : k < 32
        · obtain ⟨P, hP, hP2, hP3, hP4⟩ := two_pow hlt
          have HH := Lib.hid (rhas_any W f hlt)
          have HP := Lib.hid (show pick (lo f) N (k + 1) = O + (if (lo f).testBit k = true then P else 0) ∧ N - cntTo (lo f) (k + 1) = L' + 1 - (if (lo f).testBit k = true then 1 else 0) by
            rw [pick, cntTo, ← hO, ← hP]
            have h1 : cntTo (lo f) k < N := by omega
            by_cases h2 : (lo f).testBit k = true
            · rw [if_pos ⟨h2, h1⟩, if_pos h2, if_pos h2]; omega
            · rw [if_neg (fun h => h2 h.1), if_neg h2, if_neg h2]; omega)
          clear hP hL hO hL0
          go_wp2_with fail
          refine HH.out.mono ?_
          rintro e w1 ⟨rfl, rfl⟩
          cases hb : (lo f).testBit k with
          | true =>
            rw [hb] at HP
            clear hb HH
            go_wp2_with fail
            go_round
            case rel => exact ⟨k + 1, by omega, by go_num, by rw [HP.out.1]; go_num, by rw [HP.out.2]; go_num⟩
            case measure => simp [intOf]; omega
          | false =>
            rw [hb] at HP
            clear hb HH
            go_wp2_with fail
            go_round
            case rel => exact ⟨k + 1, by omega, by go_num, by rw [HP.out.1]; rfl, by rw [HP.out.2]; rfl⟩
            case measure => simp [intOf]; omega
        · obtain rfl : k = 32 := by omega
          have hno : takeOk (lo f) N = false := decide_eq_false (fun h => by have : cnt (lo f) = cntTo (lo f) 32 := rfl; omega)
          have HK := Lib.hid (And.intro hno (take_no hno))
          clear hno hL hO
          go_wp2_with fail
          go_ret2
          exact ⟨by rw [HK.out.1, HK.out.2]; rfl, rfl⟩
end Go.Proofs.Ytlhkjcggfgconaa.Poo
