/- Pool: PoolSome and PoolTwice, over any pool that does as it should. -/
import Derived.Test.YtlhkjcggfgconaaPooLaw
import Derived.Test.YtlhkjcggfgconaaPooBit
namespace Go.Proofs.Ytlhkjcggfgconaa.Poo
set_option maxRecDepth 100000
open Go.RowKit
open Go.Sort
open Kit
open Tre (inI)
set_option linter.unusedVariables false

theorem in_nat {n : Nat} (h : n < 4294967296) : inI (n : Int) := ⟨by omega, by omega⟩
theorem pick_l (U n : Nat) : pick U n 32 < 4294967296 := pick_lt U n 32
theorem rest_bits {U n : Nat} : ∀ j, j < 32 → (less U (pick U n 32)).testBit j = (U.testBit j && !(pick U n 32).testBit j) := fun j hj => less_bit U _ (pick_l U n) j hj
theorem none_more (U n : Nat) : less (pick U n 32) U = 0 ∨ 4294967296 ≤ U := by
  by_cases h : U < 4294967296
  · refine .inl (bits_eq (less_lt (pick_l U n)) (by decide) fun j hj => ?_)
    rw [less_bit _ _ h j hj, pick_bit]
    cases hb : U.testBit j <;> simp
  · exact .inr (by omega)
/-- What is taken, and what is left. -/
theorem some_of {U K : Nat} (hU : U < 4294967296) (hK : K ≤ cnt U) : cnt (pick U K 32) = K ∧ cnt (less U (pick U K 32)) = cnt U - K ∧ less (pick U K 32) U = 0 := by
  refine ⟨?_, cnt_rest rest_bits 32 (Nat.le_refl _), (none_more U K).resolve_right (by omega)⟩
  have h := cnt_pick U K 32 (Nat.le_refl _)
  show cntTo _ 32 = _
  rw [h]
  unfold cnt at hK
  omega
theorem low_of {U K R : Nat} (hU : U < 4294967296) (hR : R = less U (pick U K 32)) (h0 : 0 < R) : ((pick U K 32 : Nat) : Int) < bits .and .i64 (R : Int) (-(R : Int)) := by
  obtain ⟨p, hp, hb, hge⟩ := low64 h0 (by rw [hR]; exact less_lt hU)
  have := pick_low (U := U) (R := R) (n := K) (by rw [hR]; exact rest_bits) hp hb
  omega
set_option maxHeartbeats 4000000 in
theorem some_any (hP : Prog) (W : World) (U b : Nat) (hU : U < 4294967296) (hb : b ≤ 255) : Calls Try.prog 4 #[.int .u32 (U : Nat), .int .u8 (b : Nat)] W fun e W' => e = .returned (.bool true) ∧ Below W.heap.size W W' := by
  obtain ⟨K, hK⟩ : ∃ K, K = b % 34 := ⟨_, rfl⟩
  have hKb : K ≤ 33 := by omega
  have hK2 : (b : Int) % 34 = (K : Nat) := by omega
  have H1 := Lib.hid (hP.take W (U : Nat) (K : Nat) (in_nat hU) (in_nat (by omega)))
  have H2 := Lib.hid (fun w => hP.count w (U : Nat) (in_nat hU))
  have H3 := Lib.hid (fun w => awake_any hP w)
  rw [lo_nat hU] at H1 H2
  have HP := Lib.hid hP
  have hC : cnt U ≤ 32 := cnt_le U 32
  clear hP hK
  go_enter Try.func4, Try.ntmps4
  by_cases hk : K ≤ cnt U
  · obtain ⟨hy1, hy2⟩ := take_yes hk
    rw [hy1, hy2] at H1
    obtain ⟨s1, s2, s3⟩ := some_of hU hk
    have hA := pick_l U K
    have hR := less_lt (a := pick U K 32) hU
    have h1 := notand64 hU hA
    have h2 := notand64 hA hU
    rw [s3] at h2
    have H4 := Lib.hid (fun w => HP.out.count w (pick U K 32 : Nat) (in_nat hA))
    have H5 := Lib.hid (fun w => HP.out.count w (less U (pick U K 32) : Nat) (in_nat hR))
    rw [lo_nat hA, s1] at H4
    rw [lo_nat hR, s2] at H5
    have HL := Lib.hid (fun R => low_of (K := K) (R := R) hU)
    obtain ⟨A, hAe⟩ : ∃ A, A = pick U K 32 := ⟨_, rfl⟩
    rw [← hAe] at H1 H4 H5 HL hA hR h1 h2
    obtain ⟨R, hRe⟩ : ∃ R, R = less U A := ⟨_, rfl⟩
    rw [← hRe] at H5 hR h1
    have HL2 := Lib.hid (fun h0 => HL.out R (by rw [← hRe]) h0)
    obtain ⟨C, hCe⟩ : ∃ C, C = cnt U := ⟨_, rfl⟩
    rw [← hCe] at H2 H5 hk hC
    have hk' : (K : Int) ≤ (C : Int) := by omega
    have hsub : (C : Int) - (K : Int) = ((C - K : Nat) : Int) := by omega
    clear hy1 hy2 s1 s2 s3 hAe hRe hCe HL hk
    have HH := Lib.hid (And.intro hK2 (And.intro h1 (And.intro h2 hsub)))
    go_wp2_with fail
    refine H1.out.mono ?_
    rintro e w1 ⟨rfl, hb1⟩
    have B1 := Lib.hid hb1
    clear hb1 H1
    go_wp2_with fail
    refine (H2.out w1).mono ?_
    rintro e w2 ⟨rfl, hb2⟩
    have B2 := Lib.hid (below_keep B1.out hb2)
    clear hb2
    go_wp2_with fail
    refine (H3.out w2).mono ?_
    rintro e w3 ⟨rfl, hb3⟩
    have B3 := Lib.hid (below_keep B2.out hb3)
    clear hb3
    go_wp2_with fail
    refine (H4.out w3).mono ?_
    rintro e w4 ⟨rfl, hb4⟩
    have B4 := Lib.hid (below_keep B3.out hb4)
    clear hb4
    go_wp2_with fail
    refine (H5.out w4).mono ?_
    rintro e w5 ⟨rfl, hb5⟩
    have B5 := Lib.hid (below_keep B4.out hb5)
    clear hb5
    go_wp2_with fail
    refine (H2.out w5).mono ?_
    rintro e w6 ⟨rfl, hb6⟩
    have B6 := Lib.hid (below_keep B5.out hb6)
    clear hb6
    by_cases hR0 : R = 0
    · subst hR0
      clear HL2
      go_wp2_with fail
      go_ret
      exact ⟨rfl, B6.out⟩
    · have hlow := HL2.out (by omega)
      clear HL2
      have hR1 : ((R : Int) == 0) = false := beq_false_of_ne (by omega)
      go_wp2_with fail
      go_ret
      exact ⟨rfl, B6.out⟩
  · have hn : takeOk U (K : Int) = false := decide_eq_false (fun h => by omega)
    rw [hn, take_no hn] at H1
    obtain ⟨C, hCe⟩ : ∃ C, C = cnt U := ⟨_, rfl⟩
    rw [← hCe] at H2 hk hC
    have hk' : ¬ (K : Int) ≤ (C : Int) := by omega
    clear hn hCe hk HP
    go_wp2_with fail
    refine H1.out.mono ?_
    rintro e w1 ⟨rfl, hb1⟩
    have B1 := Lib.hid hb1
    clear hb1 H1
    go_wp2_with fail
    refine (H2.out w1).mono ?_
    rintro e w2 ⟨rfl, hb2⟩
    have B2 := Lib.hid (below_keep B1.out hb2)
    clear hb2
    go_wp2_with fail
    refine (H3.out w2).mono ?_
    rintro e w3 ⟨rfl, hb3⟩
    have B3 := Lib.hid (below_keep B2.out hb3)
    clear hb3
    go_wp2_with fail
    go_ret
    exact ⟨rfl, B3.out⟩
theorem twice_of {U M N : Nat} (hU : U < 4294967296) (hM : M ≤ cnt U) : takeOk (less U (pick U M 32)) (N : Int) = takeOk U ((M + N : Nat) : Int) ∧ (M + N ≤ cnt U → pick U M 32 &&& pick (less U (pick U M 32)) N 32 = 0 ∧ pick U M 32 ||| pick (less U (pick U M 32)) N 32 = pick U (M + N) 32) := by
  obtain ⟨s1, s2, s3⟩ := some_of hU hM
  refine ⟨?_, fun h => ⟨?_, ?_⟩⟩
  · unfold takeOk
    rw [s2, decide_eq_decide]
    omega
  · refine bits_eq (Nat.lt_of_le_of_lt Nat.and_le_left (pick_l U M)) (by decide) fun j hj => ?_
    rw [Nat.testBit_and, pick_apart rest_bits j, Nat.zero_testBit]
  · refine bits_eq (Nat.or_lt_two_pow (n := 32) (pick_l U M) (pick_l _ N)) (pick_l _ _) fun j hj => ?_
    rw [Nat.testBit_or, pick_two rest_bits j]
set_option maxHeartbeats 4000000 in
theorem twice_any (hP : Prog) (W : World) (U b c : Nat) (hU : U < 4294967296) (hb : b ≤ 255) (hc : c ≤ 255) : Calls Try.prog 5 #[.int .u32 (U : Nat), .int .u8 (b : Nat), .int .u8 (c : Nat)] W fun e W' => e = .returned (.bool true) ∧ Below W.heap.size W W' := by
  obtain ⟨M, hM⟩ : ∃ M, M = b % 20 := ⟨_, rfl⟩
  obtain ⟨N, hN⟩ : ∃ N, N = c % 20 := ⟨_, rfl⟩
  obtain ⟨Z, hZ⟩ : ∃ Z, Z = M + N := ⟨_, rfl⟩
  have hMb : M ≤ 19 := by omega
  have hNb : N ≤ 19 := by omega
  have hZb : Z ≤ 38 := by omega
  have hM2 : (b : Int) % 20 = (M : Nat) := by omega
  have hN2 : (c : Int) % 20 = (N : Nat) := by omega
  have hZ2 : (M : Int) + (N : Int) = (Z : Nat) := by omega
  have H1 := Lib.hid (hP.take W (U : Nat) (M : Nat) (in_nat hU) (in_nat (by omega)))
  have H2 := Lib.hid (fun w => hP.take w (U : Nat) (Z : Nat) (in_nat hU) (in_nat (by omega)))
  have H3 := Lib.hid (fun w => awake_any hP w)
  rw [lo_nat hU] at H1 H2
  have HP := Lib.hid hP
  have HZ := Lib.hid hZ
  have HU := Lib.hid hU
  clear hP hM hN hZ
  go_enter Try.func5, Try.ntmps5
  by_cases hk : M ≤ cnt U
  · obtain ⟨hy1, hy2⟩ := take_yes hk
    rw [hy1, hy2] at H1
    obtain ⟨t1, t2⟩ := twice_of (N := N) hU hk
    rw [← HZ.out] at t1 t2
    have hA := pick_l U M
    have hR := less_lt (a := pick U M 32) hU
    have h1 := notand64 hU hA
    have H4 := Lib.hid (fun w => HP.out.take w (less U (pick U M 32) : Nat) (N : Nat) (in_nat hR) (in_nat (by omega)))
    rw [lo_nat hR, t1] at H4
    by_cases hz : Z ≤ cnt U
    · obtain ⟨u1, u2⟩ := t2 hz
      obtain ⟨y1, y2⟩ := take_yes hz
      have hv : takeV (less U (pick U M 32)) (N : Int) = pick (less U (pick U M 32)) N 32 := by
        unfold takeV
        rw [t1, y1, if_pos rfl, Int.toNat_natCast]
      rw [y1, hv] at H4
      rw [y1, y2] at H2
      have hB := pick_l (less U (pick U M 32)) N
      have h2 := and64 hA hB
      have h3 := or64 hA hB
      rw [u1] at h2
      rw [u2] at h3
      have hC := pick_l U Z
      generalize pick (less U (pick U M 32)) N 32 = B at H4 h2 h3 hB
      generalize pick U Z 32 = C at H2 h3 hC
      generalize less U (pick U M 32) = R at H4 h1 hR
      generalize pick U M 32 = A at H1 h1 h2 h3 hA
      clear t1 t2 u1 u2 y1 y2 hv hz hk hy1 hy2 HP
      go_wp2_with fail
      refine H1.out.mono ?_
      rintro e w1 ⟨rfl, hb1⟩
      have B1 := Lib.hid hb1
      clear hb1 H1
      go_wp2_with fail
      refine (H4.out w1).mono ?_
      rintro e w2 ⟨rfl, hb2⟩
      have B2 := Lib.hid (below_keep B1.out hb2)
      clear hb2
      go_wp2_with fail
      refine (H2.out w2).mono ?_
      rintro e w3 ⟨rfl, hb3⟩
      have B3 := Lib.hid (below_keep B2.out hb3)
      clear hb3
      go_wp2_with fail
      refine (H3.out w3).mono ?_
      rintro e w4 ⟨rfl, hb4⟩
      have B4 := Lib.hid (below_keep B3.out hb4)
      clear hb4
      go_wp2_with fail
      go_ret
      exact ⟨rfl, B4.out⟩
    · have y1 : takeOk U (Z : Int) = false := decide_eq_false (fun h => by omega)
      have hv : takeV (less U (pick U M 32)) (N : Int) = 0 := take_no (t1.trans y1)
      rw [y1, hv] at H4
      rw [y1, take_no y1] at H2
      have h2 := and64 hA (show (0 : Nat) < 4294967296 by decide)
      rw [Nat.and_zero] at h2
      generalize less U (pick U M 32) = R at H4 h1 hR
      generalize pick U M 32 = A at H1 h1 h2 hA
      clear t1 t2 y1 hv hz hk hy1 hy2 HP
      go_wp2_with fail
      refine H1.out.mono ?_
      rintro e w1 ⟨rfl, hb1⟩
      have B1 := Lib.hid hb1
      clear hb1 H1
      go_wp2_with fail
      refine (H4.out w1).mono ?_
      rintro e w2 ⟨rfl, hb2⟩
      have B2 := Lib.hid (below_keep B1.out hb2)
      clear hb2
      go_wp2_with fail
      refine (H2.out w2).mono ?_
      rintro e w3 ⟨rfl, hb3⟩
      have B3 := Lib.hid (below_keep B2.out hb3)
      clear hb3
      go_wp2_with fail
      refine (H3.out w3).mono ?_
      rintro e w4 ⟨rfl, hb4⟩
      have B4 := Lib.hid (below_keep B3.out hb4)
      clear hb4
      go_wp2_with fail
      go_ret
      exact ⟨rfl, B4.out⟩
  · have hn : takeOk U (M : Int) = false := decide_eq_false (fun h => by omega)
    rw [hn, take_no hn] at H1
    clear hn hk HP
    go_wp2_with fail
    refine H1.out.mono ?_
    rintro e w1 ⟨rfl, hb1⟩
    have B1 := Lib.hid hb1
    clear hb1 H1
    go_wp2_with fail
    refine (H3.out w1).mono ?_
    rintro e w3 ⟨rfl, hb3⟩
    have B3 := Lib.hid (below_keep B1.out hb3)
    clear hb3
    go_wp2_with fail
    go_ret
    exact ⟨rfl, B3.out⟩
end Go.Proofs.Ytlhkjcggfgconaa.Poo
