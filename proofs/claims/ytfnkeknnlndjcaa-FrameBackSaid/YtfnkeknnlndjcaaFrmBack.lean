/- Frame: FrameBack, over any frame that does as it should. -/
import Derived.Test.YtfnkeknnlndjcaaFrmLaw
namespace Go.Proofs.Ytfnkeknnlndjcaa.Frm
open Go.RowKit
open Go.Sort
open Kit
open Oct
open Chk
set_option linter.unusedVariables false

theorem packA_in {E Q : Int} (l : Bs) (h : inE E Q) : packA E Q l = (packB E.toNat Q.toNat l, 0) := by unfold packA; rw [if_pos h]
set_option maxHeartbeats 4000000 in
theorem back_any (hF : Prog) (E Q : Int) (hE : 0 ≤ E ∧ E < 4294967296) (hQ : 0 ≤ Q ∧ Q < 4294967296) (aa : Option Addr) (len cap : Nat) (l : Bs) (ab : Option Addr) (leb cab : Nat) (m : Bs) (C : Int) (hC : 0 ≤ C ∧ C ≤ 65535) (W : World) (hA : Arg W aa len cap l) (hB : Arg W ab leb cab m) :
    Calls Try.prog 5 #[.int .u32 E, .int .u32 Q, .slice aa len cap, .slice ab leb cab, .int .u16 C] W fun e' w' => e' = .returned (.bool true) ∧ Below W.heap.size W w' := by
  have HA := Lib.hid hA
  have HB := Lib.hid hB
  have hx6 := cut6_le l
  have hy6 := cut6_le m
  have HAx := Lib.hid (arg_cut6 hA)
  generalize hxx : cut6 l = x at *
  have HXX := Lib.hid hxx
  have hin : inE E Q := ⟨hE, hQ⟩
  have hK : secs x.length ≤ 26 ∧ 0 < secs x.length := ⟨by unfold secs; omega, secs_pos _⟩
  have hsec : secsI (x.length : Int) = secs x.length := by unfold secsI; rw [if_neg (by omega)]; rfl
  have hpl := packB_length E.toNat Q.toNat x
  have hpk := packA_in x hin
  have hun : ∀ r, ansU (packB E.toNat Q.toNat x ++ r) = (E.toNat, Q.toNat, x, secs x.length, 0) := fun r => ansU_some (unpack_pack r (by omega) (by omega) (by omega))
  have hcu : ∀ j, j < 32 * secs x.length → ansU ((packB E.toNat Q.toNat x).take j) = (0, 0, [], 0, 3) := fun j hj => ansU_none (unpack_cut (by omega) hj)
  have hEt : ((E.toNat : Nat) : Int) = E := by omega
  have hQt : ((Q.toNat : Nat) : Int) = Q := by omega
  have HP := Lib.hid (And.intro hpk (And.intro hun (And.intro hcu (And.intro hsec (And.intro hEt (And.intro hQt (And.intro (show -9223372036854775808 ≤ E ∧ E ≤ 9223372036854775807 by omega) (show -9223372036854775808 ≤ Q ∧ Q ≤ 9223372036854775807 by omega))))))))
  generalize packB E.toNat Q.toNat x = P at *
  generalize secs x.length = K at *
  obtain ⟨cm, hcm⟩ : ∃ j : Nat, (j : Int) = C % (32 * (K : Int)) := ⟨(C % (32 * (K : Int))).toNat, by have := Int.emod_nonneg C (show (32 * (K : Int)) ≠ 0 by omega); omega⟩
  have hcl : cm < 32 * K := by
    have := Int.emod_lt_of_pos C (show 0 < 32 * (K : Int) by omega)
    omega
  have HPl := Lib.hid (And.intro hpl hcl)
  have HCm := Lib.hid hcm
  have g1 : ¬ E < 0 := by omega
  have g2 : ¬ Q < 0 := by omega
  have g3 : ¬ 4294967296 ≤ E := by omega
  have g4 : ¬ 4294967296 ≤ Q := by omega
  clear hA hB hxx hin hsec hpl hpk hun hcu hEt hQt hE hQ hcm hcl
  go_enter Try.func5, Try.ntmps5
  go_wp2_with fail
  refine (short6_any aa len cap l W HA.out).mono ?_
  rw [HXX.out]
  rintro e' w1 ⟨rfl, hw⟩
  subst hw
  go_wp2_with fail
  refine (hF.pack E Q aa x.length cap x w1 HP.out.2.2.2.2.2.2.1 HP.out.2.2.2.2.2.2.2 HAx.out (by omega)).mono ?_
  rintro e' w2 ⟨v, rfl, hv, hb⟩
  rw [HP.out.1] at hv ⊢
  simp only at hv ⊢
  obtain ⟨a2, c2, rfl, hA2⟩ := arg_new hv
  rw [HPl.out.1] at hA2 ⊢
  have HA2 := Lib.hid hA2
  have HB2 := Lib.hid hb
  have hs : Calls Try.prog 10 #[.int .i64 (x.length : Int)] w2 fun e w' => e = .returned (.int .i64 (K : Nat)) ∧ Below w2.heap.size w2 w' := by
    have := hF.sectors (x.length : Int) w2 (by omega)
    rw [HP.out.2.2.2.1] at this
    exact this
  have HS := Lib.hid hs
  have hk0 : ¬ (32 * (K : Int)) = 0 := by omega
  clear hv hb hA2 hs
  go_wp2_with fail
  refine HS.out.mono ?_
  rintro e' w3 ⟨rfl, hb⟩
  have HA3 := Lib.hid (arg_keep HA2.out hb)
  have HB3 := Lib.hid (below_keep HB2.out hb)
  have HE3 := Lib.hid (own_empty w3 w3.heap.size (Nat.le_refl _))
  clear hb
  go_wp2_with (first
    | (at_builtin; refine append_b rfl (.tmp 52) (.tmp 53) rfl w3.heap.size _ [] rfl HE3.out a2 (32 * K) c2 P rfl HA3.out.len (row_alloc HA3.out.row _) HA3.out.nil (by simp only [List.length_nil]; omega) (by simp) ?_; intro v4 w4 ho4 hb4
       have H4 := Lib.hid (And.intro ho4 ((below_alloc w3 _).trans hb4))
       clear ho4 hb4)
    | fail)
  have HB4 := Lib.hid (below_keep HB3.out H4.out.2)
  have HA4 := Lib.hid (arg_keep HA3.out H4.out.2)
  refine (short6_any ab leb cab m w4 (arg_keep HB.out HB4.out)).mono ?_
  rintro e' w5 ⟨rfl, hw⟩
  subst hw
  have HAy := Lib.hid (arg_cut6 (arg_keep HB.out HB4.out))
  generalize cut6 m = y at *
  go_wp2_with (first
    | (at_builtin; refine append_b rfl (.tmp 54) (.tmp 56) rfl w3.heap.size v4 _ rfl H4.out.1 ab y.length cab y rfl rfl HAy.out.row HAy.out.nil (by rw [List.nil_append, HPl.out.1]; omega) H4.out.2.size ?_; intro v6 w6 ho6 hb6
       obtain ⟨a6, c6, rfl, hA6⟩ := arg_new (new_own ho6)
       have hl6 : ([] ++ P ++ y).length = 32 * K + y.length := by rw [List.nil_append, List.length_append, HPl.out.1]
       rw [hl6] at hA6 ⊢
       have H6 := Lib.hid (And.intro hA6 (H4.out.2.trans hb6))
       clear ho6 hb6 hA6 hl6)
    | fail)
  refine (hF.unpack a6 (32 * K + y.length) c6 _ w6 H6.out.1 (by omega)).mono ?_
  rintro e' w7 ⟨v, rfl, hv, hb⟩
  rw [List.nil_append, HP.out.2.1] at hv ⊢
  simp only at hv ⊢
  rw [HP.out.2.2.2.2.1, HP.out.2.2.2.2.2.1]
  obtain ⟨a7, c7, rfl, hA7⟩ := arg_new hv
  have HA7 := Lib.hid hA7
  have HB36 := Lib.hid (below_keep H6.out.2 hb)
  have HB7 := Lib.hid (below_keep HB3.out HB36.out)
  have HA37 := Lib.hid (arg_keep HA3.out HB36.out)
  have hsl : (Instr.sliceAt 22 (.slice a2 (32 * K) c2) none (some (.int .i64 (cm : Int))) none).run Try.prog w7 = .ok (.slice a2 cm c2) w7 := run_cut a2 (32 * K) cm c2 (by have := HPl.out.2; omega) HA37.out.cap w7
  rw [HCm.out] at hsl
  clear hv hb hA7
  go_wp2_with fail
  clear hsl
  refine (hF.unpack a2 cm c2 (P.take cm) w7 (arg_take HA37.out cm (by have := HPl.out.2; omega)) (by have := HPl.out.2; omega)).mono ?_
  rintro e' w8 ⟨v, rfl, hv, hb⟩
  rw [HP.out.2.2.1 cm HPl.out.2] at hv ⊢
  have HA78 := Lib.hid (arg_keep HA7.out hb)
  have HB8 := Lib.hid (below_keep HB7.out hb)
  clear hv hb
  go_wp2_with fail
  refine (awake_any hF w8).mono ?_
  rintro e' w9 ⟨rfl, hb⟩
  have HB9 := Lib.hid (below_keep HB8.out hb)
  have cv1 := kcRow w9 a7 x.length c7 x (arg_keep HA78.out hb)
  have cv2 := kcRow w9 aa x.length cap x (arg_keep HAx.out HB9.out)
  clear hb
  go_wp2
  go_ret
  exact ⟨rfl, HB9.out⟩

end Go.Proofs.Ytfnkeknnlndjcaa.Frm
