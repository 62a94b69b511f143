/- Profile: the laws' fixed fact, over any profiles that do as they should. -/
import Derived.Test.YtagecoofaoaodaaPrfPg
import Derived.Test.YtagecoofaoaodaaPrfAns
namespace Go.Proofs.Ytagecoofaoaodaa.Prf
set_option maxRecDepth 100000
open Go.RowKit
open Go.Sort
open Kit
open Tre (Lst inI lst_keep lst_take lst_at lst_new lst_none below_drewN' run_ld2)
set_option linter.unusedVariables false
variable {w w' : World}

abbrev zA : List Bz := [⟨5, 3⟩]
abbrev pA : List St := [⟨0, 1⟩, ⟨5, 4⟩]
abbrev pB : List St := [⟨0, 0⟩, ⟨5, 4⟩]
theorem val_pA (t : Int) : val pA t = if 5 ≤ t then 4 else if 0 ≤ t then 1 else 0 := rfl
theorem val_pB (t : Int) : val pB t = if 5 ≤ t then 4 else if 0 ≤ t then 0 else 0 := rfl
theorem zA_may : ∀ b ∈ zA, b.may := by
  intro b hb
  rw [List.mem_singleton] at hb
  subst hb
  exact ⟨⟨by simp, by simp⟩, ⟨by simp, by simp⟩⟩
theorem isP_pA : IsP pA (newF 4 zA) 0 := by
  refine ⟨⟨by simp, by simp, trivial⟩, ⟨_, _, rfl⟩, fun t ht => ?_⟩
  rw [val_pA]
  show _ = 4 - ((if t < 5 then 3 else 0) + 0)
  by_cases h : 5 ≤ t
  · rw [if_pos h, if_neg (by omega)]; rfl
  · rw [if_neg h, if_pos ht, if_pos (by omega)]; rfl
theorem isP_pB : IsP pB (takeF pA 0 5 1) 0 := by
  refine ⟨⟨by simp, by simp, trivial⟩, ⟨_, _, rfl⟩, fun t ht => ?_⟩
  rw [val_pB]
  unfold takeF
  rw [val_pA]
  by_cases h : 5 ≤ t
  · rw [if_pos h, if_pos h, if_neg (by omega)]; rfl
  · rw [if_neg h, if_neg h, if_pos ht, if_pos ht, if_pos (by omega)]; rfl
theorem isF_pA : IsF pA 2 9 5 true := by
  refine .inl ⟨rfl, _, _, rfl, by simp, fun t h1 h2 => ?_, fun m h1 h2 h => ?_⟩
  · rw [val_pA, if_pos h1]; decide
  · have h3 := h m (Int.le_refl _) (by show m < m + 9; omega)
    rw [val_pA, if_neg (by omega), if_pos h1] at h3
    exact absurd h3 (by decide)
theorem pg_pA : Pg 0 pA 0 := pg_new ⟨by omega, by omega⟩ ⟨by omega, by omega⟩ zA_may (by simp) isP_pA
theorem pf_pA : Pf pA := pg_pA.pf (by omega)
abbrev wZ (w : World) : World := w.alloc (.cells #[.int .i64 5, .int .i64 3] 38)
abbrev wS (w : World) (f : Int) : World := w.alloc (.cells #[.int .i64 0, .int .i64 f, .int .i64 5, .int .i64 4] 40)
set_option maxHeartbeats 4000000 in
theorem awake_any (hP : Prog) (w : World) : Calls Try.prog 18 #[] w fun e w' => e = .returned (.bool true) ∧ Below w.heap.size w w' := by
  have HP := Lib.hid hP
  have H1 := Lib.hid (below_alloc w (.cells #[.int .i64 5, .int .i64 3] 38))
  have HC1 := Lib.hid (hP.new (wZ w) 0 4 (some ⟨w.heap.size, 0, none⟩) 1 1 zA ⟨by omega, by omega⟩ ⟨by omega, by omega⟩ (lst_new encZ_len w zA _ _ _ 1 rfl rfl rfl (by omega)) zA_may (by omega))
  clear hP
  go_enter Try.func18, Try.ntmps18
  go_wp2_with fail
  refine HC1.out.mono ?_
  rintro e w2 ⟨a2, c2, p, rfl, hs2, hp2, hb2⟩
  obtain rfl : pA = p := isP_one isP_pA hp2
  simp only [List.length_cons, List.length_nil, Nat.zero_add, Nat.reduceAdd] at hs2 ⊢
  have H2 := Lib.hid (And.intro (below_keep H1.out hb2) hs2)
  have HC2 := Lib.hid (HP.out.fit w2 2 9 a2 2 c2 pA ⟨by omega, by omega⟩ ⟨by omega, by omega⟩ hs2 pf_pA)
  clear hb2 hs2 hp2 HC1
  go_wp2_with fail
  refine HC2.out.mono ?_
  rintro e w3 ⟨m, b, rfl, hf, hb3⟩
  obtain ⟨rfl, rfl⟩ := isF_one isF_pA hf
  have H3 := Lib.hid (And.intro (below_keep H2.out.1 hb3) (lst_keep encS_len H2.out.2 hb3))
  have H4 := Lib.hid (And.intro (below_keep H3.out.1 (below_alloc w3 (.cells #[.int .i64 0, .int .i64 1, .int .i64 5, .int .i64 4] 40))) (lst_keep encS_len H3.out.2 (below_alloc w3 (.cells #[.int .i64 0, .int .i64 1, .int .i64 5, .int .i64 4] 40))))
  have HC3 := Lib.hid (rsame_any a2 (some ⟨w3.heap.size, 0, none⟩) 2 c2 2 pA (wS w3 1) H4.out.2 (lst_new encS_len w3 pA _ _ _ 2 rfl rfl rfl (by omega)))
  clear hb3 hf HC2
  go_wp2_with fail
  refine HC3.out.mono ?_
  rintro e w5 ⟨rfl, hb5⟩
  have H5 := Lib.hid (And.intro (below_keep H4.out.1 hb5) (lst_keep encS_len H4.out.2 hb5))
  have HC4 := Lib.hid (HP.out.take w5 0 5 1 a2 2 c2 pA ⟨by omega, by omega⟩ (by omega) ⟨by omega, by omega⟩ ⟨by omega, by omega⟩ H5.out.2 pf_pA)
  clear hb5 HC3
  go_wp2_with fail
  refine HC4.out.mono ?_
  rintro e w6 ⟨a6, c6, q, rfl, hs6, -, hq6, hb6⟩
  obtain rfl : pB = q := isP_one isP_pB (hq6 _ _ rfl)
  simp only [List.length_cons, List.length_nil, Nat.zero_add, Nat.reduceAdd] at hs6 ⊢
  have H6 := Lib.hid (And.intro (below_keep H5.out.1 hb6) (And.intro (lst_keep encS_len H5.out.2 hb6) hs6))
  have hb7 := below_alloc w6 (.cells #[.int .i64 0, .int .i64 0, .int .i64 5, .int .i64 4] 40)
  have H7 := Lib.hid (And.intro (below_keep H6.out.1 hb7) (lst_keep encS_len H6.out.2.1 hb7))
  have HC5 := Lib.hid (rsame_any a6 (some ⟨w6.heap.size, 0, none⟩) 2 c6 2 pB (wS w6 0) (lst_keep encS_len H6.out.2.2 hb7) (lst_new encS_len w6 pB _ _ _ 2 rfl rfl rfl (by omega)))
  clear hb6 hb7 hq6 hs6 HC4
  go_wp2_with fail
  refine HC5.out.mono ?_
  rintro e w8 ⟨rfl, hb8⟩
  have H8 := Lib.hid (And.intro (below_keep H7.out.1 hb8) (lst_keep encS_len H7.out.2 hb8))
  have HC6 := Lib.hid (HP.out.at_ w8 4 a2 2 c2 pA ⟨by omega, by omega⟩ H8.out.2 pf_pA)
  rw [show val pA 4 = 1 from rfl] at HC6
  clear hb8 HC5
  go_wp2_with fail
  refine HC6.out.mono ?_
  rintro e w9 ⟨rfl, hb9⟩
  have H9 := Lib.hid (below_keep H8.out.1 hb9)
  clear hb9
  go_wp2_with fail
  go_ret
  exact ⟨rfl, H9.out⟩
end Go.Proofs.Ytagecoofaoaodaa.Prf
