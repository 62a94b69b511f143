/- Profile: ProfileFits, over any profiles that do as they should. -/
import Derived.Test.YtagecoofaoaodaaPrfFtM
import Derived.Test.YtagecoofaoaodaaPut
namespace Go.Proofs.Ytagecoofaoaodaa.Prf
set_option maxRecDepth 100000
open Go.RowKit
open Go.Sort
open Kit
open Tre (Lst inI lst_keep lst_take lst_at lst_new lst_none below_drewN' run_ld2)
set_option linter.unusedVariables false
variable {w w' : World}

set_option maxHeartbeats 8000000 in
theorem fits_any (hP : Prog) (W : World) (tot8 : Int) (ab : Option Addr) (n cb : Nat) (l : List Bz) (no8 lo8 : Int) (h : Busys W ab n cb l) (h0 : 0 ≤ tot8 ∧ tot8 ≤ 255) (h1 : 0 ≤ no8 ∧ no8 ≤ 255) (h2 : 0 ≤ lo8 ∧ lo8 ≤ 255) :
    Calls Try.prog 5 #[.int .u8 tot8, .slice ab n cb, .int .u8 no8, .int .u8 lo8] W fun e w' => e = .returned (.bool true) ∧ Below W.heap.size W w' := by
  have HP := Lib.hid hP
  have HC0 := Lib.hid (rbusy_any W ab n cb l h)
  obtain ⟨h00, h01⟩ := h0
  obtain ⟨h10, h11⟩ := h1
  obtain ⟨h20, h21⟩ := h2
  have t0 : 0 ≤ tot8 % 40 := Int.emod_nonneg _ (by omega)
  have t1 : tot8 % 40 ≤ 39 := by have := Int.emod_lt_of_pos tot8 (show (0 : Int) < 40 by omega); omega
  have m0 : 0 ≤ no8 % 40 := Int.emod_nonneg _ (by omega)
  have m1 : no8 % 40 ≤ 39 := by have := Int.emod_lt_of_pos no8 (show (0 : Int) < 40 by omega); omega
  have l0 : 0 ≤ lo8 % 30 := Int.emod_nonneg _ (by omega)
  have l1 : lo8 % 30 ≤ 29 := by have := Int.emod_lt_of_pos lo8 (show (0 : Int) < 30 by omega); omega
  clear hP h
  go_enter Try.func5, Try.ntmps5
  go_wp2_with fail
  refine HC0.out.mono ?_
  rintro e w1 ⟨v1, rfl, ho1, hb1⟩
  obtain ⟨a1, c1, rfl, hl1⟩ := own_busys ho1
  obtain ⟨lb, hlb⟩ : ∃ lb, lb = busyH l := ⟨_, rfl⟩
  rw [← hlb] at hl1 ho1 ⊢
  have hmay := busyH_may (l := l)
  rw [← hlb] at hmay
  obtain ⟨nb, hnb⟩ : ∃ nb, nb = lb.length := ⟨_, rfl⟩
  rw [← hnb] at hl1 ho1 ⊢
  have hnb40 : nb ≤ 40 := by omega
  have H1 := Lib.hid (And.intro hb1 (And.intro ho1 hmay))
  have HNb := Lib.hid hnb
  clear hb1 ho1 hl1 hmay hnb hlb HC0
  go_wp2_with fail
  go_loopw [10] (fun i wr => ∃ k : Nat, k ≤ nb ∧ i = .int .i64 (k : Nat) ∧ OwZ wr W.heap.size (.slice a1 nb c1) (mixM lb k) ∧ Below W.heap.size W wr) (fun i _ => nb - (intOf i).toNat)
  case atStart => exact ⟨0, Nat.zero_le _, rfl, by simpa [mixM] using H1.out.2.1, H1.out.1⟩
  case round =>
    obtain ⟨k, hk, rfl, ho, hb⟩ := hrel
    have HO := Lib.hid (And.intro ho hb)
    clear ho hb
    by_cases hlt : k < nb
    · have hlti : (k : Int) < (nb : Int) := by omega
      have hkl : k < lb.length := by rw [← HNb.out]; exact hlt
      have hml : (mixM lb k).length = nb := by rw [mix_len _ _ (by omega), HNb.out]
      obtain ⟨g, c9, hv, hg, -, -⟩ := owns_at encZ_len HO.out.1 (by omega)
      rw [hml] at hv
      injection hv with e1 e2 e3
      subst e1 e3
      clear e2
      obtain ⟨x, hx⟩ : ∃ x, lb[k]? = some x := ⟨_, List.getElem?_eq_getElem hkl⟩
      have hma := (H1.out.2.2.1 x (List.mem_of_getElem? hx)).1
      obtain ⟨s1, s2, s3⟩ := owns_put encZ_len HO.out.1 hml (mix_at hx) (i := 0) (by omega) (fun a => ⟨x.till % 64, a.nodes⟩) (.int .i64 (x.till % 64)) (fun a => rfl)
      have hms := mix_set hx
      unfold md at hms
      rw [hms] at s3
      have s1' : wr.cell? ⟨g, k * 2, none⟩ = some (.int .i64 x.till) := s1
      have s2' : wr.frozen? ⟨g, k * 2, none⟩ = false := s2
      obtain ⟨x0, x1⟩ := hma
      generalize x.till = xt at *
      have HN := Lib.hid (And.intro s3 (HO.out.2.setCell (p := ⟨g, k * 2, none⟩) hg (.int .i64 (xt % 64))))
      clear hml hg hx s1 s2 s3 hms
      go_wp2_with fail
      go_roundw
      case rel => exact ⟨k + 1, by omega, by go_num, HN.out.1, HN.out.2⟩
      case measure => simp [intOf]; omega
    · obtain rfl : k = nb := by omega
      have hni : ¬ (k : Int) < (k : Int) := by omega
      have hend : mixM lb k = lb.map md := by rw [HNb.out]; exact mix_end lb
      rw [hend] at HO
      clear hend
      obtain ⟨lm, hlm⟩ : ∃ lm, lm = lb.map md := ⟨_, rfl⟩
      have hmm := md_may H1.out.2.2.1
      rw [← hlm] at HO hmm
      have hlml : lm.length = k := by rw [hlm, List.length_map, HNb.out]
      obtain ⟨a9, c9, hv, hl9⟩ := own_busys HO.out.1
      rw [hlml] at hv hl9
      injection hv with e1 e2 e3
      subst e1 e3
      clear e2
      have HM := Lib.hid (And.intro hmm hlml)
      have HC1 := Lib.hid (HP.out.new wr 0 (tot8 % 40) a1 k c1 lm ⟨by omega, by omega⟩ (nd8 t0 (by omega)) hl9 (fun b hb => (hmm b hb).1) (by omega))
      clear hl9 hlml hmm hlm
      go_wp2_with fail
      refine HC1.out.mono ?_
      rintro e w2 ⟨a2, c2, p, rfl, hs2, hp2, hb2⟩
      have hg2 : Pg 0 p 0 := pg_new ⟨by omega, by omega⟩ (nd8 t0 (by omega)) (fun b hb => (HM.out.1 b hb).1) (by rw [HM.out.2]; omega) hp2
      obtain ⟨np, hnp⟩ : ∃ np, np = p.length := ⟨_, rfl⟩
      rw [← hnp] at hs2 ⊢
      have H2 := Lib.hid (And.intro (below_keep HO.out.2 hb2) (And.intro hs2 (And.intro hg2 hp2)))
      have HC2 := Lib.hid (HP.out.fit w2 (no8 % 40) (1 + lo8 % 30) a2 np c2 p (nd8 m0 (by omega)) (tk8 (by omega) (by omega)) hs2 (hg2.pf (by omega)))
      clear hs2 hp2 hb2 hg2 hnp HC1
      go_wp2_with fail
      refine HC2.out.mono ?_
      rintro e w3 ⟨m, b, rfl, hf, hb3⟩
      have H3 := Lib.hid (And.intro (below_keep H2.out.1 hb3) (lst_keep encS_len H2.out.2.1 hb3))
      obtain ⟨kk, hkk⟩ : ∃ kk, kk = 1 + lo8 % 30 := ⟨_, rfl⟩
      rw [← hkk] at hf ⊢
      have k0 : 1 ≤ kk := by omega
      have k9 : kk ≤ 30 := by omega
      have hfa := fits_facts HM.out.1 H2.out.2.2.2 hf k0
      clear hb3 hf HC2 hkk
      rcases hfa with ⟨rfl, g1, g2, g3, g4⟩ | ⟨rfl, g1, rfl⟩
      · obtain ⟨mn, rfl⟩ := Int.eq_ofNat_of_zero_le g2
        obtain ⟨kn, rfl⟩ := Int.eq_ofNat_of_zero_le (show 0 ≤ kk by omega)
        have HG := Lib.hid g4
        have gm : mn ≤ 64 := by omega
        have gk : kn ≤ 30 := by omega
        clear g4 g2 g3 k0 k9
        go_wp2_with fail
        go_loopw [15] (fun i wr => ∃ k2 : Nat, k2 ≤ mn + 1 ∧ i = .int .i64 (k2 : Nat) ∧ Below w3.heap.size w3 wr) (fun i _ => mn + 1 - (intOf i).toNat)
        case atStart => exact ⟨0, Nat.zero_le _, rfl, Below.refl _ _⟩
        case round =>
          obtain ⟨k2, hk2, rfl, hb⟩ := hrel
          have HB := Lib.hid hb
          clear hb
          by_cases hlt2 : k2 ≤ mn
          · have hl2i : (k2 : Int) ≤ (mn : Int) := by omega
            obtain ⟨w0, rfl⟩ : ∃ z, z = wr := ⟨_, rfl⟩
            go_wp2_with fail
            go_loopw [16, 17] (fun fv i wr => ∃ (j : Nat) (B : Bool), j ≤ kn ∧ i = .int .i64 ((k2 : Int) + (j : Int)) ∧ fv = .bool B ∧ (B = true ↔ ∀ s, (k2 : Int) ≤ s → s < (k2 : Int) + (j : Int) → no8 % 40 ≤ val p s) ∧ Below w0.heap.size w0 wr) (fun _ i _ => k2 + kn - (intOf i).toNat)
            case atStart => exact ⟨0, true, Nat.zero_le _, by simp, rfl, ⟨fun _ s h1 h2 => by omega, fun _ => rfl⟩, Below.refl _ _⟩
            case round =>
              obtain ⟨j, B, hj, rfl, rfl, hB, hb⟩ := hrel
              have HB2 := Lib.hid (And.intro hb hB)
              clear hb hB
              by_cases hltj : j < kn
              · have hji : (k2 : Int) + (j : Int) < (k2 : Int) + (kn : Int) := by omega
                cases B
                · go_wp2_with fail
                  go_roundw
                  case rel =>
                    refine ⟨j + 1, false, by omega, by go_num, rfl, ⟨(fun h => by cases h), (fun h => by have h9 := HB2.out.2.2 fun s h1 h2 => h s h1 (by omega); cases h9)⟩, HB2.out.1⟩
                  case measure => first | (simp [intOf]; done) | (simp [intOf]; omega)
                · have HC3 := Lib.hid (HP.out.at_ wr ((k2 : Int) + (j : Int)) a2 np c2 p (tk8 (by omega) (by omega)) (lst_keep encS_len (lst_keep encS_len H3.out.2 HB.out) HB2.out.1) (H2.out.2.2.1.pf (by omega)))
                  obtain ⟨vt, hvt⟩ : ∃ vt, vt = val p ((k2 : Int) + (j : Int)) := ⟨_, rfl⟩
                  rw [← hvt] at HC3
                  have HVt := Lib.hid hvt
                  clear hvt
                  go_wp2_with fail
                  refine HC3.out.mono ?_
                  rintro e w5 ⟨rfl, hb5⟩
                  have H5 := Lib.hid (below_keep HB2.out.1 hb5)
                  clear hb5 HC3
                  by_cases hge : no8 % 40 ≤ vt
                  · go_wp2_with fail
                    go_roundw
                    case rel =>
                      refine ⟨j + 1, true, by omega, by go_num, rfl, ⟨fun _ s h1 h2 => ?_, fun _ => rfl⟩, H5.out⟩
                      by_cases hs : s = (k2 : Int) + (j : Int)
                      · rw [hs, ← HVt.out]; exact hge
                      · exact HB2.out.2.1 (by trivial) s h1 (by omega)
                    case measure => first | (simp [intOf]; done) | (simp [intOf]; omega)
                  · have hgf : decide (no8 % 40 ≤ vt) = false := decide_eq_false hge
                    have HGe := Lib.hid hge
                    clear hge
                    go_wp2_with fail
                    go_roundw
                    case rel =>
                      refine ⟨j + 1, false, by omega, by go_num, by first | rfl | rw [hgf], ⟨(fun h => by cases h), (fun h => ?_)⟩, H5.out⟩
                      have := h ((k2 : Int) + (j : Int)) (by omega) (by omega)
                      rw [← HVt.out] at this
                      exact absurd this (by have := HGe.out; omega)
                    case measure => first | (simp [intOf]; done) | (simp [intOf]; omega)
              · obtain rfl : j = kn := by omega
                have hji : ¬ (k2 : Int) + (j : Int) < (k2 : Int) + (j : Int) := by omega
                have hBf := HB2.out.2.trans (HG.out k2 (by omega) hl2i)
                by_cases hkm : (k2 : Int) = (mn : Int)
                · obtain rfl : B = true := hBf.2 hkm
                  obtain rfl : k2 = mn := by omega
                  clear hBf hkm
                  go_wp2_with fail
                  go_roundw
                  case rel => exact ⟨k2 + 1, by omega, by go_num, below_keep HB.out HB2.out.1⟩
                  case measure => first | (simp [intOf]; done) | (simp [intOf]; omega)
                · have hkf : ((k2 : Int) == (mn : Int)) = false := beq_false_of_ne hkm
                  obtain rfl : B = false := by
                    cases B
                    · rfl
                    · exact absurd (hBf.1 rfl) hkm
                  clear hBf
                  go_wp2_with fail
                  go_roundw
                  case rel => exact ⟨k2 + 1, by omega, by go_num, below_keep HB.out HB2.out.1⟩
                  case measure => first | (simp [intOf]; done) | (simp [intOf]; omega)
          · obtain rfl : k2 = mn + 1 := by omega
            have hl2i : ¬ ((mn : Int) + 1) ≤ (mn : Int) := by omega
            have HC5 := Lib.hid (awake_any HP.out wr)
            go_wp2_with fail
            refine HC5.out.mono ?_
            rintro e w7 ⟨rfl, hb7⟩
            have H7 := Lib.hid (below_keep (below_keep H3.out.1 HB.out) hb7)
            clear hb7 HC5
            go_wp2_with fail
            go_ret
            exact ⟨rfl, H7.out⟩
      · have hng : ¬ no8 % 40 ≤ tot8 % 40 := by omega
        have HC5 := Lib.hid (awake_any HP.out w3)
        go_wp2_with fail
        refine HC5.out.mono ?_
        rintro e w7 ⟨rfl, hb7⟩
        have H7 := Lib.hid (below_keep H3.out.1 hb7)
        clear hb7 HC5
        go_wp2_with fail
        go_ret
        exact ⟨rfl, H7.out⟩
end Go.Proofs.Ytagecoofaoaodaa.Prf
