/- TreeUp answers true for any list of funds and any number, the list read afterwards as it was: of its first 20, where they may be, each path ends at a fund that has none above it, goes down in places, and each fund on it has the rest as its own. No condition. -/
import Derived.Test.YtpciijihedlheaaRows
import Derived.WalkKit
import Derived.ProofKit
import Derived.OpenShut
import Derived.ShutString
import Derived.ChangeOld
import Derived.Below
import Derived.Test.YtpciijihedlheaaOpens
import Derived.Test.YtpciijihedlheaaTreUpR
namespace Go.Proofs.Ytpciijihedlheaa.treeUp
open Go.ChangeShapes Go.WideShapes Go.ChangeAt Go.RowKit
open Go.ChangeMaps (open_string shut_string)
set_option linter.unusedVariables false

theorem own : ownKnob Try.prog.godebug = none := by kernel_rfl
theorem laidOut : laidOutB Try.prog = true := by kernel_rfl

open Tre
open Kit
open Go.Sort
set_option maxRecDepth 100000
set_option maxHeartbeats 8000000 in
theorem walk (W : World) (a0 : Option Addr) (len0 cap0 : Nat) (x0 : List Tre.Fd) (w0 : Opn.RSlice Tre.RFd 3 W [.slice a0 len0 cap0] x0) (a1 : Int) (w1 : (Lit.int .i64 a1).wf = true) :
    Calls Try.prog 5 #[.slice a0 len0 cap0, .int .i64 a1] W fun e w' => e = .returned (.bool true) ∧ Below W.heap.size W w' := by
  obtain ⟨hF, hok⟩ := funds_arg w0
  obtain ⟨m, hm⟩ : ∃ m, m = min len0 20 := ⟨_, rfl⟩
  obtain ⟨X, hX⟩ : ∃ X, X = x0.take m := ⟨_, rfl⟩
  have HFew := Lib.hid (few_any a0 none len0 cap0 0 0 m 0 hF.cap (Nat.le_refl _) hF.max (Nat.zero_le _) hm rfl W)
  have HX := Lib.hid (show Funds W a0 m cap0 X ∧ (∀ x ∈ X, x.ok) from ⟨by rw [hX]; exact lst_take hF m (by omega), fun x hx => by rw [hX] at hx; exact hok x (List.mem_of_mem_take hx)⟩)
  have hmn : m ≤ 20 := by omega
  clear w0 w1 hF hok hm hX
  have HP := Lib.hid (path_any X HX.out.2 a0 m cap0 W HX.out.1 (by omega) a1)
  by_cases hin : 0 ≤ a1 ∧ a1 < (m : Int)
  · obtain ⟨F, rfl⟩ : ∃ F : Nat, a1 = F := ⟨a1.toNat, by omega⟩
    have hFm : F < m := by omega
    have g1 : ¬ (F : Int) < 0 := by omega
    have g2 : ¬ (m : Int) ≤ (F : Int) := by omega
    have hFX : F < X.length := by rw [HX.out.1.len]; exact hFm
    obtain ⟨p, hp⟩ : ∃ p, p = path X (F : Int) := ⟨_, rfl⟩
    rw [← hp] at HP
    obtain ⟨r, hr⟩ := path_first hFX
    rw [← hp] at hr
    obtain ⟨n5, hn5⟩ : ∃ n, n = p.length := ⟨_, rfl⟩
    have hn51 : 1 ≤ n5 := by rw [hn5, hr, List.length_cons]; omega
    have hn52 : n5 ≤ 101 := by rw [hn5, hp]; exact pathI_length X F (by rw [HX.out.1.len]; omega)
    obtain ⟨b, o, rfl⟩ := lst_at HX.out.1 (by omega)
    have HPp := Lib.hid (And.intro hp (And.intro hn5 (show p[0]? = some (F : Int) by rw [hr]; rfl)))
    clear hin hp hr hn5
    have g3 : ((n5 : Int) == 0) = false := beq_false_of_ne (by omega)
    go_enter Try.func5, Try.ntmps5
    go_wp2_with fail
    refine HFew.out.mono ?_
    rintro e w1 ⟨rfl, rfl⟩
    go_wp2_with fail
    refine HP.out.mono ?_
    rintro e w5 ⟨v5, rfl, hn5', hb5⟩
    obtain ⟨a5, c5, rfl, hl5, -⟩ := hn5'
    rw [← HPp.out.2.1] at hl5 ⊢
    obtain ⟨b5, o5, rfl⟩ := lst_at hl5 (by omega)
    have q0 := int_cell' hl5 HPp.out.2.2
    rw [Nat.add_zero] at q0
    have HB5 := Lib.hid (And.intro hb5 (And.intro (lst_keep encF_len HX.out.1 hb5) hl5))
    clear hb5 hl5
    cases hg : goodB X with
    | false =>
      have HG := Lib.hid (good_any X HX.out.2 _ m cap0 w5 HB5.out.2.1 (by omega))
      rw [hg] at HG
      clear hg
      go_wp2_with fail
      refine HG.out.mono ?_
      rintro e w6 ⟨rfl, hb6⟩
      have HB6 := Lib.hid (below_keep HB5.out.1 hb6)
      clear hb6
      go_wp2_with fail
      refine (awake_any w6).mono ?_
      rintro e w7 ⟨rfl, hb7⟩
      have HB7 := Lib.hid (below_keep HB6.out hb7)
      clear hb7
      go_wp2_with fail
      go_ret
      exact ⟨rfl, HB7.out⟩
    | true =>
      have HG := Lib.hid (good_any X HX.out.2 _ m cap0 w5 HB5.out.2.1 (by omega))
      rw [hg] at HG
      have HGd := Lib.hid hg
      clear hg
      go_wp2_with fail
      refine HG.out.mono ?_
      rintro e w6 ⟨rfl, hb6⟩
      have HB6 := Lib.hid (And.intro (below_keep HB5.out.1 hb6) (And.intro (lst_keep encF_len HB5.out.2.1 hb6) (lst_keep encI_len HB5.out.2.2 hb6)))
      clear hb6 q0
      go_wp2_with fail
      go_loopw [8] (fun i wr => ∃ j : Nat, 1 ≤ j ∧ j ≤ n5 ∧ i = .int .i64 (j : Nat) ∧ Below w6.heap.size w6 wr) (fun i _ => n5 - (intOf i).toNat)
      case atStart => exact ⟨1, Nat.le_refl _, hn51, rfl, Below.refl _ _⟩
      case round =>
        obtain ⟨j, hj1, hj2, rfl, hbr⟩ := hrel
        have HBr := Lib.hid (And.intro (lst_keep encF_len HB6.out.2.1 hbr) (lst_keep encI_len HB6.out.2.2 hbr))
        have HBo := Lib.hid hbr
        clear hbr
        by_cases hlt : j < n5
        · obtain ⟨k, hk⟩ : ∃ k, j = k + 1 := ⟨j - 1, by omega⟩
          obtain ⟨y, z, x, e1, e2, e3, e4, e5, e6⟩ := path_next HPp.out.1 hk (by rw [← HPp.out.2.1]; exact hlt)
          have hzm : z < m := by rw [← HX.out.1.len]; exact (List.getElem?_eq_some_iff.1 e3).1
          have HJ := Lib.hid (And.intro hk (And.intro (show j ≤ 1000 by omega) (And.intro hlt (show k < n5 by omega))))
          have HYZ := Lib.hid (And.intro (show (y : Int) < (z : Int) by omega) (And.intro (show 0 ≤ (y : Int) by omega) hzm))
          have HCe := Lib.hid (And.intro (int_cell' HBr.out.2 e1) (And.intro (int_cell' HBr.out.2 e2) (by have := par_cell' HBr.out.1 e3; rw [e4] at this; exact this)))
          have HNc := Lib.hid HBr.out.2.cap
          have hPy := fun (w : World) (h : Funds w (some ⟨b, o, none⟩) m cap0 X) => path_any X HX.out.2 _ m cap0 w h (by omega) (y : Nat)
          obtain ⟨q, hq⟩ : ∃ q, q = path X (y : Int) := ⟨_, rfl⟩
          rw [← hq] at hPy e6
          have HPy := Lib.hid hPy
          have HIn := Lib.hid (fun (w : World) (ga : Option Addr) (gc : Nat) (hg : IntsL w ga q.length gc q) (hp : IntsL w (some ⟨b5, o5, none⟩) n5 c5 p) => show Calls Try.prog 11 #[.slice ga q.length gc, .slice (some ⟨b5, o5 + j, none⟩) (n5 - j) (c5 - j)] w fun e w' => e = .returned (.bool true) ∧ Below w.heap.size w w' by
            have := ints_any ga _ _ gc (n5 - j) (c5 - j) q (p.drop j) w hg (ints_drop hp j (by omega))
            rwa [decide_eq_true e6] at this)
          clear e1 e2 e3 e4 e5 e6 hzm hk hPy hq
          go_wp2_with fail
          refine Rel.wp_region_rel (G := Rel.Gr) (Rel.tab [.is (.slice (some ⟨b5, o5, none⟩) n5 c5), .is (.int .i64 (j : Nat)), .is (.pointer (some ⟨b5, o5 + j, none⟩)), .is (.int .i64 (y : Nat)), .is (.slice (some ⟨b5, o5, none⟩) n5 c5), .is (.int .i64 (j : Nat)), .is (.int .i64 (k : Nat)), .is (.pointer (some ⟨b5, o5 + k, none⟩)), .is (.int .i64 (z : Nat)), .is (.bool false), .is (.bool false), .is (.slice (some ⟨b5, o5, none⟩) n5 c5), .is (.int .i64 (j : Nat)), .is (.pointer (some ⟨b5, o5 + j, none⟩)), .is (.int .i64 (y : Nat)), .is (.bool false), .is (.bool false), .is (.bool false), .is (.slice (some ⟨b, o, none⟩) m cap0), .is (.slice (some ⟨b5, o5, none⟩) n5 c5), .is (.int .i64 (j : Nat)), .is (.int .i64 (k : Nat)), .is (.pointer (some ⟨b5, o5 + k, none⟩)), .is (.int .i64 (z : Nat)), .is (.pointer (some ⟨b, o + z * 3, none⟩)), .is (.pointer (some ⟨b, o + z * 3 + 1, none⟩)), .is (.int .i64 (y : Nat)), .is (.slice (some ⟨b5, o5, none⟩) n5 c5), .is (.int .i64 (j : Nat)), .is (.pointer (some ⟨b5, o5 + j, none⟩)), .is (.int .i64 (y : Nat)), .is (.bool false), .is (.bool false), .is (.bool false), .is (.slice (some ⟨b, o, none⟩) m cap0), .is (.slice (some ⟨b5, o5, none⟩) n5 c5), .is (.int .i64 (j : Nat)), .is (.pointer (some ⟨b5, o5 + j, none⟩)), .is (.int .i64 (y : Nat)), kI wr.heap.size q, .is (.slice (some ⟨b5, o5, none⟩) n5 c5), .is (.int .i64 (j : Nat)), .is (.slice (some ⟨b5, o5 + j, none⟩) (n5 - j) (c5 - j)), .is (.bool true), .is (.bool false), .is (.bool false)]) (fun _ w => Below wr.heap.size wr w) (by kernel_rfl) (by kernel_rfl) (by kernel_rfl) (by kernel_rfl) (fun w => Rel.gr_refl _) (below_drew _) ?_ ?_
          · refine ⟨?_, ?_, ?_, ?_, ?_, ?_, ?_, ?_, ?_, ?_, ?_, ?_, ?_, ?_, ?_, ?_, ?_, ?_, ?_, ?_, ?_, ?_, ?_, ?_, ?_, ?_, ?_, ?_, ?_, ?_, ?_, ?_, ?_, ?_, ?_, ?_, ?_, ?_, ?_, ?_, ?_, ?_, ?_, ?_, ?_, ?_, trivial⟩
            · intro L a w c
              refine .inl ⟨Rel.wanted_free (by kernel_rfl) _, ?_⟩
              exact Rel.wp_mv _ rfl ⟨_, rfl, Rel.gr_refl _, (c.old 7 (v := .slice (some ⟨b5, o5, none⟩) n5 c5) (by kernel_rfl) (by kernel_rfl)), c.inv⟩
            · intro L a w c
              refine .inl ⟨Rel.wanted_free (by kernel_rfl) _, ?_⟩
              exact Rel.wp_mv _ rfl ⟨_, rfl, Rel.gr_refl _, (c.old 8 (v := .int .i64 (j : Nat)) (by kernel_rfl) (by kernel_rfl)), c.inv⟩
            · intro L a w c
              refine .inl ⟨Rel.wanted_free (by kernel_rfl) _, ?_⟩
              exact Rel.wp_ia _ _ _ rfl (c.get 0 51 (by kernel_rfl)) (c.get 1 52 (by kernel_rfl)) (run_ii HJ.out.2.2.1 w) ⟨_, rfl, Rel.gr_refl _, rfl, c.inv⟩
            · intro L a w c
              refine .inl ⟨Rel.wanted_free (by kernel_rfl) _, ?_⟩
              exact Rel.wp_ld _ _ rfl (c.get 2 53 (by kernel_rfl)) (run_ld2 (cell_keep c.inv HCe.out.1)) ⟨_, rfl, Rel.gr_refl _, rfl, c.inv⟩
            · intro L a w c
              refine .inl ⟨Rel.wanted_free (by kernel_rfl) _, ?_⟩
              exact Rel.wp_mv _ rfl ⟨_, rfl, Rel.gr_refl _, (c.old 7 (v := .slice (some ⟨b5, o5, none⟩) n5 c5) (by kernel_rfl) (by kernel_rfl)), c.inv⟩
            · intro L a w c
              refine .inl ⟨Rel.wanted_free (by kernel_rfl) _, ?_⟩
              exact Rel.wp_mv _ rfl ⟨_, rfl, Rel.gr_refl _, (c.old 8 (v := .int .i64 (j : Nat)) (by kernel_rfl) (by kernel_rfl)), c.inv⟩
            · intro L a w c
              refine .inl ⟨Rel.wanted_free (by kernel_rfl) _, ?_⟩
              exact Rel.wp_bo _ _ _ _ _ rfl (u := .int .i64 (k : Nat)) (c.get 5 56 (by kernel_rfl)) rfl (run_sub1 HJ.out.1 HJ.out.2.1 _ _ w) ⟨_, rfl, Rel.gr_refl _, rfl, c.inv⟩
            · intro L a w c
              refine .inl ⟨Rel.wanted_free (by kernel_rfl) _, ?_⟩
              exact Rel.wp_ia _ _ _ rfl (c.get 4 55 (by kernel_rfl)) (c.get 6 57 (by kernel_rfl)) (run_ii HJ.out.2.2.2 w) ⟨_, rfl, Rel.gr_refl _, rfl, c.inv⟩
            · intro L a w c
              refine .inl ⟨Rel.wanted_free (by kernel_rfl) _, ?_⟩
              exact Rel.wp_ld _ _ rfl (c.get 7 58 (by kernel_rfl)) (run_ld2 (cell_keep c.inv HCe.out.2.1)) ⟨_, rfl, Rel.gr_refl _, rfl, c.inv⟩
            · intro L a w c
              refine .inl ⟨Rel.wanted_free (by kernel_rfl) _, ?_⟩
              exact Rel.wp_bo _ _ _ _ _ rfl (u := .bool false) (c.get 3 54 (by kernel_rfl)) (c.get 8 59 (by kernel_rfl)) (run_geq_f HYZ.out.1 _ _ w) ⟨_, rfl, Rel.gr_refl _, rfl, c.inv⟩
            · intro L a w c
              refine .inl ⟨Rel.wanted_free (by kernel_rfl) _, ?_⟩
              exact Rel.wp_mv _ rfl ⟨_, rfl, Rel.gr_refl _, (c.get 9 60 (by kernel_rfl)), c.inv⟩
            · intro L a w c
              refine .inl ⟨Rel.wanted_by (j := 10) (b := false) (d := 61) (by kernel_rfl) (c.get 10 61 (by kernel_rfl)), ?_⟩
              exact Rel.wp_mv _ rfl ⟨_, rfl, Rel.gr_refl _, (c.old 7 (v := .slice (some ⟨b5, o5, none⟩) n5 c5) (by kernel_rfl) (by kernel_rfl)), c.inv⟩
            · intro L a w c
              refine .inl ⟨Rel.wanted_by (j := 10) (b := false) (d := 61) (by kernel_rfl) (c.get 10 61 (by kernel_rfl)), ?_⟩
              exact Rel.wp_mv _ rfl ⟨_, rfl, Rel.gr_refl _, (c.old 8 (v := .int .i64 (j : Nat)) (by kernel_rfl) (by kernel_rfl)), c.inv⟩
            · intro L a w c
              refine .inl ⟨Rel.wanted_by (j := 10) (b := false) (d := 61) (by kernel_rfl) (c.get 10 61 (by kernel_rfl)), ?_⟩
              exact Rel.wp_ia _ _ _ rfl (c.get 11 62 (by kernel_rfl)) (c.get 12 63 (by kernel_rfl)) (run_ii HJ.out.2.2.1 w) ⟨_, rfl, Rel.gr_refl _, rfl, c.inv⟩
            · intro L a w c
              refine .inl ⟨Rel.wanted_by (j := 10) (b := false) (d := 61) (by kernel_rfl) (c.get 10 61 (by kernel_rfl)), ?_⟩
              exact Rel.wp_ld _ _ rfl (c.get 13 64 (by kernel_rfl)) (run_ld2 (cell_keep c.inv HCe.out.1)) ⟨_, rfl, Rel.gr_refl _, rfl, c.inv⟩
            · intro L a w c
              refine .inl ⟨Rel.wanted_by (j := 10) (b := false) (d := 61) (by kernel_rfl) (c.get 10 61 (by kernel_rfl)), ?_⟩
              exact Rel.wp_bo _ _ _ _ _ rfl (u := .bool false) (c.get 14 65 (by kernel_rfl)) rfl (run_lss_f HYZ.out.2.1 _ _ w) ⟨_, rfl, Rel.gr_refl _, rfl, c.inv⟩
            · intro L a w c
              refine .inl ⟨Rel.wanted_free (by kernel_rfl) _, ?_⟩
              exact Rel.wp_pk _ _ _ rfl (b := false) (c.get 10 61 (by kernel_rfl)) ⟨_, rfl, Rel.gr_refl _, (c.get 15 66 (by kernel_rfl)), c.inv⟩
            · intro L a w c
              refine .inl ⟨Rel.wanted_free (by kernel_rfl) _, ?_⟩
              exact Rel.wp_mv _ rfl ⟨_, rfl, Rel.gr_refl _, (c.get 16 67 (by kernel_rfl)), c.inv⟩
            · intro L a w c
              refine .inl ⟨Rel.wanted_by (j := 17) (b := false) (d := 68) (by kernel_rfl) (c.get 17 68 (by kernel_rfl)), ?_⟩
              exact Rel.wp_mv _ rfl ⟨_, rfl, Rel.gr_refl _, (c.old 5 (v := .slice (some ⟨b, o, none⟩) m cap0) (by kernel_rfl) (by kernel_rfl)), c.inv⟩
            · intro L a w c
              refine .inl ⟨Rel.wanted_by (j := 17) (b := false) (d := 68) (by kernel_rfl) (c.get 17 68 (by kernel_rfl)), ?_⟩
              exact Rel.wp_mv _ rfl ⟨_, rfl, Rel.gr_refl _, (c.old 7 (v := .slice (some ⟨b5, o5, none⟩) n5 c5) (by kernel_rfl) (by kernel_rfl)), c.inv⟩
            · intro L a w c
              refine .inl ⟨Rel.wanted_by (j := 17) (b := false) (d := 68) (by kernel_rfl) (c.get 17 68 (by kernel_rfl)), ?_⟩
              exact Rel.wp_mv _ rfl ⟨_, rfl, Rel.gr_refl _, (c.old 8 (v := .int .i64 (j : Nat)) (by kernel_rfl) (by kernel_rfl)), c.inv⟩
            · intro L a w c
              refine .inl ⟨Rel.wanted_by (j := 17) (b := false) (d := 68) (by kernel_rfl) (c.get 17 68 (by kernel_rfl)), ?_⟩
              exact Rel.wp_bo _ _ _ _ _ rfl (u := .int .i64 (k : Nat)) (c.get 20 71 (by kernel_rfl)) rfl (run_sub1 HJ.out.1 HJ.out.2.1 _ _ w) ⟨_, rfl, Rel.gr_refl _, rfl, c.inv⟩
            · intro L a w c
              refine .inl ⟨Rel.wanted_by (j := 17) (b := false) (d := 68) (by kernel_rfl) (c.get 17 68 (by kernel_rfl)), ?_⟩
              exact Rel.wp_ia _ _ _ rfl (c.get 19 70 (by kernel_rfl)) (c.get 21 72 (by kernel_rfl)) (run_ii HJ.out.2.2.2 w) ⟨_, rfl, Rel.gr_refl _, rfl, c.inv⟩
            · intro L a w c
              refine .inl ⟨Rel.wanted_by (j := 17) (b := false) (d := 68) (by kernel_rfl) (c.get 17 68 (by kernel_rfl)), ?_⟩
              exact Rel.wp_ld _ _ rfl (c.get 22 73 (by kernel_rfl)) (run_ld2 (cell_keep c.inv HCe.out.2.1)) ⟨_, rfl, Rel.gr_refl _, rfl, c.inv⟩
            · intro L a w c
              refine .inl ⟨Rel.wanted_by (j := 17) (b := false) (d := 68) (by kernel_rfl) (c.get 17 68 (by kernel_rfl)), ?_⟩
              exact Rel.wp_ia _ _ _ rfl (c.get 18 69 (by kernel_rfl)) (c.get 23 74 (by kernel_rfl)) (run_if HYZ.out.2.2 w) ⟨_, rfl, Rel.gr_refl _, rfl, c.inv⟩
            · intro L a w c
              refine .inl ⟨Rel.wanted_by (j := 17) (b := false) (d := 68) (by kernel_rfl) (c.get 17 68 (by kernel_rfl)), ?_⟩
              exact Chn.wp_fa _ _ _ rfl (c.get 24 75 (by kernel_rfl)) (by simp [go_sem]) ⟨_, rfl, Rel.gr_refl _, rfl, c.inv⟩
            · intro L a w c
              refine .inl ⟨Rel.wanted_by (j := 17) (b := false) (d := 68) (by kernel_rfl) (c.get 17 68 (by kernel_rfl)), ?_⟩
              exact Rel.wp_ld _ _ rfl (c.get 25 76 (by kernel_rfl)) (run_ld2 (cell_keep c.inv HCe.out.2.2)) ⟨_, rfl, Rel.gr_refl _, rfl, c.inv⟩
            · intro L a w c
              refine .inl ⟨Rel.wanted_by (j := 17) (b := false) (d := 68) (by kernel_rfl) (c.get 17 68 (by kernel_rfl)), ?_⟩
              exact Rel.wp_mv _ rfl ⟨_, rfl, Rel.gr_refl _, (c.old 7 (v := .slice (some ⟨b5, o5, none⟩) n5 c5) (by kernel_rfl) (by kernel_rfl)), c.inv⟩
            · intro L a w c
              refine .inl ⟨Rel.wanted_by (j := 17) (b := false) (d := 68) (by kernel_rfl) (c.get 17 68 (by kernel_rfl)), ?_⟩
              exact Rel.wp_mv _ rfl ⟨_, rfl, Rel.gr_refl _, (c.old 8 (v := .int .i64 (j : Nat)) (by kernel_rfl) (by kernel_rfl)), c.inv⟩
            · intro L a w c
              refine .inl ⟨Rel.wanted_by (j := 17) (b := false) (d := 68) (by kernel_rfl) (c.get 17 68 (by kernel_rfl)), ?_⟩
              exact Rel.wp_ia _ _ _ rfl (c.get 27 78 (by kernel_rfl)) (c.get 28 79 (by kernel_rfl)) (run_ii HJ.out.2.2.1 w) ⟨_, rfl, Rel.gr_refl _, rfl, c.inv⟩
            · intro L a w c
              refine .inl ⟨Rel.wanted_by (j := 17) (b := false) (d := 68) (by kernel_rfl) (c.get 17 68 (by kernel_rfl)), ?_⟩
              exact Rel.wp_ld _ _ rfl (c.get 29 80 (by kernel_rfl)) (run_ld2 (cell_keep c.inv HCe.out.1)) ⟨_, rfl, Rel.gr_refl _, rfl, c.inv⟩
            · intro L a w c
              refine .inl ⟨Rel.wanted_by (j := 17) (b := false) (d := 68) (by kernel_rfl) (c.get 17 68 (by kernel_rfl)), ?_⟩
              exact Rel.wp_bo _ _ _ _ _ rfl (u := .bool false) (c.get 26 77 (by kernel_rfl)) (c.get 30 81 (by kernel_rfl)) (run_neq_f _ _ w) ⟨_, rfl, Rel.gr_refl _, rfl, c.inv⟩
            · intro L a w c
              refine .inl ⟨Rel.wanted_free (by kernel_rfl) _, ?_⟩
              exact Rel.wp_pk _ _ _ rfl (b := false) (c.get 17 68 (by kernel_rfl)) ⟨_, rfl, Rel.gr_refl _, (c.get 31 82 (by kernel_rfl)), c.inv⟩
            · intro L a w c
              refine .inl ⟨Rel.wanted_free (by kernel_rfl) _, ?_⟩
              exact Rel.wp_mv _ rfl ⟨_, rfl, Rel.gr_refl _, (c.get 32 83 (by kernel_rfl)), c.inv⟩
            · intro L a w c
              refine .inl ⟨Rel.wanted_by (j := 33) (b := false) (d := 84) (by kernel_rfl) (c.get 33 84 (by kernel_rfl)), ?_⟩
              exact Rel.wp_mv _ rfl ⟨_, rfl, Rel.gr_refl _, (c.old 5 (v := .slice (some ⟨b, o, none⟩) m cap0) (by kernel_rfl) (by kernel_rfl)), c.inv⟩
            · intro L a w c
              refine .inl ⟨Rel.wanted_by (j := 33) (b := false) (d := 84) (by kernel_rfl) (c.get 33 84 (by kernel_rfl)), ?_⟩
              exact Rel.wp_mv _ rfl ⟨_, rfl, Rel.gr_refl _, (c.old 7 (v := .slice (some ⟨b5, o5, none⟩) n5 c5) (by kernel_rfl) (by kernel_rfl)), c.inv⟩
            · intro L a w c
              refine .inl ⟨Rel.wanted_by (j := 33) (b := false) (d := 84) (by kernel_rfl) (c.get 33 84 (by kernel_rfl)), ?_⟩
              exact Rel.wp_mv _ rfl ⟨_, rfl, Rel.gr_refl _, (c.old 8 (v := .int .i64 (j : Nat)) (by kernel_rfl) (by kernel_rfl)), c.inv⟩
            · intro L a w c
              refine .inl ⟨Rel.wanted_by (j := 33) (b := false) (d := 84) (by kernel_rfl) (c.get 33 84 (by kernel_rfl)), ?_⟩
              exact Rel.wp_ia _ _ _ rfl (c.get 35 86 (by kernel_rfl)) (c.get 36 87 (by kernel_rfl)) (run_ii HJ.out.2.2.1 w) ⟨_, rfl, Rel.gr_refl _, rfl, c.inv⟩
            · intro L a w c
              refine .inl ⟨Rel.wanted_by (j := 33) (b := false) (d := 84) (by kernel_rfl) (c.get 33 84 (by kernel_rfl)), ?_⟩
              exact Rel.wp_ld _ _ rfl (c.get 37 88 (by kernel_rfl)) (run_ld2 (cell_keep c.inv HCe.out.1)) ⟨_, rfl, Rel.gr_refl _, rfl, c.inv⟩
            · intro L a w c
              refine .inl ⟨Rel.wanted_by (j := 33) (b := false) (d := 84) (by kernel_rfl) (c.get 33 84 (by kernel_rfl)), ?_⟩
              refine Rel.wp_cl _ _ _ rfl Try.func12 (by kernel_rfl) ?_
              show Calls _ _ #[Rel.slot a 85, Rel.slot a 89] w _
              rw [show Rel.slot a 85 = .slice (some ⟨b, o, none⟩) m cap0 from (c.get 34 85 (by kernel_rfl)), show Rel.slot a 89 = .int .i64 (y : Nat) from (c.get 38 89 (by kernel_rfl))]
              refine (HPy.out w (lst_keep encF_len HBr.out.1 c.inv)).mono ?_
              rintro e w' ⟨v, rfl, hn, hb⟩
              exact ⟨_, rfl, _, rfl, hb, newI_le hn c.inv.size, below_keep c.inv hb⟩
            · intro L a w c
              refine .inl ⟨Rel.wanted_by (j := 33) (b := false) (d := 84) (by kernel_rfl) (c.get 33 84 (by kernel_rfl)), ?_⟩
              exact Rel.wp_mv _ rfl ⟨_, rfl, Rel.gr_refl _, (c.old 7 (v := .slice (some ⟨b5, o5, none⟩) n5 c5) (by kernel_rfl) (by kernel_rfl)), c.inv⟩
            · intro L a w c
              refine .inl ⟨Rel.wanted_by (j := 33) (b := false) (d := 84) (by kernel_rfl) (c.get 33 84 (by kernel_rfl)), ?_⟩
              exact Rel.wp_mv _ rfl ⟨_, rfl, Rel.gr_refl _, (c.old 8 (v := .int .i64 (j : Nat)) (by kernel_rfl) (by kernel_rfl)), c.inv⟩
            · intro L a w c
              refine .inl ⟨Rel.wanted_by (j := 33) (b := false) (d := 84) (by kernel_rfl) (c.get 33 84 (by kernel_rfl)), ?_⟩
              exact Rel.wp_sl _ _ _ _ _ rfl (c.get 40 91 (by kernel_rfl)) (congrArg some (c.get 41 92 (by kernel_rfl))) rfl rfl (run_from_i HJ.out.2.2.1 HNc.out w) ⟨_, rfl, Rel.gr_refl _, rfl, c.inv⟩
            · intro L a w c
              refine .inl ⟨Rel.wanted_by (j := 33) (b := false) (d := 84) (by kernel_rfl) (c.get 33 84 (by kernel_rfl)), ?_⟩
              obtain ⟨ga, gc, eg, hg, -⟩ := c.get 39 90 (by kernel_rfl)
              refine Rel.wp_cl _ _ _ rfl Try.func11 (by kernel_rfl) ?_
              show Calls _ _ #[Rel.slot a 90, Rel.slot a 93] w _
              rw [show Rel.slot a 90 = _ from eg, show Rel.slot a 93 = .slice (some ⟨b5, o5 + j, none⟩) (n5 - j) (c5 - j) from (c.get 42 93 (by kernel_rfl))]
              refine (HIn.out w ga gc hg (lst_keep encI_len HBr.out.2 c.inv)).mono ?_
              rintro e w' ⟨rfl, hb⟩
              exact ⟨_, rfl, _, rfl, hb, rfl, below_keep c.inv hb⟩
            · intro L a w c
              refine .inl ⟨Rel.wanted_by (j := 33) (b := false) (d := 84) (by kernel_rfl) (c.get 33 84 (by kernel_rfl)), ?_⟩
              exact Chn.wp_uo _ _ _ rfl (c.get 43 94 (by kernel_rfl)) (by simp [go_sem]) ⟨_, rfl, Rel.gr_refl _, rfl, c.inv⟩
            · intro L a w c
              refine .inl ⟨Rel.wanted_free (by kernel_rfl) _, ?_⟩
              exact Rel.wp_pk _ _ _ rfl (b := false) (c.get 33 84 (by kernel_rfl)) ⟨_, rfl, Rel.gr_refl _, (c.get 44 95 (by kernel_rfl)), c.inv⟩
          intro a w9 hbase hroom hdef hJ hV
          have s96 : Rel.slot a 96 = .bool false := hV 45 _ _ rfl rfl
          rw [Chn.act_puts [51, 52, 53, 54, 55, 56, 57, 58, 59, 60, 61, 62, 63, 64, 65, 66, 67, 68, 69, 70, 71, 72, 73, 74, 75, 76, 77, 78, 79, 80, 81, 82, 83, 84, 85, 86, 87, 88, 89, 90, 91, 92, 93, 94, 95, 96] hbase hroom hdef (by kernel_rfl)]
          clear hbase hroom hdef hV
          simp only [List.foldl_cons, List.foldl_nil]
          generalize Rel.slot a 51 = u51 at *
          generalize Rel.slot a 52 = u52 at *
          generalize Rel.slot a 53 = u53 at *
          generalize Rel.slot a 54 = u54 at *
          generalize Rel.slot a 55 = u55 at *
          generalize Rel.slot a 56 = u56 at *
          generalize Rel.slot a 57 = u57 at *
          generalize Rel.slot a 58 = u58 at *
          generalize Rel.slot a 59 = u59 at *
          generalize Rel.slot a 60 = u60 at *
          generalize Rel.slot a 61 = u61 at *
          generalize Rel.slot a 62 = u62 at *
          generalize Rel.slot a 63 = u63 at *
          generalize Rel.slot a 64 = u64 at *
          generalize Rel.slot a 65 = u65 at *
          generalize Rel.slot a 66 = u66 at *
          generalize Rel.slot a 67 = u67 at *
          generalize Rel.slot a 68 = u68 at *
          generalize Rel.slot a 69 = u69 at *
          generalize Rel.slot a 70 = u70 at *
          generalize Rel.slot a 71 = u71 at *
          generalize Rel.slot a 72 = u72 at *
          generalize Rel.slot a 73 = u73 at *
          generalize Rel.slot a 74 = u74 at *
          generalize Rel.slot a 75 = u75 at *
          generalize Rel.slot a 76 = u76 at *
          generalize Rel.slot a 77 = u77 at *
          generalize Rel.slot a 78 = u78 at *
          generalize Rel.slot a 79 = u79 at *
          generalize Rel.slot a 80 = u80 at *
          generalize Rel.slot a 81 = u81 at *
          generalize Rel.slot a 82 = u82 at *
          generalize Rel.slot a 83 = u83 at *
          generalize Rel.slot a 84 = u84 at *
          generalize Rel.slot a 85 = u85 at *
          generalize Rel.slot a 86 = u86 at *
          generalize Rel.slot a 87 = u87 at *
          generalize Rel.slot a 88 = u88 at *
          generalize Rel.slot a 89 = u89 at *
          generalize Rel.slot a 90 = u90 at *
          generalize Rel.slot a 91 = u91 at *
          generalize Rel.slot a 92 = u92 at *
          generalize Rel.slot a 93 = u93 at *
          generalize Rel.slot a 94 = u94 at *
          generalize Rel.slot a 95 = u95 at *
          rw [s96]
          clear s96
          simp only [Act.put, List.setIfInBounds_toArray, List.set_cons_succ, List.set_cons_zero]
          have HJe := Lib.hid hJ
          clear hJ
          go_wp2_with fail
          go_roundw
          case rel => exact ⟨j + 1, by omega, by omega, by go_num, below_keep HBo.out HJe.out⟩
          case measure => simp [intOf]; omega
        · obtain rfl : j = n5 := by omega
          obtain ⟨n6, hn6⟩ : ∃ n, j = n + 1 := ⟨j - 1, by omega⟩
          obtain ⟨z, x, e1, e2, e3⟩ := path_end HPp.out.1 HGd.out hFX (by rw [← HPp.out.2.1, hn6])
          have hzm : z < m := by rw [← HX.out.1.len]; exact (List.getElem?_eq_some_iff.1 e2).1
          have HCe := Lib.hid (And.intro (int_cell' HBr.out.2 e1) (by have := par_cell' HBr.out.1 e2; rw [e3] at this; exact this))
          subst hn6
          clear e1 e2 e3
          go_wp2_with fail
          refine (awake_any wr).mono ?_
          rintro e w7 ⟨rfl, hb7⟩
          have q1 := cell_keep hb7 HCe.out.1
          have q2 := cell_keep hb7 HCe.out.2
          have HB7 := Lib.hid (below_keep (below_keep HB6.out.1 HBo.out) hb7)
          clear hb7
          have hn6l : n6 < n6 + 1 := by omega
          go_wp2_with fail
          go_ret
          exact ⟨rfl, HB7.out⟩
  · have HPe := Lib.hid (show path X a1 = [] from path_far (by rw [HX.out.1.len]; omega))
    rw [HPe.out] at HP
    have hor : a1 < 0 ∨ (¬ a1 < 0 ∧ (m : Int) ≤ a1) := by omega
    clear hin
    rcases hor with g1 | ⟨g1, g2⟩
    all_goals
      go_enter Try.func5, Try.ntmps5
      go_wp2_with fail
      refine HFew.out.mono ?_
      rintro e w1 ⟨rfl, rfl⟩
      go_wp2_with fail
      refine HP.out.mono ?_
      rintro e w5 ⟨v5, rfl, hn5, hb5⟩
      obtain ⟨a5, c5, rfl, -, -⟩ := hn5
      have HB5 := Lib.hid hb5
      clear hb5
      simp only [List.length_nil]
      go_wp2_with fail
      refine (awake_any w5).mono ?_
      rintro e w6 ⟨rfl, hb6⟩
      have HB6 := Lib.hid (below_keep HB5.out hb6)
      clear hb6
      go_wp2_with fail
      go_ret
      exact ⟨rfl, HB6.out⟩

set_option maxRecDepth 100000 in
theorem lifted (os : Os) (started : os.Started) (H : Type) (enc : TypeId × Value → H) :
    ReturnsInHanded {} Try.checked os 5 .any (Rows.treeUpSpec.pre6 enc Try.prog Try.f5 Rows.treeUpRow.domain false) (Rows.treeUpSpec.post enc Try.prog Try.f5 false true false false) := by
  refine returnsInHanded_of_change (C := Try.checked) own started (by kernel_rfl) Try.func5
    (ChangeSpec.witness6 (enc := enc) (C := Try.checked) false ⟨#[], #[.slice none 0 0, .int .i64 0], []⟩ 8 (by kernel_rfl) (by kernel_rfl) (by kernel_rfl) (by kernel_rfl)) ?_
  intro W base args ds gs before hval0 hW hcnd _
  have hval : ∀ (j : Nat) t v, Try.f5.params[j]? = some t → args[j]? = some v → Value.okWide Try.prog W .any base t v := hval0
  have hW' := hW
  obtain ⟨p, q, hA0, hV, rfl, hfz, hnd⟩ := hW
  have hA : DataW.TrodAll enc Try.prog W 0 (fun _ => true) true Try.f5.params.toList args.toList ds p := hA0
  rw [Try.params5] at hA hval
  obtain ⟨v0, vs0, d0, ds0, p0, q0, hargs, rfl, rfl, h0, r0⟩ := trodAll_cons hA
  obtain ⟨v1, vs1, d1, ds1, p1, q1, rfl, rfl, rfl, h1, r1⟩ := trodAll_cons r0
  obtain ⟨rfl, rfl, rfl⟩ := trodAll_nil r1
  obtain rfl : args = #[v0, v1] := by cases args; simp_all
  obtain ⟨rfl, rfl⟩ := trodVars_none hV
  have k0 := h0
  have lt0 : ∀ x ∈ p0, x.block < W.heap.size := by obtain ⟨m, hm⟩ := k0; exact DataW.trod_lt m _ _ _ hm
  obtain ⟨a0, len0, cap0, rfl⟩ := okWide_slice Try.underlying22 (hval 0 22 v0 rfl rfl)
  obtain ⟨x0, w0⟩ := Opn.opens_arg (Tre.opens_funds) h0
  have k1 := h1
  have lt1 : ∀ x ∈ p1, x.block < W.heap.size := by obtain ⟨m, hm⟩ := k1; exact DataW.trod_lt m _ _ _ hm
  obtain ⟨a1, rfl, _, _, w1⟩ := open_int Try.underlying3 (hval 1 3 v1 rfl rfl) h1
  clear hA0 hval0
  refine (walk W a0 len0 cap0 x0 w0 a1 w1).mono fun e W' ⟨he, bel⟩ => ?_
  subst he
  exact ⟨_, rfl, _, _, _, [], _, [], hW', trodAll_mk1 (shut_bool Try.underlying4 _), (trodAll_cons_mk (Below.trod laidOut (by kernel_rfl) (of_decide_eq_true (by kernel_rfl)) k0 bel lt0) (trodAll_cons_mk (Below.trod laidOut (by kernel_rfl) (of_decide_eq_true (by kernel_rfl)) k1 bel lt1) trodAll_mk0)), rfl, bel.frame _, fun h => by cases h⟩

theorem over : Rows.treeUpRow.holds Try.pinned (OpenSpec.ofChange Rows.treeUpSpec) :=
  OpenClaim.holds_of_wide 5 Try.f5 rfl rfl rfl rfl rfl rfl rfl ⟨rfl, rfl, rfl, rfl, rfl⟩ rfl rfl rfl rfl rfl (by kernel_rfl) Try.func5 (by kernel_rfl)
    (of_decide_eq_true (by kernel_rfl)) (by unfold Func.isWrapper; first | (rw [if_pos (by decide +kernel)]; kernel_rfl) | (rw [if_neg (by decide +kernel)]; exact ⟨rfl, rfl⟩))
    (fun os started H enc _ => lifted os started H enc)

/-- THE STATEMENT -/
theorem proved : Rows.TreeUpSaid := over
#print axioms proved
end Go.Proofs.Ytpciijihedlheaa.treeUp
