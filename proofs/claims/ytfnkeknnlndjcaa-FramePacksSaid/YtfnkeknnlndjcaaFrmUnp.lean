/- Frame: the document's own Unpack. -/
import Derived.Test.YtfnkeknnlndjcaaFrmPack
import Derived.Test.YtfnkeknnlndjcaaRegChn
namespace Go.Proofs.Ytfnkeknnlndjcaa.Frm
open Go.RowKit
open Go.Sort
open Kit
open Oct
open Chk
set_option linter.unusedVariables false

theorem results_tmp5 {fn : Func} {t u v x y : Tmp} (h : fn.results = #[.tmp t, .tmp u, .tmp v, .tmp x, .tmp y]) (tmps : Array Value) (P : Program) (w : World) :
    (results fn tmps).run P w = .ok (.tuple #[tmps.getD t undef, tmps.getD u undef, tmps.getD v undef, tmps.getD x undef, tmps.getD y undef]) w := by
  simp [results, h]
/-- What Unpack answers: epoch, number, bytes, sectors, error. -/
def ansU (s : Bs) : Nat × Nat × Bs × Nat × Nat := match unpackB s with | some (e, q, b, k) => (e, q, b, k, 0) | none => (0, 0, [], 0, 3)
theorem ansU_none {s : Bs} (h : unpackB s = none) : ansU s = (0, 0, [], 0, 3) := by unfold ansU; rw [h]
theorem ansU_some {s b : Bs} {e q k : Nat} (h : unpackB s = some (e, q, b, k)) : ansU s = (e, q, b, k, 0) := by unfold ansU; rw [h]

/-- The answer of a call of Unpack. -/
abbrev UnpR (w : World) (s : Bs) (e' : Ending) (w' : World) : Prop := ∃ v, e' = .returned (.tuple #[.int .i64 ((ansU s).1 : Nat), .int .i64 ((ansU s).2.1 : Nat), v, .int .i64 ((ansU s).2.2.2.1 : Nat), .int .i64 ((ansU s).2.2.2.2 : Nat)]) ∧ OwnB w' w.heap.size v (ansU s).2.2.1 ∧ Below w.heap.size w w'
theorem unp_none {w w' : World} {s : Bs} (h : unpackB s = none) (hb : Below w.heap.size w w') : UnpR w s (.returned (.tuple #[.int .i64 0, .int .i64 0, .slice none 0 0, .int .i64 0, .int .i64 3])) w' := by
  unfold UnpR
  rw [ansU_none h]
  exact ⟨_, rfl, owns_nil _ _ _, hb⟩

set_option maxHeartbeats 4000000 in
theorem runpack_any (aa : Option Addr) (len cap : Nat) (l : Bs) (wa : World) (hl : l.length = len) (hm : len ≤ 1900) (hlc : len ≤ cap) (hE : RowB wa aa l) :
    Calls Try.prog 13 #[.slice aa len cap] wa fun e' w' => UnpR wa l e' w' := by
  subst hl
  by_cases h32 : l.length < 32
  · have HN := Lib.hid (unp_none (w := wa) (show unpackB l = none by unfold unpackB; rw [if_pos h32]) (Below.refl _ wa))
    have h32i : (l.length : Int) < 32 := by omega
    clear hE
    go_enter Try.func13, Try.ntmps13
    go_wp2
    (try simp only [Exit.inBlock, Exit.then])
    refine bodyPost_ret (results_tmp5 rfl _ _ _) rfl ?_
    exact HN.out
  · obtain ⟨b, o, rfl⟩ := row_at hE (by omega)
    have h32i : ¬ (l.length : Int) < 32 := by omega
    have x0 := byte_at hE (k := 0) (by omega)
    have x1 := byte_at hE (k := 1) (by omega)
    rw [Nat.add_zero] at x0
    have hn : ((two l : Nat) : Int) = 256 * ((l.getD 0 0).toNat : Int) + ((l.getD 1 0).toNat : Int) := by unfold two; omega
    have hn2 := two_lt l
    have hb0 := (l.getD 0 0).toNat_lt
    have hb1 := (l.getD 1 0).toNat_lt
    have HE := Lib.hid hE
    have HX := Lib.hid (And.intro x0 x1)
    have HNN := Lib.hid (And.intro hn (And.intro hb0 hb1))
    generalize l.getD 0 0 = X0 at *
    generalize l.getD 1 0 = X1 at *
    obtain ⟨n, hnn⟩ : ∃ n, n = two l := ⟨_, rfl⟩
    rw [← hnn] at HNN
    have HTwo := Lib.hid hnn
    have hn3 : n < 65536 := by rw [hnn]; exact hn2
    clear hE x0 x1 hn hn2 hb0 hb1 hnn
    go_enter Try.func13, Try.ntmps13
    go_wp2_with fail
    refine Rel.wp_region_rel (G := Rel.Gr) (Rel.tab [.is (.slice (some ⟨b, o, none⟩) l.length cap), .is (.pointer (some ⟨b, o, none⟩)), .is (.int .u8 (X0.toNat : Int)), .is (.int .i64 (X0.toNat : Int)), .is (.int .i64 (256 * (X0.toNat : Int))), .is (.slice (some ⟨b, o, none⟩) l.length cap), .is (.pointer (some ⟨b, o + 1, none⟩)), .is (.int .u8 (X1.toNat : Int)), .is (.int .i64 (X1.toNat : Int)), .is (.int .i64 (n : Nat)), .is (.int .i64 (n : Nat))]) (fun _ w => Below wa.heap.size wa w) (by kernel_rfl) (by kernel_rfl) (by kernel_rfl) (by kernel_rfl) (fun w => Rel.gr_refl _) (below_drew _) ?_ ?_
    · refine ⟨?_, ?_, ?_, ?_, ?_, ?_, ?_, ?_, ?_, ?_, ?_, trivial⟩
      · intro L a w c
        refine .inl ⟨Rel.wanted_free (by kernel_rfl) _, ?_⟩
        exact Rel.wp_mv _ rfl ⟨_, rfl, Rel.gr_refl _, (c.old 0 (v := .slice (some ⟨b, o, none⟩) l.length cap) (by kernel_rfl) (by kernel_rfl)), c.inv⟩
      · intro L a w c
        refine .inl ⟨Rel.wanted_free (by kernel_rfl) _, ?_⟩
        exact Rel.wp_ia _ _ _ rfl (c.get 0 19 (by kernel_rfl)) rfl (run_at_b b o _ cap 0 (by omega) w) ⟨_, rfl, Rel.gr_refl _, rfl, c.inv⟩
      · intro L a w c
        refine .inl ⟨Rel.wanted_free (by kernel_rfl) _, ?_⟩
        exact Rel.wp_ld _ _ rfl (c.get 1 20 (by kernel_rfl)) (run_ld_byte (cell_keep c.inv HX.out.1)) ⟨_, rfl, Rel.gr_refl _, rfl, c.inv⟩
      · intro L a w c
        refine .inl ⟨Rel.wanted_free (by kernel_rfl) _, ?_⟩
        exact Rel.wp_cv _ _ _ rfl (c.get 2 21 (by kernel_rfl)) (run_cv_byte X0 w) ⟨_, rfl, Rel.gr_refl _, rfl, c.inv⟩
      · intro L a w c
        refine .inl ⟨Rel.wanted_free (by kernel_rfl) _, ?_⟩
        exact Rel.wp_bo _ _ _ _ _ rfl (u := .int .i64 (256 * (X0.toNat : Int))) rfl (c.get 3 22 (by kernel_rfl)) (by have := HNN.out.2.1; simp [go_sem, IntKind.wrap_i64]; omega) ⟨_, rfl, Rel.gr_refl _, rfl, c.inv⟩
      · intro L a w c
        refine .inl ⟨Rel.wanted_free (by kernel_rfl) _, ?_⟩
        exact Rel.wp_mv _ rfl ⟨_, rfl, Rel.gr_refl _, (c.old 0 (v := .slice (some ⟨b, o, none⟩) l.length cap) (by kernel_rfl) (by kernel_rfl)), c.inv⟩
      · intro L a w c
        refine .inl ⟨Rel.wanted_free (by kernel_rfl) _, ?_⟩
        exact Rel.wp_ia _ _ _ rfl (c.get 5 24 (by kernel_rfl)) rfl (run_at_b b o _ cap 1 (by omega) w) ⟨_, rfl, Rel.gr_refl _, rfl, c.inv⟩
      · intro L a w c
        refine .inl ⟨Rel.wanted_free (by kernel_rfl) _, ?_⟩
        exact Rel.wp_ld _ _ rfl (c.get 6 25 (by kernel_rfl)) (run_ld_byte (cell_keep c.inv HX.out.2)) ⟨_, rfl, Rel.gr_refl _, rfl, c.inv⟩
      · intro L a w c
        refine .inl ⟨Rel.wanted_free (by kernel_rfl) _, ?_⟩
        exact Rel.wp_cv _ _ _ rfl (c.get 7 26 (by kernel_rfl)) (run_cv_byte X1 w) ⟨_, rfl, Rel.gr_refl _, rfl, c.inv⟩
      · intro L a w c
        refine .inl ⟨Rel.wanted_free (by kernel_rfl) _, ?_⟩
        exact Rel.wp_bo _ _ _ _ _ rfl (u := .int .i64 (n : Nat)) (c.get 4 23 (by kernel_rfl)) (c.get 8 27 (by kernel_rfl)) (by have := HNN.out.2; rw [HNN.out.1]; simp [go_sem, IntKind.wrap_i64]; omega) ⟨_, rfl, Rel.gr_refl _, rfl, c.inv⟩
      · intro L a w c
        refine .inl ⟨Rel.wanted_free (by kernel_rfl) _, ?_⟩
        exact Rel.wp_as _ rfl ⟨_, rfl, Rel.gr_refl _, (c.get 9 28 (by kernel_rfl)), c.inv⟩
    intro a w9 hbase hroom hdef hJ hV
    have s7 : Rel.slot a 7 = .int .i64 (n : Nat) := hV 10 _ _ rfl rfl
    rw [Chn.act_puts [19, 20, 21, 22, 23, 24, 25, 26, 27, 28, 7] hbase hroom hdef (by kernel_rfl)]
    clear hbase hroom hdef hV
    simp only [List.foldl_cons, List.foldl_nil]
    generalize Rel.slot a 19 = u19 at *
    generalize Rel.slot a 20 = u20 at *
    generalize Rel.slot a 21 = u21 at *
    generalize Rel.slot a 22 = u22 at *
    generalize Rel.slot a 23 = u23 at *
    generalize Rel.slot a 24 = u24 at *
    generalize Rel.slot a 25 = u25 at *
    generalize Rel.slot a 26 = u26 at *
    generalize Rel.slot a 27 = u27 at *
    generalize Rel.slot a 28 = u28 at *
    rw [s7]
    clear s7
    simp only [Act.put, List.setIfInBounds_toArray, List.set_cons_succ, List.set_cons_zero]
    have hsec : secsI (n : Int) = secs n := by unfold secsI; rw [if_neg (by omega)]; rfl
    have HB9 := Lib.hid hJ
    have HRs := Lib.hid (rsectors_any (n : Int) (by omega) w9)
    rw [hsec] at HRs
    have hsl : secs n ≤ 2732 := by unfold secs; omega
    have hsp := secs_pos n
    have hsr := secs_room n
    have HSec := Lib.hid (show secs (two l) = secs n by rw [HTwo.out])
    clear hJ hsec
    generalize secs n = K at *
    by_cases hk : l.length < 32 * K
    · have HN := Lib.hid (unp_none (w := wa) (show unpackB l = none by unfold unpackB; rw [if_neg h32, if_pos (by rw [HSec.out]; exact hk)]) HB9.out)
      have hki : (l.length : Int) < 32 * (K : Int) := by omega
      clear hk
      go_wp2_with (first | (go_at_call 11; refine HRs.out.mono ?_; rintro e' w11 ⟨rfl, rfl⟩) | fail)
      (try simp only [Exit.inBlock, Exit.then])
      refine bodyPost_ret (results_tmp5 rfl _ _ _) rfl ?_
      exact HN.out
    · have hki : ¬ (l.length : Int) < 32 * (K : Int) := by omega
      go_wp2_with (first | (go_at_call 11; refine HRs.out.mono ?_; rintro e' w11 ⟨rfl, rfl⟩) | fail)
      have hb9 := HB9.out
      have HE9 := Lib.hid (row_keep encB_len HE.out hb9)
      have hKn : n ≤ 1900 := by omega
      obtain ⟨w1, hw1⟩ : ∃ w1, w1 = w9 := ⟨w9, rfl⟩
      have HO1 := Lib.hid (And.intro (own_empty w9 w9.heap.size (Nat.le_refl _)) (below_alloc w9 (.cells #[] 5)))
      clear hb9 HRs
      go_loopw [9, 10] (fun v iv wx => ∃ i : Nat, i ≤ n ∧ iv = .int .i64 ((6 + i : Nat) : Int) ∧ OwnB wx w9.heap.size v (bodyB l i) ∧ Below w9.heap.size w9 wx) (fun _ iv _ => 6 + n - (intOf iv).toNat)
      case atStart => exact ⟨0, Nat.zero_le _, rfl, HO1.out.1, HO1.out.2⟩
      case round =>
        obtain ⟨i, hi, rfl, ho, hb⟩ := hrel
        have HO := Lib.hid (And.intro ho hb)
        clear ho hb
        by_cases hlt : i < n
        · have hJl : (6 + i) / 24 * 32 + (6 + i) % 24 < l.length := by omega
          have hbs := bodyB_succ l i
          have cJ := byte_at (row_belowAt HE9.out HO.out.2 (Kit.row_lt encB_len (by omega) HE9.out (by omega))) hJl
          have hbl := bodyB_length l i
          generalize l.getD ((6 + i) / 24 * 32 + (6 + i) % 24) 0 = x at *
          have HBs := Lib.hid (And.intro hbs hbl)
          have hl1 : ((6 + i : Nat) : Int) < 6 + (n : Int) := by omega
          clear hbs hbl
          go_wp2_with (first
            | (at_builtin; refine append_b rfl (.tmp 43) (.tmp 53) rfl w9.heap.size u9 (bodyB l i) rfl (owns_alloc HO.out.1 _) (some ⟨wr.heap.size, 0, none⟩) 1 1 [x] rfl rfl (row_one wr rfl) (fun h => by cases h) (by rw [HBs.out.2]; omega) (Nat.le_trans HO.out.2.size (by simp)) ?_; intro v12 w12 ho12 hb12
               have HV := Lib.hid (And.intro ho12 ((HO.out.2.alloc HO.out.2.size _).trans hb12))
               clear ho12 hb12)
            | fail)
          go_roundw
          case rel => exact ⟨i + 1, by omega, by go_num, by rw [HBs.out.1]; exact HV.out.1, HV.out.2⟩
          case measure => simp [intOf]; omega
        · obtain rfl : i = n := by omega
          have hl1 : ¬ ((6 + i : Nat) : Int) < 6 + (i : Int) := by omega
          obtain ⟨wo, hwo⟩ : ∃ x, x = wr := ⟨wr, rfl⟩
          subst hwo
          have HEo := Lib.hid (row_belowAt HE9.out HO.out.2 (Kit.row_lt encB_len (by omega) HE9.out (by omega)))
          have HBo := Lib.hid (below_keep HB9.out HO.out.2)
          go_wp2_with fail
          go_loopw [11, 12, 13] (fun ev qv iv wx => ∃ j : Nat, j ≤ 4 ∧ iv = .int .i64 j ∧ ev = .int .i64 ((numK l 24 j : Nat) : Int) ∧ qv = .int .i64 ((numK l 28 j : Nat) : Int) ∧ Below wo.heap.size wo wx) (fun _ _ iv _ => 4 - (intOf iv).toNat)
          case atStart => exact ⟨0, by omega, rfl, rfl, rfl, Below.refl _ _⟩
          case round =>
            obtain ⟨j, hj, rfl, rfl, rfl, hb⟩ := hrel
            have HBj := Lib.hid hb
            have hEr := row_keep encB_len HEo.out hb
            obtain ⟨wq, hwq⟩ : ∃ x, x = wr := ⟨wr, rfl⟩
            subst hwq
            by_cases hj4 : j < 4
            · have HY := Lib.hid (And.intro (byte_at hEr (k := 24 + j) (by omega)) (byte_at hEr (k := 28 + j) (by omega)))
              have h256 : (256 : Nat) ^ j ≤ 16777216 := by
                have : (256 : Nat) ^ j ≤ 256 ^ 3 := Nat.pow_le_pow_right (by omega) (by omega)
                omega
              have e1 := numK_lt l 24 j
              have e2 := numK_lt l 28 j
              have s1 : numK l 24 (j + 1) = numK l 24 j * 256 + (l.getD (24 + j) 0).toNat := rfl
              have s2 : numK l 28 (j + 1) = numK l 28 j * 256 + (l.getD (28 + j) 0).toNat := rfl
              have y0 := (l.getD (24 + j) 0).toNat_lt
              have y1 := (l.getD (28 + j) 0).toNat_lt
              obtain ⟨E2, hE2⟩ : ∃ x, x = numK l 24 (j + 1) := ⟨_, rfl⟩
              obtain ⟨S2, hS2⟩ : ∃ x, x = numK l 28 (j + 1) := ⟨_, rfl⟩
              rw [← hE2] at s1
              rw [← hS2] at s2
              generalize l.getD (24 + j) 0 = Y0 at *
              generalize l.getD (28 + j) 0 = Y1 at *
              generalize numK l 24 j = EP at *
              generalize numK l 28 j = SQ at *
              have HY3 : Hid (EP < 16777216 ∧ SQ < 16777216 ∧ Y0.toNat < 256 ∧ Y1.toNat < 256 ∧ j < 4) := Lib.hid ⟨by omega, by omega, y0, y1, hj4⟩
              have HY2 : Hid (((E2 : Nat) : Int) = (EP : Int) * 256 + (Y0.toNat : Int) ∧ ((S2 : Nat) : Int) = (SQ : Int) * 256 + (Y1.toNat : Int)) := Lib.hid ⟨by omega, by omega⟩
              have HE2 := Lib.hid (And.intro hE2 hS2)
              clear hEr hb h256 e1 e2 s1 s2 y0 y1 hE2 hS2
              go_wp2_with fail
              refine Chn.wp_region_chain (fun idx => match idx with | 0 => some (.int .i64 (EP : Nat)) | 1 => some (.int .i64 ((EP : Int) * 256)) | 2 => some (.slice (some ⟨b, o, none⟩) l.length cap) | 3 => some (.int .i64 (j : Nat)) | 4 => some (.int .i64 ((24 + j : Nat) : Int)) | 5 => some (.pointer (some ⟨b, o + (24 + j), none⟩)) | 6 => some (.int .u8 (Y0.toNat : Int)) | 7 => some (.int .i64 (Y0.toNat : Int)) | 8 => some (.int .i64 (E2 : Nat)) | 9 => some (.int .i64 (SQ : Nat)) | 10 => some (.int .i64 ((SQ : Int) * 256)) | 11 => some (.slice (some ⟨b, o, none⟩) l.length cap) | 12 => some (.int .i64 (j : Nat)) | 13 => some (.int .i64 ((28 + j : Nat) : Int)) | 14 => some (.pointer (some ⟨b, o + (28 + j), none⟩)) | 15 => some (.int .u8 (Y1.toNat : Int)) | 16 => some (.int .i64 (Y1.toNat : Int)) | 17 => some (.int .i64 (S2 : Nat)) | 18 => some (.int .i64 (E2 : Nat)) | 19 => some (.int .i64 (S2 : Nat)) | _ => none) [] (fun (_ : Nat) (_ : List Value) (w : World) => w = wq.drew) (by kernel_rfl) (by kernel_rfl) (by kernel_rfl) (by kernel_rfl) (by kernel_rfl) (by decide) (by kernel_rfl) (rfl) ?_ ?_
              · refine ⟨?_, ?_, ?_, ?_, ?_, ?_, ?_, ?_, ?_, ?_, ?_, ?_, ?_, ?_, ?_, ?_, ?_, ?_, ?_, ?_, trivial⟩
                · intro a ww jj vs c hj0 hΦ
                  have hj : jj ≤ 0 := Nat.le_trans hj0 (of_decide_eq_true (by kernel_rfl))
                  refine .inl ⟨Rel.wanted_free (by kernel_rfl) _, ?_⟩
                  exact Rel.wp_mv _ rfl ⟨congrArg (a.put _) (c.old 11 (v := .int .i64 (EP : Nat)) (by kernel_rfl) (by kernel_rfl)), rfl⟩
                · intro a ww jj vs c hj0 hΦ
                  have hj : jj ≤ 0 := Nat.le_trans hj0 (of_decide_eq_true (by kernel_rfl))
                  refine .inl ⟨Rel.wanted_free (by kernel_rfl) _, ?_⟩
                  exact Rel.wp_bo _ _ _ _ _ rfl (c.get 0 59 (by kernel_rfl) rfl) rfl (by have := HY3.out; simp [go_sem, IntKind.wrap_i64]; omega) ⟨rfl, rfl⟩
                · intro a ww jj vs c hj0 hΦ
                  have hj : jj ≤ 0 := Nat.le_trans hj0 (of_decide_eq_true (by kernel_rfl))
                  refine .inl ⟨Rel.wanted_free (by kernel_rfl) _, ?_⟩
                  exact Rel.wp_mv _ rfl ⟨congrArg (a.put _) (c.old 0 (v := .slice (some ⟨b, o, none⟩) l.length cap) (by kernel_rfl) (by kernel_rfl)), rfl⟩
                · intro a ww jj vs c hj0 hΦ
                  have hj : jj ≤ 0 := Nat.le_trans hj0 (of_decide_eq_true (by kernel_rfl))
                  refine .inl ⟨Rel.wanted_free (by kernel_rfl) _, ?_⟩
                  exact Rel.wp_mv _ rfl ⟨congrArg (a.put _) (c.old 13 (v := .int .i64 (j : Nat)) (by kernel_rfl) (by kernel_rfl)), rfl⟩
                · intro a ww jj vs c hj0 hΦ
                  have hj : jj ≤ 0 := Nat.le_trans hj0 (of_decide_eq_true (by kernel_rfl))
                  refine .inl ⟨Rel.wanted_free (by kernel_rfl) _, ?_⟩
                  exact Rel.wp_bo _ _ _ _ _ rfl rfl (c.get 3 62 (by kernel_rfl) rfl) (by have := HY3.out; simp [go_sem, IntKind.wrap_i64]; omega) ⟨rfl, rfl⟩
                · intro a ww jj vs c hj0 hΦ
                  have hj : jj ≤ 0 := Nat.le_trans hj0 (of_decide_eq_true (by kernel_rfl))
                  refine .inl ⟨Rel.wanted_free (by kernel_rfl) _, ?_⟩
                  exact Rel.wp_ia _ _ _ rfl (c.get 2 61 (by kernel_rfl) rfl) (c.get 4 63 (by kernel_rfl) rfl) (run_at_b b o _ cap (24 + j) (by omega) _) ⟨rfl, rfl⟩
                · intro a ww jj vs c hj0 hΦ
                  have hj : jj ≤ 0 := Nat.le_trans hj0 (of_decide_eq_true (by kernel_rfl))
                  refine .inl ⟨Rel.wanted_free (by kernel_rfl) _, ?_⟩
                  exact Rel.wp_ld _ _ rfl (c.get 5 64 (by kernel_rfl) rfl) (by rw [show ww = wq.drew from hΦ]; exact run_ld_byte (cell_keep (below_drew wq) HY.out.1)) ⟨rfl, rfl⟩
                · intro a ww jj vs c hj0 hΦ
                  have hj : jj ≤ 0 := Nat.le_trans hj0 (of_decide_eq_true (by kernel_rfl))
                  refine .inl ⟨Rel.wanted_free (by kernel_rfl) _, ?_⟩
                  exact Rel.wp_cv _ _ _ rfl (c.get 6 65 (by kernel_rfl) rfl) (run_cv_byte Y0 _) ⟨rfl, rfl⟩
                · intro a ww jj vs c hj0 hΦ
                  have hj : jj ≤ 0 := Nat.le_trans hj0 (of_decide_eq_true (by kernel_rfl))
                  refine .inl ⟨Rel.wanted_free (by kernel_rfl) _, ?_⟩
                  exact Rel.wp_bo _ _ _ _ _ rfl (c.get 1 60 (by kernel_rfl) rfl) (c.get 7 66 (by kernel_rfl) rfl) (by have := HY3.out; rw [HY2.out.1]; simp [go_sem, IntKind.wrap_i64]; omega) ⟨rfl, rfl⟩
                · intro a ww jj vs c hj0 hΦ
                  have hj : jj ≤ 0 := Nat.le_trans hj0 (of_decide_eq_true (by kernel_rfl))
                  refine .inl ⟨Rel.wanted_free (by kernel_rfl) _, ?_⟩
                  exact Rel.wp_mv _ rfl ⟨congrArg (a.put _) (c.old 12 (v := .int .i64 (SQ : Nat)) (by kernel_rfl) (by kernel_rfl)), rfl⟩
                · intro a ww jj vs c hj0 hΦ
                  have hj : jj ≤ 0 := Nat.le_trans hj0 (of_decide_eq_true (by kernel_rfl))
                  refine .inl ⟨Rel.wanted_free (by kernel_rfl) _, ?_⟩
                  exact Rel.wp_bo _ _ _ _ _ rfl (c.get 9 68 (by kernel_rfl) rfl) rfl (by have := HY3.out; simp [go_sem, IntKind.wrap_i64]; omega) ⟨rfl, rfl⟩
                · intro a ww jj vs c hj0 hΦ
                  have hj : jj ≤ 0 := Nat.le_trans hj0 (of_decide_eq_true (by kernel_rfl))
                  refine .inl ⟨Rel.wanted_free (by kernel_rfl) _, ?_⟩
                  exact Rel.wp_mv _ rfl ⟨congrArg (a.put _) (c.old 0 (v := .slice (some ⟨b, o, none⟩) l.length cap) (by kernel_rfl) (by kernel_rfl)), rfl⟩
                · intro a ww jj vs c hj0 hΦ
                  have hj : jj ≤ 0 := Nat.le_trans hj0 (of_decide_eq_true (by kernel_rfl))
                  refine .inl ⟨Rel.wanted_free (by kernel_rfl) _, ?_⟩
                  exact Rel.wp_mv _ rfl ⟨congrArg (a.put _) (c.old 13 (v := .int .i64 (j : Nat)) (by kernel_rfl) (by kernel_rfl)), rfl⟩
                · intro a ww jj vs c hj0 hΦ
                  have hj : jj ≤ 0 := Nat.le_trans hj0 (of_decide_eq_true (by kernel_rfl))
                  refine .inl ⟨Rel.wanted_free (by kernel_rfl) _, ?_⟩
                  exact Rel.wp_bo _ _ _ _ _ rfl rfl (c.get 12 71 (by kernel_rfl) rfl) (by have := HY3.out; simp [go_sem, IntKind.wrap_i64]; omega) ⟨rfl, rfl⟩
                · intro a ww jj vs c hj0 hΦ
                  have hj : jj ≤ 0 := Nat.le_trans hj0 (of_decide_eq_true (by kernel_rfl))
                  refine .inl ⟨Rel.wanted_free (by kernel_rfl) _, ?_⟩
                  exact Rel.wp_ia _ _ _ rfl (c.get 11 70 (by kernel_rfl) rfl) (c.get 13 72 (by kernel_rfl) rfl) (run_at_b b o _ cap (28 + j) (by omega) _) ⟨rfl, rfl⟩
                · intro a ww jj vs c hj0 hΦ
                  have hj : jj ≤ 0 := Nat.le_trans hj0 (of_decide_eq_true (by kernel_rfl))
                  refine .inl ⟨Rel.wanted_free (by kernel_rfl) _, ?_⟩
                  exact Rel.wp_ld _ _ rfl (c.get 14 73 (by kernel_rfl) rfl) (by rw [show ww = wq.drew from hΦ]; exact run_ld_byte (cell_keep (below_drew wq) HY.out.2)) ⟨rfl, rfl⟩
                · intro a ww jj vs c hj0 hΦ
                  have hj : jj ≤ 0 := Nat.le_trans hj0 (of_decide_eq_true (by kernel_rfl))
                  refine .inl ⟨Rel.wanted_free (by kernel_rfl) _, ?_⟩
                  exact Rel.wp_cv _ _ _ rfl (c.get 15 74 (by kernel_rfl) rfl) (run_cv_byte Y1 _) ⟨rfl, rfl⟩
                · intro a ww jj vs c hj0 hΦ
                  have hj : jj ≤ 0 := Nat.le_trans hj0 (of_decide_eq_true (by kernel_rfl))
                  refine .inl ⟨Rel.wanted_free (by kernel_rfl) _, ?_⟩
                  exact Rel.wp_bo _ _ _ _ _ rfl (c.get 10 69 (by kernel_rfl) rfl) (c.get 16 75 (by kernel_rfl) rfl) (by have := HY3.out; rw [HY2.out.2]; simp [go_sem, IntKind.wrap_i64]; omega) ⟨rfl, rfl⟩
                · intro a ww jj vs c hj0 hΦ
                  have hj : jj ≤ 0 := Nat.le_trans hj0 (of_decide_eq_true (by kernel_rfl))
                  refine .inl ⟨Rel.wanted_free (by kernel_rfl) _, ?_⟩
                  exact Rel.wp_as _ rfl ⟨congrArg (a.put _) (c.get 8 67 (by kernel_rfl) rfl), rfl⟩
                · intro a ww jj vs c hj0 hΦ
                  have hj : jj ≤ 0 := Nat.le_trans hj0 (of_decide_eq_true (by kernel_rfl))
                  refine .inl ⟨Rel.wanted_free (by kernel_rfl) _, ?_⟩
                  exact Rel.wp_as _ rfl ⟨congrArg (a.put _) (c.get 17 76 (by kernel_rfl) rfl), rfl⟩
              intro a w8 hbase hroom hdef hΦ hV
              have h : (fun (_ : Nat) (_ : List Value) (w : World) => w = wq.drew) 0 [] w8 := hΦ
              have s11 := hV 18 _ 11 _ rfl rfl rfl
              have s12 := hV 19 _ 12 _ rfl rfl rfl
              rw [Chn.act_puts [59, 60, 61, 62, 63, 64, 65, 66, 67, 68, 69, 70, 71, 72, 73, 74, 75, 76, 11, 12] hbase hroom hdef (by kernel_rfl)]
              clear hbase hroom hdef hΦ hV
              simp only [List.foldl_cons, List.foldl_nil]
              generalize Rel.slot a 59 = u59 at *
              generalize Rel.slot a 60 = u60 at *
              generalize Rel.slot a 61 = u61 at *
              generalize Rel.slot a 62 = u62 at *
              generalize Rel.slot a 63 = u63 at *
              generalize Rel.slot a 64 = u64 at *
              generalize Rel.slot a 65 = u65 at *
              generalize Rel.slot a 66 = u66 at *
              generalize Rel.slot a 67 = u67 at *
              generalize Rel.slot a 68 = u68 at *
              generalize Rel.slot a 69 = u69 at *
              generalize Rel.slot a 70 = u70 at *
              generalize Rel.slot a 71 = u71 at *
              generalize Rel.slot a 72 = u72 at *
              generalize Rel.slot a 73 = u73 at *
              generalize Rel.slot a 74 = u74 at *
              generalize Rel.slot a 75 = u75 at *
              generalize Rel.slot a 76 = u76 at *
              rw [s11]
              clear s11
              rw [s12]
              clear s12
              subst h
              go_wp2_with fail
              go_roundw
              case rel => exact ⟨j + 1, by omega, by go_num, by rw [HE2.out.1], by rw [HE2.out.2], HBj.out.drew⟩
              case measure => simp [intOf]; omega
            · obtain rfl : j = 4 := by omega
              clear hb hEr
              have he32 : numK l 24 4 < 4294967296 := numK_lt l 24 4
              have hq32 : numK l 28 4 < 4294967296 := numK_lt l 28 4
              have hbo := own_keep HO.out.1 HBj.out
              obtain ⟨ab, cb, rfl, hcb, hcbm, hnb, hrb⟩ := own_row hbo
              rw [bodyB_length]
              have HBody := Lib.hid (And.intro hbo hrb)
              have HPk := Lib.hid (rpack_ok (numK l 24 4) (numK l 28 4) he32 hq32 ab i cb (bodyB l i) wq (bodyB_length l i) (by omega) (fun h => by rw [bodyB_length] at hcb; have := hnb h; omega) hrb)
              have hun : unpackB l = if packB (numK l 24 4) (numK l 28 4) (bodyB l i) = l.take (32 * K) then some (numK l 24 4, numK l 28 4, bodyB l i, K) else none := by
                unfold unpackB
                rw [if_neg h32, HSec.out, if_neg hk, ← HTwo.out]
              have hpl := packB_length (numK l 24 4) (numK l 28 4) (bodyB l i)
              rw [bodyB_length] at hpl
              have hKe : secs i = K := by rw [← HSec.out, ← HTwo.out]
              rw [hKe] at hpl
              have HUn := Lib.hid hun
              have HPl := Lib.hid hpl
              have HB4 := Lib.hid (below_keep HBo.out HBj.out)
              have HEw := Lib.hid (row_keep encB_len HEo.out HBj.out)
              clear hun hpl hKe hbo hrb hcb hcbm hnb he32 hq32
              generalize numK l 24 4 = EP at *
              generalize numK l 28 4 = SQ at *
              go_wp2_with fail
              refine HPk.out.mono ?_
              rintro e' w14 ⟨v, rfl, hov, hbv⟩
              obtain ⟨gp, cp, rfl, hrp, _, _, _, _⟩ := own_form hov (by rw [HPl.out]; omega)
              rw [HPl.out]
              have HP := Lib.hid (And.intro HPl.out hrp)
              have HB14 := Lib.hid (below_keep HB4.out hbv)
              have HTk := Lib.hid (row_take (row_keep encB_len HEw.out hbv) (32 * K))
              have HBd := Lib.hid (own_keep HBody.out.1 hbv)
              have KC := Lib.hid fun (W : World) (a : Option Addr) (len cap : Nat) (l : List UInt8) (hl : l.length = len) (hn : a = none → len = 0) (h : RowB W a l) => conv_row (P := Try.prog) (src := 22) (dst := 9) Try.underlying22 Try.underlying5 Try.underlying9 (cap := cap) hl hn h
              clear hov hbv hrp
              generalize packB EP SQ (bodyB l i) = P at *
              by_cases hne : P = l.take (32 * K)
              · have HNe := Lib.hid hne
                have HS : Hid (unpackB l = some (EP, SQ, bodyB l i, K)) := Lib.hid (by rw [HUn.out, if_pos hne])
                clear hne
                go_wp2_with fail
                refine Rel.wp_region_rel (G := Rel.Gr) (Rel.tab [.is (.slice (some ⟨gp, 0, none⟩) (32 * K) cp), .is (.string ⟨P.toArray⟩), .is (.slice (some ⟨b, o, none⟩) l.length cap), .is (.int .i64 (K : Nat)), .is (.int .i64 ((32 * K : Nat) : Int)), .is (.slice (some ⟨b, o, none⟩) (32 * K) cap), .is (.string ⟨(l.take (32 * K)).toArray⟩), .is (.bool false)]) (fun _ w => Below w14.heap.size w14 w) (by kernel_rfl) (by kernel_rfl) (by kernel_rfl) (by kernel_rfl) (fun w => Rel.gr_refl _) (below_drew _) ?_ ?_
                · refine ⟨?_, ?_, ?_, ?_, ?_, ?_, ?_, ?_, trivial⟩
                  · intro L a w c
                    refine .inl ⟨Rel.wanted_free (by kernel_rfl) _, ?_⟩
                    exact Rel.wp_mv _ rfl ⟨_, rfl, Rel.gr_refl _, (c.old 14 (v := .slice (some ⟨gp, 0, none⟩) (32 * K) cp) (by kernel_rfl) (by kernel_rfl)), c.inv⟩
                  · intro L a w c
                    refine .inl ⟨Rel.wanted_free (by kernel_rfl) _, ?_⟩
                    exact Rel.wp_cv _ _ _ rfl (c.get 0 84 (by kernel_rfl)) (KC.out w _ _ _ P HP.out.1 (fun h => by cases h) (row_keep encB_len HP.out.2 c.inv)) ⟨_, rfl, Rel.gr_refl _, rfl, c.inv⟩
                  · intro L a w c
                    refine .inl ⟨Rel.wanted_free (by kernel_rfl) _, ?_⟩
                    exact Rel.wp_mv _ rfl ⟨_, rfl, Rel.gr_refl _, (c.old 0 (v := .slice (some ⟨b, o, none⟩) l.length cap) (by kernel_rfl) (by kernel_rfl)), c.inv⟩
                  · intro L a w c
                    refine .inl ⟨Rel.wanted_free (by kernel_rfl) _, ?_⟩
                    exact Rel.wp_mv _ rfl ⟨_, rfl, Rel.gr_refl _, (c.old 8 (v := .int .i64 (K : Nat)) (by kernel_rfl) (by kernel_rfl)), c.inv⟩
                  · intro L a w c
                    refine .inl ⟨Rel.wanted_free (by kernel_rfl) _, ?_⟩
                    exact Rel.wp_bo _ _ _ _ _ rfl (u := .int .i64 ((32 * K : Nat) : Int)) rfl (c.get 3 87 (by kernel_rfl)) (by simp [go_sem, IntKind.wrap_i64]; omega) ⟨_, rfl, Rel.gr_refl _, rfl, c.inv⟩
                  · intro L a w c
                    refine .inl ⟨Rel.wanted_free (by kernel_rfl) _, ?_⟩
                    exact Rel.wp_sl _ _ _ _ _ rfl (c.get 2 86 (by kernel_rfl)) rfl (congrArg some (c.get 4 88 (by kernel_rfl))) rfl (run_cut _ _ (32 * K) _ (by omega) hlc w) ⟨_, rfl, Rel.gr_refl _, rfl, c.inv⟩
                  · intro L a w c
                    refine .inl ⟨Rel.wanted_free (by kernel_rfl) _, ?_⟩
                    exact Rel.wp_cv _ _ _ rfl (c.get 5 89 (by kernel_rfl)) (KC.out w _ _ _ (l.take (32 * K)) (by rw [List.length_take]; omega) (fun h => by cases h) (row_keep encB_len HTk.out c.inv)) ⟨_, rfl, Rel.gr_refl _, rfl, c.inv⟩
                  · intro L a w c
                    refine .inl ⟨Rel.wanted_free (by kernel_rfl) _, ?_⟩
                    exact Rel.wp_bo _ _ _ _ _ rfl (u := .bool false) (c.get 1 85 (by kernel_rfl)) (c.get 6 90 (by kernel_rfl)) (by simp [go_sem, HNe.out]) ⟨_, rfl, Rel.gr_refl _, rfl, c.inv⟩
                intro a w15 hbase hroom hdef hJ hV
                have s91 : Rel.slot a 91 = .bool false := hV 7 _ _ rfl rfl
                rw [Chn.act_puts [84, 85, 86, 87, 88, 89, 90, 91] hbase hroom hdef (by kernel_rfl)]
                clear hbase hroom hdef hV
                simp only [List.foldl_cons, List.foldl_nil]
                generalize Rel.slot a 84 = u84 at *
                generalize Rel.slot a 85 = u85 at *
                generalize Rel.slot a 86 = u86 at *
                generalize Rel.slot a 87 = u87 at *
                generalize Rel.slot a 88 = u88 at *
                generalize Rel.slot a 89 = u89 at *
                generalize Rel.slot a 90 = u90 at *
                rw [s91]
                clear s91
                simp only [Act.put, List.setIfInBounds_toArray, List.set_cons_succ, List.set_cons_zero]
                have HB15 := Lib.hid (below_keep HB14.out hJ)
                have HBd15 := Lib.hid (own_keep HBd.out hJ)
                clear hJ
                go_wp2
                (try simp only [Exit.inBlock, Exit.then])
                refine bodyPost_ret (results_tmp5 rfl _ _ _) rfl ?_
                show UnpR wa l _ _
                unfold UnpR
                rw [ansU_some HS.out]
                refine ⟨.slice ab i cb, rfl, ?_, HB15.out⟩
                have h15 := own_le (base' := wa.heap.size) HBd15.out HB9.out.size
                rw [bodyB_length] at h15
                exact h15
              · have HNe := Lib.hid hne
                have HN : unpackB l = none := by rw [HUn.out, if_neg hne]
                have HNN := Lib.hid HN
                clear hne HN
                go_wp2_with fail
                refine Rel.wp_region_rel (G := Rel.Gr) (Rel.tab [.is (.slice (some ⟨gp, 0, none⟩) (32 * K) cp), .is (.string ⟨P.toArray⟩), .is (.slice (some ⟨b, o, none⟩) l.length cap), .is (.int .i64 (K : Nat)), .is (.int .i64 ((32 * K : Nat) : Int)), .is (.slice (some ⟨b, o, none⟩) (32 * K) cap), .is (.string ⟨(l.take (32 * K)).toArray⟩), .is (.bool true)]) (fun _ w => Below w14.heap.size w14 w) (by kernel_rfl) (by kernel_rfl) (by kernel_rfl) (by kernel_rfl) (fun w => Rel.gr_refl _) (below_drew _) ?_ ?_
                · refine ⟨?_, ?_, ?_, ?_, ?_, ?_, ?_, ?_, trivial⟩
                  · intro L a w c
                    refine .inl ⟨Rel.wanted_free (by kernel_rfl) _, ?_⟩
                    exact Rel.wp_mv _ rfl ⟨_, rfl, Rel.gr_refl _, (c.old 14 (v := .slice (some ⟨gp, 0, none⟩) (32 * K) cp) (by kernel_rfl) (by kernel_rfl)), c.inv⟩
                  · intro L a w c
                    refine .inl ⟨Rel.wanted_free (by kernel_rfl) _, ?_⟩
                    exact Rel.wp_cv _ _ _ rfl (c.get 0 84 (by kernel_rfl)) (KC.out w _ _ _ P HP.out.1 (fun h => by cases h) (row_keep encB_len HP.out.2 c.inv)) ⟨_, rfl, Rel.gr_refl _, rfl, c.inv⟩
                  · intro L a w c
                    refine .inl ⟨Rel.wanted_free (by kernel_rfl) _, ?_⟩
                    exact Rel.wp_mv _ rfl ⟨_, rfl, Rel.gr_refl _, (c.old 0 (v := .slice (some ⟨b, o, none⟩) l.length cap) (by kernel_rfl) (by kernel_rfl)), c.inv⟩
                  · intro L a w c
                    refine .inl ⟨Rel.wanted_free (by kernel_rfl) _, ?_⟩
                    exact Rel.wp_mv _ rfl ⟨_, rfl, Rel.gr_refl _, (c.old 8 (v := .int .i64 (K : Nat)) (by kernel_rfl) (by kernel_rfl)), c.inv⟩
                  · intro L a w c
                    refine .inl ⟨Rel.wanted_free (by kernel_rfl) _, ?_⟩
                    exact Rel.wp_bo _ _ _ _ _ rfl (u := .int .i64 ((32 * K : Nat) : Int)) rfl (c.get 3 87 (by kernel_rfl)) (by simp [go_sem, IntKind.wrap_i64]; omega) ⟨_, rfl, Rel.gr_refl _, rfl, c.inv⟩
                  · intro L a w c
                    refine .inl ⟨Rel.wanted_free (by kernel_rfl) _, ?_⟩
                    exact Rel.wp_sl _ _ _ _ _ rfl (c.get 2 86 (by kernel_rfl)) rfl (congrArg some (c.get 4 88 (by kernel_rfl))) rfl (run_cut _ _ (32 * K) _ (by omega) hlc w) ⟨_, rfl, Rel.gr_refl _, rfl, c.inv⟩
                  · intro L a w c
                    refine .inl ⟨Rel.wanted_free (by kernel_rfl) _, ?_⟩
                    exact Rel.wp_cv _ _ _ rfl (c.get 5 89 (by kernel_rfl)) (KC.out w _ _ _ (l.take (32 * K)) (by rw [List.length_take]; omega) (fun h => by cases h) (row_keep encB_len HTk.out c.inv)) ⟨_, rfl, Rel.gr_refl _, rfl, c.inv⟩
                  · intro L a w c
                    refine .inl ⟨Rel.wanted_free (by kernel_rfl) _, ?_⟩
                    exact Rel.wp_bo _ _ _ _ _ rfl (u := .bool true) (c.get 1 85 (by kernel_rfl)) (c.get 6 90 (by kernel_rfl)) (by simp [go_sem]; exact HNe.out) ⟨_, rfl, Rel.gr_refl _, rfl, c.inv⟩
                intro a w15 hbase hroom hdef hJ hV
                have s91 : Rel.slot a 91 = .bool true := hV 7 _ _ rfl rfl
                rw [Chn.act_puts [84, 85, 86, 87, 88, 89, 90, 91] hbase hroom hdef (by kernel_rfl)]
                clear hbase hroom hdef hV
                simp only [List.foldl_cons, List.foldl_nil]
                generalize Rel.slot a 84 = u84 at *
                generalize Rel.slot a 85 = u85 at *
                generalize Rel.slot a 86 = u86 at *
                generalize Rel.slot a 87 = u87 at *
                generalize Rel.slot a 88 = u88 at *
                generalize Rel.slot a 89 = u89 at *
                generalize Rel.slot a 90 = u90 at *
                rw [s91]
                clear s91
                simp only [Act.put, List.setIfInBounds_toArray, List.set_cons_succ, List.set_cons_zero]
                have HB15 := Lib.hid (unp_none HNN.out (below_keep HB14.out hJ))
                clear hJ
                go_wp2
                (try simp only [Exit.inBlock, Exit.then])
                refine bodyPost_ret (results_tmp5 rfl _ _ _) rfl ?_
                exact HB15.out

end Go.Proofs.Ytfnkeknnlndjcaa.Frm
