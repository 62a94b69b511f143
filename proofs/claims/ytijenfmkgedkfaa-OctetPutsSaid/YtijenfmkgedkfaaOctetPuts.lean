/- OctetPuts answers true for any bytes, any number and any text, each read afterwards as it was: what octet puts behind the bytes is what the document says; a text of more than 65535 bytes is ErrOver. No condition: what is read is no more than memory bears. -/
import Derived.Test.YtijenfmkgedkfaaRows
import Derived.WalkKit
import Derived.ProofKit
import Derived.OpenShut
import Derived.ShutString
import Derived.ChangeOld
import Derived.Below
import Derived.Test.YtijenfmkgedkfaaOpens
import Derived.Test.YtijenfmkgedkfaaOctRel
namespace Go.Proofs.Ytijenfmkgedkfaa.octetPuts
open Go.ChangeShapes Go.WideShapes Go.ChangeAt Go.RowKit
open Go.ChangeMaps (open_string shut_string)
set_option linter.unusedVariables false

theorem own : ownKnob Try.prog.godebug = none := by kernel_rfl
theorem laidOut : laidOutB Try.prog = true := by kernel_rfl

open Oct
open Kit
open Go.Sort
theorem text_row {w1 : World} {base g c len : Nat} {l : List UInt8} {s : ByteArray} (hl : l.length = len) (h : OwnR w1 base g c (l ++ beB 2 s.size ++ s.data.toList)) :
    (l ++ beB 2 s.size ++ s.data.toList).length = len + 2 + s.size ∧ RowB w1 (some ⟨g, 0, none⟩) (l ++ beB 2 s.size ++ s.data.toList) := by
  obtain ⟨a', c', he, _, _, _, h6⟩ := own_row h.2.2
  injection he with e1 e2 e3
  subst e1
  refine ⟨?_, h6⟩
  rw [List.length_append, List.length_append, beB_length, hl, Array.length_toList]; rfl
set_option maxHeartbeats 4000000 in
theorem walk (W : World) (a0 : Option Addr) (len0 cap0 : Nat) (x0 : List UInt8) (w0 : Opn.RSlice Oct.RByte 1 W [.slice a0 len0 cap0] x0) (z0 : len0 * 1 ≤ 140737488351232) (a1 : Int) (w1 : (Lit.int .i64 a1).wf = true) (a2 : ByteArray) (w2 : a2.size ≤ maxLen) (z2 : a2.size ≤ 140737488351232) :
    Calls Try.prog 3 #[.slice a0 len0 cap0, .int .i64 a1, .string a2] W fun e w' => e = .returned (.bool true) ∧ Below W.heap.size W w' := by
  obtain ⟨hl, hc, hcm, hn, hE⟩ := bytes_arg w0
  rw [Nat.mul_one] at z0
  unfold maxLen at w2
  clear w0
  by_cases hs : 65535 < a2.size
  · go_enter Try.func3, Try.ntmps3
    go_wp2_with fail
    refine (text_over _ a2 W (by unfold maxLen; omega) hs).mono ?_
    rintro e w1 ⟨rfl, rfl⟩
    go_wp2
    have HL := Lib.hid hl
    have HN := Lib.hid hn
    have HE := Lib.hid hE
    have KC := Lib.hid (fun (W : World) (a : Option Addr) (len cap : Nat) (l : List UInt8) => conv_row (P := Try.prog) (src := 22) (dst := 9) Try.underlying22 Try.underlying5 Try.underlying9 (w := W) (a := a) (len := len) (cap := cap) (l := l))
    refine Rel.wp_region_rel (G := Rel.Gr) (Rel.tab [.is (.bool true), .is (.bool true), .is (.int .i64 2), .is (.bool true), .is (.bool true), .is (.bool true), .is (.slice none 0 0), .is (.int .i64 (0 : Nat)), .is (.bool true), .is (.bool true), .is (.bool true), .is (.slice a0 len0 cap0), .is (.int .i64 a1), kRow (x0 ++ beB 8 (toU64 a1)), .is (.string ⟨(x0 ++ beB 8 (toU64 a1)).toArray⟩), .is (.slice a0 len0 cap0), .is (.int .i64 a1), kRow (x0 ++ beB 8 (toU64 a1)), .is (.string ⟨(x0 ++ beB 8 (toU64 a1)).toArray⟩), .is (.bool true), .is (.bool true), .is (.bool true)]) (fun _ w => Below W.heap.size W w) (by kernel_rfl) (by kernel_rfl) (by kernel_rfl) (by kernel_rfl) (fun w => Rel.gr_refl _) (below_drew _) ?_ ?_
    · refine ⟨?_, ?_, ?_, ?_, ?_, ?_, ?_, ?_, ?_, ?_, ?_, ?_, ?_, ?_, ?_, ?_, ?_, ?_, ?_, ?_, ?_, ?_, trivial⟩
      · intro L a w c
        refine .inl ⟨Rel.wanted_free (by kernel_rfl) _, ?_⟩
        refine Rel.wp_cl _ _ _ rfl Try.func9 (by kernel_rfl) ?_
        show Calls _ _ #[] w _
        refine (awake_any w).mono ?_
        rintro e w' ⟨rfl, hb⟩
        exact ⟨_, rfl, _, rfl, hb, rfl, below_keep c.inv hb⟩
      · intro L a w c
        refine .inl ⟨Rel.wanted_free (by kernel_rfl) _, ?_⟩
        exact Rel.wp_mv _ rfl ⟨_, rfl, Rel.gr_refl _, (c.get 0 18 (by kernel_rfl)), c.inv⟩
      · intro L a w c
        refine .inl ⟨Rel.wanted_by (j := 1) (b := true) (d := 19) (by kernel_rfl) (c.get 1 19 (by kernel_rfl)), ?_⟩
        exact Rel.wp_mv _ rfl ⟨_, rfl, Rel.gr_refl _, (c.old 8 (v := .int .i64 2) (by kernel_rfl) (by kernel_rfl)), c.inv⟩
      · intro L a w c
        refine .inl ⟨Rel.wanted_by (j := 1) (b := true) (d := 19) (by kernel_rfl) (c.get 1 19 (by kernel_rfl)), ?_⟩
        exact Rel.wp_bo _ _ _ _ _ rfl (u := .bool true) (c.get 2 20 (by kernel_rfl)) rfl (by simp [go_sem]) ⟨_, rfl, Rel.gr_refl _, rfl, c.inv⟩
      · intro L a w c
        refine .inl ⟨Rel.wanted_free (by kernel_rfl) _, ?_⟩
        exact Rel.wp_pk _ _ _ rfl (b := true) (c.get 1 19 (by kernel_rfl)) ⟨_, rfl, Rel.gr_refl _, (c.get 3 21 (by kernel_rfl)), c.inv⟩
      · intro L a w c
        refine .inl ⟨Rel.wanted_free (by kernel_rfl) _, ?_⟩
        exact Rel.wp_mv _ rfl ⟨_, rfl, Rel.gr_refl _, (c.get 4 22 (by kernel_rfl)), c.inv⟩
      · intro L a w c
        refine .inl ⟨Rel.wanted_by (j := 5) (b := true) (d := 23) (by kernel_rfl) (c.get 5 23 (by kernel_rfl)), ?_⟩
        exact Rel.wp_mv _ rfl ⟨_, rfl, Rel.gr_refl _, (c.old 7 (v := .slice none 0 0) (by kernel_rfl) (by kernel_rfl)), c.inv⟩
      · intro L a w c
        refine .inl ⟨Rel.wanted_by (j := 5) (b := true) (d := 23) (by kernel_rfl) (c.get 5 23 (by kernel_rfl)), ?_⟩
        exact Rel.wp_len _ _ rfl (c.get 6 24 (by kernel_rfl)) (by simp [go_sem]) ⟨_, rfl, Rel.gr_refl _, rfl, c.inv⟩
      · intro L a w c
        refine .inl ⟨Rel.wanted_by (j := 5) (b := true) (d := 23) (by kernel_rfl) (c.get 5 23 (by kernel_rfl)), ?_⟩
        exact Rel.wp_bo _ _ _ _ _ rfl (u := .bool true) (c.get 7 25 (by kernel_rfl)) rfl (by simp [go_sem]) ⟨_, rfl, Rel.gr_refl _, rfl, c.inv⟩
      · intro L a w c
        refine .inl ⟨Rel.wanted_free (by kernel_rfl) _, ?_⟩
        exact Rel.wp_pk _ _ _ rfl (b := true) (c.get 5 23 (by kernel_rfl)) ⟨_, rfl, Rel.gr_refl _, (c.get 8 26 (by kernel_rfl)), c.inv⟩
      · intro L a w c
        refine .inl ⟨Rel.wanted_free (by kernel_rfl) _, ?_⟩
        exact Rel.wp_mv _ rfl ⟨_, rfl, Rel.gr_refl _, (c.get 9 27 (by kernel_rfl)), c.inv⟩
      · intro L a w c
        refine .inl ⟨Rel.wanted_by (j := 10) (b := true) (d := 28) (by kernel_rfl) (c.get 10 28 (by kernel_rfl)), ?_⟩
        exact Rel.wp_mv _ rfl ⟨_, rfl, Rel.gr_refl _, (c.old 0 (v := .slice a0 len0 cap0) (by kernel_rfl) (by kernel_rfl)), c.inv⟩
      · intro L a w c
        refine .inl ⟨Rel.wanted_by (j := 10) (b := true) (d := 28) (by kernel_rfl) (c.get 10 28 (by kernel_rfl)), ?_⟩
        exact Rel.wp_mv _ rfl ⟨_, rfl, Rel.gr_refl _, (c.old 1 (v := .int .i64 a1) (by kernel_rfl) (by kernel_rfl)), c.inv⟩
      · intro L a w c
        refine .inl ⟨Rel.wanted_by (j := 10) (b := true) (d := 28) (by kernel_rfl) (c.get 10 28 (by kernel_rfl)), ?_⟩
        refine Rel.wp_cl _ _ _ rfl Try.func10 (by kernel_rfl) ?_
        show Calls _ _ #[Rel.slot a 29, Rel.slot a 30] w _
        rw [show Rel.slot a 29 = .slice a0 len0 cap0 from (c.get 11 29 (by kernel_rfl)), show Rel.slot a 30 = .int .i64 a1 from (c.get 12 30 (by kernel_rfl))]
        exact call_row rfl ((int_any a0 len0 cap0 a1 x0 w HL.out HN.out (row_keep encB_len HE.out c.inv) (by omega)).mono fun e w' h => kRow_out h) c.inv
      · intro L a w c
        refine .inl ⟨Rel.wanted_by (j := 10) (b := true) (d := 28) (by kernel_rfl) (c.get 10 28 (by kernel_rfl)), ?_⟩
        obtain ⟨aa, nn, cc, e, hl', hn', hr'⟩ := (c.get 13 31 (by kernel_rfl))
        exact Rel.wp_cv _ _ _ rfl e (KC.out w aa nn cc _ hl' hn' hr') ⟨_, rfl, Rel.gr_refl _, rfl, c.inv⟩
      · intro L a w c
        refine .inl ⟨Rel.wanted_by (j := 10) (b := true) (d := 28) (by kernel_rfl) (c.get 10 28 (by kernel_rfl)), ?_⟩
        exact Rel.wp_mv _ rfl ⟨_, rfl, Rel.gr_refl _, (c.old 0 (v := .slice a0 len0 cap0) (by kernel_rfl) (by kernel_rfl)), c.inv⟩
      · intro L a w c
        refine .inl ⟨Rel.wanted_by (j := 10) (b := true) (d := 28) (by kernel_rfl) (c.get 10 28 (by kernel_rfl)), ?_⟩
        exact Rel.wp_mv _ rfl ⟨_, rfl, Rel.gr_refl _, (c.old 1 (v := .int .i64 a1) (by kernel_rfl) (by kernel_rfl)), c.inv⟩
      · intro L a w c
        refine .inl ⟨Rel.wanted_by (j := 10) (b := true) (d := 28) (by kernel_rfl) (c.get 10 28 (by kernel_rfl)), ?_⟩
        refine Rel.wp_cl _ _ _ rfl Try.func11 (by kernel_rfl) ?_
        show Calls _ _ #[Rel.slot a 33, Rel.slot a 34] w _
        rw [show Rel.slot a 33 = .slice a0 len0 cap0 from (c.get 15 33 (by kernel_rfl)), show Rel.slot a 34 = .int .i64 a1 from (c.get 16 34 (by kernel_rfl))]
        exact call_row rfl ((rint_any a0 len0 cap0 a1 x0 w HL.out HN.out (row_keep encB_len HE.out c.inv) (by omega)).mono fun e w' ⟨v, h1, h2, h3⟩ => ⟨v, h1, kRow_own h2, h3⟩) c.inv
      · intro L a w c
        refine .inl ⟨Rel.wanted_by (j := 10) (b := true) (d := 28) (by kernel_rfl) (c.get 10 28 (by kernel_rfl)), ?_⟩
        obtain ⟨aa, nn, cc, e, hl', hn', hr'⟩ := (c.get 17 35 (by kernel_rfl))
        exact Rel.wp_cv _ _ _ rfl e (KC.out w aa nn cc _ hl' hn' hr') ⟨_, rfl, Rel.gr_refl _, rfl, c.inv⟩
      · intro L a w c
        refine .inl ⟨Rel.wanted_by (j := 10) (b := true) (d := 28) (by kernel_rfl) (c.get 10 28 (by kernel_rfl)), ?_⟩
        exact Rel.wp_bo _ _ _ _ _ rfl (u := .bool true) (c.get 14 32 (by kernel_rfl)) (c.get 18 36 (by kernel_rfl)) (by simp [go_sem]) ⟨_, rfl, Rel.gr_refl _, rfl, c.inv⟩
      · intro L a w c
        refine .inl ⟨Rel.wanted_free (by kernel_rfl) _, ?_⟩
        exact Rel.wp_pk _ _ _ rfl (b := true) (c.get 10 28 (by kernel_rfl)) ⟨_, rfl, Rel.gr_refl _, (c.get 19 37 (by kernel_rfl)), c.inv⟩
      · intro L a w c
        refine .inl ⟨Rel.wanted_free (by kernel_rfl) _, ?_⟩
        exact Rel.wp_as _ rfl ⟨_, rfl, Rel.gr_refl _, (c.get 20 38 (by kernel_rfl)), c.inv⟩
    · intro a w hbase hroom hdef hJ hV
      have hr : Rel.slot a 6 = .bool true := hV 21 _ _ rfl rfl
      obtain ⟨tm, df⟩ := a
      simp only at hdef
      subst hdef
      go_wp2
      refine bodyPost_ret (results_tmp rfl _ _ _) rfl ?_
      exact ⟨congrArg Ending.returned hr, hJ⟩
  · have HN := Lib.hid hn
    have HL := Lib.hid hl
    have KC := Lib.hid (fun (W : World) (a : Option Addr) (len cap : Nat) (l : List UInt8) => conv_row (P := Try.prog) (src := 22) (dst := 9) Try.underlying22 Try.underlying5 Try.underlying9 (w := W) (a := a) (len := len) (cap := cap) (l := l))
    go_enter Try.func3, Try.ntmps3
    go_wp2_with fail
    refine (text_any a0 len0 cap0 a2 x0 W hl hn hE (by omega) (by omega)).mono ?_
    rintro e w1 ⟨g, c1, rfl, hR, hb⟩
    have HE := Lib.hid (row_keep encB_len hE hb)
    have HB := Lib.hid hb
    have H1 := Lib.hid (text_row hl hR)
    clear hE hb hR hn hl
    go_wp2
    refine Rel.wp_region_rel (G := Rel.Gr) (Rel.tab [.is (.bool true), .is (.bool true), .is (.int .i64 0), .is (.bool true), .is (.bool true), .is (.bool true), .is (.slice (some ⟨g, 0, none⟩) (len0 + 2 + a2.size) c1), .is (.string ⟨(x0 ++ beB 2 a2.size ++ a2.data.toList).toArray⟩), .is (.slice a0 len0 cap0), .is (.string a2), kRow (x0 ++ beB 2 a2.size ++ a2.data.toList), .is (.string ⟨(x0 ++ beB 2 a2.size ++ a2.data.toList).toArray⟩), .is (.bool true), .is (.bool true), .is (.bool true), .is (.slice a0 len0 cap0), .is (.int .i64 a1), kRow (x0 ++ beB 8 (toU64 a1)), .is (.string ⟨(x0 ++ beB 8 (toU64 a1)).toArray⟩), .is (.slice a0 len0 cap0), .is (.int .i64 a1), kRow (x0 ++ beB 8 (toU64 a1)), .is (.string ⟨(x0 ++ beB 8 (toU64 a1)).toArray⟩), .is (.bool true), .is (.bool true), .is (.bool true)]) (fun _ w => Below w1.heap.size w1 w) (by kernel_rfl) (by kernel_rfl) (by kernel_rfl) (by kernel_rfl) (fun w => Rel.gr_refl _) (below_drew _) ?_ ?_
    · refine ⟨?_, ?_, ?_, ?_, ?_, ?_, ?_, ?_, ?_, ?_, ?_, ?_, ?_, ?_, ?_, ?_, ?_, ?_, ?_, ?_, ?_, ?_, ?_, ?_, ?_, ?_, trivial⟩
      · intro L a w c
        refine .inl ⟨Rel.wanted_free (by kernel_rfl) _, ?_⟩
        refine Rel.wp_cl _ _ _ rfl Try.func9 (by kernel_rfl) ?_
        show Calls _ _ #[] w _
        refine (awake_any w).mono ?_
        rintro e w' ⟨rfl, hb⟩
        exact ⟨_, rfl, _, rfl, hb, rfl, below_keep c.inv hb⟩
      · intro L a w c
        refine .inl ⟨Rel.wanted_free (by kernel_rfl) _, ?_⟩
        exact Rel.wp_mv _ rfl ⟨_, rfl, Rel.gr_refl _, (c.get 0 39 (by kernel_rfl)), c.inv⟩
      · intro L a w c
        refine .inl ⟨Rel.wanted_by (j := 1) (b := true) (d := 40) (by kernel_rfl) (c.get 1 40 (by kernel_rfl)), ?_⟩
        exact Rel.wp_mv _ rfl ⟨_, rfl, Rel.gr_refl _, (c.old 8 (v := .int .i64 0) (by kernel_rfl) (by kernel_rfl)), c.inv⟩
      · intro L a w c
        refine .inl ⟨Rel.wanted_by (j := 1) (b := true) (d := 40) (by kernel_rfl) (c.get 1 40 (by kernel_rfl)), ?_⟩
        exact Rel.wp_bo _ _ _ _ _ rfl (u := .bool true) (c.get 2 41 (by kernel_rfl)) rfl (by simp [go_sem]) ⟨_, rfl, Rel.gr_refl _, rfl, c.inv⟩
      · intro L a w c
        refine .inl ⟨Rel.wanted_free (by kernel_rfl) _, ?_⟩
        exact Rel.wp_pk _ _ _ rfl (b := true) (c.get 1 40 (by kernel_rfl)) ⟨_, rfl, Rel.gr_refl _, (c.get 3 42 (by kernel_rfl)), c.inv⟩
      · intro L a w c
        refine .inl ⟨Rel.wanted_free (by kernel_rfl) _, ?_⟩
        exact Rel.wp_mv _ rfl ⟨_, rfl, Rel.gr_refl _, (c.get 4 43 (by kernel_rfl)), c.inv⟩
      · intro L a w c
        refine .inl ⟨Rel.wanted_by (j := 5) (b := true) (d := 44) (by kernel_rfl) (c.get 5 44 (by kernel_rfl)), ?_⟩
        exact Rel.wp_mv _ rfl ⟨_, rfl, Rel.gr_refl _, (c.old 7 (v := .slice (some ⟨g, 0, none⟩) (len0 + 2 + a2.size) c1) (by kernel_rfl) (by kernel_rfl)), c.inv⟩
      · intro L a w c
        refine .inl ⟨Rel.wanted_by (j := 5) (b := true) (d := 44) (by kernel_rfl) (c.get 5 44 (by kernel_rfl)), ?_⟩
        exact Rel.wp_cv _ _ _ rfl (c.get 6 45 (by kernel_rfl)) (KC.out w _ _ _ _ H1.out.1 (fun h => by cases h) (row_keep encB_len H1.out.2 c.inv)) ⟨_, rfl, Rel.gr_refl _, rfl, c.inv⟩
      · intro L a w c
        refine .inl ⟨Rel.wanted_by (j := 5) (b := true) (d := 44) (by kernel_rfl) (c.get 5 44 (by kernel_rfl)), ?_⟩
        exact Rel.wp_mv _ rfl ⟨_, rfl, Rel.gr_refl _, (c.old 0 (v := .slice a0 len0 cap0) (by kernel_rfl) (by kernel_rfl)), c.inv⟩
      · intro L a w c
        refine .inl ⟨Rel.wanted_by (j := 5) (b := true) (d := 44) (by kernel_rfl) (c.get 5 44 (by kernel_rfl)), ?_⟩
        exact Rel.wp_mv _ rfl ⟨_, rfl, Rel.gr_refl _, (c.old 2 (v := .string a2) (by kernel_rfl) (by kernel_rfl)), c.inv⟩
      · intro L a w c
        refine .inl ⟨Rel.wanted_by (j := 5) (b := true) (d := 44) (by kernel_rfl) (c.get 5 44 (by kernel_rfl)), ?_⟩
        refine Rel.wp_cl _ _ _ rfl Try.func12 (by kernel_rfl) ?_
        show Calls _ _ #[Rel.slot a 47, Rel.slot a 48] w _
        rw [show Rel.slot a 47 = .slice a0 len0 cap0 from (c.get 8 47 (by kernel_rfl)), show Rel.slot a 48 = .string a2 from (c.get 9 48 (by kernel_rfl))]
        exact call_row rfl ((rtext_any a0 len0 cap0 a2 x0 w HL.out HN.out (row_keep encB_len HE.out c.inv) (by omega) (by omega)).mono fun e w' ⟨v, h1, h2, h3⟩ => ⟨v, h1, kRow_own h2, h3⟩) c.inv
      · intro L a w c
        refine .inl ⟨Rel.wanted_by (j := 5) (b := true) (d := 44) (by kernel_rfl) (c.get 5 44 (by kernel_rfl)), ?_⟩
        obtain ⟨aa, nn, cc, e, hl', hn', hr'⟩ := (c.get 10 49 (by kernel_rfl))
        exact Rel.wp_cv _ _ _ rfl e (KC.out w aa nn cc _ hl' hn' hr') ⟨_, rfl, Rel.gr_refl _, rfl, c.inv⟩
      · intro L a w c
        refine .inl ⟨Rel.wanted_by (j := 5) (b := true) (d := 44) (by kernel_rfl) (c.get 5 44 (by kernel_rfl)), ?_⟩
        exact Rel.wp_bo _ _ _ _ _ rfl (u := .bool true) (c.get 7 46 (by kernel_rfl)) (c.get 11 50 (by kernel_rfl)) (by simp [go_sem]) ⟨_, rfl, Rel.gr_refl _, rfl, c.inv⟩
      · intro L a w c
        refine .inl ⟨Rel.wanted_free (by kernel_rfl) _, ?_⟩
        exact Rel.wp_pk _ _ _ rfl (b := true) (c.get 5 44 (by kernel_rfl)) ⟨_, rfl, Rel.gr_refl _, (c.get 12 51 (by kernel_rfl)), c.inv⟩
      · intro L a w c
        refine .inl ⟨Rel.wanted_free (by kernel_rfl) _, ?_⟩
        exact Rel.wp_mv _ rfl ⟨_, rfl, Rel.gr_refl _, (c.get 13 52 (by kernel_rfl)), c.inv⟩
      · intro L a w c
        refine .inl ⟨Rel.wanted_by (j := 14) (b := true) (d := 53) (by kernel_rfl) (c.get 14 53 (by kernel_rfl)), ?_⟩
        exact Rel.wp_mv _ rfl ⟨_, rfl, Rel.gr_refl _, (c.old 0 (v := .slice a0 len0 cap0) (by kernel_rfl) (by kernel_rfl)), c.inv⟩
      · intro L a w c
        refine .inl ⟨Rel.wanted_by (j := 14) (b := true) (d := 53) (by kernel_rfl) (c.get 14 53 (by kernel_rfl)), ?_⟩
        exact Rel.wp_mv _ rfl ⟨_, rfl, Rel.gr_refl _, (c.old 1 (v := .int .i64 a1) (by kernel_rfl) (by kernel_rfl)), c.inv⟩
      · intro L a w c
        refine .inl ⟨Rel.wanted_by (j := 14) (b := true) (d := 53) (by kernel_rfl) (c.get 14 53 (by kernel_rfl)), ?_⟩
        refine Rel.wp_cl _ _ _ rfl Try.func10 (by kernel_rfl) ?_
        show Calls _ _ #[Rel.slot a 54, Rel.slot a 55] w _
        rw [show Rel.slot a 54 = .slice a0 len0 cap0 from (c.get 15 54 (by kernel_rfl)), show Rel.slot a 55 = .int .i64 a1 from (c.get 16 55 (by kernel_rfl))]
        exact call_row rfl ((int_any a0 len0 cap0 a1 x0 w HL.out HN.out (row_keep encB_len HE.out c.inv) (by omega)).mono fun e w' h => kRow_out h) c.inv
      · intro L a w c
        refine .inl ⟨Rel.wanted_by (j := 14) (b := true) (d := 53) (by kernel_rfl) (c.get 14 53 (by kernel_rfl)), ?_⟩
        obtain ⟨aa, nn, cc, e, hl', hn', hr'⟩ := (c.get 17 56 (by kernel_rfl))
        exact Rel.wp_cv _ _ _ rfl e (KC.out w aa nn cc _ hl' hn' hr') ⟨_, rfl, Rel.gr_refl _, rfl, c.inv⟩
      · intro L a w c
        refine .inl ⟨Rel.wanted_by (j := 14) (b := true) (d := 53) (by kernel_rfl) (c.get 14 53 (by kernel_rfl)), ?_⟩
        exact Rel.wp_mv _ rfl ⟨_, rfl, Rel.gr_refl _, (c.old 0 (v := .slice a0 len0 cap0) (by kernel_rfl) (by kernel_rfl)), c.inv⟩
      · intro L a w c
        refine .inl ⟨Rel.wanted_by (j := 14) (b := true) (d := 53) (by kernel_rfl) (c.get 14 53 (by kernel_rfl)), ?_⟩
        exact Rel.wp_mv _ rfl ⟨_, rfl, Rel.gr_refl _, (c.old 1 (v := .int .i64 a1) (by kernel_rfl) (by kernel_rfl)), c.inv⟩
      · intro L a w c
        refine .inl ⟨Rel.wanted_by (j := 14) (b := true) (d := 53) (by kernel_rfl) (c.get 14 53 (by kernel_rfl)), ?_⟩
        refine Rel.wp_cl _ _ _ rfl Try.func11 (by kernel_rfl) ?_
        show Calls _ _ #[Rel.slot a 58, Rel.slot a 59] w _
        rw [show Rel.slot a 58 = .slice a0 len0 cap0 from (c.get 19 58 (by kernel_rfl)), show Rel.slot a 59 = .int .i64 a1 from (c.get 20 59 (by kernel_rfl))]
        exact call_row rfl ((rint_any a0 len0 cap0 a1 x0 w HL.out HN.out (row_keep encB_len HE.out c.inv) (by omega)).mono fun e w' ⟨v, h1, h2, h3⟩ => ⟨v, h1, kRow_own h2, h3⟩) c.inv
      · intro L a w c
        refine .inl ⟨Rel.wanted_by (j := 14) (b := true) (d := 53) (by kernel_rfl) (c.get 14 53 (by kernel_rfl)), ?_⟩
        obtain ⟨aa, nn, cc, e, hl', hn', hr'⟩ := (c.get 21 60 (by kernel_rfl))
        exact Rel.wp_cv _ _ _ rfl e (KC.out w aa nn cc _ hl' hn' hr') ⟨_, rfl, Rel.gr_refl _, rfl, c.inv⟩
      · intro L a w c
        refine .inl ⟨Rel.wanted_by (j := 14) (b := true) (d := 53) (by kernel_rfl) (c.get 14 53 (by kernel_rfl)), ?_⟩
        exact Rel.wp_bo _ _ _ _ _ rfl (u := .bool true) (c.get 18 57 (by kernel_rfl)) (c.get 22 61 (by kernel_rfl)) (by simp [go_sem]) ⟨_, rfl, Rel.gr_refl _, rfl, c.inv⟩
      · intro L a w c
        refine .inl ⟨Rel.wanted_free (by kernel_rfl) _, ?_⟩
        exact Rel.wp_pk _ _ _ rfl (b := true) (c.get 14 53 (by kernel_rfl)) ⟨_, rfl, Rel.gr_refl _, (c.get 23 62 (by kernel_rfl)), c.inv⟩
      · intro L a w c
        refine .inl ⟨Rel.wanted_free (by kernel_rfl) _, ?_⟩
        exact Rel.wp_as _ rfl ⟨_, rfl, Rel.gr_refl _, (c.get 24 63 (by kernel_rfl)), c.inv⟩
    · intro a w hbase hroom hdef hJ hV
      have hr : Rel.slot a 6 = .bool true := hV 25 _ _ rfl rfl
      obtain ⟨tm, df⟩ := a
      simp only at hdef
      subst hdef
      go_wp2
      refine bodyPost_ret (results_tmp rfl _ _ _) rfl ?_
      exact ⟨congrArg Ending.returned hr, below_keep HB.out hJ⟩

set_option maxRecDepth 100000 in
theorem lifted (os : Os) (started : os.Started) (H : Type) (enc : TypeId × Value → H) :
    ReturnsInHanded {} Try.checked os 3 .any (Rows.octetPutsSpec.pre6 enc Try.prog Try.f3 Rows.octetPutsRow.domain false) (Rows.octetPutsSpec.post enc Try.prog Try.f3 false true false false) := by
  refine returnsInHanded_of_change_sized (C := Try.checked) own started (by kernel_rfl) Try.func3
    (ChangeSpec.witness6 (enc := enc) (C := Try.checked) false ⟨#[], #[.slice none 0 0, .int .i64 0, .string ⟨#[]⟩], []⟩ 8 (by kernel_rfl) (by kernel_rfl) (by kernel_rfl) (by kernel_rfl)) ?_
  intro W base args ds gs before hval0 hW hcnd hsz0 _
  have hval : ∀ (j : Nat) t v, Try.f3.params[j]? = some t → args[j]? = some v → Value.okWide Try.prog W .any base t v := hval0
  have hW' := hW
  obtain ⟨p, q, hA0, hV, rfl, hfz, hnd⟩ := hW
  have hA : DataW.TrodAll enc Try.prog W 0 (fun _ => true) true Try.f3.params.toList args.toList ds p := hA0
  have hsz : (DataW.weightsEach Try.prog (Try.f3.params.toList ++ Rows.octetPutsSpec.plain.varTypes Try.prog) (ds ++ gs)).all (· ≤ reachBytes) = true := hsz0
  rw [Try.params3] at hA hval hsz
  obtain ⟨v0, vs0, d0, ds0, p0, q0, hargs, rfl, rfl, h0, r0⟩ := trodAll_cons hA
  obtain ⟨v1, vs1, d1, ds1, p1, q1, rfl, rfl, rfl, h1, r1⟩ := trodAll_cons r0
  obtain ⟨v2, vs2, d2, ds2, p2, q2, rfl, rfl, rfl, h2, r2⟩ := trodAll_cons r1
  obtain ⟨rfl, rfl, rfl⟩ := trodAll_nil r2
  obtain rfl : args = #[v0, v1, v2] := by cases args; simp_all
  obtain ⟨rfl, rfl⟩ := trodVars_none hV
  have k0 := h0
  have lt0 : ∀ x ∈ p0, x.block < W.heap.size := by obtain ⟨m, hm⟩ := k0; exact DataW.trod_lt m _ _ _ hm
  obtain ⟨a0, len0, cap0, rfl⟩ := okWide_slice Try.underlying22 (hval 0 22 v0 rfl rfl)
  obtain ⟨x0, w0⟩ := Opn.opens_arg (Oct.opens_bytes) h0
  have z0 := Opn.slice_sized hsz (j := 0) (b := 1) rfl rfl Try.underlying22 (by kernel_rfl) k0
  have k1 := h1
  have lt1 : ∀ x ∈ p1, x.block < W.heap.size := by obtain ⟨m, hm⟩ := k1; exact DataW.trod_lt m _ _ _ hm
  obtain ⟨a1, rfl, _, _, w1⟩ := open_int Try.underlying3 (hval 1 3 v1 rfl rfl) h1
  have k2 := h2
  have lt2 : ∀ x ∈ p2, x.block < W.heap.size := by obtain ⟨m, hm⟩ := k2; exact DataW.trod_lt m _ _ _ hm
  obtain ⟨a2, rfl, hd2, _, w2⟩ := open_string Try.underlying9 (hval 2 9 v2 rfl rfl) h2
  have z2 := Opn.string_sized hsz (j := 2) rfl rfl hd2
  clear hA0 hval0
  refine (walk W a0 len0 cap0 x0 w0 z0 a1 w1 a2 w2 z2).mono fun e W' ⟨he, bel⟩ => ?_
  subst he
  exact ⟨_, rfl, _, _, _, [], _, [], hW', trodAll_mk1 (shut_bool Try.underlying4 _), (trodAll_cons_mk (Below.trod laidOut (by kernel_rfl) (of_decide_eq_true (by kernel_rfl)) k0 bel lt0) (trodAll_cons_mk (Below.trod laidOut (by kernel_rfl) (of_decide_eq_true (by kernel_rfl)) k1 bel lt1) (trodAll_cons_mk (Below.trod laidOut (by kernel_rfl) (of_decide_eq_true (by kernel_rfl)) k2 bel lt2) trodAll_mk0))), rfl, bel.frame _, fun h => by cases h⟩

theorem over : Rows.octetPutsRow.holds Try.pinned (OpenSpec.ofChange Rows.octetPutsSpec) :=
  OpenClaim.holds_of_wide 3 Try.f3 rfl rfl rfl rfl rfl rfl rfl ⟨rfl, rfl, rfl, rfl, rfl⟩ rfl rfl rfl rfl rfl (by kernel_rfl) Try.func3 (by kernel_rfl)
    (of_decide_eq_true (by kernel_rfl)) (by unfold Func.isWrapper; first | (rw [if_pos (by decide +kernel)]; kernel_rfl) | (rw [if_neg (by decide +kernel)]; exact ⟨rfl, rfl⟩))
    (fun os started H enc _ => lifted os started H enc)

/-- THE STATEMENT -/
theorem proved : Rows.OctetPutsSaid := over
#print axioms proved
end Go.Proofs.Ytijenfmkgedkfaa.octetPuts
