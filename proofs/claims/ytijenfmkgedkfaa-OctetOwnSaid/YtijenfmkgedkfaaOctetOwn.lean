/- OctetOwn answers true for any bytes, any two numbers and any byte, each read afterwards as it was: what was handed in stays, and what was handed to a Reader may be changed while it is read. No condition: what is read is no more than memory bears. -/
import Derived.Test.YtijenfmkgedkfaaRows
import Derived.WalkKit
import Derived.ProofKit
import Derived.OpenShut
import Derived.ShutString
import Derived.ChangeOld
import Derived.Below
import Derived.Test.YtijenfmkgedkfaaOpens
import Derived.Test.YtijenfmkgedkfaaOctOwn
namespace Go.Proofs.Ytijenfmkgedkfaa.octetOwn
open Go.ChangeShapes Go.WideShapes Go.ChangeAt Go.RowKit
open Go.ChangeMaps (open_string shut_string)
set_option linter.unusedVariables false

theorem own : ownKnob Try.prog.godebug = none := by kernel_rfl
theorem laidOut : laidOutB Try.prog = true := by kernel_rfl

open Oct
open Kit
open Go.Sort
set_option maxRecDepth 100000
set_option maxHeartbeats 8000000 in
theorem walk (W : World) (a0 : Option Addr) (len0 cap0 : Nat) (x0 : List UInt8) (w0 : Opn.RSlice Oct.RByte 1 W [.slice a0 len0 cap0] x0) (z0 : len0 * 1 ≤ 140737488351232) (a1 : Int) (w1 : (Lit.int .i64 a1).wf = true) (a2 : Int) (w2 : (Lit.int .i64 a2).wf = true) (a3 : Int) (w3 : (Lit.int .u8 a3).wf = true) :
    Calls Try.prog 6 #[.slice a0 len0 cap0, .int .i64 a1, .int .i64 a2, .int .u8 a3] W fun e w' => e = .returned (.bool true) ∧ Below W.heap.size W w' := by
  obtain ⟨hl, hc, hcm, hn, hE⟩ := bytes_arg w0
  rw [Nat.mul_one] at z0
  obtain ⟨t, rfl, ht⟩ : ∃ t : Nat, a3 = (t : Int) ∧ t < 256 := by
    simp [Lit.wf, IntKind.min, IntKind.max, IntKind.signed, IntKind.bits] at w3
    exact ⟨a3.toNat, by omega, by omega⟩
  clear w0 w3
  obtain ⟨i0, hi, hz0, hz1, hz2⟩ := info_parts info8
  have KC := Lib.hid (fun (W : World) (a : Option Addr) (len cap : Nat) (l : List UInt8) => conv_row (P := Try.prog) (src := 22) (dst := 9) Try.underlying22 Try.underlying5 Try.underlying9 (w := W) (a := a) (len := len) (cap := cap) (l := l))
  have hz := hcm
  unfold maxLen at hz
  by_cases h5 : 5000 < len0
  · have i1 : (5000 : Int) ≤ (cap0 : Int) := by omega
    have HL := Lib.hid (show (x0.take 5000).length = 5000 by rw [List.length_take]; omega)
    have HN := Lib.hid (show a0 = none → 5000 = 0 ∧ cap0 = 0 from fun h => by have := (hn h).1; omega)
    have HE := Lib.hid (show RowB W a0 (x0.take 5000) from row_take hE 5000)
    have hle : 5000 ≤ 5000 := Nat.le_refl _
    have hlc : 5000 ≤ cap0 := by omega
    clear hE hn hl
    go_enter Try.func6, Try.ntmps6
    go_wp2_with (first | (at_make; refine wpList_make_own _ rfl _ _ 22 rfl W.heap.size 5 i0 (.int .u8 0) 1 Try.underlying22 hi hz0 hz1 _ _ _ 5064 rfl rfl (by omega) (by rw [hz2]; omega) (by unfold maxLen; omega) (Nat.le_refl _) ?_) | go_in)
    intro w1 hown hgr
    have hE1 := row_cells (row_far HE.out hgr (fun q hq => by simp))
    go_wp2_with (first | (at_builtin; refine wpList_append_fits_any _ rfl _ _ 22 rfl W.heap.size 5 i0 1 Try.underlying22 hi hz1 W.heap.size 0 5064 [] rfl hown a0 5000 cap0 (cellsB (x0.take 5000)) rfl (by rw [cellsB_length, HL.out, Nat.mul_one]) HN.out hE1 (cellsB_one _) (by omega) ?_) | go_in)
    intro w2 hown2 hgr2
    have rX : RowB w2 (some ⟨W.heap.size, 0, none⟩) (x0.take 5000) := own_row' (base := W.heap.size) (n := 5000) (cap := 5064) (own_iff.2 (by rw [HL.out]; first | exact hown2 | simpa using hown2))
    have hb : Below W.heap.size W w2 := grown_below (grown_trans (g := some W.heap.size) ⟨hgr.os, hgr.tape, hgr.output, hgr.size, fun k hk _ => hgr.block k hk (by simp)⟩ hgr2) (Nat.le_refl _) (Nat.le_refl _)
    have hX : W.heap.size < w2.heap.size := ((World.ownsRow.lt hown2) W.heap.size rfl).2
    clear hown hgr hE1 hown2 hgr2
    go_wp2_with fail
    refine (int_own (some ⟨W.heap.size, 0, none⟩) 5000 5064 5008 a1 (x0.take 5000) _ w2 HL.out (fun h => by cases h) rX (by omega) rfl (by have := beB_length 8 (toU64 a1); have := HL.out; simp only [List.length_append]; omega)).mono ?_
    rintro e w3 ⟨g1, c1, rfl, hc1, hm1, hg1, hg1', hO1, hb3⟩
    have HO1 := Lib.hid hO1
    replace rX := row_keep encB_len rX hb3
    replace hb := below_keep hb hb3
    clear hO1 hb3
    have HB := Lib.hid hb
    have HX := Lib.hid rX
    clear hb rX
    go_wp2_with fail
    refine (int_own (some ⟨W.heap.size, 0, none⟩) 5000 5064 5008 a2 (x0.take 5000) _ w3 HL.out (fun h => by cases h) HX.out (by omega) rfl (by have := beB_length 8 (toU64 a2); have := HL.out; simp only [List.length_append]; omega)).mono ?_
    rintro e w4 ⟨g2, c2, rfl, hc2, hm2, hg2, hg2', hO2, hb4⟩
    have H2 := Lib.hid (own_row' hO2)
    replace HX := Lib.hid (row_keep encB_len HX.out hb4)
    replace HB := Lib.hid (below_keep HB.out hb4)
    replace HO1 := Lib.hid (own_keep HO1.out hb4)
    have s34 := hb4.size
    clear hO2 hb4
    go_wp2_with fail
    refine (text_own (some ⟨W.heap.size, 0, none⟩) 5000 5064 5003 ⟨#[122]⟩ (x0.take 5000) _ w4 HL.out (fun h => by cases h) HX.out (by omega) (by decide) rfl (by have := beB_length 2 (ByteArray.mk #[122]).size; have := HL.out; simp only [List.length_append]; show _ + _ + 1 = _; omega)).mono ?_
    rintro e w5 ⟨g3, c3, rfl, hc3, hm3, hg3, hg3', r3, hb5⟩
    have H3 := Lib.hid r3
    replace H2 := Lib.hid (row_keep encB_len H2.out hb5)
    replace HX := Lib.hid (row_keep encB_len HX.out hb5)
    replace HB := Lib.hid (below_keep HB.out hb5)
    replace HO1 := Lib.hid (own_keep HO1.out hb5)
    have s45 := hb5.size
    clear r3 hb5
    go_wp2_with fail
    refine (new_any (some ⟨g1, 0, none⟩) 5008 c1 ((x0.take 5000) ++ beB 8 (toU64 a1)) w5 (by have := beB_length 8 (toU64 a1); have := HL.out; simp only [List.length_append]; omega) (fun h => by cases h) (own_row' HO1.out) (by omega)).mono ?_
    rintro e w6 ⟨p, rfl, hR, hb6⟩
    have HR := Lib.hid hR
    have hp := rdr_ge hR
    replace H3 := Lib.hid (row_keep encB_len H3.out hb6)
    replace H2 := Lib.hid (row_keep encB_len H2.out hb6)
    replace HX := Lib.hid (row_keep encB_len HX.out hb6)
    have sW := HB.out.size
    replace HB := Lib.hid (below_keep HB.out hb6)
    replace HO1 := Lib.hid (own_keep HO1.out hb6)
    have s56 := hb6.size
    clear hR hb6
    have hlen1 : ((x0.take 5000) ++ beB 8 (toU64 a1)).length = 5008 := by have := beB_length 8 (toU64 a1); have := HL.out; simp only [List.length_append]; omega
    have HL1 := Lib.hid hlen1
    clear hlen1
    go_wp2
    go_loopw [15] (fun i wr => ∃ (k : Nat) (iv : Int) (L : List UInt8), k ≤ 5008 ∧ iv = k ∧ i = .int .i64 iv ∧ L.length = 5008 ∧ OwnB wr w2.heap.size (.slice (some ⟨g1, 0, none⟩) 5008 c1) L ∧ w6.grownBy wr (some g1)) (fun i _ => 5008 - (intOf i).toNat)
    case atStart => exact ⟨0, 0, _, by omega, rfl, rfl, HL1.out, HO1.out, World.grownBy.refl _ _⟩
    case round =>
      obtain ⟨k, iv, L, hk, hiv, rfl, hL, hO, hg⟩ := hrel
      by_cases hlt : k < 5008
      · subst hiv
        have hkl : k < L.length := by rw [hL]; exact hlt
        obtain ⟨x, hxx⟩ : ∃ x, L[k]? = some x := ⟨_, List.getElem?_eq_getElem hkl⟩
        obtain ⟨y, hx⟩ : ∃ y : UInt8, bits .xor .u8 (x.toNat : Int) (t : Int) = (y.toNat : Int) := ⟨_, xor_byte x t ht⟩
        obtain ⟨h1, h2, h3, h4⟩ := own_set hO hL hlt hxx y
        have HS := Lib.hid (And.intro h3 (grown_trans hg h4))
        have HLL := Lib.hid hL
        clear h3 h4 hO hg hL hxx hkl
        go_wp2
        go_roundw
        case rel => exact ⟨k + 1, (k : Int) + 1, L.set k y, by omega, by omega, rfl, by rw [List.length_set]; exact HLL.out, HS.out.1, HS.out.2⟩
        case measure => simp [intOf]; omega
      · have hge : (5008 : Int) ≤ iv := by omega
        clear hiv
        obtain ⟨wq, rfl⟩ : ∃ x, x = wr := ⟨_, rfl⟩
        replace HX := Lib.hid (row_other HX.out hg (by omega))
        replace H2 := Lib.hid (row_other H2.out hg (by omega))
        replace H3 := Lib.hid (row_other H3.out hg (by omega))
        replace HR := Lib.hid (rdr_far HR.out hg (by omega))
        replace HB := Lib.hid (HB.out.trans (grown_below hg HB.out.size (by omega)))
        have sq := hg.size
        have hpq := rdr_lt HR.out
        clear hO hg hL HO1
        go_wp2
        go_loopw [16, 17] (fun v i wr => ∃ (k : Nat) (a' : Option Addr) (c' : Nat), 8 * k ≤ 5000 ∧ i = .int .i64 k ∧ v = .slice a' (8 * k) c' ∧ (a' = none → 8 * k = 0 ∧ c' = 0) ∧ RowB wr a' ((x0.take 5000).take (8 * k)) ∧ (∀ q, a' = some q → q.block ≠ p) ∧ Rdr w5.heap.size wr p (some (((x0.take 5000) ++ beB 8 (toU64 a1)).drop (8 * k))) ∧ Below w5.heap.size wq wr) (fun _ i _ => 5000 - (intOf i).toNat)
        case atStart => exact ⟨0, some ⟨wq.heap.size, 0, none⟩, 0, by omega, rfl, rfl, (fun h => by cases h), .inl rfl, (fun q hq => by injection hq with hq; subst hq; exact Nat.ne_of_gt hpq), rdr_keep HR.out (below_alloc wq _), (below_alloc wq _).mono (by omega)⟩
        case round =>
          obtain ⟨k, a', c', hk, rfl, rfl, hn', hG, hne, hR, hbq⟩ := hrel
          have HG := Lib.hid hG
          have HNE := Lib.hid hne
          have HN' := Lib.hid hn'
          have HRk := Lib.hid hR
          have HBq := Lib.hid hbq
          clear hG hne hn' hR hbq HR
          by_cases hlt : k < 625
          · have hk8 : 8 * k + 8 ≤ (x0.take 5000).length := by rw [HL.out]; omega
            have HI := Lib.hid (rInt_at (x0.take 5000) (beB 8 (toU64 a1)) k hk8)
            have HT := Lib.hid (got_at (x0.take 5000) k hk8)
            generalize toI64 (numB (((x0.take 5000).drop (8 * k)).take 8)) = nn at *
            clear hk8
            go_wp2_with fail
            refine (int_rdr_is HRk.out HI.out).mono ?_
            rintro e w7 ⟨rfl, hR7, hg7⟩
            have HG7 := Lib.hid (row_far HG.out hg7 (fun q hq e => HNE.out q hq (by injection e)))
            have HB7 := Lib.hid (HBq.out.trans (grown_below hg7 (by have := HBq.out.size; omega) hp))
            have HR7 := Lib.hid hR7
            have s7 := rdr_lt hR7
            clear hR7 hg7
            go_wp2_with fail
            refine (int_own a' (8 * k) c' (8 * (k + 1)) nn _ _ w7 (by rw [List.length_take, HL.out]; omega) HN'.out HG7.out (by omega) HT.out (by rw [List.length_take, HL.out]; omega)).mono ?_
            rintro e w8 ⟨g8, c8, rfl, hc8, hm8, hg8, hg8', hO8, hb8⟩
            have HG8 := Lib.hid (own_row' hO8)
            have HR8 := Lib.hid (rdr_keep HR7.out hb8)
            have HB8 := Lib.hid (HB7.out.trans (hb8.mono (by have := HB7.out.size; omega)))
            clear hO8 hb8
            go_wp2
            go_roundw
            case rel => exact ⟨k + 1, some ⟨g8, 0, none⟩, c8, by omega, by go_num, rfl, (fun h => by cases h), HG8.out, (fun q hq => by injection hq with hq; subst hq; show g8 ≠ p; omega), HR8.out, HB8.out⟩
            case measure => simp [intOf]; omega
          · obtain rfl : k = 625 := by omega
            replace HX := Lib.hid (row_belowAt HX.out HBq.out (by omega))
            replace H2 := Lib.hid (row_belowAt H2.out HBq.out (by omega))
            replace H3 := Lib.hid (row_belowAt H3.out HBq.out (by omega))
            replace HB := Lib.hid (HB.out.trans (HBq.out.mono sW))
            have HEW := Lib.hid (show RowB wr a0 (x0.take 5000) from row_keep encB_len HE.out HB.out)
            go_wp2
            refine Rel.wp_region_rel (G := Rel.Gr) (Rel.tab [.is (.bool true), .is (.bool true), .is (.slice a' (8 * 625) c'), .is (.string ⟨((x0.take 5000).take (8 * 625)).toArray⟩), .is (.slice a0 5000 cap0), .is (.slice a0 5000 cap0), .is (.int .i64 (5000 : Nat)), .is (.int .i64 (5000 / 8 : Nat)), .is (.int .i64 (8 * (5000 / 8) : Nat)), .is (.slice a0 (8 * (5000 / 8)) cap0), .is (.string ⟨((x0.take 5000).take (8 * 625)).toArray⟩), .is (.bool true), .is (.bool true), .is (.bool true), .is (.slice (some ⟨W.heap.size, 0, none⟩) 5000 5064), .is (.string ⟨(x0.take 5000).toArray⟩), .is (.slice a0 5000 cap0), .is (.string ⟨(x0.take 5000).toArray⟩), .is (.bool true), .is (.bool true), .is (.bool true), .is (.slice (some ⟨g2, 0, none⟩) 5008 c2), .is (.string ⟨((x0.take 5000) ++ beB 8 (toU64 a2)).toArray⟩), .is (.slice a0 5000 cap0), .is (.int .i64 a2), kRow ((x0.take 5000) ++ beB 8 (toU64 a2)), .is (.string ⟨((x0.take 5000) ++ beB 8 (toU64 a2)).toArray⟩), .is (.bool true), .is (.bool true), .is (.bool true), .is (.slice (some ⟨g3, 0, none⟩) 5003 c3), .is (.string ⟨((x0.take 5000) ++ beB 2 (ByteArray.mk #[122]).size ++ (ByteArray.mk #[122]).data.toList).toArray⟩), .is (.slice a0 5000 cap0), kRow ((x0.take 5000) ++ beB 2 (ByteArray.mk #[122]).size ++ (ByteArray.mk #[122]).data.toList), .is (.string ⟨((x0.take 5000) ++ beB 2 (ByteArray.mk #[122]).size ++ (ByteArray.mk #[122]).data.toList).toArray⟩), .is (.bool true), .is (.bool true), .is (.bool true)]) (fun _ w => Below wr.heap.size wr w) (by kernel_rfl) (by kernel_rfl) (by kernel_rfl) (by kernel_rfl) (fun w => Rel.gr_refl _) (below_drew _) ?_ ?_
            · refine ⟨?_, ?_, ?_, ?_, ?_, ?_, ?_, ?_, ?_, ?_, ?_, ?_, ?_, ?_, ?_, ?_, ?_, ?_, ?_, ?_, ?_, ?_, ?_, ?_, ?_, ?_, ?_, ?_, ?_, ?_, ?_, ?_, ?_, ?_, ?_, ?_, ?_, ?_, trivial⟩
              · intro L a w c
                refine .inl ⟨Rel.wanted_free (by kernel_rfl) _, ?_⟩
                refine Rel.wp_cl _ _ _ rfl Try.func9 (by kernel_rfl) ?_
                show Calls _ _ #[] w _
                refine (awake_any w).mono ?_
                rintro e w' ⟨rfl, hb⟩
                exact ⟨_, rfl, _, rfl, hb, rfl, below_keep c.inv hb⟩
              · intro L a w c
                refine .inl ⟨Rel.wanted_free (by kernel_rfl) _, ?_⟩
                exact Rel.wp_mv _ rfl ⟨_, rfl, Rel.gr_refl _, (c.get 0 67 (by kernel_rfl)), c.inv⟩
              · intro L a w c
                refine .inl ⟨Rel.wanted_by (j := 1) (b := true) (d := 68) (by kernel_rfl) (c.get 1 68 (by kernel_rfl)), ?_⟩
                exact Rel.wp_mv _ rfl ⟨_, rfl, Rel.gr_refl _, (c.old 16 (v := .slice a' (8 * 625) c') (by kernel_rfl) (by kernel_rfl)), c.inv⟩
              · intro L a w c
                refine .inl ⟨Rel.wanted_by (j := 1) (b := true) (d := 68) (by kernel_rfl) (c.get 1 68 (by kernel_rfl)), ?_⟩
                exact Rel.wp_cv _ _ _ rfl (c.get 2 69 (by kernel_rfl)) (KC.out w _ _ _ _ (by rw [List.length_take, HL.out]; omega) (fun h => (HN'.out h).1) (row_keep encB_len HG.out c.inv)) ⟨_, rfl, Rel.gr_refl _, rfl, c.inv⟩
              · intro L a w c
                refine .inl ⟨Rel.wanted_by (j := 1) (b := true) (d := 68) (by kernel_rfl) (c.get 1 68 (by kernel_rfl)), ?_⟩
                exact Rel.wp_mv _ rfl ⟨_, rfl, Rel.gr_refl _, (c.old 0 (v := .slice a0 5000 cap0) (by kernel_rfl) (by kernel_rfl)), c.inv⟩
              · intro L a w c
                refine .inl ⟨Rel.wanted_by (j := 1) (b := true) (d := 68) (by kernel_rfl) (c.get 1 68 (by kernel_rfl)), ?_⟩
                exact Rel.wp_mv _ rfl ⟨_, rfl, Rel.gr_refl _, (c.old 0 (v := .slice a0 5000 cap0) (by kernel_rfl) (by kernel_rfl)), c.inv⟩
              · intro L a w c
                refine .inl ⟨Rel.wanted_by (j := 1) (b := true) (d := 68) (by kernel_rfl) (c.get 1 68 (by kernel_rfl)), ?_⟩
                exact Rel.wp_len _ _ rfl (c.get 5 72 (by kernel_rfl)) (run_len _ _ _ _) ⟨_, rfl, Rel.gr_refl _, rfl, c.inv⟩
              · intro L a w c
                refine .inl ⟨Rel.wanted_by (j := 1) (b := true) (d := 68) (by kernel_rfl) (c.get 1 68 (by kernel_rfl)), ?_⟩
                exact Rel.wp_bo _ _ _ _ _ rfl (u := .int .i64 (5000 / 8 : Nat)) (c.get 6 73 (by kernel_rfl)) rfl (run_quo8 _ (by omega) _ _ _) ⟨_, rfl, Rel.gr_refl _, rfl, c.inv⟩
              · intro L a w c
                refine .inl ⟨Rel.wanted_by (j := 1) (b := true) (d := 68) (by kernel_rfl) (c.get 1 68 (by kernel_rfl)), ?_⟩
                exact Rel.wp_bo _ _ _ _ _ rfl (u := .int .i64 (8 * (5000 / 8) : Nat)) (c.get 7 74 (by kernel_rfl)) rfl (run_mul8 _ (by omega) _ _ _) ⟨_, rfl, Rel.gr_refl _, rfl, c.inv⟩
              · intro L a w c
                refine .inl ⟨Rel.wanted_by (j := 1) (b := true) (d := 68) (by kernel_rfl) (c.get 1 68 (by kernel_rfl)), ?_⟩
                exact Rel.wp_sl _ _ none _ none rfl (c.get 4 71 (by kernel_rfl)) rfl (congrArg some (c.get 8 75 (by kernel_rfl))) rfl (run_slice_to a0 5000 (8 * (5000 / 8)) cap0 (by omega) (by omega) w) ⟨_, rfl, Rel.gr_refl _, rfl, c.inv⟩
              · intro L a w c
                refine .inl ⟨Rel.wanted_by (j := 1) (b := true) (d := 68) (by kernel_rfl) (c.get 1 68 (by kernel_rfl)), ?_⟩
                exact Rel.wp_cv _ _ _ rfl (c.get 9 76 (by kernel_rfl)) (KC.out w _ _ _ _ (by rw [List.length_take, HL.out]; omega) (fun h => by have := (HN.out h).1; omega) (row_take (row_keep encB_len HEW.out c.inv) _)) ⟨_, rfl, Rel.gr_refl _, rfl, c.inv⟩
              · intro L a w c
                refine .inl ⟨Rel.wanted_by (j := 1) (b := true) (d := 68) (by kernel_rfl) (c.get 1 68 (by kernel_rfl)), ?_⟩
                exact Rel.wp_bo _ _ _ _ _ rfl (u := .bool true) (c.get 3 70 (by kernel_rfl)) (c.get 10 77 (by kernel_rfl)) (by simp [go_sem]) ⟨_, rfl, Rel.gr_refl _, rfl, c.inv⟩
              · intro L a w c
                refine .inl ⟨Rel.wanted_free (by kernel_rfl) _, ?_⟩
                exact Rel.wp_pk _ _ _ rfl (b := true) (c.get 1 68 (by kernel_rfl)) ⟨_, rfl, Rel.gr_refl _, (c.get 11 78 (by kernel_rfl)), c.inv⟩
              · intro L a w c
                refine .inl ⟨Rel.wanted_free (by kernel_rfl) _, ?_⟩
                exact Rel.wp_mv _ rfl ⟨_, rfl, Rel.gr_refl _, (c.get 12 79 (by kernel_rfl)), c.inv⟩
              · intro L a w c
                refine .inl ⟨Rel.wanted_by (j := 13) (b := true) (d := 80) (by kernel_rfl) (c.get 13 80 (by kernel_rfl)), ?_⟩
                exact Rel.wp_mv _ rfl ⟨_, rfl, Rel.gr_refl _, (c.old 9 (v := .slice (some ⟨W.heap.size, 0, none⟩) 5000 5064) (by kernel_rfl) (by kernel_rfl)), c.inv⟩
              · intro L a w c
                refine .inl ⟨Rel.wanted_by (j := 13) (b := true) (d := 80) (by kernel_rfl) (c.get 13 80 (by kernel_rfl)), ?_⟩
                exact Rel.wp_cv _ _ _ rfl (c.get 14 81 (by kernel_rfl)) (KC.out w _ _ _ _ HL.out (fun h => by cases h) (row_keep encB_len HX.out c.inv)) ⟨_, rfl, Rel.gr_refl _, rfl, c.inv⟩
              · intro L a w c
                refine .inl ⟨Rel.wanted_by (j := 13) (b := true) (d := 80) (by kernel_rfl) (c.get 13 80 (by kernel_rfl)), ?_⟩
                exact Rel.wp_mv _ rfl ⟨_, rfl, Rel.gr_refl _, (c.old 0 (v := .slice a0 5000 cap0) (by kernel_rfl) (by kernel_rfl)), c.inv⟩
              · intro L a w c
                refine .inl ⟨Rel.wanted_by (j := 13) (b := true) (d := 80) (by kernel_rfl) (c.get 13 80 (by kernel_rfl)), ?_⟩
                exact Rel.wp_cv _ _ _ rfl (c.get 16 83 (by kernel_rfl)) (KC.out w _ _ _ _ HL.out (fun h => (HN.out h).1) (row_keep encB_len HEW.out c.inv)) ⟨_, rfl, Rel.gr_refl _, rfl, c.inv⟩
              · intro L a w c
                refine .inl ⟨Rel.wanted_by (j := 13) (b := true) (d := 80) (by kernel_rfl) (c.get 13 80 (by kernel_rfl)), ?_⟩
                exact Rel.wp_bo _ _ _ _ _ rfl (u := .bool true) (c.get 15 82 (by kernel_rfl)) (c.get 17 84 (by kernel_rfl)) (by simp [go_sem]) ⟨_, rfl, Rel.gr_refl _, rfl, c.inv⟩
              · intro L a w c
                refine .inl ⟨Rel.wanted_free (by kernel_rfl) _, ?_⟩
                exact Rel.wp_pk _ _ _ rfl (b := true) (c.get 13 80 (by kernel_rfl)) ⟨_, rfl, Rel.gr_refl _, (c.get 18 85 (by kernel_rfl)), c.inv⟩
              · intro L a w c
                refine .inl ⟨Rel.wanted_free (by kernel_rfl) _, ?_⟩
                exact Rel.wp_mv _ rfl ⟨_, rfl, Rel.gr_refl _, (c.get 19 86 (by kernel_rfl)), c.inv⟩
              · intro L a w c
                refine .inl ⟨Rel.wanted_by (j := 20) (b := true) (d := 87) (by kernel_rfl) (c.get 20 87 (by kernel_rfl)), ?_⟩
                exact Rel.wp_mv _ rfl ⟨_, rfl, Rel.gr_refl _, (c.old 11 (v := .slice (some ⟨g2, 0, none⟩) 5008 c2) (by kernel_rfl) (by kernel_rfl)), c.inv⟩
              · intro L a w c
                refine .inl ⟨Rel.wanted_by (j := 20) (b := true) (d := 87) (by kernel_rfl) (c.get 20 87 (by kernel_rfl)), ?_⟩
                exact Rel.wp_cv _ _ _ rfl (c.get 21 88 (by kernel_rfl)) (KC.out w _ _ _ _ (by have := beB_length 8 (toU64 a2); have := HL.out; simp only [List.length_append]; omega) (fun h => by cases h) (row_keep encB_len H2.out c.inv)) ⟨_, rfl, Rel.gr_refl _, rfl, c.inv⟩
              · intro L a w c
                refine .inl ⟨Rel.wanted_by (j := 20) (b := true) (d := 87) (by kernel_rfl) (c.get 20 87 (by kernel_rfl)), ?_⟩
                exact Rel.wp_mv _ rfl ⟨_, rfl, Rel.gr_refl _, (c.old 0 (v := .slice a0 5000 cap0) (by kernel_rfl) (by kernel_rfl)), c.inv⟩
              · intro L a w c
                refine .inl ⟨Rel.wanted_by (j := 20) (b := true) (d := 87) (by kernel_rfl) (c.get 20 87 (by kernel_rfl)), ?_⟩
                exact Rel.wp_mv _ rfl ⟨_, rfl, Rel.gr_refl _, (c.old 2 (v := .int .i64 a2) (by kernel_rfl) (by kernel_rfl)), c.inv⟩
              · intro L a w c
                refine .inl ⟨Rel.wanted_by (j := 20) (b := true) (d := 87) (by kernel_rfl) (c.get 20 87 (by kernel_rfl)), ?_⟩
                refine Rel.wp_cl _ _ _ rfl Try.func11 (by kernel_rfl) ?_
                show Calls _ _ #[Rel.slot a 90, Rel.slot a 91] w _
                rw [show Rel.slot a 90 = .slice a0 5000 cap0 from (c.get 23 90 (by kernel_rfl)), show Rel.slot a 91 = .int .i64 a2 from (c.get 24 91 (by kernel_rfl))]
                exact call_row rfl ((rint_any a0 5000 cap0 a2 (x0.take 5000) w HL.out HN.out (row_keep encB_len HEW.out c.inv) (by omega)).mono fun e w' ⟨v, h1, h2, h3⟩ => ⟨v, h1, kRow_own h2, h3⟩) c.inv
              · intro L a w c
                refine .inl ⟨Rel.wanted_by (j := 20) (b := true) (d := 87) (by kernel_rfl) (c.get 20 87 (by kernel_rfl)), ?_⟩
                obtain ⟨aa, nn, cc, e, hl', hn', hr'⟩ := (c.get 25 92 (by kernel_rfl))
                exact Rel.wp_cv _ _ _ rfl e (KC.out w aa nn cc _ hl' hn' hr') ⟨_, rfl, Rel.gr_refl _, rfl, c.inv⟩
              · intro L a w c
                refine .inl ⟨Rel.wanted_by (j := 20) (b := true) (d := 87) (by kernel_rfl) (c.get 20 87 (by kernel_rfl)), ?_⟩
                exact Rel.wp_bo _ _ _ _ _ rfl (u := .bool true) (c.get 22 89 (by kernel_rfl)) (c.get 26 93 (by kernel_rfl)) (by simp [go_sem]) ⟨_, rfl, Rel.gr_refl _, rfl, c.inv⟩
              · intro L a w c
                refine .inl ⟨Rel.wanted_free (by kernel_rfl) _, ?_⟩
                exact Rel.wp_pk _ _ _ rfl (b := true) (c.get 20 87 (by kernel_rfl)) ⟨_, rfl, Rel.gr_refl _, (c.get 27 94 (by kernel_rfl)), c.inv⟩
              · intro L a w c
                refine .inl ⟨Rel.wanted_free (by kernel_rfl) _, ?_⟩
                exact Rel.wp_mv _ rfl ⟨_, rfl, Rel.gr_refl _, (c.get 28 95 (by kernel_rfl)), c.inv⟩
              · intro L a w c
                refine .inl ⟨Rel.wanted_by (j := 29) (b := true) (d := 96) (by kernel_rfl) (c.get 29 96 (by kernel_rfl)), ?_⟩
                exact Rel.wp_mv _ rfl ⟨_, rfl, Rel.gr_refl _, (c.old 12 (v := .slice (some ⟨g3, 0, none⟩) 5003 c3) (by kernel_rfl) (by kernel_rfl)), c.inv⟩
              · intro L a w c
                refine .inl ⟨Rel.wanted_by (j := 29) (b := true) (d := 96) (by kernel_rfl) (c.get 29 96 (by kernel_rfl)), ?_⟩
                exact Rel.wp_cv _ _ _ rfl (c.get 30 97 (by kernel_rfl)) (KC.out w _ _ _ _ (by have := beB_length 2 (ByteArray.mk #[122]).size; have := HL.out; simp only [List.length_append]; show _ + _ + 1 = _; omega) (fun h => by cases h) (row_keep encB_len H3.out c.inv)) ⟨_, rfl, Rel.gr_refl _, rfl, c.inv⟩
              · intro L a w c
                refine .inl ⟨Rel.wanted_by (j := 29) (b := true) (d := 96) (by kernel_rfl) (c.get 29 96 (by kernel_rfl)), ?_⟩
                exact Rel.wp_mv _ rfl ⟨_, rfl, Rel.gr_refl _, (c.old 0 (v := .slice a0 5000 cap0) (by kernel_rfl) (by kernel_rfl)), c.inv⟩
              · intro L a w c
                refine .inl ⟨Rel.wanted_by (j := 29) (b := true) (d := 96) (by kernel_rfl) (c.get 29 96 (by kernel_rfl)), ?_⟩
                refine Rel.wp_cl _ _ _ rfl Try.func12 (by kernel_rfl) ?_
                show Calls _ _ #[Rel.slot a 99, .string ⟨#[122]⟩] w _
                rw [show Rel.slot a 99 = .slice a0 5000 cap0 from (c.get 32 99 (by kernel_rfl))]
                exact call_row rfl ((rtext_any a0 5000 cap0 ⟨#[122]⟩ (x0.take 5000) w HL.out HN.out (row_keep encB_len HEW.out c.inv) (by omega) (by decide)).mono fun e w' ⟨v, h1, h2, h3⟩ => ⟨v, h1, kRow_own h2, h3⟩) c.inv
              · intro L a w c
                refine .inl ⟨Rel.wanted_by (j := 29) (b := true) (d := 96) (by kernel_rfl) (c.get 29 96 (by kernel_rfl)), ?_⟩
                obtain ⟨aa, nn, cc, e, hl', hn', hr'⟩ := (c.get 33 100 (by kernel_rfl))
                exact Rel.wp_cv _ _ _ rfl e (KC.out w aa nn cc _ hl' hn' hr') ⟨_, rfl, Rel.gr_refl _, rfl, c.inv⟩
              · intro L a w c
                refine .inl ⟨Rel.wanted_by (j := 29) (b := true) (d := 96) (by kernel_rfl) (c.get 29 96 (by kernel_rfl)), ?_⟩
                exact Rel.wp_bo _ _ _ _ _ rfl (u := .bool true) (c.get 31 98 (by kernel_rfl)) (c.get 34 101 (by kernel_rfl)) (by simp [go_sem]) ⟨_, rfl, Rel.gr_refl _, rfl, c.inv⟩
              · intro L a w c
                refine .inl ⟨Rel.wanted_free (by kernel_rfl) _, ?_⟩
                exact Rel.wp_pk _ _ _ rfl (b := true) (c.get 29 96 (by kernel_rfl)) ⟨_, rfl, Rel.gr_refl _, (c.get 35 102 (by kernel_rfl)), c.inv⟩
              · intro L a w c
                refine .inl ⟨Rel.wanted_free (by kernel_rfl) _, ?_⟩
                exact Rel.wp_as _ rfl ⟨_, rfl, Rel.gr_refl _, (c.get 36 103 (by kernel_rfl)), c.inv⟩
            · intro a w hbase hroom hdef hJ hV
              have hr : Rel.slot a 8 = .bool true := hV 37 _ _ rfl rfl
              obtain ⟨tm, df⟩ := a
              simp only at hdef
              subst hdef
              go_wp2
              refine bodyPost_ret (results_tmp rfl _ _ _) rfl ?_
              exact ⟨congrArg Ending.returned hr, below_keep HB.out hJ⟩
  · have HL := Lib.hid hl
    have HN := Lib.hid hn
    have HE := Lib.hid hE
    have hle : len0 ≤ 5000 := by omega
    have hlc : len0 ≤ cap0 := by omega
    clear hE hn hl
    go_enter Try.func6, Try.ntmps6
    go_wp2_with (first | (at_make; refine wpList_make_own _ rfl _ _ 22 rfl W.heap.size 5 i0 (.int .u8 0) 1 Try.underlying22 hi hz0 hz1 _ _ _ (len0 + 64) rfl rfl (by omega) (by rw [hz2]; omega) (by unfold maxLen; omega) (Nat.le_refl _) ?_) | go_in)
    intro w1 hown hgr
    have hE1 := row_cells (row_far HE.out hgr (fun q hq => by simp))
    go_wp2_with (first | (at_builtin; refine wpList_append_fits_any _ rfl _ _ 22 rfl W.heap.size 5 i0 1 Try.underlying22 hi hz1 W.heap.size 0 (len0 + 64) [] rfl hown a0 len0 cap0 (cellsB x0) rfl (by rw [cellsB_length, HL.out, Nat.mul_one]) HN.out hE1 (cellsB_one _) (by omega) ?_) | go_in)
    intro w2 hown2 hgr2
    have rX : RowB w2 (some ⟨W.heap.size, 0, none⟩) x0 := own_row' (base := W.heap.size) (n := len0) (cap := (len0 + 64)) (own_iff.2 (by rw [HL.out]; first | exact hown2 | simpa using hown2))
    have hb : Below W.heap.size W w2 := grown_below (grown_trans (g := some W.heap.size) ⟨hgr.os, hgr.tape, hgr.output, hgr.size, fun k hk _ => hgr.block k hk (by simp)⟩ hgr2) (Nat.le_refl _) (Nat.le_refl _)
    have hX : W.heap.size < w2.heap.size := ((World.ownsRow.lt hown2) W.heap.size rfl).2
    clear hown hgr hE1 hown2 hgr2
    go_wp2_with fail
    refine (int_own (some ⟨W.heap.size, 0, none⟩) len0 (len0 + 64) (len0 + 8) a1 x0 _ w2 HL.out (fun h => by cases h) rX (by omega) rfl (by have := beB_length 8 (toU64 a1); have := HL.out; simp only [List.length_append]; omega)).mono ?_
    rintro e w3 ⟨g1, c1, rfl, hc1, hm1, hg1, hg1', hO1, hb3⟩
    have HO1 := Lib.hid hO1
    replace rX := row_keep encB_len rX hb3
    replace hb := below_keep hb hb3
    clear hO1 hb3
    have HB := Lib.hid hb
    have HX := Lib.hid rX
    clear hb rX
    go_wp2_with fail
    refine (int_own (some ⟨W.heap.size, 0, none⟩) len0 (len0 + 64) (len0 + 8) a2 x0 _ w3 HL.out (fun h => by cases h) HX.out (by omega) rfl (by have := beB_length 8 (toU64 a2); have := HL.out; simp only [List.length_append]; omega)).mono ?_
    rintro e w4 ⟨g2, c2, rfl, hc2, hm2, hg2, hg2', hO2, hb4⟩
    have H2 := Lib.hid (own_row' hO2)
    replace HX := Lib.hid (row_keep encB_len HX.out hb4)
    replace HB := Lib.hid (below_keep HB.out hb4)
    replace HO1 := Lib.hid (own_keep HO1.out hb4)
    have s34 := hb4.size
    clear hO2 hb4
    go_wp2_with fail
    refine (text_own (some ⟨W.heap.size, 0, none⟩) len0 (len0 + 64) (len0 + 3) ⟨#[122]⟩ x0 _ w4 HL.out (fun h => by cases h) HX.out (by omega) (by decide) rfl (by have := beB_length 2 (ByteArray.mk #[122]).size; have := HL.out; simp only [List.length_append]; show _ + _ + 1 = _; omega)).mono ?_
    rintro e w5 ⟨g3, c3, rfl, hc3, hm3, hg3, hg3', r3, hb5⟩
    have H3 := Lib.hid r3
    replace H2 := Lib.hid (row_keep encB_len H2.out hb5)
    replace HX := Lib.hid (row_keep encB_len HX.out hb5)
    replace HB := Lib.hid (below_keep HB.out hb5)
    replace HO1 := Lib.hid (own_keep HO1.out hb5)
    have s45 := hb5.size
    clear r3 hb5
    go_wp2_with fail
    refine (new_any (some ⟨g1, 0, none⟩) (len0 + 8) c1 (x0 ++ beB 8 (toU64 a1)) w5 (by have := beB_length 8 (toU64 a1); have := HL.out; simp only [List.length_append]; omega) (fun h => by cases h) (own_row' HO1.out) (by omega)).mono ?_
    rintro e w6 ⟨p, rfl, hR, hb6⟩
    have HR := Lib.hid hR
    have hp := rdr_ge hR
    replace H3 := Lib.hid (row_keep encB_len H3.out hb6)
    replace H2 := Lib.hid (row_keep encB_len H2.out hb6)
    replace HX := Lib.hid (row_keep encB_len HX.out hb6)
    have sW := HB.out.size
    replace HB := Lib.hid (below_keep HB.out hb6)
    replace HO1 := Lib.hid (own_keep HO1.out hb6)
    have s56 := hb6.size
    clear hR hb6
    have hlen1 : (x0 ++ beB 8 (toU64 a1)).length = (len0 + 8) := by have := beB_length 8 (toU64 a1); have := HL.out; simp only [List.length_append]; omega
    have HL1 := Lib.hid hlen1
    clear hlen1
    go_wp2
    go_loopw [15] (fun i wr => ∃ (k : Nat) (iv : Int) (L : List UInt8), k ≤ (len0 + 8) ∧ iv = k ∧ i = .int .i64 iv ∧ L.length = (len0 + 8) ∧ OwnB wr w2.heap.size (.slice (some ⟨g1, 0, none⟩) (len0 + 8) c1) L ∧ w6.grownBy wr (some g1)) (fun i _ => (len0 + 8) - (intOf i).toNat)
    case atStart => exact ⟨0, 0, _, by omega, rfl, rfl, HL1.out, HO1.out, World.grownBy.refl _ _⟩
    case round =>
      obtain ⟨k, iv, L, hk, hiv, rfl, hL, hO, hg⟩ := hrel
      by_cases hlt : k < (len0 + 8)
      · subst hiv
        have hkl : k < L.length := by rw [hL]; exact hlt
        obtain ⟨x, hxx⟩ : ∃ x, L[k]? = some x := ⟨_, List.getElem?_eq_getElem hkl⟩
        obtain ⟨y, hx⟩ : ∃ y : UInt8, bits .xor .u8 (x.toNat : Int) (t : Int) = (y.toNat : Int) := ⟨_, xor_byte x t ht⟩
        obtain ⟨h1, h2, h3, h4⟩ := own_set hO hL hlt hxx y
        have HS := Lib.hid (And.intro h3 (grown_trans hg h4))
        have HLL := Lib.hid hL
        clear h3 h4 hO hg hL hxx hkl
        go_wp2
        go_roundw
        case rel => exact ⟨k + 1, (k : Int) + 1, L.set k y, by omega, by omega, rfl, by rw [List.length_set]; exact HLL.out, HS.out.1, HS.out.2⟩
        case measure => simp [intOf]; omega
      · have hge : ((len0 + 8) : Int) ≤ iv := by omega
        clear hiv
        obtain ⟨wq, rfl⟩ : ∃ x, x = wr := ⟨_, rfl⟩
        replace HX := Lib.hid (row_other HX.out hg (by omega))
        replace H2 := Lib.hid (row_other H2.out hg (by omega))
        replace H3 := Lib.hid (row_other H3.out hg (by omega))
        replace HR := Lib.hid (rdr_far HR.out hg (by omega))
        replace HB := Lib.hid (HB.out.trans (grown_below hg HB.out.size (by omega)))
        have sq := hg.size
        have hpq := rdr_lt HR.out
        clear hO hg hL HO1
        go_wp2
        go_loopw [16, 17] (fun v i wr => ∃ (k : Nat) (a' : Option Addr) (c' : Nat), 8 * k ≤ len0 ∧ i = .int .i64 k ∧ v = .slice a' (8 * k) c' ∧ (a' = none → 8 * k = 0 ∧ c' = 0) ∧ RowB wr a' (x0.take (8 * k)) ∧ (∀ q, a' = some q → q.block ≠ p) ∧ Rdr w5.heap.size wr p (some ((x0 ++ beB 8 (toU64 a1)).drop (8 * k))) ∧ Below w5.heap.size wq wr) (fun _ i _ => len0 - (intOf i).toNat)
        case atStart => exact ⟨0, some ⟨wq.heap.size, 0, none⟩, 0, by omega, rfl, rfl, (fun h => by cases h), .inl rfl, (fun q hq => by injection hq with hq; subst hq; exact Nat.ne_of_gt hpq), rdr_keep HR.out (below_alloc wq _), (below_alloc wq _).mono (by omega)⟩
        case round =>
          obtain ⟨k, a', c', hk, rfl, rfl, hn', hG, hne, hR, hbq⟩ := hrel
          have HG := Lib.hid hG
          have HNE := Lib.hid hne
          have HN' := Lib.hid hn'
          have HRk := Lib.hid hR
          have HBq := Lib.hid hbq
          clear hG hne hn' hR hbq HR
          by_cases hlt : k < (len0 / 8)
          · have hk8 : 8 * k + 8 ≤ x0.length := by rw [HL.out]; omega
            have HI := Lib.hid (rInt_at x0 (beB 8 (toU64 a1)) k hk8)
            have HT := Lib.hid (got_at x0 k hk8)
            generalize toI64 (numB ((x0.drop (8 * k)).take 8)) = nn at *
            clear hk8
            go_wp2_with fail
            refine (int_rdr_is HRk.out HI.out).mono ?_
            rintro e w7 ⟨rfl, hR7, hg7⟩
            have HG7 := Lib.hid (row_far HG.out hg7 (fun q hq e => HNE.out q hq (by injection e)))
            have HB7 := Lib.hid (HBq.out.trans (grown_below hg7 (by have := HBq.out.size; omega) hp))
            have HR7 := Lib.hid hR7
            have s7 := rdr_lt hR7
            clear hR7 hg7
            go_wp2_with fail
            refine (int_own a' (8 * k) c' (8 * (k + 1)) nn _ _ w7 (by rw [List.length_take, HL.out]; omega) HN'.out HG7.out (by omega) HT.out (by rw [List.length_take, HL.out]; omega)).mono ?_
            rintro e w8 ⟨g8, c8, rfl, hc8, hm8, hg8, hg8', hO8, hb8⟩
            have HG8 := Lib.hid (own_row' hO8)
            have HR8 := Lib.hid (rdr_keep HR7.out hb8)
            have HB8 := Lib.hid (HB7.out.trans (hb8.mono (by have := HB7.out.size; omega)))
            clear hO8 hb8
            go_wp2
            go_roundw
            case rel => exact ⟨k + 1, some ⟨g8, 0, none⟩, c8, by omega, by go_num, rfl, (fun h => by cases h), HG8.out, (fun q hq => by injection hq with hq; subst hq; show g8 ≠ p; omega), HR8.out, HB8.out⟩
            case measure => simp [intOf]; omega
          · obtain rfl : k = (len0 / 8) := by omega
            replace HX := Lib.hid (row_belowAt HX.out HBq.out (by omega))
            replace H2 := Lib.hid (row_belowAt H2.out HBq.out (by omega))
            replace H3 := Lib.hid (row_belowAt H3.out HBq.out (by omega))
            replace HB := Lib.hid (HB.out.trans (HBq.out.mono sW))
            have HEW := Lib.hid (show RowB wr a0 x0 from row_keep encB_len HE.out HB.out)
            go_wp2
            refine Rel.wp_region_rel (G := Rel.Gr) (Rel.tab [.is (.bool true), .is (.bool true), .is (.slice a' (8 * (len0 / 8)) c'), .is (.string ⟨(x0.take (8 * (len0 / 8))).toArray⟩), .is (.slice a0 len0 cap0), .is (.slice a0 len0 cap0), .is (.int .i64 (len0 : Nat)), .is (.int .i64 (len0 / 8 : Nat)), .is (.int .i64 (8 * (len0 / 8) : Nat)), .is (.slice a0 (8 * (len0 / 8)) cap0), .is (.string ⟨(x0.take (8 * (len0 / 8))).toArray⟩), .is (.bool true), .is (.bool true), .is (.bool true), .is (.slice (some ⟨W.heap.size, 0, none⟩) len0 (len0 + 64)), .is (.string ⟨x0.toArray⟩), .is (.slice a0 len0 cap0), .is (.string ⟨x0.toArray⟩), .is (.bool true), .is (.bool true), .is (.bool true), .is (.slice (some ⟨g2, 0, none⟩) (len0 + 8) c2), .is (.string ⟨(x0 ++ beB 8 (toU64 a2)).toArray⟩), .is (.slice a0 len0 cap0), .is (.int .i64 a2), kRow (x0 ++ beB 8 (toU64 a2)), .is (.string ⟨(x0 ++ beB 8 (toU64 a2)).toArray⟩), .is (.bool true), .is (.bool true), .is (.bool true), .is (.slice (some ⟨g3, 0, none⟩) (len0 + 3) c3), .is (.string ⟨(x0 ++ beB 2 (ByteArray.mk #[122]).size ++ (ByteArray.mk #[122]).data.toList).toArray⟩), .is (.slice a0 len0 cap0), kRow (x0 ++ beB 2 (ByteArray.mk #[122]).size ++ (ByteArray.mk #[122]).data.toList), .is (.string ⟨(x0 ++ beB 2 (ByteArray.mk #[122]).size ++ (ByteArray.mk #[122]).data.toList).toArray⟩), .is (.bool true), .is (.bool true), .is (.bool true)]) (fun _ w => Below wr.heap.size wr w) (by kernel_rfl) (by kernel_rfl) (by kernel_rfl) (by kernel_rfl) (fun w => Rel.gr_refl _) (below_drew _) ?_ ?_
            · refine ⟨?_, ?_, ?_, ?_, ?_, ?_, ?_, ?_, ?_, ?_, ?_, ?_, ?_, ?_, ?_, ?_, ?_, ?_, ?_, ?_, ?_, ?_, ?_, ?_, ?_, ?_, ?_, ?_, ?_, ?_, ?_, ?_, ?_, ?_, ?_, ?_, ?_, ?_, trivial⟩
              · intro L a w c
                refine .inl ⟨Rel.wanted_free (by kernel_rfl) _, ?_⟩
                refine Rel.wp_cl _ _ _ rfl Try.func9 (by kernel_rfl) ?_
                show Calls _ _ #[] w _
                refine (awake_any w).mono ?_
                rintro e w' ⟨rfl, hb⟩
                exact ⟨_, rfl, _, rfl, hb, rfl, below_keep c.inv hb⟩
              · intro L a w c
                refine .inl ⟨Rel.wanted_free (by kernel_rfl) _, ?_⟩
                exact Rel.wp_mv _ rfl ⟨_, rfl, Rel.gr_refl _, (c.get 0 67 (by kernel_rfl)), c.inv⟩
              · intro L a w c
                refine .inl ⟨Rel.wanted_by (j := 1) (b := true) (d := 68) (by kernel_rfl) (c.get 1 68 (by kernel_rfl)), ?_⟩
                exact Rel.wp_mv _ rfl ⟨_, rfl, Rel.gr_refl _, (c.old 16 (v := .slice a' (8 * (len0 / 8)) c') (by kernel_rfl) (by kernel_rfl)), c.inv⟩
              · intro L a w c
                refine .inl ⟨Rel.wanted_by (j := 1) (b := true) (d := 68) (by kernel_rfl) (c.get 1 68 (by kernel_rfl)), ?_⟩
                exact Rel.wp_cv _ _ _ rfl (c.get 2 69 (by kernel_rfl)) (KC.out w _ _ _ _ (by rw [List.length_take, HL.out]; omega) (fun h => (HN'.out h).1) (row_keep encB_len HG.out c.inv)) ⟨_, rfl, Rel.gr_refl _, rfl, c.inv⟩
              · intro L a w c
                refine .inl ⟨Rel.wanted_by (j := 1) (b := true) (d := 68) (by kernel_rfl) (c.get 1 68 (by kernel_rfl)), ?_⟩
                exact Rel.wp_mv _ rfl ⟨_, rfl, Rel.gr_refl _, (c.old 0 (v := .slice a0 len0 cap0) (by kernel_rfl) (by kernel_rfl)), c.inv⟩
              · intro L a w c
                refine .inl ⟨Rel.wanted_by (j := 1) (b := true) (d := 68) (by kernel_rfl) (c.get 1 68 (by kernel_rfl)), ?_⟩
                exact Rel.wp_mv _ rfl ⟨_, rfl, Rel.gr_refl _, (c.old 0 (v := .slice a0 len0 cap0) (by kernel_rfl) (by kernel_rfl)), c.inv⟩
              · intro L a w c
                refine .inl ⟨Rel.wanted_by (j := 1) (b := true) (d := 68) (by kernel_rfl) (c.get 1 68 (by kernel_rfl)), ?_⟩
                exact Rel.wp_len _ _ rfl (c.get 5 72 (by kernel_rfl)) (run_len _ _ _ _) ⟨_, rfl, Rel.gr_refl _, rfl, c.inv⟩
              · intro L a w c
                refine .inl ⟨Rel.wanted_by (j := 1) (b := true) (d := 68) (by kernel_rfl) (c.get 1 68 (by kernel_rfl)), ?_⟩
                exact Rel.wp_bo _ _ _ _ _ rfl (u := .int .i64 (len0 / 8 : Nat)) (c.get 6 73 (by kernel_rfl)) rfl (run_quo8 _ (by omega) _ _ _) ⟨_, rfl, Rel.gr_refl _, rfl, c.inv⟩
              · intro L a w c
                refine .inl ⟨Rel.wanted_by (j := 1) (b := true) (d := 68) (by kernel_rfl) (c.get 1 68 (by kernel_rfl)), ?_⟩
                exact Rel.wp_bo _ _ _ _ _ rfl (u := .int .i64 (8 * (len0 / 8) : Nat)) (c.get 7 74 (by kernel_rfl)) rfl (run_mul8 _ (by omega) _ _ _) ⟨_, rfl, Rel.gr_refl _, rfl, c.inv⟩
              · intro L a w c
                refine .inl ⟨Rel.wanted_by (j := 1) (b := true) (d := 68) (by kernel_rfl) (c.get 1 68 (by kernel_rfl)), ?_⟩
                exact Rel.wp_sl _ _ none _ none rfl (c.get 4 71 (by kernel_rfl)) rfl (congrArg some (c.get 8 75 (by kernel_rfl))) rfl (run_slice_to a0 len0 (8 * (len0 / 8)) cap0 (by omega) (by omega) w) ⟨_, rfl, Rel.gr_refl _, rfl, c.inv⟩
              · intro L a w c
                refine .inl ⟨Rel.wanted_by (j := 1) (b := true) (d := 68) (by kernel_rfl) (c.get 1 68 (by kernel_rfl)), ?_⟩
                exact Rel.wp_cv _ _ _ rfl (c.get 9 76 (by kernel_rfl)) (KC.out w _ _ _ _ (by rw [List.length_take, HL.out]; omega) (fun h => by have := (HN.out h).1; omega) (row_take (row_keep encB_len HEW.out c.inv) _)) ⟨_, rfl, Rel.gr_refl _, rfl, c.inv⟩
              · intro L a w c
                refine .inl ⟨Rel.wanted_by (j := 1) (b := true) (d := 68) (by kernel_rfl) (c.get 1 68 (by kernel_rfl)), ?_⟩
                exact Rel.wp_bo _ _ _ _ _ rfl (u := .bool true) (c.get 3 70 (by kernel_rfl)) (c.get 10 77 (by kernel_rfl)) (by simp [go_sem]) ⟨_, rfl, Rel.gr_refl _, rfl, c.inv⟩
              · intro L a w c
                refine .inl ⟨Rel.wanted_free (by kernel_rfl) _, ?_⟩
                exact Rel.wp_pk _ _ _ rfl (b := true) (c.get 1 68 (by kernel_rfl)) ⟨_, rfl, Rel.gr_refl _, (c.get 11 78 (by kernel_rfl)), c.inv⟩
              · intro L a w c
                refine .inl ⟨Rel.wanted_free (by kernel_rfl) _, ?_⟩
                exact Rel.wp_mv _ rfl ⟨_, rfl, Rel.gr_refl _, (c.get 12 79 (by kernel_rfl)), c.inv⟩
              · intro L a w c
                refine .inl ⟨Rel.wanted_by (j := 13) (b := true) (d := 80) (by kernel_rfl) (c.get 13 80 (by kernel_rfl)), ?_⟩
                exact Rel.wp_mv _ rfl ⟨_, rfl, Rel.gr_refl _, (c.old 9 (v := .slice (some ⟨W.heap.size, 0, none⟩) len0 (len0 + 64)) (by kernel_rfl) (by kernel_rfl)), c.inv⟩
              · intro L a w c
                refine .inl ⟨Rel.wanted_by (j := 13) (b := true) (d := 80) (by kernel_rfl) (c.get 13 80 (by kernel_rfl)), ?_⟩
                exact Rel.wp_cv _ _ _ rfl (c.get 14 81 (by kernel_rfl)) (KC.out w _ _ _ _ HL.out (fun h => by cases h) (row_keep encB_len HX.out c.inv)) ⟨_, rfl, Rel.gr_refl _, rfl, c.inv⟩
              · intro L a w c
                refine .inl ⟨Rel.wanted_by (j := 13) (b := true) (d := 80) (by kernel_rfl) (c.get 13 80 (by kernel_rfl)), ?_⟩
                exact Rel.wp_mv _ rfl ⟨_, rfl, Rel.gr_refl _, (c.old 0 (v := .slice a0 len0 cap0) (by kernel_rfl) (by kernel_rfl)), c.inv⟩
              · intro L a w c
                refine .inl ⟨Rel.wanted_by (j := 13) (b := true) (d := 80) (by kernel_rfl) (c.get 13 80 (by kernel_rfl)), ?_⟩
                exact Rel.wp_cv _ _ _ rfl (c.get 16 83 (by kernel_rfl)) (KC.out w _ _ _ _ HL.out (fun h => (HN.out h).1) (row_keep encB_len HEW.out c.inv)) ⟨_, rfl, Rel.gr_refl _, rfl, c.inv⟩
              · intro L a w c
                refine .inl ⟨Rel.wanted_by (j := 13) (b := true) (d := 80) (by kernel_rfl) (c.get 13 80 (by kernel_rfl)), ?_⟩
                exact Rel.wp_bo _ _ _ _ _ rfl (u := .bool true) (c.get 15 82 (by kernel_rfl)) (c.get 17 84 (by kernel_rfl)) (by simp [go_sem]) ⟨_, rfl, Rel.gr_refl _, rfl, c.inv⟩
              · intro L a w c
                refine .inl ⟨Rel.wanted_free (by kernel_rfl) _, ?_⟩
                exact Rel.wp_pk _ _ _ rfl (b := true) (c.get 13 80 (by kernel_rfl)) ⟨_, rfl, Rel.gr_refl _, (c.get 18 85 (by kernel_rfl)), c.inv⟩
              · intro L a w c
                refine .inl ⟨Rel.wanted_free (by kernel_rfl) _, ?_⟩
                exact Rel.wp_mv _ rfl ⟨_, rfl, Rel.gr_refl _, (c.get 19 86 (by kernel_rfl)), c.inv⟩
              · intro L a w c
                refine .inl ⟨Rel.wanted_by (j := 20) (b := true) (d := 87) (by kernel_rfl) (c.get 20 87 (by kernel_rfl)), ?_⟩
                exact Rel.wp_mv _ rfl ⟨_, rfl, Rel.gr_refl _, (c.old 11 (v := .slice (some ⟨g2, 0, none⟩) (len0 + 8) c2) (by kernel_rfl) (by kernel_rfl)), c.inv⟩
              · intro L a w c
                refine .inl ⟨Rel.wanted_by (j := 20) (b := true) (d := 87) (by kernel_rfl) (c.get 20 87 (by kernel_rfl)), ?_⟩
                exact Rel.wp_cv _ _ _ rfl (c.get 21 88 (by kernel_rfl)) (KC.out w _ _ _ _ (by have := beB_length 8 (toU64 a2); have := HL.out; simp only [List.length_append]; omega) (fun h => by cases h) (row_keep encB_len H2.out c.inv)) ⟨_, rfl, Rel.gr_refl _, rfl, c.inv⟩
              · intro L a w c
                refine .inl ⟨Rel.wanted_by (j := 20) (b := true) (d := 87) (by kernel_rfl) (c.get 20 87 (by kernel_rfl)), ?_⟩
                exact Rel.wp_mv _ rfl ⟨_, rfl, Rel.gr_refl _, (c.old 0 (v := .slice a0 len0 cap0) (by kernel_rfl) (by kernel_rfl)), c.inv⟩
              · intro L a w c
                refine .inl ⟨Rel.wanted_by (j := 20) (b := true) (d := 87) (by kernel_rfl) (c.get 20 87 (by kernel_rfl)), ?_⟩
                exact Rel.wp_mv _ rfl ⟨_, rfl, Rel.gr_refl _, (c.old 2 (v := .int .i64 a2) (by kernel_rfl) (by kernel_rfl)), c.inv⟩
              · intro L a w c
                refine .inl ⟨Rel.wanted_by (j := 20) (b := true) (d := 87) (by kernel_rfl) (c.get 20 87 (by kernel_rfl)), ?_⟩
                refine Rel.wp_cl _ _ _ rfl Try.func11 (by kernel_rfl) ?_
                show Calls _ _ #[Rel.slot a 90, Rel.slot a 91] w _
                rw [show Rel.slot a 90 = .slice a0 len0 cap0 from (c.get 23 90 (by kernel_rfl)), show Rel.slot a 91 = .int .i64 a2 from (c.get 24 91 (by kernel_rfl))]
                exact call_row rfl ((rint_any a0 len0 cap0 a2 x0 w HL.out HN.out (row_keep encB_len HEW.out c.inv) (by omega)).mono fun e w' ⟨v, h1, h2, h3⟩ => ⟨v, h1, kRow_own h2, h3⟩) c.inv
              · intro L a w c
                refine .inl ⟨Rel.wanted_by (j := 20) (b := true) (d := 87) (by kernel_rfl) (c.get 20 87 (by kernel_rfl)), ?_⟩
                obtain ⟨aa, nn, cc, e, hl', hn', hr'⟩ := (c.get 25 92 (by kernel_rfl))
                exact Rel.wp_cv _ _ _ rfl e (KC.out w aa nn cc _ hl' hn' hr') ⟨_, rfl, Rel.gr_refl _, rfl, c.inv⟩
              · intro L a w c
                refine .inl ⟨Rel.wanted_by (j := 20) (b := true) (d := 87) (by kernel_rfl) (c.get 20 87 (by kernel_rfl)), ?_⟩
                exact Rel.wp_bo _ _ _ _ _ rfl (u := .bool true) (c.get 22 89 (by kernel_rfl)) (c.get 26 93 (by kernel_rfl)) (by simp [go_sem]) ⟨_, rfl, Rel.gr_refl _, rfl, c.inv⟩
              · intro L a w c
                refine .inl ⟨Rel.wanted_free (by kernel_rfl) _, ?_⟩
                exact Rel.wp_pk _ _ _ rfl (b := true) (c.get 20 87 (by kernel_rfl)) ⟨_, rfl, Rel.gr_refl _, (c.get 27 94 (by kernel_rfl)), c.inv⟩
              · intro L a w c
                refine .inl ⟨Rel.wanted_free (by kernel_rfl) _, ?_⟩
                exact Rel.wp_mv _ rfl ⟨_, rfl, Rel.gr_refl _, (c.get 28 95 (by kernel_rfl)), c.inv⟩
              · intro L a w c
                refine .inl ⟨Rel.wanted_by (j := 29) (b := true) (d := 96) (by kernel_rfl) (c.get 29 96 (by kernel_rfl)), ?_⟩
                exact Rel.wp_mv _ rfl ⟨_, rfl, Rel.gr_refl _, (c.old 12 (v := .slice (some ⟨g3, 0, none⟩) (len0 + 3) c3) (by kernel_rfl) (by kernel_rfl)), c.inv⟩
              · intro L a w c
                refine .inl ⟨Rel.wanted_by (j := 29) (b := true) (d := 96) (by kernel_rfl) (c.get 29 96 (by kernel_rfl)), ?_⟩
                exact Rel.wp_cv _ _ _ rfl (c.get 30 97 (by kernel_rfl)) (KC.out w _ _ _ _ (by have := beB_length 2 (ByteArray.mk #[122]).size; have := HL.out; simp only [List.length_append]; show _ + _ + 1 = _; omega) (fun h => by cases h) (row_keep encB_len H3.out c.inv)) ⟨_, rfl, Rel.gr_refl _, rfl, c.inv⟩
              · intro L a w c
                refine .inl ⟨Rel.wanted_by (j := 29) (b := true) (d := 96) (by kernel_rfl) (c.get 29 96 (by kernel_rfl)), ?_⟩
                exact Rel.wp_mv _ rfl ⟨_, rfl, Rel.gr_refl _, (c.old 0 (v := .slice a0 len0 cap0) (by kernel_rfl) (by kernel_rfl)), c.inv⟩
              · intro L a w c
                refine .inl ⟨Rel.wanted_by (j := 29) (b := true) (d := 96) (by kernel_rfl) (c.get 29 96 (by kernel_rfl)), ?_⟩
                refine Rel.wp_cl _ _ _ rfl Try.func12 (by kernel_rfl) ?_
                show Calls _ _ #[Rel.slot a 99, .string ⟨#[122]⟩] w _
                rw [show Rel.slot a 99 = .slice a0 len0 cap0 from (c.get 32 99 (by kernel_rfl))]
                exact call_row rfl ((rtext_any a0 len0 cap0 ⟨#[122]⟩ x0 w HL.out HN.out (row_keep encB_len HEW.out c.inv) (by omega) (by decide)).mono fun e w' ⟨v, h1, h2, h3⟩ => ⟨v, h1, kRow_own h2, h3⟩) c.inv
              · intro L a w c
                refine .inl ⟨Rel.wanted_by (j := 29) (b := true) (d := 96) (by kernel_rfl) (c.get 29 96 (by kernel_rfl)), ?_⟩
                obtain ⟨aa, nn, cc, e, hl', hn', hr'⟩ := (c.get 33 100 (by kernel_rfl))
                exact Rel.wp_cv _ _ _ rfl e (KC.out w aa nn cc _ hl' hn' hr') ⟨_, rfl, Rel.gr_refl _, rfl, c.inv⟩
              · intro L a w c
                refine .inl ⟨Rel.wanted_by (j := 29) (b := true) (d := 96) (by kernel_rfl) (c.get 29 96 (by kernel_rfl)), ?_⟩
                exact Rel.wp_bo _ _ _ _ _ rfl (u := .bool true) (c.get 31 98 (by kernel_rfl)) (c.get 34 101 (by kernel_rfl)) (by simp [go_sem]) ⟨_, rfl, Rel.gr_refl _, rfl, c.inv⟩
              · intro L a w c
                refine .inl ⟨Rel.wanted_free (by kernel_rfl) _, ?_⟩
                exact Rel.wp_pk _ _ _ rfl (b := true) (c.get 29 96 (by kernel_rfl)) ⟨_, rfl, Rel.gr_refl _, (c.get 35 102 (by kernel_rfl)), c.inv⟩
              · intro L a w c
                refine .inl ⟨Rel.wanted_free (by kernel_rfl) _, ?_⟩
                exact Rel.wp_as _ rfl ⟨_, rfl, Rel.gr_refl _, (c.get 36 103 (by kernel_rfl)), c.inv⟩
            · intro a w hbase hroom hdef hJ hV
              have hr : Rel.slot a 8 = .bool true := hV 37 _ _ rfl rfl
              obtain ⟨tm, df⟩ := a
              simp only at hdef
              subst hdef
              go_wp2
              refine bodyPost_ret (results_tmp rfl _ _ _) rfl ?_
              exact ⟨congrArg Ending.returned hr, below_keep HB.out hJ⟩

set_option maxRecDepth 100000 in
theorem lifted (os : Os) (started : os.Started) (H : Type) (enc : TypeId × Value → H) :
    ReturnsInHanded {} Try.checked os 6 .any (Rows.octetOwnSpec.pre6 enc Try.prog Try.f6 Rows.octetOwnRow.domain false) (Rows.octetOwnSpec.post enc Try.prog Try.f6 false true false false) := by
  refine returnsInHanded_of_change_sized (C := Try.checked) own started (by kernel_rfl) Try.func6
    (ChangeSpec.witness6 (enc := enc) (C := Try.checked) false ⟨#[], #[.slice none 0 0, .int .i64 0, .int .i64 0, .int .u8 0], []⟩ 8 (by kernel_rfl) (by kernel_rfl) (by kernel_rfl) (by kernel_rfl)) ?_
  intro W base args ds gs before hval0 hW hcnd hsz0 _
  have hval : ∀ (j : Nat) t v, Try.f6.params[j]? = some t → args[j]? = some v → Value.okWide Try.prog W .any base t v := hval0
  have hW' := hW
  obtain ⟨p, q, hA0, hV, rfl, hfz, hnd⟩ := hW
  have hA : DataW.TrodAll enc Try.prog W 0 (fun _ => true) true Try.f6.params.toList args.toList ds p := hA0
  have hsz : (DataW.weightsEach Try.prog (Try.f6.params.toList ++ Rows.octetOwnSpec.plain.varTypes Try.prog) (ds ++ gs)).all (· ≤ reachBytes) = true := hsz0
  rw [Try.params6] at hA hval hsz
  obtain ⟨v0, vs0, d0, ds0, p0, q0, hargs, rfl, rfl, h0, r0⟩ := trodAll_cons hA
  obtain ⟨v1, vs1, d1, ds1, p1, q1, rfl, rfl, rfl, h1, r1⟩ := trodAll_cons r0
  obtain ⟨v2, vs2, d2, ds2, p2, q2, rfl, rfl, rfl, h2, r2⟩ := trodAll_cons r1
  obtain ⟨v3, vs3, d3, ds3, p3, q3, rfl, rfl, rfl, h3, r3⟩ := trodAll_cons r2
  obtain ⟨rfl, rfl, rfl⟩ := trodAll_nil r3
  obtain rfl : args = #[v0, v1, v2, v3] := by cases args; simp_all
  obtain ⟨rfl, rfl⟩ := trodVars_none hV
  have k0 := h0
  have lt0 : ∀ x ∈ p0, x.block < W.heap.size := by obtain ⟨m, hm⟩ := k0; exact DataW.trod_lt m _ _ _ hm
  obtain ⟨a0, len0, cap0, rfl⟩ := okWide_slice Try.underlying22 (hval 0 22 v0 rfl rfl)
  obtain ⟨x0, w0⟩ := Opn.opens_arg (Oct.opens_bytes) h0
  have z0 := Opn.slice_sized hsz (j := 0) (b := 1) rfl rfl Try.underlying22 (by kernel_rfl) k0
  have k1 := h1
  have lt1 : ∀ x ∈ p1, x.block < W.heap.size := by obtain ⟨m, hm⟩ := k1; exact DataW.trod_lt m _ _ _ hm
  obtain ⟨a1, rfl, _, _, w1⟩ := open_int Try.underlying3 (hval 1 3 v1 rfl rfl) h1
  have k2 := h2
  have lt2 : ∀ x ∈ p2, x.block < W.heap.size := by obtain ⟨m, hm⟩ := k2; exact DataW.trod_lt m _ _ _ hm
  obtain ⟨a2, rfl, _, _, w2⟩ := open_int Try.underlying3 (hval 2 3 v2 rfl rfl) h2
  have k3 := h3
  have lt3 : ∀ x ∈ p3, x.block < W.heap.size := by obtain ⟨m, hm⟩ := k3; exact DataW.trod_lt m _ _ _ hm
  obtain ⟨a3, rfl, _, _, w3⟩ := open_int Try.underlying5 (hval 3 5 v3 rfl rfl) h3
  clear hA0 hval0
  refine (walk W a0 len0 cap0 x0 w0 z0 a1 w1 a2 w2 a3 w3).mono fun e W' ⟨he, bel⟩ => ?_
  subst he
  exact ⟨_, rfl, _, _, _, [], _, [], hW', trodAll_mk1 (shut_bool Try.underlying4 _), (trodAll_cons_mk (Below.trod laidOut (by kernel_rfl) (of_decide_eq_true (by kernel_rfl)) k0 bel lt0) (trodAll_cons_mk (Below.trod laidOut (by kernel_rfl) (of_decide_eq_true (by kernel_rfl)) k1 bel lt1) (trodAll_cons_mk (Below.trod laidOut (by kernel_rfl) (of_decide_eq_true (by kernel_rfl)) k2 bel lt2) (trodAll_cons_mk (Below.trod laidOut (by kernel_rfl) (of_decide_eq_true (by kernel_rfl)) k3 bel lt3) trodAll_mk0)))), rfl, bel.frame _, fun h => by cases h⟩

theorem over : Rows.octetOwnRow.holds Try.pinned (OpenSpec.ofChange Rows.octetOwnSpec) :=
  OpenClaim.holds_of_wide 6 Try.f6 rfl rfl rfl rfl rfl rfl rfl ⟨rfl, rfl, rfl, rfl, rfl⟩ rfl rfl rfl rfl rfl (by kernel_rfl) Try.func6 (by kernel_rfl)
    (of_decide_eq_true (by kernel_rfl)) (by unfold Func.isWrapper; first | (rw [if_pos (by decide +kernel)]; kernel_rfl) | (rw [if_neg (by decide +kernel)]; exact ⟨rfl, rfl⟩))
    (fun os started H enc _ => lifted os started H enc)

/-- THE STATEMENT -/
theorem proved : Rows.OctetOwnSaid := over
#print axioms proved
end Go.Proofs.Ytijenfmkgedkfaa.octetOwn
