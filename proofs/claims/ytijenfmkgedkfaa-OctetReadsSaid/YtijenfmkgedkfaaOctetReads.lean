/- OctetReads answers true for any bytes and any list of asks, each read afterwards as it was: a Reader of the bytes answers the first 60 asks as the document's words do. No condition: what is read is no more than memory bears. -/
import Derived.Test.YtijenfmkgedkfaaRows
import Derived.WalkKit
import Derived.ProofKit
import Derived.OpenShut
import Derived.ShutString
import Derived.ChangeOld
import Derived.Below
import Derived.Test.YtijenfmkgedkfaaOpens
import Derived.Test.YtijenfmkgedkfaaOctLaw
namespace Go.Proofs.Ytijenfmkgedkfaa.octetReads
open Go.ChangeShapes Go.WideShapes Go.ChangeAt Go.RowKit
open Go.ChangeMaps (open_string shut_string)
set_option linter.unusedVariables false

theorem own : ownKnob Try.prog.godebug = none := by kernel_rfl
theorem laidOut : laidOutB Try.prog = true := by kernel_rfl

open Oct
open Kit
open Go.Sort
set_option maxHeartbeats 4000000 in
theorem walk (W : World) (a0 : Option Addr) (len0 cap0 : Nat) (x0 : List UInt8) (w0 : Opn.RSlice Oct.RByte 1 W [.slice a0 len0 cap0] x0) (z0 : len0 * 1 ≤ 140737488351232) (a1 : Option Addr) (len1 cap1 : Nat) (x1 : List Oct.Ak) (w1 : Opn.RSlice Oct.RAsk 2 W [.slice a1 len1 cap1] x1) :
    Calls Try.prog 4 #[.slice a0 len0 cap0, .slice a1 len1 cap1] W fun e w' => e = .returned (.bool true) ∧ Below W.heap.size W w' := by
  obtain ⟨hl, hc, hcm, hn, hE⟩ := bytes_arg w0
  obtain ⟨hl1, hc1, hcm1, hn1, hE1⟩ := asks_arg w1
  rw [Nat.mul_one] at z0
  have hm1 : len1 ≤ 9223372036854775807 := by unfold maxLen at hcm1; omega
  clear w0 w1
  go_enter Try.func4, Try.ntmps4
  go_wp2_with fail
  refine (new_any a0 len0 cap0 x0 W hl hn hE (by omega)).mono ?_
  rintro e w1 ⟨p, rfl, hR, hb⟩
  have HE := Lib.hid hE
  have HE1 := Lib.hid hE1
  have HR := Lib.hid hR
  have HB := Lib.hid hb
  have HL := Lib.hid hl
  have HL1 := Lib.hid hl1
  clear hE hE1 hR hb hn hn1 hl hl1
  go_wp2
  go_loopw [6, 7] (fun v i wr => ∃ (k : Nat) (s : RS) (q : Int), k ≤ len1 ∧ k ≤ 60 ∧ i = .int .i64 k ∧ v = .int .i64 q ∧ Pos x0 s q ∧ Rdr W.heap.size wr p s ∧ Below W.heap.size W wr) (fun _ i _ => 60 - (intOf i).toNat)
  case atStart => exact ⟨0, some x0, 0, by omega, by omega, rfl, rfl, .inr ⟨0, by omega, rfl, rfl⟩, HR.out, HB.out⟩
  case round =>
    obtain ⟨k, s, q, hk, hk60, rfl, rfl, hP, hR, hb⟩ := hrel
    by_cases hlt : k < len1 ∧ k < 60
    · obtain ⟨hlt1, hlt2⟩ := hlt
      have hkl : k < x1.length := by rw [HL1.out]; exact hlt1
      obtain ⟨b, off, HA⟩ := row_some HE1.out (by omega)
      have ha := HA.out
      subst ha
      have D0 := row_cell HE1.out hkl rfl (i := 0) (by omega)
      have D1 := row_cell HE1.out hkl rfl (i := 1) (by omega)
      generalize hy : x1[k] = y at *
      obtain ⟨t, most⟩ := y
      simp only [encA, Nat.add_zero, List.getElem?_cons_zero, List.getElem?_cons_succ] at D0 D1
      have d0 := cell_keep hb D0
      have d1 := cell_keep hb D1
      have HP := Lib.hid hP
      have HRr := Lib.hid hR
      have HBr := Lib.hid hb
      have HD := Lib.hid (And.intro D0 D1)
      clear hP hR hb D0 D1 HR HB
      cases t with
      | true =>
        go_wp2_with fail
        refine (word_pos a0 len0 cap0 most wr HL.out hc hcm (by omega) (row_keep encB_len HE.out HBr.out) HP.out).mono ?_
        rintro e w2 ⟨S, s', n, rfl, hT, hP', hb2⟩
        have HT := Lib.hid hT
        have HP' := Lib.hid hP'
        have HR2 := Lib.hid (rdr_keep HRr.out hb2)
        have HB2 := Lib.hid (below_keep HBr.out hb2)
        replace d0 := cell_keep hb2 d0
        replace d1 := cell_keep hb2 d1
        clear hT hP' hb2
        go_wp2_with fail
        refine (text_rdr_is most HR2.out HT.out).mono ?_
        rintro e w3 ⟨rfl, hR3, hg⟩
        have HB3 := Lib.hid (HB2.out.trans (grown_below hg HB2.out.size (rdr_ge HR2.out)))
        have HR3 := Lib.hid hR3
        have hend := pos_end HP'.out HL.out
        clear hR3 hg d0 d1
        go_wp2_with fail
        refine (end_rdr_is HR3.out hend).mono ?_
        rintro e w4 ⟨rfl, rfl⟩
        clear hend
        go_wp2
        go_roundw
        case rel => exact ⟨k + 1, s', n, by omega, by omega, by go_num, rfl, HP'.out, HR3.out, HB3.out⟩
        case measure => simp [intOf]; omega
      | false =>
        go_wp2_with fail
        refine (number_pos a0 len0 cap0 wr HL.out (by omega) (row_keep encB_len HE.out HBr.out) HP.out).mono ?_
        rintro e w2 ⟨N, s', n, rfl, hT, hP', rfl⟩
        have HT := Lib.hid hT
        have HP' := Lib.hid hP'
        clear hT hP'
        go_wp2_with fail
        refine (int_rdr_is HRr.out HT.out).mono ?_
        rintro e w3 ⟨rfl, hR3, hg⟩
        have HB3 := Lib.hid (HBr.out.trans (grown_below hg HBr.out.size (rdr_ge HRr.out)))
        have HR3 := Lib.hid hR3
        have hend := pos_end HP'.out HL.out
        clear hR3 hg d0 d1
        go_wp2_with fail
        refine (end_rdr_is HR3.out hend).mono ?_
        rintro e w4 ⟨rfl, rfl⟩
        clear hend
        go_wp2
        go_roundw
        case rel => exact ⟨k + 1, s', n, by omega, by omega, by go_num, rfl, HP'.out, HR3.out, HB3.out⟩
        case measure => simp [intOf]; omega
    · have hor : ¬ k < len1 ∨ (k < len1 ∧ ¬ k < 60) := by omega
      have hend := pos_end hP HL.out
      have HRr := Lib.hid hR
      have HBr := Lib.hid hb
      clear hP hR hb HR HB
      rcases hor with h | ⟨h, h'⟩
      · go_wp2_with fail
        refine (awake_any wr).mono ?_
        rintro e w2 ⟨rfl, hb2⟩
        have HR2 := Lib.hid (rdr_keep HRr.out hb2)
        have HB2 := Lib.hid (below_keep HBr.out hb2)
        clear hb2
        go_wp2_with fail
        refine (end_rdr_is HR2.out hend).mono ?_
        rintro e w4 ⟨rfl, rfl⟩
        go_wp2
        go_ret
        exact ⟨ret_bool (by simp), HB2.out⟩
      · go_wp2_with fail
        refine (awake_any wr).mono ?_
        rintro e w2 ⟨rfl, hb2⟩
        have HR2 := Lib.hid (rdr_keep HRr.out hb2)
        have HB2 := Lib.hid (below_keep HBr.out hb2)
        clear hb2
        go_wp2_with fail
        refine (end_rdr_is HR2.out hend).mono ?_
        rintro e w4 ⟨rfl, rfl⟩
        go_wp2
        go_ret
        exact ⟨ret_bool (by simp), HB2.out⟩

set_option maxRecDepth 100000 in
theorem lifted (os : Os) (started : os.Started) (H : Type) (enc : TypeId × Value → H) :
    ReturnsInHanded {} Try.checked os 4 .any (Rows.octetReadsSpec.pre6 enc Try.prog Try.f4 Rows.octetReadsRow.domain false) (Rows.octetReadsSpec.post enc Try.prog Try.f4 false true false false) := by
  refine returnsInHanded_of_change_sized (C := Try.checked) own started (by kernel_rfl) Try.func4
    (ChangeSpec.witness6 (enc := enc) (C := Try.checked) false ⟨#[], #[.slice none 0 0, .slice none 0 0], []⟩ 8 (by kernel_rfl) (by kernel_rfl) (by kernel_rfl) (by kernel_rfl)) ?_
  intro W base args ds gs before hval0 hW hcnd hsz0 _
  have hval : ∀ (j : Nat) t v, Try.f4.params[j]? = some t → args[j]? = some v → Value.okWide Try.prog W .any base t v := hval0
  have hW' := hW
  obtain ⟨p, q, hA0, hV, rfl, hfz, hnd⟩ := hW
  have hA : DataW.TrodAll enc Try.prog W 0 (fun _ => true) true Try.f4.params.toList args.toList ds p := hA0
  have hsz : (DataW.weightsEach Try.prog (Try.f4.params.toList ++ Rows.octetReadsSpec.plain.varTypes Try.prog) (ds ++ gs)).all (· ≤ reachBytes) = true := hsz0
  rw [Try.params4] at hA hval hsz
  obtain ⟨v0, vs0, d0, ds0, p0, q0, hargs, rfl, rfl, h0, r0⟩ := trodAll_cons hA
  obtain ⟨v1, vs1, d1, ds1, p1, q1, rfl, rfl, rfl, h1, r1⟩ := trodAll_cons r0
  obtain ⟨rfl, rfl, rfl⟩ := trodAll_nil r1
  obtain rfl : args = #[v0, v1] := by cases args; simp_all
  obtain ⟨rfl, rfl⟩ := trodVars_none hV
  have k0 := h0
  have lt0 : ∀ x ∈ p0, x.block < W.heap.size := by obtain ⟨m, hm⟩ := k0; exact DataW.trod_lt m _ _ _ hm
  obtain ⟨a0, len0, cap0, rfl⟩ := okWide_slice Try.underlying22 (hval 0 22 v0 rfl rfl)
  obtain ⟨x0, w0⟩ := Opn.opens_arg (Oct.opens_bytes) h0
  have z0 := Opn.slice_sized hsz (j := 0) (b := 1) rfl rfl Try.underlying22 (by kernel_rfl) k0
  have k1 := h1
  have lt1 : ∀ x ∈ p1, x.block < W.heap.size := by obtain ⟨m, hm⟩ := k1; exact DataW.trod_lt m _ _ _ hm
  obtain ⟨a1, len1, cap1, rfl⟩ := okWide_slice Try.underlying30 (hval 1 30 v1 rfl rfl)
  obtain ⟨x1, w1⟩ := Opn.opens_arg (Oct.opens_asks) h1
  clear hA0 hval0
  refine (walk W a0 len0 cap0 x0 w0 z0 a1 len1 cap1 x1 w1).mono fun e W' ⟨he, bel⟩ => ?_
  subst he
  exact ⟨_, rfl, _, _, _, [], _, [], hW', trodAll_mk1 (shut_bool Try.underlying4 _), (trodAll_cons_mk (Below.trod laidOut (by kernel_rfl) (of_decide_eq_true (by kernel_rfl)) k0 bel lt0) (trodAll_cons_mk (Below.trod laidOut (by kernel_rfl) (of_decide_eq_true (by kernel_rfl)) k1 bel lt1) trodAll_mk0)), rfl, bel.frame _, fun h => by cases h⟩

theorem over : Rows.octetReadsRow.holds Try.pinned (OpenSpec.ofChange Rows.octetReadsSpec) :=
  OpenClaim.holds_of_wide 4 Try.f4 rfl rfl rfl rfl rfl rfl rfl ⟨rfl, rfl, rfl, rfl, rfl⟩ rfl rfl rfl rfl rfl (by kernel_rfl) Try.func4 (by kernel_rfl)
    (of_decide_eq_true (by kernel_rfl)) (by unfold Func.isWrapper; first | (rw [if_pos (by decide +kernel)]; kernel_rfl) | (rw [if_neg (by decide +kernel)]; exact ⟨rfl, rfl⟩))
    (fun os started H enc _ => lifted os started H enc)

/-- THE STATEMENT -/
theorem proved : Rows.OctetReadsSaid := over
#print axioms proved
end Go.Proofs.Ytijenfmkgedkfaa.octetReads
