/- Ledger: LedgerOwn, over any ledger that does as it should. -/
import Derived.Test.YtmlbdmfmaebdeaaLedLaw
namespace Go.Proofs.Ytmlbdmfmaebdeaa.Led
set_option maxRecDepth 100000
open Go.RowKit
open Go.Sort
open Kit
open Mon
open Tre
set_option linter.unusedVariables false
variable {w w' : World}

theorem own_empty_g' (w : World) (base : Nat) (hb : base ≤ w.heap.size) : Owns encG 2 43 (w.alloc (.cells #[] 43)) base (.slice (some ⟨w.heap.size, 0, none⟩) 0 0) [] :=
  ⟨rfl, .inr ⟨w.heap.size, 0, _, rfl, hb, heap_alloc_new w _, Nat.le_refl _, by unfold maxLen; omega, rfl, rfl⟩⟩
theorem own_legs {base : Nat} {v : Value} {l : List Lg} (h : Owns encG 2 43 w base v l) : ∃ a c, v = .slice a l.length c ∧ Legs w a l.length c l := by
  obtain ⟨a, c, hv, hc, hm, hn, hrow⟩ := owns_row encG_len h
  exact ⟨a, c, hv, rfl, hc, hm, (fun e => ⟨by have := hn e; omega, hn e⟩), hrow⟩
set_option maxHeartbeats 16000000 in
theorem ownl_any (hP : Prog) (W : World) (wd : Int) (hw : inI wd) (a : Option Addr) (n c : Nat) (al : List Al) (hA : Allocs W a n c al) (hok : ∀ x ∈ al, x.ok) (a2 : Option Addr) (n2 c2 : Nat) (legs : List Lg) (hG : Legs W a2 n2 c2 legs) (hokg : ∀ x ∈ legs, x.ok) :
    Calls Try.prog 7 #[.int .i64 wd, .slice a n c, .slice a2 n2 c2] W fun e W' => e = .returned (.bool true) ∧ Below W.heap.size W W' := by
  obtain ⟨m, X, hm, hX, hAX, hokX, hm20⟩ := cut_al hA hok
  obtain ⟨m2, Y, hm2, hY, hGY, hokY, hm70⟩ := cut_legs hG hokg
  have HFew := Lib.hid (fun w => few_any a n c m hA.cap hA.max hm w)
  have HSome := Lib.hid (fun w => some_any a2 n2 c2 m2 hG.cap hG.max hm2 w)
  have HX := Lib.hid (And.intro hAX (And.intro hGY (And.intro hG hG.len)))
  have HPo := Lib.hid (fun w x1 k1 h1 x2 k2 h2 => hP.post w wd x1 m k1 X x2 m2 k2 Y hw h1 hokX (by omega) h2 hokY (by omega))
  have HLn := Lib.hid (And.intro hAX.len (And.intro hGY.len hY))
  have hm2n : m2 ≤ n2 := by omega
  have HAw := Lib.hid (fun w => awake_any hP w)
  clear hm hX hAX hm2 hY hGY hA hok hG hokg hokX hokY hw hP
  have HZ0 := Lib.hid (And.intro (own_empty_al W W.heap.size (Nat.le_refl _)) (below_alloc W (.cells #[] 45)))
  have HD0 := Lib.hid (show (0 < 6) ∧ (0 < 2) by omega)
  have HD1 := Lib.hid (show ([] : List Al).length + m ≤ maxLen ∧ (([] : List Al).length + m) * 48 ≤ 140737488355328 by unfold maxLen; simp; omega)
  have HD2 := Lib.hid (show ([] : List Lg).length + m2 ≤ maxLen ∧ (([] : List Lg).length + m2) * 16 ≤ 140737488355328 by unfold maxLen; simp; omega)
  have HXr := Lib.hid (lst_keep encL_len HX.out.1 HZ0.out.2)
  go_enter Try.func7, Try.ntmps7
  go_wp2_with fail
  refine (HFew.out _).mono ?_
  rintro e w1 ⟨rfl, rfl⟩
  go_wp2_with (first | (at_builtin; refine Two.append_apart encL_len HD0.out.1 encL_one rfl (.tmp 14) (.tmp 16) 22 45 rfl Try.underlying22 (.agg #[.int .i64 0, .int .i64 0, .int .i64 0, .int .i64 0, .int .i64 0, .int .i64 0]) 48 info_al rfl W.heap.size _ [] rfl HZ0.out.1 a m c X rfl HLn.out.1 HXr.out.row HXr.out.nil HD1.out.1 HD1.out.2 HZ0.out.2.size ?_; intro v9 w9 ho9 hg9 hx9; have HB9 := Lib.hid (HZ0.out.2.trans (Two.below_grown HZ0.out.1 hg9 HZ0.out.2.size)); have HO9 := Lib.hid (show Owns encL 6 45 w9 W.heap.size v9 X from ho9); clear ho9 hg9 hx9) | fail)
  obtain ⟨x1, k1, rfl, hl1⟩ := outA_lst (.inl HO9.out)
  rw [HLn.out.1] at hl1 ⊢
  have hb10 := below_alloc w9 (.cells #[] 43)
  have H1 := Lib.hid (And.intro hl1 (And.intro (own_empty_g' w9 w9.heap.size (Nat.le_refl _)) (And.intro hb10 (lst_keep encG_len HX.out.2.1 (below_keep HB9.out hb10)))))
  clear hl1 hb10
  refine (HSome.out _).mono ?_
  rintro e w1 ⟨rfl, rfl⟩
  go_wp2_with (first | (at_builtin; refine Two.append_apart encG_len HD0.out.2 encG_one rfl (.tmp 18) (.tmp 20) 23 43 rfl Try.underlying23 (.agg #[.int .i64 0, .int .i64 0]) 16 info_leg rfl w9.heap.size _ [] rfl H1.out.2.1 a2 m2 c2 Y rfl HLn.out.2.1 H1.out.2.2.2.row H1.out.2.2.2.nil HD2.out.1 HD2.out.2 H1.out.2.2.1.size ?_; intro v10 w10 ho9 hg9 hx9; have HB10 := Lib.hid (H1.out.2.2.1.trans (Two.below_grown H1.out.2.1 hg9 H1.out.2.2.1.size)); have HO10 := Lib.hid (show Owns encG 2 43 w10 w9.heap.size v10 Y from ho9); obtain ⟨x2, k2, rfl, hl2⟩ := own_legs HO10.out; rw [HLn.out.2.1] at hl2 ⊢; have HL2 := Lib.hid hl2; clear ho9 hg9 hx9 hl2) | fail)
  have HL1 := Lib.hid (lst_keep encL_len H1.out.1 HB10.out)
  have HBW := Lib.hid (HB9.out.trans (HB10.out.mono HB9.out.size))
  refine (HPo.out w10 x1 k1 HL1.out x2 k2 HL2.out).mono ?_
  rintro e w11 ⟨v11, rfl, ho11, hb11⟩
  generalize postW wd X Y = pw at *
  generalize postE wd X Y = pe at *
  generalize postA wd X Y = pa at *
  obtain ⟨x3, k3, rfl, -⟩ := outA_lst ho11
  obtain ⟨np, hnp⟩ : ∃ np, np = pa.length := ⟨_, rfl⟩
  rw [← hnp] at ho11 ⊢
  have HO11 := Lib.hid (And.intro ho11 hnp.symm)
  have HB11 := Lib.hid (And.intro hb11 (below_keep HBW.out hb11))
  have HM := Lib.hid (And.intro (lst_keep encL_len HL1.out hb11) (And.intro (lst_keep encG_len HL2.out hb11) (lst_keep encL_len HX.out.1 (below_keep HBW.out hb11))))
  have hnx : np ≤ 9223372036854775807 := by
    obtain ⟨x3', k3', hv, hl⟩ := outA_lst ho11
    have h1 := hl.cap
    have h2 := hl.max
    rw [← hnp] at h1
    unfold maxLen at h2
    omega
  clear ho11 hb11 hnp
  go_wp2_with fail
  refine (HFew.out _).mono ?_
  rintro e w12 ⟨rfl, rfl⟩
  go_wp2_with fail
  refine (same_any x1 a m k1 c X w11 HM.out.1 HM.out.2.2).mono ?_
  rintro e w12 ⟨rfl, hb12⟩
  have HB12 := Lib.hid hb12
  clear hb12
  go_wp2_with fail
  go_loopw [12] (fun i wr => ∃ j : Nat, j ≤ m2 ∧ i = .int .i64 (j : Nat) ∧ Below w12.heap.size w12 wr) (fun i _ => m2 - (intOf i).toNat)
  case atStart => exact ⟨0, Nat.zero_le _, rfl, Below.refl _ _⟩
  case round =>
    obtain ⟨j, hj, rfl, hbj⟩ := hrel
    have HBj := Lib.hid (And.intro hbj (below_keep HB12.out hbj))
    clear hbj
    by_cases hlt : j < m2
    · have hjY : j < Y.length := by rw [HLn.out.2.1]; exact hlt
      have hjn : j < n2 := by omega
      have hjl : j < legs.length := by rw [HX.out.2.2.2]; exact hjn
      obtain ⟨b, o, rfl⟩ := lst_at HM.out.2.1 (by omega)
      obtain ⟨b2, o2, rfl⟩ := lst_at HX.out.2.2.1 (by omega)
      obtain ⟨p0, p1⟩ := leg_cells (lst_keep encG_len HM.out.2.1 HBj.out.2) hjY
      obtain ⟨r0, r1⟩ := leg_cells (lst_keep encG_len HX.out.2.2.1 (below_keep HB11.out.2 HBj.out.2)) hjl
      have hYj : Y[j] = legs[j] := by
        have e : Y[j]? = legs[j]? := by rw [HLn.out.2.2, List.getElem?_take_of_lt hlt]
        rw [List.getElem?_eq_getElem hjY, List.getElem?_eq_getElem hjl] at e
        injection e
      rw [hYj] at p0 p1
      generalize legs[j] = x at *
      obtain ⟨y0, y1⟩ := x
      simp only at p0 p1 r0 r1
      clear hYj
      go_wp2_with fail
      go_quiet (fail)
      go_wp2_with fail
      go_roundw
      case rel => exact ⟨j + 1, by omega, by go_num, below_keep HBj.out.1 (below_drewN' _ _)⟩
      case measure => simp [intOf]; omega
    · have hge : ¬ (j : Int) < (m2 : Int) := by omega
      have HS := Lib.hid (outA_keep HO11.out.1 HBj.out.2)
      have HSb := Lib.hid (below_keep HB11.out.1 HBj.out.2)
      go_wp2_with fail
      go_loopw [13] (fun i wx => ∃ (q : Nat) (M : List Al), q ≤ np ∧ i = .int .i64 (q : Nat) ∧ M.length = np ∧ OutA wx w10.heap.size (.slice x3 np k3) M ∧ Below w10.heap.size w10 wx) (fun i _ => np - (intOf i).toNat)
      case atStart => exact ⟨0, pa, Nat.zero_le _, rfl, HO11.out.2, HS.out, HSb.out⟩
      case round =>
        obtain ⟨q, M, hq, rfl, hM, hoM, hbq⟩ := hrel
        have HMl := Lib.hid hM
        have HBq := Lib.hid hbq
        have HOM := Lib.hid hoM
        clear hM hoM hbq
        by_cases hlt5 : q < np
        · have hown : Owns encL 6 45 wr w10.heap.size (.slice x3 np k3) M := by
            rcases HOM.out with h | ⟨h, _⟩
            · exact h
            · have := HMl.out
              rw [h] at this
              simp at this
              omega
          obtain ⟨g, c9, hv, hg, -, -⟩ := owns_at encL_len hown (by rw [HMl.out]; omega)
          rw [HMl.out] at hv
          injection hv with e1 e2 e3
          subst e1 e3
          clear e2
          obtain ⟨x, hgM⟩ : ∃ x, M[q]? = some x := ⟨_, List.getElem?_eq_getElem (show q < M.length by rw [HMl.out]; exact hlt5)⟩
          obtain ⟨s1, s2, s3⟩ := owns_put encL_len hown HMl.out hgM (i := 3) (by omega) (fun a => { a with avail := wrap64 (x.avail + 1) }) (.int .i64 (wrap64 (x.avail + 1))) (fun a => rfl)
          have s1' : wr.cell? ⟨g, q * 6 + 3, none⟩ = some (.int .i64 x.avail) := s1
          generalize x.avail = av at *
          have HN := Lib.hid (show OutA (wr.setCell ⟨g, q * 6 + 3, none⟩ (.int .i64 (wrap64 (av + 1)))) w10.heap.size (.slice (some ⟨g, 0, none⟩) np k3) _ from .inl s3)
          have HN2 := Lib.hid (HBq.out.setCell (p := ⟨g, q * 6 + 3, none⟩) hg (.int .i64 (wrap64 (av + 1))))
          clear hown hg hgM s1 s3
          go_wp2_with fail
          go_roundw
          case rel => exact ⟨q + 1, _, by omega, by go_num, by rw [List.length_set]; exact HMl.out, HN.out, HN2.out⟩
          case measure => simp [intOf]; omega
        · have hge5 : ¬ (q : Int) < (np : Int) := by omega
          have HF := Lib.hid (And.intro (lst_keep encL_len HL1.out HBq.out) (And.intro (lst_keep encL_len HX.out.1 (below_keep HBW.out HBq.out)) (below_keep HBW.out HBq.out)))
          go_wp2_with fail
          refine (HAw.out wr).mono ?_
          rintro e w13 ⟨rfl, hb13⟩
          have HF2 := Lib.hid (And.intro (lst_keep encL_len HF.out.1 hb13) (And.intro (lst_keep encL_len HF.out.2.1 hb13) (below_keep HF.out.2.2 hb13)))
          clear hb13
          go_wp2_with fail
          refine (HFew.out _).mono ?_
          rintro e w14 ⟨rfl, rfl⟩
          go_wp2_with fail
          refine (same_any x1 a m k1 c X w13 HF2.out.1 HF2.out.2.1).mono ?_
          rintro e w14 ⟨rfl, hb14⟩
          have HF3 := Lib.hid (below_keep HF2.out.2.2 hb14)
          clear hb14
          go_wp2_with fail
          go_ret
          exact ⟨by first | rfl | exact ret_bool (by simp), HF3.out⟩
end Go.Proofs.Ytmlbdmfmaebdeaa.Led
