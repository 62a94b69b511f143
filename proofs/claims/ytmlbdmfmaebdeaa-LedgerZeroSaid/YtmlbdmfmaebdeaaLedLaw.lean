/- Ledger: LedgerPosts and LedgerReads, over any ledger that does as it should. -/
import Derived.Test.YtmlbdmfmaebdeaaLedAwk
import Derived.Test.YtmlbdmfmaebdeaaLedFew
import Derived.Test.YtmlbdmfmaebdeaaLedPost
namespace Go.Proofs.Ytmlbdmfmaebdeaa.Led
set_option maxRecDepth 100000
open Go.RowKit
open Go.Sort
open Kit
open Mon
open Tre
set_option linter.unusedVariables false
variable {w w' : World}

/-- A law's allocations, cut. -/
theorem cut_al {a : Option Addr} {n c : Nat} {al : List Al} (h : Allocs w a n c al) (hok : ∀ x ∈ al, x.ok) : ∃ m X, m = min n 20 ∧ X = al.take m ∧ Allocs w a m c X ∧ (∀ x ∈ X, x.ok) ∧ m ≤ 20 :=
  ⟨min n 20, al.take (min n 20), rfl, rfl, lst_take h _ (Nat.min_le_left _ _), fun x hx => hok x (List.mem_of_mem_take hx), Nat.min_le_right _ _⟩
theorem cut_legs {a : Option Addr} {n c : Nat} {l : List Lg} (h : Legs w a n c l) (hok : ∀ x ∈ l, x.ok) : ∃ m X, m = min n 70 ∧ X = l.take m ∧ Legs w a m c X ∧ (∀ x ∈ X, x.ok) ∧ m ≤ 70 :=
  ⟨min n 70, l.take (min n 70), rfl, rfl, lst_take h _ (Nat.min_le_left _ _), fun x hx => hok x (List.mem_of_mem_take hx), Nat.min_le_right _ _⟩

set_option maxHeartbeats 4000000 in
theorem posts_any (hP : Prog) (W : World) (wd : Int) (hw : inI wd) (a : Option Addr) (n c : Nat) (al : List Al) (hA : Allocs W a n c al) (hok : ∀ x ∈ al, x.ok) (a2 : Option Addr) (n2 c2 : Nat) (legs : List Lg) (hG : Legs W a2 n2 c2 legs) (hokg : ∀ x ∈ legs, x.ok) :
    Calls Try.prog 3 #[.int .i64 wd, .slice a n c, .slice a2 n2 c2] W fun e W' => e = .returned (.bool true) ∧ Below W.heap.size W W' := by
  obtain ⟨m, X, hm, hX, hAX, hokX, hm20⟩ := cut_al hA hok
  obtain ⟨m2, Y, hm2, hY, hGY, hokY, hm70⟩ := cut_legs hG hokg
  have HFew := Lib.hid (fun w => few_any a n c m hA.cap hA.max hm w)
  have HSome := Lib.hid (fun w => some_any a2 n2 c2 m2 hG.cap hG.max hm2 w)
  have HX := Lib.hid (And.intro hAX (And.intro hokX (And.intro hGY hokY)))
  have HPo := Lib.hid (hP.post W wd a m c X a2 m2 c2 Y hw hAX hokX (by omega) hGY hokY (by omega))
  have HRe := Lib.hid (fun w h1 h2 => rpost_any w wd a m c X a2 m2 c2 Y h1 (by omega) h2 (by omega))
  have HAw := Lib.hid (fun w => awake_any hP w)
  clear hm hX hAX hokX hm20 hm2 hY hGY hokY hm70 hA hok hG hokg hw hP
  generalize postW wd X Y = pw at HPo HRe
  generalize postE wd X Y = pe at HPo HRe
  generalize postA wd X Y = pa at HPo HRe
  go_enter Try.func3, Try.ntmps3
  go_wp2_with fail
  refine (HFew.out W).mono ?_
  rintro e w1 ⟨rfl, rfl⟩
  go_wp2_with fail
  refine (HSome.out W).mono ?_
  rintro e w1 ⟨rfl, rfl⟩
  go_wp2_with fail
  refine HPo.out.mono ?_
  rintro e w1 ⟨v1, rfl, ho1, hb1⟩
  obtain ⟨x1, k1, rfl, hl1⟩ := outA_lst ho1
  obtain ⟨np, hnp⟩ : ∃ np, np = pa.length := ⟨_, rfl⟩
  rw [← hnp] at hl1 ⊢
  have HN := Lib.hid hnp
  have HB1 := Lib.hid (And.intro hb1 hl1)
  clear ho1 hb1 hl1 hnp
  go_wp2_with fail
  refine (HFew.out w1).mono ?_
  rintro e w2 ⟨rfl, rfl⟩
  go_wp2_with fail
  refine (HSome.out w1).mono ?_
  rintro e w2 ⟨rfl, rfl⟩
  go_wp2_with fail
  refine (HRe.out w1 (lst_keep encL_len HX.out.1 HB1.out.1) (lst_keep encG_len HX.out.2.2.1 HB1.out.1)).mono ?_
  rintro e w2 ⟨v2, rfl, ho2, hb2⟩
  obtain ⟨x2, k2, rfl, hl2⟩ := outA_lst ho2
  rw [← HN.out] at hl2 ⊢
  have HB2 := Lib.hid (And.intro (below_keep HB1.out.1 hb2) (And.intro (lst_keep encL_len HB1.out.2 hb2) hl2))
  clear ho2 hb2 hl2
  go_wp2_with fail
  refine (HAw.out w2).mono ?_
  rintro e w3 ⟨rfl, hb3⟩
  have HB3 := Lib.hid (below_keep HB2.out.1 hb3)
  have HSm := Lib.hid (same_any x1 x2 np k1 k2 pa w3 (lst_keep encL_len HB2.out.2.1 hb3) (lst_keep encL_len HB2.out.2.2 hb3))
  clear hb3
  go_wp2_with fail
  refine HSm.out.mono ?_
  rintro e w4 ⟨rfl, hb4⟩
  have HB4 := Lib.hid (below_keep HB3.out hb4)
  clear hb4
  go_wp2
  go_ret
  exact ⟨by first | rfl | exact ret_bool (by simp), HB4.out⟩

set_option maxHeartbeats 4000000 in
theorem reads_any (hP : Prog) (W : World) (wd : Int) (hw : inI wd) (a : Option Addr) (n c : Nat) (al : List Al) (hA : Allocs W a n c al) (hok : ∀ x ∈ al, x.ok) (k : Int) (hk : inI k) :
    Calls Try.prog 4 #[.int .i64 wd, .slice a n c, .int .i64 k] W fun e W' => e = .returned (.bool true) ∧ Below W.heap.size W W' := by
  obtain ⟨m, X, hm, hX, hAX, hokX, hm20⟩ := cut_al hA hok
  have HFew := Lib.hid (few_any a n c m hA.cap hA.max hm W)
  have HX := Lib.hid (And.intro hAX hokX)
  have hfl : (flatN wd X).length = 1 + 3 * m := by rw [flat_len, hAX.len]
  have HFl := Lib.hid (flat_any wd X a m c W hAX (by omega))
  have HAm := Lib.hid (fun w h1 => hP.amount w wd a m c X k hw h1 hokX (by omega) hk)
  have HTo := Lib.hid (fun w h1 => hP.total w wd a m c X hw h1 hokX (by omega))
  have HAw := Lib.hid (fun w => awake_any hP w)
  clear hm hX hAX hokX hA hok hw hk hP
  obtain ⟨fl, hf⟩ : ∃ fl, fl = flatN wd X := ⟨_, rfl⟩
  rw [← hf] at HFl HAm HTo hfl
  obtain ⟨nf, hnf⟩ : ∃ nf, nf = fl.length := ⟨_, rfl⟩
  rw [← hnf] at hfl
  have hnf9 : nf ≤ 61 := by omega
  have HN := Lib.hid (And.intro hnf hfl)
  clear hf
  by_cases hin : 0 ≤ k ∧ k < 1 + 3 * (m : Int)
  · obtain ⟨q, rfl⟩ : ∃ q : Nat, k = q := ⟨k.toNat, by omega⟩
    have hqn : q < nf := by omega
    have t1 : ¬ (q : Int) < 0 := by omega
    have t2 : ¬ (nf : Int) ≤ (q : Int) := by omega
    simp only [if_pos hin, Int.toNat_natCast] at HAm
    obtain ⟨y, hy⟩ : ∃ y, fl[q]? = some y := ⟨_, List.getElem?_eq_getElem (by rw [← hnf]; exact hqn)⟩
    rw [getD_at hy] at HAm
    have HY := Lib.hid hy
    clear hnf hfl hin hm20 hy
    go_enter Try.func4, Try.ntmps4
    go_wp2_with fail
    refine HFew.out.mono ?_
    rintro e w1 ⟨rfl, rfl⟩
    go_wp2_with fail
    refine HFl.out.mono ?_
    rintro e w1 ⟨v1, rfl, ho1, hb1⟩
    obtain ⟨g1, c1, rfl, -, -, -⟩ := owns_at encI_len ho1 (by rw [← HN.out.1]; omega)
    rw [← HN.out.1] at ho1 ⊢
    have HB1 := Lib.hid (And.intro hb1 ho1)
    clear hb1 ho1
    go_wp2_with fail
    refine (HAm.out w1 (lst_keep encL_len HX.out.1 HB1.out.1)).mono ?_
    rintro e w2 ⟨rfl, hb2⟩
    have HB2 := Lib.hid (And.intro (below_keep HB1.out.1 hb2) (own_chg' HB1.out.2 hb2))
    clear hb2
    go_wp2_with fail
    refine (HTo.out w2 (lst_keep encL_len HX.out.1 HB2.out.1)).mono ?_
    rintro e w3 ⟨rfl, hb3⟩
    have HB3 := Lib.hid (And.intro (below_keep HB2.out.1 hb3) (own_chg' HB2.out.2 hb3))
    clear hb3
    have HAd := Lib.hid (show Elems w3 (some ⟨g1, 0, none⟩) fl by
      obtain ⟨a', c', hv, h1, h2, h3, h4⟩ := owns_row encI_len HB3.out.2
      injection hv with e1 e2 e3
      subst e1
      exact ints_elems ⟨rfl, h1, h2, (fun e => by cases e), h4⟩)
    have hmx : nf ≤ maxLen := by unfold maxLen; omega
    have HMx := Lib.hid hmx
    clear hmx
    go_wp2_with fail
    refine (radd_any (some ⟨g1, 0, none⟩) nf c1 fl w3 HN.out.1.symm HMx.out HAd.out).mono ?_
    rintro e w4 ⟨rfl, rfl⟩
    generalize addN fl = an at *
    generalize addE fl = ae at *
    go_wp2_with fail
    refine (HAw.out w3).mono ?_
    rintro e w4 ⟨rfl, hb4⟩
    have HB4 := Lib.hid (below_keep HB3.out.1 hb4)
    have q1 := int_of_own (own_chg' HB3.out.2 hb4) HN.out.1.symm HY.out
    have q2 : w4.cell? ⟨g1, q, none⟩ = some (.int .i64 y) := q1
    clear hb4 q1
    go_wp2
    go_ret
    exact ⟨by first | rfl | exact ret_bool (by simp), HB4.out⟩
  · have hor : k < 0 ∨ (¬ k < 0 ∧ (nf : Int) ≤ k) := by omega
    simp only [if_neg hin] at HAm
    clear hnf hfl hin hm20
    rcases hor with t1 | ⟨t1, t2⟩
    all_goals
      go_enter Try.func4, Try.ntmps4
      go_wp2_with fail
      refine HFew.out.mono ?_
      rintro e w1 ⟨rfl, rfl⟩
      go_wp2_with fail
      refine HFl.out.mono ?_
      rintro e w1 ⟨v1, rfl, ho1, hb1⟩
      obtain ⟨g1, c1, rfl, -, -, -⟩ := owns_at encI_len ho1 (by rw [← HN.out.1, HN.out.2]; omega)
      rw [← HN.out.1] at ho1 ⊢
      have HB1 := Lib.hid (And.intro hb1 ho1)
      clear hb1 ho1
      go_wp2_with fail
      refine (HAm.out w1 (lst_keep encL_len HX.out.1 HB1.out.1)).mono ?_
      rintro e w2 ⟨rfl, hb2⟩
      have HB2 := Lib.hid (And.intro (below_keep HB1.out.1 hb2) (own_chg' HB1.out.2 hb2))
      clear hb2
      go_wp2_with fail
      refine (HTo.out w2 (lst_keep encL_len HX.out.1 HB2.out.1)).mono ?_
      rintro e w3 ⟨rfl, hb3⟩
      have HB3 := Lib.hid (And.intro (below_keep HB2.out.1 hb3) (own_chg' HB2.out.2 hb3))
      clear hb3
      have HAd := Lib.hid (show Elems w3 (some ⟨g1, 0, none⟩) fl by
        obtain ⟨a', c', hv, h1, h2, h3, h4⟩ := owns_row encI_len HB3.out.2
        injection hv with e1 e2 e3
        subst e1
        exact ints_elems ⟨rfl, h1, h2, (fun e => by cases e), h4⟩)
      have hmx : nf ≤ maxLen := by unfold maxLen; omega
      have HMx := Lib.hid hmx
      clear hmx
      go_wp2_with fail
      refine (radd_any (some ⟨g1, 0, none⟩) nf c1 fl w3 HN.out.1.symm HMx.out HAd.out).mono ?_
      rintro e w4 ⟨rfl, rfl⟩
      generalize addN fl = an at *
      generalize addE fl = ae at *
      go_wp2_with fail
      refine (HAw.out w3).mono ?_
      rintro e w4 ⟨rfl, hb4⟩
      have HB4 := Lib.hid (below_keep HB3.out.1 hb4)
      clear hb4
      go_wp2
      go_ret
      exact ⟨by first | rfl | exact ret_bool (by simp), HB4.out⟩
end Go.Proofs.Ytmlbdmfmaebdeaa.Led
