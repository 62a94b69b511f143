/- MoneyParts answers true for any two lists of ints, which read afterwards as they did: the sum of all is the sum of the parts' sums; what is added and taken away again leaves what was. No condition. -/
import Derived.Test.YtioaaamkpfglmaaRows
import Derived.WalkKit
import Derived.ProofKit
import Derived.OpenShut
import Derived.ShutString
import Derived.ChangeOld
import Derived.Below
import Derived.Test.YtioaaamkpfglmaaMonApp
namespace Go.Proofs.Ytioaaamkpfglmaa.moneyParts
open Go.ChangeShapes Go.WideShapes Go.ChangeAt Go.RowKit
open Go.ChangeMaps (open_string shut_string)
set_option linter.unusedVariables false

theorem own : ownKnob Try.prog.godebug = none := by kernel_rfl
theorem laidOut : laidOutB Try.prog = true := by kernel_rfl

/-- WHAT THE WALK IS TOLD OF A SLICE OF INTEGERS THAT CAME IN: it is nil; or it leads to a row of 'cap' cells, the numbers 'zs' (the first 'len' are its elements, the rest its spare room), each fitting its kind. -/
def IsRow (k : IntKind) (w : World) (a : Option Addr) (len cap : Nat) (zs : List Int) : Prop :=
  (a = none ∧ len = 0 ∧ cap = 0 ∧ zs = []) ∨
  ∃ x, a = some x ∧ len ≤ cap ∧ cap ≤ maxLen ∧ zs.length = cap ∧ (∀ i, i < zs.length → w.cell? (x.add i) = some (.int k (zs.getD i 0))) ∧ ∀ n ∈ zs, (Lit.int k n).wf = true

open Mon

set_option maxHeartbeats 4000000 in
theorem walk (a0 : Option Addr) (len0 cap0 : Nat) (z0 : List Int) (a1 : Option Addr) (len1 cap1 : Nat) (z1 : List Int) (w : World) (w0 : IsRow .i64 w a0 len0 cap0 z0) (w1 : IsRow .i64 w a1 len1 cap1 z1) :
    Calls Try.prog 6 #[.slice a0 len0 cap0, .slice a1 len1 cap1] w fun e w' => e = .returned (.bool true) ∧ Below w.heap.size w w' := by
  have nil0 : a0 = none → min len0 100 = 0 ∧ cap0 = 0 := by
    intro h; rcases w0 with ⟨_, h1, h2, _⟩ | ⟨q, h1, _⟩
    · exact ⟨by omega, h2⟩
    · rw [h] at h1; cases h1
  have nil1 : a1 = none → min len1 100 = 0 ∧ cap1 = 0 := by
    intro h; rcases w1 with ⟨_, h1, h2, _⟩ | ⟨q, h1, _⟩
    · exact ⟨by omega, h2⟩
    · rw [h] at h1; cases h1
  obtain ⟨hE0, hL0, hl0, hm0⟩ := elems_row w0 (min len0 100) (by omega)
  obtain ⟨hE1, hL1, hl1, hm1⟩ := elems_row w1 (min len1 100) (by omega)
  have f0 := fun W => few_any a0 len0 cap0 W hl0 hm0
  have f1 := fun W => few_any a1 len1 cap1 W hl1 hm1
  have b0 : min len0 100 ≤ 100 := by omega
  have b1 : min len1 100 ≤ 100 := by omega
  generalize z0.take (min len0 100) = x at hE0 hL0
  generalize z1.take (min len1 100) = y at hE1 hL1
  generalize min len0 100 = n0 at hL0 f0 b0 nil0
  generalize min len1 100 = n1 at hL1 f1 b1 nil1
  have N0 := Lib.hid nil0
  have N1 := Lib.hid nil1
  have hown0 : (w.alloc (.cells #[] 3)).ownsRow w.heap.size 3 1 (.slice (some ⟨w.heap.size, 0, none⟩) 0 0) 0 (([] : List Int).map (Value.int .i64)) := World.ownsRow_made w #[] 0 (Nat.le_refl _) (by unfold maxLen; omega) rfl
  have hbz : Below w.heap.size w (w.alloc (.cells #[] 3)) := (Below.refl _ _).alloc (Nat.le_refl _) _
  have F0 := Lib.hid f0
  have F1 := Lib.hid f1
  have E0 := Lib.hid hE0
  have E1 := Lib.hid hE1
  have L0 := Lib.hid hL0
  have L1 := Lib.hid hL1
  clear nil0 nil1 f0 f1 hE0 hE1 hL0 hL1 w0 w1 hl0 hl1 hm0 hm1
  go_enter Try.func6, Try.ntmps6
  go_wp2_with fail
  refine (F0.out _).mono ?_
  rintro e w' ⟨rfl, rfl⟩
  go_wp2_with fail
  refine (F1.out _).mono ?_
  rintro e w' ⟨rfl, rfl⟩
  go_wp2_with (first | (at_builtin; refine wpList_append_ints rfl (.tmp 20) (.tmp 21) rfl w.heap.size _ 0 [] rfl hown0 a0 n0 cap0 x rfl L0.out (elems_below E0.out hbz) N0.out (by omega) (by simp) ?_; intro v1 w1 hown1 hb1) | (at_builtin; refine wpList_append_ints rfl (.tmp 22) (.tmp 23) rfl w.heap.size _ (0 + n0) ([] ++ x) rfl hown1 a1 n1 cap1 y rfl L1.out (elems_below E1.out (hbz.trans hb1)) N1.out (by omega) (hbz.trans hb1).size ?_; intro v2 w2 hown2 hb2))
  obtain ⟨a2, cap2, rfl, hl2, hn2, hm2, hE2⟩ := elems_owned hown2
  have hB := (hbz.trans hb1).trans hb2
  have E2 := Lib.hid hE2
  have L2 := Lib.hid hl2
  have E0' := Lib.hid (elems_below E0.out hB)
  have E1' := Lib.hid (elems_below E1.out hB)
  have hsz : w.heap.size ≤ w2.heap.size := hB.size
  clear hl2 hE2 hown0 hown1 hown2 hbz hb1 hb2 hn2 E0 E1
  cases hs : addF ([] ++ x ++ y) with
  | none =>
    have HS := Lib.hid (addN_none hs)
    clear hs
    refine (add_is _ _ _ _ 0 2 _ L2.out (by unfold maxLen; omega) E2.out HS.out.1 HS.out.2).mono ?_
    rintro e w' ⟨rfl, rfl⟩
    go_wp2_with fail
    refine (add_any _ _ _ x _ L0.out (by unfold maxLen; omega) E0'.out).mono ?_
    rintro e w' ⟨rfl, rfl⟩
    go_wp2_with fail
    refine (add_any _ _ _ y _ L1.out (by unfold maxLen; omega) E1'.out).mono ?_
    rintro e w' ⟨rfl, rfl⟩
    go_wp2_with fail
    refine (awake_any _).mono ?_
    rintro e w' ⟨rfl, hb⟩
    go_wp2_with fail
    go_ret
    exact ⟨rfl, hB.trans (hb.mono hsz)⟩
  | some s =>
    obtain ⟨t, ht, hu⟩ := add_parts (x := x) hs
    have HS := Lib.hid (addN_some hs)
    have HT := Lib.hid (addN_some ht)
    obtain ⟨s1, s2⟩ := fitsB_iff.1 (add_fits hs)
    obtain ⟨t1, t2⟩ := fitsB_iff.1 (add_fits ht)
    have htn := fun h => add_nil ht h
    have hth := fun h => fitsB_iff.1 (add_head ht h)
    have HTN := Lib.hid htn
    have HTH := Lib.hid hth
    have HU := Lib.hid hu
    clear hs ht htn hth hu
    refine (add_is _ _ _ _ s 0 _ L2.out (by unfold maxLen; omega) E2.out HS.out.1 HS.out.2).mono ?_
    rintro e w' ⟨rfl, rfl⟩
    go_wp2_with fail
    refine (add_is _ _ _ x t 0 _ L0.out (by unfold maxLen; omega) E0'.out HT.out.1 HT.out.2).mono ?_
    rintro e w' ⟨rfl, rfl⟩
    go_wp2_with fail
    obtain ⟨u, g, HY, hg⟩ : ∃ u g, Hid (addN y = u ∧ addE y = g) ∧ ((g == 0) = false ∨ (g = 0 ∧ s = t + u)) := by
      rcases HU.out with h | ⟨u, h, h2⟩
      · exact ⟨0, 2, addN_none h, .inl rfl⟩
      · exact ⟨u, 0, addN_some h, .inr ⟨rfl, h2⟩⟩
    refine (add_is _ _ _ y u g _ L1.out (by unfold maxLen; omega) E1'.out HY.out.1 HY.out.2).mono ?_
    rintro e w' ⟨rfl, rfl⟩
    by_cases hn0 : n0 = 0
    · have ht0 : t = 0 := HTN.out (List.length_eq_zero_iff.1 (by rw [L0.out]; exact hn0))
      subst ht0
      subst hn0
      rcases hg with hg | ⟨rfl, rfl⟩
      all_goals
        go_wp2_with fail
        refine (awake_any _).mono ?_
        rintro e w' ⟨rfl, hb⟩
        go_wp2_with fail
        go_ret
        exact ⟨rfl, hB.trans (hb.mono hsz)⟩
    · have hz := HTH.out (by rw [L0.out]; omega)
      obtain ⟨hz1, hz2⟩ := hz
      have hnb : ((n0 : Int) == 0) = false := by simp; omega
      obtain ⟨b, off, HA, hbl, hc⟩ : ∃ b off, Hid (a0 = some ⟨b, off, none⟩) ∧ b < w2.heap.size ∧ w2.cell? ⟨b, off, none⟩ = some (.int .i64 (x.getD 0 0)) := by
        rcases elems_lt E0'.out with h | ⟨b, off, h, hlt, hj⟩
        · have := L0.out; rw [h] at this; simp at this; omega
        · exact ⟨b, off, h, hlt, by have := hj 0 (by rw [L0.out]; omega); simpa using this⟩
      have ha := HA.out
      subst ha
      generalize x.getD 0 0 = z at hz1 hz2 hc
      obtain ⟨v, g2, HV, hv⟩ : ∃ v g, Hid (addN [s, -z, z] = v ∧ addE [s, -z, z] = g) ∧ ((g != 0) = true ∨ (g = 0 ∧ v = s)) := by
        cases h : addF [s, -z, z] with
        | none => exact ⟨0, 2, addN_none h, .inl rfl⟩
        | some v => exact ⟨v, 0, addN_some h, .inr ⟨rfl, add_back h⟩⟩
      have hp : (0 : Int) < (n0 : Int) := by omega
      have hw : IntKind.i64.wrap (-z) = -z := IntWalk.i64_in _ (by omega)
      rcases hv with hv | ⟨rfl, rfl⟩
      all_goals
        rcases hg with hg | ⟨rfl, rfl⟩
      all_goals
        go_wp2_with fail
        go_region_with (go_at_call 8; refine (add_is _ 3 3 [_, -z, z] _ _ _ rfl (by unfold maxLen; omega) (elems_drew (elems_new _ _ _ _ _ (by simp) (elems_three _ (-z) z))) HV.out.1 HV.out.2).mono ?_; rintro e w' ⟨rfl, rfl⟩)
      all_goals
        clear hw
        go_wp2_with fail
        refine (awake_any _).mono ?_
        rintro e w' ⟨rfl, hb⟩
        go_wp2_with fail
        go_ret
        exact ⟨rfl, ((hB.alloc hsz _).drew).trans (hb.mono (by simp; omega))⟩

/-! ### THE ROW's STEP: WRITTEN OUT: LEAVE IT -/
set_option maxRecDepth 100000 in
theorem lifted (os : Os) (started : os.Started) (H : Type) (enc : TypeId × Value → H) :
    ReturnsInHanded {} Try.checked os 6 .any (Rows.moneyPartsSpec.pre6 enc Try.prog Try.f6 Rows.moneyPartsRow.domain false) (Rows.moneyPartsSpec.post enc Try.prog Try.f6 false true false false) := by
  refine returnsInHanded_of_change (C := Try.checked) own started (by kernel_rfl) Try.func6
    (ChangeSpec.witness6 (enc := enc) (C := Try.checked) false ⟨#[], #[.slice none 0 0, .slice none 0 0], []⟩ 8 (by kernel_rfl) (by kernel_rfl) (by kernel_rfl) (by kernel_rfl)) ?_
  intro W base args ds gs before hval0 hW hcnd _
  have hval : ∀ (j : Nat) t v, Try.f6.params[j]? = some t → args[j]? = some v → Value.okWide Try.prog W .any base t v := hval0
  have hW' := hW
  obtain ⟨p, q, hA0, hV, rfl, hfz, hnd⟩ := hW
  have hA : DataW.TrodAll enc Try.prog W 0 (fun _ => true) true Try.f6.params.toList args.toList ds p := hA0
  rw [Try.params6] at hA hval
  obtain ⟨v0, vs0, d0, ds0, p0, q0, hargs, rfl, rfl, h0, r0⟩ := trodAll_cons hA
  obtain ⟨v1, vs1, d1, ds1, p1, q1, rfl, rfl, rfl, h1, r1⟩ := trodAll_cons r0
  obtain ⟨rfl, rfl, rfl⟩ := trodAll_nil r1
  obtain rfl : args = #[v0, v1] := by cases args; simp_all
  obtain ⟨rfl, rfl⟩ := trodVars_none hV
  obtain ⟨a0, len0, cap0, rfl⟩ := okWide_slice Try.underlying22 (hval 0 22 v0 rfl rfl)
  have k0 := h0
  have lt0 : ∀ x ∈ p0, x.block < W.heap.size := by obtain ⟨m, hm⟩ := k0; exact DataW.trod_lt m _ _ _ hm
  obtain ⟨z0, w0⟩ : ∃ zs, IsRow .i64 W a0 len0 cap0 zs := by
    obtain ⟨fuel, hf⟩ := h0
    rcases open_ints Try.underlying22 Try.underlying3 (by kernel_rfl) hf with ⟨hcs, _⟩ | ⟨x, l, c, zs, hcs, _, hl, hm, hz, _, hcell, hwz⟩
    · simp [Value.cells] at hcs
      obtain ⟨rfl, rfl, rfl⟩ := hcs
      exact ⟨[], .inl ⟨rfl, rfl, rfl, rfl⟩⟩
    · simp [Value.cells] at hcs
      obtain ⟨rfl, rfl, rfl⟩ := hcs
      exact ⟨zs, .inr ⟨_, rfl, hl, hm, by simpa using hz, hcell, hwz⟩⟩
  obtain ⟨a1, len1, cap1, rfl⟩ := okWide_slice Try.underlying22 (hval 1 22 v1 rfl rfl)
  have k1 := h1
  have lt1 : ∀ x ∈ p1, x.block < W.heap.size := by obtain ⟨m, hm⟩ := k1; exact DataW.trod_lt m _ _ _ hm
  obtain ⟨z1, w1⟩ : ∃ zs, IsRow .i64 W a1 len1 cap1 zs := by
    obtain ⟨fuel, hf⟩ := h1
    rcases open_ints Try.underlying22 Try.underlying3 (by kernel_rfl) hf with ⟨hcs, _⟩ | ⟨x, l, c, zs, hcs, _, hl, hm, hz, _, hcell, hwz⟩
    · simp [Value.cells] at hcs
      obtain ⟨rfl, rfl, rfl⟩ := hcs
      exact ⟨[], .inl ⟨rfl, rfl, rfl, rfl⟩⟩
    · simp [Value.cells] at hcs
      obtain ⟨rfl, rfl, rfl⟩ := hcs
      exact ⟨zs, .inr ⟨_, rfl, hl, hm, by simpa using hz, hcell, hwz⟩⟩
  clear hA0 hval0
  refine (walk a0 len0 cap0 z0 a1 len1 cap1 z1 W w0 w1).mono fun e W' ⟨he, bel⟩ => ?_
  subst he
  exact ⟨_, rfl, _, _, _, [], _, [], hW', trodAll_mk1 (shut_bool Try.underlying4 _), (trodAll_cons_mk (Below.trod laidOut (by kernel_rfl) (of_decide_eq_true (by kernel_rfl)) k0 bel lt0) (trodAll_cons_mk (Below.trod laidOut (by kernel_rfl) (of_decide_eq_true (by kernel_rfl)) k1 bel lt1) trodAll_mk0)), rfl, bel.frame _, fun h => by cases h⟩

theorem over : Rows.moneyPartsRow.holds Try.pinned (OpenSpec.ofChange Rows.moneyPartsSpec) :=
  OpenClaim.holds_of_wide 6 Try.f6 rfl rfl rfl rfl rfl rfl rfl ⟨rfl, rfl, rfl, rfl, rfl⟩ rfl rfl rfl rfl rfl (by kernel_rfl) Try.func6 (by kernel_rfl)
    (of_decide_eq_true (by kernel_rfl)) (by unfold Func.isWrapper; first | (rw [if_pos (by decide +kernel)]; kernel_rfl) | (rw [if_neg (by decide +kernel)]; exact ⟨rfl, rfl⟩))
    (fun os started H enc _ => lifted os started H enc)

/-- THE STATEMENT -/
theorem proved : Rows.MoneyPartsSaid := over
#print axioms proved
end Go.Proofs.Ytioaaamkpfglmaa.moneyParts
