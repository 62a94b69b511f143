/- Ledger, the landed: the accounts that legs name set, one after another. -/
import Derived.Test.YtmlbdmfmaebdeaaLedBeh
import Derived.Test.YtmlbdmfmaebdeaaLedNm
import Derived.Test.YtmlbdmfmaebdeaaLedCln
import Derived.Test.YtmlbdmfmaebdeaaFoot
namespace Go.Proofs.Ytmlbdmfmaebdeaa.Led
set_option maxRecDepth 100000
open Go.RowKit
open Go.Sort
open Kit
open Mon
open Tre
open Foot
set_option linter.unusedVariables false
set_option linter.unusedSimpArgs false
variable {w w' : World}

/-! ### Amounts of which some are set -/

def fq (fl : List Int) (legs : List Lg) (ks : List Int) (m q : Nat) : List Int := (List.range m).map fun (j : Nat) => if (j : Int) ∈ ks.take q then acctN fl legs j else fl.getD j 0
theorem fq_len (fl : List Int) (legs : List Lg) (ks : List Int) (m q : Nat) : (fq fl legs ks m q).length = m := by simp [fq]
theorem fq_at {fl : List Int} {legs : List Lg} {ks : List Int} {m q j : Nat} (hj : j < m) : (fq fl legs ks m q)[j]? = some (if (j : Int) ∈ ks.take q then acctN fl legs j else fl.getD j 0) := by simp [fq, hj]
theorem fq_zero {fl : List Int} {legs : List Lg} {ks : List Int} {m : Nat} (hl : fl.length = m) : fq fl legs ks m 0 = fl := by
  apply list_ext (by rw [fq_len, hl])
  intro i x hx
  have hi : i < m := by have := (List.getElem?_eq_some_iff.1 hx).1; rwa [fq_len] at this
  rw [fq_at hi] at hx
  simp at hx
  rw [← hx]
  simp [List.getD, show i < fl.length by omega]
theorem fq_step {fl : List Int} {legs : List Lg} {ks : List Int} {m q k : Nat} (hk : ks[q]? = some (k : Int)) (hm : k < m) : fq fl legs ks m (q + 1) = (fq fl legs ks m q).set k (acctN fl legs k) := by
  have hq := (List.getElem?_eq_some_iff.1 hk).1
  have he := (List.getElem?_eq_some_iff.1 hk).2
  apply list_ext (by rw [List.length_set, fq_len, fq_len])
  intro i x hx
  have hi : i < m := by have := (List.getElem?_eq_some_iff.1 hx).1; rwa [fq_len] at this
  rw [fq_at hi, List.take_succ_eq_append_getElem hq, he] at hx
  rw [List.getElem?_set]
  by_cases h : k = i
  · subst h
    rw [if_pos rfl, if_pos (by rw [fq_len]; exact hi)]
    rw [if_pos (by simp)] at hx
    exact hx
  · rw [if_neg h, fq_at hi, ← hx]
    have hne : ¬ (i : Int) = (k : Int) := by omega
    simp [hne]
theorem pair_at {ks : List Int} (hp : ks.Pairwise fun x y => x < y) {i j : Nat} {x y : Int} (hx : ks[i]? = some x) (hy : ks[j]? = some y) : (i < j → x < y) ∧ (x < y → i < j) := by
  obtain ⟨hi, ei⟩ := List.getElem?_eq_some_iff.1 hx
  obtain ⟨hj, ej⟩ := List.getElem?_eq_some_iff.1 hy
  subst ei ej
  have key := List.pairwise_iff_getElem.1 hp
  refine ⟨fun h => key i j hi hj h, fun h => ?_⟩
  rcases Nat.lt_trichotomy i j with h2 | h2 | h2
  · exact h2
  · subst h2; omega
  · have := key j i hj hi h2; omega
theorem not_before {ks : List Int} (hp : ks.Pairwise fun x y => x < y) {q : Nat} {x : Int} (hx : ks[q]? = some x) : x ∉ ks.take q := by
  intro h
  obtain ⟨i, hi, e⟩ := List.getElem_of_mem h
  rw [List.getElem_take] at e
  rw [List.length_take] at hi
  have h2 : ks[i]? = some x := by rw [List.getElem?_eq_getElem (by omega), e]
  have := (pair_at hp h2 hx).1 (by omega)
  omega
theorem named_iff {legs : List Lg} {k : Nat} : named legs k = true ↔ (k : Int) ∈ namedL legs := by
  rw [(namedL_spec legs).2]
  unfold named
  rw [List.any_eq_true]
  constructor
  · rintro ⟨g, hg, h⟩; exact ⟨g, hg, by simpa using h⟩
  · rintro ⟨g, hg, h⟩; exact ⟨g, hg, by simpa using h⟩
theorem fq_old {fl : List Int} {legs : List Lg} {m q k : Nat} (hk : (namedL legs)[q]? = some (k : Int)) (hm : k < m) : (fq fl legs (namedL legs) m q).getD k 0 = fl.getD k 0 := by
  rw [getD_at (fq_at hm), if_neg (not_before (namedL_spec legs).1 hk)]
theorem fq_end {wd : Int} {al : List Al} {legs : List Lg} {m r : Nat} (hm : m = 1 + 3 * al.length) (hr : (namedL legs).length = r) : fq (flatN wd al) legs (namedL legs) m r = postF wd al legs := by
  subst hm
  apply list_ext (by rw [fq_len, postF_len])
  intro i x hx
  have hi : i < 1 + 3 * al.length := by have := (List.getElem?_eq_some_iff.1 hx).1; rwa [fq_len] at this
  rw [fq_at hi, List.take_of_length_le (by omega)] at hx
  rw [postF_at wd al legs hi, ← hx]
  by_cases hn : named legs i = true
  · rw [if_pos (named_iff.1 hn)]
  · rw [if_neg (fun h => hn (named_iff.2 h)), (acct_un (fl := flatN wd al) (by simpa using hn)).2]
/-- Of the accounts ahead of the one that comes next none is wrong. -/
theorem none_before {fl : List Int} {legs : List Lg} {q k : Nat} (hz : ∀ i, i < q → ∀ x, (namedL legs)[i]? = some x → acctE fl legs x.toNat = 0) (hk : (namedL legs)[q]? = some (k : Int)) : ∀ j, j < k → acctE fl legs j = 0 := by
  intro j hj
  by_cases hn : named legs j = true
  · obtain ⟨i, hi, e⟩ := List.getElem_of_mem (named_iff.1 hn)
    have h2 : (namedL legs)[i]? = some (j : Int) := by rw [List.getElem?_eq_getElem hi, e]
    have h3 := (pair_at (namedL_spec legs).1 h2 hk).2 (by omega)
    have := hz i h3 _ h2
    rwa [Int.toNat_natCast] at this
  · exact (acct_un (by simpa using hn)).1
theorem all_good {wd : Int} {al : List Al} {legs : List Lg} {r : Nat} (hr : (namedL legs).length = r) (hp : preE (1 + 3 * al.length) legs = 0) (hz : ∀ i, i < r → ∀ x, (namedL legs)[i]? = some x → acctE (flatN wd al) legs x.toNat = 0) : postE wd al legs = 0 := by
  rw [post_iff]
  refine ⟨hp, fun j _ => ?_⟩
  by_cases hn : named legs j = true
  · obtain ⟨i, hi, e⟩ := List.getElem_of_mem (named_iff.1 hn)
    have := hz i (by omega) _ (by rw [List.getElem?_eq_getElem hi, e])
    rwa [Int.toNat_natCast] at this
  · exact (acct_un (by simpa using hn)).1
theorem beh_acct {fl : List Int} {legs : List Lg} {k : Nat} {y : Int} (hy : y = fl.getD k 0) (hn : named legs k = true) : behE y legs k = acctE fl legs k ∧ (behE y legs k = 0 → behN y legs k = acctN fl legs k) := by
  have e : mineY y legs k = mine fl legs k := by unfold mineY mine; rw [hy]
  have e1 : behE y legs k = acctE fl legs k := by unfold behE acctE; rw [e, if_pos hn]
  refine ⟨e1, fun h => ?_⟩
  unfold behN acctN
  rw [if_pos h, if_pos hn, e]

/-! ### What has been set, in memory -/

theorem setA_world {F : List Int} {al : List Al} (x : Int) : setA (F.set 0 x) al = setA F al := by
  apply List.ext_getElem?
  intro j
  cases ha : al[j]? with
  | none =>
    rw [List.getElem?_eq_none_iff] at ha
    rw [List.getElem?_eq_none (by rw [setA_len]; exact ha), List.getElem?_eq_none (by rw [setA_len]; exact ha)]
  | some a =>
    rw [setA_at ha, setA_at ha]
    unfold setOne
    simp only [List.getD, List.getElem?_set, show ¬ 0 = 1 + 3 * j by omega, show ¬ 0 = 2 + 3 * j by omega, show ¬ 0 = 3 + 3 * j by omega, if_false]
/-- An amount put in. -/
def putF (r : Nat) (x : Int) (a : Al) : Al := match r with
  | 0 => { a with avail := x }
  | 1 => { a with lien := x }
  | _ => { a with spent := x }
theorem putF_enc {r : Nat} (hr : r < 3) (x : Int) (a : Al) : encL (putF r x a) = (encL a).set (3 + r) (.int .i64 x) := by
  match r, hr with
  | 0, _ => rfl
  | 1, _ => rfl
  | 2, _ => rfl
theorem setA_alloc {F : List Int} {al : List Al} {i r : Nat} {a : Al} (hr : r < 3) (hF : F.length = 1 + 3 * al.length) (ha : al[i]? = some a) (x : Int) : setA (F.set (1 + 3 * i + r) x) al = (setA F al).set i (putF r x (setOne F a i)) := by
  have hi := (List.getElem?_eq_some_iff.1 ha).1
  apply List.ext_getElem?
  intro j
  rw [List.getElem?_set]
  by_cases hj : i = j
  · subst hj
    rw [if_pos rfl, if_pos (by rw [setA_len]; exact hi), setA_at ha]
    congr 1
    unfold setOne
    match r, hr with
    | 0, _ => simp [putF, List.getD, List.getElem?_set, show 1 + 3 * i < F.length by omega, show ¬ 1 + 3 * i = 2 + 3 * i by omega, show ¬ 1 + 3 * i = 3 + 3 * i by omega]
    | 1, _ => simp [putF, List.getD, List.getElem?_set, show 1 + 3 * i + 1 = 2 + 3 * i by omega, show 2 + 3 * i < F.length by omega, show ¬ 2 + 3 * i = 1 + 3 * i by omega, show ¬ 2 + 3 * i = 3 + 3 * i by omega]
    | 2, _ => simp [putF, List.getD, List.getElem?_set, show 1 + 3 * i + 2 = 3 + 3 * i by omega, show 3 + 3 * i < F.length by omega, show ¬ 3 + 3 * i = 1 + 3 * i by omega, show ¬ 3 + 3 * i = 2 + 3 * i by omega]
  · rw [if_neg hj]
    cases hb : al[j]? with
    | none =>
      rw [List.getElem?_eq_none_iff] at hb
      rw [List.getElem?_eq_none (by rw [setA_len]; exact hb), List.getElem?_eq_none (by rw [setA_len]; exact hb)]
    | some b =>
      rw [setA_at hb, setA_at hb]
      unfold setOne
      simp only [List.getD, List.getElem?_set, show ¬ 1 + 3 * i + r = 1 + 3 * j by omega, show ¬ 1 + 3 * i + r = 2 + 3 * j by omega, show ¬ 1 + 3 * i + r = 3 + 3 * j by omega, if_false]
structure PI (W : World) (base : Nat) (g0 gn : Nat) (va : Option Addr) (n vc r cn : Nat) (ks : List Int) (al : List Al) (F : List Int) (wr : World) : Prop where
  wld : OwI wr W.heap.size (.slice (some ⟨g0, 0, none⟩) 1 1) [F.getD 0 0]
  als : Owns encL 6 45 wr base (.slice va n vc) (setA F al)
  nms : IntsL wr (some ⟨gn, 0, none⟩) r cn ks
  below : Below W.heap.size W wr
variable {W : World} {base g0 gn n vc r cn : Nat} {va : Option Addr} {ks : List Int} {al : List Al} {F : List Int} {wr : World}
theorem pi_below (h : PI W base g0 gn va n vc r cn ks al F wr) (hb : Below wr.heap.size wr w') : PI W base g0 gn va n vc r cn ks al F w' :=
  ⟨own_chg' h.wld hb, Nest.own_on h.als hb, lst_keep encI_len h.nms hb, below_keep h.below hb⟩
theorem ints_far {b c' r' : Nat} {l : List Int} (h : IntsL w (some ⟨gn, 0, none⟩) r' c' l) (hne : gn ≠ b) (i : Nat) (u : Value) : IntsL (w.setCell ⟨b, i, none⟩ u) (some ⟨gn, 0, none⟩) r' c' l :=
  ⟨h.len, h.cap, h.max, h.nil, row_chg encI_len (set_chg w b i u) h.row hne⟩
theorem below_set {B b i : Nat} {u : Value} (h : Below B W w) (hb : B ≤ b) : Below B W (w.setCell ⟨b, i, none⟩ u) :=
  h.trans (by
    have hc := set_chg w b i u
    exact ⟨hc.os, hc.tape, hc.output, hc.size, fun k hk => by
      by_cases hk2 : k < w.heap.size
      · exact hc.block k hk2 (by omega)
      · have h2 := size_setCell w ⟨b, i, none⟩ u
        rw [Array.getElem?_eq_none (by omega), Array.getElem?_eq_none (by omega)]⟩)
/-- An account's place: what is in it, and that it can be set. -/
theorem pi_at (h : PI W base g0 gn va n vc r cn ks al F wr) (hn : n ≤ 100) (hal : al.length = n) (hF : F.length = 1 + 3 * n) (hbase : W.heap.size ≤ base) (h0 : g0 ≠ gn) (hv0 : ∀ g, (Value.slice va n vc).ownBlock = some g → g ≠ g0 ∧ g ≠ gn) {k : Nat} (hk : k < 1 + 3 * n) :
    ∃ b o, Calls Try.prog 21 #[.pointer (some ⟨g0, 0, none⟩), .slice va n vc, .int .i64 (k : Int)] wr (fun e w' => e = .returned (.pointer (some ⟨b, o, none⟩)) ∧ wr = w') ∧ wr.cell? ⟨b, o, none⟩ = some (.int .i64 (F.getD k 0)) ∧
      ∀ w5, Below wr.heap.size wr w5 → w5.cell? ⟨b, o, none⟩ = some (.int .i64 (F.getD k 0)) ∧ w5.frozen? ⟨b, o, none⟩ = false ∧ ∀ x, PI W base g0 gn va n vc r cn ks al (F.set k x) (w5.setCell ⟨b, o, none⟩ (.int .i64 x)) := by
  have hge : W.heap.size ≤ g0 := (World.ownsRow.lt h.wld g0 rfl).1
  by_cases hz : k = 0
  · subst hz
    refine ⟨g0, 0, addr_world wr _ va n vc, ?_, fun w5 hb => ?_⟩
    · have := (owns_put encI_len h.wld rfl (k := 0) (a := F.getD 0 0) rfl (i := 0) Nat.zero_lt_one (fun _ => 0) (.int .i64 0) (fun a => rfl)).1
      exact this
    · have h5 := pi_below h hb
      obtain ⟨a1, a2, -⟩ := owns_put encI_len h5.wld rfl (k := 0) (a := F.getD 0 0) rfl (i := 0) Nat.zero_lt_one (fun _ => 0) (.int .i64 0) (fun a => rfl)
      refine ⟨a1, a2, fun x => ?_⟩
      obtain ⟨-, -, a3⟩ := owns_put encI_len h5.wld rfl (k := 0) (a := F.getD 0 0) rfl (i := 0) Nat.zero_lt_one (fun _ => x) (.int .i64 x) (fun a => rfl)
      refine ⟨?_, ?_, ints_far h5.nms (Ne.symm h0) _ _, below_set h5.below hge⟩
      · have e : (F.set 0 x).getD 0 0 = x := getD_at (List.getElem?_set_self (by omega))
        rw [e]; exact a3
      · rw [setA_world]
        exact own_set_far h5.als (fun g hg => (hv0 g hg).1) _ _
  · obtain ⟨i, rr, hr, hi, rfl⟩ : ∃ i rr : Nat, rr < 3 ∧ i < n ∧ k = 1 + 3 * i + rr := ⟨(k - 1) / 3, (k - 1) % 3, by omega, by omega, by omega⟩
    have hil : i < al.length := by omega
    obtain ⟨ga, ca, hva, hga, -, -⟩ := owns_at encL_len h.als (by rw [setA_len]; omega)
    injection hva with e1 e2 e3
    subst e1
    have hval := hv0 ga rfl
    have hat := setA_at (F := F) (List.getElem?_eq_getElem hil)
    have hval2 : (encL (setOne F al[i] i))[3 + rr]? = some (.int .i64 (F.getD (1 + 3 * i + rr) 0)) := by
      rcases (show rr = 0 ∨ rr = 1 ∨ rr = 2 by omega) with e | e | e
      · rw [e]; rfl
      · rw [e, show 1 + 3 * i + 1 = 2 + 3 * i by omega]; rfl
      · rw [e, show 1 + 3 * i + 2 = 3 + 3 * i by omega]; rfl
    have hsl : (setA F al).length = n := by rw [setA_len]; exact hal
    refine ⟨ga, 0 + i * 6 + (3 + rr), addr_at wr _ ga 0 n vc i rr hn hi hr, ?_, fun w5 hb => ?_⟩
    · have := (owns_put encL_len h.als hsl hat (i := 3 + rr) (by omega) (putF rr 0) (.int .i64 0) (putF_enc hr 0)).1
      rw [Nat.zero_add, this]; exact hval2
    · have h5 := pi_below h hb
      obtain ⟨a1, a2, -⟩ := owns_put encL_len h5.als hsl hat (i := 3 + rr) (by omega) (putF rr 0) (.int .i64 0) (putF_enc hr 0)
      rw [Nat.zero_add]
      refine ⟨by rw [a1]; exact hval2, a2, fun x => ?_⟩
      obtain ⟨-, -, a3⟩ := owns_put encL_len h5.als hsl hat (i := 3 + rr) (by omega) (putF rr x) (.int .i64 x) (putF_enc hr x)
      refine ⟨?_, ?_, ints_far h5.nms (Ne.symm hval.2) _ _, below_set h5.below (by omega)⟩
      · have e : (F.set (1 + 3 * i + rr) x).getD 0 0 = F.getD 0 0 := by
          simp only [List.getD, List.getElem?_set, show ¬ 1 + 3 * i + rr = 0 by omega, if_false]
        rw [e]
        exact own_set_far h5.wld (fun g hg => by injection hg with hg; rw [← hg]; exact Ne.symm hval.1) _ _
      · rw [setA_alloc hr (by rw [hal]; exact hF) (List.getElem?_eq_getElem hil)]
        exact a3
end Go.Proofs.Ytmlbdmfmaebdeaa.Led
