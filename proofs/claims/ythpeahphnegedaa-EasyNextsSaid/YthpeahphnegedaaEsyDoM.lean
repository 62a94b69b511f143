/- Easy, the landed: a Shadow is what Fit says for one tick; the places that count (mathematics). -/
import Derived.Test.YthpeahphnegedaaEsyNxM
import Derived.Test.YthpeahphnegedaaEsyMem
import Derived.Test.YthpeahphnegedaaPrfUp
namespace Go.Proofs.Ythpeahphnegedaa.Esy
open Prf (Bz St busyN newF Nd Tk Pf IsP IsF fitsAt longOf val isP_one isP_ticks new_isP isT_there busyN_same greatest busyN_le)
open Go.Proofs.Ythpeahphnegedaa.Ord (Aq)
set_option linter.unusedVariables false

/-! ### Shadow -/

variable {now total nodes : Int} {l : List Bz}
/-- So many are free then, and it is one of the ticks. -/
def CanAt (now total : Int) (l : List Bz) (nodes t : Int) : Prop := now ≤ t ∧ nodes ≤ newF total l t
theorem shS_spec : ∀ (ts : List Int) (b : Option Int), (∀ x, b = some x → CanAt now total l nodes x) → ∀ (r : Option Int), ts.foldl (shS now total l nodes) b = r →
    (∀ x, r = some x → CanAt now total l nodes x) ∧ (r = none → b = none) ∧ (∀ x y, r = some x → b = some y → x ≤ y) ∧ (∀ y ∈ ts, CanAt now total l nodes y → ∃ x, r = some x ∧ x ≤ y)
  | [], b, hb, r, e => by
    have e2 : b = r := e
    subst e2
    exact ⟨hb, id, fun x y h1 h2 => by rw [h1] at h2; injection h2 with h2; omega, fun y hy => by cases hy⟩
  | t :: ts, b, hb, r, e => by
    rw [List.foldl_cons] at e
    by_cases hc : now ≤ t ∧ nodes ≤ newF total l t ∧ ∀ x, b = some x → t < x
    · have e1 : shS now total l nodes b t = some t := by unfold shS; rw [if_pos hc]
      rw [e1] at e
      obtain ⟨h1, h2, h3, h4⟩ := shS_spec ts (some t) (fun x hx => by injection hx with hx; subst hx; exact ⟨hc.1, hc.2.1⟩) r e
      have hr : ∃ x, r = some x ∧ x ≤ t := by
        cases r with
        | none => cases h2 rfl
        | some x => exact ⟨x, rfl, h3 x t rfl rfl⟩
      obtain ⟨x0, hx0, hxt⟩ := hr
      refine ⟨h1, fun h => (by rw [hx0] at h; cases h), fun x y hx hy => ?_, fun y hy hcan => ?_⟩
      · have := hc.2.2 y hy
        rw [hx0] at hx; injection hx with hx
        omega
      · rcases List.mem_cons.1 hy with rfl | hy
        · exact ⟨x0, hx0, hxt⟩
        · exact h4 y hy hcan
    · have e1 : shS now total l nodes b t = b := by unfold shS; rw [if_neg hc]
      rw [e1] at e
      obtain ⟨h1, h2, h3, h4⟩ := shS_spec ts b hb r e
      refine ⟨h1, h2, h3, fun y hy hcan => ?_⟩
      rcases List.mem_cons.1 hy with rfl | hy
      · cases b with
        | none => exact absurd ⟨hcan.1, hcan.2, fun x hx => by cases hx⟩ hc
        | some z =>
          have hz : z ≤ y := by
            by_cases hzy : z ≤ y
            · exact hzy
            · exact absurd ⟨hcan.1, hcan.2, fun x hx => by injection hx with hx; omega⟩ hc
          cases r with
          | none => cases h2 rfl
          | some x => exact ⟨x, rfl, by have := h3 x z rfl rfl; omega⟩
      · exact h4 y hy hcan
theorem shadow_one (m : Int) (b : Bool) (h : (b = true ∧ CanAt now total l nodes m ∧ ∀ t, now ≤ t → t < m → ¬ nodes ≤ newF total l t) ∨ (b = false ∧ m = 0 ∧ ∀ t, now ≤ t → ¬ nodes ≤ newF total l t)) :
    shT now total l nodes = m ∧ shB now total l nodes = b ∧ shX now total l nodes = if b = true then newF total l m - nodes else 0 := by
  obtain ⟨r, hr⟩ : ∃ r, shadow now total l nodes = r := ⟨_, rfl⟩
  obtain ⟨h1, -, -, h4⟩ := shS_spec (ticksL now l) none (fun x hx => by cases hx) r hr
  unfold shT shB shX
  rw [hr]
  rcases h with ⟨rfl, hm, hmin⟩ | ⟨rfl, rfl, hno⟩
  · have hmem : ∃ v ∈ ticksL now l, now ≤ v ∧ v ≤ m ∧ newF total l v = newF total l m := by
      obtain ⟨v, g1, g2, g3⟩ := greatest (t := m) (ts := ticksL now l) (u := now) (List.mem_cons_self ..) hm.1
      refine ⟨v, g1, g3 now (List.mem_cons_self ..) hm.1, g2, ?_⟩
      unfold newF
      rw [busyN_same g2 fun x hx ⟨k1, k2⟩ => by
        have := g3 x (List.mem_cons_of_mem _ hx) k2
        omega]
    obtain ⟨v, g1, g2, g3, g4⟩ := hmem
    obtain ⟨x, rfl, hxv⟩ := h4 v g1 ⟨g2, by rw [g4]; exact hm.2⟩
    obtain ⟨k1, k2⟩ := h1 x rfl
    have hxm : x = m := by
      by_cases hlt : x < m
      · exact absurd k2 (hmin x k1 hlt)
      · omega
    subst hxm
    exact ⟨rfl, rfl, rfl⟩
  · cases r with
    | none => exact ⟨rfl, rfl, rfl⟩
    | some x =>
      obtain ⟨k1, k2⟩ := h1 x rfl
      exact absurd k2 (hno x k1)
theorem fit_shadow {p : List St} {m : Int} {b : Bool} (hp : IsP p (newF total l) now) (hf : IsF p nodes 1 m b) : shT now total l nodes = m ∧ shB now total l nodes = b ∧ (shX now total l nodes = if b = true then newF total l m - nodes else 0) ∧ (b = true → val p m = newF total l m) := by
  have hlo : longOf 1 = 1 := rfl
  have hat : ∀ t, now ≤ t → (fitsAt p nodes 1 t ↔ nodes ≤ newF total l t) := fun t ht => by
    unfold fitsAt
    constructor
    · intro h
      have := h t (Int.le_refl _) (by omega)
      rwa [hp.fn t ht] at this
    · intro h s h1 h2
      obtain rfl : s = t := by omega
      rw [hp.fn s ht]; exact h
  obtain ⟨f, l', e⟩ := hp.head
  have hfn := hp.fn
  suffices hs : ((b = true ∧ CanAt now total l nodes m ∧ ∀ t, now ≤ t → t < m → ¬ nodes ≤ newF total l t) ∨ (b = false ∧ m = 0 ∧ ∀ t, now ≤ t → ¬ nodes ≤ newF total l t)) by
    obtain ⟨h1, h2, h3⟩ := shadow_one m b hs
    refine ⟨h1, h2, h3, fun hb => ?_⟩
    rcases hs with ⟨_, hc, _⟩ | ⟨hb2, _⟩
    · exact hfn m hc.1
    · rw [hb] at hb2; cases hb2
  rcases hf with ⟨rfl, a, l2, e2, h1, h2, h3⟩ | ⟨rfl, rfl, h1⟩
  · rw [e] at e2
    injection e2 with e3 e4
    subst e3
    simp only at h1 h3
    rw [hlo] at h2 h3
    exact .inl ⟨rfl, ⟨h1, (hat m h1).1 h2⟩, fun t ht htm => fun hc => h3 t ht htm ((hat t ht).2 hc)⟩
  · refine .inr ⟨rfl, rfl, fun t ht hc => ?_⟩
    have := h1 _ _ e t ht
    rw [hlo] at this
    exact this ((hat t ht).2 hc)
theorem pf_new {u : Int} {p : List St} (hu : Tk u) (ht : Nd total) (hl : ∀ b ∈ l, b.may) (hn : l.length ≤ 500) (h : IsP p (newF total l) u) : Pf p := by
  obtain ⟨ts, hts⟩ := isT_there u (l.map (·.till))
  obtain ⟨h1, h2⟩ := new_isP (total := total) hts
  have e := isP_one h1 h
  have hb : ∀ t, 0 ≤ busyN l t ∧ busyN l t ≤ 524288000 := fun t => by
    obtain ⟨k1, k2⟩ := busyN_le (K := 1048576) (by omega) (t := t) fun b hb => (hl b hb).2
    have : (l.length : Int) * 1048576 ≤ 500 * 1048576 := Int.mul_le_mul_of_nonneg_right (by omega) (by omega)
    omega
  refine ⟨h.norm, by rw [← e]; omega, fun s hs => ?_, fun s hs => ?_⟩
  · obtain ⟨k1, k2, k3⟩ := isP_ticks h s hs
    rcases k3 with k3 | k3
    · rw [k3]; exact hu
    · by_cases hex : ∃ b ∈ l, b.till = s.tick
      · obtain ⟨b, hb, e2⟩ := hex
        rw [← e2]; exact (hl b hb).1
      · exfalso
        apply k3
        have e1 : busyN l (s.tick - 1) = busyN l s.tick := busyN_same (by omega) fun x hx ⟨g1, g2⟩ => by
          obtain ⟨b, hb, rfl⟩ := List.mem_map.1 hx
          exact hex ⟨b, hb, by omega⟩
        unfold newF
        rw [e1]
  · obtain ⟨k1, k2, k3⟩ := isP_ticks h s hs
    rw [k2]
    unfold newF
    have := hb s.tick
    obtain ⟨t0, t1⟩ := ht
    omega
theorem newF_bound {t : Int} (ht : Nd total) (hm : ∀ b ∈ l, b.may) (hn : l.length ≤ 500) : -524288000 ≤ newF total l t ∧ newF total l t ≤ 1048576 := by
  obtain ⟨k1, k2⟩ := busyN_le (K := 1048576) (by omega) (t := t) (l := l) fun b hb => (hm b hb).2
  have : (l.length : Int) * 1048576 ≤ 500 * 1048576 := Int.mul_le_mul_of_nonneg_right (by omega) (by omega)
  obtain ⟨h0, h1⟩ := ht
  unfold newF
  omega
theorem shT_bound (hnow : T9 now) (hl : ∀ b ∈ l, okB b) : 0 ≤ shT now total l nodes ∧ shT now total l nodes ≤ 1125899906842624 := by
  have key : ∀ (ts : List Int) (b : Option Int), (∀ x ∈ ts, Tk x) → (∀ x, b = some x → Tk x) → ∀ x, ts.foldl (shS now total l nodes) b = some x → Tk x := by
    intro ts
    induction ts with
    | nil => intro b _ hb; exact hb
    | cons t ts ih =>
      intro b h hb
      refine ih _ (fun x hx => h x (List.mem_cons_of_mem _ hx)) fun x hx => ?_
      unfold shS at hx
      split at hx
      · injection hx with hx; rw [← hx]; exact h t (List.mem_cons_self ..)
      · exact hb x hx
  obtain ⟨r, hr⟩ : ∃ r, shadow now total l nodes = r := ⟨_, rfl⟩
  unfold shT
  rw [hr]
  cases r with
  | none => exact ⟨Int.le_refl _, by show (0 : Int) ≤ _; omega⟩
  | some x =>
    obtain ⟨n0, n1⟩ := hnow
    exact key _ none (fun y hy => by
      rcases List.mem_cons.1 hy with rfl | hy
      · exact ⟨n0, by omega⟩
      · obtain ⟨b, hb, rfl⟩ := List.mem_map.1 hy
        exact (hl b hb).1) (fun x h => by cases h) x hr

/-! ### The places that count -/

variable {q : List Aq} {rf : List Bool} {h : Option Int} {k : Nat} {x : Aq}
def cN (total : Int) (q : List Aq) (rf : List Bool) (k : Nat) : Bool := match q[k]? with | none => false | some x => countsB total rf k x
def plc (total : Int) (q : List Aq) (rf : List Bool) (n : Nat) : List Nat := (List.range n).filter (cN total q rf)
theorem plc_yes (h : cN total q rf k = true) : plc total q rf (k + 1) = plc total q rf k ++ [k] := by
  unfold plc
  rw [List.range_succ, List.filter_append, List.filter_cons_of_pos h, List.filter_nil]
theorem plc_no (h : cN total q rf k = false) : plc total q rf (k + 1) = plc total q rf k := by
  unfold plc
  rw [List.range_succ, List.filter_append, List.filter_cons_of_neg (by rw [h]; simp), List.filter_nil, List.append_nil]
theorem plc_len (n : Nat) : (plc total q rf n).length ≤ n := by
  unfold plc
  exact Nat.le_trans (List.length_filter_le _ _) (by rw [List.length_range]; exact Nat.le_refl _)
theorem plc_mem {n i : Nat} : i ∈ plc total q rf n ↔ i < n ∧ cN total q rf i = true := by
  unfold plc
  rw [List.mem_filter, List.mem_range]
theorem plc_split : ∀ (n : Nat) {i p : Nat}, (plc total q rf n)[i]? = some p → (plc total q rf n).take i = plc total q rf p
  | 0, i, p, h => by simp [plc] at h
  | n + 1, i, p, h => by
    cases hc : cN total q rf n with
    | false =>
      rw [plc_no hc] at h ⊢
      exact plc_split n h
    | true =>
      rw [plc_yes hc] at h ⊢
      rcases Nat.lt_trichotomy i (plc total q rf n).length with hlt | heq | hgt
      · rw [List.getElem?_append_left hlt] at h
        rw [List.take_append_of_le_length (by omega)]
        exact plc_split n h
      · subst heq
        rw [List.getElem?_append_right (Nat.le_refl _), Nat.sub_self] at h
        injection h with h
        subst h
        rw [List.take_append_of_le_length (Nat.le_refl _), List.take_length]
      · rw [List.getElem?_eq_none (by rw [List.length_append]; simp; omega)] at h
        cases h
theorem nx_to {j : Nat} : ∀ (d k : Nat), j = k + d → (∀ i, k ≤ i → i < j → cN total q rf i = false) → NX now total l q rf h k = NX now total l q rf h j
  | 0, k, e, _ => by rw [e, Nat.add_zero]
  | d + 1, k, e, hno => by
    have ih := nx_to d (k + 1) (by omega) fun i h1 h2 => hno i (by omega) h2
    rw [← ih]
    have hk := hno k (Nat.le_refl _) (by omega)
    cases hx : q[k]? with
    | none =>
      have hl2 : q.length ≤ k := by
        by_cases hlt : k < q.length
        · rw [List.getElem?_eq_getElem hlt] at hx; cases hx
        · omega
      rw [nx_end hl2, nx_end (by omega)]
    | some x =>
      refine nx_skip hx ?_
      unfold cN at hk
      rw [hx] at hk
      exact hk
/-- From one place on to the next one that counts. -/
theorem nx_first {n p : Nat} (hp : (plc total q rf n)[0]? = some p) : NX now total l q rf h 0 = NX now total l q rf h p := by
  have e := plc_split n hp
  refine nx_to p 0 (by omega) fun i _ hi => ?_
  cases hc : cN total q rf i with
  | false => rfl
  | true =>
    have : i ∈ plc total q rf p := plc_mem.2 ⟨hi, hc⟩
    rw [← e] at this
    simp at this
theorem nx_then {n i p r : Nat} (hp : (plc total q rf n)[i]? = some p) (hr : (plc total q rf n)[i + 1]? = some r) : NX now total l q rf h (p + 1) = NX now total l q rf h r := by
  have e1 := plc_split n hp
  have e2 := plc_split n hr
  obtain ⟨hi, he⟩ := List.getElem?_eq_some_iff.1 hp
  rw [List.take_succ_eq_append_getElem hi, he, e1] at e2
  have hpm : p < r := by
    have : p ∈ plc total q rf r := by rw [← e2]; simp
    exact (plc_mem.1 this).1
  refine nx_to (r - (p + 1)) (p + 1) (by omega) fun j h1 h2 => ?_
  cases hc : cN total q rf j with
  | false => rfl
  | true =>
    have : j ∈ plc total q rf r := plc_mem.2 ⟨h2, hc⟩
    rw [← e2, List.mem_append] at this
    rcases this with h | h
    · have := (plc_mem.1 h).1; omega
    · rw [List.mem_singleton] at h; omega
theorem nx_last {n i p : Nat} (hn : q.length ≤ n) (hp : (plc total q rf n)[i]? = some p) (hl : (plc total q rf n).length = i + 1) : NX now total l q rf h (p + 1) = none := by
  have e1 := plc_split n hp
  obtain ⟨hi, he⟩ := List.getElem?_eq_some_iff.1 hp
  have e2 : plc total q rf n = plc total q rf p ++ [p] := by
    rw [← e1, ← he, ← List.take_succ_eq_append_getElem hi, List.take_of_length_le (by omega)]
  have hpn : p < n := by
    have : p ∈ plc total q rf n := by rw [e2]; simp
    exact (plc_mem.1 this).1
  rw [nx_to (j := n) (n - (p + 1)) (p + 1) (by omega) fun j h1 h2 => ?_, nx_end hn]
  cases hc : cN total q rf j with
  | false => rfl
  | true =>
    have : j ∈ plc total q rf n := plc_mem.2 ⟨h2, hc⟩
    rw [e2, List.mem_append] at this
    rcases this with h | h
    · have := (plc_mem.1 h).1; omega
    · rw [List.mem_singleton] at h; omega
theorem nx_none {n : Nat} (hn : q.length ≤ n) (h0 : plc total q rf n = []) : NX now total l q rf h 0 = none := by
  rw [nx_to (j := n) n 0 (by omega) fun j _ h2 => ?_, nx_end hn]
  cases hc : cN total q rf j with
  | false => rfl
  | true =>
    have : j ∈ plc total q rf n := plc_mem.2 ⟨h2, hc⟩
    rw [h0] at this
    cases this
theorem plc_at {n i p : Nat} (hp : (plc total q rf n)[i]? = some p) : p < n ∧ ∃ x, q[p]? = some x ∧ countsB total rf p x = true := by
  obtain ⟨h1, h2⟩ := plc_mem.1 (List.mem_of_getElem? hp)
  refine ⟨h1, ?_⟩
  unfold cN at h2
  cases hx : q[p]? with
  | none => rw [hx] at h2; cases h2
  | some x => rw [hx] at h2; exact ⟨x, rfl, h2⟩
end Go.Proofs.Ythpeahphnegedaa.Esy
