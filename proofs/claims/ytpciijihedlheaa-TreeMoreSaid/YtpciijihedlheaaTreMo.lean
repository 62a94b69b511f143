/- Tree: a copy of allocations of which one has more spent; what is used then. -/
import Derived.Test.YtpciijihedlheaaTreUpR
namespace Go.Proofs.Ytpciijihedlheaa.Tre
set_option maxRecDepth 100000
open Go.RowKit
open Go.Sort
open Kit
open Mon
set_option linter.unusedVariables false
variable {w w' : World}

theorem encL_one (x : Al) : ∀ u ∈ encL x, u.oneCell' = true := by
  intro u hu
  simp [encL] at hu
  rcases hu with rfl | rfl | rfl | rfl | rfl | rfl <;> rfl
theorem info_al : (Try.prog.info? 43).map (fun i => (i.zero, i.size, i.bytes)) = some (some (.agg #[.int .i64 0, .int .i64 0, .int .i64 0, .int .i64 0, .int .i64 0, .int .i64 0]), 6, 48) := by kernel_rfl
theorem flat_set : ∀ (l : List Al) (k : Nat) (a : Al) (s : Int), l[k]? = some a → (flat encL l).set (k * 6 + 5) (.int .i64 s) = flat encL (l.set k { a with spent := s })
  | [], k, a, s, h => by simp at h
  | x :: l, 0, a, s, h => by
    simp at h
    subst h
    rfl
  | x :: l, k + 1, a, s, h => by
    rw [List.getElem?_cons_succ] at h
    have ih := flat_set l k a s h
    have e : flat encL (x :: l) = encL x ++ flat encL l := rfl
    have e2 : flat encL ((x :: l).set (k + 1) { a with spent := s }) = encL x ++ flat encL (l.set k { a with spent := s }) := rfl
    rw [e, e2, ← ih, List.set_append, if_neg (by rw [encL_len]; omega), encL_len]
    congr 2
    omega
theorem owns_spend {base : Nat} {v : Value} {l : List Al} (h : Owns encL 6 43 w base v l) {k : Nat} {a : Al} (ha : l[k]? = some a) (s : Int) :
    ∃ g cap, v = .slice (some ⟨g, 0, none⟩) l.length cap ∧ base ≤ g ∧ l.length ≤ cap ∧ w.cell? ⟨g, k * 6 + 5, none⟩ = some (.int .i64 a.spent) ∧ w.frozen? ⟨g, k * 6 + 5, none⟩ = false ∧ Owns encL 6 43 (w.setCell ⟨g, k * 6 + 5, none⟩ (.int .i64 s)) base v (l.set k { a with spent := s }) := by
  have hk := (List.getElem?_eq_some_iff.1 ha).1
  have he := (List.getElem?_eq_some_iff.1 ha).2
  have hf := flat_length encL_len l
  unfold Owns at h ⊢
  have hh := h
  rcases h.2 with ⟨_, h0⟩ | ⟨g, cap, cur, rfl, hg, _, hn, _⟩
  · omega
  · refine ⟨g, cap, rfl, hg, hn, ?_, ?_, ?_⟩
    · rw [hh.cellAt _ (by omega), flat_at encL_len l k hk 5 (by omega), he]; rfl
    · exact hh.frozenAt _
    · have := (hh.stored (k * 6 + 5) (.int .i64 s)).1
      rw [flat_set l k a s ha] at this
      rw [List.length_set]
      exact this
/-- What is small: no amount below 0, or above 2^40. -/
def Sm (a : Al) : Prop := 0 ≤ a.lien ∧ a.lien ≤ 1099511627776 ∧ 0 ≤ a.spent ∧ a.spent ≤ 1099511627776
theorem sm_small {Y : List Al} (h : ∀ a ∈ Y, Sm a) : ∀ a ∈ Y, smallA a := fun a ha => by
  obtain ⟨h1, h2, h3, h4⟩ := h a ha
  exact ⟨⟨h1, h2⟩, h3, by omega⟩
theorem more_small {Y : List Al} (h : ∀ a ∈ Y, Sm a) {K : Nat} {a : Al} (ha : Y[K]? = some a) {mo : Int} (h0 : 0 ≤ mo) (h1 : mo ≤ 4294967295) : ∀ x ∈ Y.set K (moreA a mo), smallA x := by
  intro x hx
  rcases List.mem_or_eq_of_mem_set hx with hx | rfl
  · exact sm_small h x hx
  · obtain ⟨e1, e2, e3, e4⟩ := h a (List.mem_of_getElem? ha)
    exact ⟨⟨e1, e2⟩, by unfold moreA; simp only; omega, by unfold moreA; simp only; omega⟩
theorem more_ok {Y : List Al} (hok : ∀ a ∈ Y, a.ok) (h : ∀ a ∈ Y, Sm a) {K : Nat} {a : Al} (ha : Y[K]? = some a) {mo : Int} (h0 : 0 ≤ mo) (h1 : mo ≤ 4294967295) : ∀ x ∈ Y.set K (moreA a mo), x.ok := by
  intro x hx
  rcases List.mem_or_eq_of_mem_set hx with hx | rfl
  · exact hok x hx
  · obtain ⟨e1, e2, e3, e4⟩ := h a (List.mem_of_getElem? ha)
    obtain ⟨g1, g2, g3, g4, g5, g6⟩ := hok a (List.mem_of_getElem? ha)
    exact ⟨g1, g2, g3, g4, g5, by unfold moreA inI; simp only; omega⟩
/-- What is used of fund i, of Y, and of Y with more spent. -/
theorem uses_more {X : List Fd} {Y : List Al} (h : ∀ a ∈ Y, Sm a) (hl : Y.length ≤ 20) {K : Nat} {a : Al} (ha : Y[K]? = some a) {mo : Int} (h0 : 0 ≤ mo) (h1 : mo ≤ 4294967295) {i : Nat} (hi : i < X.length) :
    ∃ s : Int, 0 ≤ s ∧ s ≤ 44066364456960 ∧ useE X Y i = 0 ∧ useN X Y i = s ∧ useE X (Y.set K (moreA a mo)) i = 0 ∧ useN X (Y.set K (moreA a mo)) i = s + if (path X a.fund).contains i then mo else 0 := by
  obtain ⟨e1, e2⟩ := use_small (l := X) (sm_small h) hl hi
  obtain ⟨e3, e4⟩ := use_small (l := X) (more_small h ha h0 h1) (by rw [List.length_set]; exact hl) hi
  obtain ⟨e5, e6⟩ := parts_small X i Y (sm_small h)
  refine ⟨_, e5, by omega, e1, e2, e3, ?_⟩
  rw [e4, use_more ha mo i]
/-- A fund's parent is used as much, at least. -/
theorem uses_parent {X : List Fd} {Y : List Al} (h : ∀ a ∈ Y, Sm a) (hl : Y.length ≤ 20) {i : Nat} {x : Fd} (hx : X[i]? = some x) (h0 : 0 ≤ x.par) (h1 : x.par < (i : Int)) :
    ∃ t : Int, useE X Y x.par = 0 ∧ useN X Y x.par = t ∧ useN X Y i ≤ t := by
  have hi := (List.getElem?_eq_some_iff.1 hx).1
  obtain ⟨p, hp⟩ : ∃ p : Nat, x.par = p := ⟨x.par.toNat, by omega⟩
  obtain ⟨e1, e2⟩ := use_small (l := X) (sm_small h) hl hi
  have e3 := use_small (l := X) (sm_small h) hl (show p < X.length by omega)
  rw [← hp] at e3
  refine ⟨_, e3.1, e3.2, ?_⟩
  rw [e2]
  exact use_parent (sm_small h) hx h0 h1
theorem own_slice {base : Nat} {v : Value} {l : List Al} {m : Nat} (h : Owns encL 6 43 w base v l) (hm : l.length = m) (h1 : 1 ≤ m) : ∃ g c, v = .slice (some ⟨g, 0, none⟩) m c ∧ Allocs w (some ⟨g, 0, none⟩) m c l := by
  subst hm
  obtain ⟨a, c, hv, hc, hcm, hn, hrow⟩ := owns_row encL_len h
  rcases h.2 with ⟨_, h0⟩ | ⟨g, cap, cur, hv2, _⟩
  · omega
  · rw [hv] at hv2
    injection hv2 with e1 e2 e3
    subst e1
    exact ⟨g, c, hv, rfl, hc, hcm, (fun e => by cases e), hrow⟩
theorem own_empty_al (w : World) (base : Nat) (hb : base ≤ w.heap.size) : Owns encL 6 43 (w.alloc (.cells #[] 43)) base (.slice (some ⟨w.heap.size, 0, none⟩) 0 0) [] :=
  ⟨rfl, .inr ⟨w.heap.size, 0, _, rfl, hb, heap_alloc_new w _, Nat.le_refl _, by unfold maxLen; omega, rfl, rfl⟩⟩
theorem fund_cell' {b o n c k : Nat} {l : List Al} {x : Al} (h : Allocs w (some ⟨b, o, none⟩) n c l) (hk : l[k]? = some x) : w.cell? ⟨b, o + k * 6, none⟩ = some (.int .i64 x.fund) := by
  obtain ⟨h1, h2⟩ := List.getElem?_eq_some_iff.1 hk
  rw [(alloc_cells6 h h1).1, h2]
theorem contains_step {P : List Int} {q : Nat} {y j : Int} (h : P.take (q + 1) = P.take q ++ [y]) : (P.take (q + 1)).contains j = ((P.take q).contains j || y == j) := by
  rw [h, List.contains_eq_any_beq, List.contains_eq_any_beq, List.any_append, List.any_cons, List.any_nil, Bool.or_false, show (j == y) = (y == j) from Bool.beq_comm]
theorem u8_in {n : Int} (h : (Lit.int .u8 n).wf = true) : 0 ≤ n ∧ n ≤ 255 := by
  simp [Lit.wf, IntKind.min, IntKind.max, IntKind.signed, IntKind.bits] at h
  omega
theorem u32_in {n : Int} (h : (Lit.int .u32 n).wf = true) : 0 ≤ n ∧ n ≤ 4294967295 := by
  simp [Lit.wf, IntKind.min, IntKind.max, IntKind.signed, IntKind.bits] at h
  omega
end Go.Proofs.Ytpciijihedlheaa.Tre
