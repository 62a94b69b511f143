/- Allocations and lists of numbers in memory: read, cut, made, written; an argument's list opened. -/
import Derived.Test.YtmlbdmfmaebdeaaLst
import Derived.Test.YtmlbdmfmaebdeaaMonCalls
namespace Go.Proofs.Ytmlbdmfmaebdeaa.Tre
set_option maxRecDepth 100000
open Go.RowKit
open Go.Sort
open Kit
open Mon
set_option linter.unusedVariables false

structure Al where
  fund : Int
  from' : Int
  till : Int
  avail : Int
  lien : Int
  spent : Int
def encL (a : Al) : List Value := [.int .i64 a.fund, .int .i64 a.from', .int .i64 a.till, .int .i64 a.avail, .int .i64 a.lien, .int .i64 a.spent]
def encI (n : Int) : List Value := [.int .i64 n]
theorem encL_len (x : Al) : (encL x).length = 6 := rfl
theorem encI_len (x : Int) : (encI x).length = 1 := rfl
theorem encI_one (x : Int) : ∀ u ∈ encI x, u.oneCell' = true := by
  intro u hu
  simp [encI] at hu
  subst hu; rfl
def Al.ok (a : Al) : Prop := inI a.fund ∧ inI a.from' ∧ inI a.till ∧ inI a.avail ∧ inI a.lien ∧ inI a.spent
variable {w w' : World}
abbrev Allocs := Lst encL 6
abbrev IntsL := Lst encI 1
theorem alloc_cells {b o n c k : Nat} {l : List Al} (h : Allocs w (some ⟨b, o, none⟩) n c l) (hk : k < l.length) :
    w.cell? ⟨b, o + k * 6, none⟩ = some (.int .i64 l[k].fund) ∧ w.cell? ⟨b, o + k * 6 + 4, none⟩ = some (.int .i64 l[k].lien) ∧ w.cell? ⟨b, o + k * 6 + 5, none⟩ = some (.int .i64 l[k].spent) :=
  ⟨row_cell h.row hk rfl (i := 0) (by omega), row_cell h.row hk rfl (i := 4) (by omega), row_cell h.row hk rfl (i := 5) (by omega)⟩
theorem int_cell {b o n c k : Nat} {l : List Int} (h : IntsL w (some ⟨b, o, none⟩) n c l) (hk : k < l.length) : w.cell? ⟨b, o + k, none⟩ = some (.int .i64 l[k]) := by
  have := row_cell h.row hk rfl (i := 0) (by omega)
  simpa [encI] using this
theorem ints_elems {a : Option Addr} {n c : Nat} {l : List Int} (h : IntsL w a n c l) : Elems w a l := by
  rcases h.row with e | ⟨b, o, e, h2⟩
  · exact .inl e
  · subst e
    refine .inr ⟨b, o, rfl, fun j hj => ?_⟩
    rw [int_cell h hj]
    simp [List.getD, hj]
theorem alloc_cells6 {b o n c k : Nat} {l : List Al} (h : Allocs w (some ⟨b, o, none⟩) n c l) (hk : k < l.length) :
    w.cell? ⟨b, o + k * 6, none⟩ = some (.int .i64 l[k].fund) ∧ w.cell? ⟨b, o + k * 6 + 1, none⟩ = some (.int .i64 l[k].from') ∧ w.cell? ⟨b, o + k * 6 + 2, none⟩ = some (.int .i64 l[k].till) ∧ w.cell? ⟨b, o + k * 6 + 3, none⟩ = some (.int .i64 l[k].avail) ∧ w.cell? ⟨b, o + k * 6 + 4, none⟩ = some (.int .i64 l[k].lien) ∧ w.cell? ⟨b, o + k * 6 + 5, none⟩ = some (.int .i64 l[k].spent) :=
  ⟨row_cell h.row hk rfl (i := 0) (by omega), row_cell h.row hk rfl (i := 1) (by omega), row_cell h.row hk rfl (i := 2) (by omega), row_cell h.row hk rfl (i := 3) (by omega), row_cell h.row hk rfl (i := 4) (by omega), row_cell h.row hk rfl (i := 5) (by omega)⟩
theorem fund_cell' {b o n c k : Nat} {l : List Al} {x : Al} (h : Allocs w (some ⟨b, o, none⟩) n c l) (hk : l[k]? = some x) : w.cell? ⟨b, o + k * 6, none⟩ = some (.int .i64 x.fund) := by
  obtain ⟨h1, h2⟩ := List.getElem?_eq_some_iff.1 hk
  rw [(alloc_cells6 h h1).1, h2]

/-! ### Arguments -/

def RAl (cs : List Value) (x : Al) : Prop := cs = encL x ∧ x.ok
theorem cells_alloc : Try.prog.cellsOf 45 = 6 := by kernel_rfl
theorem opens_alloc : Opn.Opens Try.prog w 45 RAl := by
  refine Opn.opens_struct Try.underlying45 fun cs hlen hf => ?_
  rw [cells_alloc] at hlen
  match cs, hlen with
  | [c0, c1, c2, c3, c4, c5], _ =>
    obtain ⟨k0, h0, w0⟩ := hf 0 _ rfl _ _ (Opn.opens_int Try.underlying3)
    obtain ⟨k1, h1, w1⟩ := hf 1 _ rfl _ _ (Opn.opens_int Try.underlying3)
    obtain ⟨k2, h2, w2⟩ := hf 2 _ rfl _ _ (Opn.opens_int Try.underlying3)
    obtain ⟨k3, h3, w3⟩ := hf 3 _ rfl _ _ (Opn.opens_int Try.underlying3)
    obtain ⟨k4, h4, w4⟩ := hf 4 _ rfl _ _ (Opn.opens_int Try.underlying3)
    obtain ⟨k5, h5, w5⟩ := hf 5 _ rfl _ _ (Opn.opens_int Try.underlying3)
    simp [cells_int] at h0 h1 h2 h3 h4 h5
    subst h0 h1 h2 h3 h4 h5
    exact ⟨⟨k0, k1, k2, k3, k4, k5⟩, rfl, i64_wf w0, i64_wf w1, i64_wf w2, i64_wf w3, i64_wf w4, i64_wf w5⟩
theorem opens_allocs : Opn.Opens Try.prog w 22 (Opn.RSlice RAl 6 w) := Opn.opens_slice Try.underlying22 cells_alloc (by omega) opens_alloc
theorem allocs_arg {a : Option Addr} {len cap : Nat} {l : List Al} (h : Opn.RSlice RAl 6 w [.slice a len cap] l) : Allocs w a len cap l ∧ ∀ x ∈ l, x.ok := by
  obtain ⟨a', len', cap', he, hl, hc, hm, hn, hcs⟩ := h
  simp at he
  obtain ⟨rfl, rfl, rfl⟩ := he
  exact ⟨⟨hl, hc, hm, hn, Kit.row_of_cells (fun _ _ h => h.1) hcs⟩, Kit.all_of_cells (fun _ _ h => h.2) hcs⟩

/-! ### Lists of the call's own -/

/-- Numbers in new memory. -/
def NewI (w : World) (base : Nat) (v : Value) (l : List Int) : Prop := ∃ a c, v = .slice a l.length c ∧ IntsL w a l.length c l ∧ ∀ q, a = some q → base ≤ q.block ∧ q.block < w.heap.size
theorem newI_keep {base : Nat} {v : Value} {l : List Int} (h : NewI w base v l) (hb : Below w.heap.size w w') : NewI w' base v l := by
  obtain ⟨a, c, e, h1, h2⟩ := h
  exact ⟨a, c, e, lst_keep encI_len h1 hb, fun q hq => ⟨(h2 q hq).1, Nat.lt_of_lt_of_le (h2 q hq).2 hb.size⟩⟩
theorem newI_le {base base' : Nat} {v : Value} {l : List Int} (h : NewI w base v l) (hb : base' ≤ base) : NewI w base' v l := by
  obtain ⟨a, c, e, h1, h2⟩ := h
  exact ⟨a, c, e, h1, fun q hq => ⟨Nat.le_trans hb (h2 q hq).1, (h2 q hq).2⟩⟩
theorem newI_nil (w : World) (base : Nat) : NewI w base (.slice none 0 0) [] := ⟨none, 0, rfl, ⟨rfl, Nat.le_refl _, Nat.zero_le _, (fun _ => ⟨rfl, rfl⟩), .inl rfl⟩, fun q hq => by cases hq⟩
theorem newI_own {base : Nat} {v : Value} {l : List Int} (h : Owns encI 1 3 w base v l) : NewI w base v l := by
  obtain ⟨a, c, rfl, h1, h2, h3, h4⟩ := owns_row encI_len h
  refine ⟨a, c, rfl, ⟨rfl, h1, h2, fun e => ⟨by have := h3 e; omega, h3 e⟩, h4⟩, fun q hq => ?_⟩
  subst hq
  exact World.ownsRow.lt h q.block rfl
theorem owns_lit (w : World) (f : Int) (base : Nat) (hb : base ≤ w.heap.size) : Owns encI 1 3 (w.alloc (.cells #[.int .i64 f] 3)) base (.slice (some ⟨w.heap.size, 0, none⟩) 1 1) [f] :=
  ⟨rfl, .inr ⟨w.heap.size, 1, _, rfl, hb, heap_alloc_new w _, Nat.le_refl _, by unfold maxLen; omega, rfl, rfl⟩⟩
theorem info_i : (Try.prog.info? 3).map (fun i => (i.zero, i.size, i.bytes)) = some (some (.int .i64 0), 1, 8) := by kernel_rfl

theorem own_chg' {base : Nat} {v : Value} {l : List Int} (h : Owns encI 1 3 w base v l) (hb : Below w.heap.size w w') : Owns encI 1 3 w' base v l := by
  rcases h with ⟨h1, h2 | ⟨g, cap, cur, e1, e2, e3, e4, e5, e6, e7⟩⟩
  · exact ⟨h1, .inl h2⟩
  · exact ⟨h1, .inr ⟨g, cap, cur, e1, e2, by rw [hb.block g (Array.getElem?_eq_some_iff.1 e3).1]; exact e3, e4, e5, e6, e7⟩⟩
theorem lit_row (w : World) (k : Int) : Kit.Row encI 1 (w.alloc (.cells #[.int .i64 k] 3)) (some ⟨w.heap.size, 0, none⟩) [k] := by
  obtain ⟨a', c', e', _, _, _, hrow⟩ := owns_row encI_len (owns_lit w k w.heap.size (Nat.le_refl _))
  cases e'
  exact hrow

theorem lit2_row (w : World) (x y : Int) : Kit.Row encI 1 (w.alloc (.cells #[.int .i64 x, .int .i64 y] 3)) (some ⟨w.heap.size, 0, none⟩) [x, y] := row_new encI_len w [x, y] _ _ _ rfl rfl
abbrev OwI (w : World) (base : Nat) (v : Value) (l : List Int) : Prop := Owns encI 1 3 w base v l
theorem encL_one (x : Al) : ∀ u ∈ encL x, u.oneCell' = true := by
  intro u hu
  simp [encL] at hu
  rcases hu with rfl | rfl | rfl | rfl | rfl | rfl <;> rfl
theorem info_al : (Try.prog.info? 45).map (fun i => (i.zero, i.size, i.bytes)) = some (some (.agg #[.int .i64 0, .int .i64 0, .int .i64 0, .int .i64 0, .int .i64 0, .int .i64 0]), 6, 48) := by kernel_rfl
theorem flat_set : ∀ (l : List Al) (k : Nat) (a : Al) (s : Int), l[k]? = some a → (flat encL l).set (k * 6 + 5) (.int .i64 s) = flat encL (l.set k { a with spent := s })
  | [], k, a, s, h => by simp at h
  | x :: l, 0, a, s, h => by
    simp at h
    subst h
    rfl
  | x :: l, k + 1, a, s, h => by
    rw [List.getElem?_cons_succ] at h
    have ih := flat_set l k a s h
    have e : flat encL (x :: l) = encL x ++ flat encL l := rfl
    have e2 : flat encL ((x :: l).set (k + 1) { a with spent := s }) = encL x ++ flat encL (l.set k { a with spent := s }) := rfl
    rw [e, e2, ← ih, List.set_append, if_neg (by rw [encL_len]; omega), encL_len]
    congr 2
    omega
theorem owns_spend {base : Nat} {v : Value} {l : List Al} (h : Owns encL 6 45 w base v l) {k : Nat} {a : Al} (ha : l[k]? = some a) (s : Int) :
    ∃ g cap, v = .slice (some ⟨g, 0, none⟩) l.length cap ∧ base ≤ g ∧ l.length ≤ cap ∧ w.cell? ⟨g, k * 6 + 5, none⟩ = some (.int .i64 a.spent) ∧ w.frozen? ⟨g, k * 6 + 5, none⟩ = false ∧ Owns encL 6 45 (w.setCell ⟨g, k * 6 + 5, none⟩ (.int .i64 s)) base v (l.set k { a with spent := s }) := by
  have hk := (List.getElem?_eq_some_iff.1 ha).1
  have he := (List.getElem?_eq_some_iff.1 ha).2
  have hf := flat_length encL_len l
  unfold Owns at h ⊢
  have hh := h
  rcases h.2 with ⟨_, h0⟩ | ⟨g, cap, cur, rfl, hg, _, hn, _⟩
  · omega
  · refine ⟨g, cap, rfl, hg, hn, ?_, ?_, ?_⟩
    · rw [hh.cellAt _ (by omega), flat_at encL_len l k hk 5 (by omega), he]; rfl
    · exact hh.frozenAt _
    · have := (hh.stored (k * 6 + 5) (.int .i64 s)).1
      rw [flat_set l k a s ha] at this
      rw [List.length_set]
      exact this
theorem own_slice {base : Nat} {v : Value} {l : List Al} {m : Nat} (h : Owns encL 6 45 w base v l) (hm : l.length = m) (h1 : 1 ≤ m) : ∃ g c, v = .slice (some ⟨g, 0, none⟩) m c ∧ Allocs w (some ⟨g, 0, none⟩) m c l := by
  subst hm
  obtain ⟨a, c, hv, hc, hcm, hn, hrow⟩ := owns_row encL_len h
  rcases h.2 with ⟨_, h0⟩ | ⟨g, cap, cur, hv2, _⟩
  · omega
  · rw [hv] at hv2
    injection hv2 with e1 e2 e3
    subst e1
    exact ⟨g, c, hv, rfl, hc, hcm, (fun e => by cases e), hrow⟩
theorem own_empty_al (w : World) (base : Nat) (hb : base ≤ w.heap.size) : Owns encL 6 45 (w.alloc (.cells #[] 45)) base (.slice (some ⟨w.heap.size, 0, none⟩) 0 0) [] :=
  ⟨rfl, .inr ⟨w.heap.size, 0, _, rfl, hb, heap_alloc_new w _, Nat.le_refl _, by unfold maxLen; omega, rfl, rfl⟩⟩

/-! ### Single operations -/

theorem run_ia2 {b o n c k : Nat} (h : k < n) (w : World) : (Instr.indexAt 22 (.slice (some ⟨b, o, none⟩) n c) (.int .i64 k)).run Try.prog w = .ok (.pointer (some ⟨b, o + k * 6, none⟩)) w := by
  simp [go_sem, h]
theorem run_bs_i (x : Int) (w : World) : (Instr.buildSlice 34 1 #[(0, .int .i64 x)]).run Try.prog w = .ok (.slice (some ⟨w.heap.size, 0, none⟩) 1 1) (w.alloc (.cells #[.int .i64 x] 3)) := by
  simp [go_sem]
end Go.Proofs.Ytmlbdmfmaebdeaa.Tre
