/- Tree: funds, allocations and lists of numbers in memory; arguments opened; two lists of numbers held against each other; not too many. -/
import Derived.Test.YtpciijihedlheaaTreSum
import Derived.Test.YtpciijihedlheaaOpens
import Derived.Test.YtpciijihedlheaaKit
import Derived.Test.YtpciijihedlheaaTwo
import Derived.Test.YtpciijihedlheaaMonCalls
import Derived.BigFrame
import Derived.BigQuiet
import Derived.Deep.DeepCutAuto
import Derived.Deep.CutBlock
import Derived.WalkLawsBesides
import Derived.LoopTactic
namespace Go.Proofs.Ytpciijihedlheaa.Tre
set_option maxRecDepth 100000
open Go.RowKit
open Go.Sort
open Kit
open Mon
set_option linter.unusedVariables false

abbrev inI (n : Int) : Prop := -9223372036854775808 ≤ n ∧ n ≤ 9223372036854775807
def encF (x : Fd) : List Value := [.string x.name, .int .i64 x.par, .int .i64 x.lim]
def encL (a : Al) : List Value := [.int .i64 a.fund, .int .i64 a.from', .int .i64 a.till, .int .i64 a.avail, .int .i64 a.lien, .int .i64 a.spent]
def encI (n : Int) : List Value := [.int .i64 n]
theorem encF_len (x : Fd) : (encF x).length = 3 := rfl
theorem encL_len (x : Al) : (encL x).length = 6 := rfl
theorem encI_len (x : Int) : (encI x).length = 1 := rfl
theorem encI_one (x : Int) : ∀ u ∈ encI x, u.oneCell' = true := by
  intro u hu
  simp [encI] at hu
  subst hu; rfl
def Fd.ok (x : Fd) : Prop := x.name.size ≤ maxLen ∧ inI x.par ∧ inI x.lim
def Al.ok (a : Al) : Prop := inI a.fund ∧ inI a.from' ∧ inI a.till ∧ inI a.avail ∧ inI a.lien ∧ inI a.spent
/-- A slice that can be read. -/
structure Lst {α : Type} (enc : α → List Value) (size : Nat) (w : World) (a : Option Addr) (n c : Nat) (l : List α) : Prop where
  len : l.length = n
  cap : n ≤ c
  max : c ≤ maxLen
  nil : a = none → n = 0 ∧ c = 0
  row : Kit.Row enc size w a l
variable {w w' : World}
theorem below_drewN' (w : World) (n : Nat) : Below w.heap.size w (w.drewN n) := ⟨rfl, rfl, rfl, Nat.le_refl _, fun _ _ => rfl⟩
theorem lst_keep {α : Type} {enc : α → List Value} {size n c : Nat} {a : Option Addr} {l : List α} (hs : ∀ x, (enc x).length = size) (h : Lst enc size w a n c l) (hb : Below w.heap.size w w') : Lst enc size w' a n c l := ⟨h.len, h.cap, h.max, h.nil, row_keep hs h.row hb⟩
theorem lst_take {α : Type} {enc : α → List Value} {size n c : Nat} {a : Option Addr} {l : List α} (h : Lst enc size w a n c l) (m : Nat) (hm : m ≤ n) : Lst enc size w a m c (l.take m) :=
  ⟨by rw [List.length_take, h.len]; omega, Nat.le_trans hm h.cap, h.max, fun e => ⟨by have := h.nil e; omega, (h.nil e).2⟩, row_take h.row m⟩
theorem lst_at {α : Type} {enc : α → List Value} {size n c : Nat} {a : Option Addr} {l : List α} (h : Lst enc size w a n c l) (hn : 0 < n) : ∃ b o, a = some ⟨b, o, none⟩ := by
  rcases h.row with e | ⟨b, o, e, _⟩
  · have := h.len; rw [e] at this; simp at this; omega
  · exact ⟨b, o, e⟩
abbrev Funds := Lst encF 3
abbrev Allocs := Lst encL 6
abbrev IntsL := Lst encI 1
theorem fund_cells {b o n c k : Nat} {l : List Fd} (h : Funds w (some ⟨b, o, none⟩) n c l) (hk : k < l.length) :
    w.cell? ⟨b, o + k * 3, none⟩ = some (.string l[k].name) ∧ w.cell? ⟨b, o + k * 3 + 1, none⟩ = some (.int .i64 l[k].par) ∧ w.cell? ⟨b, o + k * 3 + 2, none⟩ = some (.int .i64 l[k].lim) :=
  ⟨row_cell h.row hk rfl (i := 0) (by omega), row_cell h.row hk rfl (i := 1) (by omega), row_cell h.row hk rfl (i := 2) (by omega)⟩
theorem alloc_cells {b o n c k : Nat} {l : List Al} (h : Allocs w (some ⟨b, o, none⟩) n c l) (hk : k < l.length) :
    w.cell? ⟨b, o + k * 6, none⟩ = some (.int .i64 l[k].fund) ∧ w.cell? ⟨b, o + k * 6 + 4, none⟩ = some (.int .i64 l[k].lien) ∧ w.cell? ⟨b, o + k * 6 + 5, none⟩ = some (.int .i64 l[k].spent) :=
  ⟨row_cell h.row hk rfl (i := 0) (by omega), row_cell h.row hk rfl (i := 4) (by omega), row_cell h.row hk rfl (i := 5) (by omega)⟩
theorem int_cell {b o n c k : Nat} {l : List Int} (h : IntsL w (some ⟨b, o, none⟩) n c l) (hk : k < l.length) : w.cell? ⟨b, o + k, none⟩ = some (.int .i64 l[k]) := by
  have := row_cell h.row hk rfl (i := 0) (by omega)
  simpa [encI] using this
theorem ints_elems {a : Option Addr} {n c : Nat} {l : List Int} (h : IntsL w a n c l) : Elems w a l := by
  rcases h.row with e | ⟨b, o, e, h2⟩
  · exact .inl e
  · subst e
    refine .inr ⟨b, o, rfl, fun j hj => ?_⟩
    rw [int_cell h hj]
    simp [List.getD, hj]

/-! ### Arguments -/

theorem i64_wf {n : Int} (h : (Lit.int .i64 n).wf = true) : inI n := by
  simp [Lit.wf, IntKind.min, IntKind.max, IntKind.signed, IntKind.bits] at h
  exact h
def RFd (cs : List Value) (x : Fd) : Prop := cs = encF x ∧ x.ok
def RAl (cs : List Value) (x : Al) : Prop := cs = encL x ∧ x.ok
theorem cells_fund : Try.prog.cellsOf 40 = 3 := by kernel_rfl
theorem cells_alloc : Try.prog.cellsOf 43 = 6 := by kernel_rfl
theorem cells_int : Try.prog.cellsOf 3 = 1 := by kernel_rfl
theorem cells_str : Try.prog.cellsOf 9 = 1 := by kernel_rfl
theorem opens_fund : Opn.Opens Try.prog w 40 RFd := by
  refine Opn.opens_struct Try.underlying40 fun cs hlen hf => ?_
  rw [cells_fund] at hlen
  match cs, hlen with
  | [c0, c1, c2], _ =>
    obtain ⟨d, h0, w0⟩ := hf 0 _ rfl _ _ (Opn.opens_str Try.underlying9)
    obtain ⟨k, h1, w1⟩ := hf 1 _ rfl _ _ (Opn.opens_int Try.underlying3)
    obtain ⟨t, h2, w2⟩ := hf 2 _ rfl _ _ (Opn.opens_int Try.underlying3)
    simp [cells_int, cells_str] at h0 h1 h2
    subst h0 h1 h2
    exact ⟨⟨d, k, t⟩, rfl, w0, i64_wf w1, i64_wf w2⟩
theorem opens_alloc : Opn.Opens Try.prog w 43 RAl := by
  refine Opn.opens_struct Try.underlying43 fun cs hlen hf => ?_
  rw [cells_alloc] at hlen
  match cs, hlen with
  | [c0, c1, c2, c3, c4, c5], _ =>
    obtain ⟨k0, h0, w0⟩ := hf 0 _ rfl _ _ (Opn.opens_int Try.underlying3)
    obtain ⟨k1, h1, w1⟩ := hf 1 _ rfl _ _ (Opn.opens_int Try.underlying3)
    obtain ⟨k2, h2, w2⟩ := hf 2 _ rfl _ _ (Opn.opens_int Try.underlying3)
    obtain ⟨k3, h3, w3⟩ := hf 3 _ rfl _ _ (Opn.opens_int Try.underlying3)
    obtain ⟨k4, h4, w4⟩ := hf 4 _ rfl _ _ (Opn.opens_int Try.underlying3)
    obtain ⟨k5, h5, w5⟩ := hf 5 _ rfl _ _ (Opn.opens_int Try.underlying3)
    simp [cells_int] at h0 h1 h2 h3 h4 h5
    subst h0 h1 h2 h3 h4 h5
    exact ⟨⟨k0, k1, k2, k3, k4, k5⟩, rfl, i64_wf w0, i64_wf w1, i64_wf w2, i64_wf w3, i64_wf w4, i64_wf w5⟩
theorem opens_funds : Opn.Opens Try.prog w 22 (Opn.RSlice RFd 3 w) := Opn.opens_slice Try.underlying22 cells_fund (by omega) opens_fund
theorem opens_allocs : Opn.Opens Try.prog w 23 (Opn.RSlice RAl 6 w) := Opn.opens_slice Try.underlying23 cells_alloc (by omega) opens_alloc
theorem funds_arg {a : Option Addr} {len cap : Nat} {l : List Fd} (h : Opn.RSlice RFd 3 w [.slice a len cap] l) : Funds w a len cap l ∧ ∀ x ∈ l, x.ok := by
  obtain ⟨a', len', cap', he, hl, hc, hm, hn, hcs⟩ := h
  simp at he
  obtain ⟨rfl, rfl, rfl⟩ := he
  exact ⟨⟨hl, hc, hm, hn, Kit.row_of_cells (fun _ _ h => h.1) hcs⟩, Kit.all_of_cells (fun _ _ h => h.2) hcs⟩
theorem allocs_arg {a : Option Addr} {len cap : Nat} {l : List Al} (h : Opn.RSlice RAl 6 w [.slice a len cap] l) : Allocs w a len cap l ∧ ∀ x ∈ l, x.ok := by
  obtain ⟨a', len', cap', he, hl, hc, hm, hn, hcs⟩ := h
  simp at he
  obtain ⟨rfl, rfl, rfl⟩ := he
  exact ⟨⟨hl, hc, hm, hn, Kit.row_of_cells (fun _ _ h => h.1) hcs⟩, Kit.all_of_cells (fun _ _ h => h.2) hcs⟩

/-! ### Lists of numbers -/

set_option maxHeartbeats 4000000 in
theorem ints_any (a1 a2 : Option Addr) (n1 c1 n2 c2 : Nat) (l1 l2 : List Int) (w : World) (h1 : IntsL w a1 n1 c1 l1) (h2 : IntsL w a2 n2 c2 l2) :
    Calls Try.prog 11 #[.slice a1 n1 c1, .slice a2 n2 c2] w fun e w' => e = .returned (.bool (decide (l1 = l2))) ∧ Below w.heap.size w w' := by
  have hm1 : n1 ≤ 9223372036854775807 := by have := h1.cap; have := h1.max; unfold maxLen at this; omega
  have hm2 : n2 ≤ 9223372036854775807 := by have := h2.cap; have := h2.max; unfold maxLen at this; omega
  have HL := Lib.hid (And.intro h1 h2)
  by_cases hn : n1 = n2
  · have HN := Lib.hid (And.intro h1.len (h2.len.trans hn.symm))
    subst hn
    clear h1 h2 hm2
    go_enter Try.func11, Try.ntmps11
    go_wp2_with fail
    go_loopw [5] (fun i wr => ∃ k : Nat, k ≤ n1 ∧ i = .int .i64 (k : Nat) ∧ l1.take k = l2.take k ∧ Below w.heap.size w wr) (fun i _ => n1 - (intOf i).toNat)
    case atStart => exact ⟨0, Nat.zero_le _, rfl, rfl, Below.refl _ _⟩
    case round =>
      obtain ⟨k, hk, rfl, htk, hb⟩ := hrel
      have HB := Lib.hid (And.intro htk hb)
      clear htk hb
      by_cases hlt : k < n1
      · have hk1 : k < l1.length := by rw [HN.out.1]; exact hlt
        have hk2 : k < l2.length := by rw [HN.out.2]; exact hlt
        obtain ⟨b1, o1, rfl⟩ := lst_at HL.out.1 (by omega)
        obtain ⟨b2, o2, rfl⟩ := lst_at HL.out.2 (by omega)
        have q1 := int_cell (lst_keep encI_len HL.out.1 HB.out.2) hk1
        have q2 := int_cell (lst_keep encI_len HL.out.2 HB.out.2) hk2
        have HTk := Lib.hid (And.intro (List.take_succ_eq_append_getElem hk1) (List.take_succ_eq_append_getElem hk2))
        by_cases he : l1[k] = l2[k]
        · have HE := Lib.hid he
          rw [← he] at q2
          generalize l1[k] = y at *
          clear he
          go_wp2_with fail
          go_quiet (fail)
          go_wp2_with fail
          go_roundw
          case rel => exact ⟨k + 1, by omega, by go_num, by rw [HTk.out.1, HTk.out.2, HB.out.1, ← HE.out], below_keep HB.out.2 (below_drewN' _ _)⟩
          case measure => simp [intOf]; omega
        · have HE := Lib.hid he
          have hne : (l1[k] == l2[k]) = false := beq_false_of_ne he
          clear he
          go_wp2_with fail
          go_quiet (fail)
          go_wp2_with fail
          go_ret
          exact ⟨by rw [decide_eq_false (fun e => HE.out (by subst e; rfl))]; rfl, below_keep HB.out.2 (below_drewN' _ _)⟩
      · obtain rfl : k = n1 := by omega
        go_wp2_with fail
        go_ret
        refine ⟨?_, HB.out.2⟩
        have h := HB.out.1
        rw [List.take_of_length_le (by rw [HN.out.1]; exact Nat.le_refl _), List.take_of_length_le (by rw [HN.out.2]; exact Nat.le_refl _)] at h
        rw [decide_eq_true h]; rfl
  · have hd : Hid (decide (l1 = l2) = false) := Lib.hid (decide_eq_false fun e => hn (by rw [← h1.len, ← h2.len, e]))
    have hni : ((n1 : Int) == (n2 : Int)) = false := beq_false_of_ne (by omega)
    clear h1 h2
    go_enter Try.func11, Try.ntmps11
    go_wp2_with fail
    go_ret
    exact ⟨by rw [hd.out]; rfl, Below.refl _ _⟩

/-! ### Not too many -/

theorem run_20f (a : Option Addr) (n c : Nat) (h1 : 20 ≤ n) (h2 : n ≤ c) (w : World) : (Instr.sliceAt 22 (.slice a n c) none (some (.int .i64 20)) none).run Try.prog w = .ok (.slice a 20 c) w := by
  simp [go_sem]
  intro h; omega
theorem run_20a (a : Option Addr) (n c : Nat) (h1 : 20 ≤ n) (h2 : n ≤ c) (w : World) : (Instr.sliceAt 23 (.slice a n c) none (some (.int .i64 20)) none).run Try.prog w = .ok (.slice a 20 c) w := by
  simp [go_sem]
  intro h; omega
theorem few_any (a1 a2 : Option Addr) (n1 c1 n2 c2 m1 m2 : Nat) (h1 : n1 ≤ c1) (h2 : n2 ≤ c2) (hx1 : c1 ≤ maxLen) (hx2 : c2 ≤ maxLen) (hm1 : m1 = min n1 20) (hm2 : m2 = min n2 20) (w : World) :
    Calls Try.prog 7 #[.slice a1 n1 c1, .slice a2 n2 c2] w fun e w' => e = .returned (.tuple #[.slice a1 m1 c1, .slice a2 m2 c2]) ∧ w = w' := by
  have hb1 : n1 ≤ 9223372036854775807 := by unfold maxLen at hx1; omega
  have hb2 : n2 ≤ 9223372036854775807 := by unfold maxLen at hx2; omega
  have HM := Lib.hid (And.intro hm1 hm2)
  clear hx1 hx2 hm1 hm2
  by_cases g1 : 20 < n1
  · have g1i : (20 : Int) < n1 := by omega
    have r1 := run_20f a1 n1 c1 (by omega) h1 w
    have e1 : Hid (m1 = 20) := Lib.hid (by have := HM.out.1; omega)
    clear g1
    by_cases g2 : 20 < n2
    · have g2i : (20 : Int) < n2 := by omega
      have r2 := run_20a a2 n2 c2 (by omega) h2 w
      have e2 : Hid (m2 = 20) := Lib.hid (by have := HM.out.2; omega)
      clear g2
      go_enter Try.func7, Try.ntmps7
      go_wp2_with fail
      go_ret2
      exact ⟨by rw [e1.out, e2.out]; rfl, rfl⟩
    · have g2i : ¬ (20 : Int) < n2 := by omega
      have e2 : Hid (m2 = n2) := Lib.hid (by have := HM.out.2; omega)
      clear g2
      go_enter Try.func7, Try.ntmps7
      go_wp2_with fail
      go_ret2
      exact ⟨by rw [e1.out, e2.out]; rfl, rfl⟩
  · have g1i : ¬ (20 : Int) < n1 := by omega
    have e1 : Hid (m1 = n1) := Lib.hid (by have := HM.out.1; omega)
    clear g1
    by_cases g2 : 20 < n2
    · have g2i : (20 : Int) < n2 := by omega
      have r2 := run_20a a2 n2 c2 (by omega) h2 w
      have e2 : Hid (m2 = 20) := Lib.hid (by have := HM.out.2; omega)
      clear g2
      go_enter Try.func7, Try.ntmps7
      go_wp2_with fail
      go_ret2
      exact ⟨by rw [e1.out, e2.out]; rfl, rfl⟩
    · have g2i : ¬ (20 : Int) < n2 := by omega
      have e2 : Hid (m2 = n2) := Lib.hid (by have := HM.out.2; omega)
      clear g2
      go_enter Try.func7, Try.ntmps7
      go_wp2_with fail
      go_ret2
      exact ⟨by rw [e1.out, e2.out]; rfl, rfl⟩
end Go.Proofs.Ytpciijihedlheaa.Tre
