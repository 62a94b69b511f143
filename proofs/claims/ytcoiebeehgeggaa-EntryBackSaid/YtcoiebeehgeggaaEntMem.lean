/- Entry: transactions in memory; an argument opened; what the program must do. -/
import Derived.Test.YtcoiebeehgeggaaEntMath
import Derived.Test.YtcoiebeehgeggaaIntMem
import Derived.Test.YtcoiebeehgeggaaNbMem
namespace Go.Proofs.Ytcoiebeehgeggaa.Ent
set_option maxRecDepth 100000
open Go.RowKit
open Go.Sort
open Kit
open Oct
open Tre (Lst inI lst_keep lst_take lst_at lst_new lst_none i64_wf cells_int IntsL int_cell encI encI_len encI_one OwI own_chg' info_i run_ld2)
open Led (Lg encG encG_len encG_one Legs leg_cells RLg opens_leg opens_legs legs_arg info_leg)
set_option linter.unusedVariables false
variable {w w' : World}

/-- A transaction where it lies. -/
structure Tv where
  t : Tx
  a1 : Option Addr
  n1 : Nat
  c1 : Nat
  a2 : Option Addr
  n2 : Nat
  c2 : Nat
def encV (x : Tv) : List Value := [.int .i64 x.t.seq, .int .i64 x.t.time, .int .i64 x.t.kind, .string x.t.key, .string x.t.name, .slice x.a1 x.n1 x.c1, .slice x.a2 x.n2 x.c2]
abbrev valV (x : Tv) : Value := .agg #[.int .i64 x.t.seq, .int .i64 x.t.time, .int .i64 x.t.kind, .string x.t.key, .string x.t.name, .slice x.a1 x.n1 x.c1, .slice x.a2 x.n2 x.c2]
structure Tv.In (x : Tv) (w : World) : Prop where
  args : IntsL w x.a1 x.n1 x.c1 x.t.args
  legs : Legs w x.a2 x.n2 x.c2 x.t.legs
  key : x.t.key.size ≤ maxLen
  name : x.t.name.size ≤ maxLen
theorem in_keep {x : Tv} (h : x.In w) (hb : Below w.heap.size w w') : x.In w' := ⟨lst_keep encI_len h.args hb, lst_keep encG_len h.legs hb, h.key, h.name⟩
def RTx (w : World) (cs : List Value) (x : Tv) : Prop := cs = encV x ∧ x.In w ∧ x.t.ok
theorem cells_tx : Try.prog.cellsOf 25 = 7 := by kernel_rfl
theorem cells_str : Try.prog.cellsOf 9 = 1 := by kernel_rfl
theorem cells_ints : Try.prog.cellsOf 22 = 1 := by kernel_rfl
theorem cells_legs : Try.prog.cellsOf 23 = 1 := by kernel_rfl
def RIn (cs : List Value) (n : Int) : Prop := cs = encI n ∧ inI n
theorem opens_num : Opn.Opens Try.prog w 3 RIn := Opn.Opens.mono (Opn.opens_int Try.underlying3) fun cs n ⟨h, hw⟩ => ⟨n, h, i64_wf hw⟩
theorem opens_nums : Opn.Opens Try.prog w 22 (Opn.RSlice RIn 1 w) := Opn.opens_slice Try.underlying22 cells_int (by omega) opens_num
theorem nums_arg {a : Option Addr} {len cap : Nat} {l : List Int} (h : Opn.RSlice RIn 1 w [.slice a len cap] l) : IntsL w a len cap l ∧ ∀ x ∈ l, inI x := by
  obtain ⟨a', len', cap', he, hl, hc, hm, hn, hcs⟩ := h
  simp at he
  obtain ⟨rfl, rfl, rfl⟩ := he
  exact ⟨⟨hl, hc, hm, hn, Kit.row_of_cells (fun _ _ h => h.1) hcs⟩, Kit.all_of_cells (fun _ _ h => h.2) hcs⟩
theorem opens_tx : Opn.Opens Try.prog w 25 (RTx w) := by
  refine Opn.opens_struct Try.underlying25 fun cs hlen hf => ?_
  rw [cells_tx] at hlen
  match cs, hlen with
  | [d0, d1, d2, d3, d4, d5, d6], _ =>
    obtain ⟨k0, h0, w0⟩ := hf 0 _ rfl _ _ (Opn.opens_int Try.underlying3)
    obtain ⟨k1, h1, w1⟩ := hf 1 _ rfl _ _ (Opn.opens_int Try.underlying3)
    obtain ⟨k2, h2, w2⟩ := hf 2 _ rfl _ _ (Opn.opens_int Try.underlying3)
    obtain ⟨k3, h3, w3⟩ := hf 3 _ rfl _ _ (Opn.opens_str Try.underlying9)
    obtain ⟨k4, h4, w4⟩ := hf 4 _ rfl _ _ (Opn.opens_str Try.underlying9)
    obtain ⟨k5, h5⟩ := hf 5 _ rfl _ _ opens_nums
    obtain ⟨k6, h6⟩ := hf 6 _ rfl _ _ opens_legs
    simp [cells_int, cells_str, cells_ints, cells_legs] at h0 h1 h2 h3 h4 h5 h6
    obtain ⟨a5, n5, c5, e5, -⟩ := id h5
    obtain ⟨a6, n6, c6, e6, -⟩ := id h6
    injection e5 with e5
    injection e6 with e6
    subst h0 h1 h2 h3 h4 e5 e6
    obtain ⟨g5, o5⟩ := nums_arg h5
    obtain ⟨g6, o6⟩ := legs_arg h6
    exact ⟨⟨⟨k0, k1, k2, k3, k4, k5, k6⟩, a5, n5, c5, a6, n6, c6⟩, rfl, ⟨g5, g6, w3, w4⟩, i64_wf w0, i64_wf w1, i64_wf w2, o5, fun g hg => o6 g hg⟩
/-- WHAT THE PROGRAM'S ENTRY MUST DO. -/
structure Prog : Prop where
  encode : ∀ (W : World) (x : Tv), x.In W → x.t.ok →
    Calls Try.prog 7 #[valV x] W fun e W' => ∃ a n c, e = .returned (.tuple #[.slice a n c, .int .i64 (encE x.t)]) ∧ NB W' W.heap.size a n c (encL x.t) ∧ Below W.heap.size W W'
  decode : ∀ (W : World) (a : Option Addr) (n c : Nat) (l : List UInt8), l.length = n → n ≤ c → c ≤ maxLen → (a = none → n = 0 ∧ c = 0) → RowB W a l → n ≤ 140737488351232 →
    Calls Try.prog 10 #[.slice a n c] W fun e W' => ∃ x : Tv, e = .returned (.tuple #[valV x, .int .i64 (decE l)]) ∧ x.t = decV l ∧ x.In W' ∧ Below W.heap.size W W'
end Go.Proofs.Ytcoiebeehgeggaa.Ent
