/- Ledger: legs in memory; arguments opened; what the ledger answers. -/
import Derived.Test.YtmlbdmfmaebdeaaLedBack
import Derived.Test.YtmlbdmfmaebdeaaMonAdd
import Derived.Test.YtmlbdmfmaebdeaaNest
import Derived.Test.YtmlbdmfmaebdeaaArrs
namespace Go.Proofs.Ytmlbdmfmaebdeaa.Led
set_option maxRecDepth 100000
open Go.RowKit
open Go.Sort
open Kit
open Mon
open Tre
set_option linter.unusedVariables false
variable {w w' : World}

def encG (g : Lg) : List Value := [.int .i64 g.acct, .int .i64 g.amt]
theorem encG_len (g : Lg) : (encG g).length = 2 := rfl
theorem encG_one (x : Lg) : ∀ u ∈ encG x, u.oneCell' = true := by
  intro u hu
  simp [encG] at hu
  rcases hu with rfl | rfl <;> rfl
def Lg.ok (g : Lg) : Prop := inI g.acct ∧ inI g.amt
abbrev Legs := Lst encG 2
theorem leg_cells {b o n c k : Nat} {l : List Lg} (h : Legs w (some ⟨b, o, none⟩) n c l) (hk : k < l.length) :
    w.cell? ⟨b, o + k * 2, none⟩ = some (.int .i64 l[k].acct) ∧ w.cell? ⟨b, o + k * 2 + 1, none⟩ = some (.int .i64 l[k].amt) :=
  ⟨row_cell h.row hk rfl (i := 0) (by omega), row_cell h.row hk rfl (i := 1) (by omega)⟩
def RLg (cs : List Value) (x : Lg) : Prop := cs = encG x ∧ x.ok
theorem cells_leg : Try.prog.cellsOf 43 = 2 := by kernel_rfl
theorem opens_leg : Opn.Opens Try.prog w 43 RLg := by
  refine Opn.opens_struct Try.underlying43 fun cs hlen hf => ?_
  rw [cells_leg] at hlen
  match cs, hlen with
  | [c0, c1], _ =>
    obtain ⟨k0, h0, w0⟩ := hf 0 _ rfl _ _ (Opn.opens_int Try.underlying3)
    obtain ⟨k1, h1, w1⟩ := hf 1 _ rfl _ _ (Opn.opens_int Try.underlying3)
    simp [cells_int] at h0 h1
    subst h0 h1
    exact ⟨⟨k0, k1⟩, rfl, i64_wf w0, i64_wf w1⟩
theorem opens_legs : Opn.Opens Try.prog w 23 (Opn.RSlice RLg 2 w) := Opn.opens_slice Try.underlying23 cells_leg (by omega) opens_leg
theorem legs_arg {a : Option Addr} {len cap : Nat} {l : List Lg} (h : Opn.RSlice RLg 2 w [.slice a len cap] l) : Legs w a len cap l ∧ ∀ x ∈ l, x.ok := by
  obtain ⟨a', len', cap', he, hl, hc, hm, hn, hcs⟩ := h
  simp at he
  obtain ⟨rfl, rfl, rfl⟩ := he
  exact ⟨⟨hl, hc, hm, hn, Kit.row_of_cells (fun _ _ h => h.1) hcs⟩, Kit.all_of_cells (fun _ _ h => h.2) hcs⟩
theorem info_leg : (Try.prog.info? 43).map (fun i => (i.zero, i.size, i.bytes)) = some (some (.agg #[.int .i64 0, .int .i64 0]), 2, 16) := by kernel_rfl
theorem tyI : Nest.Ty encI 1 Try.prog 34 3 (.int .i64 0) 8 := ⟨encI_len, Nat.zero_lt_one, encI_one, Try.underlying34, info_i, rfl⟩
theorem tyA : Nest.Ty encL 6 Try.prog 22 45 (.agg #[.int .i64 0, .int .i64 0, .int .i64 0, .int .i64 0, .int .i64 0, .int .i64 0]) 48 := ⟨encL_len, by omega, encL_one, Try.underlying22, info_al, rfl⟩
theorem tyG : Nest.Ty encG 2 Try.prog 23 43 (.agg #[.int .i64 0, .int .i64 0]) 16 := ⟨encG_len, by omega, encG_one, Try.underlying23, info_leg, rfl⟩

/-- Allocations of the call's own; or none. -/
def OutA (w : World) (base : Nat) (v : Value) (l : List Al) : Prop := Owns encL 6 45 w base v l ∨ (l = [] ∧ ∃ a c, v = .slice a 0 c ∧ c ≤ maxLen ∧ (a = none → c = 0))
theorem outA_lst {base : Nat} {v : Value} {l : List Al} (h : OutA w base v l) : ∃ a c, v = .slice a l.length c ∧ Allocs w a l.length c l := by
  rcases h with h | ⟨rfl, a, c, rfl, h1, h2⟩
  · obtain ⟨a, c, hv, hc, hm, hn, hrow⟩ := owns_row encL_len h
    exact ⟨a, c, hv, rfl, hc, hm, (fun e => ⟨by have := hn e; omega, hn e⟩), hrow⟩
  · exact ⟨a, c, rfl, rfl, Nat.zero_le _, h1, (fun e => ⟨rfl, h2 e⟩), .inl rfl⟩
theorem outA_keep {base : Nat} {v : Value} {l : List Al} (h : OutA w base v l) (hb : Below w.heap.size w w') : OutA w' base v l := by
  rcases h with h | h
  · exact .inl (Nest.own_on h hb)
  · exact .inr h
theorem outA_le {base base' : Nat} {v : Value} {l : List Al} (h : OutA w base v l) (hb : base' ≤ base) : OutA w base' v l := by
  rcases h with ⟨h1, h2 | ⟨g, cap, cur, e1, e2, e3⟩⟩ | h
  · exact .inl ⟨h1, .inl h2⟩
  · exact .inl ⟨h1, .inr ⟨g, cap, cur, e1, Nat.le_trans hb e2, e3⟩⟩
  · exact .inr h

/-- WHAT THE PROGRAM'S Post MUST DO. -/
abbrev PostC : Prop := ∀ (W : World) (wd : Int) (a : Option Addr) (n c : Nat) (al : List Al) (a2 : Option Addr) (n2 c2 : Nat) (legs : List Lg), inI wd → Allocs W a n c al → (∀ x ∈ al, x.ok) → n ≤ 100 → Legs W a2 n2 c2 legs → (∀ x ∈ legs, x.ok) → n2 ≤ 100 →
    Calls Try.prog 8 #[.int .i64 wd, .slice a n c, .slice a2 n2 c2] W fun e W' => ∃ v, e = .returned (.tuple #[.int .i64 (postW wd al legs), v, .int .i64 (postE wd al legs)]) ∧ OutA W' W.heap.size v (postA wd al legs) ∧ Below W.heap.size W W'
end Go.Proofs.Ytmlbdmfmaebdeaa.Led
