/- Snap: states in memory; an argument opened; what the program must do. -/
import Derived.Test.YtpmpigglekgfnaaSnpMath
import Derived.Test.YtpmpigglekgfnaaNbMem
import Derived.Test.YtpmpigglekgfnaaIntMem
namespace Go.Proofs.Ytpmpigglekgfnaa.Snp
set_option maxRecDepth 100000
open Go.RowKit
open Go.Sort
open Kit
open Oct
open Tre (Lst inI lst_keep lst_take lst_at lst_new lst_none i64_wf cells_int cells_str Funds Allocs Al encF encF_len encL_len RFd opens_funds funds_arg RAl opens_allocs allocs_arg)
open Rte (Rt Rates encR encR_len opens_rates rates_arg)
open Job (Jb Jv Jobs encJ encJ_len RJb opens_jobs jobs_arg job_keep)
open Ent (NB nb_keep nb_own nb_new)
set_option linter.unusedVariables false
variable {w w' : World}

/-! ### Keys -/

def encK (s : ByteArray) : List Value := [.string s]
theorem encK_len (s : ByteArray) : (encK s).length = 1 := rfl
theorem encK_one (x : ByteArray) : ∀ u ∈ encK x, u.oneCell' = true := by
  intro u hu
  simp [encK] at hu
  subst hu; rfl
abbrev Keys := Lst encK 1
theorem key_cell {b o n c k : Nat} {l : List ByteArray} (h : Keys w (some ⟨b, o, none⟩) n c l) (hk : k < l.length) : w.cell? ⟨b, o + k, none⟩ = some (.string l[k]) := by
  have := row_cell h.row hk rfl (i := 0) (by omega)
  simpa [encK] using this
theorem info_key : (Try.prog.info? 9).map (fun i => (i.zero, i.size, i.bytes)) = some (some (.string ⟨#[]⟩), 1, 16) := by kernel_rfl
theorem opens_keys : Opn.Opens Try.prog w 26 (Opn.RSlice Opn.RStr 1 w) := Opn.opens_slice Try.underlying26 cells_str (by omega) (Opn.opens_str Try.underlying9)
theorem keys_arg {a : Option Addr} {len cap : Nat} {l : List ByteArray} (h : Opn.RSlice Opn.RStr 1 w [.slice a len cap] l) : Keys w a len cap l ∧ ∀ x ∈ l, x.size ≤ maxLen := by
  obtain ⟨a', len', cap', he, hl, hc, hm, hn, hcs⟩ := h
  simp at he
  obtain ⟨rfl, rfl, rfl⟩ := he
  exact ⟨⟨hl, hc, hm, hn, Kit.row_of_cells (fun _ _ h => h.1) hcs⟩, Kit.all_of_cells (fun _ _ h => h.2) hcs⟩

/-! ### A state -/

/-- A slice's place and its two numbers. -/
structure Pl where
  a : Option Addr
  n : Nat
  c : Nat
abbrev Pl.v (p : Pl) : Value := .slice p.a p.n p.c
def Pl.nil : Pl := ⟨none, 0, 0⟩
/-- A state where it lies. -/
structure Sv where
  seq : Int
  world : Int
  next : Int
  funds : List Tre.Fd
  allocs : List Al
  rates : List Rt
  jobs : List Jv
  keys : List ByteArray
  f : Pl
  l : Pl
  r : Pl
  j : Pl
  k : Pl
abbrev Sv.t (x : Sv) : Sn := ⟨x.seq, x.world, x.next, x.funds, x.allocs, x.rates, x.jobs.map (·.t), x.keys⟩
def encV (x : Sv) : List Value := [.int .i64 x.seq, .int .i64 x.world, .int .i64 x.next, x.f.v, x.l.v, x.r.v, x.j.v, x.k.v]
abbrev valV (x : Sv) : Value := .agg #[.int .i64 x.seq, .int .i64 x.world, .int .i64 x.next, .slice x.f.a x.f.n x.f.c, .slice x.l.a x.l.n x.l.c, .slice x.r.a x.r.n x.r.c, .slice x.j.a x.j.n x.j.c, .slice x.k.a x.k.n x.k.c]
structure Sv.In (x : Sv) (w : World) : Prop where
  funds : Funds w x.f.a x.f.n x.f.c x.funds
  allocs : Allocs w x.l.a x.l.n x.l.c x.allocs
  rates : Rates w x.r.a x.r.n x.r.c x.rates
  jobs : Jobs w x.j.a x.j.n x.j.c x.jobs
  keys : Keys w x.k.a x.k.n x.k.c x.keys
  draws : ∀ y ∈ x.jobs, y.In w
theorem in_keep {x : Sv} (h : x.In w) (hb : Below w.heap.size w w') : x.In w' :=
  ⟨lst_keep encF_len h.funds hb, lst_keep encL_len h.allocs hb, lst_keep encR_len h.rates hb, lst_keep encJ_len h.jobs hb, lst_keep encK_len h.keys hb, fun y hy => job_keep (h.draws y hy) hb⟩
def RSt (w : World) (cs : List Value) (x : Sv) : Prop := cs = encV x ∧ x.In w ∧ x.t.ok
theorem cells_state : Try.prog.cellsOf 28 = 8 := by kernel_rfl
theorem cells_funds : Try.prog.cellsOf 22 = 1 := by kernel_rfl
theorem cells_allocs : Try.prog.cellsOf 23 = 1 := by kernel_rfl
theorem cells_rates : Try.prog.cellsOf 24 = 1 := by kernel_rfl
theorem cells_jobs : Try.prog.cellsOf 25 = 1 := by kernel_rfl
theorem cells_keys : Try.prog.cellsOf 26 = 1 := by kernel_rfl
theorem opens_state : Opn.Opens Try.prog w 28 (RSt w) := by
  refine Opn.opens_struct Try.underlying28 fun cs hlen hf => ?_
  rw [cells_state] at hlen
  match cs, hlen with
  | [d0, d1, d2, d3, d4, d5, d6, d7], _ =>
    obtain ⟨k0, h0, w0⟩ := hf 0 _ rfl _ _ (Opn.opens_int Try.underlying3)
    obtain ⟨k1, h1, w1⟩ := hf 1 _ rfl _ _ (Opn.opens_int Try.underlying3)
    obtain ⟨k2, h2, w2⟩ := hf 2 _ rfl _ _ (Opn.opens_int Try.underlying3)
    obtain ⟨k3, h3⟩ := hf 3 _ rfl _ _ opens_funds
    obtain ⟨k4, h4⟩ := hf 4 _ rfl _ _ opens_allocs
    obtain ⟨k5, h5⟩ := hf 5 _ rfl _ _ opens_rates
    obtain ⟨k6, h6⟩ := hf 6 _ rfl _ _ opens_jobs
    obtain ⟨k7, h7⟩ := hf 7 _ rfl _ _ opens_keys
    simp [cells_int, cells_funds, cells_allocs, cells_rates, cells_jobs, cells_keys] at h0 h1 h2 h3 h4 h5 h6 h7
    obtain ⟨a3, n3, c3, e3, -⟩ := id h3
    obtain ⟨a4, n4, c4, e4, -⟩ := id h4
    obtain ⟨a5, n5, c5, e5, -⟩ := id h5
    obtain ⟨a6, n6, c6, e6, -⟩ := id h6
    obtain ⟨a7, n7, c7, e7, -⟩ := id h7
    injection e3 with e3
    injection e4 with e4
    injection e5 with e5
    injection e6 with e6
    injection e7 with e7
    subst h0 h1 h2 e3 e4 e5 e6 e7
    obtain ⟨g3, o3⟩ := funds_arg h3
    obtain ⟨g4, o4⟩ := allocs_arg h4
    obtain ⟨g5, o5⟩ := rates_arg h5
    obtain ⟨g6, i6, o6⟩ := jobs_arg h6
    obtain ⟨g7, o7⟩ := keys_arg h7
    refine ⟨⟨k0, k1, k2, k3, k4, k5, k6, k7, ⟨a3, n3, c3⟩, ⟨a4, n4, c4⟩, ⟨a5, n5, c5⟩, ⟨a6, n6, c6⟩, ⟨a7, n7, c7⟩⟩, rfl, ⟨g3, g4, g5, g6, g7, i6⟩, i64_wf w0, i64_wf w1, i64_wf w2, o3, o4, o5, fun x hx => ?_, o7⟩
    obtain ⟨y, hy, rfl⟩ := List.mem_map.1 hx
    exact o6 y hy
/-- WHAT THE PROGRAM'S SNAP MUST DO. -/
structure Prog : Prop where
  encode : ∀ (W : World) (x : Sv), x.In W → x.t.ok →
    Calls Try.prog 7 #[valV x] W fun e W' => ∃ a n c, e = .returned (.tuple #[.slice a n c, .int .i64 (encE x.t)]) ∧ NB W' W.heap.size a n c (encL x.t) ∧ Below W.heap.size W W'
  decode : ∀ (W : World) (a : Option Addr) (n c : Nat) (l : List UInt8), l.length = n → n ≤ c → c ≤ maxLen → (a = none → n = 0 ∧ c = 0) → RowB W a l → n ≤ 140737488351232 →
    Calls Try.prog 10 #[.slice a n c] W fun e W' => ∃ x : Sv, e = .returned (.tuple #[valV x, .int .i64 (decE l)]) ∧ x.t = decV l ∧ x.In W' ∧ Below W.heap.size W W'
end Go.Proofs.Ytpmpigglekgfnaa.Snp
