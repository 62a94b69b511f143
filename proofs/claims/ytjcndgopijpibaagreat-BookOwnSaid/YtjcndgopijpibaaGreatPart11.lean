/- Common to the claims of this seat, part 11: texts that were written one by one, laid behind one another. -/
import Derived.Deep.MidRow
import Derived.BigFrame
import Derived.BigQuiet
import Derived.Deep.DeepCutAuto
import Derived.Deep.CutBlock
import Derived.WalkLawsBesides
import Derived.LoopTactic
import Derived.Test.YtjcndgopijpibaaGreatChecked
import Derived.WalkKit
import Derived.WalkSpells
import Derived.Lib.Hide
import Derived.Below
import Derived.Deep.QuietTactic
import Derived.Test.YtjcndgopijpibaaGreatPart1
import Derived.Test.YtjcndgopijpibaaGreatPart2
import Derived.Test.YtjcndgopijpibaaGreatPart3
import Derived.Test.YtjcndgopijpibaaGreatPart5
import Derived.Test.YtjcndgopijpibaaGreatPart6
import Derived.Test.YtjcndgopijpibaaGreatPart7
import Derived.Test.YtjcndgopijpibaaGreatPart8
import Derived.Test.YtjcndgopijpibaaGreatPart9
import Derived.Test.YtjcndgopijpibaaGreatPart10
/- Book: lists of the call's own, types and lists' appends; a state whose lists are all the call's own. -/
namespace Go.Proofs.YtjcndgopijpibaaGreat.Bok
set_option maxRecDepth 100000
open Go.RowKit
open Go.Sort
open Kit
open Foot
open Tre (Al Lst inI lst_keep lst_at lst_new lst_none encF encF_len encL_len)
open Rte (encR encR_len)
open Led (Lg encG encG_len)
open Job (Jb Jv Jobs encJ encJ_len encJ_one)
open Drw (Dw Draws encD encD_len encD_one)
open Snp (Sn Sv encK encK_len encK_one)
set_option linter.unusedVariables false
variable {w w' : World}
theorem many_each (k : Int) : (k = 1 ∨ k = 2 ∨ k = 3 ∨ k = 4 ∨ k = 5 ∨ k = 6 ∨ k = 7 ∨ k = 8 ∨ k = 9 ∨ k = 10 ∨ k = 11 ∨ k = 12 ∨ k = 13 ∨ k = 14 ∨ k = 15) ∨ ((k ≠ 1 ∧ k ≠ 2 ∧ k ≠ 3 ∧ k ≠ 4 ∧ k ≠ 5) ∧ (k ≠ 6 ∧ k ≠ 7 ∧ k ≠ 8 ∧ k ≠ 9 ∧ k ≠ 10) ∧ (k ≠ 11 ∧ k ≠ 12 ∧ k ≠ 13 ∧ k ≠ 14 ∧ k ≠ 15)) := by omega
theorem owns_down {α : Type} {enc : α → List Value} {size : Nat} {T : TypeId} {base base' : Nat} {v : Value} {l : List α} (hb : base' ≤ base) (h : Owns enc size T w base v l) : Owns enc size T w base' v l := by
  obtain ⟨h1, h2 | ⟨g, cap, cur, e1, e2, e3⟩⟩ := h
  · exact ⟨h1, .inl h2⟩
  · exact ⟨h1, .inr ⟨g, cap, cur, e1, Nat.le_trans hb e2, e3⟩⟩
theorem tyJ : Nest.Ty encJ 12 Tryz.prog 26 58 (.agg #[.int .i64 0, .int .i64 0, .int .i64 0, .int .i64 0, .int .i64 0, .int .i64 0, .int .i64 0, .int .i64 0, .int .i64 0, .int .i64 0, .int .i64 0, .slice none 0 0]) 112 := ⟨encJ_len, by omega, encJ_one, Tryz.underlying26, by kernel_rfl, rfl⟩
theorem exp_snoc (now : Int) : ∀ (l : List Al) (i : Nat) (x : Al), expFrom now i (l ++ [x]) = expFrom now i l ++ (if 0 < x.avail ∧ x.till ≤ now then pair (1 + 3 * ((i + l.length : Nat) : Int)) 0 x.avail else [])
  | [], i, x => by simp [expFrom]
  | a :: l, i, x => by
    have ih := exp_snoc now l (i + 1) x
    rw [List.cons_append, expFrom, ih, expFrom, List.append_assoc, List.length_cons, show i + 1 + l.length = i + (l.length + 1) by omega]
theorem exp_next {now : Int} {l : List Al} {k : Nat} {x : Al} (h : l[k]? = some x) : expFrom now 0 (l.take (k + 1)) = expFrom now 0 (l.take k) ++ (if 0 < x.avail ∧ x.till ≤ now then pair (1 + 3 * (k : Int)) 0 x.avail else []) := by
  have hk := (List.getElem?_eq_some_iff.1 h).1
  have he := (List.getElem?_eq_some_iff.1 h).2
  rw [List.take_succ_eq_append_getElem hk, he, exp_snoc, List.length_take, Nat.zero_add, show min k l.length = k by omega]
theorem exp_len (now : Int) : ∀ (l : List Al) (i : Nat), (expFrom now i l).length ≤ 2 * l.length
  | [], i => by simp [expFrom]
  | a :: l, i => by
    have ih := exp_len now l (i + 1)
    rw [expFrom, List.length_append, List.length_cons]
    split
    · simp [pair]; omega
    · simp; omega
theorem tyF2 : Nest.Ty encF 3 Tryz.prog 23 81 (.agg #[.string ⟨#[]⟩, .int .i64 0, .int .i64 0]) 32 := ⟨encF_len, by decide, fun x u hu => by simp [encF] at hu; rcases hu with rfl | rfl | rfl <;> rfl, Tryz.underlying23, by kernel_rfl, rfl⟩
theorem tyA2 : Nest.Ty Tre.encL 6 Tryz.prog 24 65 (.agg #[.int .i64 0, .int .i64 0, .int .i64 0, .int .i64 0, .int .i64 0, .int .i64 0]) 48 := ⟨encL_len, by decide, Tre.encL_one, Tryz.underlying24, by kernel_rfl, rfl⟩
theorem tyR2 : Nest.Ty encR 3 Tryz.prog 25 83 (.agg #[.int .i64 0, .int .i64 0, .int .i64 0]) 24 := ⟨encR_len, by decide, Rte.encR_one, Tryz.underlying25, by kernel_rfl, rfl⟩
theorem tyD2 : Nest.Ty encD 2 Tryz.prog 56 63 (.agg #[.int .i64 0, .int .i64 0]) 16 := ⟨encD_len, by decide, encD_one, Tryz.underlying56, by kernel_rfl, rfl⟩
theorem tyK2 : Nest.Ty encK 1 Tryz.prog 27 9 (.string ⟨#[]⟩) 16 := ⟨encK_len, by decide, encK_one, Tryz.underlying27, by kernel_rfl, rfl⟩
structure OwV (w : World) (base : Nat) (y : Sv) : Prop where
  f : Owns encF 3 81 w base y.f.v y.funds
  l : Owns Tre.encL 6 65 w base y.l.v y.allocs
  r : Owns encR 3 83 w base y.r.v y.rates
  j : Owns encJ 12 58 w base y.j.v y.jobs
  k : Owns encK 1 9 w base y.k.v y.keys
  d : ∀ x ∈ y.jobs, Owns encD 2 63 w base (.slice x.a x.n x.c) x.t.draws
theorem one_chg {α : Type} {enc : α → List Value} {size : Nat} {T t : TypeId} {P : Program} {z : Value} {bytes : Nat} (H : Nest.Ty enc size P t T z bytes) {w : World} {ops : Array Oper} {rest : List Oper} {o : Oper} {A : Act} {Q : Exit → Act → World → Prop} (hgd : o.guard = none) (s x : Operand) (ho : o.op = .call { callee := .builtin .append, args := #[s, x], argTypes := #[t, t] })
    (w1 : World) (C : Array Value) (hw : w = w1.alloc (.cells C T)) (y : α) (hC : C.toList = enc y) (base : Nat) (v : Value) (l : List α) (hv : A.eval s = v) (hown : Owns enc size T w1 base v l) (hx : A.eval x = .slice (some ⟨w1.heap.size, 0, none⟩) 1 1)
    (hl : l.length + 1 ≤ 100000) (hb8 : bytes ≤ 1000) (hbase : base ≤ w1.heap.size) (h : ∀ v' w', Owns enc size T w' base v' (l ++ [y]) → Chg (fun k => some k = v.ownBlock) w1 w' → wpList P ops Q rest (A.put o.dst v') w') : wpList P ops Q (o :: rest) A w := by
  subst hw
  have hb := below_alloc w1 (.cells C T)
  refine Two.append_apart H.hs H.hz H.one hgd s x t T ho H.und z bytes H.info H.zero base v l hv (Nest.own_on hown hb) (some ⟨w1.heap.size, 0, none⟩) 1 1 [y] hx rfl (row_new H.hs w1 [y] C T _ rfl (by rw [hC]; simp [flat])) (fun h => by cases h) (by unfold maxLen; omega) ?_ (Nat.le_trans hbase hb.size) ?_
  · have : (l.length + 1) * bytes ≤ 100000 * 1000 := Nat.mul_le_mul hl hb8
    omega
  · intro v' w' h1 h2 _
    exact h v' w' h1 (chg_grown (new_chg hb _) h2 fun k hk => .inl hk.symm)
theorem OwV.keep {base : Nat} {y : Sv} (h : OwV w base y) (hb : Below w.heap.size w w') : OwV w' base y :=
  ⟨Nest.own_on h.f hb, Nest.own_on h.l hb, Nest.own_on h.r hb, Nest.own_on h.j hb, Nest.own_on h.k hb, fun x hx => Nest.own_on (h.d x hx) hb⟩
theorem own_pair (w : World) (base : Nat) (hb : base ≤ w.heap.size) (f t a : Int) : Owns encG 2 49 (w.alloc (.cells #[.int .i64 f, .int .i64 (-a), .int .i64 t, .int .i64 a] 49)) base (.slice (some ⟨w.heap.size, 0, none⟩) 2 2) (pair f t a) :=
  ⟨rfl, .inr ⟨w.heap.size, 2, _, rfl, hb, heap_alloc_new w _, Nat.le_refl _, by unfold maxLen; omega, rfl, rfl⟩⟩
theorem run_to_j {b o K M cp : Nat} (h1 : K ≤ M) (h2 : M ≤ cp) (w : World) : (Instr.sliceAt 26 (.slice (some ⟨b, o, none⟩) M cp) none (some (.int .i64 (K : Nat))) none).run Tryz.prog w = .ok (.slice (some ⟨b, o, none⟩) K cp) w := by
  simp [go_sem]
  omega
theorem run_fr_j {b o K M cp : Nat} (h1 : K ≤ M) (w : World) : (Instr.sliceAt 26 (.slice (some ⟨b, o, none⟩) M cp) (some (.int .i64 (K : Nat))) none none).run Tryz.prog w = .ok (.slice (some ⟨b, if cp = K then o else o + K * 12, none⟩) (M - K) (cp - K)) w := by
  have h2 : K ≤ M := h1
  by_cases h : cp = K
  · simp [go_sem, h1, h]
  · simp [go_sem, h1, h]
end Go.Proofs.YtjcndgopijpibaaGreat.Bok
/- Book: one more put behind an own list whose slice lies in a box, in a drawn region. -/
namespace Go.Proofs.YtjcndgopijpibaaGreat.Bok
set_option maxRecDepth 100000
open Go.RowKit
open Go.Sort
open Kit
open Foot
open Tre (Lst inI lst_keep lst_at lst_new lst_none encF encF_len encL_len)
open Rte (Rt encR encR_len)
open Job (Jb Jv Jobs encJ encJ_len encJ_one)
open Drw (Dw Draws encD encD_len encD_one)
open Snp (Sn Sv encK encK_len encK_one)
set_option linter.unusedVariables false
variable {w w' : World}
def phiB {α : Type} (enc : α → List Value) (size : Nat) (T : TypeId) (w0 : World) (base : Nat) (v : Value) (l : List α) (y : α) (B i : Nat) : Nat → List Value → World → Prop
  | 0, _, w => w = w0.drew
  | 1, [p], w => p = .slice (some ⟨w0.heap.size, 0, none⟩) 1 1 ∧ w = w0.drew.alloc (.cells (enc y).toArray T)
  | 2, [_, x], w => (∃ ax nx cx, x = .slice ax nx cx) ∧ Owns enc size T w base x (l ++ [y]) ∧ Chg (fun k => some k = v.ownBlock) w0 w
  | 3, _, w => ∃ ax nx cx w3, Owns enc size T w3 base (.slice ax nx cx) (l ++ [y]) ∧ Chg (fun k => some k = v.ownBlock) w0 w3 ∧ w = w3.setCell ⟨B, i, none⟩ (.slice ax nx cx)
  | _, _, _ => False
theorem phiB_cell {α : Type} {enc : α → List Value} {size : Nat} {T : TypeId} {w0 : World} {base : Nat} {v : Value} {l : List α} {y : α} {B i j : Nat} {vs : List Value} {b o : Nat} {u : Value} (hj : j ≤ 1) (h : phiB enc size T w0 base v l y B i j vs w) (hc : w0.cell? ⟨b, o, none⟩ = some u) : w.cell? ⟨b, o, none⟩ = some u := by
  have h0 : w0.drew.cell? ⟨b, o, none⟩ = some u := cell_keep (below_drew w0) hc
  match j, vs, hj, h with
  | 0, _, _, h => rw [h]; exact h0
  | 1, [p], _, h => rw [h.2]; exact cell_keep (below_alloc _ _) h0
  | 1, [], _, h => exact h.elim
  | 1, _ :: _ :: _, _, h => exact h.elim
theorem phiB_app {α : Type} {enc : α → List Value} {size : Nat} {T t : TypeId} {P : Program} {z : Value} {bytes : Nat} (H : Nest.Ty enc size P t T z bytes) {w0 : World} {base : Nat} {v : Value} {l : List α} {y : α} (ty : TypeId) (hown : Owns enc size T w0 base v l) (hb : base ≤ w0.heap.size) (hl : l.length + 1 ≤ 100000) (hb8 : bytes ≤ 1000) (hw : w = w0.drew.alloc (.cells (enc y).toArray T)) :
    ∃ v' w3, (Builtin.append_ #[t, t] ty #[v, .slice (some ⟨w0.heap.size, 0, none⟩) 1 1]).run P w = .ok v' w3 ∧ ((∃ ax nx cx, v' = .slice ax nx cx) ∧ Owns enc size T w3 base v' (l ++ [y]) ∧ Chg (fun k => some k = v.ownBlock) w0 w3) := by
  subst hw
  have hb1 : Below w0.heap.size w0 (w0.drew.alloc (.cells (enc y).toArray T)) := below_keep (below_drew w0) (below_alloc _ _)
  obtain ⟨v', w3, h1, h2, h3, _⟩ := Two.run_append_apart (P := P) H.hs H.hz H.one (w := w0.drew.alloc (.cells (enc y).toArray T)) t ty T H.und z bytes H.info H.zero base v l (Nest.own_on hown hb1) (some ⟨w0.heap.size, 0, none⟩) 1 1 [y] rfl (row_new H.hs w0.drew [y] (enc y).toArray T _ rfl (by simp [flat])) (fun h => by cases h) (by unfold maxLen; omega) (by
    have : (l.length + 1) * bytes ≤ 100000 * 1000 := Nat.mul_le_mul hl hb8
    omega) (Nat.le_trans hb hb1.size)
  refine ⟨v', w3, h1, ?_, h2, chg_grown (new_chg hb1 _) h3 fun k hk => .inl hk.symm⟩
  obtain ⟨a, c, e, -, -, -, -⟩ := owns_row H.hs h2
  exact ⟨a, _, c, e⟩
theorem run_ld_f {w : World} {a : Addr} {b : Option Addr} {n c : Nat} (h : w.cell? a = some (.slice b n c)) : (Instr.loadAt 23 (.pointer (some a))).run Tryz.prog w = .ok (.slice b n c) w := by
  simp [go_sem, h]
theorem run_st_f {w : World} {a : Addr} {u : Value} {b : Option Addr} {n c : Nat} (h : w.cell? a = some u) (hf : w.frozen? a = false) : (Instr.storeAt 23 (.pointer (some a)) (.slice b n c)).run Tryz.prog w = .ok () (w.setCell a (.slice b n c)) := by
  simp [go_sem, h, hf]
theorem run_bd_f (s : ByteArray) (x y : Int) (w : World) : (Instr.build 81 #[(0, .string s), (1, .int .i64 x), (2, .int .i64 y)]).run Tryz.prog w = .ok (.agg #[.string s, .int .i64 x, .int .i64 y]) w := by
  simp [go_sem]
theorem run_bs_f (s : ByteArray) (x y : Int) (w : World) : (Instr.buildSlice 23 1 #[(0, .agg #[.string s, .int .i64 x, .int .i64 y])]).run Tryz.prog w = .ok (.slice (some ⟨w.heap.size, 0, none⟩) 1 1) (w.alloc (.cells #[.string s, .int .i64 x, .int .i64 y] 81)) := by
  simp [go_sem]
theorem run_iaN {b o n c : Nat} (k : Nat) (h : k < n) (w : World) : (Instr.indexAt 31 (.slice (some ⟨b, o, none⟩) n c) (.int .i64 (k : Nat))).run Tryz.prog w = .ok (.pointer (some ⟨b, o + k, none⟩)) w := by
  simp [go_sem, h]
theorem run_ld_r {w : World} {a : Addr} {b : Option Addr} {n c : Nat} (h : w.cell? a = some (.slice b n c)) : (Instr.loadAt 25 (.pointer (some a))).run Tryz.prog w = .ok (.slice b n c) w := by
  simp [go_sem, h]
theorem run_st_r {w : World} {a : Addr} {u : Value} {b : Option Addr} {n c : Nat} (h : w.cell? a = some u) (hf : w.frozen? a = false) : (Instr.storeAt 25 (.pointer (some a)) (.slice b n c)).run Tryz.prog w = .ok () (w.setCell a (.slice b n c)) := by
  simp [go_sem, h, hf]
theorem run_bd_r (x y z : Int) (w : World) : (Instr.build 83 #[(0, .int .i64 x), (1, .int .i64 y), (2, .int .i64 z)]).run Tryz.prog w = .ok (.agg #[.int .i64 x, .int .i64 y, .int .i64 z]) w := by
  simp [go_sem]
theorem run_bs_r (x y z : Int) (w : World) : (Instr.buildSlice 25 1 #[(0, .agg #[.int .i64 x, .int .i64 y, .int .i64 z])]).run Tryz.prog w = .ok (.slice (some ⟨w.heap.size, 0, none⟩) 1 1) (w.alloc (.cells #[.int .i64 x, .int .i64 y, .int .i64 z] 83)) := by
  simp [go_sem]
theorem run_ld_a {w : World} {a : Addr} {b : Option Addr} {n c : Nat} (h : w.cell? a = some (.slice b n c)) : (Instr.loadAt 24 (.pointer (some a))).run Tryz.prog w = .ok (.slice b n c) w := by
  simp [go_sem, h]
theorem run_st_a {w : World} {a : Addr} {u : Value} {b : Option Addr} {n c : Nat} (h : w.cell? a = some u) (hf : w.frozen? a = false) : (Instr.storeAt 24 (.pointer (some a)) (.slice b n c)).run Tryz.prog w = .ok () (w.setCell a (.slice b n c)) := by
  simp [go_sem, h, hf]
theorem run_bd_a (x y z : Int) (w : World) : (Instr.build 65 #[(0, .int .i64 x), (1, .int .i64 y), (2, .int .i64 z)]).run Tryz.prog w = .ok (.agg #[.int .i64 x, .int .i64 y, .int .i64 z, .int .i64 0, .int .i64 0, .int .i64 0]) w := by
  simp [go_sem]
theorem run_bs_a (x y z : Int) (w : World) : (Instr.buildSlice 24 1 #[(0, .agg #[.int .i64 x, .int .i64 y, .int .i64 z, .int .i64 0, .int .i64 0, .int .i64 0])]).run Tryz.prog w = .ok (.slice (some ⟨w.heap.size, 0, none⟩) 1 1) (w.alloc (.cells #[.int .i64 x, .int .i64 y, .int .i64 z, .int .i64 0, .int .i64 0, .int .i64 0] 65)) := by
  simp [go_sem]
theorem wp_bd3B {P : Program} {o : Oper} {a : Act} {K : Act → World → Prop} {Q : Exit → Act → World → Prop} (t : TypeId) (x y z : Operand) (ho : o.op = .build t #[(0, x), (1, y), (2, z)]) {vx vy vz r : Value} {w' : World} (hx : a.eval x = vx) (hy : a.eval y = vy) (hz : a.eval z = vz) (hr : (Instr.build t #[(0, vx), (1, vy), (2, vz)]).run P w = .ok r w') (h : K (a.put o.dst r) w') : o.wp P a w K Q :=
  Chn.wp_bd t _ ho (by simpa [hx, hy, hz] using hr) h
def withF (y : Sv) (z : Tre.Fd) (a : Option Addr) (n c : Nat) : Sv := { y with funds := y.funds ++ [z], f := ⟨a, n, c⟩ }
def withR (y : Sv) (z : Rt) (a : Option Addr) (n c : Nat) : Sv := { y with rates := y.rates ++ [z], r := ⟨a, n, c⟩ }
def withA (y : Sv) (z : Tre.Al) (a : Option Addr) (n c : Nat) : Sv := { y with allocs := y.allocs ++ [z], l := ⟨a, n, c⟩ }
def nJ (y : Sv) (p0 p1 p2 p3 p4 p5 : Int) : Jv := ⟨⟨y.next, p0, p1, p2, p3, p4, p5, 1, 0, 0, 0, []⟩, none, 0, 0⟩
def withJ (y : Sv) (z : Jv) (a : Option Addr) (n c : Nat) : Sv := { y with jobs := y.jobs ++ [z], j := ⟨a, n, c⟩ }
end Go.Proofs.YtjcndgopijpibaaGreat.Bok
/- Book, the landed: a state in a box, all of whose lists are the call's own; what its functions answer. -/
namespace Go.Proofs.YtjcndgopijpibaaGreat.Bok
set_option maxRecDepth 100000
open Go.RowKit
open Go.Sort
open Kit
open Foot
open Tre (Al Lst inI lst_keep lst_at lst_new lst_none encF encF_len encL_len)
open Rte (Rt encR encR_len)
open Led (Lg encG encG_len)
open Job (Jb Jv Jobs encJ encJ_len encJ_one)
open Drw (Dw Draws encD encD_len encD_one)
open Snp (Sn Sv encK encK_len encK_one)
set_option linter.unusedVariables false
variable {w w' : World}
structure Bo (w : World) (base B : Nat) (y : Sv) : Prop where
  b : Arr.Blk w B 29 (Snp.encV y)
  o : OwV w base y
  ge : base ≤ B
variable {base B : Nat} {y : Sv}
theorem Bo.keep (h : Bo w base B y) (hb : Below w.heap.size w w') : Bo w' base B y := ⟨Arr.blk_below h.b hb (Arr.blk_lt h.b), h.o.keep hb, h.ge⟩
theorem Bo.lt (h : Bo w base B y) : B < w.heap.size := Arr.blk_lt h.b
structure Cal (W0 W : World) (B : Nat) (y : Sv) : Prop where
  bo : Bo W W0.heap.size B y
  below : Below W0.heap.size W0 W
theorem Cal.keep {W0 W W' : World} (h : Cal W0 W B y) (hb : Below W.heap.size W W') : Cal W0 W' B y := ⟨h.bo.keep hb, below_keep h.below hb⟩
def LegP (W0 : World) (B : Nat) (E : Int) (S : Sn) (L : List Lg) (e : Ending) (W' : World) : Prop :=
  ∃ (y' : Sv) (a : Option Addr) (n c : Nat), e = .returned (.tuple #[.slice a n c, .int .i64 E]) ∧ (E = 0 → y'.t = S ∧ Bo W' W0.heap.size B y' ∧ Owns encG 2 49 W' W0.heap.size (.slice a n c) L) ∧ Below W0.heap.size W0 W'
def ErrP (W0 : World) (B : Nat) (E : Int) (S : Sn) (e : Ending) (W' : World) : Prop :=
  ∃ y' : Sv, e = .returned (.int .i64 E) ∧ (E = 0 → y'.t = S ∧ Bo W' W0.heap.size B y') ∧ Below W0.heap.size W0 W'
theorem own_st {α : Type} {enc : α → List Value} {size : Nat} {T : TypeId} {v : Value} {l : List α} {cs : List Value} (hx : Arr.Blk w B 29 cs) (h : Owns enc size T w base v l) (hne : T ≠ 29) (i : Nat) (u : Value) : Owns enc size T (w.setCell ⟨B, i, none⟩ u) base v l :=
  own_set_far h (fun g hg e => by
    obtain ⟨cur, h3⟩ := own_type h hg
    exact type_ne hx h3 (fun e => hne e.symm) e.symm) i u
theorem OwV.st {cs : List Value} (hx : Arr.Blk w B 29 cs) (h : OwV w base y) (i : Nat) (u : Value) : OwV (w.setCell ⟨B, i, none⟩ u) base y :=
  ⟨own_st hx h.f (by decide) i u, own_st hx h.l (by decide) i u, own_st hx h.r (by decide) i u, own_st hx h.j (by decide) i u, own_st hx h.k (by decide) i u, fun x hx' => own_st hx (h.d x hx') (by decide) i u⟩
theorem bo_f {wa : World} {z : Tre.Fd} {vs : List Value} (h : Bo wa base B y) (hb : base ≤ wa.heap.size) (hp : phiB encF 3 81 wa base (.slice y.f.a y.f.n y.f.c) y.funds z B 3 3 vs w) :
    ∃ ax nx cx, Bo w base B (withF y z ax nx cx) ∧ Below base wa w := by
  obtain ⟨ax, nx, cx, w3, h1, h2, rfl⟩ := hp
  have b3 := blk_typed h.b h2 (typed_own h.o.f (by decide))
  refine ⟨ax, nx, cx, ⟨Arr.blk_set b3 3 _, ⟨own_st b3 h1 (by decide) 3 _, own_st b3 (own_typed h.o.l h2 (typed_own h.o.f (by decide))) (by decide) 3 _, own_st b3 (own_typed h.o.r h2 (typed_own h.o.f (by decide))) (by decide) 3 _, own_st b3 (own_typed h.o.j h2 (typed_own h.o.f (by decide))) (by decide) 3 _, own_st b3 (own_typed h.o.k h2 (typed_own h.o.f (by decide))) (by decide) 3 _, fun x hx => own_st b3 (own_typed (h.o.d x hx) h2 (typed_own h.o.f (by decide))) (by decide) 3 _⟩, h.ge⟩, ?_⟩
  exact Arr.below_set (chg_below h2 (fun k hk => (World.ownsRow.lt h.o.f k hk.symm).1) hb) h.ge 3 _
theorem bo_r {wa : World} {z : Rt} {vs : List Value} (h : Bo wa base B y) (hb : base ≤ wa.heap.size) (hp : phiB encR 3 83 wa base (.slice y.r.a y.r.n y.r.c) y.rates z B 5 3 vs w) :
    ∃ ax nx cx, Bo w base B (withR y z ax nx cx) ∧ Below base wa w := by
  obtain ⟨ax, nx, cx, w3, h1, h2, rfl⟩ := hp
  have b3 := blk_typed h.b h2 (typed_own h.o.r (by decide))
  refine ⟨ax, nx, cx, ⟨Arr.blk_set b3 5 _, ⟨own_st b3 (own_typed h.o.f h2 (typed_own h.o.r (by decide))) (by decide) 5 _, own_st b3 (own_typed h.o.l h2 (typed_own h.o.r (by decide))) (by decide) 5 _, own_st b3 h1 (by decide) 5 _, own_st b3 (own_typed h.o.j h2 (typed_own h.o.r (by decide))) (by decide) 5 _, own_st b3 (own_typed h.o.k h2 (typed_own h.o.r (by decide))) (by decide) 5 _, fun x hx => own_st b3 (own_typed (h.o.d x hx) h2 (typed_own h.o.r (by decide))) (by decide) 5 _⟩, h.ge⟩, ?_⟩
  exact Arr.below_set (chg_below h2 (fun k hk => (World.ownsRow.lt h.o.r k hk.symm).1) hb) h.ge 5 _
theorem bo_a {wa : World} {z : Tre.Al} {vs : List Value} (h : Bo wa base B y) (hb : base ≤ wa.heap.size) (hp : phiB Tre.encL 6 65 wa base (.slice y.l.a y.l.n y.l.c) y.allocs z B 4 3 vs w) :
    ∃ ax nx cx, Bo w base B (withA y z ax nx cx) ∧ Below base wa w := by
  obtain ⟨ax, nx, cx, w3, h1, h2, rfl⟩ := hp
  have b3 := blk_typed h.b h2 (typed_own h.o.l (by decide))
  refine ⟨ax, nx, cx, ⟨Arr.blk_set b3 4 _, ⟨own_st b3 (own_typed h.o.f h2 (typed_own h.o.l (by decide))) (by decide) 4 _, own_st b3 h1 (by decide) 4 _, own_st b3 (own_typed h.o.r h2 (typed_own h.o.l (by decide))) (by decide) 4 _, own_st b3 (own_typed h.o.j h2 (typed_own h.o.l (by decide))) (by decide) 4 _, own_st b3 (own_typed h.o.k h2 (typed_own h.o.l (by decide))) (by decide) 4 _, fun x hx => own_st b3 (own_typed (h.o.d x hx) h2 (typed_own h.o.l (by decide))) (by decide) 4 _⟩, h.ge⟩, ?_⟩
  exact Arr.below_set (chg_below h2 (fun k hk => (World.ownsRow.lt h.o.l k hk.symm).1) hb) h.ge 4 _
theorem own_lst {α : Type} {enc : α → List Value} {size : Nat} (hs : ∀ x, (enc x).length = size) {T : TypeId} {a : Option Addr} {n c : Nat} {l : List α} (h : Owns enc size T w base (.slice a n c) l) : Lst enc size w a n c l := by
  obtain ⟨a', c', e, h1, h2, h3, h4⟩ := owns_row hs h
  injection e with e1 e2 e3
  exact ⟨e2.symm, by rw [e2, e3]; exact h1, by rw [e3]; exact h2, fun e => (by have := h3 (by rw [← e1]; exact e); rw [e2, e3]; omega), by rw [e1]; exact h4⟩
theorem run_ldS {w : World} {a : Addr} {s : ByteArray} (h : w.cell? a = some (.string s)) : (Instr.loadAt 9 (.pointer (some a))).run Tryz.prog w = .ok (.string s) w := by
  simp [go_sem, h]
theorem run_ldIs {w : World} {a : Addr} {b : Option Addr} {n c : Nat} (h : w.cell? a = some (.slice b n c)) : (Instr.loadAt 31 (.pointer (some a))).run Tryz.prog w = .ok (.slice b n c) w := by
  simp [go_sem, h]
theorem run_ldI {w : World} {a : Addr} {i : Int} (h : w.cell? a = some (.int .i64 i)) : (Instr.loadAt 3 (.pointer (some a))).run Tryz.prog w = .ok (.int .i64 i) w := by
  simp [go_sem, h]
theorem tx_box (W : World) (sq tm kd : Int) (ky nm : ByteArray) (aa ga : Option Addr) (n c gn gc : Nat) : Arr.Blk (W.alloc (.cells #[.int .i64 sq, .int .i64 tm, .int .i64 kd, .string ky, .string nm, .slice aa n c, .slice ga gn gc] 34)) W.heap.size 34 [.int .i64 sq, .int .i64 tm, .int .i64 kd, .string ky, .string nm, .slice aa n c, .slice ga gn gc] := Arr.blk_new _ _ _ _ rfl
theorem blk_of_own {α : Type} {enc : α → List Value} {size : Nat} {T : TypeId} {base g n cp : Nat} {l : List α} (hs : ∀ x, (enc x).length = size) (h : Owns enc size T w base (.slice (some ⟨g, 0, none⟩) n cp) l) :
    ∃ cs, Arr.Blk w g T cs ∧ l.length = n ∧ n ≤ cp ∧ cp ≤ maxLen ∧ cs.length = cp * size ∧ cs.take (n * size) = flat enc l ∧ base ≤ g := by
  have hlen := (own_lst hs h).len
  rcases h with ⟨h0, ⟨e, _⟩ | ⟨g', cap', cur, hv, hg, hbk, h1, h2, h3, h4⟩⟩
  · cases e
  · simp only [Value.slice.injEq, Option.some.injEq, Addr.mk.injEq] at hv
    obtain ⟨⟨rfl, -⟩, hn, rfl⟩ := hv
    refine ⟨cur.toList, ?_, hlen, by rw [← hlen]; exact h1, h2, by simpa using h3, by rw [← hlen]; exact h4, hg⟩
    unfold Arr.Blk
    rw [hbk]
theorem own_of_blk {α : Type} {enc : α → List Value} {size : Nat} {T : TypeId} {base g cp : Nat} {l : List α} {cs : List Value} (hs : ∀ x, (enc x).length = size) (hB : Arr.Blk w g T cs) (h1 : l.length ≤ cp) (h2 : cp ≤ maxLen) (h3 : cs.length = cp * size) (h4 : cs.take (l.length * size) = flat enc l) (hg : base ≤ g) : Owns enc size T w base (.slice (some ⟨g, 0, none⟩) l.length cp) l :=
  ⟨flat_length hs l, .inr ⟨g, cp, cs.toArray, rfl, hg, hB, h1, h2, by simpa using h3, by simpa using h4⟩⟩
theorem run_neI {a b : Int} {r : Bool} (h : (a == b) = !r) (x y : Operand) (w : World) : (do eqGuard .neq 3 x y (.int .i64 a) (.int .i64 b); binOp .neq 3 (.int .i64 a) (.int .i64 b) : Sem Value).run Tryz.prog w = .ok (.bool r) w := by
  simp [go_sem]
  cases r <;> simp_all
end Go.Proofs.YtjcndgopijpibaaGreat.Bok
/- Book, the landed: its small functions. -/
namespace Go.Proofs.YtjcndgopijpibaaGreat.Bok
set_option maxRecDepth 100000
open Go.RowKit
open Go.Sort
open Kit
open Foot
open Tre (Lst inI lst_keep lst_at lst_new lst_none encF encF_len encL_len IntsL goodB)
open Led (Lg encG encG_len)
open Snp (Sn Sv encK encK_len encK_one)
set_option linter.unusedVariables false
variable {w w' W0 W : World} {B : Nat}
theorem isFund_any (W : World) (B : Nat) (a : Option Addr) (n c : Nat) (f : Int) (b : Bool) (hq : W.cell? ⟨B, 3, none⟩ = some (.slice a n c)) (hb : b = true ↔ 0 ≤ f ∧ f < (n : Int)) :
    Calls Tryz.prog 90 #[.pointer (some ⟨B, 0, none⟩), .int .i64 f] W fun e w' => e = .returned (.bool b) ∧ W = w' := by
  by_cases h0 : 0 ≤ f
  · by_cases h1 : f < (n : Int)
    · obtain rfl : b = true := hb.2 ⟨h0, h1⟩
      clear hb
      go_enter Tryz.func90, Tryz.ntmps90
      go_wp2_with fail
      go_ret
      exact ⟨rfl, rfl⟩
    · obtain rfl : b = false := by
        cases b with
        | false => rfl
        | true => exact absurd (hb.1 rfl).2 h1
      clear hb
      go_enter Tryz.func90, Tryz.ntmps90
      go_wp2_with fail
      go_ret
      exact ⟨rfl, rfl⟩
  · obtain rfl : b = false := by
      cases b with
      | false => rfl
      | true => exact absurd (hb.1 rfl).1 h0
    clear hb
    go_enter Tryz.func90, Tryz.ntmps90
    go_wp2_with fail
    go_ret
    exact ⟨rfl, rfl⟩
theorem isAlloc_any (W : World) (B : Nat) (a : Option Addr) (n c : Nat) (f : Int) (b : Bool) (hq : W.cell? ⟨B, 4, none⟩ = some (.slice a n c)) (hb : b = true ↔ 0 ≤ f ∧ f < (n : Int)) :
    Calls Tryz.prog 93 #[.pointer (some ⟨B, 0, none⟩), .int .i64 f] W fun e w' => e = .returned (.bool b) ∧ W = w' := by
  by_cases h0 : 0 ≤ f
  · by_cases h1 : f < (n : Int)
    · obtain rfl : b = true := hb.2 ⟨h0, h1⟩
      clear hb
      go_enter Tryz.func93, Tryz.ntmps93
      go_wp2_with fail
      go_ret
      exact ⟨rfl, rfl⟩
    · obtain rfl : b = false := by
        cases b with
        | false => rfl
        | true => exact absurd (hb.1 rfl).2 h1
      clear hb
      go_enter Tryz.func93, Tryz.ntmps93
      go_wp2_with fail
      go_ret
      exact ⟨rfl, rfl⟩
  · obtain rfl : b = false := by
      cases b with
      | false => rfl
      | true => exact absurd (hb.1 rfl).1 h0
    clear hb
    go_enter Tryz.func93, Tryz.ntmps93
    go_wp2_with fail
    go_ret
    exact ⟨rfl, rfl⟩
theorem available_any (W : World) (k : Int) (h0 : 0 ≤ k) (h1 : k ≤ 100) : Calls Tryz.prog 92 #[.int .i64 k] W fun e w' => e = .returned (.int .i64 (1 + 3 * k)) ∧ W = w' := by
  go_enter Tryz.func92, Tryz.ntmps92
  go_wp2_with fail
  go_ret
  exact ⟨rfl, rfl⟩
theorem move_any (W : World) (f t am : Int) (h0 : 0 ≤ am) (h1 : am ≤ 9223372036854775807) : Calls Tryz.prog 91 #[.int .i64 f, .int .i64 t, .int .i64 am] W fun e w' => e = .returned (.slice (some ⟨W.heap.size, 0, none⟩) 2 2) ∧ Owns encG 2 49 w' W.heap.size (.slice (some ⟨W.heap.size, 0, none⟩) 2 2) (pair f t am) ∧ Below W.heap.size W w' := by
  have HO := Lib.hid (And.intro (own_pair W W.heap.size (Nat.le_refl _) f t am) (below_alloc W (.cells #[.int .i64 f, .int .i64 (-am), .int .i64 t, .int .i64 am] 49)))
  go_enter Tryz.func91, Tryz.ntmps91
  go_wp2_with fail
  go_ret
  exact ⟨rfl, HO.out.1, HO.out.2⟩
end Go.Proofs.YtjcndgopijpibaaGreat.Bok
/- Order: the places of those that are queued, each behind all that are ahead of it (mathematics). -/
namespace Go.Proofs.YtjcndgopijpibaaGreat.Ord
open Job (Jb)
set_option linter.unusedVariables false
def aheadJ (x y : Jb) (a b : Nat) : Prop := y.prio < x.prio ∨ (x.prio = y.prio ∧ (x.id < y.id ∨ (x.id = y.id ∧ a < b)))
instance (x y : Jb) (a b : Nat) : Decidable (aheadJ x y a b) := by unfold aheadJ; infer_instance
def lt (l : List Jb) (a b : Nat) : Prop := match l[a]?, l[b]? with | some x, some y => aheadJ x y a b | _, _ => False
instance (l : List Jb) (a b : Nat) : Decidable (lt l a b) := by unfold lt; split <;> infer_instance
theorem lt_trans {l : List Jb} {a b c : Nat} (h1 : lt l a b) (h2 : lt l b c) : lt l a c := by
  unfold lt at *
  cases ha : l[a]? with
  | none => rw [ha] at h1; exact h1.elim
  | some x => cases hb : l[b]? with
    | none => rw [ha, hb] at h1; exact h1.elim
    | some y => cases hc : l[c]? with
      | none => rw [hb, hc] at h2; exact h2.elim
      | some z =>
        rw [ha, hb] at h1
        rw [hb, hc] at h2
        simp only [aheadJ] at h1 h2 ⊢
        omega
end Go.Proofs.YtjcndgopijpibaaGreat.Ord
/- Order: what the laws ask (mathematics): how many, none twice, no later one ahead; one that is queued no more. -/
namespace Go.Proofs.YtjcndgopijpibaaGreat.Ord
open Job (Jb Jv)
set_option linter.unusedVariables false
def ts (l : List Jv) : List Jb := l.map (·.t)
end Go.Proofs.YtjcndgopijpibaaGreat.Ord
/- Job: where one is, and the nodes of those that run, one step on (mathematics). -/
namespace Go.Proofs.YtjcndgopijpibaaGreat.Job
open Go.Proofs.YtjcndgopijpibaaGreat.Ord (ts)
set_option linter.unusedVariables false
theorem ts_get {l : List Jv} {k : Nat} {x : Jv} (h : l[k]? = some x) : (ts l)[k]? = some x.t := by unfold ts; rw [List.getElem?_map, h]; rfl
theorem ts_len (l : List Jv) : (ts l).length = l.length := by unfold ts; rw [List.length_map]
def fndI (o : Option Nat) : Int := match o with | none => -1 | some k => (k : Nat)
theorem findF_step {id : Int} {l : List Jb} {k : Nat} {x : Jb} (h : l[k]? = some x) : (firstId id (l.drop k)).map (· + k) = if x.id = id then some k else (firstId id (l.drop (k + 1))).map (· + (k + 1)) := by
  obtain ⟨hk, e⟩ := List.getElem?_eq_some_iff.1 h
  rw [List.drop_eq_getElem_cons hk, e, firstId]
  by_cases hx : x.id = id
  · rw [if_pos hx, if_pos hx]; simp
  · rw [if_neg hx, if_neg hx]
    cases firstId id (l.drop (k + 1)) with
    | none => rfl
    | some m => simp only [Option.map_some]; congr 1; omega
theorem filter_take {α : Type} (p : α → Bool) {l : List α} {k : Nat} {x : α} (h : l[k]? = some x) : (l.take (k + 1)).filter p = if p x = true then (l.take k).filter p ++ [x] else (l.take k).filter p := by
  obtain ⟨hk, e⟩ := List.getElem?_eq_some_iff.1 h
  rw [List.take_succ_eq_append_getElem hk, e, List.filter_append]
  cases hp : p x <;> simp [hp]
end Go.Proofs.YtjcndgopijpibaaGreat.Job
/- Jobs in memory: one loaded, one in a box. -/
namespace Go.Proofs.YtjcndgopijpibaaGreat.Job
set_option maxRecDepth 100000
open Go.RowKit
open Go.Sort
open Kit
open Tre (Lst)
set_option linter.unusedVariables false
variable {w w' : World}
def zeroJ : List Value := [.int .i64 0, .int .i64 0, .int .i64 0, .int .i64 0, .int .i64 0, .int .i64 0, .int .i64 0, .int .i64 0, .int .i64 0, .int .i64 0, .int .i64 0, .slice none 0 0]
theorem info_job12 : (Tryz.prog.info? 58).map (·.size) = some 12 := by kernel_rfl
theorem info_jobs : (Tryz.prog.info? 58).map (fun i => (i.zero, i.size, i.bytes)) = some (some (.agg #[.int .i64 0, .int .i64 0, .int .i64 0, .int .i64 0, .int .i64 0, .int .i64 0, .int .i64 0, .int .i64 0, .int .i64 0, .int .i64 0, .int .i64 0, .slice none 0 0]), 12, 112) := by kernel_rfl
theorem job_range {b o n c k : Nat} {l : List Jv} {x : Jv} (h : Jobs w (some ⟨b, o, none⟩) n c l) (hx : l[k]? = some x) : w.rangeAt b (o + k * 12) (encJ x) := by
  obtain ⟨hk, e⟩ := List.getElem?_eq_some_iff.1 hx
  intro i v hv
  have hi : i < 12 := (List.getElem?_eq_some_iff.1 hv).1
  have := job_cell h hk i hi
  rw [e, hv] at this
  exact this
theorem range_keep {b o : Nat} {cs : List Value} (hb : Below w.heap.size w w') (h : w.rangeAt b o cs) : w'.rangeAt b o cs := fun i v hv => cell_keep hb (h i v hv)
end Go.Proofs.YtjcndgopijpibaaGreat.Job
/- A cell of an element of an own list written. -/
namespace Go.Proofs.YtjcndgopijpibaaGreat.Kit
open Go.RowKit
open Go.Sort
variable {α : Type} {enc : α → List Value} {size : Nat}
theorem flat_put (hs : ∀ x, (enc x).length = size) {i : Nat} (hi : i < size) (f : α → α) (u : Value) (hf : ∀ a, enc (f a) = (enc a).set i u) : ∀ (l : List α) (k : Nat) (a : α), l[k]? = some a → (flat enc l).set (k * size + i) u = flat enc (l.set k (f a))
  | [], k, a, h => by simp at h
  | x :: l, 0, a, h => by
    simp at h
    subst h
    have e : flat enc (x :: l) = enc x ++ flat enc l := rfl
    have e2 : flat enc ((x :: l).set 0 (f x)) = enc (f x) ++ flat enc l := rfl
    rw [e, e2, hf, List.set_append, if_pos (by rw [hs]; omega), Nat.zero_mul, Nat.zero_add]
  | x :: l, k + 1, a, h => by
    rw [List.getElem?_cons_succ] at h
    have ih := flat_put hs hi f u hf l k a h
    have e : flat enc (x :: l) = enc x ++ flat enc l := rfl
    have e2 : flat enc ((x :: l).set (k + 1) (f a)) = enc x ++ flat enc (l.set k (f a)) := rfl
    have e3 : (k + 1) * size + i = size + (k * size + i) := by rw [Nat.add_mul, Nat.one_mul]; omega
    rw [e, e2, ← ih, List.set_append, if_neg (by rw [hs, e3]; omega), hs, e3, show size + (k * size + i) - size = k * size + i by omega]
theorem owns_at {e : TypeId} {w : World} {base : Nat} {v : Value} {l : List α} (hs : ∀ x, (enc x).length = size) (h : Owns enc size e w base v l) (hl : 1 ≤ l.length) : ∃ g cap, v = .slice (some ⟨g, 0, none⟩) l.length cap ∧ base ≤ g ∧ l.length ≤ cap ∧ cap ≤ maxLen := by
  obtain ⟨a, c, hv, hc, hcm, hn, hrow⟩ := owns_row hs h
  rcases h.2 with ⟨_, h0⟩ | ⟨g, cap, cur, hv2, hg, _⟩
  · omega
  · rw [hv] at hv2
    injection hv2 with e1 e2 e3
    subst e1
    exact ⟨g, c, hv, hg, hc, hcm⟩
theorem owns_put {e : TypeId} {w : World} {base g n cap : Nat} {l : List α} (hs : ∀ x, (enc x).length = size) (h : Owns enc size e w base (.slice (some ⟨g, 0, none⟩) n cap) l) (hnl : l.length = n) {k i : Nat} {a : α} (ha : l[k]? = some a) (hi : i < size) (f : α → α) (u : Value) (hf : ∀ a, enc (f a) = (enc a).set i u) :
    w.cell? ⟨g, k * size + i, none⟩ = (enc a)[i]? ∧ w.frozen? ⟨g, k * size + i, none⟩ = false ∧ Owns enc size e (w.setCell ⟨g, k * size + i, none⟩ u) base (.slice (some ⟨g, 0, none⟩) n cap) (l.set k (f a)) := by
  subst hnl
  have hk := (List.getElem?_eq_some_iff.1 ha).1
  have he := (List.getElem?_eq_some_iff.1 ha).2
  have hfl := flat_length hs l
  have hlt : k * size + i < l.length * size := by
    have : (k + 1) * size ≤ l.length * size := Nat.mul_le_mul_right _ (by omega)
    rw [Nat.add_mul, Nat.one_mul] at this; omega
  unfold Owns at h ⊢
  refine ⟨?_, ?_, ?_⟩
  · rw [h.cellAt _ hlt, flat_at hs l k hk i hi, he]
  · exact h.frozenAt _
  · have := (h.stored (k * size + i) u).1
    rw [flat_put hs hi f u hf l k a ha] at this
    rw [List.length_set]
    exact this
theorem size_setCell (w : World) (a : Addr) (v : Value) : (w.setCell a v).heap.size = w.heap.size := by simp [World.setCell]
end Go.Proofs.YtjcndgopijpibaaGreat.Kit
/- Job, the landed: what its closures say of one. -/
namespace Go.Proofs.YtjcndgopijpibaaGreat.Job
set_option maxRecDepth 100000
open Go.RowKit
open Go.Sort
open Kit
open Tre (Lst inI lst_keep lst_take lst_at lst_new lst_none run_ld2)
set_option linter.unusedVariables false
variable {w w' : World}
theorem isrun_any (x : Jv) (W : World) : Calls Tryz.prog 152 #[.agg (encJ x).toArray] W fun e w' => e = .returned (.bool (runB x.t)) ∧ Below W.heap.size W w' := by
  obtain ⟨⟨x0, x1, x2, x3, x4, x5, x6, x7, x8, x9, x10, xd⟩, xa, xn, xc⟩ := x
  have HB := Lib.hid (below_alloc W (.cells #[.int .i64 x0, .int .i64 x1, .int .i64 x2, .int .i64 x3, .int .i64 x4, .int .i64 x5, .int .i64 x6, .int .i64 x7, .int .i64 x8, .int .i64 x9, .int .i64 x10, .slice xa xn xc] 58))
  have HE := Lib.hid (show runB (⟨x0, x1, x2, x3, x4, x5, x6, x7, x8, x9, x10, xd⟩ : Jb) = (x7 == 3) from rfl)
  unfold encJ
  go_enter Tryz.func152, Tryz.ntmps152
  go_wp2_with fail
  go_ret
  exact ⟨by rw [HE.out]; rfl, HB.out⟩
theorem isid_any (x : Jv) (id : Int) (bx : Nat) (W : World) (h : W.cell? ⟨bx, 0, none⟩ = some (.int .i64 id)) : Calls Tryz.prog 146 #[.agg (encJ x).toArray, .pointer (some ⟨bx, 0, none⟩)] W fun e w' => e = .returned (.bool (x.t.id == id)) ∧ Below W.heap.size W w' := by
  obtain ⟨⟨x0, x1, x2, x3, x4, x5, x6, x7, x8, x9, x10, xd⟩, xa, xn, xc⟩ := x
  have hc := cell_keep (below_alloc W (.cells #[.int .i64 x0, .int .i64 x1, .int .i64 x2, .int .i64 x3, .int .i64 x4, .int .i64 x5, .int .i64 x6, .int .i64 x7, .int .i64 x8, .int .i64 x9, .int .i64 x10, .slice xa xn xc] 58)) h
  have HB := Lib.hid (below_alloc W (.cells #[.int .i64 x0, .int .i64 x1, .int .i64 x2, .int .i64 x3, .int .i64 x4, .int .i64 x5, .int .i64 x6, .int .i64 x7, .int .i64 x8, .int .i64 x9, .int .i64 x10, .slice xa xn xc] 58))
  unfold encJ
  clear h
  go_enter Tryz.func146, Tryz.ntmps146
  go_wp2_with fail
  go_ret
  exact ⟨rfl, HB.out⟩
theorem blk_boxJ (W : World) (x : Jv) : Arr.Blk (W.alloc (.cells (encJ x).toArray 58)) W.heap.size 58 (encJ x) := Arr.blk_new _ _ _ _ rfl
end Go.Proofs.YtjcndgopijpibaaGreat.Job
/- Jobs, lists of the call's own. -/
namespace Go.Proofs.YtjcndgopijpibaaGreat.Job
set_option maxRecDepth 100000
open Go.RowKit
open Go.Sort
open Kit
open Tre (Lst inI lst_keep lst_take lst_at lst_new lst_none below_drewN' run_ld2)
open Go.Proofs.YtjcndgopijpibaaGreat.Ord (ts)
set_option linter.unusedVariables false
variable {w w' : World}
abbrev OwJ (w : World) (base : Nat) (v : Value) (l : List Jv) : Prop := Owns encJ 12 58 w base v l
theorem own_jobs {base : Nat} {v : Value} {l : List Jv} (h : OwJ w base v l) : ∃ a c, v = .slice a l.length c ∧ Jobs w a l.length c l := by
  obtain ⟨a, c, hv, hc, hm, hn, hrow⟩ := owns_row encJ_len h
  exact ⟨a, c, hv, rfl, hc, hm, fun e => ⟨by have := hn e; omega, hn e⟩, hrow⟩
theorem one12L' (x : Jv) : (encJ x).all (·.oneCell') = true := by
  rw [List.all_eq_true]
  exact encJ_one x
end Go.Proofs.YtjcndgopijpibaaGreat.Job
/- Allocations and lists of numbers in memory: read, cut, made, written; an argument's list opened. -/
namespace Go.Proofs.YtjcndgopijpibaaGreat.Tre
set_option maxRecDepth 100000
open Go.RowKit
open Go.Sort
open Kit
set_option linter.unusedVariables false
variable {w w' : World}
theorem flat_set : ∀ (l : List Al) (k : Nat) (a : Al) (s : Int), l[k]? = some a → (flat encL l).set (k * 6 + 5) (.int .i64 s) = flat encL (l.set k { a with spent := s })
  | [], k, a, s, h => by simp at h
  | x :: l, 0, a, s, h => by
    simp at h
    subst h
    rfl
  | x :: l, k + 1, a, s, h => by
    rw [List.getElem?_cons_succ] at h
    have ih := flat_set l k a s h
    have e : flat encL (x :: l) = encL x ++ flat encL l := rfl
    have e2 : flat encL ((x :: l).set (k + 1) { a with spent := s }) = encL x ++ flat encL (l.set k { a with spent := s }) := rfl
    rw [e, e2, ← ih, List.set_append, if_neg (by rw [encL_len]; omega), encL_len]
    congr 2
    omega
theorem own_empty_al (w : World) (base : Nat) (hb : base ≤ w.heap.size) : Owns encL 6 65 (w.alloc (.cells #[] 65)) base (.slice (some ⟨w.heap.size, 0, none⟩) 0 0) [] :=
  ⟨rfl, .inr ⟨w.heap.size, 0, _, rfl, hb, heap_alloc_new w _, Nat.le_refl _, by unfold maxLen; omega, rfl, rfl⟩⟩
theorem run_ia2 {b o n c k : Nat} (h : k < n) (w : World) : (Instr.indexAt 24 (.slice (some ⟨b, o, none⟩) n c) (.int .i64 k)).run Tryz.prog w = .ok (.pointer (some ⟨b, o + k * 6, none⟩)) w := by
  simp [go_sem, h]
end Go.Proofs.YtjcndgopijpibaaGreat.Tre
/- Money: answers, and the numbers of a slice. -/
namespace Go.Proofs.YtjcndgopijpibaaGreat.Mon
open Go.RowKit
theorem ret_int {k : IntKind} {a b : Int} (h : a = b) : Ending.returned (.int k a) = .returned (.int k b) := by rw [h]
theorem ret_two {a b c d : Int} (h : a = c) (g : b = d) : Ending.returned (.tuple #[.int .i64 a, .int .i64 b]) = .returned (.tuple #[.int .i64 c, .int .i64 d]) := by rw [h, g]
theorem ret_bool {a b : Bool} (h : a = b) : Ending.returned (.bool a) = .returned (.bool b) := by rw [h]
def Elems (w : World) (a : Option Addr) (l : List Int) : Prop :=
  l = [] ∨ ∃ b off, a = some ⟨b, off, none⟩ ∧ ∀ j, j < l.length → w.cell? ⟨b, off + j, none⟩ = some (.int .i64 (l.getD j 0))
end Go.Proofs.YtjcndgopijpibaaGreat.Mon
/- Lists of numbers as elements. -/
namespace Go.Proofs.YtjcndgopijpibaaGreat.Tre
set_option maxRecDepth 100000
open Go.RowKit
open Go.Sort
open Kit
open Mon
set_option linter.unusedVariables false
variable {w w' : World}
theorem ints_elems {a : Option Addr} {n c : Nat} {l : List Int} (h : IntsL w a n c l) : Elems w a l := by
  rcases h.row with e | ⟨b, o, e, h2⟩
  · exact .inl e
  · subst e
    refine .inr ⟨b, o, rfl, fun j hj => ?_⟩
    rw [int_cell h hj]
    simp [List.getD, hj]
end Go.Proofs.YtjcndgopijpibaaGreat.Tre
