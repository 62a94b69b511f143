/- Entry: what the document's Decode does, piece by piece. -/
import Derived.Test.YtcoiebeehgeggaaEntBox
import Derived.Test.YtcoiebeehgeggaaResC
import Derived.Test.YtcoiebeehgeggaaRegLst
import Derived.Test.YtcoiebeehgeggaaRegChn
import Derived.Test.YtcoiebeehgeggaaArrs
namespace Go.Proofs.Ytcoiebeehgeggaa.Ent
set_option maxRecDepth 100000
open Go.RowKit
open Go.Sort
open Kit
open Oct
open Foot
open Tre (Lst inI lst_keep lst_take lst_at lst_new lst_none i64_wf cells_int IntsL int_cell encI encI_len encI_one OwI own_chg' info_i run_ld2 below_drewN')
open Led (Lg encG encG_len encG_one Legs leg_cells info_leg)
set_option linter.unusedVariables false
variable {w w' : World}

def zero7 : List Value := [.int .i64 0, .int .i64 0, .int .i64 0, .string ⟨#[]⟩, .string ⟨#[]⟩, .slice none 0 0, .slice none 0 0]
theorem info_tx7 : (Try.prog.info? 25).map (·.size) = some 7 := by kernel_rfl
theorem run_alloc_tx (w : World) : (Instr.alloc 25 true (.tuple #[])).run Try.prog w = .ok (.pointer (some ⟨w.heap.size, 0, none⟩)) (w.alloc (.cells zero7.toArray 25)) := by
  simp [go_sem]
  rfl
theorem run_build3 (x y z : Int) (w : World) : (Instr.build 25 #[(0, .int .i64 x), (1, .int .i64 y), (2, .int .i64 z)]).run Try.prog w = .ok (.agg #[.int .i64 x, .int .i64 y, .int .i64 z, .string ⟨#[]⟩, .string ⟨#[]⟩, .slice none 0 0, .slice none 0 0]) w := by
  simp [go_sem]
theorem wp_bd3 {P : Program} {o : Oper} {a : Act} {K : Act → World → Prop} {Q : Exit → Act → World → Prop} (t : TypeId) (x y z : Operand) (ho : o.op = .build t #[(0, x), (1, y), (2, z)]) {vx vy vz r : Value} {w' : World} (hx : a.eval x = vx) (hy : a.eval y = vy) (hz : a.eval z = vz) (hr : (Instr.build t #[(0, vx), (1, vy), (2, vz)]).run P w = .ok r w') (h : K (a.put o.dst r) w') : o.wp P a w K Q := by
  subst hx hy hz
  unfold Oper.wp execOp
  have hm : (#[(0, x), (1, y), (2, z)] : Array (Nat × Operand)).map (fun (i, x) => (i, a.eval x)) = #[(0, a.eval x), (1, a.eval y), (2, a.eval z)] := by simp
  simp only [ho, Sem.run_bind, hm, hr]
  exact h
def kZ (base : Nat) : Rel.Kd Rel.Gr := ⟨fun w u => ∃ B, u = .pointer (some ⟨B, 0, none⟩) ∧ base ≤ B ∧ Arr.Blk w B 25 zero7, fun _ _ _ h ⟨B, e, h1, h2⟩ => ⟨B, e, h1, blk_chg (new_chg h (fun _ => False)) h2 id⟩⟩
theorem run_iac {b n c k : Nat} (h : k < n) {z : Int} (hz : z = (k : Int)) (w : World) : (Instr.indexAt 22 (.slice (some ⟨b, 0, none⟩) n c) (.int .i64 z)).run Try.prog w = .ok (.pointer (some ⟨b, k, none⟩)) w := by
  subst hz
  simp [go_sem, h]
theorem run_mul2 {j : Nat} (h : j ≤ 1000) (x y : Operand) (w : World) : (do eqGuard .mul 3 x y (.int .i64 2) (.int .i64 (j : Nat)); binOp .mul 3 (.int .i64 2) (.int .i64 (j : Nat)) : Sem Value).run Try.prog w = .ok (.int .i64 ((2 * j : Nat) : Int)) w := by
  have e2 : IntKind.i64.wrap (2 * (j : Int)) = 2 * (j : Int) := by
    simp [IntKind.wrap, IntKind.bits, IntKind.signed]
    omega
  simp [go_sem, e2]
theorem run_add1 {j : Nat} (h : j ≤ 1000) (x y : Operand) (w : World) : (do eqGuard .add 3 x y (.int .i64 ((2 * j : Nat) : Int)) (.int .i64 1); binOp .add 3 (.int .i64 ((2 * j : Nat) : Int)) (.int .i64 1) : Sem Value).run Try.prog w = .ok (.int .i64 ((2 * j + 1 : Nat) : Int)) w := by
  have e2 : IntKind.i64.wrap (2 * (j : Int) + 1) = 2 * (j : Int) + 1 := by
    simp [IntKind.wrap, IntKind.bits, IntKind.signed]
    omega
  simp [go_sem, e2]
theorem run_bs_g (x y : Int) (w : World) : (Instr.buildSlice 23 1 #[(0, .agg #[.int .i64 x, .int .i64 y])]).run Try.prog w = .ok (.slice (some ⟨w.heap.size, 0, none⟩) 1 1) (w.alloc (.cells #[.int .i64 x, .int .i64 y] 44)) := by
  simp [go_sem]
theorem run_bd_g (x y : Int) (w : World) : (Instr.build 44 #[(0, .int .i64 x), (1, .int .i64 y)]).run Try.prog w = .ok (.agg #[.int .i64 x, .int .i64 y]) w := by
  simp [go_sem]
theorem run_st_g {ax : Option Addr} {p : Addr} {u : Value} {n c : Nat} (hc : w.cell? p = some u) (hf : w.frozen? p = false) : (Instr.storeAt 23 (.pointer (some p)) (.slice ax n c)).run Try.prog w = .ok () (w.setCell p (.slice ax n c)) := by
  simp [go_sem, hc, hf]
theorem run_ldgg {a : Addr} {b : Option Addr} {n c : Nat} (h : w.cell? a = some (.slice b n c)) : (Instr.loadAt 23 (.pointer (some a))).run Try.prog w = .ok (.slice b n c) w := by
  simp [go_sem, h]

abbrev OwG (w : World) (base : Nat) (v : Value) (l : List Lg) : Prop := Owns encG 2 44 w base v l
/-- A leg put behind the legs of the transaction in block B. -/
def phiG (W wL : World) (B : Nat) (cs : List Value) (ls : List Lg) (g : Lg) : Nat → List Value → World → Prop
  | 0, _, w => w = W.drew
  | 1, [u], w => u = .slice (some ⟨W.heap.size, 0, none⟩) 1 1 ∧ w = W.drew.alloc (.cells #[.int .i64 g.acct, .int .i64 g.amt] 44)
  | 2, [_, x], w => (∃ ax nx cx, x = .slice ax nx cx) ∧ OwG w wL.heap.size x (ls ++ [g]) ∧ Chg (fun k => k = B) wL w ∧ Arr.Blk w B 25 cs
  | 3, _, w => ∃ ax nx cx, OwG w wL.heap.size (.slice ax nx cx) (ls ++ [g]) ∧ Chg (fun k => k = B) wL w ∧ Arr.Blk w B 25 (cs.set 6 (.slice ax nx cx))
  | _, _, _ => False
theorem leg_append {W wL : World} {B n c : Nat} {av : Option Addr} {cs : List Value} {ls : List Lg} {g : Lg} (ty : TypeId) (ho : OwG W wL.heap.size (.slice av n c) ls) (hC : Chg (fun k => k = B) wL W) (hb : Arr.Blk W B 25 cs) (hB : B < wL.heap.size) (hk : ls.length ≤ 1000) :
    ∃ x w3, (Builtin.append_ #[23, 23] ty #[.slice av n c, .slice (some ⟨W.heap.size, 0, none⟩) 1 1]).run Try.prog (W.drew.alloc (.cells #[.int .i64 g.acct, .int .i64 g.amt] 44)) = .ok x w3 ∧
      (∃ ax nx cx, x = .slice ax nx cx) ∧ OwG w3 wL.heap.size x (ls ++ [g]) ∧ Chg (fun k => k = B) wL w3 ∧ Arr.Blk w3 B 25 cs := by
  have hb1 : Below W.heap.size W (W.drew.alloc (.cells #[.int .i64 g.acct, .int .i64 g.amt] 44)) := (below_drew W).alloc (Nat.le_refl _) _
  have hC1 : Chg (fun k => k = B) wL (W.drew.alloc (.cells #[.int .i64 g.acct, .int .i64 g.amt] 44)) := chg_alloc (chg_drew hC) _
  have ho1 : OwG (W.drew.alloc (.cells #[.int .i64 g.acct, .int .i64 g.amt] 44)) wL.heap.size (.slice av n c) ls := own_chg (new_chg hb1 (fun _ => False)) ho (fun _ _ => id)
  have hbk := Arr.blk_below hb hb1 (Arr.blk_lt hb)
  obtain ⟨x, w3, h1, h2, h3, h4⟩ := Two.run_append_apart encG_len (by decide) encG_one (P := Try.prog) 23 ty 44 Try.underlying23 (.agg #[.int .i64 0, .int .i64 0]) 16 info_leg rfl wL.heap.size _ ls ho1 (some ⟨W.heap.size, 0, none⟩) 1 1 [g] rfl
    (row_new encG_len W.drew [g] #[.int .i64 g.acct, .int .i64 g.amt] 44 _ rfl rfl) (fun h => by cases h) (by unfold maxLen; omega) (by omega) hC1.size
  obtain ⟨ax, cx, e, _⟩ := owns_row encG_len h2
  have hge : ∀ k, (Value.slice av n c).ownBlock = some k → wL.heap.size ≤ k := fun k hk => (World.ownsRow.lt ho1 k hk).1
  refine ⟨x, w3, h1, ⟨ax, _, cx, e⟩, h2, chg_grown hC1 h3 fun k hk => .inr (hge k hk), ?_⟩
  show w3.heap[B]? = _
  rw [h3.block B (Arr.blk_lt hbk) fun e => by have := hge B e.symm; omega]
  exact hbk
theorem lg_cell {W wL : World} {B : Nat} {v : Value} {cs : List Value} {ls : List Lg} {g : Lg} {j : Nat} {vs : List Value} (hj : j ≤ 1) (h : phiG W wL B cs ls g j vs w) (hb : Arr.Blk W B 25 cs) (hv : cs[6]? = some v) : w.cell? ⟨B, 6, none⟩ = some v := by
  have c0 := Arr.blk_cell hb 6
  rw [hv] at c0
  match j, vs, h, hj with
  | 0, _, h, _ => rw [show w = W.drew from h]; exact c0
  | 1, [u], h, _ => obtain ⟨_, rfl⟩ := h; exact cell_alloc c0
theorem lg_first {W wL : World} {B : Nat} {cs : List Value} {ls : List Lg} {g : Lg} {j : Nat} {vs : List Value} (hj : j ≤ 0) (h : phiG W wL B cs ls g j vs w) : w = W.drew := by
  match j, h, hj with
  | 0, h, _ => exact h

/-! ### Whether there is a transaction -/

theorem dec_of {l : List UInt8} {s1 s2 s3 s4 s5 s6 s7 s8 s9 : RS} {a b c na nl : Int} {k m : ByteArray} {ag ls : List Int} (h1 : rInt (some l) = (a, s1)) (h2 : rInt s1 = (b, s2)) (h3 : rInt s2 = (c, s3)) (h4 : rText 16 s3 = (k, s4)) (h5 : rText 16 s4 = (m, s5)) (h6 : rInt s5 = (na, s6)) (h7 : rInts na.toNat s6 = (ag, s7)) (h8 : rInt s7 = (nl, s8)) (h9 : rInts (2 * nl.toNat) s8 = (ls, s9)) :
    (na < 0 ∨ 8 < na → decT l = none) ∧ (nl < 0 ∨ 64 < nl → decT l = none) ∧ (s9 ≠ some [] → decT l = none) ∧ (¬ (na < 0 ∨ 8 < na) → ¬ (nl < 0 ∨ 64 < nl) → s9 = some [] → decT l = some ⟨a, b, c, k, m, ag, pairs ls⟩) := by
  have hp := parse_of h1 h2 h3 h4 h5 h6 h7 h8 h9
  refine ⟨fun c1 => ?_, fun c2 => ?_, fun c3 => ?_, fun c1 c2 c3 => ?_⟩
  · unfold decT
    rw [hp, if_pos c1]
  · unfold decT
    rw [hp]
    by_cases c1 : na < 0 ∨ 8 < na
    · rw [if_pos c1]
    · rw [if_neg c1, if_pos c2]
  · unfold decT
    rw [hp]
    by_cases c1 : na < 0 ∨ 8 < na
    · rw [if_pos c1]
    · rw [if_neg c1]
      by_cases c2 : nl < 0 ∨ 64 < nl
      · rw [if_pos c2]
      · rw [if_neg c2]
        cases s9 with
        | none => rfl
        | some r => cases r with
          | nil => exact absurd rfl c3
          | cons x r => rfl
  · unfold decT
    rw [hp, if_neg c1, if_neg c2, c3]
theorem rInt_dead {s s' : RS} {x : Int} (h : rInt s = (x, s')) (hs : s = none) : s' = none := by
  subst hs
  rw [rInt_none] at h
  injection h with _ h
  exact h.symm
theorem rText_dead {s s' : RS} {x : ByteArray} (h : rText 16 s = (x, s')) (hs : s = none) : s' = none := by
  subst hs
  have h2 : rText 16 none = (⟨#[]⟩, none) := rfl
  rw [h2] at h
  injection h with _ h
  exact h.symm
theorem rInts_stay {n : Nat} {s s' : RS} {x : List Int} (h : rInts n s = (x, s')) (hs : s = none) : s' = none := by
  subst hs
  obtain ⟨l, h2⟩ := rInts_none n
  rw [h2] at h
  injection h with _ h
  exact h.symm
theorem ne_some {s : RS} (h : s = none) : s ≠ some [] := by rw [h]; exact fun e => by cases e
end Go.Proofs.Ytcoiebeehgeggaa.Ent
