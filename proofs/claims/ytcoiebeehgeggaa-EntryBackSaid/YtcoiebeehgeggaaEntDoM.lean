/- Entry: what the landed Decode holds in memory. -/
import Derived.Test.YtcoiebeehgeggaaEntSt
import Derived.Test.YtcoiebeehgeggaaOctRdS
namespace Go.Proofs.Ytcoiebeehgeggaa.Ent
set_option maxRecDepth 100000
open Go.RowKit
open Go.Sort
open Kit
open Oct
open Foot
open Tre (Lst inI lst_keep lst_take lst_at lst_new lst_none i64_wf cells_int IntsL int_cell encI encI_len encI_one OwI own_chg' info_i run_ld2)
open Led (Lg encG encG_len encG_one Legs leg_cells info_leg)
set_option linter.unusedVariables false
variable {w w' : World}

/-- The result's cells, the transaction's, the Reader, the numbers that were read, all below E. -/
structure Dt (W w : World) (B D E p : Nat) (s : RS) (cs : List Value) (a5 : Option Addr) (n5 c5 : Nat) (ags : List Int) : Prop where
  st : St W w B cs
  rd : RdrS (fun k => B + 1 ≤ k ∧ k < D) w p s
  ag : IntsL w a5 n5 c5 ags
  agB : ∀ q, a5 = some q → D ≤ q.block ∧ q.block < E
  le : D ≤ E
  up : E ≤ w.heap.size
variable {W : World} {B D E p n5 c5 : Nat} {s s2 : RS} {cs : List Value} {a5 : Option Addr} {ags : List Int}
theorem dt_lt (h : Dt W w B D E p s cs a5 n5 c5 ags) : W.heap.size < B ∧ B < p ∧ p < D := ⟨h.st.lt, (rdrs_in h.rd).1, (rdrs_in h.rd).2⟩
theorem dt_rd (h : Dt W w B D E p s cs a5 n5 c5 ags) (hr : RdrS (fun k => B + 1 ≤ k ∧ k < D) w' p s2) (hg : w.grownBy w' (some p)) : Dt W w' B D E p s2 cs a5 n5 c5 ags := by
  have hC : Chg (fun k => some k = some p) w w' := grown_chg hg
  have hl := dt_lt h
  have hF : ∀ k, some k = some p → k = p := fun k e => by injection e
  refine ⟨⟨h.st.below.trans (chg_below hC (fun k hk => by have := hF k hk; omega) h.st.below.size), blk_chg hC h.st.res (fun e => by have := hF _ e; omega), blk_chg hC h.st.box (fun e => by have := hF _ e; omega), h.st.lt⟩, hr, lst_chg encI_len h.ag hC (fun q hq e => by have h1 := hF _ e; have h2 := h.agB q hq; omega), h.agB, h.le, Nat.le_trans h.up hC.size⟩
theorem dt_hi {F : Nat → Prop} (h : Dt W w B D E p s cs a5 n5 c5 ags) (hC : Chg F w w') (hF : ∀ k, F k → E ≤ k) : Dt W w' B D E p s cs a5 n5 c5 ags := by
  have hl := dt_lt h
  have hle := h.le
  exact ⟨⟨h.st.below.trans (chg_below hC (fun k hk => by have := hF k hk; omega) h.st.below.size), blk_chg hC h.st.res (fun e => by have := hF _ e; omega), blk_chg hC h.st.box (fun e => by have := hF _ e; omega), h.st.lt⟩, rdrs_chg h.rd hC (fun k hk hs => by have := hF k hk; omega), lst_chg encI_len h.ag hC (fun q hq e => by have h1 := hF _ e; have h2 := h.agB q hq; omega), h.agB, h.le, Nat.le_trans h.up hC.size⟩
theorem dt_below (h : Dt W w B D E p s cs a5 n5 c5 ags) (hb : Below w.heap.size w w') : Dt W w' B D E p s cs a5 n5 c5 ags := dt_hi (F := fun _ => False) h (new_chg hb _) fun _ => False.elim
theorem dt_set (h : Dt W w B D E p s cs a5 n5 c5 ags) (i : Nat) (v : Value) : Dt W (w.setCell ⟨B, i, none⟩ v) B D E p s (cs.set i v) a5 n5 c5 ags := by
  have hl := dt_lt h
  have hC := set_chg w B i v
  exact ⟨st_set h.st v, rdrs_chg h.rd hC (fun k hk hs => by omega), lst_chg encI_len h.ag hC (fun q hq e => by have h2 := h.agB q hq; omega), h.agB, h.le, Nat.le_trans h.up hC.size⟩
theorem dt_int {n : Int} (h : Dt W w B D E p s cs a5 n5 c5 ags) (hr : rInt s = (n, s2)) :
    Calls Try.prog 18 #[.pointer (some ⟨p, 0, none⟩)] w fun e w' => e = .returned (.int .i64 n) ∧ Dt W w' B D E p s2 cs a5 n5 c5 ags ∧ w.grownBy w' (some p) := by
  refine (int_rdr h.rd).mono ?_
  rw [hr]
  exact fun e w' h1 => ⟨h1.1, dt_rd h h1.2.1 h1.2.2, h1.2.2⟩
theorem dt_text {t : ByteArray} (h : Dt W w B D E p s cs a5 n5 c5 ags) (hr : rText 16 s = (t, s2)) :
    Calls Try.prog 19 #[.pointer (some ⟨p, 0, none⟩), .int .i64 16] w fun e w' => e = .returned (.string t) ∧ Dt W w' B D E p s2 cs a5 n5 c5 ags := by
  refine (text_rdr 16 h.rd).mono ?_
  rw [hr]
  exact fun e w' h1 => ⟨h1.1, dt_rd h h1.2.1 h1.2.2⟩
theorem own_rd {α : Type} {enc : α → List Value} {size : Nat} {T : TypeId} {v : Value} {xs : List α} (h : Dt W w B D E p s cs a5 n5 c5 ags) (ho : Owns enc size T w E v xs) (hg : w.grownBy w' (some p)) : Owns enc size T w' E v xs :=
  own_chg (grown_chg hg) ho fun g hg2 e => by
    have h1 := (World.ownsRow.lt ho g hg2).1
    have h2 := dt_lt h
    have h3 := h.le
    injection e; omega
/-- A list that grows, above all else. -/
structure Gr {α : Type} (enc : α → List Value) (size : Nat) (T : TypeId) (i : Nat) (W : World) (B D E p : Nat) (a5 : Option Addr) (n5 c5 : Nat) (ags : List Int) (cs : List Value) (s : RS) (xs : List α) (v : Value) (w : World) : Prop where
  dt : Dt W w B D E p s (cs.set i v) a5 n5 c5 ags
  own : Owns enc size T w E v xs
variable {α : Type} {enc : α → List Value} {size i : Nat} {T : TypeId} {xs : List α} {v : Value} {x : α}
theorem gr_below (h : Gr enc size T i W B D E p a5 n5 c5 ags cs s xs v w) (hb : Below w.heap.size w w') : Gr enc size T i W B D E p a5 n5 c5 ags cs s xs v w' := ⟨dt_below h.dt hb, own_chg (new_chg hb (fun _ => False)) h.own fun _ _ => id⟩
theorem gr_cell (h : Gr enc size T i W B D E p a5 n5 c5 ags cs s xs v w) (hi : i < cs.length) : w.cell? ⟨B, i, none⟩ = some v := st_cell h.dt.st (by simp [hi])
theorem gr_int {n : Int} (h : Gr enc size T i W B D E p a5 n5 c5 ags cs s xs v w) (hr : rInt s = (n, s2)) :
    Calls Try.prog 18 #[.pointer (some ⟨p, 0, none⟩)] w fun e w' => e = .returned (.int .i64 n) ∧ Gr enc size T i W B D E p a5 n5 c5 ags cs s2 xs v w' :=
  (dt_int h.dt hr).mono fun e w' ⟨h1, h2, h3⟩ => ⟨h1, h2, own_rd h.dt h.own h3⟩
/-- The append's result is stored. -/
theorem gr_push {v' : Value} (h : Gr enc size T i W B D E p a5 n5 c5 ags cs s xs v w) (ho : Owns enc size T w' E v' (xs ++ [x])) (hg : w.grownBy w' v.ownBlock) :
    w'.cell? ⟨B, i, none⟩ = (cs.set i v)[i]? ∧ w'.frozen? ⟨B, i, none⟩ = false ∧ Gr enc size T i W B D E p a5 n5 c5 ags cs s (xs ++ [x]) v' (w'.setCell ⟨B, i, none⟩ v') := by
  have hC : Chg (fun k => some k = v.ownBlock) w w' := grown_chg hg
  have hd := dt_hi h.dt hC fun k hk => (World.ownsRow.lt h.own k hk.symm).1
  have hl := dt_lt hd
  have hle := hd.le
  refine ⟨Arr.blk_cell hd.st.box i, st_frozen hd.st i, ?_, own_set_far ho (fun g hg2 => by have := (World.ownsRow.lt ho g hg2).1; omega) _ _⟩
  have h2 := dt_set hd i v'
  rwa [List.set_set] at h2
def phiL (Dd : RS → List α → Value → World → Prop) (wr : World) (E : Nat) (enc : α → List Value) (size : Nat) (T : TypeId) (s2 : RS) (xs : List α) (v : Value) (x : α) (u0 : Value) : Nat → List Value → World → Prop
  | 0, _, w => w = wr.drew
  | 1, [u], w => u = u0 ∧ Dd s2 xs v w
  | 2, [_, q], w => ∃ g, q = .slice (some ⟨g, 0, none⟩) 1 1 ∧ Row enc size w (some ⟨g, 0, none⟩) [x] ∧ Dd s2 xs v w
  | 3, [_, _, y], w => (∃ ax nx cx, y = .slice ax nx cx) ∧ ∃ w0, Dd s2 xs v w0 ∧ Owns enc size T w E y (xs ++ [x]) ∧ w0.grownBy w v.ownBlock
  | 4, _, w => ∃ ax nx cx, Dd s2 (xs ++ [x]) (.slice ax nx cx) w
  | _, _, _ => False
theorem phil_cell {Dd : RS → List α → Value → World → Prop} {wr : World} {u0 : Value} {j : Nat} {vs : List Value} {Q : World → Prop} (hj : j ≤ 2) (h : phiL Dd wr E enc size T s2 xs v x u0 j vs w) (h0 : Q wr.drew) (h1 : ∀ w, Dd s2 xs v w → Q w) : Q w := by
  match j, vs, h, hj with
  | 0, _, h, _ => rw [show w = wr.drew from h]; exact h0
  | 1, [u], h, _ => exact h1 w h.2
  | 2, [_, q], h, _ => obtain ⟨g, _, _, hd⟩ := h; exact h1 w hd
/-- Two numbers put together. -/
def phiP (Dd : RS → List α → Value → World → Prop) (wr : World) (E : Nat) (enc : α → List Value) (size : Nat) (T : TypeId) (s1 s2 : RS) (xs : List α) (v : Value) (x : α) (u0 u1 ua : Value) : Nat → List Value → World → Prop
  | 0, _, w => w = wr.drew
  | 1, [u], w => u = u0 ∧ Dd s1 xs v w
  | 2, [u, z], w => u = u0 ∧ z = u1 ∧ Dd s2 xs v w
  | 3, [_, _, z], w => z = ua ∧ Dd s2 xs v w
  | 4, [_, _, _, q], w => ∃ g, q = .slice (some ⟨g, 0, none⟩) 1 1 ∧ Row enc size w (some ⟨g, 0, none⟩) [x] ∧ Dd s2 xs v w
  | 5, [_, _, _, _, y], w => (∃ ax nx cx, y = .slice ax nx cx) ∧ ∃ w0, Dd s2 xs v w0 ∧ Owns enc size T w E y (xs ++ [x]) ∧ w0.grownBy w v.ownBlock
  | 6, _, w => ∃ ax nx cx, Dd s2 (xs ++ [x]) (.slice ax nx cx) w
  | _, _, _ => False
theorem phip_cell {Dd : RS → List α → Value → World → Prop} {wr : World} {s1 : RS} {u0 u1 ua : Value} {j : Nat} {vs : List Value} {Q : World → Prop} (hj : j ≤ 4) (h : phiP Dd wr E enc size T s1 s2 xs v x u0 u1 ua j vs w) (h0 : Q wr.drew) (h1 : ∀ s w, Dd s xs v w → Q w) : Q w := by
  match j, vs, h, hj with
  | 0, _, h, _ => rw [show w = wr.drew from h]; exact h0
  | 1, [u], h, _ => exact h1 _ w h.2
  | 2, [u, z], h, _ => exact h1 _ w h.2.2
  | 3, [_, _, z], h, _ => exact h1 _ w h.2
  | 4, [_, _, _, q], h, _ => obtain ⟨g, _, _, hd⟩ := h; exact h1 _ w hd
theorem int_append {base g : Nat} {v : Value} {ks : List Int} {x : Int} (ty : TypeId) (ho : Owns encI 1 3 w base v ks) (hr : Kit.Row encI 1 w (some ⟨g, 0, none⟩) [x]) (hb : base ≤ w.heap.size) (hk : ks.length ≤ 1000) :
    ∃ u w3, (Builtin.append_ #[22, 22] ty #[v, .slice (some ⟨g, 0, none⟩) 1 1]).run Try.prog w = .ok u w3 ∧ (∃ ax nx cx, u = .slice ax nx cx) ∧ Owns encI 1 3 w3 base u (ks ++ [x]) ∧ w.grownBy w3 v.ownBlock := by
  obtain ⟨u, w3, h1, h2, h3, h4⟩ := Two.run_append_apart encI_len (by decide) encI_one (P := Try.prog) 22 ty 3 Try.underlying22 (.int .i64 0) 8 info_i rfl base _ ks ho (some ⟨g, 0, none⟩) 1 1 [x] rfl hr (fun h => by cases h) (by unfold maxLen; omega) (by omega) hb
  obtain ⟨ax, cx, e, _⟩ := owns_row encI_len h2
  exact ⟨u, w3, h1, ⟨ax, _, cx, e⟩, h2, h3⟩
theorem lg_append {base g : Nat} {v : Value} {ks : List Lg} {x : Lg} (ty : TypeId) (ho : Owns encG 2 44 w base v ks) (hr : Kit.Row encG 2 w (some ⟨g, 0, none⟩) [x]) (hb : base ≤ w.heap.size) (hk : ks.length ≤ 1000) :
    ∃ u w3, (Builtin.append_ #[23, 23] ty #[v, .slice (some ⟨g, 0, none⟩) 1 1]).run Try.prog w = .ok u w3 ∧ (∃ ax nx cx, u = .slice ax nx cx) ∧ Owns encG 2 44 w3 base u (ks ++ [x]) ∧ w.grownBy w3 v.ownBlock := by
  obtain ⟨u, w3, h1, h2, h3, h4⟩ := Two.run_append_apart encG_len (by decide) encG_one (P := Try.prog) 23 ty 44 Try.underlying23 (.agg #[.int .i64 0, .int .i64 0]) 16 info_leg rfl base _ ks ho (some ⟨g, 0, none⟩) 1 1 [x] rfl hr (fun h => by cases h) (by unfold maxLen; omega) (by omega) hb
  obtain ⟨ax, cx, e, _⟩ := owns_row encG_len h2
  exact ⟨u, w3, h1, ⟨ax, _, cx, e⟩, h2, h3⟩
theorem run_st_i {ax : Option Addr} {p : Addr} {u : Value} {n c : Nat} (hc : w.cell? p = some u) (hf : w.frozen? p = false) : (Instr.storeAt 22 (.pointer (some p)) (.slice ax n c)).run Try.prog w = .ok () (w.setCell p (.slice ax n c)) := by
  simp [go_sem, hc, hf]
theorem run_ldv {a : Addr} {v : Value} (h : w.cell? a = some v) : (Instr.loadAt 22 (.pointer (some a))).run Try.prog w = .ok v w := by
  simp [go_sem, h]
theorem run_ldw {a : Addr} {v : Value} (h : w.cell? a = some v) : (Instr.loadAt 23 (.pointer (some a))).run Try.prog w = .ok v w := by
  simp [go_sem, h]
theorem run_bs_iv (x : Int) (w : World) : (Instr.buildSlice 22 1 #[(0, .int .i64 x)]).run Try.prog w = .ok (.slice (some ⟨w.heap.size, 0, none⟩) 1 1) (w.alloc (.cells #[.int .i64 x] 3)) := by
  simp [go_sem]
theorem row_i1 (w : World) (x : Int) : Kit.Row encI 1 (w.alloc (.cells #[.int .i64 x] 3)) (some ⟨w.heap.size, 0, none⟩) [x] := row_new encI_len w [x] _ _ _ rfl rfl
theorem row_g1 (w : World) (x y : Int) : Kit.Row encG 2 (w.alloc (.cells #[.int .i64 x, .int .i64 y] 44)) (some ⟨w.heap.size, 0, none⟩) [⟨x, y⟩] := row_new encG_len w [⟨x, y⟩] _ _ _ rfl rfl
/-- Pairs, ags they are read. -/
theorem pairs_snoc : ∀ (m : Nat) (l : List Int), l.length = 2 * m → ∀ x y, pairs (l ++ [x, y]) = pairs l ++ [⟨x, y⟩]
  | 0, [], h, x, y => rfl
  | m + 1, [], h, x, y => by simp at h
  | 0, a :: l, h, x, y => by simp at h
  | m + 1, [a], h, x, y => by simp at h; omega
  | m + 1, a :: b :: r, h, x, y => by
    have := pairs_snoc m r (by simp at h; omega) x y
    show (⟨a, b⟩ : Lg) :: pairs (r ++ [x, y]) = _
    rw [this]; rfl
theorem two_more {j : Nat} {s s1 s2 : RS} {x y : Int} (h1 : rInt (rInts (2 * j) s).2 = (x, s1)) (h2 : rInt s1 = (y, s2)) : (rInts (2 * (j + 1)) s).2 = s2 ∧ pairs (rInts (2 * (j + 1)) s).1 = pairs (rInts (2 * j) s).1 ++ [⟨x, y⟩] := by
  have e1 := rInts_snoc (2 * j) s
  rw [h1] at e1
  have e2 := rInts_snoc (2 * j + 1) s
  rw [e1] at e2
  simp only [h2] at e2
  rw [show 2 * (j + 1) = 2 * j + 1 + 1 by omega, e2]
  refine ⟨rfl, ?_⟩
  simp only
  rw [List.append_assoc]
  exact pairs_snoc j _ (rInts_len _ _) x y
theorem dt_new {w1 : World} {l : List UInt8} (h : St W w1 B zero7) (hB : w1.heap.size = B + 1) (hr : Rdr w1.heap.size w p (some l)) (hb : Below w1.heap.size w1 w) : Dt W w B w.heap.size w.heap.size p (some l) zero7 none 0 0 [] := by
  have h2 := rdrs_fix hr
  rw [hB] at h2
  exact ⟨st_below h hb, h2, lst_none _ _ _, (fun q hq => by cases hq), Nat.le_refl _, Nat.le_refl _⟩
theorem own_il {base : Nat} {l : List Int} (h : OwI w base v l) : ∃ a n c, v = .slice a n c ∧ IntsL w a n c l ∧ ∀ q, a = some q → base ≤ q.block ∧ q.block < w.heap.size := by
  have h0 := World.ownsRow.lt h
  obtain ⟨a, c, rfl, h1, h2, h3, h4⟩ := owns_row encI_len h
  refine ⟨a, _, c, rfl, ⟨rfl, h1, h2, fun e => ⟨by have := h3 e; omega, h3 e⟩, h4⟩, fun p hp => ?_⟩
  subst hp
  exact h0 p.block rfl
/-- The numbers are read: what grows now lies above them. -/
theorem gr_next {s : RS} {xs : List Int} {c0 c1 c2 c3 c4 c6 z : Value} (h : Gr encI 1 3 5 W B D D p none 0 0 [] [c0, c1, c2, c3, c4, z, c6] s xs v w) : ∃ a n c, v = .slice a n c ∧ Dt W w B D w.heap.size p s [c0, c1, c2, c3, c4, .slice a n c, c6] a n c xs := by
  obtain ⟨a, n, c, rfl, h1, h2⟩ := own_il h.own
  exact ⟨a, n, c, rfl, h.dt.st, h.dt.rd, h1, h2, h.dt.up, Nat.le_refl _⟩
theorem gr_legs {xs : List Lg} (h : Gr encG 2 44 6 W B D E p a5 n5 c5 ags cs s xs v w) : ∃ a n c, v = .slice a n c ∧ Legs w a n c xs ∧ ∀ q, a = some q → E ≤ q.block := by
  obtain ⟨a, c, e, -⟩ := owns_row encG_len h.own
  have h1 := h.own
  rw [e] at h1
  exact ⟨a, _, c, e, own_legs h1⟩
end Go.Proofs.Ytcoiebeehgeggaa.Ent
