/- Entry: what a Decode holds in memory, step by step. -/
import Derived.Test.YtcoiebeehgeggaaEntDcA
import Derived.Test.YtcoiebeehgeggaaPut
namespace Go.Proofs.Ytcoiebeehgeggaa.Ent
set_option maxRecDepth 100000
open Go.RowKit
open Go.Sort
open Kit
open Oct
open Foot
open Tre (Lst inI lst_keep lst_take lst_at lst_new lst_none i64_wf cells_int IntsL int_cell encI encI_len encI_one OwI own_chg' info_i run_ld2 newI_own)
open Led (Lg encG encG_len encG_one Legs leg_cells info_leg)
set_option linter.unusedVariables false
variable {w w' : World}

/-- The result's cells and the transaction's. -/
structure St (W w : World) (B : Nat) (cs : List Value) : Prop where
  below : Below W.heap.size W w
  res : Arr.Blk w W.heap.size 25 zero7
  box : Arr.Blk w B 25 cs
  lt : W.heap.size < B
theorem st_below {W : World} {B : Nat} {cs : List Value} (h : St W w B cs) (hb : Below w.heap.size w w') : St W w' B cs :=
  ⟨below_keep h.below hb, Arr.blk_below h.res hb (Arr.blk_lt h.res), Arr.blk_below h.box hb (Arr.blk_lt h.box), h.lt⟩
theorem st_set {W : World} {B i : Nat} {cs : List Value} (h : St W w B cs) (v : Value) : St W (w.setCell ⟨B, i, none⟩ v) B (cs.set i v) :=
  ⟨Arr.below_set h.below (Nat.le_of_lt h.lt) i v, Arr.blk_set_far h.res (Nat.ne_of_lt h.lt) i v, Arr.blk_set h.box i v, h.lt⟩
theorem st_row {W : World} {B : Nat} {cs : List Value} (hb : Below W.heap.size W w) (hr : Arr.Blk w W.heap.size 25 zero7) (hx : Arr.Blk w B 25 cs) (hlt : W.heap.size < B) (ds : List Value) : St W (w.setRow B ds.toArray) B ds :=
  ⟨Arr.below_row hb (Nat.le_of_lt hlt) ds.toArray, Arr.blk_row_far hr (Nat.ne_of_lt hlt) ds.toArray, Arr.blk_row hx ds, hlt⟩
theorem st_cell {W : World} {B i : Nat} {cs : List Value} {v : Value} (h : St W w B cs) (hv : cs[i]? = some v) : w.cell? ⟨B, i, none⟩ = some v := by rw [Arr.blk_cell h.box, hv]
theorem st_frozen {W : World} {B : Nat} {cs : List Value} (h : St W w B cs) (i : Nat) : w.frozen? ⟨B, i, none⟩ = false := Arr.blk_frozen h.box i
theorem st_chg {W : World} {B : Nat} {cs cs' : List Value} (h : St W w B cs) (hC : Chg (fun k => k = B) w w') (hb : Arr.Blk w' B 25 cs') : St W w' B cs' :=
  ⟨h.below.trans (chg_below hC (fun k hk => by have := h.lt; omega) h.below.size), blk_chg hC h.res (Nat.ne_of_lt h.lt), hb, h.lt⟩
theorem lst_chg {α : Type} {enc : α → List Value} {size : Nat} (hs : ∀ x, (enc x).length = size) {F : Nat → Prop} {a : Option Addr} {n c : Nat} {l : List α} (h : Lst enc size w a n c l) (hC : Chg F w w') (hf : ∀ p, a = some p → ¬ F p.block) : Lst enc size w' a n c l := by
  refine ⟨h.len, h.cap, h.max, h.nil, ?_⟩
  rcases h.row with e | ⟨b, o, e, hc⟩
  · exact .inl e
  · subst e
    exact row_chg hs hC h.row (hf _ rfl)
/-- Numbers above the transaction's block. -/
structure Up (w : World) (B : Nat) (a : Option Addr) (n c : Nat) (l : List Int) : Prop where
  lst : IntsL w a n c l
  up : ∀ p, a = some p → B < p.block
theorem up_keep {B n c : Nat} {a : Option Addr} {l : List Int} (h : Up w B a n c l) (hb : Below w.heap.size w w') : Up w' B a n c l := ⟨lst_keep encI_len h.lst hb, h.up⟩
theorem up_chg {B n c : Nat} {a : Option Addr} {l : List Int} {F : Nat → Prop} (h : Up w B a n c l) (hC : Chg F w w') (hF : ∀ k, F k → k ≤ B) : Up w' B a n c l := ⟨lst_chg encI_len h.lst hC fun p hp hf => by have := h.up p hp; have := hF _ hf; omega, h.up⟩
theorem run_iab {b o n c k : Nat} (h : k < n) {z : Int} (hz : z = (k : Int)) (w : World) : (Instr.indexAt 22 (.slice (some ⟨b, o, none⟩) n c) (.int .i64 z)).run Try.prog w = .ok (.pointer (some ⟨b, o + k, none⟩)) w := by
  subst hz
  simp [go_sem, h]
def zTv : Tv := ⟨zeroT, none, 0, 0, none, 0, 0⟩
theorem zTv_in (w : World) : zTv.In w := ⟨lst_none _ _ _, lst_none _ _ _, by unfold maxLen zTv zeroT; decide, by unfold maxLen zTv zeroT; decide⟩
/-- A refusal's answer. -/
theorem dec_bad {W : World} {l : List UInt8} (h : decT l = none) (hb : Below W.heap.size W w) : ∃ x : Tv, Ending.returned (.tuple #[.agg zero7.toArray, .int .i64 3]) = .returned (.tuple #[valV x, .int .i64 (decE l)]) ∧ x.t = decV l ∧ x.In w ∧ Below W.heap.size W w :=
  ⟨zTv, by rw [(dec_no h).1]; rfl, by rw [(dec_no h).2]; rfl, zTv_in w, hb⟩
theorem box_leg {w w4 wL : World} {B : Nat} {cs : List Value} {ls : List Lg} {ax : Option Addr} {nx cx : Nat} (ho : OwG w wL.heap.size (.slice ax nx cx) ls) (hC : Chg (fun k => k = B) wL w) (hb : Arr.Blk w B 25 cs) (hB : B < wL.heap.size) :
    OwG (w.setCell ⟨B, 6, none⟩ (.slice ax nx cx)) wL.heap.size (.slice ax nx cx) ls ∧ Chg (fun k => k = B) wL (w.setCell ⟨B, 6, none⟩ (.slice ax nx cx)) ∧ Arr.Blk (w.setCell ⟨B, 6, none⟩ (.slice ax nx cx)) B 25 (cs.set 6 (.slice ax nx cx)) :=
  ⟨own_set_far ho (fun g hg => by have := (World.ownsRow.lt ho g hg).1; omega) 6 _, chg_set (F := fun k => k = B) hC (.inl rfl) 6 _, Arr.blk_set hb 6 _⟩
theorem int_cell2 {b o n c k : Nat} {l : List Int} {x : Int} (h : IntsL w (some ⟨b, o, none⟩) n c l) (hx : l[k]? = some x) : w.cell? ⟨b, o + k, none⟩ = some (.int .i64 x) := by
  obtain ⟨hk, e⟩ := List.getElem?_eq_some_iff.1 hx
  have h2 := int_cell h hk
  rwa [e] at h2
theorem own_legs {base n c : Nat} {a : Option Addr} {l : List Lg} (h : OwG w base (.slice a n c) l) : Legs w a n c l ∧ ∀ p, a = some p → base ≤ p.block := by
  have h0 := World.ownsRow.lt h
  obtain ⟨a', c', e, h1, h2, h3, h4⟩ := owns_row encG_len h
  injection e with e1 e2 e3
  subst e1 e2 e3
  refine ⟨⟨rfl, h1, h2, fun e => ⟨by have := h3 e; omega, h3 e⟩, h4⟩, fun p hp => ?_⟩
  subst hp
  exact (h0 p.block rfl).1
theorem legs_next {l : List Lg} {j : Nat} {g : Lg} (h : l[j]? = some g) : l.take (j + 1) = l.take j ++ [g] := by
  obtain ⟨hk, e⟩ := List.getElem?_eq_some_iff.1 h
  rw [List.take_succ_eq_append_getElem hk, e]
end Go.Proofs.Ytcoiebeehgeggaa.Ent
