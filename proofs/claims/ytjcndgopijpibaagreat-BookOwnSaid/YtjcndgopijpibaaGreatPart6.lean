/- Common to the claims of this seat, part 6: texts that were written one by one, laid behind one another. -/
import Derived.Laws.Tables
import Derived.Laws.Rows
import Derived.Orders
import Derived.RegionTactic
import Derived.WalkKit
import Derived.OwnWalk
import Derived.Below
import Derived.BigRegion
import Derived.Test.YtjcndgopijpibaaGreatPart1
import Derived.Test.YtjcndgopijpibaaGreatPart3
import Derived.Test.YtjcndgopijpibaaGreatPart5
/- Common: arrays: blocks of cells that are the call's own. -/
namespace Go.Proofs.YtjcndgopijpibaaGreat.Arr
open Go.RowKit
open Go.Sort
open Kit
def Blk (w : World) (b : Nat) (t : TypeId) (cs : List Value) : Prop := w.heap[b]? = some (.cells cs.toArray t (0, 0))
theorem blk_cell {w : World} {b : Nat} {t : TypeId} {cs : List Value} (h : Blk w b t cs) (j : Nat) : w.cell? ⟨b, j, none⟩ = cs[j]? := by
  unfold Blk at h
  simp [World.cell?, h]
theorem blk_frozen {w : World} {b : Nat} {t : TypeId} {cs : List Value} (h : Blk w b t cs) (j : Nat) : w.frozen? ⟨b, j, none⟩ = false := by
  unfold Blk at h
  simp [World.frozen?, h]
theorem blk_lt {w : World} {b : Nat} {t : TypeId} {cs : List Value} (h : Blk w b t cs) : b < w.heap.size := (Array.getElem?_eq_some_iff.1 h).1
theorem blk_row {w : World} {b : Nat} {t : TypeId} {cs : List Value} (h : Blk w b t cs) (ds : List Value) : Blk (w.setRow b ds.toArray) b t ds := setRow_heap w b _ _ t _ h
theorem blk_row_far {w : World} {b b' : Nat} {t : TypeId} {cs : List Value} (h : Blk w b t cs) (hne : b ≠ b') (ds : Array Value) : Blk (w.setRow b' ds) b t cs := by
  unfold Blk; rw [setRow_other w b' b ds hne]; exact h
theorem blk_set {w : World} {b : Nat} {t : TypeId} {cs : List Value} (h : Blk w b t cs) (i : Nat) (v : Value) : Blk (w.setCell ⟨b, i, none⟩ v) b t (cs.set i v) := by
  rw [setCell_eq_setRow w b i _ t _ v h]
  have := blk_row h (cs.set i v)
  simpa using this
theorem blk_set_far {w : World} {b b' : Nat} {t : TypeId} {cs : List Value} (h : Blk w b t cs) (hne : b ≠ b') (i : Nat) (v : Value) : Blk (w.setCell ⟨b', i, none⟩ v) b t cs := by
  unfold Blk World.setCell at *
  simp [Array.getElem?_modify, Ne.symm hne, h]
theorem blk_new (w : World) (b : Nat) (t : TypeId) (cs : List Value) (h : b = w.heap.size) : Blk (w.alloc (.cells cs.toArray t)) b t cs := by
  subst h
  unfold Blk World.alloc
  simp
theorem blk_alloc {w : World} {b : Nat} {t : TypeId} {cs : List Value} (h : Blk w b t cs) (o : Obj) : Blk (w.alloc o) b t cs := by
  have hlt := blk_lt h
  unfold Blk World.alloc at *
  simp [Array.getElem?_push, Nat.ne_of_lt hlt, h]
theorem blk_below {w w' : World} {B b : Nat} {t : TypeId} {cs : List Value} (h : Blk w b t cs) (hb : Below B w w') (hlt : b < B) : Blk w' b t cs := by
  unfold Blk; rw [hb.block b hlt]; exact h
theorem below_set {w w' : World} {B b : Nat} (h : Below B w w') (hb : B ≤ b) (i : Nat) (v : Value) : Below B w (w'.setCell ⟨b, i, none⟩ v) := by
  refine ⟨h.os, h.tape, h.output, by rw [setCell_size]; exact h.size, fun k hk => ?_⟩
  rw [← h.block k hk]
  unfold World.setCell
  have : b ≠ k := by omega
  simp [Array.getElem?_modify, this]
theorem below_row {w w' : World} {B b : Nat} (h : Below B w w') (hb : B ≤ b) (ds : Array Value) : Below B w (w'.setRow b ds) := by
  refine ⟨h.os, h.tape, h.output, by rw [setRow_size]; exact h.size, fun k hk => ?_⟩
  rw [← h.block k hk, setRow_other _ _ _ _ (by omega)]
theorem wpList_store_blk {P : Program} {ops : Array Oper} {rest : List Oper} {o : Oper} {a : Act} {w : World} {Q : Exit → Act → World → Prop} (hgd : o.guard = none) (ty : TypeId) (x y : Operand) (ho : o.op = .store ty x y)
    (g : Nat) (ds : List Value) (hx : a.eval x = .pointer (some ⟨g, 0, none⟩)) (hy : a.eval y = .agg ds.toArray) (cs : List Value) (t : TypeId) (hB : Blk w g t cs) (hi : (P.info? ty).map (·.size) = some ds.length)
    (hold : cs.length = ds.length) (h1 : ds.all (·.oneCell') = true) (B : Nat) (hb : B ≤ g)
    (h : ∀ w', Blk w' g t ds → Below B w w' → wpList P ops Q rest (a.put o.dst undef) w') : wpList P ops Q (o :: rest) a w :=
  wpList_store_row hgd ty x y ho g ds.toArray hx hy t cs.toArray hB (by simpa using hi) (by simpa using hold) (by simpa using h1) (h _ (blk_row hB ds) (below_row (Below.refl _ _) hb _))
theorem wpList_load_blk {P : Program} {ops : Array Oper} {rest : List Oper} {o : Oper} {a : Act} {w : World} {Q : Exit → Act → World → Prop} (hgd : o.guard = none) (ty : TypeId) (x : Operand) (ho : o.op = .load ty x)
    (g : Nat) (hx : a.eval x = .pointer (some ⟨g, 0, none⟩)) (cs : List Value) (t : TypeId) (hB : Blk w g t cs) (d : TypeDesc) (hu : P.underlying ty = some d) (hd : (match d with | .struct _ | .array _ _ => true | _ => false) = true)
    (hi : (P.info? ty).map (·.size) = some cs.length)
    (h : wpList P ops Q rest (a.put o.dst (.agg cs.toArray)) w) : wpList P ops Q (o :: rest) a w :=
  wpList_load_row hgd ty x ho g hx t cs.toArray (0, 0) d hB hu hd (by simpa using hi) h
end Go.Proofs.YtjcndgopijpibaaGreat.Arr
/- Common: objects in memory, each with the blocks that are its own: what a call changes lies in these, or is new. -/
namespace Go.Proofs.YtjcndgopijpibaaGreat.Foot
open Go.RowKit
open Go.Sort
open Kit
set_option linter.unusedVariables false
structure Chg (F : Nat → Prop) (w w' : World) : Prop where
  os : w'.os = w.os
  tape : w'.tape = w.tape
  output : w'.output = w.output
  size : w.heap.size ≤ w'.heap.size
  block : ∀ k, k < w.heap.size → ¬ F k → w'.heap[k]? = w.heap[k]?
variable {F G : Nat → Prop} {w w1 w2 w' : World}
theorem chg_refl (F : Nat → Prop) (w : World) : Chg F w w := ⟨rfl, rfl, rfl, Nat.le_refl _, fun _ _ _ => rfl⟩
theorem chg_mono (h : Chg F w w') (hf : ∀ k, k < w.heap.size → F k → G k) : Chg G w w' := ⟨h.os, h.tape, h.output, h.size, fun k hk hg => h.block k hk fun h' => hg (hf k hk h')⟩
theorem chg_trans (h : Chg F w w1) (k : Chg G w1 w2) (hg : ∀ x, G x → F x ∨ w.heap.size ≤ x) : Chg F w w2 :=
  ⟨k.os.trans h.os, k.tape.trans h.tape, k.output.trans h.output, Nat.le_trans h.size k.size, fun x hx hf => (k.block x (Nat.lt_of_lt_of_le hx h.size) fun h' => by
    rcases hg x h' with h1 | h1
    · exact hf h1
    · omega).trans (h.block x hx hf)⟩
theorem chg_drew (h : Chg F w w1) : Chg F w w1.drew := ⟨h.os, h.tape, h.output, h.size, h.block⟩
theorem chg_set (h : Chg F w w1) {b : Nat} (hb : F b ∨ w.heap.size ≤ b) (i : Nat) (v : Value) : Chg F w (w1.setCell ⟨b, i, none⟩ v) :=
  ⟨h.os, h.tape, h.output, by rw [setCell_size]; exact h.size, fun k hk hf => (Below.heap_setCell w1 _ v k fun e => by
    subst e
    rcases hb with h1 | h1
    · exact hf h1
    · omega).trans (h.block k hk hf)⟩
theorem chg_row (h : Chg F w w1) {b : Nat} (hb : F b ∨ w.heap.size ≤ b) (ds : Array Value) : Chg F w (w1.setRow b ds) :=
  ⟨h.os, h.tape, h.output, by rw [setRow_size]; exact h.size, fun k hk hf => (setRow_other w1 b k ds fun e => by
    subst e
    rcases hb with h1 | h1
    · exact hf h1
    · omega).trans (h.block k hk hf)⟩
theorem chg_grown (h : Chg F w w1) {row : Option Nat} (hg : w1.grownBy w2 row) (hr : ∀ k, row = some k → F k ∨ w.heap.size ≤ k) : Chg F w w2 :=
  chg_trans h (G := fun k => some k = row) ⟨hg.os, hg.tape, hg.output, hg.size, fun k hk hn => hg.block k hk hn⟩ fun x hx => hr x hx.symm
theorem chg_below (h : Chg F w w') {B : Nat} (hF : ∀ k, F k → B ≤ k) (hB : B ≤ w.heap.size) : Below B w w' := ⟨h.os, h.tape, h.output, h.size, fun k hk => h.block k (by omega) fun h' => by have := hF k h'; omega⟩
theorem new_chg (h : Below w.heap.size w w') (F : Nat → Prop) : Chg F w w' := ⟨h.os, h.tape, h.output, h.size, fun k hk _ => h.block k hk⟩
theorem cell_chg (h : Chg F w w') {b o : Nat} {v : Value} (hc : w.cell? ⟨b, o, none⟩ = some v) (hb : ¬ F b) : w'.cell? ⟨b, o, none⟩ = some v := by
  rw [World.cell?_of_block (w := w) (a := ⟨b, o, none⟩) (h.block b (World.block_lt_of_cell? w _ hc) hb)]; exact hc
theorem blk_chg (h : Chg F w w') {b : Nat} {t : TypeId} {cs : List Value} (hc : Arr.Blk w b t cs) (hb : ¬ F b) : Arr.Blk w' b t cs := by
  unfold Arr.Blk
  rw [h.block b (Arr.blk_lt hc) hb]; exact hc
theorem own_chg {α : Type} {enc : α → List Value} {size : Nat} {e : TypeId} {base : Nat} {v : Value} {l : List α} (h : Chg F w w') (ho : Owns enc size e w base v l) (hb : ∀ g, v.ownBlock = some g → ¬ F g) : Owns enc size e w' base v l := by
  refine ⟨ho.1, ?_⟩
  rcases ho.2 with hn | ⟨g, cap, cur, rfl, h1, hg, rest⟩
  · exact .inl hn
  · refine .inr ⟨g, cap, cur, rfl, h1, ?_, rest⟩
    rw [h.block g (Array.getElem?_eq_some_iff.1 hg).1 (hb g rfl)]
    exact hg
theorem row_chg {α : Type} {enc : α → List Value} {size : Nat} (hs : ∀ x, (enc x).length = size) {b off : Nat} {l : List α} (h : Chg F w w') (hr : Row enc size w (some ⟨b, off, none⟩) l) (hb : ¬ F b) : Row enc size w' (some ⟨b, off, none⟩) l := by
  rcases hr with hr | ⟨b', off', h1, h2⟩
  · exact .inl hr
  · injection h1 with h1
    injection h1 with h1 h3
    subst h1 h3
    refine .inr ⟨b, off, rfl, fun j hj i hi => ?_⟩
    have e := h2 j hj i hi
    rw [List.getElem?_eq_getElem (by rw [hs]; exact hi)] at e ⊢
    exact cell_chg h e hb
theorem own_type {α : Type} {enc : α → List Value} {size : Nat} {e : TypeId} {base : Nat} {v : Value} {l : List α} (ho : Owns enc size e w base v l) {g : Nat} (hg : v.ownBlock = some g) : ∃ cur, w.heap[g]? = some (.cells cur e (0, 0)) := by
  rcases ho.2 with ⟨rfl, _⟩ | ⟨g', cap, cur, rfl, _, h1, _⟩
  · cases hg
  · injection hg with hg
    subst hg
    exact ⟨cur, h1⟩
theorem type_ne {b g : Nat} {t e : TypeId} {cs cur : Array Value} (h1 : w.heap[b]? = some (.cells cs t (0, 0))) (h2 : w.heap[g]? = some (.cells cur e (0, 0))) (hne : t ≠ e) : b ≠ g := by
  intro he
  subst he
  rw [h1] at h2
  injection h2 with h2
  injection h2 with _ h3 _
  exact hne h3
theorem own_set_far {α : Type} {enc : α → List Value} {size : Nat} {e : TypeId} {base : Nat} {v : Value} {l : List α} (ho : Owns enc size e w base v l) {b : Nat} (hb : ∀ g, v.ownBlock = some g → g ≠ b) (i : Nat) (u : Value) : Owns enc size e (w.setCell ⟨b, i, none⟩ u) base v l :=
  own_chg (chg_set (F := fun k => k = b) (chg_refl _ w) (.inl rfl) i u) ho hb
theorem owns_le {α : Type} {enc : α → List Value} {size : Nat} {e : TypeId} {base base' : Nat} {v : Value} {l : List α} (h : Owns enc size e w base v l) (hb : base' ≤ base) : Owns enc size e w base' v l :=
  ⟨h.1, h.2.imp id fun ⟨g, cap, cur, h1, h2, h3⟩ => ⟨g, cap, cur, h1, by omega, h3⟩⟩
def Typed (G : Nat → Prop) (w : World) (e : TypeId) : Prop := ∀ k, G k → ∃ cur t, w.heap[k]? = some (.cells cur t (0, 0)) ∧ t ≠ e
theorem own_typed {α : Type} {enc : α → List Value} {size : Nat} {e : TypeId} {base : Nat} {v : Value} {l : List α} (ho : Owns enc size e w base v l) (hc : Chg G w w') (ht : Typed G w e) : Owns enc size e w' base v l :=
  own_chg hc ho fun g hg hG => by
    obtain ⟨cur, t, h1, h2⟩ := ht g hG
    obtain ⟨cur', h3⟩ := own_type ho hg
    exact type_ne h1 h3 h2 rfl
theorem blk_typed {b : Nat} {t : TypeId} {cs : List Value} (h : Arr.Blk w b t cs) (hc : Chg G w w') (ht : Typed G w t) : Arr.Blk w' b t cs :=
  blk_chg hc h fun hG => by
    obtain ⟨cur, t', h1, h2⟩ := ht b hG
    exact type_ne h1 h h2 rfl
theorem typed_one {b : Nat} {t e : TypeId} {cs : Array Value} (h : w.heap[b]? = some (.cells cs t (0, 0))) (hne : t ≠ e) : Typed (fun k => k = b) w e := fun k hk => by subst hk; exact ⟨_, _, h, hne⟩
theorem typed_own {α : Type} {enc : α → List Value} {size : Nat} {t e : TypeId} {base : Nat} {v : Value} {l : List α} (ho : Owns enc size t w base v l) (hne : t ≠ e) : Typed (fun k => some k = v.ownBlock) w e := fun k hk => by
  obtain ⟨cur, h⟩ := own_type ho hk.symm
  exact ⟨_, _, h, hne⟩
theorem grown_chg {row : Option Nat} (h : w.grownBy w' row) : Chg (fun k => some k = row) w w' := ⟨h.os, h.tape, h.output, h.size, fun k hk hn => h.block k hk hn⟩
theorem set_chg (w : World) (b i : Nat) (v : Value) : Chg (fun k => k = b) w (w.setCell ⟨b, i, none⟩ v) := chg_set (F := fun k => k = b) (chg_refl _ w) (.inl rfl) i v
end Go.Proofs.YtjcndgopijpibaaGreat.Foot
/- Book: lists in new memory; transactions in a list; what the program must do. -/
namespace Go.Proofs.YtjcndgopijpibaaGreat.Bok
set_option maxRecDepth 100000
open Go.RowKit
open Go.Sort
open Kit
open Foot
open Tre (Lst inI lst_keep lst_at lst_new lst_none encF encF_len IntsL encI encI_len)
open Rte (encR encR_len)
open Led (Lg encG encG_len)
open Job (Jb Jv Jobs encJ encJ_len)
open Drw (Dw encD encD_len)
open Ent (Tx Tv)
open Snp (Sn Sv encK encK_len)
set_option linter.unusedVariables false
variable {w w' : World}
structure NewL {α : Type} (enc : α → List Value) (size : Nat) (T : TypeId) (w : World) (base : Nat) (a : Option Addr) (n c : Nat) (l : List α) : Prop where
  lst : Lst enc size w a n c l
  new : ∀ q, a = some q → base ≤ q.block ∧ q.block < w.heap.size ∧ ∃ cur, w.heap[q.block]? = some (.cells cur T (0, 0))
theorem newL_keep {α : Type} {enc : α → List Value} {size base : Nat} {T : TypeId} {a : Option Addr} {n c : Nat} {l : List α} (hs : ∀ x, (enc x).length = size) (h : NewL enc size T w base a n c l) (hb : Below w.heap.size w w') : NewL enc size T w' base a n c l :=
  ⟨lst_keep hs h.lst hb, fun q hq => by
    obtain ⟨h1, h2, cur, h3⟩ := h.new q hq
    exact ⟨h1, Nat.lt_of_lt_of_le h2 hb.size, cur, by rw [hb.block _ h2]; exact h3⟩⟩
theorem newL_own {α : Type} {enc : α → List Value} {size base : Nat} {T : TypeId} {a : Option Addr} {n c : Nat} {l : List α} (hs : ∀ x, (enc x).length = size) (h : Owns enc size T w base (.slice a n c) l) : NewL enc size T w base a n c l := by
  obtain ⟨a', c', e, h1, h2, h3, h4⟩ := owns_row hs h
  injection e with e1 e2 e3
  subst e1 e2 e3
  refine ⟨⟨rfl, h1, h2, fun e => ⟨by have := h3 e; omega, h3 e⟩, h4⟩, fun q hq => ?_⟩
  subst hq
  obtain ⟨g1, g2⟩ := World.ownsRow.lt h q.block rfl
  obtain ⟨cur, g3⟩ := own_type h (g := q.block) rfl
  exact ⟨g1, g2, cur, g3⟩
structure NewS (w : World) (base : Nat) (y : Sv) : Prop where
  inn : y.In w
  f : NewL encF 3 81 w base y.f.a y.f.n y.f.c y.funds
  r : NewL encR 3 83 w base y.r.a y.r.n y.r.c y.rates
  k : NewL encK 1 9 w base y.k.a y.k.n y.k.c y.keys
  l : NewL Tre.encL 6 65 w base y.l.a y.l.n y.l.c y.allocs
  j : NewL encJ 12 58 w base y.j.a y.j.n y.j.c y.jobs
  d : ∀ x ∈ y.jobs, NewL encD 2 63 w base x.a x.n x.c x.t.draws
structure NewT (w : World) (base : Nat) (u : Tv) : Prop where
  inn : u.In w
  a : NewL encI 1 3 w base u.a1 u.n1 u.c1 u.t.args
  g : NewL encG 2 49 w base u.a2 u.n2 u.c2 u.t.legs
structure Prog : Prop where
  new : ∀ W : World, Calls Tryz.prog 8 #[] W fun e W' => ∃ y : Sv, e = .returned (Snp.valV y) ∧ y.t = newS ∧ NewS W' W.heap.size y ∧ Below W.heap.size W W'
  fill : ∀ (W : World) (x : Sv) (t : Tv), x.In W → x.t.ok → MayS x.t → t.In W → t.t.ok →
    Calls Tryz.prog 10 #[Snp.valV x, Ent.valV t] W fun e W' => ∃ u : Tv, e = .returned (.tuple #[Ent.valV u, .int .i64 (doE x.t t.t)]) ∧ u.t = doT x.t t.t ∧ NewT W' W.heap.size u ∧ Below W.heap.size W W'
  apply : ∀ (W : World) (x : Sv) (t : Tv), x.In W → x.t.ok → MayS x.t → t.In W → t.t.ok →
    Calls Tryz.prog 13 #[Snp.valV x, Ent.valV t] W fun e W' => ∃ y : Sv, e = .returned (.tuple #[Snp.valV y, .int .i64 (applyE x.t t.t)]) ∧ y.t = applyS x.t t.t ∧ NewS W' W.heap.size y ∧ Below W.heap.size W W'
theorem encT_len (x : Tv) : (Ent.encV x).length = 7 := rfl
abbrev Txs := Lst Ent.encV 7
theorem opens_txs : Opn.Opens Tryz.prog w 22 (Opn.RSlice (Ent.RTx w) 7 w) := Opn.opens_slice Tryz.underlying22 Ent.cells_tx (by omega) Ent.opens_tx
theorem txs_arg {a : Option Addr} {len cap : Nat} {l : List Tv} (h : Opn.RSlice (Ent.RTx w) 7 w [.slice a len cap] l) : Txs w a len cap l ∧ (∀ x ∈ l, x.In w) ∧ ∀ x ∈ l, x.t.ok := by
  obtain ⟨a', len', cap', he, hl, hc, hm, hn, hcs⟩ := h
  simp at he
  obtain ⟨rfl, rfl, rfl⟩ := he
  exact ⟨⟨hl, hc, hm, hn, Kit.row_of_cells (fun _ _ h => h.1) hcs⟩, Kit.all_of_cells (fun _ _ h => h.2.1) hcs, Kit.all_of_cells (fun _ _ h => h.2.2) hcs⟩
theorem info_st : (Tryz.prog.info? 29).map (·.size) = some 8 := by kernel_rfl
theorem info_tx : (Tryz.prog.info? 34).map (·.size) = some 7 := by kernel_rfl
end Go.Proofs.YtjcndgopijpibaaGreat.Bok
/- A region that draws its order, by an invariant: what holds whenever some of its operations have come up. -/
namespace Go.Proofs.YtjcndgopijpibaaGreat.Reg
variable {P : Program} {ops : Array Oper} {Q : Exit → Act → World → Prop} {md : Region.Mode}
theorem ready_false {listed : Array Bool} {i : Nat} (h : i ∈ Region.ready md ops listed) : listed.getD i true = false := by
  unfold Region.ready at h
  simp only [List.mem_filter, Bool.and_eq_true] at h
  simpa using h.2.1
theorem getD_false {listed : Array Bool} {i : Nat} (h : listed.getD i true = false) : ∃ hi : i < listed.size, listed[i] = false := by
  by_cases hi : i < listed.size
  · simp [hi] at h; exact ⟨hi, h⟩
  · simp [hi] at h
theorem wpAny_inv {I : Array Bool → Act → World → Prop} (hdone : ∀ listed a w, I listed a w → Region.ready md ops listed = [] → Q .normal a w)
    (hstep : ∀ listed a w i, I listed a w → i ∈ Region.ready md ops listed → wpOp P ops Q i (I (listed.setIfInBounds i true)) a w) :
    ∀ (fuel : Nat) (listed : Array Bool) (a : Act) (w : World), I listed a w → listed.toList.count false ≤ fuel → wpAny P md ops Q fuel listed a w := by
  intro fuel
  induction fuel with
  | zero =>
    intro listed a w hI hc
    have hr : Region.ready md ops listed = [] := by
      cases h : Region.ready md ops listed with
      | nil => rfl
      | cons i l =>
        obtain ⟨hi, he⟩ := getD_false (ready_false (md := md) (ops := ops) (listed := listed) (i := i) (by rw [h]; simp))
        have : false ∈ listed.toList := by rw [← he]; simp
        have := List.count_pos_iff.2 this
        omega
    exact ⟨hr, hdone listed a w hI hr⟩
  | succ fuel ih =>
    intro listed a w hI hc
    refine ⟨hdone listed a w hI, fun i hi => wpOp_mono (fun a' w' h' => ih _ a' w' h' ?_) (hstep listed a w i hI hi)⟩
    obtain ⟨hlt, he⟩ := getD_false (ready_false hi)
    rw [Array.toList_setIfInBounds, List.count_set (by simpa using hlt)]
    have hf : false ∈ listed.toList := by rw [← he]; simp
    have := List.count_pos_iff.2 hf
    simp only [Array.getElem_toList, he, beq_self_eq_true, if_true, show (true == false) = false from rfl, Bool.false_eq_true, if_false]
    omega
theorem any_inv {a : Act} {w : World} (I : Array Bool → Act → World → Prop) (h0 : I (Array.replicate ops.size false) a w.drew)
    (hdone : ∀ listed a w, I listed a w → Region.ready md ops listed = [] → Q .normal a w)
    (hstep : ∀ listed a w i, I listed a w → i ∈ Region.ready md ops listed → wpOp P ops Q i (I (listed.setIfInBounds i true)) a w) : wpAny P md ops Q ops.size (Array.replicate ops.size false) a w.drew :=
  wpAny_inv hdone hstep _ _ _ _ h0 (by simp)
theorem wp_region_inv {id : Nat} {a : Act} {w : World} (I : Array Bool → Act → World → Prop) (hm : P.follows .mixedOrders = true) (h0 : I (Array.replicate ops.size false) a w.drew)
    (hdone : ∀ listed a w, I listed a w → Region.ready .any ops listed = [] → Q .normal a w)
    (hstep : ∀ listed a w i, I listed a w → i ∈ Region.ready .any ops listed → wpOp P ops Q i (I (listed.setIfInBounds i true)) a w) : (Code.region id ops true).wp P Q a w :=
  wp_region_any hm (any_inv I h0 hdone hstep)
theorem none_ready {listed : Array Bool} {i : Nat} {o : Oper} (hs : listed.size = ops.size) (h : Region.ready md ops listed = []) (ho : ops[i]? = some o)
    (hd : ∀ e ∈ o.after, Region.binds md e = true → listed.getD e.on false = true) : listed.getD i false = true := by
  have hi : i < listed.size := by rw [hs]; exact (Array.getElem?_eq_some_iff.1 ho).1
  cases hb : listed[i] with
  | true => simp [hi, hb]
  | false =>
    have : i ∈ Region.ready md ops listed := mem_ready.2 ⟨by simp [hi, hb], o, ho, hd⟩
    rw [h] at this
    cases this
end Go.Proofs.YtjcndgopijpibaaGreat.Reg
/- A region that draws its order and whose values hang on the memory that its own calls make: one look at each operation, what it leaves told by what holds of its slot. -/
namespace Go.Proofs.YtjcndgopijpibaaGreat.Rel
open Go.RowKit
structure Kd (G : World → World → Prop) where
  p : World → Value → Prop
  st : ∀ w w' v, G w w' → p w v → p w' v
def Kd.is {G : World → World → Prop} (v : Value) : Kd G := ⟨fun _ u => u = v, fun _ _ _ _ h => h⟩
def Kd.any {G : World → World → Prop} : Kd G := ⟨fun _ _ => True, fun _ _ _ _ h => h⟩
def Gr (w w' : World) : Prop := Below w.heap.size w w'
theorem gr_refl (w : World) : Gr w w := Below.refl _ _
def slot (a : Act) (d : Tmp) : Value := a.tmps.getD d undef
theorem eval_tmp {a : Act} {d : Tmp} {v : Value} (h : slot a d = v) : a.eval (.tmp d) = v := h
def waits (o : Oper) (j : Nat) : Bool := o.after.toList.any fun e => e.on == j && Region.binds .any e
def unwritten (ops : Array Oper) (s : Tmp) : Bool := ops.toList.all fun o => o.dst != some s
def tab {G : World → World → Prop} (l : List (Kd G)) (i : Nat) : Kd G := l.getD i Kd.any
def apartB : List Oper → Bool
  | [] => true
  | o :: l => o.dst.isSome && l.all (fun x => x.dst != o.dst) && apartB l
section
variable {P : Program} {ops : Array Oper} {Q : Exit → Act → World → Prop} {G : World → World → Prop} {V : Nat → Kd G} {J : Array Bool → World → Prop} {a0 : Act}
structure Cx (ops : Array Oper) (V : Nat → Kd G) (J : Array Bool → World → Prop) (a0 : Act) (k : Nat) (o : Oper) (L : Array Bool) (a : Act) (w : World) : Prop where
  size : L.size = ops.size
  free : L.getD k true = false
  base : ∀ s, unwritten ops s = true → slot a s = slot a0 s
  room : a.tmps.size = a0.tmps.size
  inv : J L w
  dep : ∀ (j : Nat) (o' : Oper) (d : Tmp), ops[j]? = some o' → o'.dst = some d → waits o j = true → (V j).p w (slot a d)
  came : ∀ j, waits o j = true → L.getD j false = true
  chain : ∀ (j : Nat) (o' : Oper) (i : Nat), ops[j]? = some o' → L.getD j false = true → waits o' i = true → L.getD i false = true
def depB (ops : Array Oper) (o : Oper) (j : Nat) (d : Tmp) : Bool := waits o j && (match ops.toList[j]? with | some o' => o'.dst == some d | none => false)
def wantB (ops : Array Oper) (o : Oper) (j : Nat) (b : Bool) (d : Tmp) : Bool := (match o.guard with | some (j', b') => j' == j && b' == b | none => false) && (match ops.toList[j]? with | some o' => o'.dst == some d | none => false)
def waitsAt (ops : Array Oper) (j i : Nat) : Bool := match ops.toList[j]? with | some o' => waits o' i | none => false
def freeB (o : Oper) : Bool := o.guard.isNone
theorem Cx.get {k : Nat} {o : Oper} {L : Array Bool} {a : Act} {w : World} (c : Cx ops V J a0 k o L a w) (j : Nat) (d : Tmp) (h : depB ops o j d = true) : (V j).p w (slot a d) := by
  unfold depB at h
  simp only [Bool.and_eq_true] at h
  cases ho : ops.toList[j]? with
  | none => rw [ho] at h; simp at h
  | some o' =>
    rw [ho] at h
    exact c.dep j o' d (by simpa using ho) (by simpa using h.2) h.1
theorem Cx.via {k : Nat} {o : Oper} {L : Array Bool} {a : Act} {w : World} (c : Cx ops V J a0 k o L a w) (j i : Nat) (h : waitsAt ops j i = true) (hj : L.getD j false = true) : L.getD i false = true := by
  unfold waitsAt at h
  cases ho : ops.toList[j]? with
  | none => rw [ho] at h; cases h
  | some o' =>
    rw [ho] at h
    exact c.chain j o' i (by simpa using ho) hj h
theorem Cx.old {k : Nat} {o : Oper} {L : Array Bool} {a : Act} {w : World} (c : Cx ops V J a0 k o L a w) (s : Tmp) {v : Value} (h : unwritten ops s = true) (hv : slot a0 s = v) : slot a s = v := (c.base s h).trans hv
def Left (V : Nat → Kd G) (J : Array Bool → World → Prop) (k : Nat) (o : Oper) (L : Array Bool) (a : Act) (w : World) (a' : Act) (w' : World) : Prop :=
  ∃ v, a' = a.put o.dst v ∧ G w w' ∧ (V k).p w' v ∧ J (L.setIfInBounds k true) w'
def Step (P : Program) (ops : Array Oper) (Q : Exit → Act → World → Prop) (V : Nat → Kd G) (J : Array Bool → World → Prop) (a0 : Act) (k : Nat) (o : Oper) : Prop :=
  ∀ L a w, Cx ops V J a0 k o L a w →
    (Region.wanted o (yielded ops a.tmps) = true ∧ o.wp P a w (Left V J k o L a w) Q) ∨
    (Region.wanted o (yielded ops a.tmps) = false ∧ (V k).p w undef ∧ J (L.setIfInBounds k true) w)
def Steps (P : Program) (ops : Array Oper) (Q : Exit → Act → World → Prop) (V : Nat → Kd G) (J : Array Bool → World → Prop) (a0 : Act) : Nat → List Oper → Prop
  | _, [] => True
  | k, o :: l => Step P ops Q V J a0 k o ∧ Steps P ops Q V J a0 (k + 1) l
theorem steps_at (l : List Oper) : ∀ (k : Nat), Steps P ops Q V J a0 k l → ∀ (j : Nat) (o : Oper), l[j]? = some o → Step P ops Q V J a0 (k + j) o := by
  induction l with
  | nil => intro k _ j o e; simp at e
  | cons x l ih =>
    intro k h j o e
    cases j with
    | zero =>
      simp at e; subst e
      exact h.1
    | succ j =>
      have := ih (k + 1) h.2 j o (by simpa using e)
      rw [show k + (j + 1) = k + 1 + j by omega]; exact this
theorem apart_at (l : List Oper) : apartB l = true → ∀ (i j : Nat) (o o' : Oper), l[i]? = some o → l[j]? = some o' → i ≠ j → o.dst ≠ o'.dst := by
  induction l with
  | nil => intro _ i j o o' e; simp at e
  | cons x l ih =>
    intro h i j o o' e e' hne
    simp only [apartB, Bool.and_eq_true, List.all_eq_true, bne_iff_ne, ne_eq] at h
    cases i with
    | zero =>
      cases j with
      | zero => exact absurd rfl hne
      | succ j =>
        simp at e e'; subst e
        exact fun he => h.1.2 _ (List.mem_of_getElem? e') he.symm
    | succ i =>
      cases j with
      | zero =>
        simp at e e'; subst e'
        exact h.1.2 _ (List.mem_of_getElem? e)
      | succ j => exact ih h.2 i j o o' (by simpa using e) (by simpa using e') (by omega)
theorem apart_some (l : List Oper) : apartB l = true → ∀ (i : Nat) (o : Oper), l[i]? = some o → ∃ d, o.dst = some d := by
  intro h i o e
  induction l generalizing i with
  | nil => simp at e
  | cons x l ih =>
    simp only [apartB, Bool.and_eq_true] at h
    cases i with
    | zero =>
      simp at e; subst e
      exact Option.isSome_iff_exists.1 h.1.1
    | succ i => exact ih h.2 i (by simpa using e)
def orderB : Nat → List Oper → Bool
  | _, [] => true
  | k, o :: l => (o.after.all fun e => !(Region.binds .any e) || decide (e.on < k)) && orderB (k + 1) l
theorem order_at (l : List Oper) : ∀ (k : Nat), orderB k l = true → ∀ (j : Nat) (o : Oper), l[j]? = some o → ∀ e ∈ o.after, Region.binds .any e = true → e.on < k + j := by
  induction l with
  | nil => intro k _ j o e; simp at e
  | cons x l ih =>
    intro k h j o e
    simp only [orderB, Bool.and_eq_true] at h
    cases j with
    | zero =>
      simp at e; subst e
      intro e he hb
      have := h.1
      rw [Array.all_eq_true'] at this
      have := this e he
      rw [hb] at this
      simpa using this
    | succ j =>
      intro e' he hb
      have := ih (k + 1) h.2 j o (by simpa using e) e' he hb
      omega
theorem slot_put_ne {a : Act} {d s : Tmp} {v : Value} (h : d ≠ s) : slot (a.put (some d) v) s = slot a s := by
  unfold slot Act.put
  simp only [Array.getD_eq_getD_getElem?]
  rw [Array.getElem?_setIfInBounds_ne h]
theorem slot_put {a : Act} {d : Tmp} {v : Value} (h : d < a.tmps.size) : slot (a.put (some d) v) d = v := by
  unfold slot Act.put
  simp [h]
theorem put_size (a : Act) (d : Option Tmp) (v : Value) : (a.put d v).tmps.size = a.tmps.size := by
  unfold Act.put; split <;> simp
theorem put_defers (a : Act) (d : Option Tmp) (v : Value) : (a.put d v).defers = a.defers := by
  unfold Act.put; split <;> rfl
def Inv (ops : Array Oper) (V : Nat → Kd G) (J : Array Bool → World → Prop) (a0 : Act) (L : Array Bool) (a : Act) (w : World) : Prop :=
  L.size = ops.size ∧ (∀ s, unwritten ops s = true → slot a s = slot a0 s) ∧ a.tmps.size = a0.tmps.size ∧ a.defers = a0.defers ∧ J L w ∧
  (∀ (j : Nat) (o : Oper) (d : Tmp), ops[j]? = some o → o.dst = some d → L.getD j false = true → (V j).p w (slot a d)) ∧
  ∀ (j : Nat) (o' : Oper) (i : Nat), ops[j]? = some o' → L.getD j false = true → waits o' i = true → L.getD i false = true
theorem unwritten_ne {s : Tmp} (h : unwritten ops s = true) {i : Nat} {o : Oper} (ho : ops[i]? = some o) : o.dst ≠ some s := by
  unfold unwritten at h
  have := List.all_eq_true.1 h o (by simpa using Array.mem_of_getElem? ho)
  simpa using this
theorem inv_step {k : Nat} {o : Oper} {L : Array Bool} {a : Act} {w w' : World} {v : Value} (hap : apartB ops.toList = true) (hsz : ∀ (i : Nat) (o : Oper) (d : Tmp), ops[i]? = some o → o.dst = some d → d < a0.tmps.size)
    (ho : ops[k]? = some o) (hk : L.getD k true = false) (hcm : ∀ j, waits o j = true → L.getD j false = true) (hI : Inv ops V J a0 L a w) (hG : G w w') (hv : (V k).p w' v) (hJ : J (L.setIfInBounds k true) w') : Inv ops V J a0 (L.setIfInBounds k true) (a.put o.dst v) w' := by
  obtain ⟨h1, h2, h3, h4, h5, h6, h7⟩ := hI
  have hset : ∀ i, L.getD i false = true → (L.setIfInBounds k true).getD i false = true := by
    intro i hi
    by_cases hik : k = i
    · subst hik
      obtain ⟨hs, _⟩ := Reg.getD_false hk
      simp [hs]
    · simpa [hik] using hi
  obtain ⟨d, hd⟩ := apart_some ops.toList hap k o (by simpa using ho)
  have hdn := hsz k o d ho hd
  refine ⟨by simp [h1], fun s hs => ?_, by rw [put_size]; exact h3, by rw [put_defers]; exact h4, hJ, fun j o' d' ho' hd' hl => ?_, fun j o' i ho' hl hw => ?_⟩
  · rw [hd, slot_put_ne (fun e => unwritten_ne hs ho (by rw [hd, e]))]
    exact h2 s hs
  · by_cases hjk : j = k
    · subst hjk
      rw [ho] at ho'
      injection ho' with ho'
      subst ho'
      rw [hd] at hd'
      injection hd' with hd'
      subst hd'
      rw [hd, slot_put (by rw [h3]; exact hdn)]
      exact hv
    · have hne := apart_at ops.toList hap k j o o' (by simpa using ho) (by simpa using ho') (Ne.symm hjk)
      rw [hd, slot_put_ne (fun e => hne (by rw [hd, hd', e]))]
      refine (V j).st w w' _ hG (h6 j o' d' ho' hd' ?_)
      simpa [Ne.symm hjk] using hl
  · by_cases hjk : j = k
    · subst hjk
      rw [ho] at ho'
      injection ho' with ho'
      subst ho'
      exact hset i (hcm i hw)
    · exact hset i (h7 j o' i ho' (by simpa [Ne.symm hjk] using hl) hw)
theorem wp_region_rel {id : Nat} {w : World} {l : List Oper} (V : Nat → Kd G) (J : Array Bool → World → Prop) (hm : P.follows .mixedOrders = true) (hap : apartB l = true) (hor : orderB 0 l = true) (hsz : (l.all fun o => match o.dst with | some d => decide (d < a0.tmps.size) | none => true) = true)
    (hGr : ∀ w, G w w) (h0 : J (Array.replicate l.length false) w.drew) (hsteps : Steps P l.toArray Q V J a0 0 l)
    (hdone : ∀ a w, (∀ s, unwritten l.toArray s = true → slot a s = slot a0 s) → a.tmps.size = a0.tmps.size → a.defers = a0.defers → J (Array.replicate l.length true) w → (∀ (j : Nat) (o : Oper) (d : Tmp), l[j]? = some o → o.dst = some d → (V j).p w (slot a d)) → Q .normal a w) :
    (Code.region id l.toArray true).wp P Q a0 w := by
  have hsz' : ∀ (i : Nat) (o : Oper) (d : Tmp), l.toArray[i]? = some o → o.dst = some d → d < a0.tmps.size := by
    intro i o d ho hd
    have := List.all_eq_true.1 hsz o (List.mem_of_getElem? (by simpa using ho))
    rw [hd] at this
    simpa using this
  refine Reg.wp_region_inv (Inv l.toArray V J a0) hm ?_ ?_ ?_
  · exact ⟨by simp, fun _ _ => rfl, rfl, rfl, h0, fun j o d _ _ hl => by
      by_cases hj : j < l.length <;> simp [hj] at hl, fun j o i _ hl _ => by
      by_cases hj : j < l.length <;> simp [hj] at hl⟩
  · intro L a' w' hI hready
    obtain ⟨h1, h2, h3, h4, h5, h6, h7⟩ := hI
    have hall : ∀ j, j < l.length → L.getD j false = true := by
      intro j
      induction j using Nat.strongRecOn with
      | _ j ih =>
        intro hj
        have ho : l[j]? = some l[j] := List.getElem?_eq_getElem hj
        refine Reg.none_ready (by exact h1) hready (o := l[j]) (by simp) fun e he hb => ?_
        have hlt := order_at l 0 hor j _ ho e he hb
        exact ih e.on (by omega) (by omega)
    have hL : L = Array.replicate l.length true := by
      apply Array.ext
      · simpa using h1
      · intro i hi1 hi2
        have := hall i (by simpa using hi2)
        simp [hi1] at this
        simp [this]
    subst hL
    exact hdone a' w' h2 h3 h4 h5 fun j o d hj hd => h6 j o d (by simpa using hj) hd (hall j (by
      rcases Nat.lt_or_ge j l.length with h | h
      · exact h
      · rw [List.getElem?_eq_none h] at hj; cases hj))
  · intro L a' w' i hI hi
    obtain ⟨hun, o, ho, hdep⟩ := mem_ready.1 hi
    have hI' := hI
    obtain ⟨h1, h2, h3, h4, h5, h6, h7⟩ := hI
    have hcame : ∀ j, waits o j = true → L.getD j false = true := by
      intro j hj
      unfold waits at hj
      obtain ⟨e, he, hb⟩ := List.any_eq_true.1 hj
      simp only [Bool.and_eq_true, beq_iff_eq] at hb
      have := hdep e (by simpa using he) hb.2
      rw [hb.1] at this
      exact this
    have hs := steps_at l 0 hsteps i o (by simpa using ho)
    rw [Nat.zero_add] at hs
    replace hs := hs L a' w' ⟨h1, hun, h2, h3, h5, fun j o' d hj hd hw => h6 j o' d hj hd (hcame j hw), hcame, h7⟩
    unfold wpOp
    simp only [ho]
    rcases hs with ⟨hw, hs⟩ | ⟨hw, hv, hJ⟩
    · rw [if_pos hw]
      exact .inl (Oper.wp_mono (fun a'' w'' ⟨v, ha, hG, hv, hJ⟩ => by subst ha; exact inv_step (by simpa using hap) hsz' ho hun hcame hI' hG hv hJ) hs)
    · rw [if_neg (by rw [hw]; exact Bool.false_ne_true)]
      exact inv_step (by simpa using hap) hsz' ho hun hcame hI' (hGr w') hv hJ
variable {o : Oper} {a : Act} {w : World} {K : Act → World → Prop}
theorem wp_mv (x : Operand) (ho : o.op = .move x) (h : K (a.put o.dst (a.eval x)) w) : o.wp P a w K Q := by
  unfold Oper.wp; rw [BigFrame.run_move x ho]; exact h
theorem wp_as (x : Operand) (ho : o.op = .assign x) (h : K (a.put o.dst (a.eval x)) w) : o.wp P a w K Q := by
  unfold Oper.wp; rw [BigFrame.run_assign x ho]; exact h
theorem wp_pk (c x y : Operand) (ho : o.op = .pick c x y) {b : Bool} (hc : a.eval c = .bool b) (h : K (a.put o.dst (if b then a.eval x else a.eval y)) w) : o.wp P a w K Q := by
  unfold Oper.wp execOp
  simp only [ho, hc]
  exact h
theorem wp_bo (k : BinOp) (t t' : TypeId) (x y : Operand) (ho : o.op = .binOp k t x y t') {vx vy u : Value} {w' : World} (hx : a.eval x = vx) (hy : a.eval y = vy)
    (hr : (do eqGuard k t x y vx vy; binOp k t vx vy : Sem Value).run P w = .ok u w') (h : K (a.put o.dst u) w') : o.wp P a w K Q := by
  unfold Oper.wp execOp
  simp only [ho, hx, hy]
  rw [Sem.run_bind, hr]
  exact h
theorem wp_cl (f : FuncId) (xs : List Operand) (ts : Array TypeId) (ho : o.op = .call { callee := .value (.func f), args := xs.toArray, argTypes := ts }) {fn : Func} (hf : P.funcs[f]? = some fn) (hk : (fn.body.isSome && !(fn.name == "runtime.NumGoroutine")) = true) (hc : Calls P f (xs.map a.eval).toArray w fun e w' => ∃ v, e = .returned v ∧ K (a.put o.dst v) w') : o.wp P a w K Q := by
  unfold Oper.wp execOp
  simp only [ho]
  simp [resolve, Deferred.ofValue, invoke, Act.eval]
  have hr : (callFunc f (xs.map a.eval).toArray).run P w = .ok (.enter f (xs.map a.eval).toArray) w := by
    simp only [Bool.and_eq_true, Bool.not_eq_true', Option.isSome_iff_exists] at hk
    obtain ⟨⟨c, hb⟩, hn⟩ := hk
    have hn' : ¬ fn.name = "runtime.NumGoroutine" := by simpa using hn
    simp [callFunc, hf, hb, hn']
  rw [hr]
  refine hc.mono fun e w' ⟨v, he, hK⟩ => ?_
  subst he
  exact hK
theorem wp_ld (t : TypeId) (x : Operand) (ho : o.op = .load t x) {v u : Value} {w' : World} (hx : a.eval x = v) (hr : (Instr.loadAt t v).run P w = .ok u w') (h : K (a.put o.dst u) w') : o.wp P a w K Q := by
  unfold Oper.wp execOp
  simp only [ho, hx, Sem.run_bind, hr]
  exact h
theorem wp_ia (t : TypeId) (x y : Operand) (ho : o.op = .indexAddr t x y) {vx vy u : Value} {w' : World} (hx : a.eval x = vx) (hy : a.eval y = vy) (hr : (Instr.indexAt t vx vy).run P w = .ok u w') (h : K (a.put o.dst u) w') : o.wp P a w K Q := by
  unfold Oper.wp execOp
  simp only [ho, hx, hy, Sem.run_bind, hr]
  exact h
theorem wp_sl (t : TypeId) (x : Operand) (lo hi mx : Option Operand) (ho : o.op = .slice t x lo hi mx) {vx u : Value} {vl vh vm : Option Value} {w' : World} (hx : a.eval x = vx) (hl : lo.map a.eval = vl) (hh : hi.map a.eval = vh) (hm : mx.map a.eval = vm) (hr : (Instr.sliceAt t vx vl vh vm).run P w = .ok u w') (h : K (a.put o.dst u) w') : o.wp P a w K Q := by
  unfold Oper.wp execOp
  simp only [ho, hx, hl, hh, hm, Sem.run_bind, hr]
  exact h
theorem wp_ex (t : Operand) (ix : Nat) (ho : o.op = .extract t ix) {v u : Value} {w' : World} (hx : a.eval t = v) (hr : (Instr.extract v ix).run P w = .ok u w') (h : K (a.put o.dst u) w') : o.wp P a w K Q := by
  unfold Oper.wp execOp
  simp only [ho, hx, Sem.run_bind, hr]
  exact h
theorem wp_len (x : Operand) (t : TypeId) (ho : o.op = .call { callee := .builtin .len, args := #[x], argTypes := #[t] }) {ad : Option Addr} {n c : Nat} (hx : a.eval x = .slice ad n c) (hr : (Builtin.len_ #[t] o.type #[.slice ad n c]).run P w = .ok (.int .i64 n) w) (h : K (a.put o.dst (.int .i64 n)) w) : o.wp P a w K Q := by
  unfold Oper.wp execOp
  simp only [ho]
  simp [resolve, invoke, builtin, hx]
  rw [hr]
  exact h
theorem wanted_free (hg : freeB o = true) (y : Nat → Option Bool) : Region.wanted o y = true := by
  unfold freeB at hg
  unfold Region.wanted
  rw [Option.isNone_iff_eq_none.1 hg]
theorem wanted_none (hg : o.guard = none) (y : Nat → Option Bool) : Region.wanted o y = true := by unfold Region.wanted; rw [hg]
theorem wanted_is {j : Nat} {b b' : Bool} {d : Tmp} (hg : o.guard = some (j, b)) {oj : Oper} (hj : ops[j]? = some oj) (hd : oj.dst = some d) (hv : slot a d = .bool b') : Region.wanted o (yielded ops a.tmps) = (b' == b) := by
  have hr : a.tmps[d]? = some (.bool b') := by
    unfold slot at hv
    rw [Array.getD_eq_getD_getElem?] at hv
    cases h : a.tmps[d]? with
    | none => rw [h] at hv; cases hv
    | some v => rw [h] at hv; simp at hv; rw [hv]
  unfold Region.wanted yielded
  simp only [hg, hj, Option.bind_some, hd, hr]
  cases b <;> cases b' <;> rfl
theorem wanted_by {j : Nat} {b : Bool} {d : Tmp} (h : wantB ops o j b d = true) (hv : slot a d = .bool b) : Region.wanted o (yielded ops a.tmps) = true := by
  unfold wantB at h
  simp only [Bool.and_eq_true] at h
  obtain ⟨h1, h2⟩ := h
  cases hg : o.guard with
  | none => rw [hg] at h1; cases h1
  | some g =>
    obtain ⟨j', b'⟩ := g
    rw [hg] at h1
    simp only [Bool.and_eq_true, beq_iff_eq] at h1
    obtain ⟨rfl, rfl⟩ := h1
    cases ho : ops.toList[j']? with
    | none => rw [ho] at h2; cases h2
    | some o' =>
      rw [ho] at h2
      rw [wanted_is hg (by simpa using ho) (by simpa using h2) hv]
      simp
end
end Go.Proofs.YtjcndgopijpibaaGreat.Rel
