/- Up to three appends within one another, append(append(append(v, x..), y..), z..), in a region that draws its order: the parts are lists made in the region, or such that were there. -/
import Derived.Test.YtckebhknnocpkaaRegSee
import Derived.Test.YtckebhknnocpkaaTwo
namespace Go.Proofs.Ytckebhknnocpkaa.Nest
open Go.RowKit
open Go.Sort
open Kit
open Rel (slot)
set_option linter.unusedVariables false
variable {α : Type} {enc : α → List Value} {size : Nat} {T : TypeId} {w0 w w' : World} {v0 vd : Value} {l0 p1 p2 p3 : List α}

def cur (b1 b2 b3 : Bool) (v0 u1 u2 u3 : Value) : Value := cond b3 u3 (cond b2 u2 (cond b1 u1 v0))
def lst (b1 b2 b3 : Bool) (l0 p1 p2 p3 : List α) : List α := cond b3 (l0 ++ p1 ++ p2 ++ p3) (cond b2 (l0 ++ p1 ++ p2) (cond b1 (l0 ++ p1) l0))
/-- A part that can be read, whatever is written into v's block. -/
def Part (enc : α → List Value) (size : Nat) (w : World) (v t : Value) (p : List α) : Prop :=
  ∃ ad c, t = .slice ad p.length c ∧ Kit.Row enc size w ad p ∧ (ad = none → p.length = 0 ∧ c = 0) ∧ ∀ q, ad = some q → p ≠ [] → v.ownBlock ≠ some q.block ∧ q.block < w.heap.size
def Lit (enc : α → List Value) (size : Nat) (w : World) (c b : Bool) (v t : Value) (p : List α) : Prop := c = true → b = false → Part enc size w v t p
theorem row_grown (hs : ∀ x, (enc x).length = size) {ad : Option Addr} {l : List α} {r : Option Nat} (h : Kit.Row enc size w ad l) (hg : w.grownBy w' r) (hq : ∀ q, ad = some q → l ≠ [] → r ≠ some q.block ∧ q.block < w.heap.size) : Kit.Row enc size w' ad l := by
  by_cases hl : l = []
  · exact .inl hl
  rcases h with h | ⟨b, off, h1, h2⟩
  · exact .inl h
  · refine .inr ⟨b, off, h1, fun j hj i hi => ?_⟩
    rw [← h2 j hj i hi]
    obtain ⟨g1, g2⟩ := hq _ h1 hl
    exact World.cell?_of_block (hg.block b g2 (Ne.symm g1))
theorem part_on (hs : ∀ x, (enc x).length = size) {v t : Value} {p : List α} (h : Part enc size w v t p) (hb : Below w.heap.size w w') : Part enc size w' v t p := by
  obtain ⟨ad, c, e, hr, hn, hq⟩ := h
  exact ⟨ad, c, e, row_keep hs hr hb, hn, fun q hq' hl => ⟨(hq q hq' hl).1, Nat.lt_of_lt_of_le (hq q hq' hl).2 hb.size⟩⟩
theorem part_grown (hs : ∀ x, (enc x).length = size) {v t u : Value} {p : List α} (h : Part enc size w v t p) (hg : w.grownBy w' v.ownBlock) (hu : u.ownBlock = v.ownBlock ∨ u.ownBlock = some w.heap.size) : Part enc size w' u t p := by
  obtain ⟨ad, c, e, hr, hn, hq⟩ := h
  refine ⟨ad, c, e, row_grown hs hr hg hq, hn, fun q hq' hl => ⟨?_, Nat.lt_of_lt_of_le (hq q hq' hl).2 hg.size⟩⟩
  obtain ⟨g1, g2⟩ := hq q hq' hl
  rcases hu with hu | hu
  · rw [hu]; exact g1
  · rw [hu]
    intro e
    injection e with e
    omega
theorem own_on {base : Nat} {v : Value} {l : List α} (h : Owns enc size T w base v l) (hb : Below w.heap.size w w') : Owns enc size T w' base v l := by
  rcases h with ⟨h1, h2 | ⟨g, cap, cur, e1, e2, e3, e4, e5, e6, e7⟩⟩
  · exact ⟨h1, .inl h2⟩
  · exact ⟨h1, .inr ⟨g, cap, cur, e1, e2, by rw [hb.block g (Array.getElem?_eq_some_iff.1 e3).1]; exact e3, e4, e5, e6, e7⟩⟩
theorem own_lt {base : Nat} {v : Value} {l : List α} (h : Owns enc size T w base v l) (g : Nat) (hg : v.ownBlock = some g) : g < w.heap.size := (World.ownsRow.lt h g hg).2

/-- The indices and slots: appends i1 d1, i2 d2, i3 d3; parts m1 t1, m2 t2, m3 t3; the last assignment ia, of slot dl to slot da. Where there are only two appends i3, m3, d3, t3 are beyond all. -/
structure At where
  i1 : Nat
  d1 : Nat
  i2 : Nat
  d2 : Nat
  i3 : Nat
  d3 : Nat
  m1 : Nat
  t1 : Nat
  m2 : Nat
  t2 : Nat
  m3 : Nat
  t3 : Nat
  ia : Nat
  da : Nat
  dl : Nat
def At.idx (n : At) : List Nat := [n.i1, n.i2, n.i3, n.m1, n.m2, n.m3, n.ia]
def At.dst (n : At) : List Nat := [n.d1, n.d2, n.d3, n.t1, n.t2, n.t3, n.da, n.dl]
structure J (n : At) (enc : α → List Value) (size : Nat) (T : TypeId) (w0 : World) (v0 vd : Value) (l0 p1 p2 p3 : List α) (L : Array Bool) (s : Nat → Value) (w : World) : Prop where
  below : Below w0.heap.size w0 w
  own : Owns enc size T w w0.heap.size (cur (L.getD n.i1 false) (L.getD n.i2 false) (L.getD n.i3 false) v0 (s n.d1) (s n.d2) (s n.d3)) (lst (L.getD n.i1 false) (L.getD n.i2 false) (L.getD n.i3 false) l0 p1 p2 p3)
  one : Lit enc size w (L.getD n.m1 false) (L.getD n.i1 false) (cur (L.getD n.i1 false) (L.getD n.i2 false) (L.getD n.i3 false) v0 (s n.d1) (s n.d2) (s n.d3)) (s n.t1) p1
  two : Lit enc size w (L.getD n.m2 false) (L.getD n.i2 false) (cur (L.getD n.i1 false) (L.getD n.i2 false) (L.getD n.i3 false) v0 (s n.d1) (s n.d2) (s n.d3)) (s n.t2) p2
  three : Lit enc size w (L.getD n.m3 false) (L.getD n.i3 false) (cur (L.getD n.i1 false) (L.getD n.i2 false) (L.getD n.i3 false) v0 (s n.d1) (s n.d2) (s n.d3)) (s n.t3) p3
  old : L.getD n.ia false = false → s n.da = vd
  new : L.getD n.ia false = true → s n.da = s n.dl
theorem lit_on (hs : ∀ x, (enc x).length = size) {c b : Bool} {v t : Value} {p : List α} (h : Lit enc size w c b v t p) (hb : Below w.heap.size w w') : Lit enc size w' c b v t p := fun h1 h2 => part_on hs (h h1 h2) hb
/-- At the start. -/
theorem start (n : At) (k : Nat) (s : Nat → Value) (hd : s n.da = vd) (ho : Owns enc size T w w0.heap.size v0 l0) (hb : Below w0.heap.size w0 w) : J n enc size T w0 v0 vd l0 p1 p2 p3 (Array.replicate k false) s w := by
  have e : ∀ i, (Array.replicate k false).getD i false = false := by
    intro i
    by_cases h : i < k <;> simp [h]
  refine ⟨hb, ?_, ?_, ?_, ?_, fun _ => hd, fun h => by rw [e] at h; cases h⟩
  · rw [e, e, e]; exact ho
  · intro h; rw [e] at h; cases h
  · intro h; rw [e] at h; cases h
  · intro h; rw [e] at h; cases h
variable {n : At} {L : Array Bool} {a : Act}
def farB (k : Nat) (l : List Nat) : Bool := l.all fun i => k != i
/-- An operation that is none of these. -/
theorem go (hs : ∀ x, (enc x).length = size) {k d : Nat} {v : Value} (h : J n enc size T w0 v0 vd l0 p1 p2 p3 L (slot a) w) (hk : farB k n.idx = true) (hd : farB d n.dst = true) (hb : Below w.heap.size w w') : J n enc size T w0 v0 vd l0 p1 p2 p3 (L.setIfInBounds k true) (slot (a.put (some d) v)) w' := by
  simp only [farB, At.idx, At.dst, List.all_cons, List.all_nil, Bool.and_true, Bool.and_eq_true, bne_iff_ne, ne_eq] at hk hd
  obtain ⟨k1, k2, k3, k4, k5, k6, k7⟩ := hk
  obtain ⟨d1, d2, d3, d4, d5, d6, d7, d8⟩ := hd
  obtain ⟨h1, h2, h3, h4, h5, h6, h7⟩ := h
  refine ⟨h1.trans (hb.mono h1.size), ?_, ?_, ?_, ?_, ?_, ?_⟩
  all_goals simp only [Rel.set_ne k1, Rel.set_ne k2, Rel.set_ne k3, Rel.set_ne k4, Rel.set_ne k5, Rel.set_ne k6, Rel.set_ne k7, Rel.slot_put_ne d1, Rel.slot_put_ne d2, Rel.slot_put_ne d3, Rel.slot_put_ne d4, Rel.slot_put_ne d5, Rel.slot_put_ne d6, Rel.slot_put_ne d7, Rel.slot_put_ne d8]
  · exact own_on h2 hb
  · exact lit_on hs h3 hb
  · exact lit_on hs h4 hb
  · exact lit_on hs h5 hb
  · exact h6
  · exact h7
/-- A part comes up. -/
theorem mk1 (hs : ∀ x, (enc x).length = size) {u : Value} (h : J n enc size T w0 v0 vd l0 p1 p2 p3 L (slot a) w) (hk : farB n.m1 [n.i1, n.i2, n.i3, n.m2, n.m3, n.ia] = true) (hd : farB n.t1 [n.d1, n.d2, n.d3, n.t2, n.t3, n.da, n.dl] = true) (ht : n.t1 < a.tmps.size) (hb : Below w.heap.size w w')
    (hp : ∀ v, (∀ g, v.ownBlock = some g → g < w.heap.size ∧ w0.heap.size ≤ g) → Part enc size w' v u p1) : J n enc size T w0 v0 vd l0 p1 p2 p3 (L.setIfInBounds n.m1 true) (slot (a.put (some n.t1) u)) w' := by
  simp only [farB, List.all_cons, List.all_nil, Bool.and_true, Bool.and_eq_true, bne_iff_ne, ne_eq] at hk hd
  obtain ⟨k1, k2, k3, k4, k5, k6⟩ := hk
  obtain ⟨d1, d2, d3, d4, d5, d6, d7⟩ := hd
  obtain ⟨h1, h2, h3, h4, h5, h6, h7⟩ := h
  refine ⟨h1.trans (hb.mono h1.size), ?_, ?_, ?_, ?_, ?_, ?_⟩
  all_goals simp only [Rel.set_ne k1, Rel.set_ne k2, Rel.set_ne k3, Rel.set_ne k4, Rel.set_ne k5, Rel.set_ne k6, Rel.slot_put ht, Rel.slot_put_ne d1, Rel.slot_put_ne d2, Rel.slot_put_ne d3, Rel.slot_put_ne d4, Rel.slot_put_ne d5, Rel.slot_put_ne d6, Rel.slot_put_ne d7]
  · exact own_on h2 hb
  · exact fun _ _ => hp _ fun g hg => (World.ownsRow.lt h2 g hg).symm
  · exact lit_on hs h4 hb
  · exact lit_on hs h5 hb
  · exact h6
  · exact h7
theorem mk2 (hs : ∀ x, (enc x).length = size) {u : Value} (h : J n enc size T w0 v0 vd l0 p1 p2 p3 L (slot a) w) (hk : farB n.m2 [n.i1, n.i2, n.i3, n.m1, n.m3, n.ia] = true) (hd : farB n.t2 [n.d1, n.d2, n.d3, n.t1, n.t3, n.da, n.dl] = true) (ht : n.t2 < a.tmps.size) (hb : Below w.heap.size w w')
    (hp : ∀ v, (∀ g, v.ownBlock = some g → g < w.heap.size ∧ w0.heap.size ≤ g) → Part enc size w' v u p2) : J n enc size T w0 v0 vd l0 p1 p2 p3 (L.setIfInBounds n.m2 true) (slot (a.put (some n.t2) u)) w' := by
  simp only [farB, List.all_cons, List.all_nil, Bool.and_true, Bool.and_eq_true, bne_iff_ne, ne_eq] at hk hd
  obtain ⟨k1, k2, k3, k4, k5, k6⟩ := hk
  obtain ⟨d1, d2, d3, d4, d5, d6, d7⟩ := hd
  obtain ⟨h1, h2, h3, h4, h5, h6, h7⟩ := h
  refine ⟨h1.trans (hb.mono h1.size), ?_, ?_, ?_, ?_, ?_, ?_⟩
  all_goals simp only [Rel.set_ne k1, Rel.set_ne k2, Rel.set_ne k3, Rel.set_ne k4, Rel.set_ne k5, Rel.set_ne k6, Rel.slot_put ht, Rel.slot_put_ne d1, Rel.slot_put_ne d2, Rel.slot_put_ne d3, Rel.slot_put_ne d4, Rel.slot_put_ne d5, Rel.slot_put_ne d6, Rel.slot_put_ne d7]
  · exact own_on h2 hb
  · exact lit_on hs h3 hb
  · exact fun _ _ => hp _ fun g hg => (World.ownsRow.lt h2 g hg).symm
  · exact lit_on hs h5 hb
  · exact h6
  · exact h7
theorem mk3 (hs : ∀ x, (enc x).length = size) {u : Value} (h : J n enc size T w0 v0 vd l0 p1 p2 p3 L (slot a) w) (hk : farB n.m3 [n.i1, n.i2, n.i3, n.m1, n.m2, n.ia] = true) (hd : farB n.t3 [n.d1, n.d2, n.d3, n.t1, n.t2, n.da, n.dl] = true) (ht : n.t3 < a.tmps.size) (hb : Below w.heap.size w w')
    (hp : ∀ v, (∀ g, v.ownBlock = some g → g < w.heap.size ∧ w0.heap.size ≤ g) → Part enc size w' v u p3) : J n enc size T w0 v0 vd l0 p1 p2 p3 (L.setIfInBounds n.m3 true) (slot (a.put (some n.t3) u)) w' := by
  simp only [farB, List.all_cons, List.all_nil, Bool.and_true, Bool.and_eq_true, bne_iff_ne, ne_eq] at hk hd
  obtain ⟨k1, k2, k3, k4, k5, k6⟩ := hk
  obtain ⟨d1, d2, d3, d4, d5, d6, d7⟩ := hd
  obtain ⟨h1, h2, h3, h4, h5, h6, h7⟩ := h
  refine ⟨h1.trans (hb.mono h1.size), ?_, ?_, ?_, ?_, ?_, ?_⟩
  all_goals simp only [Rel.set_ne k1, Rel.set_ne k2, Rel.set_ne k3, Rel.set_ne k4, Rel.set_ne k5, Rel.set_ne k6, Rel.slot_put ht, Rel.slot_put_ne d1, Rel.slot_put_ne d2, Rel.slot_put_ne d3, Rel.slot_put_ne d4, Rel.slot_put_ne d5, Rel.slot_put_ne d6, Rel.slot_put_ne d7]
  · exact own_on h2 hb
  · exact lit_on hs h3 hb
  · exact lit_on hs h4 hb
  · exact fun _ _ => hp _ fun g hg => (World.ownsRow.lt h2 g hg).symm
  · exact h6
  · exact h7
/-- A list made in the region is a part. -/
theorem part_new (hs : ∀ x, (enc x).length = size) (w : World) (p : List α) (A : Array Value) (hA : A.toList = flat enc p) (c : Nat) (v : Value) (hv : ∀ g, v.ownBlock = some g → g < w.heap.size ∧ w0.heap.size ≤ g) : Part enc size (w.alloc (.cells A T)) v (.slice (some ⟨w.heap.size, 0, none⟩) p.length c) p :=
  ⟨_, _, rfl, row_new hs w p A T _ rfl hA, (fun h => by cases h), fun q hq _ => by
    injection hq with hq
    subst hq
    refine ⟨fun e => ?_, by simp⟩
    have h : w.heap.size < w.heap.size := (hv _ e).1
    omega⟩
/-- A list that was there ahead of all is a part. -/
theorem part_old (hs : ∀ x, (enc x).length = size) {ad : Option Addr} {c : Nat} {p : List α} (hr : Kit.Row enc size w0 ad p) (hn : ad = none → p.length = 0 ∧ c = 0) (hq : ∀ q, ad = some q → p ≠ [] → q.block < w0.heap.size) (hb : Below w0.heap.size w0 w) (v : Value) (hv : ∀ g, v.ownBlock = some g → g < w.heap.size ∧ w0.heap.size ≤ g) : Part enc size w v (.slice ad p.length c) p :=
  ⟨ad, c, rfl, row_keep hs hr hb, hn, fun q hq' hl => ⟨fun e => by
    have h1 := (hv _ e).2
    have h2 := hq q hq' hl
    omega, Nat.lt_of_lt_of_le (hq q hq' hl) hb.size⟩⟩

/-! ### The appends -/

/-- What append needs to know of the type. -/
structure Ty (enc : α → List Value) (size : Nat) (P : Program) (t T : TypeId) (z : Value) (bytes : Nat) : Prop where
  hs : ∀ x, (enc x).length = size
  hz : 0 < size
  one : ∀ x, ∀ u ∈ enc x, u.oneCell' = true
  und : P.underlying t = some (.slice T)
  info : (P.info? T).map (fun i => (i.zero, i.size, i.bytes)) = some (some z, size, bytes)
  zero : z.cells.size = size
variable {P : Program} {t : TypeId} {z : Value} {bytes : Nat}
theorem step (H : Ty enc size P t T z bytes) {v u : Value} {l p : List α} (ho : Owns enc size T w w0.heap.size v l) (hp : Part enc size w v u p) (h63 : l.length + p.length ≤ maxLen) (hby : (l.length + p.length) * bytes ≤ 140737488355328) (hb : w0.heap.size ≤ w.heap.size) (ty : TypeId) :
    ∃ v9 w9, (Builtin.append_ #[t, t] ty #[v, u]).run P w = .ok v9 w9 ∧ Owns enc size T w9 w0.heap.size v9 (l ++ p) ∧ w.grownBy w9 v.ownBlock ∧ (v9.ownBlock = v.ownBlock ∨ v9.ownBlock = some w.heap.size) ∧ Below w0.heap.size w w9 := by
  obtain ⟨ad, c, rfl, hr, hn, _⟩ := hp
  obtain ⟨v9, w9, h1, h2, h3, h4⟩ := Two.run_append_apart (P := P) H.hs H.hz H.one (w := w) t ty T H.und z bytes H.info H.zero w0.heap.size v l ho ad p.length c p rfl hr hn h63 hby hb
  exact ⟨v9, w9, h1, h2, h3, h4, Two.below_grown ho h3 hb⟩
theorem ap1 (H : Ty enc size P t T z bytes) (h : J n enc size T w0 v0 vd l0 p1 p2 p3 L (slot a) w) (hk : farB n.i1 [n.i2, n.i3, n.m1, n.m2, n.m3, n.ia] = true) (hd : farB n.d1 [n.d2, n.d3, n.t1, n.t2, n.t3, n.da] = true) (ht : n.d1 < a.tmps.size) (hi : n.i1 < L.size)
    (f1 : L.getD n.i1 false = false) (f2 : L.getD n.i2 false = false) (f3 : L.getD n.i3 false = false) (g1 : L.getD n.m1 false = true) (ga : L.getD n.ia false = false) (h63 : l0.length + p1.length ≤ maxLen) (hby : (l0.length + p1.length) * bytes ≤ 140737488355328) (ty : TypeId) :
    ∃ v9 w9, (Builtin.append_ #[t, t] ty #[v0, slot a n.t1]).run P w = .ok v9 w9 ∧ J n enc size T w0 v0 vd l0 p1 p2 p3 (L.setIfInBounds n.i1 true) (slot (a.put (some n.d1) v9)) w9 := by
  simp only [farB, List.all_cons, List.all_nil, Bool.and_true, Bool.and_eq_true, bne_iff_ne, ne_eq] at hk hd
  obtain ⟨k1, k2, k3, k4, k5, k6⟩ := hk
  obtain ⟨d1, d2, d3, d4, d5, d6⟩ := hd
  obtain ⟨h1, h2, h3, h4, h5, h6, h7⟩ := h
  rw [f1, f2, f3] at h2 h3 h4 h5
  obtain ⟨v9, w9, e1, e2, e3, e4, e5⟩ := step H h2 (h3 g1 rfl) h63 hby h1.size ty
  refine ⟨v9, w9, e1, h1.trans e5, ?_, ?_, ?_, ?_, ?_, ?_⟩
  all_goals simp only [Rel.set_ne k1, Rel.set_ne k2, Rel.set_ne k3, Rel.set_ne k4, Rel.set_ne k5, Rel.set_ne k6, Rel.set_eq rfl hi, Rel.slot_put ht, Rel.slot_put_ne d1, Rel.slot_put_ne d2, Rel.slot_put_ne d3, Rel.slot_put_ne d4, Rel.slot_put_ne d5, Rel.slot_put_ne d6, f2, f3]
  · exact e2
  · exact fun _ h => by cases h
  · exact fun hc hb => part_grown H.hs (h4 hc hb) e3 e4
  · exact fun hc hb => part_grown H.hs (h5 hc hb) e3 e4
  · exact h6
  · intro h; rw [ga] at h; cases h
/-- The list is made within the region: nothing, in memory of its own. -/
theorem emp (hs : ∀ x, (enc x).length = size) (h : J n enc size T w0 v0 vd [] [] p2 p3 L (slot a) w) (hk : farB n.i1 [n.i2, n.i3, n.m1, n.m2, n.m3, n.ia] = true) (hd : farB n.d1 [n.d2, n.d3, n.t1, n.t2, n.t3, n.da] = true) (ht : n.d1 < a.tmps.size) (hi : n.i1 < L.size)
    (f1 : L.getD n.i1 false = false) (f2 : L.getD n.i2 false = false) (f3 : L.getD n.i3 false = false) (ga : L.getD n.ia false = false) :
    J n enc size T w0 v0 vd [] [] p2 p3 (L.setIfInBounds n.i1 true) (slot (a.put (some n.d1) (.slice (some ⟨w.heap.size, 0, none⟩) 0 0))) (w.alloc (.cells #[] T)) := by
  simp only [farB, List.all_cons, List.all_nil, Bool.and_true, Bool.and_eq_true, bne_iff_ne, ne_eq] at hk hd
  obtain ⟨k1, k2, k3, k4, k5, k6⟩ := hk
  obtain ⟨d1, d2, d3, d4, d5, d6⟩ := hd
  obtain ⟨h1, h2, h3, h4, h5, h6, h7⟩ := h
  rw [f1, f2, f3] at h2 h3 h4 h5
  have hb := below_alloc w (.cells #[] T)
  have hg : ∀ v : Value, w.grownBy (w.alloc (.cells #[] T)) v.ownBlock := fun v => ⟨hb.os, hb.tape, hb.output, hb.size, fun k hk _ => hb.block k hk⟩
  refine ⟨h1.trans (hb.mono h1.size), ?_, ?_, ?_, ?_, ?_, ?_⟩
  all_goals simp only [Rel.set_ne k1, Rel.set_ne k2, Rel.set_ne k3, Rel.set_ne k4, Rel.set_ne k5, Rel.set_ne k6, Rel.set_eq rfl hi, Rel.slot_put ht, Rel.slot_put_ne d1, Rel.slot_put_ne d2, Rel.slot_put_ne d3, Rel.slot_put_ne d4, Rel.slot_put_ne d5, Rel.slot_put_ne d6, f2, f3]
  · show Owns enc size T _ w0.heap.size (.slice (some ⟨w.heap.size, 0, none⟩) 0 0) []
    exact ⟨by simp [flat], .inr ⟨w.heap.size, 0, _, rfl, h1.size, heap_alloc_new w _, Nat.le_refl _, by unfold maxLen; omega, by simp, by simp [flat]⟩⟩
  · exact fun _ h => by cases h
  · exact fun hc hb' => part_grown hs (h4 hc hb') (hg _) (.inr rfl)
  · exact fun hc hb' => part_grown hs (h5 hc hb') (hg _) (.inr rfl)
  · exact h6
  · intro h; rw [ga] at h; cases h
theorem ap2 (H : Ty enc size P t T z bytes) (h : J n enc size T w0 v0 vd l0 p1 p2 p3 L (slot a) w) (hk : farB n.i2 [n.i1, n.i3, n.m1, n.m2, n.m3, n.ia] = true) (hd : farB n.d2 [n.d1, n.d3, n.t1, n.t2, n.t3, n.da] = true) (ht : n.d2 < a.tmps.size) (hi : n.i2 < L.size)
    (f1 : L.getD n.i1 false = true) (f2 : L.getD n.i2 false = false) (f3 : L.getD n.i3 false = false) (g1 : L.getD n.m2 false = true) (ga : L.getD n.ia false = false) (h63 : (l0 ++ p1).length + p2.length ≤ maxLen) (hby : ((l0 ++ p1).length + p2.length) * bytes ≤ 140737488355328) (ty : TypeId) :
    ∃ v9 w9, (Builtin.append_ #[t, t] ty #[slot a n.d1, slot a n.t2]).run P w = .ok v9 w9 ∧ J n enc size T w0 v0 vd l0 p1 p2 p3 (L.setIfInBounds n.i2 true) (slot (a.put (some n.d2) v9)) w9 := by
  simp only [farB, List.all_cons, List.all_nil, Bool.and_true, Bool.and_eq_true, bne_iff_ne, ne_eq] at hk hd
  obtain ⟨k1, k2, k3, k4, k5, k6⟩ := hk
  obtain ⟨d1, d2, d3, d4, d5, d6⟩ := hd
  obtain ⟨h1, h2, h3, h4, h5, h6, h7⟩ := h
  rw [f1, f2, f3] at h2 h4 h5
  obtain ⟨v9, w9, e1, e2, e3, e4, e5⟩ := step H h2 (h4 g1 rfl) h63 hby h1.size ty
  refine ⟨v9, w9, e1, h1.trans e5, ?_, ?_, ?_, ?_, ?_, ?_⟩
  all_goals simp only [Rel.set_ne k1, Rel.set_ne k2, Rel.set_ne k3, Rel.set_ne k4, Rel.set_ne k5, Rel.set_ne k6, Rel.set_eq rfl hi, Rel.slot_put ht, Rel.slot_put_ne d1, Rel.slot_put_ne d2, Rel.slot_put_ne d3, Rel.slot_put_ne d4, Rel.slot_put_ne d5, Rel.slot_put_ne d6, f1, f3]
  · exact e2
  · exact fun _ h => by cases h
  · exact fun _ h => by cases h
  · exact fun hc hb => part_grown H.hs (h5 hc hb) e3 e4
  · exact h6
  · intro h; rw [ga] at h; cases h
theorem ap3 (H : Ty enc size P t T z bytes) (h : J n enc size T w0 v0 vd l0 p1 p2 p3 L (slot a) w) (hk : farB n.i3 [n.i1, n.i2, n.m1, n.m2, n.m3, n.ia] = true) (hd : farB n.d3 [n.d1, n.d2, n.t1, n.t2, n.t3, n.da] = true) (ht : n.d3 < a.tmps.size) (hi : n.i3 < L.size)
    (f1 : L.getD n.i1 false = true) (f2 : L.getD n.i2 false = true) (f3 : L.getD n.i3 false = false) (g1 : L.getD n.m3 false = true) (ga : L.getD n.ia false = false) (h63 : (l0 ++ p1 ++ p2).length + p3.length ≤ maxLen) (hby : ((l0 ++ p1 ++ p2).length + p3.length) * bytes ≤ 140737488355328) (ty : TypeId) :
    ∃ v9 w9, (Builtin.append_ #[t, t] ty #[slot a n.d2, slot a n.t3]).run P w = .ok v9 w9 ∧ J n enc size T w0 v0 vd l0 p1 p2 p3 (L.setIfInBounds n.i3 true) (slot (a.put (some n.d3) v9)) w9 := by
  simp only [farB, List.all_cons, List.all_nil, Bool.and_true, Bool.and_eq_true, bne_iff_ne, ne_eq] at hk hd
  obtain ⟨k1, k2, k3, k4, k5, k6⟩ := hk
  obtain ⟨d1, d2, d3, d4, d5, d6⟩ := hd
  obtain ⟨h1, h2, h3, h4, h5, h6, h7⟩ := h
  rw [f1, f2, f3] at h2 h5
  obtain ⟨v9, w9, e1, e2, e3, e4, e5⟩ := step H h2 (h5 g1 rfl) h63 hby h1.size ty
  refine ⟨v9, w9, e1, h1.trans e5, ?_, ?_, ?_, ?_, ?_, ?_⟩
  all_goals simp only [Rel.set_ne k1, Rel.set_ne k2, Rel.set_ne k3, Rel.set_ne k4, Rel.set_ne k5, Rel.set_ne k6, Rel.set_eq rfl hi, Rel.slot_put ht, Rel.slot_put_ne d1, Rel.slot_put_ne d2, Rel.slot_put_ne d3, Rel.slot_put_ne d4, Rel.slot_put_ne d5, Rel.slot_put_ne d6, f1, f2]
  · exact e2
  · exact fun _ h => by cases h
  · exact fun _ h => by cases h
  · exact fun _ h => by cases h
  · exact h6
  · intro h; rw [ga] at h; cases h
/-- The assignment. -/
theorem asg (h : J n enc size T w0 v0 vd l0 p1 p2 p3 L (slot a) w) (hk : farB n.ia [n.i1, n.i2, n.i3, n.m1, n.m2, n.m3] = true) (hd : farB n.da [n.d1, n.d2, n.d3, n.t1, n.t2, n.t3, n.dl] = true) (ht : n.da < a.tmps.size) (hi : n.ia < L.size) : J n enc size T w0 v0 vd l0 p1 p2 p3 (L.setIfInBounds n.ia true) (slot (a.put (some n.da) (slot a n.dl))) w := by
  simp only [farB, List.all_cons, List.all_nil, Bool.and_true, Bool.and_eq_true, bne_iff_ne, ne_eq] at hk hd
  obtain ⟨k1, k2, k3, k4, k5, k6⟩ := hk
  obtain ⟨d1, d2, d3, d4, d5, d6, d7⟩ := hd
  obtain ⟨h1, h2, h3, h4, h5, h6, h7⟩ := h
  refine ⟨h1, ?_, ?_, ?_, ?_, ?_, ?_⟩
  all_goals simp only [Rel.set_ne k1, Rel.set_ne k2, Rel.set_ne k3, Rel.set_ne k4, Rel.set_ne k5, Rel.set_ne k6, Rel.set_eq rfl hi, Rel.slot_put ht, Rel.slot_put_ne d1, Rel.slot_put_ne d2, Rel.slot_put_ne d3, Rel.slot_put_ne d4, Rel.slot_put_ne d5, Rel.slot_put_ne d6, Rel.slot_put_ne d7]
  · exact h2
  · exact h3
  · exact h4
  · exact h5
  · intro h; cases h
  · intro _; trivial
theorem all_true {k i : Nat} (h : i < k) : (Array.replicate k true).getD i false = true := by simp [h]
theorem all_far {k i : Nat} (h : k ≤ i) : (Array.replicate k true).getD i false = false := by
  have : ¬ i < k := by omega
  simp [this]
/-- At the end: of three, of two. -/
theorem end3 {k : Nat} (h : J n enc size T w0 v0 vd l0 p1 p2 p3 (Array.replicate k true) (slot a) w) (hi : n.i3 < k) (ha : n.ia < k) (hl : n.dl = n.d3) : Below w0.heap.size w0 w ∧ Owns enc size T w w0.heap.size (slot a n.da) (l0 ++ p1 ++ p2 ++ p3) := by
  refine ⟨h.below, ?_⟩
  rw [h.new (all_true ha), hl]
  have := h.own
  rw [all_true hi] at this
  exact this
theorem end2 {k : Nat} (h : J n enc size T w0 v0 vd l0 p1 p2 p3 (Array.replicate k true) (slot a) w) (hi : n.i2 < k) (hf : k ≤ n.i3) (ha : n.ia < k) (hl : n.dl = n.d2) : Below w0.heap.size w0 w ∧ Owns enc size T w w0.heap.size (slot a n.da) (l0 ++ p1 ++ p2) := by
  refine ⟨h.below, ?_⟩
  rw [h.new (all_true ha), hl]
  have := h.own
  rw [all_true hi, all_far hf] at this
  exact this
theorem end1 {k : Nat} (h : J n enc size T w0 v0 vd l0 p1 p2 p3 (Array.replicate k true) (slot a) w) (hi : n.i1 < k) (hf2 : k ≤ n.i2) (hf : k ≤ n.i3) (ha : n.ia < k) (hl : n.dl = n.d1) : Below w0.heap.size w0 w ∧ Owns enc size T w w0.heap.size (slot a n.da) (l0 ++ p1) := by
  refine ⟨h.below, ?_⟩
  rw [h.new (all_true ha), hl]
  have := h.own
  rw [all_true hi, all_far hf2, all_far hf] at this
  exact this
theorem far_no (h : J n enc size T w0 v0 vd l0 p1 p2 p3 L (slot a) w) {i : Nat} (hi : L.size ≤ i) : L.getD i false = false := by
  have : ¬ i < L.size := by omega
  simp [this]
end Go.Proofs.Ytckebhknnocpkaa.Nest
