/- Tree: two amounts put behind a list of the call's own in one statement: what the first append leaves, in whatever order. -/
import Derived.Test.YtpciijihedlheaaTreRef
import Derived.Test.YtpciijihedlheaaRegTwo
import Derived.Deep.DeepAppendRoom
namespace Go.Proofs.Ytpciijihedlheaa.Tre
set_option maxRecDepth 100000
open Go.RowKit
open Go.Sort
open Kit
set_option linter.unusedVariables false
variable {w w' : World}

abbrev OwI (w : World) (base : Nat) (v : Value) (l : List Int) : Prop := Owns encI 1 3 w base v l
/-- The world goes on, but for the block of v. -/
abbrev Gu (v : Value) (w w' : World) : Prop := w.grownBy w' v.ownBlock
theorem gu_refl (v : Value) (w : World) : Gu v w w := ⟨rfl, rfl, rfl, Nat.le_refl _, fun _ _ _ => rfl⟩
theorem gu_below (v : Value) (h : Below w.heap.size w w') : Gu v w w' := ⟨h.1, h.2, h.3, h.4, fun k hk _ => h.5 k hk⟩
/-- A list of one, apart from v. -/
def kLit (v : Value) (base : Nat) (x : Int) : Rel.Kd (Gu v) :=
  ⟨fun w u => ∃ b, u = .slice (some ⟨b, 0, none⟩) 1 1 ∧ OwI w base u [x] ∧ Two.Apart v u, fun _ _ _ hg ⟨b, e, h, ha⟩ => ⟨b, e, Two.owns_kept h hg ha, ha⟩⟩
/-- What the first append answers: the same block (r), or another. -/
def kAp (v v7 : Value) (base : Nat) (l : List Int) (r : Bool) : Rel.Kd (Gu v) :=
  ⟨fun w u => (r = true ∧ u = v7) ∨ (r = false ∧ OwI w base u l ∧ Two.Apart v u), fun _ _ _ hg h => by
    rcases h with h | ⟨hr, h, ha⟩
    · exact .inl h
    · exact .inr ⟨hr, Two.owns_kept h hg ha, ha⟩⟩
def JU (w0 : World) (v v7 : Value) (l l7 : List Int) (r : Bool) (L : Array Bool) (w : World) : Prop :=
  Below w0.heap.size w0 w ∧ (L.getD 7 false = false → OwI w w0.heap.size v l) ∧ (L.getD 7 false = true → r = true → OwI w w0.heap.size v7 l7) ∧ (∀ g, v.ownBlock = some g → g < w.heap.size)
theorem ju_set {w0 : World} {v v7 : Value} {l l7 : List Int} {r : Bool} {L : Array Bool} {k : Nat} (hk : k ≠ 7) (h : JU w0 v v7 l l7 r L w) : JU w0 v v7 l l7 r (L.setIfInBounds k true) w := by
  unfold JU at *
  rw [Array.getD_eq_getD_getElem?, Array.getElem?_setIfInBounds, if_neg hk, ← Array.getD_eq_getD_getElem?]
  exact h
theorem ju_go {w0 : World} {v v7 : Value} {l l7 : List Int} {r : Bool} {L : Array Bool} (h : JU w0 v v7 l l7 r L w) (hb : Below w.heap.size w w') : JU w0 v v7 l l7 r L w' :=
  ⟨below_keep h.1 hb, fun e => own_chg' (h.2.1 e) hb, (fun e e' => own_chg' (h.2.2.1 e e') hb), fun g hg => Nat.lt_of_lt_of_le (h.2.2.2 g hg) hb.size⟩
theorem ju_at {w0 : World} {v v7 : Value} {l l7 : List Int} {r : Bool} {L : Array Bool} {n : Nat} (h : JU w0 v v7 l l7 r L w) (hs : L.size = n) (hn : 7 < n) (hb : Below w0.heap.size w w') (hg : Gu v w w') (ho : r = true → OwI w' w0.heap.size v7 l7) : JU w0 v v7 l l7 r (L.setIfInBounds 7 true) w' := by
  have e : (L.setIfInBounds 7 true).getD 7 false = true := by
    have : 7 < L.size := by omega
    simp [this]
  refine ⟨h.1.trans hb, (fun e' => by rw [e] at e'; cases e'), fun _ => ho, fun g hg' => Nat.lt_of_lt_of_le (h.2.2.2 g hg') hb.size⟩
theorem c_free {L : Array Bool} {k : Nat} (h : L.getD k true = false) : L.getD k false = false := by
  by_cases hk : k < L.size
  · simp [hk] at h ⊢; exact h
  · simp [hk]
theorem lit_new {w0 : World} {v v7 : Value} {l l7 : List Int} {r : Bool} {L : Array Bool} {x : Int} (h : JU w0 v v7 l l7 r L w) : (kLit v w0.heap.size x).p (w.alloc (.cells #[.int .i64 x] 3)) (.slice (some ⟨w.heap.size, 0, none⟩) 1 1) :=
  ⟨_, rfl, owns_lit w x _ h.1.size, .inr fun e => by
    have := h.2.2.2 w.heap.size e.symm
    omega⟩
theorem run_ia2 {b o n c k : Nat} (h : k < n) (w : World) : (Instr.indexAt 23 (.slice (some ⟨b, o, none⟩) n c) (.int .i64 k)).run Try.prog w = .ok (.pointer (some ⟨b, o + k * 6, none⟩)) w := by
  simp [go_sem, h]
theorem run_ld2 {w : World} {a : Addr} {x : Int} (h : w.cell? a = some (.int .i64 x)) : (Instr.loadAt 3 (.pointer (some a))).run Try.prog w = .ok (.int .i64 x) w := by
  simp [go_sem, h]
theorem run_bs_i (x : Int) (w : World) : (Instr.buildSlice 29 1 #[(0, .int .i64 x)]).run Try.prog w = .ok (.slice (some ⟨w.heap.size, 0, none⟩) 1 1) (w.alloc (.cells #[.int .i64 x] 3)) := by
  simp [go_sem]
/-- Is there room behind v? -/
def Room1 (v v7 : Value) (n : Nat) (r : Bool) : Prop :=
  (r = true → ∃ g cap, v = .slice (some ⟨g, 0, none⟩) n cap ∧ n + 1 ≤ cap ∧ v7 = .slice (some ⟨g, 0, none⟩) (n + 1) cap) ∧ (r = false → ∀ g cap, v = .slice (some ⟨g, 0, none⟩) n cap → cap < n + 1)
theorem room_any {base : Nat} {v : Value} {l : List Int} (h : OwI w base v l) : ∃ v7 r, Room1 v v7 l.length r := by
  rcases h.2 with ⟨rfl, _⟩ | ⟨g, cap, cur, rfl, _⟩
  · exact ⟨undef, false, (fun h => by cases h), fun _ g cap h => by cases h⟩
  · by_cases hc : l.length + 1 ≤ cap
    · exact ⟨.slice (some ⟨g, 0, none⟩) (l.length + 1) cap, true, (fun _ => ⟨g, cap, rfl, hc, rfl⟩), fun h => by cases h⟩
    · exact ⟨undef, false, (fun h => by cases h), fun _ g' cap' h => by cases h; omega⟩

theorem append_out {P : Program} (w : World) (base : Nat) (t ty e : TypeId) (i : TypeInfo) (z : Value) (size bytes : Nat) (ht : P.underlying t = some (.slice e)) (hi : P.info? e = some i) (hz : i.zero = some z)
    (hsize : i.size = size) (hby : i.bytes = bytes) (hzs : z.cells.size = size) (hsz : 0 < size) (v : Value) (n : Nat) (xs : List Value) (hown : w.ownsRow base e size v n xs)
    (a : Addr) (m c : Nat) (news : List Value) (hl : news.length = m * size) (hnews : ∀ j u, news[j]? = some u → w.cell? (a.add j) = some u) (h1 : ∀ u ∈ news, u.oneCell' = true)
    (h63 : n + m ≤ maxLen) (hbytes : (n + m) * bytes ≤ 140737488355328) (hbase : base ≤ w.heap.size) (hm : 0 < m) (hfull : ∀ g cap, v = .slice (some ⟨g, 0, none⟩) n cap → cap < n + m) :
    ∃ v' w', (Builtin.append_ #[t, t] ty #[v, .slice (some a) m c]).run P w = .ok v' w' ∧ w'.ownsRow base e size v' (n + m) (xs ++ news) ∧ w.grownBy w' v.ownBlock ∧ v'.ownBlock = some w.heap.size := by
  obtain ⟨v', w', hr, h2, h3, _⟩ := run_append_own (P := P) w base t ty e i z size bytes ht hi hz hsize hby hzs hsz v n xs hown a m c news hl hnews h1 h63 hbytes hbase
  refine ⟨v', w', hr, h2, h3, ?_⟩
  subst hsize hby
  have hsmall : n + m ≤ 9223372036854775807 := by simp only [maxLen] at h63; omega
  have out : ∀ {x y : Value} {wx wy : World} {r : Result Value}, r = .ok x wx → r = .ok y wy → x = y := by
    intro x y wx wy r hx hy
    rw [hx] at hy
    injection hy
  rcases hown.2 with ⟨rfl, rfl⟩ | ⟨g, cap, cur, rfl, _, hg, _, _, hcs, _⟩
  · have hr0 := run_append_nil (P := P) w t ty e i z ht hi hz a m c news hl hnews (by omega) (by omega) (by have hb := hbytes; simp only [Nat.zero_add] at hb; omega)
    rw [out hr hr0]; rfl
  · have hroom := hfull g cap rfl
    have hr0 := run_append_grow (P := P) w t ty e i z ht hi hz ⟨g, 0, none⟩ n cap xs hown.1 (hown.cells (g := g) rfl) a m c news hl hnews (by omega) (by omega) (growslice_fits (by omega) hbytes)
    rw [out hr hr0]; rfl

theorem lit_cells {w : World} {b base : Nat} {x : Int} (h : OwI w base (.slice (some ⟨b, 0, none⟩) 1 1) [x]) : ∀ j u, [Value.int .i64 x][j]? = some u → w.cell? ((⟨b, 0, none⟩ : Addr).add j) = some u := by
  intro j u hj
  exact h.cells (g := b) rfl j u hj
/-- The first of two appends. -/
theorem ap7_any {w0 : World} {v v7 : Value} {l : List Int} {r : Bool} {x : Int} {b : Nat} (ty : TypeId) (hR : Room1 v v7 l.length r) (h : OwI w w0.heap.size v l) (hx : OwI w w0.heap.size (.slice (some ⟨b, 0, none⟩) 1 1) [x]) (hsz : w0.heap.size ≤ w.heap.size) (hlen : l.length + 1 ≤ 1000) :
    ∃ v' w', (Builtin.append_ #[29, 29] ty #[v, .slice (some ⟨b, 0, none⟩) 1 1]).run Try.prog w = .ok v' w' ∧ Gu v w w' ∧ (kAp v v7 w0.heap.size (l ++ [x]) r).p w' v' ∧ (r = true → OwI w' w0.heap.size v7 (l ++ [x])) ∧ Below w0.heap.size w w' := by
  obtain ⟨i0, hi, hz0, hz1, hz2⟩ := info_parts info_i
  cases hr : r with
  | true =>
    obtain ⟨g, cap, rfl, hc, rfl⟩ := hR.1 hr
    obtain ⟨w', h1, h2, h3⟩ := run_append_own_spare (P := Try.prog) (w := w) w0.heap.size 29 ty 3 i0 1 Try.underlying29 hi hz1 g l.length cap _ h ⟨b, 0, none⟩ 1 1 [.int .i64 x] rfl (lit_cells hx) (by simp [Value.oneCell']) hc
    have ho : OwI w' w0.heap.size (.slice (some ⟨g, 0, none⟩) (l.length + 1) cap) (l ++ [x]) := by
      unfold OwI Owns
      rw [flat_append, List.length_append]
      exact h2
    exact ⟨_, w', h1, h3, .inl ⟨rfl, rfl⟩, fun _ => ho, Two.below_grown h h3 hsz⟩
  | false =>
    obtain ⟨v', w', h1, h2, h3, h4⟩ := append_out (P := Try.prog) w w0.heap.size 29 ty 3 i0 (.int .i64 0) 1 8 Try.underlying29 hi hz0 hz1 hz2 rfl Nat.zero_lt_one v l.length _ h ⟨b, 0, none⟩ 1 1 [.int .i64 x] rfl (lit_cells hx) (by simp [Value.oneCell']) (by unfold maxLen; omega) (by omega) hsz Nat.zero_lt_one (hR.2 hr)
    have ho : OwI w' w0.heap.size v' (l ++ [x]) := by
      unfold OwI Owns
      rw [flat_append, List.length_append]
      exact h2
    refine ⟨v', w', h1, h3, .inr ⟨rfl, ho, .inr fun e => ?_⟩, (fun e => by cases e), Two.below_grown h h3 hsz⟩
    rw [h4] at e
    have := (World.ownsRow.lt h _ e.symm).2
    omega
end Go.Proofs.Ytpciijihedlheaa.Tre
