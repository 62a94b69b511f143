/- Plane: runs of nodes, plain; a list of boxes that a call makes. -/
import Derived.Test.YtahkhkfmpnoneaaPlaLaw
import Derived.OwnWalk
import Derived.Laws.BitsAllLaws
namespace Go.Proofs.Ytahkhkfmpnoneaa.Pla
open Go.RowKit
open Go.Sort

/-- Bit n of a whole number. -/
def bitB (a : Int) (n : Nat) : Bool := bits BinOp.and IntKind.i64 (a / 2 ^ n) 1 == 1

theorem and_one (x : Int) : bits BinOp.and IntKind.i64 x 1 = x % 2 := by
  have h : (BitVec.ofInt 64 x &&& BitVec.ofInt 64 1).toNat = (x % 2).toNat := by
    rw [BitVec.toNat_and, show (BitVec.ofInt 64 1).toNat = 1 from rfl, nat_mask1, BitVec.toNat_ofInt]
    omega
  show IntKind.i64.wrap ((BitVec.ofInt 64 x &&& BitVec.ofInt 64 1).toNat : Int) = _
  rw [h]
  have e := IntWalk.i64_in ((x % 2).toNat : Int) (by omega)
  rw [e]; omega
theorem bitB_not (a : Int) (n : Nat) : (bits BinOp.and IntKind.i64 (a / 2 ^ n) 1 == 0) = !bitB a n := by
  unfold bitB
  rw [and_one]
  rcases Int.emod_two_eq (a / 2 ^ n) with h | h <;> rw [h] <;> rfl
theorem bitB_mod (a : Int) (n : Nat) : bitB a n = decide (a / 2 ^ n % 2 = 1) := by
  unfold bitB
  rw [and_one]
  rcases Int.emod_two_eq (a / 2 ^ n) with h | h <;> rw [h] <;> rfl

def bump : List (Nat × Nat) → List (Nat × Nat)
  | [] => []
  | [(a, k)] => [(a, k + 1)]
  | x :: y :: l => x :: bump (y :: l)

theorem bump_snoc (l : List (Nat × Nat)) (a k : Nat) : bump (l ++ [(a, k)]) = l ++ [(a, k + 1)] := by
  induction l with
  | nil => rfl
  | cons x l ih =>
    cases l with
    | nil => rfl
    | cons y l => rw [List.cons_append, List.cons_append, bump, ← List.cons_append, ih]; rfl

/-- The runs among the first n. -/
def runs (f : Nat → Bool) : Nat → List (Nat × Nat)
  | 0 => []
  | n + 1 => if f n = true then (if 0 < n ∧ f (n - 1) = true then bump (runs f n) else runs f n ++ [(n, 1)]) else runs f n

theorem runs_skip {f : Nat → Bool} {n : Nat} (h : f n = false) : runs f (n + 1) = runs f n := by
  rw [runs, if_neg (by rw [h]; simp)]
theorem runs_new {f : Nat → Bool} {n : Nat} (h : f n = true) (h0 : n = 0 ∨ f (n - 1) = false) : runs f (n + 1) = runs f n ++ [(n, 1)] := by
  rw [runs, if_pos h, if_neg]
  rintro ⟨h1, h2⟩
  rcases h0 with h0 | h0
  · omega
  · rw [h0] at h2; cases h2
theorem runs_more {f : Nat → Bool} {n : Nat} (h : f n = true) (h0 : 0 < n) (h1 : f (n - 1) = true) : runs f (n + 1) = bump (runs f n) := by
  rw [runs, if_pos h, if_pos ⟨h0, h1⟩]
theorem runs_run {f : Nat → Bool} {a : Nat} (h0 : a = 0 ∨ f (a - 1) = false) : ∀ k, (∀ i, i < k + 1 → f (a + i) = true) → runs f (a + (k + 1)) = runs f a ++ [(a, k + 1)] := by
  intro k
  induction k with
  | zero => intro h; exact runs_new (h 0 (by omega)) h0
  | succ k ih =>
    intro h
    rw [show a + (k + 1 + 1) = (a + (k + 1)) + 1 by omega, runs_more (h (k + 1) (by omega)) (by omega) (by rw [show a + (k + 1) - 1 = a + k by omega]; exact h k (by omega)), ih (fun i hi => h i (by omega)), bump_snoc]
theorem bump_length : ∀ l : List (Nat × Nat), (bump l).length = l.length
  | [] => rfl
  | [_] => rfl
  | x :: y :: l => by rw [bump, List.length_cons, bump_length (y :: l)]; rfl
theorem runs_length (f : Nat → Bool) : ∀ n, (runs f n).length ≤ n
  | 0 => Nat.le_refl _
  | n + 1 => by
    have := runs_length f n
    rw [runs]; split
    · split
      · rw [bump_length]; omega
      · rw [List.length_append]; simp; omega
    · omega

/-! ## A list of boxes of the call's own -/

def boxCells (l : List Bx) : List Value := l.flatMap fun x => [.int .i64 x.t, .int .i64 x.n, .int .i64 x.l, .int .i64 x.m]
theorem boxCells_length : ∀ l : List Bx, (boxCells l).length = l.length * 4
  | [] => rfl
  | x :: l => by
    have := boxCells_length l
    unfold boxCells at this ⊢
    rw [List.flatMap_cons, List.length_append, this, List.length_cons]; simp; omega
theorem boxCells_snoc (l : List Bx) (x : Bx) : boxCells (l ++ [x]) = boxCells l ++ [.int .i64 x.t, .int .i64 x.n, .int .i64 x.l, .int .i64 x.m] := by
  unfold boxCells; rw [List.flatMap_append]; simp
theorem boxCells_at : ∀ (l : List Bx) (j : Nat) (h : j < l.length), (boxCells l)[j * 4]? = some (.int .i64 l[j].t) ∧ (boxCells l)[j * 4 + 1]? = some (.int .i64 l[j].n) ∧ (boxCells l)[j * 4 + 2]? = some (.int .i64 l[j].l) ∧ (boxCells l)[j * 4 + 3]? = some (.int .i64 l[j].m)
  | x :: l, 0, _ => by unfold boxCells; exact ⟨rfl, rfl, rfl, rfl⟩
  | x :: l, j + 1, h => by
    have h' : j < l.length := by simpa using h
    have := boxCells_at l j h'
    have e : boxCells (x :: l) = [.int .i64 x.t, .int .i64 x.n, .int .i64 x.l, .int .i64 x.m] ++ boxCells l := rfl
    have g : ∀ i, (boxCells (x :: l))[4 + i]? = (boxCells l)[i]? := fun i => by
      rw [e, List.getElem?_append_right (by simp)]; simp
    rw [show (j + 1) * 4 = 4 + j * 4 by omega, show 4 + j * 4 + 1 = 4 + (j * 4 + 1) by omega, show 4 + j * 4 + 2 = 4 + (j * 4 + 2) by omega, show 4 + j * 4 + 3 = 4 + (j * 4 + 3) by omega, g, g, g, g]
    exact this

def Owns (w : World) (base : Nat) (v : Value) (l : List Bx) : Prop := w.ownsRow base 23 4 v l.length (boxCells l)

theorem owns_boxes {w : World} {base : Nat} {v : Value} {l : List Bx} (h : Owns w base v l) : ∃ a cap, v = .slice a l.length cap ∧ l.length ≤ cap ∧ cap ≤ maxLen ∧ (a = none → cap = 0) ∧ Boxes w a l := by
  obtain ⟨h1, h2⟩ := h
  rcases h2 with ⟨rfl, h3⟩ | ⟨g, cap, cur, rfl, _, hg, hn, hm, hs, ht⟩
  · have hl : l = [] := List.length_eq_zero_iff.1 h3
    subst hl
    exact ⟨none, 0, rfl, Nat.le_refl _, by unfold maxLen; omega, fun _ => rfl, .inl rfl⟩
  · refine ⟨_, cap, rfl, hn, hm, (fun h => by cases h), .inr ⟨g, 0, rfl, fun j hj => ?_⟩⟩
    have e : ∀ i, i < l.length * 4 → w.cell? ⟨g, i, none⟩ = (boxCells l)[i]? := fun i hi => by
      have : (cur.toList.take (l.length * 4))[i]? = (boxCells l)[i]? := by rw [ht]
      rw [List.getElem?_take, if_pos hi] at this
      unfold World.cell?
      simp only [hg]
      simpa using this
    have := boxCells_at l j hj
    rw [Nat.zero_add, e _ (by omega), e _ (by omega), e _ (by omega), e _ (by omega)]
    exact this

theorem info_box : (Try.prog.info? 23).map (fun i => (i.zero, i.size, i.bytes)) = some (some (.agg #[.int .i64 0, .int .i64 0, .int .i64 0, .int .i64 0]), 4, 32) := by kernel_rfl

theorem wpList_append_box {w : World} {ops : Array Oper} {rest : List Oper} {o : Oper} {A : Act} {Q : Exit → Act → World → Prop} (hgd : o.guard = none) (s x : Operand)
    (ho : o.op = .call { callee := .builtin .append, args := #[s, x], argTypes := #[28, 28] })
    (base : Nat) (v : Value) (l : List Bx) (hs : A.eval s = v) (hown : Owns w base v l) (g : Nat) (hx : A.eval x = .slice (some ⟨g, 0, none⟩) 1 1) (y : Bx)
    (hy : w.cell? ⟨g, 0, none⟩ = some (.int .i64 y.t) ∧ w.cell? ⟨g, 1, none⟩ = some (.int .i64 y.n) ∧ w.cell? ⟨g, 2, none⟩ = some (.int .i64 y.l) ∧ w.cell? ⟨g, 3, none⟩ = some (.int .i64 y.m))
    (hsz : l.length ≤ 1000000) (hbase : base ≤ w.heap.size)
    (h : ∀ v' w', Owns w' base v' (l ++ [y]) → Below base w w' → wpList Try.prog ops Q rest (A.put o.dst v') w') : wpList Try.prog ops Q (o :: rest) A w := by
  obtain ⟨i0, hi, hz0, hz1, hz2⟩ := info_parts info_box
  refine wpList_append_own _ hgd s x 28 ho base 23 i0 (.agg #[.int .i64 0, .int .i64 0, .int .i64 0, .int .i64 0]) 4 32 Try.underlying28 hi hz0 hz1 hz2 rfl (by decide) v l.length _ hs hown ⟨g, 0, none⟩ 1 1 [.int .i64 y.t, .int .i64 y.n, .int .i64 y.l, .int .i64 y.m] hx rfl ?_ ?_ (by unfold maxLen; omega) (by omega) hbase ?_
  · intro j u hj
    have e : (⟨g, 0, none⟩ : Addr).add j = ⟨g, j, none⟩ := by
      unfold Addr.add; split
      · subst_vars; rfl
      · simp
    rw [e]
    obtain ⟨h0, h1, h2, h3⟩ := hy
    match j, hj with
    | 0, hj => simp at hj; rw [h0, hj]
    | 1, hj => simp at hj; rw [h1, hj]
    | 2, hj => simp at hj; rw [h2, hj]
    | 3, hj => simp at hj; rw [h3, hj]
  · intro u hu
    simp at hu
    rcases hu with rfl | rfl | rfl | rfl <;> rfl
  · intro v' w' h1 h2 _
    refine h v' w' ?_ ((Below.refl _ _).grown h2 hbase fun k hk => ?_)
    · unfold Owns; rw [boxCells_snoc, List.length_append]; exact h1
    · exact (hown.lt k hk).1

theorem owns_alloc {w : World} {base : Nat} {v : Value} {l : List Bx} (h : Owns w base v l) (o : Obj) : Owns (w.alloc o) base v l := World.ownsRow.alloc h o

end Go.Proofs.Ytahkhkfmpnoneaa.Pla
