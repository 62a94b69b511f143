/- Money: what the laws share. -/
import Derived.Test.YtioaaamkpfglmaaMonCost
import Derived.Test.YtioaaamkpfglmaaMonRef
namespace Go.Proofs.Ytioaaamkpfglmaa.Mon
open Go.RowKit

theorem elems_row {w : World} {a : Option Addr} {len cap : Nat} {zs : List Int} (h : (a = none ∧ len = 0 ∧ cap = 0 ∧ zs = []) ∨
    ∃ x, a = some x ∧ len ≤ cap ∧ cap ≤ maxLen ∧ zs.length = cap ∧ (∀ i, i < zs.length → w.cell? (x.add i) = some (.int .i64 (zs.getD i 0))) ∧ ∀ n ∈ zs, (Lit.int .i64 n).wf = true) (n : Nat) (hn : n ≤ len) :
    Elems w a (zs.take n) ∧ (zs.take n).length = n ∧ len ≤ cap ∧ cap ≤ maxLen := by
  rcases h with ⟨rfl, rfl, rfl, rfl⟩ | ⟨x, rfl, hl, hm, hz, hcell, _⟩
  · refine ⟨.inl (by simp), by simp; omega, Nat.le_refl _, by unfold maxLen; omega⟩
  · refine ⟨?_, by rw [List.length_take]; omega, hl, hm⟩
    by_cases h0 : n = 0
    · exact .inl (by simp [h0])
    · obtain ⟨b, off, spot⟩ := x
      have hc := hcell 0 (by omega)
      have hspot : spot = none := by simpa [Addr.add] using World.cell?_spot hc
      subst hspot
      refine .inr ⟨b, off, rfl, fun j hj => ?_⟩
      rw [List.length_take] at hj
      have h := hcell j (by omega)
      have e : (⟨b, off, none⟩ : Addr).add j = ⟨b, off + j, none⟩ := by
        unfold Addr.add; split
        · subst_vars; rfl
        · rfl
      rw [e] at h
      rw [h]
      simp [List.getD, show j < n by omega]

theorem rmul_is (a : Option Addr) (len cap : Nat) (l : List Int) (n e : Int) (w : World) (hl : l.length = len) (hm : len ≤ maxLen) (hE : Elems w a l) (hn : mulN l = n) (he : mulE l = e) :
    Calls Try.prog 13 #[.slice a len cap] w fun r w' => r = .returned (.tuple #[.int .i64 n, .int .i64 e]) ∧ w = w' := by
  rw [← hn, ← he]; exact rmul_any a len cap l w hl hm hE

theorem rcost_any (a b c : Int) (w : World) :
    Calls Try.prog 15 #[.int .i64 a, .int .i64 b, .int .i64 c] w fun e w' => e = .returned (.tuple #[.int .i64 (costN a b c), .int .i64 (costE a b c)]) ∧ Below w.heap.size w w' := by
  by_cases h : a < 0 ∨ b < 0 ∨ c < 0
  · have HC := Lib.hid (cost_neg h)
    by_cases h1 : a < 0
    · clear h
      go_enter Try.func15, Try.ntmps15
      go_wp2
      go_ret2
      exact ⟨ret_two HC.out.1.symm HC.out.2.symm, Below.refl _ _⟩
    · by_cases h2 : b < 0
      · clear h
        go_enter Try.func15, Try.ntmps15
        go_wp2
        go_ret2
        exact ⟨ret_two HC.out.1.symm HC.out.2.symm, Below.refl _ _⟩
      · have h3 : c < 0 := by omega
        clear h
        go_enter Try.func15, Try.ntmps15
        go_wp2
        go_ret2
        exact ⟨ret_two HC.out.1.symm HC.out.2.symm, Below.refl _ _⟩
  · have HC := Lib.hid (cost_pos h)
    have h1 : ¬ a < 0 := by omega
    have h2 : ¬ b < 0 := by omega
    have h3 : ¬ c < 0 := by omega
    clear h
    go_enter Try.func15, Try.ntmps15
    go_wp2_with fail
    refine (rmul_any _ 3 3 [a, b, c] _ rfl (by unfold maxLen; omega) (elems_new _ _ _ _ _ (by simp) (elems_three a b c))).mono ?_
    rintro e w' ⟨rfl, rfl⟩
    go_wp2_with fail
    go_ret2
    exact ⟨ret_two HC.out.1.symm HC.out.2.symm, (Below.refl _ _).alloc (Nat.le_refl _) _⟩

/-! ## Plain -/

theorem foldF_ge {l : List Int} : ∀ {s r : Int}, 0 ≤ s → (∀ x ∈ l, 0 ≤ x) → foldF (fun a b => a * b) s l = some r → 0 ≤ r := by
  induction l with
  | nil => intro s r hs _ h; rw [foldF] at h; cases h; exact hs
  | cons x l ih =>
    intro s r hs hl h
    rw [foldF] at h
    split at h
    · exact ih (Int.mul_nonneg hs (hl x (by simp))) (fun y hy => hl y (by simp [hy])) h
    · cases h

theorem cost_out (a b c : Int) : (costE a b c = 0 ∧ 0 ≤ costN a b c ∧ costN a b c ≤ 1152921504606846976) ∨ (costE a b c ≠ 0) := by
  by_cases h : a < 0 ∨ b < 0 ∨ c < 0
  · right; rw [(cost_neg h).2]; omega
  · rw [(cost_pos h).1, (cost_pos h).2]
    unfold mulN mulE
    cases hm : mulF [a, b, c] with
    | none => right; simp [outE]
    | some r =>
      left
      have h1 := foldF_ge (l := [a, b, c]) (s := 1) (r := r) (by omega) (by intro x hx; simp at hx; omega) hm
      have h2 := fitsB_iff.1 (foldF_fits (l := [a, b, c]) (s := 1) (r := r) (by decide) hm)
      exact ⟨rfl, by simpa [outN] using h1, by simpa [outN] using h2.2⟩

/-- A product of two. -/
theorem mul2 (a b : Int) : mulF [a, b] = if fitsB a = true ∧ fitsB b = true ∧ fitsB (a * b) = true then some (a * b) else none := by
  unfold mulF
  rw [foldF, foldF, foldF]
  simp only [Int.one_mul]
  by_cases h1 : fitsB a = true
  · by_cases h2 : fitsB b = true ∧ fitsB (a * b) = true
    · rw [if_pos ⟨h1, h1⟩, if_pos h2, if_pos ⟨h1, h2⟩]
    · rw [if_pos ⟨h1, h1⟩, if_neg h2, if_neg (fun h => h2 h.2)]
  · rw [if_neg (fun h => h1 h.1), if_neg (fun h => h1 h.1)]

theorem fitsB_neg (n : Int) : fitsB (-n) = fitsB n := by
  rw [fitsB_abs, fitsB_abs]; unfold abs; rw [Int.natAbs_neg]

theorem mul2_comm (a b : Int) : mulF [b, a] = mulF [a, b] := by
  rw [mul2, mul2, Int.mul_comm b a]
  by_cases h1 : fitsB a = true <;> by_cases h2 : fitsB b = true <;> simp [h1, h2]

theorem mul2_some {a b r : Int} (h : mulF [a, b] = some r) : fitsB a = true ∧ fitsB b = true ∧ fitsB r = true ∧ r = a * b := by
  rw [mul2] at h
  split at h
  · rename_i hc; cases h; exact ⟨hc.1, hc.2.1, hc.2.2, rfl⟩
  · cases h

theorem mul2_turn {a b r : Int} (h : mulF [a, b] = some r) : mulF [-a, b] = some (-r) ∧ mulF [-a, -b] = some r ∧ mulF [a, 0] = some 0 := by
  obtain ⟨h1, h2, h3, rfl⟩ := mul2_some h
  refine ⟨?_, ?_, ?_⟩
  · rw [mul2, Int.neg_mul, fitsB_neg, fitsB_neg, if_pos ⟨h1, h2, h3⟩]
  · rw [mul2, Int.neg_mul_neg, fitsB_neg, fitsB_neg, if_pos ⟨h1, h2, h3⟩]
  · rw [mul2, Int.mul_zero, if_pos ⟨h1, by decide, by decide⟩]

theorem mulN_some {l : List Int} {r : Int} (h : mulF l = some r) : mulN l = r ∧ mulE l = 0 := ⟨some_N h, some_E h⟩
theorem mulN_none {l : List Int} (h : mulF l = none) : mulN l = 0 ∧ mulE l = 2 := ⟨none_N h, none_E h⟩
theorem addN_some {l : List Int} {r : Int} (h : addF l = some r) : addN l = r ∧ addE l = 0 := ⟨some_N h, some_E h⟩
theorem addN_none {l : List Int} (h : addF l = none) : addN l = 0 ∧ addE l = 2 := ⟨none_N h, none_E h⟩

end Go.Proofs.Ytioaaamkpfglmaa.Mon
