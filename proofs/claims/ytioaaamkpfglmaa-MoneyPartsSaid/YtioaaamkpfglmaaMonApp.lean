/- Slices of ints: append of one to what the call owns. -/
import Derived.Test.YtioaaamkpfglmaaMonLaw
import Derived.OwnWalk
import Derived.Laws.AppendOwnNone
import Derived.Deep.RegionWith
namespace Go.Proofs.Ytioaaamkpfglmaa.Mon
open Go.RowKit

theorem info_int : (Try.prog.info? 3).map (fun i => (i.zero, i.size, i.bytes)) = some (some (.int .i64 0), 1, 8) := by kernel_rfl

theorem elems_lt {w : World} {a : Option Addr} {l : List Int} (h : Elems w a l) : l = [] ∨ ∃ b off, a = some ⟨b, off, none⟩ ∧ b < w.heap.size ∧ ∀ j, j < l.length → w.cell? ⟨b, off + j, none⟩ = some (.int .i64 (l.getD j 0)) := by
  rcases h with h | ⟨b, off, h1, h2⟩
  · exact .inl h
  · by_cases hl : l = []
    · exact .inl hl
    · have := h2 0 (List.length_pos_iff.2 hl)
      exact .inr ⟨b, off, h1, World.block_lt_of_cell? w _ this, h2⟩

theorem elems_below {w w' : World} {a : Option Addr} {l : List Int} (h : Elems w a l) (hb : Below w.heap.size w w') : Elems w' a l := by
  rcases elems_lt h with h | ⟨b, off, h1, h2, h3⟩
  · exact .inl h
  · exact .inr ⟨b, off, h1, fun j hj => by rw [hb.cell (p := ⟨b, off + j, none⟩) h2]; exact h3 j hj⟩

theorem elems_drew {w : World} {a : Option Addr} {l : List Int} (h : Elems w a l) : Elems w.drew a l := by
  rcases h with h | ⟨b, off, h1, h2⟩
  · exact .inl h
  · exact .inr ⟨b, off, h1, h2⟩

theorem elems_owned {w : World} {base n : Nat} {v : Value} {l : List Int} (h : w.ownsRow base 3 1 v n (l.map (Value.int .i64))) : ∃ a cap, v = .slice a n cap ∧ l.length = n ∧ n ≤ cap ∧ cap ≤ maxLen ∧ Elems w a l := by
  obtain ⟨h1, h2⟩ := h
  simp at h1
  rcases h2 with ⟨rfl, rfl⟩ | ⟨g, cap, cur, rfl, _, hg, hn, hm, hs, ht⟩
  · refine ⟨none, 0, rfl, h1, Nat.le_refl _, by unfold maxLen; omega, .inl ?_⟩
    exact List.length_eq_zero_iff.1 h1
  · refine ⟨_, cap, rfl, h1, hn, hm, .inr ⟨g, 0, rfl, fun j hj => ?_⟩⟩
    unfold World.cell?
    simp only [hg]
    have e : (cur.toList.take (n * 1))[j]? = (l.map (Value.int .i64))[j]? := by rw [ht]
    simp [show j < n by omega] at e
    simp [e, List.getD, List.getElem?_eq_getElem hj]

theorem wpList_append_ints {w : World} {ops : Array Oper} {rest : List Oper} {o : Oper} {A : Act} {Q : Exit → Act → World → Prop} (hgd : o.guard = none) (s x : Operand)
    (ho : o.op = .call { callee := .builtin .append, args := #[s, x], argTypes := #[22, 22] })
    (base : Nat) (v : Value) (n : Nat) (xs : List Int) (hs : A.eval s = v) (hown : w.ownsRow base 3 1 v n (xs.map (Value.int .i64)))
    (a : Option Addr) (m c : Nat) (l : List Int) (hx : A.eval x = .slice a m c) (hl : l.length = m) (hE : Elems w a l) (hnil : a = none → m = 0 ∧ c = 0)
    (hsz : (n + m) * 8 ≤ 140737488355328) (hbase : base ≤ w.heap.size)
    (h : ∀ v' w', w'.ownsRow base 3 1 v' (n + m) ((xs ++ l).map (Value.int .i64)) → Below base w w' → wpList Try.prog ops Q rest (A.put o.dst v') w') : wpList Try.prog ops Q (o :: rest) A w := by
  obtain ⟨i0, hi, hz0, hz1, hz2⟩ := info_parts info_int
  cases a with
  | none =>
    obtain ⟨rfl, rfl⟩ := hnil rfl
    obtain rfl : l = [] := List.length_eq_zero_iff.1 hl
    refine wpList_append_own_none hgd s x 22 ho base 3 i0 1 Try.underlying22 hi v n _ hs hown hx (h v w (by simpa using hown) (Below.refl _ _))
  | some ad =>
    refine wpList_append_own _ hgd s x 22 ho base 3 i0 (.int .i64 0) 1 8 Try.underlying22 hi hz0 hz1 hz2 rfl (by decide) v n _ hs hown ad m c (l.map (Value.int .i64)) hx (by simp [hl]) ?_ ?_ (by unfold maxLen; omega) hsz hbase ?_
    · intro j u hj
      rcases hE with rfl | ⟨b, off, h1, h2⟩
      · simp at hj
      · cases h1
        rw [List.getElem?_map] at hj
        by_cases hjl : j < l.length
        · rw [List.getElem?_eq_getElem hjl] at hj
          simp at hj
          have e : (⟨b, off, none⟩ : Addr).add j = ⟨b, off + j, none⟩ := by
            unfold Addr.add; split
            · subst_vars; rfl
            · rfl
          rw [e, h2 j hjl, ← hj]
          simp [List.getD, List.getElem?_eq_getElem hjl]
        · rw [List.getElem?_eq_none (by omega)] at hj; simp at hj
    · intro u hu
      simp at hu
      obtain ⟨y, _, rfl⟩ := hu
      rfl
    · intro v' w' h1 h2 _
      refine h v' w' (by simpa using h1) ((Below.refl _ _).grown h2 hbase fun k hk => ?_)
      exact (hown.lt k hk).1

/-! ## Plain: sums in parts -/

theorem foldF_append (f : Int → Int → Int) (x y : List Int) : ∀ s, foldF f s (x ++ y) = (foldF f s x).bind (fun t => foldF f t y) := by
  induction x with
  | nil => intro s; rw [List.nil_append, foldF]; rfl
  | cons a x ih =>
    intro s
    rw [List.cons_append, foldF, foldF]
    split
    · exact ih _
    · rfl

theorem foldF_sum {l : List Int} : ∀ {s r : Int}, foldF (fun a b => a + b) s l = some r → r = s + l.sum := by
  induction l with
  | nil => intro s r h; rw [foldF] at h; cases h; simp
  | cons a l ih =>
    intro s r h
    rw [foldF] at h
    split at h
    · have := ih h; rw [List.sum_cons]; omega
    · cases h

theorem add_parts {x y : List Int} {s : Int} (h : addF (x ++ y) = some s) : ∃ t, addF x = some t ∧ (addF y = none ∨ ∃ u, addF y = some u ∧ s = t + u) := by
  unfold addF at h ⊢
  have hh := h
  rw [foldF_append] at h
  cases hx : foldF (fun a b => a + b) 0 x with
  | none => rw [hx] at h; cases h
  | some t =>
    refine ⟨t, rfl, ?_⟩
    cases hy : foldF (fun a b => a + b) 0 y with
    | none => exact .inl rfl
    | some u =>
      right
      refine ⟨u, rfl, ?_⟩
      have h1 := foldF_sum hh
      have h2 := foldF_sum hx
      have h3 := foldF_sum hy
      rw [List.sum_append] at h1
      omega

theorem add_head {x : List Int} {t : Int} (h : addF x = some t) (hx : 0 < x.length) : fitsB (x.getD 0 0) = true := by
  cases x with
  | nil => simp at hx
  | cons a x =>
    unfold addF at h
    rw [foldF] at h
    split at h
    · rename_i hc; exact hc.1
    · cases h

theorem add_back {s z v : Int} (h : addF [s, -z, z] = some v) : v = s := by
  have := foldF_sum (l := [s, -z, z]) (s := 0) (r := v) h
  simp at this
  omega

theorem add_fits {l : List Int} {t : Int} (h : addF l = some t) : fitsB t = true := foldF_fits (l := l) (s := 0) (r := t) (by decide) h
theorem add_nil {l : List Int} {t : Int} (h : addF l = some t) (hl : l = []) : t = 0 := by
  subst hl
  have := foldF_sum (l := []) (s := 0) (r := t) h
  simpa using this

end Go.Proofs.Ytioaaamkpfglmaa.Mon
