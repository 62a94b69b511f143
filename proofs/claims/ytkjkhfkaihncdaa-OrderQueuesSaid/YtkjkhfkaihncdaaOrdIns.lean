/- Order: an element put in among others by its place (what stands ahead of the document's Order, and of Due). -/
import Derived.Test.YtkjkhfkaihncdaaOrdLes
import Derived.Test.YtkjkhfkaihncdaaIntMem
import Derived.Test.YtkjkhfkaihncdaaNestE
import Derived.Test.YtkjkhfkaihncdaaFoot
namespace Go.Proofs.Ytkjkhfkaihncdaa.Ord
set_option maxRecDepth 100000
open Go.RowKit
open Go.Sort
open Kit
open Tre (Lst inI lst_keep lst_take lst_at lst_new lst_none IntsL int_cell encI encI_len encI_one OwI own_chg' info_i run_ld2 below_drewN' run_bs_i)
open Job (Jb Jv Jobs encJ encJ_len encJ_one job_cell)
set_option linter.unusedVariables false
variable {w w' : World}

theorem und_i : Try.prog.underlying 24 = some (.slice 3) := Try.underlying24
theorem tyI : Nest.Ty encI 1 Try.prog 24 3 (.int .i64 0) 8 := ⟨encI_len, by omega, encI_one, und_i, info_i, rfl⟩
theorem run_bs0_i (w : World) : (Instr.buildSlice 24 0 #[]).run Try.prog w = .ok (.slice (some ⟨w.heap.size, 0, none⟩) 0 0) (w.alloc (.cells #[] 3)) := by
  simp [go_sem]
theorem run_to_i {g K M cp : Nat} (h1 : K ≤ M) (h2 : M ≤ cp) (w : World) : (Instr.sliceAt 24 (.slice (some ⟨g, 0, none⟩) M cp) none (some (.int .i64 (K : Nat))) none).run Try.prog w = .ok (.slice (some ⟨g, 0, none⟩) K cp) w := by
  simp [go_sem]
  intro h; omega
theorem run_fr_i {g K M cp : Nat} (h1 : K ≤ M) (w : World) : (Instr.sliceAt 24 (.slice (some ⟨g, 0, none⟩) M cp) (some (.int .i64 (K : Nat))) none none).run Try.prog w = .ok (.slice (some ⟨g, if cp = K then 0 else K, none⟩) (M - K) (cp - K)) w := by
  have h2 : K ≤ M := h1
  by_cases h : cp = K
  · simp [go_sem, h1, h]
  · simp [go_sem, h1, h]
abbrev toI (l : List Nat) : List Int := l.map fun (n : Nat) => (n : Int)
/-- What an own list of numbers is. -/
theorem own_is {base : Nat} {v : Value} {l : List Int} (h : OwI w base v l) (hg : ∃ g M c, v = .slice (some ⟨g, 0, none⟩) M c) : ∃ g c, v = .slice (some ⟨g, 0, none⟩) l.length c ∧ l.length ≤ c ∧ c ≤ maxLen ∧ base ≤ g ∧ g < w.heap.size ∧ Kit.Row encI 1 w (some ⟨g, 0, none⟩) l := by
  obtain ⟨a, c, e, h1, h2, h3, h4⟩ := owns_row encI_len h
  obtain ⟨g, M, c', e'⟩ := hg
  rw [e] at e'
  injection e' with e1 e2 e3
  subst e1
  exact ⟨g, c, e, h1, h2, (World.ownsRow.lt h g (by rw [e]; rfl)).1, (World.ownsRow.lt h g (by rw [e]; rfl)).2, h4⟩
theorem part_to {g cp K : Nat} {l : List Int} (hr : Kit.Row encI 1 w (some ⟨g, 0, none⟩) l) (hK : K ≤ l.length) (hg : g < w.heap.size) (w' : World) (hb : Below w.heap.size w w') (v : Value) (hv : ∀ b, v.ownBlock = some b → b < w'.heap.size ∧ w.heap.size ≤ b) : Nest.Part encI 1 w' v (.slice (some ⟨g, 0, none⟩) K cp) (l.take K) := by
  have := Nest.part_old (c := cp) encI_len (row_take hr K) (fun e => by cases e) (fun q hq _ => by cases hq; exact hg) hb v hv
  rwa [List.length_take, Nat.min_eq_left hK] at this
theorem part_fr {g cp K : Nat} {l : List Int} (hr : Kit.Row encI 1 w (some ⟨g, 0, none⟩) l) (hK : K ≤ l.length) (hc : l.length ≤ cp) (hg : g < w.heap.size) (w' : World) (hb : Below w.heap.size w w') (v : Value) (hv : ∀ b, v.ownBlock = some b → b < w'.heap.size ∧ w.heap.size ≤ b) : Nest.Part encI 1 w' v (.slice (some ⟨g, if cp = K then 0 else K, none⟩) (l.length - K) (cp - K)) (l.drop K) := by
  have h : Kit.Row encI 1 w (some ⟨g, if cp = K then 0 else K, none⟩) (l.drop K) := by
    by_cases e : cp = K
    · exact .inl (List.drop_eq_nil_of_le (by omega))
    · rw [if_neg e]
      have := row_drop hr K
      rwa [Nat.mul_one, Nat.zero_add] at this
  have := Nest.part_old (c := cp - K) encI_len h (fun e => by cases e) (fun q hq _ => by cases hq; exact hg) hb v hv
  rwa [List.length_drop] at this
theorem toI_ins (l : List Jb) (n : Nat) (out : List Nat) : ([] ++ (toI out).take (place l n out out.length) ++ [(n : Int)] ++ (toI out).drop (place l n out out.length)) = toI (insN l n out) := by
  unfold toI insN
  simp [List.map_append, List.map_take, List.map_drop]
theorem own_some {base : Nat} {v : Value} {l : List Int} (h : OwI w base v l) (hl : 0 < l.length) : ∃ g M c, v = .slice (some ⟨g, 0, none⟩) M c := by
  rcases h with ⟨h1, h2 | ⟨g, cap, cur, e1, e2, e3, e4, e5, e6, e7⟩⟩
  · obtain ⟨_, h0⟩ := h2
    omega
  · exact ⟨g, _, cap, e1⟩
theorem own_new_i (w : World) : OwI (w.alloc (.cells #[] 3)) w.heap.size (.slice (some ⟨w.heap.size, 0, none⟩) 0 0) [] :=
  ⟨rfl, .inr ⟨w.heap.size, 0, _, rfl, Nat.le_refl _, heap_alloc_new w _, Nat.le_refl _, by unfold maxLen; omega, rfl, rfl⟩⟩
theorem ord_step (l : List Jb) (k : Nat) (h : isQ l k = true) : ordTo l (k + 1) = insN l k (ordTo l k) := by rw [ordTo, if_pos h]
theorem ord_skip (l : List Jb) (k : Nat) (h : isQ l k = false) : ordTo l (k + 1) = ordTo l k := by rw [ordTo, if_neg (by rw [h]; exact Bool.false_ne_true)]
theorem isQ_get {l : List Jb} {k : Nat} {x : Jb} (h : l[k]? = some x) : isQ l k = (x.state == 1) := by unfold isQ; rw [h]
theorem place_next {l : List Jb} {n k m : Nat} {out : List Nat} (h : out[k]? = some m) : place l n out (k + 1) = if lt l n m then place l n out k else k + 1 := by rw [place, h]
end Go.Proofs.Ytkjkhfkaihncdaa.Ord
