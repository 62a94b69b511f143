/- Common: copy of bytes onto bytes of the call's own; cuts of what a call made. -/
import Derived.Test.YtfnkeknnlndjcaaOctMade
import Derived.Laws.CopyOwn
namespace Go.Proofs.Ytfnkeknnlndjcaa.Oct
open Go.RowKit
open Go.Sort
open Kit
set_option linter.unusedVariables false

theorem size_b : (Try.prog.info? 5).map (·.size) = some 1 := by kernel_rfl
/-- Bytes that are laid over some of a list's. -/
def lay (L : List UInt8) (off : Nat) (k : List UInt8) : List UInt8 := L.take off ++ k ++ L.drop (off + k.length)
theorem lay_length {L k : List UInt8} {off : Nat} (h : off + k.length ≤ L.length) : (lay L off k).length = L.length := by
  simp [lay]; omega
theorem lay_at {α : Type} {A k : List α} {off : Nat} (h : off + k.length ≤ A.length) (i : Nat) : (A.take off ++ k ++ A.drop (off + k.length))[i]? = if i < off then A[i]? else if i < off + k.length then k[i - off]? else A[i]? := by
  have h1 : (A.take off).length = off := by rw [List.length_take]; omega
  by_cases ha : i < off
  · rw [if_pos ha, List.append_assoc, List.getElem?_append_left (by omega), List.getElem?_take_of_lt ha]
  · rw [if_neg ha]
    by_cases hb : i < off + k.length
    · rw [if_pos hb, List.getElem?_append_left (by rw [List.length_append]; omega), List.getElem?_append_right (by omega), h1]
    · rw [if_neg hb, List.getElem?_append_right (by rw [List.length_append]; omega), List.length_append, h1, List.getElem?_drop]
      congr 1; omega
theorem run_copy_b {w : World} {base g n cap off dl dc m c : Nat} {ty : TypeId} {L k : List UInt8} {ad : Option Addr} (hown : OwnB w base (.slice (some ⟨g, 0, none⟩) n cap) L) (hn : L.length = n) (hk : k.length = m) (hrow : RowB w ad k) (hm : m ≤ dl) (hfit : off + m ≤ n) :
    ∃ w', (Builtin.copy_ #[22, 22] ty #[.slice (some ⟨g, off, none⟩) dl dc, .slice ad m c]).run Try.prog w = .ok (.int .i64 (m : Nat)) w' ∧ OwnB w' base (.slice (some ⟨g, 0, none⟩) n cap) (lay L off k) ∧ w.grownBy w' (some g) := by
  subst hn hk
  by_cases h0 : k.length = 0
  · obtain rfl : k = [] := List.length_eq_zero_iff.1 h0
    refine ⟨w, ?_, ?_, ⟨rfl, rfl, rfl, Nat.le_refl _, fun _ _ _ => rfl⟩⟩
    · have := run_copy_none (P := Try.prog) w 22 22 ty 5 (some ⟨g, off, none⟩) ad dl dc 0 c Try.underlying22 size_b (by simp)
      exact this
    · unfold lay
      rw [List.append_nil, List.length_nil, Nat.add_zero, List.take_append_drop]; exact hown
  · rcases hrow with rfl | ⟨b, o, rfl, hr⟩
    · exact absurd rfl h0
    have ho := own_iff.1 hown
    rcases ho.2 with ⟨he, _⟩ | ⟨g', cap', cur, he, hbg, hg, hnc, hcm, hcs, htake⟩
    · cases he
    injection he with e1 e2 e3
    injection e1 with e1
    injection e1 with e1
    subst e1 e3
    have hcs' : cur.size = cap := by simpa using hcs
    have hcl : cur.toList.length = cap := by simpa using hcs'
    have hsrc := row_cells (w := w) (a := some ⟨b, o, none⟩) (l := k) (.inr ⟨b, o, rfl, hr⟩) _ rfl
    have hrun := run_copy_row (P := Try.prog) w 22 22 ty 5 g off dl dc ⟨b, o, none⟩ k.length c cur 5 (cellsB k) Try.underlying22 size_b hg (by rw [cellsB_length]; exact (Nat.min_eq_left hm).symm) hsrc (by rw [cellsB_length]; omega) (cellsB_one k)
    rw [cellsB_length] at hrun
    refine ⟨_, hrun, own_iff.2 ?_, ⟨rfl, rfl, rfl, by simp [World.setRow], fun i _ hi => setRow_other w g i _ (fun e => hi (by rw [e]))⟩⟩
    have hll := lay_length (L := L) (k := k) (off := off) (by omega)
    rw [hll]
    refine ⟨by rw [cellsB_length, hll, Nat.mul_one], .inr ⟨g, cap, _, rfl, hbg, setRow_heap w g _ _ _ _ hg, hnc, hcm, ?_, ?_⟩⟩
    · simp only [List.size_toArray, List.length_append, List.length_take, List.length_drop, cellsB_length, hcl]; omega
    · have ht : cur.toList.take L.length = cellsB L := by simpa using htake
      apply List.ext_getElem?
      intro i
      have hL : ∀ j, j < L.length → cur.toList[j]? = (cellsB L)[j]? := fun j hj => by rw [← ht, List.getElem?_take_of_lt hj]
      rw [Nat.mul_one]
      by_cases hi : i < L.length
      · rw [List.getElem?_take_of_lt hi]
        show ((cur.toList.take off ++ cellsB k) ++ cur.toList.drop (off + k.length))[i]? = (cellsB (L.take off ++ k ++ L.drop (off + k.length)))[i]?
        have e : cellsB (L.take off ++ k ++ L.drop (off + k.length)) = (cellsB L).take off ++ cellsB k ++ (cellsB L).drop (off + (cellsB k).length) := by
          rw [cellsB_append, cellsB_append, cellsB_length]; simp only [cellsB, List.map_take, List.map_drop]
        have e2 := lay_at (A := cur.toList) (k := cellsB k) (off := off) (by rw [cellsB_length]; omega) i
        have e3 := lay_at (A := cellsB L) (k := cellsB k) (off := off) (by rw [cellsB_length, cellsB_length]; omega) i
        rw [cellsB_length] at e2
        rw [e, e3, e2, hL i hi, cellsB_length]
      · rw [List.getElem?_eq_none (by rw [List.length_take]; omega), List.getElem?_eq_none (by rw [cellsB_length, hll]; omega)]
theorem copy_b {w : World} {ops : Array Oper} {rest : List Oper} {o : Oper} {A : Act} {Q : Exit → Act → World → Prop} (hgd : o.guard = none) (d s : Operand)
    (ho : o.op = .call { callee := .builtin .copy, args := #[d, s], argTypes := #[22, 22] })
    (base g n cap : Nat) (L : List UInt8) (hown : OwnB w base (.slice (some ⟨g, 0, none⟩) n cap) L) (hn : L.length = n) (off dl dc : Nat) (hd : A.eval d = .slice (some ⟨g, off, none⟩) dl dc)
    (ad : Option Addr) (m c : Nat) (k : List UInt8) (hx : A.eval s = .slice ad m c) (hk : k.length = m) (hrow : RowB w ad k) (hm : m ≤ dl) (hfit : off + m ≤ n)
    (h : ∀ w', OwnB w' base (.slice (some ⟨g, 0, none⟩) n cap) (lay L off k) → w.grownBy w' (some g) → wpList Try.prog ops Q rest (A.put o.dst (.int .i64 (m : Nat))) w') : wpList Try.prog ops Q (o :: rest) A w := by
  refine wpList_plain hgd fun K hK => ?_
  obtain ⟨w', hrun, h1, h2⟩ := run_copy_b (ty := o.type) (dl := dl) (dc := dc) (c := c) hown hn hk hrow hm hfit
  unfold Oper.wp
  simp [execOp, ho, resolve, invoke, builtin, hd, hx, hrun, Result.andThen]
  exact hK _ _ (h w' h1 h2)
/-- What is behind place m of bytes in memory. -/
theorem row_from {w : World} {b o : Nat} {l : List UInt8} (h : RowB w (some ⟨b, o, none⟩) l) (m : Nat) : RowB w (some ⟨b, o + m, none⟩) (l.drop m) := by
  have := row_drop h m
  rw [Nat.mul_one] at this; exact this
theorem run_from (g n m c : Nat) (h1 : m ≤ n) (h2 : n ≤ c) (h3 : m < c) (w : World) : (Instr.sliceAt 22 (.slice (some ⟨g, 0, none⟩) n c) (some (.int .i64 (m : Nat))) none none).run Try.prog w = .ok (.slice (some ⟨g, m, none⟩) (n - m) (c - m)) w := by
  simp [go_sem]
  rw [if_pos (show m ≤ n by omega), if_neg (show ¬ c = m by omega)]
theorem lay_zeros (A k : List UInt8) (m : Nat) (off : Nat) (h : A.length = off) : lay (A ++ List.replicate m 0) off k = (A ++ k) ++ List.replicate (m - k.length) 0 := by
  subst h
  unfold lay
  rw [List.take_left, List.drop_append, List.drop_of_length_le (by omega), List.nil_append, List.drop_replicate, show A.length + k.length - A.length = k.length by omega]
end Go.Proofs.Ytfnkeknnlndjcaa.Oct
