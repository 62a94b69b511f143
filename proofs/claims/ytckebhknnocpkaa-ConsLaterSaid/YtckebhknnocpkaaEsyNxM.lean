/- Easy: Next, from one on (mathematics). -/
import Derived.Test.YtckebhknnocpkaaEsyMath
namespace Go.Proofs.Ytckebhknnocpkaa.Esy
open Prf (Bz newF Nd Tk)
open Go.Proofs.Ytckebhknnocpkaa.Ord (Aq)
set_option linter.unusedVariables false

def countsB (total : Int) (rf : List Bool) (k : Nat) (x : Aq) : Bool := !(rf.getD k false) && decide (x.nodes ≤ total)
/-! ### Next, from one on -/

def NX (now total : Int) (l : List Bz) (q : List Aq) (rf : List Bool) (h : Option Int) (k : Nat) : Option Nat := (go now total l h (q.drop k) (rf.drop k)).map (· + k)
variable {now total : Int} {l : List Bz} {q : List Aq} {rf : List Bool} {h : Option Int} {k : Nat} {x : Aq}
theorem nx_step (hx : q[k]? = some x) : go now total l h (q.drop k) (rf.drop k) =
    if countsB total rf k x = false then (go now total l h (q.drop (k + 1)) (rf.drop (k + 1))).map (· + 1)
    else if newF total l now < x.nodes then (go now total l (some (h.getD x.nodes)) (q.drop (k + 1)) (rf.drop (k + 1))).map (· + 1)
    else if mayB now total l h x = true then some 0 else (go now total l h (q.drop (k + 1)) (rf.drop (k + 1))).map (· + 1) := by
  obtain ⟨hk, e⟩ := List.getElem?_eq_some_iff.1 hx
  have e1 : (rf.drop k).headD false = rf.getD k false := by
    rw [List.getD_eq_getElem?_getD, List.headD_eq_head?_getD, List.head?_drop]
  have e2 : (rf.drop k).tail = rf.drop (k + 1) := by rw [List.tail_drop]
  have e3 : q.drop k = x :: q.drop (k + 1) := by rw [List.drop_eq_getElem_cons hk, e]
  rw [e3, go_cons, e2]
  have hiff : ((rf.drop k).headD false = true ∨ total < x.nodes) ↔ countsB total rf k x = false := by
    rw [e1]
    unfold countsB
    cases rf.getD k false
    · simp
    · simp
  by_cases hc : countsB total rf k x = false
  · rw [if_pos (hiff.2 hc), if_pos hc]
  · rw [if_neg (fun h' => hc (hiff.1 h')), if_neg hc]
theorem mm (o : Option Nat) (k : Nat) : (o.map (· + 1)).map (· + k) = o.map (· + (k + 1)) := by
  cases o with
  | none => rfl
  | some m => simp only [Option.map_some]; congr 1; omega
theorem nx_skip (hx : q[k]? = some x) (hc : countsB total rf k x = false) : NX now total l q rf h k = NX now total l q rf h (k + 1) := by
  unfold NX
  rw [nx_step hx, if_pos hc, mm]
theorem nx_short (hx : q[k]? = some x) (hc : countsB total rf k x = true) (hs : newF total l now < x.nodes) : NX now total l q rf h k = NX now total l q rf (some (h.getD x.nodes)) (k + 1) := by
  unfold NX
  rw [nx_step hx, if_neg (by rw [hc]; simp), if_pos hs, mm]
theorem nx_stop (hx : q[k]? = some x) (hc : countsB total rf k x = true) (hs : ¬ newF total l now < x.nodes) (hm : mayB now total l h x = true) : NX now total l q rf h k = some k := by
  unfold NX
  rw [nx_step hx, if_neg (by rw [hc]; simp), if_neg hs, if_pos hm]
  simp
theorem nx_over (hx : q[k]? = some x) (hc : countsB total rf k x = true) (hs : ¬ newF total l now < x.nodes) (hm : mayB now total l h x = false) : NX now total l q rf h k = NX now total l q rf h (k + 1) := by
  unfold NX
  rw [nx_step hx, if_neg (by rw [hc]; simp), if_neg hs, if_neg (by rw [hm]; simp), mm]
theorem nx_end (hk : q.length ≤ k) : NX now total l q rf h k = none := by
  unfold NX
  rw [List.drop_eq_nil_of_le hk]; rfl
theorem nx_next : NX now total l q rf none 0 = next now total l q rf := by
  unfold NX next
  simp
end Go.Proofs.Ytckebhknnocpkaa.Esy
