/- Common to the claims of this seat, part 6: texts that were written one by one, laid behind one another. -/
import Derived.Shelf.SlSortCmp.KitK
import Derived.Test.YtcndihekpdebhaaPart2
/- Common: a list of the call's own behind a sort of its elements, of whatever cells. -/
namespace Go.Proofs.Ytcndihekpdebhaa.Stk
set_option maxRecDepth 100000
open Go.RowKit
open Go.Sort
open Go.Shelf
open Kit
set_option linter.unusedVariables false
variable {α : Type} [Inhabited α] {enc : α → List Value} {k : Nat}

theorem flatK_list (hk : ∀ x, (enc x).length = k) (d : Array α) : (flatK enc k d).toList = flat enc d.toList := by
  apply List.ext_getElem?
  intro t
  by_cases ht : t < d.size * k
  · have hk0 : 0 < k := by
      rcases Nat.eq_zero_or_pos k with h | h
      · subst h; simp at ht
      · exact h
    have hd : t / k < d.size := by rw [Nat.div_lt_iff_lt_mul hk0]; exact ht
    have hm := Nat.mod_lt t hk0
    have e1 := get_flatK enc k d t ht
    have e2 : t / k * k + t % k = t := by rw [Nat.mul_comm]; exact Nat.div_add_mod t k
    have e3 := flat_at hk d.toList (t / k) (by simpa using hd) (t % k) hm
    rw [e2] at e3
    rw [e3, Array.getElem?_toList, Array.getElem?_eq_getElem (by simpa using ht)]
    rw [getElem!_pos _ t (by simpa using ht), getElem!_pos d _ hd, getElem!_pos _ _ (by rw [hk]; exact hm)] at e1
    rw [e1, List.getElem?_eq_getElem (by rw [hk]; exact hm)]
    simp
  · rw [List.getElem?_eq_none (by simp; omega), List.getElem?_eq_none (by rw [flat_length hk]; simp; omega)]
theorem holdsK_of (hk : ∀ x, (enc x).length = k) {w : World} {g : Nat} {cur : Array Value} {e : TypeId} {l : List α} (hb : w.heap[g]? = some (.cells cur e (0, 0))) (ht : cur.toList.take (l.length * k) = flat enc l) : HoldsK enc k w g 0 l.toArray := by
  intro j hj
  have hj' : j < l.length * k := by simpa using hj
  refine ⟨?_, by simp [World.frozen?, hb]⟩
  have h0 : (flatK enc k l.toArray).toList = flat enc l := flatK_list hk l.toArray
  have h1 : (cur.toList.take (l.length * k))[j]? = (flat enc l)[j]? := by rw [ht]
  rw [List.getElem?_take_of_lt hj'] at h1
  simp only [World.cell?, hb, Nat.zero_add]
  simp only [Option.isSome_none, Bool.false_eq_true, if_false]
  rw [← Array.getElem?_toList, h1, ← h0, Array.getElem?_toList, Array.getElem?_eq_getElem hj, getElem!_pos _ j hj]
  rfl
theorem heap_sorted {w : World} {g n : Nat} {os : Array Obj} {cur : Array Value} {e : TypeId} {fr : Nat × Nat} (d : Array Value) (hb : w.heap[g]? = some (.cells cur e fr)) :
    (grow (putRow id (Sort.ahead w n) g 0 d) os).heap[g]? = some (.cells (putCells id 0 d cur) e fr) := by
  have hg : g < w.heap.size := (Array.getElem?_eq_some_iff.1 hb).1
  rw [heap_grow_old _ _ (by simpa using hg)]
  simp [putRow, mapBlock, Sort.ahead, Array.getElem?_modify, hb, onCells]
theorem grownBy_sorted {w : World} {g n : Nat} {os : Array Obj} (d : Array Value) : w.grownBy (grow (putRow id (Sort.ahead w n) g 0 d) os) (some g) := by
  refine ⟨rfl, rfl, rfl, by simp, fun k hk hne => ?_⟩
  rw [heap_grow_old _ _ (by simpa using hk)]
  have : g ≠ k := fun e => hne (by rw [e])
  simp [putRow, mapBlock, Sort.ahead, Array.getElem?_modify, this]
theorem take_put (cur d : Array Value) (h : d.size ≤ cur.size) : (putCells id 0 d cur).toList.take d.size = d.toList := by
  apply List.ext_getElem?
  intro j
  by_cases hj : j < d.size
  · rw [List.getElem?_take_of_lt hj, Array.getElem?_toList]
    simp [putCells, hj, show j < cur.size by omega]
  · rw [List.getElem?_take_eq_none (by omega), List.getElem?_eq_none (by simp; omega)]
/-- Behind the sort the same slice owns what it holds then. -/
theorem owns_sorted {w : World} {base g cap n : Nat} {e : TypeId} {os : Array Obj} {cur : Array Value} {m : Nat} {d : Array α} (hk : ∀ x, (enc x).length = k) (hd : d.size = m) (hbase : base ≤ g) (hb : w.heap[g]? = some (.cells cur e (0, 0)))
    (h1 : m ≤ cap) (h2 : cap ≤ maxLen) (h3 : cur.size = cap * k) : Owns enc k e (sortWorldK enc k w g 0 n d os) base (.slice (some ⟨g, 0, none⟩) m cap) d.toList := by
  have hf := flatK_list hk d
  have hs : (flatK enc k d).size = d.toList.length * k := by simp
  have hle : (flatK enc k d).size ≤ cur.size := by
    rw [h3, size_flatK, hd]
    exact Nat.mul_le_mul_right _ h1
  have ht := take_put cur (flatK enc k d) hle
  refine ⟨by rw [← hf]; simp, .inr ⟨g, cap, putCells id 0 (flatK enc k d) cur, by rw [show d.toList.length = m by simpa using hd], hbase, heap_sorted _ hb, by rw [show d.toList.length = m by simpa using hd]; exact h1, h2, by simp [putCells, h3], ?_⟩⟩
  rw [← hs, ht, hf]
end Go.Proofs.Ytcndihekpdebhaa.Stk
