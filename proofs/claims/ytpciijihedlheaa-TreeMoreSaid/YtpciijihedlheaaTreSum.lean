/- Tree: sums of what is used: more that is spent, and a fund's parent. -/
import Derived.Test.YtpciijihedlheaaTreMath
namespace Go.Proofs.Ytpciijihedlheaa.Tre
open Mon
set_option linter.unusedVariables false

theorem pathN_parent {l : List Fd} {f i : Nat} {x : Fd} (h : i ∈ pathN l f) (hx : l[i]? = some x) (h0 : 0 ≤ x.par) (h1 : x.par < (i : Int)) : x.par.toNat ∈ pathN l f := by
  obtain ⟨k, hk, e⟩ := List.getElem_of_mem h
  have hd := pathN_drop l f k i (by rw [List.getElem?_eq_getElem hk, e])
  have hi := (List.getElem?_eq_some_iff.1 hx).1
  have hp : x.par.toNat ∈ pathN l i := by
    rw [pathN_some hx, if_pos ⟨h0, h1⟩]
    have hlt : x.par.toNat < l.length := by omega
    rw [pathN_some (List.getElem?_eq_getElem hlt)]
    simp
  rw [← hd] at hp
  exact List.mem_of_mem_drop hp
theorem path_mem {l : List Fd} {f : Int} {i : Nat} : (i : Int) ∈ path l f ↔ 0 ≤ f ∧ i ∈ pathN l f.toNat := by
  unfold path
  by_cases h : 0 ≤ f
  · rw [if_pos h]
    constructor
    · intro hm
      obtain ⟨a, ha, e⟩ := List.mem_map.1 hm
      obtain rfl : a = i := by omega
      exact ⟨h, ha⟩
    · intro hm
      exact List.mem_map.2 ⟨i, hm.2, rfl⟩
  · rw [if_neg h]
    simp [h]
theorem path_parent {l : List Fd} {f : Int} {i : Nat} {x : Fd} (h : (i : Int) ∈ path l f) (hx : l[i]? = some x) (h0 : 0 ≤ x.par) (h1 : x.par < (i : Int)) : x.par ∈ path l f := by
  obtain ⟨h2, h3⟩ := path_mem.1 h
  have := path_mem.2 ⟨h2, pathN_parent h3 hx h0 h1⟩
  rwa [show ((x.par.toNat : Nat) : Int) = x.par by omega] at this
/-- What an allocation adds. -/
def part (l : List Fd) (f : Int) (a : Al) : Int := if (path l a.fund).contains f then a.lien + a.spent else 0
theorem amounts_sum (l : List Fd) (f : Int) : ∀ al : List Al, (amounts l al f).sum = (al.map (part l f)).sum
  | [] => rfl
  | a :: al => by
    have ih := amounts_sum l f al
    unfold amounts at ih ⊢
    rw [List.flatMap_cons, List.sum_append, ih, List.map_cons, List.sum_cons]
    congr 1
    unfold part
    split <;> simp
def smallA (a : Al) : Prop := (0 ≤ a.lien ∧ a.lien ≤ 1099511627776) ∧ (0 ≤ a.spent ∧ a.spent ≤ 1103806595072)
theorem part_small (l : List Fd) (f : Int) {a : Al} (h : smallA a) : 0 ≤ part l f a ∧ part l f a ≤ 2203318222848 := by
  obtain ⟨⟨h1, h2⟩, h3, h4⟩ := h
  unfold part
  split <;> omega
theorem parts_small (l : List Fd) (f : Int) : ∀ al : List Al, (∀ a ∈ al, smallA a) → 0 ≤ (al.map (part l f)).sum ∧ (al.map (part l f)).sum ≤ 2203318222848 * al.length
  | [], _ => by simp
  | a :: al, h => by
    obtain ⟨h1, h2⟩ := parts_small l f al fun x hx => h x (by simp [hx])
    obtain ⟨h3, h4⟩ := part_small l f (h a (by simp))
    rw [List.map_cons, List.sum_cons, List.length_cons]
    constructor
    · omega
    · rw [Int.natCast_add, Int.mul_add]; omega
theorem amounts_nonneg (l : List Fd) (al : List Al) (f : Int) (h : ∀ a ∈ al, smallA a) : ∀ x ∈ amounts l al f, 0 ≤ x := by
  intro x hx
  unfold amounts at hx
  obtain ⟨a, ha, hxa⟩ := List.mem_flatMap.1 hx
  obtain ⟨⟨h1, _⟩, h3, _⟩ := h a ha
  split at hxa
  · rcases List.mem_cons.1 hxa with rfl | hxa
    · exact h1
    · rcases List.mem_cons.1 hxa with rfl | hxa
      · exact h3
      · cases hxa
  · cases hxa
/-- With no amount below 0, and none great, all that is used comes to a sum. -/
theorem use_small {l : List Fd} {al : List Al} (h : ∀ a ∈ al, smallA a) (hl : al.length ≤ 20) {i : Nat} (hi : i < l.length) : useE l al i = 0 ∧ useN l al i = (al.map (part l i)).sum := by
  obtain ⟨h1, h2⟩ := parts_small l i al h
  have hs := amounts_sum l i al
  have := add_small (amounts_nonneg l al i h) (by rw [hs]; omega)
  unfold useE useN
  rw [if_pos ⟨by omega, by omega⟩, if_pos ⟨by omega, by omega⟩, this.1, this.2, hs]
  exact ⟨rfl, rfl⟩
theorem sum_set : ∀ (l : List Int) (k : Nat) (x : Int), k < l.length → (l.set k x).sum = l.sum - l.getD k 0 + x
  | [], k, x, h => by cases h
  | y :: l, 0, x, h => by simp; omega
  | y :: l, k + 1, x, h => by
    have := sum_set l k x (by simpa using h)
    rw [List.set_cons_succ, List.sum_cons, List.sum_cons, this]
    simp [List.getD]
    omega
def moreA (a : Al) (m : Int) : Al := { a with spent := a.spent + m }
/-- More that is spent is more that is used, by each fund above. -/
theorem use_more {l : List Fd} {al : List Al} {k : Nat} {a : Al} (ha : al[k]? = some a) (m : Int) (i : Int) : ((al.set k (moreA a m)).map (part l i)).sum = (al.map (part l i)).sum + if (path l a.fund).contains i then m else 0 := by
  have hk := (List.getElem?_eq_some_iff.1 ha).1
  have he := (List.getElem?_eq_some_iff.1 ha).2
  rw [List.map_set, sum_set _ _ _ (by simpa using hk)]
  have hg : (al.map (part l i)).getD k 0 = part l i a := by simp [List.getD, hk, he]
  rw [hg]
  unfold part moreA
  simp only
  split <;> omega
theorem sum_le {α : Type} (f g : α → Int) : ∀ al : List α, (∀ a ∈ al, f a ≤ g a) → (al.map f).sum ≤ (al.map g).sum
  | [], _ => by simp
  | a :: al, h => by
    have := sum_le f g al fun x hx => h x (by simp [hx])
    have := h a (by simp)
    simp only [List.map_cons, List.sum_cons]
    omega
/-- A fund is used at least as much as any that lies below it. -/
theorem use_parent {l : List Fd} {al : List Al} (h : ∀ a ∈ al, smallA a) {i : Nat} {x : Fd} (hx : l[i]? = some x) (h0 : 0 ≤ x.par) (h1 : x.par < (i : Int)) : (al.map (part l i)).sum ≤ (al.map (part l x.par)).sum := by
  refine sum_le _ _ al fun a ha => ?_
  obtain ⟨⟨h2, _⟩, h3, _⟩ := h a ha
  unfold part
  by_cases hc : (path l a.fund).contains (i : Int) = true
  · have hm : x.par ∈ path l a.fund := path_parent (by simpa using hc) hx h0 h1
    rw [if_pos hc, if_pos (by simpa using hm)]
    exact Int.le_refl _
  · rw [if_neg hc]
    split <;> omega
end Go.Proofs.Ytpciijihedlheaa.Tre
