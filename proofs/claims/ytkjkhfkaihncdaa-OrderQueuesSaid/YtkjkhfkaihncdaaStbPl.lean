/- A list of places, the call's own, sorted by the library's slices.SortStableFunc. -/
import Derived.Test.YtkjkhfkaihncdaaStbAll
import Derived.Test.YtkjkhfkaihncdaaIntMem
import Derived.Test.YtkjkhfkaihncdaaFoot
import Derived.Sort.OwnSortedInts
namespace Go.Proofs.Ytkjkhfkaihncdaa.Stb
set_option maxRecDepth 100000
open Go.RowKit
open Go.Sort
open Go.Shelf
open Kit
open Foot
open Tre (encI encI_len encI_one OwI)
set_option linter.unusedVariables false
variable {w w' : World}

abbrev Pl (n : Nat) := { x : Nat // x < n }
def encP {n : Nat} (x : Pl n) : Value := .int .i64 (x.1 : Nat)
theorem flat_i (l : List Int) : flat Tre.encI l = l.map (Value.int .i64) := by
  induction l with
  | nil => rfl
  | cons x l ih =>
    show Tre.encI x ++ flat Tre.encI l = _
    rw [ih]; rfl
def ints (L : List Nat) : List Int := L.map fun (k : Nat) => (k : Int)
theorem ints_len (L : List Nat) : (ints L).length = L.length := by unfold ints; rw [List.length_map]
theorem ints_at {n : Nat} {L : List Nat} {d : Array (Pl n)} (hd : d.toList.map (·.1) = L) : (d.map fun x => (x.1 : Int)).toList = ints L := by
  subst hd
  simp [ints]

section
variable {n : Nat} [Inhabited (Pl n)]
theorem put_map (w : World) (g : Nat) (d : Array (Pl n)) : putRow encP w g 0 d = putRow (Value.int .i64) w g 0 (d.map fun x => (x.1 : Int)) := by
  unfold putRow
  congr 1
  funext c
  unfold putCells
  congr 1
  funext k x
  simp only [Array.size_map]
  by_cases h : 0 ≤ k ∧ k < 0 + d.size
  · rw [if_pos h, if_pos h]
    have hk : k - 0 < d.size := by omega
    rw [getElem!_pos d _ hk, getElem!_pos (d.map fun x => (x.1 : Int)) _ (by simpa using hk)]
    simp [encP]
  · rw [if_neg h, if_neg h]
theorem sortw_chg (w : World) (g m : Nat) (d : Array (Pl n)) (os : Array Obj) : Chg (fun k => some k = some g) w (sortWorld encP w g 0 m d os) := by
  have h := grownBy_sortedI (w := w) (g := g) (n := m) (os := os) (d.map fun x => (x.1 : Int))
  rw [← put_map] at h
  exact grown_chg h
omit [Inhabited (Pl n)] in
theorem ext_all {X : Array (Pl n)} {m : Nat} (h : X.size = m) : X.extract 0 m = X := by
  subst h
  exact Array.extract_size
/-- Places that rise, sorted: the same ones, none ahead of one before it. -/
theorem sort_places {lt : Pl n → Pl n → Bool} (hS : SWO lt) (cf : Pl n → Pl n → Int) (f : Nat) (cb : Array Value) (w : World) (g m cap base : Nat) (L : List Nat) (eg : ∀ args w, (callFunc f args).run Try.prog w = .ok (.enter f args) w)
    (hcmp : CmpLays1 Try.prog f cb (encP (n := n)) cf g 0 m w) (hcl : ∀ x y : Pl n, x.1 < y.1 → ltOf cf y x = lt y x) (hL : ∀ k ∈ L, k < n) (hup : L.Pairwise (· < ·)) (hm : L.length = m) (hm40 : m ≤ 40) (hO : OwI w base (.slice (some ⟨g, 0, none⟩) m cap) (ints L)) :
    Calls Try.prog 13 #[.slice (some ⟨g, 0, none⟩) m cap, .func (.func f) #[] cb] w
      fun e w' => e = .returned (.tuple #[]) ∧ ∃ d' : List (Pl n), (d'.map (·.1)).Perm L ∧ d'.Pairwise (fun x y => lt y x = false) ∧ OwI w' base (.slice (some ⟨g, 0, none⟩) m cap) (ints (d'.map (·.1))) ∧ Chg (fun k => some k = some g) w w' := by
  obtain ⟨d, hd⟩ : ∃ d : Array (Pl n), d.toList.map (·.1) = L := by
    refine ⟨(L.pmap (fun k h => (⟨k, h⟩ : Pl n)) hL).toArray, ?_⟩
    simp [List.map_pmap]
  have hds : d.size = m := by rw [← hm, ← hd]; simp
  have hlt := World.ownsRow.lt hO g rfl
  have hO' := hO
  rcases hO with ⟨_, ⟨h0, _⟩ | ⟨g', cap', cur, hv, hg, hbk, h1, h2, h3, h4⟩⟩
  · cases h0
  simp only [Value.slice.injEq, Option.some.injEq, Addr.mk.injEq] at hv
  obtain ⟨⟨rfl, -⟩, hmm, rfl⟩ := hv
  have hll : (ints L).length = m := by rw [ints_len, hm]
  rw [flat_i] at h4
  have h4' : cur.toList.take (ints L).length = (ints L).map (Value.int .i64) := by rw [hll]; rw [Nat.mul_one] at h4; rw [hll] at h4; exact h4
  have hH0 := holds_of_blockI hbk h4'
  have hH : Holds encP w g 0 d := by
    intro j hj
    obtain ⟨q1, q2⟩ := hH0 j (by rw [List.size_toArray, hll, ← hds]; exact hj)
    refine ⟨?_, q2⟩
    rw [q1]
    have hj2 : j < (ints L).toArray.size := by rw [List.size_toArray, hll, ← hds]; exact hj
    rw [getElem!_pos d j hj, getElem!_pos _ j hj2]
    simp only [← ints_at hd, encP]
    simp
  have R : Row1 encP w g 0 d := ⟨fun _ => rfl, hH, hlt.2⟩
  have hc0 : ∀ p q, p < q → q < d.size → ltOf cf d[q]! d[p]! = lt d[q]! d[p]! := fun p q hpq hq => by
    refine hcl _ _ ?_
    have hp : p < d.size := by omega
    have h := List.pairwise_iff_getElem.1 hup p q (by rw [← hd]; simpa using hp) (by rw [← hd]; simpa using hq) hpq
    rw [getElem!_pos d p hp, getElem!_pos d q hq]
    simp only [← hd, List.getElem_map, Array.getElem_toList] at h
    exact h
  have hcon := stable_any hS encP cf f cb g 0 cap d w eg (by rw [hds]; exact hcmp) R hc0 (by omega)
  rw [hds] at hcon
  refine hcon.mono ?_
  rintro e w' ⟨rfl, d', ⟨q, os, rfl⟩, hp, hs⟩
  rw [hds] at hp hs
  have hds' : d'.size = m := by rw [hp.1, hds]
  have hperm : d'.toList.Perm d.toList := by
    have := hp.2.2
    rwa [ext_all hds', ext_all hds] at this
  have hpl : (d'.toList.map (·.1)).Perm L := by rw [← hd]; exact hperm.map _
  have hle : (ints (d'.toList.map (·.1))).length = m := by rw [ints_len, hpl.length_eq, hm]
  refine ⟨rfl, d'.toList, hpl, ?_, ?_, sortw_chg w g q _ os⟩
  · rw [List.pairwise_iff_getElem]
    intro i j hi hj hij
    have hi' : i < d'.size := by simpa using hi
    have hj' : j < d'.size := by simpa using hj
    have := hs i j (Nat.zero_le _) hij (by omega)
    rw [getElem!_pos _ j hj', getElem!_pos _ i hi'] at this
    simpa using this
  · have ho := ownsRow_sortedI (n := q) (os := os) (ss := ints L) (ts := ints (d'.toList.map (·.1))) (by rw [hle, hll]) hg hbk (by rw [hll]; rw [hll] at h1; exact h1) h2 h3
    rw [hll] at ho
    unfold Tre.OwI Owns
    rw [flat_i, hle]
    unfold sortWorld
    rw [put_map]
    have he : d'.map (fun x => (x.1 : Int)) = (ints (d'.toList.map (·.1))).toArray := by
      apply Array.toList_inj.1
      simp [ints]
    rw [he]
    exact ho
end
end Go.Proofs.Ytkjkhfkaihncdaa.Stb
