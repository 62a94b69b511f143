/- Ledger, the landed: the accounts that legs name, each once, from the least on. -/
import Derived.Test.YtmlbdmfmaebdeaaLedMem
import Derived.Test.YtmlbdmfmaebdeaaPut
import Derived.Test.YtmlbdmfmaebdeaaSlf
import Derived.Shelf.Sort.Plain
import Derived.Shelf.Slices.CompactI
import Derived.Sort.OwnSortedInts
import Derived.Lib.RowBridge
namespace Go.Proofs.Ytmlbdmfmaebdeaa.Led
set_option maxRecDepth 100000
open Go.RowKit
open Go.Sort
open Kit
open Mon
open Tre
set_option linter.unusedVariables false
variable {w w' : World}

/-! ### What Sort and Compact make of a list -/

theorem comp_spec {d : Array Int} (hs : ∀ i j, i ≤ j → j < d.size → d[i]! ≤ d[j]!) : ∀ m, m ≤ d.size → (Lib.compactUpTo d m).Pairwise (fun x y => x < y) ∧ ∀ x, x ∈ Lib.compactUpTo d m ↔ ∃ j, j < m ∧ d[j]! = x
  | 0, _ => by
    unfold Lib.compactUpTo
    simp
  | m + 1, hm => by
    obtain ⟨h1, h2⟩ := comp_spec hs m (by omega)
    rw [Lib.compactUpTo_succ]
    by_cases hk : Lib.keeps d m = true
    · rw [if_pos hk]
      constructor
      · rw [List.pairwise_append]
        refine ⟨h1, by simp, fun x hx y hy => ?_⟩
        rw [List.mem_singleton] at hy
        subst hy
        obtain ⟨j, hj, rfl⟩ := (h2 x).1 hx
        have hne : d[m]! ≠ d[m - 1]! := by
          unfold Lib.keeps at hk
          rcases of_decide_eq_true hk with h | h
          · omega
          · exact h
        have h3 := hs j (m - 1) (by omega) (by omega)
        have h4 := hs (m - 1) m (by omega) (by omega)
        omega
      · intro x
        rw [List.mem_append, h2 x, List.mem_singleton]
        constructor
        · rintro (⟨j, hj, e⟩ | e)
          · exact ⟨j, by omega, e⟩
          · exact ⟨m, by omega, e.symm⟩
        · rintro ⟨j, hj, e⟩
          by_cases h : j = m
          · subst h; exact .inr e.symm
          · exact .inl ⟨j, by omega, e⟩
    · rw [if_neg hk, List.append_nil]
      have he : 0 < m ∧ d[m]! = d[m - 1]! := by
        unfold Lib.keeps at hk
        simp only [decide_eq_true_eq, not_or, ne_eq, Decidable.not_not] at hk
        exact ⟨by omega, hk.2⟩
      refine ⟨h1, fun x => ?_⟩
      rw [h2 x]
      constructor
      · rintro ⟨j, hj, e⟩; exact ⟨j, by omega, e⟩
      · rintro ⟨j, hj, e⟩
        by_cases h : j = m
        · subst h; exact ⟨j - 1, by omega, by rw [← he.2]; exact e⟩
        · exact ⟨j, by omega, e⟩
def leI (x y : Int) : Bool := decide (x ≤ y)
def ascI (l : List Int) : List Int := l.mergeSort fun x y => decide (x ≤ y)
theorem asc_len (l : List Int) : (ascI l).length = l.length := List.length_mergeSort l
theorem asc_mem {l : List Int} {x : Int} : x ∈ ascI l ↔ x ∈ l := List.mem_mergeSort
theorem asc_le (l : List Int) : (ascI l).Pairwise fun x y => x ≤ y := by
  have h := List.pairwise_mergeSort (le := fun x y : Int => decide (x ≤ y)) (fun a b c h1 h2 => by simp at h1 h2 ⊢; omega) (fun a b => by simp; omega) l
  exact h.imp fun h => by simpa using h
def accts (legs : List Lg) : List Int := legs.map (·.acct)
/-- The accounts that legs name, each once, from the least on. -/
def namedL (legs : List Lg) : List Int := Lib.compact (ascI (accts legs))
theorem namedL_spec (legs : List Lg) : (namedL legs).Pairwise (fun x y => x < y) ∧ ∀ x, x ∈ namedL legs ↔ ∃ g ∈ legs, g.acct = x := by
  have hp := asc_le (accts legs)
  have hs : ∀ i j, i ≤ j → j < (ascI (accts legs)).toArray.size → (ascI (accts legs)).toArray[i]! ≤ (ascI (accts legs)).toArray[j]! := by
    intro i j hij hj
    have hj' : j < (ascI (accts legs)).length := by simpa using hj
    rw [getElem!_pos _ i (by simp; omega), getElem!_pos _ j hj]
    simp only [List.getElem_toArray]
    by_cases h : i = j
    · subst h; exact Int.le_refl _
    · exact List.pairwise_iff_getElem.1 hp i j (by omega) hj' (by omega)
  obtain ⟨h1, h2⟩ := comp_spec hs (ascI (accts legs)).length (by simp)
  refine ⟨h1, fun x => ?_⟩
  unfold namedL Lib.compact
  rw [h2 x]
  constructor
  · rintro ⟨j, hj, e⟩
    have hm : x ∈ accts legs := by
      rw [← asc_mem, ← e, getElem!_pos _ j (by simpa using hj)]
      simp only [List.getElem_toArray]
      exact List.getElem_mem _
    unfold accts at hm
    obtain ⟨g, hg, he⟩ := List.mem_map.1 hm
    exact ⟨g, hg, he⟩
  · rintro ⟨g, hg, he⟩
    have hm : x ∈ ascI (accts legs) := asc_mem.2 (List.mem_map.2 ⟨g, hg, he⟩)
    obtain ⟨j, hj, e⟩ := List.getElem_of_mem hm
    refine ⟨j, hj, ?_⟩
    rw [getElem!_pos _ j (by simpa using hj)]
    simpa using e
theorem namedL_len (legs : List Lg) : (namedL legs).length ≤ legs.length := by
  have h := Lib.compact_length_le (ascI (accts legs))
  rw [asc_len] at h
  unfold accts at h
  rw [List.length_map] at h
  exact h

/-! ### The library's calls -/

theorem flat_encI (l : List Int) : flat Tre.encI l = l.map (Value.int .i64) := by
  induction l with
  | nil => rfl
  | cons x l ih =>
    show Tre.encI x ++ flat Tre.encI l = _
    rw [ih]; rfl
theorem sort_any {base g cap n : Nat} {zs : List Int} (h : OwI w base (.slice (some ⟨g, 0, none⟩) n cap) zs) (hn : zs.length = n) (hm : n ≤ 1000) :
    Calls Try.prog 26 #[.slice (some ⟨g, 0, none⟩) n cap] w fun e w' => e = .returned (.tuple #[]) ∧ OwI w' base (.slice (some ⟨g, 0, none⟩) n cap) (ascI zs) ∧ Below base w w' := by
  subst hn
  have hlt := World.ownsRow.lt h g rfl
  rcases h with ⟨_, ⟨h0, _⟩ | ⟨g', cap', cur, hv, hg, hb, h1, h2, h3, h4⟩⟩
  · cases h0
  cases hv
  rw [flat_encI] at h4
  have h4' : cur.toList.take zs.length = zs.map (Value.int .i64) := by rw [Nat.mul_one] at h4; exact h4
  have hH := holds_of_blockI hb h4'
  refine (Any.slices_Sort_int Slf.sort_lays g 0 cap zs w hH hlt.2 (by omega)).mono ?_
  rintro e w' ⟨rfl, m, os, rfl⟩
  refine ⟨rfl, ?_, ?_⟩
  · have := ownsRow_sortedI (n := m) (os := os) (ss := zs) (ts := ascI zs) (asc_len zs) hg hb h1 h2 h3
    unfold Tre.OwI Owns
    rw [flat_encI, asc_len]
    exact this
  · have hg2 := grownBy_sortedI (w := w) (g := g) (n := m) (os := os) (ascI zs).toArray
    exact ⟨hg2.os, hg2.tape, hg2.output, hg2.size, fun k hk => hg2.block k (by omega) (fun e => by injection e with e; omega)⟩
theorem comp_any {base g cap n : Nat} {zs : List Int} (h : OwI w base (.slice (some ⟨g, 0, none⟩) n cap) zs) (hn : zs.length = n) (hm : n ≤ 1000) :
    Calls Try.prog 27 #[.slice (some ⟨g, 0, none⟩) n cap] w fun e w' => e = .returned (.slice (some ⟨g, 0, none⟩) (Lib.compact zs).length cap) ∧ IntsL w' (some ⟨g, 0, none⟩) (Lib.compact zs).length cap (Lib.compact zs) ∧ Below base w w' := by
  subst hn
  have hlt := World.ownsRow.lt h g rfl
  rcases h with ⟨_, ⟨h0, _⟩ | ⟨g', cap', cur, hv, hg, hb, h1, h2, h3, h4⟩⟩
  · cases h0
  cases hv
  rw [flat_encI] at h4
  have h4' : cur.toList.take zs.length = zs.map (Value.int .i64) := by rw [Nat.mul_one] at h4; exact h4
  have hH := holds_of_blockI hb h4'
  have hle := Lib.compact_length_le zs
  refine (Any.slices_Compact_int Slf.cmp_lays g 0 cap zs w hH (by omega) h1).mono ?_
  rintro e w' ⟨rfl, q, rfl⟩
  refine ⟨rfl, ⟨rfl, by omega, h2, (fun e => by cases e), ?_⟩, ?_⟩
  · have hp := holds_putRow (Value.int .i64) (Sort.ahead w q) g 0 zs.toArray (Lib.compact zs ++ List.replicate (zs.length - (Lib.compact zs).length) 0).toArray (holds_ahead _ _ _ _ _ _ hH) (by simp; omega)
    refine .inr ⟨g, 0, rfl, fun j hj i hi => ?_⟩
    obtain rfl : i = 0 := by omega
    have := (hp j (by simp; omega)).1
    rw [Nat.mul_one, Nat.add_zero, this]
    rw [getElem!_pos _ j (by simp; omega)]
    simp only [List.getElem_toArray]
    rw [List.getElem_append_left hj]
    rfl
  · have hg2 := grownBy_sortedI (w := w) (g := g) (n := q) (os := #[]) (Lib.compact zs ++ List.replicate (zs.length - (Lib.compact zs).length) 0).toArray
    rw [grow_empty] at hg2
    exact ⟨hg2.os, hg2.tape, hg2.output, hg2.size, fun k hk => hg2.block k (by omega) (fun e => by injection e with e; omega)⟩
theorem accts_take {legs : List Lg} {k : Nat} {g : Lg} (h : legs[k]? = some g) : accts (legs.take (k + 1)) = accts (legs.take k) ++ [g.acct] := by
  have hk := (List.getElem?_eq_some_iff.1 h).1
  have he := (List.getElem?_eq_some_iff.1 h).2
  unfold accts
  rw [List.take_succ_eq_append_getElem hk, he, List.map_append]; rfl
set_option maxHeartbeats 8000000 in
theorem named_any (W : World) (a2 : Option Addr) (n2 c2 : Nat) (legs : List Lg) (hG : Legs W a2 n2 c2 legs) (hn1 : 1 ≤ n2) (hn2 : n2 ≤ 100) :
    Calls Try.prog 20 #[.slice a2 n2 c2] W fun e W' => ∃ g c, e = .returned (.slice (some ⟨g, 0, none⟩) (namedL legs).length c) ∧ W.heap.size ≤ g ∧ IntsL W' (some ⟨g, 0, none⟩) (namedL legs).length c (namedL legs) ∧ Below W.heap.size W W' := by
  have HG := Lib.hid (And.intro hG hG.len)
  clear hG
  go_enter Try.func20, Try.ntmps20
  go_wp2_with fail
  go_loopw [3, 8] (fun v i wr => ∃ k : Nat, k ≤ n2 ∧ i = .int .i64 (k : Nat) ∧ OwI wr W.heap.size v (accts (legs.take k)) ∧ Below W.heap.size W wr) (fun _ i _ => n2 - (intOf i).toNat)
  case atStart => exact ⟨0, Nat.zero_le _, rfl, owns_nil _ _ _, Below.refl _ _⟩
  case round =>
    obtain ⟨k, hk, rfl, hown, hb⟩ := hrel
    have HO := Lib.hid (And.intro hown hb)
    clear hown hb
    by_cases hlt : k < n2
    · have hkl : k < legs.length := by rw [HG.out.2]; exact hlt
      obtain ⟨b2, o2, rfl⟩ := lst_at HG.out.1 (by omega)
      have hget := List.getElem?_eq_getElem hkl
      obtain ⟨q0, q1⟩ := leg_cells (lst_keep encG_len HG.out.1 HO.out.2) hkl
      have hot := accts_take hget
      generalize legs[k] = x at *
      obtain ⟨ac, am⟩ := x
      simp only at q0 q1 hot
      have hb1 := below_alloc wr (.cells #[.int .i64 ac, .int .i64 am] 43)
      have HOt := Lib.hid hot
      have hlx : (accts (legs.take k)).length ≤ 100 := by
        unfold accts
        rw [List.length_map, List.length_take]; omega
      obtain ⟨lx, hx⟩ : ∃ z, z = accts (legs.take k) := ⟨_, rfl⟩
      rw [← hx] at HO HOt hlx
      have hb2 := below_alloc (wr.alloc (.cells #[.int .i64 ac, .int .i64 am] 43)) (.cells #[.int .i64 ac] 3)
      have HA1 := Lib.hid (own_chg' (own_chg' HO.out.1 hb1) hb2)
      have HA2 := Lib.hid (show Kit.Row Tre.encI 1 _ (some ⟨wr.heap.size + 1, 0, none⟩) [ac] from row_new encI_len (wr.alloc (.cells #[.int .i64 ac, .int .i64 am] 43)) [ac] #[.int .i64 ac] 3 _ (by simp) rfl)
      have HA3 := Lib.hid (below_keep (below_keep HO.out.2 hb1) hb2)
      have HD1 := Lib.hid (show lx.length + 1 ≤ maxLen by unfold maxLen; omega)
      have HD2 := Lib.hid (show (lx.length + 1) * 8 ≤ 140737488355328 by omega)
      clear hget hx hlx hot hb1 hb2
      go_wp2_with (first | (at_builtin; refine Two.append_apart encI_len Nat.zero_lt_one encI_one rfl (.tmp 12) (.tmp 15) 34 3 rfl Try.underlying34 (.int .i64 0) 8 info_i rfl W.heap.size _ lx rfl HA1.out (some ⟨wr.heap.size + 1, 0, none⟩) 1 1 [ac] rfl rfl HA2.out (fun h => by cases h) HD1.out HD2.out HA3.out.size ?_; intro v9 w9 ho9 hg9 hx9; have HB9 := Lib.hid (HA3.out.trans (Two.below_grown HA1.out hg9 HA3.out.size)); have HO9 := Lib.hid ho9; clear ho9 hg9 hx9) | fail)
      go_roundw
      case rel => exact ⟨k + 1, by omega, by go_num, by rw [HOt.out]; exact HO9.out, HB9.out⟩
      case measure => simp [intOf]; omega
    · obtain rfl : n2 = k := by omega
      have htk : legs.take n2 = legs := List.take_of_length_le (by rw [HG.out.2]; exact Nat.le_refl _)
      rw [htk] at HO
      have hal : (accts legs).length = n2 := by unfold accts; rw [List.length_map]; exact HG.out.2
      obtain ⟨g, cap, hv, hg, -, -⟩ := owns_at encI_len HO.out.1 (by rw [hal]; exact hn1)
      rw [hal] at hv
      subst hv
      have HS := Lib.hid (sort_any HO.out.1 hal (by omega))
      have HN := Lib.hid (show (ascI (accts legs)).length = n2 by rw [asc_len]; exact hal)
      have HB := Lib.hid HO.out.2
      clear htk hal HO
      go_wp2_with fail
      refine HS.out.mono ?_
      rintro e w2 ⟨rfl, ho2, hb2⟩
      have HC := Lib.hid (comp_any ho2 HN.out (by omega))
      have HB2 := Lib.hid (HB.out.trans hb2)
      clear ho2 hb2
      go_wp2_with fail
      refine HC.out.mono ?_
      rintro e w3 ⟨rfl, hl3, hb3⟩
      have HL3 := Lib.hid (show IntsL w3 (some ⟨g, 0, none⟩) (namedL legs).length cap (namedL legs) ∧ Below W.heap.size W w3 from ⟨hl3, HB2.out.trans hb3⟩)
      clear hl3 hb3
      go_wp2_with fail
      go_ret
      exact ⟨g, cap, rfl, hg, HL3.out.1, HL3.out.2⟩
end Go.Proofs.Ytmlbdmfmaebdeaa.Led
