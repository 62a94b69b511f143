/- Common to the claims of this seat, part 48: texts that were written one by one, laid behind one another. -/
import Derived.Shelf.Sort.Plain
import Derived.Shelf.Slices.CompactI
import Derived.Sort.OwnSortedInts
import Derived.Lib.RowBridge
import Derived.Test.YtjcndgopijpibaaGreatPart6
import Derived.Test.YtjcndgopijpibaaGreatPart11
import Derived.Test.YtjcndgopijpibaaGreatPart22
import Derived.Test.YtjcndgopijpibaaGreatPart23
import Derived.Test.YtjcndgopijpibaaGreatPart44
/- Ledger, the landed: the accounts that legs name, each once, from the least on. -/
namespace Go.Proofs.YtjcndgopijpibaaGreat.Led
set_option maxRecDepth 100000
open Go.RowKit
open Go.Sort
open Kit
open Mon
open Tre
set_option linter.unusedVariables false
variable {w w' : World}
theorem comp_spec {d : Array Int} (hs : ∀ i j, i ≤ j → j < d.size → d[i]! ≤ d[j]!) : ∀ m, m ≤ d.size → (Lib.compactUpTo d m).Pairwise (fun x y => x < y) ∧ ∀ x, x ∈ Lib.compactUpTo d m ↔ ∃ j, j < m ∧ d[j]! = x
  | 0, _ => by
    unfold Lib.compactUpTo
    simp
  | m + 1, hm => by
    obtain ⟨h1, h2⟩ := comp_spec hs m (by omega)
    rw [Lib.compactUpTo_succ]
    by_cases hk : Lib.keeps d m = true
    · rw [if_pos hk]
      constructor
      · rw [List.pairwise_append]
        refine ⟨h1, by simp, fun x hx y hy => ?_⟩
        rw [List.mem_singleton] at hy
        subst hy
        obtain ⟨j, hj, rfl⟩ := (h2 x).1 hx
        have hne : d[m]! ≠ d[m - 1]! := by
          unfold Lib.keeps at hk
          rcases of_decide_eq_true hk with h | h
          · omega
          · exact h
        have h3 := hs j (m - 1) (by omega) (by omega)
        have h4 := hs (m - 1) m (by omega) (by omega)
        omega
      · intro x
        rw [List.mem_append, h2 x, List.mem_singleton]
        constructor
        · rintro (⟨j, hj, e⟩ | e)
          · exact ⟨j, by omega, e⟩
          · exact ⟨m, by omega, e.symm⟩
        · rintro ⟨j, hj, e⟩
          by_cases h : j = m
          · subst h; exact .inr e.symm
          · exact .inl ⟨j, by omega, e⟩
    · rw [if_neg hk, List.append_nil]
      have he : 0 < m ∧ d[m]! = d[m - 1]! := by
        unfold Lib.keeps at hk
        simp only [decide_eq_true_eq, not_or, ne_eq, Decidable.not_not] at hk
        exact ⟨by omega, hk.2⟩
      refine ⟨h1, fun x => ?_⟩
      rw [h2 x]
      constructor
      · rintro ⟨j, hj, e⟩; exact ⟨j, by omega, e⟩
      · rintro ⟨j, hj, e⟩
        by_cases h : j = m
        · subst h; exact ⟨j - 1, by omega, by rw [← he.2]; exact e⟩
        · exact ⟨j, by omega, e⟩
def ascI (l : List Int) : List Int := l.mergeSort fun x y => decide (x ≤ y)
theorem asc_len (l : List Int) : (ascI l).length = l.length := List.length_mergeSort l
theorem asc_mem {l : List Int} {x : Int} : x ∈ ascI l ↔ x ∈ l := List.mem_mergeSort
theorem asc_le (l : List Int) : (ascI l).Pairwise fun x y => x ≤ y := by
  have h := List.pairwise_mergeSort (le := fun x y : Int => decide (x ≤ y)) (fun a b c h1 h2 => by simp at h1 h2 ⊢; omega) (fun a b => by simp; omega) l
  exact h.imp fun h => by simpa using h
def accts (legs : List Lg) : List Int := legs.map (·.acct)
def namedL (legs : List Lg) : List Int := Lib.compact (ascI (accts legs))
theorem namedL_spec (legs : List Lg) : (namedL legs).Pairwise (fun x y => x < y) ∧ ∀ x, x ∈ namedL legs ↔ ∃ g ∈ legs, g.acct = x := by
  have hp := asc_le (accts legs)
  have hs : ∀ i j, i ≤ j → j < (ascI (accts legs)).toArray.size → (ascI (accts legs)).toArray[i]! ≤ (ascI (accts legs)).toArray[j]! := by
    intro i j hij hj
    have hj' : j < (ascI (accts legs)).length := by simpa using hj
    rw [getElem!_pos _ i (by simp; omega), getElem!_pos _ j hj]
    simp only [List.getElem_toArray]
    by_cases h : i = j
    · subst h; exact Int.le_refl _
    · exact List.pairwise_iff_getElem.1 hp i j (by omega) hj' (by omega)
  obtain ⟨h1, h2⟩ := comp_spec hs (ascI (accts legs)).length (by simp)
  refine ⟨h1, fun x => ?_⟩
  unfold namedL Lib.compact
  rw [h2 x]
  constructor
  · rintro ⟨j, hj, e⟩
    have hm : x ∈ accts legs := by
      rw [← asc_mem, ← e, getElem!_pos _ j (by simpa using hj)]
      simp only [List.getElem_toArray]
      exact List.getElem_mem _
    unfold accts at hm
    obtain ⟨g, hg, he⟩ := List.mem_map.1 hm
    exact ⟨g, hg, he⟩
  · rintro ⟨g, hg, he⟩
    have hm : x ∈ ascI (accts legs) := asc_mem.2 (List.mem_map.2 ⟨g, hg, he⟩)
    obtain ⟨j, hj, e⟩ := List.getElem_of_mem hm
    refine ⟨j, hj, ?_⟩
    rw [getElem!_pos _ j (by simpa using hj)]
    simpa using e
theorem namedL_len (legs : List Lg) : (namedL legs).length ≤ legs.length := by
  have h := Lib.compact_length_le (ascI (accts legs))
  rw [asc_len] at h
  unfold accts at h
  rw [List.length_map] at h
  exact h
theorem flat_encI (l : List Int) : flat Tre.encI l = l.map (Value.int .i64) := by
  induction l with
  | nil => rfl
  | cons x l ih =>
    show Tre.encI x ++ flat Tre.encI l = _
    rw [ih]; rfl
theorem sort_any {base g cap n : Nat} {zs : List Int} (h : OwI w base (.slice (some ⟨g, 0, none⟩) n cap) zs) (hn : zs.length = n) (hm : n ≤ 1000) :
    Calls Tryz.prog 137 #[.slice (some ⟨g, 0, none⟩) n cap] w fun e w' => e = .returned (.tuple #[]) ∧ OwI w' base (.slice (some ⟨g, 0, none⟩) n cap) (ascI zs) ∧ Below base w w' := by
  subst hn
  have hlt := World.ownsRow.lt h g rfl
  rcases h with ⟨_, ⟨h0, _⟩ | ⟨g', cap', cur, hv, hg, hb, h1, h2, h3, h4⟩⟩
  · cases h0
  cases hv
  rw [flat_encI] at h4
  have h4' : cur.toList.take zs.length = zs.map (Value.int .i64) := by rw [Nat.mul_one] at h4; exact h4
  have hH := holds_of_blockI hb h4'
  refine (Any.slices_Sort_int Slf.sort_lays g 0 cap zs w hH hlt.2 (by omega)).mono ?_
  rintro e w' ⟨rfl, m, os, rfl⟩
  refine ⟨rfl, ?_, ?_⟩
  · have := ownsRow_sortedI (n := m) (os := os) (ss := zs) (ts := ascI zs) (asc_len zs) hg hb h1 h2 h3
    unfold Tre.OwI Owns
    rw [flat_encI, asc_len]
    exact this
  · have hg2 := grownBy_sortedI (w := w) (g := g) (n := m) (os := os) (ascI zs).toArray
    exact ⟨hg2.os, hg2.tape, hg2.output, hg2.size, fun k hk => hg2.block k (by omega) (fun e => by injection e with e; omega)⟩
theorem comp_any {base g cap n : Nat} {zs : List Int} (h : OwI w base (.slice (some ⟨g, 0, none⟩) n cap) zs) (hn : zs.length = n) (hm : n ≤ 1000) :
    Calls Tryz.prog 138 #[.slice (some ⟨g, 0, none⟩) n cap] w fun e w' => e = .returned (.slice (some ⟨g, 0, none⟩) (Lib.compact zs).length cap) ∧ IntsL w' (some ⟨g, 0, none⟩) (Lib.compact zs).length cap (Lib.compact zs) ∧ Below base w w' := by
  subst hn
  have hlt := World.ownsRow.lt h g rfl
  rcases h with ⟨_, ⟨h0, _⟩ | ⟨g', cap', cur, hv, hg, hb, h1, h2, h3, h4⟩⟩
  · cases h0
  cases hv
  rw [flat_encI] at h4
  have h4' : cur.toList.take zs.length = zs.map (Value.int .i64) := by rw [Nat.mul_one] at h4; exact h4
  have hH := holds_of_blockI hb h4'
  have hle := Lib.compact_length_le zs
  refine (Any.slices_Compact_int Slf.cmp_lays g 0 cap zs w hH (by omega) h1).mono ?_
  rintro e w' ⟨rfl, q, rfl⟩
  refine ⟨rfl, ⟨rfl, by omega, h2, (fun e => by cases e), ?_⟩, ?_⟩
  · have hp := holds_putRow (Value.int .i64) (Sort.ahead w q) g 0 zs.toArray (Lib.compact zs ++ List.replicate (zs.length - (Lib.compact zs).length) 0).toArray (holds_ahead _ _ _ _ _ _ hH) (by simp; omega)
    refine .inr ⟨g, 0, rfl, fun j hj i hi => ?_⟩
    obtain rfl : i = 0 := by omega
    have := (hp j (by simp; omega)).1
    rw [Nat.mul_one, Nat.add_zero, this]
    rw [getElem!_pos _ j (by simp; omega)]
    simp only [List.getElem_toArray]
    rw [List.getElem_append_left hj]
    rfl
  · have hg2 := grownBy_sortedI (w := w) (g := g) (n := q) (os := #[]) (Lib.compact zs ++ List.replicate (zs.length - (Lib.compact zs).length) 0).toArray
    rw [grow_empty] at hg2
    exact ⟨hg2.os, hg2.tape, hg2.output, hg2.size, fun k hk => hg2.block k (by omega) (fun e => by injection e with e; omega)⟩
theorem accts_take {legs : List Lg} {k : Nat} {g : Lg} (h : legs[k]? = some g) : accts (legs.take (k + 1)) = accts (legs.take k) ++ [g.acct] := by
  have hk := (List.getElem?_eq_some_iff.1 h).1
  have he := (List.getElem?_eq_some_iff.1 h).2
  unfold accts
  rw [List.take_succ_eq_append_getElem hk, he, List.map_append]; rfl
set_option maxHeartbeats 8000000 in
theorem named_any (W : World) (a2 : Option Addr) (n2 c2 : Nat) (legs : List Lg) (hG : Legs W a2 n2 c2 legs) (hn1 : 1 ≤ n2) (hn2 : n2 ≤ 100) :
    Calls Tryz.prog 112 #[.slice a2 n2 c2] W fun e W' => ∃ g c, e = .returned (.slice (some ⟨g, 0, none⟩) (namedL legs).length c) ∧ W.heap.size ≤ g ∧ IntsL W' (some ⟨g, 0, none⟩) (namedL legs).length c (namedL legs) ∧ Below W.heap.size W W' := by
  have HG := Lib.hid (And.intro hG hG.len)
  clear hG
  go_enter Tryz.func112, Tryz.ntmps112
  go_wp2_with fail
  go_loopw [3, 8] (fun v i wr => ∃ k : Nat, k ≤ n2 ∧ i = .int .i64 (k : Nat) ∧ OwI wr W.heap.size v (accts (legs.take k)) ∧ Below W.heap.size W wr) (fun _ i _ => n2 - (intOf i).toNat)
  case atStart => exact ⟨0, Nat.zero_le _, rfl, owns_nil _ _ _, Below.refl _ _⟩
  case round =>
    obtain ⟨k, hk, rfl, hown, hb⟩ := hrel
    have HO := Lib.hid (And.intro hown hb)
    clear hown hb
    by_cases hlt : k < n2
    · have hkl : k < legs.length := by rw [HG.out.2]; exact hlt
      obtain ⟨b2, o2, rfl⟩ := lst_at HG.out.1 (by omega)
      have hget := List.getElem?_eq_getElem hkl
      obtain ⟨q0, q1⟩ := leg_cells (lst_keep encG_len HG.out.1 HO.out.2) hkl
      have hot := accts_take hget
      generalize legs[k] = x at *
      obtain ⟨ac, am⟩ := x
      simp only at q0 q1 hot
      have hb1 := below_alloc wr (.cells #[.int .i64 ac, .int .i64 am] 49)
      have HOt := Lib.hid hot
      have hlx : (accts (legs.take k)).length ≤ 100 := by
        unfold accts
        rw [List.length_map, List.length_take]; omega
      obtain ⟨lx, hx⟩ : ∃ z, z = accts (legs.take k) := ⟨_, rfl⟩
      rw [← hx] at HO HOt hlx
      have hb2 := below_alloc (wr.alloc (.cells #[.int .i64 ac, .int .i64 am] 49)) (.cells #[.int .i64 ac] 3)
      have HA1 := Lib.hid (own_chg' (own_chg' HO.out.1 hb1) hb2)
      have HA2 := Lib.hid (show Kit.Row Tre.encI 1 _ (some ⟨wr.heap.size + 1, 0, none⟩) [ac] from row_new encI_len (wr.alloc (.cells #[.int .i64 ac, .int .i64 am] 49)) [ac] #[.int .i64 ac] 3 _ (by simp) rfl)
      have HA3 := Lib.hid (below_keep (below_keep HO.out.2 hb1) hb2)
      have HD1 := Lib.hid (show lx.length + 1 ≤ maxLen by unfold maxLen; omega)
      have HD2 := Lib.hid (show (lx.length + 1) * 8 ≤ 140737488355328 by omega)
      clear hget hx hlx hot hb1 hb2
      go_wp2_with (first | (at_builtin; refine Two.append_apart encI_len Nat.zero_lt_one encI_one rfl (.tmp 12) (.tmp 15) 31 3 rfl Tryz.underlying31 (.int .i64 0) 8 info_i rfl W.heap.size _ lx rfl HA1.out (some ⟨wr.heap.size + 1, 0, none⟩) 1 1 [ac] rfl rfl HA2.out (fun h => by cases h) HD1.out HD2.out HA3.out.size ?_; intro v9 w9 ho9 hg9 hx9; have HB9 := Lib.hid (HA3.out.trans (Two.below_grown HA1.out hg9 HA3.out.size)); have HO9 := Lib.hid ho9; clear ho9 hg9 hx9) | fail)
      go_roundw
      case rel => exact ⟨k + 1, by omega, by go_num, by rw [HOt.out]; exact HO9.out, HB9.out⟩
      case measure => simp [intOf]; omega
    · obtain rfl : n2 = k := by omega
      have htk : legs.take n2 = legs := List.take_of_length_le (by rw [HG.out.2]; exact Nat.le_refl _)
      rw [htk] at HO
      have hal : (accts legs).length = n2 := by unfold accts; rw [List.length_map]; exact HG.out.2
      obtain ⟨g, cap, hv, hg, -, -⟩ := owns_at encI_len HO.out.1 (by rw [hal]; exact hn1)
      rw [hal] at hv
      subst hv
      have HS := Lib.hid (sort_any HO.out.1 hal (by omega))
      have HN := Lib.hid (show (ascI (accts legs)).length = n2 by rw [asc_len]; exact hal)
      have HB := Lib.hid HO.out.2
      clear htk hal HO
      go_wp2_with fail
      refine HS.out.mono ?_
      rintro e w2 ⟨rfl, ho2, hb2⟩
      have HC := Lib.hid (comp_any ho2 HN.out (by omega))
      have HB2 := Lib.hid (HB.out.trans hb2)
      clear ho2 hb2
      go_wp2_with fail
      refine HC.out.mono ?_
      rintro e w3 ⟨rfl, hl3, hb3⟩
      have HL3 := Lib.hid (show IntsL w3 (some ⟨g, 0, none⟩) (namedL legs).length cap (namedL legs) ∧ Below W.heap.size W w3 from ⟨hl3, HB2.out.trans hb3⟩)
      clear hl3 hb3
      go_wp2_with fail
      go_ret
      exact ⟨g, cap, rfl, hg, HL3.out.1, HL3.out.2⟩
end Go.Proofs.YtjcndgopijpibaaGreat.Led
/- Ledger, the landed: the accounts that legs name set, one after another. -/
namespace Go.Proofs.YtjcndgopijpibaaGreat.Led
set_option maxRecDepth 100000
open Go.RowKit
open Go.Sort
open Kit
open Mon
open Tre
open Foot
set_option linter.unusedVariables false
set_option linter.unusedSimpArgs false
variable {w w' : World}
def fq (fl : List Int) (legs : List Lg) (ks : List Int) (m q : Nat) : List Int := (List.range m).map fun (j : Nat) => if (j : Int) ∈ ks.take q then acctN fl legs j else fl.getD j 0
theorem fq_len (fl : List Int) (legs : List Lg) (ks : List Int) (m q : Nat) : (fq fl legs ks m q).length = m := by simp [fq]
theorem fq_at {fl : List Int} {legs : List Lg} {ks : List Int} {m q j : Nat} (hj : j < m) : (fq fl legs ks m q)[j]? = some (if (j : Int) ∈ ks.take q then acctN fl legs j else fl.getD j 0) := by simp [fq, hj]
theorem fq_zero {fl : List Int} {legs : List Lg} {ks : List Int} {m : Nat} (hl : fl.length = m) : fq fl legs ks m 0 = fl := by
  apply list_ext (by rw [fq_len, hl])
  intro i x hx
  have hi : i < m := by have := (List.getElem?_eq_some_iff.1 hx).1; rwa [fq_len] at this
  rw [fq_at hi] at hx
  simp at hx
  rw [← hx]
  simp [List.getD, show i < fl.length by omega]
theorem fq_step {fl : List Int} {legs : List Lg} {ks : List Int} {m q k : Nat} (hk : ks[q]? = some (k : Int)) (hm : k < m) : fq fl legs ks m (q + 1) = (fq fl legs ks m q).set k (acctN fl legs k) := by
  have hq := (List.getElem?_eq_some_iff.1 hk).1
  have he := (List.getElem?_eq_some_iff.1 hk).2
  apply list_ext (by rw [List.length_set, fq_len, fq_len])
  intro i x hx
  have hi : i < m := by have := (List.getElem?_eq_some_iff.1 hx).1; rwa [fq_len] at this
  rw [fq_at hi, List.take_succ_eq_append_getElem hq, he] at hx
  rw [List.getElem?_set]
  by_cases h : k = i
  · subst h
    rw [if_pos rfl, if_pos (by rw [fq_len]; exact hi)]
    rw [if_pos (by simp)] at hx
    exact hx
  · rw [if_neg h, fq_at hi, ← hx]
    have hne : ¬ (i : Int) = (k : Int) := by omega
    simp [hne]
theorem pair_at {ks : List Int} (hp : ks.Pairwise fun x y => x < y) {i j : Nat} {x y : Int} (hx : ks[i]? = some x) (hy : ks[j]? = some y) : (i < j → x < y) ∧ (x < y → i < j) := by
  obtain ⟨hi, ei⟩ := List.getElem?_eq_some_iff.1 hx
  obtain ⟨hj, ej⟩ := List.getElem?_eq_some_iff.1 hy
  subst ei ej
  have key := List.pairwise_iff_getElem.1 hp
  refine ⟨fun h => key i j hi hj h, fun h => ?_⟩
  rcases Nat.lt_trichotomy i j with h2 | h2 | h2
  · exact h2
  · subst h2; omega
  · have := key j i hj hi h2; omega
theorem not_before {ks : List Int} (hp : ks.Pairwise fun x y => x < y) {q : Nat} {x : Int} (hx : ks[q]? = some x) : x ∉ ks.take q := by
  intro h
  obtain ⟨i, hi, e⟩ := List.getElem_of_mem h
  rw [List.getElem_take] at e
  rw [List.length_take] at hi
  have h2 : ks[i]? = some x := by rw [List.getElem?_eq_getElem (by omega), e]
  have := (pair_at hp h2 hx).1 (by omega)
  omega
theorem named_iff {legs : List Lg} {k : Nat} : named legs k = true ↔ (k : Int) ∈ namedL legs := by
  rw [(namedL_spec legs).2]
  unfold named
  rw [List.any_eq_true]
  constructor
  · rintro ⟨g, hg, h⟩; exact ⟨g, hg, by simpa using h⟩
  · rintro ⟨g, hg, h⟩; exact ⟨g, hg, by simpa using h⟩
theorem fq_old {fl : List Int} {legs : List Lg} {m q k : Nat} (hk : (namedL legs)[q]? = some (k : Int)) (hm : k < m) : (fq fl legs (namedL legs) m q).getD k 0 = fl.getD k 0 := by
  rw [getD_at (fq_at hm), if_neg (not_before (namedL_spec legs).1 hk)]
theorem fq_end {wd : Int} {al : List Al} {legs : List Lg} {m r : Nat} (hm : m = 1 + 3 * al.length) (hr : (namedL legs).length = r) : fq (flatN wd al) legs (namedL legs) m r = postF wd al legs := by
  subst hm
  apply list_ext (by rw [fq_len, postF_len])
  intro i x hx
  have hi : i < 1 + 3 * al.length := by have := (List.getElem?_eq_some_iff.1 hx).1; rwa [fq_len] at this
  rw [fq_at hi, List.take_of_length_le (by omega)] at hx
  rw [postF_at wd al legs hi, ← hx]
  by_cases hn : named legs i = true
  · rw [if_pos (named_iff.1 hn)]
  · rw [if_neg (fun h => hn (named_iff.2 h)), (acct_un (fl := flatN wd al) (by simpa using hn)).2]
theorem none_before {fl : List Int} {legs : List Lg} {q k : Nat} (hz : ∀ i, i < q → ∀ x, (namedL legs)[i]? = some x → acctE fl legs x.toNat = 0) (hk : (namedL legs)[q]? = some (k : Int)) : ∀ j, j < k → acctE fl legs j = 0 := by
  intro j hj
  by_cases hn : named legs j = true
  · obtain ⟨i, hi, e⟩ := List.getElem_of_mem (named_iff.1 hn)
    have h2 : (namedL legs)[i]? = some (j : Int) := by rw [List.getElem?_eq_getElem hi, e]
    have h3 := (pair_at (namedL_spec legs).1 h2 hk).2 (by omega)
    have := hz i h3 _ h2
    rwa [Int.toNat_natCast] at this
  · exact (acct_un (by simpa using hn)).1
theorem all_good {wd : Int} {al : List Al} {legs : List Lg} {r : Nat} (hr : (namedL legs).length = r) (hp : preE (1 + 3 * al.length) legs = 0) (hz : ∀ i, i < r → ∀ x, (namedL legs)[i]? = some x → acctE (flatN wd al) legs x.toNat = 0) : postE wd al legs = 0 := by
  rw [post_iff]
  refine ⟨hp, fun j _ => ?_⟩
  by_cases hn : named legs j = true
  · obtain ⟨i, hi, e⟩ := List.getElem_of_mem (named_iff.1 hn)
    have := hz i (by omega) _ (by rw [List.getElem?_eq_getElem hi, e])
    rwa [Int.toNat_natCast] at this
  · exact (acct_un (by simpa using hn)).1
theorem beh_acct {fl : List Int} {legs : List Lg} {k : Nat} {y : Int} (hy : y = fl.getD k 0) (hn : named legs k = true) : behE y legs k = acctE fl legs k ∧ (behE y legs k = 0 → behN y legs k = acctN fl legs k) := by
  have e : mineY y legs k = mine fl legs k := by unfold mineY mine; rw [hy]
  have e1 : behE y legs k = acctE fl legs k := by unfold behE acctE; rw [e, if_pos hn]
  refine ⟨e1, fun h => ?_⟩
  unfold behN acctN
  rw [if_pos h, if_pos hn, e]
theorem setA_world {F : List Int} {al : List Al} (x : Int) : setA (F.set 0 x) al = setA F al := by
  apply List.ext_getElem?
  intro j
  cases ha : al[j]? with
  | none =>
    rw [List.getElem?_eq_none_iff] at ha
    rw [List.getElem?_eq_none (by rw [setA_len]; exact ha), List.getElem?_eq_none (by rw [setA_len]; exact ha)]
  | some a =>
    rw [setA_at ha, setA_at ha]
    unfold setOne
    simp only [List.getD, List.getElem?_set, show ¬ 0 = 1 + 3 * j by omega, show ¬ 0 = 2 + 3 * j by omega, show ¬ 0 = 3 + 3 * j by omega, if_false]
def putF (r : Nat) (x : Int) (a : Al) : Al := match r with
  | 0 => { a with avail := x }
  | 1 => { a with lien := x }
  | _ => { a with spent := x }
theorem putF_enc {r : Nat} (hr : r < 3) (x : Int) (a : Al) : encL (putF r x a) = (encL a).set (3 + r) (.int .i64 x) := by
  match r, hr with
  | 0, _ => rfl
  | 1, _ => rfl
  | 2, _ => rfl
theorem setA_alloc {F : List Int} {al : List Al} {i r : Nat} {a : Al} (hr : r < 3) (hF : F.length = 1 + 3 * al.length) (ha : al[i]? = some a) (x : Int) : setA (F.set (1 + 3 * i + r) x) al = (setA F al).set i (putF r x (setOne F a i)) := by
  have hi := (List.getElem?_eq_some_iff.1 ha).1
  apply List.ext_getElem?
  intro j
  rw [List.getElem?_set]
  by_cases hj : i = j
  · subst hj
    rw [if_pos rfl, if_pos (by rw [setA_len]; exact hi), setA_at ha]
    congr 1
    unfold setOne
    match r, hr with
    | 0, _ => simp [putF, List.getD, List.getElem?_set, show 1 + 3 * i < F.length by omega, show ¬ 1 + 3 * i = 2 + 3 * i by omega, show ¬ 1 + 3 * i = 3 + 3 * i by omega]
    | 1, _ => simp [putF, List.getD, List.getElem?_set, show 1 + 3 * i + 1 = 2 + 3 * i by omega, show 2 + 3 * i < F.length by omega, show ¬ 2 + 3 * i = 1 + 3 * i by omega, show ¬ 2 + 3 * i = 3 + 3 * i by omega]
    | 2, _ => simp [putF, List.getD, List.getElem?_set, show 1 + 3 * i + 2 = 3 + 3 * i by omega, show 3 + 3 * i < F.length by omega, show ¬ 3 + 3 * i = 1 + 3 * i by omega, show ¬ 3 + 3 * i = 2 + 3 * i by omega]
  · rw [if_neg hj]
    cases hb : al[j]? with
    | none =>
      rw [List.getElem?_eq_none_iff] at hb
      rw [List.getElem?_eq_none (by rw [setA_len]; exact hb), List.getElem?_eq_none (by rw [setA_len]; exact hb)]
    | some b =>
      rw [setA_at hb, setA_at hb]
      unfold setOne
      simp only [List.getD, List.getElem?_set, show ¬ 1 + 3 * i + r = 1 + 3 * j by omega, show ¬ 1 + 3 * i + r = 2 + 3 * j by omega, show ¬ 1 + 3 * i + r = 3 + 3 * j by omega, if_false]
structure PI (W : World) (base : Nat) (g0 gn : Nat) (va : Option Addr) (n vc r cn : Nat) (ks : List Int) (al : List Al) (F : List Int) (wr : World) : Prop where
  wld : OwI wr W.heap.size (.slice (some ⟨g0, 0, none⟩) 1 1) [F.getD 0 0]
  als : Owns encL 6 65 wr base (.slice va n vc) (setA F al)
  nms : IntsL wr (some ⟨gn, 0, none⟩) r cn ks
  below : Below W.heap.size W wr
variable {W : World} {base g0 gn n vc r cn : Nat} {va : Option Addr} {ks : List Int} {al : List Al} {F : List Int} {wr : World}
theorem pi_below (h : PI W base g0 gn va n vc r cn ks al F wr) (hb : Below wr.heap.size wr w') : PI W base g0 gn va n vc r cn ks al F w' :=
  ⟨own_chg' h.wld hb, Nest.own_on h.als hb, lst_keep encI_len h.nms hb, below_keep h.below hb⟩
theorem ints_far {b c' r' : Nat} {l : List Int} (h : IntsL w (some ⟨gn, 0, none⟩) r' c' l) (hne : gn ≠ b) (i : Nat) (u : Value) : IntsL (w.setCell ⟨b, i, none⟩ u) (some ⟨gn, 0, none⟩) r' c' l :=
  ⟨h.len, h.cap, h.max, h.nil, row_chg encI_len (set_chg w b i u) h.row hne⟩
theorem below_set {B b i : Nat} {u : Value} (h : Below B W w) (hb : B ≤ b) : Below B W (w.setCell ⟨b, i, none⟩ u) :=
  h.trans (by
    have hc := set_chg w b i u
    exact ⟨hc.os, hc.tape, hc.output, hc.size, fun k hk => by
      by_cases hk2 : k < w.heap.size
      · exact hc.block k hk2 (by omega)
      · have h2 := size_setCell w ⟨b, i, none⟩ u
        rw [Array.getElem?_eq_none (by omega), Array.getElem?_eq_none (by omega)]⟩)
theorem pi_at (h : PI W base g0 gn va n vc r cn ks al F wr) (hn : n ≤ 100) (hal : al.length = n) (hF : F.length = 1 + 3 * n) (hbase : W.heap.size ≤ base) (h0 : g0 ≠ gn) (hv0 : ∀ g, (Value.slice va n vc).ownBlock = some g → g ≠ g0 ∧ g ≠ gn) {k : Nat} (hk : k < 1 + 3 * n) :
    ∃ b o, Calls Tryz.prog 113 #[.pointer (some ⟨g0, 0, none⟩), .slice va n vc, .int .i64 (k : Int)] wr (fun e w' => e = .returned (.pointer (some ⟨b, o, none⟩)) ∧ wr = w') ∧ wr.cell? ⟨b, o, none⟩ = some (.int .i64 (F.getD k 0)) ∧
      ∀ w5, Below wr.heap.size wr w5 → w5.cell? ⟨b, o, none⟩ = some (.int .i64 (F.getD k 0)) ∧ w5.frozen? ⟨b, o, none⟩ = false ∧ ∀ x, PI W base g0 gn va n vc r cn ks al (F.set k x) (w5.setCell ⟨b, o, none⟩ (.int .i64 x)) := by
  have hge : W.heap.size ≤ g0 := (World.ownsRow.lt h.wld g0 rfl).1
  by_cases hz : k = 0
  · subst hz
    refine ⟨g0, 0, addr_world wr _ va n vc, ?_, fun w5 hb => ?_⟩
    · have := (owns_put encI_len h.wld rfl (k := 0) (a := F.getD 0 0) rfl (i := 0) Nat.zero_lt_one (fun _ => 0) (.int .i64 0) (fun a => rfl)).1
      exact this
    · have h5 := pi_below h hb
      obtain ⟨a1, a2, -⟩ := owns_put encI_len h5.wld rfl (k := 0) (a := F.getD 0 0) rfl (i := 0) Nat.zero_lt_one (fun _ => 0) (.int .i64 0) (fun a => rfl)
      refine ⟨a1, a2, fun x => ?_⟩
      obtain ⟨-, -, a3⟩ := owns_put encI_len h5.wld rfl (k := 0) (a := F.getD 0 0) rfl (i := 0) Nat.zero_lt_one (fun _ => x) (.int .i64 x) (fun a => rfl)
      refine ⟨?_, ?_, ints_far h5.nms (Ne.symm h0) _ _, below_set h5.below hge⟩
      · have e : (F.set 0 x).getD 0 0 = x := getD_at (List.getElem?_set_self (by omega))
        rw [e]; exact a3
      · rw [setA_world]
        exact own_set_far h5.als (fun g hg => (hv0 g hg).1) _ _
  · obtain ⟨i, rr, hr, hi, rfl⟩ : ∃ i rr : Nat, rr < 3 ∧ i < n ∧ k = 1 + 3 * i + rr := ⟨(k - 1) / 3, (k - 1) % 3, by omega, by omega, by omega⟩
    have hil : i < al.length := by omega
    obtain ⟨ga, ca, hva, hga, -, -⟩ := owns_at encL_len h.als (by rw [setA_len]; omega)
    injection hva with e1 e2 e3
    subst e1
    have hval := hv0 ga rfl
    have hat := setA_at (F := F) (List.getElem?_eq_getElem hil)
    have hval2 : (encL (setOne F al[i] i))[3 + rr]? = some (.int .i64 (F.getD (1 + 3 * i + rr) 0)) := by
      rcases (show rr = 0 ∨ rr = 1 ∨ rr = 2 by omega) with e | e | e
      · rw [e]; rfl
      · rw [e, show 1 + 3 * i + 1 = 2 + 3 * i by omega]; rfl
      · rw [e, show 1 + 3 * i + 2 = 3 + 3 * i by omega]; rfl
    have hsl : (setA F al).length = n := by rw [setA_len]; exact hal
    refine ⟨ga, 0 + i * 6 + (3 + rr), addr_at wr _ ga 0 n vc i rr hn hi hr, ?_, fun w5 hb => ?_⟩
    · have := (owns_put encL_len h.als hsl hat (i := 3 + rr) (by omega) (putF rr 0) (.int .i64 0) (putF_enc hr 0)).1
      rw [Nat.zero_add, this]; exact hval2
    · have h5 := pi_below h hb
      obtain ⟨a1, a2, -⟩ := owns_put encL_len h5.als hsl hat (i := 3 + rr) (by omega) (putF rr 0) (.int .i64 0) (putF_enc hr 0)
      rw [Nat.zero_add]
      refine ⟨by rw [a1]; exact hval2, a2, fun x => ?_⟩
      obtain ⟨-, -, a3⟩ := owns_put encL_len h5.als hsl hat (i := 3 + rr) (by omega) (putF rr x) (.int .i64 x) (putF_enc hr x)
      refine ⟨?_, ?_, ints_far h5.nms (Ne.symm hval.2) _ _, below_set h5.below (by omega)⟩
      · have e : (F.set (1 + 3 * i + rr) x).getD 0 0 = F.getD 0 0 := by
          simp only [List.getD, List.getElem?_set, show ¬ 1 + 3 * i + rr = 0 by omega, if_false]
        rw [e]
        exact own_set_far h5.wld (fun g hg => by injection hg with hg; rw [← hg]; exact Ne.symm hval.1) _ _
      · rw [setA_alloc hr (by rw [hal]; exact hF) (List.getElem?_eq_getElem hil)]
        exact a3
end Go.Proofs.YtjcndgopijpibaaGreat.Led
/- Ledger, the landed: Post. -/
namespace Go.Proofs.YtjcndgopijpibaaGreat.Led
set_option maxRecDepth 100000
open Go.RowKit
open Go.Sort
open Kit
open Mon
open Tre
open Foot
set_option linter.unusedVariables false
variable {w w' : World}
abbrev PostO : Prop := ∀ (W : World) (wd : Int) (a : Option Addr) (n c : Nat) (al : List Al) (a2 : Option Addr) (n2 c2 : Nat) (legs : List Lg), inI wd → Allocs W a n c al → (∀ x ∈ al, x.ok) → n ≤ 100 → Legs W a2 n2 c2 legs → (∀ x ∈ legs, x.ok) → n2 ≤ 100 →
    Calls Tryz.prog 79 #[.int .i64 wd, .slice a n c, .slice a2 n2 c2] W fun e W' => ∃ v, e = .returned (.tuple #[.int .i64 (postW wd al legs), v, .int .i64 (postE wd al legs)]) ∧ Owns encL 6 65 W' W.heap.size v (postA wd al legs) ∧ Below W.heap.size W W'
set_option maxHeartbeats 16000000 in
theorem post_own : PostO := by
  intro W wd a n c al a2 n2 c2 legs hwd hA hAok hn hG hGok hn2
  have hb1 := below_alloc W (.cells #[.int .i64 wd] 3)
  have HP := Lib.hid (pre_any (W.alloc (.cells #[.int .i64 wd] 3)) a n c a2 n2 c2 legs hn (lst_keep encG_len hG hb1) hGok hn2)
  have HA := Lib.hid (And.intro hA hA.len)
  have HG := Lib.hid (And.intro hG hG.len)
  have HW := Lib.hid (And.intro (owns_lit W wd W.heap.size (Nat.le_refl _)) hb1)
  clear hA hAok hG hGok hb1 hwd
  go_enter Tryz.func79, Tryz.ntmps79
  go_wp2_with fail
  refine HP.out.mono ?_
  rintro e w2 ⟨rfl, hb2⟩
  have HB2 := Lib.hid hb2
  clear HP hb2
  by_cases hpe : preE (1 + 3 * n) legs = 0
  · rw [hpe]
    have HPre := Lib.hid (show preE (1 + 3 * al.length) legs = 0 by rw [HA.out.2]; exact hpe)
    have hpi := pre_iff.1 hpe
    have HK := Lib.hid hpi.1
    have hn1 : 1 ≤ n2 := by rw [← HG.out.2]; exact hpi.2.1
    have HWB := Lib.hid (below_keep HW.out.2 HB2.out)
    have HCl := Lib.hid (clone_any w2 a n c al (lst_keep encL_len HA.out.1 HWB.out) hn)
    clear hpe hpi
    go_wp2_with fail
    refine HCl.out.mono ?_
    rintro e w3 ⟨v, rfl, hov, hb3⟩
    obtain ⟨va, vc, rfl, -, -, -, -⟩ := owns_row encL_len hov
    rw [HA.out.2] at hov ⊢
    have HV := Lib.hid (And.intro hov hb3)
    have HNm := Lib.hid (named_any w3 a2 n2 c2 legs (lst_keep encG_len HG.out.1 (below_keep HWB.out hb3)) hn1 hn2)
    clear hov hb3 HCl
    go_wp2_with fail
    refine HNm.out.mono ?_
    rintro e w4 ⟨gn, cn, rfl, hgn, hnl, hb4⟩
    obtain ⟨r, hr⟩ : ∃ r, r = (namedL legs).length := ⟨_, rfl⟩
    rw [← hr] at hnl ⊢
    have hr2 : r ≤ 100 := by
      have h := namedL_len legs
      rw [← hr, HG.out.2] at h
      omega
    have HR := Lib.hid hr
    obtain ⟨fl, hfl⟩ : ∃ fl, fl = flatN wd al := ⟨_, rfl⟩
    obtain ⟨m, hm⟩ : ∃ m, m = 1 + 3 * n := ⟨_, rfl⟩
    have HM := Lib.hid (show fl = flatN wd al ∧ m = 1 + 3 * n ∧ fl.length = m by refine ⟨hfl, hm, ?_⟩; rw [hfl, flat_len, HA.out.2, hm])
    have hs2 : W.heap.size + 1 ≤ w2.heap.size := by have h := HB2.out.size; simpa using h
    have HSt := Lib.hid (show W.heap.size ≤ w2.heap.size ∧ W.heap.size ≠ gn ∧ (∀ g, (Value.slice va n vc).ownBlock = some g → g ≠ W.heap.size ∧ g ≠ gn) by
      have h3 := HV.out.2.size
      refine ⟨by omega, by omega, fun g hg => ?_⟩
      have := World.ownsRow.lt HV.out.1 g hg
      omega)
    have HI0 := Lib.hid (show PI W w2.heap.size W.heap.size gn va n vc r cn (namedL legs) al (fq fl legs (namedL legs) m 0) w4 by
      rw [fq_zero HM.out.2.2, HM.out.1]
      refine ⟨?_, ?_, hnl, below_keep (below_keep HWB.out HV.out.2) hb4⟩
      · exact own_chg' (own_chg' (own_chg' HW.out.1 HB2.out) HV.out.2) hb4
      · rw [setA_flat]; exact Nest.own_on HV.out.1 hb4)
    clear hgn hnl hb4 hr hfl hm hs2 HNm
    go_wp2_with fail
    go_loopw [26] (fun i wr => ∃ q : Nat, q ≤ r ∧ i = .int .i64 (q : Nat) ∧ (∀ i, i < q → ∀ x, (namedL legs)[i]? = some x → acctE fl legs x.toNat = 0) ∧ PI W w2.heap.size W.heap.size gn va n vc r cn (namedL legs) al (fq fl legs (namedL legs) m q) wr) (fun i _ => r - (intOf i).toNat)
    case atStart => exact ⟨0, Nat.zero_le _, rfl, (fun i hi => by omega), HI0.out⟩
    case round =>
      obtain ⟨q, hq, rfl, hz, hpi⟩ := hrel
      have HI := Lib.hid (And.intro hz hpi)
      clear hz hpi
      by_cases hlt : q < r
      · have hql : q < (namedL legs).length := by rw [← HR.out]; exact hlt
        have hget := List.getElem?_eq_getElem hql
        have hcell := int_cell HI.out.2.nms hql
        rw [Nat.zero_add] at hcell
        obtain ⟨k, hk⟩ : ∃ k : Nat, (namedL legs)[q] = (k : Int) := by
          obtain ⟨g, hg, he⟩ := ((namedL_spec legs).2 _).1 (List.getElem_mem hql)
          exact ⟨(namedL legs)[q].toNat, by have := (HK.out g hg).1; omega⟩
        rw [hk] at hget hcell
        have hkm : k < 1 + 3 * n := by
          obtain ⟨g, hg, he⟩ := ((namedL_spec legs).2 _).1 (List.mem_of_getElem? hget)
          have := (HK.out g hg).2.1
          omega
        have hnd : named legs k = true := named_iff.2 (List.mem_of_getElem? hget)
        obtain ⟨ab, ao, hcall, hyc, hset⟩ := pi_at HI.out.2 hn HA.out.2 (by rw [fq_len]; exact HM.out.2.1) HSt.out.1 HSt.out.2.1 HSt.out.2.2 hkm
        have hold := fq_old (fl := fl) (m := m) hget (by rw [HM.out.2.1]; exact hkm)
        rw [hold] at hyc
        obtain ⟨y, hy⟩ : ∃ y, y = fl.getD k 0 := ⟨_, rfl⟩
        rw [← hy] at hyc
        have HBe := Lib.hid (beh_acct hy hnd)
        have HCa := Lib.hid hcall
        have HSe := Lib.hid hset
        have HKq := Lib.hid (And.intro hget hkm)
        have HBc := Lib.hid (beh_any wr k y a2 n2 c2 legs (lst_keep encG_len HG.out.1 HI.out.2.below) hn2)
        clear hget hk hkm hnd hcall hset hold hy hql
        go_wp2_with fail
        refine HCa.out.mono ?_
        rintro e w5 ⟨rfl, rfl⟩
        go_wp2_with fail
        refine HBc.out.mono ?_
        rintro e w5 ⟨rfl, hb5⟩
        by_cases hbe : behE y legs k = 0
        · have HN := Lib.hid (show behE y legs k = 0 ∧ acctE fl legs k = 0 ∧ behN y legs k = acctN fl legs k from ⟨hbe, by rw [← HBe.out.1]; exact hbe, HBe.out.2 hbe⟩)
          obtain ⟨hc5, hf5, hset5⟩ := HSe.out w5 hb5
          have HS5 := Lib.hid (show PI W w2.heap.size W.heap.size gn va n vc r cn (namedL legs) al (fq fl legs (namedL legs) m (q + 1)) (w5.setCell ⟨ab, ao, none⟩ (.int .i64 (behN y legs k))) by
            rw [fq_step HKq.out.1 (by rw [HM.out.2.1]; exact HKq.out.2), HN.out.2.2]
            exact hset5 _)
          rw [hbe]
          clear hbe hset5 hb5
          generalize behN y legs k = sn at *
          go_wp2_with fail
          go_roundw
          case rel => exact ⟨q + 1, by omega, by go_num, fun i hi x hx => by
            rcases Nat.lt_succ_iff_lt_or_eq.1 hi with h | h
            · exact HI.out.1 i h x hx
            · subst h
              have := HKq.out.1.symm.trans hx
              injection this with this
              rw [← this, Int.toNat_natCast]
              exact HN.out.2.1, HS5.out⟩
          case measure => simp [intOf]; omega
        · have HRf := Lib.hid (refused (w := wd) (al := al) (legs := legs) (post_first HPre.out (by rw [← HM.out.1]; exact none_before HI.out.1 HKq.out.1) (by rw [← HM.out.1]; exact HBe.out.1.symm) hbe (by rw [HA.out.2]; exact HKq.out.2)) hbe)
          have HB5 := Lib.hid (below_keep HI.out.2.below hb5)
          have hne : (behE y legs k == 0) = false := beq_false_of_ne hbe
          generalize behE y legs k = se at *
          generalize behN y legs k = sn at *
          clear hbe hb5
          go_wp2_with fail
          go_ret3
          exact ⟨_, by rw [HRf.out.1, HRf.out.2.2]; rfl, by rw [HRf.out.2.1]; exact owns_nil _ _ _, HB5.out⟩
      · obtain rfl : q = r := by omega
        have HE := Lib.hid (all_good (wd := wd) (al := al) HR.out.symm HPre.out (by rw [← HM.out.1]; exact HI.out.1))
        have HF := Lib.hid (show fq fl legs (namedL legs) m q = postF wd al legs by rw [HM.out.1]; exact fq_end (by rw [HA.out.2]; exact HM.out.2.1) HR.out.symm)
        rw [HF.out] at HI
        obtain ⟨hcw, -, -⟩ := owns_put encI_len HI.out.2.wld rfl (k := 0) (a := (postF wd al legs).getD 0 0) rfl (i := 0) Nat.zero_lt_one (fun _ => 0) (.int .i64 0) (fun a => rfl)
        have hcw2 : wr.cell? ⟨W.heap.size, 0, none⟩ = some (.int .i64 ((postF wd al legs).getD 0 0)) := hcw
        have HFin := Lib.hid (show postW wd al legs = (postF wd al legs).getD 0 0 ∧ postA wd al legs = setA (postF wd al legs) al from ⟨postW_ok HE.out, postA_ok HE.out⟩)
        generalize (postF wd al legs).getD 0 0 = sw at *
        clear hcw
        go_wp2_with fail
        go_ret3
        exact ⟨_, by rw [HFin.out.1, HE.out]; rfl, by rw [HFin.out.2]; exact owns_le HI.out.2.als HSt.out.1, HI.out.2.below⟩
  · have HRf := Lib.hid (refused (w := wd) (al := al) (legs := legs) (post_pre (by rw [HA.out.2]) hpe) hpe)
    have HWB := Lib.hid (below_keep HW.out.2 HB2.out)
    have hne : (preE (1 + 3 * n) legs == 0) = false := beq_false_of_ne hpe
    generalize preE (1 + 3 * n) legs = se at *
    clear hpe
    go_wp2_with fail
    go_ret3
    exact ⟨_, by rw [HRf.out.1, HRf.out.2.2]; rfl, by rw [HRf.out.2.1]; exact owns_nil _ _ _, HWB.out⟩
theorem post_any : PostC := fun W wd a n c al a2 n2 c2 legs hwd hA hAok hn hG hGok hn2 => (post_own W wd a n c al a2 n2 c2 legs hwd hA hAok hn hG hGok hn2).mono (by
  rintro e w2 ⟨v, h1, h2, h3⟩
  exact ⟨v, h1, .inl h2, h3⟩)
end Go.Proofs.YtjcndgopijpibaaGreat.Led
