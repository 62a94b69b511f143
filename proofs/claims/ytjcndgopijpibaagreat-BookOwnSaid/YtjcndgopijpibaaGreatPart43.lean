/- Common to the claims of this seat, part 43: texts that were written one by one, laid behind one another. -/
import Derived.Sort.LotA
import Derived.Deep.MidRow
import Derived.Test.YtjcndgopijpibaaGreatPart3
import Derived.Test.YtjcndgopijpibaaGreatPart7
import Derived.Test.YtjcndgopijpibaaGreatPart8
import Derived.Test.YtjcndgopijpibaaGreatPart12
import Derived.Test.YtjcndgopijpibaaGreatPart21
/- Draw, the landed: its stable sort by insertion gives the order of drawing (mathematics). -/
namespace Go.Proofs.YtjcndgopijpibaaGreat.Drw
open Mon
open Go.Sort
open Tre (Al path)
set_option linter.unusedVariables false
section
variable {α : Type} [Inhabited α]
theorem inner_congr (lt1 lt2 : α → α → Bool) (a : Nat) : ∀ (j : Nat) (d : Array α), j < d.size → (∀ p, p < j → lt1 d[j]! d[p]! = lt2 d[j]! d[p]!) → insInner lt1 a j d = insInner lt2 a j d
  | 0, d, _, _ => rfl
  | j + 1, d, hj, h => by
    rw [insInner, insInner, h j (by omega)]
    by_cases hc : (decide (j + 1 > a) && lt2 d[j + 1]! d[j]!) = true
    · rw [if_pos hc, if_pos hc]
      have g := swp_get d hj (show j < d.size by omega)
      refine inner_congr lt1 lt2 a j (swp d (j + 1) j) (by rw [swp_size]; omega) fun p hp => ?_
      rw [g j, g p, if_pos rfl, if_neg (by omega), if_neg (by omega)]
      exact h p (by omega)
    · rw [if_neg hc, if_neg hc]
theorem inner_at (lt : α → α → Bool) (a : Nat) : ∀ (j : Nat) (d : Array α), j < d.size → (insInner lt a j d).size = d.size ∧ (∀ q, j < q → (insInner lt a j d)[q]! = d[q]!) ∧ ∀ p, p ≤ j → ∃ p', p' ≤ j ∧ (insInner lt a j d)[p]! = d[p']!
  | 0, d, _ => ⟨rfl, fun _ _ => rfl, fun p hp => ⟨p, hp, rfl⟩⟩
  | j + 1, d, hj => by
    rw [insInner]
    by_cases hc : (decide (j + 1 > a) && lt d[j + 1]! d[j]!) = true
    · rw [if_pos hc]
      have g := swp_get d hj (show j < d.size by omega)
      obtain ⟨h1, h2, h3⟩ := inner_at lt a j (swp d (j + 1) j) (by rw [swp_size]; omega)
      refine ⟨by rw [h1, swp_size], fun q hq => ?_, fun p hp => ?_⟩
      · rw [h2 q (by omega), g q, if_neg (by omega), if_neg (by omega)]
      · by_cases hpj : p ≤ j
        · obtain ⟨p', hp', e⟩ := h3 p hpj
          rw [e, g p']
          by_cases e1 : p' = j
          · rw [if_pos e1]; exact ⟨j + 1, Nat.le_refl _, rfl⟩
          · rw [if_neg e1, if_neg (by omega)]; exact ⟨p', by omega, rfl⟩
        · obtain rfl : p = j + 1 := by omega
          rw [h2 (j + 1) (by omega), g (j + 1), if_neg (by omega), if_pos rfl]
          exact ⟨j, by omega, rfl⟩
    · rw [if_neg hc]
      exact ⟨rfl, fun _ _ => rfl, fun p hp => ⟨p, hp, rfl⟩⟩
theorem out_go (lt : α → α → Bool) (a b i : Nat) (d : Array α) (h : i < b) : insOuter lt a b i d = insOuter lt a b (i + 1) (insInner lt a i d) := by
  rw [insOuter, if_pos h]
theorem out_no (lt : α → α → Bool) (a b i : Nat) (d : Array α) (h : ¬ i < b) : insOuter lt a b i d = d := by
  rw [insOuter, if_neg h]
theorem outer_congr (lt1 lt2 : α → α → Bool) (n : Nat) : ∀ (m i : Nat) (d : Array α), n - i = m → d.size = n → (∀ p q, p < q → i ≤ q → q < n → lt1 d[q]! d[p]! = lt2 d[q]! d[p]!) → insOuter lt1 0 n i d = insOuter lt2 0 n i d
  | 0, i, d, hm, _, _ => by
    rw [out_no _ _ _ _ _ (by omega), out_no _ _ _ _ _ (by omega)]
  | m + 1, i, d, hm, hs, h => by
    rw [out_go lt1 _ _ _ _ (by omega), out_go lt2 _ _ _ _ (by omega)]
    rw [inner_congr lt1 lt2 0 i d (by omega) (fun p hp => h p i hp (Nat.le_refl _) (by omega))]
    obtain ⟨h1, h2, h3⟩ := inner_at lt2 0 i d (by omega)
    refine outer_congr lt1 lt2 n m (i + 1) _ (by omega) (by rw [h1]; exact hs) fun p q hpq hiq hq => ?_
    rw [h2 q (by omega)]
    by_cases hp : p ≤ i
    · obtain ⟨p', hp', e⟩ := h3 p hp
      rw [e]
      exact h p' q (by omega) (by omega) hq
    · rw [h2 p (by omega)]
      exact h p q hpq (by omega) hq
theorem ins_congr (lt1 lt2 : α → α → Bool) (d : Array α) (h : ∀ p q, p < q → q < d.size → lt1 d[q]! d[p]! = lt2 d[q]! d[p]!) : insertionSort lt1 d 0 d.size = insertionSort lt2 d 0 d.size :=
  outer_congr lt1 lt2 d.size _ 1 d rfl rfl fun p q hpq _ hq => h p q hpq hq
theorem ins_list {lt : α → α → Bool} (hS : SWO lt) (d : Array α) : (insertionSort lt d 0 d.size).size = d.size ∧ (insertionSort lt d 0 d.size).toList.Perm d.toList ∧ (insertionSort lt d 0 d.size).toList.Pairwise fun x y => lt y x = false := by
  obtain ⟨⟨h1, -, h3⟩, h4⟩ := insertionSort_holds hS d 0 d.size (Nat.zero_le _) (Nat.le_refl _)
  refine ⟨h1, ?_, ?_⟩
  · rw [Array.extract_size] at h3
    have e : ∀ (X : Array α) (n : Nat), X.size = n → X.extract 0 n = X := by
      intro X n h
      subst h
      exact Array.extract_size
    rwa [e _ _ h1] at h3
  · rw [List.pairwise_iff_getElem]
    intro i j hi hj hij
    have hi' : i < (insertionSort lt d 0 d.size).size := by simpa using hi
    have hj' : j < (insertionSort lt d 0 d.size).size := by simpa using hj
    have := h4 i j (Nat.zero_le _) hij (by omega)
    rw [getElem!_pos _ j hj', getElem!_pos _ i hi'] at this
    simpa using this
end
def fundA (al : List Al) (i : Nat) : Int := match al[i]? with | some a => a.fund | none => 0
def cmpI (a b : Int) : Int := if a < b then -1 else if b < a then 1 else 0
def orI (a b : Int) : Int := if a ≠ 0 then a else b
def cfA (al : List Al) (i j : Nat) : Int := orI (cmpI (fundA al j) (fundA al i)) (cmpI (tillOf al i) (tillOf al j))
def befA (al : List Al) (i j : Nat) : Prop := fundA al j < fundA al i ∨ (fundA al i = fundA al j ∧ (tillOf al i < tillOf al j ∨ (tillOf al i = tillOf al j ∧ i < j)))
def pickA (al : List Al) (now : Int) (p : List Int) (i : Nat) : Bool := match al[i]? with | some a => openA a now && p.contains a.fund | none => false
def pickL (al : List Al) (now : Int) (p : List Int) (n : Nat) : List Nat := (List.range n).filter (pickA al now p)
theorem cfA_lt (al : List Al) (i j : Nat) : cfA al i j < 0 ↔ fundA al j < fundA al i ∨ (fundA al i = fundA al j ∧ tillOf al i < tillOf al j) := by
  unfold cfA orI cmpI
  by_cases h1 : fundA al j < fundA al i
  · simp [h1]
  · by_cases h2 : fundA al i < fundA al j
    · rw [if_neg h1, if_pos h2]
      simp
      omega
    · rw [if_neg h1, if_neg h2]
      simp only [ne_eq, not_true_eq_false, if_false]
      split
      · constructor
        · intro _; omega
        · intro _; omega
      · split <;> constructor <;> intro _ <;> omega
theorem befA_irrefl {al : List Al} {i : Nat} (h : befA al i i) : False := by unfold befA at h; omega
theorem befA_trans {al : List Al} {i j k : Nat} (h1 : befA al i j) (h2 : befA al j k) : befA al i k := by unfold befA at *; omega
theorem befA_tri {al : List Al} {i j : Nat} (h : ¬ befA al j i) : i = j ∨ befA al i j := by unfold befA at *; omega
theorem befA_one {al : List Al} : ∀ {a b : List Nat}, a.Pairwise (befA al) → b.Pairwise (befA al) → (∀ m, m ∈ a ↔ m ∈ b) → a = b
  | [], [], _, _, _ => rfl
  | [], y :: b, _, _, h => by have := (h y).2 (List.mem_cons_self ..); cases this
  | x :: a, [], _, _, h => by have := (h x).1 (List.mem_cons_self ..); cases this
  | x :: a, y :: b, ha, hb, h => by
    obtain ⟨a1, a2⟩ := List.pairwise_cons.1 ha
    obtain ⟨b1, b2⟩ := List.pairwise_cons.1 hb
    have e : x = y := by
      rcases List.mem_cons.1 ((h x).1 (List.mem_cons_self ..)) with e | hx
      · exact e
      · rcases List.mem_cons.1 ((h y).2 (List.mem_cons_self ..)) with e | hy
        · exact e.symm
        · exact absurd (befA_trans (a1 y hy) (b1 x hx)) befA_irrefl
    subst e
    rw [befA_one a2 b2 fun m => ?_]
    constructor
    · intro hm
      rcases List.mem_cons.1 ((h m).1 (List.mem_cons_of_mem _ hm)) with e | hm2
      · subst e; exact absurd (a1 m hm) befA_irrefl
      · exact hm2
    · intro hm
      rcases List.mem_cons.1 ((h m).2 (List.mem_cons_of_mem _ hm)) with e | hm2
      · subst e; exact absurd (b1 m hm) befA_irrefl
      · exact hm2
theorem candA_fund {al : List Al} {f now : Int} {i : Nat} (h : cand al f now i = true) : fundA al i = f ∧ ∃ a, al[i]? = some a ∧ a.fund = f ∧ openA a now = true := by
  unfold cand at h
  unfold fundA
  cases ha : al[i]? with
  | none => rw [ha] at h; cases h
  | some a =>
    rw [ha] at h
    simp at h
    exact ⟨h.1, a, rfl, h.1, h.2⟩
theorem orderA_mem {al : List Al} {now : Int} {p : List Int} {i : Nat} : i ∈ order al now p ↔ i ∈ pickL al now p al.length := by
  unfold order pickL
  rw [List.mem_flatMap, List.mem_filter, List.mem_range]
  constructor
  · rintro ⟨f, hf, hi⟩
    obtain ⟨h1, -⟩ := ((ordF_spec (al := al) (f := f) (now := now) al.length (left_le al f now none0)).1 i).1 hi
    obtain ⟨-, a, ha, hb, hc⟩ := candA_fund h1
    refine ⟨cand_lt h1, ?_⟩
    unfold pickA
    rw [ha]
    simp [hc, hb, hf]
  · rintro ⟨hl, hp⟩
    unfold pickA at hp
    rw [List.getElem?_eq_getElem hl] at hp
    simp at hp
    refine ⟨al[i].fund, hp.2, ((ordF_spec (al := al) (f := al[i].fund) (now := now) al.length (left_le al _ now none0)).1 i).2 ⟨?_, rfl⟩⟩
    unfold cand
    rw [List.getElem?_eq_getElem hl]
    simp [hp.1]
theorem order_sorted {al : List Al} {now : Int} {p : List Int} (hp : p.Pairwise fun x y => y < x) : (order al now p).Pairwise (befA al) := by
  unfold order
  rw [List.pairwise_flatMap]
  constructor
  · intro f _
    obtain ⟨h1, h2⟩ := ordF_spec (al := al) (f := f) (now := now) al.length (left_le al f now none0)
    refine List.Pairwise.imp_of_mem (fun {i j} hi hj hb => ?_) h2
    have e1 := (candA_fund ((h1 i).1 hi).1).1
    have e2 := (candA_fund ((h1 j).1 hj).1).1
    exact .inr ⟨by rw [e1, e2], hb⟩
  · refine hp.imp fun {f g} hfg i hi j hj => ?_
    have e1 := (candA_fund (((ordF_spec (al := al) (f := f) (now := now) al.length (left_le al f now none0)).1 i).1 hi).1).1
    have e2 := (candA_fund (((ordF_spec (al := al) (f := g) (now := now) al.length (left_le al g now none0)).1 j).1 hj).1).1
    exact .inl (by rw [e1, e2]; exact hfg)
theorem pathN_down (l : List Tre.Fd) : ∀ (f : Nat), (Tre.pathN l f).Pairwise fun x y => y < x := by
  intro f
  induction f using Nat.strongRecOn with
  | _ f ih =>
    cases hx : l[f]? with
    | none => rw [Tre.pathN_none (List.getElem?_eq_none_iff.1 hx)]; exact List.Pairwise.nil
    | some x =>
      rw [Tre.pathN_some hx]
      by_cases hp : 0 ≤ x.par ∧ x.par < (f : Int)
      · rw [if_pos hp]
        refine List.Pairwise.cons (fun k hk => ?_) (ih _ (by omega))
        have := (Tre.pathN_lt l _ k hk).1
        omega
      · rw [if_neg hp]
        exact List.Pairwise.cons (fun k hk => by cases hk) List.Pairwise.nil
theorem path_down (l : List Tre.Fd) (f : Int) : (path l f).Pairwise fun x y => y < x := by
  unfold path
  split
  · rw [List.pairwise_map]
    exact (pathN_down l _).imp fun h => by omega
  · exact List.Pairwise.nil
theorem pick_asc (al : List Al) (now : Int) (p : List Int) (n : Nat) : (pickL al now p n).Pairwise (· < ·) := List.Pairwise.filter _ List.pairwise_lt_range
theorem pick_succ (al : List Al) (now : Int) (p : List Int) (n : Nat) : pickL al now p (n + 1) = pickL al now p n ++ (if pickA al now p n = true then [n] else []) := by
  unfold pickL
  rw [List.range_succ, List.filter_append]
  congr 1
  by_cases h : pickA al now p n = true
  · simp [h]
  · simp [h]
theorem pick_lt {al : List Al} {now : Int} {p : List Int} {n i : Nat} (h : i ∈ pickL al now p n) : i < n := by
  unfold pickL at h
  exact List.mem_range.1 (List.mem_filter.1 h).1
theorem pick_len (al : List Al) (now : Int) (p : List Int) (n : Nat) : (pickL al now p n).length ≤ n := by
  unfold pickL
  have := List.length_filter_le (pickA al now p) (List.range n)
  rwa [List.length_range] at this
theorem sort_order {α : Type} [Inhabited α] (v : α → Nat) (hv : ∀ x y, v x = v y → x = y) {al : List Al} {now : Int} {p : List Int} (hp : p.Pairwise fun x y => y < x) (lt : α → α → Bool) (hlt : ∀ x y, lt x y = decide (cfA al (v x) (v y) < 0)) (d : Array α) (hd : d.toList.map v = pickL al now p al.length) :
    (insertionSort lt d 0 d.size).size = d.size ∧ (insertionSort lt d 0 d.size).toList.map v = order al now p := by
  open Classical in
  have hS : SWO (fun x y : α => decide (befA al (v x) (v y))) := by
    refine ⟨fun x => ?_, fun x y z h1 h2 => ?_, fun x y z h1 h2 => ?_⟩
    · exact decide_eq_false fun h => befA_irrefl h
    · exact decide_eq_true (befA_trans (of_decide_eq_true h1) (of_decide_eq_true h2))
    · have h1' := of_decide_eq_false h1
      have h2' := of_decide_eq_false h2
      refine decide_eq_false fun h => ?_
      rcases befA_tri h1' with e | e
      · exact h2' (e ▸ h)
      · exact h2' (befA_trans e h)
  have hasc : ∀ i j, i < j → j < d.size → v d[i]! < v d[j]! := by
    intro i j hij hj
    have h := pick_asc al now p al.length
    rw [← hd, List.pairwise_map] at h
    have := List.pairwise_iff_getElem.1 h i j (by simpa using (by omega : i < d.size)) (by simpa using hj) hij
    rw [getElem!_pos d i (by omega), getElem!_pos d j hj]
    simpa using this
  open Classical in
  have he := ins_congr lt (fun x y : α => decide (befA al (v x) (v y))) d fun i j hij hj => by
    rw [hlt, decide_eq_decide, cfA_lt]
    have := hasc i j hij hj
    unfold befA
    constructor
    · rintro (h | ⟨h1, h2⟩)
      · exact .inl h
      · exact .inr ⟨h1, .inl h2⟩
    · rintro (h | ⟨h1, h2 | ⟨h2, h3⟩⟩)
      · exact .inl h
      · exact .inr ⟨h1, h2⟩
      · omega
  obtain ⟨g1, g2, g3⟩ := ins_list hS d
  rw [he]
  refine ⟨g1, befA_one ?_ (order_sorted hp) fun m => ?_⟩
  · rw [List.pairwise_map]
    have hnd : ((insertionSort (fun x y : α => decide (befA al (v x) (v y))) d 0 d.size).toList.map v).Nodup := by
      refine (List.Perm.nodup_iff (g2.map v)).2 ?_
      rw [hd]
      exact (pick_asc al now p al.length).imp fun h => Nat.ne_of_lt h
    unfold List.Nodup at hnd
    rw [List.pairwise_map] at hnd
    refine List.Pairwise.imp₂ (fun x y h1 h2 => ?_) g3 hnd
    rcases befA_tri (of_decide_eq_false h1) with e | e
    · exact absurd e h2
    · exact e
  · rw [orderA_mem, ← hd]
    exact (g2.map v).mem_iff
end Go.Proofs.YtjcndgopijpibaaGreat.Drw
/- Draw, the landed: how it compares two allocations. -/
namespace Go.Proofs.YtjcndgopijpibaaGreat.Drw
set_option maxRecDepth 100000
open Go.RowKit
open Go.Sort
open Kit
open Mon
open Foot
open Tre (Al encL encL_len encL_one Allocs Lst inI lst_keep lst_take lst_at lst_new lst_none below_drewN' encI encI_len encI_one OwI own_chg' info_i alloc_cells6 run_ld2)
set_option linter.unusedVariables false
variable {w w' : World}
theorem isnan_any (W : World) (x : Int) : Calls Tryz.prog 163 #[.int .i64 x] W fun e w' => e = .returned (.bool false) ∧ W = w' := by
  go_enter Tryz.func163, Tryz.ntmps163
  go_wp2
  go_ret
  exact ⟨by simp, rfl⟩
theorem compare_any (x y : Int) (W : World) : Calls Tryz.prog 157 #[.int .i64 x, .int .i64 y] W fun e w' => e = .returned (.int .i64 (cmpI x y)) ∧ W = w' := by
  by_cases h1 : x < y
  · have HC := Lib.hid (show cmpI x y = -1 by unfold cmpI; rw [if_pos h1])
    go_enter Tryz.func157, Tryz.ntmps157
    go_wp2_with fail
    refine (isnan_any W x).mono ?_
    rintro e w1 ⟨rfl, rfl⟩
    go_wp2_with fail
    refine (isnan_any W y).mono ?_
    rintro e w1 ⟨rfl, rfl⟩
    go_wp2_with fail
    go_ret
    exact ⟨by rw [HC.out]; rfl, rfl⟩
  · by_cases h2 : y < x
    · have HC := Lib.hid (show cmpI x y = 1 by unfold cmpI; rw [if_neg h1, if_pos h2])
      go_enter Tryz.func157, Tryz.ntmps157
      go_wp2_with fail
      refine (isnan_any W x).mono ?_
      rintro e w1 ⟨rfl, rfl⟩
      go_wp2_with fail
      refine (isnan_any W y).mono ?_
      rintro e w1 ⟨rfl, rfl⟩
      go_wp2_with fail
      go_ret
      exact ⟨by rw [HC.out]; rfl, rfl⟩
    · have HC := Lib.hid (show cmpI x y = 0 by unfold cmpI; rw [if_neg h1, if_neg h2])
      go_enter Tryz.func157, Tryz.ntmps157
      go_wp2_with fail
      refine (isnan_any W x).mono ?_
      rintro e w1 ⟨rfl, rfl⟩
      go_wp2_with fail
      refine (isnan_any W y).mono ?_
      rintro e w1 ⟨rfl, rfl⟩
      go_wp2_with fail
      go_ret
      exact ⟨by rw [HC.out]; rfl, rfl⟩
theorem or_any (x y : Int) (B : Nat) (W : World) (hr : Kit.Row encI 1 W (some ⟨B, 0, none⟩) [x, y]) : Calls Tryz.prog 156 #[.slice (some ⟨B, 0, none⟩) 2 2] W fun e w' => e = .returned (.int .i64 (orI x y)) ∧ W = w' := by
  have q0 : W.cell? ⟨B, 0, none⟩ = some (.int .i64 x) := row_cell hr (j := 0) (by simp) rfl (i := 0) (by omega)
  have q1 : W.cell? ⟨B, 1, none⟩ = some (.int .i64 y) := row_cell hr (j := 1) (by simp) rfl (i := 0) (by omega)
  clear hr
  go_enter Tryz.func156, Tryz.ntmps156
  go_wp2_with fail
  go_loop [5, 8] (fun _ i => ∃ k : Nat, k ≤ 2 ∧ i = .int .i64 (k : Nat) ∧ Hid (0 < k → x = 0) ∧ Hid (1 < k → y = 0)) (fun _ i => 2 - (intOf i).toNat)
  case atStart => exact ⟨0, by omega, rfl, Lib.hid (by omega), Lib.hid (by omega)⟩
  case round =>
    obtain ⟨k, hk, rfl, hx, hy⟩ := hrel
    by_cases hk0 : k = 0
    · subst hk0
      clear hx hy
      by_cases h0 : x = 0
      · subst h0
        go_wp2_with fail
        go_round
        case rel => exact ⟨1, by omega, rfl, Lib.hid (by simp), Lib.hid (by omega)⟩
        case measure => simp [intOf]
      · have HE := Lib.hid (show orI x y = x by unfold orI; rw [if_pos h0])
        go_wp2_with fail
        go_ret
        exact ⟨by rw [HE.out]; rfl, rfl⟩
    · have h0 := hx.out (by omega)
      subst h0
      by_cases hk1 : k = 1
      · subst hk1
        clear hx hy
        by_cases h1 : y = 0
        · subst h1
          go_wp2_with fail
          go_round
          case rel => exact ⟨2, by omega, rfl, Lib.hid (by simp), Lib.hid (by simp)⟩
          case measure => simp [intOf]
        · have HE := Lib.hid (show orI 0 y = y by unfold orI; rw [if_neg (by simp)])
          go_wp2_with fail
          go_ret
          exact ⟨by rw [HE.out]; rfl, rfl⟩
      · obtain rfl : k = 2 := by omega
        have h1 := hy.out (by omega)
        subst h1
        have HE := Lib.hid (show orI 0 0 = 0 by decide)
        go_wp2_with fail
        go_ret
        exact ⟨by rw [HE.out]; rfl, rfl⟩
def zero6 : List Value := [.int .i64 0, .int .i64 0, .int .i64 0, .int .i64 0, .int .i64 0, .int .i64 0]
theorem info_al6 : (Tryz.prog.info? 65).map (·.size) = some 6 := by kernel_rfl
theorem run_alloc_al (w : World) : (Instr.alloc 65 true (.tuple #[])).run Tryz.prog w = .ok (.pointer (some ⟨w.heap.size, 0, none⟩)) (w.alloc (.cells zero6.toArray 65)) := by
  simp [go_sem]
  rfl
theorem one6 (x : Al) : (encL x).toArray.all (·.oneCell') = true := by
  rw [List.all_toArray, List.all_eq_true]
  exact encL_one x
theorem run_ia6 {b o n c k : Nat} (h : k < n) (w : World) : (Instr.indexAt 24 (.slice (some ⟨b, o, none⟩) n c) (.int .i64 (k : Nat))).run Tryz.prog w = .ok (.pointer (some ⟨b, o + k * 6, none⟩)) w := by
  simp [go_sem, h]
theorem run_ldA {w : World} {a : Addr} {b : Option Addr} {n c : Nat} (h : w.cell? a = some (.slice b n c)) : (Instr.loadAt 24 (.pointer (some a))).run Tryz.prog w = .ok (.slice b n c) w := by
  simp [go_sem, h]
theorem al_range {b o n c k : Nat} {l : List Al} {x : Al} (h : Allocs w (some ⟨b, o, none⟩) n c l) (hx : l[k]? = some x) : w.rangeAt b (o + k * 6) (encL x) := by
  obtain ⟨hk, e⟩ := List.getElem?_eq_some_iff.1 hx
  intro i v hv
  have hi : i < 6 := (List.getElem?_eq_some_iff.1 hv).1
  rw [row_cell h.row hk e hi]
  exact hv
theorem range_keep {b o : Nat} {cs : List Value} (hb : Below w.heap.size w w') (h : w.rangeAt b o cs) : w'.rangeAt b o cs := fun i v hv => cell_keep hb (h i v hv)
theorem wp_two {P : Program} {o : Oper} {a : Act} {K : Act → World → Prop} {Q : Exit → Act → World → Prop} (t : TypeId) (x y : Operand) (ho : o.op = .buildSlice t 2 #[(0, x), (1, y)]) {vx vy u : Value} {w' : World} (hx : a.eval x = vx) (hy : a.eval y = vy) (hr : (Instr.buildSlice t 2 #[(0, vx), (1, vy)]).run P w = .ok u w') (h : K (a.put o.dst u) w') : o.wp P a w K Q :=
  Chn.wp_bs t 2 _ ho (by subst hx hy; simpa using hr) h
theorem run_two (x y : Int) (w : World) : (Instr.buildSlice 31 2 #[(0, .int .i64 x), (1, .int .i64 y)]).run Tryz.prog w = .ok (.slice (some ⟨w.heap.size, 0, none⟩) 2 2) (w.alloc (.cells #[.int .i64 x, .int .i64 y] 3)) := by
  simp [go_sem]
theorem row_two (w : World) (x y : Int) : Kit.Row encI 1 (w.alloc (.cells #[.int .i64 x, .int .i64 y] 3)) (some ⟨w.heap.size, 0, none⟩) [x, y] := row_new encI_len w [x, y] _ _ _ rfl rfl
def kTwo (x y : Int) : Rel.Kd Rel.Gr := ⟨fun w u => ∃ B, u = .slice (some ⟨B, 0, none⟩) 2 2 ∧ Kit.Row encI 1 w (some ⟨B, 0, none⟩) [x, y], fun _ _ _ h ⟨B, e, hr⟩ => ⟨B, e, row_keep encI_len hr h⟩⟩
set_option maxHeartbeats 8000000 in
theorem clos_any (W : World) (bx b o n cc k1 k2 : Nat) (al : List Al) (hX : W.cell? ⟨bx, 0, none⟩ = some (.slice (some ⟨b, o, none⟩) n cc)) (hL : Allocs W (some ⟨b, o, none⟩) n cc al) (h1 : k1 < n) (h2 : k2 < n) :
    Calls Tryz.prog 155 #[.int .i64 (k1 : Nat), .int .i64 (k2 : Nat), .pointer (some ⟨bx, 0, none⟩)] W fun e w' => e = .returned (.int .i64 (cfA al k1 k2)) ∧ Below W.heap.size W w' ∧ W.drawn ≤ w'.drawn := by
  obtain ⟨x, hx⟩ : ∃ x, al[k1]? = some x := ⟨_, List.getElem?_eq_getElem (by rw [hL.len]; exact h1)⟩
  obtain ⟨y, hy⟩ : ∃ y, al[k2]? = some y := ⟨_, List.getElem?_eq_getElem (by rw [hL.len]; exact h2)⟩
  have HCf := Lib.hid (show cfA al k1 k2 = orI (cmpI y.fund x.fund) (cmpI x.till y.till) by unfold cfA fundA tillOf; rw [hx, hy])
  have HR := Lib.hid (And.intro (al_range hL hx) (al_range hL hy))
  have HK := Lib.hid (And.intro h1 h2)
  have HX := Lib.hid hX
  have hm1 : k1 ≤ 9223372036854775807 := by have := hL.cap; have := hL.max; unfold maxLen at this; omega
  have hm2 : k2 ≤ 9223372036854775807 := by have := hL.cap; have := hL.max; unfold maxLen at this; omega
  clear hL hx hy h1 h2 hX
  go_enter Tryz.func155, Tryz.ntmps155
  go_wp2_with fail
  refine Rel.wp_region_seen (G := Rel.Gt) (Rel.tab [.is (.slice (some ⟨b, o, none⟩) n cc), .is (.int .i64 (k1 : Nat)), .is (.pointer (some ⟨b, o + k1 * 6, none⟩)), .is (.agg (encL x).toArray), .is (.slice (some ⟨b, o, none⟩) n cc), .is (.int .i64 (k2 : Nat)), .is (.pointer (some ⟨b, o + k2 * 6, none⟩)), .is (.agg (encL y).toArray), Rel.Kd.any, Rel.Kd.any, Rel.Kd.any, Rel.Kd.any]) (fun L f w => BoxTwo.J ⟨8, 9, 10, 11, 6, 7⟩ W 65 zero6 (encL x) (encL y) L f w ∧ W.drawn ≤ w.drawn) (by kernel_rfl) (by kernel_rfl) (by kernel_rfl) (by kernel_rfl) (fun w => trivial) (⟨BoxTwo.start _ _, Nat.le_succ _⟩) ?_ ?_
  · refine ⟨?_, ?_, ?_, ?_, ?_, ?_, ?_, ?_, ?_, ?_, ?_, ?_, trivial⟩
    · intro L a w c j
      refine .inl ⟨Rel.wanted_free (by kernel_rfl) _, ?_⟩
      exact Rel.wp_ld _ _ rfl (c.old 2 (v := .pointer (some ⟨bx, 0, none⟩)) (by kernel_rfl) (by kernel_rfl)) (run_ldA (cell_keep j.1.1 HX.out)) ⟨_, rfl, trivial, rfl, ⟨BoxTwo.go (k := 0) (d := 8) j.1 (by decide) (by decide) (by decide) (by decide) (by decide) (by decide), j.2⟩⟩
    · intro L a w c j
      refine .inl ⟨Rel.wanted_free (by kernel_rfl) _, ?_⟩
      exact Rel.wp_mv _ rfl ⟨_, rfl, trivial, (c.old 0 (v := .int .i64 (k1 : Nat)) (by kernel_rfl) (by kernel_rfl)), ⟨BoxTwo.go (k := 1) (d := 9) j.1 (by decide) (by decide) (by decide) (by decide) (by decide) (by decide), j.2⟩⟩
    · intro L a w c j
      refine .inl ⟨Rel.wanted_free (by kernel_rfl) _, ?_⟩
      exact Rel.wp_ia _ _ _ rfl (c.get 0 8 (by kernel_rfl)) (c.get 1 9 (by kernel_rfl)) (run_ia6 HK.out.1 w) ⟨_, rfl, trivial, rfl, ⟨BoxTwo.go (k := 2) (d := 10) j.1 (by decide) (by decide) (by decide) (by decide) (by decide) (by decide), j.2⟩⟩
    · intro L a w c j
      refine .inl ⟨Rel.wanted_free (by kernel_rfl) _, ?_⟩
      exact wp_load_mid 65 (.tmp 10) rfl b (o + k1 * 6) (Rel.eval_tmp (c.get 2 10 (by kernel_rfl))) (encL x) _ (range_keep j.1.1 HR.out.1) Tryz.underlying65 rfl info_al6 ⟨_, rfl, trivial, rfl, ⟨BoxTwo.go (k := 3) (d := 11) j.1 (by decide) (by decide) (by decide) (by decide) (by decide) (by decide), j.2⟩⟩
    · intro L a w c j
      refine .inl ⟨Rel.wanted_free (by kernel_rfl) _, ?_⟩
      exact Rel.wp_ld _ _ rfl (c.old 2 (v := .pointer (some ⟨bx, 0, none⟩)) (by kernel_rfl) (by kernel_rfl)) (run_ldA (cell_keep j.1.1 HX.out)) ⟨_, rfl, trivial, rfl, ⟨BoxTwo.go (k := 4) (d := 12) j.1 (by decide) (by decide) (by decide) (by decide) (by decide) (by decide), j.2⟩⟩
    · intro L a w c j
      refine .inl ⟨Rel.wanted_free (by kernel_rfl) _, ?_⟩
      exact Rel.wp_mv _ rfl ⟨_, rfl, trivial, (c.old 1 (v := .int .i64 (k2 : Nat)) (by kernel_rfl) (by kernel_rfl)), ⟨BoxTwo.go (k := 5) (d := 13) j.1 (by decide) (by decide) (by decide) (by decide) (by decide) (by decide), j.2⟩⟩
    · intro L a w c j
      refine .inl ⟨Rel.wanted_free (by kernel_rfl) _, ?_⟩
      exact Rel.wp_ia _ _ _ rfl (c.get 4 12 (by kernel_rfl)) (c.get 5 13 (by kernel_rfl)) (run_ia6 HK.out.2 w) ⟨_, rfl, trivial, rfl, ⟨BoxTwo.go (k := 6) (d := 14) j.1 (by decide) (by decide) (by decide) (by decide) (by decide) (by decide), j.2⟩⟩
    · intro L a w c j
      refine .inl ⟨Rel.wanted_free (by kernel_rfl) _, ?_⟩
      exact wp_load_mid 65 (.tmp 14) rfl b (o + k2 * 6) (Rel.eval_tmp (c.get 6 14 (by kernel_rfl))) (encL y) _ (range_keep j.1.1 HR.out.2) Tryz.underlying65 rfl info_al6 ⟨_, rfl, trivial, rfl, ⟨BoxTwo.go (k := 7) (d := 15) j.1 (by decide) (by decide) (by decide) (by decide) (by decide) (by decide), j.2⟩⟩
    · intro L a w c j
      refine .inl ⟨Rel.wanted_free (by kernel_rfl) _, ?_⟩
      exact Rel.wp_al _ rfl (run_alloc_al w) ⟨_, rfl, trivial, trivial, ⟨BoxTwo.mk1 j.1 (by decide) (by decide) (by decide) (by decide) (by rw [c.room]; exact of_decide_eq_true (by kernel_rfl)) (c.later 10 (by kernel_rfl)), j.2⟩⟩
    · intro L a w c j
      refine .inl ⟨Rel.wanted_free (by kernel_rfl) _, ?_⟩
      exact Rel.wp_al _ rfl (run_alloc_al w) ⟨_, rfl, trivial, trivial, ⟨BoxTwo.mk2 j.1 (by decide) (by decide) (by decide) (by decide) (by rw [c.room]; exact of_decide_eq_true (by kernel_rfl)) (c.later 11 (by kernel_rfl)), j.2⟩⟩
    · intro L a w c j
      refine .inl ⟨Rel.wanted_free (by kernel_rfl) _, ?_⟩
      obtain ⟨B, hB, hblk, hj⟩ := BoxTwo.st1 j.1 (by decide) (by decide) (by decide) (c.came 8 (by kernel_rfl)) (Rel.free_no c.free) c.size (of_decide_eq_true (by kernel_rfl))
      exact wp_store_row 65 (.tmp 6) (.tmp 11) rfl B (encL x).toArray (Rel.eval_tmp hB) (Rel.eval_tmp (c.get 3 11 (by kernel_rfl))) 65 zero6.toArray hblk info_al6 rfl (one6 _) ⟨_, rfl, trivial, trivial, hj, j.2⟩
    · intro L a w c j
      refine .inl ⟨Rel.wanted_free (by kernel_rfl) _, ?_⟩
      obtain ⟨B, hB, hblk, hj⟩ := BoxTwo.st2 j.1 (by decide) (by decide) (by decide) (c.came 9 (by kernel_rfl)) (Rel.free_no c.free) c.size (of_decide_eq_true (by kernel_rfl))
      exact wp_store_row 65 (.tmp 7) (.tmp 15) rfl B (encL y).toArray (Rel.eval_tmp hB) (Rel.eval_tmp (c.get 7 15 (by kernel_rfl))) 65 zero6.toArray hblk info_al6 rfl (one6 _) ⟨_, rfl, trivial, trivial, hj, j.2⟩
  intro a w9 hbase hroom hdef hJ hV
  obtain ⟨hJ, hdr⟩ := hJ
  obtain ⟨B1, B2, e1, e2, hne, hb1, hb2, hbw⟩ := BoxTwo.fin hJ (by decide) (by decide) (by decide) (by decide)
  clear hJ
  change Rel.slot a 6 = _ at e1
  change Rel.slot a 7 = _ at e2
  have k6 : (Rel.Kd.any : Rel.Kd (Rel.Gt)).p w9 (Rel.slot a 6) := hV 8 _ _ rfl rfl
  have k7 : (Rel.Kd.any : Rel.Kd (Rel.Gt)).p w9 (Rel.slot a 7) := hV 9 _ _ rfl rfl
  rw [Chn.act_puts [8, 9, 10, 11, 12, 13, 14, 15, 6, 7] hbase hroom hdef (by kernel_rfl)]
  clear hbase hroom hdef hV
  simp only [List.foldl_cons, List.foldl_nil]
  generalize Rel.slot a 8 = u8 at *
  generalize Rel.slot a 9 = u9 at *
  generalize Rel.slot a 10 = u10 at *
  generalize Rel.slot a 11 = u11 at *
  generalize Rel.slot a 12 = u12 at *
  generalize Rel.slot a 13 = u13 at *
  generalize Rel.slot a 14 = u14 at *
  generalize Rel.slot a 15 = u15 at *
  generalize Rel.slot a 6 = u6 at *
  generalize Rel.slot a 7 = u7 at *
  simp only [Act.put, List.setIfInBounds_toArray, List.set_cons_succ, List.set_cons_zero]
  rw [e1, e2]
  clear k6 k7 e1 e2
  have HBw := Lib.hid (And.intro hbw hdr)
  obtain ⟨xf, hxf⟩ : ∃ v, v = x.fund := ⟨_, rfl⟩
  obtain ⟨yf, hyf⟩ : ∃ v, v = y.fund := ⟨_, rfl⟩
  obtain ⟨xt, hxt⟩ : ∃ v, v = x.till := ⟨_, rfl⟩
  obtain ⟨yt, hyt⟩ : ∃ v, v = y.till := ⟨_, rfl⟩
  rw [← hxf, ← hyf, ← hxt, ← hyt] at HCf
  have HC := Lib.hid (show w9.cell? ⟨B2, 0, none⟩ = some (.int .i64 yf) ∧ w9.cell? ⟨B1, 0, none⟩ = some (.int .i64 xf) ∧ w9.cell? ⟨B1, 2, none⟩ = some (.int .i64 xt) ∧ w9.cell? ⟨B2, 2, none⟩ = some (.int .i64 yt) by
    rw [hxf, hyf, hxt, hyt]
    exact ⟨Arr.blk_cell hb2 0, Arr.blk_cell hb1 0, Arr.blk_cell hb1 2, Arr.blk_cell hb2 2⟩)
  clear hxf hyf hxt hyt hbw hb1 hb2 hne hdr
  go_wp2_with fail
  refine Rel.wp_region_rel (G := Rel.Gr) (Rel.tab [.is (.pointer (some ⟨B2, 0, none⟩)), .is (.int .i64 yf), .is (.pointer (some ⟨B1, 0, none⟩)), .is (.int .i64 xf), .is (.int .i64 (cmpI yf xf)), .is (.pointer (some ⟨B1, 2, none⟩)), .is (.int .i64 xt), .is (.pointer (some ⟨B2, 2, none⟩)), .is (.int .i64 yt), .is (.int .i64 (cmpI xt yt)), kTwo (cmpI yf xf) (cmpI xt yt), .is (.int .i64 (orI (cmpI yf xf) (cmpI xt yt))), .is (.int .i64 (orI (cmpI yf xf) (cmpI xt yt)))]) (fun _ w => Below w9.heap.size w9 w ∧ w9.drawn ≤ w.drawn) (by kernel_rfl) (by kernel_rfl) (by kernel_rfl) (by kernel_rfl) (fun w => Rel.gr_refl _) (⟨below_drew _, Nat.le_succ _⟩) ?_ ?_
  · refine ⟨?_, ?_, ?_, ?_, ?_, ?_, ?_, ?_, ?_, ?_, ?_, ?_, ?_, trivial⟩
    · intro L a w c
      refine .inl ⟨Rel.wanted_free (by kernel_rfl) _, ?_⟩
      exact Chn.wp_fa _ _ _ rfl (c.old 7 (v := .pointer (some ⟨B2, 0, none⟩)) (by kernel_rfl) (by kernel_rfl)) (by simp [go_sem]) ⟨_, rfl, Rel.gr_refl _, rfl, c.inv⟩
    · intro L a w c
      refine .inl ⟨Rel.wanted_free (by kernel_rfl) _, ?_⟩
      exact Rel.wp_ld _ _ rfl (c.get 0 16 (by kernel_rfl)) (run_ld2 (cell_keep c.inv.1 HC.out.1)) ⟨_, rfl, Rel.gr_refl _, rfl, c.inv⟩
    · intro L a w c
      refine .inl ⟨Rel.wanted_free (by kernel_rfl) _, ?_⟩
      exact Chn.wp_fa _ _ _ rfl (c.old 6 (v := .pointer (some ⟨B1, 0, none⟩)) (by kernel_rfl) (by kernel_rfl)) (by simp [go_sem]) ⟨_, rfl, Rel.gr_refl _, rfl, c.inv⟩
    · intro L a w c
      refine .inl ⟨Rel.wanted_free (by kernel_rfl) _, ?_⟩
      exact Rel.wp_ld _ _ rfl (c.get 2 18 (by kernel_rfl)) (run_ld2 (cell_keep c.inv.1 HC.out.2.1)) ⟨_, rfl, Rel.gr_refl _, rfl, c.inv⟩
    · intro L a w c
      refine .inl ⟨Rel.wanted_free (by kernel_rfl) _, ?_⟩
      refine Rel.wp_cl _ _ _ rfl Tryz.func157 (by kernel_rfl) ?_
      show Calls _ _ #[Rel.slot a 17, Rel.slot a 19] w _
      rw [show Rel.slot a 17 = .int .i64 yf from (c.get 1 17 (by kernel_rfl)), show Rel.slot a 19 = .int .i64 xf from (c.get 3 19 (by kernel_rfl))]
      refine (compare_any yf xf w).mono ?_
      rintro e w' ⟨rfl, rfl⟩
      exact ⟨_, rfl, _, rfl, Rel.gr_refl _, rfl, c.inv⟩
    · intro L a w c
      refine .inl ⟨Rel.wanted_free (by kernel_rfl) _, ?_⟩
      exact Chn.wp_fa _ _ _ rfl (c.old 6 (v := .pointer (some ⟨B1, 0, none⟩)) (by kernel_rfl) (by kernel_rfl)) (by simp [go_sem]) ⟨_, rfl, Rel.gr_refl _, rfl, c.inv⟩
    · intro L a w c
      refine .inl ⟨Rel.wanted_free (by kernel_rfl) _, ?_⟩
      exact Rel.wp_ld _ _ rfl (c.get 5 21 (by kernel_rfl)) (run_ld2 (cell_keep c.inv.1 HC.out.2.2.1)) ⟨_, rfl, Rel.gr_refl _, rfl, c.inv⟩
    · intro L a w c
      refine .inl ⟨Rel.wanted_free (by kernel_rfl) _, ?_⟩
      exact Chn.wp_fa _ _ _ rfl (c.old 7 (v := .pointer (some ⟨B2, 0, none⟩)) (by kernel_rfl) (by kernel_rfl)) (by simp [go_sem]) ⟨_, rfl, Rel.gr_refl _, rfl, c.inv⟩
    · intro L a w c
      refine .inl ⟨Rel.wanted_free (by kernel_rfl) _, ?_⟩
      exact Rel.wp_ld _ _ rfl (c.get 7 23 (by kernel_rfl)) (run_ld2 (cell_keep c.inv.1 HC.out.2.2.2)) ⟨_, rfl, Rel.gr_refl _, rfl, c.inv⟩
    · intro L a w c
      refine .inl ⟨Rel.wanted_free (by kernel_rfl) _, ?_⟩
      refine Rel.wp_cl _ _ _ rfl Tryz.func157 (by kernel_rfl) ?_
      show Calls _ _ #[Rel.slot a 22, Rel.slot a 24] w _
      rw [show Rel.slot a 22 = .int .i64 xt from (c.get 6 22 (by kernel_rfl)), show Rel.slot a 24 = .int .i64 yt from (c.get 8 24 (by kernel_rfl))]
      refine (compare_any xt yt w).mono ?_
      rintro e w' ⟨rfl, rfl⟩
      exact ⟨_, rfl, _, rfl, Rel.gr_refl _, rfl, c.inv⟩
    · intro L a w c
      refine .inl ⟨Rel.wanted_free (by kernel_rfl) _, ?_⟩
      exact wp_two _ _ _ rfl (c.get 4 20 (by kernel_rfl)) (c.get 9 25 (by kernel_rfl)) (run_two _ _ w) ⟨_, rfl, below_alloc _ _, ⟨_, rfl, row_two w _ _⟩, ⟨below_keep c.inv.1 (below_alloc _ _), c.inv.2⟩⟩
    · intro L a w c
      refine .inl ⟨Rel.wanted_free (by kernel_rfl) _, ?_⟩
      obtain ⟨B, e', hr⟩ := c.get 10 26 (by kernel_rfl)
      refine Rel.wp_cl _ _ _ rfl Tryz.func156 (by kernel_rfl) ?_
      show Calls _ _ #[Rel.slot a 26] w _
      rw [show Rel.slot a 26 = _ from e']
      refine (or_any _ _ B w hr).mono ?_
      rintro e w' ⟨rfl, rfl⟩
      exact ⟨_, rfl, _, rfl, Rel.gr_refl _, rfl, c.inv⟩
    · intro L a w c
      refine .inl ⟨Rel.wanted_free (by kernel_rfl) _, ?_⟩
      exact Rel.wp_as _ rfl ⟨_, rfl, Rel.gr_refl _, (c.get 11 27 (by kernel_rfl)), c.inv⟩
  intro a w8 hbase hroom hdef hJ hV
  have s5 : Rel.slot a 5 = .int .i64 (orI (cmpI yf xf) (cmpI xt yt)) := hV 12 _ _ rfl rfl
  rw [Chn.act_puts [16, 17, 18, 19, 20, 21, 22, 23, 24, 25, 26, 27, 5] hbase hroom hdef (by kernel_rfl)]
  clear hbase hroom hdef hV
  simp only [List.foldl_cons, List.foldl_nil]
  generalize Rel.slot a 16 = u16 at *
  generalize Rel.slot a 17 = u17 at *
  generalize Rel.slot a 18 = u18 at *
  generalize Rel.slot a 19 = u19 at *
  generalize Rel.slot a 20 = u20 at *
  generalize Rel.slot a 21 = u21 at *
  generalize Rel.slot a 22 = u22 at *
  generalize Rel.slot a 23 = u23 at *
  generalize Rel.slot a 24 = u24 at *
  generalize Rel.slot a 25 = u25 at *
  generalize Rel.slot a 26 = u26 at *
  generalize Rel.slot a 27 = u27 at *
  rw [s5]
  clear s5
  simp only [Act.put, List.setIfInBounds_toArray, List.set_cons_succ, List.set_cons_zero]
  have HB := Lib.hid (show Below W.heap.size W w8 ∧ W.drawn ≤ w8.drawn from ⟨below_keep HBw.out.1 hJ.1, Nat.le_trans HBw.out.2 hJ.2⟩)
  clear hJ
  go_wp2_with fail
  go_ret
  exact ⟨by rw [HCf.out]; rfl, HB.out⟩
end Go.Proofs.YtjcndgopijpibaaGreat.Drw
