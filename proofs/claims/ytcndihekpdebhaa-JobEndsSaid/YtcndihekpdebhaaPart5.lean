/- Common to the claims of this seat, part 5: texts that were written one by one, laid behind one another. -/
import Derived.Sort.LotA
import Derived.Test.YtcndihekpdebhaaPart1
/- A stable sort by merging in place (mathematics): exchanged and rotated parts, what a merge asks and gives. -/
namespace Go.Proofs.Ytcndihekpdebhaa.Stb
open Go.Sort
set_option linter.unusedVariables false
variable {α : Type} [Inhabited α]

/-- Where what lies at k came from: n elements from a on exchanged with those from b on. -/
def six (a b n k : Nat) : Nat := if a ≤ k ∧ k < a + n then b + (k - a) else if b ≤ k ∧ k < b + n then a + (k - b) else k
/-- .. [a, m) and [m, b) turned about. -/
def rix (a m b k : Nat) : Nat := if a ≤ k ∧ k < a + (b - m) then m + (k - a) else if a + (b - m) ≤ k ∧ k < b then a + (k - (a + (b - m))) else k
theorem at_eq (d : Array α) {i j : Nat} (h : i = j) : d[i]! = d[j]! := by rw [h]
theorem six_none (a b k : Nat) : six a b 0 k = k := by unfold six; repeat' split
                                                       all_goals omega
theorem rix_left (a m k : Nat) (h : a ≤ m) : rix a m m k = k := by unfold rix; repeat' split
                                                                   all_goals omega
theorem rix_right (m b k : Nat) (h : m ≤ b) : rix m m b k = k := by unfold rix; repeat' split
                                                                    all_goals omega
theorem six_step {d dk : Array α} {a b n k : Nat} (hs : dk.size = d.size) (hab : a + n ≤ b) (hb : b + n ≤ d.size) (hk : k < n) (h : ∀ x, dk[x]! = d[six a b k x]!) (x : Nat) : (swp dk (a + k) (b + k))[x]! = d[six a b (k + 1) x]! := by
  rw [swp_get dk (by omega) (by omega)]
  by_cases h1 : x = b + k
  · rw [if_pos h1, h]
    refine at_eq d ?_
    unfold six
    repeat' split
    all_goals omega
  · rw [if_neg h1]
    by_cases h2 : x = a + k
    · rw [if_pos h2, h]
      refine at_eq d ?_
      unfold six
      repeat' split
      all_goals omega
    · rw [if_neg h2, h]
      refine at_eq d ?_
      unfold six
      repeat' split
      all_goals omega
theorem rot_gt {i j m k : Nat} (him : i ≤ m) (hij : j < i) (hj : 0 < j) : six (m - i) m j (rix (m - (i - j)) m (m + j) k) = rix (m - i) m (m + j) k := by
  unfold six rix
  repeat' split
  all_goals omega
theorem rot_lt {i j m k : Nat} (him : i ≤ m) (hij : i < j) (hi : 0 < i) : six (m - i) (m + j - i) i (rix (m - i) m (m + (j - i)) k) = rix (m - i) m (m + j) k := by
  unfold six rix
  repeat' split
  all_goals omega
theorem rot_eq {i m k : Nat} (him : i ≤ m) : six (m - i) m i k = rix (m - i) m (m + i) k := by
  unfold six rix
  repeat' split
  all_goals omega
/-- One exchange to the right: what lies at a goes on. -/
theorem up_step {d dk : Array α} {a k : Nat} (hs : dk.size = d.size) (hak : a ≤ k) (hk : k + 1 < d.size) (h : ∀ x, dk[x]! = d[rix a (a + 1) (k + 1) x]!) (x : Nat) : (swp dk k (k + 1))[x]! = d[rix a (a + 1) (k + 2) x]! := by
  rw [swp_get dk (by omega) (by omega)]
  by_cases h1 : x = k + 1
  · rw [if_pos h1, h]
    refine at_eq d ?_
    unfold rix
    repeat' split
    all_goals omega
  · rw [if_neg h1]
    by_cases h2 : x = k
    · rw [if_pos h2, h]
      refine at_eq d ?_
      unfold rix
      repeat' split
      all_goals omega
    · rw [if_neg h2, h]
      refine at_eq d ?_
      unfold rix
      repeat' split
      all_goals omega
/-- One exchange to the left. -/
theorem down_step {d dk : Array α} {m k : Nat} (hs : dk.size = d.size) (hk : k + 1 ≤ m) (hm : m < d.size) (h : ∀ x, dk[x]! = d[rix (k + 1) m (m + 1) x]!) (x : Nat) : (swp dk (k + 1) k)[x]! = d[rix k m (m + 1) x]! := by
  rw [swp_get dk (by omega) (by omega)]
  by_cases h1 : x = k
  · rw [if_pos h1, h]
    refine at_eq d ?_
    unfold rix
    repeat' split
    all_goals omega
  · rw [if_neg h1]
    by_cases h2 : x = k + 1
    · rw [if_pos h2, h]
      refine at_eq d ?_
      unfold rix
      repeat' split
      all_goals omega
    · rw [if_neg h2, h]
      refine at_eq d ?_
      unfold rix
      repeat' split
      all_goals omega

/-! ### Two sorted parts, exchanged about -/

variable {lt : α → α → Bool}
theorem sorted_le (hS : SWO lt) {d : Array α} {a b i j : Nat} (h : SortedIn lt a b d) (hi : a ≤ i) (hij : i ≤ j) (hj : j < b) : lt d[j]! d[i]! = false := by
  rcases Nat.lt_or_ge i j with h1 | h1
  · exact h i j hi h1 hj
  · obtain rfl : i = j := by omega
    exact hS.irrefl _
theorem sorted_part {d : Array α} {a b a' b' : Nat} (h : SortedIn lt a b d) (ha : a ≤ a') (hb : b' ≤ b) : SortedIn lt a' b' d := fun i j h1 h2 h3 => h i j (by omega) h2 (by omega)
/-- The two halves of a merge: all of the one are ahead of all of the other. -/
theorem halves (hS : SWO lt) {d d1 : Array α} {a m b s e mid : Nat} (has : a ≤ s) (hsm : s ≤ m) (hme : m ≤ e) (heb : e ≤ b) (hmid : mid + m = s + e) (L : SortedIn lt a m d) (R : SortedIn lt m b d) (h1 : ∀ k, d1[k]! = d[rix s m e k]!)
    (F1 : s < m → m < e → lt d[e - 1]! d[s]! = true) (F2 : a < s → e < b → lt d[e]! d[s - 1]! = false) :
    (∀ x y, a ≤ x → x < mid → mid ≤ y → y < b → lt d1[y]! d1[x]! = false) ∧ SortedIn lt a s d1 ∧ SortedIn lt s mid d1 ∧ SortedIn lt mid e d1 ∧ SortedIn lt e b d1 := by
  have g1 : ∀ k, k < s → d1[k]! = d[k]! := fun k hk => by
    rw [h1]; refine at_eq d ?_; unfold rix; repeat' split
    all_goals omega
  have g2 : ∀ k, s ≤ k → k < mid → d1[k]! = d[m + (k - s)]! := fun k hk hk2 => by
    rw [h1]; refine at_eq d ?_; unfold rix; repeat' split
    all_goals omega
  have g3 : ∀ k, mid ≤ k → k < e → d1[k]! = d[s + (k - mid)]! := fun k hk hk2 => by
    rw [h1]; refine at_eq d ?_; unfold rix; repeat' split
    all_goals omega
  have g4 : ∀ k, e ≤ k → d1[k]! = d[k]! := fun k hk => by
    rw [h1]; refine at_eq d ?_; unfold rix; repeat' split
    all_goals omega
  refine ⟨fun x y hx hxm hy hyb => ?_, fun i j hi hij hj => ?_, fun i j hi hij hj => ?_, fun i j hi hij hj => ?_, fun i j hi hij hj => ?_⟩
  · by_cases hxs : x < s
    · rw [g1 x hxs]
      by_cases hye : y < e
      · rw [g3 y hy hye]
        exact sorted_le hS L hx (by omega) (by omega)
      · rw [g4 y (by omega)]
        have q1 := sorted_le hS R (i := e) (j := y) (by omega) (by omega) hyb
        have q2 := F2 (by omega) (by omega)
        have q3 := sorted_le hS L (i := x) (j := s - 1) hx (by omega) (by omega)
        exact hS.ntrans _ _ _ q1 (hS.ntrans _ _ _ q2 q3)
    · rw [g2 x (by omega) hxm]
      by_cases hye : y < e
      · rw [g3 y hy hye]
        have q1 := sorted_le hS L (i := s) (j := s + (y - mid)) (by omega) (by omega) (by omega)
        have q2 := hS.asymmA (F1 (by omega) (by omega))
        have q3 := sorted_le hS R (i := m + (x - s)) (j := e - 1) (by omega) (by omega) (by omega)
        exact hS.ntrans _ _ _ q1 (hS.ntrans _ _ _ q2 q3)
      · rw [g4 y (by omega)]
        exact sorted_le hS R (by omega) (by omega) (by omega)
  · rw [g1 i (by omega), g1 j hj]
    exact L i j hi hij (by omega)
  · rw [g2 i hi (by omega), g2 j (by omega) hj]
    exact R _ _ (by omega) (by omega) (by omega)
  · rw [g3 i hi (by omega), g3 j (by omega) hj]
    exact L _ _ (by omega) (by omega) (by omega)
  · rw [g4 i (by omega), g4 j (by omega)]
    exact R _ _ (by omega) (by omega) (by omega)
/-- Each half sorted: the whole. -/
theorem joined {d1 d2 d3 : Array α} {a mid b : Nat} (h1 : a ≤ mid) (h2 : mid ≤ b) (hb : b ≤ d1.size) (C : ∀ x y, a ≤ x → x < mid → mid ≤ y → y < b → lt d1[y]! d1[x]! = false) (P2 : PermIn a mid d1 d2) (S2 : SortedIn lt a mid d2) (P3 : PermIn mid b d2 d3) (S3 : SortedIn lt mid b d3) :
    PermIn a b d1 d3 ∧ SortedIn lt a b d3 := by
  have hs2 : d2.size = d1.size := P2.1
  refine ⟨permIn_trans _ _ _ _ _ (permIn_mono _ _ a mid a b (Nat.le_refl _) h2 hb P2) (permIn_mono _ _ mid b a b h1 (Nat.le_refl _) (by omega) P3), fun i j hi hij hj => ?_⟩
  by_cases hjm : j < mid
  · rw [P3.2.1 i (by omega), P3.2.1 j (by omega)]
    exact S2 i j hi hij hjm
  · by_cases him : mid ≤ i
    · exact S3 i j him hij hj
    · rw [P3.2.1 i (by omega)]
      have q1 := permIn_all d1 d2 a mid (fun X => ∀ y, mid ≤ y → y < b → lt d1[y]! X = false) (by omega) P2 (fun x hx hxm y hy hyb => C x y hx hxm hy hyb) i hi (by omega)
      refine permIn_all d2 d3 mid b (fun Y => lt Y d2[i]! = false) (by omega) P3 (fun y hy hyb => ?_) j (by omega) hj
      rw [P2.2.1 y (by omega)]
      exact q1 y hy hyb
/-- What a stable merge asks: of one from the right and one from the left, the comparison says which is ahead. -/
def Stb (cl lt : α → α → Bool) (a m b : Nat) (d : Array α) : Prop := ∀ i j, a ≤ i → i < m → m ≤ j → j < b → cl d[j]! d[i]! = lt d[j]! d[i]!
theorem stb_left {cl : α → α → Bool} {d d1 : Array α} {a m b s e mid : Nat} (has : a ≤ s) (hsm : s ≤ m) (hme : m ≤ e) (heb : e ≤ b) (hmid : mid + m = s + e) (h : Stb cl lt a m b d) (h1 : ∀ k, d1[k]! = d[rix s m e k]!) : Stb cl lt a s mid d1 := fun i j hi his hj hjm => by
  rw [h1 i, h1 j]
  have e1 : rix s m e i = i := by unfold rix; repeat' split
                                  all_goals omega
  have e2 : rix s m e j = m + (j - s) := by unfold rix; repeat' split
                                            all_goals omega
  rw [e1, e2]
  exact h _ _ hi (by omega) (by omega) (by omega)
theorem stb_right {cl : α → α → Bool} {d d1 : Array α} {a m b s e mid : Nat} (has : a ≤ s) (hsm : s ≤ m) (hme : m ≤ e) (heb : e ≤ b) (hmid : mid + m = s + e) (h : Stb cl lt a m b d) (h1 : ∀ k, d1[k]! = d[rix s m e k]!) : Stb cl lt mid e b d1 := fun i j hi his hj hjm => by
  rw [h1 i, h1 j]
  have e1 : rix s m e i = s + (i - mid) := by unfold rix; repeat' split
                                              all_goals omega
  have e2 : rix s m e j = j := by unfold rix; repeat' split
                                  all_goals omega
  rw [e1, e2]
  exact h _ _ (by omega) (by omega) (by omega) hjm
theorem stb_perm {cl : α → α → Bool} {d d' : Array α} {a m b : Nat} (hm : m ≤ d.size) (hp : PermIn a m d d') (hb : b ≤ d.size) (h : Stb cl lt a m b d) : Stb cl lt a m b d' := fun i j hi him hj hjb => by
  rw [hp.2.1 j (by omega)]
  exact permIn_all d d' a m (fun X => cl d[j]! X = lt d[j]! X) hm hp (fun x hx hxm => h x j hx hxm hj hjb) i hi him
theorem sorted_perm {d d' : Array α} {a m b : Nat} (hp : PermIn a m d d') (h : SortedIn lt m b d) : SortedIn lt m b d' := fun i j hi hij hj => by
  rw [hp.2.1 i (by omega), hp.2.1 j (by omega)]
  exact h i j hi hij hj
theorem sorted_perm' {d d' : Array α} {a m b : Nat} (hp : PermIn m b d d') (h : SortedIn lt a m d) : SortedIn lt a m d' := fun i j hi hij hj => by
  rw [hp.2.1 i (by omega), hp.2.1 j (by omega)]
  exact h i j hi hij hj
/-- One on the left, put in. -/
theorem one_sorted (hS : SWO lt) {d d1 : Array α} {a m b i : Nat} (hm : m = a + 1) (hmi : m ≤ i) (hib : i ≤ b) (R : SortedIn lt m b d) (h1 : ∀ k, d1[k]! = d[rix a (a + 1) i k]!) (G1 : m < i → lt d[i - 1]! d[a]! = true) (G2 : i < b → lt d[i]! d[a]! = false) : SortedIn lt a b d1 := by
  have g1 : ∀ k, a ≤ k → k < i - 1 → d1[k]! = d[k + 1]! := fun k hk hk2 => by
    rw [h1]; refine at_eq d ?_; unfold rix; repeat' split
    all_goals omega
  have g2 : d1[i - 1]! = d[a]! := by
    rw [h1]; refine at_eq d ?_; unfold rix; repeat' split
    all_goals omega
  have g3 : ∀ k, i ≤ k → d1[k]! = d[k]! := fun k hk => by
    rw [h1]; refine at_eq d ?_; unfold rix; repeat' split
    all_goals omega
  intro x y hx hxy hy
  by_cases c1 : y < i - 1
  · rw [g1 x hx (by omega), g1 y (by omega) c1]
    exact R _ _ (by omega) (by omega) (by omega)
  · by_cases c2 : y = i - 1
    · subst c2
      rw [g2, g1 x hx hxy]
      have q1 := sorted_le hS R (i := x + 1) (j := i - 1) (by omega) (by omega) (by omega)
      exact hS.ntrans _ _ _ (hS.asymmA (G1 (by omega))) q1
    · rw [g3 y (by omega)]
      by_cases c3 : x < i - 1
      · rw [g1 x hx c3]
        exact R _ _ (by omega) (by omega) hy
      · by_cases c4 : x = i - 1
        · subst c4
          rw [g2]
          have q1 := sorted_le hS R (i := i) (j := y) (by omega) (by omega) hy
          exact hS.ntrans _ _ _ q1 (G2 (by omega))
        · rw [g3 x (by omega)]
          exact R _ _ (by omega) hxy hy
/-- One on the right, put in. -/
theorem two_sorted (hS : SWO lt) {d d1 : Array α} {a m b i : Nat} (hb : b = m + 1) (hai : a ≤ i) (him : i ≤ m) (L : SortedIn lt a m d) (h1 : ∀ k, d1[k]! = d[rix i m (m + 1) k]!) (G1 : a < i → lt d[m]! d[i - 1]! = false) (G2 : i < m → lt d[m]! d[i]! = true) : SortedIn lt a b d1 := by
  have g1 : ∀ k, k < i → d1[k]! = d[k]! := fun k hk => by
    rw [h1]; refine at_eq d ?_; unfold rix; repeat' split
    all_goals omega
  have g2 : d1[i]! = d[m]! := by
    rw [h1]; refine at_eq d ?_; unfold rix; repeat' split
    all_goals omega
  have g3 : ∀ k, i < k → k ≤ m → d1[k]! = d[k - 1]! := fun k hk hk2 => by
    rw [h1]; refine at_eq d ?_; unfold rix; repeat' split
    all_goals omega
  intro x y hx hxy hy
  by_cases c1 : y < i
  · rw [g1 x (by omega), g1 y c1]
    exact L _ _ hx hxy (by omega)
  · by_cases c2 : y = i
    · subst c2
      rw [g2, g1 x hxy]
      have q1 := sorted_le hS L (i := x) (j := y - 1) hx (by omega) (by omega)
      exact hS.ntrans _ _ _ (G1 (by omega)) q1
    · rw [g3 y (by omega) (by omega)]
      by_cases c3 : x < i
      · rw [g1 x c3]
        exact L _ _ hx (by omega) (by omega)
      · by_cases c4 : x = i
        · subst c4
          rw [g2]
          have q1 := sorted_le hS L (i := x) (j := y - 1) hx (by omega) (by omega)
          exact hS.ntrans _ _ _ q1 (hS.asymmA (G2 (by omega)))
        · rw [g3 x (by omega) (by omega)]
          exact L _ _ (by omega) (by omega) (by omega)
end Go.Proofs.Ytcndihekpdebhaa.Stb
/- Order: the places that are queued, as they stand and sorted (mathematics). -/
namespace Go.Proofs.Ytcndihekpdebhaa.Ord
open Go.Sort
open Job (Jb)
set_option linter.unusedVariables false

/-- The places of those of the first k that are queued, as they stand. -/
def qL (l : List Jb) (k : Nat) : List Nat := (List.range k).filter (isQ l)
theorem qL_go {l : List Jb} {k : Nat} (h : isQ l k = true) : qL l (k + 1) = qL l k ++ [k] := by
  unfold qL
  rw [List.range_succ, List.filter_append]
  simp [h]
theorem qL_no {l : List Jb} {k : Nat} (h : isQ l k = false) : qL l (k + 1) = qL l k := by
  unfold qL
  rw [List.range_succ, List.filter_append]
  simp [h]
theorem qL_mem {l : List Jb} {k m : Nat} : m ∈ qL l k ↔ m < k ∧ isQ l m = true := by
  unfold qL
  rw [List.mem_filter, List.mem_range]
theorem qL_up (l : List Jb) (k : Nat) : (qL l k).Pairwise (· < ·) := by
  unfold qL
  exact List.Pairwise.filter _ List.pairwise_lt_range
theorem qL_len (l : List Jb) (k : Nat) : (qL l k).length ≤ k := by
  unfold qL
  exact Nat.le_trans (List.length_filter_le _ _) (by rw [List.length_range]; exact Nat.le_refl _)
def ltP (l : List Jb) {n : Nat} (x y : { x : Nat // x < n }) : Bool := decide (lt l x.1 y.1)
theorem ltP_swo {l : List Jb} {n : Nat} (hn : n ≤ l.length) : SWO (ltP l (n := n)) := by
  refine ⟨fun x => decide_eq_false lt_irrefl, fun x y z h1 h2 => decide_eq_true (lt_trans (of_decide_eq_true h1) (of_decide_eq_true h2)), fun x y z h1 h2 => decide_eq_false fun h => ?_⟩
  have g1 := of_decide_eq_false h1
  have g2 := of_decide_eq_false h2
  by_cases e : x.1 = y.1
  · rw [← e] at g2; exact g2 h
  · exact g2 (lt_trans (lt_total (by have := x.2; omega) (by have := y.2; omega) e g1) h)
/-- What is sorted is the queue. -/
theorem sorted_ord {l : List Jb} {n : Nat} (hn : n = l.length) {d : List ({ x : Nat // x < n })} (hp : (d.map (·.1)).Perm (qL l n)) (hs : d.Pairwise (fun x y => ltP l y x = false)) : d.map (·.1) = ord l := by
  have hnd : (d.map (·.1)).Nodup := by
    rw [hp.nodup_iff]
    exact (qL_up l n).imp fun h => Nat.ne_of_lt h
  refine sorted_one (l := l) ?_ (ord_sorted l l.length) fun m => ?_
  · rw [List.pairwise_map]
    have hnd2 : d.Pairwise (fun x y => x.1 ≠ y.1) := by
      unfold List.Nodup at hnd
      rwa [List.pairwise_map] at hnd
    refine (hs.and hnd2).imp fun {x y} h => ?_
    exact lt_total (by have := y.2; omega) (by have := x.2; omega) (fun e => h.2 e.symm) (of_decide_eq_false h.1)
  · rw [hp.mem_iff, qL_mem]
    unfold ord
    rw [ord_mem, hn]
end Go.Proofs.Ytcndihekpdebhaa.Ord
