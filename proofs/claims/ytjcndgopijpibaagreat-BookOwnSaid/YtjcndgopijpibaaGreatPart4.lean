/- Common to the claims of this seat, part 4: texts that were written one by one, laid behind one another. -/
import Derived.Test.YtjcndgopijpibaaGreatPart3
/- Draw: what is drawn, without the document's answer (mathematics for DrawTakes). -/
namespace Go.Proofs.YtjcndgopijpibaaGreat.Drw
open Tre (Al)
set_option linter.unusedVariables false
def fundOf (al : List Al) (i : Nat) : Int := match al[i]? with | some a => a.fund | none => 0
theorem cand_fundOf {al : List Al} {f now : Int} {i : Nat} (h : cand al f now i = true) : fundOf al i = f := by
  obtain ⟨a, ha, hf, _⟩ := cand_fund h
  unfold fundOf; rw [ha]; exact hf
theorem ordF_all (al : List Al) (f now : Int) : (∀ i, i ∈ ordF al f now none0 ↔ cand al f now i = true) ∧ (ordF al f now none0).Pairwise (before al) := by
  obtain ⟨h1, h2⟩ := ordF_spec (al := al) (f := f) (now := now) (left al f now none0) (done := none0) (Nat.le_refl _)
  exact ⟨fun i => by rw [h1]; simp [none0], h2⟩
theorem order_mem {al : List Al} {now : Int} {p : List Int} {i : Nat} (h : i ∈ order al now p) : fundOf al i ∈ p ∧ cand al (fundOf al i) now i = true := by
  unfold order at h
  obtain ⟨f, hf, hi⟩ := List.mem_flatMap.1 h
  have hc := ((ordF_all al f now).1 i).1 hi
  have he := cand_fundOf hc
  rw [he]; exact ⟨hf, hc⟩
def Behind (al : List Al) (i j : Nat) : Prop := fundOf al j < fundOf al i ∨ (fundOf al i = fundOf al j ∧ before al i j)
theorem order_pair (al : List Al) (now : Int) : ∀ {p : List Int}, p.Pairwise (· > ·) → (order al now p).Pairwise (Behind al)
  | [], _ => List.Pairwise.nil
  | f :: ps, h => by
    obtain ⟨h1, h2⟩ := List.pairwise_cons.1 h
    have e : order al now (f :: ps) = ordF al f now none0 ++ order al now ps := rfl
    rw [e, List.pairwise_append]
    refine ⟨?_, order_pair al now h2, fun i hi j hj => ?_⟩
    · refine List.Pairwise.imp_of_mem ?_ (ordF_all al f now).2
      intro i j hi hj hb
      have ei := cand_fundOf (((ordF_all al f now).1 i).1 hi)
      have ej := cand_fundOf (((ordF_all al f now).1 j).1 hj)
      exact .inr ⟨by rw [ei, ej], hb⟩
    · have ei := cand_fundOf (((ordF_all al f now).1 i).1 hi)
      have := h1 _ (order_mem hj).1
      exact .inl (by rw [ei]; exact this)
theorem take_prefix (al : List Al) : ∀ (l : List Nat) (a : Int), ∃ k, k ≤ l.length ∧ (takeD al l a).map Dw.alloc = (l.take k).map fun (i : Nat) => (i : Int)
  | [], a => ⟨0, Nat.le_refl _, rfl⟩
  | i :: r, a => by
    rw [takeD]
    split
    · exact ⟨0, Nat.zero_le _, rfl⟩
    · obtain ⟨k, hk, h⟩ := take_prefix al r (a - min (availOf al i) a)
      exact ⟨k + 1, Nat.succ_le_succ hk, by rw [List.map_cons, h, List.take_succ_cons, List.map_cons]⟩
theorem take_sum (al : List Al) : ∀ (l : List Nat) (a : Int), (amtsD (takeD al l a)).sum + restD al l a = a
  | [], a => by simp [takeD, restD, amtsD]
  | i :: r, a => by
    rw [takeD, restD]
    split
    · simp [amtsD]
    · have h := take_sum al r (a - min (availOf al i) a)
      unfold amtsD at h ⊢
      rw [List.map_cons, List.sum_cons]
      simp only
      omega
theorem take_amt (al : List Al) : ∀ (l : List Nat) (a : Int) (q : Nat) (d : Dw), (∀ i ∈ l, 0 < availOf al i) → (takeD al l a)[q]? = some d → 1 ≤ d.amt ∧ d.amt ≤ availOf al d.alloc.toNat ∧ (q + 1 < (takeD al l a).length → d.amt = availOf al d.alloc.toNat)
  | [], a, q, d, _, h => by simp [takeD] at h
  | i :: r, a, q, d, hl, h => by
    have hi := hl i (List.mem_cons_self ..)
    rw [takeD] at h ⊢
    by_cases ha : a ≤ 0
    · rw [if_pos ha] at h; simp at h
    · rw [if_neg ha] at h ⊢
      cases q with
      | zero =>
        simp at h
        subst h
        refine ⟨by simp only; omega, by simp only [Int.toNat_natCast]; omega, fun hlen => ?_⟩
        simp only [Int.toNat_natCast]
        by_cases hm : a ≤ availOf al i
        · have hz : a - min (availOf al i) a ≤ 0 := by omega
          rw [List.length_cons] at hlen
          cases r with
          | nil => simp [takeD] at hlen
          | cons j r => rw [takeD, if_pos hz] at hlen; simp at hlen
        · omega
      | succ q =>
        rw [List.getElem?_cons_succ] at h
        obtain ⟨h1, h2, h3⟩ := take_amt al r _ q d (fun j hj => hl j (List.mem_cons_of_mem _ hj)) h
        exact ⟨h1, h2, fun hlen => h3 (by rw [List.length_cons] at hlen; omega)⟩
end Go.Proofs.YtjcndgopijpibaaGreat.Drw
/- Draw: legs of small amounts that come to nothing are posted: what lies in the accounts behind them (mathematics for DrawRound). -/
namespace Go.Proofs.YtjcndgopijpibaaGreat.Drw
open Mon
open Tre (Al)
open Led
set_option linter.unusedVariables false
theorem mem_of {legs : List Lg} {k : Nat} {x : Int} (h : x ∈ of legs k) : ∃ g ∈ legs, g.acct = (k : Int) ∧ g.amt = x := by
  unfold of at h
  obtain ⟨g, hg, e⟩ := List.mem_map.1 h
  obtain ⟨h1, h2⟩ := List.mem_filter.1 hg
  exact ⟨g, h1, by simpa using h2, e⟩
structure Small (fl : List Int) (n : Nat) (legs : List Lg) : Prop where
  accts : ∀ g ∈ legs, 1 ≤ g.acct ∧ g.acct < 1 + 3 * (n : Int) ∧ g.amt ≠ 0 ∧ -4503599627370496 ≤ g.amt ∧ g.amt ≤ 4503599627370496
  some' : 1 ≤ legs.length
  most : legs.length ≤ 64
  sum : (amts legs).sum = 0
  books : ∀ k, 1 ≤ k → k < 1 + 3 * n → 0 ≤ fl.getD k 0 ∧ fl.getD k 0 ≤ 4503599627370496 ∧ 0 ≤ fl.getD k 0 + (of legs k).sum
def adjOne (u v s : Nat → Int) (i : Nat) (a : Al) : Al := { a with avail := a.avail + u i, lien := a.lien + v i, spent := a.spent + s i }
def adjFrom (u v s : Nat → Int) : Nat → List Al → List Al
  | _, [] => []
  | i, a :: al => adjOne u v s i a :: adjFrom u v s (i + 1) al
def adj (u v s : Nat → Int) (al : List Al) : List Al := adjFrom u v s 0 al
theorem adjFrom_len (u v s : Nat → Int) : ∀ (al : List Al) (i : Nat), (adjFrom u v s i al).length = al.length
  | [], _ => rfl
  | a :: al, i => by simp [adjFrom, adjFrom_len u v s al (i + 1)]
theorem adj_len (u v s : Nat → Int) (al : List Al) : (adj u v s al).length = al.length := adjFrom_len u v s al 0
theorem adjFrom_at (u v s : Nat → Int) : ∀ (al : List Al) (i j : Nat) (a : Al), al[j]? = some a → (adjFrom u v s i al)[j]? = some (adjOne u v s (i + j) a)
  | [], i, j, a, h => by simp at h
  | x :: al, i, 0, a, h => by
    simp at h; subst h; rfl
  | x :: al, i, j + 1, a, h => by
    rw [List.getElem?_cons_succ] at h
    have := adjFrom_at u v s al (i + 1) j a h
    rw [adjFrom, List.getElem?_cons_succ, this, show i + 1 + j = i + (j + 1) by omega]
theorem adj_at {u v s : Nat → Int} {al : List Al} {j : Nat} {a : Al} (h : al[j]? = some a) : (adj u v s al)[j]? = some (adjOne u v s j a) := by
  have := adjFrom_at u v s al 0 j a h
  rwa [Nat.zero_add] at this
theorem al_ext {l k : List Al} (hl : l.length = k.length) (h : ∀ (j : Nat) (a : Al), l[j]? = some a → k[j]? = some a) : l = k := by
  apply List.ext_getElem?
  intro i
  cases hx : l[i]? with
  | some x => exact (h i x hx).symm
  | none =>
    rw [List.getElem?_eq_none_iff] at hx
    rw [List.getElem?_eq_none (by omega)]
theorem adj_adj {u v s u' v' s' : Nat → Int} {al : List Al} : adj u' v' s' (adj u v s al) = adj (fun i => u i + u' i) (fun i => v i + v' i) (fun i => s i + s' i) al := by
  refine al_ext (by rw [adj_len, adj_len, adj_len]) fun j a h => ?_
  cases hb : al[j]? with
  | none =>
    rw [List.getElem?_eq_none_iff] at hb
    have := (List.getElem?_eq_some_iff.1 h).1
    rw [adj_len, adj_len] at this; omega
  | some b =>
    rw [adj_at (adj_at hb)] at h
    rw [adj_at hb, ← h]
    unfold adjOne
    simp only [Int.add_assoc]
theorem adj_congr {u v s u' v' s' : Nat → Int} {al : List Al} (h : ∀ i, i < al.length → u i = u' i ∧ v i = v' i ∧ s i = s' i) : adj u v s al = adj u' v' s' al := by
  refine al_ext (by rw [adj_len, adj_len]) fun j a hj => ?_
  have hl := (List.getElem?_eq_some_iff.1 hj).1
  rw [adj_len] at hl
  have hb := List.getElem?_eq_getElem hl
  rw [adj_at hb] at hj
  rw [adj_at hb, ← hj]
  obtain ⟨h1, h2, h3⟩ := h j hl
  unfold adjOne
  rw [h1, h2, h3]
theorem adj_zero {al : List Al} : adj (fun _ => 0) (fun _ => 0) (fun _ => 0) al = al := by
  refine al_ext (by rw [adj_len]) fun j a hj => ?_
  have hl := (List.getElem?_eq_some_iff.1 hj).1
  rw [adj_len] at hl
  have hb := List.getElem?_eq_getElem hl
  rw [adj_at hb] at hj
  rw [hb, ← hj]
  unfold adjOne
  simp
theorem post_adj {w : Int} {al : List Al} {legs : List Lg} {u v s : Nat → Int} (h : postE w al legs = 0) (h0 : (of legs 0).sum = 0) (hu : ∀ i, i < al.length → (of legs (1 + 3 * i)).sum = u i ∧ (of legs (2 + 3 * i)).sum = v i ∧ (of legs (3 + 3 * i)).sum = s i) : postW w al legs = w ∧ postA w al legs = adj u v s al := by
  have ha := (post_iff.1 h).2
  have hF : ∀ k, k < 1 + 3 * al.length → (postF w al legs).getD k 0 = (flatN w al).getD k 0 + (of legs k).sum := fun k hk => by rw [getD_at (postF_at w al legs hk), acct_sum (ha k hk)]
  constructor
  · rw [postW_ok h, hF 0 (by omega), h0]
    simp [flatN]
  · rw [postA_ok h]
    refine al_ext (by rw [setA_len, adj_len]) fun j a hj => ?_
    have hl := (List.getElem?_eq_some_iff.1 hj).1
    rw [setA_len] at hl
    have hb := List.getElem?_eq_getElem hl
    rw [setA_at hb] at hj
    rw [adj_at hb, ← hj]
    obtain ⟨g1, g2, g3⟩ := flat_at al j al[j] w hb
    obtain ⟨u1, u2, u3⟩ := hu j hl
    unfold setOne adjOne
    rw [hF _ (by omega), hF _ (by omega), hF _ (by omega), getD_at g1, getD_at g2, getD_at g3, u1, u2, u3]
end Go.Proofs.YtjcndgopijpibaaGreat.Drw
/- Draw: liens, what is charged of them, and what is given back (mathematics for DrawRound). -/
namespace Go.Proofs.YtjcndgopijpibaaGreat.Drw
open Mon
open Tre (Al path)
open Led
set_option linter.unusedVariables false
def ofD (l : List Dw) (i : Nat) : Int := (of (l.map fun d => (⟨d.alloc, d.amt⟩ : Lg)) i).sum
theorem ofD_nil (i : Nat) : ofD [] i = 0 := rfl
theorem of_cons (g : Lg) (l : List Lg) (k : Nat) : (of (g :: l) k).sum = (if g.acct = (k : Int) then g.amt else 0) + (of l k).sum := by
  unfold of
  rw [List.filter_cons]
  by_cases h : g.acct = (k : Int)
  · rw [if_pos (by simpa using h), if_pos h, List.map_cons, List.sum_cons]
  · rw [if_neg (by simpa using h), if_neg h]; omega
theorem of_append (a b : List Lg) (k : Nat) : (of (a ++ b) k).sum = (of a k).sum + (of b k).sum := by
  unfold of
  rw [List.filter_append, List.map_append, List.sum_append]
theorem ofD_cons (d : Dw) (l : List Dw) (i : Nat) : ofD (d :: l) i = (if d.alloc = (i : Int) then d.amt else 0) + ofD l i := by
  unfold ofD
  rw [List.map_cons, of_cons]
def hit (l : List Dw) (q K : Int) : Int := (l.map fun d => if q + 3 * d.alloc = K then d.amt else 0).sum
theorem hit_at {q q' : Int} (hq : 1 ≤ q ∧ q ≤ 3) (hq' : 1 ≤ q' ∧ q' ≤ 3) (i : Nat) : ∀ l : List Dw, hit l q (q' + 3 * (i : Int)) = if q = q' then ofD l i else 0
  | [] => by simp [hit, ofD_nil]
  | d :: l => by
    have ih := hit_at hq hq' i l
    unfold hit at ih ⊢
    rw [List.map_cons, List.sum_cons, ih, ofD_cons]
    by_cases h : q = q'
    · subst h
      rw [if_pos rfl, if_pos rfl]
      by_cases h2 : d.alloc = (i : Int)
      · rw [if_pos (by omega), if_pos h2]
      · rw [if_neg (by omega), if_neg h2]
    · rw [if_neg h, if_neg h, if_neg (by omega)]; rfl
theorem hit_zero {q : Int} (hq : 1 ≤ q) : ∀ l : List Dw, (∀ d ∈ l, 0 ≤ d.alloc) → hit l q 0 = 0
  | [], _ => rfl
  | d :: l, h => by
    have ih := hit_zero hq l fun x hx => h x (List.mem_cons_of_mem _ hx)
    have hd := h d (List.mem_cons_self ..)
    unfold hit at ih ⊢
    rw [List.map_cons, List.sum_cons, ih, if_neg (by omega)]; rfl
theorem leg_of {d c : Dw} (h : d.amt = 0 → c.amt = 0) (f t r : Int) (K : Nat) : (of (legOf d c f t r) K).sum = (if f + 3 * d.alloc = (K : Int) then -d.amt else 0) + (if t + 3 * d.alloc = (K : Int) then c.amt else 0) + (if r + 3 * d.alloc = (K : Int) then d.amt - c.amt else 0) := by
  unfold legOf
  by_cases h0 : d.amt = 0
  · rw [if_pos h0, h0, h h0]
    simp [of]
  · rw [if_neg h0, of_append, of_append, of_cons]
    have e0 : (of [] K).sum = 0 := rfl
    have e1 : (of (if c.amt ≠ 0 then [(⟨t + 3 * d.alloc, c.amt⟩ : Lg)] else []) K).sum = if t + 3 * d.alloc = (K : Int) then c.amt else 0 := by
      by_cases hc : c.amt = 0
      · rw [if_neg (by simpa using hc), hc]; simp [of]
      · rw [if_pos hc, of_cons, e0]; simp
    have e2 : (of (if d.amt - c.amt ≠ 0 then [(⟨r + 3 * d.alloc, d.amt - c.amt⟩ : Lg)] else []) K).sum = if r + 3 * d.alloc = (K : Int) then d.amt - c.amt else 0 := by
      by_cases hc : d.amt - c.amt = 0
      · rw [if_neg (by simpa using hc), hc]; simp [of]
      · rw [if_pos hc, of_cons, e0]; simp
    rw [e1, e2, e0]; simp
def Pair (P : Dw → Dw → Prop) : List Dw → List Dw → Prop
  | [], [] => True
  | d :: l, c :: k => P d c ∧ Pair P l k
  | _, _ => False
theorem pair_same {P : Dw → Dw → Prop} : ∀ {l : List Dw}, (∀ d ∈ l, P d d) → Pair P l l
  | [], _ => trivial
  | d :: l, h => ⟨h d (List.mem_cons_self ..), pair_same fun x hx => h x (List.mem_cons_of_mem _ hx)⟩
theorem pair_imp {P Q : Dw → Dw → Prop} : ∀ {l k : List Dw}, Pair P l k → (∀ d ∈ l, ∀ c ∈ k, P d c → Q d c) → Pair Q l k
  | [], [], _, _ => trivial
  | d :: l, c :: k, h, hi => ⟨hi d (List.mem_cons_self ..) c (List.mem_cons_self ..) h.1, pair_imp h.2 fun x hx y hy => hi x (List.mem_cons_of_mem _ hx) y (List.mem_cons_of_mem _ hy)⟩
  | [], _ :: _, h, _ => h.elim
  | _ :: _, [], h, _ => h.elim
def Fit (d c : Dw) : Prop := d.alloc = c.alloc ∧ (d.amt = 0 → c.amt = 0)
theorem legs_of (f t r : Int) (K : Nat) : ∀ {l k : List Dw}, Pair Fit l k → (of (legsD l k f t r) K).sum = hit k t K - hit l f K + (hit l r K - hit k r K)
  | [], [], _ => rfl
  | d :: l, c :: k, h => by
    have ih := legs_of f t r K h.2
    rw [legsD, of_append, leg_of h.1.2, ih]
    unfold hit
    rw [List.map_cons, List.map_cons, List.map_cons, List.map_cons, List.sum_cons, List.sum_cons, List.sum_cons, List.sum_cons]
    rw [← h.1.1]
    by_cases h1 : f + 3 * d.alloc = (K : Int) <;> by_cases h2 : t + 3 * d.alloc = (K : Int) <;> by_cases h3 : r + 3 * d.alloc = (K : Int)
    all_goals simp only [h1, h2, h3, if_true, if_false]
    all_goals omega
  | [], _ :: _, h => h.elim
  | _ :: _, [], h => h.elim
theorem opt_sum (q x : Int) : (amts (if x ≠ 0 then [(⟨q, x⟩ : Lg)] else [])).sum = x := by
  by_cases h : x = 0
  · rw [if_neg (by simpa using h), h]; rfl
  · rw [if_pos h]; simp [amts]
theorem opt_len (q x : Int) : (if x ≠ 0 then [(⟨q, x⟩ : Lg)] else []).length ≤ 1 := by
  by_cases h : x = 0
  · rw [if_neg (by simpa using h)]; simp
  · rw [if_pos h]; simp
theorem legs_sum (f t r : Int) : ∀ {l k : List Dw}, Pair Fit l k → (amts (legsD l k f t r)).sum = 0
  | [], [], _ => rfl
  | d :: l, c :: k, h => by
    have ih := legs_sum f t r h.2
    have e : (amts (legOf d c f t r)).sum = 0 := by
      unfold legOf
      by_cases h0 : d.amt = 0
      · rw [if_pos h0]; rfl
      · rw [if_neg h0]
        have e1 := opt_sum (t + 3 * d.alloc) c.amt
        have e2 := opt_sum (r + 3 * d.alloc) (d.amt - c.amt)
        unfold amts at e1 e2 ⊢
        rw [List.map_append, List.sum_append, List.map_append, List.sum_append, e1, e2]
        simp
        omega
    rw [legsD]
    unfold amts at ih e ⊢
    rw [List.map_append, List.sum_append, ih, e]; rfl
  | [], _ :: _, h => h.elim
  | _ :: _, [], h => h.elim
theorem legsR_len (f t r : Int) : ∀ (l k : List Dw), (legsD l k f t r).length ≤ 3 * l.length
  | [], _ => by simp [legsD]
  | d :: l, [] => by simp [legsD]
  | d :: l, c :: k => by
    have ih := legsR_len f t r l k
    rw [legsD, List.length_append, List.length_cons]
    have : (legOf d c f t r).length ≤ 3 := by
      unfold legOf
      by_cases h0 : d.amt = 0
      · rw [if_pos h0]; simp
      · rw [if_neg h0, List.length_append, List.length_append]
        have e1 := opt_len (t + 3 * d.alloc) c.amt
        have e2 := opt_len (r + 3 * d.alloc) (d.amt - c.amt)
        simp only [List.length_cons, List.length_nil]
        omega
    omega
theorem legs_mem (f t r : Int) : ∀ {l k : List Dw} {g : Lg}, g ∈ legsD l k f t r → ∃ d ∈ l, ∃ c ∈ k, (∀ {P : Dw → Dw → Prop}, Pair P l k → P d c) ∧ ((g.acct = f + 3 * d.alloc ∧ g.amt = -d.amt ∧ d.amt ≠ 0) ∨ (g.acct = t + 3 * d.alloc ∧ g.amt = c.amt ∧ c.amt ≠ 0) ∨ (g.acct = r + 3 * d.alloc ∧ g.amt = d.amt - c.amt ∧ d.amt - c.amt ≠ 0))
  | [], _, g, h => by simp [legsD] at h
  | d :: l, [], g, h => by simp [legsD] at h
  | d :: l, c :: k, g, h => by
    rw [legsD] at h
    rcases List.mem_append.1 h with h | h
    · refine ⟨d, List.mem_cons_self .., c, List.mem_cons_self .., fun hp => hp.1, ?_⟩
      unfold legOf at h
      by_cases h0 : d.amt = 0
      · rw [if_pos h0] at h; cases h
      · rw [if_neg h0] at h
        rcases List.mem_append.1 h with h | h
        · rcases List.mem_append.1 h with h | h
          · rw [List.mem_singleton] at h
            subst h
            exact .inl ⟨rfl, rfl, h0⟩
          · by_cases h1 : c.amt = 0
            · rw [if_neg (by simpa using h1)] at h; cases h
            · rw [if_pos h1, List.mem_singleton] at h
              subst h
              exact .inr (.inl ⟨rfl, rfl, h1⟩)
        · by_cases h2 : d.amt - c.amt = 0
          · rw [if_neg (by simpa using h2)] at h; cases h
          · rw [if_pos h2, List.mem_singleton] at h
            subst h
            exact .inr (.inr ⟨rfl, rfl, h2⟩)
    · obtain ⟨d', hd, c', hc, hp, hg⟩ := legs_mem f t r h
      exact ⟨d', List.mem_cons_of_mem _ hd, c', List.mem_cons_of_mem _ hc, fun h => hp h.2, hg⟩
theorem legs_some (f t r : Int) {d c : Dw} {l k : List Dw} (h : d.amt ≠ 0) : 1 ≤ (legsD (d :: l) (c :: k) f t r).length := by
  rw [legsD, List.length_append]
  unfold legOf
  rw [if_neg h]
  simp
  omega
structure Held (al : List Al) (l : List Dw) : Prop where
  at' : ∀ d ∈ l, 0 ≤ d.alloc ∧ d.alloc < (al.length : Int) ∧ 1 ≤ d.amt ∧ d.amt ≤ availOf al d.alloc.toNat
  once : l.Pairwise fun x y => x.alloc ≠ y.alloc
theorem ofD_none {i : Nat} : ∀ {l : List Dw}, (∀ d ∈ l, d.alloc ≠ (i : Int)) → ofD l i = 0
  | [], _ => rfl
  | d :: l, h => by
    rw [ofD_cons, if_neg (h d (List.mem_cons_self ..)), ofD_none fun x hx => h x (List.mem_cons_of_mem _ hx)]; rfl
theorem ofD_one {i : Nat} : ∀ {l : List Dw}, l.Pairwise (fun x y => x.alloc ≠ y.alloc) → ofD l i = 0 ∨ ∃ d ∈ l, d.alloc = (i : Int) ∧ ofD l i = d.amt
  | [], _ => .inl rfl
  | d :: l, h => by
    obtain ⟨h1, h2⟩ := List.pairwise_cons.1 h
    rw [ofD_cons]
    by_cases hd : d.alloc = (i : Int)
    · right
      refine ⟨d, List.mem_cons_self .., hd, ?_⟩
      rw [if_pos hd, ofD_none fun x hx => by rw [← hd]; exact Ne.symm (h1 x hx)]; omega
    · rw [if_neg hd]
      rcases ofD_one (i := i) h2 with e | ⟨x, hx, hxi, e⟩
      · left; rw [e]; rfl
      · right
        exact ⟨x, List.mem_cons_of_mem _ hx, hxi, by rw [e]; omega⟩
theorem held_of {al : List Al} {l : List Dw} (h : Held al l) {i : Nat} (hi : i < al.length) : 0 ≤ ofD l i ∧ (0 < ofD l i → ofD l i ≤ availOf al i) := by
  rcases ofD_one (i := i) h.once with e | ⟨d, hd, hdi, e⟩
  · rw [e]; exact ⟨Int.le_refl _, fun h => by omega⟩
  · obtain ⟨_, _, h3, h4⟩ := h.at' d hd
    rw [hdi, Int.toNat_natCast] at h4
    rw [e]; exact ⟨by omega, fun _ => h4⟩
theorem once_len : ∀ (n : Nat) (l : List Dw), l.Pairwise (fun x y => x.alloc ≠ y.alloc) → (∀ d ∈ l, 0 ≤ d.alloc ∧ d.alloc < (n : Int)) → l.length ≤ n
  | 0, l, _, h => by
    cases l with
    | nil => simp
    | cons d l => have := h d (List.mem_cons_self ..); omega
  | n + 1, l, hp, h => by
    have h1 := once_len n (l.filter fun d => d.alloc != (n : Int)) (hp.filter _) fun d hd => by
      obtain ⟨h1, h2⟩ := List.mem_filter.1 hd
      have := h d h1
      have h3 : d.alloc ≠ (n : Int) := by simpa using h2
      omega
    have h2 : ∀ (l : List Dw), l.Pairwise (fun x y => x.alloc ≠ y.alloc) → l.length ≤ (l.filter fun d => d.alloc != (n : Int)).length + 1 := by
      intro l
      induction l with
      | nil => intro _; simp
      | cons d l ih =>
        intro hp
        obtain ⟨g1, g2⟩ := List.pairwise_cons.1 hp
        rw [List.filter_cons]
        by_cases hd : d.alloc = (n : Int)
        · rw [if_neg (by simp [hd])]
          have : (l.filter fun d => d.alloc != (n : Int)) = l := List.filter_eq_self.2 fun x hx => by
            have := g1 x hx
            rw [hd] at this
            simpa using Ne.symm this
          rw [this, List.length_cons]; omega
        · rw [if_pos (by simpa using hd), List.length_cons, List.length_cons]
          have := ih g2; omega
    have := h2 l hp
    omega
theorem once_of_pair {al : List Al} : ∀ {l : List Nat}, l.Pairwise (Behind al) → l.Pairwise fun (x y : Nat) => (x : Int) ≠ (y : Int) := fun h => h.imp fun {x y} hb e => by
  obtain rfl : x = y := by omega
  rcases hb with h | ⟨_, h⟩
  · omega
  · rcases h with h | ⟨_, h⟩ <;> omega
theorem held_take {al : List Al} {now a : Int} {p : List Int} (hp : p.Pairwise (· > ·)) : Held al (takeD al (order al now p) a) := by
  obtain ⟨k, hk, hmap⟩ := take_prefix al (order al now p) a
  have hmem : ∀ i ∈ order al now p, i < al.length ∧ 0 < availOf al i := by
    intro i hi
    have hc := (order_mem hi).2
    obtain ⟨x, hx, _, hav⟩ := cand_fund hc
    exact ⟨(List.getElem?_eq_some_iff.1 hx).1, by unfold availOf; rw [hx]; exact hav⟩
  constructor
  · intro d hd
    obtain ⟨q, hq, e⟩ := List.getElem_of_mem hd
    have hq2 := List.getElem?_eq_getElem hq
    rw [e] at hq2
    obtain ⟨h1, h2, _⟩ := take_amt al (order al now p) a q d (fun i hi => (hmem i hi).2) hq2
    have hm : d.alloc ∈ (takeD al (order al now p) a).map Dw.alloc := List.mem_map.2 ⟨d, hd, rfl⟩
    rw [hmap] at hm
    obtain ⟨i, hi, e2⟩ := List.mem_map.1 hm
    have := (hmem i (List.mem_of_mem_take hi)).1
    exact ⟨by omega, by omega, h1, h2⟩
  · have h1 : ((takeD al (order al now p) a).map Dw.alloc).Pairwise (fun x y => x ≠ y) := by
      rw [hmap, List.pairwise_map]
      exact once_of_pair ((order_pair al now hp).sublist (List.take_sublist _ _))
    rwa [List.pairwise_map] at h1
theorem take_rest (al : List Al) : ∀ (l : List Nat) (a : Int), 0 ≤ a → 0 ≤ restD al l a
  | [], a, h => h
  | i :: r, a, h => by
    rw [restD]
    split
    · exact h
    · exact take_rest al r _ (by omega)
def Part (d c : Dw) : Prop := d.alloc = c.alloc ∧ 0 ≤ c.amt ∧ c.amt ≤ d.amt
theorem charge_spec : ∀ (l : List Dw) (a : Int), (∀ d ∈ l, 0 ≤ d.amt) → 0 ≤ a → ∃ k b, chargeTo l a = some (k, b) ∧ Pair Part l k ∧ 0 ≤ b ∧ (amtsD k).sum + b = a ∧ (0 < b → (amtsD k).sum = (amtsD l).sum)
  | [], a, _, ha => ⟨[], a, rfl, trivial, ha, by simp [amtsD], fun _ => rfl⟩
  | d :: l, a, h, ha => by
    have hd := h d (List.mem_cons_self ..)
    obtain ⟨k, b, h1, h2, h3, h4, h5⟩ := charge_spec l (a - min d.amt a) (fun x hx => h x (List.mem_cons_of_mem _ hx)) (by omega)
    refine ⟨⟨d.alloc, min d.amt a⟩ :: k, b, ?_, ⟨⟨rfl, by simp only; omega, by simp only; omega⟩, h2⟩, h3, ?_, fun hb => ?_⟩
    · rw [chargeTo, if_neg (by omega), h1]
    · unfold amtsD at h4 ⊢
      rw [List.map_cons, List.sum_cons]; simp only; omega
    · have h6 := h5 hb
      have hs : 0 ≤ (amtsD k).sum := by
        have hk : ∀ {l k : List Dw}, Pair Part l k → 0 ≤ (amtsD k).sum := by
          intro l k
          induction l generalizing k with
          | nil => intro hp; cases k with
            | nil => simp [amtsD]
            | cons => exact hp.elim
          | cons x l ih => intro hp; cases k with
            | nil => exact hp.elim
            | cons y k =>
              have := ih hp.2
              have := hp.1.2.1
              unfold amtsD at *
              rw [List.map_cons, List.sum_cons]; omega
        exact hk h2
      unfold amtsD at h4 h6 hs ⊢
      rw [List.map_cons, List.sum_cons, List.map_cons, List.sum_cons, h6]
      simp only
      omega
theorem charge_cases {l : List Dw} (hl : ∀ d ∈ l, 0 ≤ d.amt) (a : Int) : (chargeE l a = 0 ∧ 0 ≤ a ∧ Pair Part l (chargeL l a) ∧ (amtsD (chargeL l a)).sum = a) ∨ (chargeE l a ≠ 0 ∧ (a < 0 ∨ (amtsD l).sum < a)) := by
  by_cases ha : a < 0
  · right
    exact ⟨by unfold chargeE; rw [if_pos ha]; decide, .inl ha⟩
  · obtain ⟨k, b, h1, h2, h3, h4, h5⟩ := charge_spec l a hl (by omega)
    by_cases hb : 0 < b
    · right
      refine ⟨by unfold chargeE; rw [if_neg ha, h1]; simp [hb], .inr ?_⟩
      have := h5 hb
      omega
    · left
      have he : chargeE l a = 0 := by unfold chargeE; rw [if_neg ha, h1]; simp [hb]
      have hk : chargeL l a = k := by unfold chargeL; rw [if_pos he, h1]
      rw [hk]
      exact ⟨he, by omega, h2, by omega⟩
theorem part_len : ∀ {l k : List Dw}, Pair Part l k → k.length = l.length ∧ l.map Dw.alloc = k.map Dw.alloc
  | [], [], _ => ⟨rfl, rfl⟩
  | d :: l, c :: k, h => by
    obtain ⟨h1, h2⟩ := part_len h.2
    exact ⟨by simp [h1], by rw [List.map_cons, List.map_cons, h.1.1, h2]⟩
  | [], _ :: _, h => h.elim
  | _ :: _, [], h => h.elim
theorem part_of (i : Nat) : ∀ {l k : List Dw}, Pair Part l k → 0 ≤ ofD k i ∧ ofD k i ≤ ofD l i
  | [], [], _ => ⟨Int.le_refl _, Int.le_refl _⟩
  | d :: l, c :: k, h => by
    obtain ⟨h1, h2⟩ := part_of i h.2
    obtain ⟨g1, g2, g3⟩ := h.1
    rw [ofD_cons, ofD_cons, ← g1]
    by_cases hd : d.alloc = (i : Int)
    · rw [if_pos hd, if_pos hd]; omega
    · rw [if_neg hd, if_neg hd]; omega
  | [], _ :: _, h => h.elim
  | _ :: _, [], h => h.elim
theorem ofD_sum {l : List Dw} {n : Nat} (h : ∀ d ∈ l, 0 ≤ d.alloc ∧ d.alloc < (n : Int)) : ((List.range n).map fun i => ofD l i).sum = (amtsD l).sum := by
  have := sum_range_of (l.map fun d => (⟨d.alloc, d.amt⟩ : Lg)) n fun g hg => by
    obtain ⟨d, hd, e⟩ := List.mem_map.1 hg
    subst e
    exact h d hd
  have e : amts (l.map fun d => (⟨d.alloc, d.amt⟩ : Lg)) = amtsD l := by
    unfold amts amtsD
    rw [List.map_map]; rfl
  rw [e] at this
  exact this
end Go.Proofs.YtjcndgopijpibaaGreat.Drw
/- Draw: what is drawn, place by place (mathematics for DrawTakes). -/
namespace Go.Proofs.YtjcndgopijpibaaGreat.Drw
open Mon
open Tre (Al path)
open Led
set_option linter.unusedVariables false
theorem draws_ok {X : List Tre.Fd} {Y : List Al} {f am now : Int} (h : drawsE X Y f am now = 0) : 0 ≤ am ∧ path X f ≠ [] ∧ drawsL X Y f am now = takeD Y (order Y now (path X f)) am ∧ (amtsD (drawsL X Y f am now)).sum = am := by
  have hL : drawsL X Y f am now = takeD Y (order Y now (path X f)) am := by unfold drawsL; rw [if_pos h]
  unfold drawsE at h
  by_cases h1 : path X f = []
  · rw [if_pos h1] at h; cases h
  · rw [if_neg h1] at h
    by_cases h2 : am < 0
    · rw [if_pos h2] at h; cases h
    · rw [if_neg h2] at h
      by_cases h3 : 0 < restD Y (order Y now (path X f)) am
      · rw [if_pos h3] at h; cases h
      · have h4 := take_rest Y (order Y now (path X f)) am (by omega)
        have h5 := take_sum Y (order Y now (path X f)) am
        exact ⟨by omega, h1, hL, by rw [hL]; omega⟩
theorem draws_held {X : List Tre.Fd} {Y : List Al} {f am now : Int} (h : drawsE X Y f am now = 0) : Held Y (drawsL X Y f am now) := by
  rw [(draws_ok h).2.2.1]
  exact held_take (path_desc X f)
structure Nth (Y : List Al) (now : Int) (p : List Int) (dl : List Dw) (q : Nat) (i : Nat) (a : Al) (m : Int) : Prop where
  at' : dl[q]? = some ⟨(i : Int), m⟩
  al : Y[i]? = some a
  one : 1 ≤ m
  most : m ≤ a.avail
  from' : a.from' ≤ now
  till : now < a.till
  whole : q + 1 < dl.length → m = a.avail
  way : ∃ K : Nat, p[K]? = some a.fund
end Go.Proofs.YtjcndgopijpibaaGreat.Drw
