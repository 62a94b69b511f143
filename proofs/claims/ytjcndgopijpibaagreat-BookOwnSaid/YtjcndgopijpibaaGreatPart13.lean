/- Common to the claims of this seat, part 13: texts that were written one by one, laid behind one another. -/
import Derived.BigFrame
import Derived.BigQuiet
import Derived.Deep.DeepCutAuto
import Derived.Deep.CutBlock
import Derived.WalkLawsBesides
import Derived.LoopTactic
import Derived.Test.YtjcndgopijpibaaGreatPart1
import Derived.Test.YtjcndgopijpibaaGreatPart2
import Derived.Test.YtjcndgopijpibaaGreatPart11
import Derived.Test.YtjcndgopijpibaaGreatPart12
/- Book: draws liened, spent in part, given back, on sound accounts (mathematics). -/
namespace Go.Proofs.YtjcndgopijpibaaGreat.Bok
open Go.RowKit
open Tre (inI Al Fd)
open Led
open Drw
open Snp (Sn)
set_option linter.unusedVariables false
structure Hld (w : Int) (Y : List Al) (d : List Dw) : Prop where
  sol : Sol w Y
  held : Held Y d
  few : Y.length ≤ 16
variable {w : Int} {Y : List Al} {d c : List Dw}
theorem hld_amt (h : Hld w Y d) : ∀ x ∈ d, 0 ≤ x.alloc ∧ x.alloc < (Y.length : Int) ∧ 1 ≤ x.amt ∧ x.amt ≤ 1152921504606846976 := fun x hx => by
  obtain ⟨h1, h2, h3, h4⟩ := h.held.at' x hx
  have hi : x.alloc.toNat < Y.length := by omega
  have ha := List.getElem?_eq_getElem hi
  have := (sol_le h.sol).2 _ _ ha
  unfold availOf at h4
  rw [ha] at h4
  simp only at h4
  exact ⟨h1, h2, h3, by omega⟩
theorem hld_len (h : Hld w Y d) : d.length ≤ 16 := by
  have := once_len Y.length d h.held.once fun x hx => by have := h.held.at' x hx; omega
  have := h.few
  omega
theorem hld_of (h : Hld w Y d) {i : Nat} {a : Al} (ha : Y[i]? = some a) : 0 ≤ ofD d i ∧ ofD d i ≤ a.avail := by
  have hi := (List.getElem?_eq_some_iff.1 ha).1
  obtain ⟨h1, h2⟩ := held_of h.held hi
  have h3 := (h.sol.pos i a ha).1
  refine ⟨h1, ?_⟩
  by_cases h0 : 0 < ofD d i
  · have := h2 h0
    unfold availOf at this
    rw [ha] at this
    exact this
  · omega
theorem way_adj {w : Int} {al : List Al} {l k : List Dw} {f t r : Int} {u v s : Nat → Int} (hp : Pair Part l k) (hf : 1 ≤ f ∧ f ≤ 3) (ht : 1 ≤ t ∧ t ≤ 3) (hr : (1 ≤ r ∧ r ≤ 3) ∨ l = k) (h1 : (f - t) % 3 ≠ 0) (h2 : (f - r) % 3 ≠ 0)
    (hl : ∀ x ∈ l, 0 ≤ x.alloc ∧ x.alloc < (al.length : Int) ∧ 1 ≤ x.amt ∧ x.amt ≤ 1152921504606846976) (hr0 : ∀ g ∈ legsD l k f t r, g.amt ≠ 0 ∧ 1 ≤ g.acct ∧ g.acct < 1 + 3 * (al.length : Int)) (hlen : l.length ≤ 16) (hne : l ≠ [])
    (hu : ∀ i, i < al.length → (of (legsD l k f t r) (1 + 3 * i)).sum = u i ∧ (of (legsD l k f t r) (2 + 3 * i)).sum = v i ∧ (of (legsD l k f t r) (3 + 3 * i)).sum = s i)
    (hA : ∀ (i : Nat) (a : Al), al[i]? = some a → (0 ≤ a.avail ∧ a.avail ≤ 1152921504606846976) ∧ (0 ≤ a.lien ∧ a.lien ≤ 1152921504606846976) ∧ (0 ≤ a.spent ∧ a.spent ≤ 1152921504606846976))
    (hB : ∀ (i : Nat) (a : Al), al[i]? = some a → (0 ≤ a.avail + u i ∧ a.avail + u i ≤ 1152921504606846976) ∧ (0 ≤ a.lien + v i ∧ a.lien + v i ≤ 1152921504606846976) ∧ (0 ≤ a.spent + s i ∧ a.spent + s i ≤ 1152921504606846976)) :
    postE w al (legsD l k f t r) = 0 ∧ postW w al (legsD l k f t r) = w ∧ postA w al (legsD l k f t r) = adj u v s al := by
  have hfit := part_fit hp
  have hk : ∀ x ∈ k, 0 ≤ x.alloc := fun y hy => by
    obtain ⟨x, hx, e, _⟩ := part_mem hp y hy
    have := (hl x hx).1
    omega
  have hsome : 1 ≤ (legsD l k f t r).length := by
    cases l with
    | nil => exact absurd rfl hne
    | cons x l => cases k with
      | nil => exact hp.elim
      | cons y k =>
        refine legs_some f t r ?_
        have := (hl x (List.mem_cons_self ..)).2.2.1
        omega
  have hll := legsR_len f t r l k
  have hrun := legs_run (M := 1152921504606846976) (by decide) f t r hp fun x hx => (hl x hx).2.2.2
  have hE : postE w al (legsD l k f t r) = 0 := by
    refine way_post (fun g hg => ⟨(hr0 g hg).2.1, (hr0 g hg).2.2, (hr0 g hg).1⟩) hsome (by omega) hrun (fun g hg => ?_) (legs_sum f t r hfit) (legs_way hp h1 h2) fun K hK1 hK => ?_
    · obtain ⟨x, hx, y, hy, hP, h⟩ := legs_mem f t r hg
      obtain ⟨p1, p2, p3⟩ := hP hp
      have := hl x hx
      rcases h with ⟨e1, e2, e3⟩ | ⟨e1, e2, e3⟩ | ⟨e1, e2, e3⟩
      all_goals omega
    · rcases flat_cases (w := w) hK with h | ⟨i, a, hi, ha, h⟩
      · omega
      · obtain ⟨f1, f2, f3⟩ := flat_at al i a w ha
        obtain ⟨r1, r2, r3⟩ := hA i a ha
        obtain ⟨e1, e2, e3⟩ := hB i a ha
        obtain ⟨u1, u2, u3⟩ := hu i hi
        rcases h with rfl | rfl | rfl
        · rw [getD_at f1, u1]; omega
        · rw [getD_at f2, u2]; omega
        · rw [getD_at f3, u3]; omega
  exact ⟨hE, post_adj hE (of_world hfit hf.1 ht.1 (hr.imp (fun h => h.1) id) (fun x hx => (hl x hx).1) hk) hu⟩
theorem same_rest (h : Hld w Y d) {f t : Int} (hf : 1 ≤ f ∧ f ≤ 3) (ht : 1 ≤ t ∧ t ≤ 3) : ∀ g ∈ legsD d d f t 0, g.amt ≠ 0 ∧ 1 ≤ g.acct ∧ g.acct < 1 + 3 * (Y.length : Int) := by
  intro g hg
  have hps := part_same (l := d) fun x hx => by have := hld_amt h x hx; omega
  obtain ⟨x, hx, y, hy, hP, hc⟩ := legs_mem f t 0 hg
  have hxy : x.amt = y.amt := hP (P := fun a b => a.amt = b.amt) (pair_same fun _ _ => rfl)
  have := hld_amt h x hx
  rcases hc with ⟨e1, e2, e3⟩ | ⟨e1, e2, e3⟩ | ⟨e1, e2, e3⟩
  · omega
  · omega
  · omega
theorem part_rest (h : Hld w Y d) (hp : Pair Part d c) {f t r : Int} (hf : 1 ≤ f ∧ f ≤ 3) (ht : 1 ≤ t ∧ t ≤ 3) (hr : 1 ≤ r ∧ r ≤ 3) : ∀ g ∈ legsD d c f t r, g.amt ≠ 0 ∧ 1 ≤ g.acct ∧ g.acct < 1 + 3 * (Y.length : Int) := by
  intro g hg
  obtain ⟨x, hx, y, hy, hP, hc⟩ := legs_mem f t r hg
  have := hld_amt h x hx
  rcases hc with ⟨e1, e2, e3⟩ | ⟨e1, e2, e3⟩ | ⟨e1, e2, e3⟩
  all_goals omega
theorem legsW_part (h : Hld w Y d) (hp : Pair Part d c) (f t r : Int) : legsW d c f t r = legsD d c f t r := by
  refine legsW_of f t r fun k x y hx hy => ?_
  have hxm := hld_amt h x (List.mem_of_getElem? hx)
  have hpp : Part x y := by
    clear h hxm
    induction d generalizing c k with
    | nil => simp at hx
    | cons a l ih => cases c with
      | nil => simp at hy
      | cons b m => cases k with
        | zero => simp at hx hy; subst hx hy; exact hp.1
        | succ k => exact ih hp.2 k (by simpa using hx) (by simpa using hy)
  obtain ⟨_, p1, p2⟩ := hpp
  omega
theorem part_self (h : Hld w Y d) : Pair Part d d := part_same fun x hx => by have := hld_amt h x hx; omega
theorem books_lien (h : Hld w Y d) (i : Nat) : (of (legsD d d 1 2 0) (1 + 3 * i)).sum = -ofD d i ∧ (of (legsD d d 1 2 0) (2 + 3 * i)).sum = ofD d i ∧ (of (legsD d d 1 2 0) (3 + 3 * i)).sum = 0 := by
  have hfit := part_fit (part_self h)
  refine ⟨?_, ?_, ?_⟩
  · rw [of_books hfit i (q := 1) (by decide) (by decide) (by decide) (.inr rfl) (by omega)]; simp
  · rw [of_books hfit i (q := 2) (by decide) (by decide) (by decide) (.inr rfl) (by omega)]; simp
  · rw [of_books hfit i (q := 3) (by decide) (by decide) (by decide) (.inr rfl) (by omega)]; simp
theorem adj_none {d : List Dw} (hd : d = []) : adj (fun i => -ofD d i) (fun i => ofD d i) (fun _ => 0) Y = Y := by
  subst hd
  rw [adj_congr (u' := fun _ => 0) (v' := fun _ => 0) (s' := fun _ => 0) fun i _ => ⟨by rw [ofD_nil]; rfl, by rw [ofD_nil], rfl⟩]
  exact adj_zero
theorem posted_lien {o : Sn} (h : Hld o.world o.allocs d) (hE : postedE o (legsW d d 1 2 0) = 0) : (posted o (legsW d d 1 2 0)).world = o.world ∧ (posted o (legsW d d 1 2 0)).allocs = adj (fun i => -ofD d i) (fun i => ofD d i) (fun _ => 0) o.allocs := by
  rw [legsW_part h (part_self h)] at hE ⊢
  unfold posted postedE at *
  by_cases hl : legsD d d 1 2 0 = []
  · rw [if_pos hl]
    have hd : d = [] := by
      cases d with
      | nil => rfl
      | cons x l =>
        have := legs_some 1 2 0 (d := x) (c := x) (l := l) (k := l) (by have := hld_amt h x (List.mem_cons_self ..); omega)
        rw [hl] at this
        simp at this
    exact ⟨rfl, (adj_none hd).symm⟩
  · rw [if_neg hl] at hE ⊢
    have hfit := part_fit (part_self h)
    exact post_adj hE (of_world hfit (by decide) (by decide) (.inr rfl) (fun x hx => (hld_amt h x hx).1) (fun x hx => (hld_amt h x hx).1)) fun i _ => books_lien h i
theorem posted_back {o : Sn} (h : Hld w Y d) (hw : o.world = w) (ho : o.allocs = adj (fun i => -ofD d i) (fun i => ofD d i) (fun _ => 0) Y) : postedE o (legsW d d 2 1 0) = 0 ∧ (posted o (legsW d d 2 1 0)).world = w ∧ (posted o (legsW d d 2 1 0)).allocs = Y := by
  rw [legsW_part h (part_self h)]
  unfold posted postedE
  by_cases hd : d = []
  · subst hd
    rw [if_pos (by rfl), if_pos (by rfl)]
    exact ⟨rfl, hw, by rw [ho]; exact adj_none rfl⟩
  · have hfit := part_fit (part_self h)
    have key := way_adj (w := o.world) (al := o.allocs) (l := d) (k := d) (f := 2) (t := 1) (r := 0) (u := fun i => ofD d i) (v := fun i => -ofD d i) (s := fun _ => 0) (part_self h) (by decide) (by decide) (.inr rfl) (by decide) (by decide)
      (by rw [ho, adj_len]; exact hld_amt h) (by rw [ho, adj_len]; exact same_rest h (by decide) (by decide)) (hld_len h) hd
      (fun i _ => ⟨by rw [of_books hfit i (q := 1) (by decide) (by decide) (by decide) (.inr rfl) (by omega)]; simp, by rw [of_books hfit i (q := 2) (by decide) (by decide) (by decide) (.inr rfl) (by omega)]; simp, by rw [of_books hfit i (q := 3) (by decide) (by decide) (by decide) (.inr rfl) (by omega)]; simp⟩)
      (fun i a ha => by
        rw [ho] at ha
        have hi := (List.getElem?_eq_some_iff.1 ha).1
        rw [adj_len] at hi
        have hb := List.getElem?_eq_getElem hi
        rw [adj_at hb] at ha
        injection ha with ha
        subst ha
        have h1 := hld_of h hb
        have h2 := (sol_le h.sol).2 i _ hb
        unfold adjOne
        simp only
        omega)
      (fun i a ha => by
        rw [ho] at ha
        have hi := (List.getElem?_eq_some_iff.1 ha).1
        rw [adj_len] at hi
        have hb := List.getElem?_eq_getElem hi
        rw [adj_at hb] at ha
        injection ha with ha
        subst ha
        have h2 := (sol_le h.sol).2 i _ hb
        unfold adjOne
        simp only
        omega)
    have hl : legsD d d 2 1 0 ≠ [] := fun e => by
      cases d with
      | nil => exact hd rfl
      | cons x l =>
        have := legs_some 2 1 0 (d := x) (c := x) (l := l) (k := l) (by have := hld_amt h x (List.mem_cons_self ..); omega)
        rw [e] at this
        simp at this
    rw [if_neg hl, if_neg hl]
    refine ⟨key.1, key.2.1.trans hw, key.2.2.trans ?_⟩
    rw [ho, adj_adj]
    exact (adj_congr (u' := fun _ => 0) (v' := fun _ => 0) (s' := fun _ => 0) fun i _ => ⟨by show -ofD d i + ofD d i = 0; omega, by show ofD d i + -ofD d i = 0; omega, rfl⟩).trans adj_zero
theorem posted_spend {o : Sn} (h : Hld w Y d) (hp : Pair Part d c) (hw : o.world = w) (ho : o.allocs = adj (fun i => -ofD d i) (fun i => ofD d i) (fun _ => 0) Y) : postedE o (legsW d c 2 3 1) = 0 ∧ (posted o (legsW d c 2 3 1)).world = w ∧ (posted o (legsW d c 2 3 1)).allocs = adj (fun i => -ofD c i) (fun _ => 0) (fun i => ofD c i) Y := by
  rw [legsW_part h hp]
  unfold posted postedE
  by_cases hd : d = []
  · subst hd
    cases c with
    | cons y k => exact hp.elim
    | nil =>
      rw [if_pos (by rfl), if_pos (by rfl)]
      refine ⟨rfl, hw, ?_⟩
      rw [ho, adj_none rfl, adj_congr (u' := fun _ => 0) (v' := fun _ => 0) (s' := fun _ => 0) fun i _ => ⟨by rw [ofD_nil]; rfl, rfl, by rw [ofD_nil]⟩]
      exact adj_zero.symm
  · have hfit := part_fit hp
    have key := way_adj (w := o.world) (al := o.allocs) (l := d) (k := c) (f := 2) (t := 3) (r := 1) (u := fun i => ofD d i - ofD c i) (v := fun i => -ofD d i) (s := fun i => ofD c i) hp (by decide) (by decide) (.inl (by decide)) (by decide) (by decide)
      (by rw [ho, adj_len]; exact hld_amt h) (by rw [ho, adj_len]; exact part_rest h hp (by decide) (by decide) (by decide)) (hld_len h) hd
      (fun i _ => ⟨by rw [of_books hfit i (q := 1) (by decide) (by decide) (by decide) (.inl (by decide)) (by omega)]; simp, by rw [of_books hfit i (q := 2) (by decide) (by decide) (by decide) (.inl (by decide)) (by omega)]; simp, by rw [of_books hfit i (q := 3) (by decide) (by decide) (by decide) (.inl (by decide)) (by omega)]; simp⟩)
      (fun i a ha => by
        rw [ho] at ha
        have hi := (List.getElem?_eq_some_iff.1 ha).1
        rw [adj_len] at hi
        have hb := List.getElem?_eq_getElem hi
        rw [adj_at hb] at ha
        injection ha with ha
        subst ha
        have h1 := hld_of h hb
        have h2 := (sol_le h.sol).2 i _ hb
        unfold adjOne
        simp only
        omega)
      (fun i a ha => by
        rw [ho] at ha
        have hi := (List.getElem?_eq_some_iff.1 ha).1
        rw [adj_len] at hi
        have hb := List.getElem?_eq_getElem hi
        rw [adj_at hb] at ha
        injection ha with ha
        subst ha
        have h1 := hld_of h hb
        have h2 := (sol_le h.sol).2 i _ hb
        have h3 := part_of i hp
        unfold adjOne
        simp only
        omega)
    have hl : legsD d c 2 3 1 ≠ [] := fun e => by
      cases d with
      | nil => exact hd rfl
      | cons x l => cases c with
        | nil => exact hp.elim
        | cons y k =>
          have := legs_some 2 3 1 (d := x) (c := y) (l := l) (k := k) (by have := hld_amt h x (List.mem_cons_self ..); omega)
          rw [e] at this
          simp at this
    rw [if_neg hl, if_neg hl]
    refine ⟨key.1, key.2.1.trans hw, key.2.2.trans ?_⟩
    rw [ho, adj_adj]
    exact adj_congr fun i _ => ⟨by omega, by omega, by omega⟩
end Go.Proofs.YtjcndgopijpibaaGreat.Bok
/- Book: what is so behind any transactions from the first one on (mathematics). -/
namespace Go.Proofs.YtjcndgopijpibaaGreat.Bok
open Go.RowKit
open Mon (fitsB fitsB_iff addE addN)
open Tre (inI Al over overFrom overAt useE useN amounts path)
open Led
open Drw
open Job (Jb findI firstId)
open Ent (Tx)
open Snp (Sn)
set_option linter.unusedVariables false
def Apart (l : List Jb) : Prop := l.Pairwise fun x y => x.id ≠ y.id
theorem apart_map {l : List Jb} : Apart l ↔ (l.map (·.id)).Pairwise (· ≠ ·) := by unfold Apart; rw [List.pairwise_map]
theorem apart_set {l : List Jb} {n : Nat} {j x : Jb} (h : Apart l) (hj : l[n]? = some j) (hx : x.id = j.id) : Apart (l.set n x) := by
  rw [apart_map] at h ⊢
  obtain ⟨hn, e⟩ := List.getElem?_eq_some_iff.1 hj
  have e2 : (l.set n x).map (·.id) = l.map (·.id) := by
    rw [List.map_set, hx, ← e]
    have := List.set_getElem_self (show n < (l.map (·.id)).length by simpa using hn)
    simpa using this
  rw [e2]; exact h
theorem first_at : ∀ {l : List Jb} {n : Nat} {j : Jb}, Apart l → l[n]? = some j → firstId j.id l = some n
  | x :: l, 0, j, h, hj => by
    simp at hj; subst hj
    simp [firstId]
  | x :: l, n + 1, j, h, hj => by
    rw [List.getElem?_cons_succ] at hj
    have hne : x.id ≠ j.id := (List.pairwise_cons.1 h).1 j (List.mem_of_getElem? hj)
    rw [firstId, if_neg hne, first_at (List.pairwise_cons.1 h).2 hj]; rfl
theorem findI_at {l : List Jb} {n : Nat} {j : Jb} (h : Apart l) (hj : l[n]? = some j) : findI l j.id = (n : Nat) := by
  unfold findI
  rw [first_at h hj]
theorem jobJ_id (s : Sn) (k now : Int) (a : List Int) (j : Jb) : (jobJ s k now a j).id = j.id := by
  unfold jobJ
  repeat' split
  all_goals rfl
theorem kept_sub (l : List Jb) : (kept l).Sublist l := by
  unfold kept
  split
  · cases bestJ l with
    | none => exact List.Sublist.refl _
    | some k => exact List.eraseIdx_sublist ..
  · exact List.Sublist.refl _
structure Good (s : Sn) : Prop where
  sol : Sol s.world s.allocs
  over : over s.funds s.allocs < 0
  ids : Apart s.jobs
  low : ∀ j ∈ s.jobs, j.id < s.next
theorem good_new : Good newS := ⟨sol_none, by decide, List.Pairwise.nil, fun j hj => by cases hj⟩
theorem kind_jobs {s : Sn} {t : Tx} (g : Good s) : Apart (kindS s t).jobs ∧ ∀ j ∈ (kindS s t).jobs, j.id < (kindS s t).next := by
  unfold kindS
  by_cases k7 : t.kind < 7
  · rw [if_pos k7]
    unfold bankS
    repeat' split
    all_goals exact ⟨g.ids, g.low⟩
  rw [if_neg k7]
  by_cases k8 : t.kind = 7
  · rw [if_pos k8]
    unfold submitS
    refine ⟨List.pairwise_append.2 ⟨g.ids.sublist (kept_sub _), List.pairwise_singleton _ _, fun x hx y hy => ?_⟩, fun j hj => ?_⟩
    · rw [List.mem_singleton] at hy; subst hy
      have := g.low x ((kept_sub _).subset hx)
      unfold newJ
      simp only
      omega
    · rcases List.mem_append.1 hj with hj | hj
      · have := g.low j ((kept_sub _).subset hj)
        simp only
        omega
      · rw [List.mem_singleton] at hj; subst hj
        unfold newJ
        simp only
        omega
  rw [if_neg k8]
  by_cases k15 : t.kind < 15
  · rw [if_pos k15]
    unfold jobsS
    split
    · exact ⟨g.ids.sublist (List.eraseIdx_sublist ..), fun j hj => g.low j ((List.eraseIdx_sublist ..).subset hj)⟩
    · obtain ⟨n, hn⟩ : ∃ n, n = (findI s.jobs (ag t.args 0)).toNat := ⟨_, rfl⟩
      have ha : atJ s t.args = s.jobs.getD n zeroJ := by unfold atJ; rw [hn]
      simp only
      rw [← hn]
      cases hj : s.jobs[n]? with
      | none =>
        rw [List.set_eq_of_length_le (by simpa using hj)]
        exact ⟨g.ids, g.low⟩
      | some j =>
        have ha2 : atJ s t.args = j := by rw [ha]; simp [List.getD, hj]
        rw [ha2]
        refine ⟨apart_set g.ids hj (jobJ_id ..), fun x hx => ?_⟩
        rcases List.mem_or_eq_of_mem_set hx with hx | hx
        · exact g.low x hx
        · rw [hx, jobJ_id]; exact g.low j (List.mem_of_getElem? hj)
  rw [if_neg k15]; exact ⟨g.ids, g.low⟩
theorem posted_rest (o : Sn) (l : List Lg) : (posted o l).jobs = o.jobs ∧ (posted o l).next = o.next ∧ (posted o l).funds = o.funds ∧ (posted o l).keys = o.keys ∧ (posted o l).seq = o.seq := by
  unfold posted
  split <;> exact ⟨rfl, rfl, rfl, rfl, rfl⟩
theorem do_good {s : Sn} {t : Tx} (h : doE s t = 0) (g : Good s) : Good (doS s t) := by
  have h1 := do_sol h g.sol
  have h5 := (do_parts h).2.2.2.2
  obtain ⟨h2, h3⟩ := kind_jobs (t := t) g
  obtain ⟨e1, e2, e3, e4, e5⟩ := posted_rest (kindS s t) (kindL s t)
  rw [doS_ok h] at h1 ⊢
  refine ⟨h1, h5, ?_, ?_⟩
  · show Apart (posted (kindS s t) (kindL s t)).jobs
    rw [e1]; exact h2
  · show ∀ j ∈ (posted (kindS s t) (kindL s t)).jobs, j.id < (posted (kindS s t) (kindL s t)).next
    rw [e1, e2]; exact h3
theorem play_good (l : List Tx) : Good (playS l) := by
  unfold playS
  suffices h : ∀ (l : List Tx) (s : Sn), Good s → Good (l.foldl stepS s) from h l _ good_new
  intro l
  induction l with
  | nil => exact fun s h => h
  | cons t l ih =>
    intro s h
    rw [List.foldl_cons]
    refine ih _ ?_
    unfold stepS
    by_cases he : doE s t = 0
    · rw [if_pos he]; exact do_good he h
    · rw [if_neg he]; exact h
def Less : List Al → List Al → Prop
  | [], [] => True
  | a :: l, b :: m => (b.fund = a.fund ∧ 0 ≤ b.lien ∧ 0 ≤ b.spent ∧ b.lien + b.spent ≤ a.lien + a.spent) ∧ Less l m
  | _, _ => False
theorem amounts_cons (l : List Tre.Fd) (a : Al) (al : List Al) (f : Int) : amounts l (a :: al) f = (if (path l a.fund).contains f then [a.lien, a.spent] else []) ++ amounts l al f := by
  unfold amounts
  rw [List.flatMap_cons]
theorem amounts_less (l : List Tre.Fd) (f : Int) : ∀ {al bl : List Al}, Less al bl → (∀ x ∈ amounts l bl f, 0 ≤ x) ∧ (amounts l bl f).sum ≤ (amounts l al f).sum
  | [], [], _ => ⟨fun x hx => by simp [amounts] at hx, Int.le_refl _⟩
  | a :: al, b :: bl, h => by
    obtain ⟨i1, i2⟩ := amounts_less l f h.2
    obtain ⟨⟨e, h1, h2, h3⟩, _⟩ := h
    rw [amounts_cons, amounts_cons, e]
    by_cases hc : (path l a.fund).contains f = true
    · rw [if_pos hc, if_pos hc]
      refine ⟨fun x hx => ?_, ?_⟩
      · rcases List.mem_append.1 hx with hx | hx
        · simp at hx
          rcases hx with rfl | rfl <;> assumption
        · exact i1 x hx
      · simp only [List.sum_append, List.sum_cons, List.sum_nil]
        omega
    · rw [if_neg hc, if_neg hc]
      exact ⟨by simpa using i1, by simpa using i2⟩
  | [], _ :: _, h => h.elim
  | _ :: _, [], h => h.elim
theorem amounts_le (l : List Tre.Fd) (f : Int) : ∀ {al : List Al}, (∀ a ∈ al, 0 ≤ a.avail ∧ 0 ≤ a.lien ∧ 0 ≤ a.spent) → (amounts l al f).sum ≤ (whole al).sum
  | [], _ => by simp [amounts, whole]
  | a :: al, h => by
    have ih := amounts_le l f (al := al) fun x hx => h x (List.mem_cons_of_mem _ hx)
    obtain ⟨h1, h2, h3⟩ := h a (List.mem_cons_self ..)
    rw [amounts_cons]
    unfold whole at *
    rw [List.map_cons, List.sum_cons, List.sum_append]
    split
    · simp only [List.sum_cons, List.sum_nil]; omega
    · simp only [List.sum_nil]; omega
theorem add_small {l : List Int} (h : ∀ x ∈ l, 0 ≤ x) (hs : l.sum ≤ 1152921504606846976) : addE l = 0 := by
  rw [addE_iff]
  refine ⟨fun x hx => fitsB_iff.2 ?_, fun k _ => fitsB_iff.2 ?_⟩
  · have := mem_le_sum h hx
    have := h x hx
    omega
  · have := sum_take_pos l (k + 1) h
    omega
theorem over_less {l : List Tre.Fd} {al bl : List Al} (h : Less al bl) (hb : (whole bl).sum ≤ 1152921504606846976) (hp : ∀ b ∈ bl, 0 ≤ b.avail ∧ 0 ≤ b.lien ∧ 0 ≤ b.spent) (ho : over l al < 0) : over l bl < 0 := by
  have key : ∀ (i : Nat) (x : Tre.Fd), l[i]? = some x → overAt l al i x = false → overAt l bl i x = false := fun i x hx ha => by
    have hi := (List.getElem?_eq_some_iff.1 hx).1
    have hr : 0 ≤ (i : Int) ∧ (i : Int) < l.length := by omega
    obtain ⟨n1, n2⟩ := amounts_less l (i : Int) h
    have n3 := amounts_le l (i : Int) hp
    have e1 : addE (amounts l bl i) = 0 := add_small n1 (by omega)
    unfold overAt useE useN at ha ⊢
    rw [if_pos hr, if_pos hr] at ha ⊢
    rw [e1, addN_sum e1]
    by_cases hl : 0 < x.lim
    · simp [hl] at ha ⊢
      obtain ⟨a1, a2⟩ := ha
      rw [addN_sum a1] at a2
      omega
    · simp [hl]
  unfold over at ho ⊢
  suffices hh : ∀ n i, overFrom l al n i < 0 → overFrom l bl n i < 0 from hh _ _ ho
  intro n
  induction n with
  | zero => intro i h; exact h
  | succ n ih =>
    intro i h
    unfold overFrom at h ⊢
    cases hx : l[i]? with
    | none => simp
    | some x =>
      rw [hx] at h
      simp only at h ⊢
      by_cases ha : overAt l al i x = true
      · rw [if_pos ha] at h; omega
      · rw [if_neg ha] at h
        rw [key i x hx (by simpa using ha)]
        exact ih _ h
theorem range_one (n : Nat) (v : Nat → Int) : ((List.range (n + 1)).map v).sum = v 0 + ((List.range n).map fun i => v (i + 1)).sum := by
  rw [List.range_succ_eq_map, List.map_cons, List.sum_cons, List.map_map]; rfl
theorem adjFrom_sums (u v s : Nat → Int) : ∀ (al : List Al) (i : Nat), ((adjFrom u v s i al).map (·.lien)).sum = (al.map (·.lien)).sum + ((List.range al.length).map fun k => v (i + k)).sum ∧ ((adjFrom u v s i al).map (·.spent)).sum = (al.map (·.spent)).sum + ((List.range al.length).map fun k => s (i + k)).sum
  | [], i => by simp [adjFrom]
  | a :: al, i => by
    obtain ⟨h1, h2⟩ := adjFrom_sums u v s al (i + 1)
    have e : ∀ f : Nat → Int, ((List.range al.length).map fun k => f (i + (k + 1))) = (List.range al.length).map fun k => f (i + 1 + k) := fun f => by
      refine List.map_congr_left fun k _ => ?_
      rw [show i + (k + 1) = i + 1 + k by omega]
    rw [adjFrom, List.map_cons, List.map_cons, List.map_cons, List.map_cons, List.sum_cons, List.sum_cons, List.sum_cons, List.sum_cons, h1, h2, List.length_cons, range_one, range_one, e v, e s]
    unfold adjOne
    simp only [Nat.add_zero]
    omega
def lienS (al : List Al) : Int := (al.map (·.lien)).sum
def spentS (al : List Al) : Int := (al.map (·.spent)).sum
theorem adj_sums (u v s : Nat → Int) (al : List Al) : lienS (adj u v s al) = lienS al + ((List.range al.length).map v).sum ∧ spentS (adj u v s al) = spentS al + ((List.range al.length).map s).sum := by
  have := adjFrom_sums u v s al 0
  simp only [Nat.zero_add] at this
  exact this
theorem range_zero (n : Nat) : ((List.range n).map fun _ => (0 : Int)).sum = 0 := by
  induction n with
  | zero => rfl
  | succ n ih => rw [range_one, ih]; rfl
end Go.Proofs.YtjcndgopijpibaaGreat.Bok
/- Book: a job starts, comes back, ends (mathematics). -/
namespace Go.Proofs.YtjcndgopijpibaaGreat.Bok
open Go.RowKit
open Mon (fitsB fitsB_iff addE addN costE costN mulE mulN mulF foldF outE outN)
open Tre (inI Al over)
open Led
open Drw
open Job (Jb findI firstId)
open Ent (Tx)
open Snp (Sn)
set_option linter.unusedVariables false
theorem cost_ok {a b c : Int} (h : costE a b c = 0) : (0 ≤ a ∧ 0 ≤ b ∧ 0 ≤ c) ∧ a ≤ 1152921504606846976 ∧ b ≤ 1152921504606846976 ∧ c ≤ 1152921504606846976 ∧ a * b ≤ 1152921504606846976 ∧ a * b * c ≤ 1152921504606846976 := by
  unfold costE at h
  by_cases hn : a < 0 ∨ b < 0 ∨ c < 0
  · rw [if_pos hn] at h; cases h
  rw [if_neg hn] at h
  unfold mulE mulF outE at h
  simp only [foldF, Int.one_mul] at h
  by_cases h1 : fitsB a = true ∧ fitsB a = true
  · rw [if_pos h1] at h
    by_cases h2 : fitsB b = true ∧ fitsB (a * b) = true
    · rw [if_pos h2] at h
      by_cases h3 : fitsB c = true ∧ fitsB (a * b * c) = true
      · have q1 := fitsB_iff.1 h1.1
        have q2 := fitsB_iff.1 h2.1
        have q3 := fitsB_iff.1 h2.2
        have q4 := fitsB_iff.1 h3.1
        have q5 := fitsB_iff.1 h3.2
        exact ⟨by omega, q1.2, q2.2, q4.2, q3.2, q5.2⟩
      · rw [if_neg h3] at h; cases h
    · rw [if_neg h2] at h; cases h
  · rw [if_neg h1] at h; cases h
theorem cost_of {a b c : Int} (h : (0 ≤ a ∧ 0 ≤ b ∧ 0 ≤ c) ∧ a ≤ 1152921504606846976 ∧ b ≤ 1152921504606846976 ∧ c ≤ 1152921504606846976 ∧ a * b ≤ 1152921504606846976 ∧ a * b * c ≤ 1152921504606846976) : costE a b c = 0 ∧ costN a b c = a * b * c := by
  obtain ⟨⟨h1, h2, h3⟩, h4, h5, h6, h7, h8⟩ := h
  have g1 := Int.mul_nonneg h1 h2
  have g2 := Int.mul_nonneg g1 h3
  have hn : ¬ (a < 0 ∨ b < 0 ∨ c < 0) := by omega
  unfold costE costN
  rw [if_neg hn, if_neg hn]
  have f1 : fitsB a = true := fitsB_iff.2 (by omega)
  have f2 : fitsB b = true := fitsB_iff.2 (by omega)
  have f3 : fitsB c = true := fitsB_iff.2 (by omega)
  have f4 : fitsB (a * b) = true := fitsB_iff.2 (by omega)
  have f5 : fitsB (a * b * c) = true := fitsB_iff.2 (by omega)
  unfold mulE mulN mulF
  simp only [foldF, Int.one_mul]
  rw [if_pos ⟨f1, f1⟩, if_pos ⟨f2, f4⟩, if_pos ⟨f3, f5⟩]
  exact ⟨rfl, rfl⟩
theorem cost_less {a b c k : Int} (h : costE a b c = 0) (hk : 0 ≤ k ∧ k ≤ b) : costE a k c = 0 ∧ costN a k c = a * k * c ∧ costN a b c = a * b * c ∧ 0 ≤ a * k * c ∧ a * k * c ≤ a * b * c ∧ 0 ≤ a * k ∧ a * k ≤ a * b := by
  have hc := cost_ok h
  obtain ⟨⟨h1, h2, h3⟩, h4, h5, h6, h7, h8⟩ := hc
  have g1 := Int.mul_nonneg h1 hk.1
  have g2 := Int.mul_nonneg g1 h3
  have g3 : a * k ≤ a * b := Int.mul_le_mul_of_nonneg_left hk.2 h1
  have g4 : a * k * c ≤ a * b * c := Int.mul_le_mul_of_nonneg_right g3 h3
  obtain ⟨e1, e2⟩ := cost_of (a := a) (b := k) (c := c) ⟨⟨h1, hk.1, h3⟩, h4, by omega, h6, by omega, by omega⟩
  exact ⟨e1, e2, (cost_of ⟨⟨h1, h2, h3⟩, h4, h5, h6, h7, h8⟩).2, g2, g4, g1, g3⟩
def txS (id mask now : Int) : Tx := ⟨0, now, 14, ⟨#[]⟩, ⟨#[]⟩, [id, mask], []⟩
def txR (id : Int) : Tx := ⟨0, 0, 11, ⟨#[]⟩, ⟨#[]⟩, [id], []⟩
def txE (id k : Int) : Tx := ⟨0, 0, 12, ⟨#[]⟩, ⟨#[]⟩, [id, k], []⟩
structure Started (S : Sn) (i : Nat) (j : Jb) (d : List Dw) (n : Sn) : Prop where
  hld : Hld S.world S.allocs d
  sum : (amtsD d).sum = costN j.nodes j.wall j.price
  cost : costE j.nodes j.wall j.price = 0
  world : n.world = S.world
  allocs : n.allocs = adj (fun i => -ofD d i) (fun i => ofD d i) (fun _ => 0) S.allocs
  funds : n.funds = S.funds
  job : ∃ jn : Jb, n.jobs[i]? = some jn ∧ jn.id = j.id ∧ jn.state = 3 ∧ jn.draws = d ∧ jn.nodes = j.nodes ∧ jn.wall = j.wall ∧ jn.price = j.price
  good : Good n
theorem start_of {S : Sn} {i : Nat} {j : Jb} {mask now : Int} (g : Good S) (hm : MayS S) (hj : S.jobs[i]? = some j) (he : doE S (txS j.id mask now) = 0) : ∃ d, Started S i j d (doS S (txS j.id mask now)) := by
  have hg := do_good he g
  obtain ⟨p1, p2, p3, p4, p5⟩ := do_parts he
  have hk : kindE S (txS j.id mask now) = jobsE S 14 now [j.id, mask] := rfl
  rw [hk] at p3
  obtain ⟨n, j', e1, e2, e3, e4, e5, e6⟩ := jobsE_parts p3
  have hfi := findI_at g.ids hj
  have hag : ag [j.id, mask] 0 = j.id := rfl
  rw [hag, hfi] at e1
  obtain rfl : i = n := by omega
  rw [hj] at e2
  injection e2 with e2
  subst e2
  have hE : costE j.nodes j.wall j.price = 0 ∧ drawsE S.funds S.allocs j.fund (costN j.nodes j.wall j.price) now = 0 := by
    unfold jobE at e6
    rw [if_neg (by decide), if_neg (by decide), if_pos rfl] at e6
    split at e6
    · cases e6
    split at e6
    · cases e6
    split at e6
    · next h => exact absurd e6 h
    · next h => exact ⟨by simpa using h, e6⟩
  obtain ⟨d, hd⟩ : ∃ d, d = drawsL S.funds S.allocs j.fund (costN j.nodes j.wall j.price) now := ⟨_, rfl⟩
  have hL : kindL S (txS j.id mask now) = legsW d d 1 2 0 := by
    show jobL S 14 now [j.id, mask] (atJ S [j.id, mask]) = _
    rw [e4, hd]; rfl
  have hKs : kindS S (txS j.id mask now) = { S with jobs := S.jobs.set i { j with state := 3, start := now, mask := mask, draws := d } } := by
    show jobsS S 14 now [j.id, mask] = _
    unfold jobsS
    rw [if_neg (by decide), e4, hag, hfi, hd]; rfl
  have hH : Hld S.world S.allocs d := ⟨g.sol, by rw [hd]; exact draws_held hE.2, hm.1.2.1⟩
  have hi := (List.getElem?_eq_some_iff.1 hj).1
  rw [hL] at p4
  rw [hKs] at p4
  have hpl := posted_lien (o := { S with jobs := S.jobs.set i { j with state := 3, start := now, mask := mask, draws := d } }) hH p4
  have hpr := posted_rest { S with jobs := S.jobs.set i { j with state := 3, start := now, mask := mask, draws := d } } (legsW d d 1 2 0)
  have hdo := doS_ok he
  unfold midS at hdo
  rw [hKs, hL] at hdo
  refine ⟨d, hH, by rw [hd]; exact (draws_ok hE.2).2.2.2, hE.1, by rw [hdo]; exact hpl.1, by rw [hdo]; exact hpl.2, by rw [hdo]; exact hpr.2.2.1, ⟨{ j with state := 3, start := now, mask := mask, draws := d }, ?_, rfl, rfl, rfl, rfl, rfl, rfl⟩, hg⟩
  rw [hdo]
  show (posted _ _).jobs[i]? = _
  rw [hpr.1]
  simp [hi]
theorem do_of {s : Sn} {t : Tx} (h1 : formB t = false) (h2 : t.key.size = 0) (h3 : kindE s t = 0) (h4 : postedE (kindS s t) (kindL s t) = 0) (h5 : over (midS s t).funds (midS s t).allocs < 0) : doE s t = 0 := by
  unfold doE
  rw [if_neg (by rw [h1]; simp), if_neg (by rw [h2]; simp), if_neg (by simpa using h3), if_neg (by simpa using h4), if_neg (by omega)]
theorem job_kind {n : Sn} {i : Nat} {jn : Jb} {k now : Int} {a : List Int} (g : Good n) (hj : n.jobs[i]? = some jn) (ha : ag a 0 = jn.id) (hk : mayK k jn.state = true) (he : jobE n k now a jn = 0) : jobsE n k now a = 0 ∧ atJ n a = jn ∧ (findI n.jobs (ag a 0)).toNat = i := by
  have hfi := findI_at g.ids hj
  rw [← ha] at hfi
  have hat : atJ n a = jn := by
    unfold atJ
    rw [hfi]
    simp [List.getD, hj]
  refine ⟨?_, hat, by rw [hfi]; rfl⟩
  unfold jobsE
  rw [if_neg (by omega), hat, hk, if_pos rfl]
  exact he
theorem back_of {S n : Sn} {i : Nat} {j : Jb} {d : List Dw} (g : Good S) (h : Started S i j d n) : doE n (txR j.id) = 0 ∧ (doS n (txR j.id)).allocs = S.allocs ∧ (doS n (txR j.id)).world = S.world := by
  obtain ⟨jn, hj, q1, q2, q3, q4, q5, q6⟩ := h.job
  obtain ⟨k1, k2, k3⟩ := job_kind (k := 11) (now := 0) (a := [j.id]) h.good hj (by rw [q1]; rfl) (by rw [q2]; decide) rfl
  have hL : kindL n (txR j.id) = legsW d d 2 1 0 := by
    show jobL n 11 0 [j.id] (atJ n [j.id]) = _
    rw [k2, ← q3]; rfl
  obtain ⟨x, hx⟩ : ∃ x, x = jobJ n 11 0 [j.id] jn := ⟨_, rfl⟩
  have hKs : kindS n (txR j.id) = { n with jobs := n.jobs.set i x } := by
    show jobsS n 11 0 [j.id] = _
    unfold jobsS
    rw [if_neg (by decide), k2, k3, hx]
  have hp := posted_back (o := { n with jobs := n.jobs.set i x }) h.hld h.world h.allocs
  have hpr := posted_rest { n with jobs := n.jobs.set i x } (legsW d d 2 1 0)
  have he : doE n (txR j.id) = 0 := do_of rfl rfl k1 (by rw [hKs, hL]; exact hp.1) (by
    unfold midS
    rw [hKs, hL, hp.2.2, hpr.2.2.1]
    show over n.funds S.allocs < 0
    rw [h.funds]; exact g.over)
  have hdo := doS_ok he
  unfold midS at hdo
  rw [hKs, hL] at hdo
  exact ⟨he, by rw [hdo]; exact hp.2.2, by rw [hdo]; exact hp.2.1⟩
theorem less_adj {Y : List Al} {d c : List Dw} (hd : ∀ (i : Nat) (a : Al), Y[i]? = some a → 0 ≤ a.lien ∧ 0 ≤ a.spent) (hp : Pair Part d c) : Less (adj (fun i => -ofD d i) (fun i => ofD d i) (fun _ => 0) Y) (adj (fun i => -ofD c i) (fun _ => 0) (fun i => ofD c i) Y) := by
  unfold adj
  suffices h : ∀ (al : List Al) (k : Nat), (∀ a ∈ al, 0 ≤ a.lien ∧ 0 ≤ a.spent) → Less (adjFrom (fun i => -ofD d i) (fun i => ofD d i) (fun _ => 0) k al) (adjFrom (fun i => -ofD c i) (fun _ => 0) (fun i => ofD c i) k al) from h Y 0 fun a ha => by
    obtain ⟨i, hi⟩ := List.getElem?_of_mem ha
    exact hd i a hi
  intro al
  induction al with
  | nil => intro k _; trivial
  | cons a al ih =>
    intro k h
    have h0 := h a (List.mem_cons_self ..)
    have hpo := part_of k hp
    refine ⟨⟨rfl, ?_, ?_, ?_⟩, ih (k + 1) fun x hx => h x (List.mem_cons_of_mem _ hx)⟩
    all_goals (unfold adjOne; simp only; omega)
theorem end_of {S n : Sn} {i : Nat} {j : Jb} {d : List Dw} {k : Int} (g : Good S) (h : Started S i j d n) (hk : 0 ≤ k ∧ k ≤ j.wall) :
    doE n (txE j.id k) = 0 ∧ lienS (doS n (txE j.id k)).allocs = lienS S.allocs ∧ spentS (doS n (txE j.id k)).allocs = spentS S.allocs + j.nodes * k * j.price ∧ doE (doS n (txE j.id k)) (txE j.id k) = 9 := by
  obtain ⟨jn, hj, q1, q2, q3, q4, q5, q6⟩ := h.job
  obtain ⟨c1, c2, c3, c4, c5, c6, c7⟩ := cost_less h.cost hk
  have hdn : ∀ x ∈ d, 0 ≤ x.amt := fun x hx => by have := hld_amt h.hld x hx; omega
  have hch : chargeE d (j.nodes * k * j.price) = 0 ∧ Pair Part d (chargeL d (j.nodes * k * j.price)) ∧ (amtsD (chargeL d (j.nodes * k * j.price))).sum = j.nodes * k * j.price := by
    rcases charge_cases hdn (j.nodes * k * j.price) with ⟨e1, _, e2, e3⟩ | ⟨_, e⟩
    · exact ⟨e1, e2, e3⟩
    · rw [h.sum, c3] at e; omega
  obtain ⟨c, hc⟩ : ∃ c, c = chargeL d (j.nodes * k * j.price) := ⟨_, rfl⟩
  rw [← hc] at hch
  have hEj : jobE n 12 0 [j.id, k] jn = 0 := by
    unfold jobE
    rw [if_pos rfl, q3, q4, q5, q6]
    show (if k < 0 ∨ j.wall < k then (1 : Int) else if costE j.nodes k j.price ≠ 0 then costE j.nodes k j.price else chargeE d (costN j.nodes k j.price)) = 0
    rw [if_neg (by omega), if_neg (by simpa using c1), c2]
    exact hch.1
  obtain ⟨k1, k2, k3⟩ := job_kind (k := 12) (now := 0) (a := [j.id, k]) h.good hj (by rw [q1]; rfl) (by rw [q2]; decide) hEj
  have hL : kindL n (txE j.id k) = legsW d c 2 3 1 := by
    show jobL n 12 0 [j.id, k] (atJ n [j.id, k]) = _
    rw [k2]
    show legsW jn.draws (chargeL jn.draws (costN jn.nodes k jn.price)) 2 3 1 = _
    rw [q3, q4, q6, c2, hc]
  obtain ⟨x, hx⟩ : ∃ x, x = jobJ n 12 0 [j.id, k] jn := ⟨_, rfl⟩
  have hxs : x.state = 4 ∧ x.id = j.id := ⟨by rw [hx]; rfl, by rw [hx, jobJ_id]; exact q1⟩
  have hKs : kindS n (txE j.id k) = { n with jobs := n.jobs.set i x } := by
    show jobsS n 12 0 [j.id, k] = _
    unfold jobsS
    rw [if_neg (by decide), k2, k3, hx]
  have hp := posted_spend (o := { n with jobs := n.jobs.set i x }) h.hld hch.2.1 h.world h.allocs
  have hpr := posted_rest { n with jobs := n.jobs.set i x } (legsW d c 2 3 1)
  have hso : Sol (posted { n with jobs := n.jobs.set i x } (legsW d c 2 3 1)).world (posted { n with jobs := n.jobs.set i x } (legsW d c 2 3 1)).allocs := by
    have hs : Sol n.world n.allocs := h.good.sol
    have hpe := hp.1
    unfold posted postedE at *
    by_cases hl : legsW d c 2 3 1 = []
    · rw [if_pos hl]; exact hs
    · rw [if_neg hl] at hpe ⊢
      exact sol_post hs hpe
  have he : doE n (txE j.id k) = 0 := do_of rfl rfl k1 (by rw [hKs, hL]; exact hp.1) (by
    unfold midS
    rw [hKs, hL]
    have h1 := sol_le hso
    rw [hp.2.2] at h1
    rw [hp.2.2, hpr.2.2.1]
    show over n.funds _ < 0
    refine over_less (al := n.allocs) ?_ h1.1 (fun b hb => ?_) h.good.over
    · rw [h.allocs]
      exact less_adj (fun i a ha => (g.sol.pos i a ha).2) hch.2.1
    · obtain ⟨q, hq⟩ := List.getElem?_of_mem hb
      have := h1.2 q b hq
      exact ⟨this.1, this.2.1, this.2.2.1⟩)
  have hdo := doS_ok he
  unfold midS at hdo
  rw [hKs, hL] at hdo
  have hal : (doS n (txE j.id k)).allocs = adj (fun i => -ofD c i) (fun _ => 0) (fun i => ofD c i) S.allocs := by rw [hdo]; exact hp.2.2
  have hcs := adj_sums (fun i => -ofD c i) (fun _ => 0) (fun i => ofD c i) S.allocs
  have hcm : ∀ y ∈ c, 0 ≤ y.alloc ∧ y.alloc < (S.allocs.length : Int) := fun y hy => by
    obtain ⟨x, hx, e, _⟩ := part_mem hch.2.1 y hy
    have := hld_amt h.hld x hx
    omega
  refine ⟨he, by rw [hal, hcs.1, range_zero]; omega, by rw [hal, hcs.2, ofD_sum hcm, hch.2.2], ?_⟩
  have hgn := do_good he h.good
  have hjn : (doS n (txE j.id k)).jobs[i]? = some x := by
    rw [hdo]
    show (posted _ _).jobs[i]? = _
    rw [hpr.1]
    simp [(List.getElem?_eq_some_iff.1 hj).1]
  have hfi := findI_at hgn.ids hjn
  rw [hxs.2] at hfi
  unfold doE
  rw [if_neg (by rw [show formB (txE j.id k) = false from rfl]; simp), if_neg (fun h => h.1 rfl)]
  have hke : kindE (doS n (txE j.id k)) (txE j.id k) = 9 := by
    show jobsE (doS n (txE j.id k)) 12 0 [j.id, k] = 9
    unfold jobsE
    rw [show ag [j.id, k] 0 = j.id from rfl, hfi, if_neg (by omega)]
    have hat : atJ (doS n (txE j.id k)) [j.id, k] = x := by
      unfold atJ
      rw [show ag [j.id, k] 0 = j.id from rfl, hfi]
      simp [List.getD, hjn]
    rw [hat, hxs.1]
    rfl
  rw [hke, if_pos (by decide)]
theorem start_sums {S n : Sn} {i : Nat} {j : Jb} {d : List Dw} (h : Started S i j d n) : lienS n.allocs = lienS S.allocs + j.nodes * j.wall * j.price ∧ spentS n.allocs = spentS S.allocs := by
  have hcs := adj_sums (fun i => -ofD d i) (fun i => ofD d i) (fun _ => 0) S.allocs
  have hcm : ∀ y ∈ d, 0 ≤ y.alloc ∧ y.alloc < (S.allocs.length : Int) := fun y hy => by
    have := hld_amt h.hld y hy
    omega
  have hc := cost_ok h.cost
  rw [h.allocs, hcs.1, hcs.2, ofD_sum hcm, h.sum, (cost_of hc).2, range_zero]
  exact ⟨rfl, by omega⟩
theorem sums_in {w : Int} {al : List Al} (h : Sol w al) : 0 ≤ lienS al ∧ 0 ≤ spentS al ∧ lienS al + spentS al ≤ 1152921504606846976 := by
  have h1 := sol_le h
  have key : ∀ al : List Al, (∀ a ∈ al, 0 ≤ a.avail ∧ 0 ≤ a.lien ∧ 0 ≤ a.spent) → 0 ≤ lienS al ∧ 0 ≤ spentS al ∧ lienS al + spentS al ≤ (whole al).sum := by
    intro al
    induction al with
    | nil => intro _; simp [lienS, spentS, whole]
    | cons a al ih =>
      intro h
      have h0 := h a (List.mem_cons_self ..)
      have ih' := ih fun x hx => h x (List.mem_cons_of_mem _ hx)
      unfold lienS spentS whole at *
      simp only [List.map_cons, List.sum_cons]
      omega
  have := key al fun a ha => by
    obtain ⟨i, hi⟩ := List.getElem?_of_mem ha
    exact h.pos i a hi
  omega
end Go.Proofs.YtjcndgopijpibaaGreat.Bok
/- Tree: sums of what is used: more that is spent, and a fund's parent. -/
namespace Go.Proofs.YtjcndgopijpibaaGreat.Tre
open Mon
set_option linter.unusedVariables false
def part (l : List Fd) (f : Int) (a : Al) : Int := if (path l a.fund).contains f then a.lien + a.spent else 0
end Go.Proofs.YtjcndgopijpibaaGreat.Tre
/- Tree: funds, allocations and lists of numbers in memory (FdMem, Alc). -/
namespace Go.Proofs.YtjcndgopijpibaaGreat.Tre
set_option maxRecDepth 100000
open Go.RowKit
open Go.Sort
open Kit
open Mon
set_option linter.unusedVariables false
end Go.Proofs.YtjcndgopijpibaaGreat.Tre
/- Draw: draws of which there may be legs. -/
namespace Go.Proofs.YtjcndgopijpibaaGreat.Drw
set_option maxRecDepth 100000
open Go.RowKit
open Go.Sort
open Kit
open Mon
open Tre (Al Lst inI Allocs Funds)
set_option linter.unusedVariables false
def Sane (d : Dw) : Prop := 0 ≤ d.alloc ∧ d.alloc ≤ 15 ∧ -1152921504606846976 ≤ d.amt ∧ d.amt ≤ 1152921504606846976
end Go.Proofs.YtjcndgopijpibaaGreat.Drw
