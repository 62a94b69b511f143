/- Cons, the landed: a profile that is what is free beside all that is taken; one more is taken where it fits first (mathematics). -/
import Derived.Test.YtckebhknnocpkaaConMath
import Derived.Test.YtckebhknnocpkaaConMem
import Derived.Test.YtckebhknnocpkaaPrfUp
import Derived.Test.YtckebhknnocpkaaPrfFit
namespace Go.Proofs.Ytckebhknnocpkaa.Cns
open Prf (St Bz busyN newF Nd Tk Pf IsP IsF IsT fitsAt longOf val takeF isP_one isP_ticks isP_congr isT_there isT_len made_isP)
open Esy (T9)
open Go.Proofs.Ytckebhknnocpkaa.Ord (Aq)
set_option linter.unusedVariables false

theorem takenN_same {a b : Int} (hab : a ≤ b) : ∀ {l : List Ta}, (∀ o ∈ l, ¬ (a < o.from_ ∧ o.from_ ≤ b) ∧ ¬ (a < o.to_ ∧ o.to_ ≤ b)) → takenN l a = takenN l b
  | [], _ => rfl
  | o :: l, h => by
    rw [takenN, takenN, takenN_same hab fun x hx => h x (List.mem_cons_of_mem _ hx)]
    obtain ⟨h1, h2⟩ := h o (List.mem_cons_self ..)
    congr 1
    by_cases hc : o.from_ ≤ a ∧ a < o.to_
    · rw [if_pos hc, if_pos (by omega)]
    · rw [if_neg hc, if_neg (by omega)]
/-- All that is taken ends by a tick, and wants what may be. -/
def Bd (M : Int) (tk : List Ta) : Prop := ∀ o ∈ tk, o.from_ ≤ M ∧ o.to_ ≤ M ∧ Nd o.nodes
theorem pf_taken {u total M : Int} {tk : List Ta} {p : List St} (hu : Tk u) (ht : Nd total) (hM : M ≤ 1125899906842624) (hg : Good u tk) (hb : Bd M tk) (hn : tk.length ≤ 400) (h : IsP p (freeT total tk) u) : Pf p := by
  have hu0 := hu.1
  obtain ⟨ts, hts⟩ := isT_there u (tk.map (·.from_) ++ tk.map (·.to_))
  obtain ⟨h1, h2⟩ := made_isP (F := freeT total tk) hts fun a b _ hab hx => by
    unfold freeT
    rw [takenN_same hab fun o ho => ⟨hx _ (List.mem_append_left _ (List.mem_map.2 ⟨o, ho, rfl⟩)), hx _ (List.mem_append_right _ (List.mem_map.2 ⟨o, ho, rfl⟩))⟩]
  have e := isP_one h1 h
  have h3 := isT_len hts
  rw [List.length_append, List.length_map, List.length_map] at h3
  refine ⟨h.norm, by rw [← e]; omega, fun s hs => ?_, fun s hs => ?_⟩
  · obtain ⟨k1, k2, k3⟩ := isP_ticks h s hs
    rcases k3 with k3 | k3
    · rw [k3]; exact hu
    · by_cases hex : ∃ o ∈ tk, o.from_ = s.tick ∨ o.to_ = s.tick
      · obtain ⟨o, ho, e2⟩ := hex
        have := hb o ho
        rcases e2 with e2 | e2
        · exact ⟨by omega, by omega⟩
        · exact ⟨by omega, by omega⟩
      · exfalso
        apply k3
        have e1 : takenN tk (s.tick - 1) = takenN tk s.tick := takenN_same (by omega) fun o ho => ⟨fun ⟨g1, g2⟩ => hex ⟨o, ho, .inl (by omega)⟩, fun ⟨g1, g2⟩ => hex ⟨o, ho, .inr (by omega)⟩⟩
        unfold freeT
        rw [e1]
  · obtain ⟨k1, k2, k3⟩ := isP_ticks h s hs
    rw [k2]
    unfold freeT
    obtain ⟨g1, g2⟩ := takenN_bound (K := 1048576) (by omega) (t := s.tick) fun o ho => (hb o ho).2.2
    have : (tk.length : Int) * 1048576 ≤ 400 * 1048576 := Int.mul_le_mul_of_nonneg_right (by omega) (by omega)
    obtain ⟨t0, t1⟩ := ht
    omega
theorem fit_best {total now nodes long m : Int} {tk : List Ta} {p : List St} {b : Bool} (hp : IsP p (freeT total tk) now) (hl : 1 ≤ long) (hf : IsF p nodes long m b) : IsBest total now tk nodes long (if b = true then some m else none) := by
  have hlo : longOf long = long := by unfold longOf; rw [if_neg (by omega)]
  have hat : ∀ x, now ≤ x → (fitsAt p nodes long x ↔ Fits total tk nodes long x) := fun x hx => by
    unfold fitsAt Fits
    constructor
    · intro h t h1 h2
      have := h t h1 h2
      rwa [hp.fn t (by omega)] at this
    · intro h t h1 h2
      rw [hp.fn t (by omega)]
      exact h t h1 h2
  obtain ⟨f, l', e⟩ := hp.head
  rcases hf with ⟨rfl, a, l2, e2, h1, h2, h3⟩ | ⟨rfl, rfl, h1⟩
  · rw [e] at e2
    injection e2 with e3 e4
    subst e3
    simp only at h1 h3
    rw [hlo] at h2 h3
    rw [if_pos rfl]
    exact ⟨h1, (hat m h1).1 h2, fun x hx hxm hc => h3 x hx hxm ((hat x hx).2 hc)⟩
  · rw [if_neg (by simp)]
    intro x hx hc
    have := h1 _ _ e x hx
    rw [hlo] at this
    exact this ((hat x hx).2 hc)
theorem best_bd {total now nodes long M x : Int} {tk : List Ta} (hnow : now ≤ M) (h : Bd M tk) (hg : Good now tk) (hl : 1 ≤ long) (hb : bestD total now tk nodes long = some x) : now ≤ x ∧ x ≤ M := by
  obtain ⟨h1, -⟩ := least_spec (fitsD total tk nodes long) (candL now tk) none fun x hx => by cases hx
  obtain ⟨-, g2, -, -⟩ := h1 x hb
  have hx : x ∈ candL now tk := by
    rcases g2 with g2 | g2
    · cases g2
    · exact g2
  refine ⟨cand_ge hg x hx, ?_⟩
  rcases List.mem_cons.1 hx with rfl | hx
  · exact hnow
  · obtain ⟨o, ho, rfl⟩ := List.mem_map.1 hx
    exact (h o ho).2.1
/-- Where the profile says it fits is where it is to start. -/
theorem fit_is {total now nodes long m M : Int} {tk : List Ta} {p : List St} {b : Bool} (hg : Good now tk) (hnow : now ≤ M) (hb : Bd M tk) (hn : nodes ≤ total) (hp : IsP p (freeT total tk) now) (hl : 1 ≤ long) (hf : IsF p nodes long m b) : b = true ∧ bestD total now tk nodes long = some m ∧ now ≤ m ∧ m ≤ M := by
  have h := best_one (best_is (total := total) (nodes := nodes) hg hl) (fit_best hp hl hf)
  obtain ⟨x, hx⟩ := best_some hg hl hn
  rw [hx] at h
  cases b with
  | false => cases h
  | true =>
    rw [if_pos rfl] at h
    injection h with h
    subst h
    exact ⟨rfl, hx, best_bd hnow hb hg hl hx⟩

/-! ### Behind the first k of the queue -/

def tk0 (now : Int) (l : List Bz) : List Ta := runT now l
structure Sk (now total : Int) (l : List Bz) (q : List Aq) (rf : List Bool) (k : Nat) (tk : List Ta) (p : List St) (r : List Int) : Prop where
  end_ : endT total now (runT now l) (q.take k) rf = tk
  out : planT total now (runT now l) (q.take k) rf = r
  good : Good now tk
  bd : Bd (562949953421312 + (k : Int) * 1048576) tk
  len : tk.length ≤ l.length + k
  isp : IsP p (freeT total tk) now
theorem runT_bd {now M : Int} (hn : now ≤ M) : ∀ {l : List Bz}, (∀ b ∈ l, b.till ≤ M ∧ Nd b.nodes) → Bd M (runT now l) ∧ (runT now l).length ≤ l.length
  | [], _ => ⟨(fun o ho => by cases ho), Nat.le_refl _⟩
  | b :: l, h => by
    obtain ⟨h1, h2⟩ := runT_bd hn (l := l) fun x hx => h x (List.mem_cons_of_mem _ hx)
    have hb := h b (List.mem_cons_self ..)
    rw [runT]
    split
    · refine ⟨fun o ho => ?_, by rw [List.length_cons, List.length_cons]; omega⟩
      rcases List.mem_cons.1 ho with rfl | ho
      · exact ⟨hn, hb.1, hb.2⟩
      · exact h1 o ho
    · exact ⟨h1, by rw [List.length_cons]; omega⟩
theorem sk_start {now total : Int} {l : List Bz} {q : List Aq} {rf : List Bool} {p : List St} (hnow : T9 now) (hl : ∀ b ∈ l, okD b) (hp : IsP p (newF total l) now) : Sk now total l q rf 0 (runT now l) p [] := by
  obtain ⟨h1, h2⟩ := runT_bd (M := 562949953421312) hnow.2 (l := l) fun b hb => ⟨(hl b hb).1.2, (hl b hb).2⟩
  exact ⟨rfl, rfl, runT_good fun b hb => (hl b hb).2.1, by simpa using h1, by omega, isP_congr hp fun t ht => by unfold newF freeT; rw [runT_free ht]⟩
theorem Sk.pf {now total : Int} {l : List Bz} {q : List Aq} {rf : List Bool} {k : Nat} {tk : List Ta} {p : List St} {r : List Int} (h : Sk now total l q rf k tk p r) (hnow : T9 now) (ht : Nd total) (hl : l.length ≤ 100) (hk : k ≤ 100) : Pf p :=
  pf_taken (M := 562949953421312 + (k : Int) * 1048576) ⟨hnow.1, by have := hnow.2; omega⟩ ht (by omega) h.good h.bd (by have := h.len; omega) h.isp
theorem heads {α : Type} (d : α) : ∀ (l : List α) (k : Nat), (l.drop k).headD d = l.getD k d
  | [], k => by simp
  | x :: l, 0 => rfl
  | x :: l, k + 1 => by rw [List.drop_succ_cons, heads d l k]; simp
theorem sk_skip {now total : Int} {l : List Bz} {q : List Aq} {rf : List Bool} {k : Nat} {tk : List Ta} {p : List St} {r : List Int} {x : Aq} (h : Sk now total l q rf k tk p r) (hx : q[k]? = some x) (hc : (rf.getD k false = true) ∨ total < x.nodes) : Sk now total l q rf (k + 1) tk p (r ++ [-1]) := by
  obtain ⟨hk, e⟩ := List.getElem?_eq_some_iff.1 hx
  have ht : q.take (k + 1) = q.take k ++ [x] := by rw [List.take_succ_eq_append_getElem hk, e]
  have hlen : (q.take k).length = k := by rw [List.length_take]; omega
  obtain ⟨h1, h2⟩ := planT_snoc (total := total) (now := now) x (q.take k) (runT now l) rf
  rw [hlen, h.end_, h.out, ← ht] at h1
  rw [hlen, h.end_, ← ht] at h2
  have hcb : countsB total x (rf.drop k) = false := by
    unfold countsB
    rw [heads]
    rcases hc with hc | hc
    · rw [hc]; rfl
    · rw [decide_eq_false (by omega)]; simp
  have hp : pick total now tk x (rf.drop k) = none := by unfold pick; rw [if_neg (by rw [hcb]; simp)]
  rw [hp] at h1 h2
  exact ⟨h2, h1, h.good, fun o ho => by have := h.bd o ho; refine ⟨by omega, by omega, this.2.2⟩, by have := h.len; omega, h.isp⟩
theorem sk_take {now total : Int} {l : List Bz} {q : List Aq} {rf : List Bool} {k : Nat} {tk : List Ta} {p p' : List St} {r : List Int} {x : Aq} {m : Int} {b : Bool} (h : Sk now total l q rf k tk p r) (hnow : now ≤ 562949953421312) (hx : q[k]? = some x) (hok : okC x) (hr : rf.getD k false = false) (hc : x.nodes ≤ total) (hf : IsF p x.nodes (longW x) m b)
    (hq : ∀ s t, p = s :: t → IsP p' (takeF p m (longW x) x.nodes) s.tick) : Sk now total l q rf (k + 1) (tk ++ [⟨m, m + longW x, x.nodes⟩]) p' (r ++ [m]) := by
  obtain ⟨hk, e⟩ := List.getElem?_eq_some_iff.1 hx
  have ht : q.take (k + 1) = q.take k ++ [x] := by rw [List.take_succ_eq_append_getElem hk, e]
  have hlen : (q.take k).length = k := by rw [List.length_take]; omega
  obtain ⟨h1, h2⟩ := planT_snoc (total := total) (now := now) x (q.take k) (runT now l) rf
  rw [hlen, h.end_, h.out, ← ht] at h1
  rw [hlen, h.end_, ← ht] at h2
  have hcb : countsB total x (rf.drop k) = true := by
    unfold countsB
    rw [heads, hr, decide_eq_true hc]; rfl
  have hlw := longW_pos x
  have hlx : longW x ≤ 1048576 := by unfold longW; have := hok.2.2; split <;> omega
  obtain ⟨-, g1, g2, g3⟩ := fit_is h.good (by omega) h.bd hc h.isp hlw hf
  have hp : pick total now tk x (rf.drop k) = some m := by unfold pick; rw [if_pos hcb]; exact g1
  have hag := after_good (total := total) (x := x) (rf := rf.drop k) h.good hok.1.1
  rw [hp] at h1 h2 hag
  obtain ⟨f, l', e3⟩ := h.isp.head
  refine ⟨h2, h1, hag, fun o ho => ?_, by have := h.len; rw [List.length_append, List.length_singleton]; omega, isP_congr (hq _ _ e3) fun t ht => ?_⟩
  · rcases List.mem_append.1 ho with ho | ho
    · have := h.bd o ho
      refine ⟨by omega, by omega, this.2.2⟩
    · rw [List.mem_singleton] at ho
      subst ho
      refine ⟨by simp only; omega, by simp only; omega, hok.1⟩
  · unfold takeF freeT
    rw [h.isp.fn t ht, takenN_snoc]
    unfold freeT
    simp only
    omega

/-! ### The first place -/

theorem first_some {x : Int} : ∀ (l : List Int) (k : Nat), x ∉ l.take k → l[k]? = some x → firstAt x l = some k
  | [], k, _, h => by simp at h
  | y :: l, 0, _, h => by
    simp at h
    rw [firstAt, if_pos h]
  | y :: l, k + 1, hno, h => by
    rw [List.take_succ_cons, List.mem_cons, not_or] at hno
    rw [firstAt, if_neg (fun e => hno.1 e.symm), first_some l k hno.2 (by simpa using h)]
    rfl
theorem first_none {x : Int} : ∀ {l : List Int}, x ∉ l → firstAt x l = none
  | [], _ => rfl
  | y :: l, hno => by
    rw [List.mem_cons, not_or] at hno
    rw [firstAt, if_neg (fun e => hno.1 e.symm), first_none hno.2]
    rfl
end Go.Proofs.Ytckebhknnocpkaa.Cns
