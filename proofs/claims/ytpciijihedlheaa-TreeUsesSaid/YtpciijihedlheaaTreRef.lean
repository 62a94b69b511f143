/- Tree: the document's Path and Below, as they run. -/
import Derived.Test.YtpciijihedlheaaTreMem
import Derived.Test.YtpciijihedlheaaMonAdd
import Derived.Test.YtpciijihedlheaaRegChn
namespace Go.Proofs.Ytpciijihedlheaa.Tre
set_option maxRecDepth 100000
open Go.RowKit
open Go.Sort
open Kit
open Mon
set_option linter.unusedVariables false
variable {w w' : World}

/-- Numbers in new memory. -/
def NewI (w : World) (base : Nat) (v : Value) (l : List Int) : Prop := ∃ a c, v = .slice a l.length c ∧ IntsL w a l.length c l ∧ ∀ q, a = some q → base ≤ q.block ∧ q.block < w.heap.size
theorem newI_keep {base : Nat} {v : Value} {l : List Int} (h : NewI w base v l) (hb : Below w.heap.size w w') : NewI w' base v l := by
  obtain ⟨a, c, e, h1, h2⟩ := h
  exact ⟨a, c, e, lst_keep encI_len h1 hb, fun q hq => ⟨(h2 q hq).1, Nat.lt_of_lt_of_le (h2 q hq).2 hb.size⟩⟩
theorem newI_le {base base' : Nat} {v : Value} {l : List Int} (h : NewI w base v l) (hb : base' ≤ base) : NewI w base' v l := by
  obtain ⟨a, c, e, h1, h2⟩ := h
  exact ⟨a, c, e, h1, fun q hq => ⟨Nat.le_trans hb (h2 q hq).1, (h2 q hq).2⟩⟩
theorem newI_nil (w : World) (base : Nat) : NewI w base (.slice none 0 0) [] := ⟨none, 0, rfl, ⟨rfl, Nat.le_refl _, Nat.zero_le _, (fun _ => ⟨rfl, rfl⟩), .inl rfl⟩, fun q hq => by cases hq⟩
theorem newI_own {base : Nat} {v : Value} {l : List Int} (h : Owns encI 1 3 w base v l) : NewI w base v l := by
  obtain ⟨a, c, rfl, h1, h2, h3, h4⟩ := owns_row encI_len h
  refine ⟨a, c, rfl, ⟨rfl, h1, h2, fun e => ⟨by have := h3 e; omega, h3 e⟩, h4⟩, fun q hq => ?_⟩
  subst hq
  exact World.ownsRow.lt h q.block rfl
theorem owns_lit (w : World) (f : Int) (base : Nat) (hb : base ≤ w.heap.size) : Owns encI 1 3 (w.alloc (.cells #[.int .i64 f] 3)) base (.slice (some ⟨w.heap.size, 0, none⟩) 1 1) [f] :=
  ⟨rfl, .inr ⟨w.heap.size, 1, _, rfl, hb, heap_alloc_new w _, Nat.le_refl _, by unfold maxLen; omega, rfl, rfl⟩⟩
theorem info_i : (Try.prog.info? 3).map (fun i => (i.zero, i.size, i.bytes)) = some (some (.int .i64 0), 1, 8) := by kernel_rfl

theorem own_chg' {base : Nat} {v : Value} {l : List Int} (h : Owns encI 1 3 w base v l) (hb : Below w.heap.size w w') : Owns encI 1 3 w' base v l := by
  rcases h with ⟨h1, h2 | ⟨g, cap, cur, e1, e2, e3, e4, e5, e6, e7⟩⟩
  · exact ⟨h1, .inl h2⟩
  · exact ⟨h1, .inr ⟨g, cap, cur, e1, e2, by rw [hb.block g (Array.getElem?_eq_some_iff.1 e3).1]; exact e3, e4, e5, e6, e7⟩⟩
theorem pathI_length (l : List Fd) (f : Int) (h : l.length ≤ 100) : (path l f).length ≤ 101 := by
  by_cases hf : 0 ≤ f
  · unfold path
    rw [if_pos hf, List.length_map]
    by_cases hl : f.toNat < l.length
    · have := pathN_length l f.toNat
      omega
    · rw [pathN_none (by omega)]; simp
  · rw [path_neg (by omega)]; simp

/-! ### Path -/

theorem rpath_far (l : List Fd) (a : Option Addr) (n c : Nat) (w : World) (h : Funds w a n c l) (hn : n ≤ 100) (f : Int) (hf : f < 0 ∨ (n : Int) ≤ f) :
    Calls Try.prog 13 #[.slice a n c, .int .i64 f] w fun e w' => ∃ v, e = .returned v ∧ NewI w' w.heap.size v (path l f) ∧ Below w.heap.size w w' := by
  have HP := Lib.hid (path_far (l := l) (f := f) (by rw [h.len]; exact hf))
  clear h
  have hor : f < 0 ∨ (¬ f < 0 ∧ (n : Int) ≤ f) := by omega
  clear hf
  rcases hor with ho | ⟨ho, ho2⟩
  all_goals
    go_enter Try.func13, Try.ntmps13
    go_wp2_with fail
    go_ret
    exact ⟨_, rfl, by rw [HP.out]; exact newI_nil _ _, Below.refl _ _⟩
set_option maxHeartbeats 4000000 in
theorem rpath_nat (l : List Fd) (hok : ∀ x ∈ l, x.ok) : ∀ (f : Nat) (a : Option Addr) (n c : Nat) (w : World), Funds w a n c l → n ≤ 100 → f < n →
    Calls Try.prog 13 #[.slice a n c, .int .i64 (f : Nat)] w fun e w' => ∃ v, e = .returned v ∧ NewI w' w.heap.size v (path l (f : Int)) ∧ Below w.heap.size w w' := by
  intro f
  induction f using Nat.strongRecOn with
  | _ f ih =>
    intro a n c w h hn hf
    have hfl : f < l.length := by rw [h.len]; exact hf
    obtain ⟨b, o, rfl⟩ := lst_at h (by omega)
    obtain ⟨_, q1, _⟩ := fund_cells h hfl
    have hpa := path_at (List.getElem?_eq_getElem hfl)
    have hxk := hok l[f] (List.getElem_mem hfl)
    generalize l[f] = x at *
    obtain ⟨nm, pr, lm⟩ := x
    simp only at q1 hpa
    have hpr := hxk.2.1
    have H := Lib.hid (And.intro h (And.intro hpa ih))
    clear h hpa ih hxk
    by_cases hp : pr < (f : Int)
    · have hrec : ∀ (w1 : World), Below w.heap.size w w1 → Calls Try.prog 13 #[.slice (some ⟨b, o, none⟩) n c, .int .i64 pr] w1 fun e w' => ∃ v, e = .returned v ∧ NewI w' w1.heap.size v (path l pr) ∧ Below w1.heap.size w1 w' := fun w1 hb => by
        by_cases h0 : 0 ≤ pr
        · obtain ⟨m, rfl⟩ : ∃ m : Nat, pr = m := ⟨pr.toNat, by omega⟩
          exact H.out.2.2 m (by omega) _ n c w1 (lst_keep encF_len H.out.1 hb) hn (by omega)
        · exact rpath_far l _ n c w1 (lst_keep encF_len H.out.1 hb) hn pr (.inl (by omega))
      have HR := Lib.hid hrec
      have hpi : ¬ (f : Int) ≤ pr := by omega
      have HPa := Lib.hid (show path l (f : Int) = (f : Int) :: path l pr by rw [H.out.2.1, if_pos hp])
      have q1b := cell_keep (below_alloc w (.cells #[.int .i64 (f : Nat)] 3)) q1
      clear hrec hp
      go_enter Try.func13, Try.ntmps13
      go_wp2_with fail
      refine (HR.out _ (below_alloc w (.cells #[.int .i64 (f : Nat)] 3))).mono ?_
      rintro e w2 ⟨v, rfl, hn2, hb2⟩
      obtain ⟨a2, c2, rfl, hl2, -⟩ := hn2
      have hown := own_chg' (owns_lit w (f : Nat) w.heap.size (Nat.le_refl _)) hb2
      have hlen := pathI_length l pr (by rw [H.out.1.len]; exact hn)
      have HA := Lib.hid (And.intro hown (And.intro hl2 (And.intro (show [((f : Nat) : Int)].length + (path l pr).length ≤ maxLen by unfold maxLen; simp; omega) (And.intro (show ([((f : Nat) : Int)].length + (path l pr).length) * 8 ≤ 140737488355328 by simp; omega) (And.intro (below_keep (below_alloc w (.cells #[.int .i64 (f : Nat)] 3)) hb2).size (below_keep (below_alloc w (.cells #[.int .i64 (f : Nat)] 3)) hb2))))))
      obtain ⟨m2, hm2⟩ : ∃ m, m = (path l pr).length := ⟨_, rfl⟩
      rw [← hm2] at HA ⊢
      have HM := Lib.hid hm2
      clear hown hl2 hlen hb2 hm2
      go_wp2_with (first | (at_builtin; refine Two.append_apart encI_len Nat.zero_lt_one encI_one rfl (.tmp 23) (.tmp 30) 29 3 rfl Try.underlying29 (.int .i64 0) 8 info_i rfl w.heap.size (.slice (some ⟨w.heap.size, 0, none⟩) 1 1) [((f : Nat) : Int)] rfl HA.out.1 a2 m2 c2 (path l pr) rfl HM.out.symm HA.out.2.1.row HA.out.2.1.nil HA.out.2.2.1 HA.out.2.2.2.1 HA.out.2.2.2.2.1 ?_; intro v9 w9 ho9 hg9 _; have HP := Lib.hid (show Owns encI 1 3 w9 w.heap.size v9 (path l (f : Int)) ∧ Below w.heap.size w w9 from ⟨by rw [HPa.out]; exact ho9, HA.out.2.2.2.2.2.trans (Two.below_grown HA.out.1 hg9 HA.out.2.2.2.2.1)⟩); clear ho9 hg9 HA) | fail)
      go_ret
      exact ⟨_, rfl, newI_own HP.out.1, HP.out.2⟩
    · have hpi : (f : Int) ≤ pr := by omega
      have HPa := Lib.hid (show path l (f : Int) = [(f : Int)] by rw [H.out.2.1, if_neg hp])
      clear hp
      go_enter Try.func13, Try.ntmps13
      go_wp2_with fail
      go_ret
      exact ⟨_, rfl, by rw [HPa.out]; exact newI_own (owns_lit w (f : Nat) w.heap.size (Nat.le_refl _)), below_alloc _ _⟩
theorem rpath_any (l : List Fd) (hok : ∀ x ∈ l, x.ok) (a : Option Addr) (n c : Nat) (w : World) (h : Funds w a n c l) (hn : n ≤ 100) (f : Int) :
    Calls Try.prog 13 #[.slice a n c, .int .i64 f] w fun e w' => ∃ v, e = .returned v ∧ NewI w' w.heap.size v (path l f) ∧ Below w.heap.size w w' := by
  by_cases hf : f < 0 ∨ (n : Int) ≤ f
  · exact rpath_far l a n c w h hn f hf
  · obtain ⟨m, rfl⟩ : ∃ m : Nat, f = m := ⟨f.toNat, by omega⟩
    exact rpath_nat l hok m a n c w h hn (by omega)

/-! ### Below -/

theorem rbelow_any (l : List Fd) (hok : ∀ x ∈ l, x.ok) (a : Option Addr) (n c : Nat) (w : World) (h : Funds w a n c l) (hn : n ≤ 100) (f top : Int) :
    Calls Try.prog 22 #[.slice a n c, .int .i64 f, .int .i64 top] w fun e w' => e = .returned (.bool ((path l f).contains top)) ∧ Below w.heap.size w w' := by
  have hlen := pathI_length l f (by rw [h.len]; exact hn)
  have HP := Lib.hid (rpath_any l hok a n c w h hn f)
  clear h
  go_enter Try.func22, Try.ntmps22
  go_wp2_with fail
  refine HP.out.mono ?_
  rintro e w1 ⟨v, rfl, hn1, hb⟩
  obtain ⟨p, hp⟩ : ∃ p, p = path l f := ⟨_, rfl⟩
  rw [← hp] at hn1 hlen
  have HPp := Lib.hid hp
  obtain ⟨a1, c1, rfl, hl, -⟩ := hn1
  obtain ⟨m, hm⟩ : ∃ m, m = p.length := ⟨_, rfl⟩
  rw [← hm] at hl hlen ⊢
  have HL := Lib.hid (And.intro hl hb)
  have HM := Lib.hid hm
  clear hl hb hp hm HP
  go_wp2_with fail
  go_loop [8] (fun i => ∃ k : Nat, k ≤ m ∧ i = .int .i64 (k : Nat) ∧ Hid ((p.take k).contains top = false)) (fun i => m - (intOf i).toNat)
  case atStart => exact ⟨0, Nat.zero_le _, rfl, Lib.hid rfl⟩
  case round =>
    obtain ⟨k, hk, rfl, hc⟩ := hrel
    by_cases hlt : k < m
    · have hkp : k < p.length := by rw [← HM.out]; exact hlt
      obtain ⟨b1, o1, rfl⟩ := lst_at HL.out.1 (by omega)
      have q := int_cell HL.out.1 hkp
      have HTk := Lib.hid (List.take_succ_eq_append_getElem hkp)
      have HMe := Lib.hid (List.getElem_mem hkp)
      generalize p[k] = y at *
      by_cases he : y = top
      · subst he
        go_wp2_with fail
        go_ret
        exact ⟨by rw [← HPp.out]; first | (rw [show p.contains y = true by simpa using HMe.out]; rfl) | (rw [decide_eq_true HMe.out]; rfl), HL.out.2⟩
      · have HE := Lib.hid he
        have hne : (y == top) = false := beq_false_of_ne he
        clear he
        go_wp2_with fail
        go_round
        case rel => exact ⟨k + 1, by omega, by go_num, Lib.hid (by
          rw [HTk.out]
          have h1 := hc.out
          simp at h1 ⊢
          exact ⟨h1, fun e => HE.out e.symm⟩)⟩
        case measure => simp [intOf]; omega
    · obtain rfl : k = m := by omega
      go_wp2_with fail
      go_ret
      have h1 := hc.out
      rw [List.take_of_length_le (by rw [← HM.out]; exact Nat.le_refl _)] at h1
      have h2 : ¬ top ∈ p := by simpa using h1
      exact ⟨by rw [← HPp.out]; first | (rw [h1]; rfl) | (rw [decide_eq_false h2]; rfl), HL.out.2⟩
end Go.Proofs.Ytpciijihedlheaa.Tre
