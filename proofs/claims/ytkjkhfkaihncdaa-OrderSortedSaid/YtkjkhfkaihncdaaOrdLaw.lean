/- Order: OrderQueues, over any order that does as it should. -/
import Derived.Test.YtkjkhfkaihncdaaOrdRef
import Derived.Test.YtkjkhfkaihncdaaOrdLes
import Derived.Test.YtkjkhfkaihncdaaOrdAwk
namespace Go.Proofs.Ytkjkhfkaihncdaa.Ord
set_option maxRecDepth 100000
open Go.RowKit
open Go.Sort
open Kit
open Tre (Lst inI lst_keep lst_take lst_at lst_new lst_none IntsL int_cell encI encI_len NewI OwI ints_any below_drewN')
open Job (Jb Jv Jobs encJ encJ_len job_cell job_keep)
open Drw (Dw)
set_option linter.unusedVariables false
variable {w w' : World}

theorem own_ints {base : Nat} {v : Value} {l : List Int} (h : OwI w base v l) : ∃ a c, v = .slice a l.length c ∧ IntsL w a l.length c l := by
  obtain ⟨a, c, e, h1, h2, h3, h4⟩ := owns_row encI_len h
  refine ⟨a, c, e, rfl, h1, h2, fun e0 => ?_, h4⟩
  subst e0
  rcases h with ⟨_, h2 | ⟨g, cap, cur, e1, _⟩⟩
  · obtain ⟨hv, h0⟩ := h2
    rw [e] at hv
    injection hv with _ hv1 hv2
    exact ⟨hv1, hv2⟩
  · rw [e] at e1
    injection e1 with e1
    cases e1
theorem place_at {l : List Jb} {i : Nat} (h : i < (places l).length) : ∃ m x, (ord l)[i]? = some m ∧ (places l)[i] = (m : Int) ∧ m < l.length ∧ l[m]? = some x ∧ x.state = 1 := by
  have h' : i < (ord l).length := by unfold places at h; rwa [List.length_map] at h
  obtain ⟨x, hx, hs, hm⟩ := ord_at (List.getElem?_eq_getElem h')
  exact ⟨(ord l)[i], x, List.getElem?_eq_getElem h', List.getElem_map _, hm, hx, hs⟩
theorem ask_at {l : List Jb} {i m : Nat} {x : Jb} (h : (ord l)[i]? = some m) (hx : l[m]? = some x) (hi : i < (asksOf l).length) : (asksOf l)[i] = ⟨x.nodes, x.wall⟩ := by
  obtain ⟨h', e⟩ := List.getElem?_eq_some_iff.1 h
  refine (List.getElem_map (askOf l)).trans ?_
  rw [e]
  unfold askOf
  rw [hx]
theorem ts_get {l : List Jv} {m : Nat} {t : Jb} (h : (ts l)[m]? = some t) : ∃ x, l[m]? = some x ∧ x.t = t := by
  unfold ts at h
  rw [List.getElem?_map] at h
  cases hx : l[m]? with
  | none => rw [hx] at h; cases h
  | some x => rw [hx] at h; exact ⟨x, rfl, by injection h⟩
theorem job_at {b o n c m : Nat} {l : List Jv} {t : Jb} (h : Jobs w (some ⟨b, o, none⟩) n c l) (hx : (ts l)[m]? = some t) :
    w.cell? ⟨b, o + m * 12, none⟩ = some (.int .i64 t.id) ∧ w.cell? ⟨b, o + m * 12 + 2, none⟩ = some (.int .i64 t.nodes) ∧ w.cell? ⟨b, o + m * 12 + 3, none⟩ = some (.int .i64 t.wall) ∧ w.cell? ⟨b, o + m * 12 + 5, none⟩ = some (.int .i64 t.prio) ∧ w.cell? ⟨b, o + m * 12 + 7, none⟩ = some (.int .i64 t.state) := by
  obtain ⟨x, hx2, rfl⟩ := ts_get hx
  obtain ⟨hm, e⟩ := List.getElem?_eq_some_iff.1 hx2
  have h' := fun i hi => job_cell h hm i hi
  rw [e] at h'
  exact ⟨h' 0 (by omega), h' 2 (by omega), h' 3 (by omega), h' 5 (by omega), h' 7 (by omega)⟩
theorem cut_jobs {a : Option Addr} {n c : Nat} {l : List Jv} (h : Jobs w a n c l) (hin : ∀ x ∈ l, x.In w) (hok : ∀ x ∈ l, x.t.ok) : ∃ m X, m = min n 40 ∧ Jobs w a m c X ∧ (∀ x ∈ X, x.In w) ∧ (∀ x ∈ X, x.t.ok) ∧ m ≤ 40 :=
  ⟨_, _, rfl, lst_take h _ (Nat.min_le_left _ _), fun x hx => hin x (List.mem_of_mem_take hx), fun x hx => hok x (List.mem_of_mem_take hx), Nat.min_le_right _ _⟩
set_option maxHeartbeats 8000000 in
theorem queues_any (hP : Prog) (W : World) (a : Option Addr) (n c : Nat) (l : List Jv) (hJ : Jobs W a n c l) (hin : ∀ x ∈ l, x.In W) (hok : ∀ x ∈ l, x.t.ok) :
    Calls Try.prog 3 #[.slice a n c] W fun e W' => e = .returned (.bool true) ∧ Below W.heap.size W W' := by
  obtain ⟨m0, X, hm, hX, hinX, hokX, hm40⟩ := cut_jobs hJ hin hok
  have HFew := Lib.hid (few_any a n c m0 hJ.cap hJ.max hm W)
  have HRo := Lib.hid (rorder_any W a m0 c X hX hm40)
  have HAs := Lib.hid (fun w1 (hb : Below W.heap.size W w1) => hP.asks w1 a m0 c X (lst_keep encJ_len hX hb) (fun x hx => job_keep (hinX x hx) hb) hokX hm40)
  have HOr := Lib.hid (fun w1 (hb : Below W.heap.size W w1) => hP.order w1 a m0 c X (lst_keep encJ_len hX hb) (fun x hx => job_keep (hinX x hx) hb) hokX hm40)
  have HAw := Lib.hid (fun w1 => awake_any hP w1)
  have HX := Lib.hid hX
  have HM := Lib.hid (And.intro hm40 hX.len)
  clear hm hX hinX hokX hm40 hJ hin hok hP
  go_enter Try.func3, Try.ntmps3
  go_wp2_with fail
  refine HFew.out.mono ?_
  rintro e w1 ⟨rfl, rfl⟩
  go_wp2_with fail
  refine HRo.out.mono ?_
  rintro e w1 ⟨v1, rfl, ho1, hb1⟩
  obtain ⟨a1, c1, rfl, hi1⟩ := own_ints ho1
  have HB1 := Lib.hid (And.intro hb1 hi1)
  have HA1 := Lib.hid (HAs.out w1 hb1)
  have HR := Lib.hid (show (places (ts X)).length ≤ 40 by have := places_len (ts X); unfold ts at this; rw [List.length_map, HM.out.2] at this; exact Nat.le_trans this HM.out.1)
  clear ho1 hb1 hi1 HRo HAs
  go_wp2_with fail
  refine HA1.out.mono ?_
  rintro e w2 ⟨v2, rfl, ⟨a2, c2, rfl, hq2, -⟩, hb2⟩
  rw [asks_len] at hq2 ⊢
  obtain ⟨r, hr⟩ : ∃ r, r = (places (ts X)).length := ⟨_, rfl⟩
  rw [← hr] at hq2 ⊢
  have HRr := Lib.hid hr
  have hr40 : r ≤ 40 := by rw [hr]; exact HR.out
  have HB2 := Lib.hid (And.intro (below_keep HB1.out.1 hb2) (And.intro (lst_keep encI_len HB1.out.2 hb2) hq2))
  clear hr hq2 hb2 HA1
  have HAl := Lib.hid (asks_len (ts X))
  go_wp2_with fail
  go_loopw [6] (fun i wr => ∃ k : Nat, k ≤ r ∧ i = .int .i64 (k : Nat) ∧ Below w2.heap.size w2 wr) (fun i _ => r - (intOf i).toNat)
  case atStart => exact ⟨0, Nat.zero_le _, rfl, Below.refl _ _⟩
  case round =>
    obtain ⟨k, hk, rfl, hb⟩ := hrel
    have HB := Lib.hid hb
    by_cases hlt : k < r
    · obtain ⟨m, x, hm1, hm2, hm3, hx, hxs⟩ := place_at (l := ts X) (i := k) (by rw [← HRr.out]; exact hlt)
      have hask := ask_at hm1 hx (by rw [HAl.out, ← HRr.out]; exact hlt)
      have hJw := lst_keep encJ_len HX.out (below_keep HB2.out.1 hb)
      have hmn : m < m0 := by have := hm3; unfold ts at this; rw [List.length_map, HM.out.2] at this; exact this
      obtain ⟨b, o, rfl⟩ := lst_at hJw (by omega)
      obtain ⟨b1, o1, rfl⟩ := lst_at HB2.out.2.1 (by rw [← HRr.out]; omega)
      obtain ⟨b2, o2, rfl⟩ := lst_at HB2.out.2.2 (by omega)
      have q1 := int_cell (lst_keep encI_len HB2.out.2.1 hb) (k := k) (by rw [← HRr.out]; exact hlt)
      rw [hm2] at q1
      obtain ⟨q2, q3⟩ := ask_cells (lst_keep encQ_len HB2.out.2.2 hb) (k := k) (by rw [HAl.out, ← HRr.out]; exact hlt)
      rw [hask] at q2 q3
      obtain ⟨-, q4, q5, -, -⟩ := job_at hJw hx
      have hm4 : (m : Int) < (m0 : Int) := by omega
      obtain ⟨xn, hxn⟩ : ∃ v, v = x.nodes := ⟨_, rfl⟩
      obtain ⟨xw, hxw⟩ : ∃ v, v = x.wall := ⟨_, rfl⟩
      simp only [← hxn, ← hxw] at q2 q3 q4 q5
      clear hb hm1 hm2 hm3 hx hxs hask hJw hxn hxw
      go_wp2_with fail
      go_quiet (fail)
      go_wp2_with fail
      go_roundw
      case rel => exact ⟨k + 1, by omega, by go_num, below_keep HB.out (below_drewN' _ _)⟩
      case measure => simp [intOf]; omega
    · obtain rfl : k = r := by omega
      clear hb
      go_wp2_with fail
      refine (HAw.out _).mono ?_
      rintro e w4 ⟨rfl, hb4⟩
      have HB4 := Lib.hid (below_keep HB.out hb4)
      clear hb4
      go_wp2_with fail
      refine (HOr.out _ (below_keep HB2.out.1 HB4.out)).mono ?_
      rintro e w5 ⟨v5, rfl, ⟨a5, c5, rfl, hi5, -⟩, hb5⟩
      have HB5 := Lib.hid (And.intro (below_keep HB4.out hb5) hi5)
      have HC5 := Lib.hid (ints_any _ _ _ _ _ _ _ _ w5 hi5 (lst_keep encI_len HB2.out.2.1 (below_keep HB4.out hb5)))
      rw [← HRr.out] at HC5 ⊢
      clear hb5 hi5
      go_wp2_with fail
      refine HC5.out.mono ?_
      rintro e w6 ⟨rfl, hb6⟩
      simp only [decide_true]
      have HB6 := Lib.hid (below_keep HB2.out.1 (below_keep HB5.out.1 hb6))
      clear hb6
      go_wp2_with fail
      go_ret
      exact ⟨rfl, HB6.out⟩
end Go.Proofs.Ytkjkhfkaihncdaa.Ord
