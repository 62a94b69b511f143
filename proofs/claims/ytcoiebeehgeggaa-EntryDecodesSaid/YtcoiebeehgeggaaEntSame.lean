/- Entry: two transactions that are one (the document's Same). -/
import Derived.Test.YtcoiebeehgeggaaEntMem
import Derived.BigFrame
import Derived.BigQuiet
import Derived.Deep.DeepCutAuto
import Derived.Deep.CutBlock
import Derived.WalkLawsBesides
import Derived.LoopTactic
namespace Go.Proofs.Ytcoiebeehgeggaa.Ent
set_option maxRecDepth 100000
open Go.RowKit
open Go.Sort
open Kit
open Oct
open Tre (Lst inI lst_keep lst_take lst_at lst_new lst_none i64_wf cells_int IntsL int_cell encI encI_len encI_one OwI own_chg' info_i run_ld2 below_drewN')
open Led (Lg encG encG_len encG_one Legs leg_cells)
set_option linter.unusedVariables false
variable {w w' : World}

theorem text_ne {a b : ByteArray} (h : a ≠ b) : ¬ a.toList = b.toList := fun e => h (by
  rw [ByteArray.toList_eq, ByteArray.toList_eq] at e
  exact ByteArray.ext (Array.toList_inj.1 e))
/-- The first two that differ, of two lists of one length. -/
theorem diff_at {α : Type} : ∀ (l k : List α), l.length = k.length → (∀ (i : Nat) (x y : α), l[i]? = some x → k[i]? = some y → x = y) → l = k
  | [], [], _, _ => rfl
  | x :: l, y :: k, h, hi => by
    have h0 := hi 0 x y rfl rfl
    have h1 := diff_at l k (by simpa using h) fun i a b ha hb => hi (i + 1) a b (by simpa using ha) (by simpa using hb)
    rw [h0, h1]
  | [], _ :: _, h, _ => by simp at h
  | _ :: _, [], h, _ => by simp at h

set_option maxHeartbeats 16000000 in
theorem rsame_any (W : World) (x y : Tv) (hx : x.In W) (hy : y.In W) :
    Calls Try.prog 12 #[valV x, valV y] W fun e W' => ∃ b, e = .returned (.bool b) ∧ (b = true ↔ x.t = y.t) ∧ Below W.heap.size W W' := by
  obtain ⟨⟨sq, tm, kd, ky, nm, ag, lg⟩, a1, n1, c1, a2, n2, c2⟩ := x
  obtain ⟨⟨sq', tm', kd', ky', nm', ag', lg'⟩, a1', n1', c1', a2', n2', c2'⟩ := y
  obtain ⟨g1, g2, g3, g4⟩ := hx
  obtain ⟨h1, h2, h3, h4⟩ := hy
  simp only at g1 g2 g3 g4 h1 h2 h3 h4 ⊢
  have hb1 := below_alloc W (.cells #[.int .i64 sq, .int .i64 tm, .int .i64 kd, .string ky, .string nm, .slice a1 n1 c1, .slice a2 n2 c2] 25)
  have hb2 := below_alloc (W.alloc (.cells #[.int .i64 sq, .int .i64 tm, .int .i64 kd, .string ky, .string nm, .slice a1 n1 c1, .slice a2 n2 c2] 25)) (.cells #[.int .i64 sq', .int .i64 tm', .int .i64 kd', .string ky', .string nm', .slice a1' n1' c1', .slice a2' n2' c2'] 25)
  have HB := Lib.hid (below_keep hb1 hb2)
  have HI := Lib.hid (And.intro g1 (And.intro g2 (And.intro h1 h2)))
  have HLn := Lib.hid (And.intro g1.len (And.intro g2.len (And.intro h1.len h2.len)))
  have hn1 : n1 ≤ 9223372036854775807 := by have e1 := g1.cap; have e2 := g1.max; unfold maxLen at e2; omega
  have hn2 : n2 ≤ 9223372036854775807 := by have e1 := g2.cap; have e2 := g2.max; unfold maxLen at e2; omega
  have hn1' : n1' ≤ 9223372036854775807 := by have e1 := h1.cap; have e2 := h1.max; unfold maxLen at e2; omega
  have hn2' : n2' ≤ 9223372036854775807 := by have e1 := h2.cap; have e2 := h2.max; unfold maxLen at e2; omega
  clear g1 g2 g3 g4 h1 h2 h3 h4 hb1 hb2
  by_cases hh : sq = sq' ∧ tm = tm' ∧ kd = kd' ∧ ky = ky' ∧ nm = nm' ∧ n1 = n1' ∧ n2 = n2'
  · obtain ⟨rfl, rfl, rfl, rfl, rfl, rfl, rfl⟩ := hh
    go_enter Try.func12, Try.ntmps12
    go_wp2_with fail
    obtain ⟨w2, hw2⟩ : ∃ x, x = (W.alloc (.cells #[.int .i64 sq, .int .i64 tm, .int .i64 kd, .string ky, .string nm, .slice a1 n1 c1, .slice a2 n2 c2] 25)).alloc (.cells #[.int .i64 sq, .int .i64 tm, .int .i64 kd, .string ky, .string nm, .slice a1' n1 c1', .slice a2' n2 c2'] 25) := ⟨_, rfl⟩
    have hcx : (w2.cell? ⟨W.heap.size, 5, none⟩ = some (.slice a1 n1 c1) ∧ w2.cell? ⟨W.heap.size, 6, none⟩ = some (.slice a2 n2 c2)) ∧ w2.cell? ⟨W.heap.size + 1, 5, none⟩ = some (.slice a1' n1 c1') ∧ w2.cell? ⟨W.heap.size + 1, 6, none⟩ = some (.slice a2' n2 c2') := by
      have hz : (W.alloc (.cells #[.int .i64 sq, .int .i64 tm, .int .i64 kd, .string ky, .string nm, .slice a1 n1 c1, .slice a2 n2 c2] 25)).heap.size = W.heap.size + 1 := by simp
      rw [hw2]
      refine ⟨⟨cell_alloc (by rw [World.cell?_alloc_new]; rfl), cell_alloc (by rw [World.cell?_alloc_new]; rfl)⟩, ?_, ?_⟩
      · rw [← hz, World.cell?_alloc_new]; rfl
      · rw [← hz, World.cell?_alloc_new]; rfl
    rw [← hw2] at HB ⊢
    have HC := Lib.hid hcx
    clear hcx hw2
    go_loopw [5] (fun iv wr => ∃ k : Nat, k ≤ n1 ∧ iv = .int .i64 (k : Nat) ∧ (∀ (i : Nat) (u v : Int), i < k → ag[i]? = some u → ag'[i]? = some v → u = v) ∧ Below w2.heap.size w2 wr) (fun iv _ => n1 - (intOf iv).toNat)
    case atStart => exact ⟨0, Nat.zero_le _, rfl, (fun i u v hi => by omega), Below.refl _ _⟩
    case round =>
      obtain ⟨k, hk, rfl, hal, hb⟩ := hrel
      have HO := Lib.hid (And.intro hal hb)
      have q1 := cell_keep hb HC.out.1.1
      have q2 := cell_keep hb HC.out.2.1
      by_cases hlt : k < n1
      · have hk1 : k < ag.length := by rw [HLn.out.1]; exact hlt
        have hk2 : k < ag'.length := by rw [HLn.out.2.2.1]; exact hlt
        obtain ⟨b, o, rfl⟩ := lst_at HI.out.1 (by omega)
        obtain ⟨b', o', rfl⟩ := lst_at HI.out.2.2.1 (by omega)
        have p1 := int_cell (lst_keep encI_len HI.out.1 (below_keep HB.out hb)) hk1
        have p2 := int_cell (lst_keep encI_len HI.out.2.2.1 (below_keep HB.out hb)) hk2
        have e1 := List.getElem?_eq_getElem hk1
        have e2 := List.getElem?_eq_getElem hk2
        generalize ag[k] = u at p1 e1
        generalize ag'[k] = v at p2 e2
        have HE := Lib.hid (And.intro e1 e2)
        clear hal hb e1 e2 hk1 hk2
        by_cases huv : u = v
        · subst huv
          go_wp2_with fail
          go_quiet (fail)
          go_wp2_with fail
          go_roundw
          case rel => exact ⟨k + 1, by omega, by go_num, fun i x y hi hx hy => by
            rcases Nat.lt_succ_iff_lt_or_eq.1 hi with h | h
            · exact HO.out.1 i x y h hx hy
            · subst h
              have e1 := HE.out.1.symm.trans hx
              have e2 := HE.out.2.symm.trans hy
              injection e1 with e1
              injection e2 with e2
              rw [← e1, ← e2], below_keep HO.out.2 (below_drewN' _ _)⟩
          case measure => simp [intOf]; omega
        · have HNe := Lib.hid (show ¬ (⟨sq, tm, kd, ky, nm, ag, lg⟩ : Tx) = ⟨sq, tm, kd, ky, nm, ag', lg'⟩ from fun e => by
            injection e with _ _ _ _ _ e6 _
            have e1 := HE.out.1
            rw [e6, HE.out.2] at e1
            injection e1 with e1
            exact huv e1.symm)
          have hne : (u == v) = false := beq_false_of_ne huv
          clear huv
          go_wp2_with fail
          go_quiet (fail)
          go_wp2_with fail
          go_ret
          exact ⟨false, rfl, ⟨(fun h => by cases h), fun h => absurd h HNe.out⟩, below_keep HB.out (below_keep HO.out.2 (below_drewN' _ _))⟩
      · obtain rfl : k = n1 := by omega
        have HAg := Lib.hid (show ag = ag' from diff_at ag ag' (by rw [HLn.out.1, HLn.out.2.2.1]) fun i u v hu hv => HO.out.1 i u v (by rw [← HLn.out.1]; exact (List.getElem?_eq_some_iff.1 hu).1) hu hv)
        clear hal hb
        go_wp2_with fail
        go_loopw [6] (fun iv wx => ∃ j : Nat, j ≤ n2 ∧ iv = .int .i64 (j : Nat) ∧ (∀ (i : Nat) (u v : Lg), i < j → lg[i]? = some u → lg'[i]? = some v → u = v) ∧ Below w2.heap.size w2 wx) (fun iv _ => n2 - (intOf iv).toNat)
        case atStart => exact ⟨0, Nat.zero_le _, rfl, (fun i u v hi => by omega), HO.out.2⟩
        case round =>
          obtain ⟨j, hj, rfl, hal, hb⟩ := hrel
          have HP := Lib.hid (And.intro hal hb)
          have q3 := cell_keep hb HC.out.1.2
          have q4 := cell_keep hb HC.out.2.2
          clear q1 q2
          by_cases hlt2 : j < n2
          · have hk1 : j < lg.length := by rw [HLn.out.2.1]; exact hlt2
            have hk2 : j < lg'.length := by rw [HLn.out.2.2.2]; exact hlt2
            obtain ⟨b, o, rfl⟩ := lst_at HI.out.2.1 (by omega)
            obtain ⟨b', o', rfl⟩ := lst_at HI.out.2.2.2 (by omega)
            obtain ⟨p1, p2⟩ := leg_cells (lst_keep encG_len HI.out.2.1 (below_keep HB.out hb)) hk1
            obtain ⟨p3, p4⟩ := leg_cells (lst_keep encG_len HI.out.2.2.2 (below_keep HB.out hb)) hk2
            have e1 := List.getElem?_eq_getElem hk1
            have e2 := List.getElem?_eq_getElem hk2
            generalize lg[j] = u at p1 p2 e1
            generalize lg'[j] = v at p3 p4 e2
            obtain ⟨uc, um⟩ := u
            obtain ⟨vc, vm⟩ := v
            simp only at p1 p2 p3 p4
            have HE := Lib.hid (And.intro e1 e2)
            clear hal hb e1 e2 hk1 hk2
            by_cases huv : uc = vc ∧ um = vm
            · obtain ⟨rfl, rfl⟩ := huv
              go_wp2_with fail
              go_quiet (fail)
              go_wp2_with fail
              go_roundw
              case rel => exact ⟨j + 1, by omega, by go_num, fun i x y hi hx hy => by
                rcases Nat.lt_succ_iff_lt_or_eq.1 hi with h | h
                · exact HP.out.1 i x y h hx hy
                · subst h
                  have e1 := HE.out.1.symm.trans hx
                  have e2 := HE.out.2.symm.trans hy
                  injection e1 with e1
                  injection e2 with e2
                  rw [← e1, ← e2], below_keep HP.out.2 (below_drewN' _ _)⟩
              case measure => simp [intOf]; omega
            · have HNe := Lib.hid (show ¬ (⟨sq, tm, kd, ky, nm, ag, lg⟩ : Tx) = ⟨sq, tm, kd, ky, nm, ag', lg'⟩ from fun e => by
                injection e with _ _ _ _ _ _ e7
                have e1 := HE.out.1
                rw [e7, HE.out.2] at e1
                injection e1 with e1
                injection e1 with e1 e2
                exact huv ⟨e1.symm, e2.symm⟩)
              have hor : ((uc == vc) = false) ∨ (uc = vc ∧ (um == vm) = false) := by
                by_cases h : uc = vc
                · exact .inr ⟨h, beq_false_of_ne fun h2 => huv ⟨h, h2⟩⟩
                · exact .inl (beq_false_of_ne h)
              clear huv
              rcases hor with t1 | ⟨rfl, t1⟩
              all_goals
                go_wp2_with fail
                go_quiet (fail)
                go_wp2_with fail
                go_ret
                exact ⟨false, rfl, ⟨(fun h => by cases h), fun h => absurd h HNe.out⟩, below_keep HB.out (below_keep HP.out.2 (below_drewN' _ _))⟩
          · obtain rfl : j = n2 := by omega
            have HLg := Lib.hid (show lg = lg' from diff_at lg lg' (by rw [HLn.out.2.1, HLn.out.2.2.2]) fun i u v hu hv => HP.out.1 i u v (by rw [← HLn.out.2.1]; exact (List.getElem?_eq_some_iff.1 hu).1) hu hv)
            clear hal hb
            go_wp2_with fail
            go_ret
            exact ⟨true, rfl, ⟨fun _ => by rw [HAg.out, HLg.out], fun _ => rfl⟩, below_keep HB.out HP.out.2⟩
  · have hor : (¬ sq = sq') ∨ (sq = sq' ∧ ¬ tm = tm') ∨ (sq = sq' ∧ tm = tm' ∧ ¬ kd = kd') ∨ (sq = sq' ∧ tm = tm' ∧ kd = kd' ∧ ¬ ky.toList = ky'.toList) ∨ (sq = sq' ∧ tm = tm' ∧ kd = kd' ∧ ky = ky' ∧ ¬ nm.toList = nm'.toList) ∨ (sq = sq' ∧ tm = tm' ∧ kd = kd' ∧ ky = ky' ∧ nm = nm' ∧ ¬ (n1 : Int) = (n1' : Int)) ∨ (sq = sq' ∧ tm = tm' ∧ kd = kd' ∧ ky = ky' ∧ nm = nm' ∧ n1 = n1' ∧ ¬ (n2 : Int) = (n2' : Int)) := by
      by_cases e1 : sq = sq'
      · by_cases e2 : tm = tm'
        · by_cases e3 : kd = kd'
          · by_cases e4 : ky = ky'
            · by_cases e5 : nm = nm'
              · by_cases e6 : n1 = n1'
                · have e7 : n2 ≠ n2' := fun e7 => hh ⟨e1, e2, e3, e4, e5, e6, e7⟩
                  exact .inr (.inr (.inr (.inr (.inr (.inr ⟨e1, e2, e3, e4, e5, e6, by omega⟩)))))
                · exact .inr (.inr (.inr (.inr (.inr (.inl ⟨e1, e2, e3, e4, e5, by omega⟩)))))
              · exact .inr (.inr (.inr (.inr (.inl ⟨e1, e2, e3, e4, text_ne e5⟩))))
            · exact .inr (.inr (.inr (.inl ⟨e1, e2, e3, text_ne e4⟩)))
          · exact .inr (.inr (.inl ⟨e1, e2, e3⟩))
        · exact .inr (.inl ⟨e1, e2⟩)
      · exact .inl (e1)
    have HNe := Lib.hid (show ¬ (⟨sq, tm, kd, ky, nm, ag, lg⟩ : Tx) = ⟨sq', tm', kd', ky', nm', ag', lg'⟩ from fun e => by
      injection e with e1 e2 e3 e4 e5 e6 e7
      refine hh ⟨e1, e2, e3, e4, e5, ?_, ?_⟩
      · rw [← HLn.out.1, ← HLn.out.2.2.1, e6]
      · rw [← HLn.out.2.1, ← HLn.out.2.2.2, e7])
    clear hh
    rcases hor with t1 | ⟨rfl, t1⟩ | ⟨rfl, rfl, t1⟩ | ⟨rfl, rfl, rfl, t1⟩ | ⟨rfl, rfl, rfl, rfl, t1⟩ | ⟨rfl, rfl, rfl, rfl, rfl, t1⟩ | ⟨rfl, rfl, rfl, rfl, rfl, rfl, t1⟩
    all_goals
      go_enter Try.func12, Try.ntmps12
      go_wp2_with fail
      go_ret
      exact ⟨false, rfl, ⟨(fun h => by cases h), fun h => absurd h HNe.out⟩, HB.out⟩
end Go.Proofs.Ytcoiebeehgeggaa.Ent
