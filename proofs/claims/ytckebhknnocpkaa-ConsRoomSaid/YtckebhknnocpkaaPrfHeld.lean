/- Profile: the document's Held and Busy, as they run. -/
import Derived.Test.YtckebhknnocpkaaPrfMem
import Derived.Test.YtckebhknnocpkaaPut
import Derived.BigFrame
import Derived.BigQuiet
import Derived.Deep.DeepCutAuto
import Derived.Deep.CutBlock
import Derived.WalkLawsBesides
import Derived.LoopTactic
import Derived.Test.YtckebhknnocpkaaRegTwo
namespace Go.Proofs.Ytckebhknnocpkaa.Prf
set_option maxRecDepth 100000
open Go.RowKit
open Go.Sort
open Kit
open Tre (Lst inI lst_keep lst_take lst_at lst_new lst_none below_drewN' run_ld2)
set_option linter.unusedVariables false
variable {w w' : World}

def held (n most : Int) : Int := if n < 0 then 0 else if most < n then most else n
theorem held_may {n most : Int} (h : 0 ≤ most) : 0 ≤ held n most ∧ held n most ≤ most := by
  unfold held
  split
  · omega
  · split <;> omega
theorem rheld_any (x m : Int) (w : World) : Calls Try.prog 6 #[.int .i64 x, .int .i64 m] w fun e w' => e = .returned (.int .i64 (held x m)) ∧ Below w.heap.size w w' := by
  by_cases h0 : x < 0
  · have H := Lib.hid (show held x m = 0 by unfold held; rw [if_pos h0])
    go_enter Try.func6, Try.ntmps6
    go_wp2_with fail
    go_ret
    exact ⟨by rw [H.out]; rfl, Below.refl _ _⟩
  · by_cases h1 : m < x
    · have H := Lib.hid (show held x m = m by unfold held; rw [if_neg h0, if_pos h1])
      go_enter Try.func6, Try.ntmps6
      go_wp2_with fail
      go_ret
      exact ⟨by rw [H.out]; rfl, Below.refl _ _⟩
    · have H := Lib.hid (show held x m = x by unfold held; rw [if_neg h0, if_neg h1])
      go_enter Try.func6, Try.ntmps6
      go_wp2_with fail
      go_ret
      exact ⟨by rw [H.out]; rfl, Below.refl _ _⟩

/-! ### Busy -/

abbrev OwZ (w : World) (base : Nat) (v : Value) (l : List Bz) : Prop := Owns encZ 2 36 w base v l
theorem own_busys {base : Nat} {v : Value} {l : List Bz} (h : OwZ w base v l) : ∃ a c, v = .slice a l.length c ∧ Busys w a l.length c l := by
  obtain ⟨a, c, hv, hc, hm, hn, hrow⟩ := owns_row encZ_len h
  exact ⟨a, c, hv, rfl, hc, hm, fun e => ⟨by have := hn e; omega, hn e⟩, hrow⟩
theorem own_keepZ {base : Nat} {v : Value} {l : List Bz} (h : OwZ w base v l) (hb : Below w.heap.size w w') : OwZ w' base v l := Nest.own_on h hb
theorem own_emptyZ (w : World) (base : Nat) (hb : base ≤ w.heap.size) : OwZ (w.alloc (.cells #[] 36)) base (.slice (some ⟨w.heap.size, 0, none⟩) 0 0) [] :=
  ⟨by simp [flat], .inr ⟨w.heap.size, 0, _, rfl, hb, heap_alloc_new w _, Nat.le_refl _, by unfold maxLen; omega, by simp, by simp [flat]⟩⟩
theorem run_iz {b o n c k : Nat} (h : k < n) (w : World) : (Instr.indexAt 22 (.slice (some ⟨b, o, none⟩) n c) (.int .i64 (k : Nat))).run Try.prog w = .ok (.pointer (some ⟨b, o + k * 2, none⟩)) w := by
  simp [go_sem, h]
theorem run_bd_z (x y : Int) (w : World) : (Instr.build 36 #[(0, .int .i64 x), (1, .int .i64 y)]).run Try.prog w = .ok (.agg #[.int .i64 x, .int .i64 y]) w := by
  simp [go_sem]
theorem run_bs_z (x y : Int) (w : World) : (Instr.buildSlice 22 1 #[(0, .agg #[.int .i64 x, .int .i64 y])]).run Try.prog w = .ok (.slice (some ⟨w.heap.size, 0, none⟩) 1 1) (w.alloc (.cells #[.int .i64 x, .int .i64 y] 36)) := by
  simp [go_sem]
theorem row_z (w : World) (s : Bz) : Kit.Row encZ 2 (w.alloc (.cells #[.int .i64 s.till, .int .i64 s.nodes] 36)) (some ⟨w.heap.size, 0, none⟩) [s] := row_new encZ_len w [s] _ _ _ rfl rfl
def kLitZ (s : Bz) : Rel.Kd Rel.Gr := ⟨fun w u => ∃ B, u = .slice (some ⟨B, 0, none⟩) 1 1 ∧ Kit.Row encZ 2 w (some ⟨B, 0, none⟩) [s], fun _ _ _ h ⟨B, e, hr⟩ => ⟨B, e, row_keep encZ_len hr h⟩⟩
def heldB (b : Bz) : Bz := ⟨held b.till 1125899906842624, held b.nodes 1048576⟩
def busyH (l : List Bz) : List Bz := (l.take 40).map heldB
theorem map_takeB {l : List Bz} {k : Nat} {x : Bz} (h : l[k]? = some x) : (l.take (k + 1)).map heldB = (l.take k).map heldB ++ [heldB x] := by
  obtain ⟨hk, e⟩ := List.getElem?_eq_some_iff.1 h
  rw [List.take_succ_eq_append_getElem hk, e, List.map_append]; rfl
theorem busyH_may {l : List Bz} : (∀ b ∈ busyH l, b.may) ∧ (busyH l).length ≤ 40 := by
  refine ⟨fun b hb => ?_, by unfold busyH; rw [List.length_map, List.length_take]; omega⟩
  obtain ⟨x, _, rfl⟩ := List.mem_map.1 hb
  exact ⟨held_may (by omega), held_may (by omega)⟩
set_option maxHeartbeats 8000000 in
theorem rbusy_any (W : World) (a1 : Option Addr) (n c1 : Nat) (l : List Bz) (h : Busys W a1 n c1 l) :
    Calls Try.prog 15 #[.slice a1 n c1] W fun e W' => ∃ v, e = .returned v ∧ OwZ W' W.heap.size v (busyH l) ∧ Below W.heap.size W W' := by
  have hm1 : n ≤ 9223372036854775807 := by have := h.cap; have := h.max; unfold maxLen at this; omega
  have HL := Lib.hid (And.intro h h.len)
  have HEm := Lib.hid (And.intro (own_emptyZ W W.heap.size (Nat.le_refl _)) (below_alloc W (.cells #[] 36)))
  clear h
  go_enter Try.func15, Try.ntmps15
  go_wp2_with fail
  go_loopw [3, 4] (fun v i wr => ∃ k : Nat, k ≤ n ∧ k ≤ 40 ∧ i = .int .i64 (k : Nat) ∧ OwZ wr W.heap.size v ((l.take k).map heldB) ∧ Below W.heap.size W wr) (fun _ i _ => n - (intOf i).toNat)
  case atStart => exact ⟨0, Nat.zero_le _, Nat.zero_le _, rfl, HEm.out.1, HEm.out.2⟩
  case round =>
    obtain ⟨k, hk, hk4, rfl, hown, hb⟩ := hrel
    have HO := Lib.hid (And.intro hown hb)
    clear hown hb
    by_cases hlt : k < n
    · have hlti : (k : Int) < (n : Int) := by omega
      by_cases hl4 : k < 40
      · have hl4i : (k : Int) < 40 := by omega
        have hkl : k < l.length := by rw [HL.out.2]; exact hlt
        obtain ⟨b1, o1, rfl⟩ := lst_at HL.out.1 (by omega)
        obtain ⟨q0, q1⟩ := busy_cells (lst_keep encZ_len HL.out.1 HO.out.2) hkl
        have hmt := map_takeB (List.getElem?_eq_getElem hkl)
        generalize l[k] = xy at *
        obtain ⟨x, y⟩ := xy
        simp only at q0 q1
        have hlx : ((l.take k).map heldB).length ≤ 40 := by rw [List.length_map, List.length_take]; omega
        obtain ⟨lx, hx⟩ : ∃ lx, lx = (l.take k).map heldB := ⟨_, rfl⟩
        rw [← hx] at HO hmt hlx
        have HMt := Lib.hid hmt
        have HLn := Lib.hid (show lx.length + 1 ≤ maxLen ∧ (lx.length + 1) * 16 ≤ 140737488355328 by unfold maxLen; omega)
        clear hx hmt hlx
        obtain ⟨ao, co, rfl, hcl, hcm, hcn, hcr⟩ := owns_row encZ_len HO.out.1
        obtain ⟨m, hm⟩ : ∃ m, m = lx.length := ⟨_, rfl⟩
        rw [← hm] at HO ⊢
        clear hcl hcm hcn hcr hm
        go_wp2_with fail
        have HQ := Lib.hid (And.intro q0 q1)
        have HA := HO
        clear q0 q1
        refine Rel.wp_region_ends (G := Rel.Gr) _ _ (Rel.tab [.is (.slice ao m co), .is (.slice (some ⟨b1, o1, none⟩) n c1), .is (.int .i64 (k : Nat)), .is (.pointer (some ⟨b1, o1 + k * 2, none⟩)), .is (.pointer (some ⟨b1, o1 + k * 2, none⟩)), .is (.int .i64 x), .is (.int .i64 (held x 1125899906842624)), .is (.slice (some ⟨b1, o1, none⟩) n c1), .is (.int .i64 (k : Nat)), .is (.pointer (some ⟨b1, o1 + k * 2, none⟩)), .is (.pointer (some ⟨b1, o1 + k * 2 + 1, none⟩)), .is (.int .i64 y), .is (.int .i64 (held y 1048576)), .is (.agg #[.int .i64 (held x 1125899906842624), .int .i64 (held y 1048576)]), kLitZ ⟨held x 1125899906842624, held y 1048576⟩]) (fun _ w => Below wr.heap.size wr w) (by kernel_rfl) rfl rfl (by kernel_rfl) (by kernel_rfl) (by kernel_rfl) (by kernel_rfl) (by kernel_rfl) (by kernel_rfl) (below_drew _) ?_ ?_
        · refine ⟨?_, ?_, ?_, ?_, ?_, ?_, ?_, ?_, ?_, ?_, ?_, ?_, ?_, ?_, ?_, trivial⟩
          · intro L a w c
            refine .inl ⟨Rel.wanted_free (by kernel_rfl) _, ?_⟩
            exact Rel.wp_mv _ rfl ⟨_, rfl, Rel.gr_refl _, (c.old 3 (v := .slice ao m co) (by kernel_rfl) (by kernel_rfl)), c.inv⟩
          · intro L a w c
            refine .inl ⟨Rel.wanted_free (by kernel_rfl) _, ?_⟩
            exact Rel.wp_mv _ rfl ⟨_, rfl, Rel.gr_refl _, (c.old 0 (v := .slice (some ⟨b1, o1, none⟩) n c1) (by kernel_rfl) (by kernel_rfl)), c.inv⟩
          · intro L a w c
            refine .inl ⟨Rel.wanted_free (by kernel_rfl) _, ?_⟩
            exact Rel.wp_mv _ rfl ⟨_, rfl, Rel.gr_refl _, (c.old 4 (v := .int .i64 (k : Nat)) (by kernel_rfl) (by kernel_rfl)), c.inv⟩
          · intro L a w c
            refine .inl ⟨Rel.wanted_free (by kernel_rfl) _, ?_⟩
            exact Rel.wp_ia _ _ _ rfl (c.get 1 17 (by kernel_rfl)) (c.get 2 18 (by kernel_rfl)) (run_iz hlt w) ⟨_, rfl, Rel.gr_refl _, rfl, c.inv⟩
          · intro L a w c
            refine .inl ⟨Rel.wanted_free (by kernel_rfl) _, ?_⟩
            exact Chn.wp_fa _ _ _ rfl (c.get 3 19 (by kernel_rfl)) (by simp [go_sem]) ⟨_, rfl, Rel.gr_refl _, rfl, c.inv⟩
          · intro L a w c
            refine .inl ⟨Rel.wanted_free (by kernel_rfl) _, ?_⟩
            exact Rel.wp_ld _ _ rfl (c.get 4 20 (by kernel_rfl)) (run_ld2 (cell_keep c.inv HQ.out.1)) ⟨_, rfl, Rel.gr_refl _, rfl, c.inv⟩
          · intro L a w c
            refine .inl ⟨Rel.wanted_free (by kernel_rfl) _, ?_⟩
            refine Rel.wp_cl _ _ _ rfl Try.func6 (by kernel_rfl) ?_
            show Calls _ _ #[Rel.slot a 21, .int .i64 1125899906842624] w _
            rw [show Rel.slot a 21 = .int .i64 x from (c.get 5 21 (by kernel_rfl))]
            refine (rheld_any x 1125899906842624 w).mono ?_
            rintro e w' ⟨rfl, hb⟩
            exact ⟨_, rfl, _, rfl, hb, rfl, below_keep c.inv hb⟩
          · intro L a w c
            refine .inl ⟨Rel.wanted_free (by kernel_rfl) _, ?_⟩
            exact Rel.wp_mv _ rfl ⟨_, rfl, Rel.gr_refl _, (c.old 0 (v := .slice (some ⟨b1, o1, none⟩) n c1) (by kernel_rfl) (by kernel_rfl)), c.inv⟩
          · intro L a w c
            refine .inl ⟨Rel.wanted_free (by kernel_rfl) _, ?_⟩
            exact Rel.wp_mv _ rfl ⟨_, rfl, Rel.gr_refl _, (c.old 4 (v := .int .i64 (k : Nat)) (by kernel_rfl) (by kernel_rfl)), c.inv⟩
          · intro L a w c
            refine .inl ⟨Rel.wanted_free (by kernel_rfl) _, ?_⟩
            exact Rel.wp_ia _ _ _ rfl (c.get 7 23 (by kernel_rfl)) (c.get 8 24 (by kernel_rfl)) (run_iz hlt w) ⟨_, rfl, Rel.gr_refl _, rfl, c.inv⟩
          · intro L a w c
            refine .inl ⟨Rel.wanted_free (by kernel_rfl) _, ?_⟩
            exact Chn.wp_fa _ _ _ rfl (c.get 9 25 (by kernel_rfl)) (by simp [go_sem]) ⟨_, rfl, Rel.gr_refl _, rfl, c.inv⟩
          · intro L a w c
            refine .inl ⟨Rel.wanted_free (by kernel_rfl) _, ?_⟩
            exact Rel.wp_ld _ _ rfl (c.get 10 26 (by kernel_rfl)) (run_ld2 (cell_keep c.inv HQ.out.2)) ⟨_, rfl, Rel.gr_refl _, rfl, c.inv⟩
          · intro L a w c
            refine .inl ⟨Rel.wanted_free (by kernel_rfl) _, ?_⟩
            refine Rel.wp_cl _ _ _ rfl Try.func6 (by kernel_rfl) ?_
            show Calls _ _ #[Rel.slot a 27, .int .i64 1048576] w _
            rw [show Rel.slot a 27 = .int .i64 y from (c.get 11 27 (by kernel_rfl))]
            refine (rheld_any y 1048576 w).mono ?_
            rintro e w' ⟨rfl, hb⟩
            exact ⟨_, rfl, _, rfl, hb, rfl, below_keep c.inv hb⟩
          · intro L a w c
            refine .inl ⟨Rel.wanted_free (by kernel_rfl) _, ?_⟩
            exact Chn.wp_bd2 _ _ _ _ _ rfl (c.get 6 22 (by kernel_rfl)) (c.get 12 28 (by kernel_rfl)) (run_bd_z _ _ w) ⟨_, rfl, Rel.gr_refl _, rfl, c.inv⟩
          · intro L a w c
            refine .inl ⟨Rel.wanted_free (by kernel_rfl) _, ?_⟩
            exact Chn.wp_bs1 _ _ rfl (c.get 13 29 (by kernel_rfl)) (run_bs_z _ _ w) ⟨_, rfl, below_alloc _ _, ⟨_, rfl, row_z w _⟩, below_keep c.inv (below_alloc _ _)⟩
        intro a w5 hbase hroom hdef hJ hV
        have s16 : Rel.slot a 16 = .slice ao m co := hV 0 _ _ rfl rfl
        have k30 : (kLitZ ⟨held x 1125899906842624, held y 1048576⟩ : Rel.Kd (Rel.Gr)).p w5 (Rel.slot a 30) := hV 14 _ _ rfl rfl
        rw [Chn.act_puts [16, 17, 18, 19, 20, 21, 22, 23, 24, 25, 26, 27, 28, 29, 30] hbase hroom hdef (by kernel_rfl)]
        clear hbase hroom hdef hV
        simp only [List.foldl_cons, List.foldl_nil]
        rw [s16]
        clear s16
        generalize Rel.slot a 17 = u17 at *
        generalize Rel.slot a 18 = u18 at *
        generalize Rel.slot a 19 = u19 at *
        generalize Rel.slot a 20 = u20 at *
        generalize Rel.slot a 21 = u21 at *
        generalize Rel.slot a 22 = u22 at *
        generalize Rel.slot a 23 = u23 at *
        generalize Rel.slot a 24 = u24 at *
        generalize Rel.slot a 25 = u25 at *
        generalize Rel.slot a 26 = u26 at *
        generalize Rel.slot a 27 = u27 at *
        generalize Rel.slot a 28 = u28 at *
        generalize Rel.slot a 29 = u29 at *
        generalize Rel.slot a 30 = u30 at *
        simp only [Act.put, List.setIfInBounds_toArray, List.set_cons_succ, List.set_cons_zero]
        obtain ⟨g9, rfl, hrow⟩ := k30
        have HA := Lib.hid (show OwZ w5 W.heap.size (.slice ao m co) lx ∧ Below W.heap.size W w5 from ⟨own_keepZ HO.out.1 hJ, below_keep HO.out.2 hJ⟩)
        clear hJ
        dsimp only [List.getLast]
        obtain ⟨v9, w9, hr9, ho9, hg9, _⟩ := Two.run_append_apart (P := Try.prog) encZ_len (by omega) encZ_one (w := w5) 22 22 36 Try.underlying22 (.agg #[.int .i64 0, .int .i64 0]) 16 info_busy rfl W.heap.size (.slice ao m co) lx HA.out.1 (some ⟨g9, 0, none⟩) 1 1 [(⟨held x 1125899906842624, held y 1048576⟩ : Bz)] rfl hrow (fun h => by cases h) HLn.out.1 HLn.out.2 HA.out.2.size
        have HE9 := Lib.hid (And.intro ho9 (HA.out.2.trans (Two.below_grown HA.out.1 hg9 HA.out.2.size)))
        refine Chn.wp_ap (.tmp 16) (.tmp 30) 22 rfl rfl rfl hr9 ?_
        refine Rel.wp_as _ rfl ?_
        clear hr9 ho9 hg9 hrow
        go_wp2_with fail
        go_roundw
        case rel => exact ⟨k + 1, by omega, by omega, by go_num, by rw [HMt.out]; exact HE9.out.1, HE9.out.2⟩
        case measure => simp [intOf]; omega
      · have hl4i : ¬ (k : Int) < 40 := by omega
        obtain rfl : k = 40 := by omega
        go_wp2_with fail
        go_ret
        exact ⟨_, rfl, HO.out.1, HO.out.2⟩
    · obtain rfl : k = n := by omega
      have hni : ¬ (k : Int) < (k : Int) := by omega
      have htk : busyH l = (l.take k).map heldB := by
        unfold busyH
        rw [List.take_of_length_le (by rw [HL.out.2]; omega), List.take_of_length_le (by rw [HL.out.2]; omega)]
      rw [← htk] at HO
      clear htk
      go_wp2_with fail
      go_ret
      exact ⟨_, rfl, HO.out.1, HO.out.2⟩
end Go.Proofs.Ytckebhknnocpkaa.Prf
