/- Easy: the document's Asks and Busy, as they run. -/
import Derived.Test.YtckebhknnocpkaaEsyMem
import Derived.Test.YtckebhknnocpkaaPrfHeld
import Derived.Test.YtckebhknnocpkaaAskArg
import Derived.Test.YtckebhknnocpkaaPut
namespace Go.Proofs.Ytckebhknnocpkaa.Esy
set_option maxRecDepth 100000
open Go.RowKit
open Go.Sort
open Kit
open Tre (Lst inI lst_keep lst_take lst_at lst_new lst_none below_drewN' run_ld2)
open Prf (Bz Nd Tk Busys encZ encZ_len held held_may rheld_any OwZ own_busys busyH busyH_may rbusy_any)
open Go.Proofs.Ytckebhknnocpkaa.Ord (Aq Asks encQ encQ_len ask_cells info_ask)
set_option linter.unusedVariables false
variable {w w' : World}

/-! ### Asks -/

abbrev OwQ (w : World) (base : Nat) (v : Value) (l : List Aq) : Prop := Owns encQ 2 38 w base v l
theorem encQ_one (x : Aq) : ∀ u ∈ encQ x, u.oneCell' = true := by
  intro u hu
  simp [encQ] at hu
  rcases hu with rfl | rfl <;> rfl
theorem own_asks {base : Nat} {v : Value} {l : List Aq} (h : OwQ w base v l) : ∃ a c, v = .slice a l.length c ∧ Asks w a l.length c l := by
  obtain ⟨a, c, hv, hc, hm, hn, hrow⟩ := owns_row encQ_len h
  exact ⟨a, c, hv, rfl, hc, hm, fun e => ⟨by have := hn e; omega, hn e⟩, hrow⟩
theorem own_keepQ {base : Nat} {v : Value} {l : List Aq} (h : OwQ w base v l) (hb : Below w.heap.size w w') : OwQ w' base v l := Nest.own_on h hb
theorem own_emptyQ (w : World) (base : Nat) (hb : base ≤ w.heap.size) : OwQ (w.alloc (.cells #[] 38)) base (.slice (some ⟨w.heap.size, 0, none⟩) 0 0) [] :=
  ⟨by simp [flat], .inr ⟨w.heap.size, 0, _, rfl, hb, heap_alloc_new w _, Nat.le_refl _, by unfold maxLen; omega, by simp, by simp [flat]⟩⟩
theorem run_iq {b o n c k : Nat} (h : k < n) (w : World) : (Instr.indexAt 23 (.slice (some ⟨b, o, none⟩) n c) (.int .i64 (k : Nat))).run Try.prog w = .ok (.pointer (some ⟨b, o + k * 2, none⟩)) w := by
  simp [go_sem, h]
theorem run_bd_q (x y : Int) (w : World) : (Instr.build 38 #[(0, .int .i64 x), (1, .int .i64 y)]).run Try.prog w = .ok (.agg #[.int .i64 x, .int .i64 y]) w := by
  simp [go_sem]
theorem run_bs_q (x y : Int) (w : World) : (Instr.buildSlice 23 1 #[(0, .agg #[.int .i64 x, .int .i64 y])]).run Try.prog w = .ok (.slice (some ⟨w.heap.size, 0, none⟩) 1 1) (w.alloc (.cells #[.int .i64 x, .int .i64 y] 38)) := by
  simp [go_sem]
theorem row_q (w : World) (s : Aq) : Kit.Row encQ 2 (w.alloc (.cells #[.int .i64 s.nodes, .int .i64 s.wall] 38)) (some ⟨w.heap.size, 0, none⟩) [s] := row_new encQ_len w [s] _ _ _ rfl rfl
def kLitQ (s : Aq) : Rel.Kd Rel.Gr := ⟨fun w u => ∃ B, u = .slice (some ⟨B, 0, none⟩) 1 1 ∧ Kit.Row encQ 2 w (some ⟨B, 0, none⟩) [s], fun _ _ _ h ⟨B, e, hr⟩ => ⟨B, e, row_keep encQ_len hr h⟩⟩
def heldQ (b : Aq) : Aq := ⟨held b.nodes 1048576, held b.wall 562949953421312⟩
def asksH (l : List Aq) : List Aq := (l.take 30).map heldQ
theorem map_takeQ {l : List Aq} {k : Nat} {x : Aq} (h : l[k]? = some x) : (l.take (k + 1)).map heldQ = (l.take k).map heldQ ++ [heldQ x] := by
  obtain ⟨hk, e⟩ := List.getElem?_eq_some_iff.1 h
  rw [List.take_succ_eq_append_getElem hk, e, List.map_append]; rfl
theorem asksH_may {l : List Aq} : (∀ b ∈ asksH l, okQ b) ∧ (asksH l).length ≤ 30 := by
  refine ⟨fun b hb => ?_, by unfold asksH; rw [List.length_map, List.length_take]; omega⟩
  obtain ⟨x, _, rfl⟩ := List.mem_map.1 hb
  exact ⟨held_may (by omega), held_may (by omega)⟩
set_option maxHeartbeats 8000000 in
theorem rasks_any (W : World) (a1 : Option Addr) (n c1 : Nat) (l : List Aq) (h : Asks W a1 n c1 l) :
    Calls Try.prog 16 #[.slice a1 n c1] W fun e W' => ∃ v, e = .returned v ∧ OwQ W' W.heap.size v (asksH l) ∧ Below W.heap.size W W' := by
  have hm1 : n ≤ 9223372036854775807 := by have := h.cap; have := h.max; unfold maxLen at this; omega
  have HL := Lib.hid (And.intro h h.len)
  have HEm := Lib.hid (And.intro (own_emptyQ W W.heap.size (Nat.le_refl _)) (below_alloc W (.cells #[] 38)))
  clear h
  go_enter Try.func16, Try.ntmps16
  go_wp2_with fail
  go_loopw [3, 4] (fun v i wr => ∃ k : Nat, k ≤ n ∧ k ≤ 30 ∧ i = .int .i64 (k : Nat) ∧ OwQ wr W.heap.size v ((l.take k).map heldQ) ∧ Below W.heap.size W wr) (fun _ i _ => n - (intOf i).toNat)
  case atStart => exact ⟨0, Nat.zero_le _, Nat.zero_le _, rfl, HEm.out.1, HEm.out.2⟩
  case round =>
    obtain ⟨k, hk, hk4, rfl, hown, hb⟩ := hrel
    have HO := Lib.hid (And.intro hown hb)
    clear hown hb
    by_cases hlt : k < n
    · have hlti : (k : Int) < (n : Int) := by omega
      by_cases hl4 : k < 30
      · have hl4i : (k : Int) < 30 := by omega
        have hkl : k < l.length := by rw [HL.out.2]; exact hlt
        obtain ⟨b1, o1, rfl⟩ := lst_at HL.out.1 (by omega)
        obtain ⟨q0, q1⟩ := ask_cells (lst_keep encQ_len HL.out.1 HO.out.2) hkl
        have hmt := map_takeQ (List.getElem?_eq_getElem hkl)
        generalize l[k] = xy at *
        obtain ⟨x, y⟩ := xy
        simp only at q0 q1
        have hlx : ((l.take k).map heldQ).length ≤ 30 := by rw [List.length_map, List.length_take]; omega
        obtain ⟨lx, hx⟩ : ∃ lx, lx = (l.take k).map heldQ := ⟨_, rfl⟩
        rw [← hx] at HO hmt hlx
        have HMt := Lib.hid hmt
        have HLn := Lib.hid (show lx.length + 1 ≤ maxLen ∧ (lx.length + 1) * 16 ≤ 140737488355328 by unfold maxLen; omega)
        clear hx hmt hlx
        obtain ⟨ao, co, rfl, hcl, hcm, hcn, hcr⟩ := owns_row encQ_len HO.out.1
        obtain ⟨m, hm⟩ : ∃ m, m = lx.length := ⟨_, rfl⟩
        rw [← hm] at HO ⊢
        clear hcl hcm hcn hcr hm
        go_wp2_with fail
        have HQ := Lib.hid (And.intro q0 q1)
        have HA := HO
        clear q0 q1
        refine Rel.wp_region_ends (G := Rel.Gr) _ _ (Rel.tab [.is (.slice ao m co), .is (.slice (some ⟨b1, o1, none⟩) n c1), .is (.int .i64 (k : Nat)), .is (.pointer (some ⟨b1, o1 + k * 2, none⟩)), .is (.pointer (some ⟨b1, o1 + k * 2, none⟩)), .is (.int .i64 x), .is (.int .i64 (held x 1048576)), .is (.slice (some ⟨b1, o1, none⟩) n c1), .is (.int .i64 (k : Nat)), .is (.pointer (some ⟨b1, o1 + k * 2, none⟩)), .is (.pointer (some ⟨b1, o1 + k * 2 + 1, none⟩)), .is (.int .i64 y), .is (.int .i64 (held y 562949953421312)), .is (.agg #[.int .i64 (held x 1048576), .int .i64 (held y 562949953421312)]), kLitQ ⟨held x 1048576, held y 562949953421312⟩]) (fun _ w => Below wr.heap.size wr w) (by kernel_rfl) rfl rfl (by kernel_rfl) (by kernel_rfl) (by kernel_rfl) (by kernel_rfl) (by kernel_rfl) (by kernel_rfl) (below_drew _) ?_ ?_
        · refine ⟨?_, ?_, ?_, ?_, ?_, ?_, ?_, ?_, ?_, ?_, ?_, ?_, ?_, ?_, ?_, trivial⟩
          · intro L a w c
            refine .inl ⟨Rel.wanted_free (by kernel_rfl) _, ?_⟩
            exact Rel.wp_mv _ rfl ⟨_, rfl, Rel.gr_refl _, (c.old 3 (v := .slice ao m co) (by kernel_rfl) (by kernel_rfl)), c.inv⟩
          · intro L a w c
            refine .inl ⟨Rel.wanted_free (by kernel_rfl) _, ?_⟩
            exact Rel.wp_mv _ rfl ⟨_, rfl, Rel.gr_refl _, (c.old 0 (v := .slice (some ⟨b1, o1, none⟩) n c1) (by kernel_rfl) (by kernel_rfl)), c.inv⟩
          · intro L a w c
            refine .inl ⟨Rel.wanted_free (by kernel_rfl) _, ?_⟩
            exact Rel.wp_mv _ rfl ⟨_, rfl, Rel.gr_refl _, (c.old 4 (v := .int .i64 (k : Nat)) (by kernel_rfl) (by kernel_rfl)), c.inv⟩
          · intro L a w c
            refine .inl ⟨Rel.wanted_free (by kernel_rfl) _, ?_⟩
            exact Rel.wp_ia _ _ _ rfl (c.get 1 17 (by kernel_rfl)) (c.get 2 18 (by kernel_rfl)) (run_iq hlt w) ⟨_, rfl, Rel.gr_refl _, rfl, c.inv⟩
          · intro L a w c
            refine .inl ⟨Rel.wanted_free (by kernel_rfl) _, ?_⟩
            exact Chn.wp_fa _ _ _ rfl (c.get 3 19 (by kernel_rfl)) (by simp [go_sem]) ⟨_, rfl, Rel.gr_refl _, rfl, c.inv⟩
          · intro L a w c
            refine .inl ⟨Rel.wanted_free (by kernel_rfl) _, ?_⟩
            exact Rel.wp_ld _ _ rfl (c.get 4 20 (by kernel_rfl)) (run_ld2 (cell_keep c.inv HQ.out.1)) ⟨_, rfl, Rel.gr_refl _, rfl, c.inv⟩
          · intro L a w c
            refine .inl ⟨Rel.wanted_free (by kernel_rfl) _, ?_⟩
            refine Rel.wp_cl _ _ _ rfl Try.func6 (by kernel_rfl) ?_
            show Calls _ _ #[Rel.slot a 21, .int .i64 1048576] w _
            rw [show Rel.slot a 21 = .int .i64 x from (c.get 5 21 (by kernel_rfl))]
            refine (rheld_any x 1048576 w).mono ?_
            rintro e w' ⟨rfl, hb⟩
            exact ⟨_, rfl, _, rfl, hb, rfl, below_keep c.inv hb⟩
          · intro L a w c
            refine .inl ⟨Rel.wanted_free (by kernel_rfl) _, ?_⟩
            exact Rel.wp_mv _ rfl ⟨_, rfl, Rel.gr_refl _, (c.old 0 (v := .slice (some ⟨b1, o1, none⟩) n c1) (by kernel_rfl) (by kernel_rfl)), c.inv⟩
          · intro L a w c
            refine .inl ⟨Rel.wanted_free (by kernel_rfl) _, ?_⟩
            exact Rel.wp_mv _ rfl ⟨_, rfl, Rel.gr_refl _, (c.old 4 (v := .int .i64 (k : Nat)) (by kernel_rfl) (by kernel_rfl)), c.inv⟩
          · intro L a w c
            refine .inl ⟨Rel.wanted_free (by kernel_rfl) _, ?_⟩
            exact Rel.wp_ia _ _ _ rfl (c.get 7 23 (by kernel_rfl)) (c.get 8 24 (by kernel_rfl)) (run_iq hlt w) ⟨_, rfl, Rel.gr_refl _, rfl, c.inv⟩
          · intro L a w c
            refine .inl ⟨Rel.wanted_free (by kernel_rfl) _, ?_⟩
            exact Chn.wp_fa _ _ _ rfl (c.get 9 25 (by kernel_rfl)) (by simp [go_sem]) ⟨_, rfl, Rel.gr_refl _, rfl, c.inv⟩
          · intro L a w c
            refine .inl ⟨Rel.wanted_free (by kernel_rfl) _, ?_⟩
            exact Rel.wp_ld _ _ rfl (c.get 10 26 (by kernel_rfl)) (run_ld2 (cell_keep c.inv HQ.out.2)) ⟨_, rfl, Rel.gr_refl _, rfl, c.inv⟩
          · intro L a w c
            refine .inl ⟨Rel.wanted_free (by kernel_rfl) _, ?_⟩
            refine Rel.wp_cl _ _ _ rfl Try.func6 (by kernel_rfl) ?_
            show Calls _ _ #[Rel.slot a 27, .int .i64 562949953421312] w _
            rw [show Rel.slot a 27 = .int .i64 y from (c.get 11 27 (by kernel_rfl))]
            refine (rheld_any y 562949953421312 w).mono ?_
            rintro e w' ⟨rfl, hb⟩
            exact ⟨_, rfl, _, rfl, hb, rfl, below_keep c.inv hb⟩
          · intro L a w c
            refine .inl ⟨Rel.wanted_free (by kernel_rfl) _, ?_⟩
            exact Chn.wp_bd2 _ _ _ _ _ rfl (c.get 6 22 (by kernel_rfl)) (c.get 12 28 (by kernel_rfl)) (run_bd_q _ _ w) ⟨_, rfl, Rel.gr_refl _, rfl, c.inv⟩
          · intro L a w c
            refine .inl ⟨Rel.wanted_free (by kernel_rfl) _, ?_⟩
            exact Chn.wp_bs1 _ _ rfl (c.get 13 29 (by kernel_rfl)) (run_bs_q _ _ w) ⟨_, rfl, below_alloc _ _, ⟨_, rfl, row_q w _⟩, below_keep c.inv (below_alloc _ _)⟩
        intro a w5 hbase hroom hdef hJ hV
        have s16 : Rel.slot a 16 = .slice ao m co := hV 0 _ _ rfl rfl
        have k30 : (kLitQ ⟨held x 1048576, held y 562949953421312⟩ : Rel.Kd (Rel.Gr)).p w5 (Rel.slot a 30) := hV 14 _ _ rfl rfl
        rw [Chn.act_puts [16, 17, 18, 19, 20, 21, 22, 23, 24, 25, 26, 27, 28, 29, 30] hbase hroom hdef (by kernel_rfl)]
        clear hbase hroom hdef hV
        simp only [List.foldl_cons, List.foldl_nil]
        rw [s16]
        clear s16
        generalize Rel.slot a 17 = u17 at *
        generalize Rel.slot a 18 = u18 at *
        generalize Rel.slot a 19 = u19 at *
        generalize Rel.slot a 20 = u20 at *
        generalize Rel.slot a 21 = u21 at *
        generalize Rel.slot a 22 = u22 at *
        generalize Rel.slot a 23 = u23 at *
        generalize Rel.slot a 24 = u24 at *
        generalize Rel.slot a 25 = u25 at *
        generalize Rel.slot a 26 = u26 at *
        generalize Rel.slot a 27 = u27 at *
        generalize Rel.slot a 28 = u28 at *
        generalize Rel.slot a 29 = u29 at *
        generalize Rel.slot a 30 = u30 at *
        simp only [Act.put, List.setIfInBounds_toArray, List.set_cons_succ, List.set_cons_zero]
        obtain ⟨g9, rfl, hrow⟩ := k30
        have HA := Lib.hid (show OwQ w5 W.heap.size (.slice ao m co) lx ∧ Below W.heap.size W w5 from ⟨own_keepQ HO.out.1 hJ, below_keep HO.out.2 hJ⟩)
        clear hJ
        dsimp only [List.getLast]
        obtain ⟨v9, w9, hr9, ho9, hg9, _⟩ := Two.run_append_apart (P := Try.prog) encQ_len (by omega) encQ_one (w := w5) 23 23 38 Try.underlying23 (.agg #[.int .i64 0, .int .i64 0]) 16 info_ask rfl W.heap.size (.slice ao m co) lx HA.out.1 (some ⟨g9, 0, none⟩) 1 1 [(⟨held x 1048576, held y 562949953421312⟩ : Aq)] rfl hrow (fun h => by cases h) HLn.out.1 HLn.out.2 HA.out.2.size
        have HE9 := Lib.hid (And.intro ho9 (HA.out.2.trans (Two.below_grown HA.out.1 hg9 HA.out.2.size)))
        refine Chn.wp_ap (.tmp 16) (.tmp 30) 23 rfl rfl rfl hr9 ?_
        refine Rel.wp_as _ rfl ?_
        clear hr9 ho9 hg9 hrow
        go_wp2_with fail
        go_roundw
        case rel => exact ⟨k + 1, by omega, by omega, by go_num, by rw [HMt.out]; exact HE9.out.1, HE9.out.2⟩
        case measure => simp [intOf]; omega
      · have hl4i : ¬ (k : Int) < 30 := by omega
        obtain rfl : k = 30 := by omega
        go_wp2_with fail
        go_ret
        exact ⟨_, rfl, HO.out.1, HO.out.2⟩
    · obtain rfl : k = n := by omega
      have hni : ¬ (k : Int) < (k : Int) := by omega
      have htk : asksH l = (l.take k).map heldQ := by
        unfold asksH
        rw [List.take_of_length_le (by rw [HL.out.2]; omega), List.take_of_length_le (by rw [HL.out.2]; omega)]
      rw [← htk] at HO
      clear htk
      go_wp2_with fail
      go_ret
      exact ⟨_, rfl, HO.out.1, HO.out.2⟩

/-! ### Busy -/

def h9 (b : Bz) : Bz := ⟨held b.till 562949953421312, b.nodes⟩
def mixG (l : List Bz) (k : Nat) : List Bz := (l.take k).map h9 ++ l.drop k
theorem mixG_len (l : List Bz) (k : Nat) (hk : k ≤ l.length) : (mixG l k).length = l.length := by
  unfold mixG
  rw [List.length_append, List.length_map, List.length_take, List.length_drop]; omega
theorem mixG_at {l : List Bz} {k : Nat} {x : Bz} (h : l[k]? = some x) : (mixG l k)[k]? = some x := by
  obtain ⟨hk, e⟩ := List.getElem?_eq_some_iff.1 h
  unfold mixG
  have hl : ((l.take k).map h9).length = k := by rw [List.length_map, List.length_take]; omega
  rw [List.getElem?_append_right (by omega), hl, Nat.sub_self, List.getElem?_drop, Nat.add_zero, h]
theorem mixG_set {l : List Bz} {k : Nat} {x : Bz} (h : l[k]? = some x) : (mixG l k).set k (h9 x) = mixG l (k + 1) := by
  obtain ⟨hk, e⟩ := List.getElem?_eq_some_iff.1 h
  unfold mixG
  have hl : ((l.take k).map h9).length = k := by rw [List.length_map, List.length_take]; omega
  rw [List.set_append, if_neg (by omega), hl, Nat.sub_self, List.drop_eq_getElem_cons hk, List.set_cons_zero, List.take_succ_eq_append_getElem hk, e, List.map_append]
  simp
theorem mixG_end (l : List Bz) : mixG l l.length = l.map h9 := by unfold mixG; simp
def busy9 (l : List Bz) : List Bz := (busyH l).map h9
theorem busy9_may {l : List Bz} : (∀ b ∈ busy9 l, T9 b.till ∧ okB b) ∧ (busy9 l).length ≤ 40 := by
  obtain ⟨h1, h2⟩ := busyH_may (l := l)
  refine ⟨fun b hb => ?_, by unfold busy9; rw [List.length_map]; exact h2⟩
  obtain ⟨x, hx, rfl⟩ := List.mem_map.1 hb
  have h3 := held_may (n := x.till) (most := 562949953421312) (by omega)
  exact ⟨h3, ⟨h3.1, by have := h3.2; show held x.till 562949953421312 ≤ _; omega⟩, (h1 x hx).2⟩
set_option maxHeartbeats 8000000 in
theorem rbusy9_any (W : World) (ab : Option Addr) (n cb : Nat) (l : List Bz) (h : Busys W ab n cb l) :
    Calls Try.prog 7 #[.slice ab n cb] W fun e W' => ∃ v, e = .returned v ∧ OwZ W' W.heap.size v (busy9 l) ∧ Below W.heap.size W W' := by
  have HC0 := Lib.hid (rbusy_any W ab n cb l h)
  clear h
  go_enter Try.func7, Try.ntmps7
  go_wp2_with fail
  refine HC0.out.mono ?_
  rintro e w1 ⟨v1, rfl, ho1, hb1⟩
  obtain ⟨a1, c1, rfl, -⟩ := own_busys ho1
  have HB9 := Lib.hid (show busy9 l = (busyH l).map h9 from rfl)
  obtain ⟨lb, hlb⟩ : ∃ lb, lb = busyH l := ⟨_, rfl⟩
  have hmay := (busyH_may (l := l)).2
  rw [← hlb] at ho1 hmay HB9 ⊢
  obtain ⟨nb, hnb⟩ : ∃ nb, nb = lb.length := ⟨_, rfl⟩
  rw [← hnb] at ho1 hmay ⊢
  have H1 := Lib.hid (And.intro hb1 ho1)
  have HNb := Lib.hid hnb
  clear hb1 ho1 hnb hlb HC0
  go_wp2_with fail
  go_loopw [4] (fun i wr => ∃ k : Nat, k ≤ nb ∧ i = .int .i64 (k : Nat) ∧ OwZ wr W.heap.size (.slice a1 nb c1) (mixG lb k) ∧ Below W.heap.size W wr) (fun i _ => nb - (intOf i).toNat)
  case atStart => exact ⟨0, Nat.zero_le _, rfl, by simpa [mixG] using H1.out.2, H1.out.1⟩
  case round =>
    obtain ⟨k, hk, rfl, ho, hb⟩ := hrel
    have HO := Lib.hid (And.intro ho hb)
    clear ho hb
    by_cases hlt : k < nb
    · have hlti : (k : Int) < (nb : Int) := by omega
      have hkl : k < lb.length := by rw [← HNb.out]; exact hlt
      have hml : (mixG lb k).length = nb := by rw [mixG_len _ _ (by omega), HNb.out]
      obtain ⟨g, c9, hv, hg, -, -⟩ := owns_at encZ_len HO.out.1 (by omega)
      rw [hml] at hv
      injection hv with e1 e2 e3
      subst e1 e3
      clear e2
      obtain ⟨x, hx⟩ : ∃ x, lb[k]? = some x := ⟨_, List.getElem?_eq_getElem hkl⟩
      obtain ⟨s1, -, -⟩ := owns_put encZ_len HO.out.1 hml (mixG_at hx) (i := 0) (by omega) (fun a => ⟨x.till, a.nodes⟩) (.int .i64 x.till) (fun a => rfl)
      have s1' : wr.cell? ⟨g, k * 2, none⟩ = some (.int .i64 x.till) := s1
      have hms := mixG_set hx
      unfold h9 at hms
      have HX := Lib.hid (And.intro hml (And.intro (mixG_at hx) (And.intro hms hg)))
      clear hms s1 hml hg hx
      go_wp2_with fail
      refine (rheld_any x.till 562949953421312 wr).mono ?_
      rintro e w2 ⟨rfl, hb2⟩
      have ho2 := Prf.own_keepZ HO.out.1 hb2
      obtain ⟨s1, s2, s3⟩ := owns_put encZ_len ho2 HX.out.1 HX.out.2.1 (i := 0) (by omega) (fun a => ⟨held x.till 562949953421312, a.nodes⟩) (.int .i64 (held x.till 562949953421312)) (fun a => rfl)
      rw [HX.out.2.2.1] at s3
      have s1' : w2.cell? ⟨g, k * 2, none⟩ = some (.int .i64 x.till) := s1
      have s2' : w2.frozen? ⟨g, k * 2, none⟩ = false := s2
      have HN := Lib.hid (And.intro s3 ((below_keep HO.out.2 hb2).setCell (p := ⟨g, k * 2, none⟩) HX.out.2.2.2 (.int .i64 (held x.till 562949953421312))))
      generalize held x.till 562949953421312 = z at *
      generalize x.till = xt at *
      clear s1 s2 s3 ho2 hb2
      go_wp2_with fail
      go_roundw
      case rel => exact ⟨k + 1, by omega, by go_num, HN.out.1, HN.out.2⟩
      case measure => simp [intOf]; omega
    · obtain rfl : k = nb := by omega
      have hni : ¬ (k : Int) < (k : Int) := by omega
      have hend : mixG lb k = lb.map h9 := by rw [HNb.out]; exact mixG_end lb
      rw [hend, ← HB9.out] at HO
      clear hend
      go_wp2_with fail
      go_ret
      exact ⟨_, rfl, HO.out.1, HO.out.2⟩
end Go.Proofs.Ytckebhknnocpkaa.Esy
