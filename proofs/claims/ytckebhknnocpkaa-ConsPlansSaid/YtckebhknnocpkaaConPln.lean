/- Cons: the document's Plan, as it runs. -/
import Derived.Test.YtckebhknnocpkaaConRef
import Derived.Test.YtckebhknnocpkaaIntMem
import Derived.Test.YtckebhknnocpkaaFoot
namespace Go.Proofs.Ytckebhknnocpkaa.Cns
set_option maxRecDepth 100000
open Go.RowKit
open Go.Sort
open Kit
open Foot
open Tre (Lst inI lst_keep lst_take lst_at lst_new lst_none i64_wf below_drewN' run_ld2 OwI encI encI_len encI_one lit_row info_i IntsL)
open Prf (Bz busyN newF Nd Tk Busys encZ_len busy_cells run_iz)
open Esy (T9 okB Bools encO_len rcounts_any)
open Go.Proofs.Ytckebhknnocpkaa.Ord (Aq Asks encQ encQ_len ask_cells)
set_option linter.unusedVariables false
variable {w w' : World}

theorem wp_bd3t {P : Program} {o : Oper} {a : Act} {K : Act → World → Prop} {Q : Exit → Act → World → Prop} (t : TypeId) (x y z : Operand) (ho : o.op = .build t #[(0, x), (1, y), (2, z)]) {vx vy vz r : Value} {w' : World} (hx : a.eval x = vx) (hy : a.eval y = vy) (hz : a.eval z = vz) (hr : (Instr.build t #[(0, vx), (1, vy), (2, vz)]).run P w = .ok r w') (h : K (a.put o.dst r) w') : o.wp P a w K Q :=
  Chn.wp_bd t _ ho (by simpa [hx, hy, hz] using hr) h
theorem run_bd_t (x y z : Int) (w : World) : (Instr.build 44 #[(0, .int .i64 x), (1, .int .i64 y), (2, .int .i64 z)]).run Try.prog w = .ok (.agg #[.int .i64 x, .int .i64 y, .int .i64 z]) w := by
  simp [go_sem]
theorem run_bs_t (x y z : Int) (w : World) : (Instr.buildSlice 42 1 #[(0, .agg #[.int .i64 x, .int .i64 y, .int .i64 z])]).run Try.prog w = .ok (.slice (some ⟨w.heap.size, 0, none⟩) 1 1) (w.alloc (.cells #[.int .i64 x, .int .i64 y, .int .i64 z] 44)) := by
  simp [go_sem]
theorem row_t (w : World) (s : Ta) : Kit.Row encO3 3 (w.alloc (.cells #[.int .i64 s.from_, .int .i64 s.to_, .int .i64 s.nodes] 44)) (some ⟨w.heap.size, 0, none⟩) [s] := row_new encO3_len w [s] _ _ _ rfl rfl
def kLitT (s : Ta) : Rel.Kd Rel.Gr := ⟨fun w u => ∃ B, u = .slice (some ⟨B, 0, none⟩) 1 1 ∧ Kit.Row encO3 3 w (some ⟨B, 0, none⟩) [s], fun _ _ _ h ⟨B, e, hr⟩ => ⟨B, e, row_keep encO3_len hr h⟩⟩
theorem own_emptyT (w : World) (base : Nat) (hb : base ≤ w.heap.size) : OwT (w.alloc (.cells #[] 44)) base (.slice (some ⟨w.heap.size, 0, none⟩) 0 0) [] :=
  ⟨by simp [flat], .inr ⟨w.heap.size, 0, _, rfl, hb, heap_alloc_new w _, Nat.le_refl _, by unfold maxLen; omega, by simp, by simp [flat]⟩⟩
theorem own_emptyN (w : World) (base : Nat) (hb : base ≤ w.heap.size) : OwI (w.alloc (.cells #[] 3)) base (.slice (some ⟨w.heap.size, 0, none⟩) 0 0) [] :=
  ⟨by simp [flat], .inr ⟨w.heap.size, 0, _, rfl, hb, heap_alloc_new w _, Nat.le_refl _, by unfold maxLen; omega, by simp, by simp [flat]⟩⟩
theorem runT_take {now : Int} {l : List Bz} {k : Nat} {x : Bz} (h : l[k]? = some x) : runT now (l.take (k + 1)) = runT now (l.take k) ++ (if now < x.till then [⟨now, x.till, x.nodes⟩] else []) := by
  obtain ⟨hk, e⟩ := List.getElem?_eq_some_iff.1 h
  rw [List.take_succ_eq_append_getElem hk, e, runT_snoc]
theorem runT_len (now : Int) : ∀ l : List Bz, (runT now l).length ≤ l.length
  | [] => Nat.le_refl _
  | b :: l => by
    have := runT_len now l
    rw [runT]
    split <;> simp only [List.length_cons] <;> omega
/-! ### What may be, as it goes on -/

def Bnd (B : Int) (tk : List Ta) : Prop := ∀ o ∈ tk, (0 ≤ o.from_ ∧ o.from_ ≤ B) ∧ (0 ≤ o.to_ ∧ o.to_ ≤ B) ∧ Nd o.nodes
theorem bnd_mono {B C : Int} {tk : List Ta} (h : Bnd B tk) (hC : B ≤ C) : Bnd C tk := fun o ho => by
  obtain ⟨h1, h2, h3⟩ := h o ho
  exact ⟨⟨h1.1, by omega⟩, ⟨h2.1, by omega⟩, h3⟩
theorem bnd_ok {B : Int} {tk : List Ta} (h : Bnd B tk) (hB : B ≤ 1125899906842624) : ∀ o ∈ tk, okT o := fun o ho => bnd_mono h hB o ho
theorem longW_le {x : Aq} (h : x.wall ≤ 1048576) : longW x ≤ 1048576 := by unfold longW; split <;> omega
theorem best_le {total now nodes long B : Int} {tk : List Ta} {m : Int} (hB : Bnd B tk) (hn : now ≤ B) (h : bestD total now tk nodes long = some m) : m ≤ B := by
  obtain ⟨h1, -⟩ := least_spec (fitsD total tk nodes long) (candL now tk) none fun x hx => by cases hx
  obtain ⟨-, h2, -⟩ := h1 m h
  rcases h2 with h2 | h2
  · cases h2
  · rcases List.mem_cons.1 h2 with rfl | h2
    · exact hn
    · obtain ⟨o, ho, rfl⟩ := List.mem_map.1 h2
      exact (hB o ho).2.1.2
theorem pick_le {total now B : Int} {tk : List Ta} {x : Aq} {rf : List Bool} {m : Int} (hg : Good now tk) (hB : Bnd B tk) (hn : now ≤ B) (h : pick total now tk x rf = some m) : now ≤ m ∧ m ≤ B := by
  rcases pick_counts (total := total) (x := x) (rf := rf) hg with ⟨hc, m', e, hm⟩ | ⟨_, e⟩
  · rw [e] at h
    injection h with h
    subst h
    refine ⟨hm, ?_⟩
    unfold pick at e
    rw [if_pos hc] at e
    exact best_le hB hn e
  · rw [e] at h; cases h
theorem after_bnd {total now B : Int} {tk : List Ta} {x : Aq} {rf : List Bool} (hg : Good now tk) (hB : Bnd B tk) (h0 : 0 ≤ now) (hn : now ≤ B) (hx : Nd x.nodes ∧ x.wall ≤ 1048576) : Bnd (B + 1048576) (after tk x (pick total now tk x rf)) := by
  cases hp : pick total now tk x rf with
  | none => exact bnd_mono hB (by omega)
  | some m =>
    obtain ⟨h1, h2⟩ := pick_le hg hB hn hp
    have h3 := longW_le hx.2
    have h4 := longW_pos x
    intro o ho
    rcases List.mem_append.1 ho with ho | ho
    · exact bnd_mono hB (by omega) o ho
    · rw [List.mem_singleton] at ho
      subst ho
      exact ⟨⟨by simp only; omega, by simp only; omega⟩, ⟨by simp only; omega, by simp only; omega⟩, hx.1⟩
theorem endT_bnd {total now : Int} : ∀ {q : List Aq} {tk : List Ta} {rf : List Bool} {B : Int}, Good now tk → Bnd B tk → 0 ≤ now → now ≤ B → (∀ x ∈ q, Nd x.nodes ∧ x.wall ≤ 1048576) → Bnd (B + q.length * 1048576) (endT total now tk q rf)
  | [], _, _, _, _, hB, _, _, _ => by simpa [endT] using hB
  | x :: q, tk, rf, B, hg, hB, h0, hn, hq => by
    rw [endT]
    have hx := hq x (List.mem_cons_self ..)
    have := endT_bnd (total := total) (rf := rf.tail) (after_good (total := total) (rf := rf) hg hx.1.1) (after_bnd hg hB h0 hn hx) h0 (by omega) fun y hy => hq y (List.mem_cons_of_mem _ hy)
    refine bnd_mono this ?_
    rw [List.length_cons]
    omega
theorem after_len (tk : List Ta) (x : Aq) (b : Option Int) : (after tk x b).length ≤ tk.length + 1 := by cases b <;> simp [after]
theorem endT_len {total now : Int} : ∀ (q : List Aq) (tk : List Ta) (rf : List Bool), (endT total now tk q rf).length ≤ tk.length + q.length
  | [], _, _ => Nat.le_refl _
  | x :: q, tk, rf => by
    rw [endT]
    have h1 := endT_len (total := total) (now := now) q (after tk x (pick total now tk x rf)) rf.tail
    have h2 := after_len tk x (pick total now tk x rf)
    rw [List.length_cons]; omega
/-- The best of the first candidates. -/
def bst (total now : Int) (tk : List Ta) (nodes long : Int) (j : Nat) : Option Int := least (fitsD total tk nodes long) ((candL now tk).take j) none
theorem bst_next {total now nodes long x : Int} {tk : List Ta} {j : Nat} (h : (candL now tk)[j]? = some x) : bst total now tk nodes long (j + 1) = minS (fitsD total tk nodes long) (bst total now tk nodes long j) x := by
  obtain ⟨hk, e⟩ := List.getElem?_eq_some_iff.1 h
  unfold bst least
  rw [List.take_succ_eq_append_getElem hk, e, List.foldl_append]; rfl
theorem bst_end {total now nodes long : Int} {tk : List Ta} : bst total now tk nodes long (tk.length + 1) = bestD total now tk nodes long := by
  unfold bst bestD
  rw [List.take_of_length_le (by simp [candL])]
theorem bst_up {total now nodes long : Int} {tk : List Ta} (hg : Good now tk) (h0 : 0 ≤ now) (j : Nat) : ∀ x, bst total now tk nodes long j = some x → 0 ≤ x := by
  intro x hx
  obtain ⟨h1, -⟩ := least_spec (fitsD total tk nodes long) ((candL now tk).take j) none fun x hx => by cases hx
  obtain ⟨-, h2, -⟩ := h1 x hx
  rcases h2 with h2 | h2
  · cases h2
  · have := cand_ge hg x (List.mem_of_mem_take h2); omega
/-! ### Both lists -/

structure Hd2 (W w : World) (vt : Value) (tk : List Ta) (vo : Value) (out : List Int) : Prop where
  ot : OwT w W.heap.size vt tk
  oo : OwI w W.heap.size vo out
  below : Below W.heap.size W w
variable {W : World} {vt vo v9 : Value} {tk : List Ta} {out : List Int}
theorem hd_below (h : Hd2 W w vt tk vo out) (hb : Below w.heap.size w w') : Hd2 W w' vt tk vo out := ⟨Nest.own_on h.ot hb, Nest.own_on h.oo hb, below_keep h.below hb⟩
theorem hd_out {x : Int} (h : Hd2 W w vt tk vo out) (o : Obj) (ho : OwI w' W.heap.size v9 (out ++ [x])) (hg : (w.alloc o).grownBy w' vo.ownBlock) : Hd2 W w' vt tk v9 (out ++ [x]) :=
  ⟨own_typed (owns_alloc h.ot o) (grown_chg hg) (typed_own (owns_alloc h.oo o) (by decide)), ho, (h.below.alloc h.below.size o).trans (Two.below_grown (owns_alloc h.oo o) hg (Nat.le_trans h.below.size (below_alloc w o).size))⟩
theorem hd_tk {x : Ta} (h : Hd2 W w vt tk vo out) (o : Obj) (ho : OwT w' W.heap.size v9 (tk ++ [x])) (hg : (w.alloc o).grownBy w' vt.ownBlock) : Hd2 W w' v9 (tk ++ [x]) vo out :=
  ⟨ho, own_typed (owns_alloc h.oo o) (grown_chg hg) (typed_own (owns_alloc h.ot o) (by decide)), (h.below.alloc h.below.size o).trans (Two.below_grown (owns_alloc h.ot o) hg (Nat.le_trans h.below.size (below_alloc w o).size))⟩
set_option maxHeartbeats 32000000 in
theorem rplan_any (W : World) (now total : Int) (a1 : Option Addr) (n cb : Nat) (l : List Bz) (a2 : Option Addr) (n2 c2 : Nat) (q : List Aq) (a3 : Option Addr) (n3 c3 : Nat) (rf : List Bool)
    (hnow : T9 now) (ht : Nd total) (hB : Busys W a1 n cb l) (hm : ∀ b ∈ l, T9 b.till ∧ Nd b.nodes) (hn : n ≤ 100) (hQ : Asks W a2 n2 c2 q) (hqm : ∀ x ∈ q, Nd x.nodes ∧ 0 ≤ x.wall ∧ x.wall ≤ 1048576) (hn2 : n2 ≤ 100) (hO : Bools W a3 n3 c3 rf) :
    Calls Try.prog 9 #[.int .i64 now, .int .i64 total, .slice a1 n cb, .slice a2 n2 c2, .slice a3 n3 c3] W fun e W' => ∃ v, e = .returned v ∧ OwI W' W.heap.size v (plan now total l q rf) ∧ Below W.heap.size W W' := by
  have HL := Lib.hid (And.intro hB (And.intro hB.len hm))
  have HQL := Lib.hid (And.intro hQ (And.intro hQ.len hqm))
  have HCo := Lib.hid (fun (k : Nat) (x : Aq) w (hb : Below W.heap.size W w) (hk : k < n2) (hx : q[k]? = some x) => rcounts_any w total a2 n2 c2 q a3 n3 c3 rf k x (lst_keep encQ_len hQ hb) (lst_keep encO_len hO hb) hk hx)
  have HTt := Lib.hid ht
  have HT0 := Lib.hid hnow
  obtain ⟨hnow0, hnow1⟩ := hnow
  have HEm := Lib.hid (And.intro (own_emptyT W W.heap.size (Nat.le_refl _)) (below_alloc W (.cells #[] 44)))
  clear hB hm ht hQ hqm hO
  go_enter Try.func9, Try.ntmps9
  go_wp2_with fail
  go_loopw [11, 12] (fun v i wr => ∃ k : Nat, k ≤ n ∧ i = .int .i64 (k : Nat) ∧ OwT wr W.heap.size v (runT now (l.take k)) ∧ Below W.heap.size W wr) (fun _ i _ => n - (intOf i).toNat)
  case atStart => exact ⟨0, Nat.zero_le _, rfl, HEm.out.1, HEm.out.2⟩
  case round =>
    obtain ⟨k, hk, rfl, hown, hb⟩ := hrel
    have HO := Lib.hid (And.intro hown hb)
    clear hown hb
    by_cases hlt : k < n
    · have hlti : (k : Int) < (n : Int) := by omega
      have hkl : k < l.length := by rw [HL.out.2.1]; exact hlt
      obtain ⟨b1, o1, rfl⟩ := lst_at HL.out.1 (by omega)
      obtain ⟨q0, q1⟩ := busy_cells (lst_keep encZ_len HL.out.1 HO.out.2) hkl
      have hmt := runT_take (now := now) (List.getElem?_eq_getElem hkl)
      generalize l[k] = xy at *
      obtain ⟨x, y⟩ := xy
      simp only at q0 q1 hmt
      have hlx : (runT now (l.take k)).length ≤ 100 := by have := runT_len now (l.take k); rw [List.length_take] at this; omega
      obtain ⟨lx, hx⟩ : ∃ lx, lx = runT now (l.take k) := ⟨_, rfl⟩
      rw [← hx] at HO hmt hlx
      have HMt := Lib.hid hmt
      have HLn := Lib.hid (show lx.length + 1 ≤ maxLen ∧ (lx.length + 1) * 24 ≤ 140737488355328 by unfold maxLen; omega)
      clear hx hmt hlx
      by_cases htl : now < x
      · obtain ⟨ao, co, rfl, hcl, hcm, hcn, hcr⟩ := owns_row encO3_len HO.out.1
        obtain ⟨m, hm⟩ : ∃ m, m = lx.length := ⟨_, rfl⟩
        rw [← hm] at HO ⊢
        clear hcl hcm hcn hcr hm
        go_wp2_with fail
        have HQ := Lib.hid (And.intro q0 q1)
        clear q0 q1
        refine Rel.wp_region_ends (G := Rel.Gr) _ _ (Rel.tab [.is (.slice ao m co), .is (.int .i64 now), .is (.slice (some ⟨b1, o1, none⟩) n cb), .is (.int .i64 (k : Nat)), .is (.pointer (some ⟨b1, o1 + k * 2, none⟩)), .is (.pointer (some ⟨b1, o1 + k * 2, none⟩)), .is (.int .i64 x), .is (.slice (some ⟨b1, o1, none⟩) n cb), .is (.int .i64 (k : Nat)), .is (.pointer (some ⟨b1, o1 + k * 2, none⟩)), .is (.pointer (some ⟨b1, o1 + k * 2 + 1, none⟩)), .is (.int .i64 y), .is (.agg #[.int .i64 now, .int .i64 x, .int .i64 y]), kLitT ⟨now, x, y⟩]) (fun _ w => Below wr.heap.size wr w) (by kernel_rfl) rfl rfl (by kernel_rfl) (by kernel_rfl) (by kernel_rfl) (by kernel_rfl) (by kernel_rfl) (by kernel_rfl) (below_drew _) ?_ ?_
        · refine ⟨?_, ?_, ?_, ?_, ?_, ?_, ?_, ?_, ?_, ?_, ?_, ?_, ?_, ?_, trivial⟩
          · intro L a w c
            refine .inl ⟨Rel.wanted_free (by kernel_rfl) _, ?_⟩
            exact Rel.wp_mv _ rfl ⟨_, rfl, Rel.gr_refl _, (c.old 11 (v := .slice ao m co) (by kernel_rfl) (by kernel_rfl)), c.inv⟩
          · intro L a w c
            refine .inl ⟨Rel.wanted_free (by kernel_rfl) _, ?_⟩
            exact Rel.wp_mv _ rfl ⟨_, rfl, Rel.gr_refl _, (c.old 0 (v := .int .i64 now) (by kernel_rfl) (by kernel_rfl)), c.inv⟩
          · intro L a w c
            refine .inl ⟨Rel.wanted_free (by kernel_rfl) _, ?_⟩
            exact Rel.wp_mv _ rfl ⟨_, rfl, Rel.gr_refl _, (c.old 2 (v := .slice (some ⟨b1, o1, none⟩) n cb) (by kernel_rfl) (by kernel_rfl)), c.inv⟩
          · intro L a w c
            refine .inl ⟨Rel.wanted_free (by kernel_rfl) _, ?_⟩
            exact Rel.wp_mv _ rfl ⟨_, rfl, Rel.gr_refl _, (c.old 12 (v := .int .i64 (k : Nat)) (by kernel_rfl) (by kernel_rfl)), c.inv⟩
          · intro L a w c
            refine .inl ⟨Rel.wanted_free (by kernel_rfl) _, ?_⟩
            exact Rel.wp_ia _ _ _ rfl (c.get 2 35 (by kernel_rfl)) (c.get 3 36 (by kernel_rfl)) (run_iz hlt w) ⟨_, rfl, Rel.gr_refl _, rfl, c.inv⟩
          · intro L a w c
            refine .inl ⟨Rel.wanted_free (by kernel_rfl) _, ?_⟩
            exact Chn.wp_fa _ _ _ rfl (c.get 4 37 (by kernel_rfl)) (by simp [go_sem]) ⟨_, rfl, Rel.gr_refl _, rfl, c.inv⟩
          · intro L a w c
            refine .inl ⟨Rel.wanted_free (by kernel_rfl) _, ?_⟩
            exact Rel.wp_ld _ _ rfl (c.get 5 38 (by kernel_rfl)) (run_ld2 (cell_keep c.inv HQ.out.1)) ⟨_, rfl, Rel.gr_refl _, rfl, c.inv⟩
          · intro L a w c
            refine .inl ⟨Rel.wanted_free (by kernel_rfl) _, ?_⟩
            exact Rel.wp_mv _ rfl ⟨_, rfl, Rel.gr_refl _, (c.old 2 (v := .slice (some ⟨b1, o1, none⟩) n cb) (by kernel_rfl) (by kernel_rfl)), c.inv⟩
          · intro L a w c
            refine .inl ⟨Rel.wanted_free (by kernel_rfl) _, ?_⟩
            exact Rel.wp_mv _ rfl ⟨_, rfl, Rel.gr_refl _, (c.old 12 (v := .int .i64 (k : Nat)) (by kernel_rfl) (by kernel_rfl)), c.inv⟩
          · intro L a w c
            refine .inl ⟨Rel.wanted_free (by kernel_rfl) _, ?_⟩
            exact Rel.wp_ia _ _ _ rfl (c.get 7 40 (by kernel_rfl)) (c.get 8 41 (by kernel_rfl)) (run_iz hlt w) ⟨_, rfl, Rel.gr_refl _, rfl, c.inv⟩
          · intro L a w c
            refine .inl ⟨Rel.wanted_free (by kernel_rfl) _, ?_⟩
            exact Chn.wp_fa _ _ _ rfl (c.get 9 42 (by kernel_rfl)) (by simp [go_sem]) ⟨_, rfl, Rel.gr_refl _, rfl, c.inv⟩
          · intro L a w c
            refine .inl ⟨Rel.wanted_free (by kernel_rfl) _, ?_⟩
            exact Rel.wp_ld _ _ rfl (c.get 10 43 (by kernel_rfl)) (run_ld2 (cell_keep c.inv HQ.out.2)) ⟨_, rfl, Rel.gr_refl _, rfl, c.inv⟩
          · intro L a w c
            refine .inl ⟨Rel.wanted_free (by kernel_rfl) _, ?_⟩
            exact wp_bd3t _ _ _ _ rfl (Rel.eval_tmp (c.get 1 34 (by kernel_rfl))) (Rel.eval_tmp (c.get 6 39 (by kernel_rfl))) (Rel.eval_tmp (c.get 11 44 (by kernel_rfl))) (run_bd_t _ _ _ w) ⟨_, rfl, Rel.gr_refl _, rfl, c.inv⟩
          · intro L a w c
            refine .inl ⟨Rel.wanted_free (by kernel_rfl) _, ?_⟩
            exact Chn.wp_bs1 _ _ rfl (Rel.eval_tmp (c.get 12 45 (by kernel_rfl))) (run_bs_t _ _ _ w) ⟨_, rfl, below_alloc _ _, ⟨_, rfl, row_t w _⟩, below_keep c.inv (below_alloc _ _)⟩
        intro a w5 hbase hroom hdef hJ hV
        have s33 : Rel.slot a 33 = .slice ao m co := hV 0 _ _ rfl rfl
        have k46 : (kLitT ⟨now, x, y⟩ : Rel.Kd (Rel.Gr)).p w5 (Rel.slot a 46) := hV 13 _ _ rfl rfl
        rw [Chn.act_puts [33, 34, 35, 36, 37, 38, 39, 40, 41, 42, 43, 44, 45, 46] hbase hroom hdef (by kernel_rfl)]
        clear hbase hroom hdef hV
        simp only [List.foldl_cons, List.foldl_nil]
        rw [s33]
        clear s33
        generalize Rel.slot a 34 = u34 at *
        generalize Rel.slot a 35 = u35 at *
        generalize Rel.slot a 36 = u36 at *
        generalize Rel.slot a 37 = u37 at *
        generalize Rel.slot a 38 = u38 at *
        generalize Rel.slot a 39 = u39 at *
        generalize Rel.slot a 40 = u40 at *
        generalize Rel.slot a 41 = u41 at *
        generalize Rel.slot a 42 = u42 at *
        generalize Rel.slot a 43 = u43 at *
        generalize Rel.slot a 44 = u44 at *
        generalize Rel.slot a 45 = u45 at *
        generalize Rel.slot a 46 = u46 at *
        simp only [Act.put, List.setIfInBounds_toArray, List.set_cons_succ, List.set_cons_zero]
        obtain ⟨g9, rfl, hrow⟩ := k46
        have HA := Lib.hid (show OwT w5 W.heap.size (.slice ao m co) lx ∧ Below W.heap.size W w5 from ⟨Nest.own_on HO.out.1 hJ, below_keep HO.out.2 hJ⟩)
        clear hJ
        dsimp only [List.getLast]
        obtain ⟨v9, w9, hr9, ho9, hg9, _⟩ := Two.run_append_apart (P := Try.prog) encO3_len (by omega) encO3_one (w := w5) 42 42 44 Try.underlying42 (.agg #[.int .i64 0, .int .i64 0, .int .i64 0]) 24 info_one rfl W.heap.size (.slice ao m co) lx HA.out.1 (some ⟨g9, 0, none⟩) 1 1 [(⟨now, x, y⟩ : Ta)] rfl hrow (fun h => by cases h) HLn.out.1 HLn.out.2 HA.out.2.size
        have HE9 := Lib.hid (And.intro ho9 (HA.out.2.trans (Two.below_grown HA.out.1 hg9 HA.out.2.size)))
        refine Chn.wp_ap (.tmp 33) (.tmp 46) 42 rfl rfl rfl hr9 ?_
        refine Rel.wp_as _ rfl ?_
        clear hr9 ho9 hg9 hrow
        go_wp2_with fail
        go_roundw
        case rel => exact ⟨k + 1, by omega, by go_num, by rw [HMt.out, if_pos htl]; exact HE9.out.1, HE9.out.2⟩
        case measure => simp [intOf]; omega
      · go_wp2_with fail
        go_roundw
        case rel => exact ⟨k + 1, by omega, by go_num, by rw [HMt.out, if_neg htl, List.append_nil]; exact HO.out.1, HO.out.2⟩
        case measure => simp [intOf]; omega
    · obtain rfl : k = n := by omega
      have hni : ¬ (k : Int) < (k : Int) := by omega
      have htk : runT now (l.take k) = runT now l := by rw [List.take_of_length_le (by rw [HL.out.2.1]; exact Nat.le_refl _)]
      rw [htk] at HO
      have hgood := runT_good (now := now) (l := l) fun b hb => (HL.out.2.2 b hb).2.1
      have hlen0 : (runT now l).length ≤ 100 := by have := runT_len now l; rw [HL.out.2.1] at this; omega
      have hbnd : Bnd 562949953421312 (runT now l) := by
        have key : ∀ l : List Bz, (∀ b ∈ l, T9 b.till ∧ Nd b.nodes) → Bnd 562949953421312 (runT now l) := by
          intro l
          induction l with
          | nil => intro _ o ho; cases ho
          | cons b l ih =>
            intro h
            have h1 := h b (List.mem_cons_self ..)
            have h2 := ih fun x hx => h x (List.mem_cons_of_mem _ hx)
            rw [runT]
            split
            · intro o ho
              rcases List.mem_cons.1 ho with rfl | ho
              · exact ⟨⟨hnow0, hnow1⟩, h1.1, h1.2⟩
              · exact h2 o ho
            · exact h2
        exact key l HL.out.2.2
      obtain ⟨T0, hT0⟩ : ∃ T0, T0 = runT now l := ⟨_, rfl⟩
      have HPl := Lib.hid (show plan now total l q rf = planT total now T0 q rf by rw [hT0]; rfl)
      rw [← hT0] at HO hgood hlen0 hbnd
      have HG0 := Lib.hid (And.intro hgood (And.intro hbnd hlen0))
      have HEn := Lib.hid (show Hd2 W (wr.alloc (.cells #[] 3)) _ T0 (.slice (some ⟨wr.heap.size, 0, none⟩) 0 0) [] from ⟨owns_alloc HO.out.1 _, own_emptyN wr W.heap.size HO.out.2.size, HO.out.2.alloc HO.out.2.size _⟩)
      clear htk hgood hlen0 hbnd hT0 HO HL HEm
      go_wp2_with fail
      go_loopw [11, 13, 14, 15, 16, 17, 18] (fun tv ov iv v15 v16 v17 v18 wr => ∃ k : Nat, k ≤ n2 ∧ iv = .int .i64 (k : Nat) ∧ Hd2 W wr tv (endT total now T0 (q.take k) rf) ov (planT total now T0 (q.take k) rf)) (fun _ _ iv _ _ _ _ _ => n2 - (intOf iv).toNat)
      case atStart => exact ⟨0, Nat.zero_le _, rfl, HEn.out⟩
      case round =>
        obtain ⟨k2, hk2, rfl, hd⟩ := hrel
        have hgood := endT_good (total := total) (q := q.take k2) (rf := rf) HG0.out.1 fun x hx => (HQL.out.2.2 x (List.mem_of_mem_take hx)).1.1
        have hlq : (q.take k2).length = k2 := by rw [List.length_take, HQL.out.2.1]; omega
        have hbnd := endT_bnd (total := total) (q := q.take k2) (rf := rf) HG0.out.1 HG0.out.2.1 hnow0 hnow1 fun x hx => ⟨(HQL.out.2.2 x (List.mem_of_mem_take hx)).1, (HQL.out.2.2 x (List.mem_of_mem_take hx)).2.2⟩
        have hlen := endT_len (total := total) (now := now) (q.take k2) T0 rf
        rw [hlq] at hbnd hlen
        by_cases hlt : k2 < n2
        · have hlti : (k2 : Int) < (n2 : Int) := by omega
          have hkq : k2 < q.length := by rw [HQL.out.2.1]; exact hlt
          obtain ⟨x, hx⟩ : ∃ x, q[k2]? = some x := ⟨_, List.getElem?_eq_getElem hkq⟩
          have hxe := (List.getElem?_eq_some_iff.1 hx).2
          have hsn := planT_snoc (total := total) (now := now) x (q.take k2) T0 rf
          have htk1 : q.take (k2 + 1) = q.take k2 ++ [x] := by rw [List.take_succ_eq_append_getElem hkq, hxe]
          rw [hlq, ← htk1] at hsn
          have hok := HQL.out.2.2 x (List.mem_of_getElem? hx)
          have hpk := pick_counts (total := total) (x := x) (rf := rf.drop k2) hgood
          have hle := fun m => pick_le (total := total) (x := x) (rf := rf.drop k2) (m := m) hgood hbnd (by omega)
          obtain ⟨tk, htk⟩ : ∃ tk, tk = endT total now T0 (q.take k2) rf := ⟨_, rfl⟩
          obtain ⟨out, hout⟩ : ∃ out, out = planT total now T0 (q.take k2) rf := ⟨_, rfl⟩
          have hol : out.length = k2 := by rw [hout, planT_len, hlq]
          rw [← htk] at hgood hbnd hlen hsn hd hpk hle
          rw [← hout] at hsn hd
          have hcv0 : countsB total x (rf.drop k2) = Esy.countsB total rf k2 x := by
            have e1 : (rf.drop k2).headD false = rf.getD k2 false := by
              rw [List.getD_eq_getElem?_getD, List.headD_eq_head?_getD, List.head?_drop]
            unfold countsB Esy.countsB
            rw [e1]
          obtain ⟨cv, hcv⟩ : ∃ cv, cv = Esy.countsB total rf k2 x := ⟨_, rfl⟩
          have HC1 := Lib.hid (fun w (hb : Below W.heap.size W w) => HCo.out k2 x w hb hlt hx)
          rw [← hcv] at HC1 hcv0
          obtain ⟨lw, hlw⟩ : ∃ lw, lw = longW x := ⟨_, rfl⟩
          have hlw1 : 1 ≤ lw ∧ lw ≤ 1048576 := by rw [hlw]; exact ⟨longW_pos x, longW_le hok.2.2⟩
          obtain ⟨at_, ct, hvt, lt⟩ := own_tas hd.ot
          obtain ⟨mt, hmt⟩ : ∃ mt, mt = tk.length := ⟨_, rfl⟩
          obtain ⟨ao, co, hvo, -⟩ := owns_row encI_len hd.oo
          subst hvt hvo
          rw [← hmt] at hd lt hlen ⊢
          rw [hol] at hd ⊢
          have HD := Lib.hid hd
          have HTk := Lib.hid (And.intro hgood (And.intro hbnd (And.intro lt hmt)))
          have hmt200 : mt ≤ 200 := by have := HG0.out.2.2; omega
          have hbnd2 := bnd_ok hbnd (by omega)
          have HFt := Lib.hid (fun w (hb : Below wr.heap.size wr w) T (hT : 0 ≤ T ∧ T ≤ 1125899906842624) => rfits_any w total at_ mt ct tk T lw x.nodes HTt.out (lst_keep encO3_len HTk.out.2.2.1 hb) hbnd2 (by omega) hT ⟨by omega, hlw1.2⟩ hok.1)
          obtain ⟨b2, o2, rfl⟩ := lst_at HQL.out.1 (by omega)
          obtain ⟨xn, hxn⟩ : ∃ xn, xn = x.nodes := ⟨_, rfl⟩
          obtain ⟨xw, hxw⟩ : ∃ xw, xw = x.wall := ⟨_, rfl⟩
          have HCl := Lib.hid (fun w (hb : Below W.heap.size W w) => show w.cell? ⟨b2, o2 + k2 * 2, none⟩ = some (.int .i64 xn) ∧ w.cell? ⟨b2, o2 + k2 * 2 + 1, none⟩ = some (.int .i64 xw) by
            have := ask_cells (lst_keep encQ_len HQL.out.1 hb) hkq
            rw [hxe, ← hxn, ← hxw] at this
            exact this)
          rw [← hxn] at HFt
          have hpk2 : (cv = true ∧ ∃ m, pick total now tk x (rf.drop k2) = some m ∧ bestD total now tk xn lw = some m ∧ now ≤ m ∧ m ≤ 562949953421312 + (k2 : Int) * 1048576) ∨ (cv = false ∧ pick total now tk x (rf.drop k2) = none) := by
            rw [hcv0] at hpk
            rcases hpk with ⟨h1, m, h2, h3⟩ | ⟨h1, h2⟩
            · refine .inl ⟨h1, m, h2, ?_, h3, (hle m h2).2⟩
              unfold pick at h2
              rw [hcv0, if_pos h1] at h2
              rw [hxn, hlw]; exact h2
            · exact .inr ⟨h1, h2⟩
          have HX := Lib.hid (And.intro hsn (And.intro hpk2 (And.intro hlw (And.intro hxn hxw))))
          have HOl := Lib.hid hol
          obtain ⟨qa, qb⟩ := HCl.out wr HD.out.below
          have hlor : (xw < 1 ∧ lw = 1) ∨ (¬ xw < 1 ∧ lw = xw) := by rw [hlw, hxw]; unfold longW; split <;> omega
          clear hgood hlq hbnd hlen hkq hx hxe hsn htk1 hok hpk hle htk hout hol hcv0 hcv hlw hd lt hmt hbnd2 hxn hxw hpk2
          go_upto_if 61 with fail
          go_cut [15] (fun v wx => v = .int .i64 lw ∧ wx = wr)
          case first =>
            rcases hlor with ⟨t1, rfl⟩ | ⟨t1, rfl⟩
            all_goals
              go_wp2_with fail
              go_meet
              case rel => exact ⟨rfl, rfl⟩
          case rest =>
          obtain ⟨rfl, h0⟩ := hcut
          replace h0 := h0.symm
          subst h0
          obtain ⟨wo, rfl⟩ : ∃ z, z = wr := ⟨_, rfl⟩
          clear qa qb hlor
          obtain ⟨l1, l2⟩ := hlw1
          go_wp2_with fail
          go_loopw [16, 17, 18] (fun bv iv tv wr => ∃ j : Nat, j ≤ mt + 1 ∧ (cv = false → j = 0) ∧ iv = .int .i64 ((j : Int) - 1) ∧ bv = .int .i64 (bestI (bst total now tk xn lw j)) ∧ Below wo.heap.size wo wr) (fun _ iv _ _ => mt + 1 - (intOf iv + 1).toNat)
          case atStart => exact ⟨0, Nat.zero_le _, (fun _ => rfl), by simp, rfl, Below.refl _ _⟩
          case round =>
            obtain ⟨j, hj, hcj, rfl, rfl, hb⟩ := hrel
            have HB := Lib.hid hb
            clear hb
            by_cases hlj : j < mt + 1
            · have hlji : (j : Int) - 1 < (mt : Int) := by omega
              have HCw := Lib.hid (HC1.out wr (below_keep HD.out.below HB.out))
              cases cv
              · obtain rfl := hcj rfl
                have hnone : pick total now tk x (rf.drop k2) = none := by
                  rcases HX.out.2.1 with ⟨h, -⟩ | ⟨-, h⟩
                  · cases h
                  · exact h
                have hb0 : bst total now tk xn lw 0 = none := rfl
                rw [hb0]
                have HNo := Lib.hid hnone
                clear hnone hb0 hcj
                dsimp only [bestI]
                go_wp2_with fail
                refine HCw.out.mono ?_
                rintro e w2 ⟨rfl, hb2⟩
                have HE := Lib.hid (hd_below (hd_below HD.out HB.out) hb2)
                clear hb2 HCw
                have HA1 := Lib.hid (owns_alloc HE.out.oo (.cells #[.int .i64 (-1)] 3))
                have HA2 := Lib.hid (lit_row w2 (-1))
                have HA3 := Lib.hid (HE.out.below.alloc HE.out.below.size (.cells #[.int .i64 (-1)] 3))
                have HDL := Lib.hid (show out.length + 1 ≤ maxLen ∧ (out.length + 1) * 8 ≤ 140737488355328 by rw [HOl.out]; unfold maxLen; omega)
                go_wp2_with (first | (at_builtin; refine Two.append_apart encI_len Nat.zero_lt_one encI_one rfl (.tmp 103) (.tmp 105) 28 3 rfl Try.underlying28 (.int .i64 0) 8 info_i rfl W.heap.size _ out rfl HA1.out (some ⟨w2.heap.size, 0, none⟩) 1 1 [(-1)] rfl rfl HA2.out (fun h => by cases h) HDL.out.1 HDL.out.2 HA3.out.size ?_; intro v9 w9 ho9 hg9 hx9; have HO9 := Lib.hid (hd_out HE.out _ ho9 hg9); clear ho9 hg9 hx9) | fail)
                go_roundw
                case rel => exact ⟨k2 + 1, by omega, by go_num, by rw [HX.out.1.1, HX.out.1.2, HNo.out]; exact HO9.out⟩
                case measure => first | (simp [intOf]; done) | (simp [intOf]; omega)
              · have HUp := Lib.hid (bst_up (total := total) (nodes := xn) (long := lw) HTk.out.1 hnow0 j)
                have hst := fun T (h : (candL now tk)[j]? = some T) => bst_next (total := total) (nodes := xn) (long := lw) h
                obtain ⟨bb, hbb⟩ : ∃ bb, bb = bst total now tk xn lw j := ⟨_, rfl⟩
                rw [← hbb] at hst HUp ⊢
                clear hbb hcj
                go_wp2_with fail
                refine HCw.out.mono ?_
                rintro e w2 ⟨rfl, hb2⟩
                have HBc := Lib.hid (below_keep HB.out hb2)
                obtain ⟨qa, -⟩ := HCl.out w2 (below_keep HD.out.below HBc.out)
                clear hb2 HCw
                rcases j with _ | j1
                · have HSt := Lib.hid (hst now rfl)
                  have HTb := Lib.hid (show 0 ≤ now ∧ now ≤ 1125899906842624 by omega)
                  clear hst
                  rw [show ((0 : Nat) : Int) - 1 = -1 from rfl]
                  rcases bb with _ | x0
                  · dsimp only [bestI]
                    go_wp2_with fail
                    refine (HFt.out w2 HBc.out now HTb.out).mono ?_
                    rintro e w4 ⟨rfl, hb4⟩
                    have HB4 := Lib.hid (below_keep HBc.out hb4)
                    obtain ⟨fv, hfv⟩ : ∃ fv, fv = fitsD total tk xn lw now := ⟨_, rfl⟩
                    rw [← hfv]
                    have HFv := Lib.hid hfv
                    clear hb4 hfv qa
                    cases fv
                    · have HN := Lib.hid (show bst total now tk xn lw (0 + 1) = none by rw [HSt.out, minS_none, if_neg (by rw [← HFv.out]; simp)])
                      go_wp2_with fail
                      go_roundw
                      case rel => exact ⟨0 + 1, by omega, (fun h => by cases h), by go_num, by rw [HN.out]; rfl, HB4.out⟩
                      case measure => first | (simp [intOf]; done) | (simp [intOf]; omega)
                    · have HN := Lib.hid (show bst total now tk xn lw (0 + 1) = some now by rw [HSt.out, minS_none, if_pos (by rw [← HFv.out]; first | done | rfl)])
                      go_wp2_with fail
                      go_roundw
                      case rel => exact ⟨0 + 1, by omega, (fun h => by cases h), by go_num, by rw [HN.out]; rfl, HB4.out⟩
                      case measure => first | (simp [intOf]; done) | (simp [intOf]; omega)
                  · have hx0 : ¬ x0 < 0 := by have := HUp.out x0 rfl; omega
                    dsimp only [bestI]
                    by_cases hlx : now < x0
                    ·
                      go_wp2_with fail
                      refine (HFt.out w2 HBc.out now HTb.out).mono ?_
                      rintro e w4 ⟨rfl, hb4⟩
                      have HB4 := Lib.hid (below_keep HBc.out hb4)
                      obtain ⟨fv, hfv⟩ : ∃ fv, fv = fitsD total tk xn lw now := ⟨_, rfl⟩
                      rw [← hfv]
                      have HFv := Lib.hid hfv
                      clear hb4 hfv qa
                      cases fv
                      · have HN := Lib.hid (show bst total now tk xn lw (0 + 1) = some x0 by rw [HSt.out, minS_some, if_neg (by rw [← HFv.out]; simp)])
                        go_wp2_with fail
                        go_roundw
                        case rel => exact ⟨0 + 1, by omega, (fun h => by cases h), by go_num, by rw [HN.out]; rfl, HB4.out⟩
                        case measure => first | (simp [intOf]; done) | (simp [intOf]; omega)
                      · have HN := Lib.hid (show bst total now tk xn lw (0 + 1) = some now by rw [HSt.out, minS_some, if_pos (by rw [← HFv.out]; exact ⟨hlx, rfl⟩)])
                        go_wp2_with fail
                        go_roundw
                        case rel => exact ⟨0 + 1, by omega, (fun h => by cases h), by go_num, by rw [HN.out]; rfl, HB4.out⟩
                        case measure => first | (simp [intOf]; done) | (simp [intOf]; omega)
                    · have HN := Lib.hid (show bst total now tk xn lw (0 + 1) = some x0 by rw [HSt.out, minS_some, if_neg (fun h => hlx h.1)])
                      go_wp2_with fail
                      go_roundw
                      case rel => exact ⟨0 + 1, by omega, (fun h => by cases h), by go_num, by rw [HN.out]; rfl, HBc.out⟩
                      case measure => first | (simp [intOf]; done) | (simp [intOf]; omega)
                · rw [show ((j1 + 1 : Nat) : Int) - 1 = (j1 : Int) by omega] at hlji ⊢
                  have hjl : j1 < tk.length := by rw [← HTk.out.2.2.2]; omega
                  obtain ⟨bt, ot, rfl⟩ := lst_at HTk.out.2.2.1 (by omega)
                  have qt := (ta_cells (lst_keep encO3_len HTk.out.2.2.1 HBc.out) hjl).2.1
                  have hst2 := hst tk[j1].to_ (by unfold candL; rw [List.getElem?_cons_succ, List.getElem?_map, List.getElem?_eq_getElem hjl]; rfl)
                  have htb := (HTk.out.2.1 _ (List.getElem_mem hjl)).2.1
                  clear hst
                  generalize tk[j1].to_ = tt at *
                  have HSt := Lib.hid hst2
                  have HTb := Lib.hid (show 0 ≤ tt ∧ tt ≤ 1125899906842624 by omega)
                  clear hst2 htb hjl
                  rcases bb with _ | x0
                  · dsimp only [bestI]
                    go_wp2_with fail
                    refine (HFt.out w2 HBc.out tt HTb.out).mono ?_
                    rintro e w4 ⟨rfl, hb4⟩
                    have HB4 := Lib.hid (below_keep HBc.out hb4)
                    obtain ⟨fv, hfv⟩ : ∃ fv, fv = fitsD total tk xn lw tt := ⟨_, rfl⟩
                    rw [← hfv]
                    have HFv := Lib.hid hfv
                    clear hb4 hfv qa
                    cases fv
                    · have HN := Lib.hid (show bst total now tk xn lw ((j1 + 1) + 1) = none by rw [HSt.out, minS_none, if_neg (by rw [← HFv.out]; simp)])
                      go_wp2_with fail
                      go_roundw
                      case rel => exact ⟨(j1 + 1) + 1, by omega, (fun h => by cases h), by go_num, by rw [HN.out]; rfl, HB4.out⟩
                      case measure => first | (simp [intOf]; done) | (simp [intOf]; omega)
                    · have HN := Lib.hid (show bst total now tk xn lw ((j1 + 1) + 1) = some tt by rw [HSt.out, minS_none, if_pos (by rw [← HFv.out]; first | done | rfl)])
                      go_wp2_with fail
                      go_roundw
                      case rel => exact ⟨(j1 + 1) + 1, by omega, (fun h => by cases h), by go_num, by rw [HN.out]; rfl, HB4.out⟩
                      case measure => first | (simp [intOf]; done) | (simp [intOf]; omega)
                  · have hx0 : ¬ x0 < 0 := by have := HUp.out x0 rfl; omega
                    dsimp only [bestI]
                    by_cases hlx : tt < x0
                    ·
                      go_wp2_with fail
                      refine (HFt.out w2 HBc.out tt HTb.out).mono ?_
                      rintro e w4 ⟨rfl, hb4⟩
                      have HB4 := Lib.hid (below_keep HBc.out hb4)
                      obtain ⟨fv, hfv⟩ : ∃ fv, fv = fitsD total tk xn lw tt := ⟨_, rfl⟩
                      rw [← hfv]
                      have HFv := Lib.hid hfv
                      clear hb4 hfv qa
                      cases fv
                      · have HN := Lib.hid (show bst total now tk xn lw ((j1 + 1) + 1) = some x0 by rw [HSt.out, minS_some, if_neg (by rw [← HFv.out]; simp)])
                        go_wp2_with fail
                        go_roundw
                        case rel => exact ⟨(j1 + 1) + 1, by omega, (fun h => by cases h), by go_num, by rw [HN.out]; rfl, HB4.out⟩
                        case measure => first | (simp [intOf]; done) | (simp [intOf]; omega)
                      · have HN := Lib.hid (show bst total now tk xn lw ((j1 + 1) + 1) = some tt by rw [HSt.out, minS_some, if_pos (by rw [← HFv.out]; exact ⟨hlx, rfl⟩)])
                        go_wp2_with fail
                        go_roundw
                        case rel => exact ⟨(j1 + 1) + 1, by omega, (fun h => by cases h), by go_num, by rw [HN.out]; rfl, HB4.out⟩
                        case measure => first | (simp [intOf]; done) | (simp [intOf]; omega)
                    · have HN := Lib.hid (show bst total now tk xn lw ((j1 + 1) + 1) = some x0 by rw [HSt.out, minS_some, if_neg (fun h => hlx h.1)])
                      go_wp2_with fail
                      go_roundw
                      case rel => exact ⟨(j1 + 1) + 1, by omega, (fun h => by cases h), by go_num, by rw [HN.out]; rfl, HBc.out⟩
                      case measure => first | (simp [intOf]; done) | (simp [intOf]; omega)
            · obtain rfl : j = mt + 1 := by omega
              obtain rfl : cv = true := by
                cases cv
                · have := hcj rfl; omega
                · rfl
              obtain ⟨m, hpm, hbm, hm0, hm1⟩ : ∃ m, pick total now tk x (rf.drop k2) = some m ∧ bestD total now tk xn lw = some m ∧ now ≤ m ∧ m ≤ 562949953421312 + (k2 : Int) * 1048576 := by
                rcases HX.out.2.1 with ⟨-, h⟩ | ⟨h, -⟩
                · exact h
                · cases h
              have hend : bst total now tk xn lw (mt + 1) = some m := by rw [HTk.out.2.2.2, bst_end]; exact hbm
              rw [hend]
              have HPm := Lib.hid (And.intro hpm (show (⟨m, m + longW x, x.nodes⟩ : Ta) = ⟨m, m + lw, xn⟩ by rw [← HX.out.2.2.1, ← HX.out.2.2.2.1]))
              have hm2 : 0 ≤ m := by omega
              have hm3 : m ≤ 900000000000000 := by omega
              have HE := Lib.hid (hd_below HD.out HB.out)
              have hni : ¬ ((mt + 1 : Nat) : Int) - 1 < (mt : Int) := by omega
              rw [show ((mt + 1 : Nat) : Int) - 1 = (mt : Int) by omega] at hni ⊢
              have HLt := Lib.hid (show tk.length + 1 ≤ maxLen ∧ (tk.length + 1) * 24 ≤ 140737488355328 by rw [← HTk.out.2.2.2]; unfold maxLen; omega)
              clear hend hpm hbm hm0 hm1 hcj hlj
              dsimp only [bestI]
              have HA1 := Lib.hid (owns_alloc HE.out.oo (.cells #[.int .i64 m] 3))
              have HA2 := Lib.hid (lit_row wr m)
              have HA3 := Lib.hid (HE.out.below.alloc HE.out.below.size (.cells #[.int .i64 m] 3))
              have HDL := Lib.hid (show out.length + 1 ≤ maxLen ∧ (out.length + 1) * 8 ≤ 140737488355328 by rw [HOl.out]; unfold maxLen; omega)
              have HCl2 := Lib.hid (fun w (hb : Below W.heap.size W w) => (HCl.out w hb).1)
              go_wp2_with (first | (at_builtin; refine Two.append_apart encI_len Nat.zero_lt_one encI_one rfl (.tmp 103) (.tmp 105) 28 3 rfl Try.underlying28 (.int .i64 0) 8 info_i rfl W.heap.size _ out rfl HA1.out (some ⟨wr.heap.size, 0, none⟩) 1 1 [m] rfl rfl HA2.out (fun h => by cases h) HDL.out.1 HDL.out.2 HA3.out.size ?_; intro v9 w9 ho9 hg9 hx9; have HO9 := Lib.hid (hd_out HE.out _ ho9 hg9); have qa := HCl2.out w9 HO9.out.below; have HT1 := Lib.hid (owns_alloc HO9.out.ot (.cells #[.int .i64 m, .int .i64 (m + lw), .int .i64 xn] 44)); have HT2 := Lib.hid (row_t w9 ⟨m, m + lw, xn⟩); have HT3 := Lib.hid (HO9.out.below.alloc HO9.out.below.size (.cells #[.int .i64 m, .int .i64 (m + lw), .int .i64 xn] 44)); clear ho9 hg9 hx9) | (at_builtin; refine Two.append_apart encO3_len (by decide) encO3_one rfl (.tmp 109) (.tmp 120) 42 44 rfl Try.underlying42 (.agg #[.int .i64 0, .int .i64 0, .int .i64 0]) 24 info_one rfl W.heap.size _ tk rfl HT1.out (some ⟨w9.heap.size, 0, none⟩) 1 1 [(⟨m, m + lw, xn⟩ : Ta)] rfl rfl HT2.out (fun h => by cases h) HLt.out.1 HLt.out.2 HT3.out.size ?_; intro v8 w8 ho8 hg8 hx8; have HO8 := Lib.hid (hd_tk HO9.out _ ho8 hg8); clear ho8 hg8 hx8) | fail)
              go_roundw
              case rel => exact ⟨k2 + 1, by omega, by go_num, by rw [HX.out.1.1, HX.out.1.2, HPm.out.1]; show Hd2 W _ _ (tk ++ [⟨m, m + longW x, x.nodes⟩]) _ (out ++ [m]); rw [HPm.out.2]; exact HO8.out⟩
              case measure => first | (simp [intOf]; done) | (simp [intOf]; omega)
        · obtain rfl : k2 = n2 := by omega
          have hni : ¬ (k2 : Int) < (k2 : Int) := by omega
          have htk : q.take k2 = q := List.take_of_length_le (by rw [HQL.out.2.1]; exact Nat.le_refl _)
          rw [htk, ← HPl.out] at hd
          have HD := Lib.hid hd
          clear hgood hlq hbnd hlen hd htk
          go_wp2_with fail
          go_ret
          exact ⟨_, rfl, HD.out.oo, HD.out.below⟩
end Go.Proofs.Ytckebhknnocpkaa.Cns
