/- Cons: ConsLater, over any cons that does as it should. -/
import Derived.Test.YtckebhknnocpkaaConPlL
import Derived.Test.YtckebhknnocpkaaNestE
import Derived.Test.YtckebhknnocpkaaArrs
namespace Go.Proofs.Ytckebhknnocpkaa.Cns
set_option maxRecDepth 100000
open Go.RowKit
open Go.Sort
open Kit
open Tre (Lst inI lst_keep lst_take lst_at lst_new lst_none below_drewN' run_ld2 IntsL encI encI_len OwI int_cell ints_any)
open Prf (Bz newF Nd Tk Busys encZ encZ_len OwZ own_busys held held_may rheld_any)
open Esy (T9 okB Bools encO_len rbusy9_any busy9 busy9_may own_asks OwQ encQ_one run_bs_q)
open Go.Proofs.Ytckebhknnocpkaa.Ord (Aq Asks encQ encQ_len ask_cells info_ask)
set_option linter.unusedVariables false
variable {w w' : World}

abbrev nLat : Nest.At := ⟨4, 29, 8, 33, 98, 98, 3, 28, 7, 32, 6, 31, 99, 99, 98⟩
theorem run_bs0_q (w : World) : (Instr.buildSlice 23 0 #[]).run Try.prog w = .ok (.slice (some ⟨w.heap.size, 0, none⟩) 0 0) (w.alloc (.cells #[] 38)) := by
  simp [go_sem]
theorem info_ask2 : (Try.prog.info? 38).map (·.size) = some 2 := by kernel_rfl
theorem run_ld_ask {B : Nat} {x y : Int} (h : Arr.Blk w B 38 [.int .i64 x, .int .i64 y]) : (Instr.loadAt 38 (.pointer (some ⟨B, 0, none⟩))).run Try.prog w = .ok (.agg #[.int .i64 x, .int .i64 y]) w := by
  simp only [Instr.loadAt, Instr.sureAddr, Sem.run_bind, Sem.run_pure, Result.andThen_ok]
  exact run_loadVar_row w B 38 38 #[.int .i64 x, .int .i64 y] (0, 0) _ h Try.underlying38 rfl info_ask2
theorem tyQ : Nest.Ty encQ 2 Try.prog 23 38 (.agg #[.int .i64 0, .int .i64 0]) 16 := ⟨encQ_len, by decide, encQ_one, Try.underlying23, info_ask, rfl⟩
def LP (m : Nat) (PL : List Int) (w : World) (v : Value) : Prop := ∃ a c, v = .slice a m c ∧ IntsL w a m c PL
/-- What has come: the queue as it is put together, and its plan. -/
def JL (m : Nat) (PL : List Int) (w0 : World) (P1 P2 P3 : List Aq) (L : Array Bool) (s : Nat → Value) (w : World) : Prop :=
  Nest.JE nLat 2 27 encQ 2 38 w0 undef P1 P2 P3 L s w ∧ (L.getD 9 false = true → LP m PL w (s 34)) ∧ (L.getD 10 false = true → LP m PL w (s 13))
variable {m : Nat} {PL : List Int} {w0 : World} {P1 P2 P3 : List Aq} {L : Array Bool} {a : Act}
theorem jl_start {k : Nat} {s : Nat → Value} (hb : Below w0.heap.size w0 w) (hd : s 99 = undef := by rfl) : JL m PL w0 P1 P2 P3 (Array.replicate k false) s w := by
  have e : ∀ i, (Array.replicate k false).getD i false = false := by
    intro i
    by_cases h : i < k <;> simp [h]
  exact ⟨Nest.startE _ _ _ _ _ hd hb, fun h => (by rw [e] at h; cases h), fun h => (by rw [e] at h; cases h)⟩
theorem jl_go {k d : Nat} {v : Value} (h9 : k ≠ 9) (h10 : k ≠ 10) (f9 : L.getD 9 false = false) (f10 : L.getD 10 false = false) (h : Nest.JE nLat 2 27 encQ 2 38 w0 undef P1 P2 P3 (L.setIfInBounds k true) (Rel.slot (a.put (some d) v)) w) : JL m PL w0 P1 P2 P3 (L.setIfInBounds k true) (Rel.slot (a.put (some d) v)) w :=
  ⟨h, fun e => (by rw [Rel.set_ne h9, f9] at e; cases e), fun e => (by rw [Rel.set_ne h10, f10] at e; cases e)⟩
theorem jl_plan {v : Value} (ht : 34 < a.tmps.size) (hi : 9 < L.size) (f10 : L.getD 10 false = false) (h : Nest.JE nLat 2 27 encQ 2 38 w0 undef P1 P2 P3 (L.setIfInBounds 9 true) (Rel.slot (a.put (some 34) v)) w) (hv : LP m PL w v) : JL m PL w0 P1 P2 P3 (L.setIfInBounds 9 true) (Rel.slot (a.put (some 34) v)) w :=
  ⟨h, fun _ => (by rw [Rel.slot_put ht]; exact hv), fun e => (by rw [Rel.set_ne (by decide), f10] at e; cases e)⟩
theorem jl_end (j : JL m PL w0 P1 P2 P3 L (Rel.slot a) w) (ht : 13 < a.tmps.size) (hi : 10 < L.size) (g9 : L.getD 9 false = true) (h : Nest.JE nLat 2 27 encQ 2 38 w0 undef P1 P2 P3 (L.setIfInBounds 10 true) (Rel.slot (a.put (some 13) (Rel.slot a 34))) w) : JL m PL w0 P1 P2 P3 (L.setIfInBounds 10 true) (Rel.slot (a.put (some 13) (Rel.slot a 34))) w :=
  ⟨h, fun _ => (by rw [Rel.slot_put_ne (by decide)]; exact j.2.1 g9), fun _ => (by rw [Rel.slot_put ht]; exact j.2.1 g9)⟩
theorem asks_ofL {s : Nat → Value} (h : Nest.JE nLat 2 27 encQ 2 38 w0 undef P1 P2 P3 L s w) (f1 : L.getD 4 false = true) (f2 : L.getD 8 false = true) (f3 : L.getD 98 false = false) :
    ∃ a c, s 33 = .slice a ([] ++ P1 ++ P2).length c ∧ Asks w a ([] ++ P1 ++ P2).length c ([] ++ P1 ++ P2) := by
  have h2 := h.own
  change Owns encQ 2 38 w w0.heap.size (Nest.cur (L.getD 4 false) (L.getD 8 false) (L.getD 98 false) _ (s 29) (s 33) (s 98)) (Nest.lst (L.getD 4 false) (L.getD 8 false) (L.getD 98 false) [] P1 P2 P3) at h2
  rw [f1, f2, f3] at h2
  exact own_asks h2
theorem run_to_i {ad : Option Addr} {K M cp : Nat} (h1 : K ≤ M) (h2 : M ≤ cp) (w : World) : (Instr.sliceAt 28 (.slice ad M cp) none (some (.int .i64 (K : Nat))) none).run Try.prog w = .ok (.slice ad K cp) w := by
  simp [go_sem]
  intro h; omega
def kOne : Rel.Kd Rel.Gt := ⟨fun _ v => ∃ ad, v = .slice ad 1 1, fun _ _ _ _ h => h⟩
theorem lit_ask {s : Nat → Value} {x : Aq} (h : Nest.JE nLat 2 27 encQ 2 38 w0 undef P1 P2 P3 L s w) (g3 : L.getD 6 false = true) (f3 : L.getD 98 false = false) (k3 : kOne.p w (s 31)) (hP : P3 = [x]) :
    ∃ ad, s 31 = .slice ad 1 1 ∧ Asks w ad 1 1 [x] := by
  have h5 := h.three
  change Nest.Lit encQ 2 w (L.getD 6 false) (L.getD 98 false) _ (s 31) P3 at h5
  rw [g3, f3] at h5
  obtain ⟨ad, c, e, hr, hn, -⟩ := h5 rfl rfl
  rw [hP] at e hr hn
  obtain ⟨ad', e'⟩ := k3
  rw [e] at e'
  injection e' with e1 e2 e3
  subst e1 e3
  exact ⟨ad, e, rfl, Nat.le_refl _, by unfold maxLen; omega, fun h => by have := (hn h).1; simp at this, hr⟩
theorem part_ret {v v' : Value} {l : List Aq} {B : Nat} (ho : OwQ w' w.heap.size v l) (hv' : ∀ g, v'.ownBlock = some g → g < w.heap.size ∧ B ≤ g) : Nest.Part encQ 2 w' v' v l := by
  have h0 := World.ownsRow.lt ho
  obtain ⟨a, c, hv, hc, hm, hn, hrow⟩ := owns_row encQ_len ho
  subst hv
  refine ⟨a, c, rfl, hrow, fun e => ⟨by have := hn e; omega, hn e⟩, fun q hq _ => ?_⟩
  subst hq
  have h1 := h0 q.block rfl
  refine ⟨fun e => ?_, h1.2⟩
  have := (hv' _ e).1
  omega
set_option maxHeartbeats 16000000 in
theorem later_any (hP : Prog) (W : World) (tot8 : Int) (ab : Option Addr) (n cb : Nat) (l : List Bz) (a3 : Option Addr) (n3 c3 : Nat) (q : List Aq) (an aw : Int) (h0 : 0 ≤ tot8 ∧ tot8 ≤ 255) (h : Busys W ab n cb l) (hq : Asks W a3 n3 c3 q) :
    Calls Try.prog 5 #[.int .u8 tot8, .slice ab n cb, .slice a3 n3 c3, .agg #[.int .i64 an, .int .i64 aw]] W fun e w' => e = .returned (.bool true) ∧ Below W.heap.size W w' := by
  have HP := Lib.hid hP
  have HL := Lib.hid (And.intro h hq)
  obtain ⟨h00, h01⟩ := h0
  have t0 : 0 ≤ tot8 % 40 := Int.emod_nonneg _ (by omega)
  have t1 : tot8 % 40 ≤ 39 := by have := Int.emod_lt_of_pos tot8 (show (0 : Int) < 40 by omega); omega
  obtain ⟨W0, hW0⟩ : ∃ x, x = W.alloc (.cells #[.int .i64 an, .int .i64 aw] 38) := ⟨_, rfl⟩
  have b0 : Below W.heap.size W W0 := by rw [hW0]; exact below_alloc _ _
  have k0 : Arr.Blk W0 W.heap.size 38 [.int .i64 an, .int .i64 aw] := by rw [hW0]; exact Arr.blk_new W _ _ _ rfl
  have HW := Lib.hid (And.intro b0 k0)
  have HC0 := Lib.hid (rbusy9_any W0 ab n cb l (lst_keep encZ_len HL.out.1 b0))
  have HM := Lib.hid (busy9_may (l := l))
  obtain ⟨lb, hlb⟩ : ∃ lb, lb = busy9 l := ⟨_, rfl⟩
  rw [← hlb] at HC0 HM
  obtain ⟨nb, hnb⟩ : ∃ nb, nb = lb.length := ⟨_, rfl⟩
  have HNb := Lib.hid hnb
  have hnb40 : nb ≤ 40 := by rw [hnb]; exact HM.out.2
  rw [hW0] at HW HC0
  clear hP h hq hlb hnb b0 k0 hW0
  clear W0
  go_enter Try.func5, Try.ntmps5
  go_wp2_with fail
  refine HC0.out.mono ?_
  rintro e w3 ⟨v3, rfl, ho3, hb3⟩
  obtain ⟨a5, c5, rfl, l5⟩ := own_busys ho3
  rw [← HNb.out] at l5 ⊢
  have H3 := Lib.hid (And.intro (below_keep HW.out.1 hb3) (And.intro l5 (Arr.blk_below HW.out.2 hb3 (Arr.blk_lt HW.out.2))))
  have HC1 := Lib.hid (rasksW_any w3 a3 n3 c3 q (lst_keep encQ_len HL.out.2 H3.out.1))
  have HMq := Lib.hid (asksW_may (l := q))
  obtain ⟨qb, hqb⟩ : ∃ qb, qb = asksW q := ⟨_, rfl⟩
  rw [← hqb] at HC1 HMq
  obtain ⟨mb, hmb⟩ : ∃ mb, mb = qb.length := ⟨_, rfl⟩
  have HMb := Lib.hid hmb
  have hmb30 : mb ≤ 30 := by have := HMq.out.2; omega
  clear hqb hmb hb3 ho3 l5 HC0 HW
  go_wp2_with fail
  refine HC1.out.mono ?_
  rintro e w4 ⟨v4, rfl, ho4, hb4⟩
  have ho4l := World.ownsRow.lt ho4
  obtain ⟨a6, c6, rfl, l6⟩ := own_asks ho4
  rw [← HMb.out] at l6 ho4 ho4l ⊢
  have H4 := Lib.hid (And.intro (below_keep H3.out.1 hb4) (And.intro (lst_keep encZ_len H3.out.2.1 hb4) (And.intro l6 (Arr.blk_below H3.out.2.2 hb4 (Arr.blk_lt H3.out.2.2)))))
  have HO4 := Lib.hid ho4l
  obtain ⟨al, hal⟩ : ∃ al, al = tot8 % 40 := ⟨_, rfl⟩
  have HAl := Lib.hid (And.intro hal (show Nd al from by rw [hal]; exact ⟨t0, by omega⟩))
  have HoD := Lib.hid (show ∀ b ∈ lb, okD b from fun b hb => ⟨(HM.out.1 b hb).1, (HM.out.1 b hb).2.2⟩)
  obtain ⟨L1, hL1⟩ : ∃ L, plan 0 al lb qb [] = L := ⟨_, rfl⟩
  have hL1l : L1.length = mb := by rw [← hL1, plan_len]; exact HMb.out.symm
  have HC2 := Lib.hid (plan_is HP.out w4 0 al a5 nb c5 lb a6 mb c6 qb none 0 0 [] L1 hL1 mb hL1l ⟨by omega, by omega⟩ HAl.out.2 H4.out.2.1 HoD.out (by omega) H4.out.2.2.1 (fun x hx => HMq.out.1 x hx) (by omega) (lst_none _ _ _))
  have HL1 := Lib.hid (And.intro hL1 hL1l)
  clear hb4 ho4 l6 HC1 H3 ho4l hal hL1 hL1l
  go_upto_region 3 with fail
  rw [← HAl.out.1]
  clear t0 t1
  go_wp2_with fail
  refine HC2.out.mono ?_
  rintro e w6 ⟨a7, c7, rfl, i7, hb6⟩
  have HBx := Lib.hid (Arr.blk_below H4.out.2.2.2 hb6 (Arr.blk_lt H4.out.2.2.2))
  have H6 := Lib.hid (And.intro (below_keep H4.out.1 hb6) (And.intro (lst_keep encZ_len H4.out.2.1 hb6) (And.intro (lst_keep encQ_len H4.out.2.2.1 hb6) i7)))
  have hsz : w4.heap.size ≤ w6.heap.size := hb6.size
  have hp1 : ∀ w, Below w6.heap.size w6 w → ∀ v : Value, (∀ g, v.ownBlock = some g → g < w.heap.size ∧ w6.heap.size ≤ g) → Nest.Part encQ 2 w v (.slice a6 mb c6) qb := by
    intro w hb v hv
    have := Nest.part_old (c := c6) encQ_len H6.out.2.2.1.row (fun e => ⟨by have := (H6.out.2.2.1.nil e).1; rw [← HMb.out]; exact this, (H6.out.2.2.1.nil e).2⟩) (fun p hp _ => by
      have := (HO4.out p.block (by rw [hp]; unfold Value.ownBlock; cases p; rfl)).2
      omega) hb v hv
    rwa [← HMb.out] at this
  have hln : ([] ++ qb ++ asksW [⟨an, aw⟩]).length = mb + 1 := by rw [List.nil_append, List.length_append, ← HMb.out]; rfl
  have hok : ∀ x ∈ [] ++ qb ++ asksW [⟨an, aw⟩], okC x := by
    intro x hx
    rw [List.nil_append] at hx
    rcases List.mem_append.1 hx with h | h
    · exact HMq.out.1 x h
    · exact asksW_may.1 x h
  obtain ⟨PL, hPL⟩ : ∃ L, plan 0 al lb ([] ++ qb ++ asksW [⟨an, aw⟩]) [] = L := ⟨_, rfl⟩
  have hPLl : PL.length = mb + 1 := by rw [← hPL, plan_len, hln]
  have hPLt : PL.take mb = L1 := by
    rw [← hPL, ← HL1.out.1, List.nil_append, HMb.out]
    exact planT_later _ qb _ _
  obtain ⟨mq, hmq⟩ : ∃ mq, mq = mb + 1 := ⟨_, rfl⟩
  rw [← hmq] at hPLl hln
  have HPn := Lib.hid (show ∀ w, Below w6.heap.size w6 w → ∀ a c, Asks w a ([] ++ qb ++ asksW [⟨an, aw⟩]).length c ([] ++ qb ++ asksW [⟨an, aw⟩]) →
      Calls Try.prog 13 #[.int .i64 0, .int .i64 al, .slice a5 nb c5, .slice a ([] ++ qb ++ asksW [⟨an, aw⟩]).length c, .slice none 0 0] w fun e W' => ∃ a c, e = .returned (.slice a mq c) ∧ IntsL W' a mq c PL ∧ Below w.heap.size w W' from
    fun w hb a c hl => plan_is HP.out w 0 al a5 nb c5 lb a _ c _ none 0 0 [] PL hPL mq hPLl ⟨by omega, by omega⟩ HAl.out.2 (lst_keep encZ_len H6.out.2.1 hb) HoD.out (by omega) hl hok (by rw [hln]; omega) (lst_none _ _ _))
  have HD := Lib.hid (show ([] : List Aq).length + qb.length ≤ maxLen ∧ (([] : List Aq).length + qb.length) * 16 ≤ 140737488355328 ∧ ([] ++ qb).length + (asksW [⟨an, aw⟩]).length ≤ maxLen ∧ (([] ++ qb).length + (asksW [⟨an, aw⟩]).length) * 16 ≤ 140737488355328 from by
    have := HMb.out
    have h1 : (asksW [⟨an, aw⟩]).length = 1 := rfl
    simp only [List.length_append, List.length_nil, h1]
    unfold maxLen; omega)
  have HCq := Lib.hid (fun w a (h : Asks w a 1 1 [(⟨an, aw⟩ : Aq)]) => rasksW_any w a 1 1 [⟨an, aw⟩] h)
  obtain ⟨P1, hP1⟩ : ∃ P1, P1 = qb := ⟨_, rfl⟩
  obtain ⟨P2, hP2⟩ : ∃ P2, P2 = asksW [⟨an, aw⟩] := ⟨_, rfl⟩
  obtain ⟨P3, hP3⟩ : ∃ P3, P3 = [(⟨an, aw⟩ : Aq)] := ⟨_, rfl⟩
  rw [← hP1, ← hP2] at HD HPn
  rw [← hP1] at hp1
  rw [← hP2] at HCq
  have HP1 := Lib.hid hp1
  have HP3 := Lib.hid (show ∀ (w : World) (v : Value), (∀ g, v.ownBlock = some g → g < w.heap.size ∧ w6.heap.size ≤ g) → Nest.Part encQ 2 (w.alloc (.cells #[.int .i64 an, .int .i64 aw] 38)) v (.slice (some ⟨w.heap.size, 0, none⟩) 1 1) P3 from fun w v hv => by
    rw [hP3]
    exact Nest.part_new encQ_len w [⟨an, aw⟩] _ rfl 1 v hv)
  have HOne := Lib.hid hP3
  have HPl := Lib.hid (And.intro hPLl (And.intro hPLt hmq))
  clear hp1 hln hok hPL hPLl hPLt hmq hb6 i7 hsz hP1 hP2 hP3 HC2
  go_wp2_with fail
  refine Rel.wp_region_see (G := Rel.Gt) (Rel.tab [.is (.int .i64 al), .is (.slice a5 nb c5), Rel.Kd.any, .is (.slice a6 mb c6), Rel.Kd.any, .is (.agg #[.int .i64 an, .int .i64 aw]), kOne, Rel.Kd.any, Rel.Kd.any, Rel.Kd.any, Rel.Kd.any]) (JL mq PL w6 P1 P2 P3) (by kernel_rfl) (by kernel_rfl) (by kernel_rfl) (by kernel_rfl) (fun w => trivial) (jl_start (below_drew _)) ?_ ?_
  · refine ⟨?_, ?_, ?_, ?_, ?_, ?_, ?_, ?_, ?_, ?_, ?_, trivial⟩
    · intro L a w c j
      refine .inl ⟨Rel.wanted_free (by kernel_rfl) _, ?_⟩
      exact Rel.wp_mv _ rfl ⟨_, rfl, trivial, (c.old 9 (v := .int .i64 al) (by kernel_rfl) (by kernel_rfl)), (jl_go (by decide) (by decide) (c.later 9 (by kernel_rfl)) (c.later2 10 9 (by kernel_rfl) (c.later 9 (by kernel_rfl))) (Nest.onE (by decide) (by decide) (Nest.go encQ_len j.1 (k := 0) (d := 25) (by kernel_rfl) (by kernel_rfl) (Below.refl _ _))))⟩
    · intro L a w c j
      refine .inl ⟨Rel.wanted_free (by kernel_rfl) _, ?_⟩
      exact Rel.wp_mv _ rfl ⟨_, rfl, trivial, (c.old 10 (v := .slice a5 nb c5) (by kernel_rfl) (by kernel_rfl)), (jl_go (by decide) (by decide) (c.later 9 (by kernel_rfl)) (c.later2 10 9 (by kernel_rfl) (c.later 9 (by kernel_rfl))) (Nest.onE (by decide) (by decide) (Nest.go encQ_len j.1 (k := 1) (d := 26) (by kernel_rfl) (by kernel_rfl) (Below.refl _ _))))⟩
    · intro L a w c j
      refine .inl ⟨Rel.wanted_free (by kernel_rfl) _, ?_⟩
      exact Chn.wp_bs0 _ rfl (run_bs0_q w) ⟨_, rfl, trivial, trivial, (jl_go (by decide) (by decide) (c.later2 9 8 (by kernel_rfl) (c.later2 8 4 (by kernel_rfl) (c.later 4 (by kernel_rfl)))) (c.later2 10 9 (by kernel_rfl) (c.later2 9 8 (by kernel_rfl) (c.later2 8 4 (by kernel_rfl) (c.later 4 (by kernel_rfl))))) (Nest.empE encQ_len j.1 (by kernel_rfl) (by kernel_rfl) (by rw [c.room]; exact of_decide_eq_true (by kernel_rfl)) (by rw [c.size]; exact of_decide_eq_true (by kernel_rfl)) (Rel.free_no c.free) (c.later 4 (by kernel_rfl)) (c.later2 8 4 (by kernel_rfl) (c.later 4 (by kernel_rfl))) (Nest.far_no j.1 (by rw [c.size]; exact of_decide_eq_true (by kernel_rfl)))))⟩
    · intro L a w c j
      refine .inl ⟨Rel.wanted_free (by kernel_rfl) _, ?_⟩
      have e0 : a.eval (.tmp 11) = .slice a6 mb c6 := (c.old 11 (v := .slice a6 mb c6) (by kernel_rfl) (by kernel_rfl))
      refine Rel.wp_mv _ rfl ?_
      rw [e0]
      exact ⟨_, rfl, trivial, rfl, (jl_go (by decide) (by decide) (c.later2 9 8 (by kernel_rfl) (c.later2 8 4 (by kernel_rfl) (c.later 4 (by kernel_rfl)))) (c.later2 10 9 (by kernel_rfl) (c.later2 9 8 (by kernel_rfl) (c.later2 8 4 (by kernel_rfl) (c.later 4 (by kernel_rfl))))) (Nest.onE (by decide) (by decide) (Nest.mk1 encQ_len j.1 (by kernel_rfl) (by kernel_rfl) (by rw [c.room]; exact of_decide_eq_true (by kernel_rfl)) (Below.refl _ _) (fun v hv => HP1.out w j.1.below v hv))))⟩
    · intro L a w c j
      refine .inl ⟨Rel.wanted_free (by kernel_rfl) _, ?_⟩
      obtain ⟨v9, w9, hr, hj⟩ := Nest.ap1E tyQ j.1 (by decide) (by decide) (c.came 2 (by kernel_rfl)) (by kernel_rfl) (by kernel_rfl) (by rw [c.room]; exact of_decide_eq_true (by kernel_rfl)) (by rw [c.size]; exact of_decide_eq_true (by kernel_rfl)) (Rel.free_no c.free) (c.later 8 (by kernel_rfl)) (Nest.far_no j.1 (by rw [c.size]; exact of_decide_eq_true (by kernel_rfl))) (c.came 3 (by kernel_rfl)) (Nest.far_no j.1 (by rw [c.size]; exact of_decide_eq_true (by kernel_rfl))) HD.out.1 HD.out.2.1 23
      exact Chn.wp_ap _ _ _ rfl rfl rfl hr ⟨_, rfl, trivial, trivial, (jl_go (by decide) (by decide) (c.later2 9 8 (by kernel_rfl) (c.later 8 (by kernel_rfl))) (c.later2 10 9 (by kernel_rfl) (c.later2 9 8 (by kernel_rfl) (c.later 8 (by kernel_rfl)))) hj)⟩
    · intro L a w c j
      refine .inl ⟨Rel.wanted_free (by kernel_rfl) _, ?_⟩
      exact Rel.wp_ld _ _ rfl (c.old 7 (v := .pointer (some ⟨W.heap.size, 0, none⟩)) (by kernel_rfl) (by kernel_rfl)) (run_ld_ask (Arr.blk_below HBx.out j.1.below (Arr.blk_lt HBx.out))) ⟨_, rfl, trivial, rfl, (jl_go (by decide) (by decide) (c.later2 9 8 (by kernel_rfl) (c.later2 8 7 (by kernel_rfl) (c.later2 7 6 (by kernel_rfl) (c.later 6 (by kernel_rfl))))) (c.later2 10 9 (by kernel_rfl) (c.later2 9 8 (by kernel_rfl) (c.later2 8 7 (by kernel_rfl) (c.later2 7 6 (by kernel_rfl) (c.later 6 (by kernel_rfl)))))) (Nest.onE (by decide) (by decide) (Nest.go encQ_len j.1 (k := 5) (d := 30) (by kernel_rfl) (by kernel_rfl) (Below.refl _ _))))⟩
    · intro L a w c j
      refine .inl ⟨Rel.wanted_free (by kernel_rfl) _, ?_⟩
      exact Chn.wp_bs1 _ _ rfl (c.get 5 30 (by kernel_rfl)) (run_bs_q an aw w) ⟨_, rfl, trivial, ⟨_, rfl⟩, (jl_go (by decide) (by decide) (c.later2 9 8 (by kernel_rfl) (c.later2 8 7 (by kernel_rfl) (c.later 7 (by kernel_rfl)))) (c.later2 10 9 (by kernel_rfl) (c.later2 9 8 (by kernel_rfl) (c.later2 8 7 (by kernel_rfl) (c.later 7 (by kernel_rfl))))) (Nest.onE (by decide) (by decide) (Nest.mk3 encQ_len j.1 (by kernel_rfl) (by kernel_rfl) (by rw [c.room]; exact of_decide_eq_true (by kernel_rfl)) (below_alloc _ _) (fun v hv => HP3.out w v hv))))⟩
    · intro L a w c j
      refine .inl ⟨Rel.wanted_free (by kernel_rfl) _, ?_⟩
      obtain ⟨x1, e1, l1⟩ := lit_ask j.1 (c.came 6 (by kernel_rfl)) (Nest.far_no j.1 (by rw [c.size]; exact of_decide_eq_true (by kernel_rfl))) (c.get 6 31 (by kernel_rfl)) HOne.out
      refine Rel.wp_cl _ _ _ rfl Try.func8 (by kernel_rfl) ?_
      show Calls _ _ #[Rel.slot a 31] w _
      rw [e1]
      refine (HCq.out w x1 l1).mono ?_
      rintro e w' ⟨v, rfl, ho, hb⟩
      exact ⟨_, rfl, _, rfl, trivial, trivial, (jl_go (by decide) (by decide) (c.later2 9 8 (by kernel_rfl) (c.later 8 (by kernel_rfl))) (c.later2 10 9 (by kernel_rfl) (c.later2 9 8 (by kernel_rfl) (c.later 8 (by kernel_rfl)))) (Nest.onE (by decide) (by decide) (Nest.mk2 encQ_len j.1 (by kernel_rfl) (by kernel_rfl) (by rw [c.room]; exact of_decide_eq_true (by kernel_rfl)) hb (fun v' hv' => part_ret ho hv'))))⟩
    · intro L a w c j
      refine .inl ⟨Rel.wanted_free (by kernel_rfl) _, ?_⟩
      obtain ⟨v9, w9, hr, hj⟩ := Nest.ap2 tyQ j.1 (by kernel_rfl) (by kernel_rfl) (by rw [c.room]; exact of_decide_eq_true (by kernel_rfl)) (by rw [c.size]; exact of_decide_eq_true (by kernel_rfl)) (c.came 4 (by kernel_rfl)) (Rel.free_no c.free) (Nest.far_no j.1 (by rw [c.size]; exact of_decide_eq_true (by kernel_rfl))) (c.came 7 (by kernel_rfl)) (Nest.far_no j.1 (by rw [c.size]; exact of_decide_eq_true (by kernel_rfl))) HD.out.2.2.1 HD.out.2.2.2 23
      exact Chn.wp_ap _ _ _ rfl rfl rfl hr ⟨_, rfl, trivial, trivial, (jl_go (by decide) (by decide) (c.later 9 (by kernel_rfl)) (c.later2 10 9 (by kernel_rfl) (c.later 9 (by kernel_rfl))) (Nest.onE (by decide) (by decide) hj))⟩
    · intro L a w c j
      refine .inl ⟨Rel.wanted_free (by kernel_rfl) _, ?_⟩
      obtain ⟨x2, y2, e2, l2⟩ := asks_ofL j.1 (c.via 8 4 (by kernel_rfl) (c.came 8 (by kernel_rfl))) (c.came 8 (by kernel_rfl)) (Nest.far_no j.1 (by rw [c.size]; exact of_decide_eq_true (by kernel_rfl)))
      refine Rel.wp_cl _ _ _ rfl Try.func13 (by kernel_rfl) ?_
      show Calls _ _ #[.int .i64 0, Rel.slot a 25, Rel.slot a 26, Rel.slot a 33, .slice none 0 0] w _
      rw [c.get 0 25 (by kernel_rfl), c.get 1 26 (by kernel_rfl), e2]
      refine (HPn.out w j.1.below _ _ l2).mono ?_
      rintro e w' ⟨a', c', rfl, hi, hb⟩
      exact ⟨_, rfl, _, rfl, trivial, trivial, jl_plan (by rw [c.room]; exact of_decide_eq_true (by kernel_rfl)) (by rw [c.size]; exact of_decide_eq_true (by kernel_rfl)) (c.later 10 (by kernel_rfl)) (Nest.onE (by decide) (by decide) (Nest.go encQ_len j.1 (k := 9) (d := 34) (by kernel_rfl) (by kernel_rfl) hb)) ⟨a', c', rfl, hi⟩⟩
    · intro L a w c j
      refine .inl ⟨Rel.wanted_free (by kernel_rfl) _, ?_⟩
      exact Rel.wp_as _ rfl ⟨_, rfl, trivial, trivial, jl_end j (by rw [c.room]; exact of_decide_eq_true (by kernel_rfl)) (by rw [c.size]; exact of_decide_eq_true (by kernel_rfl)) (c.came 9 (by kernel_rfl)) (Nest.onE (by decide) (by decide) (Nest.go encQ_len j.1 (k := 10) (d := 13) (by kernel_rfl) (by kernel_rfl) (Below.refl _ _)))⟩
  intro a w9 hbase hroom hdef hJ hV
  obtain ⟨aq, cq, eq9, hi9⟩ := hJ.2.2 (of_decide_eq_true (by kernel_rfl))
  have hE : Below w6.heap.size w6 w9 := hJ.1.below
  clear hJ
  have k13 : (Rel.Kd.any : Rel.Kd (Rel.Gt)).p w9 (Rel.slot a 13) := hV 10 _ _ rfl rfl
  rw [Chn.act_puts [25, 26, 27, 28, 29, 30, 31, 32, 33, 34, 13] hbase hroom hdef (by kernel_rfl)]
  clear hbase hroom hdef hV
  simp only [List.foldl_cons, List.foldl_nil]
  generalize Rel.slot a 25 = u25 at *
  generalize Rel.slot a 26 = u26 at *
  generalize Rel.slot a 27 = u27 at *
  generalize Rel.slot a 28 = u28 at *
  generalize Rel.slot a 29 = u29 at *
  generalize Rel.slot a 30 = u30 at *
  generalize Rel.slot a 31 = u31 at *
  generalize Rel.slot a 32 = u32 at *
  generalize Rel.slot a 33 = u33 at *
  generalize Rel.slot a 34 = u34 at *
  generalize Rel.slot a 13 = u13 at *
  simp only [Act.put, List.setIfInBounds_toArray, List.set_cons_succ, List.set_cons_zero]
  have HE := Lib.hid (And.intro (below_keep H6.out.1 hE) (And.intro hi9 (lst_keep encI_len H6.out.2.2.2 hE)))
  have HCa := Lib.hid (awake_any HP.out w9)
  have HMq1 := Lib.hid (show (mq : Int) = (mb : Int) + 1 by have := HPl.out.2.2; omega)
  rw [eq9]
  clear hE hi9 eq9
  have hmq30 : mq ≤ 31 := by have := HPl.out.2.2; omega
  have hmbq : mb ≤ mq := by have := HPl.out.2.2; omega
  go_wp2_with fail
  refine HCa.out.mono ?_
  rintro e w10 ⟨rfl, hb10⟩
  have i1 := lst_keep encI_len HE.out.2.1 hb10
  have HF := Lib.hid (show Below W.heap.size W w10 ∧ IntsL w10 aq mb cq L1 ∧ IntsL w10 a7 mb c7 L1 from ⟨below_keep HE.out.1 hb10, by
    have h2 := lst_take i1 mb (by omega)
    rw [HPl.out.2.1] at h2
    exact h2, lst_keep encI_len HE.out.2.2 hb10⟩)
  have hcq := i1.cap
  have hcm := i1.max
  have hrs := run_to_i (cp := cq) (ad := aq) (K := mb) (M := mq) (by omega) hcq w10
  have HCi := Lib.hid (ints_any aq a7 mb cq mb c7 L1 L1 w10 HF.out.2.1 HF.out.2.2)
  rw [decide_eq_true rfl] at HCi
  have heq : ((mq : Int) == (mb : Int) + 1) = true := by rw [HMq1.out]; simp
  clear hb10 i1 HCa hcm
  go_wp2_with fail
  refine HCi.out.mono ?_
  rintro e w11 ⟨rfl, hb11⟩
  have HG := Lib.hid (below_keep HF.out.1 hb11)
  clear hb11 HCi
  go_wp2_with fail
  go_ret
  exact ⟨rfl, HG.out⟩
end Go.Proofs.Ytckebhknnocpkaa.Cns
