/- PlaneMoves answers true for any two boxes and any number of ticks, each read afterwards as it was: boxes moved by the same ticks meet just if they did; a box meets itself, not the one that begins where it ends, not the one on the nodes behind it. No condition. -/
import Derived.Test.YtahkhkfmpnoneaaRows
import Derived.WalkKit
import Derived.ProofKit
import Derived.OpenShut
import Derived.ShutString
import Derived.ChangeOld
import Derived.Below
import Derived.Test.YtahkhkfmpnoneaaOpens
import Derived.Test.YtahkhkfmpnoneaaPlaFour
import Derived.Deep.RegionHeld3
import Derived.Deep.DrawnRows
import Derived.Deep.DeepCutAuto
namespace Go.Proofs.Ytahkhkfmpnoneaa.planeMoves
open Go.ChangeShapes Go.WideShapes Go.ChangeAt Go.RowKit
open Go.ChangeMaps (open_string shut_string)
set_option linter.unusedVariables false

theorem own : ownKnob Try.prog.godebug = none := by kernel_rfl
theorem laidOut : laidOutB Try.prog = true := by kernel_rfl

open Pla
open Go.Sort
theorem cell_drew {w : World} {a : Addr} {v : Value} (h : w.cell? a = some v) : w.drew.cell? a = some v := h
theorem cell_alloc {w : World} {a : Addr} {v : Value} {o : Obj} (h : w.cell? a = some v) : (w.alloc o).cell? a = some v := by rw [World.cell?_alloc_some _ _ _ (by rw [h]; rfl)]; exact h
theorem set_far {w : World} {a x : Addr} {u v : Value} (hne : a.block ≠ x.block) (h : w.cell? x = some v) : (w.setCell a u).cell? x = some v := by rw [World.cell?_setCell_far _ _ _ _ hne]; exact h
theorem set_off {w : World} {b i j : Nat} {u v : Value} (hne : i ≠ j) (h : w.cell? ⟨b, j, none⟩ = some v) : (w.setCell ⟨b, i, none⟩ u).cell? ⟨b, j, none⟩ = some v := by rw [World.cell?_setCell_other _ _ _ _ (off_ne hne)]; exact h
set_option maxRecDepth 100000
def Four (w0 : World) (b : Nat) (t n l m t' n' l' m' a2 : Int) (b0 b1 b2 b3 b4 b5 b6 b7 b8 b9 b10 b11 : Bool) (a' : Act) (w' : World) : Prop :=
  ∃ u26 u27 u28 u29 v7 v8 v9 v10 : Value, a' = { tmps := #[.agg #[.int .i64 t, .int .i64 n, .int .i64 l, .int .i64 m], .agg #[.int .i64 t', .int .i64 n', .int .i64 l', .int .i64 m'], .int .u16 a2, .pointer (some ⟨b, 0, none⟩), .pointer (some ⟨b + 1, 0, none⟩), undef, .bool false, v7, v8, v9, v10, .agg #[.int .i64 t, .int .i64 n, .int .i64 l, .int .i64 m], .bool true, .bool false, .bool false, .agg #[.int .i64 t', .int .i64 n', .int .i64 l', .int .i64 m'], .bool true, .bool false, .bool false, undef, undef, undef, undef, undef, undef, undef, u26, u27, u28, u29, undef, undef, undef, undef, undef, undef, undef, undef, undef, undef, undef, undef, undef, undef, undef, undef, undef, undef, undef, undef, undef, undef, undef, undef, undef, undef, undef, undef, undef, undef, undef, undef, undef, undef, undef, undef, undef, undef, undef, undef, undef, undef, undef, undef, undef, undef, undef, undef, undef, undef, undef, undef, undef, undef, undef, undef, undef], defers := [] } ∧
    Below w0.heap.size w0 w' ∧ (b0 = true → u26 = (.agg #[.int .i64 t, .int .i64 n, .int .i64 l, .int .i64 m])) ∧
    (b1 = true → u27 = (.agg #[.int .i64 t', .int .i64 n', .int .i64 l', .int .i64 m'])) ∧
    (b2 = true → u28 = (.agg #[.int .i64 t, .int .i64 n, .int .i64 l, .int .i64 m])) ∧
    (b3 = true → u29 = (.agg #[.int .i64 t, .int .i64 n, .int .i64 l, .int .i64 m])) ∧
    (b4 = true → ∃ p, v7 = .pointer (some ⟨p, 0, none⟩) ∧ Room w0 w' p ∧ (b8 = true → Cells4 w' p (.int .i64 t) (.int .i64 n) (.int .i64 l) (.int .i64 m))) ∧
    (b5 = true → ∃ p, v8 = .pointer (some ⟨p, 0, none⟩) ∧ Room w0 w' p ∧ (b9 = true → Cells4 w' p (.int .i64 t') (.int .i64 n') (.int .i64 l') (.int .i64 m'))) ∧
    (b6 = true → ∃ p, v9 = .pointer (some ⟨p, 0, none⟩) ∧ Room w0 w' p ∧ (b10 = true → Cells4 w' p (.int .i64 t) (.int .i64 n) (.int .i64 l) (.int .i64 m))) ∧
    (b7 = true → ∃ p, v10 = .pointer (some ⟨p, 0, none⟩) ∧ Room w0 w' p ∧ (b11 = true → Cells4 w' p (.int .i64 t) (.int .i64 n) (.int .i64 l) (.int .i64 m))) ∧
    (b4 = true → b5 = true → v7 ≠ v8) ∧
    (b4 = true → b6 = true → v7 ≠ v9) ∧
    (b4 = true → b7 = true → v7 ≠ v10) ∧
    (b5 = true → b6 = true → v8 ≠ v9) ∧
    (b5 = true → b7 = true → v8 ≠ v10) ∧
    (b6 = true → b7 = true → v9 ≠ v10) ∧
    (b8 = true → b4 = true) ∧
    (b9 = true → b5 = true) ∧
    (b10 = true → b6 = true) ∧
    (b11 = true → b7 = true)
def FourL (w0 : World) (b : Nat) (t n l m t' n' l' m' a2 : Int) (L : Array Bool) (a' : Act) (w' : World) : Prop :=
  L.size = 12 ∧ Four w0 b t n l m t' n' l' m' a2 (L.getD 0 false) (L.getD 1 false) (L.getD 2 false) (L.getD 3 false) (L.getD 4 false) (L.getD 5 false) (L.getD 6 false) (L.getD 7 false) (L.getD 8 false) (L.getD 9 false) (L.getD 10 false) (L.getD 11 false) a' w'
set_option maxHeartbeats 4000000 in
theorem walk (W : World) (c0 : Array Value) (x0 : Pla.Bx) (w0 : Pla.RBox c0.toList x0) (c1 : Array Value) (x1 : Pla.Bx) (w1 : Pla.RBox c1.toList x1) (a2 : Int) (w2 : (Lit.int .u16 a2).wf = true) :
    Calls Try.prog 7 #[.agg c0, .agg c1, .int .u16 a2] W fun e w' => e = .returned (.bool true) ∧ Below W.heap.size W w' := by
  obtain ⟨t, n, l, m⟩ := x0
  obtain ⟨t', n', l', m'⟩ := x1
  obtain ⟨h0, ⟨ht, hn, hl, hm⟩, _⟩ := w0
  obtain ⟨h1, ⟨ht', hn', hl', hm'⟩, _⟩ := w1
  obtain rfl := arr_of h0
  obtain rfl := arr_of h1
  have hby := bounds_u16 w2
  clear h0 h1 w2
  simp only at ht hn hl hm ht' hn' hl' hm' ⊢
  have hz : W.heap.size < W.heap.size + 1 := by omega
  cases hg : goodB t n l m with
  | false =>
    have HM := Lib.hid (show meetsB t n l m t' n' l' m' = false by unfold meetsB; rw [hg]; rfl)
    have HG := Lib.hid hg
    clear hg
    go_enter Try.func7, Try.ntmps7
    go_wp2_with fail
    refine (good_is _ ht hn hl hm HG.out).mono ?_
    rintro e w3 ⟨rfl, hb⟩
    have HB := Lib.hid (show Below W.heap.size W w3 from below_keep (((Below.refl _ _).alloc (Nat.le_refl _) _).alloc (by simp) _) hb)
    have c0 : w3.cell? ⟨W.heap.size, 0, none⟩ = some (.int .i64 t) := cell_keep hb (by simp [go_sem])
    have c1 : w3.cell? ⟨W.heap.size, 1, none⟩ = some (.int .i64 n) := cell_keep hb (by simp [go_sem])
    have c2 : w3.cell? ⟨W.heap.size, 2, none⟩ = some (.int .i64 l) := cell_keep hb (by simp [go_sem])
    have c3 : w3.cell? ⟨W.heap.size, 3, none⟩ = some (.int .i64 m) := cell_keep hb (by simp [go_sem])
    have d0 : w3.cell? ⟨W.heap.size + 1, 0, none⟩ = some (.int .i64 t') := cell_keep hb (by simp [go_sem])
    have d1 : w3.cell? ⟨W.heap.size + 1, 1, none⟩ = some (.int .i64 n') := cell_keep hb (by simp [go_sem])
    have d2 : w3.cell? ⟨W.heap.size + 1, 2, none⟩ = some (.int .i64 l') := cell_keep hb (by simp [go_sem])
    have d3 : w3.cell? ⟨W.heap.size + 1, 3, none⟩ = some (.int .i64 m') := cell_keep hb (by simp [go_sem])
    clear hb
    go_wp2_with fail
    refine (awake_any _).mono ?_
    rintro e w4 ⟨rfl, hb⟩
    have HB2 := Lib.hid (below_keep HB.out hb)
    replace c0 := cell_keep hb c0
    replace c1 := cell_keep hb c1
    replace c2 := cell_keep hb c2
    replace c3 := cell_keep hb c3
    replace d0 := cell_keep hb d0
    replace d1 := cell_keep hb d1
    replace d2 := cell_keep hb d2
    replace d3 := cell_keep hb d3
    clear hb
    go_wp2_with fail
    refine (meets_is _ ht hn hl hm ht' hn' hl' hm' HM.out).mono ?_
    rintro e w5 ⟨rfl, hb⟩
    go_wp2
    go_ret
    exact ⟨rfl, below_keep HB2.out hb⟩
  | true =>
  cases hg' : goodB t' n' l' m' with
  | false =>
    have HM := Lib.hid (show meetsB t n l m t' n' l' m' = false by unfold meetsB; rw [hg, hg']; rfl)
    have HG := Lib.hid hg
    have HG' := Lib.hid hg'
    clear hg hg'
    go_enter Try.func7, Try.ntmps7
    go_wp2_with fail
    refine (good_is _ ht hn hl hm HG.out).mono ?_
    rintro e w3 ⟨rfl, hb⟩
    have HB := Lib.hid (show Below W.heap.size W w3 from below_keep (((Below.refl _ _).alloc (Nat.le_refl _) _).alloc (by simp) _) hb)
    have c0 : w3.cell? ⟨W.heap.size, 0, none⟩ = some (.int .i64 t) := cell_keep hb (by simp [go_sem])
    have c1 : w3.cell? ⟨W.heap.size, 1, none⟩ = some (.int .i64 n) := cell_keep hb (by simp [go_sem])
    have c2 : w3.cell? ⟨W.heap.size, 2, none⟩ = some (.int .i64 l) := cell_keep hb (by simp [go_sem])
    have c3 : w3.cell? ⟨W.heap.size, 3, none⟩ = some (.int .i64 m) := cell_keep hb (by simp [go_sem])
    have d0 : w3.cell? ⟨W.heap.size + 1, 0, none⟩ = some (.int .i64 t') := cell_keep hb (by simp [go_sem])
    have d1 : w3.cell? ⟨W.heap.size + 1, 1, none⟩ = some (.int .i64 n') := cell_keep hb (by simp [go_sem])
    have d2 : w3.cell? ⟨W.heap.size + 1, 2, none⟩ = some (.int .i64 l') := cell_keep hb (by simp [go_sem])
    have d3 : w3.cell? ⟨W.heap.size + 1, 3, none⟩ = some (.int .i64 m') := cell_keep hb (by simp [go_sem])
    clear hb
    go_wp2_with fail
    refine (good_is _ ht' hn' hl' hm' HG'.out).mono ?_
    rintro e wq ⟨rfl, hb⟩
    replace HB := Lib.hid (below_keep HB.out hb)
    replace c0 := cell_keep hb c0
    replace c1 := cell_keep hb c1
    replace c2 := cell_keep hb c2
    replace c3 := cell_keep hb c3
    replace d0 := cell_keep hb d0
    replace d1 := cell_keep hb d1
    replace d2 := cell_keep hb d2
    replace d3 := cell_keep hb d3
    clear hb
    go_wp2_with fail
    refine (awake_any _).mono ?_
    rintro e w4 ⟨rfl, hb⟩
    have HB2 := Lib.hid (below_keep HB.out hb)
    replace c0 := cell_keep hb c0
    replace c1 := cell_keep hb c1
    replace c2 := cell_keep hb c2
    replace c3 := cell_keep hb c3
    replace d0 := cell_keep hb d0
    replace d1 := cell_keep hb d1
    replace d2 := cell_keep hb d2
    replace d3 := cell_keep hb d3
    clear hb
    go_wp2_with fail
    refine (meets_is _ ht hn hl hm ht' hn' hl' hm' HM.out).mono ?_
    rintro e w5 ⟨rfl, hb⟩
    go_wp2
    go_ret
    exact ⟨rfl, below_keep HB2.out hb⟩
  | true =>
    have HG := Lib.hid hg
    have HG' := Lib.hid hg'
    have r1 := goodB_iff.1 hg
    have r2 := goodB_iff.1 hg'
    clear hg hg'
    go_enter Try.func7, Try.ntmps7
    go_wp2_with fail
    refine (good_is _ ht hn hl hm HG.out).mono ?_
    rintro e w3 ⟨rfl, hb⟩
    have HB := Lib.hid (show Below W.heap.size W w3 from below_keep (((Below.refl _ _).alloc (Nat.le_refl _) _).alloc (by simp) _) hb)
    have c0 : w3.cell? ⟨W.heap.size, 0, none⟩ = some (.int .i64 t) := cell_keep hb (by simp [go_sem])
    have c1 : w3.cell? ⟨W.heap.size, 1, none⟩ = some (.int .i64 n) := cell_keep hb (by simp [go_sem])
    have c2 : w3.cell? ⟨W.heap.size, 2, none⟩ = some (.int .i64 l) := cell_keep hb (by simp [go_sem])
    have c3 : w3.cell? ⟨W.heap.size, 3, none⟩ = some (.int .i64 m) := cell_keep hb (by simp [go_sem])
    have d0 : w3.cell? ⟨W.heap.size + 1, 0, none⟩ = some (.int .i64 t') := cell_keep hb (by simp [go_sem])
    have d1 : w3.cell? ⟨W.heap.size + 1, 1, none⟩ = some (.int .i64 n') := cell_keep hb (by simp [go_sem])
    have d2 : w3.cell? ⟨W.heap.size + 1, 2, none⟩ = some (.int .i64 l') := cell_keep hb (by simp [go_sem])
    have d3 : w3.cell? ⟨W.heap.size + 1, 3, none⟩ = some (.int .i64 m') := cell_keep hb (by simp [go_sem])
    clear hb
    go_wp2_with fail
    refine (good_is _ ht' hn' hl' hm' HG'.out).mono ?_
    rintro e w4 ⟨rfl, hb⟩
    have HB2 := Lib.hid (below_keep HB.out hb)
    replace c0 := cell_keep hb c0
    replace c1 := cell_keep hb c1
    replace c2 := cell_keep hb c2
    replace c3 := cell_keep hb c3
    replace d0 := cell_keep hb d0
    replace d1 := cell_keep hb d1
    replace d2 := cell_keep hb d2
    replace d3 := cell_keep hb d3
    clear hb
    have hz4 : W.heap.size + 1 < w4.heap.size := World.block_lt_of_cell? w4 _ d0
    have n0 := World.new_ne w4 _ c0
    have n1 := World.new_ne w4 _ c1
    have n2 := World.new_ne w4 _ c2
    have n3 := World.new_ne w4 _ c3
    have n4 := World.new_ne w4 _ d0
    have n5 := World.new_ne w4 _ d1
    have n6 := World.new_ne w4 _ d2
    have n7 := World.new_ne w4 _ d3
    go_upto_region 3 with fail
    go_cut [7, 8, 9, 10] (fun s7 s8 s9 s10 wx => ∃ p q r s : Nat, s7 = .pointer (some ⟨p, 0, none⟩) ∧ s8 = .pointer (some ⟨q, 0, none⟩) ∧ s9 = .pointer (some ⟨r, 0, none⟩) ∧ s10 = .pointer (some ⟨s, 0, none⟩) ∧ Below w4.heap.size w4 wx ∧ (Room w4 wx p ∧ Room w4 wx q ∧ Room w4 wx r ∧ Room w4 wx s) ∧ (p ≠ q ∧ p ≠ r ∧ p ≠ s ∧ q ≠ r ∧ q ≠ s ∧ r ≠ s) ∧ (Cells4 wx p (.int .i64 t) (.int .i64 n) (.int .i64 l) (.int .i64 m) ∧ Cells4 wx q (.int .i64 t') (.int .i64 n') (.int .i64 l') (.int .i64 m') ∧ Cells4 wx r (.int .i64 t) (.int .i64 n) (.int .i64 l) (.int .i64 m) ∧ Cells4 wx s (.int .i64 t) (.int .i64 n) (.int .i64 l) (.int .i64 m)))
    case first =>
      refine Reg.wp_region_inv (FourL w4 W.heap.size t n l m t' n' l' m' a2) (by kernel_rfl) ?_ ?_ ?_
      · refine ⟨rfl, undef, undef, undef, undef, undef, undef, undef, undef, rfl, (Below.refl _ _).drew, ?_, ?_, ?_, ?_, ?_, ?_, ?_, ?_, ?_, ?_, ?_, ?_, ?_, ?_, ?_, ?_, ?_, ?_⟩ <;> (intro h; simp at h)
      · rintro L a' w' ⟨hLs, u26, u27, u28, u29, v7, v8, v9, v10, rfl, hB, hu0, hu1, hu2, hu3, ha4, ha5, ha6, ha7, n45, n46, n47, n56, n57, n67, s8, s9, s10, s11⟩ hready
        have g0 : L.getD 0 false = true := Reg.none_ready (by exact hLs) hready rfl (by simp [Region.binds])
        have g1 : L.getD 1 false = true := Reg.none_ready (by exact hLs) hready rfl (by simp [Region.binds])
        have g2 : L.getD 2 false = true := Reg.none_ready (by exact hLs) hready rfl (by simp [Region.binds])
        have g3 : L.getD 3 false = true := Reg.none_ready (by exact hLs) hready rfl (by simp [Region.binds])
        have g4 : L.getD 4 false = true := Reg.none_ready (by exact hLs) hready rfl (by simp [Region.binds])
        have g5 : L.getD 5 false = true := Reg.none_ready (by exact hLs) hready rfl (by simp [Region.binds])
        have g6 : L.getD 6 false = true := Reg.none_ready (by exact hLs) hready rfl (by simp [Region.binds])
        have g7 : L.getD 7 false = true := Reg.none_ready (by exact hLs) hready rfl (by simp [Region.binds])
        have g8 : L.getD 8 false = true := Reg.none_ready (by exact hLs) hready rfl (by simp [hLs] at g0 g1 g2 g3 g4 g5 g6 g7; simp [Region.binds, *])
        have g9 : L.getD 9 false = true := Reg.none_ready (by exact hLs) hready rfl (by simp [hLs] at g0 g1 g2 g3 g4 g5 g6 g7 g8; simp [Region.binds, *])
        have g10 : L.getD 10 false = true := Reg.none_ready (by exact hLs) hready rfl (by simp [hLs] at g0 g1 g2 g3 g4 g5 g6 g7 g8 g9; simp [Region.binds, *])
        have g11 : L.getD 11 false = true := Reg.none_ready (by exact hLs) hready rfl (by simp [hLs] at g0 g1 g2 g3 g4 g5 g6 g7 g8 g9 g10; simp [Region.binds, *])
        obtain ⟨p, rfl, q4, h4⟩ := ha4 g4
        obtain ⟨q, rfl, q5, h5⟩ := ha5 g5
        obtain ⟨r, rfl, q6, h6⟩ := ha6 g6
        obtain ⟨s, rfl, q7, h7⟩ := ha7 g7
        have k4 := h4 g8
        have k5 := h5 g9
        have k6 := h6 g10
        have k7 := h7 g11
        have e1 : p ≠ q := fun e => n45 g4 g5 (by rw [e])
        have e2 : p ≠ r := fun e => n46 g4 g6 (by rw [e])
        have e3 : p ≠ s := fun e => n47 g4 g7 (by rw [e])
        have e4 : q ≠ r := fun e => n56 g5 g6 (by rw [e])
        have e5 : q ≠ s := fun e => n57 g5 g7 (by rw [e])
        have e6 : r ≠ s := fun e => n67 g6 g7 (by rw [e])
        clear ha4 ha5 ha6 ha7 n45 n46 n47 n56 n57 n67 s8 s9 s10 s11 h4 h5 h6 h7 g0 g1 g2 g3 g4 g5 g6 g7 g8 g9 g10 g11 hready hLs hu0 hu1 hu2 hu3
        have HE := Lib.hid (And.intro e1 (And.intro e2 (And.intro e3 (And.intro e4 (And.intro e5 e6)))))
        have HR := Lib.hid (And.intro q4 (And.intro q5 (And.intro q6 q7)))
        have HC := Lib.hid (And.intro k4 (And.intro k5 (And.intro k6 k7)))
        have HBB := Lib.hid hB
        clear e1 e2 e3 e4 e5 e6 q4 q5 q6 q7 k4 k5 k6 k7 hB
        go_wp2_with fail
        go_meet
        exact ⟨p, q, r, s, rfl, rfl, rfl, rfl, HBB.out, HR.out, HE.out, HC.out⟩
      · rintro L a' w' i ⟨hLs, u26, u27, u28, u29, v7, v8, v9, v10, rfl, hB, hu0, hu1, hu2, hu3, ha4, ha5, ha6, ha7, n45, n46, n47, n56, n57, n67, s8, s9, s10, s11⟩ hi
        obtain ⟨hun, o, ho, hdep⟩ := mem_ready.1 hi
        have hi12 : i < 12 := (Array.getElem?_eq_some_iff.1 ho).1
        have hsz := hB.size
        have hi2 : i = 0 ∨ i = 1 ∨ i = 2 ∨ i = 3 ∨ i = 4 ∨ i = 5 ∨ i = 6 ∨ i = 7 ∨ i = 8 ∨ i = 9 ∨ i = 10 ∨ i = 11 := by omega
        have c0' : w'.cell? ⟨W.heap.size, 0, none⟩ = some (.int .i64 t) := cell_keep hB c0
        have c1' : w'.cell? ⟨W.heap.size, 1, none⟩ = some (.int .i64 n) := cell_keep hB c1
        have c2' : w'.cell? ⟨W.heap.size, 2, none⟩ = some (.int .i64 l) := cell_keep hB c2
        have c3' : w'.cell? ⟨W.heap.size, 3, none⟩ = some (.int .i64 m) := cell_keep hB c3
        have d0' : w'.cell? ⟨W.heap.size + 1, 0, none⟩ = some (.int .i64 t') := cell_keep hB d0
        have d1' : w'.cell? ⟨W.heap.size + 1, 1, none⟩ = some (.int .i64 n') := cell_keep hB d1
        have d2' : w'.cell? ⟨W.heap.size + 1, 2, none⟩ = some (.int .i64 l') := cell_keep hB d2
        have d3' : w'.cell? ⟨W.heap.size + 1, 3, none⟩ = some (.int .i64 m') := cell_keep hB d3
        rcases hi2 with rfl | rfl | rfl | rfl | rfl | rfl | rfl | rfl | rfl | rfl | rfl | rfl
        · refine wpOp_step (o := _) rfl (fun K' hK => ?_)
          go_simp
          refine hK _ _ ?_
          unfold FourL Four
          simp only [set_same hun, set_ne (i := 0) (j := 1) (by omega), set_ne (i := 0) (j := 2) (by omega), set_ne (i := 0) (j := 3) (by omega), set_ne (i := 0) (j := 4) (by omega), set_ne (i := 0) (j := 5) (by omega), set_ne (i := 0) (j := 6) (by omega), set_ne (i := 0) (j := 7) (by omega), set_ne (i := 0) (j := 8) (by omega), set_ne (i := 0) (j := 9) (by omega), set_ne (i := 0) (j := 10) (by omega), set_ne (i := 0) (j := 11) (by omega)]
          exact ⟨by simp [hLs], (.agg #[.int .i64 t, .int .i64 n, .int .i64 l, .int .i64 m]), u27, u28, u29, v7, v8, v9, v10, rfl, hB, (fun _ => rfl), hu1, hu2, hu3, ha4, ha5, ha6, ha7, n45, n46, n47, n56, n57, n67, s8, s9, s10, s11⟩
        · refine wpOp_step (o := _) rfl (fun K' hK => ?_)
          go_simp
          refine hK _ _ ?_
          unfold FourL Four
          simp only [set_same hun, set_ne (i := 1) (j := 0) (by omega), set_ne (i := 1) (j := 2) (by omega), set_ne (i := 1) (j := 3) (by omega), set_ne (i := 1) (j := 4) (by omega), set_ne (i := 1) (j := 5) (by omega), set_ne (i := 1) (j := 6) (by omega), set_ne (i := 1) (j := 7) (by omega), set_ne (i := 1) (j := 8) (by omega), set_ne (i := 1) (j := 9) (by omega), set_ne (i := 1) (j := 10) (by omega), set_ne (i := 1) (j := 11) (by omega)]
          exact ⟨by simp [hLs], u26, (.agg #[.int .i64 t', .int .i64 n', .int .i64 l', .int .i64 m']), u28, u29, v7, v8, v9, v10, rfl, hB, hu0, (fun _ => rfl), hu2, hu3, ha4, ha5, ha6, ha7, n45, n46, n47, n56, n57, n67, s8, s9, s10, s11⟩
        · refine wpOp_step (o := _) rfl (fun K' hK => ?_)
          go_simp
          refine hK _ _ ?_
          unfold FourL Four
          simp only [set_same hun, set_ne (i := 2) (j := 0) (by omega), set_ne (i := 2) (j := 1) (by omega), set_ne (i := 2) (j := 3) (by omega), set_ne (i := 2) (j := 4) (by omega), set_ne (i := 2) (j := 5) (by omega), set_ne (i := 2) (j := 6) (by omega), set_ne (i := 2) (j := 7) (by omega), set_ne (i := 2) (j := 8) (by omega), set_ne (i := 2) (j := 9) (by omega), set_ne (i := 2) (j := 10) (by omega), set_ne (i := 2) (j := 11) (by omega)]
          exact ⟨by simp [hLs], u26, u27, (.agg #[.int .i64 t, .int .i64 n, .int .i64 l, .int .i64 m]), u29, v7, v8, v9, v10, rfl, hB, hu0, hu1, (fun _ => rfl), hu3, ha4, ha5, ha6, ha7, n45, n46, n47, n56, n57, n67, s8, s9, s10, s11⟩
        · refine wpOp_step (o := _) rfl (fun K' hK => ?_)
          go_simp
          refine hK _ _ ?_
          unfold FourL Four
          simp only [set_same hun, set_ne (i := 3) (j := 0) (by omega), set_ne (i := 3) (j := 1) (by omega), set_ne (i := 3) (j := 2) (by omega), set_ne (i := 3) (j := 4) (by omega), set_ne (i := 3) (j := 5) (by omega), set_ne (i := 3) (j := 6) (by omega), set_ne (i := 3) (j := 7) (by omega), set_ne (i := 3) (j := 8) (by omega), set_ne (i := 3) (j := 9) (by omega), set_ne (i := 3) (j := 10) (by omega), set_ne (i := 3) (j := 11) (by omega)]
          exact ⟨by simp [hLs], u26, u27, u28, (.agg #[.int .i64 t, .int .i64 n, .int .i64 l, .int .i64 m]), v7, v8, v9, v10, rfl, hB, hu0, hu1, hu2, (fun _ => rfl), ha4, ha5, ha6, ha7, n45, n46, n47, n56, n57, n67, s8, s9, s10, s11⟩
        · have hunf : L.getD 4 false = false := by obtain ⟨hq, hq2⟩ := Reg.getD_false hun; simp [hq, hq2]
          refine wpOp_step (o := _) rfl (fun K' hK => ?_)
          go_simp
          refine hK _ _ ?_
          unfold FourL Four
          simp only [set_same hun, set_ne (i := 4) (j := 0) (by omega), set_ne (i := 4) (j := 1) (by omega), set_ne (i := 4) (j := 2) (by omega), set_ne (i := 4) (j := 3) (by omega), set_ne (i := 4) (j := 5) (by omega), set_ne (i := 4) (j := 6) (by omega), set_ne (i := 4) (j := 7) (by omega), set_ne (i := 4) (j := 8) (by omega), set_ne (i := 4) (j := 9) (by omega), set_ne (i := 4) (j := 10) (by omega), set_ne (i := 4) (j := 11) (by omega)]
          exact ⟨by simp [hLs], u26, u27, u28, u29, .pointer (some ⟨w'.heap.size, 0, none⟩), v8, v9, v10, rfl, (hB.alloc hsz _), hu0, hu1, hu2, hu3, (fun _ => ⟨_, rfl, room_new hsz _ _ _ _ _, fun h => absurd (s8 h) (by rw [hunf]; simp)⟩), (fun h => by obtain ⟨p, h1, h2, h3⟩ := ha5 h; exact ⟨p, h1, room_alloc h2 _, fun g => c4_alloc (h3 g) _⟩), (fun h => by obtain ⟨p, h1, h2, h3⟩ := ha6 h; exact ⟨p, h1, room_alloc h2 _, fun g => c4_alloc (h3 g) _⟩), (fun h => by obtain ⟨p, h1, h2, h3⟩ := ha7 h; exact ⟨p, h1, room_alloc h2 _, fun g => c4_alloc (h3 g) _⟩), (fun _ h e => by obtain ⟨p, h1, h2, h3⟩ := ha5 h; rw [h1] at e; have h9 := h2.2.1; first | (simp at e; done) | (simp at e; omega)), (fun _ h e => by obtain ⟨p, h1, h2, h3⟩ := ha6 h; rw [h1] at e; have h9 := h2.2.1; first | (simp at e; done) | (simp at e; omega)), (fun _ h e => by obtain ⟨p, h1, h2, h3⟩ := ha7 h; rw [h1] at e; have h9 := h2.2.1; first | (simp at e; done) | (simp at e; omega)), n56, n57, n67, (fun _ => trivial), s9, s10, s11⟩
        · have hunf : L.getD 5 false = false := by obtain ⟨hq, hq2⟩ := Reg.getD_false hun; simp [hq, hq2]
          refine wpOp_step (o := _) rfl (fun K' hK => ?_)
          go_simp
          refine hK _ _ ?_
          unfold FourL Four
          simp only [set_same hun, set_ne (i := 5) (j := 0) (by omega), set_ne (i := 5) (j := 1) (by omega), set_ne (i := 5) (j := 2) (by omega), set_ne (i := 5) (j := 3) (by omega), set_ne (i := 5) (j := 4) (by omega), set_ne (i := 5) (j := 6) (by omega), set_ne (i := 5) (j := 7) (by omega), set_ne (i := 5) (j := 8) (by omega), set_ne (i := 5) (j := 9) (by omega), set_ne (i := 5) (j := 10) (by omega), set_ne (i := 5) (j := 11) (by omega)]
          exact ⟨by simp [hLs], u26, u27, u28, u29, v7, .pointer (some ⟨w'.heap.size, 0, none⟩), v9, v10, rfl, (hB.alloc hsz _), hu0, hu1, hu2, hu3, (fun h => by obtain ⟨p, h1, h2, h3⟩ := ha4 h; exact ⟨p, h1, room_alloc h2 _, fun g => c4_alloc (h3 g) _⟩), (fun _ => ⟨_, rfl, room_new hsz _ _ _ _ _, fun h => absurd (s9 h) (by rw [hunf]; simp)⟩), (fun h => by obtain ⟨p, h1, h2, h3⟩ := ha6 h; exact ⟨p, h1, room_alloc h2 _, fun g => c4_alloc (h3 g) _⟩), (fun h => by obtain ⟨p, h1, h2, h3⟩ := ha7 h; exact ⟨p, h1, room_alloc h2 _, fun g => c4_alloc (h3 g) _⟩), (fun h _ e => by obtain ⟨p, h1, h2, h3⟩ := ha4 h; rw [h1] at e; have h9 := h2.2.1; first | (simp at e; done) | (simp at e; omega)), n46, n47, (fun _ h e => by obtain ⟨p, h1, h2, h3⟩ := ha6 h; rw [h1] at e; have h9 := h2.2.1; first | (simp at e; done) | (simp at e; omega)), (fun _ h e => by obtain ⟨p, h1, h2, h3⟩ := ha7 h; rw [h1] at e; have h9 := h2.2.1; first | (simp at e; done) | (simp at e; omega)), n67, s8, (fun _ => trivial), s10, s11⟩
        · have hunf : L.getD 6 false = false := by obtain ⟨hq, hq2⟩ := Reg.getD_false hun; simp [hq, hq2]
          refine wpOp_step (o := _) rfl (fun K' hK => ?_)
          go_simp
          refine hK _ _ ?_
          unfold FourL Four
          simp only [set_same hun, set_ne (i := 6) (j := 0) (by omega), set_ne (i := 6) (j := 1) (by omega), set_ne (i := 6) (j := 2) (by omega), set_ne (i := 6) (j := 3) (by omega), set_ne (i := 6) (j := 4) (by omega), set_ne (i := 6) (j := 5) (by omega), set_ne (i := 6) (j := 7) (by omega), set_ne (i := 6) (j := 8) (by omega), set_ne (i := 6) (j := 9) (by omega), set_ne (i := 6) (j := 10) (by omega), set_ne (i := 6) (j := 11) (by omega)]
          exact ⟨by simp [hLs], u26, u27, u28, u29, v7, v8, .pointer (some ⟨w'.heap.size, 0, none⟩), v10, rfl, (hB.alloc hsz _), hu0, hu1, hu2, hu3, (fun h => by obtain ⟨p, h1, h2, h3⟩ := ha4 h; exact ⟨p, h1, room_alloc h2 _, fun g => c4_alloc (h3 g) _⟩), (fun h => by obtain ⟨p, h1, h2, h3⟩ := ha5 h; exact ⟨p, h1, room_alloc h2 _, fun g => c4_alloc (h3 g) _⟩), (fun _ => ⟨_, rfl, room_new hsz _ _ _ _ _, fun h => absurd (s10 h) (by rw [hunf]; simp)⟩), (fun h => by obtain ⟨p, h1, h2, h3⟩ := ha7 h; exact ⟨p, h1, room_alloc h2 _, fun g => c4_alloc (h3 g) _⟩), n45, (fun h _ e => by obtain ⟨p, h1, h2, h3⟩ := ha4 h; rw [h1] at e; have h9 := h2.2.1; first | (simp at e; done) | (simp at e; omega)), n47, (fun h _ e => by obtain ⟨p, h1, h2, h3⟩ := ha5 h; rw [h1] at e; have h9 := h2.2.1; first | (simp at e; done) | (simp at e; omega)), n57, (fun _ h e => by obtain ⟨p, h1, h2, h3⟩ := ha7 h; rw [h1] at e; have h9 := h2.2.1; first | (simp at e; done) | (simp at e; omega)), s8, s9, (fun _ => trivial), s11⟩
        · have hunf : L.getD 7 false = false := by obtain ⟨hq, hq2⟩ := Reg.getD_false hun; simp [hq, hq2]
          refine wpOp_step (o := _) rfl (fun K' hK => ?_)
          go_simp
          refine hK _ _ ?_
          unfold FourL Four
          simp only [set_same hun, set_ne (i := 7) (j := 0) (by omega), set_ne (i := 7) (j := 1) (by omega), set_ne (i := 7) (j := 2) (by omega), set_ne (i := 7) (j := 3) (by omega), set_ne (i := 7) (j := 4) (by omega), set_ne (i := 7) (j := 5) (by omega), set_ne (i := 7) (j := 6) (by omega), set_ne (i := 7) (j := 8) (by omega), set_ne (i := 7) (j := 9) (by omega), set_ne (i := 7) (j := 10) (by omega), set_ne (i := 7) (j := 11) (by omega)]
          exact ⟨by simp [hLs], u26, u27, u28, u29, v7, v8, v9, .pointer (some ⟨w'.heap.size, 0, none⟩), rfl, (hB.alloc hsz _), hu0, hu1, hu2, hu3, (fun h => by obtain ⟨p, h1, h2, h3⟩ := ha4 h; exact ⟨p, h1, room_alloc h2 _, fun g => c4_alloc (h3 g) _⟩), (fun h => by obtain ⟨p, h1, h2, h3⟩ := ha5 h; exact ⟨p, h1, room_alloc h2 _, fun g => c4_alloc (h3 g) _⟩), (fun h => by obtain ⟨p, h1, h2, h3⟩ := ha6 h; exact ⟨p, h1, room_alloc h2 _, fun g => c4_alloc (h3 g) _⟩), (fun _ => ⟨_, rfl, room_new hsz _ _ _ _ _, fun h => absurd (s11 h) (by rw [hunf]; simp)⟩), n45, n46, (fun h _ e => by obtain ⟨p, h1, h2, h3⟩ := ha4 h; rw [h1] at e; have h9 := h2.2.1; first | (simp at e; done) | (simp at e; omega)), n56, (fun h _ e => by obtain ⟨p, h1, h2, h3⟩ := ha5 h; rw [h1] at e; have h9 := h2.2.1; first | (simp at e; done) | (simp at e; omega)), (fun h _ e => by obtain ⟨p, h1, h2, h3⟩ := ha6 h; rw [h1] at e; have h9 := h2.2.1; first | (simp at e; done) | (simp at e; omega)), s8, s9, s10, (fun _ => trivial)⟩
        · have hdep' : ∀ k, (∃ e ∈ o.after, Region.binds .any e = true ∧ e.on = k) → L.getD k false = true := fun k ⟨e, h1, h2, h3⟩ => h3 ▸ hdep e h1 h2
          injection ho with ho
          subst ho
          have d4 : L.getD 4 false = true := hdep' 4 (by simp [Region.binds])
          obtain ⟨p4, rfl, q4, r4⟩ := ha4 d4
          have d5 : L.getD 5 false = true := hdep' 5 (by simp [Region.binds])
          obtain ⟨p5, rfl, q5, r5⟩ := ha5 d5
          have d6 : L.getD 6 false = true := hdep' 6 (by simp [Region.binds])
          obtain ⟨p6, rfl, q6, r6⟩ := ha6 d6
          have d7 : L.getD 7 false = true := hdep' 7 (by simp [Region.binds])
          obtain ⟨p7, rfl, q7, r7⟩ := ha7 d7
          have du : L.getD 0 false = true := hdep' 0 (by simp [Region.binds])
          have hu := hu0 du
          subst hu
          obtain ⟨_, _, ⟨x0, x1, x2, x3, e0, e1, e2, e3⟩, ef⟩ := q4
          have q4 : Room w4 w' p4 := ⟨by assumption, by assumption, ⟨x0, x1, x2, x3, e0, e1, e2, e3⟩, ef⟩
          have f0 := ef 0
          have f1 := ef 1
          have f2 := ef 2
          have f3 := ef 3
          refine wpOp_step (o := _) rfl (fun K' hK => ?_)
          go_simp
          refine hK _ _ ?_
          unfold FourL Four
          simp only [set_same hun, set_ne (i := 8) (j := 0) (by omega), set_ne (i := 8) (j := 1) (by omega), set_ne (i := 8) (j := 2) (by omega), set_ne (i := 8) (j := 3) (by omega), set_ne (i := 8) (j := 4) (by omega), set_ne (i := 8) (j := 5) (by omega), set_ne (i := 8) (j := 6) (by omega), set_ne (i := 8) (j := 7) (by omega), set_ne (i := 8) (j := 9) (by omega), set_ne (i := 8) (j := 10) (by omega), set_ne (i := 8) (j := 11) (by omega)]
          exact ⟨by simp [hLs], (.agg #[.int .i64 t, .int .i64 n, .int .i64 l, .int .i64 m]), u27, u28, u29, .pointer (some ⟨p4, 0, none⟩), .pointer (some ⟨p5, 0, none⟩), .pointer (some ⟨p6, 0, none⟩), .pointer (some ⟨p7, 0, none⟩), rfl, (st4_below hB q4.1 _ _ _ _), (fun _ => rfl), hu1, hu2, hu3, (fun _ => ⟨p4, rfl, room_st q4 _ _ _ _, fun _ => c4_st q4 _ _ _ _⟩), (fun _ => ⟨p5, rfl, room_st q5 _ _ _ _, fun g => c4_far (r5 g) (fun e => n45 d4 d5 (by rw [e]))⟩), (fun _ => ⟨p6, rfl, room_st q6 _ _ _ _, fun g => c4_far (r6 g) (fun e => n46 d4 d6 (by rw [e]))⟩), (fun _ => ⟨p7, rfl, room_st q7 _ _ _ _, fun g => c4_far (r7 g) (fun e => n47 d4 d7 (by rw [e]))⟩), n45, n46, n47, n56, n57, n67, (fun _ => d4), s9, s10, s11⟩
        · have hdep' : ∀ k, (∃ e ∈ o.after, Region.binds .any e = true ∧ e.on = k) → L.getD k false = true := fun k ⟨e, h1, h2, h3⟩ => h3 ▸ hdep e h1 h2
          injection ho with ho
          subst ho
          have d4 : L.getD 4 false = true := hdep' 4 (by simp [Region.binds])
          obtain ⟨p4, rfl, q4, r4⟩ := ha4 d4
          have d5 : L.getD 5 false = true := hdep' 5 (by simp [Region.binds])
          obtain ⟨p5, rfl, q5, r5⟩ := ha5 d5
          have d6 : L.getD 6 false = true := hdep' 6 (by simp [Region.binds])
          obtain ⟨p6, rfl, q6, r6⟩ := ha6 d6
          have d7 : L.getD 7 false = true := hdep' 7 (by simp [Region.binds])
          obtain ⟨p7, rfl, q7, r7⟩ := ha7 d7
          have du : L.getD 1 false = true := hdep' 1 (by simp [Region.binds])
          have hu := hu1 du
          subst hu
          obtain ⟨_, _, ⟨x0, x1, x2, x3, e0, e1, e2, e3⟩, ef⟩ := q5
          have q5 : Room w4 w' p5 := ⟨by assumption, by assumption, ⟨x0, x1, x2, x3, e0, e1, e2, e3⟩, ef⟩
          have f0 := ef 0
          have f1 := ef 1
          have f2 := ef 2
          have f3 := ef 3
          refine wpOp_step (o := _) rfl (fun K' hK => ?_)
          go_simp
          refine hK _ _ ?_
          unfold FourL Four
          simp only [set_same hun, set_ne (i := 9) (j := 0) (by omega), set_ne (i := 9) (j := 1) (by omega), set_ne (i := 9) (j := 2) (by omega), set_ne (i := 9) (j := 3) (by omega), set_ne (i := 9) (j := 4) (by omega), set_ne (i := 9) (j := 5) (by omega), set_ne (i := 9) (j := 6) (by omega), set_ne (i := 9) (j := 7) (by omega), set_ne (i := 9) (j := 8) (by omega), set_ne (i := 9) (j := 10) (by omega), set_ne (i := 9) (j := 11) (by omega)]
          exact ⟨by simp [hLs], u26, (.agg #[.int .i64 t', .int .i64 n', .int .i64 l', .int .i64 m']), u28, u29, .pointer (some ⟨p4, 0, none⟩), .pointer (some ⟨p5, 0, none⟩), .pointer (some ⟨p6, 0, none⟩), .pointer (some ⟨p7, 0, none⟩), rfl, (st4_below hB q5.1 _ _ _ _), hu0, (fun _ => rfl), hu2, hu3, (fun _ => ⟨p4, rfl, room_st q4 _ _ _ _, fun g => c4_far (r4 g) (fun e => n45 d4 d5 (by rw [e]))⟩), (fun _ => ⟨p5, rfl, room_st q5 _ _ _ _, fun _ => c4_st q5 _ _ _ _⟩), (fun _ => ⟨p6, rfl, room_st q6 _ _ _ _, fun g => c4_far (r6 g) (fun e => n56 d5 d6 (by rw [e]))⟩), (fun _ => ⟨p7, rfl, room_st q7 _ _ _ _, fun g => c4_far (r7 g) (fun e => n57 d5 d7 (by rw [e]))⟩), n45, n46, n47, n56, n57, n67, s8, (fun _ => d5), s10, s11⟩
        · have hdep' : ∀ k, (∃ e ∈ o.after, Region.binds .any e = true ∧ e.on = k) → L.getD k false = true := fun k ⟨e, h1, h2, h3⟩ => h3 ▸ hdep e h1 h2
          injection ho with ho
          subst ho
          have d4 : L.getD 4 false = true := hdep' 4 (by simp [Region.binds])
          obtain ⟨p4, rfl, q4, r4⟩ := ha4 d4
          have d5 : L.getD 5 false = true := hdep' 5 (by simp [Region.binds])
          obtain ⟨p5, rfl, q5, r5⟩ := ha5 d5
          have d6 : L.getD 6 false = true := hdep' 6 (by simp [Region.binds])
          obtain ⟨p6, rfl, q6, r6⟩ := ha6 d6
          have d7 : L.getD 7 false = true := hdep' 7 (by simp [Region.binds])
          obtain ⟨p7, rfl, q7, r7⟩ := ha7 d7
          have du : L.getD 2 false = true := hdep' 2 (by simp [Region.binds])
          have hu := hu2 du
          subst hu
          obtain ⟨_, _, ⟨x0, x1, x2, x3, e0, e1, e2, e3⟩, ef⟩ := q6
          have q6 : Room w4 w' p6 := ⟨by assumption, by assumption, ⟨x0, x1, x2, x3, e0, e1, e2, e3⟩, ef⟩
          have f0 := ef 0
          have f1 := ef 1
          have f2 := ef 2
          have f3 := ef 3
          refine wpOp_step (o := _) rfl (fun K' hK => ?_)
          go_simp
          refine hK _ _ ?_
          unfold FourL Four
          simp only [set_same hun, set_ne (i := 10) (j := 0) (by omega), set_ne (i := 10) (j := 1) (by omega), set_ne (i := 10) (j := 2) (by omega), set_ne (i := 10) (j := 3) (by omega), set_ne (i := 10) (j := 4) (by omega), set_ne (i := 10) (j := 5) (by omega), set_ne (i := 10) (j := 6) (by omega), set_ne (i := 10) (j := 7) (by omega), set_ne (i := 10) (j := 8) (by omega), set_ne (i := 10) (j := 9) (by omega), set_ne (i := 10) (j := 11) (by omega)]
          exact ⟨by simp [hLs], u26, u27, (.agg #[.int .i64 t, .int .i64 n, .int .i64 l, .int .i64 m]), u29, .pointer (some ⟨p4, 0, none⟩), .pointer (some ⟨p5, 0, none⟩), .pointer (some ⟨p6, 0, none⟩), .pointer (some ⟨p7, 0, none⟩), rfl, (st4_below hB q6.1 _ _ _ _), hu0, hu1, (fun _ => rfl), hu3, (fun _ => ⟨p4, rfl, room_st q4 _ _ _ _, fun g => c4_far (r4 g) (fun e => n46 d4 d6 (by rw [e]))⟩), (fun _ => ⟨p5, rfl, room_st q5 _ _ _ _, fun g => c4_far (r5 g) (fun e => n56 d5 d6 (by rw [e]))⟩), (fun _ => ⟨p6, rfl, room_st q6 _ _ _ _, fun _ => c4_st q6 _ _ _ _⟩), (fun _ => ⟨p7, rfl, room_st q7 _ _ _ _, fun g => c4_far (r7 g) (fun e => n67 d6 d7 (by rw [e]))⟩), n45, n46, n47, n56, n57, n67, s8, s9, (fun _ => d6), s11⟩
        · have hdep' : ∀ k, (∃ e ∈ o.after, Region.binds .any e = true ∧ e.on = k) → L.getD k false = true := fun k ⟨e, h1, h2, h3⟩ => h3 ▸ hdep e h1 h2
          injection ho with ho
          subst ho
          have d4 : L.getD 4 false = true := hdep' 4 (by simp [Region.binds])
          obtain ⟨p4, rfl, q4, r4⟩ := ha4 d4
          have d5 : L.getD 5 false = true := hdep' 5 (by simp [Region.binds])
          obtain ⟨p5, rfl, q5, r5⟩ := ha5 d5
          have d6 : L.getD 6 false = true := hdep' 6 (by simp [Region.binds])
          obtain ⟨p6, rfl, q6, r6⟩ := ha6 d6
          have d7 : L.getD 7 false = true := hdep' 7 (by simp [Region.binds])
          obtain ⟨p7, rfl, q7, r7⟩ := ha7 d7
          have du : L.getD 3 false = true := hdep' 3 (by simp [Region.binds])
          have hu := hu3 du
          subst hu
          obtain ⟨_, _, ⟨x0, x1, x2, x3, e0, e1, e2, e3⟩, ef⟩ := q7
          have q7 : Room w4 w' p7 := ⟨by assumption, by assumption, ⟨x0, x1, x2, x3, e0, e1, e2, e3⟩, ef⟩
          have f0 := ef 0
          have f1 := ef 1
          have f2 := ef 2
          have f3 := ef 3
          refine wpOp_step (o := _) rfl (fun K' hK => ?_)
          go_simp
          refine hK _ _ ?_
          unfold FourL Four
          simp only [set_same hun, set_ne (i := 11) (j := 0) (by omega), set_ne (i := 11) (j := 1) (by omega), set_ne (i := 11) (j := 2) (by omega), set_ne (i := 11) (j := 3) (by omega), set_ne (i := 11) (j := 4) (by omega), set_ne (i := 11) (j := 5) (by omega), set_ne (i := 11) (j := 6) (by omega), set_ne (i := 11) (j := 7) (by omega), set_ne (i := 11) (j := 8) (by omega), set_ne (i := 11) (j := 9) (by omega), set_ne (i := 11) (j := 10) (by omega)]
          exact ⟨by simp [hLs], u26, u27, u28, (.agg #[.int .i64 t, .int .i64 n, .int .i64 l, .int .i64 m]), .pointer (some ⟨p4, 0, none⟩), .pointer (some ⟨p5, 0, none⟩), .pointer (some ⟨p6, 0, none⟩), .pointer (some ⟨p7, 0, none⟩), rfl, (st4_below hB q7.1 _ _ _ _), hu0, hu1, hu2, (fun _ => rfl), (fun _ => ⟨p4, rfl, room_st q4 _ _ _ _, fun g => c4_far (r4 g) (fun e => n47 d4 d7 (by rw [e]))⟩), (fun _ => ⟨p5, rfl, room_st q5 _ _ _ _, fun g => c4_far (r5 g) (fun e => n57 d5 d7 (by rw [e]))⟩), (fun _ => ⟨p6, rfl, room_st q6 _ _ _ _, fun g => c4_far (r6 g) (fun e => n67 d6 d7 (by rw [e]))⟩), (fun _ => ⟨p7, rfl, room_st q7 _ _ _ _, fun _ => c4_st q7 _ _ _ _⟩), n45, n46, n47, n56, n57, n67, s8, s9, s10, (fun _ => d7)⟩
    case rest =>
      obtain ⟨p, q, r, s, rfl, rfl, rfl, rfl, hB4, ⟨R1, R2, R3, R4⟩, ⟨e1, e2, e3, e4, e5, e6⟩, C1, C2, C3, C4⟩ := hcut
      obtain ⟨g1, g2, g3, g4, g5, g6, g7, g8, g9⟩ := r1
      obtain ⟨f1, f2, f3, f4, f5, f6, f7, f8, f9⟩ := r2
      obtain ⟨y1, y2⟩ := hby
      have hp := R1.1
      have hq := R2.1
      have hr := R3.1
      have hs := R4.1
      have fp := R1.2.2.2 0
      have fq := R2.2.2.2 0
      have fr := R3.2.2.2 0
      have fs := R4.2.2.2 1
      obtain ⟨V, hV⟩ : ∃ V : World, V = (((wc.setCell ⟨p, 0, none⟩ (.int .i64 (t + a2))).setCell ⟨q, 0, none⟩ (.int .i64 (t' + a2))).setCell ⟨r, 0, none⟩ (.int .i64 (t + l))).setCell ⟨s, 1, none⟩ (.int .i64 (n + m)) := ⟨_, rfl⟩
      have kx0 : ∀ d os, (grow (redrawn V d) os).cell? ⟨p, 0, none⟩ = some (.int .i64 (t + a2)) := fun d os => cell_regrown (by rw [hV]; exact (set_far (by simp only; omega) (set_far (by simp only; omega) (set_far (by simp only; omega) (same_cell C1.1 _))))) d os
      have kx1 : ∀ d os, (grow (redrawn V d) os).cell? ⟨p, 1, none⟩ = some (.int .i64 n) := fun d os => cell_regrown (by rw [hV]; exact (set_far (by simp only; omega) (set_far (by simp only; omega) (set_far (by simp only; omega) (set_off (by omega) C1.2.1))))) d os
      have kx2 : ∀ d os, (grow (redrawn V d) os).cell? ⟨p, 2, none⟩ = some (.int .i64 l) := fun d os => cell_regrown (by rw [hV]; exact (set_far (by simp only; omega) (set_far (by simp only; omega) (set_far (by simp only; omega) (set_off (by omega) C1.2.2.1))))) d os
      have kx3 : ∀ d os, (grow (redrawn V d) os).cell? ⟨p, 3, none⟩ = some (.int .i64 m) := fun d os => cell_regrown (by rw [hV]; exact (set_far (by simp only; omega) (set_far (by simp only; omega) (set_far (by simp only; omega) (set_off (by omega) C1.2.2.2))))) d os
      have ky0 : ∀ d os, (grow (redrawn V d) os).cell? ⟨q, 0, none⟩ = some (.int .i64 (t' + a2)) := fun d os => cell_regrown (by rw [hV]; exact (set_far (by simp only; omega) (set_far (by simp only; omega) (same_cell (set_far (by simp only; omega) C2.1) _)))) d os
      have ky1 : ∀ d os, (grow (redrawn V d) os).cell? ⟨q, 1, none⟩ = some (.int .i64 n') := fun d os => cell_regrown (by rw [hV]; exact (set_far (by simp only; omega) (set_far (by simp only; omega) (set_off (by omega) (set_far (by simp only; omega) C2.2.1))))) d os
      have ky2 : ∀ d os, (grow (redrawn V d) os).cell? ⟨q, 2, none⟩ = some (.int .i64 l') := fun d os => cell_regrown (by rw [hV]; exact (set_far (by simp only; omega) (set_far (by simp only; omega) (set_off (by omega) (set_far (by simp only; omega) C2.2.2.1))))) d os
      have ky3 : ∀ d os, (grow (redrawn V d) os).cell? ⟨q, 3, none⟩ = some (.int .i64 m') := fun d os => cell_regrown (by rw [hV]; exact (set_far (by simp only; omega) (set_far (by simp only; omega) (set_off (by omega) (set_far (by simp only; omega) C2.2.2.2))))) d os
      have kz0 : ∀ d os, (grow (redrawn V d) os).cell? ⟨r, 0, none⟩ = some (.int .i64 (t + l)) := fun d os => cell_regrown (by rw [hV]; exact (set_far (by simp only; omega) (same_cell (set_far (by simp only; omega) (set_far (by simp only; omega) C3.1)) _))) d os
      have kz1 : ∀ d os, (grow (redrawn V d) os).cell? ⟨r, 1, none⟩ = some (.int .i64 n) := fun d os => cell_regrown (by rw [hV]; exact (set_far (by simp only; omega) (set_off (by omega) (set_far (by simp only; omega) (set_far (by simp only; omega) C3.2.1))))) d os
      have kz2 : ∀ d os, (grow (redrawn V d) os).cell? ⟨r, 2, none⟩ = some (.int .i64 l) := fun d os => cell_regrown (by rw [hV]; exact (set_far (by simp only; omega) (set_off (by omega) (set_far (by simp only; omega) (set_far (by simp only; omega) C3.2.2.1))))) d os
      have kz3 : ∀ d os, (grow (redrawn V d) os).cell? ⟨r, 3, none⟩ = some (.int .i64 m) := fun d os => cell_regrown (by rw [hV]; exact (set_far (by simp only; omega) (set_off (by omega) (set_far (by simp only; omega) (set_far (by simp only; omega) C3.2.2.2))))) d os
      have ku0 : ∀ d os, (grow (redrawn V d) os).cell? ⟨s, 0, none⟩ = some (.int .i64 t) := fun d os => cell_regrown (by rw [hV]; exact (set_off (by omega) (set_far (by simp only; omega) (set_far (by simp only; omega) (set_far (by simp only; omega) C4.1))))) d os
      have ku1 : ∀ d os, (grow (redrawn V d) os).cell? ⟨s, 1, none⟩ = some (.int .i64 (n + m)) := fun d os => cell_regrown (by rw [hV]; exact (same_cell (set_far (by simp only; omega) (set_far (by simp only; omega) (set_far (by simp only; omega) C4.2.1))) _)) d os
      have ku2 : ∀ d os, (grow (redrawn V d) os).cell? ⟨s, 2, none⟩ = some (.int .i64 l) := fun d os => cell_regrown (by rw [hV]; exact (set_off (by omega) (set_far (by simp only; omega) (set_far (by simp only; omega) (set_far (by simp only; omega) C4.2.2.1))))) d os
      have ku3 : ∀ d os, (grow (redrawn V d) os).cell? ⟨s, 3, none⟩ = some (.int .i64 m) := fun d os => cell_regrown (by rw [hV]; exact (set_off (by omega) (set_far (by simp only; omega) (set_far (by simp only; omega) (set_far (by simp only; omega) C4.2.2.2))))) d os
      have ka0 : ∀ d os, (grow (redrawn V d) os).cell? ⟨W.heap.size, 0, none⟩ = some (.int .i64 t) := fun d os => cell_regrown (by rw [hV]; exact (set_far (by simp only; omega) (set_far (by simp only; omega) (set_far (by simp only; omega) (set_far (by simp only; omega) (cell_keep hB4 c0)))))) d os
      have ka1 : ∀ d os, (grow (redrawn V d) os).cell? ⟨W.heap.size, 1, none⟩ = some (.int .i64 n) := fun d os => cell_regrown (by rw [hV]; exact (set_far (by simp only; omega) (set_far (by simp only; omega) (set_far (by simp only; omega) (set_far (by simp only; omega) (cell_keep hB4 c1)))))) d os
      have ka2 : ∀ d os, (grow (redrawn V d) os).cell? ⟨W.heap.size, 2, none⟩ = some (.int .i64 l) := fun d os => cell_regrown (by rw [hV]; exact (set_far (by simp only; omega) (set_far (by simp only; omega) (set_far (by simp only; omega) (set_far (by simp only; omega) (cell_keep hB4 c2)))))) d os
      have ka3 : ∀ d os, (grow (redrawn V d) os).cell? ⟨W.heap.size, 3, none⟩ = some (.int .i64 m) := fun d os => cell_regrown (by rw [hV]; exact (set_far (by simp only; omega) (set_far (by simp only; omega) (set_far (by simp only; omega) (set_far (by simp only; omega) (cell_keep hB4 c3)))))) d os
      have kb0 : ∀ d os, (grow (redrawn V d) os).cell? ⟨W.heap.size + 1, 0, none⟩ = some (.int .i64 t') := fun d os => cell_regrown (by rw [hV]; exact (set_far (by simp only; omega) (set_far (by simp only; omega) (set_far (by simp only; omega) (set_far (by simp only; omega) (cell_keep hB4 d0)))))) d os
      have kb1 : ∀ d os, (grow (redrawn V d) os).cell? ⟨W.heap.size + 1, 1, none⟩ = some (.int .i64 n') := fun d os => cell_regrown (by rw [hV]; exact (set_far (by simp only; omega) (set_far (by simp only; omega) (set_far (by simp only; omega) (set_far (by simp only; omega) (cell_keep hB4 d1)))))) d os
      have kb2 : ∀ d os, (grow (redrawn V d) os).cell? ⟨W.heap.size + 1, 2, none⟩ = some (.int .i64 l') := fun d os => cell_regrown (by rw [hV]; exact (set_far (by simp only; omega) (set_far (by simp only; omega) (set_far (by simp only; omega) (set_far (by simp only; omega) (cell_keep hB4 d2)))))) d os
      have kb3 : ∀ d os, (grow (redrawn V d) os).cell? ⟨W.heap.size + 1, 3, none⟩ = some (.int .i64 m') := fun d os => cell_regrown (by rw [hV]; exact (set_far (by simp only; omega) (set_far (by simp only; omega) (set_far (by simp only; omega) (set_far (by simp only; omega) (cell_keep hB4 d3)))))) d os
      have HBV : Hid (Below W.heap.size W V) := by
        show Below _ _ _
        rw [hV]
        have hW := HB2.out.size
        exact ((((HB2.out.trans (hB4.mono hW)).setCell (p := ⟨p, 0, none⟩) (by simp only; omega) _).setCell (p := ⟨q, 0, none⟩) (by simp only; omega) _).setCell (p := ⟨r, 0, none⟩) (by simp only; omega) _).setCell (p := ⟨s, 1, none⟩) (by simp only; omega) _
      have HV := Lib.hid hV
      have i0 := C1.1
      have i1 := C2.1
      have i2 := C3.1
      have i3 := C4.2.1
      have i4 := cell_keep hB4 c2
      have i5 := cell_keep hB4 c3
      have n1 : ¬ q = p := fun e => e1 e.symm
      have n2 : ¬ r = p := fun e => e2 e.symm
      have n3 : ¬ s = p := fun e => e3 e.symm
      have n4 : ¬ r = q := fun e => e4 e.symm
      have n5 : ¬ s = q := fun e => e5 e.symm
      have n6 : ¬ s = r := fun e => e6 e.symm
      have o1 : ¬ p = W.heap.size := by omega
      have o2 : ¬ q = W.heap.size := by omega
      have o3 : ¬ r = W.heap.size := by omega
      have o4 : ¬ s = W.heap.size := by omega
      clear hV C1 C2 C3 C4 R1 R2 R3 R4 hB4 c0 c1 c2 c3 d0 d1 d2 d3
      have cA := fun d os => Calls.regrown_of (w := V) (d := d) (os := os) (good_any (t + a2) n l m _ (by unfold Wide; omega) hn hl hm)
      have cB := fun d os => Calls.regrown_of (w := V) (d := d) (os := os) (good_any (t' + a2) n' l' m' _ (by unfold Wide; omega) hn' hl' hm')
      have cC := fun d os => Calls.regrown_of (w := V) (d := d) (os := os) (meets_any t n l m t' n' l' m' _ ht hn hl hm ht' hn' hl' hm')
      have HMa : Hid (meetsB t n l m t n l m = true) := by
        show _ = _
        unfold meetsB; rw [HG.out, Bool.true_and, Bool.true_and, crossB_iff]; omega
      have HMz : Hid (meetsB t n l m (t + l) n l m = false) := by
        show _ = _
        unfold meetsB; rw [Bool.and_eq_false_iff]; right; rw [Bool.eq_false_iff]; intro h; have := crossB_iff.1 h; omega
      have HMu : Hid (meetsB t n l m t (n + m) l m = false) := by
        show _ = _
        unfold meetsB; rw [Bool.and_eq_false_iff]; right; rw [Bool.eq_false_iff]; intro h; have := crossB_iff.1 h; omega
      cases hgx : goodB (t + a2) n l m with
      | false =>
        rw [hgx] at cA
        clear hgx
        go_wp2_with fail
        rw [← HV.out]
        refine wp_region_quiet_below (by kernel_rfl) (by kernel_rfl) ?_
        repeat (go_big_quiet_step (first | (with_reducible exact cA _ _)))
        refine wpQuiet_nil ?_
        intro _ hw'
        obtain ⟨⟨dq, osq⟩, hw''⟩ := hw'
        subst hw''
        replace ka0 := ka0 dq osq
        replace ka1 := ka1 dq osq
        replace ka2 := ka2 dq osq
        replace ka3 := ka3 dq osq
        replace kz0 := kz0 dq osq
        replace kz1 := kz1 dq osq
        replace kz2 := kz2 dq osq
        replace kz3 := kz3 dq osq
        replace ku0 := ku0 dq osq
        replace ku1 := ku1 dq osq
        replace ku2 := ku2 dq osq
        replace ku3 := ku3 dq osq
        have HB9 := Lib.hid (below_keep HBV.out (below_regrown V dq osq))
        clear kx0 kx1 kx2 kx3 ky0 ky1 ky2 ky3 kb0 kb1 kb2 kb3 i0 i1 i2 i3 i4 i5 fp fq fr fs HBV HV cA cB cC
        generalize grow (redrawn V dq) osq = w9 at *
        go_wp2_with fail
        refine (awake_any _).mono ?_
        rintro e5 w5 ⟨rfl, hb⟩
        replace ka0 := cell_keep hb ka0
        replace ka1 := cell_keep hb ka1
        replace ka2 := cell_keep hb ka2
        replace ka3 := cell_keep hb ka3
        replace kz0 := cell_keep hb kz0
        replace kz1 := cell_keep hb kz1
        replace kz2 := cell_keep hb kz2
        replace kz3 := cell_keep hb kz3
        replace ku0 := cell_keep hb ku0
        replace ku1 := cell_keep hb ku1
        replace ku2 := cell_keep hb ku2
        replace ku3 := cell_keep hb ku3
        replace HB9 := Lib.hid (below_keep HB9.out hb)
        clear hb
        go_wp2_with fail
        refine (meets_is _ ht hn hl hm ht hn hl hm HMa.out).mono ?_
        rintro e6 w6 ⟨rfl, hb⟩
        replace ka0 := cell_keep hb ka0
        replace ka1 := cell_keep hb ka1
        replace ka2 := cell_keep hb ka2
        replace ka3 := cell_keep hb ka3
        replace kz0 := cell_keep hb kz0
        replace kz1 := cell_keep hb kz1
        replace kz2 := cell_keep hb kz2
        replace kz3 := cell_keep hb kz3
        replace ku0 := cell_keep hb ku0
        replace ku1 := cell_keep hb ku1
        replace ku2 := cell_keep hb ku2
        replace ku3 := cell_keep hb ku3
        replace HB9 := Lib.hid (below_keep HB9.out hb)
        clear hb
        go_wp2_with fail
        refine (meets_is _ ht hn hl hm (by unfold Wide; omega) hn hl hm HMz.out).mono ?_
        rintro e7 w7 ⟨rfl, hb⟩
        replace ka0 := cell_keep hb ka0
        replace ka1 := cell_keep hb ka1
        replace ka2 := cell_keep hb ka2
        replace ka3 := cell_keep hb ka3
        replace kz0 := cell_keep hb kz0
        replace kz1 := cell_keep hb kz1
        replace kz2 := cell_keep hb kz2
        replace kz3 := cell_keep hb kz3
        replace ku0 := cell_keep hb ku0
        replace ku1 := cell_keep hb ku1
        replace ku2 := cell_keep hb ku2
        replace ku3 := cell_keep hb ku3
        replace HB9 := Lib.hid (below_keep HB9.out hb)
        clear hb
        go_wp2_with fail
        refine (meets_is _ ht hn hl hm ht (by unfold Wide; omega) hl hm HMu.out).mono ?_
        rintro e8 w8 ⟨rfl, hb⟩
        go_wp2
        go_ret
        exact ⟨rfl, below_keep HB9.out hb⟩
      | true =>
        cases hgy : goodB (t' + a2) n' l' m' with
        | false =>
          rw [hgx] at cA
          rw [hgy] at cB
          clear hgx hgy
          go_wp2_with fail
          rw [← HV.out]
          refine wp_region_quiet_below (by kernel_rfl) (by kernel_rfl) ?_
          repeat (go_big_quiet_step (first | (with_reducible exact cA _ _) | (with_reducible exact cB _ _)))
          refine wpQuiet_nil ?_
          intro _ hw'
          obtain ⟨⟨dq, osq⟩, hw''⟩ := hw'
          subst hw''
          replace ka0 := ka0 dq osq
          replace ka1 := ka1 dq osq
          replace ka2 := ka2 dq osq
          replace ka3 := ka3 dq osq
          replace kz0 := kz0 dq osq
          replace kz1 := kz1 dq osq
          replace kz2 := kz2 dq osq
          replace kz3 := kz3 dq osq
          replace ku0 := ku0 dq osq
          replace ku1 := ku1 dq osq
          replace ku2 := ku2 dq osq
          replace ku3 := ku3 dq osq
          have HB9 := Lib.hid (below_keep HBV.out (below_regrown V dq osq))
          clear kx0 kx1 kx2 kx3 ky0 ky1 ky2 ky3 kb0 kb1 kb2 kb3 i0 i1 i2 i3 i4 i5 fp fq fr fs HBV HV cA cB cC
          generalize grow (redrawn V dq) osq = w9 at *
          go_wp2_with fail
          refine (awake_any _).mono ?_
          rintro e5 w5 ⟨rfl, hb⟩
          replace ka0 := cell_keep hb ka0
          replace ka1 := cell_keep hb ka1
          replace ka2 := cell_keep hb ka2
          replace ka3 := cell_keep hb ka3
          replace kz0 := cell_keep hb kz0
          replace kz1 := cell_keep hb kz1
          replace kz2 := cell_keep hb kz2
          replace kz3 := cell_keep hb kz3
          replace ku0 := cell_keep hb ku0
          replace ku1 := cell_keep hb ku1
          replace ku2 := cell_keep hb ku2
          replace ku3 := cell_keep hb ku3
          replace HB9 := Lib.hid (below_keep HB9.out hb)
          clear hb
          go_wp2_with fail
          refine (meets_is _ ht hn hl hm ht hn hl hm HMa.out).mono ?_
          rintro e6 w6 ⟨rfl, hb⟩
          replace ka0 := cell_keep hb ka0
          replace ka1 := cell_keep hb ka1
          replace ka2 := cell_keep hb ka2
          replace ka3 := cell_keep hb ka3
          replace kz0 := cell_keep hb kz0
          replace kz1 := cell_keep hb kz1
          replace kz2 := cell_keep hb kz2
          replace kz3 := cell_keep hb kz3
          replace ku0 := cell_keep hb ku0
          replace ku1 := cell_keep hb ku1
          replace ku2 := cell_keep hb ku2
          replace ku3 := cell_keep hb ku3
          replace HB9 := Lib.hid (below_keep HB9.out hb)
          clear hb
          go_wp2_with fail
          refine (meets_is _ ht hn hl hm (by unfold Wide; omega) hn hl hm HMz.out).mono ?_
          rintro e7 w7 ⟨rfl, hb⟩
          replace ka0 := cell_keep hb ka0
          replace ka1 := cell_keep hb ka1
          replace ka2 := cell_keep hb ka2
          replace ka3 := cell_keep hb ka3
          replace kz0 := cell_keep hb kz0
          replace kz1 := cell_keep hb kz1
          replace kz2 := cell_keep hb kz2
          replace kz3 := cell_keep hb kz3
          replace ku0 := cell_keep hb ku0
          replace ku1 := cell_keep hb ku1
          replace ku2 := cell_keep hb ku2
          replace ku3 := cell_keep hb ku3
          replace HB9 := Lib.hid (below_keep HB9.out hb)
          clear hb
          go_wp2_with fail
          refine (meets_is _ ht hn hl hm ht (by unfold Wide; omega) hl hm HMu.out).mono ?_
          rintro e8 w8 ⟨rfl, hb⟩
          go_wp2
          go_ret
          exact ⟨rfl, below_keep HB9.out hb⟩
        | true =>
          have hmm : meetsB (t + a2) n l m (t' + a2) n' l' m' = meetsB t n l m t' n' l' m' := by
            unfold meetsB
            rw [hgx, hgy, HG.out, HG'.out]
            simp only [Bool.true_and]
            rw [Bool.eq_iff_iff, crossB_iff, crossB_iff]
            omega
          have cD := fun d os => Calls.regrown_of (w := V) (d := d) (os := os) (meets_is _ (by unfold Wide; omega) hn hl hm (by unfold Wide; omega) hn' hl' hm' hmm)
          rw [hgx] at cA
          rw [hgy] at cB
          clear hgx hgy hmm
          go_wp2_with fail
          rw [← HV.out]
          refine wp_region_quiet_below (by kernel_rfl) (by kernel_rfl) ?_
          repeat (go_big_quiet_step (first | (with_reducible exact cA _ _) | (with_reducible exact cB _ _) | (with_reducible exact cC _ _) | (with_reducible exact cD _ _)))
          refine wpQuiet_nil ?_
          intro _ hw'
          obtain ⟨⟨dq, osq⟩, hw''⟩ := hw'
          subst hw''
          replace ka0 := ka0 dq osq
          replace ka1 := ka1 dq osq
          replace ka2 := ka2 dq osq
          replace ka3 := ka3 dq osq
          replace kz0 := kz0 dq osq
          replace kz1 := kz1 dq osq
          replace kz2 := kz2 dq osq
          replace kz3 := kz3 dq osq
          replace ku0 := ku0 dq osq
          replace ku1 := ku1 dq osq
          replace ku2 := ku2 dq osq
          replace ku3 := ku3 dq osq
          have HB9 := Lib.hid (below_keep HBV.out (below_regrown V dq osq))
          clear kx0 kx1 kx2 kx3 ky0 ky1 ky2 ky3 kb0 kb1 kb2 kb3 i0 i1 i2 i3 i4 i5 fp fq fr fs HBV HV cA cB cC cD
          generalize grow (redrawn V dq) osq = w9 at *
          go_wp2_with fail
          refine (awake_any _).mono ?_
          rintro e5 w5 ⟨rfl, hb⟩
          replace ka0 := cell_keep hb ka0
          replace ka1 := cell_keep hb ka1
          replace ka2 := cell_keep hb ka2
          replace ka3 := cell_keep hb ka3
          replace kz0 := cell_keep hb kz0
          replace kz1 := cell_keep hb kz1
          replace kz2 := cell_keep hb kz2
          replace kz3 := cell_keep hb kz3
          replace ku0 := cell_keep hb ku0
          replace ku1 := cell_keep hb ku1
          replace ku2 := cell_keep hb ku2
          replace ku3 := cell_keep hb ku3
          replace HB9 := Lib.hid (below_keep HB9.out hb)
          clear hb
          go_wp2_with fail
          refine (meets_is _ ht hn hl hm ht hn hl hm HMa.out).mono ?_
          rintro e6 w6 ⟨rfl, hb⟩
          replace ka0 := cell_keep hb ka0
          replace ka1 := cell_keep hb ka1
          replace ka2 := cell_keep hb ka2
          replace ka3 := cell_keep hb ka3
          replace kz0 := cell_keep hb kz0
          replace kz1 := cell_keep hb kz1
          replace kz2 := cell_keep hb kz2
          replace kz3 := cell_keep hb kz3
          replace ku0 := cell_keep hb ku0
          replace ku1 := cell_keep hb ku1
          replace ku2 := cell_keep hb ku2
          replace ku3 := cell_keep hb ku3
          replace HB9 := Lib.hid (below_keep HB9.out hb)
          clear hb
          go_wp2_with fail
          refine (meets_is _ ht hn hl hm (by unfold Wide; omega) hn hl hm HMz.out).mono ?_
          rintro e7 w7 ⟨rfl, hb⟩
          replace ka0 := cell_keep hb ka0
          replace ka1 := cell_keep hb ka1
          replace ka2 := cell_keep hb ka2
          replace ka3 := cell_keep hb ka3
          replace kz0 := cell_keep hb kz0
          replace kz1 := cell_keep hb kz1
          replace kz2 := cell_keep hb kz2
          replace kz3 := cell_keep hb kz3
          replace ku0 := cell_keep hb ku0
          replace ku1 := cell_keep hb ku1
          replace ku2 := cell_keep hb ku2
          replace ku3 := cell_keep hb ku3
          replace HB9 := Lib.hid (below_keep HB9.out hb)
          clear hb
          go_wp2_with fail
          refine (meets_is _ ht hn hl hm ht (by unfold Wide; omega) hl hm HMu.out).mono ?_
          rintro e8 w8 ⟨rfl, hb⟩
          go_wp2
          go_ret
          exact ⟨rfl, below_keep HB9.out hb⟩

set_option maxRecDepth 100000 in
theorem lifted (os : Os) (started : os.Started) (H : Type) (enc : TypeId × Value → H) :
    ReturnsInHanded {} Try.checked os 7 .any (Rows.planeMovesSpec.pre6 enc Try.prog Try.f7 Rows.planeMovesRow.domain false) (Rows.planeMovesSpec.post enc Try.prog Try.f7 false true false false) := by
  refine returnsInHanded_of_change (C := Try.checked) own started (by kernel_rfl) Try.func7
    (ChangeSpec.witness6 (enc := enc) (C := Try.checked) false ⟨#[], #[.agg #[.int .i64 0, .int .i64 0, .int .i64 0, .int .i64 0], .agg #[.int .i64 0, .int .i64 0, .int .i64 0, .int .i64 0], .int .u16 0], []⟩ 8 (by kernel_rfl) (by kernel_rfl) (by kernel_rfl) (by kernel_rfl)) ?_
  intro W base args ds gs before hval0 hW hcnd _
  have hval : ∀ (j : Nat) t v, Try.f7.params[j]? = some t → args[j]? = some v → Value.okWide Try.prog W .any base t v := hval0
  have hW' := hW
  obtain ⟨p, q, hA0, hV, rfl, hfz, hnd⟩ := hW
  have hA : DataW.TrodAll enc Try.prog W 0 (fun _ => true) true Try.f7.params.toList args.toList ds p := hA0
  rw [Try.params7] at hA hval
  obtain ⟨v0, vs0, d0, ds0, p0, q0, hargs, rfl, rfl, h0, r0⟩ := trodAll_cons hA
  obtain ⟨v1, vs1, d1, ds1, p1, q1, rfl, rfl, rfl, h1, r1⟩ := trodAll_cons r0
  obtain ⟨v2, vs2, d2, ds2, p2, q2, rfl, rfl, rfl, h2, r2⟩ := trodAll_cons r1
  obtain ⟨rfl, rfl, rfl⟩ := trodAll_nil r2
  obtain rfl : args = #[v0, v1, v2] := by cases args; simp_all
  obtain ⟨rfl, rfl⟩ := trodVars_none hV
  have k0 := h0
  have lt0 : ∀ x ∈ p0, x.block < W.heap.size := by obtain ⟨m, hm⟩ := k0; exact DataW.trod_lt m _ _ _ hm
  obtain ⟨c0, rfl, _⟩ := okWide_struct Try.underlying23 (hval 0 23 v0 rfl rfl)
  obtain ⟨x0, w0⟩ := Opn.opens_arg (Pla.opens_box) h0
  have k1 := h1
  have lt1 : ∀ x ∈ p1, x.block < W.heap.size := by obtain ⟨m, hm⟩ := k1; exact DataW.trod_lt m _ _ _ hm
  obtain ⟨c1, rfl, _⟩ := okWide_struct Try.underlying23 (hval 1 23 v1 rfl rfl)
  obtain ⟨x1, w1⟩ := Opn.opens_arg (Pla.opens_box) h1
  have k2 := h2
  have lt2 : ∀ x ∈ p2, x.block < W.heap.size := by obtain ⟨m, hm⟩ := k2; exact DataW.trod_lt m _ _ _ hm
  obtain ⟨a2, rfl, _, _, w2⟩ := open_int Try.underlying33 (hval 2 33 v2 rfl rfl) h2
  clear hA0 hval0
  refine (walk W c0 x0 w0 c1 x1 w1 a2 w2).mono fun e W' ⟨he, bel⟩ => ?_
  subst he
  exact ⟨_, rfl, _, _, _, [], _, [], hW', trodAll_mk1 (shut_bool Try.underlying4 _), (trodAll_cons_mk (Below.trod laidOut (by kernel_rfl) (of_decide_eq_true (by kernel_rfl)) k0 bel lt0) (trodAll_cons_mk (Below.trod laidOut (by kernel_rfl) (of_decide_eq_true (by kernel_rfl)) k1 bel lt1) (trodAll_cons_mk (Below.trod laidOut (by kernel_rfl) (of_decide_eq_true (by kernel_rfl)) k2 bel lt2) trodAll_mk0))), rfl, bel.frame _, fun h => by cases h⟩

theorem over : Rows.planeMovesRow.holds Try.pinned (OpenSpec.ofChange Rows.planeMovesSpec) :=
  OpenClaim.holds_of_wide 7 Try.f7 rfl rfl rfl rfl rfl rfl rfl ⟨rfl, rfl, rfl, rfl, rfl⟩ rfl rfl rfl rfl rfl (by kernel_rfl) Try.func7 (by kernel_rfl)
    (of_decide_eq_true (by kernel_rfl)) (by unfold Func.isWrapper; first | (rw [if_pos (by decide +kernel)]; kernel_rfl) | (rw [if_neg (by decide +kernel)]; exact ⟨rfl, rfl⟩))
    (fun os started H enc _ => lifted os started H enc)

/-- THE STATEMENT -/
theorem proved : Rows.PlaneMovesSaid := over
#print axioms proved
end Go.Proofs.Ytahkhkfmpnoneaa.planeMoves
