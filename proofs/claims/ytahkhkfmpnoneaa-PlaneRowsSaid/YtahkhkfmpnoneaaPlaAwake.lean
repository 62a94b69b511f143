/- Plane: the fixed fact. -/
import Derived.Test.YtahkhkfmpnoneaaPlaEq
namespace Go.Proofs.Ytahkhkfmpnoneaa.Pla
open Go.RowKit
open Go.Sort

theorem wide_small {n : Int} (h : n.natAbs < 18446744073709551616) : Wide n := h
theorem rows_is (tick long mask : Int) (n : Nat) (L : List Bx) (w : World) (ht : Wide tick) (hl : Wide long) (hL : rowsL tick long mask = L) (hn : L.length = n) :
    Calls Try.prog 18 #[.int .i64 tick, .int .i64 long, .int .i64 mask] w fun e w' => ∃ a cap, e = .returned (.slice a n cap) ∧ n ≤ cap ∧ cap ≤ maxLen ∧ (a = none → cap = 0) ∧ Boxes w' a L ∧ Below w.heap.size w w' := by
  subst hL hn; exact rows_any tick long mask w ht hl
theorem rrows_is (tick long mask : Int) (n : Nat) (L : List Bx) (w : World) (hL : rowsL tick long mask = L) (hn : L.length = n) :
    Calls Try.prog 19 #[.int .i64 tick, .int .i64 long, .int .i64 mask] w fun e w' => ∃ a cap, e = .returned (.slice a n cap) ∧ n ≤ cap ∧ cap ≤ maxLen ∧ (a = none → cap = 0) ∧ Boxes w' a L ∧ Below w.heap.size w w' := by
  subst hL hn; exact rrows_any tick long mask w
theorem good_is {t n l m : Int} {b : Bool} (w : World) (ht : Wide t) (hn : Wide n) (hl : Wide l) (hm : Wide m) (h : goodB t n l m = b) :
    Calls Try.prog 9 #[.agg #[.int .i64 t, .int .i64 n, .int .i64 l, .int .i64 m]] w fun e w' => e = .returned (.bool b) ∧ Below w.heap.size w w' := by
  subst h; exact good_any t n l m w ht hn hl hm
theorem area_is {t n l m : Int} {b : Int} (w : World) (ht : Wide t) (hn : Wide n) (hl : Wide l) (hm : Wide m) (h : areaN t n l m = b) :
    Calls Try.prog 11 #[.agg #[.int .i64 t, .int .i64 n, .int .i64 l, .int .i64 m]] w fun e w' => e = .returned (.int .i64 b) ∧ Below w.heap.size w w' := by
  subst h; exact area_any t n l m w ht hn hl hm
theorem meets_is {t n l m t' n' l' m' : Int} {b : Bool} (w : World) (ht : Wide t) (hn : Wide n) (hl : Wide l) (hm : Wide m) (ht' : Wide t') (hn' : Wide n') (hl' : Wide l') (hm' : Wide m') (h : meetsB t n l m t' n' l' m' = b) :
    Calls Try.prog 13 #[.agg #[.int .i64 t, .int .i64 n, .int .i64 l, .int .i64 m], .agg #[.int .i64 t', .int .i64 n', .int .i64 l', .int .i64 m']] w fun e w' => e = .returned (.bool b) ∧ Below w.heap.size w w' := by
  subst h; exact meets_any t n l m t' n' l' m' w ht hn hl hm ht' hn' hl' hm'
theorem apart_is {L : List Bx} {b : Bool} (a : Option Addr) (len cap : Nat) (w : World) (h : apartB L = b) (hw : ∀ y ∈ L, y.wide) (hl : L.length = len) (hc : len ≤ cap) (hm : cap ≤ maxLen) (hE : Boxes w a L) :
    Calls Try.prog 15 #[.slice a len cap] w fun e w' => e = .returned (.bool b) ∧ Below w.heap.size w w' := by
  subst h; exact apart_any a len cap L w hw hl hc hm hE

theorem wide2 : ∀ y ∈ [(⟨0, 0, 2, 2⟩ : Bx), ⟨1, 1, 5, 1⟩], y.wide := by
  intro y hy
  simp at hy
  rcases hy with rfl | rfl
  · exact ⟨by unfold Wide; decide, by unfold Wide; decide, by unfold Wide; decide, by unfold Wide; decide⟩
  · exact ⟨by unfold Wide; decide, by unfold Wide; decide, by unfold Wide; decide, by unfold Wide; decide⟩

/-- A new list of two boxes. -/
theorem boxes_new2 (w : World) (x y : Bx) (T : TypeId) (n : Nat) (hn : n = w.heap.size) :
    Boxes (w.alloc (.cells #[.int .i64 x.t, .int .i64 x.n, .int .i64 x.l, .int .i64 x.m, .int .i64 y.t, .int .i64 y.n, .int .i64 y.l, .int .i64 y.m] T)) (some ⟨n, 0, none⟩) [x, y] := by
  subst hn
  refine .inr ⟨_, _, rfl, fun j hj => ?_⟩
  match j, hj with
  | 0, _ => simp [go_sem]
  | 1, _ => simp [go_sem]

set_option maxRecDepth 100000 in
theorem aw_rows : rowsL 3 4 13 = [⟨3, 0, 4, 1⟩, ⟨3, 2, 4, 2⟩] := by
  have e : ∀ n, bitB 13 n = decide ((13 : Int) / 2 ^ n % 2 = 1) := bitB_mod 13
  unfold rowsL
  rw [show bitB 13 = fun n => decide ((13 : Int) / 2 ^ n % 2 = 1) from funext e, if_pos (by decide)]
  rfl
theorem aw1 : goodB 0 0 2 2 = true := by decide
theorem aw2 : meetsB 0 0 2 2 1 1 5 1 = true := by decide
theorem aw3 : meetsB 0 0 2 2 2 0 1 1 = false := by decide
theorem aw4 : areaN 1 1 5 1 = 5 := by decide
theorem aw5 : apartB [⟨0, 0, 2, 2⟩, ⟨1, 1, 5, 1⟩] = false := by decide

set_option maxHeartbeats 2000000 in
theorem awake_any (w : World) : Calls Try.prog 8 #[] w fun e w' => e = .returned (.bool true) ∧ Below w.heap.size w w' := by
  go_enter Try.func8, Try.ntmps8
  go_wp2_with fail
  refine (rows_is 3 4 13 2 _ _ (wide_small (by decide)) (wide_small (by decide)) aw_rows rfl).mono ?_
  rintro e w1 ⟨a, cap, rfl, hcap1, hcap2, hnil, hE, hb⟩
  have a0 : w1.cell? ⟨w.heap.size, 0, none⟩ = some (.int .i64 0) := cell_keep hb (by simp [go_sem])
  have a1 : w1.cell? ⟨w.heap.size, 1, none⟩ = some (.int .i64 0) := cell_keep hb (by simp [go_sem])
  have a2 : w1.cell? ⟨w.heap.size, 2, none⟩ = some (.int .i64 2) := cell_keep hb (by simp [go_sem])
  have a3 : w1.cell? ⟨w.heap.size, 3, none⟩ = some (.int .i64 2) := cell_keep hb (by simp [go_sem])
  have b0 : w1.cell? ⟨w.heap.size + 1, 0, none⟩ = some (.int .i64 1) := cell_keep hb (by simp [go_sem])
  have b1 : w1.cell? ⟨w.heap.size + 1, 1, none⟩ = some (.int .i64 1) := cell_keep hb (by simp [go_sem])
  have b2 : w1.cell? ⟨w.heap.size + 1, 2, none⟩ = some (.int .i64 5) := cell_keep hb (by simp [go_sem])
  have b3 : w1.cell? ⟨w.heap.size + 1, 3, none⟩ = some (.int .i64 1) := cell_keep hb (by simp [go_sem])
  have HB : Hid (Below w.heap.size w w1) := (((Below.refl _ _).alloc (Nat.le_refl _) _).alloc (by simp) _).trans (hb.mono (by simp; omega))
  have HE := Lib.hid hE
  clear hE hb
  go_wp2_with fail
  refine (good_is _ (wide_small (by decide)) (wide_small (by decide)) (wide_small (by decide)) (wide_small (by decide)) aw1).mono ?_
  rintro e w2 ⟨rfl, hb⟩
  replace a0 := cell_keep hb a0
  replace a1 := cell_keep hb a1
  replace a2 := cell_keep hb a2
  replace a3 := cell_keep hb a3
  replace b0 := cell_keep hb b0
  replace b1 := cell_keep hb b1
  replace b2 := cell_keep hb b2
  replace b3 := cell_keep hb b3
  replace HE := Lib.hid (boxes_below HE.out hb)
  replace HB := Lib.hid (below_keep HB.out hb)
  clear hb
  go_wp2_with fail
  refine (meets_is _ (wide_small (by decide)) (wide_small (by decide)) (wide_small (by decide)) (wide_small (by decide)) (wide_small (by decide)) (wide_small (by decide)) (wide_small (by decide)) (wide_small (by decide)) aw2).mono ?_
  rintro e w3 ⟨rfl, hb⟩
  replace a0 := cell_keep hb a0
  replace a1 := cell_keep hb a1
  replace a2 := cell_keep hb a2
  replace a3 := cell_keep hb a3
  replace b0 := cell_keep hb b0
  replace b1 := cell_keep hb b1
  replace b2 := cell_keep hb b2
  replace b3 := cell_keep hb b3
  replace HE := Lib.hid (boxes_below HE.out hb)
  replace HB := Lib.hid (below_keep HB.out hb)
  clear hb
  go_wp2_with fail
  refine (meets_is _ (wide_small (by decide)) (wide_small (by decide)) (wide_small (by decide)) (wide_small (by decide)) (wide_small (by decide)) (wide_small (by decide)) (wide_small (by decide)) (wide_small (by decide)) aw3).mono ?_
  rintro e w4 ⟨rfl, hb⟩
  replace a0 := cell_keep hb a0
  replace a1 := cell_keep hb a1
  replace a2 := cell_keep hb a2
  replace a3 := cell_keep hb a3
  replace b0 := cell_keep hb b0
  replace b1 := cell_keep hb b1
  replace b2 := cell_keep hb b2
  replace b3 := cell_keep hb b3
  replace HE := Lib.hid (boxes_below HE.out hb)
  replace HB := Lib.hid (below_keep HB.out hb)
  clear hb
  go_wp2_with fail
  refine (area_is _ (wide_small (by decide)) (wide_small (by decide)) (wide_small (by decide)) (wide_small (by decide)) aw4).mono ?_
  rintro e w5 ⟨rfl, hb⟩
  replace a0 := cell_keep hb a0
  replace a1 := cell_keep hb a1
  replace a2 := cell_keep hb a2
  replace a3 := cell_keep hb a3
  replace b0 := cell_keep hb b0
  replace b1 := cell_keep hb b1
  replace b2 := cell_keep hb b2
  replace b3 := cell_keep hb b3
  replace HE := Lib.hid (boxes_below HE.out hb)
  replace HB := Lib.hid (below_keep HB.out hb)
  clear hb
  go_wp2_with fail
  have hb : Below w5.heap.size w5 (w5.alloc (.cells #[.int .i64 0, .int .i64 0, .int .i64 2, .int .i64 2, .int .i64 1, .int .i64 1, .int .i64 5, .int .i64 1] 23)) := (Below.refl _ _).alloc (Nat.le_refl _) _
  refine (apart_is _ 2 2 _ aw5 wide2 rfl (Nat.le_refl _) (by unfold maxLen; omega) (boxes_new2 w5 ⟨0, 0, 2, 2⟩ ⟨1, 1, 5, 1⟩ _ _ rfl)).mono ?_
  rintro e w6 ⟨rfl, hb6⟩
  have hE6 := boxes_below (boxes_below HE.out hb) hb6
  have HB6 := Lib.hid (below_keep (below_keep HB.out hb) hb6)
  have hb7 : Below w6.heap.size w6 (w6.alloc (.cells #[.int .i64 3, .int .i64 0, .int .i64 4, .int .i64 1, .int .i64 3, .int .i64 2, .int .i64 4, .int .i64 2] 23)) := (Below.refl _ _).alloc (Nat.le_refl _) _
  have HE7 := Lib.hid (boxes_below hE6 hb7)
  have HB7 := Lib.hid (below_keep HB6.out hb7)
  clear hb hb6 hE6 hb7
  go_wp2_with fail
  refine (boxes_same a _ 2 cap 2 [⟨3, 0, 4, 1⟩, ⟨3, 2, 4, 2⟩] _ rfl (by unfold maxLen; omega) HE7.out (boxes_new2 w6 ⟨3, 0, 4, 1⟩ ⟨3, 2, 4, 2⟩ _ _ rfl)).mono ?_
  rintro e w8 ⟨rfl, hb8⟩
  have HB8 := Lib.hid (below_keep HB7.out hb8)
  clear hb8
  go_wp2
  go_ret
  exact ⟨rfl, HB8.out⟩

end Go.Proofs.Ytahkhkfmpnoneaa.Pla
