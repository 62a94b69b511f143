/- Plane: Rows: the boxes of some nodes, found by jumps. -/
import Derived.Test.YtahkhkfmpnoneaaPlaRuns
import Derived.Test.YtahkhkfmpnoneaaScopes
namespace Go.Proofs.Ytahkhkfmpnoneaa.Pla
open Go.RowKit
open Go.Sort
open Scp

theorem has_is (a : Int) (n : Nat) (b : Bool) (w : World) (hn : n < 64) (hb : bitB a n = b) :
    Calls Try.prog 27 #[.int .i64 a, .int .i64 n] w fun e w' => e = .returned (.bool b) ∧ w = w' := by
  have HB := Lib.hid hb
  clear hb
  go_enter Try.func27, Try.ntmps27
  go_wp2
  go_ret
  exact ⟨ret_bool HB.out, rfl⟩

/-- The boxes of some runs. -/
def boxesOf (tick long : Int) (l : List (Nat × Nat)) : List Bx := l.map fun r => ⟨tick, r.1, long, r.2⟩
theorem boxesOf_snoc (tick long : Int) (l : List (Nat × Nat)) (r : Nat × Nat) : boxesOf tick long (l ++ [r]) = boxesOf tick long l ++ [⟨tick, r.1, long, r.2⟩] := by unfold boxesOf; rw [List.map_append]; rfl
def rowsL (tick long mask : Int) : List Bx := if goodB tick 0 long 1 = true then boxesOf tick long (runs (bitB mask) 32) else []

/-- What a call that makes a list of boxes leaves. -/
def OutBoxes (w : World) (l : List Bx) (e : Ending) (w' : World) : Prop := ∃ a cap, e = .returned (.slice a l.length cap) ∧ l.length ≤ cap ∧ cap ≤ maxLen ∧ (a = none → cap = 0) ∧ Boxes w' a l ∧ Below w.heap.size w w'

theorem out_owns {w w' : World} {base : Nat} {v : Value} {l k : List Bx} (h : Owns w' base v l) (hb : Below w.heap.size w w') (hk : l = k) : OutBoxes w k (.returned v) w' := by
  subst hk
  obtain ⟨a, cap, rfl, h1, h2, h3, h4⟩ := owns_boxes h
  exact ⟨a, cap, rfl, h1, h2, h3, h4, hb⟩
theorem out_nil (w : World) {w' : World} (hb : Below w.heap.size w w') {k : List Bx} (hk : [] = k) : OutBoxes w k (.returned (.slice none 0 0)) w' := by
  subst hk; exact ⟨none, 0, rfl, Nat.le_refl _, by unfold maxLen; omega, (fun _ => rfl), .inl rfl, hb⟩

def Gap (tick long mask : Int) (w : World) (a' : Act) (w' : World) : Prop :=
  ∃ (v : Value) (first node : Nat) (u10 u11 u12 u13 u14 u15 u16 u17 u18 u19 u20 u21 u22 u23 u24 u25 u26 u27 u28 u29 u30 u31 u32 u33 u34 u35 u36 u37 u38 u39 u40 u41 u42 u43 : Value), a' = { tmps := #[.int .i64 tick, .int .i64 long, .int .i64 mask, undef, undef, undef, .slice none 0 0, v, .int .i64 first, .int .i64 node, u10, u11, u12, u13, u14, u15, u16, u17, u18, u19, u20, u21, u22, u23, u24, u25, u26, u27, u28, u29, u30, u31, u32, u33, u34, u35, u36, u37, u38, u39, u40, u41, u42, u43], defers := [] } ∧
    node ≤ 32 ∧ Owns w' w.heap.size v (boxesOf tick long (runs (bitB mask) node)) ∧ Below w.heap.size w w' ∧ (node = 0 ∨ bitB mask (node - 1) = false ∨ bitB mask node = false ∨ node = 32)
def Run (tick long mask : Int) (w : World) (a' : Act) (w' : World) : Prop :=
  ∃ (v : Value) (first node : Nat) (u10 u11 u12 u13 u14 u15 u16 u17 u18 u19 u20 u21 u22 u23 u24 u25 u26 u27 u28 u29 u30 u31 u32 u33 u34 u35 u36 u37 u38 u39 u40 u41 u42 u43 : Value), a' = { tmps := #[.int .i64 tick, .int .i64 long, .int .i64 mask, undef, undef, undef, .slice none 0 0, v, .int .i64 first, .int .i64 node, u10, u11, u12, u13, u14, u15, u16, u17, u18, u19, u20, u21, u22, u23, u24, u25, u26, u27, u28, u29, u30, u31, u32, u33, u34, u35, u36, u37, u38, u39, u40, u41, u42, u43], defers := [] } ∧
    node ≤ 32 ∧ first ≤ node ∧ (first = node → node < 32 ∧ bitB mask node = true) ∧ Owns w' w.heap.size v (boxesOf tick long (runs (bitB mask) first)) ∧ Below w.heap.size w w' ∧ (first = 0 ∨ bitB mask (first - 1) = false) ∧ ∀ i, first ≤ i → i < node → bitB mask i = true
def firstOf (a : Act) : Nat := (intOf (a.tmps.getD 8 undef)).toNat
def nodeOf (a : Act) : Nat := (intOf (a.tmps.getD 9 undef)).toNat

set_option maxRecDepth 100000 in
set_option maxHeartbeats 4000000 in
theorem rows_any (tick long mask : Int) (w : World) (ht : Wide tick) (hl : Wide long) :
    Calls Try.prog 18 #[.int .i64 tick, .int .i64 long, .int .i64 mask] w (OutBoxes w (rowsL tick long mask)) := by
  have hg := good_any tick 0 long 1
  cases h1 : goodB tick 0 long 1 with
  | false =>
    have HN := Lib.hid (show [] = rowsL tick long mask by unfold rowsL; rw [h1]; rfl)
    rw [h1] at hg
    have HG := Lib.hid hg
    clear h1 hg
    go_enter Try.func18, Try.ntmps18
    go_wp2
    go_step3
    go_wp2_with fail
    refine (HG.out _ ht (by unfold Wide; omega) hl (by unfold Wide; omega)).mono ?_
    rintro e w1 ⟨rfl, hb⟩
    go_wp2
    try rw [Exit.noGoto_ret]
    go_ret
    exact out_nil w hb HN.out
  | true =>
    have HN := Lib.hid (show boxesOf tick long (runs (bitB mask) 32) = rowsL tick long mask by unfold rowsL; rw [if_pos h1])
    rw [h1] at hg
    have HG := Lib.hid hg
    clear h1 hg
    go_enter Try.func18, Try.ntmps18
    go_wp2
    refine wp_falls (Gap tick long mask w) (Run tick long mask w) (fun a _ => 2 * (32 - nodeOf a)) (fun a _ => 2 * (32 - nodeOf a) + if firstOf a = nodeOf a then 0 else 1) rfl rfl ?_ ?_ ?_
    · rintro a' w' ⟨v, first, node, u10, u11, u12, u13, u14, u15, u16, u17, u18, u19, u20, u21, u22, u23, u24, u25, u26, u27, u28, u29, u30, u31, u32, u33, u34, u35, u36, u37, u38, u39, u40, u41, u42, u43, rfl, h1, h2, h3, hown, hb, h4, h5⟩
      have h6 : nodeOf { tmps := #[.int .i64 tick, .int .i64 long, .int .i64 mask, undef, undef, undef, .slice none 0 0, v, .int .i64 first, .int .i64 node, u10, u11, u12, u13, u14, u15, u16, u17, u18, u19, u20, u21, u22, u23, u24, u25, u26, u27, u28, u29, u30, u31, u32, u33, u34, u35, u36, u37, u38, u39, u40, u41, u42, u43], defers := [] } = node := by simp [nodeOf, intOf]
      have h7 : firstOf { tmps := #[.int .i64 tick, .int .i64 long, .int .i64 mask, undef, undef, undef, .slice none 0 0, v, .int .i64 first, .int .i64 node, u10, u11, u12, u13, u14, u15, u16, u17, u18, u19, u20, u21, u22, u23, u24, u25, u26, u27, u28, u29, u30, u31, u32, u33, u34, u35, u36, u37, u38, u39, u40, u41, u42, u43], defers := [] } = first := by simp [firstOf, intOf]
      rw [h6, h7]
      clear h6 h7
      by_cases hr : node < 32 ∧ bitB mask node = true
      · obtain ⟨hlt, hbt⟩ := hr
        have H5 : Hid (∀ i, first ≤ i → i < node + 1 → bitB mask i = true) := fun i g1 g2 => by
          by_cases he : i = node
          · rw [he]; exact hbt
          · exact h5 i g1 (by omega)
        have HBT := Lib.hid hbt
        have HO := Lib.hid hown
        have HB := Lib.hid hb
        have H4 := Lib.hid h4
        have hd : decide ((node : Int) < 32) = true := by rw [decide_eq_true_iff]; omega
        clear hbt hown hb h3 h4 h5
        go_wp2_with fail
        refine (has_is mask node true _ (by omega) HBT.out).mono ?_
        rintro e w1 ⟨rfl, rfl⟩
        go_wp2
        go_step3
        refine .inr ⟨rfl, ⟨v, first, node + 1, _, _, _, _, _, _, _, _, _, _, _, _, _, _, _, _, _, _, _, _, _, _, _, _, _, _, _, _, _, _, _, _, _, _, rfl, by omega, by omega, (fun h => by omega), HO.out, HB.out, H4.out, H5.out⟩, ?_⟩
        have hne : ¬ first = node + 1 := by omega
        simp only [nodeOf, firstOf, intOf]
        simp
        rw [if_neg hne]
        split <;> omega
      · have hfn : first < node := by
          rcases Nat.lt_or_ge first node with h | h
          · exact h
          · exact absurd (h3 (by omega)) hr
        have HR : Hid (boxesOf tick long (runs (bitB mask) node) = boxesOf tick long (runs (bitB mask) first) ++ [⟨tick, first, long, (node : Int) - (first : Int)⟩]) := by
          show _ = _
          have e := runs_run h4 (node - first - 1) (fun i hi => h5 (first + i) (by omega) (by omega))
          rw [show first + (node - first - 1 + 1) = node by omega] at e
          rw [e, boxesOf_snoc]
          simp only
          rw [show ((node - first - 1 + 1 : Nat) : Int) = (node : Int) - (first : Int) by omega]
        have HN2 : Hid (node = 0 ∨ bitB mask (node - 1) = false ∨ bitB mask node = false ∨ node = 32) := by
          show _ ∨ _
          by_cases hlt : node < 32
          · right; right; left
            rw [Bool.eq_false_iff]; exact fun h => hr ⟨hlt, h⟩
          · right; right; right; omega
        have hlen : (boxesOf tick long (runs (bitB mask) first)).length ≤ 1000000 := by
          unfold boxesOf; rw [List.length_map]; have := runs_length (bitB mask) first; omega
        have HLen := Lib.hid hlen
        have HO := Lib.hid hown
        have HB := Lib.hid hb
        have HRN := Lib.hid hr
        have hsz : w.heap.size ≤ w'.heap.size := hb.size
        clear hlen hown hb h3 h4 h5 hr
        by_cases hlt : node < 32
        · have hbf : Hid (bitB mask node = false) := by show _ = _; rw [Bool.eq_false_iff]; exact fun h => HRN.out ⟨hlt, h⟩
          have hd : decide ((node : Int) < 32) = true := by rw [decide_eq_true_iff]; omega
          go_wp2_with fail
          refine (has_is mask node false _ (by omega) hbf.out).mono ?_
          rintro e w1 ⟨rfl, rfl⟩
          go_wp2_with (at_builtin; refine wpList_append_box rfl (.tmp 34) (.tmp 42) rfl w.heap.size v (boxesOf tick long (runs (bitB mask) first)) rfl (owns_alloc HO.out _) w'.heap.size rfl ⟨tick, first, long, (node : Int) - (first : Int)⟩ (by simp [go_sem]) HLen.out (by simp; omega) ?_; intro v2 w2 hown2 hb2)
          go_step3
          refine .inl ⟨rfl, ⟨v2, first, node, _, _, _, _, _, _, _, _, _, _, _, _, _, _, _, _, _, _, _, _, _, _, _, _, _, _, _, _, _, _, _, _, _, _, rfl, by omega, by rw [HR.out]; exact hown2, HB.out.trans ((((Below.refl _ _).alloc (Nat.le_refl _) _).mono hsz).trans hb2), HN2.out⟩, ?_⟩
          have hne : ¬ first = node := by omega
          simp [nodeOf, intOf, hne]
        · have hd : decide ((node : Int) < 32) = false := by rw [decide_eq_false_iff_not]; omega
          go_wp2_with (at_builtin; refine wpList_append_box rfl (.tmp 34) (.tmp 42) rfl w.heap.size v (boxesOf tick long (runs (bitB mask) first)) rfl (owns_alloc HO.out _) w'.heap.size rfl ⟨tick, first, long, (node : Int) - (first : Int)⟩ (by simp [go_sem]) HLen.out (by simp; omega) ?_; intro v2 w2 hown2 hb2)
          go_step3
          refine .inl ⟨rfl, ⟨v2, first, node, _, _, _, _, _, _, _, _, _, _, _, _, _, _, _, _, _, _, _, _, _, _, _, _, _, _, _, _, _, _, _, _, _, _, rfl, by omega, by rw [HR.out]; exact hown2, HB.out.trans ((((Below.refl _ _).alloc (Nat.le_refl _) _).mono hsz).trans hb2), HN2.out⟩, ?_⟩
          have hne : ¬ first = node := by omega
          simp [nodeOf, intOf, hne]
    · intro hp1
      rintro a' w' ⟨v, first, node, u10, u11, u12, u13, u14, u15, u16, u17, u18, u19, u20, u21, u22, u23, u24, u25, u26, u27, u28, u29, u30, u31, u32, u33, u34, u35, u36, u37, u38, u39, u40, u41, u42, u43, rfl, h1, hown, hb, h4⟩
      have h6 : nodeOf { tmps := #[.int .i64 tick, .int .i64 long, .int .i64 mask, undef, undef, undef, .slice none 0 0, v, .int .i64 first, .int .i64 node, u10, u11, u12, u13, u14, u15, u16, u17, u18, u19, u20, u21, u22, u23, u24, u25, u26, u27, u28, u29, u30, u31, u32, u33, u34, u35, u36, u37, u38, u39, u40, u41, u42, u43], defers := [] } = node := by simp [nodeOf, intOf]
      rw [h6]
      clear h6
      have HP := Lib.hid hp1
      clear hp1
      have HO := Lib.hid hown
      have HB := Lib.hid hb
      have H4 := Lib.hid h4
      clear hown hb h4
      by_cases h32 : node = 32
      · have hd : ((node : Int) == 32) = true := by rw [h32]; rfl
        have HE := Lib.hid (show boxesOf tick long (runs (bitB mask) node) = rowsL tick long mask by rw [h32]; exact HN.out)
        clear h32
        go_wp2
        simp only [jumps_ret]
        go_ret
        exact out_owns HO.out HB.out HE.out
      · have hd : ((node : Int) == 32) = false := by simp; omega
        have hlt : node < 32 := by omega
        clear h32
        cases hbt : bitB mask node with
        | false =>
          have HE : Hid (Owns w' w.heap.size v (boxesOf tick long (runs (bitB mask) (node + 1)))) := by
            show Owns _ _ _ _; rw [runs_skip hbt]; exact HO.out
          have HBT := Lib.hid hbt
          clear hbt
          go_wp2_with fail
          refine (has_is mask node false _ (by omega) HBT.out).mono ?_
          rintro e w1 ⟨rfl, rfl⟩
          go_wp2
          go_step3
          refine .inl ⟨rfl, ⟨v, first, node + 1, _, _, _, _, _, _, _, _, _, _, _, _, _, _, _, _, _, _, _, _, _, _, _, _, _, _, _, _, _, _, _, _, _, _, rfl, by omega, HE.out, HB.out, .inr (.inl HBT.out)⟩, ?_⟩
          simp [nodeOf, intOf]
          omega
        | true =>
          have HBT := Lib.hid hbt
          have HS : Hid (node = 0 ∨ bitB mask (node - 1) = false) := by
            show _ ∨ _
            rcases H4.out with h | h | h | h
            · exact .inl h
            · exact .inr h
            · rw [hbt] at h; cases h
            · omega
          clear hbt
          go_wp2_with fail
          refine (has_is mask node true _ (by omega) HBT.out).mono ?_
          rintro e w1 ⟨rfl, rfl⟩
          go_wp2
          go_step3
          rename_i hK
          refine hK _ _ (HP.out _ _ _ ?_ ?_)
          · exact ⟨v, node, node, _, _, _, _, _, _, _, _, _, _, _, _, _, _, _, _, _, _, _, _, _, _, _, _, _, _, _, _, _, _, _, _, _, _, rfl, h1, Nat.le_refl _, (fun _ => ⟨hlt, HBT.out⟩), HO.out, HB.out, HS.out, fun i g1 g2 => by omega⟩
          · simp [nodeOf, firstOf, intOf]
    · intro hp0
      go_wp2_with fail
      refine (HG.out _ ht (by unfold Wide; omega) hl (by unfold Wide; omega)).mono ?_
      rintro e w1 ⟨rfl, hb⟩
      go_wp2
      go_step3
      rename_i hK
      refine hK _ _ (hp0 _ _ ?_)
      exact ⟨_, 0, 0, _, _, _, _, _, _, _, _, _, _, _, _, _, _, _, _, _, _, _, _, _, _, _, _, _, _, _, _, _, _, _, _, _, _, rfl, by omega, World.ownsRow_nil _ _ _ _, hb, .inl rfl⟩

end Go.Proofs.Ytahkhkfmpnoneaa.Pla
