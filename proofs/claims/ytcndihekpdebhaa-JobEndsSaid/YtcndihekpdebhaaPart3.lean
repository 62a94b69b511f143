/- Common to the claims of this seat, part 3: texts that were written one by one, laid behind one another. -/
import Derived.Scope
import Derived.WalkMore
import Derived.Lib.QuietBelow
import Derived.Test.YtcndihekpdebhaaPart1
import Derived.Test.YtcndihekpdebhaaPart2
/- A scope in which the run jumps back to several labels: what holds at a jump to each, and a measure that every pass lowers. -/
namespace Go.Proofs.Ytcndihekpdebhaa.Scp

/-- As Q; by a goto to a label: what is said of that label. -/
def Jumps (J : Nat → Act → World → Prop) (Q : Exit → Act → World → Prop) : Exit → Act → World → Prop
  | .goto l, a, w => J l a w
  | e, a, w => Q e a w

variable {P : Program} {a : Act} {w : World} {Q : Exit → Act → World → Prop}
theorem jumps_ret {J : Nat → Act → World → Prop} : Jumps J Q .ret a w = Q .ret a w := rfl
theorem jumps_normal {J : Nat → Act → World → Prop} : Jumps J Q .normal a w = Q .normal a w := rfl
theorem jumps_goto {J : Nat → Act → World → Prop} {l : Nat} : Jumps J Q (.goto l) a w = J l a w := rfl

theorem wp_labels {c : Code} (J : Nat → Act → World → Prop) (m : Nat → Act → World → Nat)
    (first : c.wp P (Jumps J Q) a w)
    (pass : ∀ l a w, J l a w → ∃ rest, findLabel c l = some rest ∧ rest.wp P (Jumps (fun l' a' w' => J l' a' w' ∧ m l' a' w' < m l a w) Q) a w) : (Code.scope c).wp P Q a w := by
  intro b k cs
  have key : ∀ n l a w, m l a w = n → J l a w → ∃ rest, findLabel c l = some rest ∧ ∃ e a' w', Q e a' w' ∧ Arrives P (lone (b.at a (.code rest :: .inScope c :: k)) cs w) b k cs e a' w' := by
    intro n
    induction n using Nat.strongRecOn with
    | _ n ih =>
      intro l a w hn hJ
      obtain ⟨rest, hf, hp⟩ := pass l a w hJ
      refine ⟨rest, hf, ?_⟩
      obtain ⟨e, a1, w1, hq, harr⟩ := hp b (.inScope c :: k) cs
      cases e with
      | normal => exact ⟨.normal, a1, w1, hq, Steps.trans harr (.one step_inScope)⟩
      | exit id => exact ⟨.exit id, a1, w1, hq, fun k' hk => harr k' (by simp [exitTo, hk])⟩
      | goto l' =>
        obtain ⟨hJ', hlt⟩ := hq
        obtain ⟨rest2, hf2, e2, a2, w2, hq2, harr2⟩ := ih _ (by omega) l' a1 w1 rfl hJ'
        have hg : gotoIn l' (.inScope c :: k) = some (.code rest2 :: .inScope c :: k) := by simp [gotoIn, hf2]
        exact ⟨e2, a2, w2, hq2, .of_steps (harr _ hg) harr2⟩
      | ret => exact ⟨_, a1, w1, hq, harr⟩
      | panic ch => exact ⟨_, a1, w1, hq, harr⟩
      | outgrown => exact ⟨_, a1, w1, hq, harr⟩
  obtain ⟨e, a1, w1, hq, harr⟩ := first b (.inScope c :: k) cs
  cases e with
  | normal => exact ⟨.normal, a1, w1, hq, .head step_scope (Steps.trans harr (.one step_inScope))⟩
  | exit id => exact ⟨.exit id, a1, w1, hq, fun k' hk => .head step_scope (harr k' (by simp [exitTo, hk]))⟩
  | goto l' =>
    obtain ⟨rest, hf, e2, a2, w2, hq2, harr2⟩ := key _ l' a1 w1 rfl hq
    have hg : gotoIn l' (.inScope c :: k) = some (.code rest :: .inScope c :: k) := by simp [gotoIn, hf]
    exact ⟨e2, a2, w2, hq2, .of_steps (.head step_scope (harr _ hg)) harr2⟩
  | ret => exact ⟨_, a1, w1, hq, .of_steps (.one step_scope) harr⟩
  | panic ch => exact ⟨_, a1, w1, hq, .of_steps (.one step_scope) harr⟩
  | outgrown => exact ⟨_, a1, w1, hq, .of_steps (.one step_scope) harr⟩

/-- Two labels, 0 and 1. -/
theorem wp_two {c r0 r1 : Code} (J0 J1 : Act → World → Prop) (m0 m1 : Act → World → Nat) (h0 : findLabel c 0 = some r0) (h1 : findLabel c 1 = some r1)
    (first : c.wp P (Jumps (fun l a w => (l = 0 ∧ J0 a w) ∨ (l = 1 ∧ J1 a w)) Q) a w)
    (pass0 : ∀ a w, J0 a w → r0.wp P (Jumps (fun l a' w' => (l = 0 ∧ J0 a' w' ∧ m0 a' w' < m0 a w) ∨ (l = 1 ∧ J1 a' w' ∧ m1 a' w' < m0 a w)) Q) a w)
    (pass1 : ∀ a w, J1 a w → r1.wp P (Jumps (fun l a' w' => (l = 0 ∧ J0 a' w' ∧ m0 a' w' < m1 a w) ∨ (l = 1 ∧ J1 a' w' ∧ m1 a' w' < m1 a w)) Q) a w) : (Code.scope c).wp P Q a w := by
  have hJ : ∀ (m : Nat) (a : Act) (w : World) (e : Exit) (a' : Act) (w' : World),
      Jumps (fun l a' w' => (l = 0 ∧ J0 a' w' ∧ m0 a' w' < m) ∨ (l = 1 ∧ J1 a' w' ∧ m1 a' w' < m)) Q e a' w' →
      Jumps (fun l a' w' => ((l = 0 ∧ J0 a' w') ∨ (l = 1 ∧ J1 a' w')) ∧ (if l = 0 then m0 a' w' else m1 a' w') < m) Q e a' w' := by
    intro m a w e a' w' h
    cases e with
    | goto l =>
      rcases h with ⟨rfl, h1, h2⟩ | ⟨rfl, h1, h2⟩
      · exact ⟨.inl ⟨rfl, h1⟩, h2⟩
      · exact ⟨.inr ⟨rfl, h1⟩, h2⟩
    | normal => exact h
    | exit id => exact h
    | ret => exact h
    | panic ch => exact h
    | outgrown => exact h
  refine wp_labels (fun l a w => (l = 0 ∧ J0 a w) ∨ (l = 1 ∧ J1 a w)) (fun l a w => if l = 0 then m0 a w else m1 a w) first fun l a w h => ?_
  rcases h with ⟨rfl, h⟩ | ⟨rfl, h⟩
  · exact ⟨r0, h0, Code.wp_mono (fun e a' w' hq => hJ _ a w e a' w' hq) (pass0 a w h)⟩
  · exact ⟨r1, h1, Code.wp_mono (fun e a' w' hq => hJ _ a w e a' w' hq) (pass1 a w h)⟩

theorem jumps_mono {J J' : Nat → Act → World → Prop} (h : ∀ l a w, J l a w → J' l a w) (e : Exit) (a : Act) (w : World) : Jumps J Q e a w → Jumps J' Q e a w := by
  intro hq
  cases e with
  | goto l => exact h l a w hq
  | normal => exact hq
  | exit id => exact hq
  | ret => exact hq
  | panic ch => exact hq
  | outgrown => exact hq

/-- Two labels, the one's code falling through into the other's, the start into the first's. -/
theorem wp_falls {c r0 r1 : Code} (J0 J1 : Act → World → Prop) (m0 m1 : Act → World → Nat) (h0 : findLabel c 0 = some (Code.skip.seq r0)) (h1 : findLabel c 1 = some (Code.skip.seq r1))
    (pass1 : ∀ a w, J1 a w → r1.wp P (Jumps (fun l a' w' => (l = 0 ∧ J0 a' w' ∧ m0 a' w' < m1 a w) ∨ (l = 1 ∧ J1 a' w' ∧ m1 a' w' < m1 a w)) Q) a w)
    (pass0 : (∀ a w m, J1 a w → m1 a w ≤ m → r1.wp P (Jumps (fun l a' w' => (l = 0 ∧ J0 a' w' ∧ m0 a' w' < m) ∨ (l = 1 ∧ J1 a' w' ∧ m1 a' w' < m)) Q) a w) →
      ∀ a w, J0 a w → r0.wp P (Jumps (fun l a' w' => (l = 0 ∧ J0 a' w' ∧ m0 a' w' < m0 a w) ∨ (l = 1 ∧ J1 a' w' ∧ m1 a' w' < m0 a w)) Q) a w)
    (first : (∀ a w, J0 a w → r0.wp P (Jumps (fun l a w => (l = 0 ∧ J0 a w) ∨ (l = 1 ∧ J1 a w)) Q) a w) → c.wp P (Jumps (fun l a w => (l = 0 ∧ J0 a w) ∨ (l = 1 ∧ J1 a w)) Q) a w) : (Code.scope c).wp P Q a w := by
  have p0 := pass0 fun a w m hj hm => Code.wp_mono (jumps_mono fun l a' w' h => by
    rcases h with ⟨h1, h2, h3⟩ | ⟨h1, h2, h3⟩
    · exact .inl ⟨h1, h2, by omega⟩
    · exact .inr ⟨h1, h2, by omega⟩) (pass1 a w hj)
  refine wp_two J0 J1 m0 m1 h0 h1 (first fun a w hj => Code.wp_mono (jumps_mono fun l a' w' h => ?_) (p0 a w hj)) (fun a w hj => wp_seq (wp_skip (p0 a w hj))) (fun a w hj => wp_seq (wp_skip (pass1 a w hj)))
  rcases h with ⟨h1, h2, _⟩ | ⟨h1, h2, _⟩
  · exact .inl ⟨h1, h2⟩
  · exact .inr ⟨h1, h2⟩

end Go.Proofs.Ytcndihekpdebhaa.Scp
/- Plane: Rows: the boxes of some nodes, found by jumps. -/
namespace Go.Proofs.Ytcndihekpdebhaa.Pla
open Go.RowKit
open Go.Sort
open Scp

theorem has_is (a : Int) (n : Nat) (b : Bool) (w : World) (hn : n < 64) (hb : bitB a n = b) :
    Calls Try.prog 41 #[.int .i64 a, .int .i64 n] w fun e w' => e = .returned (.bool b) ∧ w = w' := by
  have HB := Lib.hid hb
  clear hb
  go_enter Try.func41, Try.ntmps41
  go_wp2
  go_ret
  exact ⟨ret_bool HB.out, rfl⟩

def Gap (tick long mask : Int) (w : World) (a' : Act) (w' : World) : Prop :=
  ∃ (v : Value) (first node : Nat) (u10 u11 u12 u13 u14 u15 u16 u17 u18 u19 u20 u21 u22 u23 u24 u25 u26 u27 u28 u29 u30 u31 u32 u33 u34 u35 u36 u37 u38 u39 u40 u41 u42 u43 : Value), a' = { tmps := #[.int .i64 tick, .int .i64 long, .int .i64 mask, undef, undef, undef, .slice none 0 0, v, .int .i64 first, .int .i64 node, u10, u11, u12, u13, u14, u15, u16, u17, u18, u19, u20, u21, u22, u23, u24, u25, u26, u27, u28, u29, u30, u31, u32, u33, u34, u35, u36, u37, u38, u39, u40, u41, u42, u43], defers := [] } ∧
    node ≤ 32 ∧ Owns w' w.heap.size v (boxesOf tick long (runs (bitB mask) node)) ∧ Below w.heap.size w w' ∧ (node = 0 ∨ bitB mask (node - 1) = false ∨ bitB mask node = false ∨ node = 32)
def Run (tick long mask : Int) (w : World) (a' : Act) (w' : World) : Prop :=
  ∃ (v : Value) (first node : Nat) (u10 u11 u12 u13 u14 u15 u16 u17 u18 u19 u20 u21 u22 u23 u24 u25 u26 u27 u28 u29 u30 u31 u32 u33 u34 u35 u36 u37 u38 u39 u40 u41 u42 u43 : Value), a' = { tmps := #[.int .i64 tick, .int .i64 long, .int .i64 mask, undef, undef, undef, .slice none 0 0, v, .int .i64 first, .int .i64 node, u10, u11, u12, u13, u14, u15, u16, u17, u18, u19, u20, u21, u22, u23, u24, u25, u26, u27, u28, u29, u30, u31, u32, u33, u34, u35, u36, u37, u38, u39, u40, u41, u42, u43], defers := [] } ∧
    node ≤ 32 ∧ first ≤ node ∧ (first = node → node < 32 ∧ bitB mask node = true) ∧ Owns w' w.heap.size v (boxesOf tick long (runs (bitB mask) first)) ∧ Below w.heap.size w w' ∧ (first = 0 ∨ bitB mask (first - 1) = false) ∧ ∀ i, first ≤ i → i < node → bitB mask i = true
def firstOf (a : Act) : Nat := (intOf (a.tmps.getD 8 undef)).toNat
def nodeOf (a : Act) : Nat := (intOf (a.tmps.getD 9 undef)).toNat

set_option maxRecDepth 100000 in
set_option maxHeartbeats 4000000 in
theorem rows_any (tick long mask : Int) (w : World) (ht : Wide tick) (hl : Wide long) :
    Calls Try.prog 28 #[.int .i64 tick, .int .i64 long, .int .i64 mask] w (OutBoxes w (rowsL tick long mask)) := by
  have hg := good_any tick 0 long 1
  cases h1 : goodB tick 0 long 1 with
  | false =>
    have HN := Lib.hid (show [] = rowsL tick long mask by unfold rowsL; rw [h1]; rfl)
    rw [h1] at hg
    have HG := Lib.hid hg
    clear h1 hg
    go_enter Try.func28, Try.ntmps28
    go_wp2
    go_step3
    go_wp2_with fail
    refine (HG.out _ ht (by unfold Wide; omega) hl (by unfold Wide; omega)).mono ?_
    rintro e w1 ⟨rfl, hb⟩
    go_wp2
    try rw [Exit.noGoto_ret]
    go_ret
    exact out_nil w hb HN.out
  | true =>
    have HN := Lib.hid (show boxesOf tick long (runs (bitB mask) 32) = rowsL tick long mask by unfold rowsL; rw [if_pos h1])
    rw [h1] at hg
    have HG := Lib.hid hg
    clear h1 hg
    go_enter Try.func28, Try.ntmps28
    go_wp2
    refine wp_falls (Gap tick long mask w) (Run tick long mask w) (fun a _ => 2 * (32 - nodeOf a)) (fun a _ => 2 * (32 - nodeOf a) + if firstOf a = nodeOf a then 0 else 1) rfl rfl ?_ ?_ ?_
    · rintro a' w' ⟨v, first, node, u10, u11, u12, u13, u14, u15, u16, u17, u18, u19, u20, u21, u22, u23, u24, u25, u26, u27, u28, u29, u30, u31, u32, u33, u34, u35, u36, u37, u38, u39, u40, u41, u42, u43, rfl, h1, h2, h3, hown, hb, h4, h5⟩
      have h6 : nodeOf { tmps := #[.int .i64 tick, .int .i64 long, .int .i64 mask, undef, undef, undef, .slice none 0 0, v, .int .i64 first, .int .i64 node, u10, u11, u12, u13, u14, u15, u16, u17, u18, u19, u20, u21, u22, u23, u24, u25, u26, u27, u28, u29, u30, u31, u32, u33, u34, u35, u36, u37, u38, u39, u40, u41, u42, u43], defers := [] } = node := by simp [nodeOf, intOf]
      have h7 : firstOf { tmps := #[.int .i64 tick, .int .i64 long, .int .i64 mask, undef, undef, undef, .slice none 0 0, v, .int .i64 first, .int .i64 node, u10, u11, u12, u13, u14, u15, u16, u17, u18, u19, u20, u21, u22, u23, u24, u25, u26, u27, u28, u29, u30, u31, u32, u33, u34, u35, u36, u37, u38, u39, u40, u41, u42, u43], defers := [] } = first := by simp [firstOf, intOf]
      rw [h6, h7]
      clear h6 h7
      by_cases hr : node < 32 ∧ bitB mask node = true
      · obtain ⟨hlt, hbt⟩ := hr
        have H5 : Hid (∀ i, first ≤ i → i < node + 1 → bitB mask i = true) := fun i g1 g2 => by
          by_cases he : i = node
          · rw [he]; exact hbt
          · exact h5 i g1 (by omega)
        have HBT := Lib.hid hbt
        have HO := Lib.hid hown
        have HB := Lib.hid hb
        have H4 := Lib.hid h4
        have hd : decide ((node : Int) < 32) = true := by rw [decide_eq_true_iff]; omega
        clear hbt hown hb h3 h4 h5
        go_wp2_with fail
        refine (has_is mask node true _ (by omega) HBT.out).mono ?_
        rintro e w1 ⟨rfl, rfl⟩
        go_wp2
        go_step3
        refine .inr ⟨rfl, ⟨v, first, node + 1, _, _, _, _, _, _, _, _, _, _, _, _, _, _, _, _, _, _, _, _, _, _, _, _, _, _, _, _, _, _, _, _, _, _, rfl, by omega, by omega, (fun h => by omega), HO.out, HB.out, H4.out, H5.out⟩, ?_⟩
        have hne : ¬ first = node + 1 := by omega
        simp only [nodeOf, firstOf, intOf]
        simp
        rw [if_neg hne]
        split <;> omega
      · have hfn : first < node := by
          rcases Nat.lt_or_ge first node with h | h
          · exact h
          · exact absurd (h3 (by omega)) hr
        have HR : Hid (boxesOf tick long (runs (bitB mask) node) = boxesOf tick long (runs (bitB mask) first) ++ [⟨tick, first, long, (node : Int) - (first : Int)⟩]) := by
          show _ = _
          have e := runs_run h4 (node - first - 1) (fun i hi => h5 (first + i) (by omega) (by omega))
          rw [show first + (node - first - 1 + 1) = node by omega] at e
          rw [e, boxesOf_snoc]
          simp only
          rw [show ((node - first - 1 + 1 : Nat) : Int) = (node : Int) - (first : Int) by omega]
        have HN2 : Hid (node = 0 ∨ bitB mask (node - 1) = false ∨ bitB mask node = false ∨ node = 32) := by
          show _ ∨ _
          by_cases hlt : node < 32
          · right; right; left
            rw [Bool.eq_false_iff]; exact fun h => hr ⟨hlt, h⟩
          · right; right; right; omega
        have hlen : (boxesOf tick long (runs (bitB mask) first)).length ≤ 1000000 := by
          unfold boxesOf; rw [List.length_map]; have := runs_length (bitB mask) first; omega
        have HLen := Lib.hid hlen
        have HO := Lib.hid hown
        have HB := Lib.hid hb
        have HRN := Lib.hid hr
        have hsz : w.heap.size ≤ w'.heap.size := hb.size
        clear hlen hown hb h3 h4 h5 hr
        by_cases hlt : node < 32
        · have hbf : Hid (bitB mask node = false) := by show _ = _; rw [Bool.eq_false_iff]; exact fun h => HRN.out ⟨hlt, h⟩
          have hd : decide ((node : Int) < 32) = true := by rw [decide_eq_true_iff]; omega
          go_wp2_with fail
          refine (has_is mask node false _ (by omega) hbf.out).mono ?_
          rintro e w1 ⟨rfl, rfl⟩
          go_wp2_with (at_builtin; refine wpList_append_box rfl (.tmp 34) (.tmp 42) rfl w.heap.size v (boxesOf tick long (runs (bitB mask) first)) rfl (owns_alloc HO.out _) w'.heap.size rfl ⟨tick, first, long, (node : Int) - (first : Int)⟩ (by simp [go_sem]) HLen.out (by simp; omega) ?_; intro v2 w2 hown2 hb2)
          go_step3
          refine .inl ⟨rfl, ⟨v2, first, node, _, _, _, _, _, _, _, _, _, _, _, _, _, _, _, _, _, _, _, _, _, _, _, _, _, _, _, _, _, _, _, _, _, _, rfl, by omega, by rw [HR.out]; exact hown2, HB.out.trans ((((Below.refl _ _).alloc (Nat.le_refl _) _).mono hsz).trans hb2), HN2.out⟩, ?_⟩
          have hne : ¬ first = node := by omega
          simp [nodeOf, intOf, hne]
        · have hd : decide ((node : Int) < 32) = false := by rw [decide_eq_false_iff_not]; omega
          go_wp2_with (at_builtin; refine wpList_append_box rfl (.tmp 34) (.tmp 42) rfl w.heap.size v (boxesOf tick long (runs (bitB mask) first)) rfl (owns_alloc HO.out _) w'.heap.size rfl ⟨tick, first, long, (node : Int) - (first : Int)⟩ (by simp [go_sem]) HLen.out (by simp; omega) ?_; intro v2 w2 hown2 hb2)
          go_step3
          refine .inl ⟨rfl, ⟨v2, first, node, _, _, _, _, _, _, _, _, _, _, _, _, _, _, _, _, _, _, _, _, _, _, _, _, _, _, _, _, _, _, _, _, _, _, rfl, by omega, by rw [HR.out]; exact hown2, HB.out.trans ((((Below.refl _ _).alloc (Nat.le_refl _) _).mono hsz).trans hb2), HN2.out⟩, ?_⟩
          have hne : ¬ first = node := by omega
          simp [nodeOf, intOf, hne]
    · intro hp1
      rintro a' w' ⟨v, first, node, u10, u11, u12, u13, u14, u15, u16, u17, u18, u19, u20, u21, u22, u23, u24, u25, u26, u27, u28, u29, u30, u31, u32, u33, u34, u35, u36, u37, u38, u39, u40, u41, u42, u43, rfl, h1, hown, hb, h4⟩
      have h6 : nodeOf { tmps := #[.int .i64 tick, .int .i64 long, .int .i64 mask, undef, undef, undef, .slice none 0 0, v, .int .i64 first, .int .i64 node, u10, u11, u12, u13, u14, u15, u16, u17, u18, u19, u20, u21, u22, u23, u24, u25, u26, u27, u28, u29, u30, u31, u32, u33, u34, u35, u36, u37, u38, u39, u40, u41, u42, u43], defers := [] } = node := by simp [nodeOf, intOf]
      rw [h6]
      clear h6
      have HP := Lib.hid hp1
      clear hp1
      have HO := Lib.hid hown
      have HB := Lib.hid hb
      have H4 := Lib.hid h4
      clear hown hb h4
      by_cases h32 : node = 32
      · have hd : ((node : Int) == 32) = true := by rw [h32]; rfl
        have HE := Lib.hid (show boxesOf tick long (runs (bitB mask) node) = rowsL tick long mask by rw [h32]; exact HN.out)
        clear h32
        go_wp2
        simp only [jumps_ret]
        go_ret
        exact out_owns HO.out HB.out HE.out
      · have hd : ((node : Int) == 32) = false := by simp; omega
        have hlt : node < 32 := by omega
        clear h32
        cases hbt : bitB mask node with
        | false =>
          have HE : Hid (Owns w' w.heap.size v (boxesOf tick long (runs (bitB mask) (node + 1)))) := by
            show Owns _ _ _ _; rw [runs_skip hbt]; exact HO.out
          have HBT := Lib.hid hbt
          clear hbt
          go_wp2_with fail
          refine (has_is mask node false _ (by omega) HBT.out).mono ?_
          rintro e w1 ⟨rfl, rfl⟩
          go_wp2
          go_step3
          refine .inl ⟨rfl, ⟨v, first, node + 1, _, _, _, _, _, _, _, _, _, _, _, _, _, _, _, _, _, _, _, _, _, _, _, _, _, _, _, _, _, _, _, _, _, _, rfl, by omega, HE.out, HB.out, .inr (.inl HBT.out)⟩, ?_⟩
          simp [nodeOf, intOf]
          omega
        | true =>
          have HBT := Lib.hid hbt
          have HS : Hid (node = 0 ∨ bitB mask (node - 1) = false) := by
            show _ ∨ _
            rcases H4.out with h | h | h | h
            · exact .inl h
            · exact .inr h
            · rw [hbt] at h; cases h
            · omega
          clear hbt
          go_wp2_with fail
          refine (has_is mask node true _ (by omega) HBT.out).mono ?_
          rintro e w1 ⟨rfl, rfl⟩
          go_wp2
          go_step3
          rename_i hK
          refine hK _ _ (HP.out _ _ _ ?_ ?_)
          · exact ⟨v, node, node, _, _, _, _, _, _, _, _, _, _, _, _, _, _, _, _, _, _, _, _, _, _, _, _, _, _, _, _, _, _, _, _, _, _, rfl, h1, Nat.le_refl _, (fun _ => ⟨hlt, HBT.out⟩), HO.out, HB.out, HS.out, fun i g1 g2 => by omega⟩
          · simp [nodeOf, firstOf, intOf]
    · intro hp0
      go_wp2_with fail
      refine (HG.out _ ht (by unfold Wide; omega) hl (by unfold Wide; omega)).mono ?_
      rintro e w1 ⟨rfl, hb⟩
      go_wp2
      go_step3
      rename_i hK
      refine hK _ _ (hp0 _ _ ?_)
      exact ⟨_, 0, 0, _, _, _, _, _, _, _, _, _, _, _, _, _, _, _, _, _, _, _, _, _, _, _, _, _, _, _, _, _, _, _, _, _, _, rfl, by omega, World.ownsRow_nil _ _ _ _, hb, .inl rfl⟩

end Go.Proofs.Ytcndihekpdebhaa.Pla
/- One new element put behind an own list: the arm of a walk. -/
namespace Go.Proofs.Ytcndihekpdebhaa.Nest
open Go.RowKit
open Go.Sort
open Kit
set_option linter.unusedVariables false
variable {α : Type} {enc : α → List Value} {size : Nat} {T t : TypeId} {P : Program} {z : Value} {bytes : Nat}

theorem one_arm (H : Ty enc size P t T z bytes) {w : World} {ops : Array Oper} {rest : List Oper} {o : Oper} {A : Act} {Q : Exit → Act → World → Prop} (hgd : o.guard = none) (s x : Operand) (ho : o.op = .call { callee := .builtin .append, args := #[s, x], argTypes := #[t, t] })
    (w1 : World) (C : Array Value) (hw : w = w1.alloc (.cells C T)) (y : α) (hC : C.toList = enc y) (base : Nat) (v : Value) (l : List α) (hv : A.eval s = v) (hown : Owns enc size T w1 base v l) (hx : A.eval x = .slice (some ⟨w1.heap.size, 0, none⟩) 1 1)
    (hl : l.length + 1 ≤ 100000) (hb8 : bytes ≤ 1000) (hbase : base ≤ w1.heap.size) (h : ∀ v' w', Owns enc size T w' base v' (l ++ [y]) → Below base w1 w' → wpList P ops Q rest (A.put o.dst v') w') : wpList P ops Q (o :: rest) A w := by
  subst hw
  have hb := below_alloc w1 (.cells C T)
  refine Two.append_apart H.hs H.hz H.one hgd s x t T ho H.und z bytes H.info H.zero base v l hv (own_on hown hb) (some ⟨w1.heap.size, 0, none⟩) 1 1 [y] hx rfl (row_new H.hs w1 [y] C T _ rfl (by rw [hC]; simp [flat])) (fun h => by cases h) (by unfold maxLen; omega) ?_ (Nat.le_trans hbase hb.size) ?_
  · have : (l.length + 1) * bytes ≤ 100000 * 1000 := Nat.mul_le_mul hl hb8
    omega
  · intro v' w' h1 h2 _
    exact h v' w' h1 ((hb.mono hbase).trans (Two.below_grown (own_on hown hb) h2 (Nat.le_trans hbase hb.size)))
theorem grown_cell {w w' : World} {row : Option Nat} (h : w.grownBy w' row) {b o : Nat} {v : Value} (hc : w.cell? ⟨b, o, none⟩ = some v) (hne : some b ≠ row) : w'.cell? ⟨b, o, none⟩ = some v := by
  have e := h.block b (World.block_lt_of_cell? w _ hc) hne
  unfold World.cell? at hc ⊢
  simp only [e]
  exact hc
/-- Some new elements put behind an own list at once; other blocks are as they were. -/
theorem many_arm (H : Ty enc size P t T z bytes) {w : World} {ops : Array Oper} {rest : List Oper} {o : Oper} {A : Act} {Q : Exit → Act → World → Prop} (hgd : o.guard = none) (s x : Operand) (ho : o.op = .call { callee := .builtin .append, args := #[s, x], argTypes := #[t, t] })
    (w1 : World) (C : Array Value) (hw : w = w1.alloc (.cells C T)) (ys : List α) (m : Nat) (hm : ys.length = m) (hC : C.toList = flat enc ys) (base : Nat) (v : Value) (l : List α) (hv : A.eval s = v) (hown : Owns enc size T w1 base v l) (B : Nat) (hB : B = w1.heap.size) (hx : A.eval x = .slice (some ⟨B, 0, none⟩) m m)
    (hl : l.length + m ≤ 100000) (hb8 : bytes ≤ 1000) (hbase : base ≤ w1.heap.size) (h : ∀ v' w', Owns enc size T w' base v' (l ++ ys) → Below base w1 w' → (∀ b o u, w1.cell? ⟨b, o, none⟩ = some u → some b ≠ v.ownBlock → w'.cell? ⟨b, o, none⟩ = some u) → wpList P ops Q rest (A.put o.dst v') w') : wpList P ops Q (o :: rest) A w := by
  subst hw hB
  have hb := below_alloc w1 (.cells C T)
  refine Two.append_apart H.hs H.hz H.one hgd s x t T ho H.und z bytes H.info H.zero base v l hv (own_on hown hb) (some ⟨w1.heap.size, 0, none⟩) m m ys hx hm (row_new H.hs w1 ys C T _ rfl hC) (fun h => by cases h) (by unfold maxLen; omega) ?_ (Nat.le_trans hbase hb.size) ?_
  · have : (l.length + m) * bytes ≤ 100000 * 1000 := Nat.mul_le_mul hl hb8
    omega
  · intro v' w' h1 h2 _
    exact h v' w' h1 ((hb.mono hbase).trans (Two.below_grown (own_on hown hb) h2 (Nat.le_trans hbase hb.size))) fun b o u hc hne => grown_cell h2 (cell_keep hb hc) hne
end Go.Proofs.Ytcndihekpdebhaa.Nest
/- Plane: what Apart is (mathematics). -/
namespace Go.Proofs.Ytcndihekpdebhaa.Pla
open Go.RowKit
open Go.Sort

/-- Each is good, and meets none ahead of it. -/
def ApartTo (L : List Bx) (k : Nat) : Prop := ∀ i (h : i < L.length), i < k → L[i].good = true ∧ ∀ j (hj : j < i), (L[j]'(by omega)).meets L[i] = false
def Bx.none : Bx := ⟨0, 0, 0, 0⟩
def apartB (L : List Bx) : Bool := (List.range L.length).all fun i => (L.getD i Bx.none).good && (List.range i).all fun j => !(L.getD j Bx.none).meets (L.getD i Bx.none)
theorem getD_in {L : List Bx} {i : Nat} (h : i < L.length) : L.getD i Bx.none = L[i] := by simp [List.getD, h]
theorem apartB_iff {L : List Bx} : apartB L = true ↔ ApartTo L L.length := by
  unfold apartB ApartTo
  rw [List.all_eq_true]
  constructor
  · intro h i hi _
    have := h i (List.mem_range.2 hi)
    rw [Bool.and_eq_true, List.all_eq_true, getD_in hi] at this
    refine ⟨this.1, fun j hj => ?_⟩
    have := this.2 j (List.mem_range.2 hj)
    rw [getD_in (by omega)] at this
    simpa using this
  · intro h i hi
    rw [List.mem_range] at hi
    obtain ⟨h1, h2⟩ := h i hi hi
    rw [Bool.and_eq_true, List.all_eq_true, getD_in hi]
    refine ⟨h1, fun j hj => ?_⟩
    rw [List.mem_range] at hj
    rw [getD_in (by omega), h2 j hj]
    rfl
theorem apartB_yes {L : List Bx} (h : ApartTo L L.length) : true = apartB L := (apartB_iff.2 h).symm
theorem apartB_no {L : List Bx} (h : ¬ ApartTo L L.length) : false = apartB L := by
  rw [eq_comm, Bool.eq_false_iff]; exact fun h' => h (apartB_iff.1 h')

end Go.Proofs.Ytcndihekpdebhaa.Pla
/- Plane: runs, one behind the other (mathematics). -/
namespace Go.Proofs.Ytcndihekpdebhaa.Pla
open Go.RowKit

/-- From p on, up to n: the runs, one behind the other, have just the nodes of f. -/
def Chain (f : Nat → Bool) : Nat → List (Nat × Nat) → Nat → Prop
  | p, [], n => p ≤ n ∧ ∀ i, p ≤ i → i < n → f i = false
  | p, (a, k) :: l, n => p ≤ a ∧ 1 ≤ k ∧ a + k ≤ n ∧ (∀ i, p ≤ i → i < a → f i = false) ∧ (∀ i, a ≤ i → i < a + k → f i = true) ∧ Chain f (a + k) l n

theorem chain_skip {f : Nat → Bool} {n : Nat} (h : f n = false) : ∀ {l : List (Nat × Nat)} {p : Nat}, Chain f p l n → Chain f p l (n + 1)
  | [], p, hc => ⟨by have := hc.1; omega, fun i h1 h2 => by
      by_cases he : i = n
      · rw [he]; exact h
      · exact hc.2 i h1 (by omega)⟩
  | (a, k) :: l, p, ⟨h1, h2, h3, h4, h5, h6⟩ => ⟨h1, h2, by omega, h4, h5, chain_skip h h6⟩
theorem chain_new {f : Nat → Bool} {n : Nat} (h : f n = true) : ∀ {l : List (Nat × Nat)} {p : Nat}, Chain f p l n → Chain f p (l ++ [(n, 1)]) (n + 1)
  | [], p, hc => ⟨hc.1, by omega, by omega, fun i h1 h2 => hc.2 i h1 h2, fun i h1 h2 => by
      have : i = n := by omega
      rw [this]; exact h, by omega, fun i h1 h2 => by omega⟩
  | (a, k) :: l, p, ⟨h1, h2, h3, h4, h5, h6⟩ => ⟨h1, h2, by omega, h4, h5, chain_new h h6⟩
theorem chain_more {f : Nat → Bool} {n a k : Nat} (h : f n = true) (he : a + k = n) : ∀ {l : List (Nat × Nat)} {p : Nat}, Chain f p (l ++ [(a, k)]) n → Chain f p (l ++ [(a, k + 1)]) (n + 1)
  | [], p, ⟨h1, h2, h3, h4, h5, _⟩ => ⟨h1, by omega, by omega, h4, fun i g1 g2 => by
      by_cases hi : i = n
      · rw [hi]; exact h
      · exact h5 i g1 (by omega), by omega, fun i h1 h2 => by omega⟩
  | (b, j) :: l, p, ⟨h1, h2, h3, h4, h5, h6⟩ => ⟨h1, h2, by omega, h4, h5, chain_more h he h6⟩
theorem runs_end {f : Nat → Bool} : ∀ n, f n = true → ∃ l a k, runs f (n + 1) = l ++ [(a, k)] ∧ a + k = n + 1
  | 0, h => ⟨[], 0, 1, by rw [runs_new h (.inl rfl)]; rfl, by omega⟩
  | n + 1, h => by
    cases h1 : f n with
    | false => exact ⟨runs f (n + 1), n + 1, 1, runs_new h (.inr h1), by omega⟩
    | true =>
      obtain ⟨l, a, k, e, h2⟩ := runs_end n h1
      exact ⟨l, a, k + 1, by rw [runs_more h (by omega) h1, e, bump_snoc], by omega⟩
theorem chain_runs (f : Nat → Bool) : ∀ n, Chain f 0 (runs f n) n
  | 0 => ⟨Nat.le_refl _, fun i _ h => by omega⟩
  | n + 1 => by
    have ih := chain_runs f n
    cases h : f n with
    | false => rw [runs_skip h]; exact chain_skip h ih
    | true =>
      by_cases h0 : n = 0
      · subst h0; rw [runs_new h (.inl rfl)]; exact chain_new h ih
      · cases h1 : f (n - 1) with
        | false => rw [runs_new h (.inr h1)]; exact chain_new h ih
        | true =>
          obtain ⟨l, a, k, e, he⟩ := runs_end (n - 1) h1
          rw [show n - 1 + 1 = n by omega] at e he
          rw [runs_more h (by omega) h1, e, bump_snoc]
          rw [e] at ih
          exact chain_more h he ih

theorem chain_le {f : Nat → Bool} {n : Nat} : ∀ {l : List (Nat × Nat)} {p : Nat}, Chain f p l n → p ≤ n
  | [], _, h => h.1
  | (a, k) :: l, p, ⟨h1, h2, h3, _⟩ => by omega

/-- A run lies in the chain. -/
theorem chain_mem {f : Nat → Bool} {n : Nat} : ∀ {l : List (Nat × Nat)} {p : Nat}, Chain f p l n → ∀ r ∈ l, p ≤ r.1 ∧ 1 ≤ r.2 ∧ r.1 + r.2 ≤ n ∧ ∀ i, r.1 ≤ i → i < r.1 + r.2 → f i = true
  | [], _, _, r, hr => by cases hr
  | (a, k) :: l, p, ⟨h1, h2, h3, h4, h5, h6⟩, r, hr => by
    rcases List.mem_cons.1 hr with rfl | hr
    · exact ⟨h1, h2, h3, h5⟩
    · obtain ⟨g1, g2⟩ := chain_mem h6 r hr
      exact ⟨by omega, g2⟩
theorem chain_has {f : Nat → Bool} {n : Nat} : ∀ {l : List (Nat × Nat)} {p : Nat}, Chain f p l n → ∀ i, p ≤ i → i < n → f i = true → ∃ r ∈ l, r.1 ≤ i ∧ i < r.1 + r.2
  | [], _, h, i, h1, h2, h3 => by rw [h.2 i h1 h2] at h3; cases h3
  | (a, k) :: l, p, ⟨h1, h2, h3, h4, h5, h6⟩, i, g1, g2, g3 => by
    by_cases hi : i < a
    · rw [h4 i g1 hi] at g3; cases g3
    · by_cases hk : i < a + k
      · exact ⟨(a, k), by simp, by simpa using Nat.le_of_not_lt hi, hk⟩
      · obtain ⟨r, hr, h⟩ := chain_has h6 i (by omega) g2 g3
        exact ⟨r, by simp [hr], h⟩
/-- Earlier runs end ahead of later ones. -/
theorem chain_sorted {f : Nat → Bool} {n : Nat} : ∀ {l : List (Nat × Nat)} {p : Nat}, Chain f p l n → ∀ i j (hi : i < l.length) (hj : j < l.length), i < j → l[i].1 + l[i].2 ≤ l[j].1
  | [], _, _, i, j, hi, _, _ => by simp at hi
  | (a, k) :: l, p, ⟨h1, h2, h3, h4, h5, h6⟩, 0, j + 1, _, hj, _ => by
    have hj' : j < l.length := by simpa using hj
    have := (chain_mem h6 l[j] (List.getElem_mem hj')).1
    simpa using this
  | (a, k) :: l, p, ⟨h1, h2, h3, h4, h5, h6⟩, i + 1, j + 1, hi, hj, hij => by
    simpa using chain_sorted h6 i j (by simpa using hi) (by simpa using hj) (by omega)

theorem good_run {tick long : Int} {r : Nat × Nat} (ht : 0 ≤ tick) (ht2 : tick ≤ 1099511627776) (hl : 1 ≤ long) (hl2 : long ≤ 1048576) (h1 : 1 ≤ r.2) (h2 : r.1 + r.2 ≤ 32) : goodB tick r.1 long r.2 = true := by
  rw [goodB_iff]; omega

theorem boxesOf_get {tick long : Int} {l : List (Nat × Nat)} (j : Nat) (h : j < l.length) (h' : j < (boxesOf tick long l).length) : (boxesOf tick long l)[j] = ⟨tick, l[j].1, long, l[j].2⟩ := by simp [boxesOf]

theorem apart_rows {tick long mask : Int} (hg : goodB tick 0 long 1 = true) : apartB (boxesOf tick long (runs (bitB mask) 32)) = true := by
  have hr := goodB_iff.1 hg
  have hc := chain_runs (bitB mask) 32
  refine (apartB_iff.2 fun i hi _ => ?_)
  have hi' : i < (runs (bitB mask) 32).length := by rw [boxesOf_length] at hi; exact hi
  have e : ∀ j (hj : j < (runs (bitB mask) 32).length) (hj' : j < (boxesOf tick long (runs (bitB mask) 32)).length), (boxesOf tick long (runs (bitB mask) 32))[j] = ⟨tick, (runs (bitB mask) 32)[j].1, long, (runs (bitB mask) 32)[j].2⟩ := by
    intro j hj hj'; exact boxesOf_get j hj hj'
  obtain ⟨_, g1, g2, _⟩ := chain_mem hc _ (List.getElem_mem hi')
  rw [e i hi' hi]
  refine ⟨good_run hr.1 hr.2.1 hr.2.2.1 hr.2.2.2.1 g1 g2, fun j hj => ?_⟩
  rw [e j (by omega) (by omega)]
  have := chain_sorted hc j i (by omega) hi' hj
  unfold Bx.meets meetsB
  simp only
  rw [Bool.and_eq_false_iff]; right
  rw [Bool.eq_false_iff]; intro h
  have := crossB_iff.1 h
  omega

end Go.Proofs.Ytcndihekpdebhaa.Pla
/- Job: the boxes of jobs that run at one tick (mathematics). -/
namespace Go.Proofs.Ytcndihekpdebhaa.Job
open Go.RowKit
open Pla (Bx rowsL boxesOf runs bitB goodB goodB_iff crossB_iff meetsB chain_runs chain_mem chain_has apartB apartB_iff apart_rows good_run)
open Poo (cnt cntTo lo)
set_option linter.unusedVariables false

/-! ### Bits -/

/-- No bit in common. -/
def Dj (a b : Nat) : Prop := ∀ i, i < 32 → ¬ (a.testBit i = true ∧ b.testBit i = true)
theorem cnt_or (a b : Nat) : ∀ j, cntTo (a ||| b) j + cntTo (a &&& b) j = cntTo a j + cntTo b j
  | 0 => rfl
  | j + 1 => by
    have ih := cnt_or a b j
    rw [cntTo, cntTo, cntTo, cntTo, Nat.testBit_or, Nat.testBit_and]
    cases a.testBit j <;> cases b.testBit j <;> simp <;> omega
theorem cnt_none (a : Nat) : ∀ j, cntTo a j = 0 ↔ ∀ i, i < j → a.testBit i = false
  | 0 => ⟨fun _ i hi => absurd hi (Nat.not_lt_zero i), fun _ => rfl⟩
  | j + 1 => by
    rw [cntTo]
    constructor
    · intro h i hi
      have h1 : cntTo a j = 0 := by omega
      by_cases e : i = j
      · subst e
        cases hb : a.testBit i with
        | false => rfl
        | true => rw [hb] at h; simp at h
      · exact (cnt_none a j).1 h1 i (by omega)
    · intro h
      rw [(cnt_none a j).2 fun i hi => h i (by omega), h j (by omega)]; rfl
theorem dj_and (a b : Nat) : cnt (a &&& b) = 0 ↔ Dj a b := by
  unfold cnt
  rw [cnt_none]
  unfold Dj
  constructor
  · rintro h i hi ⟨h1, h2⟩
    have := h i hi
    rw [Nat.testBit_and, h1, h2] at this
    cases this
  · intro h i hi
    rw [Nat.testBit_and]
    cases h1 : a.testBit i with
    | false => rfl
    | true =>
      cases h2 : b.testBit i with
      | false => rfl
      | true => exact absurd ⟨h1, h2⟩ (h i hi)
theorem dj_or (a b x : Nat) : Dj (a ||| b) x ↔ Dj a x ∧ Dj b x := by
  unfold Dj
  constructor
  · intro h
    exact ⟨fun i hi ⟨h1, h2⟩ => h i hi ⟨by rw [Nat.testBit_or, h1]; rfl, h2⟩, fun i hi ⟨h1, h2⟩ => h i hi ⟨by rw [Nat.testBit_or, h1, Bool.or_true], h2⟩⟩
  · rintro ⟨h1, h2⟩ i hi ⟨h3, h4⟩
    rw [Nat.testBit_or, Bool.or_eq_true] at h3
    rcases h3 with h3 | h3
    · exact h1 i hi ⟨h3, h4⟩
    · exact h2 i hi ⟨h3, h4⟩
def ors (acc : Nat) (ms : List Nat) : Nat := ms.foldl (· ||| ·) acc
def sumC (ms : List Nat) : Nat := (ms.map cnt).sum
/-- What is put together has as many bits as all have just if no two have one in common. -/
theorem ors_cnt : ∀ (ms : List Nat) (acc : Nat), cnt (ors acc ms) ≤ cnt acc + sumC ms ∧ (cnt (ors acc ms) = cnt acc + sumC ms ↔ (∀ m ∈ ms, Dj acc m) ∧ ms.Pairwise Dj)
  | [], acc => ⟨Nat.le_refl _, fun _ => ⟨fun m hm => (by cases hm), .nil⟩, fun _ => rfl⟩
  | m :: ms, acc => by
    obtain ⟨h1, h2⟩ := ors_cnt ms (acc ||| m)
    have h3 : cnt (acc ||| m) + cnt (acc &&& m) = cnt acc + cnt m := cnt_or acc m 32
    have e1 : ors acc (m :: ms) = ors (acc ||| m) ms := rfl
    have e2 : sumC (m :: ms) = cnt m + sumC ms := rfl
    rw [e1, e2, List.pairwise_cons]
    refine ⟨by omega, ?_⟩
    constructor
    · intro h
      obtain ⟨g1, g2⟩ := h2.1 (by omega)
      have g3 := (dj_and acc m).1 (by omega)
      refine ⟨fun x hx => ?_, fun x hx => ((dj_or acc m x).1 (g1 x hx)).2, g2⟩
      rcases List.mem_cons.1 hx with rfl | hx
      · exact g3
      · exact ((dj_or acc m x).1 (g1 x hx)).1
    · rintro ⟨g1, g2, g3⟩
      have h4 := (dj_and acc m).2 (g1 m (List.mem_cons_self ..))
      have h5 := h2.2 ⟨fun x hx => (dj_or acc m x).2 ⟨g1 x (List.mem_cons_of_mem _ hx), g2 x hx⟩, g3⟩
      omega
theorem bit_lo {m : Int} {k : Nat} (hk : k < 32) : bitB m k = (lo m).testBit k := by rw [Poo.lo_bit m hk, Pla.bitB_mod]

/-! ### Boxes -/

/-- It runs at a tick. -/
structure At (now : Int) (j : Jb) : Prop where
  good : goodB j.start 0 j.wall 1 = true
  here : j.start ≤ now ∧ now < j.start + j.wall
  mask : 0 ≤ j.mask ∧ j.mask < 4294967296
  nodes : (cnt (lo j.mask) : Int) = j.nodes
  run : runB j = true
theorem rows_at {now : Int} {j : Jb} (h : At now j) : rowsL j.start j.wall j.mask = boxesOf j.start j.wall (runs (bitB j.mask) 32) := by unfold rowsL; rw [if_pos h.good]
theorem meet_at {now : Int} {a b : Jb} (ha : At now a) (hb : At now b) : (∀ x ∈ rowsL a.start a.wall a.mask, ∀ y ∈ rowsL b.start b.wall b.mask, x.meets y = false) ↔ Dj (lo a.mask) (lo b.mask) := by
  rw [rows_at ha, rows_at hb]
  have hr := goodB_iff.1 ha.good
  have hr' := goodB_iff.1 hb.good
  have hc := chain_runs (bitB a.mask) 32
  have hc' := chain_runs (bitB b.mask) 32
  have t1 := ha.here
  have t2 := hb.here
  constructor
  · rintro h i hi ⟨hm, ho⟩
    rw [← bit_lo hi] at hm ho
    obtain ⟨r, hr1, r2, r3⟩ := chain_has hc i (by omega) hi hm
    obtain ⟨s, hs1, s2, s3⟩ := chain_has hc' i (by omega) hi ho
    obtain ⟨_, a2, a3, a4⟩ := chain_mem hc r hr1
    obtain ⟨_, b2, b3, b4⟩ := chain_mem hc' s hs1
    have := h _ (List.mem_map.2 ⟨r, hr1, rfl⟩) _ (List.mem_map.2 ⟨s, hs1, rfl⟩)
    unfold Bx.meets meetsB at this
    simp only at this
    rw [good_run hr.1 hr.2.1 hr.2.2.1 hr.2.2.2.1 a2 a3, good_run hr'.1 hr'.2.1 hr'.2.2.1 hr'.2.2.2.1 b2 b3, Bool.true_and, Bool.true_and, Bool.eq_false_iff] at this
    exact this (crossB_iff.2 (by omega))
  · intro h x hx y hy
    rw [Bool.eq_false_iff]
    intro hm
    unfold boxesOf at hx hy
    obtain ⟨r, hr1, rfl⟩ := List.mem_map.1 hx
    obtain ⟨s, hs1, rfl⟩ := List.mem_map.1 hy
    obtain ⟨_, a2, a3, a4⟩ := chain_mem hc r hr1
    obtain ⟨_, b2, b3, b4⟩ := chain_mem hc' s hs1
    unfold Bx.meets meetsB at hm
    rw [Bool.and_eq_true] at hm
    have hx := crossB_iff.1 hm.2
    simp only at hx
    by_cases hle : r.1 ≤ s.1
    · exact h s.1 (by omega) ⟨by rw [← bit_lo (by omega)]; exact a4 s.1 hle (by omega), by rw [← bit_lo (by omega)]; exact b4 s.1 (Nat.le_refl _) (by omega)⟩
    · exact h r.1 (by omega) ⟨by rw [← bit_lo (by omega)]; exact a4 r.1 (Nat.le_refl _) (by omega), by rw [← bit_lo (by omega)]; exact b4 r.1 (by omega) (by omega)⟩
theorem apart_pair {L : List Bx} : apartB L = true ↔ (∀ x ∈ L, x.good = true) ∧ L.Pairwise fun x y => x.meets y = false := by
  rw [apartB_iff, List.pairwise_iff_getElem]
  constructor
  · intro h
    refine ⟨fun x hx => ?_, fun i j hi hj hij => (h j hj hj).2 i hij⟩
    obtain ⟨i, hi, rfl⟩ := List.getElem_of_mem hx
    exact (h i hi hi).1
  · rintro ⟨h1, h2⟩ i hi _
    exact ⟨h1 _ (List.getElem_mem hi), fun j hj => h2 j i (by omega) hi hj⟩
theorem apart_at {now : Int} {l : List Jb} (h : ∀ j ∈ l, At now j) : apartB (boxesL l) = true ↔ l.Pairwise fun a b => Dj (lo a.mask) (lo b.mask) := by
  have hf : l.filter runB = l := List.filter_eq_self.2 fun j hj => (h j hj).run
  have hin : ∀ j ∈ l, (∀ x ∈ rowsL j.start j.wall j.mask, x.good = true) ∧ (rowsL j.start j.wall j.mask).Pairwise fun x y => x.meets y = false := by
    intro j hj
    rw [rows_at (h j hj)]
    exact apart_pair.1 (apart_rows (h j hj).good)
  unfold boxesL
  rw [hf, apart_pair, List.pairwise_flatMap]
  have key : l.Pairwise (fun a b => ∀ x ∈ rowsL a.start a.wall a.mask, ∀ y ∈ rowsL b.start b.wall b.mask, x.meets y = false) ↔ l.Pairwise fun a b => Dj (lo a.mask) (lo b.mask) :=
    List.Pairwise.iff_of_mem fun {a b} ha hb => meet_at (h a ha) (h b hb)
  rw [key]
  constructor
  · rintro ⟨-, -, h3⟩; exact h3
  · intro h3
    refine ⟨fun x hx => ?_, fun j hj => (hin j hj).2, h3⟩
    obtain ⟨j, hj, hxj⟩ := List.mem_flatMap.1 hx
    exact (hin j hj).1 x hxj

/-! ### What the law counts -/

def sumN (l : List Jb) : Int := (l.map (·.nodes)).sum
theorem sum_at {now : Int} : ∀ {l : List Jb}, (∀ j ∈ l, At now j) → ((sumC (l.map fun j => lo j.mask) : Nat) : Int) = sumN l
  | [], _ => rfl
  | j :: l, h => by
    have ih := sum_at (l := l) fun x hx => h x (List.mem_cons_of_mem _ hx)
    have h1 := (h j (List.mem_cons_self ..)).nodes
    have e1 : sumC ((j :: l).map fun j => lo j.mask) = cnt (lo j.mask) + sumC (l.map fun j => lo j.mask) := rfl
    have e2 : sumN (j :: l) = j.nodes + sumN l := by unfold sumN; rw [List.map_cons, List.sum_cons]
    rw [e1, e2]
    push_cast
    omega
/-- THE LAW. -/
theorem apart_count {now : Int} {l : List Jb} (h : ∀ j ∈ l, At now j) : apartB (boxesL l) = decide (((cnt (ors 0 (l.map fun j => lo j.mask)) : Nat) : Int) = sumN l) := by
  rw [Bool.eq_iff_iff, decide_eq_true_iff, apart_at h, ← sum_at h]
  obtain ⟨-, h2⟩ := ors_cnt (l.map fun j => lo j.mask) 0
  have h0 : cnt 0 = 0 := (cnt_none 0 32).2 fun i _ => Nat.zero_testBit i
  rw [h0, Nat.zero_add, List.pairwise_map] at h2
  constructor
  · intro hp
    have := h2.2 ⟨fun m _ i _ hb => by rw [Nat.zero_testBit] at hb; exact absurd hb.1 (by decide), hp⟩
    omega
  · intro he
    exact (h2.1 (by omega)).2
end Go.Proofs.Ytcndihekpdebhaa.Job
/- Job: JobApart, over any jobs that do as they should, and any plane whose Apart does. -/
namespace Go.Proofs.Ytcndihekpdebhaa.Job
set_option maxRecDepth 100000
open Go.RowKit
open Go.Sort
open Kit
open Tre (Lst inI lst_keep lst_take lst_at lst_new lst_none NewI below_drewN' )
open Pla (Bx rowsL apartB goodB_iff)
open Bxm (Bxs)
open Poo (cnt cntTo lo)
open Go.Proofs.Ytcndihekpdebhaa.Ord (ts)
set_option linter.unusedVariables false
variable {w w' : World}

def selB (now : Int) (j : Jb) : Bool := goodJ j && decide (j.state = 3 ∧ j.start ≤ now ∧ j.start + j.wall > now)
theorem sel_at {now : Int} {j : Jb} (h : selB now j = true) : At now j ∧ (1 ≤ j.nodes ∧ j.nodes ≤ 32) := by
  unfold selB at h
  rw [Bool.and_eq_true, decide_eq_true_iff] at h
  obtain ⟨hg, h3, h1, h2⟩ := h
  unfold goodJ at hg
  rw [Bool.and_eq_true, decide_eq_true_iff, if_neg (by omega), if_pos h3, Bool.and_eq_true, Bool.and_eq_true, decide_eq_true_iff, decide_eq_true_iff] at hg
  obtain ⟨g1, ⟨g2, -⟩, g3⟩ := hg
  exact ⟨⟨goodB_iff.2 (by omega), ⟨h1, h2⟩, ⟨g3.1, g3.2.1⟩, g3.2.2.1, by unfold runB; rw [h3]; rfl⟩, by omega⟩
theorem good_times {j : Jb} (h : goodJ j = true) (h3 : j.state = 3) : (0 ≤ j.start ∧ j.start ≤ 1099511627776) ∧ 1 ≤ j.wall ∧ j.wall ≤ 1048576 := by
  unfold goodJ at h
  rw [Bool.and_eq_true, decide_eq_true_iff, if_neg (by omega), if_pos h3, Bool.and_eq_true, Bool.and_eq_true, decide_eq_true_iff, decide_eq_true_iff] at h
  obtain ⟨g1, ⟨g2, -⟩, g3⟩ := h
  omega
def selV (now : Int) (l : List Jv) : List Jv := l.filter fun x => selB now x.t
def maskN (l : List Jv) : Nat := ors 0 (l.map fun x => lo x.t.mask)
theorem maskN_snoc (l : List Jv) (x : Jv) : maskN (l ++ [x]) = maskN l ||| lo x.t.mask := by
  unfold maskN ors
  rw [List.map_append, List.foldl_append]; rfl
theorem maskN_lt : ∀ l : List Jv, maskN l < 4294967296 := by
  intro l
  have key : ∀ (ms : List Nat) (acc : Nat), acc < 4294967296 → (∀ m ∈ ms, m < 4294967296) → ors acc ms < 4294967296 := by
    intro ms
    induction ms with
    | nil => intro acc h _; exact h
    | cons m ms ih =>
      intro acc h hm
      exact ih (acc ||| m) (Nat.or_lt_two_pow (n := 32) h (hm m (List.mem_cons_self ..))) fun y hy => hm y (List.mem_cons_of_mem _ hy)
  exact key _ 0 (by omega) fun m hm => by
    obtain ⟨x, -, rfl⟩ := List.mem_map.1 hm
    exact Poo.lo_lt _
theorem sumN_snoc (l : List Jb) (x : Jb) : sumN (l ++ [x]) = sumN l + x.nodes := by
  unfold sumN
  rw [List.map_append, List.sum_append]; simp
/-- What the plane's Apart must do. -/
def ApartDoes : Prop := ∀ (W : World) (a : Option Addr) (n c : Nat) (l : List Bx), Bxs W a n c l → (∀ x ∈ l, x.wide) →
  Calls Try.prog 22 #[.slice a n c] W fun e W' => e = .returned (.bool (apartB l)) ∧ Below W.heap.size W W'
theorem sel_take {now : Int} {l : List Jv} {k : Nat} {x : Jv} (h : l[k]? = some x) : selV now (l.take (k + 1)) = if selB now x.t = true then selV now (l.take k) ++ [x] else selV now (l.take k) := filter_take _ h
theorem sum_may {now : Int} : ∀ {l : List Jv}, (∀ x ∈ l, selB now x.t = true) → 0 ≤ sumN (ts l) ∧ sumN (ts l) ≤ 32 * l.length
  | [], _ => ⟨Int.le_refl _, Int.le_refl _⟩
  | x :: l, h => by
    have ih := sum_may (l := l) fun y hy => h y (List.mem_cons_of_mem _ hy)
    have h1 := (sel_at (h x (List.mem_cons_self ..))).2
    have e : sumN (ts (x :: l)) = x.t.nodes + sumN (ts l) := by unfold sumN ts; rw [List.map_cons, List.map_cons, List.sum_cons]
    rw [e, List.length_cons]
    omega
theorem andOne (x : Int) : bits BinOp.and IntKind.i64 x 1 = x % 2 := by
  unfold bits
  have h1 : BitVec.ofInt IntKind.i64.bits 1 = 1#64 := rfl
  have h2 : ((BitVec.ofInt 64 x &&& 1#64).toNat : Int) = x % 2 := by
    rw [BitVec.toNat_and, BitVec.toNat_ofInt, show (1#64 : BitVec 64).toNat = 1 from rfl, Nat.and_one_is_mod]
    omega
  show IntKind.i64.wrap _ = _
  rw [h1]
  show IntKind.i64.wrap (((BitVec.ofInt 64 x &&& 1#64).toNat : Nat) : Int) = _
  rw [h2]
  have : 0 ≤ x % 2 ∧ x % 2 < 2 := by omega
  generalize x % 2 = y at this
  simp [IntKind.wrap_i64]
  omega
theorem bit_at {A k : Nat} (hA : A < 4294967296) (hk : k < 32) : bits BinOp.and IntKind.i64 ((A : Int) / 2 ^ k) 1 = ((if A.testBit k = true then 1 else 0 : Nat) : Int) := by
  have h := Poo.lo_bit (A : Int) hk
  rw [Poo.lo_nat hA] at h
  rw [andOne, h]
  by_cases e : (A : Int) / 2 ^ k % 2 = 1
  · rw [e]; simp
  · rw [show (A : Int) / 2 ^ k % 2 = 0 by omega]; simp
theorem maskL_sel {now : Int} {l : List Jv} (h : ∀ x ∈ l, selB now x.t = true) : maskL (ts l) = ((maskN l : Nat) : Int) := by
  have key : ∀ (l : List Jv) (acc : Nat), acc < 4294967296 → (∀ x ∈ l, selB now x.t = true) → (ts l).foldl maskS (acc : Int) = ((ors acc (l.map fun x => lo x.t.mask) : Nat) : Int) := by
    intro l
    induction l with
    | nil => intro acc _ _; rfl
    | cons x l ih =>
      intro acc ha hs
      have hx := (sel_at (hs x (List.mem_cons_self ..))).1
      have e : maskS (acc : Int) x.t = ((acc ||| lo x.t.mask : Nat) : Int) := by
        unfold maskS orW
        rw [if_pos hx.run]
        have e9 : x.t.mask = ((lo x.t.mask : Nat) : Int) := by have := hx.mask; unfold lo; omega
        have h := Poo.or64 ha (Poo.lo_lt x.t.mask)
        rwa [← e9] at h
      show (ts l).foldl maskS (maskS (acc : Int) x.t) = _
      rw [e, ih (acc ||| lo x.t.mask) (Nat.or_lt_two_pow (n := 32) ha (Poo.lo_lt _)) fun y hy => hs y (List.mem_cons_of_mem _ hy)]
      rfl
  exact key l 0 (by omega) h
theorem due_none {now : Int} {l : List Jv} (h : ∀ x ∈ l, selB now x.t = true) : dueL now (ts l) = [] := by
  unfold dueL
  rw [List.map_eq_nil_iff, List.eq_nil_iff_forall_not_mem]
  intro m hm
  obtain ⟨t, ht, -, he⟩ := due_mem.1 hm
  have := List.mem_of_getElem? ht
  unfold ts at this
  obtain ⟨x, hx, rfl⟩ := List.mem_map.1 this
  have h2 := (sel_at (h x hx)).1.here.2
  unfold endJ at he
  omega
theorem at_all {now : Int} {l : List Jv} (h : ∀ x ∈ l, selB now x.t = true) : ∀ j ∈ ts l, At now j := by
  intro j hj
  unfold ts at hj
  obtain ⟨x, hx, rfl⟩ := List.mem_map.1 hj
  exact (sel_at (h x hx)).1
theorem wide_at {now : Int} {l : List Jb} (h : ∀ j ∈ l, At now j) : ∀ x ∈ boxesL l, x.wide := by
  intro x hx
  unfold boxesL at hx
  obtain ⟨j, hj, hxj⟩ := List.mem_flatMap.1 hx
  have hj := h j (List.mem_filter.1 hj).1
  rw [rows_at hj] at hxj
  have hg := (apart_pair.1 (Pla.apart_rows (mask := j.mask) hj.good)).1 x hxj
  unfold Bx.good at hg
  have := goodB_iff.1 hg
  unfold Bx.wide Pla.Wide
  omega
theorem maskN_ts (l : List Jv) : maskN l = ors 0 ((ts l).map fun j => lo j.mask) := by unfold maskN ts; rw [List.map_map]; rfl
set_option maxHeartbeats 16000000 in
theorem apartJ_any (hP : Prog) (hA : ApartDoes) (W : World) (a : Option Addr) (n c : Nat) (l : List Jv) (now : Int) (hn : 0 ≤ now ∧ now ≤ 65535) (hJ : Jobs W a n c l) (hin : ∀ x ∈ l, x.In W) (hok : ∀ x ∈ l, x.t.ok) :
    Calls Try.prog 4 #[.slice a n c, .int .u16 now] W fun e W' => e = .returned (.bool true) ∧ Below W.heap.size W W' := by
  have hm1 : n ≤ 9223372036854775807 := by have := hJ.cap; have := hJ.max; unfold maxLen at this; omega
  have HP := Lib.hid hP
  have HAp := Lib.hid hA
  have HL := Lib.hid (And.intro hJ (And.intro hJ.len (And.intro hin hok)))
  have HEm := Lib.hid (And.intro (own_emptyJ W W.heap.size (Nat.le_refl _)) (below_alloc W (.cells #[] 40)))
  obtain ⟨n0, n1⟩ := hn
  clear hP hA hJ hin hok
  go_enter Try.func4, Try.ntmps4
  go_wp2_with fail
  go_loopw [5, 6, 7, 8] (fun v av sv iv wr => ∃ k : Nat, k ≤ n ∧ k ≤ 16 ∧ iv = .int .i64 (k : Nat) ∧ OwJ wr W.heap.size v (selV now (l.take k)) ∧ av = .int .i64 (maskN (selV now (l.take k)) : Nat) ∧ sv = .int .i64 (sumN (ts (selV now (l.take k)))) ∧ Below W.heap.size W wr) (fun _ _ _ iv _ => n - (intOf iv).toNat)
  case atStart => exact ⟨0, Nat.zero_le _, by omega, rfl, HEm.out.1, rfl, rfl, HEm.out.2⟩
  case round =>
    obtain ⟨k, hk, hk16, rfl, hown, rfl, rfl, hb⟩ := hrel
    have HO := Lib.hid (And.intro hown hb)
    clear hown hb
    by_cases hlt : k < n ∧ k < 16
    · obtain ⟨hlt, hl16⟩ := hlt
      have hlti : (k : Int) < (n : Int) := by omega
      have hl2i : (k : Int) < 16 := by omega
      have hkl : k < l.length := by rw [HL.out.2.1]; exact hlt
      obtain ⟨x, hx⟩ : ∃ x, l[k]? = some x := ⟨_, List.getElem?_eq_getElem hkl⟩
      obtain ⟨b, o, rfl⟩ := lst_at HL.out.1 (by omega)
      have HRx := Lib.hid (job_range (lst_keep encJ_len HL.out.1 HO.out.2) hx)
      have HXi := Lib.hid (And.intro (HL.out.2.2.1 x (List.mem_of_getElem? hx)) (HL.out.2.2.2 x (List.mem_of_getElem? hx)))
      have hst := sel_take (now := now) hx
      have hlo : (selV now (l.take k)).length ≤ 16 := by
        have h1 := List.length_filter_le (fun x : Jv => selB now x.t) (l.take k)
        rw [List.length_take] at h1
        unfold selV; omega
      have hsn : 0 ≤ sumN (ts (selV now (l.take k))) ∧ sumN (ts (selV now (l.take k))) ≤ 512 := by
        have h1 := sum_may (now := now) (l := selV now (l.take k)) fun x hx => by unfold selV at hx; exact (List.mem_filter.1 hx).2
        omega
      obtain ⟨out, hout⟩ : ∃ v, v = selV now (l.take k) := ⟨_, rfl⟩
      rw [← hout] at HO hst hlo hsn ⊢
      have hml := maskN_lt out
      obtain ⟨al, hal⟩ : ∃ v, v = maskN out := ⟨_, rfl⟩
      obtain ⟨sm, hsm⟩ : ∃ v, v = sumN (ts out) := ⟨_, rfl⟩
      rw [← hal] at hml ⊢
      rw [← hsm] at hsn ⊢
      have HAl := Lib.hid (And.intro hal hsm)
      have HSt := Lib.hid hst
      obtain ⟨sn0, sn1⟩ := hsn
      clear hout hx hkl hst hal hsm
      obtain ⟨⟨x0, x1, x2, x3, x4, x5, x6, x7, x8, x9, x10, xd⟩, xa, xn, xc⟩ := x
      go_upto_region 7 with (first | (refine wpList_load_mid rfl 40 (.tmp 25) rfl b (o + k * 12) rfl (encJ (⟨⟨x0, x1, x2, x3, x4, x5, x6, x7, x8, x9, x10, xd⟩, xa, xn, xc⟩ : Jv)) _ HRx.out Try.underlying40 rfl info_job12 ?_) | (refine Arr.wpList_store_blk rfl 40 (.tmp 9) (.tmp 26) rfl wr.heap.size (encJ (⟨⟨x0, x1, x2, x3, x4, x5, x6, x7, x8, x9, x10, xd⟩, xa, xn, xc⟩ : Jv)) rfl rfl zeroJ 40 (Arr.blk_new _ _ _ zeroJ rfl) info_job12 rfl (one12L' (⟨⟨x0, x1, x2, x3, x4, x5, x6, x7, x8, x9, x10, xd⟩, xa, xn, xc⟩ : Jv)) wr.heap.size (Nat.le_refl _) ?_; intro w2 hblk hbel; have HW2 := Lib.hid (And.intro hblk ((below_alloc wr (.cells zeroJ.toArray 40)).trans hbel)); have p0 := Arr.blk_cell hblk 0; have p1 := Arr.blk_cell hblk 1; have p2 := Arr.blk_cell hblk 2; have p3 := Arr.blk_cell hblk 3; have p4 := Arr.blk_cell hblk 4; have p5 := Arr.blk_cell hblk 5; have p6 := Arr.blk_cell hblk 6; have p7 := Arr.blk_cell hblk 7; have p8 := Arr.blk_cell hblk 8; have p9 := Arr.blk_cell hblk 9; have p10 := Arr.blk_cell hblk 10; have p11 := Arr.blk_cell hblk 11; simp only [encJ, List.getElem?_cons_zero, List.getElem?_cons_succ] at p0 p1 p2 p3 p4 p5 p6 p7 p8 p9 p10 p11; clear hbel hblk) | fail)
      have HG := Lib.hid (HP.out.good w2 (⟨⟨x0, x1, x2, x3, x4, x5, x6, x7, x8, x9, x10, xd⟩, xa, xn, xc⟩ : Jv) (job_keep HXi.out.1 (below_keep HO.out.2 HW2.out.2)) HXi.out.2)
      go_wp2_with fail
      refine HG.out.mono ?_
      rintro e w3 ⟨rfl, hb3⟩
      have HW3 := Lib.hid (And.intro (Arr.blk_below HW2.out.1 hb3 (Arr.blk_lt HW2.out.1)) (below_keep HW2.out.2 hb3))
      clear p0 p1 p2 p3 p4 p5 p6 p7 p8 p9 p10 p11 hb3 HG HRx HW2
      have HO3 := Lib.hid (And.intro (Nest.own_on HO.out.1 HW3.out.2) (below_keep HO.out.2 HW3.out.2))
      have p0 := Arr.blk_cell HW3.out.1 0
      have p1 := Arr.blk_cell HW3.out.1 1
      have p2 := Arr.blk_cell HW3.out.1 2
      have p3 := Arr.blk_cell HW3.out.1 3
      have p4 := Arr.blk_cell HW3.out.1 4
      have p5 := Arr.blk_cell HW3.out.1 5
      have p6 := Arr.blk_cell HW3.out.1 6
      have p7 := Arr.blk_cell HW3.out.1 7
      have p8 := Arr.blk_cell HW3.out.1 8
      have p9 := Arr.blk_cell HW3.out.1 9
      have p10 := Arr.blk_cell HW3.out.1 10
      have p11 := Arr.blk_cell HW3.out.1 11
      simp only [encJ, List.getElem?_cons_zero, List.getElem?_cons_succ] at p0 p1 p2 p3 p4 p5 p6 p7 p8 p9 p10 p11
      have HSd := Lib.hid (show selB now (⟨x0, x1, x2, x3, x4, x5, x6, x7, x8, x9, x10, xd⟩ : Jb) = (goodJ ⟨x0, x1, x2, x3, x4, x5, x6, x7, x8, x9, x10, xd⟩ && decide (x7 = 3 ∧ x8 ≤ now ∧ x8 + x3 > now)) from rfl)
      obtain ⟨gd, hgd⟩ : ∃ g, g = goodJ (⟨x0, x1, x2, x3, x4, x5, x6, x7, x8, x9, x10, xd⟩ : Jb) := ⟨_, rfl⟩
      rw [show goodJ ((⟨⟨x0, x1, x2, x3, x4, x5, x6, x7, x8, x9, x10, xd⟩, xa, xn, xc⟩ : Jv)).t = gd from hgd.symm]
      rw [← hgd] at HSd
      have HGd := Lib.hid hgd
      clear hgd
      cases gd
      · skip
        have hsel : selB now (⟨x0, x1, x2, x3, x4, x5, x6, x7, x8, x9, x10, xd⟩ : Jb) = false := by rw [HSd.out]; first | rfl | (rw [decide_eq_false (by omega)]; rfl)
        have HN := Lib.hid (show selV now (l.take (k + 1)) = out by rw [HSt.out]; exact if_neg fun e => by have h := hsel.symm.trans e; cases h)
        clear hsel
        go_wp2_with fail
        go_roundw
        case rel => exact ⟨k + 1, by omega, by omega, by go_num, by rw [HN.out]; exact HO3.out.1, by rw [HN.out, ← HAl.out.1], by rw [HN.out, ← HAl.out.2], HO3.out.2⟩
        case measure => simp [intOf]; omega
      · by_cases h3 : x7 = 3
        · obtain ⟨⟨g0, g1⟩, g2, g3⟩ := good_times (j := ⟨x0, x1, x2, x3, x4, x5, x6, x7, x8, x9, x10, xd⟩) HGd.out.symm h3
          simp only at g0 g1 g2 g3
          subst h3
          by_cases h4 : x8 ≤ now
          · by_cases h5 : x8 + x3 > now
            · have hsel : selB now (⟨x0, x1, x2, x3, x4, x5, x6, 3, x8, x9, x10, xd⟩ : Jb) = true := by rw [HSd.out, decide_eq_true (by omega)]; rfl
              have HAt := Lib.hid (sel_at hsel)
              have HN := Lib.hid (show selV now (l.take (k + 1)) = out ++ [(⟨⟨x0, x1, x2, x3, x4, x5, x6, 3, x8, x9, x10, xd⟩, xa, xn, xc⟩ : Jv)] by rw [HSt.out]; exact if_pos hsel)
              have hmk := HAt.out.1.mask
              obtain ⟨hn0, hn1⟩ := HAt.out.2
              simp only at hmk hn0 hn1
              have HOr := Lib.hid (show bits BinOp.or IntKind.i64 (al : Int) x9 = ((maskN (out ++ [(⟨⟨x0, x1, x2, x3, x4, x5, x6, 3, x8, x9, x10, xd⟩, xa, xn, xc⟩ : Jv)]) : Nat) : Int) by
                rw [maskN_snoc, ← HAl.out.1]
                have e9 : x9 = ((lo x9 : Nat) : Int) := by unfold lo; omega
                have h := Poo.or64 hml (Poo.lo_lt x9)
                rwa [← e9] at h)
              have HSm := Lib.hid (show sm + x2 = sumN (ts (out ++ [(⟨⟨x0, x1, x2, x3, x4, x5, x6, 3, x8, x9, x10, xd⟩, xa, xn, xc⟩ : Jv)])) by
                unfold ts
                rw [List.map_append, List.map_cons, List.map_nil, sumN_snoc, HAl.out.2]; rfl)
              have HA1 := Lib.hid (owns_alloc HO3.out.1 (.cells #[.int .i64 x0, .int .i64 x1, .int .i64 x2, .int .i64 x3, .int .i64 x4, .int .i64 x5, .int .i64 x6, .int .i64 3, .int .i64 x8, .int .i64 x9, .int .i64 x10, .slice xa xn xc] 40))
              have HA2 := Lib.hid (lst_new encJ_len w3 [(⟨⟨x0, x1, x2, x3, x4, x5, x6, 3, x8, x9, x10, xd⟩, xa, xn, xc⟩ : Jv)] #[.int .i64 x0, .int .i64 x1, .int .i64 x2, .int .i64 x3, .int .i64 x4, .int .i64 x5, .int .i64 x6, .int .i64 3, .int .i64 x8, .int .i64 x9, .int .i64 x10, .slice xa xn xc] 40 _ 1 rfl rfl rfl (by omega)).row
              have HA3 := Lib.hid (HO3.out.2.alloc HO3.out.2.size (.cells #[.int .i64 x0, .int .i64 x1, .int .i64 x2, .int .i64 x3, .int .i64 x4, .int .i64 x5, .int .i64 x6, .int .i64 3, .int .i64 x8, .int .i64 x9, .int .i64 x10, .slice xa xn xc] 40))
              have HDL := Lib.hid (show out.length + 1 ≤ maxLen ∧ (out.length + 1) * 112 ≤ 140737488355328 by unfold maxLen; omega)
              have HBk := Lib.hid (Arr.blk_alloc HW3.out.1 (.cells #[.int .i64 x0, .int .i64 x1, .int .i64 x2, .int .i64 x3, .int .i64 x4, .int .i64 x5, .int .i64 x6, .int .i64 3, .int .i64 x8, .int .i64 x9, .int .i64 x10, .slice xa xn xc] 40))
              clear hsel hmk
              go_wp2_with (first | (at_builtin; refine Two.append_apart encJ_len (by omega) encJ_one rfl (.tmp 51) (.tmp 53) 22 40 rfl Try.underlying22 (.agg zeroJ.toArray) 112 info_jobs rfl W.heap.size _ out rfl HA1.out (some ⟨w3.heap.size, 0, none⟩) 1 1 [(⟨⟨x0, x1, x2, x3, x4, x5, x6, 3, x8, x9, x10, xd⟩, xa, xn, xc⟩ : Jv)] rfl rfl HA2.out (fun h => by cases h) HDL.out.1 HDL.out.2 HA3.out.size ?_; intro v8 w8 ho8 hg8 hx8; have HO8 := Lib.hid (And.intro ho8 (HA3.out.trans (Two.below_grown HA1.out hg8 HA3.out.size))); have hbk8 := Foot.blk_chg (Foot.grown_chg hg8) HBk.out (fun e => absurd (World.ownsRow.lt HO.out.1 _ e.symm).2 (Nat.lt_irrefl _)); clear p0 p1 p2 p3 p4 p5 p6 p7 p8 p9 p10 p11; have p0 := Arr.blk_cell hbk8 0; have p1 := Arr.blk_cell hbk8 1; have p2 := Arr.blk_cell hbk8 2; have p3 := Arr.blk_cell hbk8 3; have p4 := Arr.blk_cell hbk8 4; have p5 := Arr.blk_cell hbk8 5; have p6 := Arr.blk_cell hbk8 6; have p7 := Arr.blk_cell hbk8 7; have p8 := Arr.blk_cell hbk8 8; have p9 := Arr.blk_cell hbk8 9; have p10 := Arr.blk_cell hbk8 10; have p11 := Arr.blk_cell hbk8 11; simp only [encJ, List.getElem?_cons_zero, List.getElem?_cons_succ] at p0 p1 p2 p3 p4 p5 p6 p7 p8 p9 p10 p11; clear ho8 hg8 hx8 hbk8) | fail)
              go_quiet (fail)
              go_wp2_with fail
              go_roundw
              case rel => exact ⟨k + 1, by omega, by omega, by go_num, by rw [HN.out]; exact Nest.own_on HO8.out.1 (below_drewN' _ _), by rw [HN.out, ← HOr.out]; try rfl, by rw [HN.out, ← HSm.out]; try rfl, below_keep HO8.out.2 (below_drewN' _ _)⟩
              case measure => simp [intOf]; omega
            · skip
              have hsel : selB now (⟨x0, x1, x2, x3, x4, x5, x6, 3, x8, x9, x10, xd⟩ : Jb) = false := by rw [HSd.out]; first | rfl | (rw [decide_eq_false (by omega)]; rfl)
              have HN := Lib.hid (show selV now (l.take (k + 1)) = out by rw [HSt.out]; exact if_neg fun e => by have h := hsel.symm.trans e; cases h)
              clear hsel
              go_wp2_with fail
              go_roundw
              case rel => exact ⟨k + 1, by omega, by omega, by go_num, by rw [HN.out]; exact HO3.out.1, by rw [HN.out, ← HAl.out.1], by rw [HN.out, ← HAl.out.2], HO3.out.2⟩
              case measure => simp [intOf]; omega
          · skip
            have hsel : selB now (⟨x0, x1, x2, x3, x4, x5, x6, 3, x8, x9, x10, xd⟩ : Jb) = false := by rw [HSd.out]; first | rfl | (rw [decide_eq_false (by omega)]; rfl)
            have HN := Lib.hid (show selV now (l.take (k + 1)) = out by rw [HSt.out]; exact if_neg fun e => by have h := hsel.symm.trans e; cases h)
            clear hsel
            go_wp2_with fail
            go_roundw
            case rel => exact ⟨k + 1, by omega, by omega, by go_num, by rw [HN.out]; exact HO3.out.1, by rw [HN.out, ← HAl.out.1], by rw [HN.out, ← HAl.out.2], HO3.out.2⟩
            case measure => simp [intOf]; omega
        · have hne : (x7 == 3) = false := beq_false_of_ne h3
          have hsel : selB now (⟨x0, x1, x2, x3, x4, x5, x6, x7, x8, x9, x10, xd⟩ : Jb) = false := by rw [HSd.out]; first | rfl | (rw [decide_eq_false (by omega)]; rfl)
          have HN := Lib.hid (show selV now (l.take (k + 1)) = out by rw [HSt.out]; exact if_neg fun e => by have h := hsel.symm.trans e; cases h)
          clear hsel
          go_wp2_with fail
          go_roundw
          case rel => exact ⟨k + 1, by omega, by omega, by go_num, by rw [HN.out]; exact HO3.out.1, by rw [HN.out, ← HAl.out.1], by rw [HN.out, ← HAl.out.2], HO3.out.2⟩
          case measure => simp [intOf]; omega
    · have hor : ¬ (k : Int) < (n : Int) ∨ ((k : Int) < (n : Int) ∧ ¬ (k : Int) < 16) := by omega
      have hsel : ∀ x ∈ selV now (l.take k), selB now x.t = true := fun x hx => by unfold selV at hx; exact (List.mem_filter.1 hx).2
      have hlo : (selV now (l.take k)).length ≤ 16 := by
        have h1 := List.length_filter_le (fun x : Jv => selB now x.t) (l.take k)
        rw [List.length_take] at h1
        unfold selV; omega
      obtain ⟨out, hout⟩ : ∃ v, v = selV now (l.take k) := ⟨_, rfl⟩
      rw [← hout] at HO hsel hlo ⊢
      have hal := maskN_lt out
      obtain ⟨al, hale⟩ : ∃ v, v = maskN out := ⟨_, rfl⟩
      obtain ⟨sm, hsme⟩ : ∃ v, v = sumN (ts out) := ⟨_, rfl⟩
      have HCt := Lib.hid (show apartB (boxesL (ts out)) = decide (((cnt al : Nat) : Int) = sm) by rw [hale, hsme, maskN_ts]; exact apart_count (at_all hsel))
      have HMk := Lib.hid (show maskL (ts out) = ((al : Nat) : Int) by rw [hale]; exact maskL_sel hsel)
      have HDu := Lib.hid (due_none hsel)
      have HWd := Lib.hid (wide_at (at_all hsel))
      have HOk := Lib.hid (show ∀ x ∈ out, okT x.t from fun x hx => by
        have h1 := (sel_at (hsel x hx)).1.good
        have h2 := goodB_iff.1 h1
        exact ⟨by omega, by omega⟩)
      rw [← hale, ← hsme]
      rw [← hale] at hal
      clear hlt hout hale hsme hsel
      obtain ⟨w1, rfl⟩ : ∃ x, x = wr := ⟨_, rfl⟩
      obtain ⟨a5, c5, hv5, hj5⟩ := own_jobs HO.out.1
      subst hv5
      obtain ⟨m, hm⟩ : ∃ m, m = out.length := ⟨_, rfl⟩
      rw [← hm] at hj5 hlo ⊢
      have H1 := Lib.hid (And.intro HO.out.2 hj5)
      clear hj5 hm HO
      have HTail := Lib.hid (show m ≤ 16 from hlo)
      rcases hor with ho | ⟨ho, ho2⟩
      all_goals
        go_wp2_with fail
        go_loopw [10, 11] (fun ov iv wq => ∃ j : Nat, j ≤ 32 ∧ iv = .int .i64 (j : Nat) ∧ ov = .int .i64 (cntTo al j : Nat) ∧ wq = w1) (fun _ iv _ => 32 - (intOf iv).toNat)
        case atStart => exact ⟨0, by omega, rfl, rfl, rfl⟩
        case round =>
          obtain ⟨j, hj, rfl, rfl, rfl⟩ := hrel
          obtain ⟨cj, hcj⟩ : ∃ c, c = cntTo al j := ⟨_, rfl⟩
          have hcl := Poo.cnt_le al j
          rw [← hcj] at hcl ⊢
          by_cases hlt : j < 32
          · obtain ⟨bt, hbt⟩ : ∃ b : Nat, b = if al.testBit j = true then 1 else 0 := ⟨_, rfl⟩
            have hb1 : bt ≤ 1 := by rw [hbt]; split <;> omega
            have hx := bit_at hal hlt
            rw [← hbt] at hx
            have HN := Lib.hid (show cntTo al (j + 1) = cj + bt by rw [cntTo, hcj, hbt])
            have hji : (j : Int) < 32 := by omega
            clear hbt hcj
            go_wp2_with fail
            go_roundw
            case rel => exact ⟨j + 1, by omega, by go_num, by rw [HN.out]; go_num, by first | rfl | trivial⟩
            case measure => simp [intOf]; omega
          · obtain rfl : j = 32 := by omega
            have hcn : cj = cnt al := hcj
            have HW := Lib.hid (awake_any HP.out wr)
            clear hcj hcl
            subst hcn
            go_wp2_with fail
            refine HW.out.mono ?_
            rintro e w2 ⟨rfl, hb⟩
            have H2 := Lib.hid (And.intro (below_keep H1.out.1 hb) (lst_keep encJ_len H1.out.2 hb))
            have HBo := Lib.hid (HP.out.boxes w2 a5 m c5 out H2.out.2 (by have := HTail.out; omega) HOk.out)
            clear hb HW H1
            go_wp2_with fail
            refine HBo.out.mono ?_
            rintro e w3 ⟨a6, c6, rfl, hx6, hb⟩
            have H3 := Lib.hid (And.intro (below_keep H2.out.1 hb) (lst_keep encJ_len H2.out.2 hb))
            have HPl := Lib.hid (HAp.out w3 a6 _ c6 _ hx6 HWd.out)
            clear hb hx6 HBo H2
            go_wp2_with fail
            refine HPl.out.mono ?_
            rw [HCt.out]
            rintro e w4 ⟨rfl, hb⟩
            have H4 := Lib.hid (And.intro (below_keep H3.out.1 hb) (lst_keep encJ_len H3.out.2 hb))
            have HMs := Lib.hid (HP.out.mask w4 a5 m c5 out H4.out.2 (by have := HTail.out; omega))
            clear hb HPl H3
            obtain ⟨cn, hcn⟩ : ∃ v, v = cnt al := ⟨_, rfl⟩
            rw [← hcn]
            have hcd : decide ((cn : Int) = sm) = true ∨ decide ((cn : Int) = sm) = false := by cases decide ((cn : Int) = sm) <;> simp
            clear hcn
            have HEq : ((cn : Int) = sm) ∨ ¬ ((cn : Int) = sm) := Classical.em _
            rcases HEq with he | he
            all_goals
              try have hbq : ((cn : Int) == sm) = false := beq_false_of_ne he
              go_wp2_with fail
              refine HMs.out.mono ?_
              rw [HMk.out]
              rintro e w5 ⟨rfl, hb⟩
              have H5 := Lib.hid (And.intro (below_keep H4.out.1 hb) (lst_keep encJ_len H4.out.2 hb))
              have HDe := Lib.hid (HP.out.due w5 a5 m c5 out now H5.out.2 (by have := HTail.out; omega) HOk.out)
              clear hb HMs H4
              go_wp2_with fail
              refine HDe.out.mono ?_
              rw [HDu.out]
              rintro e w6 ⟨v6, rfl, ⟨a7, c7, rfl, -, -⟩, hb⟩
              simp only [List.length_nil]
              have H6 := Lib.hid (below_keep H5.out.1 hb)
              clear hb HDe H5
              go_wp2_with fail
              go_ret
              exact ⟨by first | rfl | (simp [hbq]; done) | (show Ending.returned (Value.bool (!((cn : Int) == sm))) = _; rw [beq_false_of_ne he]; rfl), H6.out⟩
end Go.Proofs.Ytcndihekpdebhaa.Job
/- Plane: Meets. -/
namespace Go.Proofs.Ytcndihekpdebhaa.Pla
open Go.RowKit
open Go.Sort

theorem ahead_near (a b c d : Int) (w : World) (x : Bool) (h1 : Small a) (h2 : Small b) (h3 : c.natAbs < 9007199254740992) (h4 : d.natAbs < 9007199254740992) (hx : decide (a < c ∧ b < d) = x) :
    Calls Try.prog 57 #[.complex .f64 (Flo.near a) (Flo.near b), .complex .f64 (Flo.near c) (Flo.near d)] w fun e w' => e = .returned (.bool x) ∧ Below w.heap.size w w' := by
  unfold Small at h1 h2
  have h := ahead_any (Flo.near a) (Flo.near b) (Flo.near c) (Flo.near d) w
  rw [ltF_near (by omega) (by omega), ltF_near (by omega) (by omega)] at h
  rw [← hx, show decide (a < c ∧ b < d) = (decide (a < c) && decide (b < d)) by by_cases a < c <;> by_cases b < d <;> simp [*]]
  exact h.mono fun e w' ⟨h1, h2⟩ => ⟨h1, h2 ▸ Below.refl _ _⟩

set_option maxHeartbeats 1000000 in
theorem meets_any (t n l m t' n' l' m' : Int) (w : World) (ht : Wide t) (hn : Wide n) (hl : Wide l) (hm : Wide m) (ht' : Wide t') (hn' : Wide n') (hl' : Wide l') (hm' : Wide m') :
    Calls Try.prog 52 #[.agg #[.int .i64 t, .int .i64 n, .int .i64 l, .int .i64 m], .agg #[.int .i64 t', .int .i64 n', .int .i64 l', .int .i64 m']] w fun e w' => e = .returned (.bool (meetsB t n l m t' n' l' m')) ∧ Below w.heap.size w w' := by
  have W0 : ∀ W : World, W = (w.alloc (.cells #[.int .i64 t, .int .i64 n, .int .i64 l, .int .i64 m] 52)).alloc (.cells #[.int .i64 t', .int .i64 n', .int .i64 l', .int .i64 m'] 52) → Below w.heap.size w W ∧
      (∀ d os, (grow (redrawn W d) os).cell? ⟨w.heap.size, 0, none⟩ = some (.int .i64 t)) ∧ (∀ d os, (grow (redrawn W d) os).cell? ⟨w.heap.size, 1, none⟩ = some (.int .i64 n)) ∧ (∀ d os, (grow (redrawn W d) os).cell? ⟨w.heap.size, 2, none⟩ = some (.int .i64 l)) ∧ (∀ d os, (grow (redrawn W d) os).cell? ⟨w.heap.size, 3, none⟩ = some (.int .i64 m)) ∧
      (∀ d os, (grow (redrawn W d) os).cell? ⟨w.heap.size + 1, 0, none⟩ = some (.int .i64 t')) ∧ (∀ d os, (grow (redrawn W d) os).cell? ⟨w.heap.size + 1, 1, none⟩ = some (.int .i64 n')) ∧ (∀ d os, (grow (redrawn W d) os).cell? ⟨w.heap.size + 1, 2, none⟩ = some (.int .i64 l')) ∧ (∀ d os, (grow (redrawn W d) os).cell? ⟨w.heap.size + 1, 3, none⟩ = some (.int .i64 m')) := by
    rintro W rfl
    refine ⟨((Below.refl _ _).alloc (Nat.le_refl _) _).alloc (by simp) _, ?_, ?_, ?_, ?_, ?_, ?_, ?_, ?_⟩ <;> (intro d os; refine cell_regrown ?_ d os; simp [go_sem])
  obtain ⟨W, hW⟩ : ∃ W : World, W = (w.alloc (.cells #[.int .i64 t, .int .i64 n, .int .i64 l, .int .i64 m] 52)).alloc (.cells #[.int .i64 t', .int .i64 n', .int .i64 l', .int .i64 m'] 52) := ⟨_, rfl⟩
  obtain ⟨hB, k0, k1, k2, k3, k4, k5, k6, k7⟩ := W0 W hW
  clear W0
  have HW := Lib.hid hW
  have HB := Lib.hid hB
  clear hW hB
  have cGa := fun d os => Calls.regrown_of (w := W) (d := d) (os := os) (good_any t n l m _ ht hn hl hm)
  have cGb := fun d os => Calls.regrown_of (w := W) (d := d) (os := os) (good_any t' n' l' m' _ ht' hn' hl' hm')
  cases h1 : goodB t n l m with
  | false =>
    have H1 := Lib.hid (show false = meetsB t n l m t' n' l' m' by unfold meetsB; rw [h1]; rfl)
    rw [h1] at cGa
    clear h1
    go_enter Try.func52, Try.ntmps52
    go_wp2
    rw [← HW.out]
    refine wp_region_quiet_below (by kernel_rfl) (by kernel_rfl) ?_
    repeat (quiet_step (first | (with_reducible exact cGa _ _)))
    refine wpQuiet_nil ?_
    intro _ hw'
    obtain ⟨⟨dq, osq⟩, hw''⟩ := hw'
    subst hw''
    go_wp2
    go_ret
    exact ⟨ret_bool H1.out, below_keep HB.out (below_regrown W dq osq)⟩
  | true =>
    cases h2 : goodB t' n' l' m' with
    | false =>
      have H1 := Lib.hid (show false = meetsB t n l m t' n' l' m' by unfold meetsB; rw [h1, h2]; rfl)
      rw [h1] at cGa
      rw [h2] at cGb
      clear h1 h2
      go_enter Try.func52, Try.ntmps52
      go_wp2
      rw [← HW.out]
      refine wp_region_quiet_below (by kernel_rfl) (by kernel_rfl) ?_
      repeat (quiet_step (first | (with_reducible exact cGa _ _) | (with_reducible exact cGb _ _)))
      refine wpQuiet_nil ?_
      intro _ hw'
      obtain ⟨⟨dq, osq⟩, hw''⟩ := hw'
      subst hw''
      go_wp2
      go_ret
      exact ⟨ret_bool H1.out, below_keep HB.out (below_regrown W dq osq)⟩
    | true =>
      have r1 := goodB_iff.1 h1
      have r2 := goodB_iff.1 h2
      have s1 : Small t := by unfold Small; omega
      have s2 : Small n := by unfold Small; omega
      have s3 : Small l := by unfold Small; omega
      have s4 : Small m := by unfold Small; omega
      have s5 : Small t' := by unfold Small; omega
      have s6 : Small n' := by unfold Small; omega
      have s7 : Small l' := by unfold Small; omega
      have s8 : Small m' := by unfold Small; omega
      have H0 : meetsB t n l m t' n' l' m' = crossB t n l m t' n' l' m' := by unfold meetsB; rw [h1, h2]; rfl
      have cCa := fun d os => Calls.regrown_of (w := W) (d := d) (os := os) (corner_any t n l m _)
      have cCb := fun d os => Calls.regrown_of (w := W) (d := d) (os := os) (corner_any t' n' l' m' _)
      have cFa := fun d os => Calls.regrown_of (w := W) (d := d) (os := os) (far_any t n l m _ s1 s2 s3 s4)
      have cFb := fun d os => Calls.regrown_of (w := W) (d := d) (os := os) (far_any t' n' l' m' _ s5 s6 s7 s8)
      have cAa := fun d os => Calls.regrown_of (w := W) (d := d) (os := os) (ahead_near t n (t' + l') (n' + m') _ _ s1 s2 (by omega) (by omega) rfl)
      have cAb := fun d os => Calls.regrown_of (w := W) (d := d) (os := os) (ahead_near t' n' (t + l) (n + m) _ _ s5 s6 (by omega) (by omega) rfl)
      rw [h1] at cGa
      rw [h2] at cGb
      clear h1 h2 r1 r2 s1 s2 s3 s4 s5 s6 s7 s8
      cases h3 : decide (t < t' + l' ∧ n < n' + m') with
      | false =>
        have H1 := Lib.hid (show false = meetsB t n l m t' n' l' m' by
          rw [H0, eq_comm, Bool.eq_false_iff]; intro h; have := crossB_iff.1 h; rw [decide_eq_false_iff_not] at h3; omega)
        rw [h3] at cAa
        clear h3 H0
        go_enter Try.func52, Try.ntmps52
        go_wp2
        rw [← HW.out]
        refine wp_region_quiet_below (by kernel_rfl) (by kernel_rfl) ?_
        repeat (quiet_step (first | (with_reducible exact cGa _ _) | (with_reducible exact cGb _ _) | (with_reducible exact cCa _ _) | (with_reducible exact cFb _ _) | (with_reducible exact cAa _ _)))
        refine wpQuiet_nil ?_
        intro _ hw'
        obtain ⟨⟨dq, osq⟩, hw''⟩ := hw'
        subst hw''
        go_wp2
        go_ret
        exact ⟨ret_bool H1.out, below_keep HB.out (below_regrown W dq osq)⟩
      | true =>
        cases h4 : decide (t' < t + l ∧ n' < n + m) with
        | false =>
          have H1 := Lib.hid (show false = meetsB t n l m t' n' l' m' by
            rw [H0, eq_comm, Bool.eq_false_iff]; intro h; have := crossB_iff.1 h; rw [decide_eq_false_iff_not] at h4; omega)
          rw [h3] at cAa
          rw [h4] at cAb
          clear h3 h4 H0
          go_enter Try.func52, Try.ntmps52
          go_wp2
          rw [← HW.out]
          refine wp_region_quiet_below (by kernel_rfl) (by kernel_rfl) ?_
          repeat (quiet_step (first | (with_reducible exact cGa _ _) | (with_reducible exact cGb _ _) | (with_reducible exact cCa _ _) | (with_reducible exact cFb _ _) | (with_reducible exact cAa _ _) | (with_reducible exact cCb _ _) | (with_reducible exact cFa _ _) | (with_reducible exact cAb _ _)))
          refine wpQuiet_nil ?_
          intro _ hw'
          obtain ⟨⟨dq, osq⟩, hw''⟩ := hw'
          subst hw''
          go_wp2
          go_ret
          exact ⟨ret_bool H1.out, below_keep HB.out (below_regrown W dq osq)⟩
        | true =>
          have H1 := Lib.hid (show true = meetsB t n l m t' n' l' m' by
            rw [H0, eq_comm, crossB_iff]; rw [decide_eq_true_iff] at h3 h4; omega)
          rw [h3] at cAa
          rw [h4] at cAb
          clear h3 h4 H0
          go_enter Try.func52, Try.ntmps52
          go_wp2
          rw [← HW.out]
          refine wp_region_quiet_below (by kernel_rfl) (by kernel_rfl) ?_
          repeat (quiet_step (first | (with_reducible exact cGa _ _) | (with_reducible exact cGb _ _) | (with_reducible exact cCa _ _) | (with_reducible exact cFb _ _) | (with_reducible exact cAa _ _) | (with_reducible exact cCb _ _) | (with_reducible exact cFa _ _) | (with_reducible exact cAb _ _)))
          refine wpQuiet_nil ?_
          intro _ hw'
          obtain ⟨⟨dq, osq⟩, hw''⟩ := hw'
          subst hw''
          go_wp2
          go_ret
          exact ⟨ret_bool H1.out, below_keep HB.out (below_regrown W dq osq)⟩

end Go.Proofs.Ytcndihekpdebhaa.Pla
/- Plane: lists of boxes: meetsAny. -/
namespace Go.Proofs.Ytcndihekpdebhaa.Pla
open Go.RowKit
open Go.Sort

theorem any_snoc (f : Bx → Bool) (l : List Bx) (k : Nat) (h : k < l.length) : (l.take (k + 1)).any f = ((l.take k).any f || f l[k]) := by
  rw [List.take_succ_eq_append_getElem h, List.any_append]; simp

set_option maxHeartbeats 1000000 in
theorem meetsAny_any (x : Bx) (a : Option Addr) (len cap : Nat) (L : List Bx) (w : World) (hx : x.wide) (hw : ∀ y ∈ L, y.wide) (hl : L.length = len) (hm : len ≤ maxLen) (hE : Boxes w a L) :
    Calls Try.prog 39 #[.agg #[.int .i64 x.t, .int .i64 x.n, .int .i64 x.l, .int .i64 x.m], .slice a len cap] w fun e w' => e = .returned (.bool (L.any fun y => y.meets x)) ∧ Below w.heap.size w w' := by
  unfold maxLen at hm
  obtain ⟨t, n, l, m⟩ := x
  have HL := Lib.hid hl
  have HE := Lib.hid hE
  clear hl hE
  go_enter Try.func39, Try.ntmps39
  go_wp2
  go_loopw [9] (fun i wr => ∃ k : Nat, k ≤ len ∧ i = .int .i64 k ∧ (L.take k).any (fun y => y.meets ⟨t, n, l, m⟩) = false ∧ Below w.heap.size w wr ∧ wr.cell? ⟨w.heap.size, 0, none⟩ = some (.int .i64 t) ∧ wr.cell? ⟨w.heap.size, 1, none⟩ = some (.int .i64 n) ∧ wr.cell? ⟨w.heap.size, 2, none⟩ = some (.int .i64 l) ∧ wr.cell? ⟨w.heap.size, 3, none⟩ = some (.int .i64 m)) (fun i _ => len - (intOf i).toNat)
  case atStart => exact ⟨0, Nat.zero_le _, rfl, rfl, (Below.refl _ _).alloc (Nat.le_refl _) _, by simp [go_sem], by simp [go_sem], by simp [go_sem], by simp [go_sem]⟩
  case round =>
    obtain ⟨k, hk, rfl, ha, hb, c0, c1, c2, c3⟩ := hrel
    by_cases hlt : k < len
    · have hkl : k < L.length := by rw [HL.out]; exact hlt
      obtain ⟨b, off, HA, hbl, d0, d1, d2, d3⟩ := boxes_at (boxes_below HE.out hb) hkl
      have ha' := HA.out
      subst ha'
      have hy := hw _ (List.getElem_mem hkl)
      have hsn := any_snoc (fun y => y.meets ⟨t, n, l, m⟩) L k hkl
      have hmem := List.getElem_mem hkl
      generalize hyy : L[k] = y at *
      obtain ⟨yt, yn, yl, ym⟩ := y
      have hc := fun W => meets_any yt yn yl ym t n l m W hy.1 hy.2.1 hy.2.2.1 hy.2.2.2 hx.1 hx.2.1 hx.2.2.1 hx.2.2.2
      cases h : meetsB yt yn yl ym t n l m with
      | false =>
        have HS : Hid ((L.take (k + 1)).any (fun y => y.meets ⟨t, n, l, m⟩) = false) := by
          rw [hsn, ha]; exact h
        rw [h] at hc
        have HB := Lib.hid hb
        have HC := Lib.hid hc
        have hwz : w.heap.size < wr.heap.size := World.block_lt_of_cell? wr _ c0
        clear hyy hmem hy hsn ha h hc hb
        go_wp2_with fail
        refine (HC.out _).mono ?_
        rintro e w1 ⟨rfl, hb⟩
        go_wp2_with fail
        have hb' : Below wr.heap.size wr w1 := ((Below.refl _ _).alloc (Nat.le_refl _) _).trans (hb.mono (by simp))
        go_roundw
        case rel => exact ⟨k + 1, by omega, by go_num, HS.out, below_keep HB.out hb', cell_keep hb' c0, cell_keep hb' c1, cell_keep hb' c2, cell_keep hb' c3⟩
        case measure => simp [intOf]; omega
      | true =>
        have HS : Hid (true = L.any (fun y => y.meets ⟨t, n, l, m⟩)) := by
          rw [eq_comm, List.any_eq_true]; exact ⟨_, hmem, h⟩
        rw [h] at hc
        have HB := Lib.hid hb
        have HC := Lib.hid hc
        have hwz : w.heap.size < wr.heap.size := World.block_lt_of_cell? wr _ c0
        clear hyy hmem hy hsn ha h hc hb
        go_wp2_with fail
        refine (HC.out _).mono ?_
        rintro e w1 ⟨rfl, hb⟩
        go_wp2_with fail
        go_ret
        exact ⟨ret_bool HS.out, below_keep HB.out (((Below.refl _ _).alloc (Nat.le_refl _) _).trans (hb.mono (by simp)))⟩
    · have HS : Hid (false = L.any (fun y => y.meets ⟨t, n, l, m⟩)) := by
        rw [List.take_of_length_le (by rw [HL.out]; omega)] at ha; exact ha.symm
      have HB := Lib.hid hb
      clear ha hb
      go_wp2
      go_ret
      exact ⟨ret_bool HS.out, HB.out⟩

end Go.Proofs.Ytcndihekpdebhaa.Pla
/- Plane: Apart. -/
namespace Go.Proofs.Ytcndihekpdebhaa.Pla
open Go.RowKit
open Go.Sort

theorem any_false {L : List Bx} {k : Nat} {f : Bx → Bool} (h : (L.take k).any f = false) (j : Nat) (hj : j < k) (hl : j < L.length) : f L[j] = false := by
  rw [List.any_eq_false] at h
  have := h L[j] (by rw [List.mem_take_iff_getElem]; exact ⟨j, by omega, rfl⟩)
  simpa using this
theorem any_true {L : List Bx} {k : Nat} {f : Bx → Bool} (h : (L.take k).any f = true) : ∃ j, ∃ hl : j < L.length, j < k ∧ f L[j] = true := by
  rw [List.any_eq_true] at h
  obtain ⟨x, hx, hf⟩ := h
  rw [List.mem_take_iff_getElem] at hx
  obtain ⟨j, hj, rfl⟩ := hx
  exact ⟨j, by omega, by omega, hf⟩

theorem boxes_take {w : World} {a : Option Addr} {l : List Bx} (h : Boxes w a l) (k : Nat) : Boxes w a (l.take k) := by
  rcases h with h | ⟨b, off, h1, h2⟩
  · exact .inl (by rw [h]; simp)
  · refine .inr ⟨b, off, h1, fun j hj => ?_⟩
    rw [List.length_take] at hj
    rw [List.getElem_take]
    exact h2 j (by omega)

set_option maxHeartbeats 1000000 in
theorem apart_any (a : Option Addr) (len cap : Nat) (L : List Bx) (w : World) (hw : ∀ y ∈ L, y.wide) (hl : L.length = len) (hc : len ≤ cap) (hm : cap ≤ maxLen) (hE : Boxes w a L) :
    Calls Try.prog 22 #[.slice a len cap] w fun e w' => e = .returned (.bool (apartB L)) ∧ Below w.heap.size w w' := by
  have hm' := hm
  unfold maxLen at hm
  have HL := Lib.hid hl
  have HE := Lib.hid hE
  have HM := Lib.hid hm'
  clear hl hE hm'
  go_enter Try.func22, Try.ntmps22
  go_wp2
  go_loopw [7] (fun i wr => ∃ k : Nat, k ≤ len ∧ i = .int .i64 k ∧ Hid (ApartTo L k) ∧ Below w.heap.size w wr) (fun i _ => len - (intOf i).toNat)
  case atStart => exact ⟨0, Nat.zero_le _, rfl, fun i h hi => absurd hi (Nat.not_lt_zero i), Below.refl _ _⟩
  case round =>
    obtain ⟨k, hk, rfl, ha, hb⟩ := hrel
    by_cases hlt : k < len
    · have hkl : k < L.length := by rw [HL.out]; exact hlt
      have hE1 := boxes_below HE.out hb
      obtain ⟨b, off, HA, hbl, d0, d1, d2, d3⟩ := boxes_at hE1 hkl
      have hy := hw _ (List.getElem_mem hkl)
      have HY := Lib.hid (rfl : L[k] = L[k])
      generalize hyy : L[k] = y at d0 d1 d2 d3 hy
      have HYY := Lib.hid hyy
      clear hyy HY
      obtain ⟨t, n, l, m⟩ := y
      obtain ⟨W, hW⟩ : ∃ W : World, W = wr.alloc (.cells #[.int .i64 t, .int .i64 n, .int .i64 l, .int .i64 m] 52) := ⟨_, rfl⟩
      have hbW : Below wr.heap.size wr W := by rw [hW]; exact (Below.refl _ _).alloc (Nat.le_refl _) _
      have k0 : ∀ d os, (grow (redrawn W d) os).cell? ⟨wr.heap.size, 0, none⟩ = some (.int .i64 t) := by intro d os; refine cell_regrown ?_ d os; rw [hW]; simp [go_sem]
      have k1 : ∀ d os, (grow (redrawn W d) os).cell? ⟨wr.heap.size, 1, none⟩ = some (.int .i64 n) := by intro d os; refine cell_regrown ?_ d os; rw [hW]; simp [go_sem]
      have k2 : ∀ d os, (grow (redrawn W d) os).cell? ⟨wr.heap.size, 2, none⟩ = some (.int .i64 l) := by intro d os; refine cell_regrown ?_ d os; rw [hW]; simp [go_sem]
      have k3 : ∀ d os, (grow (redrawn W d) os).cell? ⟨wr.heap.size, 3, none⟩ = some (.int .i64 m) := by intro d os; refine cell_regrown ?_ d os; rw [hW]; simp [go_sem]
      have cG := fun d os => Calls.regrown_of (w := W) (d := d) (os := os) (good_any t n l m _ hy.1 hy.2.1 hy.2.2.1 hy.2.2.2)
      have cM := fun d os => Calls.regrown_of (w := W) (d := d) (os := os) (meetsAny_any ⟨t, n, l, m⟩ a k cap (L.take k) _ hy (fun y hy => hw y (List.mem_of_mem_take hy)) (by rw [List.length_take]; omega) (by unfold maxLen; omega) (boxes_take (boxes_below (boxes_below hE1 hbW) (below_regrown W d os)) k))
      have HW := Lib.hid hW
      have HB := Lib.hid hb
      have HBW := Lib.hid hbW
      have ha' := HA.out
      subst ha'
      have i0 : (0 : Int) ≤ (k : Int) := by omega
      have i1 : (k : Int) ≤ (cap : Int) := by omega
      clear hW hb hbW hE1
      cases hg : goodB t n l m with
      | false =>
        have HS : Hid (false = apartB L) := by
          refine apartB_no fun h => ?_
          have := (h k hkl hkl).1
          rw [HYY.out] at this
          unfold Bx.good at this
          rw [hg] at this
          cases this
        rw [hg] at cG
        clear hg cM
        go_wp2
        rw [← HW.out]
        refine wp_region_quiet_below (by kernel_rfl) (by kernel_rfl) ?_
        repeat (quiet_step (first | (with_reducible exact cG _ _)))
        refine wpQuiet_nil ?_
        intro _ hw'
        obtain ⟨⟨dq, osq⟩, hw''⟩ := hw'
        subst hw''
        go_wp2
        go_ret
        exact ⟨ret_bool HS.out, below_keep (below_keep HB.out HBW.out) (below_regrown W dq osq)⟩
      | true =>
        rw [hg] at cG
        cases hn : (L.take k).any (fun y => y.meets ⟨t, n, l, m⟩) with
        | true =>
          have HS : Hid (false = apartB L) := by
            refine apartB_no fun h => ?_
            obtain ⟨j, hj, hjk, hjm⟩ := any_true hn
            have := (h k hkl hkl).2 j hjk
            rw [HYY.out, hjm] at this
            cases this
          rw [hn] at cM
          clear hg hn
          go_wp2
          rw [← HW.out]
          refine wp_region_quiet_below (by kernel_rfl) (by kernel_rfl) ?_
          repeat (quiet_step (first | (with_reducible exact cG _ _) | (with_reducible exact cM _ _)))
          refine wpQuiet_nil ?_
          intro _ hw'
          obtain ⟨⟨dq, osq⟩, hw''⟩ := hw'
          subst hw''
          go_wp2
          go_ret
          exact ⟨ret_bool HS.out, below_keep (below_keep HB.out HBW.out) (below_regrown W dq osq)⟩
        | false =>
          have HS : Hid (ApartTo L (k + 1)) := by
            intro i hi hik
            by_cases he : i = k
            · subst he
              refine ⟨by rw [HYY.out]; exact hg, fun j hj => ?_⟩
              have := any_false hn j hj (by omega)
              rw [HYY.out]; exact this
            · exact ha.out i hi (by omega)
          rw [hn] at cM
          clear hg hn ha
          go_wp2
          rw [← HW.out]
          refine wp_region_quiet_below (by kernel_rfl) (by kernel_rfl) ?_
          repeat (quiet_step (first | (with_reducible exact cG _ _) | (with_reducible exact cM _ _)))
          refine wpQuiet_nil ?_
          intro _ hw'
          obtain ⟨⟨dq, osq⟩, hw''⟩ := hw'
          subst hw''
          go_wp2
          go_roundw
          case rel => exact ⟨k + 1, by omega, by go_num, HS, below_keep (below_keep HB.out HBW.out) (below_regrown W dq osq)⟩
          case measure => simp [intOf]; omega
    · have HS : Hid (true = apartB L) := apartB_yes fun i hi h => ha.out i hi (by rw [HL.out] at h; omega)
      have HB := Lib.hid hb
      clear ha hb
      go_wp2
      go_ret
      exact ⟨ret_bool HS.out, HB.out⟩

end Go.Proofs.Ytcndihekpdebhaa.Pla
/- Job: what the landed plane does of boxes that are apart. -/
namespace Go.Proofs.Ytcndihekpdebhaa.Job
set_option linter.unusedVariables false

theorem apart_does : ApartDoes := fun W a n c l h hw => Pla.apart_any a n c l W hw h.len h.cap h.max (Bxm.to_boxes h.row)
end Go.Proofs.Ytcndihekpdebhaa.Job
/- Job: JobEnds, over any jobs that do as they should. -/
namespace Go.Proofs.Ytcndihekpdebhaa.Job
set_option maxRecDepth 100000
open Go.RowKit
open Go.Sort
open Kit
open Tre (Lst inI lst_keep lst_take lst_at lst_new lst_none IntsL int_cell encI encI_len NewI OwI ints_any below_drewN')
open Go.Proofs.Ytcndihekpdebhaa.Ord (ts)
set_option linter.unusedVariables false
variable {w w' : World}

theorem dueL_first {now later : Int} (h : now ≤ later) (l : List Jb) : ∃ r, dueL later l = dueL now l ++ r := by
  obtain ⟨r, hr⟩ := due_first h l
  refine ⟨r.map (idAt l), ?_⟩
  unfold dueL
  rw [hr, List.map_append]
theorem due_at {now : Int} {l : List Jv} {i : Nat} (h : i < (dueL now (ts l)).length) : ∃ (m : Nat) (x : Jv), l[m]? = some x ∧ (dueL now (ts l))[i] = x.t.id ∧ x.t.state = 3 ∧ x.t.start + x.t.wall ≤ now := by
  have h' : i < (dueP now (ts l)).length := by unfold dueL at h; rwa [List.length_map] at h
  obtain ⟨m, hm⟩ : ∃ m, m = (dueP now (ts l))[i] := ⟨_, rfl⟩
  obtain ⟨t, ht, hr, he⟩ := due_mem.1 (show m ∈ dueP now (ts l) by rw [hm]; exact List.getElem_mem h')
  have hx : ∃ x, l[m]? = some x ∧ x.t = t := by
    unfold ts at ht
    rw [List.getElem?_map] at ht
    cases hl : l[m]? with
    | none => rw [hl] at ht; cases ht
    | some x => rw [hl] at ht; injection ht with ht; exact ⟨x, rfl, ht⟩
  obtain ⟨x, hx, rfl⟩ := hx
  refine ⟨m, x, hx, ?_, by unfold runB at hr; exact eq_of_beq hr, he⟩
  have e : (dueL now (ts l))[i] = idAt (ts l) (dueP now (ts l))[i] := List.getElem_map _
  rw [e, ← hm]
  exact idAt_get hx
theorem seen_no {q k : Nat} {bv : Bool} {P : Prop} (h : q < k → bv = true) (hq : q = k → P) (hn : ¬ P) : q < k + 1 → bv = true := fun h1 => (Nat.lt_or_ge q k).elim h fun h2 => absurd (hq (by omega)) hn
set_option maxHeartbeats 8000000 in
theorem ends_any (hP : Prog) (W : World) (a : Option Addr) (n c : Nat) (l : List Jv) (now later : Int) (hn : 0 ≤ now ∧ now ≤ 65535) (hl : 0 ≤ later ∧ later ≤ 65535) (hJ : Jobs W a n c l) :
    Calls Try.prog 5 #[.slice a n c, .int .u16 now, .int .u16 later] W fun e W' => e = .returned (.bool true) ∧ Below W.heap.size W W' := by
  have HP := Lib.hid hP
  have HC0 := Lib.hid (rheldJ_any W a n c l hJ)
  obtain ⟨n0, n1⟩ := hn
  obtain ⟨l0, l1⟩ := hl
  clear hP hJ
  go_enter Try.func5, Try.ntmps5
  go_wp2_with fail
  refine HC0.out.mono ?_
  rintro e w1 ⟨v, rfl, ho, hb1⟩
  have hokl := held_ok l
  have hlen := heldJ_len l
  generalize heldJ l = X at *
  obtain ⟨a1, c1, rfl, hx⟩ := own_jobs ho
  obtain ⟨m, hm⟩ : ∃ m, m = X.length := ⟨_, rfl⟩
  rw [← hm] at hx hlen ⊢
  have HX := Lib.hid (And.intro hlen (And.intro hokl hx.len))
  have H1 := Lib.hid (And.intro hb1 hx)
  have HC1 := Lib.hid (HP.out.due w1 a1 m c1 X now hx (by omega) hokl)
  have hm24 : m ≤ 24 := hlen
  clear ho hb1 hx hlen hokl HC0 hm
  go_wp2_with fail
  refine HC1.out.mono ?_
  rintro e w2 ⟨v2, rfl, ⟨a2, c2, rfl, hi2, -⟩, hb2⟩
  have H2 := Lib.hid (And.intro (below_keep H1.out.1 hb2) (And.intro (lst_keep encJ_len H1.out.2 hb2) hi2))
  have HC2 := Lib.hid (HP.out.due w2 a1 m c1 X (now + later) H2.out.2.1 (by omega) HX.out.2.1)
  have HA0 := Lib.hid (fun i (h : i < (dueL now (ts X)).length) => due_at h)
  have HAF := Lib.hid (dueL_first (show now ≤ now + later by omega) (ts X))
  have hal : (dueL now (ts X)).length ≤ m := by
    have h1 := due_len now (ts X)
    rw [ts_len, HX.out.2.2] at h1
    unfold dueL
    rw [List.length_map]; exact h1
  obtain ⟨A, hA⟩ : ∃ A, A = dueL now (ts X) := ⟨_, rfl⟩
  rw [← hA] at H2 HA0 HAF hal ⊢
  obtain ⟨na, hna⟩ : ∃ na, na = A.length := ⟨_, rfl⟩
  rw [← hna] at H2 hal ⊢
  have HNa := Lib.hid hna
  clear hi2 hb2 HC1 H1 hA hna
  go_wp2_with fail
  refine HC2.out.mono ?_
  rintro e w3 ⟨v3, rfl, ⟨a3, c3, rfl, hi3, -⟩, hb3⟩
  obtain ⟨r, hr⟩ := HAF.out
  rw [hr] at hi3 ⊢
  obtain ⟨nb, hnb⟩ : ∃ nb, nb = (A ++ r).length := ⟨_, rfl⟩
  rw [← hnb] at hi3 ⊢
  have H3 := Lib.hid (And.intro (below_keep H2.out.1 hb3) (And.intro (lst_keep encJ_len H2.out.2.1 hb3) (And.intro (lst_keep encI_len H2.out.2.2 hb3) hi3)))
  have HNb := Lib.hid hnb
  have hab : na ≤ nb := by rw [HNa.out, hnb, List.length_append]; exact Nat.le_add_right _ _
  have hnbm : nb ≤ 9223372036854775807 := by have := hi3.cap; have := hi3.max; unfold maxLen at this; omega
  clear hi3 hb3 HC2 H2 HAF hr hnb
  go_wp2_with fail
  go_loopw [10] (fun i wr => ∃ k : Nat, k ≤ na ∧ i = .int .i64 (k : Nat) ∧ Below w3.heap.size w3 wr) (fun i _ => na - (intOf i).toNat)
  case atStart => exact ⟨0, Nat.zero_le _, rfl, Below.refl _ _⟩
  case round =>
    obtain ⟨i, hi, rfl, hb⟩ := hrel
    have HB := Lib.hid hb
    clear hb
    by_cases hlt : i < na
    · obtain ⟨q, x, hx, hid, hst, hen⟩ := HA0.out i (by rw [← HNa.out]; exact hlt)
      have hqm : q < m := by rw [← HX.out.2.2]; exact (List.getElem?_eq_some_iff.1 hx).1
      obtain ⟨b2, o2, rfl⟩ := lst_at H3.out.2.2.1 (by omega)
      obtain ⟨b3, o3, rfl⟩ := lst_at H3.out.2.2.2 (by omega)
      obtain ⟨b1, o1, rfl⟩ := lst_at H3.out.2.1 (by omega)
      obtain ⟨xi, hxi⟩ : ∃ v, v = x.t.id := ⟨_, rfl⟩
      rw [← hxi] at hid
      have hiA : i < A.length := by rw [← HNa.out]; exact hlt
      have QA := Lib.hid (show ∀ w', Below w3.heap.size w3 w' → w'.cell? ⟨b2, o2 + i, none⟩ = some (.int .i64 xi) from fun w' hb => by
        have := int_cell (lst_keep encI_len H3.out.2.2.1 hb) (k := i) hiA
        rwa [hid] at this)
      have QB := Lib.hid (show ∀ w', Below w3.heap.size w3 w' → w'.cell? ⟨b3, o3 + i, none⟩ = some (.int .i64 xi) from fun w' hb => by
        have := int_cell (lst_keep encI_len H3.out.2.2.2 hb) (k := i) (by rw [← HNb.out]; omega)
        rwa [List.getElem_append_left hiA, hid] at this)
      have HQx := Lib.hid (show ∀ y, X[q]? = some y → y.t.id = xi ∧ y.t.state = 3 ∧ y.t.start + y.t.wall ≤ now from fun y hy => by
        rw [hx] at hy
        injection hy with hy
        rw [← hy]
        exact ⟨hxi.symm, hst, hen⟩)
      clear hx hid hst hen hxi hiA
      go_wp2_with fail
      go_loopw [11, 12] (fun v kv wr => ∃ (k : Nat) (bv : Bool), k ≤ m ∧ kv = .int .i64 (k : Nat) ∧ v = .bool bv ∧ (q < k → bv = true) ∧ Below w3.heap.size w3 wr) (fun _ kv _ => m - (intOf kv).toNat)
      case atStart => exact ⟨0, false, Nat.zero_le _, rfl, rfl, fun h => absurd h (Nat.not_lt_zero _), HB.out⟩
      case round =>
        obtain ⟨k, bv, hk, rfl, rfl, hqk, hb⟩ := hrel
        have HI := Lib.hid (And.intro hqk hb)
        clear hqk hb
        by_cases hkm : k < m
        · obtain ⟨y, hy⟩ : ∃ y, X[k]? = some y := ⟨_, List.getElem?_eq_getElem (by rw [HX.out.2.2]; exact hkm)⟩
          obtain ⟨p0, -, p3, p7, p8, -⟩ := job_cells (lst_keep encJ_len H3.out.2.1 HI.out.2) hy
          have qi := QA.out wr HI.out.2
          obtain ⟨⟨y0, y1⟩, y2, y3⟩ := HX.out.2.1 y (List.mem_of_getElem? hy)
          have HQ := Lib.hid (show q = k → y.t.id = xi ∧ y.t.state = 3 ∧ y.t.start + y.t.wall ≤ now from fun e => HQx.out y (by rw [e]; exact hy))
          have hkmi : (k : Int) < (m : Int) := by omega
          obtain ⟨yi, hyi⟩ : ∃ v, v = y.t.id := ⟨_, rfl⟩
          obtain ⟨ys, hys⟩ : ∃ v, v = y.t.state := ⟨_, rfl⟩
          obtain ⟨yt, hyt⟩ : ∃ v, v = y.t.start := ⟨_, rfl⟩
          obtain ⟨yw, hyw⟩ : ∃ v, v = y.t.wall := ⟨_, rfl⟩
          rw [← hyi, ← hys, ← hyt, ← hyw] at HQ
          rw [← hyi] at p0
          rw [← hys] at p7
          rw [← hyt] at p8 y0 y1
          rw [← hyw] at p3 y2 y3
          clear hy hyi hys hyt hyw
          cases bv
          · by_cases e1 : yi = xi
            · subst e1
              by_cases e2 : ys = 3
              · subst e2
                by_cases e3 : yt + yw ≤ now
                · skip
                  go_wp2_with fail
                  go_quiet (fail)
                  go_wp2_with fail
                  go_roundw
                  case rel => exact ⟨k + 1, true, by omega, by go_num, rfl, fun _ => rfl, below_keep HI.out.2 (below_drewN' _ _)⟩
                  case measure => simp [intOf]; omega
                · have E3 := Lib.hid e3
                  go_wp2_with fail
                  go_quiet (fail)
                  go_wp2_with fail
                  go_roundw
                  case rel => exact ⟨k + 1, false, by omega, by go_num, by first | rfl | (congr 1; exact decide_eq_false (by have := E3.out; omega)), seen_no HI.out.1 HQ.out (fun hh => by have h1 := hh.2.2; have h2 := E3.out; omega), below_keep HI.out.2 (below_drewN' _ _)⟩
                  case measure => simp [intOf]; omega
              · have hne : (ys == 3) = false := beq_false_of_ne e2
                go_wp2_with fail
                go_quiet (fail)
                go_wp2_with fail
                go_roundw
                case rel => exact ⟨k + 1, false, by omega, by go_num, rfl, seen_no HI.out.1 HQ.out (fun hh => e2 hh.2.1), below_keep HI.out.2 (below_drewN' _ _)⟩
                case measure => simp [intOf]; omega
            · have hne : (yi == xi) = false := beq_false_of_ne e1
              go_wp2_with fail
              go_quiet (fail)
              go_wp2_with fail
              go_roundw
              case rel => exact ⟨k + 1, false, by omega, by go_num, rfl, seen_no HI.out.1 HQ.out (fun hh => e1 hh.1), below_keep HI.out.2 (below_drewN' _ _)⟩
              case measure => simp [intOf]; omega
          · skip
            go_wp2_with fail
            go_quiet (fail)
            go_wp2_with fail
            go_roundw
            case rel => exact ⟨k + 1, true, by omega, by go_num, rfl, fun _ => rfl, below_keep HI.out.2 (below_drewN' _ _)⟩
            case measure => simp [intOf]; omega
        · obtain rfl : k = m := by omega
          obtain rfl : bv = true := HI.out.1 hqm
          have qi := QA.out wr HI.out.2
          have qj := QB.out wr HI.out.2
          have hibi : (i : Int) < (nb : Int) := by omega
          have hnge : ¬ (nb : Int) ≤ (i : Int) := by omega
          have hnn : ¬ nb ≤ i := by omega
          have hnd : decide ((nb : Int) ≤ (i : Int)) = false := decide_eq_false hnge
          have hlti : (i : Int) < (na : Int) := by omega
          go_wp2_with fail
          go_quiet (fail)
          go_wp2_with fail
          go_roundw
          case rel => exact ⟨i + 1, by omega, by go_num, below_keep HI.out.2 (below_drewN' _ _)⟩
          case measure => simp [intOf]; omega
    · obtain rfl : i = na := by omega
      have HA := Lib.hid (awake_any HP.out wr)
      have habi : (i : Int) ≤ (nb : Int) := by omega
      go_wp2_with fail
      refine HA.out.mono ?_
      rintro e w5 ⟨rfl, hb5⟩
      have H5 := Lib.hid (below_keep H3.out.1 (below_keep HB.out hb5))
      clear hb5 HA
      go_wp2_with fail
      go_ret
      exact ⟨by first | rfl | (simp; omega), H5.out⟩
end Go.Proofs.Ytcndihekpdebhaa.Job
