/- Common to the claims of this seat, part 12: texts that were written one by one, laid behind one another. -/
import Derived.BigFrame
import Derived.BigQuiet
import Derived.Deep.DeepCutAuto
import Derived.Deep.CutBlock
import Derived.WalkLawsBesides
import Derived.LoopTactic
import Derived.Lib.SliceRun
import Derived.Test.YtjcndgopijpibaaGreatPart1
import Derived.Test.YtjcndgopijpibaaGreatPart2
import Derived.Test.YtjcndgopijpibaaGreatPart3
import Derived.Test.YtjcndgopijpibaaGreatPart4
import Derived.Test.YtjcndgopijpibaaGreatPart5
import Derived.Test.YtjcndgopijpibaaGreatPart6
import Derived.Test.YtjcndgopijpibaaGreatPart10
import Derived.Test.YtjcndgopijpibaaGreatPart11
/- Does a number stand in a list of numbers (slices.Index, slices.Contains)? -/
namespace Go.Proofs.YtjcndgopijpibaaGreat.Tre
set_option maxRecDepth 100000
open Go.RowKit
open Go.Sort
open Kit
open Mon
set_option linter.unusedVariables false
variable {w w' : World}
set_option maxHeartbeats 1000000 in
theorem index_any (l : List Int) (a : Option Addr) (n c : Nat) (w : World) (h : IntsL w a n c l) (x : Int) :
    Calls Tryz.prog 147 #[.slice a n c, .int .i64 x] w fun e w' => ∃ j : Int, e = .returned (.int .i64 j) ∧ (0 ≤ j ↔ x ∈ l) ∧ w = w' := by
  have hm1 : n ≤ 9223372036854775807 := by have := h.cap; have := h.max; unfold maxLen at this; omega
  have HL := Lib.hid (And.intro h h.len)
  clear h
  go_enter Tryz.func147, Tryz.ntmps147
  go_wp2_with fail
  go_loop [5, 8] (fun _ i => ∃ k : Nat, k ≤ n ∧ i = .int .i64 (k : Nat) ∧ Hid (x ∉ l.take k)) (fun _ i => n - (intOf i).toNat)
  case atStart => exact ⟨0, Nat.zero_le _, rfl, Lib.hid (by simp)⟩
  case round =>
    obtain ⟨k, hk, rfl, hno⟩ := hrel
    by_cases hlt : k < n
    · have hkl : k < l.length := by rw [HL.out.2]; exact hlt
      obtain ⟨b, o, rfl⟩ := lst_at HL.out.1 (by omega)
      have q := int_cell HL.out.1 hkl
      have HTk := Lib.hid (List.take_succ_eq_append_getElem hkl)
      have HMe := Lib.hid (List.getElem_mem hkl)
      generalize l[k] = y at *
      by_cases he : x = y
      · subst he
        go_wp2_with fail
        go_ret
        exact ⟨_, rfl, ⟨fun _ => HMe.out, fun _ => by omega⟩, rfl⟩
      · have HE := Lib.hid he
        have hne : (x == y) = false := beq_false_of_ne he
        clear he
        go_wp2_with fail
        go_round
        case rel => exact ⟨k + 1, by omega, by go_num, Lib.hid (by
          rw [HTk.out, List.mem_append, List.mem_singleton]
          rintro (h | h)
          · exact hno.out h
          · exact HE.out h)⟩
        case measure => simp [intOf]; omega
    · obtain rfl : k = n := by omega
      have hN := hno.out
      rw [List.take_of_length_le (by rw [HL.out.2]; exact Nat.le_refl _)] at hN
      have HN := Lib.hid hN
      clear hN
      go_wp2_with fail
      go_ret
      exact ⟨_, rfl, ⟨fun h => by omega, fun h => absurd h HN.out⟩, rfl⟩
theorem contains_any (l : List Int) (a : Option Addr) (n c : Nat) (w : World) (h : IntsL w a n c l) (x : Int) :
    Calls Tryz.prog 124 #[.slice a n c, .int .i64 x] w fun e w' => e = .returned (.bool (l.contains x)) ∧ w = w' := by
  have HL := Lib.hid h
  clear h
  go_enter Tryz.func124, Tryz.ntmps124
  go_wp2_with fail
  refine (index_any l a n c w HL.out x).mono ?_
  rintro e w1 ⟨j, rfl, hj, rfl⟩
  by_cases h0 : 0 ≤ j
  · have HC := Lib.hid (show l.contains x = true by simpa using hj.1 h0)
    clear hj
    go_wp2_with fail
    go_ret
    exact ⟨by rw [HC.out]; first | rfl | exact Kit.ret_bool (decide_eq_true h0) | exact Kit.ret_bool (decide_eq_false (by omega)), rfl⟩
  · have HC := Lib.hid (show l.contains x = false by
      have : x ∉ l := fun h => h0 (hj.2 h)
      simpa using this)
    clear hj
    go_wp2_with fail
    go_ret
    exact ⟨by rw [HC.out]; first | rfl | exact Kit.ret_bool (decide_eq_true h0) | exact Kit.ret_bool (decide_eq_false (by omega)), rfl⟩
end Go.Proofs.YtjcndgopijpibaaGreat.Tre
/- Ledger: what is made of allocations, legs and numbers; lists of allocations that are the call's own. -/
namespace Go.Proofs.YtjcndgopijpibaaGreat.Led
set_option maxRecDepth 100000
open Go.RowKit
open Go.Sort
open Kit
open Tre
set_option linter.unusedVariables false
variable {w w' : World}
theorem tyI : Nest.Ty encI 1 Tryz.prog 31 3 (.int .i64 0) 8 := ⟨encI_len, Nat.zero_lt_one, encI_one, Tryz.underlying31, info_i, rfl⟩
theorem tyG : Nest.Ty encG 2 Tryz.prog 32 49 (.agg #[.int .i64 0, .int .i64 0]) 16 := ⟨encG_len, by omega, encG_one, Tryz.underlying32, info_leg, rfl⟩
def OutA (w : World) (base : Nat) (v : Value) (l : List Al) : Prop := Owns encL 6 65 w base v l ∨ (l = [] ∧ ∃ a c, v = .slice a 0 c ∧ c ≤ maxLen ∧ (a = none → c = 0))
end Go.Proofs.YtjcndgopijpibaaGreat.Led
/- Money: the document's Fits and Add. -/
namespace Go.Proofs.YtjcndgopijpibaaGreat.Mon
open Go.RowKit
end Go.Proofs.YtjcndgopijpibaaGreat.Mon
/- Draw: draws in memory; arguments opened; two lists of draws, and of legs, that are one (the document's Alike, Same). -/
namespace Go.Proofs.YtjcndgopijpibaaGreat.Drw
set_option maxRecDepth 100000
open Go.RowKit
open Go.Sort
open Kit
open Mon
open Tre (Lst inI lst_keep lst_take lst_at lst_new lst_none i64_wf cells_int Allocs IntsL below_drewN' encI encI_len encI_one OwI own_chg' info_i lit_row owns_lit ints_elems)
open Led (Lg encG encG_len encG_one Legs leg_cells opens_legs legs_arg info_leg)
set_option linter.unusedVariables false
variable {w w' : World}
def OutL {α : Type} (enc : α → List Value) (size : Nat) (T : TypeId) (w : World) (base : Nat) (v : Value) (l : List α) : Prop := Owns enc size T w base v l ∨ (l = [] ∧ ∃ a c, v = .slice a 0 c ∧ c ≤ maxLen ∧ (a = none → c = 0))
abbrev OutD (w : World) (base : Nat) (v : Value) (l : List Dw) : Prop := OutL encD 2 63 w base v l
abbrev OutG (w : World) (base : Nat) (v : Value) (l : List Lg) : Prop := OutL encG 2 49 w base v l
theorem out_lst {α : Type} {enc : α → List Value} {size : Nat} (hs : ∀ x, (enc x).length = size) {T : TypeId} {base : Nat} {v : Value} {l : List α} (h : OutL enc size T w base v l) : ∃ a c, v = .slice a l.length c ∧ Lst enc size w a l.length c l := by
  rcases h with h | ⟨rfl, a, c, rfl, h1, h2⟩
  · obtain ⟨a, c, hv, hc, hm, hn, hrow⟩ := owns_row hs h
    exact ⟨a, c, hv, rfl, hc, hm, (fun e => ⟨by have := hn e; omega, hn e⟩), hrow⟩
  · exact ⟨a, c, rfl, rfl, Nat.zero_le _, h1, (fun e => ⟨rfl, h2 e⟩), .inl rfl⟩
theorem own_empty {α : Type} (enc : α → List Value) (size : Nat) (T : TypeId) (w : World) (base : Nat) (hb : base ≤ w.heap.size) : Owns enc size T (w.alloc (.cells #[] T)) base (.slice (some ⟨w.heap.size, 0, none⟩) 0 0) [] :=
  ⟨by simp [flat], .inr ⟨w.heap.size, 0, _, rfl, hb, heap_alloc_new w _, Nat.le_refl _, by unfold maxLen; omega, by simp, by simp [flat]⟩⟩
theorem leg_row (w : World) (x y : Int) : Kit.Row encG 2 (w.alloc (.cells #[.int .i64 x, .int .i64 y] 49)) (some ⟨w.heap.size, 0, none⟩) [⟨x, y⟩] := row_new encG_len w [⟨x, y⟩] _ _ _ rfl rfl
end Go.Proofs.YtjcndgopijpibaaGreat.Drw
/- Draw, the landed: the draws of nothing at a list's end are cut off (the library's slices.IndexFunc, slices.DeleteFunc). -/
namespace Go.Proofs.YtjcndgopijpibaaGreat.Drw
set_option maxRecDepth 100000
open Go.RowKit
open Go.Sort
open Kit
open Mon
open Foot
open Tre (Lst inI lst_keep lst_take lst_at lst_new lst_none below_drewN')
set_option linter.unusedVariables false
variable {w w' : World}
theorem zero_any (W : World) (x : Dw) (z : Bool) (hz : (x.amt == 0) = z) : Calls Tryz.prog 134 #[.agg #[.int .i64 x.alloc, .int .i64 x.amt]] W fun e w' => e = .returned (.bool z) ∧ Below W.heap.size W w' := by
  obtain ⟨x0, x1⟩ := x
  have hb := Lib.hid (below_alloc W (.cells #[.int .i64 x0, .int .i64 x1] 63))
  simp only at hz ⊢
  go_enter Tryz.func134, Tryz.ntmps134
  go_wp2_with fail
  go_ret
  exact ⟨by first | rfl | exact ret_bool hz, hb.out⟩
def idxZ (A Z : List Dw) : Int := if Z = [] then -1 else A.length
set_option maxHeartbeats 4000000 in
theorem idx_any (W : World) (a : Option Addr) (n c : Nat) (A Z : List Dw) (h : Draws W a n c (A ++ Z)) (hA : ∀ x ∈ A, x.amt ≠ 0) (hZ : ∀ x ∈ Z, x.amt = 0) :
    Calls Tryz.prog 150 #[.slice a n c, .func (.func 134) #[] #[]] W fun e w' => e = .returned (.int .i64 (idxZ A Z)) ∧ Below W.heap.size W w' := by
  have hm1 : n ≤ 9223372036854775807 := by have := h.cap; have := h.max; unfold maxLen at this; omega
  have HL := Lib.hid (And.intro h (And.intro h.len (And.intro hA hZ)))
  clear h hA hZ
  go_enter Tryz.func150, Tryz.ntmps150
  go_wp2_with fail
  go_loopw [5, 8] (fun _ i wr => ∃ k : Nat, k ≤ n ∧ k ≤ A.length ∧ i = .int .i64 (k : Nat) ∧ Below W.heap.size W wr) (fun _ i _ => n - (intOf i).toNat)
  case atStart => exact ⟨0, Nat.zero_le _, Nat.zero_le _, rfl, Below.refl _ _⟩
  case round =>
    obtain ⟨k, hk, hkA, rfl, hb⟩ := hrel
    have HB := Lib.hid hb
    clear hb
    by_cases hlt : k < n
    · have hkl : k < (A ++ Z).length := by rw [HL.out.2.1]; exact hlt
      obtain ⟨b, o, rfl⟩ := lst_at HL.out.1 (by omega)
      obtain ⟨q0, q1⟩ := draw_cells (lst_keep encD_len HL.out.1 HB.out) hkl
      by_cases hka : k < A.length
      · have hne : (A ++ Z)[k].amt ≠ 0 := by
          rw [List.getElem_append_left hka]
          exact HL.out.2.2.1 _ (List.getElem_mem hka)
        generalize (A ++ Z)[k] = x at *
        have HC := Lib.hid (zero_any wr x false (beq_false_of_ne hne))
        obtain ⟨x0, x1⟩ := x
        simp only at q0 q1 HC
        clear hne
        go_wp2_with fail
        refine HC.out.mono ?_
        rintro e w2 ⟨rfl, hb2⟩
        have HB2 := Lib.hid (below_keep HB.out hb2)
        clear hb2
        go_wp2_with fail
        go_roundw
        case rel => exact ⟨k + 1, by omega, by omega, by go_num, HB2.out⟩
        case measure => simp [intOf]; omega
      · obtain rfl : k = A.length := by omega
        have hz : (A ++ Z)[A.length].amt = 0 := by
          rw [List.getElem_append_right (Nat.le_refl _)]
          exact HL.out.2.2.2 _ (List.getElem_mem _)
        have HE := Lib.hid (show idxZ A Z = A.length by
          unfold idxZ
          rw [if_neg]
          intro e
          rw [e] at hkl
          simp at hkl)
        generalize (A ++ Z)[A.length] = x at *
        have HC := Lib.hid (zero_any wr x true (beq_iff_eq.2 hz))
        obtain ⟨x0, x1⟩ := x
        simp only at q0 q1 HC
        clear hz hkl hka
        go_wp2_with fail
        refine HC.out.mono ?_
        rintro e w2 ⟨rfl, hb2⟩
        have HB2 := Lib.hid (below_keep HB.out hb2)
        clear hb2
        go_wp2_with fail
        go_ret
        exact ⟨by rw [HE.out]; rfl, HB2.out⟩
    · have HE := Lib.hid (show idxZ A Z = -1 by
        unfold idxZ
        rw [if_pos]
        have := HL.out.2.1
        rw [List.length_append] at this
        exact List.length_eq_zero_iff.1 (by omega))
      obtain rfl : n = k := by omega
      go_wp2_with fail
      go_ret
      exact ⟨by rw [HE.out]; rfl, HB.out⟩
theorem zero_two (i : Nat) : (#[Value.int .i64 0, .int .i64 0] : Array Value)[i % 2]! = Value.int .i64 0 := by
  have h := Nat.mod_lt i (show 0 < 2 by omega)
  generalize i % 2 = r at *
  match r, h with
  | 0, _ => rfl
  | 1, _ => rfl
theorem zero_draws (n : Nat) : (Builtin.zeroCells (Value.agg #[.int .i64 0, .int .i64 0]).cells n).toList = List.replicate (n * 2) (Value.int .i64 0) := by
  have hc : (Value.agg #[.int .i64 0, .int .i64 0]).cells = #[.int .i64 0, .int .i64 0] := rfl
  rw [hc]
  unfold Builtin.zeroCells
  apply List.eq_replicate_iff.2
  constructor
  · simp
  · intro v hv
    rw [Array.toList_map, List.mem_map] at hv
    obtain ⟨i, _, rfl⟩ := hv
    exact zero_two i
theorem run_clear_d (w : World) (ty : TypeId) (g o n c : Nat) (hn : 0 < n) (hc : ∀ j, j < n * 2 → (w.cell? ⟨g, o + j, none⟩).isSome = true) (hf : ∀ j, j < n * 2 → w.frozen? ⟨g, o + j, none⟩ = false) :
    (Builtin.clear_ #[56] ty #[.slice (some ⟨g, o, none⟩) n c]).run Tryz.prog w = .ok (.tuple #[]) (w.setCells g o (List.replicate (n * 2) (.int .i64 0))) := by
  have hst := run_storeCells_cells (P := Tryz.prog) g o (List.replicate (n * 2) (Value.int .i64 0)) 0 w (by simpa using hc) (by simpa using hf) (by intro v hv'; rw [List.eq_of_mem_replicate hv']; rfl)
  simp only [Nat.add_zero] at hst
  have hz := zero_draws n
  obtain ⟨m, rfl⟩ : ∃ m, n = m + 1 := ⟨n - 1, by omega⟩
  simp [Builtin.clear_, run_underlying Tryz.underlying56, Tryz.zeroValue63, hz, hst]
theorem set_blk (g : Nat) (T : TypeId) : ∀ (vs : List Value) (o : Nat) (w : World) (cs : List Value), Arr.Blk w g T cs → ∃ cs', Arr.Blk (w.setCells g o vs) g T cs' ∧ cs'.length = cs.length ∧ ∀ m, m ≤ o → cs'.take m = cs.take m
  | [], _, _, cs, h => ⟨cs, h, rfl, fun _ _ => rfl⟩
  | v :: r, o, w, cs, h => by
    obtain ⟨cs', h1, h2, h3⟩ := set_blk g T r (o + 1) (w.setCell ⟨g, o, none⟩ v) (cs.set o v) (Arr.blk_set h o v)
    refine ⟨cs', h1, by rw [h2, List.length_set], fun m hm => ?_⟩
    rw [h3 m (by omega), List.take_set_of_le hm]
theorem set_chgs (g : Nat) : ∀ (vs : List Value) (o : Nat) (w w1 : World), Chg (fun k => k = g) w w1 → Chg (fun k => k = g) w (w1.setCells g o vs)
  | [], _, _, _, h => h
  | v :: r, o, w, w1, h => set_chgs g r (o + 1) w _ (chg_set h (.inl rfl) o v)
theorem own_clear {base g cap : Nat} {A Z : List Dw} (h : Owns encD 2 63 w base (.slice (some ⟨g, 0, none⟩) (A ++ Z).length cap) (A ++ Z)) (hz : Z ≠ []) :
    ∃ w2, (∀ ty, (Builtin.clear_ #[56] ty #[.slice (some ⟨g, A.length * 2, none⟩) ((A ++ Z).length - A.length) (cap - A.length)]).run Tryz.prog w = .ok (.tuple #[]) w2) ∧ Owns encD 2 63 w2 base (.slice (some ⟨g, 0, none⟩) A.length cap) A ∧ Below base w w2 := by
  have hzl : 0 < Z.length := List.length_pos_iff.2 hz
  have hb := (World.ownsRow.lt h g rfl)
  rcases h with ⟨_, ⟨h0, _⟩ | ⟨g', cap', cur, hv, hg, hbk, h1, h2, h3, h4⟩⟩
  · cases h0
  simp only [Value.slice.injEq, Option.some.injEq, Addr.mk.injEq] at hv
  obtain ⟨⟨rfl, -⟩, -, rfl⟩ := hv
  have hal : (A ++ Z).length = A.length + Z.length := List.length_append
  have hbl : Arr.Blk w g 63 cur.toList := by unfold Arr.Blk; rw [hbk]
  obtain ⟨cs', k1, k2, k3⟩ := set_blk g 63 (List.replicate (Z.length * 2) (Value.int .i64 0)) (A.length * 2) w cur.toList hbl
  have hcl : cs'.length = cap * 2 := by rw [k2]; simpa using h3
  refine ⟨w.setCells g (A.length * 2) (List.replicate (Z.length * 2) (Value.int .i64 0)), fun ty => ?_, ?_, chg_below (set_chgs g _ _ w w (chg_refl _ w)) (fun k hk => by omega) (by omega)⟩
  · rw [show (A ++ Z).length - A.length = Z.length by omega]
    refine run_clear_d w ty g (A.length * 2) Z.length _ hzl (fun j hj => ?_) (fun j hj => Arr.blk_frozen hbl _)
    rw [Arr.blk_cell hbl]
    have h5 : cur.toList.length = cap * 2 := by simpa using h3
    have : A.length * 2 + j < cur.toList.length := by omega
    rw [List.getElem?_eq_getElem this]; rfl
  · refine ⟨by rw [flat_length encD_len], .inr ⟨g, cap, cs'.toArray, rfl, hg, k1, by omega, h2, by simpa using hcl, ?_⟩⟩
    have e1 : (flat encD A).length = A.length * 2 := flat_length encD_len A
    have e2 : cur.toList.take (A.length * 2) = flat encD A := by
      have e3 : (cur.toList.take ((A ++ Z).length * 2)).take (A.length * 2) = (flat encD (A ++ Z)).take (A.length * 2) := by rw [h4]
      rw [List.take_take, Nat.min_eq_left (by omega), flat_append, ← e1, List.take_left] at e3
      rw [e1] at e3
      exact e3
    rw [List.toList_toArray, k3 _ (Nat.le_refl _), e2]
set_option maxHeartbeats 8000000 in
theorem del_own (W : World) (base : Nat) (v : Value) (A Z : List Dw) (hO : Owns encD 2 63 W base v (A ++ Z)) (hbs : base ≤ W.heap.size) (hA : ∀ x ∈ A, x.amt ≠ 0) (hZ : ∀ x ∈ Z, x.amt = 0) :
    Calls Tryz.prog 128 #[v, .func (.func 134) #[] #[]] W fun e w' => ∃ v', e = .returned v' ∧ Owns encD 2 63 w' base v' A ∧ Below base W w' := by
  obtain ⟨a, c, rfl, hL⟩ := out_lst encD_len (.inl hO)
  have HI := Lib.hid (idx_any W a _ c A Z hL hA hZ)
  by_cases hz : Z = []
  · subst hz
    rw [List.append_nil] at *
    have hi : idxZ A [] = -1 := rfl
    rw [hi] at HI
    have HO := Lib.hid (And.intro hO hbs)
    clear hO hL hA hZ hi hbs
    go_enter Tryz.func128, Tryz.ntmps128
    go_wp2_with fail
    refine HI.out.mono ?_
    rintro e w2 ⟨rfl, hb2⟩
    have HB2 := Lib.hid (And.intro (Nest.own_on HO.out.1 hb2) (hb2.mono HO.out.2))
    clear hb2
    go_wp2_with fail
    go_ret
    exact ⟨_, rfl, HB2.out.1, HB2.out.2⟩
  · have hi : idxZ A Z = A.length := by unfold idxZ; rw [if_neg hz]
    rw [hi] at HI
    have hzl : 0 < Z.length := List.length_pos_iff.2 hz
    have hal : (A ++ Z).length = A.length + Z.length := List.length_append
    have hown : Owns encD 2 63 W base (.slice a (A ++ Z).length c) (A ++ Z) := hO
    obtain ⟨g, cap, hv, hg, hcap, hmx⟩ := owns_at encD_len hown (by omega)
    simp only [Value.slice.injEq, true_and] at hv
    obtain ⟨rfl, rfl⟩ := hv
    have HO := Lib.hid (And.intro hown (And.intro hbs (And.intro hZ hz)))
    obtain ⟨n, hn⟩ : ∃ n, n = (A ++ Z).length := ⟨_, rfl⟩
    have hcA : (A.length : Int) < (c : Int) := by omega
    have hnA : A.length < n := by omega
    have hm1 : n ≤ 9223372036854775807 := by unfold maxLen at hmx; omega
    have hcn : n ≤ c := by omega
    rw [← hn] at HI hL HO ⊢
    have HN := Lib.hid hn
    have HLs := Lib.hid hL
    obtain ⟨na, hna⟩ : ∃ na, na = A.length := ⟨_, rfl⟩
    rw [← hna] at HI hcA hnA
    have HNa := Lib.hid hna
    clear hO hL hA hZ hi hbs hown hg hcap hmx hzl hal hn hna hz
    go_enter Tryz.func128, Tryz.ntmps128
    go_wp2_with fail
    refine HI.out.mono ?_
    rintro e w2 ⟨rfl, hb2⟩
    have HB2 := Lib.hid hb2
    clear hb2 HI
    have hcne : ¬ c = na := by omega
    have hne : ((na : Int) == -1) = false := beq_false_of_ne (by omega)
    go_wp2_with fail
    go_loopw [5, 6] (fun i5 i wr => i5 = .int .i64 (na : Nat) ∧ ∃ k : Nat, na + 1 ≤ k ∧ k ≤ n ∧ i = .int .i64 (k : Nat) ∧ Below W.heap.size W wr) (fun _ i _ => n - (intOf i).toNat)
    case atStart => exact ⟨rfl, na + 1, Nat.le_refl _, by omega, by go_num, HB2.out⟩
    case round =>
      obtain ⟨rfl, k, hka, hk, rfl, hb⟩ := hrel
      have HB := Lib.hid hb
      clear hb
      by_cases hlt : k < n
      · have hkl : k < (A ++ Z).length := by rw [← HN.out]; exact hlt
        obtain ⟨q0, q1⟩ := draw_cells (lst_keep encD_len HLs.out HB.out) hkl
        simp only [Nat.zero_add] at q0 q1
        have hz : (A ++ Z)[k].amt = 0 := by
          rw [List.getElem_append_right (by have := HNa.out; omega)]
          exact HO.out.2.2.1 _ (List.getElem_mem _)
        generalize (A ++ Z)[k] = x at *
        have HC := Lib.hid (zero_any (wr.alloc (.cells #[.int .i64 x.alloc, .int .i64 x.amt] 63)) x true (beq_iff_eq.2 hz))
        obtain ⟨x0, x1⟩ := x
        simp only at q0 q1 HC
        have HB1 := Lib.hid (below_keep HB.out (below_alloc wr (.cells #[.int .i64 x0, .int .i64 x1] 63)))
        clear hz hkl
        go_wp2_with fail
        refine HC.out.mono ?_
        rintro e w3 ⟨rfl, hb3⟩
        have HB3 := Lib.hid (below_keep HB1.out hb3)
        clear hb3
        go_wp2_with fail
        go_roundw
        case rel => exact ⟨rfl, k + 1, by omega, by omega, by go_num, HB3.out⟩
        case measure => simp [intOf]; omega
      · obtain rfl : n = k := by omega
        obtain ⟨wz, hcl, ho2, hb2⟩ := own_clear (w := wr) (base := base) (g := g) (cap := c) (A := A) (Z := Z) (by rw [← HN.out]; exact Nest.own_on HO.out.1 HB.out) HO.out.2.2.2
        rw [← HN.out, ← HNa.out] at hcl
        rw [← HNa.out] at ho2
        have HE := Lib.hid (And.intro ho2 ((HB.out.mono HO.out.2.1).trans hb2))
        clear ho2 hb2
        go_wp2_with fail
        go_ret
        exact ⟨_, rfl, HE.out.1, HE.out.2⟩
end Go.Proofs.YtjcndgopijpibaaGreat.Drw
/- Draw: liened, spent and given back, the accounts are as they were (mathematics for DrawRound). -/
namespace Go.Proofs.YtjcndgopijpibaaGreat.Drw
open Mon
open Tre (Al path)
open Led
set_option linter.unusedVariables false
def Rich (B : Int) (al : List Al) : Prop := ∀ (i : Nat) (a : Al), al[i]? = some a → (0 ≤ a.avail ∧ a.avail ≤ B) ∧ (0 ≤ a.lien ∧ a.lien ≤ B) ∧ (0 ≤ a.spent ∧ a.spent ≤ B)
theorem part_same {l : List Dw} (h : ∀ d ∈ l, 0 ≤ d.amt) : Pair Part l l := pair_same fun d hd => ⟨rfl, h d hd, Int.le_refl _⟩
theorem part_fit {l k : List Dw} (h : Pair Part l k) : Pair Fit l k := pair_imp h fun d _ c _ hp => ⟨hp.1, fun h0 => by have := hp.2; omega⟩
structure Rnd (Y : List Al) (d : List Dw) : Prop where
  held : Held Y d
  rich : Rich 1125899906842624 Y
  few : Y.length ≤ 16
variable {Y : List Al} {d c : List Dw}
theorem of_books {l k : List Dw} {f t r : Int} (h : Pair Fit l k) (i : Nat) {q : Int} (hq : 1 ≤ q ∧ q ≤ 3) (hf : 1 ≤ f ∧ f ≤ 3) (ht : 1 ≤ t ∧ t ≤ 3) (hr : (1 ≤ r ∧ r ≤ 3) ∨ l = k) {K : Nat} (hK : (K : Int) = q + 3 * (i : Int)) : (of (legsD l k f t r) K).sum = (if t = q then ofD k i else 0) - (if f = q then ofD l i else 0) + (if r = q then ofD l i - ofD k i else 0) := by
  rw [legs_of f t r K h, hK, hit_at ht hq, hit_at hf hq]
  rcases hr with hr | hr
  · rw [hit_at hr hq, hit_at hr hq]
    by_cases h1 : r = q
    · rw [if_pos h1, if_pos h1, if_pos h1]
    · rw [if_neg h1, if_neg h1, if_neg h1]; omega
  · subst hr
    by_cases h1 : r = q
    · rw [if_pos h1]; omega
    · rw [if_neg h1]; omega
theorem of_world {l k : List Dw} {f t r : Int} (h : Pair Fit l k) (hf : 1 ≤ f) (ht : 1 ≤ t) (hr : 1 ≤ r ∨ l = k) (hl : ∀ d ∈ l, 0 ≤ d.alloc) (hk : ∀ d ∈ k, 0 ≤ d.alloc) : (of (legsD l k f t r) 0).sum = 0 := by
  rw [legs_of f t r 0 h, show ((0 : Nat) : Int) = 0 from rfl, hit_zero ht k hk, hit_zero hf l hl]
  rcases hr with hr | hr
  · rw [hit_zero hr l hl, hit_zero hr k hk]; rfl
  · subst hr; omega
theorem part_mem : ∀ {l k : List Dw}, Pair Part l k → ∀ y ∈ k, ∃ x ∈ l, Part x y
  | [], [], _, y, hy => by cases hy
  | d :: l, c :: k, h, y, hy => by
    rcases List.mem_cons.1 hy with e | hy
    · subst e; exact ⟨d, List.mem_cons_self .., h.1⟩
    · obtain ⟨x, hx, hp⟩ := part_mem h.2 y hy
      exact ⟨x, List.mem_cons_of_mem _ hx, hp⟩
  | [], _ :: _, h, _, _ => h.elim
  | _ :: _, [], h, _, _ => h.elim
end Go.Proofs.YtjcndgopijpibaaGreat.Drw
/- Book: accounts that are as they may be: none below 0, all together 0 (mathematics). -/
namespace Go.Proofs.YtjcndgopijpibaaGreat.Bok
open Go.RowKit
open Mon (fitsB fitsB_iff addE)
open Tre (inI Al Fd)
open Led
open Drw
open Ent (Tx)
open Snp (Sn)
set_option linter.unusedVariables false
theorem sum_take_pos : ∀ (l : List Int) (n : Nat), (∀ x ∈ l, 0 ≤ x) → 0 ≤ (l.take n).sum ∧ (l.take n).sum ≤ l.sum
  | [], n, _ => by simp
  | x :: l, 0, h => by
    have := (sum_take_pos l l.length fun y hy => h y (List.mem_cons_of_mem _ hy)).1
    rw [List.take_of_length_le (Nat.le_refl _)] at this
    have := h x (List.mem_cons_self ..)
    simp only [List.take_zero, List.sum_nil, List.sum_cons]
    omega
  | x :: l, n + 1, h => by
    have ih := sum_take_pos l n fun y hy => h y (List.mem_cons_of_mem _ hy)
    have := h x (List.mem_cons_self ..)
    simp only [List.take_succ_cons, List.sum_cons]
    omega
theorem sum_take_neg : ∀ (l : List Int) (n : Nat), (∀ x ∈ l, x ≤ 0) → (l.take n).sum ≤ 0 ∧ l.sum ≤ (l.take n).sum
  | [], n, _ => by simp
  | x :: l, 0, h => by
    have := (sum_take_neg l l.length fun y hy => h y (List.mem_cons_of_mem _ hy)).1
    rw [List.take_of_length_le (Nat.le_refl _)] at this
    have := h x (List.mem_cons_self ..)
    simp only [List.take_zero, List.sum_nil, List.sum_cons]
    omega
  | x :: l, n + 1, h => by
    have ih := sum_take_neg l n fun y hy => h y (List.mem_cons_of_mem _ hy)
    have := h x (List.mem_cons_self ..)
    simp only [List.take_succ_cons, List.sum_cons]
    omega
theorem leg_run {d c : Dw} (h : Part d c) (f t r : Int) (n : Nat) : -d.amt ≤ ((amts (legOf d c f t r)).take n).sum ∧ ((amts (legOf d c f t r)).take n).sum ≤ 0 := by
  obtain ⟨_, h1, h2⟩ := h
  unfold legOf amts
  by_cases h0 : d.amt = 0
  · rw [if_pos h0, h0]; simp
  · rw [if_neg h0]
    by_cases hc : c.amt = 0
    · rw [if_neg (by simpa using hc), if_pos (by omega), hc]
      match n with
      | 0 => simp; omega
      | 1 => simp; omega
      | n + 2 => simp; omega
    · rw [if_pos (by simpa using hc)]
      by_cases hr : d.amt - c.amt = 0
      · rw [if_neg (by simpa using hr)]
        match n with
        | 0 => simp; omega
        | 1 => simp; omega
        | n + 2 => simp; omega
      · rw [if_pos (by simpa using hr)]
        match n with
        | 0 => simp; omega
        | 1 => simp; omega
        | 2 => simp; omega
        | n + 3 => simp; omega
theorem leg_all {d c : Dw} (h : Part d c) (f t r : Int) : (amts (legOf d c f t r)).sum = 0 := by
  have := legs_sum f t r (l := [d]) (k := [c]) ⟨⟨h.1, fun h0 => by have := h.2; omega⟩, trivial⟩
  simpa [legsD] using this
theorem legs_run {M : Int} (hM : 0 ≤ M) (f t r : Int) : ∀ {l k : List Dw}, Pair Part l k → (∀ d ∈ l, d.amt ≤ M) → ∀ n : Nat, -M ≤ ((amts (legsD l k f t r)).take n).sum ∧ ((amts (legsD l k f t r)).take n).sum ≤ 0
  | [], [], _, _, n => by simp [legsD, amts]; omega
  | d :: l, c :: k, h, hl, n => by
    have ih := legs_run hM f t r h.2 (fun x hx => hl x (List.mem_cons_of_mem _ hx)) (n - (amts (legOf d c f t r)).length)
    have hd := hl d (List.mem_cons_self ..)
    have h1 := leg_run h.1 f t r n
    have h2 := leg_all h.1 f t r
    have e : amts (legsD (d :: l) (c :: k) f t r) = amts (legOf d c f t r) ++ amts (legsD l k f t r) := by rw [legsD]; unfold amts; rw [List.map_append]
    rw [e, List.take_append, List.sum_append]
    rcases Nat.lt_or_ge n (amts (legOf d c f t r)).length with hn | hn
    · rw [show n - (amts (legOf d c f t r)).length = 0 by omega, List.take_zero, List.sum_nil]
      omega
    · rw [List.take_of_length_le hn, h2]
      omega
  | [], _ :: _, h, _, _ => h.elim
  | _ :: _, [], h, _, _ => h.elim
theorem legs_way {f t r : Int} {l k : List Dw} (hp : Pair Part l k) (h1 : (f - t) % 3 ≠ 0) (h2 : (f - r) % 3 ≠ 0) (K : Nat) : (∀ x ∈ of (legsD l k f t r) K, 0 ≤ x) ∨ ∀ x ∈ of (legsD l k f t r) K, x ≤ 0 := by
  by_cases hK : ∃ a : Int, (K : Int) = f + 3 * a
  · obtain ⟨a, ha⟩ := hK
    refine .inr fun x hx => ?_
    obtain ⟨g, hg, e1, e2⟩ := mem_of hx
    obtain ⟨d, hd, c, hc, hdc, hg⟩ := legs_mem f t r hg
    have := hdc hp
    rcases hg with ⟨q1, q2, _⟩ | ⟨q1, q2, _⟩ | ⟨q1, q2, _⟩
    · have := this.2; omega
    · omega
    · omega
  · refine .inl fun x hx => ?_
    obtain ⟨g, hg, e1, e2⟩ := mem_of hx
    obtain ⟨d, hd, c, hc, hdc, hg⟩ := legs_mem f t r hg
    have := hdc hp
    rcases hg with ⟨q1, q2, _⟩ | ⟨q1, q2, _⟩ | ⟨q1, q2, _⟩
    · exact absurd ⟨d.alloc, by omega⟩ hK
    · have := this.2; omega
    · have := this.2; omega
theorem way_post {w : Int} {al : List Al} {legs : List Lg} (h1 : ∀ g ∈ legs, 1 ≤ g.acct ∧ g.acct < 1 + 3 * (al.length : Int) ∧ g.amt ≠ 0) (h2 : 1 ≤ legs.length) (h3 : legs.length ≤ 64)
    (h4 : ∀ n, -1152921504606846976 ≤ ((amts legs).take n).sum ∧ ((amts legs).take n).sum ≤ 0) (ha : ∀ g ∈ legs, -1152921504606846976 ≤ g.amt ∧ g.amt ≤ 1152921504606846976) (h5 : (amts legs).sum = 0)
    (way : ∀ k, (∀ x ∈ of legs k, 0 ≤ x) ∨ ∀ x ∈ of legs k, x ≤ 0)
    (books : ∀ k, 1 ≤ k → k < 1 + 3 * al.length → (0 ≤ (flatN w al).getD k 0 ∧ (flatN w al).getD k 0 ≤ 1152921504606846976) ∧ 0 ≤ (flatN w al).getD k 0 + (of legs k).sum ∧ (flatN w al).getD k 0 + (of legs k).sum ≤ 1152921504606846976) : postE w al legs = 0 := by
  rw [post_iff, pre_iff]
  refine ⟨⟨fun g hg => ?_, h2, h3, ?_, h5⟩, fun k hk => ?_⟩
  · obtain ⟨q1, q2, q3⟩ := h1 g hg
    exact ⟨by omega, by omega, q3⟩
  · rw [addE_iff]
    refine ⟨fun x hx => fitsB_iff.2 ?_, fun n _ => fitsB_iff.2 (by have := h4 (n + 1); omega)⟩
    unfold amts at hx
    obtain ⟨g, hg, e⟩ := List.mem_map.1 hx
    have := ha g hg
    omega
  · unfold acctE
    by_cases hn : named legs k = true
    · rw [if_pos hn]
      obtain ⟨g, hg, hk2⟩ := List.any_eq_true.1 hn
      have hk3 : g.acct = (k : Int) := by simpa using hk2
      have hk1 : 1 ≤ k := by have := (h1 g hg).1; omega
      obtain ⟨b1, b2, b3⟩ := books k hk1 hk
      have hadd : addE (mine (flatN w al) legs k) = 0 := by
        rw [addE_iff]
        unfold mine
        refine ⟨fun x hx => fitsB_iff.2 ?_, fun n _ => fitsB_iff.2 ?_⟩
        · rcases List.mem_cons.1 hx with e | hx
          · omega
          · obtain ⟨g, hg, _, e⟩ := mem_of hx
            have := ha g hg
            omega
        · rw [List.take_succ_cons, List.sum_cons]
          rcases way k with hw | hw
          · have := sum_take_pos _ n hw; omega
          · have := sum_take_neg _ n hw; omega
      rw [if_neg (by simpa using hadd), addN_sum hadd]
      have hs : (mine (flatN w al) legs k).sum = (flatN w al).getD k 0 + (of legs k).sum := by unfold mine; rw [List.sum_cons]
      rw [hs]
      have hb : ∀ z : Int, 0 ≤ z → bad k z = false := by
        intro z hz
        unfold bad
        simp
        omega
      rw [hb _ b2]; rfl
    · rw [if_neg hn]
structure Sol (w : Int) (al : List Al) : Prop where
  world : -1152921504606846976 ≤ w ∧ w ≤ 0
  pos : ∀ (i : Nat) (a : Al), al[i]? = some a → 0 ≤ a.avail ∧ 0 ≤ a.lien ∧ 0 ≤ a.spent
  sum : (flatN w al).sum = 0
def whole (al : List Al) : List Int := al.map fun a => a.avail + a.lien + a.spent
theorem flat_whole (w : Int) : ∀ al : List Al, (flatN w al).sum = w + (whole al).sum
  | [] => by simp [flatN, whole]
  | a :: al => by
    have ih := flat_whole w al
    unfold flatN whole three at *
    simp only [List.flatMap_cons, List.sum_cons, List.sum_append, List.map_cons, List.sum_nil] at *
    omega
theorem mem_le_sum : ∀ {l : List Int} {x : Int}, (∀ y ∈ l, 0 ≤ y) → x ∈ l → x ≤ l.sum
  | y :: l, x, h, hx => by
    have h0 := (sum_take_pos l l.length fun z hz => h z (List.mem_cons_of_mem _ hz)).1
    rw [List.take_of_length_le (Nat.le_refl _)] at h0
    have h1 := h y (List.mem_cons_self ..)
    rw [List.sum_cons]
    rcases List.mem_cons.1 hx with e | hx
    · omega
    · have := mem_le_sum (fun z hz => h z (List.mem_cons_of_mem _ hz)) hx
      omega
theorem sol_le {w : Int} {al : List Al} (h : Sol w al) : (whole al).sum ≤ 1152921504606846976 ∧ ∀ (i : Nat) (a : Al), al[i]? = some a → 0 ≤ a.avail ∧ 0 ≤ a.lien ∧ 0 ≤ a.spent ∧ a.avail + a.lien + a.spent ≤ 1152921504606846976 := by
  have hs := flat_whole w al
  rw [h.sum] at hs
  have hw := h.world
  refine ⟨by omega, fun i a ha => ?_⟩
  obtain ⟨p1, p2, p3⟩ := h.pos i a ha
  refine ⟨p1, p2, p3, ?_⟩
  have := mem_le_sum (l := whole al) (x := a.avail + a.lien + a.spent) (fun y hy => by
    obtain ⟨b, hb, e⟩ := List.mem_map.1 hy
    obtain ⟨j, hj⟩ := List.getElem?_of_mem hb
    have := h.pos j b hj
    omega) (List.mem_map.2 ⟨a, List.mem_of_getElem? ha, rfl⟩)
  omega
theorem sol_none : Sol 0 [] := ⟨by omega, fun i a h => by simp at h, rfl⟩
theorem sol_new {w : Int} {al : List Al} (h : Sol w al) (f a b : Int) : Sol w (al ++ [⟨f, a, b, 0, 0, 0⟩]) := by
  refine ⟨h.world, fun i x hx => ?_, by rw [flat_sum_snoc, h.sum]; simp⟩
  rcases Nat.lt_or_ge i al.length with hi | hi
  · rw [List.getElem?_append_left hi] at hx; exact h.pos i x hx
  · rw [List.getElem?_append_right hi] at hx
    have hx2 : x ∈ [(⟨f, a, b, 0, 0, 0⟩ : Al)] := List.mem_of_getElem? hx
    rw [List.mem_singleton] at hx2; subst hx2
    simp
theorem acct_good {w : Int} {al : List Al} {legs : List Lg} (h : postE w al legs = 0) {k : Nat} (hk : k < 1 + 3 * al.length) : acctN (flatN w al) legs k = (flatN w al).getD k 0 ∨ (fitsB (acctN (flatN w al) legs k) = true ∧ bad k (acctN (flatN w al) legs k) = false) := by
  have hE := (post_iff.1 h).2 k hk
  have hb := post_acct h hk
  cases hn : named legs k with
  | false => exact .inl (hb.1 hn)
  | true =>
    refine .inr ⟨?_, hb.2 hn⟩
    obtain ⟨u1, u2, u3, u4⟩ := acct_cases (fl := flatN w al) hn
    by_cases he : addE (mine (flatN w al) legs k) = 0
    · rw [u4, addN_sum he]
      have := (addE_iff.1 he).2 ((mine (flatN w al) legs k).length - 1) (by unfold mine; simp)
      rw [List.take_of_length_le (by omega)] at this
      exact this
    · rw [u1 he] at hE; cases hE
theorem sol_post {w : Int} {al : List Al} {legs : List Lg} (hs : Sol w al) (h : postE w al legs = 0) : Sol (postW w al legs) (postA w al legs) := by
  have hF : ∀ k, k < 1 + 3 * al.length → (postF w al legs).getD k 0 = acctN (flatN w al) legs k := fun k hk => getD_at (postF_at w al legs hk)
  have hp : ∀ (k : Nat) (v : Int), 1 ≤ k → k < 1 + 3 * al.length → (flatN w al).getD k 0 = v → 0 ≤ v → 0 ≤ (postF w al legs).getD k 0 := fun k v h1 hk e hv => by
    rw [hF k hk]
    rcases acct_good h hk with g | ⟨_, g⟩
    · omega
    · unfold bad at g
      simp at g
      omega
  refine ⟨?_, fun i a ha => ?_, by rw [post_flat h, post_zero h, hs.sum]⟩
  · rw [postW_ok h, hF 0 (by omega)]
    rcases acct_good h (k := 0) (by omega) with g | ⟨g1, g2⟩
    · rw [g]; exact hs.world
    · have := fitsB_iff.1 g1
      unfold bad at g2
      simp at g2
      omega
  · rw [postA_ok h] at ha
    have hl := (List.getElem?_eq_some_iff.1 ha).1
    rw [setA_len] at hl
    have hb := List.getElem?_eq_getElem hl
    rw [setA_at hb] at ha
    injection ha with ha
    subst ha
    obtain ⟨g1, g2, g3⟩ := flat_at al i al[i] w hb
    obtain ⟨p1, p2, p3⟩ := hs.pos i _ hb
    unfold setOne
    exact ⟨hp _ _ (by omega) (by omega) (getD_at g1) p1, hp _ _ (by omega) (by omega) (getD_at g2) p2, hp _ _ (by omega) (by omega) (getD_at g3) p3⟩
theorem do_sol {s : Sn} {t : Tx} (h : doE s t = 0) (hs : Sol s.world s.allocs) : Sol (doS s t).world (doS s t).allocs := by
  have hk : Sol (kindS s t).world (kindS s t).allocs := by
    unfold kindS
    by_cases k7 : t.kind < 7
    · rw [if_pos k7]
      unfold bankS
      by_cases k1 : t.kind = 1
      · rw [if_pos k1]; exact hs
      rw [if_neg k1]
      by_cases k2 : t.kind = 2
      · rw [if_pos k2]; exact sol_new hs _ _ _
      rw [if_neg k2]
      by_cases k6 : t.kind = 6
      · rw [if_pos k6]; exact hs
      rw [if_neg k6]; exact hs
    rw [if_neg k7]
    by_cases k8 : t.kind = 7
    · rw [if_pos k8]; exact hs
    rw [if_neg k8]
    by_cases k15 : t.kind < 15
    · rw [if_pos k15]
      unfold jobsS
      split <;> exact hs
    rw [if_neg k15]; exact hs
  rw [doS_ok h]
  show Sol (posted _ _).world (posted _ _).allocs
  unfold posted
  rcases do_legs h with e | e
  · rw [if_pos e]; exact hk
  · by_cases hl : kindL s t = []
    · rw [if_pos hl]; exact hk
    · rw [if_neg hl]; exact sol_post hk e
end Go.Proofs.YtjcndgopijpibaaGreat.Bok
