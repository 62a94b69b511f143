/- Profile, the landed: changes in memory, and how they are sorted. -/
import Derived.Test.YtckebhknnocpkaaPrfChg
import Derived.Test.YtckebhknnocpkaaPrfMem
import Derived.Test.YtckebhknnocpkaaPrfSlf
import Derived.Test.YtckebhknnocpkaaSrtK
import Derived.Test.YtckebhknnocpkaaCmpOne
import Derived.Test.YtckebhknnocpkaaPut
namespace Go.Proofs.Ytckebhknnocpkaa.Prf
set_option maxRecDepth 100000
open Go.RowKit
open Go.Sort
open Go.Shelf
open Kit
open Cmp
open Tre (Lst inI lst_keep lst_take lst_at lst_new lst_none i64_wf cells_int)
set_option linter.unusedVariables false
variable {w w' : World}

def encCh (s : Ch) : List Value := [.int .i64 s.tick, .int .i64 s.more]
theorem encCh_len (s : Ch) : (encCh s).length = 2 := rfl
theorem encCh_one (x : Ch) : ∀ u ∈ encCh x, u.oneCell' = true := by
  intro u hu
  simp [encCh] at hu
  rcases hu with rfl | rfl <;> rfl
abbrev Chs := Lst encCh 2
theorem ch_cells {b o n c k : Nat} {l : List Ch} (h : Chs w (some ⟨b, o, none⟩) n c l) (hk : k < l.length) :
    w.cell? ⟨b, o + k * 2, none⟩ = some (.int .i64 l[k].tick) ∧ w.cell? ⟨b, o + k * 2 + 1, none⟩ = some (.int .i64 l[k].more) :=
  ⟨row_cell h.row hk rfl (i := 0) (by omega), row_cell h.row hk rfl (i := 1) (by omega)⟩
theorem info_ch : (Try.prog.info? 53).map (fun i => (i.zero, i.size, i.bytes)) = some (some (.agg #[.int .i64 0, .int .i64 0]), 2, 16) := by kernel_rfl
abbrev OwC (w : World) (base : Nat) (v : Value) (l : List Ch) : Prop := Owns encCh 2 53 w base v l
theorem own_chs {base : Nat} {v : Value} {l : List Ch} (h : OwC w base v l) : ∃ a c, v = .slice a l.length c ∧ Chs w a l.length c l := by
  obtain ⟨a, c, hv, hc, hm, hn, hrow⟩ := owns_row encCh_len h
  exact ⟨a, c, hv, rfl, hc, hm, fun e => ⟨by have := hn e; omega, hn e⟩, hrow⟩
theorem own_keepC {base : Nat} {v : Value} {l : List Ch} (h : OwC w base v l) (hb : Below w.heap.size w w') : OwC w' base v l := Nest.own_on h hb
theorem own_litC (w : World) (base : Nat) (x : Ch) (hb : base ≤ w.heap.size) : OwC (w.alloc (.cells #[.int .i64 x.tick, .int .i64 x.more] 53)) base (.slice (some ⟨w.heap.size, 0, none⟩) 1 1) [x] :=
  ⟨by simp [flat, encCh], .inr ⟨w.heap.size, 1, _, rfl, hb, heap_alloc_new w _, Nat.le_refl _, by unfold maxLen; omega, by simp, by simp [flat, encCh]⟩⟩
theorem row_c1 (w : World) (x : Ch) : Kit.Row encCh 2 (w.alloc (.cells #[.int .i64 x.tick, .int .i64 x.more] 53)) (some ⟨w.heap.size, 0, none⟩) [x] := row_new encCh_len w [x] _ _ _ rfl rfl
theorem row_c2 (w : World) (x y : Ch) : Kit.Row encCh 2 (w.alloc (.cells #[.int .i64 x.tick, .int .i64 x.more, .int .i64 y.tick, .int .i64 y.more] 53)) (some ⟨w.heap.size, 0, none⟩) [x, y] := row_new encCh_len w [x, y] _ _ _ rfl rfl

/-! ### The comparison -/

def cfC (x y : Ch) : Int := cmpI x.tick y.tick
theorem cfC_lt (x y : Ch) : ltOf cfC x y = decide (x.tick < y.tick) := by
  unfold ltOf cfC cmpI
  by_cases h : x.tick < y.tick
  · simp [h]
  · by_cases h2 : y.tick < x.tick
    · simp [h, h2]
    · simp [h, h2]
theorem cfC_swo : SWO (ltOf cfC) where
  irrefl x := by rw [cfC_lt]; simp
  trans x y z h1 h2 := by rw [cfC_lt, decide_eq_true_eq] at *; omega
  ntrans x y z h1 h2 := by rw [cfC_lt, decide_eq_false_iff_not] at *; omega
set_option maxHeartbeats 4000000 in
theorem clos_any (W : World) (x y : Ch) : Calls Try.prog 25 #[.agg (encCh x).toArray, .agg (encCh y).toArray] W fun e w' => e = .returned (.int .i64 (cfC x y)) ∧ Below W.heap.size W w' ∧ W.drawn ≤ w'.drawn := by
  obtain ⟨x0, x1⟩ := x
  obtain ⟨y0, y1⟩ := y
  have hb1 := below_alloc W (.cells #[.int .i64 x0, .int .i64 x1] 53)
  have hb2 := below_alloc (W.alloc (.cells #[.int .i64 x0, .int .i64 x1] 53)) (.cells #[.int .i64 y0, .int .i64 y1] 53)
  have HB := Lib.hid (below_keep hb1 hb2)
  have HC := Lib.hid (show cfC ⟨x0, x1⟩ ⟨y0, y1⟩ = cmpI x0 y0 from rfl)
  clear hb1 hb2
  unfold encCh
  go_enter Try.func25, Try.ntmps25
  go_wp2_with fail
  refine (compare_any x0 y0 _).mono ?_
  rintro e w1 ⟨rfl, rfl⟩
  go_wp2_with fail
  go_ret
  exact ⟨by rw [HC.out]; rfl, HB.out, Nat.le_refl _⟩

/-! ### Sorted -/

theorem sorted_any {base : Nat} {v : Value} {l : List Ch} (hown : OwC w base v l) (hl : 0 < l.length) (hmx : l.length ≤ 100000) :
    Calls Try.prog 24 #[v, .func (.func 25) #[] #[]] w fun ex w' => ex = .returned (.tuple #[]) ∧ ∃ l' : List Ch, l'.Perm l ∧ l'.Pairwise (fun x y => x.tick ≤ y.tick) ∧ OwC w' base v l' ∧ w.grownBy w' v.ownBlock := by
  refine (Stk.sort_any Slf.sort_lays Try.isAgg53 Try.sizeOf53 encCh_len encCh_one cfC cfC_swo 25 (enters_of Try.func25 (by kernel_rfl) rfl) clos_any hown hl hmx).mono ?_
  rintro ex w' ⟨rfl, l', h1, h2, h3, h4⟩
  exact ⟨rfl, l', h1, h2.imp (fun h => by rw [cfC_lt, decide_eq_false_iff_not] at h; omega), h3, h4⟩
end Go.Proofs.Ytckebhknnocpkaa.Prf
