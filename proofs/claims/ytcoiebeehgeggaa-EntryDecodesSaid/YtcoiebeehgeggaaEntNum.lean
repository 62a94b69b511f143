/- Entry: the document's numbers. -/
import Derived.Test.YtcoiebeehgeggaaEntBox
import Derived.Test.YtcoiebeehgeggaaOctPos
import Derived.Test.YtcoiebeehgeggaaNest
import Derived.BigFrame
import Derived.BigQuiet
import Derived.Deep.DeepCutAuto
import Derived.Deep.CutBlock
import Derived.WalkLawsBesides
import Derived.LoopTactic
namespace Go.Proofs.Ytcoiebeehgeggaa.Ent
set_option maxRecDepth 100000
open Go.RowKit
open Go.Sort
open Kit
open Oct
open Tre (Lst inI lst_keep lst_take lst_at lst_new lst_none i64_wf cells_int IntsL int_cell encI encI_len encI_one OwI own_chg' info_i run_ld2 lit_row)
open Led (Lg encG encG_len encG_one Legs leg_cells)
set_option linter.unusedVariables false
variable {w w' : World}

theorem rInts_dead : ∀ (d n : Nat) (s : RS), (rInts n s).2 = none → (rInts (n + d) s).2 = none
  | 0, n, s, h => h
  | d + 1, n, s, h => by
    rw [show n + (d + 1) = (n + d) + 1 by omega, rInts_snoc, rInts_dead d n s h]
    rfl
theorem pos_neg {l : List UInt8} {s : RS} {p : Int} (h : Pos l s p) : (p < 0 → s = none ∧ p = -1) ∧ (0 ≤ p → ∃ r, s = some r) := by
  rcases h with ⟨rfl, rfl⟩ | ⟨q, _, rfl, rfl⟩
  · exact ⟨fun _ => ⟨rfl, rfl⟩, fun h => by omega⟩
  · exact ⟨fun h => by omega, fun _ => ⟨_, rfl⟩⟩
theorem pos_le {l : List UInt8} {s : RS} {p : Int} (h : Pos l s p) : -1 ≤ p ∧ p ≤ (l.length : Int) := by
  rcases h with ⟨rfl, rfl⟩ | ⟨q, hq, rfl, rfl⟩
  · exact ⟨Int.le_refl _, by omega⟩
  · exact ⟨by omega, by omega⟩
theorem own_none (w : World) (base : Nat) (hb : base ≤ w.heap.size) : OwI (w.alloc (.cells #[] 3)) base (.slice (some ⟨w.heap.size, 0, none⟩) 0 0) [] :=
  ⟨rfl, .inr ⟨w.heap.size, 0, _, rfl, hb, heap_alloc_new w _, Nat.le_refl _, by unfold maxLen; omega, rfl, rfl⟩⟩
/-- Numbers that were read, or none. -/
def GotI (w : World) (base : Nat) (v : Value) (l : List Int) (q : Int) : Prop := (0 ≤ q ∧ OwI w base v l) ∨ (q = -1 ∧ v = .slice none 0 0)

set_option maxHeartbeats 4000000 in
theorem rnumbers_any {l : List UInt8} {s : RS} {p : Int} (a : Option Addr) (len cap k : Nat) (w : World) (hl : l.length = len) (hm : len ≤ 140737488351232) (hE : RowB w a l) (h : Pos l s p) (hk : k ≤ 200) (hk0 : 1 ≤ k ∨ 0 ≤ p) :
    Calls Try.prog 21 #[.slice a len cap, .int .i64 p, .int .i64 (k : Nat)] w fun e w' => ∃ v q, e = .returned (.tuple #[v, .int .i64 q]) ∧ Pos l (rInts k s).2 q ∧ GotI w' w.heap.size v (rInts k s).1 q ∧ Below w.heap.size w w' := by
  have HE := Lib.hid (And.intro hE hl)
  have HP := Lib.hid (And.intro h hk0)
  have HN0 := Lib.hid (own_none w w.heap.size (Nat.le_refl _))
  have HB0 := Lib.hid (below_alloc w (.cells #[] 3))
  clear hE hl h hk0
  go_enter Try.func21, Try.ntmps21
  go_wp2_with fail
  go_loopw [1, 8, 9] (fun pv v iv wr => ∃ (j : Nat) (q : Int), j ≤ k ∧ pv = .int .i64 q ∧ iv = .int .i64 (j : Nat) ∧ Pos l (rInts j s).2 q ∧ (0 ≤ q ∨ (j = 0 ∧ 1 ≤ k)) ∧ OwI wr w.heap.size v (rInts j s).1 ∧ Below w.heap.size w wr) (fun _ _ iv _ => k - (intOf iv).toNat)
  case atStart => exact ⟨0, p, Nat.zero_le _, rfl, rfl, HP.out.1, by have := HP.out.2; omega, HN0.out, HB0.out⟩
  case round =>
    obtain ⟨j, q, hj, rfl, rfl, hpos, hq0, hown, hb⟩ := hrel
    have HO := Lib.hid (And.intro hpos (And.intro hown (And.intro hb hq0)))
    clear hpos hown hb hq0
    by_cases hlt : j < k
    · have HNu := Lib.hid (number_pos a len cap wr HE.out.2 hm (row_keep encB_len HE.out.1 HO.out.2.2.1) HO.out.1)
      go_wp2_with fail
      refine HNu.out.mono ?_
      rintro e w1 ⟨N, s', n, rfl, hri, hpn, rfl⟩
      have hsn := rInts_snoc j s
      rw [hri] at hsn
      by_cases hn : n < 0
      · have HD := Lib.hid (show (rInts k s).2 = none by
          have h1 : (rInts (j + 1) s).2 = none := by rw [hsn]; exact ((pos_neg hpn).1 hn).1
          have h2 := rInts_dead (k - (j + 1)) (j + 1) s h1
          rwa [show j + 1 + (k - (j + 1)) = k by omega] at h2)
        clear hsn hri hpn
        go_wp2_with fail
        go_ret2
        exact ⟨_, -1, rfl, by rw [HD.out]; exact pos_none l, .inr ⟨rfl, rfl⟩, HO.out.2.2.1⟩
      · have HS := Lib.hid (And.intro hsn hpn)
        have hn0 : 0 ≤ n := by omega
        have hlx : (rInts j s).1.length ≤ 200 := by rw [rInts_len]; omega
        obtain ⟨lx, hx⟩ : ∃ y, y = (rInts j s).1 := ⟨_, rfl⟩
        rw [← hx] at HO HS hlx
        have HA1 := Lib.hid (own_chg' HO.out.2.1 (below_alloc wr (.cells #[.int .i64 N] 3)))
        have HA2 := Lib.hid (lit_row wr N)
        have HA3 := Lib.hid (below_keep HO.out.2.2.1 (below_alloc wr (.cells #[.int .i64 N] 3)))
        have HD1 := Lib.hid (show lx.length + 1 ≤ maxLen by unfold maxLen; omega)
        have HD2 := Lib.hid (show (lx.length + 1) * 8 ≤ 140737488355328 by omega)
        clear hx hlx hsn hri hpn
        go_wp2_with (first | (at_builtin; refine Two.append_apart encI_len Nat.zero_lt_one encI_one rfl (.tmp 26) (.tmp 28) 22 3 rfl Try.underlying22 (.int .i64 0) 8 info_i rfl w.heap.size _ lx rfl HA1.out (some ⟨wr.heap.size, 0, none⟩) 1 1 [N] rfl rfl HA2.out (fun h => by cases h) HD1.out HD2.out HA3.out.size ?_; intro v9 w9 ho9 hg9 hx9; have HB9 := Lib.hid (HA3.out.trans (Two.below_grown HA1.out hg9 HA3.out.size)); have HO9 := Lib.hid ho9; clear ho9 hg9 hx9) | fail)
        go_roundw
        case rel => exact ⟨j + 1, n, by omega, rfl, by go_num, by rw [HS.out.1]; exact HS.out.2, .inl hn0, by rw [HS.out.1]; exact HO9.out, HB9.out⟩
        case measure => simp [intOf]; omega
    · obtain rfl : j = k := by omega
      have hq0 : 0 ≤ q := by have := HO.out.2.2.2; omega
      go_wp2_with fail
      go_ret2
      exact ⟨_, q, rfl, HO.out.1, .inl ⟨hq0, HO.out.2.1⟩, HO.out.2.2.1⟩
end Go.Proofs.Ytcoiebeehgeggaa.Ent
