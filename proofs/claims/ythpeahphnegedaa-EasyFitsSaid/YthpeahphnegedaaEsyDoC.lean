/- Easy, the landed: the places that count. -/
import Derived.Test.YthpeahphnegedaaEsyDoM
import Derived.Test.YthpeahphnegedaaOneArm
import Derived.Test.YthpeahphnegedaaIntMem
import Derived.BigFrame
import Derived.BigQuiet
import Derived.Deep.DeepCutAuto
import Derived.Deep.CutBlock
import Derived.WalkLawsBesides
import Derived.LoopTactic
namespace Go.Proofs.Ythpeahphnegedaa.Esy
set_option maxRecDepth 100000
open Go.RowKit
open Go.Sort
open Kit
open Tre (Lst inI lst_keep lst_take lst_at lst_new lst_none encI encI_len encI_one OwI own_chg' info_i int_cell)
open Prf (Bz newF Nd Tk Busys encZ encZ_len)
open Go.Proofs.Ythpeahphnegedaa.Ord (Aq Asks encQ encQ_len ask_cells info_ask)
set_option linter.unusedVariables false
variable {w w' : World}

def ints (l : List Nat) : List Int := l.map (fun (k : Nat) => (k : Int))
theorem ints_snoc (l : List Nat) (k : Nat) : ints (l ++ [k]) = ints l ++ [(k : Int)] := by unfold ints; rw [List.map_append]; rfl
theorem ints_len (l : List Nat) : (ints l).length = l.length := by unfold ints; rw [List.length_map]
theorem tyI : Nest.Ty encI 1 Try.prog 40 3 (.int .i64 0) 8 := ⟨encI_len, by omega, encI_one, Try.underlying40, info_i, rfl⟩

set_option maxHeartbeats 16000000 in
theorem counting_any (W : World) (total : Int) (a2 : Option Addr) (n2 c2 : Nat) (q : List Aq) (a3 : Option Addr) (n3 c3 : Nat) (rf : List Bool) (hQ : Asks W a2 n2 c2 q) (hn2 : n2 ≤ 100) (hO : Bools W a3 n3 c3 rf) :
    Calls Try.prog 15 #[.int .i64 total, .slice a2 n2 c2, .slice a3 n3 c3] W fun e W' => ∃ v, e = .returned v ∧ OwI W' W.heap.size v (ints (plc total q rf n2)) ∧ Below W.heap.size W W' := by
  have HL := Lib.hid (And.intro hQ (And.intro hQ.len (And.intro hO hO.len)))
  clear hQ hO
  go_enter Try.func15, Try.ntmps15
  go_wp2_with fail
  go_loopw [7, 13] (fun v i wr => ∃ k : Nat, k ≤ n2 ∧ i = .int .i64 (k : Nat) ∧ OwI wr W.heap.size v (ints (plc total q rf k)) ∧ Below W.heap.size W wr) (fun _ i _ => n2 - (intOf i).toNat)
  case atStart => exact ⟨0, Nat.zero_le _, rfl, owns_nil _ _ _, Below.refl _ _⟩
  case round =>
    obtain ⟨k, hk, rfl, hown, hb⟩ := hrel
    have HO := Lib.hid (And.intro hown hb)
    by_cases hlt : k < n2
    · have hkl : k < q.length := by rw [HL.out.2.1]; exact hlt
      obtain ⟨b, o, rfl⟩ := lst_at HL.out.1 (by omega)
      obtain ⟨q0, q1⟩ := ask_cells (lst_keep encQ_len HL.out.1 HO.out.2) hkl
      have hx := List.getElem?_eq_getElem hkl
      generalize q[k] = x at *
      obtain ⟨x0, x1⟩ := x
      simp only at q0 q1
      have HC := Lib.hid (show cN total q rf k = (!(rf.getD k false) && decide (x0 ≤ total)) by unfold cN; rw [hx]; rfl)
      have hb1 := below_alloc wr (.cells #[.int .i64 x0, .int .i64 x1] 35)
      have HA := Lib.hid (And.intro (own_chg' HO.out.1 hb1) (below_keep HO.out.2 hb1))
      have hlen := plc_len (total := total) (q := q) (rf := rf) k
      rw [← ints_len] at hlen
      obtain ⟨ly, hy⟩ : ∃ ly, ly = ints (plc total q rf k) := ⟨_, rfl⟩
      have HYs := Lib.hid (show cN total q rf k = true → ints (plc total q rf (k + 1)) = ly ++ [(k : Int)] from fun h => by rw [plc_yes h, ints_snoc, hy])
      have HYn := Lib.hid (show cN total q rf k = false → ints (plc total q rf (k + 1)) = ly from fun h => by rw [plc_no h, hy])
      rw [← hy] at HA hlen
      have HD := Lib.hid (show ly.length + 1 ≤ 100000 by omega)
      have HB3 := lst_keep encO_len HL.out.2.2.1 (below_keep HO.out.2 hb1)
      have hr : (k < n3 ∧ ∃ b3 o3, a3 = some ⟨b3, o3, none⟩ ∧ (wr.alloc (.cells #[.int .i64 x0, .int .i64 x1] 35)).cell? ⟨b3, o3 + k, none⟩ = some (.bool (rf.getD k false))) ∨ (¬ k < n3 ∧ rf.getD k false = false) := by
        have h3l := HL.out.2.2.2
        by_cases hk3 : k < n3
        · obtain ⟨b3, o3, rfl⟩ := lst_at HL.out.2.2.1 (by omega)
          have r0 := bool_cell HB3 (show k < rf.length by omega)
          have hgd : rf.getD k false = rf[k]'(by omega) := by rw [List.getD_eq_getElem?_getD, List.getElem?_eq_getElem (by omega)]; rfl
          rw [← hgd] at r0
          exact .inl ⟨hk3, b3, o3, rfl, r0⟩
        · exact .inr ⟨hk3, by rw [List.getD_eq_getElem?_getD, List.getElem?_eq_none (by omega)]; rfl⟩
      clear hown hb hx hb1 hy hlen hkl HB3
      generalize rf.getD k false = r at *
      rcases hr with ⟨hk3, b3, o3, rfl, r0⟩ | ⟨hk3, rfl⟩
      · have hk3i : (k : Int) < (n3 : Int) := by omega
        cases r
        · by_cases hle : x0 ≤ total
          · have HE := Lib.hid (HYs.out (by rw [HC.out]; simpa using hle))
            go_wp2_with (first | (at_builtin; refine Nest.many_arm tyI rfl (.tmp 36) (.tmp 38) rfl (wr.alloc (.cells #[.int .i64 x0, .int .i64 x1] 35)) #[.int .i64 (k : Int)] rfl [(k : Int)] 1 rfl rfl W.heap.size _ ly rfl HA.out.1 (wr.heap.size + 1) (by simp) rfl HD.out (by omega) HA.out.2.size ?_; intro v9 w9 ho hbb _; have H9 := Lib.hid (And.intro ho (HA.out.2.trans hbb)); clear ho hbb) | fail)
            go_roundw
            case rel => exact ⟨k + 1, by omega, by go_num, by rw [HE.out]; exact H9.out.1, H9.out.2⟩
            case measure => simp [intOf]; omega
          · have HE := Lib.hid (HYn.out (by rw [HC.out]; simpa using hle))
            have hlf : decide (x0 ≤ total) = false := decide_eq_false hle
            go_wp2_with fail
            go_roundw
            case rel => exact ⟨k + 1, by omega, by go_num, by rw [HE.out]; exact HA.out.1, HA.out.2⟩
            case measure => simp [intOf]; omega
        · have HE := Lib.hid (HYn.out (by rw [HC.out]; rfl))
          go_wp2_with fail
          go_roundw
          case rel => exact ⟨k + 1, by omega, by go_num, by rw [HE.out]; exact HA.out.1, HA.out.2⟩
          case measure => simp [intOf]; omega
      · have hk3i : ¬ (k : Int) < (n3 : Int) := by omega
        by_cases hle : x0 ≤ total
        · have HE := Lib.hid (HYs.out (by rw [HC.out]; simpa using hle))
          go_wp2_with (first | (at_builtin; refine Nest.many_arm tyI rfl (.tmp 36) (.tmp 38) rfl (wr.alloc (.cells #[.int .i64 x0, .int .i64 x1] 35)) #[.int .i64 (k : Int)] rfl [(k : Int)] 1 rfl rfl W.heap.size _ ly rfl HA.out.1 (wr.heap.size + 1) (by simp) rfl HD.out (by omega) HA.out.2.size ?_; intro v9 w9 ho hbb _; have H9 := Lib.hid (And.intro ho (HA.out.2.trans hbb)); clear ho hbb) | fail)
          go_roundw
          case rel => exact ⟨k + 1, by omega, by go_num, by rw [HE.out]; exact H9.out.1, H9.out.2⟩
          case measure => simp [intOf]; omega
        · have HE := Lib.hid (HYn.out (by rw [HC.out]; simpa using hle))
          have hlf : decide (x0 ≤ total) = false := decide_eq_false hle
          go_wp2_with fail
          go_roundw
          case rel => exact ⟨k + 1, by omega, by go_num, by rw [HE.out]; exact HA.out.1, HA.out.2⟩
          case measure => simp [intOf]; omega
    · obtain rfl : k = n2 := by omega
      go_wp2_with fail
      go_ret
      exact ⟨_, rfl, HO.out.1, HO.out.2⟩
end Go.Proofs.Ythpeahphnegedaa.Esy
