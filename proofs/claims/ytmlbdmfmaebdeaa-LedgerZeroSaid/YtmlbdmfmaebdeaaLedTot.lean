/- Ledger, the landed: Total. -/
import Derived.Test.YtmlbdmfmaebdeaaLedAns
import Derived.Test.YtmlbdmfmaebdeaaOneArm
namespace Go.Proofs.Ytmlbdmfmaebdeaa.Led
set_option maxRecDepth 100000
open Go.RowKit
open Go.Sort
open Kit
open Mon
open Tre
set_option linter.unusedVariables false
variable {w w' : World}

theorem flat_takeT {wd : Int} {al : List Al} {k : Nat} {a : Al} (h : al[k]? = some a) : flatN wd (al.take (k + 1)) = flatN wd (al.take k) ++ [a.avail, a.lien, a.spent] := by
  have hk := (List.getElem?_eq_some_iff.1 h).1
  have he : al[k] = a := (List.getElem?_eq_some_iff.1 h).2
  rw [List.take_succ_eq_append_getElem hk, he, flat_snoc]
  simp
set_option maxHeartbeats 4000000 in
theorem total_any (W : World) (wd : Int) (a : Option Addr) (n c : Nat) (al : List Al) (hw : inI wd) (hA : Allocs W a n c al) (hok : ∀ x ∈ al, x.ok) (hn : n ≤ 100) :
    Calls Try.prog 16 #[.int .i64 wd, .slice a n c] W fun e W' => e = .returned (.tuple #[.int .i64 (addN (flatN wd al)), .int .i64 (addE (flatN wd al))]) ∧ Below W.heap.size W W' := by
  have HL := Lib.hid (And.intro hA hA.len)
  clear hA hok
  go_enter Try.func16, Try.ntmps16
  go_wp2_with fail
  go_loopw [6, 13] (fun v i wr => ∃ k : Nat, k ≤ n ∧ i = .int .i64 (k : Nat) ∧ OwI wr W.heap.size v (flatN wd (al.take k)) ∧ Below W.heap.size W wr) (fun _ i _ => n - (intOf i).toNat)
  case atStart => exact ⟨0, Nat.zero_le _, rfl, owns_lit W wd W.heap.size (Nat.le_refl _), below_alloc _ _⟩
  case round =>
    obtain ⟨k, hk, rfl, hown, hb⟩ := hrel
    have HO := Lib.hid (And.intro hown hb)
    clear hown hb
    by_cases hlt : k < n
    · have hka : k < al.length := by rw [HL.out.2]; exact hlt
      obtain ⟨b, o, rfl⟩ := lst_at HL.out.1 (by omega)
      have hfl := flat_takeT (wd := wd) (List.getElem?_eq_getElem hka)
      obtain ⟨q0, q1, q2, q3, q4, q5⟩ := alloc_cells6 (lst_keep encL_len HL.out.1 HO.out.2) hka
      generalize al[k] = x at *
      obtain ⟨x0, x1, x2, x3, x4, x5⟩ := x
      simp only at q0 q1 q2 q3 q4 q5 hfl
      have hlx := flat_len wd (al.take k)
      have hlk : (al.take k).length ≤ k := by rw [List.length_take]; exact Nat.min_le_left _ _
      obtain ⟨lx, hx⟩ : ∃ y, y = flatN wd (al.take k) := ⟨_, rfl⟩
      rw [← hx] at HO hfl hlx
      have HFl := Lib.hid hfl
      have hb1 := below_alloc wr (.cells #[.int .i64 x0, .int .i64 x1, .int .i64 x2, .int .i64 x3, .int .i64 x4, .int .i64 x5] 45)
      have hb2 := below_alloc (wr.alloc (.cells #[.int .i64 x0, .int .i64 x1, .int .i64 x2, .int .i64 x3, .int .i64 x4, .int .i64 x5] 45)) (.cells #[.int .i64 x3, .int .i64 x4, .int .i64 x5] 3)
      have HA1 := Lib.hid (own_chg' (own_chg' HO.out.1 hb1) hb2)
      have HA2 := Lib.hid (show Kit.Row encI 1 _ (some ⟨wr.heap.size + 1, 0, none⟩) [x3, x4, x5] from row_new encI_len (wr.alloc (.cells #[.int .i64 x0, .int .i64 x1, .int .i64 x2, .int .i64 x3, .int .i64 x4, .int .i64 x5] 45)) [x3, x4, x5] #[.int .i64 x3, .int .i64 x4, .int .i64 x5] 3 _ (by simp) rfl)
      have HA3 := Lib.hid (below_keep (below_keep HO.out.2 hb1) hb2)
      have HD1 := Lib.hid (show lx.length + 3 ≤ maxLen by unfold maxLen; omega)
      have HD2 := Lib.hid (show (lx.length + 3) * 8 ≤ 140737488355328 by omega)
      clear hx hlx hfl hlk hb1 hb2
      go_wp2_with (first | (at_builtin; refine Two.append_apart encI_len Nat.zero_lt_one encI_one rfl (.tmp 17) (.tmp 24) 34 3 rfl Try.underlying34 (.int .i64 0) 8 info_i rfl W.heap.size _ lx rfl HA1.out (some ⟨wr.heap.size + 1, 0, none⟩) 3 3 [x3, x4, x5] rfl rfl HA2.out (fun h => by cases h) HD1.out HD2.out HA3.out.size ?_; intro v9 w9 ho9 hg9 hx9; have HB9 := Lib.hid (HA3.out.trans (Two.below_grown HA1.out hg9 HA3.out.size)); have HO9 := Lib.hid ho9; clear ho9 hg9 hx9) | fail)
      go_roundw
      case rel => exact ⟨k + 1, by omega, by go_num, by rw [HFl.out]; exact HO9.out, HB9.out⟩
      case measure => simp [intOf]; omega
    · obtain rfl : k = n := by omega
      have htk : al.take k = al := List.take_of_length_le (by rw [HL.out.2]; exact Nat.le_refl _)
      rw [htk] at HO
      obtain ⟨a10, c10, rfl, g1, g2, g3, g4⟩ := owns_row encI_len HO.out.1
      have hel : Elems wr a10 (flatN wd al) := ints_elems ⟨rfl, g1, g2, fun e => ⟨by have := g3 e; omega, g3 e⟩, g4⟩
      have HE := Lib.hid (And.intro hel (show (flatN wd al).length ≤ maxLen from Nat.le_trans g1 g2))
      obtain ⟨na, hna⟩ : ∃ na, na = (flatN wd al).length := ⟨_, rfl⟩
      rw [← hna]
      have HNa := Lib.hid hna
      have HB := Lib.hid HO.out.2
      clear g1 g2 g3 g4 hel hna HO htk
      go_wp2_with fail
      refine (add_any a10 na c10 (flatN wd al) wr HNa.out.symm (by rw [HNa.out]; exact HE.out.2) HE.out.1).mono ?_
      rintro e w3 ⟨rfl, rfl⟩
      go_wp2_with fail
      go_ret2
      exact ⟨rfl, HB.out⟩
end Go.Proofs.Ytmlbdmfmaebdeaa.Led
