/- Octet: the document's own words on what is read at a place. -/
import Derived.Test.YtpmpigglekgfnaaOctPur
import Derived.BigFrame
import Derived.BigQuiet
import Derived.Deep.DeepCutAuto
import Derived.WalkLawsBesides
import Derived.LoopTactic
namespace Go.Proofs.Ytpmpigglekgfnaa.Oct
open Go.RowKit
open Go.Sort
open Kit
set_option linter.unusedVariables false

/-! ### What is read, at a place -/

theorem add_low (x y : Nat) (hy : y < 256) : IntKind.u64.wrap (IntKind.u64.wrap ((x : Int) * 256) + (y : Int)) = (((x * 256 + y) % 18446744073709551616 : Nat) : Int) := by
  rw [IntKind.wrap_u64, IntKind.wrap_u64]; omega

set_option maxHeartbeats 4000000 in
theorem rnumber_bad (a : Option Addr) (len cap : Nat) (p : Int) (w : World) (hm : len ≤ 140737488355328) (h : p < 0 ∨ (len : Int) < p + 8) (hp : p ≤ 140737488355328) :
    Calls Try.prog 43 #[.slice a len cap, .int .i64 p] w fun e w' => e = .returned (.tuple #[.int .i64 0, .int .i64 (-1)]) ∧ w = w' := by
  by_cases h0 : p < 0
  · go_enter Try.func43, Try.ntmps43
    go_wp2
    go_ret2
    exact ⟨rfl, rfl⟩
  · have h1 : (len : Int) < p + 8 := by omega
    go_enter Try.func43, Try.ntmps43
    go_wp2
    go_ret2
    exact ⟨rfl, rfl⟩

set_option maxHeartbeats 4000000 in
theorem rnumber_ok (a : Option Addr) (len cap p : Nat) (l : List UInt8) (w : World) (hl : l.length = len) (hm : len ≤ 140737488355328) (hE : RowB w a l) (h : p + 8 ≤ len) :
    Calls Try.prog 43 #[.slice a len cap, .int .i64 p] w fun e w' => e = .returned (.tuple #[.int .i64 (toI64 (numB ((l.drop p).take 8))), .int .i64 (p + 8 : Nat)]) ∧ w = w' := by
  subst hl
  obtain ⟨b, off, HA⟩ := row_some hE (by omega)
  have ha := HA.out
  subst ha
  have HE := Lib.hid hE
  clear hE
  have hlen : ((l.drop p).take 8).length = 8 := by rw [List.length_take, List.length_drop]; omega
  have HW := Lib.hid (wrap_i64 _ (numB_lt ((l.drop p).take 8)))
  go_enter Try.func43, Try.ntmps43
  go_wp2
  go_loop [6, 7] (fun n i => ∃ k : Nat, k ≤ 8 ∧ i = .int .i64 k ∧ n = .int .u64 (numF 0 (((l.drop p).take 8).take k) : Nat)) (fun _ i => 8 - (intOf i).toNat)
  case atStart => exact ⟨0, Nat.zero_le _, rfl, rfl⟩
  case round =>
    obtain ⟨k, hk, rfl, rfl⟩ := hrel
    by_cases hlt : k < 8
    · have hkl : k < ((l.drop p).take 8).length := by omega
      have hpl : p + k < l.length := by omega
      have c0 := row_cell HE.out hpl rfl (i := 0) (by omega)
      have hb := (l[p + k]).toNat_lt
      have HS : Hid (numF 0 (((l.drop p).take 8).take (k + 1)) = (numF 0 (((l.drop p).take 8).take k) * 256 + (l[p + k]).toNat) % 18446744073709551616) := Lib.hid (by
        rw [List.take_succ_eq_append_getElem hkl, numF_snoc]
        simp)
      have hn := numF_lt 0 (by decide) (((l.drop p).take 8).take k)
      simp only [encB, Nat.mul_one, Nat.add_zero, List.getElem?_cons_zero] at c0
      generalize hx : numF 0 (((l.drop p).take 8).take k) = x at *
      generalize hy : l[p + k].toNat = y at *
      clear hlen
      go_wp2
      go_round
      case rel => exact ⟨k + 1, by omega, by go_num, by rw [HS.out, add_low x y hb]⟩
      case measure => simp [intOf]; omega
    · obtain rfl : k = 8 := by omega
      have e : ((l.drop p).take 8).take 8 = (l.drop p).take 8 := by rw [List.take_take]; rfl
      rw [e]
      go_wp2
      go_ret2
      refine ⟨?_, rfl⟩
      rw [← HW.out]; rfl

set_option maxHeartbeats 4000000 in
theorem rword_bad (a : Option Addr) (len cap : Nat) (p most : Int) (w : World) (hm : len ≤ 140737488355328) (h : p < 0 ∨ (len : Int) < p + 2) (hp : p ≤ 140737488355328) :
    Calls Try.prog 44 #[.slice a len cap, .int .i64 p, .int .i64 most] w fun e w' => e = .returned (.tuple #[.string ⟨#[]⟩, .int .i64 (-1)]) ∧ w = w' := by
  by_cases h0 : p < 0
  · go_enter Try.func44, Try.ntmps44
    go_wp2
    go_ret2
    exact ⟨rfl, rfl⟩
  · have h1 : (len : Int) < p + 2 := by omega
    go_enter Try.func44, Try.ntmps44
    go_wp2
    go_ret2
    exact ⟨rfl, rfl⟩

theorem below_drewN (w : World) (d : Nat) : Below w.heap.size w (w.drewN d) := ⟨rfl, rfl, rfl, Nat.le_refl _, fun _ _ => rfl⟩

set_option maxHeartbeats 4000000 in
theorem rword_two (a : Option Addr) (len cap p n : Nat) (most : Int) (l : List UInt8) (w : World) (hl : l.length = len) (hc : len ≤ cap) (hcm : cap ≤ maxLen) (hm : len ≤ 140737488355328) (hE : RowB w a l) (h : p + 2 ≤ len) (hn : numB ((l.drop p).take 2) = n) :
    Calls Try.prog 44 #[.slice a len cap, .int .i64 p, .int .i64 most] w fun e w' => (e = .returned (.tuple #[.string (if (n : Int) ≤ most ∧ n ≤ len - p - 2 then ⟨(((l.drop p).drop 2).take n).toArray⟩ else ⟨#[]⟩), .int .i64 (if (n : Int) ≤ most ∧ n ≤ len - p - 2 then ((p + 2 + n : Nat) : Int) else -1)])) ∧ Below w.heap.size w w' := by
  subst hl
  have hn2 : n < 65536 := by rw [← hn]; exact numB_two _ (by rw [List.length_take, List.length_drop]; omega)
  rw [two_bytes l p h] at hn
  have hx := (l[p]).toNat_lt
  have hy := (l[p + 1]).toNat_lt
  obtain ⟨b, off, HA⟩ := row_some hE (by omega)
  have ha := HA.out
  subst ha
  have HE := Lib.hid hE
  clear hE
  have c0 := row_cell HE.out (show p < l.length by omega) rfl (i := 0) (by omega)
  have c1 := row_cell HE.out (show p + 1 < l.length by omega) rfl (i := 0) (by omega)
  simp only [encB, Nat.mul_one, Nat.add_zero, List.getElem?_cons_zero] at c0 c1
  generalize hx' : l[p].toNat = x at *
  generalize hy' : l[p + 1].toNat = y at *
  unfold maxLen at hcm
  have i0 : (0 : Int) ≤ (p : Int) := by omega
  have i1 : (p : Int) < (l.length : Int) := by omega
  have i2 : (p : Int) + 1 < (l.length : Int) := by omega
  have HN : (x : Int) * 256 + (y : Int) = (n : Int) := by omega
  have hrow : ∀ d, RowB (w.drewN d) (some ⟨b, off + (p + 2), none⟩) (((l.drop p).drop 2).take n) := by
    intro d
    have := row_take (row_drop HE.out (p + 2)) n
    rw [Nat.mul_one, ← List.drop_drop] at this
    exact row_keep encB_len this (below_drewN w d)
  have k0 := fun (d c : Nat) => conv_row (P := Try.prog) (src := 29) (dst := 9) Try.underlying29 Try.underlying5 Try.underlying9 (w := w.drewN d) (a := some ⟨b, off, none⟩) (len := 0) (cap := c) (l := []) rfl (fun _ => rfl) (.inl rfl)
  have k1 := fun (hr : n ≤ l.length - p - 2) (d c : Nat) => conv_row (P := Try.prog) (src := 29) (dst := 9) Try.underlying29 Try.underlying5 Try.underlying9 (w := w.drewN d) (a := some ⟨b, off + (p + 2), none⟩) (len := n) (cap := c) (l := ((l.drop p).drop 2).take n) (by rw [List.length_take, List.length_drop, List.length_drop]; omega) (fun h => by cases h) (hrow d)
  have K1 := Lib.hid k1
  clear k1 hrow
  by_cases hm1 : (n : Int) ≤ most
  · have g1 : decide (most < (n : Int)) = false := decide_eq_false (by omega)
    by_cases hr : n ≤ l.length - p - 2
    · have k1 := K1.out hr
      have g2 : ¬ (l.length : Int) < (p : Int) + 2 + (n : Int) := by omega
      rw [if_pos ⟨hm1, hr⟩, if_pos ⟨hm1, hr⟩]
      rw [List.drop_drop] at k1 ⊢
      by_cases hcap : cap = p + 2
      · have hn0 : n = 0 := by omega
        have k0' : ∀ (d c : Nat), (convert 29 9 (.slice (some ⟨b, off, none⟩) n c)).run Try.prog (w.drewN d) = .ok (.string ⟨((l.drop (p + 2)).take n).toArray⟩) (w.drewN d) := by
          rw [hn0]; exact k0
        clear k0 hn0
        go_enter Try.func44, Try.ntmps44
        go_wp2
        go_quiet (fail)
        go_wp2
        go_ret2
        exact ⟨rfl, below_drewN _ _⟩
      · go_enter Try.func44, Try.ntmps44
        go_wp2
        go_quiet (fail)
        go_wp2
        go_ret2
        exact ⟨rfl, below_drewN _ _⟩
    · have g2 : (l.length : Int) < (p : Int) + 2 + (n : Int) := by omega
      rw [if_neg (fun hh => hr hh.2), if_neg (fun hh => hr hh.2)]
      go_enter Try.func44, Try.ntmps44
      go_wp2
      go_quiet (fail)
      go_wp2
      go_ret2
      exact ⟨rfl, below_drewN _ _⟩
  · have g1 : decide (most < (n : Int)) = true := decide_eq_true (by omega)
    rw [if_neg (fun hh => hm1 hh.1), if_neg (fun hh => hm1 hh.1)]
    go_enter Try.func44, Try.ntmps44
    go_wp2
    go_quiet (fail)
    go_wp2
    go_ret2
    exact ⟨rfl, below_drewN _ _⟩

end Go.Proofs.Ytpmpigglekgfnaa.Oct
