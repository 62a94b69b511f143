/- The library's slices.SortStableFunc at ints: swapRangeCmpFunc, rotateCmpFunc. -/
import Derived.Test.YtkjkhfkaihncdaaStbMath
import Derived.Test.YtkjkhfkaihncdaaLst
import Derived.Shelf.SlSortCmp.Insertion1
namespace Go.Proofs.Ytkjkhfkaihncdaa.Stb
set_option maxRecDepth 100000
open Go.Shelf Go.RowKit Go.Lib Go.Sort
set_option linter.unusedVariables false
variable {α : Type} [Inhabited α]
theorem mix : Try.prog.follows .mixedOrders = true := by kernel_rfl

set_option maxHeartbeats 8000000 in
/-- n elements from a on exchanged with those from b on. -/
theorem swap_any (enc : α → Value) (fv : Value) (blk off cap a b n : Nat) (d0 d : Array α) (w0 w : World)
    (R : Row1 enc w0 blk off d0) (hs : d0.size = d.size) (S : SW enc w0 blk off d w) (hab : a + n ≤ b) (hb : b + n ≤ d.size) (hsz : d.size < 4611686018427387904) :
    Calls Try.prog 22 #[.slice (some ⟨blk, off, none⟩) d.size cap, .int .i64 a, .int .i64 b, .int .i64 n, fv] w fun e w' => e = .returned (.tuple #[]) ∧ ∃ d', SW enc w0 blk off d' w' ∧ PermIn a (b + n) d d' ∧ ∀ x, d'[x]! = d[six a b n x]! := by
  have mixed := mix
  have hcl0 := R.hO.cells
  simp only [Value.cells] at hcl0
  have hst := R.hO.store Try.prog
  have S0 : Aside (SW enc w0 blk off d w) := S
  clear S
  go_enter Try.func22, Try.ntmps22
  go_wp2
  go_loopg [10] n (fun kx s10 wr => ∃ (k : Nat) (dk : Array α), s10 = .int .i64 k ∧ k ≤ n ∧ n - k ≤ kx ∧ dk.size = d.size ∧ Aside (SW enc w0 blk off dk wr) ∧ Aside (PermIn a (b + n) d dk ∧ ∀ x, dk[x]! = d[six a b k x]!))
  case atStart => exact ⟨0, d, rfl, by omega, by omega, rfl, S0, permIn_refl _ _ _, fun x => at_eq d (six_none a b x).symm⟩
  case round =>
    clear S0
    obtain ⟨k, dk, rfl, hk, hkx, hds, S1, HI⟩ := hrel
    by_cases hlt : k < n
    · have hltz : (k : Int) < (n : Int) := by omega
      have ea : ((a : Int) + (k : Int)).toNat = a + k := by omega
      have pa : (0 : Int) ≤ (a : Int) + (k : Int) := by omega
      have ba : (a : Int) + (k : Int) < (d.size : Int) := by omega
      have ra : IntKind.i64.wrap ((a : Int) + (k : Int)) = (a : Int) + (k : Int) := by rw [IntKind.wrap_i64]; omega
      have ec : ((b : Int) + (k : Int)).toNat = b + k := by omega
      have pc : (0 : Int) ≤ (b : Int) + (k : Int) := by omega
      have bc : (b : Int) + (k : Int) < (d.size : Int) := by omega
      have rc : IntKind.i64.wrap ((b : Int) + (k : Int)) = (b : Int) + (k : Int) := by rw [IntKind.wrap_i64]; omega
      obtain ⟨iN, hiN⟩ : ∃ q, q = a + k := ⟨_, rfl⟩
      obtain ⟨jN, hjN⟩ : ∃ q, q = b + k := ⟨_, rfl⟩
      rw [← hiN] at ea
      rw [← hjN] at ec
      obtain ⟨x1, hx1⟩ : ∃ x, x = dk[iN]! := ⟨_, rfl⟩
      obtain ⟨y1, hy1⟩ : ∃ x, x = dk[jN]! := ⟨_, rfl⟩
      have S2 : Aside (SW enc w0 blk off (swp dk iN jN) ((wr.setCell ⟨blk, off + iN, none⟩ (enc y1)).setCell ⟨blk, off + jN, none⟩ (enc x1)).drew) := by rw [hx1, hy1]; exact S1.out.swapped R iN jN (by omega) (by omega)
      have c1 := S1.out.c1 R (by omega) iN (by omega)
      have c2 := S1.out.c1 R (by omega) jN (by omega)
      have f1 := S1.out.f1 R (by omega) iN (by omega)
      have f2 := S1.out.f1 R (by omega) jN (by omega)
      obtain ⟨u1, c3⟩ := S1.out.c2 R (by omega) iN jN (by omega) (by omega) (enc y1)
      rw [← hx1] at c1
      rw [← hy1] at c2
      have HN : Aside (iN = a + k ∧ jN = b + k) := ⟨hiN, hjN⟩
      clear S1 hx1 hy1 hiN hjN
      go_wp2_with fail
      go_big_region_o
      clear c1 c2 c3 f1 f2
      generalize ((wr.setCell ⟨blk, off + iN, none⟩ (enc y1)).setCell ⟨blk, off + jN, none⟩ (enc x1)).drew = w2 at S2 ⊢
      clear ea ec
      go_wp2
      go_roundg (n - (k + 1))
      case measure => omega
      case rel =>
        obtain ⟨h1, h2⟩ := HN.out
        refine ⟨k + 1, swp dk iN jN, by go_num, by omega, Nat.le_refl _, by rw [size_swp]; exact hds, S2, permIn_trans _ _ _ _ _ HI.out.1 (swp_permIn _ _ _ _ _ (by omega) (by omega) (by omega) (by omega) (by omega)), fun x => ?_⟩
        rw [h1, h2]
        exact six_step hds hab hb hlt HI.out.2 x
    · obtain rfl : k = n := by omega
      have hnot : ¬ (k : Int) < (k : Int) := by omega
      go_wp2
      go_end0
      exact ⟨rfl, dk, S1.out, HI.out.1, HI.out.2⟩

set_option maxHeartbeats 8000000 in
/-- [a, m) and [m, b) turned about. -/
theorem rot_any (enc : α → Value) (fv : Value) (blk off cap a m b : Nat) (d0 d : Array α) (w0 w : World)
    (R : Row1 enc w0 blk off d0) (hs : d0.size = d.size) (S : SW enc w0 blk off d w) (ham : a < m) (hmb : m < b) (hb : b ≤ d.size) (hsz : d.size < 4611686018427387904) :
    Calls Try.prog 21 #[.slice (some ⟨blk, off, none⟩) d.size cap, .int .i64 a, .int .i64 m, .int .i64 b, fv] w fun e w' => e = .returned (.tuple #[]) ∧ ∃ d', SW enc w0 blk off d' w' ∧ PermIn a b d d' ∧ ∀ x, d'[x]! = d[rix a m b x]! := by
  have mixed := mix
  have S0 : Aside (SW enc w0 blk off d w) := S
  have HR : Aside (Row1 enc w0 blk off d0 ∧ d0.size = d.size) := ⟨R, hs⟩
  clear S R hs
  have hi0 : (m : Int) - (a : Int) = ((m - a : Nat) : Int) := by omega
  have hj0 : (b : Int) - (m : Int) = ((b - m : Nat) : Int) := by omega
  obtain ⟨i0, hi1⟩ : ∃ q, q = m - a := ⟨_, rfl⟩
  obtain ⟨j0, hj1⟩ : ∃ q, q = b - m := ⟨_, rfl⟩
  rw [← hi1] at hi0
  rw [← hj1] at hj0
  have H0 : Aside (i0 = m - a ∧ j0 = b - m) := ⟨hi1, hj1⟩
  have hb1 : i0 ≤ m := by omega
  have hb2 : m + j0 ≤ d.size := by omega
  clear hi1 hj1
  go_enter Try.func21, Try.ntmps21
  go_wp2
  go_loopg [10, 11] (i0 + j0) (fun kx s10 s11 wr => ∃ (i j : Nat) (dk : Array α), s10 = .int .i64 i ∧ s11 = .int .i64 j ∧ 0 < i ∧ 0 < j ∧ i ≤ m ∧ a ≤ m - i ∧ m + j ≤ b ∧ i + j ≤ kx ∧ dk.size = d.size ∧ Aside (SW enc w0 blk off dk wr) ∧ Aside (PermIn a b d dk ∧ ∀ x, dk[rix (m - i) m (m + j) x]! = d[rix a m b x]!))
  case atStart =>
    obtain ⟨h1, h2⟩ := H0.out
    refine ⟨i0, j0, d, rfl, rfl, by omega, by omega, by omega, by omega, by omega, Nat.le_refl _, rfl, S0, permIn_refl _ _ _, fun x => ?_⟩
    rw [show m - i0 = a by omega, show m + j0 = b by omega]
  case round =>
    clear S0 hi0 hj0 hb1 hb2
    obtain ⟨i, j, dk, rfl, rfl, hi, hj, him, ham2, hmj, hkx, hds, S1, HI⟩ := hrel
    obtain ⟨A0, hA0⟩ : ∃ q, q = m - i := ⟨_, rfl⟩
    have hz1 : (m : Int) - (i : Int) = (A0 : Int) := by omega
    have hcs : ∀ (B n : Nat), A0 + n ≤ B → B + n ≤ b → Calls Try.prog 22 #[.slice (some ⟨blk, off, none⟩) d.size cap, .int .i64 A0, .int .i64 B, .int .i64 n, fv] wr fun e w' => e = .returned (.tuple #[]) ∧ ∃ d', SW enc w0 blk off d' w' ∧ PermIn a b d d' ∧ d'.size = d.size ∧ ∀ x, d'[x]! = dk[six A0 B n x]! := fun B n h1 h2 => by
      have := swap_any enc fv blk off cap A0 B n d0 dk w0 wr HR.out.1 (by rw [HR.out.2, hds]) S1.out h1 (by omega) (by omega)
      rw [hds] at this
      refine this.mono ?_
      rintro e w' ⟨rfl, d', q1, q2, q3⟩
      exact ⟨rfl, d', q1, permIn_trans _ _ _ _ _ HI.out.1 (permIn_mono _ _ A0 (B + n) a b (by omega) h2 (by omega) q2), by rw [q2.1, hds], q3⟩
    have HA : Aside (A0 = m - i) := hA0
    have HH := HI.out.2
    have HX : Aside (∀ x, dk[rix A0 m (m + j) x]! = d[rix a m b x]!) := by rw [hA0]; exact HH
    clear hA0 HH HI S1
    by_cases hne : i = j
    · subst hne
      have HC := Lib.hid (hcs m i (by have := HA.out; omega) (by omega))
      clear hcs
      go_wp2_with fail
      refine HC.out.mono ?_
      rintro e w2 ⟨rfl, d2, q1, q2, q3, q4⟩
      have HQ : Aside (SW enc w0 blk off d2 w2 ∧ PermIn a b d d2 ∧ ∀ x, d2[x]! = dk[six A0 m i x]!) := ⟨q1, q2, q4⟩
      clear q1 q2 q3 q4
      go_wp2_with fail
      go_end0
      refine ⟨rfl, d2, HQ.out.1, HQ.out.2.1, fun x => ?_⟩
      rw [HQ.out.2.2, ← HX.out, HA.out]
      exact at_eq dk (rot_eq him)
    · by_cases hgt : j < i
      · have hgtz : (j : Int) < (i : Int) := by omega
        have hnez : ¬ (i : Int) = (j : Int) := by omega
        have HC := Lib.hid (hcs m j (by have := HA.out; omega) (by omega))
        have hz2 : (i : Int) - (j : Int) = ((i - j : Nat) : Int) := by omega
        obtain ⟨i2, hi2⟩ : ∃ q, q = i - j := ⟨_, rfl⟩
        rw [← hi2] at hz2
        have H2 : Aside (i2 = i - j) := hi2
        clear hcs hi2
        go_wp2_with fail
        refine HC.out.mono ?_
        rintro e w2 ⟨rfl, d2, q1, q2, q3, q4⟩
        have HQ : Aside (SW enc w0 blk off d2 w2 ∧ PermIn a b d d2 ∧ d2.size = d.size ∧ ∀ x, d2[x]! = dk[six A0 m j x]!) := ⟨q1, q2, q3, q4⟩
        clear q1 q2 q3 q4
        go_wp2_with fail
        go_roundg (i2 + j)
        case measure => have := H2.out; omega
        case rel =>
          have e2 := H2.out
          refine ⟨i2, j, d2, rfl, rfl, by omega, hj, by omega, by omega, hmj, Nat.le_refl _, HQ.out.2.2.1, HQ.out.1, HQ.out.2.1, fun x => ?_⟩
          rw [HQ.out.2.2.2, ← HX.out, HA.out, e2]
          exact at_eq dk (rot_gt him hgt hj)
      · have hgtz : ¬ (j : Int) < (i : Int) := by omega
        have hnez : ¬ (i : Int) = (j : Int) := by omega
        have hz3 : (m : Int) + (j : Int) - (i : Int) = ((m + j - i : Nat) : Int) := by omega
        have hz2 : (j : Int) - (i : Int) = ((j - i : Nat) : Int) := by omega
        obtain ⟨B, hB⟩ : ∃ q, q = m + j - i := ⟨_, rfl⟩
        rw [← hB] at hz3
        have HC := Lib.hid (hcs B i (by have := HA.out; omega) (by omega))
        obtain ⟨j2, hj2⟩ : ∃ q, q = j - i := ⟨_, rfl⟩
        rw [← hj2] at hz2
        have H2 : Aside (j2 = j - i ∧ B = m + j - i) := ⟨hj2, hB⟩
        clear hcs hj2 hB
        go_wp2_with fail
        refine HC.out.mono ?_
        rintro e w2 ⟨rfl, d2, q1, q2, q3, q4⟩
        have HQ : Aside (SW enc w0 blk off d2 w2 ∧ PermIn a b d d2 ∧ d2.size = d.size ∧ ∀ x, d2[x]! = dk[six A0 B i x]!) := ⟨q1, q2, q3, q4⟩
        clear q1 q2 q3 q4
        go_wp2_with fail
        go_roundg (i + j2)
        case measure => have := H2.out; omega
        case rel =>
          obtain ⟨e2, e3⟩ := H2.out
          refine ⟨i, j2, d2, rfl, rfl, hi, by omega, him, ham2, by omega, Nat.le_refl _, HQ.out.2.2.1, HQ.out.1, HQ.out.2.1, fun x => ?_⟩
          rw [HQ.out.2.2.2, ← HX.out, HA.out, e2, e3]
          exact at_eq dk (rot_lt him (by omega) hi)
end Go.Proofs.Ytkjkhfkaihncdaa.Stb
