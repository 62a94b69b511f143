/- Common to the claims of this seat, part 9: texts that were written one by one, laid behind one another. -/
import Derived.Sort.WalkB2
import Derived.Sort.WalkB12
import Derived.Deep.LoopGhost
import Derived.BigQuiet
import Derived.Test.YtcndihekpdebhaaPart1
import Derived.Test.YtcndihekpdebhaaPart5
import Derived.Test.YtcndihekpdebhaaPart7
/- The library's slices.SortStableFunc at structs, over any program that has the bodies: swapRangeCmpFunc, rotateCmpFunc. -/
namespace Go.Proofs.Ytcndihekpdebhaa.Sts
set_option maxRecDepth 1000000
open Go.Shelf Go.RowKit Go.Lib Go.Sort
set_option linter.unusedVariables false
open Stb (six rix at_eq six_none rix_left rix_right six_step rot_gt rot_lt rot_eq up_step down_step sorted_le sorted_part halves joined Stb stb_left stb_right stb_perm sorted_perm sorted_perm' one_sorted two_sorted)
variable {P : Program} {α : Type} [Inhabited α]

set_option maxHeartbeats 8000000 in
/-- n elements from a on exchanged with those from b on. -/
theorem swap_any (L : Lay P) (kc : Nat) (aE : ∀ w, (isAgg 40).run P w = .ok true w) (zE : ∀ w, (Go.sizeOf 40).run P w = .ok kc w) (enc : α → List Value) (fv : Value) (blk off cap a b n : Nat) (d0 d : Array α) (w0 w : World)
    (R : RowK enc kc w0 blk off d0) (hs : d0.size = d.size) (S : SWK enc kc w0 blk off d w) (hab : a + n ≤ b) (hb : b + n ≤ d.size) (hsz : d.size < 4611686018427387904) :
    Calls P 60 #[.slice (some ⟨blk, off, none⟩) d.size cap, .int .i64 a, .int .i64 b, .int .i64 n, fv] w fun e w' => e = .returned (.tuple #[]) ∧ ∃ d', SWK enc kc w0 blk off d' w' ∧ PermIn a (b + n) d d' ∧ ∀ x, d'[x]! = d[six a b n x]! := by
  have mixed := L.mixed; have t0 := L.t0; have a0 := L.a0; have z0 := L.z0; have v0 := L.v0; have t3 := L.t3; have a3 := L.a3; have z3 := L.z3; have v3 := L.v3; have t4 := L.t4; have a4 := L.a4; have z4 := L.z4; have v4 := L.v4; have tu := L.tu; have au := L.au; have zu := L.zu; have vu := L.vu; have tl := L.tl; have al := L.al; have zl := L.zl; have vl := L.vl; have tc := L.tc; have ac := L.ac; have zc := L.zc; have vc := L.vc
  have e_swap : ∀ args w, (callFunc 60 args).run P w = .ok (.enter 60 args) w := enters_of L.f_swap (by kernel_rfl) rfl
  have e_rot : ∀ args w, (callFunc 58 args).run P w = .ok (.enter 58 args) w := enters_of L.f_rot (by kernel_rfl) rfl
  have e_sym : ∀ args w, (callFunc 54 args).run P w = .ok (.enter 54 args) w := enters_of L.f_sym (by kernel_rfl) rfl
  have S0 : Aside (SWK enc kc w0 blk off d w) := S
  clear S
  have FG := L.f_swap
  go_enter FG, Try.ntmps60
  go_wp2
  go_loopg [10] n (fun kx s10 wr => ∃ (k : Nat) (dk : Array α), s10 = .int .i64 k ∧ k ≤ n ∧ n - k ≤ kx ∧ dk.size = d.size ∧ Aside (SWK enc kc w0 blk off dk wr) ∧ Aside (PermIn a (b + n) d dk ∧ ∀ x, dk[x]! = d[six a b k x]!))
  case atStart => exact ⟨0, d, rfl, by omega, by omega, rfl, S0, permIn_refl _ _ _, fun x => at_eq d (six_none a b x).symm⟩
  case round =>
    clear S0
    obtain ⟨k, dk, rfl, hk, hkx, hds, S1, HI⟩ := hrel
    by_cases hlt : k < n
    · have hltz : (k : Int) < (n : Int) := by omega
      have ea : ((a : Int) + (k : Int)).toNat = a + k := by omega
      have pa : (0 : Int) ≤ (a : Int) + (k : Int) := by omega
      have ba : (a : Int) + (k : Int) < (d.size : Int) := by omega
      have ra : IntKind.i64.wrap ((a : Int) + (k : Int)) = (a : Int) + (k : Int) := by rw [IntKind.wrap_i64]; omega
      have ec : ((b : Int) + (k : Int)).toNat = b + k := by omega
      have pc : (0 : Int) ≤ (b : Int) + (k : Int) := by omega
      have bc : (b : Int) + (k : Int) < (d.size : Int) := by omega
      have rc : IntKind.i64.wrap ((b : Int) + (k : Int)) = (b : Int) + (k : Int) := by rw [IntKind.wrap_i64]; omega
      obtain ⟨iN, hiN⟩ : ∃ q, q = a + k := ⟨_, rfl⟩
      obtain ⟨jN, hjN⟩ : ∃ q, q = b + k := ⟨_, rfl⟩
      rw [← hiN] at ea
      rw [← hjN] at ec
      obtain ⟨x1, hx1⟩ : ∃ x, x = dk[iN]! := ⟨_, rfl⟩
      obtain ⟨y1, hy1⟩ : ∃ x, x = dk[jN]! := ⟨_, rfl⟩
      have S2 : Aside (SWK enc kc w0 blk off (swp dk iN jN) ((wr.drew.setCells blk (off + iN * kc) (enc y1)).setCells blk (off + jN * kc) (enc x1))) := by rw [hx1, hy1]; exact S1.out.swapped R iN jN (by omega) (by omega)
      have c1 := S1.out.ld1 R (by omega) P iN (by omega)
      have c2 := S1.out.ld1 R (by omega) P jN (by omega)
      have f1 := S1.out.st1 R (by omega) P iN (by omega) y1
      have f2 := S1.out.st2 R (by omega) P iN jN (by omega) (by omega) y1 x1
      have n1 : (enc x1).length = kc := R.hk _
      have n2 : (enc y1).length = kc := R.hk _
      rw [← hx1] at c1
      rw [← hy1] at c2
      generalize enc x1 = cI at S2 c1 f2 n1
      generalize enc y1 = cJ at S2 c2 f1 f2 n2
      have HN : Aside (iN = a + k ∧ jN = b + k) := ⟨hiN, hjN⟩
      clear S1 hx1 hy1 hiN hjN
      go_wp2_with fail
      go_big_region_o
      clear c1 c2 f1 f2
      generalize (wr.drew.setCells blk (off + iN * kc) cJ).setCells blk (off + jN * kc) cI = w2 at S2 ⊢
      clear ea ec
      go_wp2
      go_roundg (n - (k + 1))
      case measure => omega
      case rel =>
        obtain ⟨h1, h2⟩ := HN.out
        refine ⟨k + 1, swp dk iN jN, by go_num, by omega, Nat.le_refl _, by rw [size_swp]; exact hds, S2, permIn_trans _ _ _ _ _ HI.out.1 (swp_permIn _ _ _ _ _ (by omega) (by omega) (by omega) (by omega) (by omega)), fun x => ?_⟩
        rw [h1, h2]
        exact six_step hds hab hb hlt HI.out.2 x
    · obtain rfl : k = n := by omega
      have hnot : ¬ (k : Int) < (k : Int) := by omega
      go_wp2
      go_end0
      exact ⟨rfl, dk, S1.out, HI.out.1, HI.out.2⟩

set_option maxHeartbeats 8000000 in
/-- [a, m) and [m, b) turned about. -/
theorem rot_any (L : Lay P) (kc : Nat) (aE : ∀ w, (isAgg 40).run P w = .ok true w) (zE : ∀ w, (Go.sizeOf 40).run P w = .ok kc w) (enc : α → List Value) (fv : Value) (blk off cap a m b : Nat) (d0 d : Array α) (w0 w : World)
    (R : RowK enc kc w0 blk off d0) (hs : d0.size = d.size) (S : SWK enc kc w0 blk off d w) (ham : a < m) (hmb : m < b) (hb : b ≤ d.size) (hsz : d.size < 4611686018427387904) :
    Calls P 58 #[.slice (some ⟨blk, off, none⟩) d.size cap, .int .i64 a, .int .i64 m, .int .i64 b, fv] w fun e w' => e = .returned (.tuple #[]) ∧ ∃ d', SWK enc kc w0 blk off d' w' ∧ PermIn a b d d' ∧ ∀ x, d'[x]! = d[rix a m b x]! := by
  have mixed := L.mixed; have t0 := L.t0; have a0 := L.a0; have z0 := L.z0; have v0 := L.v0; have t3 := L.t3; have a3 := L.a3; have z3 := L.z3; have v3 := L.v3; have t4 := L.t4; have a4 := L.a4; have z4 := L.z4; have v4 := L.v4; have tu := L.tu; have au := L.au; have zu := L.zu; have vu := L.vu; have tl := L.tl; have al := L.al; have zl := L.zl; have vl := L.vl; have tc := L.tc; have ac := L.ac; have zc := L.zc; have vc := L.vc
  have e_swap : ∀ args w, (callFunc 60 args).run P w = .ok (.enter 60 args) w := enters_of L.f_swap (by kernel_rfl) rfl
  have e_rot : ∀ args w, (callFunc 58 args).run P w = .ok (.enter 58 args) w := enters_of L.f_rot (by kernel_rfl) rfl
  have e_sym : ∀ args w, (callFunc 54 args).run P w = .ok (.enter 54 args) w := enters_of L.f_sym (by kernel_rfl) rfl
  have S0 : Aside (SWK enc kc w0 blk off d w) := S
  have HR : Aside (RowK enc kc w0 blk off d0 ∧ d0.size = d.size) := ⟨R, hs⟩
  clear S R hs
  have hi0 : (m : Int) - (a : Int) = ((m - a : Nat) : Int) := by omega
  have hj0 : (b : Int) - (m : Int) = ((b - m : Nat) : Int) := by omega
  obtain ⟨i0, hi1⟩ : ∃ q, q = m - a := ⟨_, rfl⟩
  obtain ⟨j0, hj1⟩ : ∃ q, q = b - m := ⟨_, rfl⟩
  rw [← hi1] at hi0
  rw [← hj1] at hj0
  have H0 : Aside (i0 = m - a ∧ j0 = b - m) := ⟨hi1, hj1⟩
  have hb1 : i0 ≤ m := by omega
  have hb2 : m + j0 ≤ d.size := by omega
  clear hi1 hj1
  have FG := L.f_rot
  go_enter FG, Try.ntmps58
  go_wp2
  go_loopg [10, 11] (i0 + j0) (fun kx s10 s11 wr => ∃ (i j : Nat) (dk : Array α), s10 = .int .i64 i ∧ s11 = .int .i64 j ∧ 0 < i ∧ 0 < j ∧ i ≤ m ∧ a ≤ m - i ∧ m + j ≤ b ∧ i + j ≤ kx ∧ dk.size = d.size ∧ Aside (SWK enc kc w0 blk off dk wr) ∧ Aside (PermIn a b d dk ∧ ∀ x, dk[rix (m - i) m (m + j) x]! = d[rix a m b x]!))
  case atStart =>
    obtain ⟨h1, h2⟩ := H0.out
    refine ⟨i0, j0, d, rfl, rfl, by omega, by omega, by omega, by omega, by omega, Nat.le_refl _, rfl, S0, permIn_refl _ _ _, fun x => ?_⟩
    rw [show m - i0 = a by omega, show m + j0 = b by omega]
  case round =>
    clear S0 hi0 hj0 hb1 hb2
    obtain ⟨i, j, dk, rfl, rfl, hi, hj, him, ham2, hmj, hkx, hds, S1, HI⟩ := hrel
    obtain ⟨A0, hA0⟩ : ∃ q, q = m - i := ⟨_, rfl⟩
    have hz1 : (m : Int) - (i : Int) = (A0 : Int) := by omega
    have hcs : ∀ (B n : Nat), A0 + n ≤ B → B + n ≤ b → Calls P 60 #[.slice (some ⟨blk, off, none⟩) d.size cap, .int .i64 A0, .int .i64 B, .int .i64 n, fv] wr fun e w' => e = .returned (.tuple #[]) ∧ ∃ d', SWK enc kc w0 blk off d' w' ∧ PermIn a b d d' ∧ d'.size = d.size ∧ ∀ x, d'[x]! = dk[six A0 B n x]! := fun B n h1 h2 => by
      have := swap_any L kc aE zE enc fv blk off cap A0 B n d0 dk w0 wr HR.out.1 (by rw [HR.out.2, hds]) S1.out h1 (by omega) (by omega)
      rw [hds] at this
      refine this.mono ?_
      rintro e w' ⟨rfl, d', q1, q2, q3⟩
      exact ⟨rfl, d', q1, permIn_trans _ _ _ _ _ HI.out.1 (permIn_mono _ _ A0 (B + n) a b (by omega) h2 (by omega) q2), by rw [q2.1, hds], q3⟩
    have HA : Aside (A0 = m - i) := hA0
    have HH := HI.out.2
    have HX : Aside (∀ x, dk[rix A0 m (m + j) x]! = d[rix a m b x]!) := by rw [hA0]; exact HH
    clear hA0 HH HI S1
    by_cases hne : i = j
    · subst hne
      have HC := Lib.hid (hcs m i (by have := HA.out; omega) (by omega))
      clear hcs
      go_wp2_with fail
      refine HC.out.mono ?_
      rintro e w2 ⟨rfl, d2, q1, q2, q3, q4⟩
      have HQ : Aside (SWK enc kc w0 blk off d2 w2 ∧ PermIn a b d d2 ∧ ∀ x, d2[x]! = dk[six A0 m i x]!) := ⟨q1, q2, q4⟩
      clear q1 q2 q3 q4
      go_wp2_with fail
      go_end0
      refine ⟨rfl, d2, HQ.out.1, HQ.out.2.1, fun x => ?_⟩
      rw [HQ.out.2.2, ← HX.out, HA.out]
      exact at_eq dk (rot_eq him)
    · by_cases hgt : j < i
      · have hgtz : (j : Int) < (i : Int) := by omega
        have hnez : ¬ (i : Int) = (j : Int) := by omega
        have HC := Lib.hid (hcs m j (by have := HA.out; omega) (by omega))
        have hz2 : (i : Int) - (j : Int) = ((i - j : Nat) : Int) := by omega
        obtain ⟨i2, hi2⟩ : ∃ q, q = i - j := ⟨_, rfl⟩
        rw [← hi2] at hz2
        have H2 : Aside (i2 = i - j) := hi2
        clear hcs hi2
        go_wp2_with fail
        refine HC.out.mono ?_
        rintro e w2 ⟨rfl, d2, q1, q2, q3, q4⟩
        have HQ : Aside (SWK enc kc w0 blk off d2 w2 ∧ PermIn a b d d2 ∧ d2.size = d.size ∧ ∀ x, d2[x]! = dk[six A0 m j x]!) := ⟨q1, q2, q3, q4⟩
        clear q1 q2 q3 q4
        go_wp2_with fail
        go_roundg (i2 + j)
        case measure => have := H2.out; omega
        case rel =>
          have e2 := H2.out
          refine ⟨i2, j, d2, rfl, rfl, by omega, hj, by omega, by omega, hmj, Nat.le_refl _, HQ.out.2.2.1, HQ.out.1, HQ.out.2.1, fun x => ?_⟩
          rw [HQ.out.2.2.2, ← HX.out, HA.out, e2]
          exact at_eq dk (rot_gt him hgt hj)
      · have hgtz : ¬ (j : Int) < (i : Int) := by omega
        have hnez : ¬ (i : Int) = (j : Int) := by omega
        have hz3 : (m : Int) + (j : Int) - (i : Int) = ((m + j - i : Nat) : Int) := by omega
        have hz2 : (j : Int) - (i : Int) = ((j - i : Nat) : Int) := by omega
        obtain ⟨B, hB⟩ : ∃ q, q = m + j - i := ⟨_, rfl⟩
        rw [← hB] at hz3
        have HC := Lib.hid (hcs B i (by have := HA.out; omega) (by omega))
        obtain ⟨j2, hj2⟩ : ∃ q, q = j - i := ⟨_, rfl⟩
        rw [← hj2] at hz2
        have H2 : Aside (j2 = j - i ∧ B = m + j - i) := ⟨hj2, hB⟩
        clear hcs hj2 hB
        go_wp2_with fail
        refine HC.out.mono ?_
        rintro e w2 ⟨rfl, d2, q1, q2, q3, q4⟩
        have HQ : Aside (SWK enc kc w0 blk off d2 w2 ∧ PermIn a b d d2 ∧ d2.size = d.size ∧ ∀ x, d2[x]! = dk[six A0 B i x]!) := ⟨q1, q2, q3, q4⟩
        clear q1 q2 q3 q4
        go_wp2_with fail
        go_roundg (i + j2)
        case measure => have := H2.out; omega
        case rel =>
          obtain ⟨e2, e3⟩ := H2.out
          refine ⟨i, j2, d2, rfl, rfl, hi, by omega, him, ham2, by omega, Nat.le_refl _, HQ.out.2.2.1, HQ.out.1, HQ.out.2.1, fun x => ?_⟩
          rw [HQ.out.2.2.2, ← HX.out, HA.out, e2, e3]
          exact at_eq dk (rot_lt him (by omega) hi)
end Go.Proofs.Ytcndihekpdebhaa.Sts
/- The library's symMergeCmpFunc at structs, over any program that has the bodies: one element on the left, or one on the right. -/
namespace Go.Proofs.Ytcndihekpdebhaa.Sts
set_option maxRecDepth 1000000
open Go.Shelf Go.RowKit Go.Lib Go.Sort
set_option linter.unusedVariables false
open Stb (six rix at_eq six_none rix_left rix_right six_step rot_gt rot_lt rot_eq up_step down_step sorted_le sorted_part halves joined Stb stb_left stb_right stb_perm sorted_perm sorted_perm' one_sorted two_sorted)
variable {P : Program} {α : Type} [Inhabited α]

set_option maxHeartbeats 8000000 in
theorem sym_one {lt : α → α → Bool} (L : Lay P) (kc : Nat) (aE : ∀ w, (isAgg 40).run P w = .ok true w) (zE : ∀ w, (Go.sizeOf 40).run P w = .ok kc w) (hS : SWO lt) (enc : α → List Value) (cf : α → α → Int) (g : Nat) (cb : Array Value) (blk off cap a m b : Nat) (d0 d : Array α) (w0 w : World)
    (eg : ∀ args w, (callFunc g args).run P w = .ok (.enter g args) w) (hcmp : CmpLays P g cb enc kc cf blk off d0.size w0) (R : RowK enc kc w0 blk off d0) (hs : d0.size = d.size) (S : SWK enc kc w0 blk off d w)
    (hm : m = a + 1) (hmb : m < b) (hb : b ≤ d.size) (hsz : d.size < 4611686018427387904) (hR : SortedIn lt m b d) (hst : Stb (ltOf cf) lt a m b d) :
    Calls P 54 #[.slice (some ⟨blk, off, none⟩) d.size cap, .int .i64 a, .int .i64 m, .int .i64 b, .func (.func g) #[] cb] w fun e w' => e = .returned (.tuple #[]) ∧ ∃ d', SWK enc kc w0 blk off d' w' ∧ PermIn a b d d' ∧ SortedIn lt a b d' := by
  have mixed := L.mixed; have t0 := L.t0; have a0 := L.a0; have z0 := L.z0; have v0 := L.v0; have t3 := L.t3; have a3 := L.a3; have z3 := L.z3; have v3 := L.v3; have t4 := L.t4; have a4 := L.a4; have z4 := L.z4; have v4 := L.v4; have tu := L.tu; have au := L.au; have zu := L.zu; have vu := L.vu; have tl := L.tl; have al := L.al; have zl := L.zl; have vl := L.vl; have tc := L.tc; have ac := L.ac; have zc := L.zc; have vc := L.vc
  have e_swap : ∀ args w, (callFunc 60 args).run P w = .ok (.enter 60 args) w := enters_of L.f_swap (by kernel_rfl) rfl
  have e_rot : ∀ args w, (callFunc 58 args).run P w = .ok (.enter 58 args) w := enters_of L.f_rot (by kernel_rfl) rfl
  have e_sym : ∀ args w, (callFunc 54 args).run P w = .ok (.enter 54 args) w := enters_of L.f_sym (by kernel_rfl) rfl
  have S0 : Aside (SWK enc kc w0 blk off d w) := S
  have HC : Aside _ := hcmp
  have HS : Aside (SWO lt ∧ SortedIn lt m b d ∧ Stb (ltOf cf) lt a m b d ∧ m = a + 1) := ⟨hS, hR, hst, hm⟩
  have hma : (m : Int) - (a : Int) = 1 := by omega
  have ham : a < m := by omega
  clear S hcmp hS hR hst hm
  have FG := L.f_sym
  go_enter FG, Try.ntmps54
  go_wp2
  go_loopg [10, 11] b (fun kx s10 s11 wr => ∃ i j : Nat, s10 = .int .i64 i ∧ s11 = .int .i64 j ∧ m ≤ i ∧ i ≤ j ∧ j ≤ b ∧ j - i ≤ kx ∧ Aside (SWK enc kc w0 blk off d wr) ∧ Aside ((m < i → lt d[i - 1]! d[a]! = true) ∧ (j < b → lt d[j]! d[a]! = false)))
  case atStart => exact ⟨m, b, rfl, rfl, Nat.le_refl _, by omega, Nat.le_refl _, by omega, S0, fun h => absurd h (Nat.lt_irrefl _), fun h => absurd h (Nat.lt_irrefl _)⟩
  case round =>
    clear S0
    obtain ⟨i, j, rfl, rfl, hmi, hij, hjb, hkx, S1, HI⟩ := hrel
    by_cases hlt : i < j
    · have hltz : (i : Int) < (j : Int) := by omega
      obtain ⟨h, hh⟩ : ∃ q, q = (i + j) / 2 := ⟨_, rfl⟩
      have hz : ((i : Int) + (j : Int)) / 2 = (h : Int) := by omega
      have hih : i ≤ h := by omega
      have hhj : h < j := by omega
      clear hh
      have cm := HC.out
      obtain ⟨iN, hiN⟩ : ∃ q, q = h := ⟨_, rfl⟩
      obtain ⟨jN, hjN⟩ : ∃ q, q = a := ⟨_, rfl⟩
      have ea : ((h : Int)).toNat = iN := by omega
      have pa : (0 : Int) ≤ (h : Int) := by omega
      have ba : (h : Int) < (d.size : Int) := by omega
      have ec : ((a : Int)).toNat = jN := by omega
      have pc : (0 : Int) ≤ (a : Int) := by omega
      have bc : (a : Int) < (d.size : Int) := by omega
      obtain ⟨x1, hx1⟩ : ∃ x, x = d[h]! := ⟨_, rfl⟩
      obtain ⟨y1, hy1⟩ : ∃ x, x = d[a]! := ⟨_, rfl⟩
      have l1 := S1.out.ld R hs.symm P h (by omega)
      have l2 := S1.out.ld R hs.symm P a (by omega)
      rw [← hx1, ← hiN] at l1
      rw [← hy1, ← hjN] at l2
      have hc1 := S1.out.cmp cm hs.symm x1 y1
      have hlv : ltOf cf x1 y1 = lt x1 y1 := by rw [hx1, hy1]; exact HS.out.2.2.1 a h (Nat.le_refl _) (by omega) (by omega) (by omega)
      have HX : Aside (x1 = d[h]! ∧ y1 = d[a]!) := ⟨hx1, hy1⟩
      clear hx1 hy1 hiN hjN cm
      cases hv : lt x1 y1 with
      | true =>
        rw [hv] at hlv
        have hv1 : cf x1 y1 < 0 := of_decide_eq_true hlv
        have hd1 : decide (cf x1 y1 < 0) = true := decide_eq_true hv1
        have HV : Aside (lt x1 y1 = true) := hv
        clear hv hlv
        go_wp2_with fail
        go_quiet_grown (first | (go_at_fn g; refine Calls.grown_of (hc1 _ _)))
        have S2 : Aside (SWK enc kc w0 blk off d (grow (wr.drewN nq) osq)) := S1.out.grown nq osq
        clear l1 l2 hc1 S1
        generalize grow (wr.drewN nq) osq = w2 at S2 ⊢
        clear nq osq ea ec hv1 hd1
        go_wp2
        go_roundg (j - (h + 1))
        case measure => omega
        case rel =>
          have hv := HV.out
          rw [HX.out.1, HX.out.2] at hv
          exact ⟨h + 1, j, by go_num, rfl, by omega, by omega, hjb, Nat.le_refl _, S2, fun _ => hv, HI.out.2⟩
      | false =>
        rw [hv] at hlv
        have hv1 : ¬ cf x1 y1 < 0 := of_decide_eq_false hlv
        have hd1 : decide (cf x1 y1 < 0) = false := decide_eq_false hv1
        have HV : Aside (lt x1 y1 = false) := hv
        clear hv hlv
        go_wp2_with fail
        go_quiet_grown (first | (go_at_fn g; refine Calls.grown_of (hc1 _ _)))
        have S2 : Aside (SWK enc kc w0 blk off d (grow (wr.drewN nq) osq)) := S1.out.grown nq osq
        clear l1 l2 hc1 S1
        generalize grow (wr.drewN nq) osq = w2 at S2 ⊢
        clear nq osq ea ec hv1 hd1
        go_wp2
        go_roundg (h - i)
        case measure => omega
        case rel =>
          have hv := HV.out
          rw [HX.out.1, HX.out.2] at hv
          exact ⟨i, h, rfl, rfl, hmi, hih, by omega, Nat.le_refl _, S2, HI.out.1, fun _ => hv⟩
    · obtain rfl : i = j := by omega
      have hltz : ¬ (i : Int) < (i : Int) := by omega
      obtain ⟨i1, hi1⟩ : ∃ q, q + 1 = i := ⟨i - 1, by omega⟩
      have hz1 : (i : Int) - 1 = (i1 : Int) := by omega
      have ha1 : a ≤ i1 := by omega
      have hi2 : i1 + 1 ≤ d.size := by omega
      have HN : Aside (i1 + 1 = i) := hi1
      clear hi1 HC
      go_wp2
      go_loopg [13] i1 (fun kx s13 wr2 => ∃ (k : Nat) (dk : Array α), s13 = .int .i64 k ∧ a ≤ k ∧ k ≤ i1 ∧ i1 - k ≤ kx ∧ dk.size = d.size ∧ Aside (SWK enc kc w0 blk off dk wr2) ∧ Aside (PermIn a b d dk ∧ ∀ x, dk[x]! = d[rix a (a + 1) (k + 1) x]!))
      case atStart => exact ⟨a, d, rfl, Nat.le_refl _, ha1, by omega, rfl, S1, permIn_refl _ _ _, fun x => at_eq d (rix_left a (a + 1) x (by omega)).symm⟩
      case round =>
        clear S1
        obtain ⟨k, dk, rfl, hak, hki, hkx2, hds, S3, HK⟩ := hrel
        by_cases hlk : k < i1
        · have hlkz : (k : Int) < (i1 : Int) := by omega
          obtain ⟨iN, hiN⟩ : ∃ q, q = k := ⟨_, rfl⟩
          obtain ⟨jN, hjN⟩ : ∃ q, q = k + 1 := ⟨_, rfl⟩
          have ea : ((k : Int)).toNat = iN := by omega
          have pa : (0 : Int) ≤ (k : Int) := by omega
          have ba : (k : Int) < (d.size : Int) := by omega
          have ec : ((k : Int) + 1).toNat = jN := by omega
          have pc : (0 : Int) ≤ (k : Int) + 1 := by omega
          have bc : (k : Int) + 1 < (d.size : Int) := by omega
          have rc : IntKind.i64.wrap ((k : Int) + 1) = (k : Int) + 1 := by rw [IntKind.wrap_i64]; omega
          obtain ⟨x1, hx1⟩ : ∃ x, x = dk[iN]! := ⟨_, rfl⟩
          obtain ⟨y1, hy1⟩ : ∃ x, x = dk[jN]! := ⟨_, rfl⟩
          have S2 : Aside (SWK enc kc w0 blk off (swp dk iN jN) ((wr.drew.setCells blk (off + iN * kc) (enc y1)).setCells blk (off + jN * kc) (enc x1))) := by rw [hx1, hy1]; exact S3.out.swapped R iN jN (by omega) (by omega)
          have c1 := S3.out.ld1 R (by omega) P iN (by omega)
          have c2 := S3.out.ld1 R (by omega) P jN (by omega)
          have f1 := S3.out.st1 R (by omega) P iN (by omega) y1
          have f2 := S3.out.st2 R (by omega) P iN jN (by omega) (by omega) y1 x1
          have n1 : (enc x1).length = kc := R.hk _
          have n2 : (enc y1).length = kc := R.hk _
          rw [← hx1] at c1
          rw [← hy1] at c2
          generalize enc x1 = cI at S2 c1 f2 n1
          generalize enc y1 = cJ at S2 c2 f1 f2 n2
          have HJ : Aside (iN = k ∧ jN = k + 1) := ⟨hiN, hjN⟩
          clear S3 hx1 hy1 hiN hjN
          go_wp2_with fail
          go_big_region_o
          clear c1 c2 f1 f2
          generalize (wr.drew.setCells blk (off + iN * kc) cJ).setCells blk (off + jN * kc) cI = w2 at S2 ⊢
          clear ea ec
          go_wp2
          go_roundg (i1 - (k + 1))
          case measure => omega
          case rel =>
            obtain ⟨h1, h2⟩ := HJ.out
            have e := HN.out
            refine ⟨k + 1, swp dk iN jN, by go_num, by omega, by omega, Nat.le_refl _, by rw [size_swp]; exact hds, S2, permIn_trans _ _ _ _ _ HK.out.1 (swp_permIn _ _ _ _ _ (by omega) (by omega) (by omega) (by omega) (by omega)), fun x => ?_⟩
            rw [h1, h2]
            exact up_step hds hak (by omega) HK.out.2 x
        · obtain rfl : k = i1 := by omega
          have hlkz : ¬ (k : Int) < (k : Int) := by omega
          go_wp2_with fail
          refine bodyPost_ret (results_none rfl _ _ _) rfl ?_
          refine ⟨rfl, dk, S3.out, HK.out.1, ?_⟩
          obtain ⟨q1, q2, q3, q4⟩ := HS.out
          refine one_sorted q1 q4 hmi hjb q2 (fun x => ?_) HI.out.1 HI.out.2
          rw [← HN.out]
          exact HK.out.2 x

set_option maxHeartbeats 8000000 in
theorem sym_two {lt : α → α → Bool} (L : Lay P) (kc : Nat) (aE : ∀ w, (isAgg 40).run P w = .ok true w) (zE : ∀ w, (Go.sizeOf 40).run P w = .ok kc w) (hS : SWO lt) (enc : α → List Value) (cf : α → α → Int) (g : Nat) (cb : Array Value) (blk off cap a m b : Nat) (d0 d : Array α) (w0 w : World)
    (eg : ∀ args w, (callFunc g args).run P w = .ok (.enter g args) w) (hcmp : CmpLays P g cb enc kc cf blk off d0.size w0) (R : RowK enc kc w0 blk off d0) (hs : d0.size = d.size) (S : SWK enc kc w0 blk off d w)
    (ham : a + 1 < m) (hbm : b = m + 1) (hb : b ≤ d.size) (hsz : d.size < 4611686018427387904) (hL : SortedIn lt a m d) (hst : Stb (ltOf cf) lt a m b d) :
    Calls P 54 #[.slice (some ⟨blk, off, none⟩) d.size cap, .int .i64 a, .int .i64 m, .int .i64 b, .func (.func g) #[] cb] w fun e w' => e = .returned (.tuple #[]) ∧ ∃ d', SWK enc kc w0 blk off d' w' ∧ PermIn a b d d' ∧ SortedIn lt a b d' := by
  have mixed := L.mixed; have t0 := L.t0; have a0 := L.a0; have z0 := L.z0; have v0 := L.v0; have t3 := L.t3; have a3 := L.a3; have z3 := L.z3; have v3 := L.v3; have t4 := L.t4; have a4 := L.a4; have z4 := L.z4; have v4 := L.v4; have tu := L.tu; have au := L.au; have zu := L.zu; have vu := L.vu; have tl := L.tl; have al := L.al; have zl := L.zl; have vl := L.vl; have tc := L.tc; have ac := L.ac; have zc := L.zc; have vc := L.vc
  have e_swap : ∀ args w, (callFunc 60 args).run P w = .ok (.enter 60 args) w := enters_of L.f_swap (by kernel_rfl) rfl
  have e_rot : ∀ args w, (callFunc 58 args).run P w = .ok (.enter 58 args) w := enters_of L.f_rot (by kernel_rfl) rfl
  have e_sym : ∀ args w, (callFunc 54 args).run P w = .ok (.enter 54 args) w := enters_of L.f_sym (by kernel_rfl) rfl
  have S0 : Aside (SWK enc kc w0 blk off d w) := S
  have HC : Aside _ := hcmp
  have HS : Aside (SWO lt ∧ SortedIn lt a m d ∧ Stb (ltOf cf) lt a m b d ∧ b = m + 1) := ⟨hS, hL, hst, hbm⟩
  have hma : ((m : Int) - (a : Int) == 1) = false := beq_false_of_ne (by omega)
  have hmb : (b : Int) - (m : Int) = 1 := by omega
  have hm1 : m < d.size := by omega
  have hm2 : m < b := by omega
  clear S hcmp hS hL hst hbm
  have FG := L.f_sym
  go_enter FG, Try.ntmps54
  go_wp2
  go_loopg [14, 15] b (fun kx s10 s11 wr => ∃ i j : Nat, s10 = .int .i64 i ∧ s11 = .int .i64 j ∧ a ≤ i ∧ i ≤ j ∧ j ≤ m ∧ j - i ≤ kx ∧ Aside (SWK enc kc w0 blk off d wr) ∧ Aside ((a < i → lt d[m]! d[i - 1]! = false) ∧ (j < m → lt d[m]! d[j]! = true)))
  case atStart => exact ⟨a, m, rfl, rfl, Nat.le_refl _, by omega, Nat.le_refl _, by omega, S0, fun h => absurd h (Nat.lt_irrefl _), fun h => absurd h (Nat.lt_irrefl _)⟩
  case round =>
    clear S0
    obtain ⟨i, j, rfl, rfl, hai, hij, hjm, hkx, S1, HI⟩ := hrel
    by_cases hlt : i < j
    · have hltz : (i : Int) < (j : Int) := by omega
      obtain ⟨h, hh⟩ : ∃ q, q = (i + j) / 2 := ⟨_, rfl⟩
      have hz : ((i : Int) + (j : Int)) / 2 = (h : Int) := by omega
      have hih : i ≤ h := by omega
      have hhj : h < j := by omega
      clear hh
      have cm := HC.out
      obtain ⟨iN, hiN⟩ : ∃ q, q = m := ⟨_, rfl⟩
      obtain ⟨jN, hjN⟩ : ∃ q, q = h := ⟨_, rfl⟩
      have ea : ((m : Int)).toNat = iN := by omega
      have pa : (0 : Int) ≤ (m : Int) := by omega
      have ba : (m : Int) < (d.size : Int) := by omega
      have ec : ((h : Int)).toNat = jN := by omega
      have pc : (0 : Int) ≤ (h : Int) := by omega
      have bc : (h : Int) < (d.size : Int) := by omega
      obtain ⟨x1, hx1⟩ : ∃ x, x = d[m]! := ⟨_, rfl⟩
      obtain ⟨y1, hy1⟩ : ∃ x, x = d[h]! := ⟨_, rfl⟩
      have l1 := S1.out.ld R hs.symm P m (by omega)
      have l2 := S1.out.ld R hs.symm P h (by omega)
      rw [← hx1, ← hiN] at l1
      rw [← hy1, ← hjN] at l2
      have hc1 := S1.out.cmp cm hs.symm x1 y1
      have hlv : ltOf cf x1 y1 = lt x1 y1 := by rw [hx1, hy1]; exact HS.out.2.2.1 h m (by omega) (by omega) (by omega) (by omega)
      have HX : Aside (x1 = d[m]! ∧ y1 = d[h]!) := ⟨hx1, hy1⟩
      clear hx1 hy1 hiN hjN cm
      cases hv : lt x1 y1 with
      | false =>
        rw [hv] at hlv
        have hv1 : ¬ cf x1 y1 < 0 := of_decide_eq_false hlv
        have hd1 : decide (cf x1 y1 < 0) = false := decide_eq_false hv1
        have HV : Aside (lt x1 y1 = false) := hv
        clear hv hlv
        go_wp2_with fail
        go_quiet_grown (first | (go_at_fn g; refine Calls.grown_of (hc1 _ _)))
        have S2 : Aside (SWK enc kc w0 blk off d (grow (wr.drewN nq) osq)) := S1.out.grown nq osq
        clear l1 l2 hc1 S1
        generalize grow (wr.drewN nq) osq = w2 at S2 ⊢
        clear nq osq ea ec hv1 hd1
        go_wp2
        go_roundg (j - (h + 1))
        case measure => omega
        case rel =>
          have hv := HV.out
          rw [HX.out.1, HX.out.2] at hv
          exact ⟨h + 1, j, by go_num, rfl, by omega, by omega, hjm, Nat.le_refl _, S2, fun _ => hv, HI.out.2⟩
      | true =>
        rw [hv] at hlv
        have hv1 : cf x1 y1 < 0 := of_decide_eq_true hlv
        have hd1 : decide (cf x1 y1 < 0) = true := decide_eq_true hv1
        have HV : Aside (lt x1 y1 = true) := hv
        clear hv hlv
        go_wp2_with fail
        go_quiet_grown (first | (go_at_fn g; refine Calls.grown_of (hc1 _ _)))
        have S2 : Aside (SWK enc kc w0 blk off d (grow (wr.drewN nq) osq)) := S1.out.grown nq osq
        clear l1 l2 hc1 S1
        generalize grow (wr.drewN nq) osq = w2 at S2 ⊢
        clear nq osq ea ec hv1 hd1
        go_wp2
        go_roundg (h - i)
        case measure => omega
        case rel =>
          have hv := HV.out
          rw [HX.out.1, HX.out.2] at hv
          exact ⟨i, h, rfl, rfl, hai, hih, by omega, Nat.le_refl _, S2, HI.out.1, fun _ => hv⟩
    · obtain rfl : i = j := by omega
      have hltz : ¬ (i : Int) < (i : Int) := by omega
      clear HC
      go_wp2
      go_loopg [17] m (fun kx s17 wr2 => ∃ (k : Nat) (dk : Array α), s17 = .int .i64 k ∧ i ≤ k ∧ k ≤ m ∧ k - i ≤ kx ∧ dk.size = d.size ∧ Aside (SWK enc kc w0 blk off dk wr2) ∧ Aside (PermIn a b d dk ∧ ∀ x, dk[x]! = d[rix k m (m + 1) x]!))
      case atStart => exact ⟨m, d, rfl, hjm, Nat.le_refl _, by omega, rfl, S1, permIn_refl _ _ _, fun x => at_eq d (rix_right m (m + 1) x (by omega)).symm⟩
      case round =>
        clear S1
        obtain ⟨k, dk, rfl, hik, hkm, hkx2, hds, S3, HK⟩ := hrel
        by_cases hlk : i < k
        · have hlkz : (i : Int) < (k : Int) := by omega
          obtain ⟨k1, hk1⟩ : ∃ q, q + 1 = k := ⟨k - 1, by omega⟩
          have hz1 : (k : Int) - 1 = (k1 : Int) := by omega
          obtain ⟨iN, hiN⟩ : ∃ q, q = k := ⟨_, rfl⟩
          obtain ⟨jN, hjN⟩ : ∃ q, q = k1 := ⟨_, rfl⟩
          have ea : ((k : Int)).toNat = iN := by omega
          have pa : (0 : Int) ≤ (k : Int) := by omega
          have ba : (k : Int) < (d.size : Int) := by omega
          have ec : ((k1 : Int)).toNat = jN := by omega
          have pc : (0 : Int) ≤ (k1 : Int) := by omega
          have bc : (k1 : Int) < (d.size : Int) := by omega
          obtain ⟨x1, hx1⟩ : ∃ x, x = dk[iN]! := ⟨_, rfl⟩
          obtain ⟨y1, hy1⟩ : ∃ x, x = dk[jN]! := ⟨_, rfl⟩
          have S2 : Aside (SWK enc kc w0 blk off (swp dk iN jN) ((wr.drew.setCells blk (off + iN * kc) (enc y1)).setCells blk (off + jN * kc) (enc x1))) := by rw [hx1, hy1]; exact S3.out.swapped R iN jN (by omega) (by omega)
          have c1 := S3.out.ld1 R (by omega) P iN (by omega)
          have c2 := S3.out.ld1 R (by omega) P jN (by omega)
          have f1 := S3.out.st1 R (by omega) P iN (by omega) y1
          have f2 := S3.out.st2 R (by omega) P iN jN (by omega) (by omega) y1 x1
          have n1 : (enc x1).length = kc := R.hk _
          have n2 : (enc y1).length = kc := R.hk _
          rw [← hx1] at c1
          rw [← hy1] at c2
          generalize enc x1 = cI at S2 c1 f2 n1
          generalize enc y1 = cJ at S2 c2 f1 f2 n2
          have HJ : Aside (iN = k ∧ jN = k1 ∧ k1 + 1 = k) := ⟨hiN, hjN, hk1⟩
          clear S3 hx1 hy1 hiN hjN hk1
          go_wp2_with fail
          go_big_region_o
          clear c1 c2 f1 f2
          generalize (wr.drew.setCells blk (off + iN * kc) cJ).setCells blk (off + jN * kc) cI = w2 at S2 ⊢
          clear ea ec
          go_wp2
          go_roundg (k1 - i)
          case measure => have := HJ.out.2.2; omega
          case rel =>
            obtain ⟨h1, h2, h3⟩ := HJ.out
            refine ⟨k1, swp dk iN jN, rfl, by omega, by omega, Nat.le_refl _, by rw [size_swp]; exact hds, S2, permIn_trans _ _ _ _ _ HK.out.1 (swp_permIn _ _ _ _ _ (by omega) (by omega) (by omega) (by omega) (by omega)), fun x => ?_⟩
            rw [h1, h2, ← h3]
            exact down_step hds (by omega) hm1 (by rw [h3]; exact HK.out.2) x
        · obtain rfl : k = i := by omega
          have hlkz : ¬ (k : Int) < (k : Int) := by omega
          go_wp2_with fail
          refine bodyPost_ret (results_none rfl _ _ _) rfl ?_
          refine ⟨rfl, dk, S3.out, HK.out.1, ?_⟩
          obtain ⟨q1, q2, q3, q4⟩ := HS.out
          exact two_sorted q1 q4 hai hjm q2 HK.out.2 HI.out.1 HI.out.2
end Go.Proofs.Ytcndihekpdebhaa.Sts
/- The library's symMergeCmpFunc at structs, over any program that has the bodies: two or more on each side; all. -/
namespace Go.Proofs.Ytcndihekpdebhaa.Sts
set_option maxRecDepth 1000000
open Go.Shelf Go.RowKit Go.Lib Go.Sort
set_option linter.unusedVariables false
open Stb (six rix at_eq six_none rix_left rix_right six_step rot_gt rot_lt rot_eq up_step down_step sorted_le sorted_part halves joined Stb stb_left stb_right stb_perm sorted_perm sorted_perm' one_sorted two_sorted)
variable {P : Program} {α : Type} [Inhabited α]

theorem lex35 : Region.lexB Region.Mode.any ([{ dst := some 158, op := Op.move (Operand.tmp 4), type := 57, pos := "zsortanyfunc.go:441", after := #[], guard := none }, { dst := some 159, op := Op.move (Operand.tmp 0), type := 22, pos := "zsortanyfunc.go:441", after := #[], guard := none }, { dst := some 160, op := Op.move (Operand.tmp 22), type := 3, pos := "zsortanyfunc.go:441", after := #[], guard := none }, { dst := some 161, op := Op.move (Operand.tmp 23), type := 3, pos := "zsortanyfunc.go:441", after := #[], guard := none }, { dst := some 162, op := Op.binOp BinOp.sub (3) (Operand.tmp 160) (Operand.tmp 161) (3), type := 3, pos := "zsortanyfunc.go:441", after := #[{ on := 2, ground := Ground.data }, { on := 3, ground := Ground.data }], guard := none }, { dst := some 163, op := Op.indexAddr (22) (Operand.tmp 159) (Operand.tmp 162), type := 0, pos := "zsortanyfunc.go:441", after := #[{ on := 1, ground := Ground.data }, { on := 4, ground := Ground.data }], guard := none }, { dst := some 164, op := Op.load 40 (Operand.tmp 163), type := 40, pos := "zsortanyfunc.go:441", after := #[{ on := 5, ground := Ground.data }], guard := none }, { dst := some 165, op := Op.move (Operand.tmp 0), type := 22, pos := "zsortanyfunc.go:441", after := #[], guard := none }, { dst := some 166, op := Op.move (Operand.tmp 23), type := 3, pos := "zsortanyfunc.go:441", after := #[], guard := none }, { dst := some 167, op := Op.indexAddr (22) (Operand.tmp 165) (Operand.tmp 166), type := 0, pos := "zsortanyfunc.go:441", after := #[{ on := 7, ground := Ground.data }, { on := 8, ground := Ground.data }], guard := none }, { dst := some 168, op := Op.load 40 (Operand.tmp 167), type := 40, pos := "zsortanyfunc.go:441", after := #[{ on := 9, ground := Ground.data }], guard := none }, { dst := some 169, op := Op.call { callee := Callee.value (Operand.tmp 158), args := #[Operand.tmp 164, Operand.tmp 168], argTypes := #[40, 40] }, type := 3, pos := "zsortanyfunc.go:441", after := #[{ on := 0, ground := Ground.data }, { on := 6, ground := Ground.data }, { on := 10, ground := Ground.data }], guard := none }, { dst := some 170, op := Op.binOp BinOp.lss (3) (Operand.tmp 169) (Operand.const (Value.int IntKind.i64 0)) (3), type := 4, pos := "zsortanyfunc.go:441", after := #[{ on := 11, ground := Ground.data }], guard := none }, { dst := some 171, op := Op.unOp UnOp.not (4) (Operand.tmp 170), type := 4, pos := "zsortanyfunc.go:441", after := #[{ on := 12, ground := Ground.data }], guard := none }] : List Oper).toArray = true := by kernel_rfl

set_option maxHeartbeats 16000000 in
theorem sym_go {lt : α → α → Bool} (L : Lay P) (kc : Nat) (aE : ∀ w, (isAgg 40).run P w = .ok true w) (zE : ∀ w, (Go.sizeOf 40).run P w = .ok kc w) (hS : SWO lt) (enc : α → List Value) (cf : α → α → Int) (g : Nat) (cb : Array Value) (blk off cap a m b : Nat) (d0 d : Array α) (w0 w : World)
    (eg : ∀ args w, (callFunc g args).run P w = .ok (.enter g args) w) (hcmp : CmpLays P g cb enc kc cf blk off d0.size w0) (R : RowK enc kc w0 blk off d0) (hs : d0.size = d.size) (S : SWK enc kc w0 blk off d w)
    (ham : a + 1 < m) (hmb : m + 1 < b) (hb : b ≤ d.size) (hsz : d.size < 4611686018427387904) (hL : SortedIn lt a m d) (hR : SortedIn lt m b d) (hst : Stb (ltOf cf) lt a m b d)
    (IH : ∀ (a' m' b' : Nat) (d' : Array α) (w' : World), b' - a' < b - a → d'.size = d.size → a' < m' → m' < b' → b' ≤ d.size → SWK enc kc w0 blk off d' w' → SortedIn lt a' m' d' → SortedIn lt m' b' d' → Stb (ltOf cf) lt a' m' b' d' →
      Calls P 54 #[.slice (some ⟨blk, off, none⟩) d.size cap, .int .i64 a', .int .i64 m', .int .i64 b', .func (.func g) #[] cb] w' fun e w'' => e = .returned (.tuple #[]) ∧ ∃ d'', SWK enc kc w0 blk off d'' w'' ∧ PermIn a' b' d' d'' ∧ SortedIn lt a' b' d'') :
    Calls P 54 #[.slice (some ⟨blk, off, none⟩) d.size cap, .int .i64 a, .int .i64 m, .int .i64 b, .func (.func g) #[] cb] w fun e w' => e = .returned (.tuple #[]) ∧ ∃ d', SWK enc kc w0 blk off d' w' ∧ PermIn a b d d' ∧ SortedIn lt a b d' := by
  have mixed := L.mixed; have t0 := L.t0; have a0 := L.a0; have z0 := L.z0; have v0 := L.v0; have t3 := L.t3; have a3 := L.a3; have z3 := L.z3; have v3 := L.v3; have t4 := L.t4; have a4 := L.a4; have z4 := L.z4; have v4 := L.v4; have tu := L.tu; have au := L.au; have zu := L.zu; have vu := L.vu; have tl := L.tl; have al := L.al; have zl := L.zl; have vl := L.vl; have tc := L.tc; have ac := L.ac; have zc := L.zc; have vc := L.vc
  have e_swap : ∀ args w, (callFunc 60 args).run P w = .ok (.enter 60 args) w := enters_of L.f_swap (by kernel_rfl) rfl
  have e_rot : ∀ args w, (callFunc 58 args).run P w = .ok (.enter 58 args) w := enters_of L.f_rot (by kernel_rfl) rfl
  have e_sym : ∀ args w, (callFunc 54 args).run P w = .ok (.enter 54 args) w := enters_of L.f_sym (by kernel_rfl) rfl
  have S0 : Aside (SWK enc kc w0 blk off d w) := S
  have HC : Aside _ := hcmp
  have HIH : Aside _ := IH
  have HS : Aside (SWO lt ∧ SortedIn lt a m d ∧ SortedIn lt m b d ∧ Stb (ltOf cf) lt a m b d) := ⟨hS, hL, hR, hst⟩
  have hma : ((m : Int) - (a : Int) == 1) = false := beq_false_of_ne (by omega)
  have hmb1 : ((b : Int) - (m : Int) == 1) = false := beq_false_of_ne (by omega)
  obtain ⟨mid, hmid⟩ : ∃ q, q = (a + b) / 2 := ⟨_, rfl⟩
  have hz : ((a : Int) + (b : Int)) / 2 = (mid : Int) := by omega
  obtain ⟨s0, r0, hcs⟩ : ∃ s0 r0 : Nat, (mid < m ∧ s0 + b = mid + m ∧ r0 = mid) ∨ (m ≤ mid ∧ s0 = a ∧ r0 = m) := by
    by_cases c : mid < m
    · exact ⟨mid + m - b, mid, .inl ⟨c, by omega, rfl⟩⟩
    · exact ⟨a, m, .inr ⟨by omega, rfl, rfl⟩⟩
  have HF : Aside (a < mid ∧ mid < b ∧ a ≤ s0 ∧ s0 ≤ r0 ∧ r0 ≤ m ∧ r0 ≤ mid ∧ mid + m ≤ s0 + b ∧ (s0 = a ∨ s0 + b = mid + m) ∧ (r0 = m ∨ r0 = mid)) := by
    show _ ∧ _
    omega
  have HQ : Aside (∀ c, s0 ≤ c → c < r0 → c + 1 ≤ mid + m ∧ m ≤ mid + m - 1 - c ∧ mid + m - 1 - c < b) := by
    show ∀ c, _
    intro c h1 h2
    omega
  have HM : Aside (mid = (a + b) / 2) := hmid
  have hmidb : mid < d.size := by omega
  have hm1 : m < d.size := by omega
  have hcs' : Aside _ := hcs
  clear S hcmp hS hL hR hst IH hmid ham hmb hcs
  have FG := L.f_sym
  go_enter FG, Try.ntmps54
  go_upto_if 140 with fail
  go_cut [20, 21] from 25 to 146 (fun v u wx => v = .int .i64 s0 ∧ u = .int .i64 r0 ∧ wx = w)
  case first =>
    as_aux_lemma =>
      rcases hcs'.out with ⟨c1, c2, c3⟩ | ⟨c1, c2, c3⟩
      · have hlt : (mid : Int) < (m : Int) := by omega
        have hz2 : (mid : Int) + (m : Int) - (b : Int) = (s0 : Int) := by omega
        have hr : (mid : Int) = (r0 : Int) := by omega
        have C2 : Aside (s0 + b = mid + m ∧ r0 = mid) := ⟨c2, c3⟩
        clear c2 c3 hr
        go_wp2_with fail
        go_meet
        case rel => exact ⟨rfl, by rw [C2.out.2], rfl⟩
      · have hlt : ¬ (mid : Int) < (m : Int) := by omega
        have C2 : Aside (s0 = a ∧ r0 = m) := ⟨c2, c3⟩
        clear c2 c3
        go_wp2_with fail
        go_meet
        case rel => exact ⟨by rw [C2.out.1], by rw [C2.out.2], rfl⟩
  case rest =>
  obtain ⟨rfl, rfl, h0⟩ := hcut
  replace h0 := h0.symm
  subst h0
  obtain ⟨p, hp⟩ : ∃ q, q + 1 = mid + m := ⟨mid + m - 1, by have := HF.out; omega⟩
  have hpz : (mid : Int) + (m : Int) - 1 = (p : Int) := by omega
  have HP : Aside (p + 1 = mid + m) := hp
  have hpd : p < 2 * d.size := by omega
  clear hp hcs'
  go_wp2_with fail
  go_loopg [20, 21] r0 (fun kx s20 s21 wr => ∃ lo hi : Nat, s20 = .int .i64 lo ∧ s21 = .int .i64 hi ∧ s0 ≤ lo ∧ lo ≤ hi ∧ hi ≤ r0 ∧ hi - lo ≤ kx ∧ Aside (SWK enc kc w0 blk off d wr) ∧ Aside ((s0 < lo → lt d[p - (lo - 1)]! d[lo - 1]! = false) ∧ (hi < r0 → lt d[p - hi]! d[hi]! = true)))
  case atStart => exact ⟨s0, r0, rfl, rfl, Nat.le_refl _, HF.out.2.2.2.1, Nat.le_refl _, by omega, S0, fun h => absurd h (Nat.lt_irrefl _), fun h => absurd h (Nat.lt_irrefl _)⟩
  case round =>
    clear S0
    obtain ⟨lo, hi, rfl, rfl, hsl, hlh, hhr, hkx, S1, HI⟩ := hrel
    by_cases hlt : lo < hi
    · have hltz : (lo : Int) < (hi : Int) := by omega
      have hrm : hi ≤ m := by have := HF.out; omega
      obtain ⟨c, hc⟩ : ∃ q, q = (lo + hi) / 2 := ⟨_, rfl⟩
      have hzc : ((lo : Int) + (hi : Int)) / 2 = (c : Int) := by omega
      have hlc : lo ≤ c := by omega
      have hch : c < hi := by omega
      have hq0 := HQ.out c (by omega) (by omega)
      have hp0 := HP.out
      obtain ⟨q, hq⟩ : ∃ q, q = p - c := ⟨_, rfl⟩
      have hqm : m ≤ q := by omega
      have hqb : q < b := by omega
      have HQc : Aside (q = p - c) := hq
      have cm := HC.out
      obtain ⟨iN, hiN⟩ : ∃ z, z = q := ⟨_, rfl⟩
      obtain ⟨jN, hjN⟩ : ∃ z, z = c := ⟨_, rfl⟩
      have ea : ((p : Int) - (c : Int)).toNat = iN := by omega
      have ea2 : p - c = iN := by omega
      have pa2 : c ≤ p := by omega
      have pa : (0 : Int) ≤ (p : Int) - (c : Int) := by omega
      have ba : (p : Int) - (c : Int) < (d.size : Int) := by omega
      have ra : IntKind.i64.wrap ((p : Int) - (c : Int)) = (p : Int) - (c : Int) := by rw [IntKind.wrap_i64]; omega
      clear hc hq0 hq hp0
      have ec : ((c : Int)).toNat = jN := by omega
      have pc : (0 : Int) ≤ (c : Int) := by omega
      have bc : (c : Int) < (d.size : Int) := by omega
      obtain ⟨x1, hx1⟩ : ∃ x, x = d[q]! := ⟨_, rfl⟩
      obtain ⟨y1, hy1⟩ : ∃ x, x = d[c]! := ⟨_, rfl⟩
      have l1 := S1.out.ld R hs.symm P q (by omega)
      have l2 := S1.out.ld R hs.symm P c (by omega)
      rw [← hx1, ← hiN] at l1
      rw [← hy1, ← hjN] at l2
      have hc1 := S1.out.cmp cm hs.symm x1 y1
      have hlv : ltOf cf x1 y1 = lt x1 y1 := by rw [hx1, hy1]; exact HS.out.2.2.2 c q (by have := HF.out; omega) (by omega) hqm hqb
      have HX : Aside (x1 = d[q]! ∧ y1 = d[c]!) := ⟨hx1, hy1⟩
      clear hx1 hy1 hiN hjN cm
      cases hv : lt x1 y1 with
      | false =>
        as_aux_lemma =>
          rw [hv] at hlv
          have hv1 : ¬ cf x1 y1 < 0 := of_decide_eq_false hlv
          have hd1 : decide (cf x1 y1 < 0) = false := decide_eq_false hv1
          have HV : Aside (lt x1 y1 = false) := hv
          clear hv hlv
          go_wp2_with fail
          refine wp_region_quiet_grown (by assumption) lex35 ?_
          repeat (go_big_quiet_step (first | (go_at_fn g; refine Calls.grown_of (hc1 _ _))))
          refine wpQuiet_nil ?_
          intro _ hw'
          obtain ⟨⟨nq, osq⟩, hw''⟩ := hw'
          subst hw''
          have S2 : Aside (SWK enc kc w0 blk off d (grow (wr.drewN nq) osq)) := S1.out.grown nq osq
          clear l1 l2 hc1 S1
          generalize grow (wr.drewN nq) osq = w2 at S2 ⊢
          clear nq osq ea ea2 ec hv1 hd1
          go_wp2
          go_roundg (hi - (c + 1))
          case measure => omega
          case rel =>
            have hv := HV.out
            rw [HX.out.1, HX.out.2, HQc.out] at hv
            exact ⟨c + 1, hi, by go_num, rfl, by omega, by omega, hhr, Nat.le_refl _, S2, fun _ => hv, HI.out.2⟩
      | true =>
        as_aux_lemma =>
          rw [hv] at hlv
          have hv1 : cf x1 y1 < 0 := of_decide_eq_true hlv
          have hd1 : decide (cf x1 y1 < 0) = true := decide_eq_true hv1
          have HV : Aside (lt x1 y1 = true) := hv
          clear hv hlv
          go_wp2_with fail
          refine wp_region_quiet_grown (by assumption) lex35 ?_
          repeat (go_big_quiet_step (first | (go_at_fn g; refine Calls.grown_of (hc1 _ _))))
          refine wpQuiet_nil ?_
          intro _ hw'
          obtain ⟨⟨nq, osq⟩, hw''⟩ := hw'
          subst hw''
          have S2 : Aside (SWK enc kc w0 blk off d (grow (wr.drewN nq) osq)) := S1.out.grown nq osq
          clear l1 l2 hc1 S1
          generalize grow (wr.drewN nq) osq = w2 at S2 ⊢
          clear nq osq ea ea2 ec hv1 hd1
          go_wp2
          go_roundg (c - lo)
          case measure => omega
          case rel =>
            have hv := HV.out
            rw [HX.out.1, HX.out.2, HQc.out] at hv
            exact ⟨lo, c, rfl, rfl, hsl, hlc, by omega, Nat.le_refl _, S2, HI.out.1, fun _ => hv⟩
    · obtain rfl : lo = hi := by omega
      have hltz : ¬ (lo : Int) < (lo : Int) := by omega
      obtain ⟨s, hs1⟩ : ∃ s, s = lo := ⟨_, rfl⟩
      rw [← hs1] at hsl hhr HI hltz
      have hf := HF.out
      obtain ⟨e, he⟩ : ∃ e, e + s = mid + m := ⟨mid + m - s, by omega⟩
      have hze : (mid : Int) + (m : Int) - (s : Int) = (e : Int) := by omega
      have hsm : s ≤ m := by omega
      have hme : m ≤ e := by omega
      have hsmid : s ≤ mid := by omega
      have hmide : mid ≤ e := by omega
      have heb : e ≤ b := by omega
      have has : a ≤ s := by omega
      have hamid : a < mid := by omega
      have hmidb2 : mid < b := by omega
      have F1 : s < m → m < e → lt d[e - 1]! d[s]! = true := fun h1 h2 => by
        have := HI.out.2 (by omega)
        rwa [show p - s = e - 1 by have := HP.out; omega] at this
      have F2 : a < s → e < b → lt d[e]! d[s - 1]! = false := fun h1 h2 => by
        have := HI.out.1 (by omega)
        rwa [show p - (s - 1) = e by have := HP.out; omega] at this
      have HH : Aside (∀ d1 : Array α, (∀ k, d1[k]! = d[rix s m e k]!) → (∀ x y, a ≤ x → x < mid → mid ≤ y → y < b → lt d1[y]! d1[x]! = false) ∧ SortedIn lt a s d1 ∧ SortedIn lt s mid d1 ∧ SortedIn lt mid e d1 ∧ SortedIn lt e b d1 ∧ Stb (ltOf cf) lt a s mid d1 ∧ Stb (ltOf cf) lt mid e b d1) := by
        show ∀ d1 : Array α, _
        intro d1 h1
        obtain ⟨q1, q2, q3, q4, q5⟩ := halves HS.out.1 has hsm hme heb (show mid + m = s + e by omega) HS.out.2.1 HS.out.2.2.1 h1 F1 F2
        exact ⟨q1, q2, q3, q4, q5, stb_left has hsm hme heb (by omega) HS.out.2.2.2 h1, stb_right has hsm hme heb (by omega) HS.out.2.2.2 h1⟩
      have HE : Aside (e + s = mid + m) := he
      rw [← hs1]
      have hed : e ≤ d.size := by omega
      clear F1 F2 HI HC HF HQ hpz hpd HP he hf hs1 hlh hsl hhr hkx HM
      go_upto_region 39 with fail
      go_cut [185] from 25 to 185 (fun v wx => v = .bool (decide (s < m) && decide (m < e)) ∧ wx = wr)
      case first =>
        as_aux_lemma =>
          by_cases c1 : s < m
          · have c1z : (s : Int) < (m : Int) := by omega
            by_cases c2 : m < e
            · have c2z : (m : Int) < (e : Int) := by omega
              have hb1 : (decide (s < m) && decide (m < e)) = true := by simp [c1, c2]
              have HB1 : Aside _ := hb1
              clear hb1 c1 c2
              go_wp2_with fail
              go_meet
              case rel => exact ⟨by rw [HB1.out], rfl⟩
            · have c2z : ¬ (m : Int) < (e : Int) := by omega
              have hb1 : (decide (s < m) && decide (m < e)) = false := by simp [c2]
              have HB1 : Aside _ := hb1
              clear hb1 c1 c2
              go_wp2_with fail
              go_meet
              case rel => exact ⟨by rw [HB1.out], rfl⟩
          · have c1z : ¬ (s : Int) < (m : Int) := by omega
            have hb1 : (decide (s < m) && decide (m < e)) = false := by simp [c1]
            have HB1 : Aside _ := hb1
            clear hb1 c1
            go_wp2_with fail
            go_meet
            case rel => exact ⟨by rw [HB1.out], rfl⟩
      case rest =>
      obtain ⟨rfl, h0⟩ := hcut
      replace h0 := h0.symm
      subst h0
      obtain ⟨B1, hB1⟩ : ∃ B1, B1 = (decide (s < m) && decide (m < e)) := ⟨_, rfl⟩
      rw [← hB1]
      have HB1 : Aside (B1 = (decide (s < m) && decide (m < e))) := hB1
      clear hB1
      go_upto_if 185 with fail
      go_cut [] from 25 to 191 (fun wx => ∃ d1 : Array α, d1.size = d.size ∧ Aside (SWK enc kc w0 blk off d1 wx) ∧ Aside (PermIn a b d d1 ∧ ∀ k, d1[k]! = d[rix s m e k]!))
      case first =>
        as_aux_lemma =>
          have hb1 := HB1.out
          cases B1 with
          | true =>
            have hb2 : s < m ∧ m < e := by simpa using hb1.symm
            have HR := Lib.hid (rot_any L kc aE zE enc (.func (.func g) #[] cb) blk off cap s m e d0 d w0 wr R hs S1.out hb2.1 hb2.2 hed hsz)
            clear hb1 hb2
            go_wp2_with fail
            refine HR.out.mono ?_
            rintro e2 w2 ⟨rfl, d1, q1, q2, q3⟩
            have HZ : Aside (SWK enc kc w0 blk off d1 w2 ∧ PermIn s e d d1 ∧ ∀ k, d1[k]! = d[rix s m e k]!) := ⟨q1, q2, q3⟩
            clear q1 q2 q3
            go_wp2_with fail
            go_meet
            case rel => exact ⟨d1, HZ.out.2.1.1, HZ.out.1, permIn_mono _ _ s e a b has heb hb HZ.out.2.1, HZ.out.2.2⟩
          | false =>
            clear hb1
            go_wp2_with fail
            go_meet
            case rel =>
              refine ⟨d, rfl, S1, permIn_refl _ _ _, fun k => at_eq d ?_⟩
              have hb1 := HB1.out
              by_cases c1 : s < m
              · obtain rfl : m = e := by
                  by_cases c2 : m < e
                  · rw [decide_eq_true c1, decide_eq_true c2] at hb1; cases hb1
                  · omega
                exact (rix_left s m k (by omega)).symm
              · obtain rfl : s = m := by omega
                exact (rix_right s e k (by omega)).symm
      case rest =>
      obtain ⟨d1, hd1, S2, HK⟩ := hcut
      have HH1 : Aside _ := HH.out d1 HK.out.2
      clear HB1 HH S1
      go_upto_region 41 with fail
      go_cut [199] from 25 to 199 (fun v wx => v = .bool (decide (a < s) && decide (s < mid)) ∧ wx = wc)
      case first =>
        as_aux_lemma =>
          by_cases c1 : a < s
          · have c1z : (a : Int) < (s : Int) := by omega
            by_cases c2 : s < mid
            · have c2z : (s : Int) < (mid : Int) := by omega
              have hb1 : (decide (a < s) && decide (s < mid)) = true := by simp [c1, c2]
              have HB1 : Aside _ := hb1
              clear hb1 c1 c2
              go_wp2_with fail
              go_meet
              case rel => exact ⟨by rw [HB1.out], rfl⟩
            · have c2z : ¬ (s : Int) < (mid : Int) := by omega
              have hb1 : (decide (a < s) && decide (s < mid)) = false := by simp [c2]
              have HB1 : Aside _ := hb1
              clear hb1 c1 c2
              go_wp2_with fail
              go_meet
              case rel => exact ⟨by rw [HB1.out], rfl⟩
          · have c1z : ¬ (a : Int) < (s : Int) := by omega
            have hb1 : (decide (a < s) && decide (s < mid)) = false := by simp [c1]
            have HB1 : Aside _ := hb1
            clear hb1 c1
            go_wp2_with fail
            go_meet
            case rel => exact ⟨by rw [HB1.out], rfl⟩
      case rest =>
      obtain ⟨rfl, h0⟩ := hcut
      replace h0 := h0.symm
      subst h0
      obtain ⟨B2, hB2⟩ : ∃ B2, B2 = (decide (a < s) && decide (s < mid)) := ⟨_, rfl⟩
      rw [← hB2]
      have HB2 : Aside (B2 = (decide (a < s) && decide (s < mid))) := hB2
      clear hB2
      go_upto_if 199 with fail
      go_cut [] from 25 to 205 (fun wx => ∃ d2 : Array α, d2.size = d.size ∧ Aside (SWK enc kc w0 blk off d2 wx) ∧ Aside (PermIn a mid d1 d2 ∧ SortedIn lt a mid d2))
      case first =>
        as_aux_lemma =>
          have hb1 := HB2.out
          cases B2 with
          | true =>
            have hb2 : a < s ∧ s < mid := by simpa using hb1.symm
            have HR := Lib.hid (HIH.out a s mid d1 _ (by omega) hd1 hb2.1 hb2.2 (by omega) S2.out HH1.out.2.1 HH1.out.2.2.1 HH1.out.2.2.2.2.2.1)
            clear hb1 hb2
            go_wp2_with fail
            refine HR.out.mono ?_
            rintro e2 w2 ⟨rfl, d2, q1, q2, q3⟩
            have HZ : Aside (SWK enc kc w0 blk off d2 w2 ∧ PermIn a mid d1 d2 ∧ SortedIn lt a mid d2) := ⟨q1, q2, q3⟩
            clear q1 q2 q3
            go_wp2_with fail
            go_meet
            case rel => exact ⟨d2, by rw [HZ.out.2.1.1, hd1], HZ.out.1, HZ.out.2⟩
          | false =>
            clear hb1
            go_wp2_with fail
            go_meet
            case rel =>
              refine ⟨d1, hd1, S2, permIn_refl _ _ _, ?_⟩
              have hb1 := HB2.out
              by_cases c1 : a < s
              · obtain rfl : s = mid := by
                  by_cases c2 : s < mid
                  · rw [decide_eq_true c1, decide_eq_true c2] at hb1; cases hb1
                  · omega
                exact HH1.out.2.1
              · obtain rfl : a = s := by omega
                exact HH1.out.2.2.1
      case rest =>
      obtain ⟨d2, hd2, S3, HK2⟩ := hcut
      have HH2 : Aside (SortedIn lt mid e d2 ∧ SortedIn lt e b d2 ∧ Stb (ltOf cf) lt mid e b d2) := by
        refine (⟨sorted_perm HK2.out.1 HH1.out.2.2.2.1, fun i j h1 h2 h3 => ?_, fun i j h1 h2 h3 h4 => ?_⟩ : _ ∧ _ ∧ _)
        · rw [HK2.out.1.2.1 i (by omega), HK2.out.1.2.1 j (by omega)]
          exact HH1.out.2.2.2.2.1 i j h1 h2 h3
        · rw [HK2.out.1.2.1 i (by omega), HK2.out.1.2.1 j (by omega)]
          exact HH1.out.2.2.2.2.2.2 i j h1 h2 h3 h4
      clear HB2 S2
      go_upto_region 43 with fail
      go_cut [213] from 25 to 213 (fun v wx => v = .bool (decide (mid < e) && decide (e < b)) ∧ wx = wc)
      case first =>
        as_aux_lemma =>
          by_cases c1 : mid < e
          · have c1z : (mid : Int) < (e : Int) := by omega
            by_cases c2 : e < b
            · have c2z : (e : Int) < (b : Int) := by omega
              have hb1 : (decide (mid < e) && decide (e < b)) = true := by simp [c1, c2]
              have HB1 : Aside _ := hb1
              clear hb1 c1 c2
              go_wp2_with fail
              go_meet
              case rel => exact ⟨by rw [HB1.out], rfl⟩
            · have c2z : ¬ (e : Int) < (b : Int) := by omega
              have hb1 : (decide (mid < e) && decide (e < b)) = false := by simp [c2]
              have HB1 : Aside _ := hb1
              clear hb1 c1 c2
              go_wp2_with fail
              go_meet
              case rel => exact ⟨by rw [HB1.out], rfl⟩
          · have c1z : ¬ (mid : Int) < (e : Int) := by omega
            have hb1 : (decide (mid < e) && decide (e < b)) = false := by simp [c1]
            have HB1 : Aside _ := hb1
            clear hb1 c1
            go_wp2_with fail
            go_meet
            case rel => exact ⟨by rw [HB1.out], rfl⟩
      case rest =>
      obtain ⟨rfl, h0⟩ := hcut
      replace h0 := h0.symm
      subst h0
      obtain ⟨B3, hB3⟩ : ∃ B3, B3 = (decide (mid < e) && decide (e < b)) := ⟨_, rfl⟩
      rw [← hB3]
      have HB3 : Aside (B3 = (decide (mid < e) && decide (e < b))) := hB3
      clear hB3
      have HJ : Aside (∀ d3 : Array α, PermIn mid b d2 d3 → SortedIn lt mid b d3 → PermIn a b d d3 ∧ SortedIn lt a b d3) := by
        show ∀ d3 : Array α, _
        intro d3 h1 h2
        obtain ⟨q1, q2⟩ := joined (Nat.le_of_lt hamid) (Nat.le_of_lt hmidb2) (by omega) HH1.out.1 HK2.out.1 HK2.out.2 h1 h2
        exact ⟨permIn_trans _ _ _ _ _ HK.out.1 q1, q2⟩
      have hb1 := HB3.out
      cases B3 with
      | true =>
        have hb2 : mid < e ∧ e < b := by simpa using hb1.symm
        have HR := Lib.hid (HIH.out mid e b d2 _ (by omega) hd2 hb2.1 hb2.2 hb S3.out HH2.out.1 HH2.out.2.1 HH2.out.2.2)
        clear hb1 hb2
        go_wp2_with fail
        refine HR.out.mono ?_
        rintro e2 w2 ⟨rfl, d3, q1, q2, q3⟩
        have HZ : Aside (SWK enc kc w0 blk off d3 w2 ∧ PermIn mid b d2 d3 ∧ SortedIn lt mid b d3) := ⟨q1, q2, q3⟩
        clear q1 q2 q3
        go_wp2_with fail
        go_end0
        exact ⟨rfl, d3, HZ.out.1, HJ.out d3 HZ.out.2.1 HZ.out.2.2⟩
      | false =>
        clear hb1
        go_wp2_with fail
        go_end0
        refine ⟨rfl, d2, S3.out, HJ.out d2 (permIn_refl _ _ _) ?_⟩
        have hb1 := HB3.out
        by_cases c1 : mid < e
        · obtain rfl : e = b := by
            by_cases c2 : e < b
            · rw [decide_eq_true c1, decide_eq_true c2] at hb1; cases hb1
            · omega
          exact HH2.out.1
        · obtain rfl : mid = e := by omega
          exact HH2.out.2.1

/-- Two sorted parts beside one another become one, stably. -/
theorem sym_any {lt : α → α → Bool} (L : Lay P) (kc : Nat) (aE : ∀ w, (isAgg 40).run P w = .ok true w) (zE : ∀ w, (Go.sizeOf 40).run P w = .ok kc w) (hS : SWO lt) (enc : α → List Value) (cf : α → α → Int) (g : Nat) (cb : Array Value) (blk off cap : Nat) (d0 : Array α) (w0 : World)
    (eg : ∀ args w, (callFunc g args).run P w = .ok (.enter g args) w) (hcmp : CmpLays P g cb enc kc cf blk off d0.size w0) (R : RowK enc kc w0 blk off d0) (hsz : d0.size < 4611686018427387904) :
    ∀ (n a m b : Nat) (d : Array α) (w : World), b - a ≤ n → d0.size = d.size → SWK enc kc w0 blk off d w → a < m → m < b → b ≤ d.size → SortedIn lt a m d → SortedIn lt m b d → Stb (ltOf cf) lt a m b d →
    Calls P 54 #[.slice (some ⟨blk, off, none⟩) d.size cap, .int .i64 a, .int .i64 m, .int .i64 b, .func (.func g) #[] cb] w fun e w' => e = .returned (.tuple #[]) ∧ ∃ d', SWK enc kc w0 blk off d' w' ∧ PermIn a b d d' ∧ SortedIn lt a b d'
  | 0, a, m, b, d, w, hn, _, _, h1, h2, _, _, _, _ => by omega
  | n + 1, a, m, b, d, w, hn, hs, S, h1, h2, hb, hL, hR, hst => by
    by_cases c1 : m = a + 1
    · exact sym_one L kc aE zE hS enc cf g cb blk off cap a m b d0 d w0 w eg hcmp R hs S c1 h2 hb (by omega) hR hst
    · by_cases c2 : b = m + 1
      · exact sym_two L kc aE zE hS enc cf g cb blk off cap a m b d0 d w0 w eg hcmp R hs S (by omega) c2 hb (by omega) hL hst
      · refine sym_go L kc aE zE hS enc cf g cb blk off cap a m b d0 d w0 w eg hcmp R hs S (by omega) (by omega) hb (by omega) hL hR hst ?_
        intro a' m' b' d' w' q1 q2 q3 q4 q5 q6 q7 q8 q9
        have := sym_any L kc aE zE hS enc cf g cb blk off cap d0 w0 eg hcmp R hsz n a' m' b' d' w' (by omega) (by omega) q6 q3 q4 (by omega) q7 q8 q9
        rwa [q2] at this
end Go.Proofs.Ytcndihekpdebhaa.Sts
