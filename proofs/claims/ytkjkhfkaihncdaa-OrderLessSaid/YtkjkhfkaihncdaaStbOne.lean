/- The library's symMergeCmpFunc at ints: one element on the left, or one on the right. -/
import Derived.Test.YtkjkhfkaihncdaaStbSwp
namespace Go.Proofs.Ytkjkhfkaihncdaa.Stb
set_option maxRecDepth 100000
open Go.Shelf Go.RowKit Go.Lib Go.Sort
set_option linter.unusedVariables false
variable {α : Type} [Inhabited α]

set_option maxHeartbeats 8000000 in
theorem sym_one {lt : α → α → Bool} (hS : SWO lt) (enc : α → Value) (cf : α → α → Int) (g : Nat) (cb : Array Value) (blk off cap a m b : Nat) (d0 d : Array α) (w0 w : World)
    (eg : ∀ args w, (callFunc g args).run Try.prog w = .ok (.enter g args) w) (hcmp : CmpLays1 Try.prog g cb enc cf blk off d0.size w0) (R : Row1 enc w0 blk off d0) (hs : d0.size = d.size) (S : SW enc w0 blk off d w)
    (hm : m = a + 1) (hmb : m < b) (hb : b ≤ d.size) (hsz : d.size < 4611686018427387904) (hR : SortedIn lt m b d) (hst : Stb (ltOf cf) lt a m b d) :
    Calls Try.prog 20 #[.slice (some ⟨blk, off, none⟩) d.size cap, .int .i64 a, .int .i64 m, .int .i64 b, .func (.func g) #[] cb] w fun e w' => e = .returned (.tuple #[]) ∧ ∃ d', SW enc w0 blk off d' w' ∧ PermIn a b d d' ∧ SortedIn lt a b d' := by
  have mixed := mix
  have hcl0 := R.hO.cells
  simp only [Value.cells] at hcl0
  have hst0 := R.hO.store Try.prog
  have S0 : Aside (SW enc w0 blk off d w) := S
  have HC : Aside _ := hcmp
  have HS : Aside (SWO lt ∧ SortedIn lt m b d ∧ Stb (ltOf cf) lt a m b d ∧ m = a + 1) := ⟨hS, hR, hst, hm⟩
  have hma : (m : Int) - (a : Int) = 1 := by omega
  have ham : a < m := by omega
  clear S hcmp hS hR hst hm
  go_enter Try.func20, Try.ntmps20
  go_wp2
  go_loopg [10, 11] b (fun kx s10 s11 wr => ∃ i j : Nat, s10 = .int .i64 i ∧ s11 = .int .i64 j ∧ m ≤ i ∧ i ≤ j ∧ j ≤ b ∧ j - i ≤ kx ∧ Aside (SW enc w0 blk off d wr) ∧ Aside ((m < i → lt d[i - 1]! d[a]! = true) ∧ (j < b → lt d[j]! d[a]! = false)))
  case atStart => exact ⟨m, b, rfl, rfl, Nat.le_refl _, by omega, Nat.le_refl _, by omega, S0, fun h => absurd h (Nat.lt_irrefl _), fun h => absurd h (Nat.lt_irrefl _)⟩
  case round =>
    clear S0
    obtain ⟨i, j, rfl, rfl, hmi, hij, hjb, hkx, S1, HI⟩ := hrel
    by_cases hlt : i < j
    · have hltz : (i : Int) < (j : Int) := by omega
      obtain ⟨h, hh⟩ : ∃ q, q = (i + j) / 2 := ⟨_, rfl⟩
      have hz : ((i : Int) + (j : Int)) / 2 = (h : Int) := by omega
      have hih : i ≤ h := by omega
      have hhj : h < j := by omega
      clear hh
      have cm := HC.out
      obtain ⟨iN, hiN⟩ : ∃ q, q = h := ⟨_, rfl⟩
      obtain ⟨jN, hjN⟩ : ∃ q, q = a := ⟨_, rfl⟩
      have ea : ((h : Int)).toNat = iN := by omega
      have pa : (0 : Int) ≤ (h : Int) := by omega
      have ba : (h : Int) < (d.size : Int) := by omega
      have ec : ((a : Int)).toNat = jN := by omega
      have pc : (0 : Int) ≤ (a : Int) := by omega
      have bc : (a : Int) < (d.size : Int) := by omega
      obtain ⟨x1, hx1⟩ : ∃ x, x = d[h]! := ⟨_, rfl⟩
      obtain ⟨y1, hy1⟩ : ∃ x, x = d[a]! := ⟨_, rfl⟩
      have l1 := S1.out.cl R hs.symm h (by omega)
      have l2 := S1.out.cl R hs.symm a (by omega)
      rw [← hx1, ← hiN] at l1
      rw [← hy1, ← hjN] at l2
      have hc1 := S1.out.cmp cm hs.symm x1 y1
      have hlv : ltOf cf x1 y1 = lt x1 y1 := by rw [hx1, hy1]; exact HS.out.2.2.1 a h (Nat.le_refl _) (by omega) (by omega) (by omega)
      have HX : Aside (x1 = d[h]! ∧ y1 = d[a]!) := ⟨hx1, hy1⟩
      clear hx1 hy1 hiN hjN cm
      cases hv : lt x1 y1 with
      | true =>
        rw [hv] at hlv
        have hv1 : cf x1 y1 < 0 := of_decide_eq_true hlv
        have hd1 : decide (cf x1 y1 < 0) = true := decide_eq_true hv1
        have HV : Aside (lt x1 y1 = true) := hv
        clear hv hlv
        go_wp2_with fail
        go_quiet_grown (first | (go_at_fn g; refine Calls.grown_of (hc1 _ _)))
        have S2 : Aside (SW enc w0 blk off d (grow (wr.drewN nq) osq)) := S1.out.grown nq osq
        clear l1 l2 hc1 S1
        generalize grow (wr.drewN nq) osq = w2 at S2 ⊢
        clear nq osq ea ec hv1 hd1
        go_wp2
        go_roundg (j - (h + 1))
        case measure => omega
        case rel =>
          have hv := HV.out
          rw [HX.out.1, HX.out.2] at hv
          exact ⟨h + 1, j, by go_num, rfl, by omega, by omega, hjb, Nat.le_refl _, S2, fun _ => hv, HI.out.2⟩
      | false =>
        rw [hv] at hlv
        have hv1 : ¬ cf x1 y1 < 0 := of_decide_eq_false hlv
        have hd1 : decide (cf x1 y1 < 0) = false := decide_eq_false hv1
        have HV : Aside (lt x1 y1 = false) := hv
        clear hv hlv
        go_wp2_with fail
        go_quiet_grown (first | (go_at_fn g; refine Calls.grown_of (hc1 _ _)))
        have S2 : Aside (SW enc w0 blk off d (grow (wr.drewN nq) osq)) := S1.out.grown nq osq
        clear l1 l2 hc1 S1
        generalize grow (wr.drewN nq) osq = w2 at S2 ⊢
        clear nq osq ea ec hv1 hd1
        go_wp2
        go_roundg (h - i)
        case measure => omega
        case rel =>
          have hv := HV.out
          rw [HX.out.1, HX.out.2] at hv
          exact ⟨i, h, rfl, rfl, hmi, hih, by omega, Nat.le_refl _, S2, HI.out.1, fun _ => hv⟩
    · obtain rfl : i = j := by omega
      have hltz : ¬ (i : Int) < (i : Int) := by omega
      obtain ⟨i1, hi1⟩ : ∃ q, q + 1 = i := ⟨i - 1, by omega⟩
      have hz1 : (i : Int) - 1 = (i1 : Int) := by omega
      have ha1 : a ≤ i1 := by omega
      have hi2 : i1 + 1 ≤ d.size := by omega
      have HN : Aside (i1 + 1 = i) := hi1
      clear hi1 HC
      go_wp2
      go_loopg [13] i1 (fun kx s13 wr2 => ∃ (k : Nat) (dk : Array α), s13 = .int .i64 k ∧ a ≤ k ∧ k ≤ i1 ∧ i1 - k ≤ kx ∧ dk.size = d.size ∧ Aside (SW enc w0 blk off dk wr2) ∧ Aside (PermIn a b d dk ∧ ∀ x, dk[x]! = d[rix a (a + 1) (k + 1) x]!))
      case atStart => exact ⟨a, d, rfl, Nat.le_refl _, ha1, by omega, rfl, S1, permIn_refl _ _ _, fun x => at_eq d (rix_left a (a + 1) x (by omega)).symm⟩
      case round =>
        clear S1
        obtain ⟨k, dk, rfl, hak, hki, hkx2, hds, S3, HK⟩ := hrel
        by_cases hlk : k < i1
        · have hlkz : (k : Int) < (i1 : Int) := by omega
          obtain ⟨iN, hiN⟩ : ∃ q, q = k := ⟨_, rfl⟩
          obtain ⟨jN, hjN⟩ : ∃ q, q = k + 1 := ⟨_, rfl⟩
          have ea : ((k : Int)).toNat = iN := by omega
          have pa : (0 : Int) ≤ (k : Int) := by omega
          have ba : (k : Int) < (d.size : Int) := by omega
          have ec : ((k : Int) + 1).toNat = jN := by omega
          have pc : (0 : Int) ≤ (k : Int) + 1 := by omega
          have bc : (k : Int) + 1 < (d.size : Int) := by omega
          have rc : IntKind.i64.wrap ((k : Int) + 1) = (k : Int) + 1 := by rw [IntKind.wrap_i64]; omega
          obtain ⟨x1, hx1⟩ : ∃ x, x = dk[iN]! := ⟨_, rfl⟩
          obtain ⟨y1, hy1⟩ : ∃ x, x = dk[jN]! := ⟨_, rfl⟩
          have S2 : Aside (SW enc w0 blk off (swp dk iN jN) ((wr.setCell ⟨blk, off + iN, none⟩ (enc y1)).setCell ⟨blk, off + jN, none⟩ (enc x1)).drew) := by rw [hx1, hy1]; exact S3.out.swapped R iN jN (by omega) (by omega)
          have c1 := S3.out.c1 R (by omega) iN (by omega)
          have c2 := S3.out.c1 R (by omega) jN (by omega)
          have f1 := S3.out.f1 R (by omega) iN (by omega)
          have f2 := S3.out.f1 R (by omega) jN (by omega)
          obtain ⟨u1, c3⟩ := S3.out.c2 R (by omega) iN jN (by omega) (by omega) (enc y1)
          rw [← hx1] at c1
          rw [← hy1] at c2
          have HJ : Aside (iN = k ∧ jN = k + 1) := ⟨hiN, hjN⟩
          clear S3 hx1 hy1 hiN hjN
          go_wp2_with fail
          go_big_region_o
          clear c1 c2 c3 f1 f2
          generalize ((wr.setCell ⟨blk, off + iN, none⟩ (enc y1)).setCell ⟨blk, off + jN, none⟩ (enc x1)).drew = w2 at S2 ⊢
          clear ea ec
          go_wp2
          go_roundg (i1 - (k + 1))
          case measure => omega
          case rel =>
            obtain ⟨h1, h2⟩ := HJ.out
            have e := HN.out
            refine ⟨k + 1, swp dk iN jN, by go_num, by omega, by omega, Nat.le_refl _, by rw [size_swp]; exact hds, S2, permIn_trans _ _ _ _ _ HK.out.1 (swp_permIn _ _ _ _ _ (by omega) (by omega) (by omega) (by omega) (by omega)), fun x => ?_⟩
            rw [h1, h2]
            exact up_step hds hak (by omega) HK.out.2 x
        · obtain rfl : k = i1 := by omega
          have hlkz : ¬ (k : Int) < (k : Int) := by omega
          go_wp2_with fail
          refine bodyPost_ret (results_none rfl _ _ _) rfl ?_
          refine ⟨rfl, dk, S3.out, HK.out.1, ?_⟩
          obtain ⟨q1, q2, q3, q4⟩ := HS.out
          refine one_sorted q1 q4 hmi hjb q2 (fun x => ?_) HI.out.1 HI.out.2
          rw [← HN.out]
          exact HK.out.2 x

set_option maxHeartbeats 8000000 in
theorem sym_two {lt : α → α → Bool} (hS : SWO lt) (enc : α → Value) (cf : α → α → Int) (g : Nat) (cb : Array Value) (blk off cap a m b : Nat) (d0 d : Array α) (w0 w : World)
    (eg : ∀ args w, (callFunc g args).run Try.prog w = .ok (.enter g args) w) (hcmp : CmpLays1 Try.prog g cb enc cf blk off d0.size w0) (R : Row1 enc w0 blk off d0) (hs : d0.size = d.size) (S : SW enc w0 blk off d w)
    (ham : a + 1 < m) (hbm : b = m + 1) (hb : b ≤ d.size) (hsz : d.size < 4611686018427387904) (hL : SortedIn lt a m d) (hst : Stb (ltOf cf) lt a m b d) :
    Calls Try.prog 20 #[.slice (some ⟨blk, off, none⟩) d.size cap, .int .i64 a, .int .i64 m, .int .i64 b, .func (.func g) #[] cb] w fun e w' => e = .returned (.tuple #[]) ∧ ∃ d', SW enc w0 blk off d' w' ∧ PermIn a b d d' ∧ SortedIn lt a b d' := by
  have mixed := mix
  have hcl0 := R.hO.cells
  simp only [Value.cells] at hcl0
  have hst0 := R.hO.store Try.prog
  have S0 : Aside (SW enc w0 blk off d w) := S
  have HC : Aside _ := hcmp
  have HS : Aside (SWO lt ∧ SortedIn lt a m d ∧ Stb (ltOf cf) lt a m b d ∧ b = m + 1) := ⟨hS, hL, hst, hbm⟩
  have hma : ((m : Int) - (a : Int) == 1) = false := beq_false_of_ne (by omega)
  have hmb : (b : Int) - (m : Int) = 1 := by omega
  have hm1 : m < d.size := by omega
  have hm2 : m < b := by omega
  clear S hcmp hS hL hst hbm
  go_enter Try.func20, Try.ntmps20
  go_wp2
  go_loopg [14, 15] b (fun kx s10 s11 wr => ∃ i j : Nat, s10 = .int .i64 i ∧ s11 = .int .i64 j ∧ a ≤ i ∧ i ≤ j ∧ j ≤ m ∧ j - i ≤ kx ∧ Aside (SW enc w0 blk off d wr) ∧ Aside ((a < i → lt d[m]! d[i - 1]! = false) ∧ (j < m → lt d[m]! d[j]! = true)))
  case atStart => exact ⟨a, m, rfl, rfl, Nat.le_refl _, by omega, Nat.le_refl _, by omega, S0, fun h => absurd h (Nat.lt_irrefl _), fun h => absurd h (Nat.lt_irrefl _)⟩
  case round =>
    clear S0
    obtain ⟨i, j, rfl, rfl, hai, hij, hjm, hkx, S1, HI⟩ := hrel
    by_cases hlt : i < j
    · have hltz : (i : Int) < (j : Int) := by omega
      obtain ⟨h, hh⟩ : ∃ q, q = (i + j) / 2 := ⟨_, rfl⟩
      have hz : ((i : Int) + (j : Int)) / 2 = (h : Int) := by omega
      have hih : i ≤ h := by omega
      have hhj : h < j := by omega
      clear hh
      have cm := HC.out
      obtain ⟨iN, hiN⟩ : ∃ q, q = m := ⟨_, rfl⟩
      obtain ⟨jN, hjN⟩ : ∃ q, q = h := ⟨_, rfl⟩
      have ea : ((m : Int)).toNat = iN := by omega
      have pa : (0 : Int) ≤ (m : Int) := by omega
      have ba : (m : Int) < (d.size : Int) := by omega
      have ec : ((h : Int)).toNat = jN := by omega
      have pc : (0 : Int) ≤ (h : Int) := by omega
      have bc : (h : Int) < (d.size : Int) := by omega
      obtain ⟨x1, hx1⟩ : ∃ x, x = d[m]! := ⟨_, rfl⟩
      obtain ⟨y1, hy1⟩ : ∃ x, x = d[h]! := ⟨_, rfl⟩
      have l1 := S1.out.cl R hs.symm m (by omega)
      have l2 := S1.out.cl R hs.symm h (by omega)
      rw [← hx1, ← hiN] at l1
      rw [← hy1, ← hjN] at l2
      have hc1 := S1.out.cmp cm hs.symm x1 y1
      have hlv : ltOf cf x1 y1 = lt x1 y1 := by rw [hx1, hy1]; exact HS.out.2.2.1 h m (by omega) (by omega) (by omega) (by omega)
      have HX : Aside (x1 = d[m]! ∧ y1 = d[h]!) := ⟨hx1, hy1⟩
      clear hx1 hy1 hiN hjN cm
      cases hv : lt x1 y1 with
      | false =>
        rw [hv] at hlv
        have hv1 : ¬ cf x1 y1 < 0 := of_decide_eq_false hlv
        have hd1 : decide (cf x1 y1 < 0) = false := decide_eq_false hv1
        have HV : Aside (lt x1 y1 = false) := hv
        clear hv hlv
        go_wp2_with fail
        go_quiet_grown (first | (go_at_fn g; refine Calls.grown_of (hc1 _ _)))
        have S2 : Aside (SW enc w0 blk off d (grow (wr.drewN nq) osq)) := S1.out.grown nq osq
        clear l1 l2 hc1 S1
        generalize grow (wr.drewN nq) osq = w2 at S2 ⊢
        clear nq osq ea ec hv1 hd1
        go_wp2
        go_roundg (j - (h + 1))
        case measure => omega
        case rel =>
          have hv := HV.out
          rw [HX.out.1, HX.out.2] at hv
          exact ⟨h + 1, j, by go_num, rfl, by omega, by omega, hjm, Nat.le_refl _, S2, fun _ => hv, HI.out.2⟩
      | true =>
        rw [hv] at hlv
        have hv1 : cf x1 y1 < 0 := of_decide_eq_true hlv
        have hd1 : decide (cf x1 y1 < 0) = true := decide_eq_true hv1
        have HV : Aside (lt x1 y1 = true) := hv
        clear hv hlv
        go_wp2_with fail
        go_quiet_grown (first | (go_at_fn g; refine Calls.grown_of (hc1 _ _)))
        have S2 : Aside (SW enc w0 blk off d (grow (wr.drewN nq) osq)) := S1.out.grown nq osq
        clear l1 l2 hc1 S1
        generalize grow (wr.drewN nq) osq = w2 at S2 ⊢
        clear nq osq ea ec hv1 hd1
        go_wp2
        go_roundg (h - i)
        case measure => omega
        case rel =>
          have hv := HV.out
          rw [HX.out.1, HX.out.2] at hv
          exact ⟨i, h, rfl, rfl, hai, hih, by omega, Nat.le_refl _, S2, HI.out.1, fun _ => hv⟩
    · obtain rfl : i = j := by omega
      have hltz : ¬ (i : Int) < (i : Int) := by omega
      clear HC
      go_wp2
      go_loopg [17] m (fun kx s17 wr2 => ∃ (k : Nat) (dk : Array α), s17 = .int .i64 k ∧ i ≤ k ∧ k ≤ m ∧ k - i ≤ kx ∧ dk.size = d.size ∧ Aside (SW enc w0 blk off dk wr2) ∧ Aside (PermIn a b d dk ∧ ∀ x, dk[x]! = d[rix k m (m + 1) x]!))
      case atStart => exact ⟨m, d, rfl, hjm, Nat.le_refl _, by omega, rfl, S1, permIn_refl _ _ _, fun x => at_eq d (rix_right m (m + 1) x (by omega)).symm⟩
      case round =>
        clear S1
        obtain ⟨k, dk, rfl, hik, hkm, hkx2, hds, S3, HK⟩ := hrel
        by_cases hlk : i < k
        · have hlkz : (i : Int) < (k : Int) := by omega
          obtain ⟨k1, hk1⟩ : ∃ q, q + 1 = k := ⟨k - 1, by omega⟩
          have hz1 : (k : Int) - 1 = (k1 : Int) := by omega
          obtain ⟨iN, hiN⟩ : ∃ q, q = k := ⟨_, rfl⟩
          obtain ⟨jN, hjN⟩ : ∃ q, q = k1 := ⟨_, rfl⟩
          have ea : ((k : Int)).toNat = iN := by omega
          have pa : (0 : Int) ≤ (k : Int) := by omega
          have ba : (k : Int) < (d.size : Int) := by omega
          have ec : ((k1 : Int)).toNat = jN := by omega
          have pc : (0 : Int) ≤ (k1 : Int) := by omega
          have bc : (k1 : Int) < (d.size : Int) := by omega
          obtain ⟨x1, hx1⟩ : ∃ x, x = dk[iN]! := ⟨_, rfl⟩
          obtain ⟨y1, hy1⟩ : ∃ x, x = dk[jN]! := ⟨_, rfl⟩
          have S2 : Aside (SW enc w0 blk off (swp dk iN jN) ((wr.setCell ⟨blk, off + iN, none⟩ (enc y1)).setCell ⟨blk, off + jN, none⟩ (enc x1)).drew) := by rw [hx1, hy1]; exact S3.out.swapped R iN jN (by omega) (by omega)
          have c1 := S3.out.c1 R (by omega) iN (by omega)
          have c2 := S3.out.c1 R (by omega) jN (by omega)
          have f1 := S3.out.f1 R (by omega) iN (by omega)
          have f2 := S3.out.f1 R (by omega) jN (by omega)
          obtain ⟨u1, c3⟩ := S3.out.c2 R (by omega) iN jN (by omega) (by omega) (enc y1)
          rw [← hx1] at c1
          rw [← hy1] at c2
          have HJ : Aside (iN = k ∧ jN = k1 ∧ k1 + 1 = k) := ⟨hiN, hjN, hk1⟩
          clear S3 hx1 hy1 hiN hjN hk1
          go_wp2_with fail
          go_big_region_o
          clear c1 c2 c3 f1 f2
          generalize ((wr.setCell ⟨blk, off + iN, none⟩ (enc y1)).setCell ⟨blk, off + jN, none⟩ (enc x1)).drew = w2 at S2 ⊢
          clear ea ec
          go_wp2
          go_roundg (k1 - i)
          case measure => have := HJ.out.2.2; omega
          case rel =>
            obtain ⟨h1, h2, h3⟩ := HJ.out
            refine ⟨k1, swp dk iN jN, rfl, by omega, by omega, Nat.le_refl _, by rw [size_swp]; exact hds, S2, permIn_trans _ _ _ _ _ HK.out.1 (swp_permIn _ _ _ _ _ (by omega) (by omega) (by omega) (by omega) (by omega)), fun x => ?_⟩
            rw [h1, h2, ← h3]
            exact down_step hds (by omega) hm1 (by rw [h3]; exact HK.out.2) x
        · obtain rfl : k = i := by omega
          have hlkz : ¬ (k : Int) < (k : Int) := by omega
          go_wp2_with fail
          refine bodyPost_ret (results_none rfl _ _ _) rfl ?_
          refine ⟨rfl, dk, S3.out, HK.out.1, ?_⟩
          obtain ⟨q1, q2, q3, q4⟩ := HS.out
          exact two_sorted q1 q4 hai hjm q2 HK.out.2 HI.out.1 HI.out.2
end Go.Proofs.Ytkjkhfkaihncdaa.Stb
