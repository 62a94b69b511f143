/- The library's symMergeCmpFunc at ints: two or more on each side; all. -/
import Derived.Test.YtkjkhfkaihncdaaStbOne
namespace Go.Proofs.Ytkjkhfkaihncdaa.Stb
set_option maxRecDepth 100000
open Go.Shelf Go.RowKit Go.Lib Go.Sort
set_option linter.unusedVariables false
variable {α : Type} [Inhabited α]

set_option maxHeartbeats 16000000 in
theorem sym_go {lt : α → α → Bool} (hS : SWO lt) (enc : α → Value) (cf : α → α → Int) (g : Nat) (cb : Array Value) (blk off cap a m b : Nat) (d0 d : Array α) (w0 w : World)
    (eg : ∀ args w, (callFunc g args).run Try.prog w = .ok (.enter g args) w) (hcmp : CmpLays1 Try.prog g cb enc cf blk off d0.size w0) (R : Row1 enc w0 blk off d0) (hs : d0.size = d.size) (S : SW enc w0 blk off d w)
    (ham : a + 1 < m) (hmb : m + 1 < b) (hb : b ≤ d.size) (hsz : d.size < 4611686018427387904) (hL : SortedIn lt a m d) (hR : SortedIn lt m b d) (hst : Stb (ltOf cf) lt a m b d)
    (IH : ∀ (a' m' b' : Nat) (d' : Array α) (w' : World), b' - a' < b - a → d'.size = d.size → a' < m' → m' < b' → b' ≤ d.size → SW enc w0 blk off d' w' → SortedIn lt a' m' d' → SortedIn lt m' b' d' → Stb (ltOf cf) lt a' m' b' d' →
      Calls Try.prog 20 #[.slice (some ⟨blk, off, none⟩) d.size cap, .int .i64 a', .int .i64 m', .int .i64 b', .func (.func g) #[] cb] w' fun e w'' => e = .returned (.tuple #[]) ∧ ∃ d'', SW enc w0 blk off d'' w'' ∧ PermIn a' b' d' d'' ∧ SortedIn lt a' b' d'') :
    Calls Try.prog 20 #[.slice (some ⟨blk, off, none⟩) d.size cap, .int .i64 a, .int .i64 m, .int .i64 b, .func (.func g) #[] cb] w fun e w' => e = .returned (.tuple #[]) ∧ ∃ d', SW enc w0 blk off d' w' ∧ PermIn a b d d' ∧ SortedIn lt a b d' := by
  have mixed := mix
  have S0 : Aside (SW enc w0 blk off d w) := S
  have HC : Aside _ := hcmp
  have HIH : Aside _ := IH
  have HS : Aside (SWO lt ∧ SortedIn lt a m d ∧ SortedIn lt m b d ∧ Stb (ltOf cf) lt a m b d) := ⟨hS, hL, hR, hst⟩
  have hma : ((m : Int) - (a : Int) == 1) = false := beq_false_of_ne (by omega)
  have hmb1 : ((b : Int) - (m : Int) == 1) = false := beq_false_of_ne (by omega)
  obtain ⟨mid, hmid⟩ : ∃ q, q = (a + b) / 2 := ⟨_, rfl⟩
  have hz : ((a : Int) + (b : Int)) / 2 = (mid : Int) := by omega
  obtain ⟨s0, r0, hcs⟩ : ∃ s0 r0 : Nat, (mid < m ∧ s0 + b = mid + m ∧ r0 = mid) ∨ (m ≤ mid ∧ s0 = a ∧ r0 = m) := by
    by_cases c : mid < m
    · exact ⟨mid + m - b, mid, .inl ⟨c, by omega, rfl⟩⟩
    · exact ⟨a, m, .inr ⟨by omega, rfl, rfl⟩⟩
  have HF : Aside (a < mid ∧ mid < b ∧ a ≤ s0 ∧ s0 ≤ r0 ∧ r0 ≤ m ∧ r0 ≤ mid ∧ mid + m ≤ s0 + b ∧ (s0 = a ∨ s0 + b = mid + m) ∧ (r0 = m ∨ r0 = mid)) := by
    show _ ∧ _
    omega
  have HQ : Aside (∀ c, s0 ≤ c → c < r0 → c + 1 ≤ mid + m ∧ m ≤ mid + m - 1 - c ∧ mid + m - 1 - c < b) := by
    show ∀ c, _
    intro c h1 h2
    omega
  have HM : Aside (mid = (a + b) / 2) := hmid
  have hmidb : mid < d.size := by omega
  have hm1 : m < d.size := by omega
  have hcs' : Aside _ := hcs
  clear S hcmp hS hL hR hst IH hmid ham hmb hcs
  go_enter Try.func20, Try.ntmps20
  go_upto_if 140 with fail
  go_cut [20, 21] (fun v u wx => v = .int .i64 s0 ∧ u = .int .i64 r0 ∧ wx = w)
  case first =>
    as_aux_lemma =>
      rcases hcs'.out with ⟨c1, c2, c3⟩ | ⟨c1, c2, c3⟩
      · have hlt : (mid : Int) < (m : Int) := by omega
        have hz2 : (mid : Int) + (m : Int) - (b : Int) = (s0 : Int) := by omega
        have hr : (mid : Int) = (r0 : Int) := by omega
        have C2 : Aside (s0 + b = mid + m ∧ r0 = mid) := ⟨c2, c3⟩
        clear c2 c3 hr
        go_wp2_with fail
        go_meet
        case rel => exact ⟨rfl, by rw [C2.out.2], rfl⟩
      · have hlt : ¬ (mid : Int) < (m : Int) := by omega
        have C2 : Aside (s0 = a ∧ r0 = m) := ⟨c2, c3⟩
        clear c2 c3
        go_wp2_with fail
        go_meet
        case rel => exact ⟨by rw [C2.out.1], by rw [C2.out.2], rfl⟩
  case rest =>
  obtain ⟨rfl, rfl, h0⟩ := hcut
  replace h0 := h0.symm
  subst h0
  obtain ⟨p, hp⟩ : ∃ q, q + 1 = mid + m := ⟨mid + m - 1, by have := HF.out; omega⟩
  have hpz : (mid : Int) + (m : Int) - 1 = (p : Int) := by omega
  have HP : Aside (p + 1 = mid + m) := hp
  have hpd : p < 2 * d.size := by omega
  clear hp hcs'
  go_wp2_with fail
  go_loopg [20, 21] r0 (fun kx s20 s21 wr => ∃ lo hi : Nat, s20 = .int .i64 lo ∧ s21 = .int .i64 hi ∧ s0 ≤ lo ∧ lo ≤ hi ∧ hi ≤ r0 ∧ hi - lo ≤ kx ∧ Aside (SW enc w0 blk off d wr) ∧ Aside ((s0 < lo → lt d[p - (lo - 1)]! d[lo - 1]! = false) ∧ (hi < r0 → lt d[p - hi]! d[hi]! = true)))
  case atStart => exact ⟨s0, r0, rfl, rfl, Nat.le_refl _, HF.out.2.2.2.1, Nat.le_refl _, by omega, S0, fun h => absurd h (Nat.lt_irrefl _), fun h => absurd h (Nat.lt_irrefl _)⟩
  case round =>
    clear S0
    obtain ⟨lo, hi, rfl, rfl, hsl, hlh, hhr, hkx, S1, HI⟩ := hrel
    by_cases hlt : lo < hi
    · have hltz : (lo : Int) < (hi : Int) := by omega
      have hrm : hi ≤ m := by have := HF.out; omega
      obtain ⟨c, hc⟩ : ∃ q, q = (lo + hi) / 2 := ⟨_, rfl⟩
      have hzc : ((lo : Int) + (hi : Int)) / 2 = (c : Int) := by omega
      have hlc : lo ≤ c := by omega
      have hch : c < hi := by omega
      have hq0 := HQ.out c (by omega) (by omega)
      have hp0 := HP.out
      obtain ⟨q, hq⟩ : ∃ q, q = p - c := ⟨_, rfl⟩
      have hqm : m ≤ q := by omega
      have hqb : q < b := by omega
      have HQc : Aside (q = p - c) := hq
      have cm := HC.out
      obtain ⟨iN, hiN⟩ : ∃ z, z = q := ⟨_, rfl⟩
      obtain ⟨jN, hjN⟩ : ∃ z, z = c := ⟨_, rfl⟩
      have ea : ((p : Int) - (c : Int)).toNat = iN := by omega
      have ea2 : p - c = iN := by omega
      have pa2 : c ≤ p := by omega
      have pa : (0 : Int) ≤ (p : Int) - (c : Int) := by omega
      have ba : (p : Int) - (c : Int) < (d.size : Int) := by omega
      have ra : IntKind.i64.wrap ((p : Int) - (c : Int)) = (p : Int) - (c : Int) := by rw [IntKind.wrap_i64]; omega
      clear hc hq0 hq hp0
      have ec : ((c : Int)).toNat = jN := by omega
      have pc : (0 : Int) ≤ (c : Int) := by omega
      have bc : (c : Int) < (d.size : Int) := by omega
      obtain ⟨x1, hx1⟩ : ∃ x, x = d[q]! := ⟨_, rfl⟩
      obtain ⟨y1, hy1⟩ : ∃ x, x = d[c]! := ⟨_, rfl⟩
      have l1 := S1.out.cl R hs.symm q (by omega)
      have l2 := S1.out.cl R hs.symm c (by omega)
      rw [← hx1, ← hiN] at l1
      rw [← hy1, ← hjN] at l2
      have hc1 := S1.out.cmp cm hs.symm x1 y1
      have hlv : ltOf cf x1 y1 = lt x1 y1 := by rw [hx1, hy1]; exact HS.out.2.2.2 c q (by have := HF.out; omega) (by omega) hqm hqb
      have HX : Aside (x1 = d[q]! ∧ y1 = d[c]!) := ⟨hx1, hy1⟩
      clear hx1 hy1 hiN hjN cm
      cases hv : lt x1 y1 with
      | false =>
        as_aux_lemma =>
          rw [hv] at hlv
          have hv1 : ¬ cf x1 y1 < 0 := of_decide_eq_false hlv
          have hd1 : decide (cf x1 y1 < 0) = false := decide_eq_false hv1
          have HV : Aside (lt x1 y1 = false) := hv
          clear hv hlv
          go_wp2_with fail
          go_quiet_grown (first | (go_at_fn g; refine Calls.grown_of (hc1 _ _)))
          have S2 : Aside (SW enc w0 blk off d (grow (wr.drewN nq) osq)) := S1.out.grown nq osq
          clear l1 l2 hc1 S1
          generalize grow (wr.drewN nq) osq = w2 at S2 ⊢
          clear nq osq ea ea2 ec hv1 hd1
          go_wp2
          go_roundg (hi - (c + 1))
          case measure => omega
          case rel =>
            have hv := HV.out
            rw [HX.out.1, HX.out.2, HQc.out] at hv
            exact ⟨c + 1, hi, by go_num, rfl, by omega, by omega, hhr, Nat.le_refl _, S2, fun _ => hv, HI.out.2⟩
      | true =>
        as_aux_lemma =>
          rw [hv] at hlv
          have hv1 : cf x1 y1 < 0 := of_decide_eq_true hlv
          have hd1 : decide (cf x1 y1 < 0) = true := decide_eq_true hv1
          have HV : Aside (lt x1 y1 = true) := hv
          clear hv hlv
          go_wp2_with fail
          go_quiet_grown (first | (go_at_fn g; refine Calls.grown_of (hc1 _ _)))
          have S2 : Aside (SW enc w0 blk off d (grow (wr.drewN nq) osq)) := S1.out.grown nq osq
          clear l1 l2 hc1 S1
          generalize grow (wr.drewN nq) osq = w2 at S2 ⊢
          clear nq osq ea ea2 ec hv1 hd1
          go_wp2
          go_roundg (c - lo)
          case measure => omega
          case rel =>
            have hv := HV.out
            rw [HX.out.1, HX.out.2, HQc.out] at hv
            exact ⟨lo, c, rfl, rfl, hsl, hlc, by omega, Nat.le_refl _, S2, HI.out.1, fun _ => hv⟩
    · obtain rfl : lo = hi := by omega
      have hltz : ¬ (lo : Int) < (lo : Int) := by omega
      obtain ⟨s, hs1⟩ : ∃ s, s = lo := ⟨_, rfl⟩
      rw [← hs1] at hsl hhr HI hltz
      have hf := HF.out
      obtain ⟨e, he⟩ : ∃ e, e + s = mid + m := ⟨mid + m - s, by omega⟩
      have hze : (mid : Int) + (m : Int) - (s : Int) = (e : Int) := by omega
      have hsm : s ≤ m := by omega
      have hme : m ≤ e := by omega
      have hsmid : s ≤ mid := by omega
      have hmide : mid ≤ e := by omega
      have heb : e ≤ b := by omega
      have has : a ≤ s := by omega
      have hamid : a < mid := by omega
      have hmidb2 : mid < b := by omega
      have F1 : s < m → m < e → lt d[e - 1]! d[s]! = true := fun h1 h2 => by
        have := HI.out.2 (by omega)
        rwa [show p - s = e - 1 by have := HP.out; omega] at this
      have F2 : a < s → e < b → lt d[e]! d[s - 1]! = false := fun h1 h2 => by
        have := HI.out.1 (by omega)
        rwa [show p - (s - 1) = e by have := HP.out; omega] at this
      have HH : Aside (∀ d1 : Array α, (∀ k, d1[k]! = d[rix s m e k]!) → (∀ x y, a ≤ x → x < mid → mid ≤ y → y < b → lt d1[y]! d1[x]! = false) ∧ SortedIn lt a s d1 ∧ SortedIn lt s mid d1 ∧ SortedIn lt mid e d1 ∧ SortedIn lt e b d1 ∧ Stb (ltOf cf) lt a s mid d1 ∧ Stb (ltOf cf) lt mid e b d1) := by
        show ∀ d1 : Array α, _
        intro d1 h1
        obtain ⟨q1, q2, q3, q4, q5⟩ := halves HS.out.1 has hsm hme heb (show mid + m = s + e by omega) HS.out.2.1 HS.out.2.2.1 h1 F1 F2
        exact ⟨q1, q2, q3, q4, q5, stb_left has hsm hme heb (by omega) HS.out.2.2.2 h1, stb_right has hsm hme heb (by omega) HS.out.2.2.2 h1⟩
      have HE : Aside (e + s = mid + m) := he
      rw [← hs1]
      have hed : e ≤ d.size := by omega
      clear F1 F2 HI HC HF HQ hpz hpd HP he hf hs1 hlh hsl hhr hkx HM
      go_upto_region 39 with fail
      go_cut [185] (fun v wx => v = .bool (decide (s < m) && decide (m < e)) ∧ wx = wr)
      case first =>
        as_aux_lemma =>
          by_cases c1 : s < m
          · have c1z : (s : Int) < (m : Int) := by omega
            by_cases c2 : m < e
            · have c2z : (m : Int) < (e : Int) := by omega
              have hb1 : (decide (s < m) && decide (m < e)) = true := by simp [c1, c2]
              have HB1 : Aside _ := hb1
              clear hb1 c1 c2
              go_wp2_with fail
              go_meet
              case rel => exact ⟨by rw [HB1.out], rfl⟩
            · have c2z : ¬ (m : Int) < (e : Int) := by omega
              have hb1 : (decide (s < m) && decide (m < e)) = false := by simp [c2]
              have HB1 : Aside _ := hb1
              clear hb1 c1 c2
              go_wp2_with fail
              go_meet
              case rel => exact ⟨by rw [HB1.out], rfl⟩
          · have c1z : ¬ (s : Int) < (m : Int) := by omega
            have hb1 : (decide (s < m) && decide (m < e)) = false := by simp [c1]
            have HB1 : Aside _ := hb1
            clear hb1 c1
            go_wp2_with fail
            go_meet
            case rel => exact ⟨by rw [HB1.out], rfl⟩
      case rest =>
      obtain ⟨rfl, h0⟩ := hcut
      replace h0 := h0.symm
      subst h0
      obtain ⟨B1, hB1⟩ : ∃ B1, B1 = (decide (s < m) && decide (m < e)) := ⟨_, rfl⟩
      rw [← hB1]
      have HB1 : Aside (B1 = (decide (s < m) && decide (m < e))) := hB1
      clear hB1
      go_upto_if 185 with fail
      go_cut [] (fun wx => ∃ d1 : Array α, d1.size = d.size ∧ Aside (SW enc w0 blk off d1 wx) ∧ Aside (PermIn a b d d1 ∧ ∀ k, d1[k]! = d[rix s m e k]!))
      case first =>
        as_aux_lemma =>
          have hb1 := HB1.out
          cases B1 with
          | true =>
            have hb2 : s < m ∧ m < e := by simpa using hb1.symm
            have HR := Lib.hid (rot_any enc (.func (.func g) #[] cb) blk off cap s m e d0 d w0 wr R hs S1.out hb2.1 hb2.2 hed hsz)
            clear hb1 hb2
            go_wp2_with fail
            refine HR.out.mono ?_
            rintro e2 w2 ⟨rfl, d1, q1, q2, q3⟩
            have HZ : Aside (SW enc w0 blk off d1 w2 ∧ PermIn s e d d1 ∧ ∀ k, d1[k]! = d[rix s m e k]!) := ⟨q1, q2, q3⟩
            clear q1 q2 q3
            go_wp2_with fail
            go_meet
            case rel => exact ⟨d1, HZ.out.2.1.1, HZ.out.1, permIn_mono _ _ s e a b has heb hb HZ.out.2.1, HZ.out.2.2⟩
          | false =>
            clear hb1
            go_wp2_with fail
            go_meet
            case rel =>
              refine ⟨d, rfl, S1, permIn_refl _ _ _, fun k => at_eq d ?_⟩
              have hb1 := HB1.out
              by_cases c1 : s < m
              · obtain rfl : m = e := by
                  by_cases c2 : m < e
                  · rw [decide_eq_true c1, decide_eq_true c2] at hb1; cases hb1
                  · omega
                exact (rix_left s m k (by omega)).symm
              · obtain rfl : s = m := by omega
                exact (rix_right s e k (by omega)).symm
      case rest =>
      obtain ⟨d1, hd1, S2, HK⟩ := hcut
      have HH1 : Aside _ := HH.out d1 HK.out.2
      clear HB1 HH S1
      go_upto_region 41 with fail
      go_cut [199] (fun v wx => v = .bool (decide (a < s) && decide (s < mid)) ∧ wx = wc)
      case first =>
        as_aux_lemma =>
          by_cases c1 : a < s
          · have c1z : (a : Int) < (s : Int) := by omega
            by_cases c2 : s < mid
            · have c2z : (s : Int) < (mid : Int) := by omega
              have hb1 : (decide (a < s) && decide (s < mid)) = true := by simp [c1, c2]
              have HB1 : Aside _ := hb1
              clear hb1 c1 c2
              go_wp2_with fail
              go_meet
              case rel => exact ⟨by rw [HB1.out], rfl⟩
            · have c2z : ¬ (s : Int) < (mid : Int) := by omega
              have hb1 : (decide (a < s) && decide (s < mid)) = false := by simp [c2]
              have HB1 : Aside _ := hb1
              clear hb1 c1 c2
              go_wp2_with fail
              go_meet
              case rel => exact ⟨by rw [HB1.out], rfl⟩
          · have c1z : ¬ (a : Int) < (s : Int) := by omega
            have hb1 : (decide (a < s) && decide (s < mid)) = false := by simp [c1]
            have HB1 : Aside _ := hb1
            clear hb1 c1
            go_wp2_with fail
            go_meet
            case rel => exact ⟨by rw [HB1.out], rfl⟩
      case rest =>
      obtain ⟨rfl, h0⟩ := hcut
      replace h0 := h0.symm
      subst h0
      obtain ⟨B2, hB2⟩ : ∃ B2, B2 = (decide (a < s) && decide (s < mid)) := ⟨_, rfl⟩
      rw [← hB2]
      have HB2 : Aside (B2 = (decide (a < s) && decide (s < mid))) := hB2
      clear hB2
      go_upto_if 199 with fail
      go_cut [] (fun wx => ∃ d2 : Array α, d2.size = d.size ∧ Aside (SW enc w0 blk off d2 wx) ∧ Aside (PermIn a mid d1 d2 ∧ SortedIn lt a mid d2))
      case first =>
        as_aux_lemma =>
          have hb1 := HB2.out
          cases B2 with
          | true =>
            have hb2 : a < s ∧ s < mid := by simpa using hb1.symm
            have HR := Lib.hid (HIH.out a s mid d1 _ (by omega) hd1 hb2.1 hb2.2 (by omega) S2.out HH1.out.2.1 HH1.out.2.2.1 HH1.out.2.2.2.2.2.1)
            clear hb1 hb2
            go_wp2_with fail
            refine HR.out.mono ?_
            rintro e2 w2 ⟨rfl, d2, q1, q2, q3⟩
            have HZ : Aside (SW enc w0 blk off d2 w2 ∧ PermIn a mid d1 d2 ∧ SortedIn lt a mid d2) := ⟨q1, q2, q3⟩
            clear q1 q2 q3
            go_wp2_with fail
            go_meet
            case rel => exact ⟨d2, by rw [HZ.out.2.1.1, hd1], HZ.out.1, HZ.out.2⟩
          | false =>
            clear hb1
            go_wp2_with fail
            go_meet
            case rel =>
              refine ⟨d1, hd1, S2, permIn_refl _ _ _, ?_⟩
              have hb1 := HB2.out
              by_cases c1 : a < s
              · obtain rfl : s = mid := by
                  by_cases c2 : s < mid
                  · rw [decide_eq_true c1, decide_eq_true c2] at hb1; cases hb1
                  · omega
                exact HH1.out.2.1
              · obtain rfl : a = s := by omega
                exact HH1.out.2.2.1
      case rest =>
      obtain ⟨d2, hd2, S3, HK2⟩ := hcut
      have HH2 : Aside (SortedIn lt mid e d2 ∧ SortedIn lt e b d2 ∧ Stb (ltOf cf) lt mid e b d2) := by
        refine (⟨sorted_perm HK2.out.1 HH1.out.2.2.2.1, fun i j h1 h2 h3 => ?_, fun i j h1 h2 h3 h4 => ?_⟩ : _ ∧ _ ∧ _)
        · rw [HK2.out.1.2.1 i (by omega), HK2.out.1.2.1 j (by omega)]
          exact HH1.out.2.2.2.2.1 i j h1 h2 h3
        · rw [HK2.out.1.2.1 i (by omega), HK2.out.1.2.1 j (by omega)]
          exact HH1.out.2.2.2.2.2.2 i j h1 h2 h3 h4
      clear HB2 S2
      go_upto_region 43 with fail
      go_cut [213] (fun v wx => v = .bool (decide (mid < e) && decide (e < b)) ∧ wx = wc)
      case first =>
        as_aux_lemma =>
          by_cases c1 : mid < e
          · have c1z : (mid : Int) < (e : Int) := by omega
            by_cases c2 : e < b
            · have c2z : (e : Int) < (b : Int) := by omega
              have hb1 : (decide (mid < e) && decide (e < b)) = true := by simp [c1, c2]
              have HB1 : Aside _ := hb1
              clear hb1 c1 c2
              go_wp2_with fail
              go_meet
              case rel => exact ⟨by rw [HB1.out], rfl⟩
            · have c2z : ¬ (e : Int) < (b : Int) := by omega
              have hb1 : (decide (mid < e) && decide (e < b)) = false := by simp [c2]
              have HB1 : Aside _ := hb1
              clear hb1 c1 c2
              go_wp2_with fail
              go_meet
              case rel => exact ⟨by rw [HB1.out], rfl⟩
          · have c1z : ¬ (mid : Int) < (e : Int) := by omega
            have hb1 : (decide (mid < e) && decide (e < b)) = false := by simp [c1]
            have HB1 : Aside _ := hb1
            clear hb1 c1
            go_wp2_with fail
            go_meet
            case rel => exact ⟨by rw [HB1.out], rfl⟩
      case rest =>
      obtain ⟨rfl, h0⟩ := hcut
      replace h0 := h0.symm
      subst h0
      obtain ⟨B3, hB3⟩ : ∃ B3, B3 = (decide (mid < e) && decide (e < b)) := ⟨_, rfl⟩
      rw [← hB3]
      have HB3 : Aside (B3 = (decide (mid < e) && decide (e < b))) := hB3
      clear hB3
      have HJ : Aside (∀ d3 : Array α, PermIn mid b d2 d3 → SortedIn lt mid b d3 → PermIn a b d d3 ∧ SortedIn lt a b d3) := by
        show ∀ d3 : Array α, _
        intro d3 h1 h2
        obtain ⟨q1, q2⟩ := joined (Nat.le_of_lt hamid) (Nat.le_of_lt hmidb2) (by omega) HH1.out.1 HK2.out.1 HK2.out.2 h1 h2
        exact ⟨permIn_trans _ _ _ _ _ HK.out.1 q1, q2⟩
      have hb1 := HB3.out
      cases B3 with
      | true =>
        have hb2 : mid < e ∧ e < b := by simpa using hb1.symm
        have HR := Lib.hid (HIH.out mid e b d2 _ (by omega) hd2 hb2.1 hb2.2 hb S3.out HH2.out.1 HH2.out.2.1 HH2.out.2.2)
        clear hb1 hb2
        go_wp2_with fail
        refine HR.out.mono ?_
        rintro e2 w2 ⟨rfl, d3, q1, q2, q3⟩
        have HZ : Aside (SW enc w0 blk off d3 w2 ∧ PermIn mid b d2 d3 ∧ SortedIn lt mid b d3) := ⟨q1, q2, q3⟩
        clear q1 q2 q3
        go_wp2_with fail
        go_end0
        exact ⟨rfl, d3, HZ.out.1, HJ.out d3 HZ.out.2.1 HZ.out.2.2⟩
      | false =>
        clear hb1
        go_wp2_with fail
        go_end0
        refine ⟨rfl, d2, S3.out, HJ.out d2 (permIn_refl _ _ _) ?_⟩
        have hb1 := HB3.out
        by_cases c1 : mid < e
        · obtain rfl : e = b := by
            by_cases c2 : e < b
            · rw [decide_eq_true c1, decide_eq_true c2] at hb1; cases hb1
            · omega
          exact HH2.out.1
        · obtain rfl : mid = e := by omega
          exact HH2.out.2.1

/-- Two sorted parts beside one another become one, stably. -/
theorem sym_any {lt : α → α → Bool} (hS : SWO lt) (enc : α → Value) (cf : α → α → Int) (g : Nat) (cb : Array Value) (blk off cap : Nat) (d0 : Array α) (w0 : World)
    (eg : ∀ args w, (callFunc g args).run Try.prog w = .ok (.enter g args) w) (hcmp : CmpLays1 Try.prog g cb enc cf blk off d0.size w0) (R : Row1 enc w0 blk off d0) (hsz : d0.size < 4611686018427387904) :
    ∀ (n a m b : Nat) (d : Array α) (w : World), b - a ≤ n → d0.size = d.size → SW enc w0 blk off d w → a < m → m < b → b ≤ d.size → SortedIn lt a m d → SortedIn lt m b d → Stb (ltOf cf) lt a m b d →
    Calls Try.prog 20 #[.slice (some ⟨blk, off, none⟩) d.size cap, .int .i64 a, .int .i64 m, .int .i64 b, .func (.func g) #[] cb] w fun e w' => e = .returned (.tuple #[]) ∧ ∃ d', SW enc w0 blk off d' w' ∧ PermIn a b d d' ∧ SortedIn lt a b d'
  | 0, a, m, b, d, w, hn, _, _, h1, h2, _, _, _, _ => by omega
  | n + 1, a, m, b, d, w, hn, hs, S, h1, h2, hb, hL, hR, hst => by
    by_cases c1 : m = a + 1
    · exact sym_one hS enc cf g cb blk off cap a m b d0 d w0 w eg hcmp R hs S c1 h2 hb (by omega) hR hst
    · by_cases c2 : b = m + 1
      · exact sym_two hS enc cf g cb blk off cap a m b d0 d w0 w eg hcmp R hs S (by omega) c2 hb (by omega) hL hst
      · refine sym_go hS enc cf g cb blk off cap a m b d0 d w0 w eg hcmp R hs S (by omega) (by omega) hb (by omega) hL hR hst ?_
        intro a' m' b' d' w' q1 q2 q3 q4 q5 q6 q7 q8 q9
        have := sym_any hS enc cf g cb blk off cap d0 w0 eg hcmp R hsz n a' m' b' d' w' (by omega) (by omega) q6 q3 q4 (by omega) q7 q8 q9
        rwa [q2] at this
end Go.Proofs.Ytkjkhfkaihncdaa.Stb
