/- Common to the claims of this seat, part 3: texts that were written one by one, laid behind one another. -/
import Derived.Test.YtghglgodkknlnaaPart1
import Derived.Test.YtghglgodkknlnaaPart2
/- Draw: DrawTakes, over any draws that do as they should. -/
namespace Go.Proofs.Ytghglgodkknlnaa.Drw
set_option maxRecDepth 100000
open Go.RowKit
open Go.Sort
open Kit
open Mon
open Tre (Al Lst inI lst_keep lst_take lst_at lst_new Allocs Funds encF encF_len encL encL_len path IntsL int_cell alloc_cells6 encI_len)
open Led (Lg encG encG_len Legs)
set_option linter.unusedVariables false
variable {w w' : World}

theorem nth_cells {w2 : World} {bd od r k1 ba oa m2 c2 : Nat} {dl : List Dw} {Y : List Al} {now : Int} {p : List Int} {q i : Nat} {b : Al} {m : Int} (hD : Draws w2 (some ⟨bd, od, none⟩) r k1 dl) (hA : Allocs w2 (some ⟨ba, oa, none⟩) m2 c2 Y) (h : Nth Y now p dl q i b m) :
    ∀ wz, Below w2.heap.size w2 wz → wz.cell? ⟨bd, od + q * 2, none⟩ = some (.int .i64 (i : Nat)) ∧ wz.cell? ⟨bd, od + q * 2 + 1, none⟩ = some (.int .i64 m) ∧ (wz.cell? ⟨ba, oa + i * 6, none⟩ = some (.int .i64 b.fund) ∧ wz.cell? ⟨ba, oa + i * 6 + 1, none⟩ = some (.int .i64 b.from') ∧ wz.cell? ⟨ba, oa + i * 6 + 2, none⟩ = some (.int .i64 b.till) ∧ wz.cell? ⟨ba, oa + i * 6 + 3, none⟩ = some (.int .i64 b.avail) ∧ wz.cell? ⟨ba, oa + i * 6 + 4, none⟩ = some (.int .i64 b.lien) ∧ wz.cell? ⟨ba, oa + i * 6 + 5, none⟩ = some (.int .i64 b.spent)) := by
  intro wz hz
  obtain ⟨hql, hdq⟩ := List.getElem?_eq_some_iff.1 h.at'
  obtain ⟨hil, hai⟩ := List.getElem?_eq_some_iff.1 h.al
  obtain ⟨p0, p1⟩ := draw_cells (lst_keep encD_len hD hz) hql
  have p2 := alloc_cells6 (lst_keep encL_len hA hz) hil
  rw [hdq] at p0 p1
  rw [hai] at p2
  exact ⟨p0, p1, p2⟩
theorem box_cells (w : World) (b : Al) : (w.alloc (.cells #[.int .i64 b.fund, .int .i64 b.from', .int .i64 b.till, .int .i64 b.avail, .int .i64 b.lien, .int .i64 b.spent] 53)).cell? ⟨w.heap.size, 0, none⟩ = some (.int .i64 b.fund) ∧ (w.alloc (.cells #[.int .i64 b.fund, .int .i64 b.from', .int .i64 b.till, .int .i64 b.avail, .int .i64 b.lien, .int .i64 b.spent] 53)).cell? ⟨w.heap.size, 2, none⟩ = some (.int .i64 b.till) := by
  have h := alloc_cells6 (lst_new encL_len w [b] #[.int .i64 b.fund, .int .i64 b.from', .int .i64 b.till, .int .i64 b.avail, .int .i64 b.lien, .int .i64 b.spent] 53 _ 1 rfl rfl rfl (by omega)) (k := 0) (by simp)
  simp only [Nat.zero_mul, Nat.zero_add, List.getElem_cons_zero] at h
  exact ⟨h.1, h.2.2.1⟩
set_option maxHeartbeats 16000000 in
theorem takes_any (hP : Prog) (W : World) (a : Option Addr) (n c : Nat) (fl : List Tre.Fd) (hF : Funds W a n c fl) (hokf : ∀ x ∈ fl, x.ok) (a2 : Option Addr) (n2 c2 : Nat) (al : List Al) (hA : Allocs W a2 n2 c2 al) (hoka : ∀ x ∈ al, x.ok) (f am now : Int) (hf : inI f) (ham : inI am) (hnow : inI now) :
    Calls Try.prog 6 #[.slice a n c, .slice a2 n2 c2, .int .i64 f, .int .i64 am, .int .i64 now] W fun e W' => e = .returned (.bool true) ∧ Below W.heap.size W W' := by
  obtain ⟨m, X, hm, hX, hFX, hokX, hm12⟩ := cut_fl hF hokf
  obtain ⟨m2, Y, hm2, hY, hAY, hokY, hm16⟩ := cut_al hA hoka
  have HFew := Lib.hid (few_any a a2 n c n2 c2 m m2 hF.cap hA.cap hF.max hA.max hm hm2 W)
  have HX := Lib.hid (And.intro hFX (And.intro hAY (And.intro hAY.len hokY)))
  have HDr := Lib.hid (hP.draws W X Y a a2 m c m2 c2 f am now hFX hAY hokX hokY (by omega) (by omega) hf ham hnow)
  have HPa := Lib.hid (fun w h => Tre.path_any X hokX a m c w h (by omega) f)
  have HAw := Lib.hid (fun w => awake_any hP w)
  have HI := Lib.hid (And.intro ham hnow)
  clear hm hX hFX hokX hm12 hm2 hY hAY hokY hF hokf hA hoka hf ham hnow hP
  go_enter Try.func6, Try.ntmps6
  go_wp2_with fail
  refine HFew.out.mono ?_
  rintro e w1 ⟨rfl, rfl⟩
  go_wp2_with fail
  refine HDr.out.mono ?_
  rintro e w1 ⟨v1, rfl, ho1, hb1⟩
  obtain ⟨x1, k1, rfl, hl1⟩ := out_lst encD_len ho1
  by_cases hz : drawsE X Y f am now = 0
  · obtain ⟨r, hr⟩ : ∃ r, r = (drawsL X Y f am now).length := ⟨_, rfl⟩
    rw [← hr] at hl1
    rw [hz, ← hr]
    have hr16 : r ≤ 16 := by
      have h := once_len Y.length _ (draws_held hz).once (fun d hd => by have := (draws_held hz).at' d hd; omega)
      rw [← hr, HX.out.2.2.1] at h
      omega
    have HR := Lib.hid hr
    have HB1 := Lib.hid (And.intro hb1 hl1)
    have HZ := Lib.hid hz
    have HS := Lib.hid (And.intro (draws_ok hz) (fun d (hd : d ∈ drawsL X Y f am now) => ((draws_held hz).at' d hd).2.2.1))
    clear ho1 hb1 hl1 hr hz HDr
    go_wp2_with fail
    refine (HPa.out w1 (lst_keep encF_len HX.out.1 HB1.out.1)).mono ?_
    rintro e w2 ⟨v2, rfl, ⟨xp, kp, rfl, hip, -⟩, hb2⟩
    obtain ⟨np, hnp⟩ : ∃ np, np = (path X f).length := ⟨_, rfl⟩
    rw [← hnp] at hip ⊢
    have hnp2 : np ≤ 9223372036854775807 := by have h1 := hip.cap; have h2 := hip.max; unfold maxLen at h2; omega
    have HNp := Lib.hid hnp
    have HB2 := Lib.hid (And.intro (below_keep HB1.out.1 hb2) (And.intro (lst_keep encD_len HB1.out.2 hb2) hip))
    clear hip hb2 hnp
    go_wp2_with fail
    go_loopw [16, 17, 18] (fun lv vv iv wr => ∃ q L : Nat, q ≤ r ∧ L ≤ np ∧ lv = .int .i64 (leftD (drawsL X Y f am now) am q) ∧ vv = .int .i64 (L : Nat) ∧ iv = .int .i64 (q : Nat) ∧ Ready Y now (path X f) (drawsL X Y f am now) q L ∧ Below w2.heap.size w2 wr) (fun _ _ iv _ => r - (intOf iv).toNat)
    case atStart => exact ⟨0, 0, Nat.zero_le _, Nat.zero_le _, by rw [left_zero], rfl, rfl, ready_zero _ _ _ _, Below.refl _ _⟩
    case round =>
      obtain ⟨q, L, hq, hL, rfl, rfl, rfl, hrd, hb⟩ := hrel
      have HO := Lib.hid (And.intro hrd hb)
      clear hrd hb
      have hlb := left_bound HS.out.2 HS.out.1.2.2.2 q
      have hib := HI.out.1.2
      obtain ⟨E, hE⟩ : ∃ E, E = leftD (drawsL X Y f am now) am q := ⟨_, rfl⟩
      rw [← hE] at hlb ⊢
      have hE0 := hlb.1
      have hE1 : E ≤ 9223372036854775807 := by omega
      have HE := Lib.hid hE
      clear hlb hib hE
      by_cases hlt : q < r
      · have hql : q < (drawsL X Y f am now).length := by rw [← HR.out]; exact hlt
        obtain ⟨i, b, mm, hN⟩ := nth_of HZ.out hql
        have hil := (List.getElem?_eq_some_iff.1 hN.al).1
        have him : i < m2 := by rw [← HX.out.2.2.1]; exact hil
        obtain ⟨bd, od, rfl⟩ := lst_at HB2.out.2.1 (by omega)
        obtain ⟨ba, oa, rfl⟩ := lst_at HX.out.2.1 (by omega)
        have HCell := Lib.hid (nth_cells HB2.out.2.1 (lst_keep encL_len HX.out.2.1 HB2.out.1) hN)
        have HNq := Lib.hid hN
        obtain ⟨K, hLK, hK⟩ := HO.out.1 i b mm hN
        have HKp := Lib.hid hK
        have hKn : K < np := by rw [HNp.out]; exact (List.getElem?_eq_some_iff.1 hK).1
        have t1 : decide (mm < 1) = false := by have := hN.one; simp; omega
        have t2 : decide (b.avail < mm) = false := by have := hN.most; simp; omega
        have t3 : decide (now < b.from') = false := by have := hN.from'; simp; omega
        have t4 : decide (b.till ≤ now) = false := by have := hN.till; simp; omega
        have hw := hN.whole
        rw [← HR.out] at hw
        have HWh := Lib.hid hw
        have hmE : mm ≤ E ∧ 1 ≤ mm := by
          have h1 := left_step (am := am) hN.at'
          have h2 := left_bound HS.out.2 HS.out.1.2.2.2 (q + 1)
          have h3 := HE.out
          simp only at h1
          exact ⟨by omega, hN.one⟩
        have HSt := Lib.hid (show leftD (drawsL X Y f am now) am (q + 1) = E - mm by rw [HE.out]; exact left_step hN.at')
        obtain ⟨x0, x1, x2, x3, x4, x5⟩ := b
        simp only at t2 t3 t4
        obtain ⟨p0, p1, q0, q1, q2, q3, q4, q5⟩ := HCell.out wr HO.out.2
        simp only at q0 q1 q2 q3 q4 q5
        have hb1 := below_alloc wr (.cells #[.int .i64 x0, .int .i64 x1, .int .i64 x2, .int .i64 x3, .int .i64 x4, .int .i64 x5] 53)
        have HB3 := Lib.hid (below_keep HO.out.2 hb1)
        obtain ⟨-, p2, -⟩ := HCell.out _ HB3.out
        clear hN hw hK hql hil hb1 p1
        obtain ⟨HBx0, HBx2⟩ := box_cells wr ⟨x0, x1, x2, x3, x4, x5⟩
        have HBx := Lib.hid (And.intro HBx0 HBx2)
        have hE1' : mm ≤ E := hmE.1
        have hm1 : 1 ≤ mm := hmE.2
        clear HBx0 HBx2 hmE
        go_upto_region 14 with fail
        go_cut [116] (fun v wx => v = .bool false ∧ Below w2.heap.size w2 wx ∧ wx.cell? ⟨wr.heap.size, 0, none⟩ = some (.int .i64 x0) ∧ wx.cell? ⟨wr.heap.size, 2, none⟩ = some (.int .i64 x2))
        case first =>
          by_cases hlast : q + 1 < r
          · obtain rfl : mm = x3 := HWh.out hlast
            have hl2 : (q : Int) + 1 < (r : Int) := by omega
            go_wp2_with fail
            go_quiet (fail)
            go_wp2_with fail
            go_meet
            case rel => exact ⟨rfl, below_keep HB3.out (Tre.below_drewN' _ _), HBx.out.1, HBx.out.2⟩
          · have hl2 : decide ((q : Int) + 1 < (r : Int)) = false := by simp; omega
            go_wp2_with fail
            go_quiet (fail)
            go_wp2_with fail
            go_meet
            case rel => exact ⟨rfl, below_keep HB3.out (Tre.below_drewN' _ _), HBx.out.1, HBx.out.2⟩
        case rest =>
        obtain ⟨rfl, hbx, hx0, hx2⟩ := hcut
        have HW3 := Lib.hid (And.intro hbx (And.intro hx0 hx2))
        obtain ⟨g, hg⟩ : ∃ g, g = wr.heap.size := ⟨_, rfl⟩
        rw [← hg] at hx0 hx2 HW3 ⊢
        obtain ⟨bp, op, rfl⟩ := lst_at HB2.out.2.2 (by omega)
        clear p0 p2 q0 q1 q2 q3 q4 q5 hbx t1 t2 t3 t4 HBx hg HB3 hx0 hx2
        go_upto_block 2 with fail
        go_cut [17] (fun v wx => v = .int .i64 (K : Nat) ∧ Below w2.heap.size w2 wx ∧ wx.cell? ⟨g, 0, none⟩ = some (.int .i64 x0) ∧ wx.cell? ⟨g, 2, none⟩ = some (.int .i64 x2))
        case first =>
          go_wp2_with fail
          go_loopw [17] (fun vv wi => ∃ L' : Nat, L' ≤ K ∧ vv = .int .i64 (L' : Nat) ∧ Below w2.heap.size w2 wi ∧ wi.cell? ⟨g, 0, none⟩ = some (.int .i64 x0) ∧ wi.cell? ⟨g, 2, none⟩ = some (.int .i64 x2)) (fun vv _ => K - (intOf vv).toNat)
          case atStart => exact ⟨L, hLK, rfl, HW3.out.1, HW3.out.2.1, HW3.out.2.2⟩
          case round =>
            obtain ⟨L', hL', rfl, hbi, hy0, hy2⟩ := hrel
            have HY := Lib.hid (And.intro hbi (And.intro hy0 hy2))
            have hpl : L' < (path X f).length := by rw [← HNp.out]; omega
            have hpc := int_cell (lst_keep encI_len HB2.out.2.2 hbi) hpl
            have hps := List.getElem?_eq_getElem hpl
            generalize (path X f)[L'] = y at hpc hps
            have hLn : (L' : Int) < (np : Int) := by omega
            by_cases hlk : L' < K
            · have hne : (y == x0) = false := beq_false_of_ne (fun e => by
                have := (desc_at (path_desc X f) hps HKp.out).2 e
                omega)
              clear hps hbi hy2
              go_wp2_with fail
              go_quiet (fail)
              go_wp2_with fail
              go_roundw
              case rel => exact ⟨L' + 1, by omega, by go_num, below_keep HY.out.1 (Tre.below_drewN' _ _), HY.out.2.1, HY.out.2.2⟩
              case measure => simp [intOf]; omega
            · obtain rfl : K = L' := by omega
              obtain rfl : y = x0 := by
                have := hps.symm.trans HKp.out
                injection this
              clear hps hbi hy2
              go_wp2_with fail
              go_quiet (fail)
              go_wp2_with fail
              go_meet
              case rel => exact ⟨rfl, below_keep HY.out.1 (Tre.below_drewN' _ _), HY.out.2.1, HY.out.2.2⟩
        case rest =>
        obtain ⟨rfl, hbx, hx0, hx2⟩ := hcut
        have HW4 := Lib.hid (And.intro hbx (And.intro hx0 hx2))
        obtain ⟨-, p1, -⟩ := HCell.out wc hbx
        have hKn2 : ((K : Int) == (np : Int)) = false := beq_false_of_ne (by omega)
        rcases Nat.eq_zero_or_pos q with hq0 | hq0
        · subst hq0
          clear hbx hx0 hx2
          go_wp2_with fail
          go_roundw
          case rel => exact ⟨1, K, by omega, by omega, by rw [HSt.out], rfl, by go_num, ready_next HZ.out HNq.out HKp.out, HW4.out.1⟩
          case measure => simp [intOf]; omega
        · obtain ⟨q0, rfl⟩ : ∃ q0, q = q0 + 1 := ⟨q - 1, by omega⟩
          obtain ⟨i', b', mm', hN'⟩ := nth_of (q := q0) HZ.out (by rw [← HR.out]; omega)
          have him' : i' < m2 := by rw [← HX.out.2.2.1]; exact (List.getElem?_eq_some_iff.1 hN'.al).1
          have HCell' := Lib.hid (nth_cells HB2.out.2.1 (lst_keep encL_len HX.out.2.1 HB2.out.1) hN')
          have hnx := nth_next HZ.out hN' HNq.out
          obtain ⟨y0, y1, y2, y3, y4, y5⟩ := b'
          simp only at hnx
          obtain ⟨r0, -, r2, r3, r4, r5, r6, r7⟩ := HCell'.out wc hbx
          simp only at r2 r3 r4 r5 r6 r7
          have hb1 := below_alloc wc (.cells #[.int .i64 y0, .int .i64 y1, .int .i64 y2, .int .i64 y3, .int .i64 y4, .int .i64 y5] 53)
          have HB5 := Lib.hid (below_keep hbx hb1)
          obtain ⟨s0, -⟩ := HCell'.out _ HB5.out
          obtain ⟨-, s1, -⟩ := HCell.out _ HB5.out
          have z0 := cell_keep hb1 hx0
          have z2 := cell_keep hb1 hx2
          obtain ⟨u0, u2⟩ := box_cells wc ⟨y0, y1, y2, y3, y4, y5⟩
          simp only at u0 u2
          have hq1 : q0 + 1 ≤ 16 := by omega
          clear hbx hx0 hx2 hN' hb1 p1
          rcases hnx with hnx | ⟨rfl, hnx | ⟨rfl, hnx⟩⟩
          · have hne : (y0 == x0) = false := beq_false_of_ne (by omega)
            clear hnx
            go_wp2_with fail
            go_roundw
            case rel => exact ⟨q0 + 1 + 1, K, by omega, by omega, by rw [HSt.out], rfl, by go_num, ready_next HZ.out HNq.out HKp.out, HB5.out⟩
            case measure => simp [intOf]; omega
          · have hg1 : decide (x2 < y2) = false := by simp; omega
            have hg2 : (y2 == x2) = false := beq_false_of_ne (by omega)
            clear hnx
            go_wp2_with fail
            go_roundw
            case rel => exact ⟨q0 + 1 + 1, K, by omega, by omega, by rw [HSt.out], rfl, by go_num, ready_next HZ.out HNq.out HKp.out, HB5.out⟩
            case measure => simp [intOf]; omega
          · have hg1 : ¬ (i : Int) ≤ (i' : Int) := by omega
            go_wp2_with fail
            go_roundw
            case rel => exact ⟨q0 + 1 + 1, K, by omega, by omega, by rw [HSt.out], rfl, by go_num, ready_next HZ.out HNq.out HKp.out, HB5.out⟩
            case measure => simp [intOf]; omega
      · obtain rfl : q = r := by omega
        have HE0 := Lib.hid (show E = 0 by
          rw [HE.out]
          unfold leftD
          rw [List.take_of_length_le (by rw [HR.out]; exact Nat.le_refl _)]
          have := HS.out.1.2.2.2
          omega)
        have hE00 := HE0.out
        subst hE00
        go_wp2_with fail
        refine (HAw.out wr).mono ?_
        rintro e w5 ⟨rfl, hb5⟩
        have HB5 := Lib.hid (below_keep (below_keep HB2.out.1 HO.out.2) hb5)
        clear hb5
        go_wp2_with fail
        go_ret
        exact ⟨rfl, HB5.out⟩
  · have HNo := Lib.hid (draws_no hz)
    rw [HNo.out] at hl1 ⊢
    have hne : (drawsE X Y f am now == 0) = false := beq_false_of_ne hz
    have HB1 := Lib.hid hb1
    clear ho1 hb1 hl1 hz HDr
    generalize drawsE X Y f am now = de at *
    go_wp2_with fail
    refine (HAw.out w1).mono ?_
    rintro e w5 ⟨rfl, hb5⟩
    have HB5 := Lib.hid (below_keep HB1.out hb5)
    clear hb5
    go_wp2_with fail
    go_ret
    exact ⟨rfl, HB5.out⟩
end Go.Proofs.Ytghglgodkknlnaa.Drw
/- Draw: liened, spent and given back, the accounts are as they were (mathematics for DrawRound). -/
namespace Go.Proofs.Ytghglgodkknlnaa.Drw
open Mon
open Tre (Al path)
open Led
set_option linter.unusedVariables false

/-- Amounts from 0 to B. -/
def Rich (B : Int) (al : List Al) : Prop := ∀ (i : Nat) (a : Al), al[i]? = some a → (0 ≤ a.avail ∧ a.avail ≤ B) ∧ (0 ≤ a.lien ∧ a.lien ≤ B) ∧ (0 ≤ a.spent ∧ a.spent ≤ B)
theorem rich_adj {B : Int} {u v s : Nat → Int} {al : List Al} (h : ∀ (i : Nat) (a : Al), al[i]? = some a → (0 ≤ a.avail + u i ∧ a.avail + u i ≤ B) ∧ (0 ≤ a.lien + v i ∧ a.lien + v i ≤ B) ∧ (0 ≤ a.spent + s i ∧ a.spent + s i ≤ B)) : Rich B (adj u v s al) := by
  intro i b hb
  have hl := (List.getElem?_eq_some_iff.1 hb).1
  rw [adj_len] at hl
  have ha := List.getElem?_eq_getElem hl
  rw [adj_at ha] at hb
  injection hb with hb
  subst hb
  exact h i _ ha
theorem small_of {al : List Al} {legs : List Lg} {u v s : Nat → Int} (h1 : 1 ≤ legs.length) (h2 : legs.length ≤ 64) (hs : (amts legs).sum = 0) (hg : ∀ g ∈ legs, 1 ≤ g.acct ∧ g.acct < 1 + 3 * (al.length : Int) ∧ g.amt ≠ 0 ∧ -4503599627370496 ≤ g.amt ∧ g.amt ≤ 4503599627370496) (h0 : (of legs 0).sum = 0)
    (hu : ∀ i, i < al.length → (of legs (1 + 3 * i)).sum = u i ∧ (of legs (2 + 3 * i)).sum = v i ∧ (of legs (3 + 3 * i)).sum = s i) (hR : Rich 4503599627370496 al) (hA : Rich 4503599627370496 (adj u v s al)) :
    postE 0 al legs = 0 ∧ postW 0 al legs = 0 ∧ postA 0 al legs = adj u v s al := by
  have hp : postE 0 al legs = 0 := by
    refine small_post ⟨hg, h1, h2, hs, fun k hk1 hk => ?_⟩
    rcases flat_cases (w := 0) hk with h | ⟨i, a, hi, ha, h⟩
    · omega
    · obtain ⟨f1, f2, f3⟩ := flat_at al i a 0 ha
      obtain ⟨r1, r2, r3⟩ := hR i a ha
      obtain ⟨e1, e2, e3⟩ := hA i _ (adj_at ha)
      obtain ⟨u1, u2, u3⟩ := hu i hi
      unfold adjOne at e1 e2 e3
      simp only at e1 e2 e3
      rcases h with rfl | rfl | rfl
      · rw [getD_at f1, u1]; omega
      · rw [getD_at f2, u2]; omega
      · rw [getD_at f3, u3]; omega
  exact ⟨hp, post_adj hp h0 hu⟩
/-- The legs of draws of allocations that there are. -/
theorem legs_fit {n : Nat} {l k : List Dw} {f t r : Int} (hf : 1 ≤ f ∧ f ≤ 3) (ht : 1 ≤ t ∧ t ≤ 3) (hr : (1 ≤ r ∧ r ≤ 3) ∨ ∀ d ∈ l, ∀ c ∈ k, d.alloc = c.alloc → d.amt = c.amt) (hp : Pair Part l k) (hl : ∀ d ∈ l, 0 ≤ d.alloc ∧ d.alloc < (n : Int) ∧ 0 ≤ d.amt ∧ d.amt ≤ 1125899906842624) :
    ∀ g ∈ legsD l k f t r, 1 ≤ g.acct ∧ g.acct < 1 + 3 * (n : Int) ∧ g.amt ≠ 0 ∧ -4503599627370496 ≤ g.amt ∧ g.amt ≤ 4503599627370496 := by
  intro g hg
  obtain ⟨d, hd, c, hc, hP, h⟩ := legs_mem f t r hg
  obtain ⟨p1, p2, p3⟩ := hP hp
  obtain ⟨h1, h2, h3, h4⟩ := hl d hd
  rcases h with ⟨e1, e2, e3⟩ | ⟨e1, e2, e3⟩ | ⟨e1, e2, e3⟩
  · rw [e1, e2]; omega
  · rw [e1, e2]; omega
  · rcases hr with hr | hr
    · rw [e1, e2]; omega
    · have := hr d hd c hc p1; omega
theorem part_same {l : List Dw} (h : ∀ d ∈ l, 0 ≤ d.amt) : Pair Part l l := pair_same fun d hd => ⟨rfl, h d hd, Int.le_refl _⟩
theorem part_fit {l k : List Dw} (h : Pair Part l k) : Pair Fit l k := pair_imp h fun d _ c _ hp => ⟨hp.1, fun h0 => by have := hp.2; omega⟩
theorem legs_any_some (f t r : Int) : ∀ {l : List Dw}, (∃ d ∈ l, d.amt ≠ 0) → 1 ≤ (legsD l l f t r).length
  | [], h => by obtain ⟨d, hd, _⟩ := h; cases hd
  | x :: l, h => by
    by_cases hx : x.amt = 0
    · obtain ⟨d, hd, h0⟩ := h
      rcases List.mem_cons.1 hd with e | hd
      · subst e; exact absurd hx h0
      · have := legs_any_some f t r ⟨d, hd, h0⟩
        rw [legsD, List.length_append]; omega
    · exact legs_some f t r hx
theorem some_amt {l : List Dw} (h : (amtsD l).sum ≠ 0) : ∃ d ∈ l, d.amt ≠ 0 := by
  apply Classical.byContradiction
  intro hn
  apply h
  have : ∀ l : List Dw, (∀ d ∈ l, d.amt = 0) → (amtsD l).sum = 0 := by
    intro l
    induction l with
    | nil => intro _; rfl
    | cons d l ih =>
      intro hd
      have h1 := ih fun x hx => hd x (List.mem_cons_of_mem _ hx)
      have h2 := hd d (List.mem_cons_self ..)
      unfold amtsD at h1 ⊢
      rw [List.map_cons, List.sum_cons, h1, h2]; rfl
  refine this l fun d hd => ?_
  apply Classical.byContradiction
  intro h0
  exact hn ⟨d, hd, h0⟩
/-- What a round of draws is about. -/
structure Rnd (Y : List Al) (d : List Dw) : Prop where
  held : Held Y d
  rich : Rich 1125899906842624 Y
  few : Y.length ≤ 16
variable {Y : List Al} {d c : List Dw}
theorem rnd_amt (h : Rnd Y d) : ∀ x ∈ d, 0 ≤ x.alloc ∧ x.alloc < (Y.length : Int) ∧ 0 ≤ x.amt ∧ x.amt ≤ 1125899906842624 := by
  intro x hx
  obtain ⟨h1, h2, h3, h4⟩ := h.held.at' x hx
  have hi : x.alloc.toNat < Y.length := by omega
  have ha := List.getElem?_eq_getElem hi
  have := (h.rich _ _ ha).1.2
  unfold availOf at h4
  rw [ha] at h4
  simp only at h4
  exact ⟨h1, h2, by omega, by omega⟩
theorem rnd_len (h : Rnd Y d) : d.length ≤ 16 := by
  have := once_len Y.length d h.held.once fun x hx => by have := h.held.at' x hx; omega
  have := h.few
  omega
theorem rnd_of (h : Rnd Y d) {i : Nat} {a : Al} (ha : Y[i]? = some a) : 0 ≤ ofD d i ∧ ofD d i ≤ a.avail := by
  have hi := (List.getElem?_eq_some_iff.1 ha).1
  obtain ⟨h1, h2⟩ := held_of h.held hi
  have h3 := (h.rich _ _ ha).1
  refine ⟨h1, ?_⟩
  by_cases h0 : 0 < ofD d i
  · have := h2 h0
    unfold availOf at this
    rw [ha] at this
    exact this
  · omega
theorem of_books {l k : List Dw} {f t r : Int} (h : Pair Fit l k) (i : Nat) {q : Int} (hq : 1 ≤ q ∧ q ≤ 3) (hf : 1 ≤ f ∧ f ≤ 3) (ht : 1 ≤ t ∧ t ≤ 3) (hr : (1 ≤ r ∧ r ≤ 3) ∨ l = k) {K : Nat} (hK : (K : Int) = q + 3 * (i : Int)) : (of (legsD l k f t r) K).sum = (if t = q then ofD k i else 0) - (if f = q then ofD l i else 0) + (if r = q then ofD l i - ofD k i else 0) := by
  rw [legs_of f t r K h, hK, hit_at ht hq, hit_at hf hq]
  rcases hr with hr | hr
  · rw [hit_at hr hq, hit_at hr hq]
    by_cases h1 : r = q
    · rw [if_pos h1, if_pos h1, if_pos h1]
    · rw [if_neg h1, if_neg h1, if_neg h1]; omega
  · subst hr
    by_cases h1 : r = q
    · rw [if_pos h1]; omega
    · rw [if_neg h1]; omega
theorem of_world {l k : List Dw} {f t r : Int} (h : Pair Fit l k) (hf : 1 ≤ f) (ht : 1 ≤ t) (hr : 1 ≤ r ∨ l = k) (hl : ∀ d ∈ l, 0 ≤ d.alloc) (hk : ∀ d ∈ k, 0 ≤ d.alloc) : (of (legsD l k f t r) 0).sum = 0 := by
  rw [legs_of f t r 0 h, show ((0 : Nat) : Int) = 0 from rfl, hit_zero ht k hk, hit_zero hf l hl]
  rcases hr with hr | hr
  · rw [hit_zero hr l hl, hit_zero hr k hk]; rfl
  · subst hr; omega
theorem part_mem : ∀ {l k : List Dw}, Pair Part l k → ∀ y ∈ k, ∃ x ∈ l, Part x y
  | [], [], _, y, hy => by cases hy
  | d :: l, c :: k, h, y, hy => by
    rcases List.mem_cons.1 hy with e | hy
    · subst e; exact ⟨d, List.mem_cons_self .., h.1⟩
    · obtain ⟨x, hx, hp⟩ := part_mem h.2 y hy
      exact ⟨x, List.mem_cons_of_mem _ hx, hp⟩
  | [], _ :: _, h, _, _ => h.elim
  | _ :: _, [], h, _, _ => h.elim
/-- Liened. -/
theorem round_lien (h : Rnd Y d) (hne : (amtsD d).sum ≠ 0) : (legsD d d 1 2 0).length ≤ 48 ∧ (∀ g ∈ legsD d d 1 2 0, g.ok) ∧ postE 0 Y (legsD d d 1 2 0) = 0 ∧ postW 0 Y (legsD d d 1 2 0) = 0 ∧ postA 0 Y (legsD d d 1 2 0) = adj (fun i => -ofD d i) (fun i => ofD d i) (fun _ => 0) Y ∧ Rich 2251799813685248 (adj (fun i => -ofD d i) (fun i => ofD d i) (fun _ => 0) Y) := by
  have hamt := rnd_amt h
  have hps := part_same (l := d) fun x hx => (hamt x hx).2.2.1
  have hfit := part_fit hps
  have hlen := legsR_len 1 2 0 d d
  have hl16 := rnd_len h
  have hg := legs_fit (n := Y.length) (f := 1) (t := 2) (r := 0) (by decide) (by decide) (.inr fun x hx y hy e => by
    have := h.held.once
    by_cases hxy : x.amt = y.amt
    · exact hxy
    · exfalso
      obtain ⟨i, hi, ei⟩ := List.getElem_of_mem hx
      obtain ⟨j, hj, ej⟩ := List.getElem_of_mem hy
      rcases Nat.lt_trichotomy i j with hij | hij | hij
      · have := List.pairwise_iff_getElem.1 h.held.once i j hi hj hij
        rw [ei, ej] at this; exact this e
      · subst hij
        rw [ei] at ej
        rw [ej] at hxy; exact hxy rfl
      · have := List.pairwise_iff_getElem.1 h.held.once j i hj hi hij
        rw [ei, ej] at this; exact this e.symm) hps hamt
  have hrich2 : Rich 2251799813685248 (adj (fun i => -ofD d i) (fun i => ofD d i) (fun _ => 0) Y) := rich_adj fun i a ha => by
    have h1 := rnd_of h ha
    have h2 := h.rich i a ha
    omega
  have hs := small_of (al := Y) (u := fun i => -ofD d i) (v := fun i => ofD d i) (s := fun _ => 0) (legs_any_some 1 2 0 (some_amt hne)) (by omega) (legs_sum 1 2 0 hfit) hg
    (of_world hfit (by decide) (by decide) (.inr rfl) (fun x hx => (hamt x hx).1) (fun x hx => (hamt x hx).1))
    (fun i hi => ⟨by rw [of_books hfit i (q := 1) (by decide) (by decide) (by decide) (.inr rfl) (by omega)]; simp, by rw [of_books hfit i (q := 2) (by decide) (by decide) (by decide) (.inr rfl) (by omega)]; simp, by rw [of_books hfit i (q := 3) (by decide) (by decide) (by decide) (.inr rfl) (by omega)]; simp⟩)
    (fun i a ha => by have := h.rich i a ha; omega) (fun i a ha => by have := hrich2 i a ha; omega)
  exact ⟨by omega, fun g hgm => by have h1 := hg g hgm; have := h.few; exact ⟨⟨by omega, by omega⟩, ⟨by omega, by omega⟩⟩, hs.1, hs.2.1, hs.2.2, hrich2⟩
/-- Spent in part. -/
theorem round_spend (h : Rnd Y d) (hp : Pair Part d c) (hne : (amtsD d).sum ≠ 0) : (legsD d c 2 3 1).length ≤ 48 ∧ (∀ g ∈ legsD d c 2 3 1, g.ok) ∧ postE 0 (adj (fun i => -ofD d i) (fun i => ofD d i) (fun _ => 0) Y) (legsD d c 2 3 1) = 0 ∧ postW 0 (adj (fun i => -ofD d i) (fun i => ofD d i) (fun _ => 0) Y) (legsD d c 2 3 1) = 0 ∧ postA 0 (adj (fun i => -ofD d i) (fun i => ofD d i) (fun _ => 0) Y) (legsD d c 2 3 1) = adj (fun i => -ofD c i) (fun _ => 0) (fun i => ofD c i) Y ∧ Rich 2251799813685248 (adj (fun i => -ofD c i) (fun _ => 0) (fun i => ofD c i) Y) := by
  have hamt := rnd_amt h
  have hfit := part_fit hp
  have hlen := legsR_len 2 3 1 d c
  have hl16 := rnd_len h
  have hg := legs_fit (n := Y.length) (f := 2) (t := 3) (r := 1) (by decide) (by decide) (.inl (by decide)) hp hamt
  have hcal : ∀ y ∈ c, 0 ≤ y.alloc := fun y hy => by
    obtain ⟨x, hx, e, _⟩ := part_mem hp y hy
    have := (hamt x hx).1
    omega
  obtain ⟨_, _, _, _, _, hR1⟩ := round_lien h hne
  have hrich2 : Rich 2251799813685248 (adj (fun i => -ofD c i) (fun _ => 0) (fun i => ofD c i) Y) := rich_adj fun i a ha => by
    have h1 := rnd_of h ha
    have h2 := h.rich i a ha
    have h3 := part_of i hp
    omega
  have e : adj (fun i => ofD d i - ofD c i) (fun i => -ofD d i) (fun i => ofD c i) (adj (fun i => -ofD d i) (fun i => ofD d i) (fun _ => 0) Y) = adj (fun i => -ofD c i) (fun _ => 0) (fun i => ofD c i) Y := by
    rw [adj_adj]
    exact adj_congr fun i _ => ⟨by omega, by omega, by omega⟩
  have hsome : 1 ≤ (legsD d c 2 3 1).length := by
    cases d with
    | nil => exact absurd rfl hne
    | cons x l => cases c with
      | nil => exact hp.elim
      | cons y k =>
        refine legs_some 2 3 1 ?_
        have := (h.held.at' x (List.mem_cons_self ..)).2.2.1
        omega
  have hs := small_of (al := adj (fun i => -ofD d i) (fun i => ofD d i) (fun _ => 0) Y) (u := fun i => ofD d i - ofD c i) (v := fun i => -ofD d i) (s := fun i => ofD c i) hsome (by omega) (legs_sum 2 3 1 hfit) (by rw [adj_len]; exact hg)
    (of_world hfit (by decide) (by decide) (.inl (by decide)) (fun x hx => (hamt x hx).1) hcal)
    (fun i hi => ⟨by rw [of_books hfit i (q := 1) (by decide) (by decide) (by decide) (.inl (by decide)) (by omega)]; simp, by rw [of_books hfit i (q := 2) (by decide) (by decide) (by decide) (.inl (by decide)) (by omega)]; simp, by rw [of_books hfit i (q := 3) (by decide) (by decide) (by decide) (.inl (by decide)) (by omega)]; simp⟩)
    (fun i a ha => by have := hR1 i a ha; omega) (by rw [e]; exact fun i a ha => by have := hrich2 i a ha; omega)
  rw [e] at hs
  exact ⟨by omega, fun g hgm => by have h1 := hg g hgm; have := h.few; exact ⟨⟨by omega, by omega⟩, ⟨by omega, by omega⟩⟩, hs.1, hs.2.1, hs.2.2, hrich2⟩
/-- Given back. -/
theorem round_back (h : Rnd Y d) (hp : Pair Part d c) (hne : (amtsD c).sum ≠ 0) : (legsD c c 3 1 0).length ≤ 48 ∧ (∀ g ∈ legsD c c 3 1 0, g.ok) ∧ postE 0 (adj (fun i => -ofD c i) (fun _ => 0) (fun i => ofD c i) Y) (legsD c c 3 1 0) = 0 ∧ postW 0 (adj (fun i => -ofD c i) (fun _ => 0) (fun i => ofD c i) Y) (legsD c c 3 1 0) = 0 ∧ postA 0 (adj (fun i => -ofD c i) (fun _ => 0) (fun i => ofD c i) Y) (legsD c c 3 1 0) = Y := by
  have hamt := rnd_amt h
  have hca : ∀ y ∈ c, 0 ≤ y.alloc ∧ y.alloc < (Y.length : Int) ∧ 0 ≤ y.amt ∧ y.amt ≤ 1125899906842624 := fun y hy => by
    obtain ⟨x, hx, e, e2, e3⟩ := part_mem hp y hy
    have := hamt x hx
    omega
  have hps := part_same (l := c) fun x hx => (hca x hx).2.2.1
  have hfit := part_fit hps
  have hlen := legsR_len 3 1 0 c c
  have hl16 := rnd_len h
  have hcl := (part_len hp).1
  have honce : c.Pairwise fun x y => x.alloc ≠ y.alloc := by
    have h1 : (d.map Dw.alloc).Pairwise (fun x y => x ≠ y) := by rw [List.pairwise_map]; exact h.held.once
    rw [(part_len hp).2, List.pairwise_map] at h1
    exact h1
  have hg := legs_fit (n := Y.length) (f := 3) (t := 1) (r := 0) (by decide) (by decide) (.inr fun x hx y hy e => by
    by_cases hxy : x.amt = y.amt
    · exact hxy
    · exfalso
      obtain ⟨i, hi, ei⟩ := List.getElem_of_mem hx
      obtain ⟨j, hj, ej⟩ := List.getElem_of_mem hy
      rcases Nat.lt_trichotomy i j with hij | hij | hij
      · have := List.pairwise_iff_getElem.1 honce i j hi hj hij
        rw [ei, ej] at this; exact this e
      · subst hij
        rw [ei] at ej
        rw [ej] at hxy; exact hxy rfl
      · have := List.pairwise_iff_getElem.1 honce j i hj hi hij
        rw [ei, ej] at this; exact this e.symm) hps hca
  have hR1 : Rich 2251799813685248 (adj (fun i => -ofD c i) (fun _ => 0) (fun i => ofD c i) Y) := rich_adj fun i a ha => by
    have h1 := rnd_of h ha
    have h2 := h.rich i a ha
    have h3 := part_of i hp
    omega
  have e : adj (fun i => ofD c i) (fun _ => 0) (fun i => -ofD c i) (adj (fun i => -ofD c i) (fun _ => 0) (fun i => ofD c i) Y) = Y := by
    rw [adj_adj]
    refine Eq.trans (adj_congr (u' := fun _ => 0) (v' := fun _ => 0) (s' := fun _ => 0) fun i _ => ⟨by omega, by omega, by omega⟩) adj_zero
  have hs := small_of (al := adj (fun i => -ofD c i) (fun _ => 0) (fun i => ofD c i) Y) (u := fun i => ofD c i) (v := fun _ => 0) (s := fun i => -ofD c i) (legs_any_some 3 1 0 (some_amt hne)) (by omega) (legs_sum 3 1 0 hfit) (by rw [adj_len]; exact hg)
    (of_world hfit (by decide) (by decide) (.inr rfl) (fun x hx => (hca x hx).1) (fun x hx => (hca x hx).1))
    (fun i hi => ⟨by rw [of_books hfit i (q := 1) (by decide) (by decide) (by decide) (.inr rfl) (by omega)]; simp, by rw [of_books hfit i (q := 2) (by decide) (by decide) (by decide) (.inr rfl) (by omega)]; simp, by rw [of_books hfit i (q := 3) (by decide) (by decide) (by decide) (.inr rfl) (by omega)]; simp⟩)
    (fun i a ha => by have := hR1 i a ha; omega) (by rw [e]; exact fun i a ha => by have := h.rich i a ha; omega)
  rw [e] at hs
  exact ⟨by omega, fun g hgm => by have h1 := hg g hgm; have := h.few; exact ⟨⟨by omega, by omega⟩, ⟨by omega, by omega⟩⟩, hs.1, hs.2.1, hs.2.2⟩
end Go.Proofs.Ytghglgodkknlnaa.Drw
/- Ledger: two lists of allocations that are one (the document's Same). -/
namespace Go.Proofs.Ytghglgodkknlnaa.Led
set_option maxRecDepth 100000
open Go.RowKit
open Go.Sort
open Kit
open Mon
open Tre
set_option linter.unusedVariables false
variable {w w' : World}

set_option maxHeartbeats 4000000 in
theorem same_any (a1 a2 : Option Addr) (n c1 c2 : Nat) (l : List Al) (w : World) (h1 : Allocs w a1 n c1 l) (h2 : Allocs w a2 n c2 l) :
    Calls Try.prog 26 #[.slice a1 n c1, .slice a2 n c2] w fun e w' => e = .returned (.bool true) ∧ Below w.heap.size w w' := by
  have hm1 : n ≤ 9223372036854775807 := by have := h1.cap; have := h1.max; unfold maxLen at this; omega
  have HL := Lib.hid (And.intro h1 (And.intro h2 h1.len))
  clear h1 h2
  go_enter Try.func26, Try.ntmps26
  go_wp2_with fail
  go_loopw [5] (fun i wr => ∃ k : Nat, k ≤ n ∧ i = .int .i64 (k : Nat) ∧ Below w.heap.size w wr) (fun i _ => n - (intOf i).toNat)
  case atStart => exact ⟨0, Nat.zero_le _, rfl, Below.refl _ _⟩
  case round =>
    obtain ⟨k, hk, rfl, hb⟩ := hrel
    have HB := Lib.hid hb
    clear hb
    by_cases hlt : k < n
    · have hkl : k < l.length := by rw [HL.out.2.2]; exact hlt
      obtain ⟨b1, o1, rfl⟩ := lst_at HL.out.1 (by omega)
      obtain ⟨b2, o2, rfl⟩ := lst_at HL.out.2.1 (by omega)
      obtain ⟨p0, p1, p2, p3, p4, p5⟩ := alloc_cells6 (lst_keep encL_len HL.out.1 HB.out) hkl
      obtain ⟨q0, q1, q2, q3, q4, q5⟩ := alloc_cells6 (lst_keep encL_len HL.out.2.1 HB.out) hkl
      generalize l[k] = x at *
      obtain ⟨x0, x1, x2, x3, x4, x5⟩ := x
      simp only at p0 p1 p2 p3 p4 p5 q0 q1 q2 q3 q4 q5
      go_wp2_with fail
      go_quiet (fail)
      go_wp2_with fail
      go_roundw
      case rel => exact ⟨k + 1, by omega, by go_num, below_keep HB.out (below_drewN' _ _)⟩
      case measure => simp [intOf]; omega
    · obtain rfl : k = n := by omega
      go_wp2_with fail
      go_ret
      exact ⟨rfl, HB.out⟩
end Go.Proofs.Ytghglgodkknlnaa.Led
/- Draw: DrawRound, over any draws and any ledger that do as they should. -/
namespace Go.Proofs.Ytghglgodkknlnaa.Drw
set_option maxRecDepth 100000
open Go.RowKit
open Go.Sort
open Kit
open Mon
open Tre (Al Lst inI lst_keep lst_take lst_at lst_new Allocs Funds encF encF_len encL encL_len path IntsL int_cell alloc_cells6 encI_len)
open Led (Lg encG encG_len Legs PostC OutA outA_lst postE postW postA)
set_option linter.unusedVariables false
variable {w w' : World}

def Fine (a : Al) : Prop := (0 ≤ a.avail ∧ a.avail ≤ 1125899906842624) ∧ (0 ≤ a.lien ∧ a.lien ≤ 1125899906842624) ∧ (0 ≤ a.spent ∧ a.spent ≤ 1125899906842624)
def sumC (c : List Dw) (k : Nat) : Int := ((List.range k).map fun i => ofD c i).sum
theorem sumC_succ (c : List Dw) (k : Nat) : sumC c (k + 1) = sumC c k + ofD c k := by
  unfold sumC
  rw [List.range_succ, List.map_append, List.sum_append]; simp
theorem adj_ok {u v s : Nat → Int} {Y : List Al} (hok : ∀ x ∈ Y, x.ok) (hR : Rich 2251799813685248 (adj u v s Y)) : ∀ x ∈ adj u v s Y, x.ok := by
  intro x hx
  obtain ⟨j, hj, e⟩ := List.getElem_of_mem hx
  have hj2 := List.getElem?_eq_getElem hj
  rw [e] at hj2
  have hR2 := hR j x hj2
  have hl := hj
  rw [adj_len] at hl
  have ha := List.getElem?_eq_getElem hl
  rw [adj_at ha] at hj2
  injection hj2 with hj2
  have hy := hok _ (List.getElem_mem hl)
  subst hj2
  exact ⟨hy.1, hy.2.1, hy.2.2.1, ⟨by omega, by omega⟩, ⟨by omega, by omega⟩, ⟨by omega, by omega⟩⟩
theorem inI_zero : inI 0 := by constructor <;> decide
theorem sane_of {Y : List Al} {d : List Dw} (h : Rnd Y d) : ∀ x ∈ d, Sane x := fun x hx => by
  have h1 := rnd_amt h x hx
  have h2 := h.few
  exact ⟨by omega, by omega, by omega, by omega⟩
theorem sane_part {Y : List Al} {d c : List Dw} (h : Rnd Y d) (hp : Pair Part d c) : ∀ x ∈ c, Sane x := fun y hy => by
  obtain ⟨x, hx, e, e2, e3⟩ := part_mem hp y hy
  have h1 := rnd_amt h x hx
  have h2 := h.few
  exact ⟨by omega, by omega, by omega, by omega⟩
/-- Liened: what the ledger does. -/
theorem do_lien (hL : PostC) {W : World} {Y : List Al} {d : List Dw} (h : Rnd Y d) (hne : (amtsD d).sum ≠ 0) (hok : ∀ x ∈ Y, x.ok) {a : Option Addr} {n c : Nat} (hA : Allocs W a n c Y) {a2 : Option Addr} {c2 : Nat} (hG : Legs W a2 (legsD d d 1 2 0).length c2 (legsD d d 1 2 0)) :
    Calls Try.prog 25 #[.int .i64 0, .slice a n c, .slice a2 (legsD d d 1 2 0).length c2] W fun e W' => ∃ a' c', e = .returned (.tuple #[.int .i64 0, .slice a' n c', .int .i64 0]) ∧ Allocs W' a' n c' (adj (fun i => -ofD d i) (fun i => ofD d i) (fun _ => 0) Y) ∧ Below W.heap.size W W' := by
  obtain ⟨h1, h2, h3, h4, h5, h6⟩ := round_lien h hne
  have hn := h.few
  refine (hL W 0 a n c Y a2 _ c2 _ inI_zero hA hok (by have := hA.len; omega) hG h2 (by omega)).mono ?_
  rintro e W' ⟨v, rfl, ho, hb⟩
  rw [h3, h4]
  rw [h5] at ho
  obtain ⟨a', c', rfl, hl⟩ := outA_lst ho
  rw [adj_len, hA.len] at hl ⊢
  exact ⟨a', c', rfl, hl, hb⟩
theorem do_spend (hL : PostC) {W : World} {Y : List Al} {d cc : List Dw} (h : Rnd Y d) (hp : Pair Part d cc) (hne : (amtsD d).sum ≠ 0) (hok : ∀ x ∈ Y, x.ok) {a : Option Addr} {n c : Nat} (hn : Y.length = n) (hA : Allocs W a n c (adj (fun i => -ofD d i) (fun i => ofD d i) (fun _ => 0) Y)) {a2 : Option Addr} {c2 : Nat} (hG : Legs W a2 (legsD d cc 2 3 1).length c2 (legsD d cc 2 3 1)) :
    Calls Try.prog 25 #[.int .i64 0, .slice a n c, .slice a2 (legsD d cc 2 3 1).length c2] W fun e W' => ∃ a' c', e = .returned (.tuple #[.int .i64 0, .slice a' n c', .int .i64 0]) ∧ Allocs W' a' n c' (adj (fun i => -ofD cc i) (fun _ => 0) (fun i => ofD cc i) Y) ∧ Below W.heap.size W W' := by
  obtain ⟨h1, h2, h3, h4, h5, h6⟩ := round_spend h hp hne
  have hR := (round_lien h hne).2.2.2.2.2
  have hf := h.few
  refine (hL W 0 a n c _ a2 _ c2 _ inI_zero hA (adj_ok hok hR) (by omega) hG h2 (by omega)).mono ?_
  rintro e W' ⟨v, rfl, ho, hb⟩
  rw [h3, h4]
  rw [h5] at ho
  obtain ⟨a', c', rfl, hl⟩ := outA_lst ho
  rw [adj_len, hn] at hl ⊢
  exact ⟨a', c', rfl, hl, hb⟩
theorem do_back (hL : PostC) {W : World} {Y : List Al} {d cc : List Dw} (h : Rnd Y d) (hp : Pair Part d cc) (hne : (amtsD d).sum ≠ 0) (hne2 : (amtsD cc).sum ≠ 0) (hok : ∀ x ∈ Y, x.ok) {a : Option Addr} {n c : Nat} (hn : Y.length = n) (hA : Allocs W a n c (adj (fun i => -ofD cc i) (fun _ => 0) (fun i => ofD cc i) Y)) {a2 : Option Addr} {c2 : Nat} (hG : Legs W a2 (legsD cc cc 3 1 0).length c2 (legsD cc cc 3 1 0)) :
    Calls Try.prog 25 #[.int .i64 0, .slice a n c, .slice a2 (legsD cc cc 3 1 0).length c2] W fun e W' => ∃ a' c', e = .returned (.tuple #[.int .i64 0, .slice a' n c', .int .i64 0]) ∧ Allocs W' a' n c' Y ∧ Below W.heap.size W W' := by
  obtain ⟨h1, h2, h3, h4, h5⟩ := round_back h hp hne2
  have hR := (round_spend h hp hne).2.2.2.2.2
  have hf := h.few
  refine (hL W 0 a n c _ a2 _ c2 _ inI_zero hA (adj_ok hok hR) (by omega) hG h2 (by omega)).mono ?_
  rintro e W' ⟨v, rfl, ho, hb⟩
  rw [h3, h4]
  rw [h5] at ho
  obtain ⟨a', c', rfl, hl⟩ := outA_lst ho
  rw [hn] at hl ⊢
  exact ⟨a', c', rfl, hl, hb⟩
end Go.Proofs.Ytghglgodkknlnaa.Drw
/- Draw: DrawRound, as it runs. -/
namespace Go.Proofs.Ytghglgodkknlnaa.Drw
set_option maxRecDepth 100000
open Go.RowKit
open Go.Sort
open Kit
open Mon
open Tre (Al Lst inI lst_keep lst_take lst_at lst_new Allocs Funds encF encF_len encL encL_len path IntsL int_cell alloc_cells6 encI_len)
open Led (Lg encG encG_len Legs PostC OutA outA_lst postE postW postA)
set_option linter.unusedVariables false
variable {w w' : World}

set_option maxHeartbeats 32000000 in
theorem round_any (hP : Prog) (hL : PostC) (W : World) (a : Option Addr) (n c : Nat) (fl : List Tre.Fd) (hF : Funds W a n c fl) (hokf : ∀ x ∈ fl, x.ok) (a2 : Option Addr) (n2 c2 : Nat) (al : List Al) (hA : Allocs W a2 n2 c2 al) (hoka : ∀ x ∈ al, x.ok) (f am now ch : Int) (hf : inI f) (ham : inI am) (hnow : inI now) (hch : inI ch) :
    Calls Try.prog 7 #[.slice a n c, .slice a2 n2 c2, .int .i64 f, .int .i64 am, .int .i64 now, .int .i64 ch] W fun e W' => e = .returned (.bool true) ∧ Below W.heap.size W W' := by
  obtain ⟨m, X, hm, hX, hFX, hokX, hm12⟩ := cut_fl hF hokf
  obtain ⟨m2, Y, hm2, hY, hAY, hokY, hm16⟩ := cut_al hA hoka
  have HFew := Lib.hid (few_any a a2 n c n2 c2 m m2 hF.cap hA.cap hF.max hA.max hm hm2 W)
  have HX := Lib.hid (And.intro hFX (And.intro hAY (And.intro hAY.len hokY)))
  have HDr := Lib.hid (fun w h1 h2 => hP.draws w X Y a a2 m c m2 c2 f am now h1 h2 hokX hokY (by omega) (by omega) hf ham hnow)
  have HP := Lib.hid hP
  have HL := Lib.hid hL
  have HI := Lib.hid (And.intro ham hch)
  have HCh2 := hch.1
  have HCh3 := hch.2
  clear hm hX hFX hokX hm12 hm2 hY hAY hokY hF hokf hA hoka hf ham hnow hch hP hL
  go_enter Try.func7, Try.ntmps7
  go_wp2_with fail
  refine HFew.out.mono ?_
  rintro e w1 ⟨rfl, rfl⟩
  clear HFew
  go_wp2_with fail
  go_loopw [15] (fun iv wr => ∃ k : Nat, k ≤ m2 ∧ iv = .int .i64 (k : Nat) ∧ (∀ (i : Nat) (x : Al), i < k → Y[i]? = some x → Fine x) ∧ Below W.heap.size W wr) (fun iv _ => m2 - (intOf iv).toNat)
  case atStart => exact ⟨0, Nat.zero_le _, rfl, (fun i x hi => by omega), Below.refl _ _⟩
  case round =>
    obtain ⟨k, hk, rfl, hfi, hb⟩ := hrel
    have HO := Lib.hid (And.intro hfi hb)
    clear hfi hb
    by_cases hlt : k < m2
    · have hkl : k < Y.length := by rw [HX.out.2.2.1]; exact hlt
      obtain ⟨b, o, rfl⟩ := lst_at HX.out.2.1 (by omega)
      obtain ⟨-, -, -, q3, q4, q5⟩ := alloc_cells6 (lst_keep encL_len HX.out.2.1 HO.out.2) hkl
      have hget := List.getElem?_eq_getElem hkl
      generalize Y[k] = x at *
      obtain ⟨x0, x1, x2, x3, x4, x5⟩ := x
      simp only at q3 q4 q5
      have HAw := Lib.hid (awake_any HP.out wr)
      by_cases hfin : Fine ⟨x0, x1, x2, x3, x4, x5⟩
      · have HS := Lib.hid (show ∀ (i : Nat) (x : Al), i < k + 1 → Y[i]? = some x → Fine x from fun i x hi hx => by
          rcases Nat.lt_succ_iff_lt_or_eq.1 hi with h | h
          · exact HO.out.1 i x h hx
          · subst h
            rw [hget] at hx
            injection hx with hx
            rw [← hx]; exact hfin)
        unfold Fine at hfin
        simp only at hfin
        have t1 : decide (x3 < 0) = false := by simp; omega
        have t2 : decide (x4 < 0) = false := by simp; omega
        have t3 : decide (x5 < 0) = false := by simp; omega
        have t4 : decide (1125899906842624 < x3) = false := by simp; omega
        have t5 : decide (1125899906842624 < x4) = false := by simp; omega
        have t6 : decide (1125899906842624 < x5) = false := by simp; omega
        clear hfin hget
        go_wp2_with fail
        go_roundw
        case rel => exact ⟨k + 1, by omega, by go_num, HS.out, HO.out.2⟩
        case measure => simp [intOf]; omega
      · have hor : (x3 < 0) ∨ (decide (x3 < 0) = false ∧ x4 < 0) ∨ (decide (x3 < 0) = false ∧ decide (x4 < 0) = false ∧ x5 < 0) ∨ (decide (x3 < 0) = false ∧ decide (x4 < 0) = false ∧ decide (x5 < 0) = false ∧ decide (1125899906842624 < x3) = true) ∨ (decide (x3 < 0) = false ∧ decide (x4 < 0) = false ∧ decide (x5 < 0) = false ∧ decide (1125899906842624 < x3) = false ∧ decide (1125899906842624 < x4) = true) ∨ (decide (x3 < 0) = false ∧ decide (x4 < 0) = false ∧ decide (x5 < 0) = false ∧ decide (1125899906842624 < x3) = false ∧ decide (1125899906842624 < x4) = false ∧ decide (1125899906842624 < x5) = true) := by
          unfold Fine at hfin
          simp only [decide_eq_false_iff_not, decide_eq_true_eq]
          simp only at hfin
          omega
        have HW := Lib.hid HO.out.2
        clear hfin hget
        rcases hor with t1 | ⟨t1, t2⟩ | ⟨t1, t2, t3⟩ | ⟨t1, t2, t3, t4⟩ | ⟨t1, t2, t3, t4, t5⟩ | ⟨t1, t2, t3, t4, t5, t6⟩
        all_goals
          go_wp2_with fail
          refine HAw.out.mono ?_
          rintro e w5 ⟨rfl, hb5⟩
          have HB5 := Lib.hid (below_keep HW.out hb5)
          clear hb5
          go_wp2_with fail
          go_ret
          exact ⟨rfl, HB5.out⟩
    · obtain rfl : m2 = k := by omega
      have HRi := Lib.hid (show Rich 1125899906842624 Y from fun i x hx => HO.out.1 i x (by rw [← HX.out.2.2.1]; exact (List.getElem?_eq_some_iff.1 hx).1) hx)
      have HD1 := Lib.hid (HDr.out wr (lst_keep encF_len HX.out.1 HO.out.2) (lst_keep encL_len HX.out.2.1 HO.out.2))
      clear HDr
      go_wp2_with fail
      refine HD1.out.mono ?_
      rintro e w2 ⟨v2, rfl, ho2, hb2⟩
      clear HD1
      obtain ⟨xd, kd, rfl, hd2⟩ := out_lst encD_len ho2
      have HB2 := Lib.hid (below_keep HO.out.2 hb2)
      have HAw := Lib.hid (awake_any HP.out w2)
      by_cases hz : drawsE X Y f am now = 0
      · rw [hz]
        by_cases ham0 : am = 0
        · subst ham0
          clear hb2 ho2 hd2
          go_wp2_with fail
          refine HAw.out.mono ?_
          rintro e w5 ⟨rfl, hb5⟩
          have HB5 := Lib.hid (below_keep HB2.out hb5)
          clear hb5
          go_wp2_with fail
          go_ret
          exact ⟨rfl, HB5.out⟩
        · have hok2 := draws_ok hz
          have hRnd : Rnd Y (drawsL X Y f am now) := ⟨draws_held hz, HRi.out, by rw [HX.out.2.2.1]; exact hm16⟩
          obtain ⟨D, hD⟩ : ∃ D, D = drawsL X Y f am now := ⟨_, rfl⟩
          rw [← hD] at hok2 hRnd hd2 ⊢
          have hne : (amtsD D).sum ≠ 0 := by rw [hok2.2.2.2]; exact ham0
          have HD := Lib.hid (And.intro hRnd (And.intro hne (And.intro hok2.2.2.2 hd2)))
          have hnd : D.length ≤ 16 := rnd_len hRnd
          obtain ⟨nd, hndl⟩ : ∃ nd, nd = D.length := ⟨_, rfl⟩
          rw [← hndl] at hd2 hnd HD ⊢
          have HNd := Lib.hid hndl
          have HLi := Lib.hid (HP.out.lien w2 xd nd kd D hd2 (sane_of hRnd) (by omega))
          have ham2 : (am == 0) = false := beq_false_of_ne ham0
          have HAm := Lib.hid ham0
          clear hb2 ho2 hok2 hRnd hne hndl hd2 hD hz ham0
          go_wp2_with fail
          refine HLi.out.mono ?_
          rintro e w3 ⟨v3, rfl, ho3, hb3⟩
          clear HLi
          obtain ⟨x3, k3, rfl, hg3⟩ := out_lst encG_len ho3
          have HB3 := Lib.hid (And.intro (below_keep HB2.out hb3) (lst_keep encD_len HD.out.2.2.2 hb3))
          have HPo := Lib.hid (do_lien HL.out HD.out.1 HD.out.2.1 HX.out.2.2.2 (lst_keep encL_len HX.out.2.1 HB3.out.1) hg3)
          generalize (legsD D D 1 2 0).length = nl at HPo ⊢
          clear ho3 hb3 hg3
          go_wp2_with fail
          refine HPo.out.mono ?_
          rintro e w4 ⟨a4, c4, rfl, hl4, hb4⟩
          clear HPo
          have HB4 := Lib.hid (And.intro (below_keep HB3.out.1 hb4) (And.intro (lst_keep encD_len HB3.out.2 hb4) hl4))
          have HCg := Lib.hid (HP.out.charge w4 xd nd kd D ch HB4.out.2.1 (fun x hx => by have h1 := rnd_amt HD.out.1 x hx; have h2 := HD.out.1.few; exact ⟨⟨by omega, by omega⟩, ⟨by omega, by omega⟩⟩) (by omega) HI.out.2)
          have hcc := charge_cases (l := D) (fun x hx => (rnd_amt HD.out.1 x hx).2.2.1) ch
          have HCc := Lib.hid hcc
          clear hb4 hl4 hcc
          go_wp2_with fail
          refine HCg.out.mono ?_
          rintro e w5 ⟨v5, rfl, ho5, hb5⟩
          clear HCg
          obtain ⟨x5, k5, rfl, hd5⟩ := out_lst encD_len ho5
          have HB5 := Lib.hid (And.intro (below_keep HB4.out.1 hb5) (And.intro (lst_keep encD_len HB4.out.2.1 hb5) (And.intro (lst_keep encL_len HB4.out.2.2 hb5) hd5)))
          have HAw5 := Lib.hid (awake_any HP.out w5)
          clear ho5 hb5 hd5
          by_cases hce : chargeE D ch = 0
          · rw [hce]
            obtain ⟨C, hC⟩ : ∃ C, C = chargeL D ch := ⟨_, rfl⟩
            have hcc : 0 ≤ ch ∧ Pair Part D C ∧ (amtsD C).sum = ch := by
              rcases HCc.out with h | h
              · rw [← hC] at h; exact h.2
              · exact absurd hce h.1
            rw [← hC] at HB5 ⊢
            have hcl := part_len hcc.2.1
            rw [← HNd.out] at hcl
            have hcl1 := hcl.1
            have HC := Lib.hid (And.intro hcc (And.intro hcl.2 (show ∀ i, i < Y.length → 0 ≤ ofD C i ∧ ∀ x, Y[i]? = some x → ofD C i ≤ x.avail from fun i hi => ⟨(part_of i hcc.2.1).1, fun x hx => by have h1 := (rnd_of HD.out.1 hx).2; have h2 := (part_of i hcc.2.1).2; omega⟩)))
            have hcc0 := hcc.1
            clear hC hcc hcl HCc hce
            obtain ⟨nc, hnc⟩ : ∃ nc, nc = C.length := ⟨_, rfl⟩
            rw [← hnc] at HB5 hcl1 ⊢
            have HNc := Lib.hid hnc
            subst hcl1
            have HSp := Lib.hid (HP.out.spend w5 xd x5 nc kd nc k5 D C HB5.out.2.1 HB5.out.2.2.2 (sane_of HD.out.1) (sane_part HD.out.1 HC.out.1.2.1) (fun _ => HC.out.2.1) (by omega) (by omega))
            rw [if_pos rfl] at HSp
            clear hnc
            go_wp2_with fail
            refine HSp.out.mono ?_
            rintro e w6 ⟨v6, rfl, ho6, hb6⟩
            clear HSp
            obtain ⟨x6, k6, rfl, hg6⟩ := out_lst encG_len ho6
            have HB6 := Lib.hid (And.intro (below_keep HB5.out.1 hb6) (And.intro (lst_keep encD_len HB5.out.2.2.2 hb6) (lst_keep encL_len HB5.out.2.2.1 hb6)))
            have HPo := Lib.hid (do_spend HL.out HD.out.1 HC.out.1.2.1 HD.out.2.1 HX.out.2.2.2 HX.out.2.2.1 HB6.out.2.2 hg6)
            generalize (legsD D C 2 3 1).length = nl6 at HPo ⊢
            clear ho6 hb6 hg6
            go_wp2_with fail
            refine HPo.out.mono ?_
            rintro e w7 ⟨a7, c7, rfl, hl7, hb7⟩
            clear HPo
            obtain ⟨M, hM⟩ : ∃ M, M = adj (fun i => -ofD C i) (fun _ => 0) (fun i => ofD C i) Y := ⟨_, rfl⟩
            rw [← hM] at hl7
            have HB7 := Lib.hid (And.intro (below_keep HB6.out.1 hb7) (And.intro (lst_keep encD_len HB6.out.2.1 hb7) hl7))
            have HM := Lib.hid hM
            clear hb7 hl7 hM
            go_wp2_with fail
            go_loopw [26, 27, 28] (fun wv nv iv wr => ∃ (k : Nat) (A N : Int), k ≤ m2 ∧ wv = .int .i64 A ∧ nv = .int .i64 N ∧ iv = .int .i64 (k : Nat) ∧ (0 ≤ A ∧ A ≤ (k : Int) * 1125899906842624) ∧ (0 ≤ sumC C k ∧ sumC C k ≤ (k : Int) * 1125899906842624) ∧ N = A + sumC C k ∧ Below w7.heap.size w7 wr) (fun _ _ iv _ => m2 - (intOf iv).toNat)
            case atStart => exact ⟨0, 0, 0, Nat.zero_le _, rfl, rfl, rfl, ⟨Int.le_refl _, by omega⟩, ⟨Int.le_refl _, by simp [sumC]⟩, rfl, Below.refl _ _⟩
            case round =>
              obtain ⟨k, A, N, hk, rfl, rfl, rfl, hA1, hS1, hN1, hb⟩ := hrel
              have hk16 : (k : Int) * 1125899906842624 ≤ 18014398509481984 := by omega
              have HO8 := Lib.hid (And.intro hA1 (And.intro hS1 (And.intro hN1 hb)))
              have hA0 : 0 ≤ A := hA1.1
              have hA2 : A ≤ 18014398509481984 := by omega
              have hN0 : 0 ≤ N := by omega
              have hN2 : N ≤ 36028797018963968 := by omega
              clear hA1 hS1 hN1 hb hk16
              by_cases hlt : k < m2
              · have hkl : k < Y.length := by rw [HX.out.2.2.1]; exact hlt
                obtain ⟨ba, oa, rfl⟩ := lst_at HX.out.2.1 (by omega)
                obtain ⟨bm, om, rfl⟩ := lst_at HB7.out.2.2 (by omega)
                have hby := below_keep HB7.out.1 HO8.out.2.2.2
                obtain ⟨-, -, -, q3, q4, q5⟩ := alloc_cells6 (lst_keep encL_len HX.out.2.1 hby) hkl
                have hkm : k < M.length := by rw [HM.out, adj_len]; exact hkl
                obtain ⟨-, -, -, r3, r4, r5⟩ := alloc_cells6 (lst_keep encL_len HB7.out.2.2 HO8.out.2.2.2) hkm
                have hget := List.getElem?_eq_getElem hkl
                have hgm : M[k] = adjOne (fun i => -ofD C i) (fun _ => 0) (fun i => ofD C i) k Y[k] := by
                  have h1 := adj_at (u := fun i => -ofD C i) (v := fun _ => 0) (s := fun i => ofD C i) hget
                  rw [← HM.out, List.getElem?_eq_getElem hkm] at h1
                  injection h1
                have hri := HRi.out k _ hget
                have hgc := (HC.out.2.2 k hkl).2 _ hget
                have hgc0 := (HC.out.2.2 k hkl).1
                rw [hgm] at r3 r4 r5
                generalize Y[k] = x at *
                obtain ⟨y0, y1, y2, y3, y4, y5⟩ := x
                unfold adjOne at r3 r4 r5
                simp only [Int.add_zero] at q3 q4 q5 r3 r4 r5 hri hgc
                have hsu := sumC_succ C k
                obtain ⟨g, hg⟩ : ∃ g, g = ofD C k := ⟨_, rfl⟩
                rw [← hg] at r3 r5 hgc hgc0 hsu
                obtain ⟨z3, hz3⟩ : ∃ z, z = y3 + -g := ⟨_, rfl⟩
                obtain ⟨z5, hz5⟩ : ∃ z, z = y5 + g := ⟨_, rfl⟩
                rw [← hz3] at r3
                rw [← hz5] at r5
                have hbe : (y3 + y5 == z3 + z5) = true := by rw [beq_iff_eq]; omega
                have hb3 : 0 ≤ y3 ∧ y3 ≤ 1125899906842624 := hri.1
                have hb5 : 0 ≤ y5 ∧ y5 ≤ 1125899906842624 := hri.2.2
                have hc3 : 0 ≤ z3 ∧ z3 ≤ 1125899906842624 := by omega
                have hc5 : 0 ≤ z5 ∧ z5 ≤ 2251799813685248 := by omega
                have HNx := Lib.hid (show (0 ≤ A + y5 ∧ A + y5 ≤ ((k + 1 : Nat) : Int) * 1125899906842624) ∧ (0 ≤ sumC C (k + 1) ∧ sumC C (k + 1) ≤ ((k + 1 : Nat) : Int) * 1125899906842624) ∧ N + z5 = A + y5 + sumC C (k + 1) by
                  obtain ⟨h1, h2, h3, -⟩ := HO8.out
                  refine ⟨⟨by omega, by omega⟩, ⟨by omega, by omega⟩, by omega⟩)
                obtain ⟨hb31, hb32⟩ := hb3
                obtain ⟨hb51, hb52⟩ := hb5
                obtain ⟨hc31, hc32⟩ := hc3
                obtain ⟨hc51, hc52⟩ := hc5
                clear hget hgm hri hgc hgc0 hsu hg hz3 hz5 hby hkm hkl
                go_wp2_with fail
                go_quiet (fail)
                go_wp2_with fail
                go_quiet (fail)
                go_wp2_with fail
                go_roundw
                case rel => exact ⟨k + 1, A + y5, N + z5, by omega, rfl, rfl, by go_num, HNx.out.1, HNx.out.2.1, HNx.out.2.2, below_keep HO8.out.2.2.2 (Tre.below_drewN' _ _)⟩
                case measure => simp [intOf]; omega
              · obtain rfl : m2 = k := by omega
                have hsum : sumC C m2 = ch := by
                  have h1 := ofD_sum (l := C) (n := m2) (fun x hx => by
                    obtain ⟨y, hy, e, _⟩ := part_mem HC.out.1.2.1 x hx
                    have := rnd_amt HD.out.1 y hy
                    rw [HX.out.2.2.1] at this
                    omega)
                  unfold sumC
                  rw [h1]; exact HC.out.1.2.2
                have hbe : (N - A == ch) = true := by
                  have h1 := HO8.out.2.2.1
                  rw [beq_iff_eq]
                  omega
                have HW8 := Lib.hid (below_keep HB7.out.1 HO8.out.2.2.2)
                have HAw8 := Lib.hid (awake_any HP.out wr)
                have hchle : ch ≤ 18014398509481984 := by have := HO8.out.2.1; omega
                clear hsum
                by_cases hc0 : ch = 0
                · subst hc0
                  go_wp2_with fail
                  refine HAw8.out.mono ?_
                  rintro e w9 ⟨rfl, hb9⟩
                  have HB9 := Lib.hid (below_keep HW8.out hb9)
                  clear hb9
                  go_wp2_with fail
                  go_ret
                  exact ⟨rfl, HB9.out⟩
                · have hne2 : (ch == 0) = false := beq_false_of_ne hc0
                  have HBk := Lib.hid (HP.out.back wr x5 nc k5 C (lst_keep encD_len HB7.out.2.1 HO8.out.2.2.2) (sane_part HD.out.1 HC.out.1.2.1) (by omega))
                  have HNe := Lib.hid (show (amtsD C).sum ≠ 0 by rw [HC.out.1.2.2]; exact hc0)
                  clear hc0
                  go_wp2_with fail
                  refine HBk.out.mono ?_
                  rintro e w9 ⟨v9, rfl, ho9, hb9⟩
                  clear HBk
                  obtain ⟨x9, k9, rfl, hg9⟩ := out_lst encG_len ho9
                  have HB9 := Lib.hid (And.intro (below_keep HW8.out hb9) (lst_keep encL_len (lst_keep encL_len HB7.out.2.2 HO8.out.2.2.2) hb9))
                  have hM9 := HB9.out.2
                  rw [HM.out] at hM9
                  have HPo := Lib.hid (do_back HL.out HD.out.1 HC.out.1.2.1 HD.out.2.1 HNe.out HX.out.2.2.2 HX.out.2.2.1 hM9 hg9)
                  generalize (legsD C C 3 1 0).length = nl9 at HPo ⊢
                  clear ho9 hb9 hg9 hM9
                  go_wp2_with fail
                  refine HPo.out.mono ?_
                  rintro e w10 ⟨a10, c10, rfl, hl10, hb10⟩
                  clear HPo
                  have HB10 := Lib.hid (And.intro (below_keep HB9.out.1 hb10) hl10)
                  clear hl10 hb10
                  go_wp2_with fail
                  refine (awake_any HP.out w10).mono ?_
                  rintro e w11 ⟨rfl, hb11⟩
                  have HB11 := Lib.hid (below_keep HB10.out.1 hb11)
                  have HSm := Lib.hid (Led.same_any a10 a2 m2 c10 c2 Y w11 (lst_keep encL_len HB10.out.2 hb11) (lst_keep encL_len HX.out.2.1 HB11.out))
                  clear hb11
                  go_wp2_with fail
                  refine HSm.out.mono ?_
                  rintro e w12 ⟨rfl, hb12⟩
                  have HB12 := Lib.hid (below_keep HB11.out hb12)
                  clear hb12
                  go_wp2_with fail
                  go_ret
                  exact ⟨rfl, HB12.out⟩
          · have hor : ch < 0 ∨ (¬ ch < 0 ∧ am < ch) := by
              rcases HCc.out with h | h
              · exact absurd h.1 hce
              · have := h.2
                rw [HD.out.2.2.1] at this
                omega
            have hne : (chargeE D ch == 0) = false := beq_false_of_ne hce
            generalize chargeE D ch = ce at *
            clear hce HCc
            rcases hor with t1 | ⟨t1, t2⟩
            all_goals
              go_wp2_with fail
              refine HAw5.out.mono ?_
              rintro e w6 ⟨rfl, hb6⟩
              have HB6 := Lib.hid (below_keep HB5.out.1 hb6)
              clear hb6
              go_wp2_with fail
              go_ret
              exact ⟨rfl, HB6.out⟩
      · have hne : (drawsE X Y f am now == 0) = false := beq_false_of_ne hz
        clear hb2 ho2 hd2 hz
        generalize drawsE X Y f am now = de at *
        go_wp2_with fail
        refine HAw.out.mono ?_
        rintro e w5 ⟨rfl, hb5⟩
        have HB5 := Lib.hid (below_keep HB2.out hb5)
        clear hb5
        go_wp2_with fail
        go_ret
        exact ⟨rfl, HB5.out⟩
end Go.Proofs.Ytghglgodkknlnaa.Drw
/- Ledger, the landed: which accounts there are, where an account's amount lies. -/
namespace Go.Proofs.Ytghglgodkknlnaa.Led
set_option maxRecDepth 100000
open Go.RowKit
open Go.Sort
open Kit
open Mon
open Tre
set_option linter.unusedVariables false
variable {w w' : World}

theorem is_yes (W : World) (a : Option Addr) (n c : Nat) (k : Int) (hn : n ≤ 100) (h0 : 0 ≤ k) (h1 : k ≤ 3 * (n : Int)) :
    Calls Try.prog 51 #[.slice a n c, .int .i64 k] W fun e w' => e = .returned (.bool true) ∧ W = w' := by
  go_enter Try.func51, Try.ntmps51
  go_wp2_with fail
  go_ret
  exact ⟨rfl, rfl⟩
theorem is_no (W : World) (a : Option Addr) (n c : Nat) (k : Int) (hn : n ≤ 100) (h : k < 0 ∨ 3 * (n : Int) < k) :
    Calls Try.prog 51 #[.slice a n c, .int .i64 k] W fun e w' => e = .returned (.bool false) ∧ W = w' := by
  have h2 : decide (0 ≤ k) = false ∨ (0 ≤ k ∧ decide (k ≤ 3 * (n : Int)) = false) := by
    rcases h with h | h
    · exact .inl (by simp; omega)
    · exact .inr ⟨by omega, by simp; omega⟩
  clear h
  rcases h2 with h2 | ⟨h1, h2⟩
  all_goals
    go_enter Try.func51, Try.ntmps51
    go_wp2_with fail
    go_ret
    exact ⟨rfl, rfl⟩
theorem may_world (W : World) (x : Int) (b : Bool) (hb : decide (x ≤ 0) = b) : Calls Try.prog 54 #[.int .i64 0, .int .i64 x] W fun e w' => e = .returned (.bool b) ∧ W = w' := by
  go_enter Try.func54, Try.ntmps54
  go_wp2_with fail
  go_ret
  exact ⟨rfl, rfl⟩
theorem may_alloc (W : World) (k x : Int) (b : Bool) (hk : (k == 0) = false) (hb : decide (0 ≤ x) = b) : Calls Try.prog 54 #[.int .i64 k, .int .i64 x] W fun e w' => e = .returned (.bool b) ∧ W = w' := by
  go_enter Try.func54, Try.ntmps54
  go_wp2_with fail
  go_ret
  exact ⟨rfl, rfl⟩
theorem addr_world (W : World) (p : Option Addr) (a : Option Addr) (n c : Nat) : Calls Try.prog 39 #[.pointer p, .slice a n c, .int .i64 0] W fun e w' => e = .returned (.pointer p) ∧ W = w' := by
  go_enter Try.func39, Try.ntmps39
  go_wp2_with fail
  go_ret
  exact ⟨rfl, rfl⟩
theorem addr_no (W : World) (p : Option Addr) (a : Option Addr) (n c : Nat) (k : Int) (hn : n ≤ 100) (h : k < 0 ∨ 3 * (n : Int) < k) : Calls Try.prog 39 #[.pointer p, .slice a n c, .int .i64 k] W fun e w' => e = .returned (.pointer none) ∧ W = w' := by
  have hk : (k == 0) = false := beq_false_of_ne (by omega)
  have HC := Lib.hid (is_no W a n c k hn h)
  clear h
  go_enter Try.func39, Try.ntmps39
  go_wp2_with fail
  refine HC.out.mono ?_
  rintro e w1 ⟨rfl, rfl⟩
  go_wp2_with fail
  go_ret
  exact ⟨rfl, rfl⟩
theorem quo_three {i r : Nat} (hr : r < 3) : Int.tdiv ((3 * i + r : Nat) : Int) 3 = (i : Nat) := by
  rw [Int.tdiv_eq_ediv_of_nonneg (by omega)]; omega
theorem rem_three {i r : Nat} (hr : r < 3) : Int.tmod ((3 * i + r : Nat) : Int) 3 = (r : Nat) := by
  rw [Int.tmod_eq_emod_of_nonneg (by omega)]; omega
theorem addr_at (W : World) (p : Option Addr) (b o n c i r : Nat) (hn : n ≤ 100) (hi : i < n) (hr : r < 3) : Calls Try.prog 39 #[.pointer p, .slice (some ⟨b, o, none⟩) n c, .int .i64 ((1 + 3 * i + r : Nat) : Int)] W fun e w' => e = .returned (.pointer (some ⟨b, o + i * 6 + (3 + r), none⟩)) ∧ W = w' := by
  have HC := Lib.hid (is_yes W (some ⟨b, o, none⟩) n c ((1 + 3 * i + r : Nat) : Int) hn (by omega) (by omega))
  have hq := quo_three (i := i) hr
  have hm := rem_three (i := i) hr
  obtain ⟨j, hj⟩ : ∃ j, j = 3 * i + r := ⟨_, rfl⟩
  rw [show 1 + 3 * i + r = j + 1 by omega] at HC ⊢
  rw [← hj] at hq hm
  have hk : (((j + 1 : Nat) : Int) == 0) = false := beq_false_of_ne (by omega)
  have hj2 : j ≤ 1000 := by omega
  have HJ := Lib.hid hj
  clear hj
  match r, hr with
  | 0, _ =>
    go_enter Try.func39, Try.ntmps39
    go_wp2_with fail
    refine HC.out.mono ?_
    rintro e w1 ⟨rfl, rfl⟩
    go_wp2_with fail
    go_ret
    exact ⟨rfl, rfl⟩
  | 1, _ =>
    go_enter Try.func39, Try.ntmps39
    go_wp2_with fail
    refine HC.out.mono ?_
    rintro e w1 ⟨rfl, rfl⟩
    go_wp2_with fail
    go_ret
    exact ⟨rfl, rfl⟩
  | 2, _ =>
    go_enter Try.func39, Try.ntmps39
    go_wp2_with fail
    refine HC.out.mono ?_
    rintro e w1 ⟨rfl, rfl⟩
    go_wp2_with fail
    go_ret
    exact ⟨rfl, rfl⟩
end Go.Proofs.Ytghglgodkknlnaa.Led
/- Ledger: legs one by one, the first error of all; amounts of which the first ones are set. -/
namespace Go.Proofs.Ytghglgodkknlnaa.Led
set_option maxRecDepth 100000
open Go.RowKit
open Go.Sort
open Kit
open Mon
open Tre
set_option linter.unusedVariables false
variable {w w' : World}

theorem scan_append {n : Nat} : ∀ {l1 l2 : List Lg}, scanE n l1 = 0 → scanE n (l1 ++ l2) = scanE n l2
  | [], _, _ => rfl
  | g :: l1, l2, h => by
    rw [scanE] at h
    rw [List.cons_append, scanE]
    by_cases h1 : g.acct < 0 ∨ (n : Int) ≤ g.acct
    · rw [if_pos h1] at h; cases h
    · rw [if_neg h1] at h ⊢
      by_cases h2 : g.amt = 0
      · rw [if_pos h2] at h; cases h
      · rw [if_neg h2] at h ⊢
        exact scan_append h
theorem scan_at {n k : Nat} {legs : List Lg} {g : Lg} (h : scanE n (legs.take k) = 0) (hg : legs[k]? = some g) :
    (g.acct < 0 ∨ (n : Int) ≤ g.acct → scanE n legs = 4) ∧ (¬ (g.acct < 0 ∨ (n : Int) ≤ g.acct) → g.amt = 0 → scanE n legs = 3) ∧ (¬ (g.acct < 0 ∨ (n : Int) ≤ g.acct) → ¬ g.amt = 0 → scanE n (legs.take (k + 1)) = 0) := by
  have hk := (List.getElem?_eq_some_iff.1 hg).1
  have he := (List.getElem?_eq_some_iff.1 hg).2
  have e1 : scanE n legs = scanE n (g :: legs.drop (k + 1)) := by
    conv => lhs; rw [← List.take_append_drop k legs]
    rw [scan_append h, List.drop_eq_getElem_cons hk, he]
  have e2 : scanE n (legs.take (k + 1)) = scanE n [g] := by
    rw [List.take_succ_eq_append_getElem hk, he, scan_append h]
  refine ⟨fun h1 => ?_, fun h1 h2 => ?_, fun h1 h2 => ?_⟩
  · rw [e1, scanE, if_pos h1]
  · rw [e1, scanE, if_neg h1, if_pos h2]
  · rw [e2, scanE, if_neg h1, if_neg h2]; rfl
theorem pre_scan {n : Nat} {legs : List Lg} {e : Int} (h : scanE n legs = e) (he : e ≠ 0) : preE n legs = e := by
  unfold preE; rw [h, if_pos he]
theorem post_pre {w : Int} {al : List Al} {legs : List Lg} {e : Int} (h : preE (1 + 3 * al.length) legs = e) (he : e ≠ 0) : postE w al legs = e := by
  unfold postE; rw [h, if_pos he]
theorem amts_take {legs : List Lg} {k : Nat} {g : Lg} (h : legs[k]? = some g) : amts (legs.take (k + 1)) = amts (legs.take k) ++ [g.amt] := by
  have hk := (List.getElem?_eq_some_iff.1 h).1
  have he := (List.getElem?_eq_some_iff.1 h).2
  unfold amts
  rw [List.take_succ_eq_append_getElem hk, he, List.map_append]; rfl
/-- A refusal. -/
def Refused (w : Int) (al : List Al) (legs : List Lg) (e : Int) : Prop := postW w al legs = 0 ∧ postA w al legs = [] ∧ postE w al legs = e
theorem refused {w : Int} {al : List Al} {legs : List Lg} {e : Int} (h : postE w al legs = e) (he : e ≠ 0) : Refused w al legs e :=
  ⟨postW_no (by rw [h]; exact he), postA_no (by rw [h]; exact he), h⟩
theorem out_none (w : World) (base : Nat) : OutA w base (.slice none 0 0) [] := .inl (owns_nil _ _ _)

theorem pre_many {n : Nat} {legs : List Lg} (h : scanE n legs = 0) (h2 : legs.length < 1 ∨ 64 < legs.length) : preE n legs = 3 := by
  unfold preE; rw [h, if_neg (by decide), if_pos h2]
theorem pre_add {n : Nat} {legs : List Lg} (h : scanE n legs = 0) (h2 : ¬ (legs.length < 1 ∨ 64 < legs.length)) (h3 : addE (amts legs) ≠ 0) : preE n legs = 2 := by
  unfold preE; rw [h, if_neg (by decide), if_neg h2, if_pos h3]
  rcases addE_two (amts legs) with h | h
  · exact absurd h h3
  · exact h
theorem pre_sum {n : Nat} {legs : List Lg} (h : scanE n legs = 0) (h2 : ¬ (legs.length < 1 ∨ 64 < legs.length)) (h3 : addE (amts legs) = 0) (h4 : addN (amts legs) ≠ 0) : preE n legs = 3 := by
  unfold preE; rw [h, if_neg (by decide), if_neg h2, h3, if_neg (by decide), if_pos h4]
theorem pre_ok {n : Nat} {legs : List Lg} (h : scanE n legs = 0) (h2 : ¬ (legs.length < 1 ∨ 64 < legs.length)) (h3 : addE (amts legs) = 0) (h4 : addN (amts legs) = 0) : preE n legs = 0 := by
  unfold preE; rw [h, if_neg (by decide), if_neg h2, h3, if_neg (by decide), h4, if_neg (by decide)]
theorem accs_first {fl : List Int} {legs : List Lg} {e : Int} (he : e ≠ 0) : ∀ (n i k : Nat), (∀ j, i ≤ j → j < k → acctE fl legs j = 0) → acctE fl legs k = e → i ≤ k → k < i + n → accsE fl legs n i = e
  | 0, i, k, _, _, h1, h2 => by omega
  | n + 1, i, k, hz, hk, h1, h2 => by
    rw [accsE]
    by_cases hi : i = k
    · subst hi
      rw [hk, if_pos he]
    · rw [hz i (Nat.le_refl _) (by omega), if_neg (by decide)]
      exact accs_first he n (i + 1) k (fun j h3 h4 => hz j (by omega) h4) hk (by omega) (by omega)
theorem post_first {w : Int} {al : List Al} {legs : List Lg} {k : Nat} {e : Int} (hp : preE (1 + 3 * al.length) legs = 0) (hz : ∀ j, j < k → acctE (flatN w al) legs j = 0) (hk : acctE (flatN w al) legs k = e) (he : e ≠ 0) (hlt : k < 1 + 3 * al.length) : postE w al legs = e := by
  unfold postE
  rw [hp, if_neg (by decide)]
  exact accs_first he _ 0 k (fun j _ h => hz j h) hk (Nat.zero_le _) (by omega)
/-- The amounts, the first k of them set. -/
def part {α : Type} (F fl : List α) (k : Nat) : List α := F.take k ++ fl.drop k
theorem part_zero {α : Type} (F fl : List α) : part F fl 0 = fl := rfl
theorem part_all {α : Type} {F fl : List α} {m : Nat} (h1 : F.length = m) (h2 : fl.length = m) : part F fl m = F := by
  unfold part
  rw [List.take_of_length_le (by omega), List.drop_eq_nil_of_le (by omega), List.append_nil]
theorem part_len {α : Type} {F fl : List α} {m k : Nat} (h1 : F.length = m) (h2 : fl.length = m) (hk : k ≤ m) : (part F fl k).length = m := by
  unfold part
  rw [List.length_append, List.length_take, List.length_drop]; omega
theorem part_at {α : Type} {F fl : List α} {m k : Nat} (h1 : F.length = m) (hk : k < m) {y : α} (hy : fl[k]? = some y) : (part F fl k)[k]? = some y := by
  unfold part
  rw [List.getElem?_append_right (by rw [List.length_take]; omega), List.length_take, List.getElem?_drop, show k + (k - min k F.length) = k by omega]
  exact hy
theorem part_set {α : Type} {F fl : List α} {m k : Nat} (h1 : F.length = m) (h2 : fl.length = m) (hk : k < m) {x : α} (hx : F[k]? = some x) : (part F fl k).set k x = part F fl (k + 1) := by
  have hF : k < F.length := by omega
  have hf : k < fl.length := by omega
  have hxe : F[k] = x := (List.getElem?_eq_some_iff.1 hx).2
  unfold part
  rw [List.set_append, if_neg (by rw [List.length_take]; omega), List.length_take, show k - min k F.length = 0 by omega, List.take_succ_eq_append_getElem hF, hxe, List.drop_eq_getElem_cons hf, List.set_cons_zero, List.append_assoc]
  rfl
theorem part_same {α : Type} {F fl : List α} {m k : Nat} (h1 : F.length = m) (h2 : fl.length = m) (hk : k < m) {x : α} (hx : F[k]? = some x) (hy : fl[k]? = some x) : part F fl (k + 1) = part F fl k := by
  rw [← part_set h1 h2 hk hx]
  apply List.ext_getElem?
  intro i
  rw [List.getElem?_set]
  split
  · rename_i e
    subst e
    rw [part_at h1 hk hy, if_pos (by rw [part_len h1 h2 (by omega)]; exact hk)]
  · rfl
theorem of_take {legs : List Lg} {k q : Nat} {g : Lg} (h : legs[q]? = some g) : of (legs.take (q + 1)) k = of (legs.take q) k ++ (if g.acct = (k : Int) then [g.amt] else []) := by
  have hq := (List.getElem?_eq_some_iff.1 h).1
  have he := (List.getElem?_eq_some_iff.1 h).2
  unfold of
  rw [List.take_succ_eq_append_getElem hq, he, List.filter_append, List.map_append]
  by_cases hg : g.acct = (k : Int)
  · rw [if_pos hg]; simp [hg]
  · rw [if_neg hg]; simp [hg]
theorem of_len (legs : List Lg) (k : Nat) : (of legs k).length ≤ legs.length := by
  unfold of
  rw [List.length_map]
  exact List.length_filter_le _ _
theorem acct_cases {fl : List Int} {legs : List Lg} {k : Nat} (hn : named legs k = true) : (addE (mine fl legs k) ≠ 0 → acctE fl legs k = 2) ∧ (addE (mine fl legs k) = 0 → bad k (addN (mine fl legs k)) = true → acctE fl legs k = 7) ∧ (addE (mine fl legs k) = 0 → bad k (addN (mine fl legs k)) = false → acctE fl legs k = 0) ∧ acctN fl legs k = addN (mine fl legs k) := by
  unfold acctE acctN
  rw [if_pos hn, if_pos hn]
  refine ⟨fun h => ?_, fun h h2 => ?_, fun h h2 => ?_, rfl⟩
  · rw [if_pos h]
    rcases addE_two (mine fl legs k) with h3 | h3
    · exact absurd h3 h
    · exact h3
  · rw [if_neg (by simpa using h), if_pos h2]
  · rw [if_neg (by simpa using h), if_neg (by rw [h2]; exact Bool.false_ne_true)]
theorem acct_un {fl : List Int} {legs : List Lg} {k : Nat} (hn : named legs k = false) : acctE fl legs k = 0 ∧ acctN fl legs k = fl.getD k 0 := by
  unfold acctE acctN
  rw [hn]; exact ⟨rfl, rfl⟩
end Go.Proofs.Ytghglgodkknlnaa.Led
/- Ledger, the landed: what is in an account behind its legs; a list of allocations cloned. -/
namespace Go.Proofs.Ytghglgodkknlnaa.Led
set_option maxRecDepth 100000
open Go.RowKit
open Go.Sort
open Kit
open Mon
open Tre
set_option linter.unusedVariables false
variable {w w' : World}

/-- An account's amount, and its legs'. -/
def mineY (y : Int) (legs : List Lg) (k : Nat) : List Int := y :: of legs k
def behE (y : Int) (legs : List Lg) (k : Nat) : Int := if addE (mineY y legs k) ≠ 0 then addE (mineY y legs k) else if bad k (addN (mineY y legs k)) then 7 else 0
def behN (y : Int) (legs : List Lg) (k : Nat) : Int := if behE y legs k = 0 then addN (mineY y legs k) else 0
theorem beh_add {y : Int} {legs : List Lg} {k : Nat} (h : ¬ addE (mineY y legs k) = 0) : behE y legs k = 2 ∧ behN y legs k = 0 ∧ addE (mineY y legs k) = 2 ∧ addN (mineY y legs k) = 0 := by
  have h2 : addE (mineY y legs k) = 2 := by
    rcases addE_two (mineY y legs k) with h3 | h3
    · exact absurd h3 h
    · exact h3
  have e : behE y legs k = 2 := by unfold behE; rw [if_pos h, h2]
  refine ⟨e, ?_, h2, addN_err h⟩
  unfold behN; rw [e]; rfl
theorem beh_bad {y : Int} {legs : List Lg} {k : Nat} (h : addE (mineY y legs k) = 0) (h2 : bad k (addN (mineY y legs k)) = true) : behE y legs k = 7 ∧ behN y legs k = 0 := by
  have e : behE y legs k = 7 := by unfold behE; rw [if_neg (by simpa using h), if_pos h2]
  refine ⟨e, ?_⟩
  unfold behN; rw [e]; rfl
theorem beh_ok {y : Int} {legs : List Lg} {k : Nat} (h : addE (mineY y legs k) = 0) (h2 : bad k (addN (mineY y legs k)) = false) : behE y legs k = 0 ∧ behN y legs k = addN (mineY y legs k) := by
  have e : behE y legs k = 0 := by unfold behE; rw [if_neg (by simpa using h), if_neg (by rw [h2]; exact Bool.false_ne_true)]
  refine ⟨e, ?_⟩
  unfold behN; rw [if_pos e]
theorem may_any (W : World) (k : Nat) (x : Int) (b : Bool) (hb : bad k x = !b) : Calls Try.prog 54 #[.int .i64 (k : Nat), .int .i64 x] W fun e w' => e = .returned (.bool b) ∧ W = w' := by
  by_cases hk : k = 0
  · subst hk
    refine may_world W x b ?_
    unfold bad at hb
    cases b <;> simp at hb ⊢ <;> omega
  · refine may_alloc W (k : Nat) x b (beq_false_of_ne (by omega)) ?_
    unfold bad at hb
    have : 0 < k := by omega
    cases b <;> simp [hk, this] at hb ⊢ <;> omega

set_option maxHeartbeats 8000000 in
theorem beh_any (W : World) (k : Nat) (y : Int) (a2 : Option Addr) (n2 c2 : Nat) (legs : List Lg) (hG : Legs W a2 n2 c2 legs) (hn2 : n2 ≤ 100) :
    Calls Try.prog 40 #[.int .i64 (k : Nat), .int .i64 y, .slice a2 n2 c2] W fun e W' => e = .returned (.tuple #[.int .i64 (behN y legs k), .int .i64 (behE y legs k)]) ∧ Below W.heap.size W W' := by
  have HG := Lib.hid (And.intro hG hG.len)
  clear hG
  go_enter Try.func40, Try.ntmps40
  go_wp2_with fail
  go_loopw [8, 17] (fun v i wr => ∃ q : Nat, q ≤ n2 ∧ i = .int .i64 (q : Nat) ∧ OwI wr W.heap.size v (y :: of (legs.take q) k) ∧ Below W.heap.size W wr) (fun _ i _ => n2 - (intOf i).toNat)
  case atStart => exact ⟨0, Nat.zero_le _, rfl, owns_lit W y W.heap.size (Nat.le_refl _), below_alloc _ _⟩
  case round =>
    obtain ⟨q, hq, rfl, hown, hb⟩ := hrel
    have HO := Lib.hid (And.intro hown hb)
    clear hown hb
    by_cases hlt : q < n2
    · have hql : q < legs.length := by rw [HG.out.2]; exact hlt
      obtain ⟨b2, o2, rfl⟩ := lst_at HG.out.1 (by omega)
      have hget := List.getElem?_eq_getElem hql
      obtain ⟨q0, q1⟩ := leg_cells (lst_keep encG_len HG.out.1 HO.out.2) hql
      have hot := of_take (k := k) hget
      generalize legs[q] = x at *
      obtain ⟨ac, am⟩ := x
      simp only at q0 q1 hot
      have hb1 := below_alloc wr (.cells #[.int .i64 ac, .int .i64 am] 68)
      have HB1 := Lib.hid (below_keep HO.out.2 hb1)
      clear hget
      by_cases hac : ac = (k : Int)
      · have HOt := Lib.hid (show of (legs.take (q + 1)) k = of (legs.take q) k ++ [am] by rw [hot, if_pos hac])
        have hlx : (of (legs.take q) k).length ≤ 100 := by
          have h1 := of_len (legs.take q) k
          rw [List.length_take] at h1
          omega
        subst hac
        obtain ⟨lx, hx⟩ : ∃ z, z = of (legs.take q) k := ⟨_, rfl⟩
        rw [← hx] at HO HOt hlx
        have hb2 := below_alloc (wr.alloc (.cells #[.int .i64 (k : Nat), .int .i64 am] 68)) (.cells #[.int .i64 am] 3)
        have HA1 := Lib.hid (own_chg' (own_chg' HO.out.1 hb1) hb2)
        have HA2 := Lib.hid (show Kit.Row encI 1 _ (some ⟨wr.heap.size + 1, 0, none⟩) [am] from row_new encI_len (wr.alloc (.cells #[.int .i64 (k : Nat), .int .i64 am] 68)) [am] #[.int .i64 am] 3 _ (by simp) rfl)
        have HA3 := Lib.hid (below_keep HB1.out hb2)
        have HD1 := Lib.hid (show (y :: lx).length + 1 ≤ maxLen by unfold maxLen; simp; omega)
        have HD2 := Lib.hid (show ((y :: lx).length + 1) * 8 ≤ 140737488355328 by simp; omega)
        clear hx hlx hot hb1 hb2
        go_wp2_with (first | (at_builtin; refine Two.append_apart encI_len Nat.zero_lt_one encI_one rfl (.tmp 25) (.tmp 28) 50 3 rfl Try.underlying50 (.int .i64 0) 8 info_i rfl W.heap.size _ (y :: lx) rfl HA1.out (some ⟨wr.heap.size + 1, 0, none⟩) 1 1 [am] rfl rfl HA2.out (fun h => by cases h) HD1.out HD2.out HA3.out.size ?_; intro v9 w9 ho9 hg9 hx9; have HB9 := Lib.hid (HA3.out.trans (Two.below_grown HA1.out hg9 HA3.out.size)); have HO9 := Lib.hid ho9; clear ho9 hg9 hx9) | fail)
        go_roundw
        case rel => exact ⟨q + 1, by omega, by go_num, by rw [HOt.out]; exact HO9.out, HB9.out⟩
        case measure => simp [intOf]; omega
      · have HOt := Lib.hid (show of (legs.take (q + 1)) k = of (legs.take q) k by rw [hot, if_neg hac, List.append_nil])
        have hne : (ac == (k : Int)) = false := beq_false_of_ne hac
        have HA1 := Lib.hid (own_chg' HO.out.1 hb1)
        clear hac hot hb1
        go_wp2_with fail
        go_roundw
        case rel => exact ⟨q + 1, by omega, by go_num, by rw [HOt.out]; exact HA1.out, HB1.out⟩
        case measure => simp [intOf]; omega
    · obtain rfl : n2 = q := by omega
      have htk : legs.take n2 = legs := List.take_of_length_le (by rw [HG.out.2]; exact Nat.le_refl _)
      rw [htk] at HO
      have HO2 : Hid (OwI wr W.heap.size _ (mineY y legs k) ∧ Below W.heap.size W wr) := HO
      clear HO
      obtain ⟨a15, c15, rfl, s1, s2, s3, s4⟩ := owns_row encI_len HO2.out.1
      have hel : Elems wr a15 (mineY y legs k) := ints_elems ⟨rfl, s1, s2, fun e => ⟨by have := s3 e; omega, s3 e⟩, s4⟩
      have HEm := Lib.hid (And.intro hel (show (mineY y legs k).length ≤ maxLen from Nat.le_trans s1 s2))
      obtain ⟨nm, hnm⟩ : ∃ nm, nm = (mineY y legs k).length := ⟨_, rfl⟩
      rw [← hnm]
      have HNm := Lib.hid hnm
      have HB := Lib.hid HO2.out.2
      clear htk hel s1 s2 s3 s4 hnm HO2
      go_wp2_with fail
      refine (add_any a15 nm c15 (mineY y legs k) wr HNm.out.symm (by rw [HNm.out]; exact HEm.out.2) HEm.out.1).mono ?_
      rintro e w3 ⟨rfl, rfl⟩
      by_cases hae : addE (mineY y legs k) = 0
      · rw [hae]
        cases hbad : bad k (addN (mineY y legs k)) with
        | true =>
          have HR := Lib.hid (beh_bad hae hbad)
          have HC := Lib.hid (may_any wr k (addN (mineY y legs k)) false hbad)
          clear hbad hae
          generalize addN (mineY y legs k) = sn at *
          go_wp2_with fail
          refine HC.out.mono ?_
          rintro e w4 ⟨rfl, rfl⟩
          go_wp2_with fail
          go_ret2
          exact ⟨by rw [HR.out.1, HR.out.2]; rfl, HB.out⟩
        | false =>
          have HR := Lib.hid (beh_ok hae hbad)
          have HC := Lib.hid (may_any wr k (addN (mineY y legs k)) true hbad)
          clear hbad hae
          generalize addN (mineY y legs k) = sn at *
          go_wp2_with fail
          refine HC.out.mono ?_
          rintro e w4 ⟨rfl, rfl⟩
          go_wp2_with fail
          go_ret2
          exact ⟨by rw [HR.out.1, HR.out.2]; rfl, HB.out⟩
      · have HR := Lib.hid (beh_add hae)
        rw [HR.out.2.2.1, HR.out.2.2.2]
        clear hae
        go_wp2_with fail
        go_ret2
        exact ⟨by rw [HR.out.1, HR.out.2.1]; rfl, HB.out⟩
end Go.Proofs.Ytghglgodkknlnaa.Led
/- Ledger, the landed: a list of allocations cloned. -/
namespace Go.Proofs.Ytghglgodkknlnaa.Led
set_option maxRecDepth 100000
open Go.RowKit
open Go.Sort
open Kit
open Mon
open Tre
set_option linter.unusedVariables false
variable {w w' : World}

theorem run_nil (w : World) : (binOp .eql 23 (.slice none 0 0) (.slice none 0 0)).run Try.prog w = .ok (.bool true) w := by
  simp only [binOp]
  simp [run_equal_slice_nil w 23 53 none 0 0 Try.underlying23]
theorem run_some (w : World) (a : Addr) (n c : Nat) : (binOp .eql 23 (.slice (some a) n c) (.slice none 0 0)).run Try.prog w = .ok (.bool false) w := by
  simp only [binOp]
  simp [run_equal_slice_nil w 23 53 (some a) n c Try.underlying23]
set_option maxHeartbeats 4000000 in
theorem clone_any (W : World) (a : Option Addr) (n c : Nat) (al : List Al) (hA : Allocs W a n c al) (hn : n ≤ 100) :
    Calls Try.prog 37 #[.slice a n c] W fun e W' => ∃ v, e = .returned v ∧ Owns encL 6 53 W' W.heap.size v al ∧ Below W.heap.size W W' := by
  have HL := Lib.hid (And.intro hA hA.len)
  clear hA
  cases a with
  | none =>
    obtain ⟨rfl, rfl⟩ := HL.out.1.nil rfl
    have hal : al = [] := List.eq_nil_of_length_eq_zero HL.out.2
    have HN := Lib.hid hal
    clear hal
    go_enter Try.func37, Try.ntmps37
    have hrun := run_nil W
    go_wp2_with fail
    go_ret
    exact ⟨_, rfl, by rw [HN.out]; exact owns_nil _ _ _, Below.refl _ _⟩
  | some a =>
    obtain ⟨lx, hx⟩ : ∃ lx, lx = al := ⟨_, rfl⟩
    have hb2 := below_alloc W (.cells #[] 53)
    have HA1 := Lib.hid (own_empty_al W W.heap.size (Nat.le_refl _))
    have HA2 := Lib.hid (lst_keep encL_len HL.out.1 hb2)
    have HD1 := Lib.hid (show ([] : List Al).length + n ≤ maxLen by unfold maxLen; simp; omega)
    have HD2 := Lib.hid (show (([] : List Al).length + n) * 48 ≤ 140737488355328 by simp; omega)
    have HN := Lib.hid hb2
    have hrun := run_some W a n c
    clear hx hb2
    go_enter Try.func37, Try.ntmps37
    go_wp2_with (first | (at_builtin; refine Two.append_apart encL_len (by decide) encL_one rfl (.tmp 5) (.tmp 6) 23 53 rfl Try.underlying23 (.agg #[.int .i64 0, .int .i64 0, .int .i64 0, .int .i64 0, .int .i64 0, .int .i64 0]) 48 info_al rfl W.heap.size _ [] rfl HA1.out (some a) n c al rfl HL.out.2 HA2.out.row (fun h => by cases h) HD1.out HD2.out HN.out.size ?_; intro v9 w9 ho9 hg9 hx9; have HB9 := Lib.hid (HN.out.trans (Two.below_grown HA1.out hg9 HN.out.size)); have HO9 := Lib.hid ho9; clear ho9 hg9 hx9) | fail)
    go_ret
    exact ⟨_, rfl, HO9.out, HB9.out⟩
end Go.Proofs.Ytghglgodkknlnaa.Led
/- Ledger, the landed: what is wrong with legs, whatever is in their accounts. -/
namespace Go.Proofs.Ytghglgodkknlnaa.Led
set_option maxRecDepth 100000
open Go.RowKit
open Go.Sort
open Kit
open Mon
open Tre
set_option linter.unusedVariables false
variable {w w' : World}

set_option maxHeartbeats 8000000 in
theorem pre_any (W : World) (a : Option Addr) (n c : Nat) (a2 : Option Addr) (n2 c2 : Nat) (legs : List Lg) (hn : n ≤ 100) (hG : Legs W a2 n2 c2 legs) (hok : ∀ x ∈ legs, x.ok) (hn2 : n2 ≤ 100) :
    Calls Try.prog 36 #[.slice a n c, .slice a2 n2 c2] W fun e W' => e = .returned (.int .i64 (preE (1 + 3 * n) legs)) ∧ Below W.heap.size W W' := by
  have HG := Lib.hid (And.intro hG (And.intro hG.len hok))
  obtain ⟨m, hm⟩ : ∃ m, m = 1 + 3 * n := ⟨_, rfl⟩
  rw [← hm]
  have HM := Lib.hid hm
  clear hG hok hm
  go_enter Try.func36, Try.ntmps36
  go_wp2_with fail
  go_loopw [5, 12] (fun v i wr => ∃ k : Nat, k ≤ n2 ∧ i = .int .i64 (k : Nat) ∧ scanE m (legs.take k) = 0 ∧ OwI wr W.heap.size v (amts (legs.take k)) ∧ Below W.heap.size W wr) (fun _ i _ => n2 - (intOf i).toNat)
  case atStart => exact ⟨0, Nat.zero_le _, rfl, rfl, owns_nil _ _ _, Below.refl _ _⟩
  case round =>
    obtain ⟨k, hk, rfl, hsc, hown, hb⟩ := hrel
    have HO := Lib.hid (And.intro hsc (And.intro hown hb))
    clear hsc hown hb
    by_cases hlt : k < n2
    · have hkl : k < legs.length := by rw [HG.out.2.1]; exact hlt
      obtain ⟨b2, o2, rfl⟩ := lst_at HG.out.1 (by omega)
      have hget := List.getElem?_eq_getElem hkl
      obtain ⟨q0, q1⟩ := leg_cells (lst_keep encG_len HG.out.1 HO.out.2.2) hkl
      obtain ⟨s4, s3, s0⟩ := scan_at HO.out.1 hget
      have ham := amts_take hget
      generalize legs[k] = x at *
      obtain ⟨ac, am⟩ := x
      simp only at q0 q1 s4 s3 s0 ham
      have HX := Lib.hid (And.intro s4 (And.intro s3 (And.intro s0 ham)))
      have hb1 := below_alloc wr (.cells #[.int .i64 ac, .int .i64 am] 68)
      have HB1 := Lib.hid (below_keep HO.out.2.2 hb1)
      clear s4 s3 s0 ham hget
      by_cases hbd : ac < 0 ∨ (m : Int) ≤ ac
      · have HR := Lib.hid (pre_scan (HX.out.1 hbd) (by decide))
        have HC := Lib.hid (is_no (wr.alloc (.cells #[.int .i64 ac, .int .i64 am] 68)) a n c ac hn (by have := HM.out; omega))
        clear hbd
        go_wp2_with fail
        refine HC.out.mono ?_
        rintro e w1 ⟨rfl, rfl⟩
        go_wp2_with fail
        go_ret
        exact ⟨by rw [HR.out]; rfl, HB1.out⟩
      · have HC := Lib.hid (is_yes (wr.alloc (.cells #[.int .i64 ac, .int .i64 am] 68)) a n c ac hn (by omega) (by have := HM.out; omega))
        by_cases hz : am = 0
        · have HR := Lib.hid (pre_scan (HX.out.2.1 hbd hz) (by decide))
          subst hz
          clear hbd
          go_wp2_with fail
          refine HC.out.mono ?_
          rintro e w1 ⟨rfl, rfl⟩
          go_wp2_with fail
          go_ret
          exact ⟨by rw [HR.out]; rfl, HB1.out⟩
        · have HS := Lib.hid (HX.out.2.2.1 hbd hz)
          have hz2 : (am == 0) = false := beq_false_of_ne hz
          clear hbd hz
          have hlx : (amts (legs.take k)).length ≤ 100 := by
            unfold amts
            rw [List.length_map, List.length_take]; omega
          obtain ⟨lx, hx⟩ : ∃ y, y = amts (legs.take k) := ⟨_, rfl⟩
          rw [← hx] at HO HX hlx
          have hb2 := below_alloc (wr.alloc (.cells #[.int .i64 ac, .int .i64 am] 68)) (.cells #[.int .i64 am] 3)
          have HA1 := Lib.hid (own_chg' (own_chg' HO.out.2.1 hb1) hb2)
          have HA2 := Lib.hid (show Kit.Row encI 1 _ (some ⟨wr.heap.size + 1, 0, none⟩) [am] from row_new encI_len (wr.alloc (.cells #[.int .i64 ac, .int .i64 am] 68)) [am] #[.int .i64 am] 3 _ (by simp) rfl)
          have HA3 := Lib.hid (below_keep HB1.out hb2)
          have HD1 := Lib.hid (show lx.length + 1 ≤ maxLen by unfold maxLen; omega)
          have HD2 := Lib.hid (show (lx.length + 1) * 8 ≤ 140737488355328 by omega)
          clear hx hlx hb1 hb2
          go_wp2_with fail
          refine HC.out.mono ?_
          rintro e w1 ⟨rfl, rfl⟩
          go_wp2_with (first | (at_builtin; refine Two.append_apart encI_len Nat.zero_lt_one encI_one rfl (.tmp 24) (.tmp 27) 50 3 rfl Try.underlying50 (.int .i64 0) 8 info_i rfl W.heap.size _ lx rfl HA1.out (some ⟨wr.heap.size + 1, 0, none⟩) 1 1 [am] rfl rfl HA2.out (fun h => by cases h) HD1.out HD2.out HA3.out.size ?_; intro v9 w9 ho9 hg9 hx9; have HB9 := Lib.hid (HA3.out.trans (Two.below_grown HA1.out hg9 HA3.out.size)); have HO9 := Lib.hid ho9; clear ho9 hg9 hx9) | fail)
          go_roundw
          case rel => exact ⟨k + 1, by omega, by go_num, HS.out, by rw [HX.out.2.2.2]; exact HO9.out, HB9.out⟩
          case measure => simp [intOf]; omega
    · obtain rfl : n2 = k := by omega
      have htk : legs.take n2 = legs := List.take_of_length_le (by rw [HG.out.2.1]; exact Nat.le_refl _)
      rw [htk] at HO
      by_cases hmany : n2 < 1 ∨ 64 < n2
      · have HR := Lib.hid (pre_many HO.out.1 (by rw [HG.out.2.1]; exact hmany))
        have hor : n2 = 0 ∨ (((n2 : Int) == 0) = false ∧ (64 : Int) < (n2 : Int)) := by
          rcases hmany with h | h
          · exact .inl (by omega)
          · exact .inr ⟨beq_false_of_ne (by omega), by omega⟩
        clear hmany
        rcases hor with t1 | ⟨t1, t2⟩
        · subst t1
          go_wp2_with fail
          go_ret
          exact ⟨by rw [HR.out]; rfl, HO.out.2.2⟩
        · go_wp2_with fail
          go_ret
          exact ⟨by rw [HR.out]; rfl, HO.out.2.2⟩
      · have t1 : ((n2 : Int) == 0) = false := beq_false_of_ne (by omega)
        have t2 : ¬ (64 : Int) < (n2 : Int) := by omega
        have hmany2 : ¬ (legs.length < 1 ∨ 64 < legs.length) := by rw [HG.out.2.1]; exact hmany
        have HMany := Lib.hid hmany2
        clear hmany hmany2
        obtain ⟨a10, c10, rfl, g1', g2', g3', g4'⟩ := owns_row encI_len HO.out.2.1
        have hel : Elems wr a10 (amts legs) := ints_elems ⟨rfl, g1', g2', fun e => ⟨by have := g3' e; omega, g3' e⟩, g4'⟩
        have HE := Lib.hid (And.intro hel (show (amts legs).length ≤ maxLen from Nat.le_trans g1' g2'))
        obtain ⟨na, hna⟩ : ∃ na, na = (amts legs).length := ⟨_, rfl⟩
        rw [← hna]
        have HNa := Lib.hid hna
        have HB := Lib.hid (And.intro HO.out.1 HO.out.2.2)
        clear g1' g2' g3' g4' hel hna HO htk
        go_wp2_with fail
        refine (add_any a10 na c10 (amts legs) wr HNa.out.symm (by rw [HNa.out]; exact HE.out.2) HE.out.1).mono ?_
        rintro e w3 ⟨rfl, rfl⟩
        by_cases hae : addE (amts legs) = 0
        · by_cases han : addN (amts legs) = 0
          · have HR := Lib.hid (pre_ok HB.out.1 HMany.out hae han)
            rw [hae, han]
            clear hae han
            go_wp2_with fail
            go_ret
            exact ⟨by rw [HR.out]; rfl, HB.out.2⟩
          · have HR := Lib.hid (pre_sum HB.out.1 HMany.out hae han)
            rw [hae]
            have han2 : (addN (amts legs) == 0) = false := beq_false_of_ne han
            generalize addN (amts legs) = sn at *
            clear hae han
            go_wp2_with fail
            go_ret
            exact ⟨by rw [HR.out]; rfl, HB.out.2⟩
        · have HR := Lib.hid (pre_add HB.out.1 HMany.out hae)
          have he2 : addE (amts legs) = 2 := by
            rcases addE_two (amts legs) with h | h
            · exact absurd h hae
            · exact h
          rw [he2]
          clear hae he2
          go_wp2_with fail
          go_ret
          exact ⟨by rw [HR.out]; rfl, HB.out.2⟩
end Go.Proofs.Ytghglgodkknlnaa.Led
