/- Cons: ConsPlans, over any cons that does as it should. -/
import Derived.Test.YtckebhknnocpkaaConAwk
import Derived.Test.YtckebhknnocpkaaConPln
namespace Go.Proofs.Ytckebhknnocpkaa.Cns
set_option maxRecDepth 100000
open Go.RowKit
open Go.Sort
open Kit
open Tre (Lst inI lst_keep lst_take lst_at lst_new lst_none below_drewN' run_ld2 IntsL encI encI_len OwI int_cell ints_any)
open Prf (Bz newF Nd Tk Busys encZ encZ_len OwZ own_busys held held_may rheld_any)
open Esy (T9 okB Bools encO_len rbusy9_any busy9 busy9_may own_asks)
open Go.Proofs.Ytckebhknnocpkaa.Ord (Aq Asks encQ encQ_len ask_cells info_ask)
set_option linter.unusedVariables false
variable {w w' : World}

theorem own_nums {base : Nat} {v : Value} {l : List Int} (h : OwI w base v l) : ∃ a c, v = .slice a l.length c ∧ IntsL w a l.length c l := by
  obtain ⟨a, c, hv, hc, hm, hn, hrow⟩ := owns_row encI_len h
  exact ⟨a, c, hv, rfl, hc, hm, fun e => ⟨by have := hn e; omega, hn e⟩, hrow⟩
/-- The first from one on, looked for from the end. -/
def lastI (t : Int) (L : List Int) (j : Nat) : Int := match (firstAt t (L.drop j)).map (· + j) with | none => -1 | some k => (k : Nat)
theorem lastI_end (t : Int) (L : List Int) : lastI t L L.length = -1 := by
  unfold lastI
  rw [List.drop_length]; rfl
theorem lastI_step {t x : Int} {L : List Int} {j : Nat} (h : L[j]? = some x) : lastI t L j = if x = t then (j : Int) else lastI t L (j + 1) := by
  obtain ⟨hj, e⟩ := List.getElem?_eq_some_iff.1 h
  unfold lastI
  rw [List.drop_eq_getElem_cons hj, e, firstAt]
  by_cases hx : x = t
  · rw [if_pos hx, if_pos hx]; simp
  · rw [if_neg hx, if_neg hx]
    cases firstAt t (L.drop (j + 1)) with
    | none => rfl
    | some m => simp only [Option.map_some]; congr 1; omega
theorem lastI_bound {t : Int} {L : List Int} : ∀ j, -1 ≤ lastI t L j := by
  intro j
  unfold lastI
  split <;> omega
theorem next_last {now total : Int} {l : List Bz} {q : List Aq} {rf : List Bool} {L : List Int} (h : plan now total l q rf = L) :
    (nextB now total l q rf = false ∧ nextI now total l q rf = 0 ∧ lastI now L 0 = -1) ∨ (∃ m : Nat, nextB now total l q rf = true ∧ nextI now total l q rf = m ∧ lastI now L 0 = m) := by
  unfold nextB nextI lastI
  rw [h, List.drop_zero]
  cases firstAt now L with
  | none => exact .inl ⟨rfl, rfl, rfl⟩
  | some m => exact .inr ⟨m, rfl, rfl, rfl⟩
set_option maxHeartbeats 16000000 in
theorem plans_any (hP : Prog) (W : World) (now total : Int) (ab : Option Addr) (n cb : Nat) (l : List Bz) (a3 : Option Addr) (n3 c3 : Nat) (q : List Aq) (a4 : Option Addr) (n4 c4 : Nat) (rf : List Bool) (h : Busys W ab n cb l) (hq : Asks W a3 n3 c3 q) (hr : Bools W a4 n4 c4 rf) :
    Calls Try.prog 3 #[.int .i64 now, .int .i64 total, .slice ab n cb, .slice a3 n3 c3, .slice a4 n4 c4] W fun e w' => e = .returned (.bool true) ∧ Below W.heap.size W w' := by
  have HP := Lib.hid hP
  have HL := Lib.hid (And.intro h (And.intro hq hr))
  obtain ⟨t, ht⟩ : ∃ t, t = held now 562949953421312 := ⟨_, rfl⟩
  have HT := Lib.hid (And.intro ht (show T9 t by rw [ht]; exact held_may (by omega)))
  obtain ⟨al, hal⟩ : ∃ al, al = held total 1048576 := ⟨_, rfl⟩
  have HAl := Lib.hid (And.intro hal (show Nd al by rw [hal]; exact held_may (by omega)))
  have HW := Lib.hid (Below.refl W.heap.size W)
  clear hP h hq hr ht hal
  go_enter Try.func3, Try.ntmps3
  go_wp2_with fail
  refine (rheld_any now 562949953421312 W).mono ?_
  rintro e w1 ⟨rfl, hb⟩
  rw [← HT.out.1]
  have H1 := Lib.hid (below_keep HW.out hb)
  clear hb
  go_wp2_with fail
  refine (rheld_any total 1048576 w1).mono ?_
  rintro e w2 ⟨rfl, hb⟩
  rw [← HAl.out.1]
  have H2 := Lib.hid (below_keep H1.out hb)
  clear hb
  have HC0 := Lib.hid (rbusy9_any w2 ab n cb l (lst_keep encZ_len HL.out.1 H2.out))
  have HM := Lib.hid (busy9_may (l := l))
  obtain ⟨lb, hlb⟩ : ∃ lb, lb = busy9 l := ⟨_, rfl⟩
  rw [← hlb] at HC0 HM
  obtain ⟨nb, hnb⟩ : ∃ nb, nb = lb.length := ⟨_, rfl⟩
  have HNb := Lib.hid hnb
  clear hlb hnb
  go_wp2_with fail
  refine HC0.out.mono ?_
  rintro e w3 ⟨v3, rfl, ho3, hb3⟩
  obtain ⟨a5, c5, rfl, l5⟩ := own_busys ho3
  rw [← HNb.out] at l5 ⊢
  have H3 := Lib.hid (And.intro (below_keep H2.out hb3) l5)
  have HC1 := Lib.hid (rasksW_any w3 a3 n3 c3 q (lst_keep encQ_len HL.out.2.1 H3.out.1))
  have HMq := Lib.hid (asksW_may (l := q))
  obtain ⟨qb, hqb⟩ : ∃ qb, qb = asksW q := ⟨_, rfl⟩
  rw [← hqb] at HC1 HMq
  obtain ⟨mb, hmb⟩ : ∃ mb, mb = qb.length := ⟨_, rfl⟩
  have HMb := Lib.hid hmb
  clear hqb hmb hb3 ho3 l5 HC0
  go_wp2_with fail
  refine HC1.out.mono ?_
  rintro e w4 ⟨v4, rfl, ho4, hb4⟩
  obtain ⟨a6, c6, rfl, l6⟩ := own_asks ho4
  rw [← HMb.out] at l6 ⊢
  have H4 := Lib.hid (And.intro (below_keep H3.out.1 hb4) (And.intro (lst_keep encZ_len H3.out.2 hb4) l6))
  clear hb4 ho4 l6 HC1
  have HnA := Lib.hid (show nb ≤ 100 ∧ mb ≤ 100 by have := HM.out.2; have := HMq.out.2; have := HNb.out; have := HMb.out; omega)
  have HBs := Lib.hid (fun w (hb : Below W.heap.size W w) => lst_keep encO_len HL.out.2.2 hb)
  have HoD := Lib.hid (show ∀ b ∈ lb, okD b from fun b hb => ⟨(HM.out.1 b hb).1, (HM.out.1 b hb).2.2⟩)
  have HC2 := Lib.hid (rplan_any w4 t al a5 nb c5 lb a6 mb c6 qb a4 n4 c4 rf HT.out.2 HAl.out.2 H4.out.2.1 HoD.out HnA.out.1 H4.out.2.2 HMq.out.1 HnA.out.2 (HBs.out w4 H4.out.1))
  obtain ⟨L, hL⟩ : ∃ L, plan t al lb qb rf = L := ⟨_, rfl⟩
  have hLl : L.length = mb := by rw [← hL, plan_len]; exact HMb.out.symm
  have hmb1000 : mb ≤ 1000 := by have := HnA.out.2; omega
  rw [hL] at HC2
  have HLl := Lib.hid (And.intro hL hLl)
  have HNx := Lib.hid (next_last hL)
  clear hL hLl
  go_wp2_with fail
  refine HC2.out.mono ?_
  rintro e w5 ⟨v5, rfl, ho5, hb5⟩
  obtain ⟨a7, c7, rfl, l7⟩ := own_nums ho5
  rw [HLl.out.2] at l7 ⊢
  have H5 := Lib.hid (And.intro (below_keep H4.out.1 hb5) (And.intro (lst_keep encZ_len H4.out.2.1 hb5) (And.intro (lst_keep encQ_len H4.out.2.2 hb5) l7)))
  have HC3 := Lib.hid (HP.out.next w5 t al a5 nb c5 lb a6 mb c6 qb a4 n4 c4 rf HT.out.2 HAl.out.2 H5.out.2.1 HoD.out HnA.out.1 H5.out.2.2.1 (fun x hx => HMq.out.1 x hx) HnA.out.2 (HBs.out w5 H5.out.1))
  obtain ⟨ni, hni⟩ : ∃ ni, ni = nextI t al lb qb rf := ⟨_, rfl⟩
  obtain ⟨nk, hnk⟩ : ∃ nk, nk = nextB t al lb qb rf := ⟨_, rfl⟩
  rw [← hni, ← hnk] at HC3 HNx
  clear hni hnk ho5 hb5 l7 HC2
  go_wp2_with fail
  refine HC3.out.mono ?_
  rintro e w6 ⟨rfl, hb6⟩
  have H6 := Lib.hid (And.intro (below_keep H5.out.1 hb6) (And.intro (lst_keep encZ_len H5.out.2.1 hb6) (And.intro (lst_keep encQ_len H5.out.2.2.1 hb6) (lst_keep encI_len H5.out.2.2.2 hb6))))
  have HC4 := Lib.hid (fun w (hb : Below w6.heap.size w6 w) => plan_is HP.out w t al a5 nb c5 lb a6 mb c6 qb a4 n4 c4 rf L HLl.out.1 mb HLl.out.2 HT.out.2 HAl.out.2 (lst_keep encZ_len H6.out.2.1 hb) HoD.out HnA.out.1 (lst_keep encQ_len H6.out.2.2.1 hb) (fun x hx => HMq.out.1 x hx) HnA.out.2 (HBs.out w (below_keep H6.out.1 hb)))
  clear hb6 HC3
  go_wp2_with fail
  go_loopw [18, 19] (fun fv iv wr => ∃ j : Nat, j ≤ mb ∧ iv = .int .i64 ((j : Int) - 1) ∧ fv = .int .i64 (lastI t L j) ∧ Below w6.heap.size w6 wr) (fun _ iv _ => (intOf iv + 1).toNat)
  case atStart => exact ⟨mb, Nat.le_refl _, rfl, by rw [← HLl.out.2, lastI_end], Below.refl _ _⟩
  case round =>
    obtain ⟨j, hj, rfl, rfl, hb⟩ := hrel
    have HB := Lib.hid hb
    clear hb
    rcases j with _ | j
    · rw [show ((0 : Nat) : Int) - 1 = -1 from rfl]
      have HCa := Lib.hid (awake_any HP.out wr)
      rcases HNx.out with ⟨rfl, rfl, hl⟩ | ⟨m, rfl, rfl, hl⟩
      all_goals
        rw [hl]
        clear hl
        go_wp2_with fail
        refine HCa.out.mono ?_
        rintro e w7 ⟨rfl, hb7⟩
        have H7 := Lib.hid (below_keep HB.out hb7)
        have HC5 := Lib.hid (HC4.out w7 H7.out)
        clear hb7 HCa
        go_wp2_with fail
        refine HC5.out.mono ?_
        rintro e w8 ⟨a8, c8, rfl, i8, hb8⟩
        have H8 := Lib.hid (below_keep H7.out hb8)
        have HC6 := Lib.hid (ints_any a8 a7 mb c8 mb c7 L L w8 i8 (lst_keep encI_len H6.out.2.2.2 H8.out))
        rw [decide_eq_true rfl] at HC6
        clear hb8 i8 HC5
        go_wp2_with fail
        refine HC6.out.mono ?_
        rintro e w9 ⟨rfl, hb9⟩
        have H9 := Lib.hid (below_keep H6.out.1 (below_keep H8.out hb9))
        clear hb9 HC6
        go_wp2_with fail
        go_ret
        exact ⟨by first | rfl | exact ret_bool (by simp), H9.out⟩
    · rw [show ((j + 1 : Nat) : Int) - 1 = (j : Int) by omega]
      have hjl : j < L.length := by rw [HLl.out.2]; omega
      have hji : (j : Int) < (mb : Int) := by omega
      obtain ⟨b7, o7, rfl⟩ := lst_at H6.out.2.2.2 (by omega)
      have qc := int_cell (lst_keep encI_len H6.out.2.2.2 HB.out) hjl
      have hls := lastI_step (t := t) (List.getElem?_eq_getElem hjl)
      generalize L[j] = y at *
      have hbd := lastI_bound (t := t) (L := L) (j + 1)
      obtain ⟨lv, hlv⟩ : ∃ lv, lv = lastI t L (j + 1) := ⟨_, rfl⟩
      rw [← hlv] at hls hbd ⊢
      have HLs := Lib.hid hls
      clear hlv hls
      by_cases hy : y = t
      · have HN := Lib.hid (show lastI t L j = (j : Int) by rw [HLs.out, if_pos hy])
        have hyb : (y == t) = true := by rw [hy]; simp
        clear hy
        go_wp2_with fail
        go_roundw
        case rel => exact ⟨j, by omega, by go_num, by rw [HN.out], HB.out⟩
        case measure => first | (simp [intOf]; done) | (simp [intOf]; omega)
      · have HN := Lib.hid (show lastI t L j = lv by rw [HLs.out, if_neg hy])
        go_wp2_with fail
        go_roundw
        case rel => exact ⟨j, by omega, by go_num, by rw [HN.out], HB.out⟩
        case measure => first | (simp [intOf]; done) | (simp [intOf]; omega)
end Go.Proofs.Ytckebhknnocpkaa.Cns
