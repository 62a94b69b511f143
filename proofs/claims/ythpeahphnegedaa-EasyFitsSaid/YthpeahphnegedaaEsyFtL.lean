/- Easy: EasyFits, over any easy that does as it should. -/
import Derived.Test.YthpeahphnegedaaEsyNxL
namespace Go.Proofs.Ythpeahphnegedaa.Esy
set_option maxRecDepth 100000
open Go.RowKit
open Go.Sort
open Kit
open Tre (Lst inI lst_keep lst_take lst_at lst_new lst_none below_drewN' run_ld2)
open Prf (Bz newF Nd Tk Busys encZ encZ_len OwZ own_busys held held_may rheld_any busyN busy_take busy_cells busy_bound)
open Go.Proofs.Ythpeahphnegedaa.Ord (Aq Asks encQ encQ_len ask_cells info_ask)
set_option linter.unusedVariables false
variable {w w' : World}

theorem next_one {now total : Int} {l : List Bz} {x : Aq} (h : newF total l now ≤ total) : nextI now total l [x] [] = 0 ∧ nextB now total l [x] [] = decide (x.nodes ≤ newF total l now) := by
  unfold nextI nextB next
  rw [go_cons]
  by_cases h1 : total < x.nodes
  · rw [if_pos (.inr h1)]
    exact ⟨rfl, (decide_eq_false (by omega)).symm⟩
  · have n2 : ¬ (([] : List Bool).headD false = true ∨ total < x.nodes) := by simpa using h1
    rw [if_neg n2]
    by_cases h2 : newF total l now < x.nodes
    · rw [if_pos h2]
      exact ⟨rfl, (decide_eq_false (by omega)).symm⟩
    · rw [if_neg h2, if_pos (show mayB now total l none x = true from rfl)]
      exact ⟨rfl, (decide_eq_true (by omega)).symm⟩
set_option maxHeartbeats 16000000 in
theorem fits_any (hP : Prog) (W : World) (tot8 : Int) (ab : Option Addr) (n cb : Nat) (l : List Bz) (a3 : Option Addr) (n3 c3 : Nat) (q : List Aq) (a4 : Option Addr) (n4 c4 : Nat) (rf : List Bool) (an aw : Int) (h0 : 0 ≤ tot8 ∧ tot8 ≤ 255) (h : Busys W ab n cb l) (hq : Asks W a3 n3 c3 q) (hr : Bools W a4 n4 c4 rf) :
    Calls Try.prog 4 #[.int .u8 tot8, .slice ab n cb, .slice a3 n3 c3, .slice a4 n4 c4, .agg #[.int .i64 an, .int .i64 aw]] W fun e w' => e = .returned (.bool true) ∧ Below W.heap.size W w' := by
  have HP := Lib.hid hP
  have HL := Lib.hid (And.intro h (And.intro hq hr))
  obtain ⟨h00, h01⟩ := h0
  have t0 : 0 ≤ tot8 % 40 := Int.emod_nonneg _ (by omega)
  have t1 : tot8 % 40 ≤ 39 := by have := Int.emod_lt_of_pos tot8 (show (0 : Int) < 40 by omega); omega
  obtain ⟨W0, hW0⟩ : ∃ x, x = W.alloc (.cells #[.int .i64 an, .int .i64 aw] 35) := ⟨_, rfl⟩
  have b0 : Below W.heap.size W W0 := by rw [hW0]; exact below_alloc _ _
  have l0 : Asks W0 (some ⟨W.heap.size, 0, none⟩) 1 1 [⟨an, aw⟩] := by rw [hW0]; exact lst_new encQ_len W [⟨an, aw⟩] _ _ _ 1 rfl rfl rfl (by omega)
  have s0 := ask_cells l0 (k := 0) (by simp)
  simp only [Nat.zero_mul, Nat.add_zero, List.getElem_cons_zero, Nat.zero_add] at s0
  have HW := Lib.hid (And.intro b0 s0)
  have HC0 := Lib.hid (rbusy9_any W0 ab n cb l (lst_keep encZ_len HL.out.1 b0))
  have HM := Lib.hid (busy9_may (l := l))
  obtain ⟨lb, hlb⟩ : ∃ lb, lb = busy9 l := ⟨_, rfl⟩
  rw [← hlb] at HC0 HM
  obtain ⟨nb, hnb⟩ : ∃ nb, nb = lb.length := ⟨_, rfl⟩
  have HNb := Lib.hid hnb
  have hnb40 : nb ≤ 40 := by rw [hnb]; exact HM.out.2
  have HBd := Lib.hid (fun k (hk : k ≤ 1000) => busy_bound (l := lb) (fun b hb => (HM.out.1 b hb).2) k hk 0)
  rw [hW0] at HW HC0
  clear hP h hq hr hlb hnb b0 l0 s0 hW0
  clear W0
  go_enter Try.func4, Try.ntmps4
  go_wp2_with fail
  refine HC0.out.mono ?_
  rintro e w3 ⟨v3, rfl, ho3, hb3⟩
  obtain ⟨a5, c5, rfl, l5⟩ := own_busys ho3
  rw [← HNb.out] at l5 ⊢
  have H3 := Lib.hid (And.intro (below_keep HW.out.1 hb3) (And.intro l5 (And.intro (cell_keep hb3 HW.out.2.1) (cell_keep hb3 HW.out.2.2))))
  have HC1 := Lib.hid (rasks_any w3 a3 n3 c3 q (lst_keep encQ_len HL.out.2.1 H3.out.1))
  have HMq := Lib.hid (asksH_may (l := q))
  obtain ⟨qb, hqb⟩ : ∃ qb, qb = asksH q := ⟨_, rfl⟩
  rw [← hqb] at HC1 HMq
  obtain ⟨mb, hmb⟩ : ∃ mb, mb = qb.length := ⟨_, rfl⟩
  have HMb := Lib.hid hmb
  have hmb100 : mb ≤ 100 := by have := HMq.out.2; omega
  clear hqb hmb hb3 ho3 l5 HC0 HW
  go_wp2_with fail
  refine HC1.out.mono ?_
  rintro e w4 ⟨v4, rfl, ho4, hb4⟩
  obtain ⟨a6, c6, rfl, l6⟩ := own_asks ho4
  rw [← HMb.out] at l6 ⊢
  have H4 := Lib.hid (And.intro (below_keep H3.out.1 hb4) (And.intro (lst_keep encZ_len H3.out.2.1 hb4) (And.intro l6 (And.intro (cell_keep hb4 H3.out.2.2.1) (cell_keep hb4 H3.out.2.2.2)))))
  clear hb4 ho4 l6 HC1 H3
  go_wp2_with fail
  go_loopw [14, 15] (fun v i wr => ∃ k : Nat, k ≤ nb ∧ i = .int .i64 (k : Nat) ∧ v = .int .i64 (busyN (lb.take k) 0) ∧ Below w4.heap.size w4 wr) (fun _ i _ => nb - (intOf i).toNat)
  case atStart => exact ⟨0, Nat.zero_le _, rfl, by simp [busyN], Below.refl _ _⟩
  case round =>
    obtain ⟨k, hk, rfl, rfl, hb⟩ := hrel
    have HB := Lib.hid hb
    clear hb
    by_cases hlt : k < nb
    · have hlti : (k : Int) < (nb : Int) := by omega
      have hkl : k < lb.length := by rw [← HNb.out]; exact hlt
      obtain ⟨b1, o1, rfl⟩ := lst_at H4.out.2.1 (by omega)
      obtain ⟨q0, q1⟩ := busy_cells (lst_keep encZ_len H4.out.2.1 HB.out) hkl
      have hmt := busy_take 0 (List.getElem?_eq_getElem hkl)
      have hma := (HM.out.1 _ (List.getElem_mem hkl)).2.2
      obtain ⟨g0, g1⟩ := HBd.out k (by omega)
      generalize lb[k] = xy at *
      obtain ⟨x, y⟩ := xy
      simp only at q0 q1 hmt hma
      obtain ⟨y0, y1⟩ := hma
      by_cases htx : 0 < x
      · have HMt := Lib.hid (show busyN (lb.take (k + 1)) 0 = busyN (lb.take k) 0 + y by rw [hmt, if_pos htx])
        clear hmt
        obtain ⟨z, hz⟩ : ∃ z, z = busyN (lb.take k) 0 := ⟨_, rfl⟩
        rw [← hz] at HMt g0 g1 ⊢
        clear hz
        go_wp2_with fail
        go_roundw
        case rel => exact ⟨k + 1, by omega, by go_num, by rw [HMt.out], HB.out⟩
        case measure => simp [intOf]; omega
      · have HMt := Lib.hid (show busyN (lb.take (k + 1)) 0 = busyN (lb.take k) 0 by rw [hmt, if_neg htx]; omega)
        clear hmt
        obtain ⟨z, hz⟩ : ∃ z, z = busyN (lb.take k) 0 := ⟨_, rfl⟩
        rw [← hz] at HMt g0 g1 ⊢
        clear hz
        go_wp2_with fail
        go_roundw
        case rel => exact ⟨k + 1, by omega, by go_num, by rw [HMt.out], HB.out⟩
        case measure => simp [intOf]; omega
    · obtain rfl : k = nb := by omega
      have hni : ¬ (k : Int) < (k : Int) := by omega
      have htk : lb.take k = lb := List.take_of_length_le (by rw [← HNb.out]; exact Nat.le_refl _)
      obtain ⟨g0, g1⟩ := HBd.out k (by omega)
      rw [htk] at g0 g1 ⊢
      have HFr := Lib.hid (show newF (tot8 % 40) lb 0 = tot8 % 40 - busyN lb 0 from rfl)
      obtain ⟨bz, hbz⟩ : ∃ bz, bz = busyN lb 0 := ⟨_, rfl⟩
      rw [← hbz] at g0 g1 HFr ⊢
      clear htk hbz
      have H5 := Lib.hid (And.intro (below_keep H4.out.1 HB.out) (And.intro (lst_keep encZ_len H4.out.2.1 HB.out) (And.intro (lst_keep encQ_len H4.out.2.2.1 HB.out) (And.intro (cell_keep HB.out H4.out.2.2.2.1) (cell_keep HB.out H4.out.2.2.2.2)))))
      have HC2 := Lib.hid (HP.out.next wr 0 (tot8 % 40) a5 k c5 lb a6 mb c6 qb a4 n4 c4 rf ⟨by omega, by omega⟩ ⟨by omega, by omega⟩ H5.out.2.1 (fun b hb => (HM.out.1 b hb).2) (by omega) H5.out.2.2.1 HMq.out.1 hmb100 (lst_keep encO_len HL.out.2.2 H5.out.1))
      rcases hnx : next 0 (tot8 % 40) lb qb rf with _ | j
      · have hni2 : nextI 0 (tot8 % 40) lb qb rf = 0 := by rw [nextI, hnx]
        have hnk2 : nextB 0 (tot8 % 40) lb qb rf = false := by rw [nextB, hnx]; rfl
        rw [hni2, hnk2] at HC2
        clear hnx hni2 hnk2
        go_wp2_with fail
        refine HC2.out.mono ?_
        rintro e w5 ⟨rfl, hb5⟩
        have H6 := Lib.hid (And.intro (below_keep H5.out.1 hb5) (And.intro (lst_keep encZ_len H5.out.2.1 hb5) (And.intro (cell_keep hb5 H5.out.2.2.2.1) (cell_keep hb5 H5.out.2.2.2.2))))
        clear hb5 HC2
        obtain ⟨s0, s1⟩ := H6.out.2.2
        have ba := below_alloc w5 (.cells #[.int .i64 an, .int .i64 aw] 35)
        have HQ1 := Lib.hid (rasks_any (w5.alloc (.cells #[.int .i64 an, .int .i64 aw] 35)) _ 1 1 [⟨an, aw⟩] (lst_new encQ_len w5 [⟨an, aw⟩] _ _ _ 1 rfl rfl rfl (by omega)))
        have H7 := Lib.hid (And.intro (below_keep H6.out.1 ba) (lst_keep encZ_len H6.out.2.1 ba))
        clear ba
        go_wp2_with fail
        refine HQ1.out.mono ?_
        rintro e w6 ⟨v6, rfl, ho6, hb6⟩
        obtain ⟨a7, c7, rfl, l7⟩ := own_asks (show OwQ w6 _ v6 [heldQ ⟨an, aw⟩] from ho6)
        have hyok := asksH_may.1 (heldQ ⟨an, aw⟩) (show heldQ ⟨an, aw⟩ ∈ asksH [⟨an, aw⟩] from List.mem_singleton.2 rfl)
        rw [show ([heldQ ⟨an, aw⟩] : List Aq).length = 1 from rfl] at l7 ⊢
        obtain ⟨y, hy⟩ : ∃ y, y = heldQ ⟨an, aw⟩ := ⟨_, rfl⟩
        rw [← hy] at l7 hyok
        have H8 := Lib.hid (And.intro (below_keep H7.out.1 hb6) (And.intro (lst_keep encZ_len H7.out.2 hb6) l7))
        have HYo := Lib.hid hyok
        have hone := next_one (now := 0) (total := tot8 % 40) (l := lb) (x := y) (by rw [HFr.out]; omega)
        rw [HFr.out] at hone
        obtain ⟨yn, hyn⟩ : ∃ yn, yn = y.nodes := ⟨_, rfl⟩
        have HC3 := Lib.hid (HP.out.next w6 0 (tot8 % 40) a5 k c5 lb a7 1 c7 [y] none 0 0 [] ⟨by omega, by omega⟩ ⟨by omega, by omega⟩ H8.out.2.1 (fun b hb => (HM.out.1 b hb).2) (by omega) H8.out.2.2 (fun x hx => by rw [List.mem_singleton] at hx; rw [hx]; exact HYo.out) (by omega) (lst_none _ _ _))
        rw [hone.1, hone.2, ← hyn] at HC3
        obtain ⟨b7, o7, rfl⟩ := lst_at l7 (by omega)
        have HCy := Lib.hid (fun w (hb : Below w6.heap.size w6 w) => show w.cell? ⟨b7, o7, none⟩ = some (.int .i64 yn) by
          have := (ask_cells (lst_keep encQ_len H8.out.2.2 hb) (k := 0) (by simp)).1
          rw [Nat.zero_mul, Nat.add_zero] at this
          rw [hyn]
          exact this)
        clear hy l7 hyok ho6 hb6 hone HQ1 s0 s1 hyn
        go_wp2_with fail
        refine HC3.out.mono ?_
        rintro e w7 ⟨rfl, hb7⟩
        have H9 := Lib.hid (below_keep H8.out.1 hb7)
        have HB7 := Lib.hid hb7
        have HC4 := Lib.hid (awake_any HP.out w7)
        clear hb7 HC3
        go_wp2_with fail
        refine HC4.out.mono ?_
        rintro e w8 ⟨rfl, hb8⟩
        have H10 := Lib.hid (below_keep H9.out hb8)
        have y0 := HCy.out w8 (below_keep HB7.out hb8)
        clear hb8 HC4
        go_wp2_with fail
        go_ret
        exact ⟨by first | rfl | exact ret_bool (by simp), H10.out⟩
      · have hni2 : nextI 0 (tot8 % 40) lb qb rf = (j : Nat) := by rw [nextI, hnx]
        have hnk2 : nextB 0 (tot8 % 40) lb qb rf = true := by rw [nextB, hnx]; rfl
        rw [hni2, hnk2] at HC2
        obtain ⟨x, hx, hrf, hxf⟩ := go_ok hnx
        rw [HFr.out] at hxf
        obtain ⟨hjq, hxe⟩ := List.getElem?_eq_some_iff.1 hx
        have hjm : j < mb := by rw [HMb.out]; exact hjq
        have hjmi : (j : Int) < (mb : Int) := by omega
        have hj0 : ¬ (j : Int) < 0 := by omega
        have hjge : ¬ (mb : Int) ≤ (j : Int) := by omega
        obtain ⟨b6, o6, rfl⟩ := lst_at H5.out.2.2.1 (by omega)
        obtain ⟨xn, hxn⟩ : ∃ xn, xn = x.nodes := ⟨_, rfl⟩
        have hxi := HMq.out.1 x (List.mem_of_getElem? hx)
        obtain ⟨⟨i0, i1⟩, -⟩ := hxi
        rw [← hxn] at hxf i0 i1
        have HCl := Lib.hid (fun w (hb : Below wr.heap.size wr w) => show w.cell? ⟨b6, o6 + j * 2, none⟩ = some (.int .i64 xn) by
          have := (ask_cells (lst_keep encQ_len H5.out.2.2.1 hb) hjq).1
          rw [hxe, ← hxn] at this
          exact this)
        have hgt : ¬ tot8 % 40 - bz < xn := by omega
        have HRf := Lib.hid hrf
        clear hnx hni2 hnk2 hx hrf hxe hxn hxf
        go_wp2_with fail
        refine HC2.out.mono ?_
        rintro e w5 ⟨rfl, hb5⟩
        have H6 := Lib.hid (And.intro (below_keep H5.out.1 hb5) (And.intro (lst_keep encZ_len H5.out.2.1 hb5) (And.intro (cell_keep hb5 H5.out.2.2.2.1) (cell_keep hb5 H5.out.2.2.2.2))))
        have q6 := HCl.out w5 hb5
        have HO6 := Lib.hid (lst_keep encO_len (lst_keep encO_len HL.out.2.2 H5.out.1) hb5)
        clear hb5 HC2
        by_cases hj4 : j < n4
        · have hj4i : (j : Int) < (n4 : Int) := by omega
          obtain ⟨b4, o4, rfl⟩ := lst_at HO6.out (by omega)
          have r6 := bool_cell HO6.out (show j < rf.length by rw [HO6.out.len]; exact hj4)
          have hgd : rf[j]'(by rw [HO6.out.len]; exact hj4) = false := by
            have := HRf.out
            rw [List.getD_eq_getElem?_getD, List.getElem?_eq_getElem (by rw [HO6.out.len]; exact hj4)] at this
            exact this
          rw [hgd] at r6
          clear hgd
          obtain ⟨s0, s1⟩ := H6.out.2.2
          have ba := below_alloc w5 (.cells #[.int .i64 an, .int .i64 aw] 35)
          have HQ1 := Lib.hid (rasks_any (w5.alloc (.cells #[.int .i64 an, .int .i64 aw] 35)) _ 1 1 [⟨an, aw⟩] (lst_new encQ_len w5 [⟨an, aw⟩] _ _ _ 1 rfl rfl rfl (by omega)))
          have H7 := Lib.hid (And.intro (below_keep H6.out.1 ba) (lst_keep encZ_len H6.out.2.1 ba))
          clear ba
          go_wp2_with fail
          refine HQ1.out.mono ?_
          rintro e w6 ⟨v6, rfl, ho6, hb6⟩
          obtain ⟨a7, c7, rfl, l7⟩ := own_asks (show OwQ w6 _ v6 [heldQ ⟨an, aw⟩] from ho6)
          have hyok := asksH_may.1 (heldQ ⟨an, aw⟩) (show heldQ ⟨an, aw⟩ ∈ asksH [⟨an, aw⟩] from List.mem_singleton.2 rfl)
          rw [show ([heldQ ⟨an, aw⟩] : List Aq).length = 1 from rfl] at l7 ⊢
          obtain ⟨y, hy⟩ : ∃ y, y = heldQ ⟨an, aw⟩ := ⟨_, rfl⟩
          rw [← hy] at l7 hyok
          have H8 := Lib.hid (And.intro (below_keep H7.out.1 hb6) (And.intro (lst_keep encZ_len H7.out.2 hb6) l7))
          have HYo := Lib.hid hyok
          have hone := next_one (now := 0) (total := tot8 % 40) (l := lb) (x := y) (by rw [HFr.out]; omega)
          rw [HFr.out] at hone
          obtain ⟨yn, hyn⟩ : ∃ yn, yn = y.nodes := ⟨_, rfl⟩
          have HC3 := Lib.hid (HP.out.next w6 0 (tot8 % 40) a5 k c5 lb a7 1 c7 [y] none 0 0 [] ⟨by omega, by omega⟩ ⟨by omega, by omega⟩ H8.out.2.1 (fun b hb => (HM.out.1 b hb).2) (by omega) H8.out.2.2 (fun x hx => by rw [List.mem_singleton] at hx; rw [hx]; exact HYo.out) (by omega) (lst_none _ _ _))
          rw [hone.1, hone.2, ← hyn] at HC3
          obtain ⟨b7, o7, rfl⟩ := lst_at l7 (by omega)
          have HCy := Lib.hid (fun w (hb : Below w6.heap.size w6 w) => show w.cell? ⟨b7, o7, none⟩ = some (.int .i64 yn) by
            have := (ask_cells (lst_keep encQ_len H8.out.2.2 hb) (k := 0) (by simp)).1
            rw [Nat.zero_mul, Nat.add_zero] at this
            rw [hyn]
            exact this)
          clear hy l7 hyok ho6 hb6 hone HQ1 s0 s1 hyn
          go_wp2_with fail
          refine HC3.out.mono ?_
          rintro e w7 ⟨rfl, hb7⟩
          have H9 := Lib.hid (below_keep H8.out.1 hb7)
          have HB7 := Lib.hid hb7
          have HC4 := Lib.hid (awake_any HP.out w7)
          clear hb7 HC3
          go_wp2_with fail
          refine HC4.out.mono ?_
          rintro e w8 ⟨rfl, hb8⟩
          have H10 := Lib.hid (below_keep H9.out hb8)
          have y0 := HCy.out w8 (below_keep HB7.out hb8)
          clear hb8 HC4
          go_wp2_with fail
          go_ret
          exact ⟨by first | rfl | exact ret_bool (by simp), H10.out⟩
        · have hj4i : ¬ (j : Int) < (n4 : Int) := by omega
          obtain ⟨s0, s1⟩ := H6.out.2.2
          have ba := below_alloc w5 (.cells #[.int .i64 an, .int .i64 aw] 35)
          have HQ1 := Lib.hid (rasks_any (w5.alloc (.cells #[.int .i64 an, .int .i64 aw] 35)) _ 1 1 [⟨an, aw⟩] (lst_new encQ_len w5 [⟨an, aw⟩] _ _ _ 1 rfl rfl rfl (by omega)))
          have H7 := Lib.hid (And.intro (below_keep H6.out.1 ba) (lst_keep encZ_len H6.out.2.1 ba))
          clear ba
          go_wp2_with fail
          refine HQ1.out.mono ?_
          rintro e w6 ⟨v6, rfl, ho6, hb6⟩
          obtain ⟨a7, c7, rfl, l7⟩ := own_asks (show OwQ w6 _ v6 [heldQ ⟨an, aw⟩] from ho6)
          have hyok := asksH_may.1 (heldQ ⟨an, aw⟩) (show heldQ ⟨an, aw⟩ ∈ asksH [⟨an, aw⟩] from List.mem_singleton.2 rfl)
          rw [show ([heldQ ⟨an, aw⟩] : List Aq).length = 1 from rfl] at l7 ⊢
          obtain ⟨y, hy⟩ : ∃ y, y = heldQ ⟨an, aw⟩ := ⟨_, rfl⟩
          rw [← hy] at l7 hyok
          have H8 := Lib.hid (And.intro (below_keep H7.out.1 hb6) (And.intro (lst_keep encZ_len H7.out.2 hb6) l7))
          have HYo := Lib.hid hyok
          have hone := next_one (now := 0) (total := tot8 % 40) (l := lb) (x := y) (by rw [HFr.out]; omega)
          rw [HFr.out] at hone
          obtain ⟨yn, hyn⟩ : ∃ yn, yn = y.nodes := ⟨_, rfl⟩
          have HC3 := Lib.hid (HP.out.next w6 0 (tot8 % 40) a5 k c5 lb a7 1 c7 [y] none 0 0 [] ⟨by omega, by omega⟩ ⟨by omega, by omega⟩ H8.out.2.1 (fun b hb => (HM.out.1 b hb).2) (by omega) H8.out.2.2 (fun x hx => by rw [List.mem_singleton] at hx; rw [hx]; exact HYo.out) (by omega) (lst_none _ _ _))
          rw [hone.1, hone.2, ← hyn] at HC3
          obtain ⟨b7, o7, rfl⟩ := lst_at l7 (by omega)
          have HCy := Lib.hid (fun w (hb : Below w6.heap.size w6 w) => show w.cell? ⟨b7, o7, none⟩ = some (.int .i64 yn) by
            have := (ask_cells (lst_keep encQ_len H8.out.2.2 hb) (k := 0) (by simp)).1
            rw [Nat.zero_mul, Nat.add_zero] at this
            rw [hyn]
            exact this)
          clear hy l7 hyok ho6 hb6 hone HQ1 s0 s1 hyn
          go_wp2_with fail
          refine HC3.out.mono ?_
          rintro e w7 ⟨rfl, hb7⟩
          have H9 := Lib.hid (below_keep H8.out.1 hb7)
          have HB7 := Lib.hid hb7
          have HC4 := Lib.hid (awake_any HP.out w7)
          clear hb7 HC3
          go_wp2_with fail
          refine HC4.out.mono ?_
          rintro e w8 ⟨rfl, hb8⟩
          have H10 := Lib.hid (below_keep H9.out hb8)
          have y0 := HCy.out w8 (below_keep HB7.out hb8)
          clear hb8 HC4
          go_wp2_with fail
          go_ret
          exact ⟨by first | rfl | exact ret_bool (by simp), H10.out⟩
end Go.Proofs.Ythpeahphnegedaa.Esy
