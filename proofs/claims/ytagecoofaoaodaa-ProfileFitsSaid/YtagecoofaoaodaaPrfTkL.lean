/- Profile: ProfileTakes, over any profiles that do as they should. -/
import Derived.Test.YtagecoofaoaodaaPrfAwk
namespace Go.Proofs.Ytagecoofaoaodaa.Prf
set_option maxRecDepth 100000
open Go.RowKit
open Go.Sort
open Kit
open Tre (Lst inI lst_keep lst_take lst_at lst_new lst_none below_drewN' run_ld2)
set_option linter.unusedVariables false
variable {w w' : World}

theorem Pg.self {K : Nat} {p : List St} {u : Int} (h : Pg K p u) : IsP p (fun t => val p t) u := ⟨h.norm, h.head, fun _ _ => rfl⟩
theorem take_none {K : Nat} {p q : List St} {u at' long : Int} (h : Pg K p u) (hq : IsP q (takeF p at' long 0) u) : p = q :=
  isP_one (isP_congr h.self fun t _ => by unfold takeF; split <;> omega) hq
theorem take_short {K : Nat} {p q : List St} {u at' nodes : Int} (h : Pg K p u) (hq : IsP q (takeF p at' 0 nodes) u) : p = q :=
  isP_one (isP_congr h.self fun t _ => by unfold takeF; rw [if_neg (by omega)]; omega) hq
theorem Pg.take {K : Nat} {p q : List St} {u at' long nodes : Int} (h : Pg K p u) (hq : ∀ s l, p = s :: l → IsP q (takeF p at' long nodes) s.tick) : IsP q (takeF p at' long nodes) u := by
  obtain ⟨f, l, e⟩ := h.head
  exact hq _ _ e
theorem tk8 {x : Int} (h0 : 0 ≤ x) (h1 : x ≤ 600) : Tk x := ⟨h0, by omega⟩
theorem nd8 {x : Int} (h0 : 0 ≤ x) (h1 : x ≤ 600) : Nd x := ⟨h0, by omega⟩
set_option maxHeartbeats 8000000 in
theorem takes_any (hP : Prog) (W : World) (total : Int) (ab : Option Addr) (n cb : Nat) (l : List Bz) (at' long nodes t : Int) (h : Busys W ab n cb l) (h0 : 0 ≤ total ∧ total ≤ 255) (h1 : 0 ≤ at' ∧ at' ≤ 255) (h2 : 0 ≤ long ∧ long ≤ 255) (h3 : 0 ≤ nodes ∧ nodes ≤ 255) (h4 : 0 ≤ t ∧ t ≤ 255) :
    Calls Try.prog 6 #[.int .u8 total, .slice ab n cb, .int .u8 at', .int .u8 long, .int .u8 nodes, .int .u8 t] W fun e w' => e = .returned (.bool true) ∧ Below W.heap.size W w' := by
  have HP := Lib.hid hP
  have HC0 := Lib.hid (rbusy_any W ab n cb l h)
  obtain ⟨h00, h01⟩ := h0
  obtain ⟨h10, h11⟩ := h1
  obtain ⟨h20, h21⟩ := h2
  obtain ⟨h30, h31⟩ := h3
  obtain ⟨h40, h41⟩ := h4
  clear hP h
  go_enter Try.func6, Try.ntmps6
  go_wp2_with fail
  refine HC0.out.mono ?_
  rintro e w1 ⟨v1, rfl, ho1, hb1⟩
  obtain ⟨a1, c1, rfl, hl1⟩ := own_busys ho1
  obtain ⟨lb, hlb⟩ : ∃ lb, lb = busyH l := ⟨_, rfl⟩
  rw [← hlb] at hl1 ⊢
  have hmay := busyH_may (l := l)
  rw [← hlb] at hmay
  obtain ⟨nb, hnb⟩ : ∃ nb, nb = lb.length := ⟨_, rfl⟩
  rw [← hnb] at hl1 ⊢
  have H1 := Lib.hid (And.intro hb1 hmay)
  have HC1 := Lib.hid (HP.out.new w1 0 total a1 nb c1 lb ⟨by omega, by omega⟩ (nd8 h00 (by omega)) hl1 hmay.1 (by omega))
  clear hb1 ho1 hl1 hmay hnb hlb HC0
  go_wp2_with fail
  refine HC1.out.mono ?_
  rintro e w2 ⟨a2, c2, p, rfl, hs2, hp2, hb2⟩
  have hg2 : Pg 0 p 0 := pg_new ⟨by omega, by omega⟩ (nd8 h00 (by omega)) H1.out.2.1 H1.out.2.2 hp2
  obtain ⟨np, hnp⟩ : ∃ np, np = p.length := ⟨_, rfl⟩
  rw [← hnp] at hs2 ⊢
  have H2 := Lib.hid (And.intro (below_keep H1.out.1 hb2) (And.intro hs2 hg2))
  have HC2 := Lib.hid (HP.out.take w2 at' long nodes a2 np c2 p (tk8 h10 (by omega)) h20 (tk8 (by omega) (by omega)) (nd8 h30 (by omega)) hs2 (hg2.pf (by omega)))
  clear hs2 hp2 hb2 hg2 hnp HC1
  go_wp2_with fail
  refine HC2.out.mono ?_
  rintro e w3 ⟨a3, c3, q, rfl, hs3, -, hq3, hb3⟩
  have hq := H2.out.2.2.take hq3
  have hg3 : Pg 1 q 0 := pg_take H2.out.2.2 h20 (tk8 h10 (by omega)) (tk8 (by omega) (by omega)) (nd8 h30 (by omega)) hq
  obtain ⟨nq, hnq⟩ : ∃ nq, nq = q.length := ⟨_, rfl⟩
  rw [← hnq] at hs3 ⊢
  have HNq := Lib.hid hnq
  have H3 := Lib.hid (And.intro (below_keep H2.out.1 hb3) (And.intro hs3 (And.intro (lst_keep encS_len H2.out.2.1 hb3) hg3)))
  have HC3 := Lib.hid (HP.out.at_ w3 t a2 np c2 p (tk8 h40 (by omega)) H3.out.2.2.1 (H2.out.2.2.pf (by omega)))
  have hv := val_bound (H2.out.2.2.pf (by omega)) t
  have hqt := hq.fn t h40
  unfold takeF at hqt
  obtain ⟨vt, hvt⟩ : ∃ vt, vt = val p t := ⟨_, rfl⟩
  rw [← hvt] at HC3 hv hqt
  obtain ⟨hv0, hv1⟩ := hv
  have HQ := Lib.hid hqt
  clear hs3 hq3 hb3 hg3 hnq hq hqt hvt HC2
  go_wp2_with fail
  refine HC3.out.mono ?_
  rintro e w4 ⟨rfl, hb4⟩
  have H4 := Lib.hid (And.intro (below_keep H3.out.1 hb4) (And.intro (lst_keep encS_len H3.out.2.1 hb4) H3.out.2.2.2))
  clear hb4 HC3
  by_cases hat : at' ≤ t
  · by_cases hlt : t < at' + long
    · have HV := Lib.hid (show val q t = vt - nodes by rw [HQ.out, if_pos ⟨hat, hlt⟩])
      clear HQ
      have HC4 := Lib.hid (HP.out.take w4 at' long 0 a3 nq c3 q (tk8 h10 (by omega)) h20 (tk8 (by omega) (by omega)) ⟨by omega, by omega⟩ H4.out.2.1 (H4.out.2.2.pf (by omega)))
      go_wp2_with fail
      refine HC4.out.mono ?_
      rintro e w5 ⟨a5, c5, q5, rfl, hs5, -, hq5, hb5⟩
      obtain rfl : q = q5 := take_none H4.out.2.2 (H4.out.2.2.take hq5)
      rw [← HNq.out] at hs5 ⊢
      have H5 := Lib.hid (And.intro (below_keep H4.out.1 hb5) (And.intro hs5 (lst_keep encS_len H4.out.2.1 hb5)))
      have HC5 := Lib.hid (HP.out.take w5 0 0 nodes a5 nq c5 q ⟨by omega, by omega⟩ (by omega) ⟨by omega, by omega⟩ (nd8 h30 (by omega)) H5.out.2.1 (H4.out.2.2.pf (by omega)))
      clear hs5 hq5 hb5 HC4
      go_wp2_with fail
      refine HC5.out.mono ?_
      rintro e w6 ⟨a6, c6, q6, rfl, hs6, -, hq6, hb6⟩
      obtain rfl : q = q6 := take_short H4.out.2.2 (H4.out.2.2.take hq6)
      rw [← HNq.out] at hs6 ⊢
      have H6 := Lib.hid (And.intro (below_keep H5.out.1 hb6) (And.intro hs6 (lst_keep encS_len H5.out.2.2 hb6)))
      have HC6 := Lib.hid (awake_any HP.out w6)
      clear hs6 hq6 hb6 HC5
      go_wp2_with fail
      refine HC6.out.mono ?_
      rintro e w7 ⟨rfl, hb7⟩
      have H7 := Lib.hid (And.intro (below_keep H6.out.1 hb7) (And.intro (lst_keep encS_len H6.out.2.1 hb7) (lst_keep encS_len H6.out.2.2 hb7)))
      have HC7 := Lib.hid (HP.out.at_ w7 t a3 nq c3 q (tk8 h40 (by omega)) H7.out.2.2 (H4.out.2.2.pf (by omega)))
      rw [HV.out] at HC7
      clear hb7 HC6
      go_wp2_with fail
      refine HC7.out.mono ?_
      rintro e w8 ⟨rfl, hb8⟩
      have H8 := Lib.hid (And.intro (below_keep H7.out.1 hb8) (And.intro (lst_keep encS_len H7.out.2.1 hb8) (lst_keep encS_len H7.out.2.2 hb8)))
      have HC8 := Lib.hid (rsame_any a6 a3 nq c6 c3 q w8 H8.out.2.1 H8.out.2.2)
      clear hb8 HC7
      go_wp2_with fail
      refine HC8.out.mono ?_
      rintro e w9 ⟨rfl, hb9⟩
      have H9 := Lib.hid (below_keep H8.out.1 hb9)
      clear hb9 HC8
      go_wp2_with fail
      go_ret
      exact ⟨rfl, H9.out⟩
    · have HV := Lib.hid (show val q t = vt by rw [HQ.out, if_neg (fun h => hlt h.2), Int.sub_zero])
      clear HQ
      have HC4 := Lib.hid (HP.out.take w4 at' long 0 a3 nq c3 q (tk8 h10 (by omega)) h20 (tk8 (by omega) (by omega)) ⟨by omega, by omega⟩ H4.out.2.1 (H4.out.2.2.pf (by omega)))
      go_wp2_with fail
      refine HC4.out.mono ?_
      rintro e w5 ⟨a5, c5, q5, rfl, hs5, -, hq5, hb5⟩
      obtain rfl : q = q5 := take_none H4.out.2.2 (H4.out.2.2.take hq5)
      rw [← HNq.out] at hs5 ⊢
      have H5 := Lib.hid (And.intro (below_keep H4.out.1 hb5) (And.intro hs5 (lst_keep encS_len H4.out.2.1 hb5)))
      have HC5 := Lib.hid (HP.out.take w5 0 0 nodes a5 nq c5 q ⟨by omega, by omega⟩ (by omega) ⟨by omega, by omega⟩ (nd8 h30 (by omega)) H5.out.2.1 (H4.out.2.2.pf (by omega)))
      clear hs5 hq5 hb5 HC4
      go_wp2_with fail
      refine HC5.out.mono ?_
      rintro e w6 ⟨a6, c6, q6, rfl, hs6, -, hq6, hb6⟩
      obtain rfl : q = q6 := take_short H4.out.2.2 (H4.out.2.2.take hq6)
      rw [← HNq.out] at hs6 ⊢
      have H6 := Lib.hid (And.intro (below_keep H5.out.1 hb6) (And.intro hs6 (lst_keep encS_len H5.out.2.2 hb6)))
      have HC6 := Lib.hid (awake_any HP.out w6)
      clear hs6 hq6 hb6 HC5
      go_wp2_with fail
      refine HC6.out.mono ?_
      rintro e w7 ⟨rfl, hb7⟩
      have H7 := Lib.hid (And.intro (below_keep H6.out.1 hb7) (And.intro (lst_keep encS_len H6.out.2.1 hb7) (lst_keep encS_len H6.out.2.2 hb7)))
      have HC7 := Lib.hid (HP.out.at_ w7 t a3 nq c3 q (tk8 h40 (by omega)) H7.out.2.2 (H4.out.2.2.pf (by omega)))
      rw [HV.out] at HC7
      clear hb7 HC6
      go_wp2_with fail
      refine HC7.out.mono ?_
      rintro e w8 ⟨rfl, hb8⟩
      have H8 := Lib.hid (And.intro (below_keep H7.out.1 hb8) (And.intro (lst_keep encS_len H7.out.2.1 hb8) (lst_keep encS_len H7.out.2.2 hb8)))
      have HC8 := Lib.hid (rsame_any a6 a3 nq c6 c3 q w8 H8.out.2.1 H8.out.2.2)
      clear hb8 HC7
      go_wp2_with fail
      refine HC8.out.mono ?_
      rintro e w9 ⟨rfl, hb9⟩
      have H9 := Lib.hid (below_keep H8.out.1 hb9)
      clear hb9 HC8
      go_wp2_with fail
      go_ret
      exact ⟨rfl, H9.out⟩
  · have HV := Lib.hid (show val q t = vt by rw [HQ.out, if_neg (fun h => hat h.1), Int.sub_zero])
    clear HQ
    have HC4 := Lib.hid (HP.out.take w4 at' long 0 a3 nq c3 q (tk8 h10 (by omega)) h20 (tk8 (by omega) (by omega)) ⟨by omega, by omega⟩ H4.out.2.1 (H4.out.2.2.pf (by omega)))
    go_wp2_with fail
    refine HC4.out.mono ?_
    rintro e w5 ⟨a5, c5, q5, rfl, hs5, -, hq5, hb5⟩
    obtain rfl : q = q5 := take_none H4.out.2.2 (H4.out.2.2.take hq5)
    rw [← HNq.out] at hs5 ⊢
    have H5 := Lib.hid (And.intro (below_keep H4.out.1 hb5) (And.intro hs5 (lst_keep encS_len H4.out.2.1 hb5)))
    have HC5 := Lib.hid (HP.out.take w5 0 0 nodes a5 nq c5 q ⟨by omega, by omega⟩ (by omega) ⟨by omega, by omega⟩ (nd8 h30 (by omega)) H5.out.2.1 (H4.out.2.2.pf (by omega)))
    clear hs5 hq5 hb5 HC4
    go_wp2_with fail
    refine HC5.out.mono ?_
    rintro e w6 ⟨a6, c6, q6, rfl, hs6, -, hq6, hb6⟩
    obtain rfl : q = q6 := take_short H4.out.2.2 (H4.out.2.2.take hq6)
    rw [← HNq.out] at hs6 ⊢
    have H6 := Lib.hid (And.intro (below_keep H5.out.1 hb6) (And.intro hs6 (lst_keep encS_len H5.out.2.2 hb6)))
    have HC6 := Lib.hid (awake_any HP.out w6)
    clear hs6 hq6 hb6 HC5
    go_wp2_with fail
    refine HC6.out.mono ?_
    rintro e w7 ⟨rfl, hb7⟩
    have H7 := Lib.hid (And.intro (below_keep H6.out.1 hb7) (And.intro (lst_keep encS_len H6.out.2.1 hb7) (lst_keep encS_len H6.out.2.2 hb7)))
    have HC7 := Lib.hid (HP.out.at_ w7 t a3 nq c3 q (tk8 h40 (by omega)) H7.out.2.2 (H4.out.2.2.pf (by omega)))
    rw [HV.out] at HC7
    clear hb7 HC6
    go_wp2_with fail
    refine HC7.out.mono ?_
    rintro e w8 ⟨rfl, hb8⟩
    have H8 := Lib.hid (And.intro (below_keep H7.out.1 hb8) (And.intro (lst_keep encS_len H7.out.2.1 hb8) (lst_keep encS_len H7.out.2.2 hb8)))
    have HC8 := Lib.hid (rsame_any a6 a3 nq c6 c3 q w8 H8.out.2.1 H8.out.2.2)
    clear hb8 HC7
    go_wp2_with fail
    refine HC8.out.mono ?_
    rintro e w9 ⟨rfl, hb9⟩
    have H9 := Lib.hid (below_keep H8.out.1 hb9)
    clear hb9 HC8
    go_wp2_with fail
    go_ret
    exact ⟨rfl, H9.out⟩
end Go.Proofs.Ytagecoofaoaodaa.Prf
