/- Easy: EasyNexts, over any easy that does as it should. -/
import Derived.Test.YthpeahphnegedaaEsyAwk
namespace Go.Proofs.Ythpeahphnegedaa.Esy
set_option maxRecDepth 100000
open Go.RowKit
open Go.Sort
open Kit
open Tre (Lst inI lst_keep lst_take lst_at lst_new lst_none below_drewN' run_ld2)
open Prf (Bz newF Nd Tk Busys encZ encZ_len OwZ own_busys held held_may rheld_any)
open Go.Proofs.Ythpeahphnegedaa.Ord (Aq Asks encQ encQ_len ask_cells info_ask)
set_option linter.unusedVariables false
variable {w w' : World}

set_option maxHeartbeats 8000000 in
theorem nexts_any (hP : Prog) (W : World) (now total : Int) (ab : Option Addr) (n cb : Nat) (l : List Bz) (a3 : Option Addr) (n3 c3 : Nat) (q : List Aq) (a4 : Option Addr) (n4 c4 : Nat) (rf : List Bool) (nodes : Int) (h : Busys W ab n cb l) (hq : Asks W a3 n3 c3 q) (hr : Bools W a4 n4 c4 rf) :
    Calls Try.prog 3 #[.int .i64 now, .int .i64 total, .slice ab n cb, .slice a3 n3 c3, .slice a4 n4 c4, .int .i64 nodes] W fun e w' => e = .returned (.bool true) ∧ Below W.heap.size W w' := by
  have HP := Lib.hid hP
  have HL := Lib.hid (And.intro h (And.intro hq hr))
  obtain ⟨t, ht⟩ : ∃ t, t = held now 562949953421312 := ⟨_, rfl⟩
  have HT := Lib.hid (And.intro ht (show T9 t by rw [ht]; exact held_may (by omega)))
  obtain ⟨al, hal⟩ : ∃ al, al = held total 1048576 := ⟨_, rfl⟩
  have HAl := Lib.hid (And.intro hal (show Nd al by rw [hal]; exact held_may (by omega)))
  obtain ⟨no, hno⟩ : ∃ no, no = held nodes 1048576 := ⟨_, rfl⟩
  have HNo := Lib.hid (And.intro hno (show Nd no by rw [hno]; exact held_may (by omega)))
  have HW := Lib.hid (Below.refl W.heap.size W)
  clear hP h hq hr ht hal hno
  go_enter Try.func3, Try.ntmps3
  go_wp2_with fail
  refine (rheld_any now 562949953421312 W).mono ?_
  rintro e w1 ⟨rfl, hb⟩
  rw [← HT.out.1]
  have H1 := Lib.hid (below_keep HW.out hb)
  clear hb
  go_wp2_with fail
  refine (rheld_any total 1048576 w1).mono ?_
  rintro e w2 ⟨rfl, hb⟩
  rw [← HAl.out.1]
  have H2 := Lib.hid (below_keep H1.out hb)
  clear hb
  have HC0 := Lib.hid (rbusy9_any w2 ab n cb l (lst_keep encZ_len HL.out.1 H2.out))
  have HM := Lib.hid (busy9_may (l := l))
  obtain ⟨lb, hlb⟩ : ∃ lb, lb = busy9 l := ⟨_, rfl⟩
  rw [← hlb] at HC0 HM
  obtain ⟨nb, hnb⟩ : ∃ nb, nb = lb.length := ⟨_, rfl⟩
  have HNb := Lib.hid hnb
  clear hlb hnb
  go_wp2_with fail
  refine HC0.out.mono ?_
  rintro e w3 ⟨v3, rfl, ho3, hb3⟩
  obtain ⟨a5, c5, rfl, l5⟩ := own_busys ho3
  rw [← HNb.out] at l5 ⊢
  have H3 := Lib.hid (And.intro (below_keep H2.out hb3) l5)
  have HC1 := Lib.hid (rasks_any w3 a3 n3 c3 q (lst_keep encQ_len HL.out.2.1 H3.out.1))
  have HMq := Lib.hid (asksH_may (l := q))
  obtain ⟨qb, hqb⟩ : ∃ qb, qb = asksH q := ⟨_, rfl⟩
  rw [← hqb] at HC1 HMq
  obtain ⟨mb, hmb⟩ : ∃ mb, mb = qb.length := ⟨_, rfl⟩
  have HMb := Lib.hid hmb
  clear hqb hmb hb3 ho3 l5 HC0
  go_wp2_with fail
  refine HC1.out.mono ?_
  rintro e w4 ⟨v4, rfl, ho4, hb4⟩
  obtain ⟨a6, c6, rfl, l6⟩ := own_asks ho4
  rw [← HMb.out] at l6 ⊢
  have H4 := Lib.hid (And.intro (below_keep H3.out.1 hb4) (And.intro (lst_keep encZ_len H3.out.2 hb4) l6))
  clear hb4 ho4 l6 HC1
  have HnA := Lib.hid (show nb ≤ 100 ∧ mb ≤ 100 by have := HM.out.2; have := HMq.out.2; have := HNb.out; have := HMb.out; omega)
  have HBs := Lib.hid (fun w (hb : Below W.heap.size W w) => lst_keep encO_len HL.out.2.2 hb)
  have HC2 := Lib.hid (HP.out.next w4 t al a5 nb c5 lb a6 mb c6 qb a4 n4 c4 rf HT.out.2 HAl.out.2 H4.out.2.1 (fun b hb => (HM.out.1 b hb).2) HnA.out.1 H4.out.2.2 HMq.out.1 HnA.out.2 (HBs.out w4 H4.out.1))
  obtain ⟨ni, hni⟩ : ∃ ni, ni = nextI t al lb qb rf := ⟨_, rfl⟩
  obtain ⟨nk, hnk⟩ : ∃ nk, nk = nextB t al lb qb rf := ⟨_, rfl⟩
  have HNi := Lib.hid (And.intro hni hnk)
  rw [← hni, ← hnk] at HC2
  clear hni hnk
  go_wp2_with fail
  refine HC2.out.mono ?_
  rintro e w5 ⟨rfl, hb5⟩
  have H5 := Lib.hid (And.intro (below_keep H4.out.1 hb5) (And.intro (lst_keep encZ_len H4.out.2.1 hb5) (lst_keep encQ_len H4.out.2.2 hb5)))
  have HC3 := Lib.hid (rnext_any w5 t al a5 nb c5 lb a6 mb c6 qb a4 n4 c4 rf HT.out.2 HAl.out.2 H5.out.2.1 (fun b hb => (HM.out.1 b hb).2) HnA.out.1 H5.out.2.2 HMq.out.1 HnA.out.2 (HBs.out w5 H5.out.1))
  rw [← HNi.out.1, ← HNi.out.2] at HC3
  clear hb5 HC2
  go_wp2_with fail
  refine HC3.out.mono ?_
  rintro e w6 ⟨rfl, hb6⟩
  have H6 := Lib.hid (below_keep H5.out.1 hb6)
  have L6 := Lib.hid (lst_keep encZ_len H5.out.2.1 hb6)
  clear hb6 HC3
  go_wp2_with fail
  refine (rheld_any nodes 1048576 w6).mono ?_
  rintro e w7 ⟨rfl, hb⟩
  rw [← HNo.out.1]
  have H7 := Lib.hid (below_keep H6.out hb)
  have L7 := Lib.hid (lst_keep encZ_len L6.out hb)
  clear hb
  have HC4 := Lib.hid (HP.out.shadow w7 t al a5 nb c5 lb no HT.out.2 HAl.out.2 L7.out (fun b hb => (HM.out.1 b hb).2) HnA.out.1 HNo.out.2)
  obtain ⟨st, hst⟩ : ∃ st, st = shT t al lb no := ⟨_, rfl⟩
  obtain ⟨sx, hsx⟩ : ∃ sx, sx = shX t al lb no := ⟨_, rfl⟩
  obtain ⟨sb, hsb⟩ : ∃ sb, sb = shB t al lb no := ⟨_, rfl⟩
  have HS := Lib.hid (And.intro hst (And.intro hsx hsb))
  rw [← hst, ← hsx, ← hsb] at HC4
  clear hst hsx hsb
  go_wp2_with fail
  refine HC4.out.mono ?_
  rintro e w8 ⟨rfl, hb⟩
  have H8 := Lib.hid (below_keep H7.out hb)
  have L8 := Lib.hid (lst_keep encZ_len L7.out hb)
  clear hb HC4
  go_wp2_with fail
  refine (rheld_any nodes 1048576 w8).mono ?_
  rintro e w9 ⟨rfl, hb⟩
  rw [← HNo.out.1]
  have H9 := Lib.hid (below_keep H8.out hb)
  have L9 := Lib.hid (lst_keep encZ_len L8.out hb)
  clear hb
  have HC5 := Lib.hid (rshadow_any w9 t al a5 nb c5 lb no HT.out.2 HAl.out.2 L9.out (fun b hb => (HM.out.1 b hb).2) HnA.out.1 HNo.out.2)
  rw [← HS.out.1, ← HS.out.2.1, ← HS.out.2.2] at HC5
  go_wp2_with fail
  refine HC5.out.mono ?_
  rintro e w10 ⟨rfl, hb⟩
  have H10 := Lib.hid (below_keep H9.out hb)
  clear hb HC5
  have HC6 := Lib.hid (awake_any HP.out w10)
  go_wp2_with fail
  refine HC6.out.mono ?_
  rintro e w11 ⟨rfl, hb⟩
  have H11 := Lib.hid (below_keep H10.out hb)
  clear hb HC6
  go_wp2_with fail
  go_ret
  exact ⟨rfl, H11.out⟩
end Go.Proofs.Ythpeahphnegedaa.Esy
