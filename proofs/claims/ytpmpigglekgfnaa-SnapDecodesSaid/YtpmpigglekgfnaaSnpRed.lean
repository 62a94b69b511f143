/- Snap: SnapDecodes, over any snap that does as it should. -/
import Derived.Test.YtpmpigglekgfnaaSnpBak
import Derived.Test.YtpmpigglekgfnaaSnpDec
namespace Go.Proofs.Ytpmpigglekgfnaa.Snp
set_option maxRecDepth 100000
open Go.RowKit
open Go.Sort
open Kit
open Oct
open Tre (Lst inI lst_keep lst_at lst_new lst_none below_drewN')
set_option linter.unusedVariables false
variable {w w' : World}

set_option maxHeartbeats 16000000 in
theorem decodes_any (hP : Prog) (W : World) (ab : Option Addr) (nb cb : Nat) (lb : List UInt8) (hB : Bs W ab nb cb lb) (hnb : nb ≤ 140737488351232) :
    Calls Try.prog 4 #[.slice ab nb cb] W fun e W' => e = .returned (.bool true) ∧ Below W.heap.size W W' := by
  have HD1 := Lib.hid (dec_any hP hB hnb)
  have HD2 := Lib.hid (fun (w : World) (hb : Below W.heap.size W w) => rdec_any (bs_keep hB hb) hnb)
  have HAw := Lib.hid (fun w => awake_any hP w)
  clear hP hB hnb
  go_enter Try.func4, Try.ntmps4
  go_wp2_with fail
  refine HD1.out.mono ?_
  rintro e w1 ⟨x, rfl, ht, hti, hb1⟩
  have hk2 := blk_box w1 x
  have hb2 := below_alloc w1 (.cells #[.int .i64 x.seq, .int .i64 x.world, .int .i64 x.next, .slice x.f.a x.f.n x.f.c, .slice x.l.a x.l.n x.l.c, .slice x.r.a x.r.n x.r.c, .slice x.j.a x.j.n x.j.c, .slice x.k.a x.k.n x.k.c] 28)
  obtain ⟨w2, hw2⟩ : ∃ w2, w2 = w1.alloc (.cells #[.int .i64 x.seq, .int .i64 x.world, .int .i64 x.next, .slice x.f.a x.f.n x.f.c, .slice x.l.a x.l.n x.l.c, .slice x.r.a x.r.n x.r.c, .slice x.j.a x.j.n x.j.c, .slice x.k.a x.k.n x.k.c] 28) := ⟨_, rfl⟩
  have HW2 := Lib.hid hw2
  rw [← hw2] at hk2 hb2
  have HT := Lib.hid ht
  have H2 := Lib.hid (And.intro (below_keep hb1 hb2) (And.intro (in_keep hti hb2) hk2))
  obtain ⟨ee, hee⟩ : ∃ ee, ee = decE lb := ⟨_, rfl⟩
  have HEe := Lib.hid hee
  have HD3 := Lib.hid (HD2.out w2 (below_keep hb1 hb2))
  rw [← hee] at HD3 ⊢
  clear hti hb1 hk2 hb2 hw2 ht hee HD1
  go_upto_region 2 with fail
  rw [← HW2.out]
  go_wp2_with fail
  refine HD3.out.mono ?_
  rintro e w3 ⟨y, rfl, hu, hui, hb3⟩
  have hk4 := blk_box w3 y
  have hb4 := below_alloc w3 (.cells #[.int .i64 y.seq, .int .i64 y.world, .int .i64 y.next, .slice y.f.a y.f.n y.f.c, .slice y.l.a y.l.n y.l.c, .slice y.r.a y.r.n y.r.c, .slice y.j.a y.j.n y.j.c, .slice y.k.a y.k.n y.k.c] 28)
  obtain ⟨w4, hw4⟩ : ∃ w4, w4 = w3.alloc (.cells #[.int .i64 y.seq, .int .i64 y.world, .int .i64 y.next, .slice y.f.a y.f.n y.f.c, .slice y.l.a y.l.n y.l.c, .slice y.r.a y.r.n y.r.c, .slice y.j.a y.j.n y.j.c, .slice y.k.a y.k.n y.k.c] 28) := ⟨_, rfl⟩
  have HW4 := Lib.hid hw4
  rw [← hw4] at hk4 hb4
  have hb24 := below_keep hb3 hb4
  have HU := Lib.hid hu
  have H4 := Lib.hid (And.intro (below_keep H2.out.1 hb24) (And.intro (in_keep hui hb4) hk4))
  have HX4 := Lib.hid (And.intro (in_keep H2.out.2.1 hb24) (Arr.blk_below H2.out.2.2 hb24 (Arr.blk_lt H2.out.2.2)))
  clear hui hb3 hk4 hb4 hw4 hu HD3 HD2 hb24
  go_upto_region 3 with fail
  rw [← HW4.out]
  go_wp2_with fail
  refine (HAw.out w4).mono ?_
  rintro e w5 ⟨rfl, hb5⟩
  obtain ⟨p0, p1, p2, p3, p4, p5, p6, p7⟩ := box_cells (Arr.blk_below HX4.out.2 hb5 (Arr.blk_lt HX4.out.2))
  obtain ⟨q0, q1, q2, q3, q4, q5, q6, q7⟩ := box_cells (Arr.blk_below H4.out.2.2 hb5 (Arr.blk_lt H4.out.2.2))
  have HSa := Lib.hid (rsame_any w5 _ _ (in_keep HX4.out.1 hb5) (in_keep H4.out.2.1 hb5))
  have HB5 := Lib.hid (below_keep H4.out.1 hb5)
  clear hb5
  go_wp2_with fail
  refine HSa.out.mono ?_
  rintro e w6 ⟨b, rfl, hbt, hb6⟩
  obtain rfl : b = true := hbt.2 (HT.out.trans HU.out.symm)
  have HB6 := Lib.hid (below_keep HB5.out hb6)
  clear hbt hb6
  go_wp2_with fail
  go_ret
  exact ⟨rfl, HB6.out⟩
end Go.Proofs.Ytpmpigglekgfnaa.Snp
