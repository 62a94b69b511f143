/- Snap: the laws' fixed fact, over any snap that does as it should. -/
import Derived.Test.YtpmpigglekgfnaaSnpSam
namespace Go.Proofs.Ytpmpigglekgfnaa.Snp
set_option maxRecDepth 100000
open Go.RowKit
open Go.Sort
open Kit
open Oct
open Foot
open Tre (Lst inI lst_keep lst_at lst_new lst_none below_drewN' Funds Allocs Al encF encF_len encL_len)
open Rte (Rt Rates encR encR_len)
open Job (Jb Jv Jobs encJ encJ_len valJ job_keep)
open Drw (Dw Draws encD encD_len draw_cells)
open Ent (NB nb_keep nb_own nb_new int8 txt ints ints_len int8_len txt_len)
set_option linter.unusedVariables false
variable {w w' : World}

theorem enc_long (t : Sn) : 64 ≤ (encT t).length := by
  show 64 ≤ (int8 _ ++ (int8 _ ++ (int8 _ ++ ((int8 _ ++ _) ++ ((int8 _ ++ _) ++ ((int8 _ ++ _) ++ ((int8 _ ++ _) ++ (int8 _ ++ _)))))))).length
  simp only [List.length_append, int8_len]
  omega
theorem dec_short {l : List UInt8} (h : l.length < 64) : decT l = none := by
  cases hd : decT l with
  | none => rfl
  | some t =>
    have := enc_long t
    rw [(enc_dec hd).1] at this
    omega
def fu0 : Tre.Fd := ⟨⟨#[97]⟩, -1, 0⟩
def jb0 : Jb := ⟨3, 0, 0, 0, 0, 0, 0, 0, 0, 0, 0, [⟨1, 5⟩]⟩
def t0 : Sn := ⟨1, -2, 0, [fu0], [], [], [jb0], [⟨#[107]⟩]⟩
theorem t0_fits : Fits t0 := by unfold Fits t0 fu0 jb0; decide
theorem t0_ok : t0.ok := by
  unfold Sn.ok t0
  refine ⟨⟨by decide, by decide⟩, ⟨by decide, by decide⟩, ⟨by decide, by decide⟩, fun x hx => ?_, fun x hx => (by cases hx), fun x hx => (by cases hx), fun x hx => ?_, fun x hx => ?_⟩
  · rw [List.mem_singleton] at hx; subst hx
    exact ⟨by unfold maxLen fu0; decide, ⟨by decide, by decide⟩, ⟨by decide, by decide⟩⟩
  · rw [List.mem_singleton] at hx; subst hx
    refine ⟨⟨by decide, by decide⟩, ⟨by decide, by decide⟩, ⟨by decide, by decide⟩, ⟨by decide, by decide⟩, ⟨by decide, by decide⟩, ⟨by decide, by decide⟩, ⟨by decide, by decide⟩, ⟨by decide, by decide⟩, ⟨by decide, by decide⟩, ⟨by decide, by decide⟩, ⟨by decide, by decide⟩, fun d hd => ?_⟩
    have : d = ⟨1, 5⟩ := by simpa [jb0] using hd
    subst this
    exact ⟨⟨by decide, by decide⟩, ⟨by decide, by decide⟩⟩
  · rw [List.mem_singleton] at hx; subst hx
    unfold maxLen; decide
theorem t0_len : (encT t0).length = 198 := by
  show (int8 _ ++ (int8 _ ++ (int8 _ ++ ((int8 _ ++ [fu0].flatMap cFd.enc) ++ ((int8 _ ++ [].flatMap cAl.enc) ++ ((int8 _ ++ [].flatMap cRt.enc) ++ ((int8 _ ++ [jb0].flatMap cJb.enc) ++ (int8 _ ++ [⟨#[107]⟩].flatMap txt)))))))).length = _
  simp only [List.length_append, int8_len, List.flatMap_cons, List.flatMap_nil, List.length_nil, jb_enc, fd_enc, fu0, ints_len, txt_len]
  rfl
abbrev j0 (W : World) : Jv := ⟨jb0, some ⟨W.heap.size + 1, 0, none⟩, 1, 1⟩
abbrev x0 (W : World) : Sv := ⟨1, -2, 0, [fu0], [], [], [j0 W], [⟨#[107]⟩], ⟨some ⟨W.heap.size, 0, none⟩, 1, 1⟩, ⟨none, 0, 0⟩, ⟨none, 0, 0⟩, ⟨some ⟨W.heap.size + 1 + 1, 0, none⟩, 1, 1⟩, ⟨some ⟨W.heap.size + 1 + 1 + 1, 0, none⟩, 1, 1⟩⟩
abbrev wA (W : World) : World := W.alloc (.cells #[.string ⟨#[97]⟩, .int .i64 (-1), .int .i64 0] 47)
abbrev wB (W : World) : World := (wA W).alloc (.cells #[.int .i64 1, .int .i64 5] 60)
abbrev wC (W : World) : World := (wB W).alloc (.cells #[.int .i64 3, .int .i64 0, .int .i64 0, .int .i64 0, .int .i64 0, .int .i64 0, .int .i64 0, .int .i64 0, .int .i64 0, .int .i64 0, .int .i64 0, .slice (some ⟨W.heap.size + 1, 0, none⟩) 1 1] 55)
abbrev wD (W : World) : World := (wC W).alloc (.cells #[.string ⟨#[107]⟩] 9)
abbrev wE (W : World) : World := (wD W).alloc (.cells #[.int .i64 1, .int .i64 (-2), .int .i64 0, .slice (some ⟨W.heap.size, 0, none⟩) 1 1, .slice none 0 0, .slice none 0 0, .slice (some ⟨W.heap.size + 1 + 1, 0, none⟩) 1 1, .slice (some ⟨W.heap.size + 1 + 1 + 1, 0, none⟩) 1 1] 28)
theorem made_x0 (W : World) : Below W.heap.size W (wE W) ∧ (x0 W).In (wE W) ∧ Arr.Blk (wE W) (W.heap.size + 1 + 1 + 1 + 1) 28 (encV (x0 W)) := by
  have za : (wA W).heap.size = W.heap.size + 1 := by simp
  have zb : (wB W).heap.size = W.heap.size + 1 + 1 := by simp
  have zc : (wC W).heap.size = W.heap.size + 1 + 1 + 1 := by simp
  have zd : (wD W).heap.size = W.heap.size + 1 + 1 + 1 + 1 := by simp
  have ba := below_alloc W (.cells #[.string ⟨#[97]⟩, .int .i64 (-1), .int .i64 0] 47)
  have bb := below_alloc (wA W) (.cells #[.int .i64 1, .int .i64 5] 60)
  have bc := below_alloc (wB W) (.cells #[.int .i64 3, .int .i64 0, .int .i64 0, .int .i64 0, .int .i64 0, .int .i64 0, .int .i64 0, .int .i64 0, .int .i64 0, .int .i64 0, .int .i64 0, .slice (some ⟨W.heap.size + 1, 0, none⟩) 1 1] 55)
  have bd := below_alloc (wC W) (.cells #[.string ⟨#[107]⟩] 9)
  have be := below_alloc (wD W) (.cells #[.int .i64 1, .int .i64 (-2), .int .i64 0, .slice (some ⟨W.heap.size, 0, none⟩) 1 1, .slice none 0 0, .slice none 0 0, .slice (some ⟨W.heap.size + 1 + 1, 0, none⟩) 1 1, .slice (some ⟨W.heap.size + 1 + 1 + 1, 0, none⟩) 1 1] 28)
  have hf : Funds (wA W) (some ⟨W.heap.size, 0, none⟩) 1 1 [fu0] := lst_new encF_len W [fu0] _ _ _ 1 rfl rfl rfl (by omega)
  have hd : Draws (wB W) (some ⟨W.heap.size + 1, 0, none⟩) 1 1 [⟨1, 5⟩] := lst_new encD_len (wA W) [⟨1, 5⟩] _ _ _ 1 za.symm rfl rfl (by omega)
  have hj : Jobs (wC W) (some ⟨W.heap.size + 1 + 1, 0, none⟩) 1 1 [j0 W] := lst_new encJ_len (wB W) [j0 W] _ _ _ 1 zb.symm rfl rfl (by omega)
  have hk : Keys (wD W) (some ⟨W.heap.size + 1 + 1 + 1, 0, none⟩) 1 1 [⟨#[107]⟩] := lst_new encK_len (wC W) [⟨#[107]⟩] _ _ _ 1 zc.symm rfl rfl (by omega)
  refine ⟨below_keep (below_keep (below_keep (below_keep ba bb) bc) bd) be, ⟨lst_keep encF_len hf (below_keep (below_keep (below_keep bb bc) bd) be), lst_none _ _ _, lst_none _ _ _, lst_keep encJ_len hj (below_keep bd be), lst_keep encK_len hk be, fun y hy => ?_⟩, ?_⟩
  · rw [List.mem_singleton] at hy; subst hy
    exact lst_keep encD_len hd (below_keep (below_keep bc bd) be)
  · exact Arr.blk_new (wD W) _ 28 (encV (x0 W)) zd.symm
set_option maxHeartbeats 8000000 in
theorem awake_any (hP : Prog) (W : World) : Calls Try.prog 9 #[] W fun e W' => e = .returned (.bool true) ∧ Below W.heap.size W W' := by
  have HP := Lib.hid hP
  obtain ⟨w1, hw1⟩ : ∃ x, x = wE W := ⟨_, rfl⟩
  have h1 := made_x0 W
  rw [← hw1] at h1
  obtain ⟨S, hS⟩ : ∃ S, S = x0 W := ⟨_, rfl⟩
  have HS := Lib.hid (show S.t = t0 by rw [hS]; rfl)
  obtain ⟨p0, p1, p2, p3, p4, p5, p6, p7⟩ := box_cells h1.2.2
  have HE := Lib.hid (hP.encode w1 (x0 W) h1.2.1 t0_ok)
  have HW1 := Lib.hid hw1
  rw [← hS] at h1
  have H1 := Lib.hid h1
  have HS0 := Lib.hid hS
  clear hP hw1 h1 hS
  go_enter Try.func9, Try.ntmps9
  go_upto_region 2 with fail
  rw [show (((((W.alloc (.cells #[.string ⟨#[97]⟩, .int .i64 (-1), .int .i64 0] 47)).alloc (.cells #[.int .i64 1, .int .i64 5] 60)).alloc (.cells #[.int .i64 3, .int .i64 0, .int .i64 0, .int .i64 0, .int .i64 0, .int .i64 0, .int .i64 0, .int .i64 0, .int .i64 0, .int .i64 0, .int .i64 0, .slice (some ⟨W.heap.size + 1, 0, none⟩) 1 1] 55)).alloc (.cells #[.string ⟨#[107]⟩] 9)).alloc (.cells #[.int .i64 1, .int .i64 (-2), .int .i64 0, .slice (some ⟨W.heap.size, 0, none⟩) 1 1, .slice none 0 0, .slice none 0 0, .slice (some ⟨W.heap.size + 1 + 1, 0, none⟩) 1 1, .slice (some ⟨W.heap.size + 1 + 1 + 1, 0, none⟩) 1 1] 28)) = w1 from HW1.out.symm]
  go_wp2_with fail
  refine HE.out.mono ?_
  rw [show (x0 W).t = t0 from rfl, (enc_yes t0_fits).1, (enc_yes t0_fits).2]
  rintro e w2 ⟨a2, n2, c2, rfl, hl2, hb2⟩
  obtain rfl : n2 = 198 := by rw [← hl2.1]; exact t0_len
  have H2 := Lib.hid (And.intro (below_keep H1.out.1 hb2) (And.intro (in_keep H1.out.2.1 hb2) (And.intro (Arr.blk_below H1.out.2.2 hb2 (Arr.blk_lt H1.out.2.2)) hl2)))
  have HD := Lib.hid (HP.out.decode w2 a2 198 c2 (encT t0) t0_len hl2.2.1 hl2.2.2.1 hl2.2.2.2.1 hl2.2.2.2.2.1 (by omega))
  clear p0 p1 p2 p3 p4 p5 p6 p7 hb2 hl2 HE
  go_wp2_with fail
  refine HD.out.mono ?_
  rintro e w3 ⟨x1, rfl, hx1, hi1, hb3⟩
  rw [(dec_ok (dec_enc t0_fits t0_ok)).1] at hx1
  rw [(dec_ok (dec_enc t0_fits t0_ok)).2]
  have hbk := Arr.blk_new w3 w3.heap.size 28 (encV x1) rfl
  have hb4 := below_alloc w3 (.cells #[.int .i64 x1.seq, .int .i64 x1.world, .int .i64 x1.next, .slice x1.f.a x1.f.n x1.f.c, .slice x1.l.a x1.l.n x1.l.c, .slice x1.r.a x1.r.n x1.r.c, .slice x1.j.a x1.j.n x1.j.c, .slice x1.k.a x1.k.n x1.k.c] 28)
  obtain ⟨w4, hw4⟩ : ∃ z, z = w3.alloc (.cells #[.int .i64 x1.seq, .int .i64 x1.world, .int .i64 x1.next, .slice x1.f.a x1.f.n x1.f.c, .slice x1.l.a x1.l.n x1.l.c, .slice x1.r.a x1.r.n x1.r.c, .slice x1.j.a x1.j.n x1.j.c, .slice x1.k.a x1.k.n x1.k.c] 28) := ⟨_, rfl⟩
  rw [show w3.alloc (.cells (encV x1).toArray 28) = w4 from hw4.symm] at hbk
  rw [← hw4] at hb4
  have hb24 := below_keep hb3 hb4
  have H4 := Lib.hid (And.intro (below_keep H2.out.1 hb24) (And.intro (in_keep H2.out.2.1 hb24) (And.intro (Arr.blk_below H2.out.2.2.1 hb24 (Arr.blk_lt H2.out.2.2.1)) (And.intro hbk (And.intro (in_keep hi1 hb4) hx1)))))
  have HW4 := Lib.hid hw4
  have HM := Lib.hid (own_made_b w4 w4.heap.size 63 (Nat.le_refl _) (by unfold maxLen; omega))
  have HMb := Lib.hid (below_alloc w4 (.cells (madeCells #[.int .u8 0] 63) 5))
  clear hbk hb4 hw4 hb24 hb3 hi1 hx1 HD
  go_upto_region 4 with fail
  rw [← HW4.out]
  have hmk := run_make_b 63 63 rfl (by omega) w4
  obtain ⟨w5, hw5⟩ : ∃ z, z = w4.alloc (.cells (madeCells #[.int .u8 0] 63) 5) := ⟨_, rfl⟩
  rw [← hw5] at HM HMb hmk
  have HD2 := Lib.hid (HP.out.decode w5 (some ⟨w4.heap.size, 0, none⟩) 63 63 (List.replicate 63 0) rfl (Nat.le_refl _) (by unfold maxLen; omega) (fun h => by cases h) (own_row' HM.out) (by omega))
  rw [(dec_no (dec_short (l := List.replicate 63 0) (by decide))).2] at HD2
  clear hw5
  go_wp2_with fail
  refine HD2.out.mono ?_
  rintro e w6 ⟨x2, rfl, -, -, hb6⟩
  have hb7 := below_alloc w6 (.cells #[.int .i64 x2.seq, .int .i64 x2.world, .int .i64 x2.next, .slice x2.f.a x2.f.n x2.f.c, .slice x2.l.a x2.l.n x2.l.c, .slice x2.r.a x2.r.n x2.r.c, .slice x2.j.a x2.j.n x2.j.c, .slice x2.k.a x2.k.n x2.k.c] 28)
  obtain ⟨w7, hw7⟩ : ∃ z, z = w6.alloc (.cells #[.int .i64 x2.seq, .int .i64 x2.world, .int .i64 x2.next, .slice x2.f.a x2.f.n x2.f.c, .slice x2.l.a x2.l.n x2.l.c, .slice x2.r.a x2.r.n x2.r.c, .slice x2.j.a x2.j.n x2.j.c, .slice x2.k.a x2.k.n x2.k.c] 28) := ⟨_, rfl⟩
  rw [← hw7] at hb7
  have hb47 := below_keep HMb.out (below_keep hb6 hb7)
  have H7 := Lib.hid (And.intro (below_keep H4.out.1 hb47) (And.intro (in_keep H4.out.2.1 hb47) (And.intro (in_keep H4.out.2.2.2.2.1 hb47) H4.out.2.2.2.2.2)))
  obtain ⟨p0, p1, p2, p3, p4, p5, p6, p7⟩ := box_cells (Arr.blk_below H4.out.2.2.1 hb47 (Arr.blk_lt H4.out.2.2.1))
  obtain ⟨r0, r1, r2, r3, r4, r5, r6, r7⟩ := box_cells (Arr.blk_below H4.out.2.2.2.1 hb47 (Arr.blk_lt H4.out.2.2.2.1))
  have HSa := Lib.hid (rsame_any w7 x1 S H7.out.2.2.1 H7.out.2.1)
  have HW7 := Lib.hid hw7
  clear hb7 hb6 hb47 hw7 HD2
  go_upto_region 5 with fail
  rw [← HW7.out]
  go_wp2_with fail
  refine HSa.out.mono ?_
  rintro e w8 ⟨b, rfl, hbt, hb8⟩
  obtain rfl : b = true := hbt.2 (by rw [H7.out.2.2.2, HS.out])
  have HB8 := Lib.hid (below_keep H7.out.1 hb8)
  clear hbt hb8 p0 p1 p2 p3 p4 p5 p6 p7 r0 r1 r2 r3 r4 r5 r6 r7
  go_wp2_with fail
  go_ret
  exact ⟨rfl, HB8.out⟩
end Go.Proofs.Ytpmpigglekgfnaa.Snp
