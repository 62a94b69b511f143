/- Snap: SnapBack, over any snap that does as it should. -/
import Derived.Test.YtpmpigglekgfnaaSnpLaw
import Derived.Test.YtpmpigglekgfnaaSnpBs
namespace Go.Proofs.Ytpmpigglekgfnaa.Snp
set_option maxRecDepth 100000
open Go.RowKit
open Go.Sort
open Kit
open Oct
open Tre (Lst inI lst_keep lst_at lst_new lst_none below_drewN')
open Ent (NB nb_keep nb_own nb_new int8 txt ints ints_len int8_len txt_len)
set_option linter.unusedVariables false
variable {w w' : World}

theorem dec_any (hP : Prog) {a : Option Addr} {n c : Nat} {l : List UInt8} (h : Bs w a n c l) (hn : n ≤ 140737488351232) :
    Calls Try.prog 10 #[.slice a n c] w fun e W' => ∃ x : Sv, e = .returned (.tuple #[valV x, .int .i64 (decE l)]) ∧ x.t = decV l ∧ x.In W' ∧ Below w.heap.size w W' := hP.decode w a n c l h.len h.cap h.max h.nil h.row hn
theorem conv_bs {a : Option Addr} {n c : Nat} {L : List UInt8} (h : Bs w a n c L) : (convert 29 9 (.slice a n c)).run Try.prog w = .ok (.string ⟨L.toArray⟩) w :=
  conv_row Try.underlying29 Try.underlying5 Try.underlying9 h.len (fun e => (h.nil e).1) h.row
theorem flat_le {α : Type} {f : α → List UInt8} {B : Nat} : ∀ l : List α, (∀ x ∈ l, (f x).length ≤ B) → (l.flatMap f).length ≤ l.length * B
  | [], _ => Nat.zero_le _
  | x :: l, h => by
    have h1 := flat_le l fun y hy => h y (List.mem_cons_of_mem _ hy)
    have h2 := h x (List.mem_cons_self ..)
    rw [List.flatMap_cons, List.length_append, List.length_cons, Nat.add_mul, Nat.one_mul]
    omega
theorem enc_max {t : Sn} (h : Fits t) : (encT t).length ≤ 9000 := by
  obtain ⟨⟨h1, h2, h3, h4, h5⟩, h6, h7, h8⟩ := h
  have k1 := flat_le (f := cFd.enc) (B := 34) t.funds fun x hx => by
    have := h6 x hx
    obtain ⟨n, p, q⟩ := x
    simp only at this
    rw [fd_enc, List.length_append, txt_len, ints_len]
    simp only [List.length_cons, List.length_nil]
    omega
  have k2 := flat_le (f := cAl.enc) (B := 48) t.allocs fun x hx => by rw [al_enc, ints_len]; simp
  have k3 := flat_le (f := cRt.enc) (B := 24) t.rates fun x hx => by rw [rt_enc, ints_len]; simp
  have k4 := flat_le (f := cJb.enc) (B := 352) t.jobs fun x hx => by
    have h9 := h7 x hx
    have h10 := flat_le (f := cDw.enc) (B := 16) x.draws fun y hy => by rw [dw_enc, ints_len]; simp
    rw [jb_enc, List.length_append, ints_len, List.length_append]
    simp only [eleven, List.length_cons, List.length_nil]
    omega
  have k5 := flat_le (f := txt) (B := 18) t.keys fun x hx => by
    have := h8 x hx
    rw [txt_len]; omega
  show (int8 _ ++ (int8 _ ++ (int8 _ ++ ((int8 _ ++ t.funds.flatMap cFd.enc) ++ ((int8 _ ++ t.allocs.flatMap cAl.enc) ++ ((int8 _ ++ t.rates.flatMap cRt.enc) ++ ((int8 _ ++ t.jobs.flatMap cJb.enc) ++ (int8 _ ++ t.keys.flatMap txt)))))))).length ≤ _
  simp only [List.length_append, int8_len]
  omega
abbrev zSv : Sv := ⟨0, 0, 0, [], [], [], [], [], ⟨none, 0, 0⟩, ⟨none, 0, 0⟩, ⟨none, 0, 0⟩, ⟨none, 0, 0⟩, ⟨none, 0, 0⟩⟩
theorem zSv_in (w : World) : zSv.In w := ⟨lst_none _ _ _, lst_none _ _ _, lst_none _ _ _, lst_none _ _ _, lst_none _ _ _, fun y hy => by cases hy⟩
set_option maxHeartbeats 16000000 in
theorem back_any (hP : Prog) (W : World) (x : Sv) (hx : x.In W) (hok : x.t.ok) (ab : Option Addr) (nb cb : Nat) (lb : List UInt8) (hB : Bs W ab nb cb lb) (hnb : nb ≤ 140737488351232) (m : UInt8) (ct : Nat) (hct : ct ≤ 65535) :
    Calls Try.prog 5 #[valV x, .slice ab nb cb, .int .u8 (m.toNat : Int), .int .u16 (ct : Nat)] W fun e W' => e = .returned (.bool true) ∧ Below W.heap.size W W' := by
  have hb1 := below_alloc W (.cells #[.int .i64 x.seq, .int .i64 x.world, .int .i64 x.next, .slice x.f.a x.f.n x.f.c, .slice x.l.a x.l.n x.l.c, .slice x.r.a x.r.n x.r.c, .slice x.j.a x.j.n x.j.c, .slice x.k.a x.k.n x.k.c] 28)
  have hk1 := blk_box W x
  obtain ⟨w1, hw1⟩ : ∃ w1, w1 = W.alloc (.cells #[.int .i64 x.seq, .int .i64 x.world, .int .i64 x.next, .slice x.f.a x.f.n x.f.c, .slice x.l.a x.l.n x.l.c, .slice x.r.a x.r.n x.r.c, .slice x.j.a x.j.n x.j.c, .slice x.k.a x.k.n x.k.c] 28) := ⟨_, rfl⟩
  rw [← hw1] at hb1 hk1
  have HX := Lib.hid (And.intro hb1 (And.intro hk1 (in_keep hx hb1)))
  obtain ⟨T, hT⟩ : ∃ T, T = x.t := ⟨_, rfl⟩
  have HE1 := Lib.hid (hP.encode w1 x (in_keep hx hb1) hok)
  rw [← hT] at HE1 hok
  have HT := Lib.hid hT
  have HAw := Lib.hid (fun w => awake_any hP w)
  have HP := Lib.hid hP
  have HOk := Lib.hid hok
  have HB := Lib.hid hB
  have HW := Lib.hid hw1
  have hnb2 := hnb
  clear hb1 hk1 hx hok hP hB hw1 hnb hT
  go_enter Try.func5, Try.ntmps5
  go_wp2_with fail
  rw [← HW.out]
  refine HE1.out.mono ?_
  rintro e w2 ⟨a2, n2, c2, rfl, hl2, hb2⟩
  have H2 := Lib.hid (And.intro hl2 hb2)
  clear hl2 hb2 HE1
  obtain ⟨ee, hee⟩ : ∃ ee, ee = encE T := ⟨_, rfl⟩
  rw [← hee]
  have HEe := Lib.hid hee
  clear hee
  go_upto_if 27 with fail
  go_cut [8] (fun v wx => v = .bool false ∧ Below w1.heap.size w1 wx)
  case first =>
    by_cases hf : Fits T
    · obtain rfl : ee = 0 := by rw [HEe.out]; exact (enc_yes hf).1
      have hl2 := H2.out.1
      rw [(enc_yes hf).2] at hl2
      have hmax := enc_max hf
      have hmin := enc_some T
      rw [hl2.1] at hmax hmin
      have HL2 := Lib.hid (bs_nb hl2)
      have HF := Lib.hid hf
      have HD3 := Lib.hid (dec_any HP.out (bs_nb hl2) (by omega))
      clear hl2 hf
      go_wp2_with fail
      refine HD3.out.mono ?_
      rintro e w3 ⟨u, rfl, hu, hui, hb3⟩
      rw [(dec_ok (dec_enc HF.out HOk.out)).1] at hu
      rw [(dec_ok (dec_enc HF.out HOk.out)).2]
      have hk4 := blk_box w3 u
      have hb4 := below_alloc w3 (.cells #[.int .i64 u.seq, .int .i64 u.world, .int .i64 u.next, .slice u.f.a u.f.n u.f.c, .slice u.l.a u.l.n u.l.c, .slice u.r.a u.r.n u.r.c, .slice u.j.a u.j.n u.j.c, .slice u.k.a u.k.n u.k.c] 28)
      obtain ⟨w4, hw4⟩ : ∃ w4, w4 = w3.alloc (.cells #[.int .i64 u.seq, .int .i64 u.world, .int .i64 u.next, .slice u.f.a u.f.n u.f.c, .slice u.l.a u.l.n u.l.c, .slice u.r.a u.r.n u.r.c, .slice u.j.a u.j.n u.j.c, .slice u.k.a u.k.n u.k.c] 28) := ⟨_, rfl⟩
      have HW4 := Lib.hid hw4
      rw [← hw4] at hk4 hb4
      have H4 := Lib.hid (And.intro (below_keep hb3 hb4) (And.intro (in_keep hui hb4) (And.intro hk4 hu)))
      clear hui hb3 hk4 hb4 hw4 HD3 hu
      go_upto_region 4 with fail
      rw [← HW4.out]
      have HN1 := Lib.hid (And.intro (own_empty w4 w4.heap.size (Nat.le_refl _)) (And.intro (row_alloc (bs_keep HL2.out H4.out.1).row (.cells #[] 5)) (below_alloc w4 (.cells #[] 5))))
      go_wp2_with (first | (at_builtin; refine append_b rfl (.tmp 34) (.tmp 35) rfl w4.heap.size _ [] rfl HN1.out.1 a2 n2 c2 (encT T) rfl HL2.out.len HN1.out.2.1 HL2.out.nil (by simp; omega) HN1.out.2.2.size ?_) | fail)
      intro v5 w5 ho5 hb5
      have HO5 := Lib.hid (And.intro ho5 ((below_alloc w4 (.cells #[] 5)).trans hb5))
      clear ho5 hb5
      have HN2 := Lib.hid (And.intro (own_keep HO5.out.1 (below_alloc w5 (.cells #[.int .u8 (m.toNat : Int)] 5))) (And.intro (row_one (T := 5) w5 (rfl : Value.int .u8 (m.toNat : Int) = .int .u8 (m.toNat : Int))) (HO5.out.2.trans ((below_alloc w5 (.cells #[.int .u8 (m.toNat : Int)] 5)).mono HO5.out.2.size))))
      go_wp2_with (first | (at_builtin; refine append_b rfl (.tmp 36) (.tmp 38) rfl w4.heap.size _ (encT T) rfl HN2.out.1 (some ⟨w5.heap.size, 0, none⟩) 1 1 [m] rfl rfl HN2.out.2.1 (fun h => by cases h) (by rw [HL2.out.len]; omega) HN2.out.2.2.size ?_) | fail)
      intro v6 w6 ho6 hb6
      obtain ⟨a6, n6, c6, rfl, hl6⟩ := bs_own ho6
      have HB6 := Lib.hid (HN2.out.2.2.trans hb6)
      have HD7 := Lib.hid (dec_any HP.out hl6 (by have := hl6.len; rw [List.length_append, HL2.out.len] at this; simp at this; omega))
      clear ho6 hb6 hl6
      go_wp2_with fail
      refine HD7.out.mono ?_
      rintro e w7 ⟨v, rfl, hv, hvi, hb7⟩
      rw [(dec_no (dec_more HF.out HOk.out m)).2]
      have hb8 := below_alloc w7 (.cells #[.int .i64 v.seq, .int .i64 v.world, .int .i64 v.next, .slice v.f.a v.f.n v.f.c, .slice v.l.a v.l.n v.l.c, .slice v.r.a v.r.n v.r.c, .slice v.j.a v.j.n v.j.c, .slice v.k.a v.k.n v.k.c] 28)
      obtain ⟨w8, hw8⟩ : ∃ w8, w8 = w7.alloc (.cells #[.int .i64 v.seq, .int .i64 v.world, .int .i64 v.next, .slice v.f.a v.f.n v.f.c, .slice v.l.a v.l.n v.l.c, .slice v.r.a v.r.n v.r.c, .slice v.j.a v.j.n v.j.c, .slice v.k.a v.k.n v.k.c] 28) := ⟨_, rfl⟩
      have HW8 := Lib.hid hw8
      rw [← hw8] at hb8
      have hb48 := below_keep HB6.out (below_keep hb7 hb8)
      have hbu := Arr.blk_below H4.out.2.2.1 hb48 (Arr.blk_lt H4.out.2.2.1)
      have hbx := Arr.blk_below HX.out.2.1 (below_keep H2.out.2 (below_keep H4.out.1 hb48)) (Arr.blk_lt HX.out.2.1)
      obtain ⟨p0, p1, p2, p3, p4, p5, p6, p7⟩ := box_cells hbu
      obtain ⟨q0, q1, q2, q3, q4, q5, q6, q7⟩ := box_cells hbx
      have HSa := Lib.hid (rsame_any _ _ _ (in_keep H4.out.2.1 hb48) (in_keep HX.out.2.2 (below_keep H2.out.2 (below_keep H4.out.1 hb48))))
      have HB8 := Lib.hid (below_keep H2.out.2 (below_keep H4.out.1 hb48))
      have HL8 := Lib.hid (bs_keep HL2.out (below_keep H4.out.1 hb48))
      have hn20 : ((n2 : Int) == 0) = false := beq_false_of_ne (by omega)
      clear hv hvi hb7 hb8 hb48 hbu hbx HD7 hw8
      go_upto_region 5 with fail
      rw [← HW8.out]
      go_wp2_with fail
      refine HSa.out.mono ?_
      rintro e w9 ⟨b, rfl, hbt, hb9⟩
      obtain rfl : b = true := hbt.2 (by rw [← HT.out]; exact H4.out.2.2.2)
      have HB9 := Lib.hid (below_keep HB8.out hb9)
      have HL9 := Lib.hid (bs_keep HL8.out hb9)
      clear hbt hb9 p0 p1 p2 p3 p4 p5 p6 p7 q0 q1 q2 q3 q4 q5 q6 q7 HSa
      obtain ⟨k, hk⟩ : ∃ k, k = ct % n2 := ⟨_, rfl⟩
      have hkn : k < n2 := by rw [hk]; exact Nat.mod_lt _ (by omega)
      have hmod : (ct : Int) % (n2 : Int) = (k : Int) := by rw [hk]; rfl
      have hsl := fun w => run_cut a2 n2 k c2 (by omega) HL2.out.cap w
      have HD10 := Lib.hid (dec_any HP.out (bs_take HL9.out k (by omega)) (by omega))
      have HDl := Lib.hid (dec_no (dec_less HF.out HOk.out (show k < (encT T).length by rw [HL2.out.len]; exact hkn))).2
      clear hk
      go_wp2_with fail
      refine HD10.out.mono ?_
      rintro e w10 ⟨v, rfl, hv, hvi, hb10⟩
      rw [HDl.out]
      have HB11 := Lib.hid (below_keep (below_keep HB9.out hb10) (below_alloc w10 (.cells #[.int .i64 v.seq, .int .i64 v.world, .int .i64 v.next, .slice v.f.a v.f.n v.f.c, .slice v.l.a v.l.n v.l.c, .slice v.r.a v.r.n v.r.c, .slice v.j.a v.j.n v.j.c, .slice v.k.a v.k.n v.k.c] 28)))
      clear hv hvi hb10 HD10 hsl
      go_wp2_with fail
      go_meet
      case rel => exact ⟨rfl, HB11.out⟩
    · obtain rfl : ee = 3 := by rw [HEe.out]; exact (enc_no hf).1
      go_wp2_with fail
      go_meet
      case rel => exact ⟨rfl, H2.out.2⟩
  case rest =>
  obtain ⟨rfl, hbc⟩ := hcut
  have HBc := Lib.hid (below_keep HX.out.1 hbc)
  have HDb := Lib.hid (dec_any HP.out (bs_keep HB.out HBc.out) hnb2)
  clear hbc
  go_wp2_with fail
  refine HDb.out.mono ?_
  rintro e w3 ⟨v, rfl, hv, hvi, hb3⟩
  clear HDb
  have hk4 := blk_box w3 v
  have hb4 := below_alloc w3 (.cells #[.int .i64 v.seq, .int .i64 v.world, .int .i64 v.next, .slice v.f.a v.f.n v.f.c, .slice v.l.a v.l.n v.l.c, .slice v.r.a v.r.n v.r.c, .slice v.j.a v.j.n v.j.c, .slice v.k.a v.k.n v.k.c] 28)
  obtain ⟨w4, hw4⟩ : ∃ w4, w4 = w3.alloc (.cells #[.int .i64 v.seq, .int .i64 v.world, .int .i64 v.next, .slice v.f.a v.f.n v.f.c, .slice v.l.a v.l.n v.l.c, .slice v.r.a v.r.n v.r.c, .slice v.j.a v.j.n v.j.c, .slice v.k.a v.k.n v.k.c] 28) := ⟨_, rfl⟩
  have HW4 := Lib.hid hw4
  rw [← hw4] at hk4 hb4
  have H4 := Lib.hid (And.intro (below_keep HBc.out (below_keep hb3 hb4)) (And.intro (in_keep hvi hb4) hk4))
  obtain ⟨p0, p1, p2, p3, p4, p5, p6, p7⟩ := box_cells hk4
  have HV := Lib.hid hv
  have hlt3 : w3.heap.size < w4.heap.size := Arr.blk_lt hk4
  clear hvi hb3 hk4 hb4 hw4 hv
  cases hd : decT lb with
  | none =>
    rw [(dec_no hd).2]
    have HZ := Lib.hid (show v.t = zeroS by rw [HV.out, (dec_no hd).1])
    clear hd
    go_upto_region 12 with fail
    rw [← HW4.out]
    clear p0 p1 p2 p3 p4 p5 p6 p7
    go_wp2_with fail
    refine (HAw.out w4).mono ?_
    rintro e w5 ⟨rfl, hb5⟩
    obtain ⟨p0, p1, p2, p3, p4, p5, p6, p7⟩ := box_cells (Arr.blk_below H4.out.2.2 hb5 (Arr.blk_lt H4.out.2.2))
    have HB5 := Lib.hid (below_keep H4.out.1 hb5)
    have HSa := Lib.hid (rsame_any w5 _ zSv (in_keep H4.out.2.1 hb5) (zSv_in _))
    clear hb5
    go_wp2_with fail
    refine HSa.out.mono ?_
    rintro e w6 ⟨b, rfl, hbt, hb6⟩
    obtain rfl : b = true := hbt.2 HZ.out
    have HB6 := Lib.hid (below_keep HB5.out hb6)
    clear hbt hb6
    go_wp2_with fail
    go_ret
    exact ⟨rfl, HB6.out⟩
  | some u =>
    obtain ⟨e1, e2, e3⟩ := enc_dec hd
    have hz : v.t = u := by rw [HV.out, (dec_ok hd).1]
    rw [(dec_ok hd).2]
    rw [← hz] at e1 e2 e3
    have HEn := Lib.hid (HP.out.encode w4 _ H4.out.2.1 e3)
    rw [(enc_yes e2).1, (enc_yes e2).2, e1] at HEn
    clear hd e1 e2 e3 hz
    go_upto_region 13 with fail
    rw [← HW4.out]
    go_wp2_with fail
    refine HEn.out.mono ?_
    rintro e w5 ⟨a5, n5, c5, rfl, hl5, hb5⟩
    have HL5 := Lib.hid (And.intro hl5 (below_keep H4.out.1 hb5))
    clear hl5 hb5 p0 p1 p2 p3 p4 p5 p6 p7 HEn
    go_wp2_with fail
    refine (HAw.out w5).mono ?_
    rintro e w6 ⟨rfl, hb6⟩
    have HB6 := Lib.hid (below_keep HL5.out.2 hb6)
    have k1 := conv_nb (nb_keep HL5.out.1 hb6)
    have k2 := conv_bs (bs_keep HB.out HB6.out)
    clear hb6
    go_wp2_with fail
    go_ret
    exact ⟨rfl, HB6.out⟩
end Go.Proofs.Ytpmpigglekgfnaa.Snp
