/- Entry: EntryBack, over any entry that does as it should. -/
import Derived.Test.YtcoiebeehgeggaaEntLaw
namespace Go.Proofs.Ytcoiebeehgeggaa.Ent
set_option maxRecDepth 100000
open Go.RowKit
open Go.Sort
open Kit
open Oct
open Tre (Lst inI lst_keep lst_take lst_at lst_new lst_none i64_wf cells_int IntsL int_cell encI encI_len encI_one OwI own_chg' info_i run_ld2 below_drewN')
open Led (Lg encG encG_len encG_one Legs leg_cells)
set_option linter.unusedVariables false
variable {w w' : World}

/-- The cells of a box. -/
theorem cells7 {g : Nat} {x : Tv} (h : Arr.Blk w g 25 (encV x)) : w.cell? ⟨g, 0, none⟩ = some (.int .i64 x.t.seq) ∧ w.cell? ⟨g, 1, none⟩ = some (.int .i64 x.t.time) ∧ w.cell? ⟨g, 2, none⟩ = some (.int .i64 x.t.kind) ∧ w.cell? ⟨g, 3, none⟩ = some (.string x.t.key) ∧ w.cell? ⟨g, 4, none⟩ = some (.string x.t.name) ∧ w.cell? ⟨g, 5, none⟩ = some (.slice x.a1 x.n1 x.c1) ∧ w.cell? ⟨g, 6, none⟩ = some (.slice x.a2 x.n2 x.c2) :=
  ⟨Arr.blk_cell h 0, Arr.blk_cell h 1, Arr.blk_cell h 2, Arr.blk_cell h 3, Arr.blk_cell h 4, Arr.blk_cell h 5, Arr.blk_cell h 6⟩
/-- Bytes where they lie: what Decode asks. -/
structure Bs (w : World) (a : Option Addr) (n c : Nat) (l : List UInt8) : Prop where
  len : l.length = n
  cap : n ≤ c
  max : c ≤ maxLen
  nil : a = none → n = 0 ∧ c = 0
  row : RowB w a l
theorem bs_keep {a : Option Addr} {n c : Nat} {l : List UInt8} (h : Bs w a n c l) (hb : Below w.heap.size w w') : Bs w' a n c l := ⟨h.len, h.cap, h.max, h.nil, row_keep encB_len h.row hb⟩
theorem bs_nb {B : Nat} {a : Option Addr} {n c : Nat} {l : List UInt8} (h : NB w B a n c l) : Bs w a n c l := ⟨h.1, h.2.1, h.2.2.1, h.2.2.2.1, h.2.2.2.2.1⟩
theorem bs_take {a : Option Addr} {n c : Nat} {l : List UInt8} (h : Bs w a n c l) (m : Nat) (hm : m ≤ n) : Bs w a m c (l.take m) :=
  ⟨by rw [List.length_take, h.len]; omega, by have := h.cap; omega, h.max, fun e => ⟨by have := (h.nil e).1; omega, (h.nil e).2⟩, row_take h.row m⟩
theorem bs_own {base : Nat} {v : Value} {l : List UInt8} (h : OwnB w base v l) : ∃ a n c, v = .slice a n c ∧ Bs w a n c l := by
  obtain ⟨a, n, c, rfl, h2⟩ := nb_own (B := 0) h (Nat.zero_le _)
  exact ⟨a, n, c, rfl, bs_nb h2⟩
theorem dec_any (hP : Prog) {a : Option Addr} {n c : Nat} {l : List UInt8} (h : Bs w a n c l) (hn : n ≤ 140737488351232) :
    Calls Try.prog 10 #[.slice a n c] w fun e W' => ∃ x : Tv, e = .returned (.tuple #[valV x, .int .i64 (decE l)]) ∧ x.t = decV l ∧ x.In W' ∧ Below w.heap.size w W' := hP.decode w a n c l h.len h.cap h.max h.nil h.row hn
theorem conv_bs {a : Option Addr} {n c : Nat} {L : List UInt8} (h : Bs w a n c L) : (convert 26 9 (.slice a n c)).run Try.prog w = .ok (.string ⟨L.toArray⟩) w :=
  conv_row Try.underlying26 Try.underlying5 Try.underlying9 h.len (fun e => (h.nil e).1) h.row
theorem enc_max {t : Tx} (h : Fits t) : (encT t).length ≤ 1200 := by
  obtain ⟨h1, h2, h3, h4⟩ := h
  unfold encT head5 head3
  simp only [List.length_append, int8_len, txt_len, ints_len, flatG_len]
  omega

set_option maxHeartbeats 16000000 in
theorem back_any (hP : Prog) (W : World) (x : Tv) (hx : x.In W) (hok : x.t.ok) (ab : Option Addr) (nb cb : Nat) (lb : List UInt8) (hB : Bs W ab nb cb lb) (hnb : nb ≤ 140737488351232) (m : UInt8) :
    Calls Try.prog 5 #[valV x, .slice ab nb cb, .int .u8 (m.toNat : Int)] W fun e W' => e = .returned (.bool true) ∧ Below W.heap.size W W' := by
  have hb1 := below_alloc W (.cells #[.int .i64 x.t.seq, .int .i64 x.t.time, .int .i64 x.t.kind, .string x.t.key, .string x.t.name, .slice x.a1 x.n1 x.c1, .slice x.a2 x.n2 x.c2] 25)
  have hk1 := blk_box W x
  obtain ⟨w1, hw1⟩ : ∃ w1, w1 = W.alloc (.cells #[.int .i64 x.t.seq, .int .i64 x.t.time, .int .i64 x.t.kind, .string x.t.key, .string x.t.name, .slice x.a1 x.n1 x.c1, .slice x.a2 x.n2 x.c2] 25) := ⟨_, rfl⟩
  rw [← hw1] at hb1 hk1
  have HX := Lib.hid (And.intro hb1 (And.intro hk1 (in_keep hx hb1)))
  have HE1 := Lib.hid (hP.encode w1 x (in_keep hx hb1) hok)
  have HAw := Lib.hid (fun w => awake_any hP w)
  have HP := Lib.hid hP
  have HOk := Lib.hid hok
  have HB := Lib.hid hB
  have HW := Lib.hid hw1
  have hnb2 := hnb
  clear hb1 hk1 hx hok hP hB hw1 hnb
  go_enter Try.func5, Try.ntmps5
  go_wp2_with fail
  rw [← HW.out]
  refine HE1.out.mono ?_
  rintro e w2 ⟨a2, n2, c2, rfl, hl2, hb2⟩
  have H2 := Lib.hid (And.intro hl2 hb2)
  clear hl2 hb2 HE1
  obtain ⟨ee, hee⟩ : ∃ ee, ee = encE x.t := ⟨_, rfl⟩
  rw [← hee]
  have HEe := Lib.hid hee
  clear hee
  go_upto_if 25 with fail
  go_cut [6] (fun v wx => v = .bool false ∧ Below w1.heap.size w1 wx)
  case first =>
    by_cases hf : Fits x.t
    · obtain rfl : ee = 0 := by rw [HEe.out]; exact (enc_yes hf).1
      have hl2 := H2.out.1
      rw [(enc_yes hf).2] at hl2
      have hmax := enc_max hf
      have hmin := enc_some x.t
      rw [hl2.1] at hmax hmin
      have HL2 := Lib.hid (bs_nb hl2)
      have HF := Lib.hid hf
      have HD3 := Lib.hid (dec_any HP.out (bs_nb hl2) (by omega))
      clear hl2 hf
      go_wp2_with fail
      refine HD3.out.mono ?_
      rintro e w3 ⟨u, rfl, hu, hui, hb3⟩
      rw [(dec_ok (dec_enc HF.out HOk.out)).2] at hu
      rw [(dec_ok (dec_enc HF.out HOk.out)).1]
      obtain ⟨ut, ua, un, uc, ua2, un2, uc2⟩ := u
      simp only at hu
      subst hu
      have hk4 := blk_box w3 ⟨x.t, ua, un, uc, ua2, un2, uc2⟩
      have hb4 := below_alloc w3 (.cells #[.int .i64 x.t.seq, .int .i64 x.t.time, .int .i64 x.t.kind, .string x.t.key, .string x.t.name, .slice ua un uc, .slice ua2 un2 uc2] 25)
      simp only at hk4 hb4 ⊢
      obtain ⟨w4, hw4⟩ : ∃ w4, w4 = w3.alloc (.cells #[.int .i64 x.t.seq, .int .i64 x.t.time, .int .i64 x.t.kind, .string x.t.key, .string x.t.name, .slice ua un uc, .slice ua2 un2 uc2] 25) := ⟨_, rfl⟩
      have HW4 := Lib.hid hw4
      rw [← hw4] at hk4 hb4
      have H4 := Lib.hid (And.intro (below_keep hb3 hb4) (And.intro (in_keep hui hb4) hk4))
      clear hui hb3 hk4 hb4 hw4 HD3
      go_upto_region 4 with fail
      rw [← HW4.out]
      have HN1 := Lib.hid (And.intro (own_empty w4 w4.heap.size (Nat.le_refl _)) (And.intro (row_alloc (bs_keep HL2.out H4.out.1).row (.cells #[] 5)) (below_alloc w4 (.cells #[] 5))))
      go_wp2_with (first | (at_builtin; refine append_b rfl (.tmp 32) (.tmp 33) rfl w4.heap.size _ [] rfl HN1.out.1 a2 n2 c2 (encT x.t) rfl HL2.out.len HN1.out.2.1 HL2.out.nil (by simp; omega) HN1.out.2.2.size ?_) | fail)
      intro v5 w5 ho5 hb5
      have HO5 := Lib.hid (And.intro ho5 ((below_alloc w4 (.cells #[] 5)).trans hb5))
      clear ho5 hb5
      have HN2 := Lib.hid (And.intro (own_keep HO5.out.1 (below_alloc w5 (.cells #[.int .u8 (m.toNat : Int)] 5))) (And.intro (row_one (T := 5) w5 (rfl : Value.int .u8 (m.toNat : Int) = .int .u8 (m.toNat : Int))) (HO5.out.2.trans ((below_alloc w5 (.cells #[.int .u8 (m.toNat : Int)] 5)).mono HO5.out.2.size))))
      go_wp2_with (first | (at_builtin; refine append_b rfl (.tmp 34) (.tmp 36) rfl w4.heap.size _ (encT x.t) rfl HN2.out.1 (some ⟨w5.heap.size, 0, none⟩) 1 1 [m] rfl rfl HN2.out.2.1 (fun h => by cases h) (by rw [HL2.out.len]; omega) HN2.out.2.2.size ?_) | fail)
      intro v6 w6 ho6 hb6
      obtain ⟨a6, n6, c6, rfl, hl6⟩ := bs_own ho6
      have HB6 := Lib.hid (HN2.out.2.2.trans hb6)
      have HD7 := Lib.hid (dec_any HP.out hl6 (by have := hl6.len; rw [List.length_append, HL2.out.len] at this; simp at this; omega))
      clear ho6 hb6 hl6
      go_wp2_with fail
      refine HD7.out.mono ?_
      rintro e w7 ⟨v, rfl, hv, hvi, hb7⟩
      rw [(dec_no (dec_more HF.out HOk.out m)).1]
      obtain ⟨vt, va, vn, vc, va2, vn2, vc2⟩ := v
      have hb8 := below_alloc w7 (.cells #[.int .i64 vt.seq, .int .i64 vt.time, .int .i64 vt.kind, .string vt.key, .string vt.name, .slice va vn vc, .slice va2 vn2 vc2] 25)
      have hb48 := below_keep HB6.out (below_keep hb7 hb8)
      have hbu := Arr.blk_below H4.out.2.2 hb48 (Arr.blk_lt H4.out.2.2)
      have hbx := Arr.blk_below HX.out.2.1 (below_keep H2.out.2 (below_keep H4.out.1 hb48)) (Arr.blk_lt HX.out.2.1)
      obtain ⟨p0, p1, p2, p3, p4, p5, p6⟩ := cells7 hbu
      obtain ⟨q0, q1, q2, q3, q4, q5, q6⟩ := cells7 hbx
      have HSa := Lib.hid (rsame_any _ _ _ (in_keep H4.out.2.1 hb48) (in_keep HX.out.2.2 (below_keep H2.out.2 (below_keep H4.out.1 hb48))))
      have HB8 := Lib.hid (below_keep H2.out.2 (below_keep H4.out.1 hb48))
      have HL8 := Lib.hid (bs_keep HL2.out (below_keep H4.out.1 hb48))
      simp only at p0 p1 p2 p3 p4 p5 p6 HSa ⊢
      clear hv hvi hb7 hb8 hb48 hbu hbx HD7
      go_wp2_with fail
      refine HSa.out.mono ?_
      rintro e w9 ⟨b, rfl, hbt, hb9⟩
      obtain rfl : b = true := hbt.2 (by first | trivial | rfl)
      have HB9 := Lib.hid (below_keep HB8.out hb9)
      have HL9 := Lib.hid (bs_keep HL8.out hb9)
      clear hbt hb9 p0 p1 p2 p3 p4 p5 p6 q0 q1 q2 q3 q4 q5 q6 HSa
      have hn20 : ((n2 : Int) == 0) = false := beq_false_of_ne (by omega)
      have hsl := fun w => run_less a2 n2 c2 (by omega) HL2.out.cap w
      have HD10 := Lib.hid (dec_any HP.out (bs_take HL9.out (n2 - 1) (by omega)) (by omega))
      have hdl : decT ((encT x.t).take (n2 - 1)) = none := by
        have h := dec_less HF.out HOk.out
        rw [HL2.out.len] at h
        exact h
      have HDl := Lib.hid (dec_no hdl).1
      clear hdl
      go_wp2_with fail
      refine HD10.out.mono ?_
      rintro e w10 ⟨v, rfl, hv, hvi, hb10⟩
      rw [HDl.out]
      obtain ⟨vt, va, vn, vc, va2, vn2, vc2⟩ := v
      have HB11 := Lib.hid (below_keep (below_keep HB9.out hb10) (below_alloc w10 (.cells #[.int .i64 vt.seq, .int .i64 vt.time, .int .i64 vt.kind, .string vt.key, .string vt.name, .slice va vn vc, .slice va2 vn2 vc2] 25)))
      simp only
      clear hv hvi hb10 HD10 hsl
      go_wp2_with fail
      go_meet
      case rel => exact ⟨rfl, HB11.out⟩
    · obtain rfl : ee = 3 := by rw [HEe.out]; exact (enc_no hf).1
      go_wp2_with fail
      go_meet
      case rel => exact ⟨rfl, H2.out.2⟩
  case rest =>
  obtain ⟨rfl, hbc⟩ := hcut
  have HBc := Lib.hid (below_keep HX.out.1 hbc)
  have HDb := Lib.hid (dec_any HP.out (bs_keep HB.out HBc.out) hnb2)
  clear hbc
  go_wp2_with fail
  refine HDb.out.mono ?_
  rintro e w3 ⟨v, rfl, hv, hvi, hb3⟩
  clear HDb
  obtain ⟨vt, va, vn, vc, va2, vn2, vc2⟩ := v
  have hk4 := blk_box w3 ⟨vt, va, vn, vc, va2, vn2, vc2⟩
  have hb4 := below_alloc w3 (.cells #[.int .i64 vt.seq, .int .i64 vt.time, .int .i64 vt.kind, .string vt.key, .string vt.name, .slice va vn vc, .slice va2 vn2 vc2] 25)
  simp only at hk4 hb4 hv ⊢
  obtain ⟨w4, hw4⟩ : ∃ w4, w4 = w3.alloc (.cells #[.int .i64 vt.seq, .int .i64 vt.time, .int .i64 vt.kind, .string vt.key, .string vt.name, .slice va vn vc, .slice va2 vn2 vc2] 25) := ⟨_, rfl⟩
  have HW4 := Lib.hid hw4
  rw [← hw4] at hk4 hb4
  have H4 := Lib.hid (And.intro (below_keep HBc.out (below_keep hb3 hb4)) (And.intro (in_keep hvi hb4) hk4))
  obtain ⟨p0, p1, p2, p3, p4, p5, p6⟩ := cells7 hk4
  simp only at p0 p1 p2 p3 p4 p5 p6
  have HV := Lib.hid hv
  have hlt3 : w3.heap.size < w4.heap.size := Arr.blk_lt hk4
  clear hvi hb3 hk4 hb4 hw4 hv
  cases hd : decT lb with
  | none =>
    rw [(dec_no hd).1]
    have HZ := Lib.hid (show vt = zeroT by rw [HV.out, (dec_no hd).2])
    clear hd
    go_upto_region 12 with fail
    rw [← HW4.out]
    clear p0 p1 p2 p3 p4 p5 p6
    go_wp2_with fail
    refine (HAw.out w4).mono ?_
    rintro e w5 ⟨rfl, hb5⟩
    obtain ⟨p0, p1, p2, p3, p4, p5, p6⟩ := cells7 (Arr.blk_below H4.out.2.2 hb5 (Arr.blk_lt H4.out.2.2))
    simp only at p0 p1 p2 p3 p4 p5 p6
    have HB5 := Lib.hid (below_keep H4.out.1 hb5)
    have HSa := Lib.hid (rsame_any w5 _ ⟨zeroT, none, 0, 0, none, 0, 0⟩ (in_keep H4.out.2.1 hb5) ⟨lst_none _ _ _, lst_none _ _ _, by unfold maxLen zeroT; decide, by unfold maxLen zeroT; decide⟩)
    clear hb5
    go_wp2_with fail
    refine HSa.out.mono ?_
    rintro e w6 ⟨b, rfl, hbt, hb6⟩
    obtain rfl : b = true := hbt.2 HZ.out
    have HB6 := Lib.hid (below_keep HB5.out hb6)
    clear hbt hb6
    go_wp2_with fail
    go_ret
    exact ⟨rfl, HB6.out⟩
  | some u =>
    obtain ⟨e1, e2, e3⟩ := enc_dec hd
    have HZ := Lib.hid (show vt = u by rw [HV.out, (dec_ok hd).2])
    rw [(dec_ok hd).1]
    have hz := HZ.out
    subst hz
    have HEn := Lib.hid (HP.out.encode w4 _ H4.out.2.1 e3)
    have HEe := Lib.hid (And.intro (enc_yes e2) e1)
    clear hd e1 e2 e3
    go_upto_region 13 with fail
    rw [← HW4.out]
    go_wp2_with fail
    refine HEn.out.mono ?_
    rintro e w5 ⟨a5, n5, c5, rfl, hl5, hb5⟩
    have HL5 := Lib.hid (And.intro (show NB w5 w4.heap.size a5 n5 c5 lb by
      have h := hl5
      rw [HEe.out.1.2, HEe.out.2] at h
      exact h) (below_keep H4.out.1 hb5))
    rw [HEe.out.1.1]
    clear hl5 hb5 p0 p1 p2 p3 p4 p5 p6 HEn
    go_wp2_with fail
    refine (HAw.out w5).mono ?_
    rintro e w6 ⟨rfl, hb6⟩
    have HB6 := Lib.hid (below_keep HL5.out.2 hb6)
    have k1 := conv_nb (nb_keep HL5.out.1 hb6)
    have k2 := conv_bs (bs_keep HB.out HB6.out)
    clear hb6
    go_wp2_with fail
    go_ret
    exact ⟨rfl, HB6.out⟩
end Go.Proofs.Ytcoiebeehgeggaa.Ent
