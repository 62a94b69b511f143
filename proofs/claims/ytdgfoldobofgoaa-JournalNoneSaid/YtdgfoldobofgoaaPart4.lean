/- Common to the claims of this seat, part 4: texts that were written one by one, laid behind one another. -/
import Derived.Deep.CutBlock
import Derived.Test.YtdgfoldobofgoaaPart3
/- Frame: the landed read and Unpack; the landed frame keeps all its contracts. -/
namespace Go.Proofs.Ytdgfoldobofgoaa.Frm
open Go.RowKit
open Go.Sort
open Kit
open Oct
open Chk
open Rng
set_option linter.unusedVariables false

theorem or_two (x y : UInt8) : Go.bits .or .i64 ((x.toNat : Int) * 256) (y.toNat : Int) = ((x.toNat * 256 + y.toNat : Nat) : Int) := by
  have h1 := x.toNat_lt
  have h2 := y.toNat_lt
  have h : (BitVec.ofInt 64 ((x.toNat : Int) * 256) ||| BitVec.ofInt 64 (y.toNat : Int)).toNat = x.toNat * 256 + y.toNat := by
    rw [BitVec.toNat_or, BitVec.toNat_ofInt, BitVec.toNat_ofInt, show ((x.toNat : Int) * 256 % ((2 ^ 64 : Nat) : Int)).toNat = x.toNat * 256 by omega, show ((y.toNat : Int) % ((2 ^ 64 : Nat) : Int)).toNat = y.toNat by omega]
    exact nat_join 8 _ _ (by omega) (by omega)
  show IntKind.i64.wrap ((BitVec.ofInt 64 ((x.toNat : Int) * 256) ||| BitVec.ofInt 64 (y.toNat : Int)).toNat : Int) = _
  rw [h, IntKind.wrap_i64]; omega

/-- What read answers. -/
def ReadR (w : World) (s : Bs) (e' : Ending) (w' : World) : Prop := (unpackB s = none ∧ e' = .returned (.tuple #[.slice none 0 0, .bool false]) ∨ ∃ e q b k v, unpackB s = some (e, q, b, k) ∧ e' = .returned (.tuple #[v, .bool true]) ∧ NewB w' w.heap.size v b) ∧ Below w.heap.size w w'

set_option maxRecDepth 100000 in
set_option maxHeartbeats 8000000 in
theorem read_any (aa : Option Addr) (len cap : Nat) (l : Bs) (w : World) (h : Arg w aa len cap l) (hm : len ≤ 4000) : Calls Try.prog 46 #[.slice aa len cap] w fun e' w' => ReadR w l e' w' := by
  obtain ⟨hl, hlc, hcm, hn, hE⟩ := h
  subst hl
  by_cases h32 : l.length < 32
  · have h32i : (l.length : Int) < 32 := by omega
    have HN := Lib.hid (show unpackB l = none by unfold unpackB; rw [if_pos h32])
    clear hE
    go_enter Try.func46, Try.ntmps46
    go_wp2
    go_ret2
    exact ⟨.inl ⟨HN.out, rfl⟩, Below.refl _ _⟩
  · obtain ⟨b, o, rfl⟩ := row_at hE (by omega)
    have h32i : ¬ (l.length : Int) < 32 := by omega
    have x0 := byte_at hE (k := 0) (by omega)
    have x1 := byte_at hE (k := 1) (by omega)
    rw [Nat.add_zero] at x0
    have hnn : (l.getD 0 0).toNat * 256 + (l.getD 1 0).toNat = two l := by unfold two; omega
    have hn3 := two_lt l
    have HE := Lib.hid hE
    have HX := Lib.hid (And.intro x0 x1)
    have HLand := Lib.hid (fun hk => unpack_land h32 hk)
    obtain ⟨n, hnt⟩ : ∃ n, n = two l := ⟨_, rfl⟩
    rw [← hnt] at hnn hn3 HLand
    have HNN := Lib.hid hnn
    generalize l.getD 0 0 = X0 at *
    generalize l.getD 1 0 = X1 at *
    obtain ⟨K, hK⟩ : ∃ K, secs n = K := ⟨_, rfl⟩
    have hsp : 1 ≤ K := by rw [← hK]; exact secs_pos n
    have hsr : n + 6 ≤ 24 * K := by rw [← hK]; exact secs_room n
    have hsl : K ≤ 2732 := by rw [← hK]; unfold secs; omega
    have HNone := Lib.hid (fun (hk : l.length < 32 * K) => show unpackB l = none by
      unfold unpackB
      rw [if_neg h32, if_pos (by rw [← hnt, hK]; exact hk)])
    rw [hK] at HLand
    have HK := Lib.hid hK
    unfold maxLen at hcm
    clear hE x0 x1 hnn hnt hn hK
    go_enter Try.func46, Try.ntmps46
    go_wp2_with fail
    refine Chn.wp_region_chain (fun idx => match idx with | 0 => some (.slice (some ⟨b, o, none⟩) l.length cap) | 1 => some (.pointer (some ⟨b, o, none⟩)) | 2 => some (.int .u8 (X0.toNat : Int)) | 3 => some (.int .i64 (X0.toNat : Int)) | 4 => some (.int .i64 ((X0.toNat : Int) * 256)) | 5 => some (.slice (some ⟨b, o, none⟩) l.length cap) | 6 => some (.pointer (some ⟨b, o + 1, none⟩)) | 7 => some (.int .u8 (X1.toNat : Int)) | 8 => some (.int .i64 (X1.toNat : Int)) | 9 => some (.int .i64 (n : Nat)) | 10 => some (.int .i64 (n : Nat)) | _ => none) [] (fun (_ : Nat) (_ : List Value) (ww : World) => ww = w.drew) (by kernel_rfl) (by kernel_rfl) (by kernel_rfl) (by kernel_rfl) (by kernel_rfl) (by decide) (by kernel_rfl) (rfl) ?_ ?_
    · refine ⟨?_, ?_, ?_, ?_, ?_, ?_, ?_, ?_, ?_, ?_, ?_, trivial⟩
      · intro a ww jj vs c hj0 hΦ
        have hj : jj ≤ 0 := Nat.le_trans hj0 (of_decide_eq_true (by kernel_rfl))
        refine .inl ⟨Rel.wanted_free (by kernel_rfl) _, ?_⟩
        exact Rel.wp_mv _ rfl ⟨congrArg (a.put _) (c.old 0 (v := .slice (some ⟨b, o, none⟩) l.length cap) (by kernel_rfl) (by kernel_rfl)), rfl⟩
      · intro a ww jj vs c hj0 hΦ
        have hj : jj ≤ 0 := Nat.le_trans hj0 (of_decide_eq_true (by kernel_rfl))
        refine .inl ⟨Rel.wanted_free (by kernel_rfl) _, ?_⟩
        exact Rel.wp_ia _ _ _ rfl (c.get 0 11 (by kernel_rfl) rfl) rfl (run_at_b b o _ cap 0 (by omega) _) ⟨rfl, rfl⟩
      · intro a ww jj vs c hj0 hΦ
        have hj : jj ≤ 0 := Nat.le_trans hj0 (of_decide_eq_true (by kernel_rfl))
        refine .inl ⟨Rel.wanted_free (by kernel_rfl) _, ?_⟩
        exact Rel.wp_ld _ _ rfl (c.get 1 12 (by kernel_rfl) rfl) (by rw [show ww = w.drew from hΦ]; exact run_ld_byte (w := w.drew) HX.out.1) ⟨rfl, rfl⟩
      · intro a ww jj vs c hj0 hΦ
        have hj : jj ≤ 0 := Nat.le_trans hj0 (of_decide_eq_true (by kernel_rfl))
        refine .inl ⟨Rel.wanted_free (by kernel_rfl) _, ?_⟩
        exact Rel.wp_cv _ _ _ rfl (c.get 2 13 (by kernel_rfl) rfl) (run_cv_byte X0 _) ⟨rfl, rfl⟩
      · intro a ww jj vs c hj0 hΦ
        have hj : jj ≤ 0 := Nat.le_trans hj0 (of_decide_eq_true (by kernel_rfl))
        refine .inl ⟨Rel.wanted_free (by kernel_rfl) _, ?_⟩
        exact Rel.wp_bo _ _ _ _ _ rfl (c.get 3 14 (by kernel_rfl) rfl) rfl (by have := X0.toNat_lt; simp [go_sem, IntKind.wrap_i64]; omega) ⟨rfl, rfl⟩
      · intro a ww jj vs c hj0 hΦ
        have hj : jj ≤ 0 := Nat.le_trans hj0 (of_decide_eq_true (by kernel_rfl))
        refine .inl ⟨Rel.wanted_free (by kernel_rfl) _, ?_⟩
        exact Rel.wp_mv _ rfl ⟨congrArg (a.put _) (c.old 0 (v := .slice (some ⟨b, o, none⟩) l.length cap) (by kernel_rfl) (by kernel_rfl)), rfl⟩
      · intro a ww jj vs c hj0 hΦ
        have hj : jj ≤ 0 := Nat.le_trans hj0 (of_decide_eq_true (by kernel_rfl))
        refine .inl ⟨Rel.wanted_free (by kernel_rfl) _, ?_⟩
        exact Rel.wp_ia _ _ _ rfl (c.get 5 16 (by kernel_rfl) rfl) rfl (run_at_b b o _ cap 1 (by omega) _) ⟨rfl, rfl⟩
      · intro a ww jj vs c hj0 hΦ
        have hj : jj ≤ 0 := Nat.le_trans hj0 (of_decide_eq_true (by kernel_rfl))
        refine .inl ⟨Rel.wanted_free (by kernel_rfl) _, ?_⟩
        exact Rel.wp_ld _ _ rfl (c.get 6 17 (by kernel_rfl) rfl) (by rw [show ww = w.drew from hΦ]; exact run_ld_byte (w := w.drew) HX.out.2) ⟨rfl, rfl⟩
      · intro a ww jj vs c hj0 hΦ
        have hj : jj ≤ 0 := Nat.le_trans hj0 (of_decide_eq_true (by kernel_rfl))
        refine .inl ⟨Rel.wanted_free (by kernel_rfl) _, ?_⟩
        exact Rel.wp_cv _ _ _ rfl (c.get 7 18 (by kernel_rfl) rfl) (run_cv_byte X1 _) ⟨rfl, rfl⟩
      · intro a ww jj vs c hj0 hΦ
        have hj : jj ≤ 0 := Nat.le_trans hj0 (of_decide_eq_true (by kernel_rfl))
        refine .inl ⟨Rel.wanted_free (by kernel_rfl) _, ?_⟩
        exact Rel.wp_bo _ _ _ _ _ rfl (c.get 4 15 (by kernel_rfl) rfl) (c.get 8 19 (by kernel_rfl) rfl) (by simp only [go_sem]; simp; rw [or_two, HNN.out]) ⟨rfl, rfl⟩
      · intro a ww jj vs c hj0 hΦ
        have hj : jj ≤ 0 := Nat.le_trans hj0 (of_decide_eq_true (by kernel_rfl))
        refine .inl ⟨Rel.wanted_free (by kernel_rfl) _, ?_⟩
        exact Rel.wp_as _ rfl ⟨congrArg (a.put _) (c.get 9 20 (by kernel_rfl) rfl), rfl⟩
    intro a w8 hbase hroom hdef hΦ hV
    have h : (fun (_ : Nat) (_ : List Value) (ww : World) => ww = w.drew) 0 [] w8 := hΦ
    have s4 := hV 10 _ 4 _ rfl rfl rfl
    rw [Chn.act_puts [11, 12, 13, 14, 15, 16, 17, 18, 19, 20, 4] hbase hroom hdef (by kernel_rfl)]
    clear hbase hroom hdef hΦ hV
    simp only [List.foldl_cons, List.foldl_nil]
    generalize Rel.slot a 11 = u11 at *
    generalize Rel.slot a 12 = u12 at *
    generalize Rel.slot a 13 = u13 at *
    generalize Rel.slot a 14 = u14 at *
    generalize Rel.slot a 15 = u15 at *
    generalize Rel.slot a 16 = u16 at *
    generalize Rel.slot a 17 = u17 at *
    generalize Rel.slot a 18 = u18 at *
    generalize Rel.slot a 19 = u19 at *
    generalize Rel.slot a 20 = u20 at *
    rw [s4]
    clear s4
    subst h
    go_wp2_with fail
    refine (sectors_is n K (by omega) HK.out _).mono ?_
    rintro e1 w1 ⟨rfl, hw⟩
    subst hw
    by_cases hk : l.length < 32 * K
    · have hki : (l.length : Int) / 32 < (K : Int) := by omega
      have HN := Lib.hid (HNone.out hk)
      go_wp2
      go_ret2
      exact ⟨.inl ⟨HN.out, rfl⟩, below_drew w⟩
    · have hki : ¬ (l.length : Int) / 32 < (K : Int) := by omega
      have HU := Lib.hid (HLand.out hk)
      have hn19 : n ≤ 3000 := by omega
      have hnl : 24 * K ≤ 3000 := by omega
      clear hsl
      go_wp2_with fail
      refine (stamped_any b o l.length cap K l w.drew rfl (by omega) hlc (by unfold maxLen; omega) HE.out).mono ?_
      rintro e2 w2 ⟨⟨r, rfl, hr⟩, hw⟩
      subst hw
      cases r with
      | false =>
        have HN := Lib.hid (show unpackB l = none by
          rw [HU.out, if_neg]
          rintro ⟨h1, _⟩
          exact absurd (hr.2 h1) (by decide))
        clear hr
        go_wp2
        go_ret2
        exact ⟨.inl ⟨HN.out, rfl⟩, below_drew w⟩
      | true =>
        have HAlike := Lib.hid (hr.1 rfl)
        obtain ⟨n32, hn32⟩ : ∃ n, n = 32 * K := ⟨_, rfl⟩
        have hmul : (K : Int) * 32 = (n32 : Nat) := by omega
        have hle32 : n32 ≤ l.length := by omega
        have HD := dataIn_any b o cap K l w.drew hsp (by omega) hm (by omega) (by unfold maxLen; omega) HE.out
        rw [← hn32] at HD
        have HDat := Lib.hid HD
        clear hr HD hn32 hki hk
        go_wp2_with fail
        refine HDat.out.mono ?_
        rintro e3 w3 ⟨vd, rfl, hod, hbd⟩
        have hdl := dataL_length l K
        obtain ⟨gd, cd, rfl, hrd, hgb, hgl, hdc, hdm⟩ := own_form hod (by rw [hdl]; omega)
        rw [hdl] at hdc ⊢
        unfold maxLen at hdm
        have hbody := row_take (row_from hrd 6) n
        rw [Nat.zero_add, ← body_data l hsr] at hbody
        have HBd := Lib.hid (And.intro hrd (And.intro hbody (And.intro hdl (And.intro hgb hgl))))
        have HB3 := Lib.hid hbd
        clear hod hbd hrd hbody hdl hgb hgl
        go_wp2_with fail
        refine (stampAt_any b o l.length cap 0 l w3 rfl (by omega) hlc (by unfold maxLen; omega) (row_keep encB_len (show RowB w.drew (some ⟨b, o, none⟩) l from HE.out) HB3.out)).mono ?_
        rintro e4 w4 ⟨sv, rfl, hsv, hw⟩
        subst hw
        have HSv := Lib.hid hsv
        clear hsv
        go_wp2_with fail
        have hArg : Arg w3 (some ⟨gd, 6, none⟩) n (cd - 6) (bodyB l n) := ⟨bodyB_length l n, by omega, by unfold maxLen; omega, (fun h => by cases h), HBd.out.2.1⟩
        refine (dataOf_any sv (stampL l 0) (some ⟨gd, 6, none⟩) n (cd - 6) (bodyB l n) w3 HSv.out (stampL_length (by omega)) hArg hn19).mono ?_
        rintro e5 w5 ⟨gp, cp, rfl, hop, hbp⟩
        have hsn := HK.out
        rw [hsn] at hop ⊢
        have HP := Lib.hid (And.intro (own_row' hop) hbp)
        clear hArg hop hbp hsn
        go_wp2_with fail
        refine (equal_any (some ⟨gd, 0, none⟩) (some ⟨gp, 0, none⟩) (24 * K) (24 * K) cd cp (dataL l K) (dataP (stampL l 0) (bodyB l n)) w5 HBd.out.2.2.1 (by rw [dataP_length, bodyB_length, HK.out]) (fun h => by cases h) (fun h => by cases h) (row_keep encB_len HBd.out.1 HP.out.2) HP.out.1).mono ?_
        rintro e6 w6 ⟨rfl, hw⟩
        subst hw
        have HB5 := Lib.hid ((below_drew w).trans ((HB3.out.mono (Nat.le_refl _)).trans (HP.out.2.mono HB3.out.size)))
        by_cases heq : dataL l K = dataP (stampL l 0) (bodyB l n)
        · rw [decide_eq_true heq]
          have HS := Lib.hid (show unpackB l = some (numK l 24 4, numK l 28 4, bodyB l n, K) by rw [HU.out, if_pos ⟨HAlike.out, heq⟩])
          have HNew := Lib.hid (show NewB w5 w.heap.size (.slice (some ⟨gd, 6, none⟩) n (cd - 6)) (bodyB l n) from ⟨some ⟨gd, 6, none⟩, cd - 6, by rw [bodyB_length], by rw [bodyB_length]; omega, by unfold maxLen; omega, (fun h => by cases h), row_keep encB_len HBd.out.2.1 HP.out.2, fun q hq => by
            injection hq with hq
            subst hq
            exact ⟨HBd.out.2.2.2.1, Nat.lt_of_lt_of_le HBd.out.2.2.2.2 HP.out.2.size⟩⟩)
          clear heq
          go_wp2
          go_ret2
          exact ⟨.inr ⟨_, _, _, _, _, HS.out, rfl, HNew.out⟩, HB5.out⟩
        · rw [decide_eq_false heq]
          have HN := Lib.hid (show unpackB l = none by rw [HU.out, if_neg fun h => heq h.2])
          clear heq
          go_wp2
          go_ret2
          exact ⟨.inl ⟨HN.out, rfl⟩, HB5.out⟩

theorem unpack_nums {s : Bs} {e q k : Nat} {b : Bs} (h : unpackB s = some (e, q, b, k)) : mark e q = stampL s 0 ∧ 32 ≤ s.length := by
  unfold unpackB at h
  split at h
  · cases h
  · rename_i h32
    split at h
    · cases h
    · split at h
      · injection h with h
        injection h with h4 h
        injection h with h5 h
        subst h4 h5
        exact ⟨mark_stamp (by omega), by omega⟩
      · cases h

set_option maxRecDepth 100000 in
set_option maxHeartbeats 4000000 in
theorem unpack_any (aa : Option Addr) (len cap : Nat) (l : Bs) (w : World) (h : Arg w aa len cap l) (hm : len ≤ 4000) : Calls Try.prog 37 #[.slice aa len cap] w fun e' w' => UnpN w l e' w' := by
  have HA := Lib.hid h
  clear h
  go_enter Try.func37, Try.ntmps37
  go_wp2_with fail
  refine (read_any aa len cap l w HA.out hm).mono ?_
  rintro e1 w1 ⟨(⟨hn, rfl⟩ | ⟨e, q, b, k, v, hs, rfl, hv⟩), hb⟩
  · have HB := Lib.hid hb
    have HN := Lib.hid (ansU_none hn)
    clear hb hn
    go_wp2
    refine bodyPost_ret (results_tmp5 rfl _ _ _) rfl ?_
    show UnpN w l _ _
    unfold UnpN
    rw [HN.out]
    exact ⟨_, rfl, new_nil _ _, HB.out⟩
  · obtain ⟨h1, h2, h3, h4, h5, h6⟩ := unpack_some hs
    obtain ⟨h7, h8⟩ := unpack_nums hs
    have HS := Lib.hid (ansU_some hs)
    obtain ⟨av, cv, rfl, hv1, hv2, hv3, hv4, hv5⟩ := hv
    have hl := HA.out.len
    have hlc := HA.out.cap
    have hcm := HA.out.max
    have hr := HA.out.row
    obtain ⟨sb, so, rfl⟩ := row_at hr (by omega)
    have HR := Lib.hid (row_keep encB_len hr hb)
    have HB := Lib.hid hb
    have HV := Lib.hid (show NewB w1 w.heap.size (.slice av b.length cv) b from ⟨av, cv, rfl, hv1, hv2, hv3, hv4, hv5⟩)
    have HM := Lib.hid h7
    have HK := Lib.hid h4
    have hbl : b.length ≤ 65535 := by omega
    unfold maxLen at hcm hv2
    clear hs h6 h7 hr hb hv3 hv4 hv5 h4
    subst hl
    go_wp2_with fail
    refine (stampAt_any sb so l.length cap 0 l w1 rfl (by omega) hlc (by unfold maxLen; omega) HR.out).mono ?_
    rintro e4 w4 ⟨sv, rfl, hsv, hw⟩
    subst hw
    rw [← HM.out] at hsv
    have HSv := Lib.hid hsv
    clear hsv
    go_wp2_with fail
    refine (halves_any sv e q h1 h2 w1 HSv.out).mono ?_
    rintro e5 w5 ⟨rfl, hb5⟩
    have HB5 := Lib.hid (below_keep HB.out hb5)
    have HV5 := Lib.hid (show NewB w5 w.heap.size (.slice av b.length cv) b from by
      obtain ⟨a, c, he, n1, n2, n3, n4, n5⟩ := HV.out
      exact ⟨a, c, he, n1, n2, n3, row_keep encB_len n4 hb5, fun q hq => ⟨(n5 q hq).1, Nat.lt_of_lt_of_le (n5 q hq).2 hb5.size⟩⟩)
    clear hb5
    go_wp2_with fail
    refine (sectors_is b.length k hbl HK.out.symm w5).mono ?_
    rintro e6 w6 ⟨rfl, hw⟩
    subst hw
    go_wp2
    refine bodyPost_ret (results_tmp5 rfl _ _ _) rfl ?_
    show UnpN w l _ _
    unfold UnpN
    rw [HS.out]
    exact ⟨_, rfl, HV5.out, HB5.out⟩

/-- The landed frame keeps its contracts. -/
theorem frame_prog : Prog where
  sectors := fun n w hn => (sectors_any n hn w).mono fun e w' ⟨he, hw⟩ => ⟨he, by subst hw; exact Below.refl _ _⟩
  pack := fun e q aa len cap l w he hq h hm => by
    unfold PackR packA
    by_cases hi : inE e q
    · rw [if_pos hi]
      obtain ⟨⟨h1, h2⟩, h3, h4⟩ := hi
      obtain ⟨en, rfl⟩ : ∃ n : Nat, e = n := ⟨e.toNat, by omega⟩
      obtain ⟨qn, rfl⟩ : ∃ n : Nat, q = n := ⟨q.toNat, by omega⟩
      exact (pack_ok en qn (by omega) (by omega) aa len cap l w h hm).mono fun e' w' ⟨v, he, ho, hb⟩ => ⟨v, he, new_own ho, hb⟩
    · rw [if_neg hi]
      refine (pack_bad e q he hq aa len cap w hi).mono fun e' w' ⟨he, hw⟩ => ?_
      subst hw
      exact ⟨_, he, new_nil _ _, Below.refl _ _⟩
  unpack := fun aa len cap l w h hm => unpack_any aa len cap l w h hm

end Go.Proofs.Ytdgfoldobofgoaa.Frm
/- Journal: the landed journal over the landed disk and frame. -/
namespace Go.Proofs.Ytdgfoldobofgoaa.Jrn
set_option linter.unusedVariables false
theorem nil_size : NilSize := fun w => (Dsk.nsize_any w).mono fun e w' ⟨h1, h2⟩ => ⟨h1, by subst h2; exact Go.RowKit.Below.refl _ _⟩
theorem jrn_prog : JProg Dsk.Dk Jr := journal_prog Dsk.disk_prog Frm.frame_prog nil_size
end Go.Proofs.Ytdgfoldobofgoaa.Jrn
/- Journal: what holds of a disk of 64 sectors with two places of two each, between the acts; what a crash leaves of it. -/
namespace Go.Proofs.Ytdgfoldobofgoaa.Jrn
open Oct
open Chk
open Frm
open Dsk (Sec DS mix mix_at mix_length mix_whole mix_none)
set_option linter.unusedVariables false

def zero32 : Sec := List.replicate 32 0
abbrev sec (c : List Sec) (i : Nat) : Sec := c.getD i []

/-- A disk on which nothing is cached, and what its journal shows: epoch E, number Q and count C of its checkpoint, records W; t: nothing is greater. -/
structure ClosedD (t p E M Q C : Nat) (W : List Bs) (c : List Sec) : Prop where
  len : c.length = 64
  all32 : ∀ x ∈ c, x.length = 32
  p2 : p < 2
  ck : sec c (2 * p) = ckS E Q C
  z : sec c 1 = zero32 ∧ sec c 3 = zero32
  other : Other E M (Q + W.length) (C + W.length) (sec c (2 * (1 - p)))
  logE : ∀ x ∈ c.drop 4, numK x 24 4 ≤ E
  read : listed c 2 E Q = W
  bd : 1 ≤ E ∧ E ≤ M ∧ M ≤ t ∧ Q + W.length ≤ t ∧ C + W.length ≤ t ∧ t ≤ 61
/-- The same, where the journal is open: records W, K of them for good. -/
structure OpenD (t p E Q C : Nat) (W : List Bs) (K : Nat) (g n : List Sec) : Prop where
  glen : g.length = 64
  nlen : n.length = 64
  g32 : ∀ x ∈ g, x.length = 32
  n32 : ∀ x ∈ n, x.length = 32
  p2 : p < 2
  ck : sec g (2 * p) = ckS E Q C ∧ sec n (2 * p) = ckS E Q C
  z : sec g 1 = zero32 ∧ sec g 3 = zero32 ∧ sec n 1 = zero32 ∧ sec n 3 = zero32
  other : Low E (sec n (2 * (1 - p))) ∧ sec g (2 * (1 - p)) = sec n (2 * (1 - p))
  gE : ∀ x ∈ g.drop 4, numK x 24 4 ≤ E
  nE : ∀ x ∈ n.drop 4, numK x 24 4 ≤ E
  log : LogN E Q K W (g.drop 4) (n.drop 4)
  old : ∀ o ∈ (g.drop 4).drop (span W), Old E o
  same : (g.drop 4).drop (span W) = (n.drop 4).drop (span W)
  bd : 1 ≤ E ∧ E ≤ t ∧ Q + W.length ≤ t ∧ C + W.length ≤ t ∧ t ≤ 61

/-- Whatever a crash leaves: a checkpoint that was written, and some first ones of the records behind it, all that are sure among them. -/
def Safe (t : Nat) (all : List Bs) (sure : Nat) (g n : List Sec) : Prop := ∀ c, Mixed g n c → ∃ p E M Q C W, ClosedD t p E M Q C W c ∧ C + W.length ≤ all.length ∧ sure ≤ C + W.length ∧ W = (all.drop C).take W.length

/-! ### Mixtures -/

theorem sec_at {c : List Sec} {i : Nat} (h : i < c.length) : c[i]? = some (sec c i) := by simp [sec, List.getD, h]
theorem sec_mem {c : List Sec} {i : Nat} (h : i < c.length) : sec c i ∈ c := Dsk.getD_mem h
theorem mixed_sec {g n c : List Sec} (h : Mixed g n c) (hl : g.length = n.length) {i : Nat} (hi : i < g.length) : ∃ m, m ≤ 32 ∧ sec c i = mix m (sec g i) (sec n i) :=
  h.2 i _ _ _ (sec_at hi) (sec_at (by omega)) (sec_at (by rw [h.1]; exact hi))
theorem mixed_32 {g n c : List Sec} (h : Mixed g n c) (hl : g.length = n.length) (hg : ∀ x ∈ g, x.length = 32) (hn : ∀ x ∈ n, x.length = 32) : ∀ x ∈ c, x.length = 32 := by
  intro x hx
  obtain ⟨i, hi, rfl⟩ := List.getElem_of_mem hx
  rw [h.1] at hi
  obtain ⟨m, hm, e⟩ := h.2 i g[i] n[i] c[i] (List.getElem?_eq_getElem hi) (List.getElem?_eq_getElem (by omega)) (List.getElem?_eq_getElem (by rw [h.1]; exact hi))
  rw [e]
  exact mix_length (hg _ (List.getElem_mem _)) (hn _ (List.getElem_mem _)) hm
theorem mixed_drop {g n c : List Sec} (h : Mixed g n c) (a : Nat) : Mixed (g.drop a) (n.drop a) (c.drop a) :=
  ⟨by rw [List.length_drop, List.length_drop, h.1], fun i x y z hx hy hz => by
    rw [List.getElem?_drop] at hx hy hz
    exact h.2 (a + i) x y z hx hy hz⟩
/-- The epoch of a mixture is the one's or the other's. -/
theorem mix_epoch {x y : Sec} {m : Nat} (hx : x.length = 32) (hy : y.length = 32) (hm : m ≤ 32) (h1 : numK x 24 4 < 256) (h2 : numK y 24 4 < 256) : numK (mix m x y) 24 4 = numK x 24 4 ∨ numK (mix m x y) 24 4 = numK y 24 4 := by
  have hg := fun r => mix_getD (r := r) hx hy hm
  by_cases h28 : 28 ≤ m
  · exact .inr (numK_congr 4 fun r hr => by rw [hg, if_pos (by omega)])
  · left
    obtain ⟨x0, x1, x2, x3⟩ := small4 h1
    obtain ⟨y0, y1, y2, y3⟩ := small4 h2
    refine numK_congr 4 fun r hr => ?_
    rw [hg]
    by_cases h3 : r < 3
    · split
      · apply UInt8.toNat.inj
        obtain rfl | rfl | rfl : r = 0 ∨ r = 1 ∨ r = 2 := by omega
        · rw [Nat.add_zero, y0, x0]
        · rw [y1, x1]
        · rw [y2, x2]
      · rfl
    · rw [if_neg (by omega)]
theorem mixed_epochs {g n c : List Sec} {E : Nat} (h : Mixed g n c) (hl : g.length = n.length) (hg : ∀ x ∈ g, x.length = 32) (hn : ∀ x ∈ n, x.length = 32) (hE : E < 256) (h1 : ∀ x ∈ g, numK x 24 4 ≤ E) (h2 : ∀ x ∈ n, numK x 24 4 ≤ E) : ∀ x ∈ c, numK x 24 4 ≤ E := by
  intro x hx
  obtain ⟨i, hi, rfl⟩ := List.getElem_of_mem hx
  have hi' := hi
  rw [h.1] at hi
  obtain ⟨m, hm, e⟩ := h.2 i g[i] n[i] c[i] (List.getElem?_eq_getElem hi) (List.getElem?_eq_getElem (by omega)) (List.getElem?_eq_getElem hi')
  have a1 := h1 g[i] (List.getElem_mem _)
  have a2 := h2 n[i] (List.getElem_mem _)
  rw [e]
  rcases mix_epoch (hg g[i] (List.getElem_mem _)) (hn n[i] (List.getElem_mem _)) hm (Nat.lt_of_le_of_lt a1 hE) (Nat.lt_of_le_of_lt a2 hE) with h3 | h3
  · exact Nat.le_trans (Nat.le_of_eq h3) a1
  · exact Nat.le_trans (Nat.le_of_eq h3) a2

/-! ### What is picked -/

theorem ck_pack (E Q C : Nat) : packB E Q (beB 2 C) = ckS E Q C := by
  unfold packB ckS jk
  rw [beB_length, show secs 2 = 0 + 1 from rfl, packN_sector]; rfl
theorem place_two {c : List Sec} {i : Nat} (h : 2 * i + 1 < c.length) : placeB c 2 i = sec c (2 * i) ++ sec c (2 * i + 1) := by
  unfold placeB
  have e : (c.drop (i * 2)).take 2 = [sec c (2 * i), sec c (2 * i + 1)] := by
    apply List.ext_getElem?
    intro k
    rw [List.getElem?_take]
    split
    · rename_i hk
      rw [List.getElem?_drop]
      obtain rfl | rfl : k = 0 ∨ k = 1 := by omega
      · rw [show i * 2 + 0 = 2 * i by omega, sec_at (by omega)]; rfl
      · rw [show i * 2 + 1 = 2 * i + 1 by omega, sec_at h]; rfl
    · rw [List.getElem?_eq_none (by simp; omega)]
  rw [e]; simp
theorem closed_pick {t p E M Q C : Nat} {W : List Bs} {c : List Sec} (h : ClosedD t p E M Q C W c) : pick c 2 = some (p, E, Q, beB 2 C) := by
  have hl := h.len
  have h0 := place_two (c := c) (i := 0) (by omega)
  have h1 := place_two (c := c) (i := 1) (by omega)
  obtain ⟨b1, b2, b3, b4, b5, b6⟩ := h.bd
  have hck : unpackB (ckS E Q C ++ zero32) = some (E, Q, beB 2 C, 1) := by
    rw [← ck_pack]
    have := unpack_pack (e := E) (q := Q) (b := beB 2 C) zero32 (by omega) (by omega) (by rw [beB_length]; omega)
    rw [this, beB_length]; rfl
  have hp := h.p2
  unfold pick
  obtain rfl | rfl : p = 0 ∨ p = 1 := by omega
  · have e0 : placeB c 2 0 = ckS E Q C ++ zero32 := by rw [h0, h.ck]; show _ ++ sec c 1 = _; rw [h.z.1]
    have e1 : placeB c 2 1 = sec c 2 ++ zero32 := by rw [h1]; show _ ++ sec c 3 = _; rw [h.z.2]
    rw [e0, e1, hck]
    cases hu : unpackB (sec c 2 ++ zero32) with
    | none => rfl
    | some x =>
      obtain ⟨e, q, b, k⟩ := x
      have := other_none h.other hu
      simp only
      rw [if_neg (by omega)]
  · have e0 : placeB c 2 0 = sec c 0 ++ zero32 := by rw [h0]; show _ ++ sec c 1 = _; rw [h.z.1]
    have e1 : placeB c 2 1 = ckS E Q C ++ zero32 := by rw [h1, h.ck]; show _ ++ sec c 3 = _; rw [h.z.2]
    rw [e0, e1, hck]
    cases hu : unpackB (sec c 0 ++ zero32) with
    | none => rfl
    | some x =>
      obtain ⟨e, q, b, k⟩ := x
      have := other_none h.other hu
      simp only
      rw [if_pos (by omega)]

/-! ### Crashes -/

theorem closed_same {t p E M Q C : Nat} {W : List Bs} {g c : List Sec} (h : ClosedD t p E M Q C W g) (hm : Mixed g g c) : ClosedD t p E M Q C W c := by rw [mixed_same hm]; exact h
theorem closed_more {t t' p E M Q C : Nat} {W : List Bs} {c : List Sec} (h : ClosedD t p E M Q C W c) (ht : t ≤ t') (ht' : t' ≤ 61) : ClosedD t' p E M Q C W c :=
  ⟨h.len, h.all32, h.p2, h.ck, h.z, h.other, h.logE, h.read, by obtain ⟨b1, b2, b3, b4, b5, b6⟩ := h.bd; omega⟩
theorem open_more {t t' p E Q C K : Nat} {W : List Bs} {g n : List Sec} (h : OpenD t p E Q C W K g n) (ht : t ≤ t') (ht' : t' ≤ 61) : OpenD t' p E Q C W K g n :=
  ⟨h.glen, h.nlen, h.g32, h.n32, h.p2, h.ck, h.z, h.other, h.gE, h.nE, h.log, h.old, h.same, by obtain ⟨b1, b2, b3, b4, b5⟩ := h.bd; omega⟩
theorem safe_more {t t' sure : Nat} {all more : List Bs} {g n : List Sec} (h : Safe t all sure g n) (ht : t ≤ t') (ht' : t' ≤ 61) : Safe t' (all ++ more) sure g n := by
  intro c hc
  obtain ⟨p, E, M, Q, C, W, h1, h2, h3, h4⟩ := h c hc
  refine ⟨p, E, M, Q, C, W, closed_more h1 ht ht', by rw [List.length_append]; omega, h3, ?_⟩
  rw [List.drop_append_of_le_length (by omega), List.take_append_of_le_length (by rw [List.length_drop]; omega)]
  exact h4
/-- What may be read of a log behind a crash. -/
theorem open_log {t p E Q C K : Nat} {W : List Bs} {g n c : List Sec} (h : OpenD t p E Q C W K g n) (hm : Mixed (g.drop 4) (n.drop 4) (c.drop 4)) (hc : c.length = 64) : ∃ m, K ≤ m ∧ m ≤ W.length ∧ listed c 2 E Q = W.take m := by
  obtain ⟨b1, b2, b3, b4, b5⟩ := h.bd
  have ht := log_crash h.log _ hm
  exact recs_log (by omega) ht (c.length + 1) (by omega)
theorem open_crash {t p E Q C K : Nat} {W : List Bs} {g n c : List Sec} (h : OpenD t p E Q C W K g n) (hm : Mixed g n c) : ∃ m, K ≤ m ∧ m ≤ W.length ∧ ∀ M, E ≤ M → M ≤ t → ClosedD t p E M Q C (W.take m) c := by
  obtain ⟨b1, b2, b3, b4, b5⟩ := h.bd
  have hlen : c.length = 64 := by rw [hm.1, h.glen]
  have hgn : g.length = n.length := by rw [h.glen, h.nlen]
  obtain ⟨m, h1, h2, h3⟩ := open_log h (mixed_drop hm 4) hlen
  have hsame : ∀ i, i < 64 → sec g i = sec n i → sec c i = sec n i := fun i hi e => by
    obtain ⟨k, _, e2⟩ := mixed_sec hm hgn (i := i) (by rw [h.glen]; exact hi)
    rw [e2, e, mix_same]
  have hp := h.p2
  have hml : (W.take m).length = m := by rw [List.length_take]; omega
  refine ⟨m, h1, h2, fun M hM hMt => ⟨hlen, mixed_32 hm hgn h.g32 h.n32, h.p2, ?_, ⟨?_, ?_⟩, ?_, ?_, h3, ?_⟩⟩
  · rw [hsame _ (by omega) (by rw [h.ck.1, h.ck.2]), h.ck.2]
  · rw [hsame 1 (by omega) (by rw [h.z.1, h.z.2.2.1]), h.z.2.2.1]
  · rw [hsame 3 (by omega) (by rw [h.z.2.1, h.z.2.2.2]), h.z.2.2.2]
  · rw [hsame _ (by omega) h.other.2]
    exact .inl h.other.1
  · exact mixed_epochs (mixed_drop hm 4) (by rw [List.length_drop, List.length_drop, hgn]) (fun x hx => h.g32 x (List.mem_of_mem_drop hx)) (fun x hx => h.n32 x (List.mem_of_mem_drop hx)) (by omega) h.gE h.nE
  · rw [hml]; omega
theorem take_drop_all {all W : List Bs} {C m : Nat} (hW : W = all.drop C) (hm : m ≤ W.length) : W.take m = (all.drop C).take (W.take m).length := by
  rw [List.length_take, Nat.min_eq_left hm, hW]
theorem open_safe {t p E Q C K sure : Nat} {W all : List Bs} {g n : List Sec} (h : OpenD t p E Q C W K g n) (hW : W = all.drop C) (hC : C ≤ all.length) (hs : sure ≤ C + K) : Safe t all sure g n := by
  intro c hc
  obtain ⟨m, h1, h2, h3⟩ := open_crash h hc
  obtain ⟨b1, b2, b3, b4, b5⟩ := h.bd
  have hl : W.length = all.length - C := by rw [hW, List.length_drop]
  have hml : (W.take m).length = m := by rw [List.length_take]; omega
  exact ⟨p, E, E, Q, C, W.take m, h3 E (Nat.le_refl _) b2, by omega, by omega, take_drop_all hW h2⟩
theorem closed_safe {t p E M Q C sure : Nat} {W all : List Bs} {c : List Sec} (h : ClosedD t p E M Q C W c) (h1 : C + W.length ≤ all.length) (h2 : sure ≤ C + W.length) (h3 : W = (all.drop C).take W.length) : Safe t all sure c c :=
  fun c' hc => ⟨p, E, M, Q, C, W, closed_same h hc, h1, h2, h3⟩
/-- What is written in part is safe where all of it is. -/
theorem safe_half {t sure : Nat} {all : List Bs} {g n n' full : List Sec} (h : Safe t all sure g full) (hl : n'.length = full.length) (hg : g.length = full.length) (hn : ∀ i : Nat, n'[i]? = n[i]? ∨ n'[i]? = full[i]?) (hs : ∀ i : Nat, n[i]? = full[i]? ∨ n[i]? = g[i]?) : Safe t all sure g n' := by
  intro c hc
  refine h c ⟨hc.1, fun i x y z hx hy hz => ?_⟩
  have hi : i < g.length := (List.getElem?_eq_some_iff.1 hx).1
  have hi' : n'[i]? = some n'[i] := List.getElem?_eq_getElem (by omega)
  obtain ⟨m, hm, e⟩ := hc.2 i x n'[i] z hx hi' hz
  have : n'[i]? = full[i]? ∨ n'[i]? = g[i]? := by
    rcases hn i with h1 | h1
    · rw [h1]; exact hs i
    · exact .inl h1
  rcases this with h1 | h1
  · rw [hi', hy] at h1
    injection h1 with h1
    exact ⟨m, hm, by rw [e, h1]⟩
  · rw [hi', hx] at h1
    injection h1 with h1
    exact ⟨0, by omega, by rw [e, h1, mix_same, mix_none]⟩
end Go.Proofs.Ytdgfoldobofgoaa.Jrn
/- Journal: the acts: a record, a commit, a checkpoint, whole or cut short. -/
namespace Go.Proofs.Ytdgfoldobofgoaa.Jrn
open Oct
open Chk
open Frm
open Dsk (Sec DS mix mix_at mix_length mix_whole mix_none)
set_option linter.unusedVariables false

theorem secsB_two (e q c : Nat) : secsB e q (beB 2 c) = [ckS e q c] := by
  unfold secsB
  rw [beB_length, show secs 2 = 1 from rfl]; rfl
theorem secsB_epochs {e q : Nat} {b : Bs} (he : e < 4294967296) : ∀ x ∈ secsB e q b, numK x 24 4 = e := by
  intro x hx
  unfold secsB at hx
  obtain ⟨j, _, rfl⟩ := List.mem_map.1 hx
  exact secB_epoch he
theorem over_mem {n cs : List Sec} {a : Nat} {x : Sec} (h : x ∈ over n a cs) : x ∈ n ∨ x ∈ cs := by
  unfold over at h
  rcases List.mem_append.1 h with h | h
  · rcases List.mem_append.1 h with h | h
    · exact .inl (List.mem_of_mem_take h)
    · exact .inr h
  · exact .inl (List.mem_of_mem_drop h)
theorem over_sec {n : List Sec} {a i : Nat} {x : Sec} (h : a + 1 ≤ n.length) (hi : i < n.length) : sec (over n a [x]) i = if i = a then x else sec n i := by
  have h1 := over_at (n := n) (a := a) (cs := [x]) (by simpa using h) i
  unfold sec
  rw [List.getD, h1]
  simp only [List.length_singleton]
  by_cases e : i = a
  · subst e
    rw [if_neg (by omega), if_pos (by omega), if_pos rfl, Nat.sub_self]; rfl
  · rw [if_neg e]
    split
    · rw [List.getD]
    · rw [if_neg (by omega), List.getD]
theorem over_drop4 {n : List Sec} {a : Nat} {x : Sec} (h : a + 1 ≤ 4) (hn : 4 ≤ n.length) : (over n a [x]).drop 4 = n.drop 4 := by
  apply List.ext_getElem?
  intro i
  rw [List.getElem?_drop, List.getElem?_drop, over_at (by simp; omega), if_neg (by omega), if_neg (by simp; omega)]
theorem over_drop {n cs : List Sec} {a : Nat} (h : 4 + a + cs.length ≤ n.length) : (over n (4 + a) cs).drop 4 = (n.drop 4).take a ++ cs ++ (n.drop 4).drop (a + cs.length) := by
  unfold over
  rw [List.append_assoc, List.drop_append_of_le_length (by rw [List.length_take]; omega), List.drop_take, show 4 + a - 4 = a by omega, List.drop_drop, List.append_assoc, show 4 + (a + cs.length) = 4 + a + cs.length by omega]
/-- Each sector. -/
theorem in_four {c : List Sec} {x : Sec} (hl : 4 ≤ c.length) (h : x ∈ c) : x = sec c 0 ∨ x = sec c 1 ∨ x = sec c 2 ∨ x = sec c 3 ∨ x ∈ c.drop 4 := by
  obtain ⟨i, hi, rfl⟩ := List.getElem_of_mem h
  have hs : c[i] = sec c i := by unfold sec; rw [Dsk.getD_at hi]
  by_cases h4 : i < 4
  · obtain rfl | rfl | rfl | rfl : i = 0 ∨ i = 1 ∨ i = 2 ∨ i = 3 := by omega
    · exact .inl hs
    · exact .inr (.inl hs)
    · exact .inr (.inr (.inl hs))
    · exact .inr (.inr (.inr (.inl hs)))
  · refine .inr (.inr (.inr (.inr ?_)))
    have : (c.drop 4)[i - 4]? = some c[i] := by rw [List.getElem?_drop, show 4 + (i - 4) = i by omega, List.getElem?_eq_getElem hi]
    exact List.mem_of_getElem? this
theorem zero_epoch : numK zero32 24 4 = 0 := by decide

/-! ### A record -/

theorem open_append {t p E Q C K : Nat} {W : List Bs} {g n : List Sec} (h : OpenD t p E Q C W K g n) (ht : t + 1 ≤ 61) (b : Bs) (hb : b.length < 65536) (hr : 4 + span W + secs b.length ≤ 64) :
    OpenD (t + 1) p E Q C (W ++ [b]) K g (over n (4 + span W) (secsB E (Q + W.length + 1) b)) := by
  obtain ⟨b1, b2, b3, b4, b5⟩ := h.bd
  have hsl := secsB_length E (Q + W.length + 1) b
  have hov : (over n (4 + span W) (secsB E (Q + W.length + 1) b)).length = 64 := by rw [over_length (by rw [hsl, h.nlen]; exact hr), h.nlen]
  have hd := over_drop (n := n) (a := span W) (cs := secsB E (Q + W.length + 1) b) (by rw [hsl, h.nlen]; exact hr)
  rw [hsl] at hd
  have hsp : span (W ++ [b]) = span W + secs b.length := by rw [span_append]; simp [span]
  have hlo : ∀ i, i < 4 → sec (over n (4 + span W) (secsB E (Q + W.length + 1) b)) i = sec n i := fun i hi => by
    unfold sec
    rw [List.getD, over_at (by rw [hsl, h.nlen]; exact hr), if_pos (by omega), List.getD]
  have hp := h.p2
  have hl := log_append h.log b hb (by omega) (by rw [List.length_drop, h.nlen]; omega) h.old h.same
  rw [← hd] at hl
  refine ⟨h.glen, hov, h.g32, fun x hx => ?_, h.p2, ⟨h.ck.1, by rw [hlo _ (by omega)]; exact h.ck.2⟩, ⟨h.z.1, h.z.2.1, by rw [hlo 1 (by omega)]; exact h.z.2.2.1, by rw [hlo 3 (by omega)]; exact h.z.2.2.2⟩, ?_, h.gE, fun x hx => ?_, hl, ?_, ?_, by rw [List.length_append, List.length_singleton]; omega⟩
  · rcases over_mem hx with hx | hx
    · exact h.n32 x hx
    · exact secsB_32 x hx
  · rw [hlo _ (by omega)]; exact h.other
  · rw [hd] at hx
    rcases List.mem_append.1 hx with hx | hx
    · rcases List.mem_append.1 hx with hx | hx
      · exact h.nE x (List.mem_of_mem_take hx)
      · exact Nat.le_of_eq (secsB_epochs (by omega) x hx)
    · exact h.nE x (List.mem_of_mem_drop hx)
  · rw [hsp, ← List.drop_drop]
    exact fun o ho => h.old o (List.mem_of_mem_drop ho)
  · rw [hsp, hd, ← List.drop_drop (l := g.drop 4), h.same, List.drop_drop, List.drop_left' (by rw [List.length_append, List.length_take, List.length_drop, h.nlen, hsl]; omega)]
theorem open_commit {t p E Q C K : Nat} {W : List Bs} {g n : List Sec} (h : OpenD t p E Q C W K g n) : OpenD t p E Q C W W.length n n :=
  ⟨h.nlen, h.nlen, h.n32, h.n32, h.p2, ⟨h.ck.2, h.ck.2⟩, ⟨h.z.2.2.1, h.z.2.2.2, h.z.2.2.1, h.z.2.2.2⟩, ⟨h.other.1, rfl⟩, h.nE, h.nE, log_flush h.log, by rw [← h.same]; exact h.old, rfl, h.bd⟩

/-! ### A checkpoint -/

/-- A new checkpoint in the other place. -/
theorem new_open {t p E Q C e q c : Nat} {n : List Sec} (hl : n.length = 64) (h32 : ∀ x ∈ n, x.length = 32) (hp : p < 2) (hck : sec n (2 * p) = ckS E Q C) (hz : sec n 1 = zero32 ∧ sec n 3 = zero32) (hE : E < e) (hQ : Q < 64) (hlog : ∀ x ∈ n.drop 4, numK x 24 4 ≤ E) (hbd : 1 ≤ e ∧ e ≤ t ∧ q ≤ t ∧ c ≤ t ∧ t ≤ 61) :
    OpenD t (1 - p) e q c [] 0 (over n (2 * (1 - p)) [ckS e q c]) (over n (2 * (1 - p)) [ckS e q c]) := by
  have hov : (over n (2 * (1 - p)) [ckS e q c]).length = 64 := by rw [over_length (by simp; omega), hl]
  have hs : ∀ i, i < 64 → sec (over n (2 * (1 - p)) [ckS e q c]) i = if i = 2 * (1 - p) then ckS e q c else sec n i := fun i hi => over_sec (by omega) (by omega)
  have hd := over_drop4 (n := n) (a := 2 * (1 - p)) (x := ckS e q c) (by omega) (by omega)
  have h1 : sec (over n (2 * (1 - p)) [ckS e q c]) 1 = zero32 := by rw [hs 1 (by omega), if_neg (by omega)]; exact hz.1
  have h3 : sec (over n (2 * (1 - p)) [ckS e q c]) 3 = zero32 := by rw [hs 3 (by omega), if_neg (by omega)]; exact hz.2
  have hk : sec (over n (2 * (1 - p)) [ckS e q c]) (2 * (1 - p)) = ckS e q c := by rw [hs _ (by omega), if_pos rfl]
  have ho : sec (over n (2 * (1 - p)) [ckS e q c]) (2 * (1 - (1 - p))) = ckS E Q C := by rw [hs _ (by omega), if_neg (by omega), show 2 * (1 - (1 - p)) = 2 * p by omega]; exact hck
  have h32' : ∀ x ∈ over n (2 * (1 - p)) [ckS e q c], x.length = 32 := fun x hx => by
    rcases over_mem hx with hx | hx
    · exact h32 x hx
    · simp at hx; rw [hx]; exact jk_length _ _ _ _
  have hE' : ∀ x ∈ (over n (2 * (1 - p)) [ckS e q c]).drop 4, numK x 24 4 ≤ E := by rw [hd]; exact hlog
  have hold : ∀ x ∈ (over n (2 * (1 - p)) [ckS e q c]).drop 4, Old e x := fun x hx => ⟨h32' x (List.mem_of_mem_drop hx), Nat.lt_of_le_of_lt (hE' x hx) (by omega), fun h => by have := hE' x hx; rw [h] at this; omega⟩
  refine ⟨hov, hov, h32', h32', by omega, ⟨hk, hk⟩, ⟨h1, h3, h1, h3⟩, ⟨by rw [ho]; exact ⟨jk_length _ _ _ _, by rw [jk_epoch (by omega)]; exact hE, by rw [jk_seq (by omega)]; exact hQ⟩, rfl⟩, fun x hx => Nat.le_trans (hE' x hx) (by omega), fun x hx => Nat.le_trans (hE' x hx) (by omega), ?_, ?_, rfl, by simp; omega⟩
  · refine .nil q _ fun x hx => ?_
    have hm : x ∈ (over n (2 * (1 - p)) [ckS e q c]).drop 4 := List.mem_of_mem_head? (by rw [hx]; rfl)
    exact ⟨(hold x hm).1, (hold x hm).2.2⟩
  · intro x hx
    exact hold x (List.mem_of_mem_drop hx)
theorem new_closed {t p E Q C e q c : Nat} {n : List Sec} (hl : n.length = 64) (h32 : ∀ x ∈ n, x.length = 32) (hp : p < 2) (hck : sec n (2 * p) = ckS E Q C) (hn : sec n (2 * (1 - p)) = ckS e q c) (hz : sec n 1 = zero32 ∧ sec n 3 = zero32) (hE : E < e) (hQ : Q < 64) (hlog : ∀ x ∈ n.drop 4, numK x 24 4 ≤ E) (hbd : 1 ≤ e ∧ e ≤ t ∧ q ≤ t ∧ c ≤ t ∧ t ≤ 61) :
    ClosedD t (1 - p) e e q c [] n := by
  refine ⟨hl, h32, by omega, hn, hz, ?_, fun x hx => Nat.le_trans (hlog x hx) (by omega), ?_, by simp; omega⟩
  · rw [show 2 * (1 - (1 - p)) = 2 * p by omega, hck]
    exact .inl ⟨jk_length _ _ _ _, by rw [jk_epoch (by omega)]; exact hE, by rw [jk_seq (by omega)]; exact hQ⟩
  · unfold listed
    refine ends_recs (fun x hx => ?_) _
    have hm : x ∈ n.drop 4 := List.mem_of_mem_head? (by rw [show 2 * 2 = 4 from rfl] at hx; rw [hx]; rfl)
    exact ⟨h32 x (List.mem_of_mem_drop hm), fun h => by have := hlog x hm; rw [h] at this; omega⟩

theorem low_not_high {E M Q c : Nat} {X : Sec} (h : Low E X) : ¬ High E M Q c X := by
  rintro ⟨e, Q1, c1, k, m, h1, h2, h3⟩
  have := h.2.1
  rw [(high_stamp h3).2.1] at this
  omega
/-- Of a crash in the midst of a checkpoint: each sector but the other place's. -/
theorem mixed_try {p : Nat} {g n c2 : List Sec} {x : Sec} (hp : p < 2) (hg : g.length = 64) (hn : n.length = 64) (hm : Mixed g (over n (2 * (1 - p)) [x]) c2) : c2.length = 64 ∧ Mixed (g.drop 4) (n.drop 4) (c2.drop 4) ∧ (∃ m, m ≤ 32 ∧ sec c2 (2 * (1 - p)) = mix m (sec g (2 * (1 - p))) x) ∧ (∀ i, i < 64 → i ≠ 2 * (1 - p) → sec g i = sec n i → sec c2 i = sec n i) := by
  have hov : (over n (2 * (1 - p)) [x]).length = 64 := by rw [over_length (by simp; omega), hn]
  have hd := over_drop4 (n := n) (a := 2 * (1 - p)) (x := x) (by omega) (by omega)
  refine ⟨by rw [hm.1, hg], by rw [← hd]; exact mixed_drop hm 4, ?_, fun i hi hne he => ?_⟩
  · obtain ⟨m, h1, h2⟩ := mixed_sec hm (by omega) (i := 2 * (1 - p)) (by omega)
    rw [over_sec (by omega) (by omega), if_pos rfl] at h2
    exact ⟨m, h1, h2⟩
  · obtain ⟨m, h1, h2⟩ := mixed_sec hm (by omega) (i := i) (by omega)
    rw [over_sec (by omega) (by omega), if_neg hne, he, mix_same] at h2
    exact h2

theorem open_last {t p E Q C K : Nat} {W : List Bs} {g n : List Sec} (h : OpenD t p E Q C W K g n) : lastE n = E := by
  have hp := h.p2
  have hn := h.nlen
  obtain ⟨b1, b2, b3, b4, b5⟩ := h.bd
  have hck : numK (sec n (2 * p)) 24 4 = E := by rw [h.ck.2]; exact jk_epoch (by omega)
  have hge := last_ge (sec_mem (c := n) (i := 2 * p) (by omega))
  rw [hck] at hge
  have hall : ∀ x ∈ n, numK x 24 4 ≤ E := fun x hx => by
    have ho := h.other.1.2.1
    have z1 : numK (sec n 1) 24 4 = 0 := by rw [h.z.2.2.1]; exact zero_epoch
    have z3 : numK (sec n 3) 24 4 = 0 := by rw [h.z.2.2.2]; exact zero_epoch
    have e0 : numK (sec n 0) 24 4 ≤ E ∧ numK (sec n 2) 24 4 ≤ E := by
      obtain rfl | rfl : p = 0 ∨ p = 1 := by omega
      · exact ⟨Nat.le_of_eq hck, Nat.le_of_lt ho⟩
      · exact ⟨Nat.le_of_lt ho, Nat.le_of_eq hck⟩
    rcases in_four (by omega) hx with rfl | rfl | rfl | rfl | hx
    · exact e0.1
    · rw [z1]; exact Nat.zero_le _
    · exact e0.2
    · rw [z3]; exact Nat.zero_le _
    · exact h.nE x hx
  rcases last_is n with h0 | ⟨x, hx, e⟩
  · omega
  · have := hall x hx
    rw [e] at this
    omega
theorem open_try {t p E Q C K : Nat} {W : List Bs} {g n : List Sec} (h : OpenD t p E Q C W K g n) (ht : t + 1 ≤ 61) :
    OpenD (t + 1) (1 - p) (E + 1) (Q + W.length) (C + W.length) [] 0 (over n (2 * (1 - p)) [ckS (E + 1) (Q + W.length) (C + W.length)]) (over n (2 * (1 - p)) [ckS (E + 1) (Q + W.length) (C + W.length)]) ∧
    ∀ c2, Mixed g (over n (2 * (1 - p)) [ckS (E + 1) (Q + W.length) (C + W.length)]) c2 → ClosedD (t + 1) (1 - p) (E + 1) (E + 1) (Q + W.length) (C + W.length) [] c2 ∨ ∃ m, K ≤ m ∧ m ≤ W.length ∧ ClosedD (t + 1) p E (E + 1) Q C (W.take m) c2 := by
  obtain ⟨b1, b2, b3, b4, b5⟩ := h.bd
  have hp := h.p2
  refine ⟨new_open h.nlen h.n32 h.p2 h.ck.2 ⟨h.z.2.2.1, h.z.2.2.2⟩ (by omega) (by omega) h.nE (by omega), fun c2 hm => ?_⟩
  obtain ⟨hl, hd, ⟨m, h1, h2⟩, h3⟩ := mixed_try h.p2 h.glen h.nlen hm
  have h32 : ∀ x ∈ c2, x.length = 32 := mixed_32 hm (by rw [over_length (by simp [h.nlen]; omega), h.glen, h.nlen]) h.g32 (fun x hx => by
    rcases over_mem hx with hx | hx
    · exact h.n32 x hx
    · simp at hx; rw [hx]; exact jk_length _ _ _ _)
  have hck : sec c2 (2 * p) = ckS E Q C := by rw [h3 _ (by omega) (by omega) (by rw [h.ck.1, h.ck.2]), h.ck.2]
  have hz : sec c2 1 = zero32 ∧ sec c2 3 = zero32 := ⟨by rw [h3 1 (by omega) (by omega) (by rw [h.z.1, h.z.2.2.1]), h.z.2.2.1], by rw [h3 3 (by omega) (by omega) (by rw [h.z.2.1, h.z.2.2.2]), h.z.2.2.2]⟩
  have hlE : ∀ x ∈ c2.drop 4, numK x 24 4 ≤ E := mixed_epochs hd (by rw [List.length_drop, List.length_drop, h.glen, h.nlen]) (fun x hx => h.g32 x (List.mem_of_mem_drop hx)) (fun x hx => h.n32 x (List.mem_of_mem_drop hx)) (by omega) h.gE h.nE
  obtain ⟨k, k1, k2, k3⟩ := open_log h hd hl
  have hkl : (W.take k).length = k := by rw [List.length_take]; omega
  rw [h.other.2] at h2
  have hlow := h.other.1
  have := other_crash (M := E) (Q := 0) (c := 0) (Q' := Q + W.length) (c' := C + W.length) (e := E + 1) (m := m) (X := sec n (2 * (1 - p))) (.inl hlow) (fun hh => absurd hh (low_not_high hlow)) (by omega) (fun x hx => ⟨by have := hlow.2.1; omega, fun hx2 => by have := hlow.2.1; omega⟩) (by omega) (by omega) (by omega) h1 (Q + k) (C + k) (by omega) (by omega) (fun hh => absurd hh (low_not_high hlow))
  rw [← h2] at this
  rcases this with h4 | h4
  · exact .inl (new_closed hl h32 h.p2 hck h4 hz (by omega) (by omega) hlE (by omega))
  · exact .inr ⟨k, k1, k2, ⟨hl, h32, h.p2, hck, hz, by rw [hkl]; exact h4, hlE, k3, by rw [hkl]; omega⟩⟩

/-- The next epoch of a disk on which nothing is cached. -/
theorem closed_last {t p E M Q C : Nat} {W : List Bs} {c : List Sec} (h : ClosedD t p E M Q C W c) : E ≤ lastE c ∧ lastE c ≤ M ∧ ∀ x, numK (sec c (2 * (1 - p))) 24 4 = x → x ≤ lastE c ∧ (E < x → lastE c = x) := by
  have hp := h.p2
  have hn := h.len
  obtain ⟨b1, b2, b3, b4, b5, b6⟩ := h.bd
  have hck : numK (sec c (2 * p)) 24 4 = E := by rw [h.ck]; exact jk_epoch (by omega)
  have hge := last_ge (sec_mem (c := c) (i := 2 * p) (by omega))
  rw [hck] at hge
  have hgo := last_ge (sec_mem (c := c) (i := 2 * (1 - p)) (by omega))
  have z1 : numK (sec c 1) 24 4 = 0 := by rw [h.z.1]; exact zero_epoch
  have z3 : numK (sec c 3) 24 4 = 0 := by rw [h.z.2]; exact zero_epoch
  have hoe := other_epoch h.other
  have hall : ∀ x ∈ c, numK x 24 4 ≤ E ∨ numK x 24 4 = numK (sec c (2 * (1 - p))) 24 4 := fun x hx => by
    have e0 : (numK (sec c 0) 24 4 ≤ E ∨ numK (sec c 0) 24 4 = numK (sec c (2 * (1 - p))) 24 4) ∧ (numK (sec c 2) 24 4 ≤ E ∨ numK (sec c 2) 24 4 = numK (sec c (2 * (1 - p))) 24 4) := by
      obtain rfl | rfl : p = 0 ∨ p = 1 := by omega
      · exact ⟨.inl (Nat.le_of_eq hck), .inr rfl⟩
      · exact ⟨.inr rfl, .inl (Nat.le_of_eq hck)⟩
    rcases in_four (by omega) hx with rfl | rfl | rfl | rfl | hx
    · exact e0.1
    · left; rw [z1]; exact Nat.zero_le _
    · exact e0.2
    · left; rw [z3]; exact Nat.zero_le _
    · exact .inl (h.logE x hx)
  generalize numK (sec c (2 * (1 - p))) 24 4 = y at *
  have hlast : lastE c ≤ E ∨ lastE c = y := by
    rcases last_is c with h0 | ⟨x, hx, e⟩
    · left; omega
    · rcases hall x hx with h1 | h1
      · left; rw [← e]; exact h1
      · right; rw [← e]; exact h1
  refine ⟨hge, by omega, fun x hx => ?_⟩
  subst hx
  exact ⟨hgo, fun h => by omega⟩
theorem closed_try {t p E M Q C : Nat} {W : List Bs} {c : List Sec} (h : ClosedD t p E M Q C W c) (ht : t + 1 ≤ 61) :
    OpenD (t + 1) (1 - p) (lastE c + 1) (Q + W.length) (C + W.length) [] 0 (over c (2 * (1 - p)) [ckS (lastE c + 1) (Q + W.length) (C + W.length)]) (over c (2 * (1 - p)) [ckS (lastE c + 1) (Q + W.length) (C + W.length)]) ∧
    ∀ c2, Mixed c (over c (2 * (1 - p)) [ckS (lastE c + 1) (Q + W.length) (C + W.length)]) c2 → ClosedD (t + 1) (1 - p) (lastE c + 1) (lastE c + 1) (Q + W.length) (C + W.length) [] c2 ∨ ClosedD (t + 1) p E (lastE c + 1) Q C W c2 := by
  obtain ⟨b1, b2, b3, b4, b5, b6⟩ := h.bd
  have hp := h.p2
  obtain ⟨l1, l2, l3⟩ := closed_last h
  generalize lastE c = e at *
  refine ⟨new_open h.len h.all32 h.p2 h.ck h.z (by omega) (by omega) h.logE (by omega), fun c2 hm => ?_⟩
  obtain ⟨hl, hd, ⟨m, h1, h2⟩, h3⟩ := mixed_try h.p2 h.len h.len hm
  have h32 : ∀ x ∈ c2, x.length = 32 := mixed_32 hm (by rw [over_length (by simp [h.len]; omega)]) h.all32 (fun x hx => by
    rcases over_mem hx with hx | hx
    · exact h.all32 x hx
    · simp at hx; rw [hx]; exact jk_length _ _ _ _)
  have hck : sec c2 (2 * p) = ckS E Q C := by rw [h3 _ (by omega) (by omega) rfl, h.ck]
  have hz : sec c2 1 = zero32 ∧ sec c2 3 = zero32 := ⟨by rw [h3 1 (by omega) (by omega) rfl, h.z.1], by rw [h3 3 (by omega) (by omega) rfl, h.z.2]⟩
  have hdd := mixed_same hd
  have hlE : ∀ x ∈ c2.drop 4, numK x 24 4 ≤ E := by rw [hdd]; exact h.logE
  have hr : listed c2 2 E Q = W := by
    have := h.read
    unfold listed at this ⊢
    rw [show 2 * 2 = 4 from rfl] at this ⊢
    rw [hdd, hl, ← h.len]; exact this
  have := other_crash (Q' := Q + W.length) (c' := C + W.length) (e := e + 1) (m := m) h.other (fun _ => ⟨rfl, rfl⟩) (by omega) (fun x hx => ⟨by have := (l3 x hx).1; omega, fun hx2 => by have := (l3 x hx).2 hx2; omega⟩) (by omega) (by omega) (by omega) h1 (Q + W.length) (C + W.length) (by omega) (by omega) (fun _ => ⟨rfl, rfl⟩)
  rw [← h2] at this
  rcases this with h4 | h4
  · exact .inl (new_closed hl h32 h.p2 hck h4 hz (by omega) (by omega) hlE (by omega))
  · exact .inr ⟨hl, h32, h.p2, hck, hz, h4, hlE, hr, by omega⟩
end Go.Proofs.Ytdgfoldobofgoaa.Jrn
/- Journal: what JournalLasts goes through: all that was written, what is sure, the journal and the disk, act by act. -/
namespace Go.Proofs.Ytdgfoldobofgoaa.Jrn
open Oct
open Chk
open Frm
open Dsk (Sec DS mix mix_at mix_length mix_whole mix_none)
set_option linter.unusedVariables false

def jsOf (p E q x : Nat) (o : Bool) : JS := { slot := 2, place := p, epoch := E, seq := q, next := x, opened := o, down := false }
inductive LI (t : Nat) (all : List Bs) (sure : Nat) (s : DS) : JS → Prop
  | closed (p E M Q C : Nat) (W : List Bs) (h : ClosedD t p E M Q C W s.now) (hs : s.good = s.now) (hW : W = all.drop C) (hC : C ≤ all.length) : LI t all sure s (jsOf p E (Q + W.length) (4 + span W) false)
  | opened (p E Q C K : Nat) (W : List Bs) (h : OpenD t p E Q C W K s.good s.now) (hW : W = all.drop C) (hC : C ≤ all.length) (hs : sure ≤ C + K) : LI t all sure s (jsOf p E (Q + W.length) (4 + span W) true)
  | down (j : JS) (hj : j.down = true) (hs : Safe t all sure s.good s.now) : LI t all sure s j
structure LInv (t : Nat) (all : List Bs) (sure : Nat) (j : JS) (s : DS) : Prop where
  ok : s.Ok
  len : s.good.length = 64
  le : sure ≤ all.length
  tt : t ≤ 61
  inv : LI t all sure s j

theorem linv_safe {t sure : Nat} {all : List Bs} {j : JS} {s : DS} (h : LInv t all sure j s) : Safe t all sure s.good s.now := by
  have hsu := h.le
  cases h.inv with
  | closed p E M Q C W hc hs hW hC =>
    have hl : W.length = all.length - C := by rw [hW, List.length_drop]
    rw [hs]
    exact closed_safe hc (by omega) (by omega) (by rw [hl, hW, List.take_of_length_le (by rw [List.length_drop]; exact Nat.le_refl _)])
  | opened p E Q C K W ho hW hC hs => exact open_safe ho hW hC hs
  | down j hj hs => exact hs
theorem safe_tt {t t' sure : Nat} {all : List Bs} {g n : List Sec} (h : Safe t all sure g n) (ht : t ≤ t') (ht' : t' ≤ 61) : Safe t' all sure g n := by
  have := safe_more (more := []) h ht ht'
  rwa [List.append_nil] at this
theorem linv_more {t t' sure : Nat} {all : List Bs} {j : JS} {s : DS} (h : LInv t all sure j s) (ht : t ≤ t') (ht' : t' ≤ 61) : LInv t' all sure j s := by
  refine ⟨h.ok, h.len, h.le, ht', ?_⟩
  cases h.inv with
  | closed p E M Q C W hc hs hW hC => exact .closed p E M Q C W (closed_more hc ht ht') hs hW hC
  | opened p E Q C K W ho hW hC hs => exact .opened p E Q C K W (open_more ho ht ht') hW hC hs
  | down j hj hs => exact .down j hj (safe_tt hs ht ht')
theorem over_max {n : Nat} {g full : List Sec} (hg : g.length = 64) (hf : full.length = 64) : g.length = full.length := by rw [hg, hf]

/-- A record. -/
theorem linv_append {t sure e : Nat} {all : List Bs} {j j' : JS} {s s' : DS} {b : Bs} (h : LInv t all sure j s) (ht : t + 1 ≤ 61) (hb : b.length ≤ 60) (hr : ApR j s b e j' s') :
    (e = 0 ∨ e = 10) ∧ LInv (t + 1) (all ++ [b]) sure j' s' ∨ (e ≠ 0 ∧ e ≠ 10) ∧ LInv (t + 1) all sure j' s' := by
  have hsu := h.le
  have hal : (all ++ [b]).length = all.length + 1 := by simp
  cases hr with
  | dead hd => exact .inl ⟨.inr rfl, h.ok, h.len, by omega, ht, .down _ hd (safe_more (linv_safe h) (by omega) ht)⟩
  | closed hd ho => exact .inr ⟨⟨by decide, by decide⟩, linv_more h (by omega) ht⟩
  | big hd ho h2 => exact .inr ⟨⟨by decide, by decide⟩, linv_more h (by omega) ht⟩
  | full hd ho h2 h3 => exact .inr ⟨⟨by decide, by decide⟩, linv_more h (by omega) ht⟩
  | done s' hd ho h2 h3 hs =>
    left
    refine ⟨.inl rfl, hs.ok, by rw [hs.good]; exact h.len, by omega, ht, ?_⟩
    cases h.inv with
    | closed p E M Q C W hc hs hW hC => cases ho
    | down j hj hs => rw [hd] at hj; cases hj
    | opened p E Q C K W hop hW hC hsure =>
      rw [h.len] at h3
      have h4 := open_append hop ht b (by omega) h3
      have hsp : span (W ++ [b]) = span W + secs b.length := by rw [span_append]; simp [span]
      have hx := LI.opened (t := t + 1) (all := all ++ [b]) (sure := sure) (s := s') p E Q C K (W ++ [b]) (by rw [hs.good, hs.now]; exact h4) (by rw [List.drop_append_of_le_length hC, hW]) (by omega) hsure
      rw [hsp, List.length_append, List.length_singleton] at hx
      show LI _ _ _ _ (jsOf p E (Q + W.length + 1) (4 + span W + secs b.length) true)
      rw [show Q + W.length + 1 = Q + (W.length + 1) by omega, show 4 + span W + secs b.length = 4 + (span W + secs b.length) by omega]
      exact hx
  | down s' hd ho h2 h3 hs =>
    left
    refine ⟨.inr rfl, hs.ok, by rw [hs.good]; exact h.len, by omega, ht, ?_⟩
    cases h.inv with
    | closed p E M Q C W hc hs hW hC => cases ho
    | down j hj hs => rw [hd] at hj; cases hj
    | opened p E Q C K W hop hW hC hsure =>
      rw [h.len] at h3
      have h4 := open_append hop ht b (by omega) h3
      have h5 := open_safe (all := all ++ [b]) (sure := sure) h4 (by rw [List.drop_append_of_le_length hC, hW]) (by omega) hsure
      refine .down _ rfl ?_
      rw [hs.good]
      have h3' : 4 + span W + (secsB E (Q + W.length + 1) b).length ≤ s.now.length := by rw [secsB_length, hop.nlen]; exact h3
      refine safe_half (n := s.now) h5 (by rw [hs.len, over_length h3']) (by rw [hop.glen, over_length h3', hop.nlen]) hs.now fun i => ?_
      rw [over_at h3']
      by_cases h6 : i < 4 + span W
      · rw [if_pos h6]; exact .inl rfl
      · rw [if_neg h6]
        by_cases h7 : i < 4 + span W + (secsB E (Q + W.length + 1) b).length
        · right
          have hsame := hop.same
          have e1 : s.good[i]? = ((s.good.drop 4).drop (span W))[i - (4 + span W)]? := by rw [List.getElem?_drop, List.getElem?_drop]; congr 1; omega
          have e2 : s.now[i]? = ((s.now.drop 4).drop (span W))[i - (4 + span W)]? := by rw [List.getElem?_drop, List.getElem?_drop]; congr 1; omega
          rw [e1, e2, hsame]
        · rw [if_neg h7]; exact .inl rfl
/-- A commit. -/
theorem linv_commit {t sure e : Nat} {all : List Bs} {j j' : JS} {s s' : DS} (h : LInv t all sure j s) (ht : t + 1 ≤ 61) (hr : CoR j s e j' s') :
    e = 0 ∧ LInv (t + 1) all all.length j' s' ∨ e ≠ 0 ∧ LInv (t + 1) all sure j' s' := by
  cases hr with
  | dead hd => exact .inr ⟨by decide, linv_more h (by omega) ht⟩
  | closed hd ho => exact .inr ⟨by decide, linv_more h (by omega) ht⟩
  | done s' hd ho hs =>
    left
    cases h.inv with
    | closed p E M Q C W hc hs hW hC => cases ho
    | down j hj hs => rw [hd] at hj; cases hj
    | opened p E Q C K W hop hW hC hsure =>
      have hl : W.length = all.length - C := by rw [hW, List.length_drop]
      refine ⟨rfl, hs.ok, by rw [hs.good]; exact hop.nlen, Nat.le_refl _, ht, .opened p E Q C W.length W ?_ hW hC (by omega)⟩
      rw [hs.good, hs.now]
      exact open_more (open_commit hop) (by omega) ht
  | down s' hd ho hs hf =>
    right
    refine ⟨by decide, hs.2.2, by rw [hs.1]; exact h.len, h.le, ht, .down _ rfl ?_⟩
    rw [hs.1, hs.2.1]
    exact safe_tt (linv_safe h) (by omega) ht
/-- A checkpoint. -/
theorem linv_checkpoint {t sure e : Nat} {all : List Bs} {j j' : JS} {s s' : DS} (h : LInv t all sure j s) (ht : t + 1 ≤ 61) (hr : CkR j s (beB 2 all.length) e j' s') :
    e = 0 ∧ LInv (t + 1) all all.length j' s' ∨ e ≠ 0 ∧ LInv (t + 1) all sure j' s' := by
  have hsu := h.le
  have h2l : secs (beB 2 all.length).length = 1 := by rw [beB_length]; rfl
  cases hr with
  | dead hd => exact .inr ⟨by decide, linv_more h (by omega) ht⟩
  | big hd h1 => exact .inr ⟨by decide, linv_more h (by omega) ht⟩
  | full hd h1 h2 => exact .inr ⟨by decide, linv_more h (by omega) ht⟩
  | done s' hd h1 h2 hs =>
    left
    cases h.inv with
    | down j hj hs => rw [hd] at hj; cases hj
    | closed p E M Q C W hc hgn hW hC =>
      have hl : W.length = all.length - C := by rw [hW, List.length_drop]
      have h3 := (closed_try hc ht).1
      have hCl : C + W.length = all.length := by omega
      rw [hCl] at h3
      have hfull : s'.now = over s.now (2 * (1 - p)) [ckS (lastE s.now + 1) (Q + W.length) all.length] := by rw [hs.now, secsB_two]; show over s.now ((1 - p) * 2) _ = _; rw [show (1 - p) * 2 = 2 * (1 - p) by omega]; rfl
      have hg : s'.good = over s.now (2 * (1 - p)) [ckS (lastE s.now + 1) (Q + W.length) all.length] := by rw [hs.good, ← hs.now, hfull]
      refine ⟨rfl, hs.ok, by rw [hg]; exact h3.glen, Nat.le_refl _, ht, ?_⟩
      exact LI.opened (1 - p) (lastE s.now + 1) (Q + W.length) all.length 0 [] (by rw [hg, hfull]; exact h3) (by rw [List.drop_length]) (Nat.le_refl _) (by omega)
    | opened p E Q C K W hop hW hC hsure =>
      have hl : W.length = all.length - C := by rw [hW, List.length_drop]
      have h3 := (open_try hop ht).1
      have hCl : C + W.length = all.length := by omega
      have hE := open_last hop
      rw [hCl, ← hE] at h3
      have hfull : s'.now = over s.now (2 * (1 - p)) [ckS (lastE s.now + 1) (Q + W.length) all.length] := by rw [hs.now, secsB_two]; show over s.now ((1 - p) * 2) _ = _; rw [show (1 - p) * 2 = 2 * (1 - p) by omega]; rfl
      have hg : s'.good = over s.now (2 * (1 - p)) [ckS (lastE s.now + 1) (Q + W.length) all.length] := by rw [hs.good, ← hs.now, hfull]
      refine ⟨rfl, hs.ok, by rw [hg]; exact h3.glen, Nat.le_refl _, ht, ?_⟩
      exact LI.opened (1 - p) (lastE s.now + 1) (Q + W.length) all.length 0 [] (by rw [hg, hfull]; exact h3) (by rw [List.drop_length]) (Nat.le_refl _) (by omega)
  | down s' hd h1 h2 hs =>
    right
    refine ⟨by decide, hs.ok, by rw [hs.good]; exact h.len, h.le, ht, .down _ rfl ?_⟩
    rw [hs.good]
    cases h.inv with
    | down j hj hs => rw [hd] at hj; cases hj
    | closed p E M Q C W hc hgn hW hC =>
      have hl : W.length = all.length - C := by rw [hW, List.length_drop]
      have h3 := (closed_try hc ht).2
      have hp := hc.p2
      have hCl : C + W.length = all.length := by omega
      rw [hCl] at h3
      have hs' := hs.now
      rw [secsB_two] at hs'
      have hov : (over s.now (2 * (1 - p)) [ckS (lastE s.now + 1) (Q + W.length) all.length]).length = 64 := by rw [over_length (by simp [hc.len]; omega), hc.len]
      have hsafe : Safe (t + 1) all sure s.good (over s.now (2 * (1 - p)) [ckS (lastE s.now + 1) (Q + W.length) all.length]) := by
        rw [hgn]
        intro c2 hm
        rcases h3 c2 hm with h4 | h4
        · exact ⟨_, _, _, _, _, _, h4, by simp, by simp; omega, by simp⟩
        · exact ⟨_, _, _, _, _, _, h4, by omega, by omega, by rw [hl, hW, List.take_of_length_le (by rw [List.length_drop]; exact Nat.le_refl _)]⟩
      refine safe_half (n := s.now) hsafe (by rw [hs.len, hc.len, hov]) (by rw [h.len, hov]) (fun i => ?_) (fun i => .inr (by rw [hgn]))
      have := hs' i
      rw [show (1 - (jsOf p E (Q + W.length) (4 + span W) false).place) * (jsOf p E (Q + W.length) (4 + span W) false).slot = 2 * (1 - p) from by show (1 - p) * 2 = _; omega] at this
      exact this
    | opened p E Q C K W hop hW hC hsure =>
      have hl : W.length = all.length - C := by rw [hW, List.length_drop]
      have h3 := (open_try hop ht).2
      have hp := hop.p2
      have hCl : C + W.length = all.length := by omega
      have hE := open_last hop
      rw [hCl, ← hE] at h3
      have hs' := hs.now
      rw [secsB_two] at hs'
      have hov : (over s.now (2 * (1 - p)) [ckS (lastE s.now + 1) (Q + W.length) all.length]).length = 64 := by rw [over_length (by simp [hop.nlen]; omega), hop.nlen]
      have hsafe : Safe (t + 1) all sure s.good (over s.now (2 * (1 - p)) [ckS (lastE s.now + 1) (Q + W.length) all.length]) := by
        intro c2 hm
        rcases h3 c2 hm with h4 | ⟨m, m1, m2, h4⟩
        · exact ⟨_, _, _, _, _, _, h4, by simp, by simp; omega, by simp⟩
        · have hml : (W.take m).length = m := by rw [List.length_take]; omega
          exact ⟨_, _, _, _, _, _, h4, by omega, by omega, take_drop_all hW m2⟩
      refine safe_half (n := s.now) hsafe (by rw [hs.len, hop.nlen, hov]) (by rw [h.len, hov]) (fun i => ?_) (fun i => ?_)
      · have := hs' i
        rw [show (1 - (jsOf p E (Q + W.length) (4 + span W) true).place) * (jsOf p E (Q + W.length) (4 + span W) true).slot = 2 * (1 - p) from by show (1 - p) * 2 = _; omega] at this
        exact this
      · rw [over_at (by simp [hop.nlen]; omega)]
        by_cases h6 : i < 2 * (1 - p)
        · rw [if_pos h6]; exact .inl rfl
        · rw [if_neg h6]
          by_cases h7 : i < 2 * (1 - p) + [ckS (lastE s.now + 1) (Q + W.length) all.length].length
          · right
            simp only [List.length_singleton] at h7
            obtain rfl : i = 2 * (1 - p) := by omega
            rw [sec_at (by rw [hop.nlen]; omega), sec_at (by rw [hop.glen]; omega), hop.other.2]
          · rw [if_neg h7]; exact .inl rfl
/-- A fuse. -/
theorem linv_fuse {t sure : Nat} {all : List Bs} {j : JS} {s s' : DS} (h : LInv t all sure j s) (hg : s'.good = s.good) (hn : s'.now = s.now) (ok : s'.Ok) : LInv t all sure j s' := by
  refine ⟨ok, by rw [hg]; exact h.len, h.le, h.tt, ?_⟩
  cases h.inv with
  | closed p E M Q C W hc hs hW hC => exact .closed p E M Q C W (by rw [hn]; exact hc) (by rw [hg, hn]; exact hs) hW hC
  | opened p E Q C K W ho hW hC hs => exact .opened p E Q C K W (by rw [hg, hn]; exact ho) hW hC hs
  | down j hj hs => exact .down j hj (by rw [hg, hn]; exact hs)

theorem crash_mixed {s : DS} (ok : s.Ok) (keep torn cut : Int) : Mixed s.good s.now (s.crash keep torn cut).good := by
  refine ⟨Dsk.crash_length s keep torn cut, fun i x y z hx hy hz => ?_⟩
  have hi := (List.getElem?_eq_some_iff.1 hx).1
  obtain ⟨m, h1, h2, _⟩ := Dsk.crash_at ok keep torn cut hi
  refine ⟨m, h1, ?_⟩
  have gx : s.good.getD i [] = x := by simp [List.getD, hx]
  have gy : s.now.getD i [] = y := by simp [List.getD, hy]
  have gz : (s.crash keep torn cut).good.getD i [] = z := by simp [List.getD, hz]
  rw [gx, gy, gz] at h2
  exact h2
theorem all_take {all W : List Bs} {C : Nat} (h1 : C + W.length ≤ all.length) (h : W = (all.drop C).take W.length) : W = (all.take (C + W.length)).drop C := by
  rw [List.drop_take, show C + W.length - C = W.length by omega]; exact h
/-- A crash, and a new opening. -/
theorem linv_crash {t sure e : Nat} {all : List Bs} {j : JS} {s : DS} {r : Option (JS × Bs × List Bs)} (h : LInv t all sure j s) (keep torn cut : Int) (hr : OpenR (s.crash keep torn cut) 2 e r) :
    ∃ j' C l, e = 0 ∧ r = some (j', beB 2 C, l) ∧ C + l.length ≤ all.length ∧ sure ≤ C + l.length ∧ C < 256 ∧ l = (all.drop C).take l.length ∧ LInv t (all.take (C + l.length)) (C + l.length) j' (s.crash keep torn cut) := by
  have hn : (s.crash keep torn cut).now = (s.crash keep torn cut).good := rfl
  have hlen : (s.crash keep torn cut).good.length = 64 := by rw [Dsk.crash_length, h.len]
  obtain ⟨p, E, M, Q, C, W, h1, h2, h3, h4⟩ := linv_safe h _ (crash_mixed h.ok keep torn cut)
  have hpk := closed_pick h1
  have hpo : partOk (s.crash keep torn cut).good.length 2 := by rw [hlen]; exact ⟨by omega, by omega⟩
  obtain ⟨b1, b2, b3, b4, b5, b6⟩ := h1.bd
  cases hr with
  | arg hno => exact absurd hpo hno
  | lost hp hn1 =>
    rw [show (2 : Int).toNat = 2 from rfl, hn, hpk] at hn1
    cases hn1
  | done p' E' Q' b hp hn1 =>
    rw [show (2 : Int).toNat = 2 from rfl, hn, hpk] at hn1
    injection hn1 with hn1
    injection hn1 with e1 hn1
    injection hn1 with e2 hn1
    injection hn1 with e3 e4
    subst e1 e2 e3 e4
    have hrd : listed (s.crash keep torn cut).now 2 E Q = W := h1.read
    have hat : (all.take (C + W.length)).length = C + W.length := by rw [List.length_take]; omega
    refine ⟨jsOf p E (Q + W.length) (4 + span W) false, C, W, rfl, ?_, h2, h3, by omega, h4, Dsk.crash_ok h.ok _ _ _, hlen, by omega, h.tt, ?_⟩
    · rw [show (2 : Int).toNat = 2 from rfl, hrd]; rfl
    · exact .closed p E M Q C W (by rw [hn]; exact h1) rfl (all_take h2 h4) (by omega)

/-- The first checkpoint. -/
theorem linv_first {e e' : Nat} {s' : DS} {r : Option (JS × Bs × List Bs)} (hf : FormatR (DS.new 64) 2 (beB 2 0) e s') (ho : OpenR s' 2 e' r) : e = 0 ∧ e' = 0 ∧ ∃ j, r = some (j, beB 2 0, []) ∧ LInv 1 [] 0 j s' := by
  have hnew : (DS.new 64).good = List.replicate 64 zero32 := rfl
  have hnow : (DS.new 64).now = List.replicate 64 zero32 := rfl
  have h2l : secs (beB 2 0).length = 1 := by rw [beB_length]; rfl
  cases hf with
  | arg h => exact absurd ⟨by omega, by rw [hnew]; simp⟩ h
  | big h h1 => rw [beB_length] at h1; omega
  | full h h1 h2 => rw [h2l] at h2; omega
  | down s' h h1 h2 hs => exact absurd rfl hs.fuse
  | done s' h h1 h2 hs =>
    have hg : s'.good = over (List.replicate 64 zero32) 0 [ckS 1 0 0] := by rw [hs.good, hnow, secsB_two]
    have hn : s'.now = s'.good := by rw [hs.now, hs.good]
    have hlen : s'.good.length = 64 := by rw [hg, over_length (by simp)]; simp
    have hsec : ∀ i, i < 64 → sec s'.good i = if i = 0 then ckS 1 0 0 else zero32 := fun i hi => by
      rw [hg, over_sec (by simp) (by simpa using hi)]
      split
      · rfl
      · unfold sec
        rw [Dsk.getD_at (by simpa using hi), List.getElem_replicate]
    have h32 : ∀ x ∈ s'.good, x.length = 32 := fun x hx => by
      rw [hg] at hx
      rcases over_mem hx with hx | hx
      · rw [(List.mem_replicate.1 hx).2]; rfl
      · simp at hx; rw [hx]; exact jk_length _ _ _ _
    have hd4 : s'.good.drop 4 = List.replicate 60 zero32 := by rw [hg, over_drop4 (by omega) (by simp), List.drop_replicate]
    have hc : ClosedD 1 0 1 1 0 0 [] s'.now := by
      rw [hn]
      refine ⟨hlen, h32, by omega, by rw [hsec _ (by omega)]; rfl, ⟨by rw [hsec 1 (by omega), if_neg (by omega)], by rw [hsec 3 (by omega), if_neg (by omega)]⟩, ?_, ?_, ?_, by simp⟩
      · rw [hsec _ (by omega), if_neg (by omega)]
        exact .inl ⟨rfl, by rw [zero_epoch]; omega, by decide⟩
      · intro x hx
        rw [hd4] at hx
        rw [(List.mem_replicate.1 hx).2, zero_epoch]; omega
      · unfold listed
        refine ends_recs (fun x hx => ?_) _
        rw [show 2 * 2 = 4 from rfl, hd4] at hx
        have hm := List.mem_of_mem_head? (by rw [hx]; rfl : x ∈ (List.replicate 60 zero32).head?)
        rw [(List.mem_replicate.1 hm).2]
        exact ⟨rfl, by rw [zero_epoch]; omega⟩
    have hpk := closed_pick hc
    refine ⟨rfl, ?_⟩
    cases ho with
    | arg h => exact absurd ⟨by omega, by rw [hlen]; omega⟩ h
    | lost h h1 => rw [show (2 : Int).toNat = 2 from rfl, hpk] at h1; cases h1
    | done p' E' Q' b hp hn1 =>
      rw [show (2 : Int).toNat = 2 from rfl, hpk] at hn1
      injection hn1 with hn1
      injection hn1 with e1 hn1
      injection hn1 with e2 hn1
      injection hn1 with e3 e4
      subst e1 e2 e3 e4
      have hrd : listed s'.now 2 1 0 = [] := hc.read
      refine ⟨rfl, jsOf 0 1 0 4 false, ?_, hs.ok, hlen, Nat.le_refl _, by omega, ?_⟩
      · rw [show (2 : Int).toNat = 2 from rfl, hrd]; rfl
      · exact LI.closed 0 1 1 0 0 [] hc hn.symm rfl (Nat.le_refl _)
end Go.Proofs.Ytdgfoldobofgoaa.Jrn
/- Journal: what the laws share: acts as arguments, bytes cut short, a count, two lists of texts. -/
namespace Go.Proofs.Ytdgfoldobofgoaa.Jrn
open Go.RowKit
open Go.Sort
open Kit
open Oct
open Chk
open Frm
open Foot
open Dsk (Sec DS mix mix_at mix_length mix_whole mix_none)
set_option linter.unusedVariables false

/-! ### Arguments -/

structure Ac where
  d : UInt8
  b : Sv
  keep : Int
  torn : Int
  cut : Int
def encA (x : Ac) : List Value := [.int .u8 (x.d.toNat : Int), x.b.val, .int .i64 x.keep, .int .i64 x.torn, .int .i64 x.cut]
theorem encA_len (x : Ac) : (encA x).length = 5 := rfl
def Ac.ok (w : World) (x : Ac) : Prop := SvOk w x.b ∧ inI x.keep ∧ inI x.torn ∧ inI x.cut
def RAc (w : World) (cs : List Value) (x : Ac) : Prop := cs = encA x ∧ x.ok w
theorem cells_act : Try.prog.cellsOf 34 = 5 := by kernel_rfl
theorem cells_int : Try.prog.cellsOf 3 = 1 := by kernel_rfl
theorem cells_sl : Try.prog.cellsOf 27 = 1 := by kernel_rfl
theorem i64_wf {n : Int} (h : (Lit.int .i64 n).wf = true) : inI n := by
  simp [Lit.wf, IntKind.min, IntKind.max, IntKind.signed, IntKind.bits] at h
  exact h
set_option maxRecDepth 100000 in
theorem opens_act {w : World} : Opn.Opens Try.prog w 34 (RAc w) := by
  refine Opn.opens_struct Try.underlying34 fun cs hlen hf => ?_
  rw [cells_act] at hlen
  match cs, hlen with
  | [c0, c1, c2, c3, c4], _ =>
    obtain ⟨d, h0⟩ := hf 0 _ rfl _ _ opens_byte
    obtain ⟨l, h1⟩ := hf 1 _ rfl _ _ opens_bytes
    obtain ⟨k, h2, w2⟩ := hf 2 _ rfl _ _ (Opn.opens_int Try.underlying3)
    obtain ⟨t, h3, w3⟩ := hf 3 _ rfl _ _ (Opn.opens_int Try.underlying3)
    obtain ⟨u, h4, w4⟩ := hf 4 _ rfl _ _ (Opn.opens_int Try.underlying3)
    obtain ⟨a', n', c', e', g1, g2, g3, g4, g5⟩ := h1
    unfold RByte encB at h0
    simp [cells_int, cells_u8, cells_sl] at h0 e' h2 h3 h4
    subst h0 e' h2 h3 h4
    exact ⟨⟨d, ⟨a', n', c', l⟩, k, t, u⟩, rfl, ⟨g1, g2, g3, g4, Kit.row_of_cells (fun _ _ h => h) g5⟩, i64_wf w2, i64_wf w3, i64_wf w4⟩
theorem opens_acts {w : World} : Opn.Opens Try.prog w 22 (Opn.RSlice (RAc w) 5 w) := Opn.opens_slice Try.underlying22 cells_act (by omega) opens_act
theorem acts_arg {w : World} {a : Option Addr} {len cap : Nat} {l : List Ac} (h : Opn.RSlice (RAc w) 5 w [.slice a len cap] l) : l.length = len ∧ len ≤ cap ∧ cap ≤ maxLen ∧ (a = none → len = 0 ∧ cap = 0) ∧ Kit.Row encA 5 w a l ∧ ∀ x ∈ l, x.ok w := by
  obtain ⟨a', len', cap', he, hl, hc, hm, hn, hcs⟩ := h
  simp at he
  obtain ⟨rfl, rfl, rfl⟩ := he
  exact ⟨hl, hc, hm, hn, Kit.row_of_cells (fun _ _ h => h.1) hcs, Kit.all_of_cells (fun _ _ h => h.2) hcs⟩
theorem ac_keep {w w' : World} {x : Ac} (h : x.ok w) (hb : Below w.heap.size w w') : x.ok w' := ⟨sv_keep h.1 hb, h.2⟩

/-! ### Bytes cut short -/

def cutS (m : Nat) (s : Sv) : Sv := ⟨s.a, (s.l.take m).length, s.c, s.l.take m⟩
theorem cutS_ok {w : World} {s : Sv} (h : SvOk w s) (m : Nat) : SvOk w (cutS m s) := by
  have h1 := arg_take h (min m s.l.length) (by have := h.len; omega)
  have e : s.l.take (min m s.l.length) = s.l.take m := by
    rcases Nat.le_total m s.l.length with h2 | h2
    · rw [Nat.min_eq_left h2]
    · rw [Nat.min_eq_right h2, List.take_of_length_le h2, List.take_of_length_le (Nat.le_refl _)]
  rw [e] at h1
  have e2 : min m s.l.length = (s.l.take m).length := by rw [List.length_take]
  rw [e2] at h1
  exact h1
theorem cutS_le (m : Nat) (s : Sv) : (cutS m s).n ≤ m := by show (s.l.take m).length ≤ m; rw [List.length_take]; omega
set_option maxHeartbeats 1000000 in
theorem short_any (s : Sv) (m : Nat) (hm : m ≤ 1000) (w : World) (h : SvOk w s) :
    Calls Try.prog 17 #[s.val, .int .i64 (m : Nat)] w fun e w' => e = .returned (cutS m s).val ∧ w = w' := by
  obtain ⟨a, n, c, l⟩ := s
  obtain ⟨hl, hc, hcm, _, _⟩ := h
  simp only [Sv.val, cutS] at *
  unfold maxLen at hcm
  subst hl
  by_cases h : l.length ≤ m
  · have E := Lib.hid (show (l.take m).length = l.length by rw [List.length_take]; omega)
    go_enter Try.func17, Try.ntmps17
    go_wp2
    go_ret
    refine ⟨?_, rfl⟩
    rw [E.out]; rfl
  · have E := Lib.hid (show (l.take m).length = m by rw [List.length_take]; omega)
    have hlt : (m : Int) < l.length := by omega
    go_enter Try.func17, Try.ntmps17
    go_wp2
    go_ret
    refine ⟨?_, rfl⟩
    rw [E.out]
    first | rfl | (simp; try omega)

/-! ### A count -/

set_option maxHeartbeats 1000000 in
theorem count_any (n : Nat) (hn : n < 60000) (w : World) :
    Calls Try.prog 9 #[.int .i64 (n : Nat)] w fun e w' => e = .returned (.slice (some ⟨w.heap.size, 0, none⟩) 2 2) ∧ RowB w' (some ⟨w.heap.size, 0, none⟩) (beB 2 n) ∧ Below w.heap.size w w' := by
  have h0 : ((n : Int) / 256) % 256 = ((UInt8.ofNat (n / 256 ^ 1)).toNat : Int) := by rw [u8_of, Nat.pow_one]; omega
  have h1 : ((n : Int) % 256) % 256 = ((UInt8.ofNat (n / 256 ^ 0)).toNat : Int) := by rw [u8_of, Nat.pow_zero, Nat.div_one]; omega
  have HB := Lib.hid (And.intro h0 h1)
  clear h0 h1
  go_enter Try.func9, Try.ntmps9
  go_wp2
  go_ret
  refine ⟨rfl, ?_, below_alloc w _⟩
  refine row_two w (b := UInt8.ofNat (n / 256 ^ 1)) (b' := UInt8.ofNat (n / 256 ^ 0)) ?_ ?_
  · rw [← HB.out.1]; first | rfl | (congr 1; omega)
  · rw [← HB.out.2]; first | rfl | (congr 1; omega)
end Go.Proofs.Ytdgfoldobofgoaa.Jrn
/- Journal: are two lists of texts one? -/
namespace Go.Proofs.Ytdgfoldobofgoaa.Jrn
open Go.RowKit
open Go.Sort
open Kit
open Oct
open Chk
open Frm
open Foot
set_option linter.unusedVariables false

theorem run_at_svs (b o n c k : Nat) (h : k < n) (w : World) : (Instr.indexAt 29 (.slice (some ⟨b, o, none⟩) n c) (.int .i64 (k : Nat))).run Try.prog w = .ok (.pointer (some ⟨b, o + k, none⟩)) w := by
  simp [go_sem]
  omega
theorem run_ld_sv {w : World} {a : Option Addr} {n c : Nat} {q : Addr} (h : w.cell? q = some (.slice a n c)) : (Instr.loadAt 27 (.pointer (some q))).run Try.prog w = .ok (.slice a n c) w := by
  simp [go_sem, h]
theorem sv_at {w : World} {b o : Nat} {ss : List Sv} {k : Nat} (h : Kit.Row encV 1 w (some ⟨b, o, none⟩) ss) (hk : k < ss.length) : w.cell? ⟨b, o + k, none⟩ = some ss[k].val := by
  have := row_cell h hk rfl (i := 0) (by omega)
  simpa [encV] using this
set_option maxRecDepth 100000 in
set_option maxHeartbeats 400000 in
theorem texts_any (v1 v2 : Value) (l1 l2 : List Bs) (W : World) (h1 : ListB W v1 l1) (h2 : ListB W v2 l2) :
    Calls Try.prog 12 #[v1, v2] W fun e w' => e = .returned (.bool (decide (l1 = l2))) ∧ Below W.heap.size W w' := by
  obtain ⟨a1, c1, ss1, rfl, q1, m1, n1, r1, k1, rfl⟩ := h1
  obtain ⟨a2, c2, ss2, rfl, q2, m2, n2, r2, k2, rfl⟩ := h2
  unfold maxLen at m1 m2
  by_cases hl : ss1.length = ss2.length
  · have HR := Lib.hid (And.intro r1 r2)
    have HOk := Lib.hid (And.intro k1 k2)
    obtain ⟨n, hn⟩ : ∃ n, n = ss1.length := ⟨_, rfl⟩
    have HL := Lib.hid (And.intro hn hl)
    rw [← hl] at q2 ⊢
    rw [← hn] at q1 q2 ⊢
    clear r1 r2 k1 k2 n1 n2 hl hn
    go_enter Try.func12, Try.ntmps12
    go_wp2
    go_loopw [5] (fun iv wx => ∃ k : Nat, k ≤ n ∧ iv = .int .i64 k ∧ (∀ j, j < k → (ss1.map (·.l))[j]? = (ss2.map (·.l))[j]?) ∧ Below W.heap.size W wx) (fun iv _ => n - (intOf iv).toNat)
    case atStart => exact ⟨0, Nat.zero_le _, rfl, (fun j hj => by omega), Below.refl _ _⟩
    case round =>
      obtain ⟨k, hk, rfl, hall, hb⟩ := hrel
      have HAll := Lib.hid hall
      have HB := Lib.hid hb
      clear hall hb
      by_cases hlt : k < n
      · have hk1 : k < ss1.length := by rw [← HL.out.1]; exact hlt
        have hk2 : k < ss2.length := by rw [← HL.out.2]; exact hk1
        have r1 := row_keep encV_len HR.out.1 HB.out
        have r2 := row_keep encV_len HR.out.2 HB.out
        obtain ⟨b1, o1, rfl⟩ : ∃ b o, a1 = some ⟨b, o, none⟩ := by
          rcases HR.out.1 with h | ⟨b, o, e, _⟩
          · rw [h] at hk1; cases hk1
          · exact ⟨b, o, e⟩
        obtain ⟨b2, o2, rfl⟩ : ∃ b o, a2 = some ⟨b, o, none⟩ := by
          rcases HR.out.2 with h | ⟨b, o, e, _⟩
          · rw [h] at hk2; cases hk2
          · exact ⟨b, o, e⟩
        have hc1 := sv_at r1 hk1
        have hc2 := sv_at r2 hk2
        have hs1 := sv_keep (HOk.out.1 _ (List.getElem_mem hk1)) HB.out
        have hs2 := sv_keep (HOk.out.2 _ (List.getElem_mem hk2)) HB.out
        have he1 : (ss1.map (·.l))[k]? = some ss1[k].l := by rw [List.getElem?_map, List.getElem?_eq_getElem hk1]; rfl
        have he2 : (ss2.map (·.l))[k]? = some ss2[k].l := by rw [List.getElem?_map, List.getElem?_eq_getElem hk2]; rfl
        generalize ss1[k] = s1 at *
        generalize ss2[k] = s2 at *
        obtain ⟨a3, n3, c3, x1⟩ := s1
        obtain ⟨a4, n4, c4, x2⟩ := s2
        simp only [Sv.val] at hc1 hc2 he1 he2
        have HC := Lib.hid (And.intro hc1 hc2)
        have HS1 := Lib.hid (show x1.length = n3 ∧ (a3 = none → n3 = 0) ∧ RowB wr a3 x1 from ⟨hs1.len, fun e => (hs1.nil e).1, hs1.row⟩)
        have HS2 := Lib.hid (show x2.length = n4 ∧ (a4 = none → n4 = 0) ∧ RowB wr a4 x2 from ⟨hs2.len, fun e => (hs2.nil e).1, hs2.row⟩)
        have HE := Lib.hid (And.intro he1 he2)
        have KC := Lib.hid fun (W : World) (a : Option Addr) (len cap : Nat) (l : List UInt8) (hl : l.length = len) (hn : a = none → len = 0) (h : RowB W a l) => conv_row (P := Try.prog) (src := 27) (dst := 9) Try.underlying27 Try.underlying5 Try.underlying9 (cap := cap) hl hn h
        obtain ⟨wq, hwq⟩ : ∃ x, x = wr := ⟨wr, rfl⟩
        subst hwq
        clear r1 r2 he1 he2 hk1 hk2 hs1 hs2 hc1 hc2
        by_cases hne : x1 = x2
        · have HNe := Lib.hid hne
          clear hne
          go_wp2_with fail
          refine Rel.wp_region_rel (G := Rel.Gr) (Rel.tab [.is (.slice (some ⟨b1, o1, none⟩) n c1), .is (.int .i64 (k : Nat)), .is (.pointer (some ⟨b1, o1 + k, none⟩)), .is (.slice a3 n3 c3), .is (.string ⟨x1.toArray⟩), .is (.slice (some ⟨b2, o2, none⟩) n c2), .is (.int .i64 (k : Nat)), .is (.pointer (some ⟨b2, o2 + k, none⟩)), .is (.slice a4 n4 c4), .is (.string ⟨x2.toArray⟩), .is (.bool false)]) (fun _ w => Below wq.heap.size wq w) (by kernel_rfl) (by kernel_rfl) (by kernel_rfl) (by kernel_rfl) (fun w => Rel.gr_refl _) (below_drew _) ?_ ?_
          · refine ⟨?_, ?_, ?_, ?_, ?_, ?_, ?_, ?_, ?_, ?_, ?_, trivial⟩
            · intro L a w c
              refine .inl ⟨Rel.wanted_free (by kernel_rfl) _, ?_⟩
              exact Rel.wp_mv _ rfl ⟨_, rfl, Rel.gr_refl _, (c.old 0 (v := .slice (some ⟨b1, o1, none⟩) n c1) (by kernel_rfl) (by kernel_rfl)), c.inv⟩
            · intro L a w c
              refine .inl ⟨Rel.wanted_free (by kernel_rfl) _, ?_⟩
              exact Rel.wp_mv _ rfl ⟨_, rfl, Rel.gr_refl _, (c.old 5 (v := .int .i64 (k : Nat)) (by kernel_rfl) (by kernel_rfl)), c.inv⟩
            · intro L a w c
              refine .inl ⟨Rel.wanted_free (by kernel_rfl) _, ?_⟩
              exact Rel.wp_ia _ _ _ rfl (c.get 0 17 (by kernel_rfl)) (c.get 1 18 (by kernel_rfl)) (run_at_svs b1 o1 n c1 k (by omega) w) ⟨_, rfl, Rel.gr_refl _, rfl, c.inv⟩
            · intro L a w c
              refine .inl ⟨Rel.wanted_free (by kernel_rfl) _, ?_⟩
              exact Rel.wp_ld _ _ rfl (c.get 2 19 (by kernel_rfl)) (run_ld_sv (cell_keep c.inv HC.out.1)) ⟨_, rfl, Rel.gr_refl _, rfl, c.inv⟩
            · intro L a w c
              refine .inl ⟨Rel.wanted_free (by kernel_rfl) _, ?_⟩
              exact Rel.wp_cv _ _ _ rfl (c.get 3 20 (by kernel_rfl)) (KC.out w _ _ _ x1 HS1.out.1 HS1.out.2.1 (row_keep encB_len HS1.out.2.2 c.inv)) ⟨_, rfl, Rel.gr_refl _, rfl, c.inv⟩
            · intro L a w c
              refine .inl ⟨Rel.wanted_free (by kernel_rfl) _, ?_⟩
              exact Rel.wp_mv _ rfl ⟨_, rfl, Rel.gr_refl _, (c.old 1 (v := .slice (some ⟨b2, o2, none⟩) n c2) (by kernel_rfl) (by kernel_rfl)), c.inv⟩
            · intro L a w c
              refine .inl ⟨Rel.wanted_free (by kernel_rfl) _, ?_⟩
              exact Rel.wp_mv _ rfl ⟨_, rfl, Rel.gr_refl _, (c.old 5 (v := .int .i64 (k : Nat)) (by kernel_rfl) (by kernel_rfl)), c.inv⟩
            · intro L a w c
              refine .inl ⟨Rel.wanted_free (by kernel_rfl) _, ?_⟩
              exact Rel.wp_ia _ _ _ rfl (c.get 5 22 (by kernel_rfl)) (c.get 6 23 (by kernel_rfl)) (run_at_svs b2 o2 n c2 k (by omega) w) ⟨_, rfl, Rel.gr_refl _, rfl, c.inv⟩
            · intro L a w c
              refine .inl ⟨Rel.wanted_free (by kernel_rfl) _, ?_⟩
              exact Rel.wp_ld _ _ rfl (c.get 7 24 (by kernel_rfl)) (run_ld_sv (cell_keep c.inv HC.out.2)) ⟨_, rfl, Rel.gr_refl _, rfl, c.inv⟩
            · intro L a w c
              refine .inl ⟨Rel.wanted_free (by kernel_rfl) _, ?_⟩
              exact Rel.wp_cv _ _ _ rfl (c.get 8 25 (by kernel_rfl)) (KC.out w _ _ _ x2 HS2.out.1 HS2.out.2.1 (row_keep encB_len HS2.out.2.2 c.inv)) ⟨_, rfl, Rel.gr_refl _, rfl, c.inv⟩
            · intro L a w c
              refine .inl ⟨Rel.wanted_free (by kernel_rfl) _, ?_⟩
              exact Rel.wp_bo _ _ _ _ _ rfl (u := .bool false) (c.get 4 21 (by kernel_rfl)) (c.get 9 26 (by kernel_rfl)) (by simp [go_sem, HNe.out]) ⟨_, rfl, Rel.gr_refl _, rfl, c.inv⟩
          intro a w8 hbase hroom hdef hJ hV
          have s27 : Rel.slot a 27 = .bool false := hV 10 _ _ rfl rfl
          rw [Chn.act_puts [17, 18, 19, 20, 21, 22, 23, 24, 25, 26, 27] hbase hroom hdef (by kernel_rfl)]
          clear hbase hroom hdef hV
          simp only [List.foldl_cons, List.foldl_nil]
          generalize Rel.slot a 17 = u17 at *
          generalize Rel.slot a 18 = u18 at *
          generalize Rel.slot a 19 = u19 at *
          generalize Rel.slot a 20 = u20 at *
          generalize Rel.slot a 21 = u21 at *
          generalize Rel.slot a 22 = u22 at *
          generalize Rel.slot a 23 = u23 at *
          generalize Rel.slot a 24 = u24 at *
          generalize Rel.slot a 25 = u25 at *
          generalize Rel.slot a 26 = u26 at *
          rw [s27]
          clear s27
          simp only [Act.put, List.setIfInBounds_toArray, List.set_cons_succ, List.set_cons_zero]
          have HB8 := Lib.hid (below_keep HB.out hJ)
          clear hJ
          go_wp2
          go_roundw
          case rel => exact ⟨k + 1, by omega, by go_num, (fun j hj => by
            rcases Nat.lt_or_ge j k with h | h
            · exact HAll.out j h
            · obtain rfl : j = k := by omega
              rw [HE.out.1, HE.out.2, HNe.out]), HB8.out⟩
          case measure => simp [intOf]; omega
        · have HNe := Lib.hid hne
          clear hne
          go_wp2_with fail
          refine Rel.wp_region_rel (G := Rel.Gr) (Rel.tab [.is (.slice (some ⟨b1, o1, none⟩) n c1), .is (.int .i64 (k : Nat)), .is (.pointer (some ⟨b1, o1 + k, none⟩)), .is (.slice a3 n3 c3), .is (.string ⟨x1.toArray⟩), .is (.slice (some ⟨b2, o2, none⟩) n c2), .is (.int .i64 (k : Nat)), .is (.pointer (some ⟨b2, o2 + k, none⟩)), .is (.slice a4 n4 c4), .is (.string ⟨x2.toArray⟩), .is (.bool true)]) (fun _ w => Below wq.heap.size wq w) (by kernel_rfl) (by kernel_rfl) (by kernel_rfl) (by kernel_rfl) (fun w => Rel.gr_refl _) (below_drew _) ?_ ?_
          · refine ⟨?_, ?_, ?_, ?_, ?_, ?_, ?_, ?_, ?_, ?_, ?_, trivial⟩
            · intro L a w c
              refine .inl ⟨Rel.wanted_free (by kernel_rfl) _, ?_⟩
              exact Rel.wp_mv _ rfl ⟨_, rfl, Rel.gr_refl _, (c.old 0 (v := .slice (some ⟨b1, o1, none⟩) n c1) (by kernel_rfl) (by kernel_rfl)), c.inv⟩
            · intro L a w c
              refine .inl ⟨Rel.wanted_free (by kernel_rfl) _, ?_⟩
              exact Rel.wp_mv _ rfl ⟨_, rfl, Rel.gr_refl _, (c.old 5 (v := .int .i64 (k : Nat)) (by kernel_rfl) (by kernel_rfl)), c.inv⟩
            · intro L a w c
              refine .inl ⟨Rel.wanted_free (by kernel_rfl) _, ?_⟩
              exact Rel.wp_ia _ _ _ rfl (c.get 0 17 (by kernel_rfl)) (c.get 1 18 (by kernel_rfl)) (run_at_svs b1 o1 n c1 k (by omega) w) ⟨_, rfl, Rel.gr_refl _, rfl, c.inv⟩
            · intro L a w c
              refine .inl ⟨Rel.wanted_free (by kernel_rfl) _, ?_⟩
              exact Rel.wp_ld _ _ rfl (c.get 2 19 (by kernel_rfl)) (run_ld_sv (cell_keep c.inv HC.out.1)) ⟨_, rfl, Rel.gr_refl _, rfl, c.inv⟩
            · intro L a w c
              refine .inl ⟨Rel.wanted_free (by kernel_rfl) _, ?_⟩
              exact Rel.wp_cv _ _ _ rfl (c.get 3 20 (by kernel_rfl)) (KC.out w _ _ _ x1 HS1.out.1 HS1.out.2.1 (row_keep encB_len HS1.out.2.2 c.inv)) ⟨_, rfl, Rel.gr_refl _, rfl, c.inv⟩
            · intro L a w c
              refine .inl ⟨Rel.wanted_free (by kernel_rfl) _, ?_⟩
              exact Rel.wp_mv _ rfl ⟨_, rfl, Rel.gr_refl _, (c.old 1 (v := .slice (some ⟨b2, o2, none⟩) n c2) (by kernel_rfl) (by kernel_rfl)), c.inv⟩
            · intro L a w c
              refine .inl ⟨Rel.wanted_free (by kernel_rfl) _, ?_⟩
              exact Rel.wp_mv _ rfl ⟨_, rfl, Rel.gr_refl _, (c.old 5 (v := .int .i64 (k : Nat)) (by kernel_rfl) (by kernel_rfl)), c.inv⟩
            · intro L a w c
              refine .inl ⟨Rel.wanted_free (by kernel_rfl) _, ?_⟩
              exact Rel.wp_ia _ _ _ rfl (c.get 5 22 (by kernel_rfl)) (c.get 6 23 (by kernel_rfl)) (run_at_svs b2 o2 n c2 k (by omega) w) ⟨_, rfl, Rel.gr_refl _, rfl, c.inv⟩
            · intro L a w c
              refine .inl ⟨Rel.wanted_free (by kernel_rfl) _, ?_⟩
              exact Rel.wp_ld _ _ rfl (c.get 7 24 (by kernel_rfl)) (run_ld_sv (cell_keep c.inv HC.out.2)) ⟨_, rfl, Rel.gr_refl _, rfl, c.inv⟩
            · intro L a w c
              refine .inl ⟨Rel.wanted_free (by kernel_rfl) _, ?_⟩
              exact Rel.wp_cv _ _ _ rfl (c.get 8 25 (by kernel_rfl)) (KC.out w _ _ _ x2 HS2.out.1 HS2.out.2.1 (row_keep encB_len HS2.out.2.2 c.inv)) ⟨_, rfl, Rel.gr_refl _, rfl, c.inv⟩
            · intro L a w c
              refine .inl ⟨Rel.wanted_free (by kernel_rfl) _, ?_⟩
              exact Rel.wp_bo _ _ _ _ _ rfl (u := .bool true) (c.get 4 21 (by kernel_rfl)) (c.get 9 26 (by kernel_rfl)) (by simp [go_sem]; exact HNe.out) ⟨_, rfl, Rel.gr_refl _, rfl, c.inv⟩
          intro a w8 hbase hroom hdef hJ hV
          have s27 : Rel.slot a 27 = .bool true := hV 10 _ _ rfl rfl
          rw [Chn.act_puts [17, 18, 19, 20, 21, 22, 23, 24, 25, 26, 27] hbase hroom hdef (by kernel_rfl)]
          clear hbase hroom hdef hV
          simp only [List.foldl_cons, List.foldl_nil]
          generalize Rel.slot a 17 = u17 at *
          generalize Rel.slot a 18 = u18 at *
          generalize Rel.slot a 19 = u19 at *
          generalize Rel.slot a 20 = u20 at *
          generalize Rel.slot a 21 = u21 at *
          generalize Rel.slot a 22 = u22 at *
          generalize Rel.slot a 23 = u23 at *
          generalize Rel.slot a 24 = u24 at *
          generalize Rel.slot a 25 = u25 at *
          generalize Rel.slot a 26 = u26 at *
          rw [s27]
          clear s27
          simp only [Act.put, List.setIfInBounds_toArray, List.set_cons_succ, List.set_cons_zero]
          have HB8 := Lib.hid (below_keep HB.out hJ)
          clear hJ
          go_wp2
          go_ret
          refine ⟨ret_bool (Eq.symm (decide_eq_false fun e => HNe.out ?_)), HB8.out⟩
          have h3 : (ss1.map (·.l))[k]? = (ss2.map (·.l))[k]? := congrArg (fun l : List Bs => l[k]?) e
          rw [HE.out.1, HE.out.2] at h3
          exact Option.some.inj h3
      · obtain rfl : k = n := by omega
        go_wp2
        go_ret
        refine ⟨ret_bool (Eq.symm (decide_eq_true (List.ext_getElem? fun j => ?_))), HB.out⟩
        by_cases hj : j < k
        · exact HAll.out j hj
        · rw [List.getElem?_eq_none (by rw [List.length_map, ← HL.out.1]; omega), List.getElem?_eq_none (by rw [List.length_map, ← HL.out.2, ← HL.out.1]; omega)]
  · have HL := Lib.hid (show decide (ss1.map (·.l) = ss2.map (·.l)) = false from decide_eq_false fun e => hl (by have := congrArg List.length e; simpa using this))
    have hli : ¬ (ss1.length : Int) = ss2.length := by omega
    clear r1 r2 k1 k2 n1 n2 hl
    go_enter Try.func12, Try.ntmps12
    go_wp2
    go_ret
    exact ⟨by rw [HL.out]; rfl, Below.refl _ _⟩
end Go.Proofs.Ytdgfoldobofgoaa.Jrn
/- Journal: JournalLasts' own list of all that was written; bounds of a journal in it. -/
namespace Go.Proofs.Ytdgfoldobofgoaa.Jrn
open Go.RowKit
open Go.Sort
open Kit
open Oct
open Chk
open Frm
open Foot
open Dsk (Sec DS mix mix_at mix_length mix_whole mix_none)
set_option linter.unusedVariables false

/-! ### How far a log goes -/

theorem flat32 (L : List Sec) (h : ∀ x ∈ L, x.length = 32) : L.flatten.length = 32 * L.length := by
  induction L with
  | nil => rfl
  | cons x L ih =>
    rw [List.flatten_cons, List.length_append, h x (by simp), ih fun y hy => h y (by simp [hy]), List.length_cons]; omega
theorem recs_span (E : Nat) : ∀ (f q : Nat) (L : List Sec), (∀ x ∈ L, x.length = 32) → span (recs E f q L) ≤ L.length
  | 0, q, L, h => Nat.zero_le _
  | f + 1, q, L, h => by
    unfold recs
    split
    · rename_i e q' b k hu
      split
      · obtain ⟨_, _, _, h4, h5, _⟩ := unpack_some hu
        rw [flat32 L h] at h5
        have ih := recs_span E f (q + 1) (L.drop k) fun x hx => h x (List.mem_of_mem_drop hx)
        rw [List.length_drop] at ih
        have : span (b :: recs E f (q + 1) (L.drop k)) = secs b.length + span (recs E f (q + 1) (L.drop k)) := by simp [span]
        omega
      · exact Nat.zero_le _
    · exact Nat.zero_le _
theorem log_span {E q K : Nat} {W : List Bs} {g n : List Sec} (h : LogN E q K W g n) : span W ≤ n.length := by
  induction h with
  | nil q R h => exact Nat.zero_le _
  | sure q K b W g n hb hq h ih =>
    have : span (b :: W) = secs b.length + span W := by simp [span]
    rw [List.length_append, secsB_length]; omega
  | fresh q b W G g n hb hq hl hG h ih =>
    have : span (b :: W) = secs b.length + span W := by simp [span]
    rw [List.length_append, secsB_length]; omega

/-! ### The journal's bounds -/

theorem jok_live {t sure : Nat} {all : List Bs} {j : JS} {s : DS} (h : LInv t all sure j s) (hd : j.down = false) : JOk j 64 := by
  cases h.inv with
  | down j hj hs => rw [hd] at hj; cases hj
  | closed p E M Q C W hc hs hW hC =>
    obtain ⟨b1, b2, b3, b4, b5, b6⟩ := hc.bd
    have hr := recs_span E (s.now.length + 1) Q (s.now.drop (2 * 2)) fun x hx => hc.all32 x (List.mem_of_mem_drop hx)
    have hrd := hc.read
    unfold listed at hrd
    rw [hrd, List.length_drop, hc.len] at hr
    have hp := hc.p2
    exact ⟨⟨by show 1 ≤ 2; omega, by show 2 * 2 < 64; omega⟩, by show p ≤ 1; omega, by show E < _; omega, by show Q + W.length < _; omega, by show 2 * 2 ≤ 4 + span W; omega, by show 4 + span W ≤ 64; omega⟩
  | opened p E Q C K W ho hW hC hs =>
    obtain ⟨b1, b2, b3, b4, b5⟩ := ho.bd
    have hr := log_span ho.log
    rw [List.length_drop, ho.nlen] at hr
    have hp := ho.p2
    exact ⟨⟨by show 1 ≤ 2; omega, by show 2 * 2 < 64; omega⟩, by show p ≤ 1; omega, by show E < _; omega, by show Q + W.length < _; omega, by show 2 * 2 ≤ 4 + span W; omega, by show 4 + span W ≤ 64; omega⟩
theorem open_pick {t p E Q C K : Nat} {W : List Bs} {g n : List Sec} (h : OpenD t p E Q C W K g n) : pick n 2 = some (p, E, Q, beB 2 C) := by
  obtain ⟨m, _, _, h3⟩ := open_crash h (c := n) ⟨by rw [h.nlen, h.glen], fun i x y z hx hy hz => ⟨32, Nat.le_refl _, by
    rw [hy] at hz
    injection hz with hz
    rw [← hz, mix_whole (h.g32 _ (List.mem_of_getElem? hx)) (h.n32 _ (List.mem_of_getElem? hy))]⟩⟩
  exact closed_pick (h3 E (Nat.le_refl _) h.bd.2.1)
theorem linv_seen {t sure : Nat} {all : List Bs} {j : JS} {s : DS} (h : LInv t all sure j s) : Seen j s := by
  intro hd
  cases h.inv with
  | down j hj hs => rw [hd] at hj; cases hj
  | closed p E M Q C W hc hs hW hC => exact ⟨E, Q, beB 2 C, closed_pick hc⟩
  | opened p E Q C K W ho hW hC hs => exact ⟨E, Q, beB 2 C, open_pick ho⟩
theorem jok_down {j : JS} {n : Nat} (h : JOk j n) (b : Bool) : JOk { j with down := b } n := ⟨h.slot, h.place, h.epoch, h.seq, h.next⟩
theorem jok_ap {j j' : JS} {s s' : DS} {b : Bs} {e n : Nat} (h : JOk j n) (hn : s.good.length = n) (hr : ApR j s b e j' s') : JOk j' n := by
  cases hr with
  | dead hd => exact h
  | closed hd ho => exact h
  | big hd ho h2 => exact h
  | full hd ho h2 h3 => exact h
  | down s' hd ho h2 h3 hs => exact jok_down h _
  | done s' hd ho h2 h3 hs => exact ⟨h.slot, h.place, h.epoch, by show j.seq + 1 < _; omega, by show 2 * j.slot ≤ j.next + _; have := h.next.1; omega, by show j.next + secs b.length ≤ n; omega⟩
theorem jok_ck {j j' : JS} {s s' : DS} {b : Bs} {e n : Nat} (h : JOk j n) (hr : CkR j s b e j' s') : JOk j' n := by
  cases hr with
  | dead hd => exact h
  | big hd h1 => exact h
  | full hd h1 h2 => exact h
  | down s' hd h1 h2 hs => exact jok_down h _
  | done s' hd h1 h2 hs => exact ⟨h.slot, by show 1 - j.place ≤ 1; omega, by show lastE s.now + 1 < _; omega, h.seq, Nat.le_refl _, by show 2 * j.slot ≤ n; have := h.slot.2; omega⟩
theorem jok_co {j j' : JS} {s s' : DS} {e n : Nat} (h : JOk j n) (hr : CoR j s e j' s') : JOk j' n := by
  cases hr with
  | dead hd => exact h
  | closed hd ho => exact h
  | done s' hd ho hs => exact h
  | down s' hd ho hs hf => exact jok_down h _
theorem open_live {s : DS} {slot : Int} {n : Nat} {j : JS} {b : Bs} {l : List Bs} (h : OpenR s slot n (some (j, b, l))) : j.down = false := by cases h; rfl

/-! ### All that was written -/

variable {D : World → (Nat → Prop) → Nat → DS → Prop} {J : World → (Nat → Prop) → Nat → Nat → JS → Prop}
/-- The list v of the law: its elements lie in what was handed in (world W), it has a block of its own. -/
def AllL (W w : World) (F G : Nat → Prop) (v : Value) (all : List Bs) : Prop :=
  ∃ ss : List Sv, Owns encV 1 27 w W.heap.size v ss ∧ (∃ g, v.ownBlock = some g ∧ ¬ F g ∧ ¬ G g) ∧ (∀ s ∈ ss, SvOk W s) ∧ ss.map (·.l) = all
variable {B p pj : Nat} {W w w' : World} {F G F' : Nat → Prop} {s : DS} {j : JS} {v : Value} {all : List Bs}
theorem all_lt (h : AllL W w F G v all) {g : Nat} (hg : v.ownBlock = some g) : W.heap.size ≤ g ∧ g < w.heap.size := by
  obtain ⟨ss, h1, _⟩ := h
  exact World.ownsRow.lt h1 g hg
theorem all_stp (h : AllL W w F G v all) (hs : Stp D J B w F G w' F' p pj s j) : AllL W w' F' G v all := by
  have hlt := fun g hg => (all_lt h (g := g) hg).2
  obtain ⟨ss, h1, ⟨g, h2, h3, h4⟩, h5, h6⟩ := h
  refine ⟨ss, own_chg hs.chg h1 fun g' hg' hh => ?_, ⟨g, h2, fun hf => ?_, h4⟩, h5, h6⟩
  · rw [h2] at hg'
    injection hg' with hg'
    subst hg'
    exact hh.elim h3 h4
  · rcases hs.more g hf with hf | hf
    · exact h3 hf
    · have := hlt g h2; omega
theorem all_keep (h : AllL W w F G v all) (hb : Below w.heap.size w w') : AllL W w' F G v all := by
  obtain ⟨ss, h1, h2, h5, h6⟩ := h
  exact ⟨ss, own_chg (new_chg hb (fun _ => False)) h1 fun _ _ h => h, h2, h5, h6⟩
/-- Another journal. -/
theorem all_other {G' : Nat → Prop} (h : AllL W w F G v all) (hG : ∀ k, G' k → w.heap.size ≤ k) : AllL W w F G' v all := by
  have hlt := fun g hg => (all_lt h (g := g) hg).2
  obtain ⟨ss, h1, ⟨g, h2, h3, h4⟩, h5, h6⟩ := h
  exact ⟨ss, h1, ⟨g, h2, h3, fun hg => by have := hG g hg; have := hlt g h2; omega⟩, h5, h6⟩
theorem all_new (hB : W.heap.size ≤ w.heap.size) (hF : ∀ k, F k → k < w.heap.size) (hG : ∀ k, G k → k < w.heap.size) : AllL W (w.alloc (.cells #[] 27)) F G (.slice (some ⟨w.heap.size, 0, none⟩) 0 0) [] :=
  ⟨[], World.ownsRow_made w #[] 0 hB (by unfold maxLen; omega) rfl, ⟨w.heap.size, rfl, fun h => absurd (hF _ h) (Nat.lt_irrefl _), fun h => absurd (hG _ h) (Nat.lt_irrefl _)⟩, (fun s hs => by cases hs), rfl⟩
/-- The value of it, and a part of it. -/
theorem all_form (h : AllL W w F G v all) : ∃ g c, v = .slice (some ⟨g, 0, none⟩) all.length c ∧ all.length ≤ c ∧ c ≤ maxLen := by
  obtain ⟨ss, h1, ⟨g, h2, _⟩, h5, h6⟩ := h
  obtain ⟨a, c, rfl, h3, h4, _, _⟩ := owns_row encV_len h1
  have hl : ss.length = all.length := by rw [← h6, List.length_map]
  rcases h1.2 with ⟨hn, _⟩ | ⟨g', cap, cur, he, _⟩
  · injection hn with hn
    subst hn
    cases h2
  · injection he with e1 e2 e3
    subst e1 e3
    exact ⟨g', c, by rw [hl], by omega, h4⟩
theorem all_part {g c : Nat} (h : AllL W w F G (.slice (some ⟨g, 0, none⟩) all.length c) all) (hb : Below W.heap.size W w) (i m : Nat) (hi : i + m ≤ all.length) : ListB w (.slice (some ⟨g, i, none⟩) m (c - i)) ((all.drop i).take m) := by
  obtain ⟨ss, h1, _, h5, h6⟩ := h
  obtain ⟨a, c', he, h3, h4, _, h7⟩ := owns_row encV_len h1
  injection he with e1 e2 e3
  subst e1 e3
  have hl : ss.length = all.length := by rw [← h6, List.length_map]
  refine ⟨some ⟨g, i, none⟩, c - i, (ss.drop i).take m, ?_, ?_, ?_, (fun h => by cases h), ?_, fun s hs => sv_keep (h5 s (List.mem_of_mem_drop (List.mem_of_mem_take hs))) hb, ?_⟩
  · rw [List.length_take, List.length_drop, Nat.min_eq_left (by omega)]
  · rw [List.length_take, List.length_drop]; omega
  · omega
  · have := row_take (row_drop h7 i) m
    simpa using this
  · rw [List.map_take, List.map_drop, h6]
end Go.Proofs.Ytdgfoldobofgoaa.Jrn
/- Journal: what JournalLasts' walk takes: an act in memory, what holds ahead of each act, the list of all that was written. -/
namespace Go.Proofs.Ytdgfoldobofgoaa.Jrn
open Go.RowKit
open Go.Sort
open Kit
open Oct
open Chk
open Frm
open Foot
open Dsk (Sec DS mix mix_at mix_length mix_whole mix_none)
set_option linter.unusedVariables false
variable {D : World → (Nat → Prop) → Nat → DS → Prop} {J : World → (Nat → Prop) → Nat → Nat → JS → Prop}

theorem ac_range {w : World} {b o k : Nat} {l : List Ac} (h : Kit.Row encA 5 w (some ⟨b, o, none⟩) l) (hk : k < l.length) : w.rangeAt b (o + k * 5) (encA l[k]) := fun j v hv => by
  have hj : j < 5 := by have := (List.getElem?_eq_some_iff.1 hv).1; rw [encA_len] at this; exact this
  rw [row_cell h hk rfl hj]; exact hv
theorem ac_cells {w : World} {b o k : Nat} {l : List Ac} (h : Kit.Row encA 5 w (some ⟨b, o, none⟩) l) (hk : k < l.length) :
    w.cell? ⟨b, o + k * 5, none⟩ = some (.int .u8 (l[k].d.toNat : Int)) ∧ w.cell? ⟨b, o + k * 5 + 1, none⟩ = some l[k].b.val ∧ w.cell? ⟨b, o + k * 5 + 2, none⟩ = some (.int .i64 l[k].keep) ∧ w.cell? ⟨b, o + k * 5 + 3, none⟩ = some (.int .i64 l[k].torn) ∧ w.cell? ⟨b, o + k * 5 + 4, none⟩ = some (.int .i64 l[k].cut) :=
  ⟨row_cell h hk rfl (i := 0) (by omega), row_cell h hk rfl (i := 1) (by omega), row_cell h hk rfl (i := 2) (by omega), row_cell h hk rfl (i := 3) (by omega), row_cell h hk rfl (i := 4) (by omega)⟩
theorem acs_some {w : World} {a : Option Addr} {k : Nat} {l : List Ac} (h : Kit.Row encA 5 w a l) (hk : k < l.length) : ∃ b o, a = some ⟨b, o, none⟩ := by
  rcases h with h | ⟨b, o, h, _⟩
  · rw [h] at hk; simp at hk
  · exact ⟨b, o, h⟩
/-- What holds ahead of each act. -/
structure La (D : World → (Nat → Prop) → Nat → DS → Prop) (J : World → (Nat → Prop) → Nat → Nat → JS → Prop) (W w : World) (p pj k : Nat) (v : Value) (all : List Bs) (sure : Nat) (j : JS) (s : DS) (F G : Nat → Prop) : Prop where
  both : Both D J W.heap.size w F G p pj s j
  below : Below W.heap.size W w
  list : AllL W w F G v all
  inv : LInv (k + 1) all sure j s
  jok : JOk j 64
  small : all.length ≤ k
/-- An act as it lies in memory. -/
structure Xl (w : World) (F G : Nat → Prop) (b : Nat) (x : Ac) : Prop where
  c0 : w.cell? ⟨b, 0, none⟩ = some (.int .u8 (x.d.toNat : Int))
  c1 : w.cell? ⟨b, 1, none⟩ = some x.b.val
  c2 : w.cell? ⟨b, 2, none⟩ = some (.int .i64 x.keep)
  c3 : w.cell? ⟨b, 3, none⟩ = some (.int .i64 x.torn)
  c4 : w.cell? ⟨b, 4, none⟩ = some (.int .i64 x.cut)
  far : ¬ F b ∧ ¬ G b

theorem info_sv : (Try.prog.info? 27).map (fun i => (i.zero, i.size, i.bytes)) = some (some (.slice none 0 0), 1, 24) := by kernel_rfl
variable {B p pj : Nat} {W w w' : World} {F G F' : Nat → Prop} {s s' : DS} {j j' : JS} {v v' : Value} {all : List Bs} {k sure : Nat}
theorem xl_new (w : World) (hF : ∀ k, F k → k < w.heap.size) (hG : ∀ k, G k → k < w.heap.size) (x : Ac) : Xl (w.alloc (.cells #[.int .u8 (x.d.toNat : Int), x.b.val, .int .i64 x.keep, .int .i64 x.torn, .int .i64 x.cut] 34)) F G w.heap.size x := by
  have h := Arr.blk_new w w.heap.size 34 (encA x) rfl
  exact ⟨Arr.blk_cell h 0, Arr.blk_cell h 1, Arr.blk_cell h 2, Arr.blk_cell h 3, Arr.blk_cell h 4, fun h => absurd (hF _ h) (Nat.lt_irrefl _), fun h => absurd (hG _ h) (Nat.lt_irrefl _)⟩
theorem xl_keep {b : Nat} {x : Ac} (h : Xl w F G b x) (hb : Below w.heap.size w w') : Xl w' F G b x := ⟨cell_keep hb h.c0, cell_keep hb h.c1, cell_keep hb h.c2, cell_keep hb h.c3, cell_keep hb h.c4, h.far⟩
theorem xl_stp {b : Nat} {x : Ac} (h : Xl w F G b x) (hs : Stp D J B w F G w' F' p pj s j) : Xl w' F' G b x := by
  have hn : ¬ (F b ∨ G b) := fun hh => hh.elim h.far.1 h.far.2
  exact ⟨cell_chg hs.chg h.c0 hn, cell_chg hs.chg h.c1 hn, cell_chg hs.chg h.c2 hn, cell_chg hs.chg h.c3 hn, cell_chg hs.chg h.c4 hn, fun hf => (hs.more b hf).elim h.far.1 fun h' => by have := World.block_lt_of_cell? w _ h.c0; simp at this; omega, h.far.2⟩
theorem la_keep (hD : Dsk.Prog D) (hJ : JProg D J) (h : La D J W w p pj k v all sure j s F G) (hb : Below w.heap.size w w') : La D J W w' p pj k v all sure j s F G :=
  ⟨both_keep hD hJ h.both hb, below_keep h.below hb, all_keep h.list hb, h.inv, h.jok, h.small⟩
theorem la_stp {sure' : Nat} (h : La D J W w p pj k v all sure j s F G) (hs : Stp D J W.heap.size w F G w' F' p pj s' j') (hi : LInv (k + 1 + 1) all sure' j' s') (hj : JOk j' 64) : La D J W w' p pj (k + 1) v all sure' j' s' F' G :=
  ⟨hs.both, h.below.trans hs.below, all_stp h.list hs, hi, hj, Nat.le_succ_of_le h.small⟩
theorem both_grown (hD : Dsk.Prog D) (hJ : JProg D J) {row : Option Nat} (h : Both D J B w F G p pj s j) (hg : w.grownBy w' row) (hr : ∀ g, row = some g → ¬ F g ∧ ¬ G g) : Both D J B w' F G p pj s j := by
  have hC : Chg (fun k => row = some k) w w' := chg_grown (chg_refl _ w) hg fun k hk => .inl hk
  exact ⟨hD.chg h.d hC fun k hk e => (hr k e).1 hk, hJ.chg h.j hC fun k hk e => (hr k e).2 hk, fun k hk => ⟨(h.flt k hk).1, Nat.lt_of_lt_of_le (h.flt k hk).2 hg.size⟩, fun k hk => ⟨(h.glt k hk).1, Nat.lt_of_lt_of_le (h.glt k hk).2 hg.size⟩, h.apart⟩
/-- A record is put behind the list. -/
theorem la_push (hD : Dsk.Prog D) (hJ : JProg D J) {o : Obj} {ss : List Sv} {x : Sv} (hbo : Both D J W.heap.size w F G p pj s j) (hB : Below W.heap.size W w) (h1 : Owns encV 1 27 w W.heap.size v ss) (h2 : ∃ g, v.ownBlock = some g ∧ ¬ F g ∧ ¬ G g) (h3 : ∀ s ∈ ss, SvOk W s) (h4 : ss.map (·.l) = all) (hx : SvOk W x)
    (ho : Owns encV 1 27 w' W.heap.size v' (ss ++ [x])) (hg : (w.alloc o).grownBy w' v.ownBlock) (hw : v'.ownBlock = v.ownBlock ∨ v'.ownBlock = some (w.alloc o).heap.size) :
    Both D J W.heap.size w' F G p pj s j ∧ Below W.heap.size W w' ∧ AllL W w' F G v' (all ++ [x.l]) := by
  have hb := below_alloc w o
  have hbo' := both_keep hD hJ hbo hb
  obtain ⟨g, g1, g2, g3⟩ := h2
  refine ⟨both_grown hD hJ hbo' hg fun g' hg' => ?_, (hB.alloc hB.size o).trans (Two.below_grown (owns_alloc h1 o) hg (Nat.le_trans hB.size hb.size)), ss ++ [x], ho, ?_, ?_, by simp [h4]⟩
  · rw [g1] at hg'
    injection hg' with hg'
    subst hg'
    exact ⟨g2, g3⟩
  · rcases hw with hw | hw
    · exact ⟨g, hw.trans g1, g2, g3⟩
    · exact ⟨_, hw, fun h => absurd (hbo'.flt _ h).2 (Nat.lt_irrefl _), fun h => absurd (hbo'.glt _ h).2 (Nat.lt_irrefl _)⟩
  · intro y hy
    rcases List.mem_append.1 hy with hy | hy
    · exact h3 y hy
    · simp at hy; subst hy; exact hx
/-- A part of the list is all that there is from now on. -/
theorem la_cut (hD : Dsk.Prog D) (hJ : JProg D J) {ss : List Sv} (n : Nat) (hbo : Both D J W.heap.size w F G p pj s j) (hB : Below W.heap.size W w) (h3 : ∀ s ∈ ss, SvOk W s) (h4 : ss.map (·.l) = all)
    (ho : Owns encV 1 27 w' W.heap.size v' ([] ++ ss.take n)) (hg : (w.alloc (.cells #[] 27)).grownBy w' (some w.heap.size)) (hw : v'.ownBlock = some w.heap.size ∨ v'.ownBlock = some (w.alloc (.cells #[] 27)).heap.size) :
    Both D J W.heap.size w' F G p pj s j ∧ Below W.heap.size W w' ∧ AllL W w' F G v' (all.take n) := by
  have hb := below_alloc w (.cells #[] 27)
  have hbo' := both_keep hD hJ hbo hb
  have hnF : ¬ F w.heap.size ∧ ¬ G w.heap.size := ⟨fun h => absurd (hbo.flt _ h).2 (Nat.lt_irrefl _), fun h => absurd (hbo.glt _ h).2 (Nat.lt_irrefl _)⟩
  refine ⟨both_grown hD hJ hbo' hg fun g' hg' => ?_, ?_, ss.take n, by simpa using ho, ?_, fun y hy => h3 y (List.mem_of_mem_take hy), by rw [List.map_take, h4]⟩
  · injection hg' with hg'
    subst hg'
    exact hnF
  · exact (hB.alloc hB.size _).trans ((Below.refl _ _).grown hg (Nat.le_trans hB.size hb.size) fun k hk => by injection hk with hk; subst hk; exact hB.size)
  · rcases hw with hw | hw
    · exact ⟨_, hw, hnF.1, hnF.2⟩
    · exact ⟨_, hw, fun h => absurd (hbo'.flt _ h).2 (Nat.lt_irrefl _), fun h => absurd (hbo'.glt _ h).2 (Nat.lt_irrefl _)⟩

theorem all_rows {g n c : Nat} {ss : List Sv} (h1 : Owns encV 1 27 w W.heap.size (.slice (some ⟨g, 0, none⟩) n c) ss) : Kit.Row encV 1 w (some ⟨g, 0, none⟩) ss := by
  obtain ⟨a, c', he, h3, h4, _, h7⟩ := owns_row encV_len h1
  injection he with e1 e2 e3
  rw [← e1] at h7
  exact h7
/-- The part that is asked for, wherever it begins. -/
theorem all_part2 {g c : Nat} (h : AllL W w F G (.slice (some ⟨g, 0, none⟩) all.length c) all) (hb : Below W.heap.size W w) (i m : Nat) (hi : i + m ≤ all.length) (hc : all.length ≤ c) (he : c = i) : ListB w (.slice (some ⟨g, 0, none⟩) m 0) ((all.drop i).take m) := by
  obtain rfl : m = 0 := by omega
  rw [List.take_zero]
  exact ⟨some ⟨g, 0, none⟩, 0, [], rfl, Nat.le_refl _, Nat.zero_le _, (fun h => by cases h), .inl rfl, (fun s hs => by cases hs), rfl⟩

theorem short_is {w : World} (a : Option Addr) (n c m : Nat) (l l4 : Bs) (h : SvOk w ⟨a, n, c, l⟩) (h4 : l4 = l.take 60) (hm : m = l4.length) :
    Calls Try.prog 17 #[.slice a n c, .int .i64 60] w fun e w' => e = .returned (.slice a m c) ∧ w = w' := by
  subst h4 hm
  exact short_any ⟨a, n, c, l⟩ 60 (by omega) w h
theorem cut_ok {w : World} {a : Option Addr} {n c m : Nat} {l l4 : Bs} (h : SvOk w ⟨a, n, c, l⟩) (h4 : l4 = l.take 60) (hm : m = l4.length) : Arg w a m c l4 := by
  subst h4 hm
  exact cutS_ok h 60
theorem texts_yes (v1 v2 : Value) (l1 l2 : List Bs) (W : World) (h1 : ListB W v1 l1) (h2 : ListB W v2 l2) (h : l1 = l2) :
    Calls Try.prog 12 #[v1, v2] W fun e w' => e = .returned (.bool true) ∧ Below W.heap.size W w' := by
  refine (texts_any v1 v2 l1 l2 W h1 h2).mono ?_
  rintro e w' ⟨he, hb⟩
  rw [decide_eq_true h] at he
  exact ⟨he, hb⟩
end Go.Proofs.Ytdgfoldobofgoaa.Jrn
/- Journal: JournalTwice, over any journal that does as it should. -/
namespace Go.Proofs.Ytdgfoldobofgoaa.Jrn
open Go.RowKit
open Go.Sort
open Kit
open Oct
open Chk
open Frm
open Foot
open Dsk (Sec DS mix mix_at mix_length mix_whole mix_none)
set_option linter.unusedVariables false
variable {D : World → (Nat → Prop) → Nat → DS → Prop} {J : World → (Nat → Prop) → Nat → Nat → JS → Prop}

/-! ### The two places -/

def tw0 : List Sec := List.replicate 64 (List.replicate 32 0)
def tw1 : List Sec := over tw0 0 (secsB 1 0 [])
def tw2 : List Sec := over tw1 2 (secsB 2 0 [])
theorem tw1_pick : pick tw1 2 = some (0, 1, 0, []) := by decide +kernel
theorem tw1_list : listed tw1 2 1 0 = [] := by decide +kernel
theorem tw1_last : lastE tw1 = 1 := by decide +kernel
theorem tw2_pick : pick tw2 2 = some (1, 2, 0, []) := by decide +kernel
theorem tw_len : tw1.length = 64 ∧ tw2.length = 64 := by decide +kernel
theorem pick_four {c d : List Sec} (h : c.take 4 = d.take 4) : pick c 2 = pick d 2 := by
  have h0 : ∀ i, i < 2 → placeB c 2 i = placeB d 2 i := fun i hi => by
    have e : ∀ l : List Sec, (l.drop (i * 2)).take 2 = ((l.take 4).drop (i * 2)).take 2 := fun l => by
      rw [List.drop_take, List.take_take]; congr 1; omega
    unfold placeB
    rw [e c, e d, h]
  unfold pick
  rw [h0 0 (by omega), h0 1 (by omega)]
theorem mix_twice (m : Nat) (x : Sec) : mix m x x = x := by simp [mix]
/-- A journal's disk in the law: the two places as they were. -/
structure Tw (j : JS) (s : DS) : Prop where
  good : s.good.take 4 = tw2.take 4
  now : s.now.take 4 = tw2.take 4
  len : s.good.length = 64
  fuse : s.fuse = -1
  ok : s.Ok
  jok : JOk j 64
  slot : j.slot = 2
  up : j.down = false
  op : j.opened = true
theorem tw_append {j j' : JS} {s s' : DS} {b : Bs} {n : Nat} (h : Tw j s) (hr : ApR j s b n j' s') : Tw j' s' := by
  have hj := jok_ap h.jok h.len hr
  cases hr with
  | dead hd => exact h
  | closed hd ho => exact h
  | big hd ho h2 => exact h
  | full hd ho h2 h3 => exact h
  | down s' hd ho h2 h3 hs => exact absurd h.fuse hs.fuse
  | done s' hd ho h2 h3 hs =>
    refine ⟨by rw [hs.good]; exact h.good, ?_, by rw [hs.good]; exact h.len, hs.fuse h.fuse, hs.ok, hj, h.slot, hd, ho⟩
    have h4 : 4 ≤ j.next := by have := h.jok.next.1; rw [h.slot] at this; exact this
    have hl := h.ok.len
    rw [h.len] at hl
    rw [hs.now, ← h.now]
    unfold over
    rw [List.append_assoc, List.take_append_of_le_length (by rw [List.length_take]; have := h.jok.next.2; omega), List.take_take, Nat.min_eq_left h4]
theorem tw_commit {j j' : JS} {s s' : DS} {n : Nat} (h : Tw j s) (hr : CoR j s n j' s') : Tw j' s' := by
  cases hr with
  | dead hd => exact h
  | closed hd ho => exact h
  | down s' hd ho hs hf => exact absurd h.fuse hf
  | done s' hd ho hs => exact ⟨by rw [hs.good]; exact h.now, by rw [hs.now]; exact h.now, by rw [hs.good, h.ok.len]; exact h.len, hs.fuse h.fuse, hs.ok, h.jok, h.slot, hd, ho⟩
theorem tw_crash {j : JS} {s : DS} (h : Tw j s) (keep torn cut : Int) : pick (s.crash keep torn cut).now 2 = some (1, 2, 0, []) := by
  refine (pick_four (d := tw2) ?_).trans tw2_pick
  show (s.crash keep torn cut).good.take 4 = _
  have hl := Dsk.crash_length s keep torn cut
  have hn := h.ok.len
  have hlen := h.len
  rw [← h.good]
  refine List.ext_getElem? fun i => ?_
  by_cases hi : i < 4
  · rw [List.getElem?_take_of_lt hi, List.getElem?_take_of_lt hi]
    obtain ⟨m, _, h2, _⟩ := Dsk.crash_at h.ok keep torn cut (show i < s.good.length by omega)
    have e : s.now.getD i [] = s.good.getD i [] := by
      have e1 : s.now[i]? = (tw2.take 4)[i]? := by rw [← h.now, List.getElem?_take_of_lt hi]
      have e2 : s.good[i]? = (tw2.take 4)[i]? := by rw [← h.good, List.getElem?_take_of_lt hi]
      rw [List.getD, List.getD, e1, e2]
    rw [e, mix_twice] at h2
    rw [List.getElem?_eq_getElem (by omega), List.getElem?_eq_getElem (by omega), ← Dsk.getD_at (d := []) (by omega), ← Dsk.getD_at (d := []) (by omega), h2]
  · rw [List.getElem?_eq_none (by rw [List.length_take]; omega), List.getElem?_eq_none (by rw [List.length_take]; omega)]
theorem crash_again (s : DS) (a b c d e f : Int) : ((s.crash a b c).crash d e f).good = (s.crash a b c).good ∧ ((s.crash a b c).crash d e f).now = (s.crash a b c).now := ⟨rfl, rfl⟩
theorem span_ge (W : List Bs) : W.length ≤ span W := by
  induction W with
  | nil => exact Nat.zero_le _
  | cons b W ih =>
    have : span (b :: W) = secs b.length + span W := by simp [span]
    have := secs_pos b.length
    simp only [List.length_cons]; omega
/-- What Open shows of such a disk. -/
def twJ (c : List Sec) : JS := { slot := 2, place := 1, epoch := 2, seq := 0 + (listed c 2 2 0).length, next := 2 * 2 + span (listed c 2 2 0), opened := false, down := false }
theorem twJ_ok {s : DS} (ok : s.Ok) (hl : s.good.length = 64) : JOk (twJ s.now) 64 := by
  have hr := recs_span 2 (s.now.length + 1) 0 (s.now.drop (2 * 2)) fun x hx => ok.now32 x (List.mem_of_mem_drop hx)
  have hn := ok.len
  have hg := span_ge (listed s.now 2 2 0)
  rw [List.length_drop] at hr
  replace hr : span (listed s.now 2 2 0) ≤ s.now.length - 2 * 2 := hr
  exact ⟨⟨by show 1 ≤ 2; omega, by show 2 * 2 < 64; omega⟩, by show 1 ≤ 1; omega, by show 2 < _; omega, by show 0 + _ < _; omega, by show 2 * 2 ≤ 2 * 2 + _; omega, by show 2 * 2 + _ ≤ 64; omega⟩

theorem act_cells1 {w : World} {b o k : Nat} {l : List Ac} (h : Kit.Row encA 5 w (some ⟨b, o, none⟩) l) (hk : k < l.length) :
    w.cell? ⟨b, o + k * 5, none⟩ = some (.int .u8 (l[k].d.toNat : Int)) ∧ w.cell? ⟨b, o + k * 5 + 1, none⟩ = some l[k].b.val :=
  ⟨row_cell h hk rfl (i := 0) (by omega), row_cell h hk rfl (i := 1) (by omega)⟩
theorem acts_at {w : World} {a : Option Addr} {k : Nat} {l : List Ac} (h : Kit.Row encA 5 w a l) (hk : k < l.length) : ∃ b o, a = some ⟨b, o, none⟩ := by
  rcases h with h | ⟨b, o, h, _⟩
  · rw [h] at hk; simp at hk
  · exact ⟨b, o, h⟩
/-- The law's state. -/
structure Tl (D : World → (Nat → Prop) → Nat → DS → Prop) (J : World → (Nat → Prop) → Nat → Nat → JS → Prop) (W w0 w : World) (p pj : Nat) (j : JS) (s : DS) (F G : Nat → Prop) : Prop where
  both : Both D J w0.heap.size w F G p pj s j
  below : Below W.heap.size W w
  below0 : Below w0.heap.size w0 w
  tw : Tw j s
theorem tl_stp {W w0 w w' : World} {p pj : Nat} {j j' : JS} {s s' : DS} {F G F' : Nat → Prop} (h : Tl D J W w0 w p pj j s F G) (h0 : W.heap.size ≤ w0.heap.size) (hs : Stp D J w0.heap.size w F G w' F' p pj s' j') (ht : Tw j' s') : Tl D J W w0 w' p pj j' s' F' G :=
  ⟨hs.both, h.below.trans (hs.below.mono h0), h.below0.trans hs.below, ht⟩

set_option maxRecDepth 100000 in
set_option maxHeartbeats 20000000 in
theorem twice_any (hD : Dsk.Prog D) (hQ : JProg D J) (aa : Option Addr) (len cap : Nat) (l : List Ac) (hl : l.length = len) (hlc : len ≤ cap) (hc : cap ≤ maxLen) (W : World) (hE : Kit.Row encA 5 W aa l) (hx : ∀ x ∈ l, x.ok W) (xd : UInt8) (a3 : Option Addr) (n3 c3 : Nat) (kp tn ct : Int) (hk : inI kp) (ht : inI tn) (hct : inI ct) :
    Calls Try.prog 4 #[.slice aa len cap, .agg #[.int .u8 (xd.toNat : Int), .slice a3 n3 c3, .int .i64 kp, .int .i64 tn, .int .i64 ct]] W fun e w' => e = .returned (.bool true) ∧ Below W.heap.size W w' := by
  subst hl
  have hmax : l.length ≤ 9223372036854775807 := by unfold maxLen at hc; omega
  have HE := Lib.hid hE
  have HX := Lib.hid hx
  have HI := Lib.hid (And.intro hk (And.intro ht hct))
  clear hE hx hc hlc hk ht hct
  go_enter Try.func4, Try.ntmps4
  go_wp2_with fail
  obtain ⟨w0, hw0⟩ : ∃ x, x = W.alloc (.cells #[.int .u8 (xd.toNat : Int), .slice a3 n3 c3, .int .i64 kp, .int .i64 tn, .int .i64 ct] 34) := ⟨_, rfl⟩
  rw [← hw0]
  have hblk := Arr.blk_new W W.heap.size 34 [.int .u8 (xd.toNat : Int), .slice a3 n3 c3, .int .i64 kp, .int .i64 tn, .int .i64 ct] rfl
  have H0 := Lib.hid (show Below W.heap.size W w0 ∧ W.heap.size ≤ w0.heap.size ∧ w0.cell? ⟨W.heap.size, 2, none⟩ = some (.int .i64 kp) ∧ w0.cell? ⟨W.heap.size, 3, none⟩ = some (.int .i64 tn) ∧ w0.cell? ⟨W.heap.size, 4, none⟩ = some (.int .i64 ct) from by
    rw [hw0]
    exact ⟨below_alloc _ _, (below_alloc W _).size, Arr.blk_cell hblk 2, Arr.blk_cell hblk 3, Arr.blk_cell hblk 4⟩)
  clear hw0 hblk
  refine (hD.new 64 w0 (by omega) (by omega)).mono ?_
  rintro e w1 ⟨p, rfl, hd, hb⟩
  have one : Dsk.OneF D w0.heap.size w1 (More (fun _ => False) w0 w1) p (DS.new 64) := ⟨hd, fun k hk => hk.elim (fun h => h.elim) id⟩
  generalize More (fun _ => False) w0 w1 = F1 at one
  have H1 := Lib.hid (And.intro one hb)
  clear one hd hb
  go_wp2_with fail
  refine (step_format hD hQ H1.out.1 H1.out.2.size (show (64 : Nat) ≤ 100 by omega) 2 ⟨by omega, by omega⟩ none 0 0 [] ⟨rfl, Nat.le_refl _, Nat.zero_le _, (fun _ => ⟨rfl, rfl⟩), .inl rfl⟩ (by omega) (fun h => by omega)).mono ?_
  rintro e w3 ⟨n, s3, F3, rfl, hfr, one, hb⟩
  obtain ⟨rfl, hg, hn, hf⟩ := format_free hfr rfl (show partOk (64 : Nat) 2 by decide) (by decide) (by decide)
  replace hg : s3.good = tw1 := hg
  replace hn : s3.now = tw1 := hn
  have H3 := Lib.hid (And.intro one (And.intro (H1.out.2.trans hb) (And.intro hg (And.intro hn hf))))
  clear one hb hfr hg hn hf H1
  go_wp2_with fail
  refine (step_open hD hQ H3.out.1 H3.out.2.1.size (by rw [H3.out.2.2.1, tw_len.1]; omega) 2 ⟨by omega, by omega⟩).mono ?_
  rintro e w4 ⟨n, r, hr, hb, he⟩
  obtain ⟨rfl, rfl⟩ := open_some hr (by rw [H3.out.2.2.1, tw_len.1]; decide) (by rw [H3.out.2.2.2.1]; exact tw1_pick)
  obtain ⟨pj, G, va, vl, rfl, hbo, hG, -, -⟩ := he
  rw [H3.out.2.2.2.1, show (2 : Int).toNat = 2 from rfl, tw1_list] at hbo
  replace hbo : Both D J w0.heap.size w4 F3 G p pj s3 (awJ 0 1 0 4 false) := hbo
  have H4 := Lib.hid (And.intro hbo (And.intro (below_keep H3.out.2.1 hb) H3.out.2.2))
  clear hbo hb hr hG H3
  go_wp2_with fail
  have hjk : JOk (awJ 0 1 0 4 false) s3.good.length := by rw [H4.out.2.2.1, tw_len.1]; exact ⟨⟨by show 1 ≤ 2; omega, by show 2 * 2 < 64; omega⟩, by show 0 ≤ 1; omega, by show 1 < _; omega, by show 0 < _; omega, by show 2 * 2 ≤ 4; omega, by show 4 ≤ 64; omega⟩
  refine (step_checkpoint hQ H4.out.1 H4.out.2.1.size (by rw [H4.out.2.2.1, tw_len.1]; omega) hjk (fun _ => ⟨1, 0, [], by rw [H4.out.2.2.2.1]; exact tw1_pick⟩) none 0 0 [] ⟨rfl, Nat.le_refl _, Nat.zero_le _, (fun _ => ⟨rfl, rfl⟩), .inl rfl⟩ (by omega) (fun h => by omega)).mono ?_
  rintro e w5 ⟨n, j', s5, F5, rfl, hr, hst⟩
  have hjk5 := jok_ck hjk hr
  obtain ⟨rfl, rfl, hg, hn, hf⟩ := ck_free hr H4.out.2.2.2.2 rfl (by decide) (by rw [H4.out.2.2.2.1, tw1_last]; omega) (by decide)
  rw [H4.out.2.2.2.1, tw1_last] at hg hn
  replace hg : s5.good = tw2 := hg
  replace hn : s5.now = tw2 := hn
  rw [H4.out.2.2.1, tw_len.1] at hjk5
  generalize hjj : ({ awJ 0 1 0 4 false with epoch := lastE s3.now + 1, place := 1 - (awJ 0 1 0 4 false).place, next := 2 * (awJ 0 1 0 4 false).slot, opened := true } : JS) = j5 at *
  have htw : Tw j5 s5 := ⟨by rw [hg], by rw [hn], by rw [hg, tw_len.2], hf, hD.ok hst.both.d, hjk5, by rw [← hjj] <;> rfl, by rw [← hjj] <;> rfl, by rw [← hjj] <;> rfl⟩
  have HL : Hid (Tl D J W w0 w5 p pj j5 s5 F5 G) := Lib.hid ⟨hst.both, (H0.out.1).trans ((H4.out.2.1.trans hst.below).mono H0.out.2.1), H4.out.2.1.trans hst.below, htw⟩
  clear hr hst hg hn hf hjk hjk5 hjj htw H4
  go_upto_block 0 with fail
  go_cut [10] (fun _ wx => ∃ (j : JS) (s : DS) (F : Nat → Prop), Tl D J W w0 wx p pj j s F G)
  case first =>
    go_wp2_with fail
    go_loopw [10] (fun iv wx => ∃ (k : Nat) (j : JS) (s : DS) (F : Nat → Prop), k ≤ l.length ∧ k ≤ 30 ∧ iv = .int .i64 k ∧ Tl D J W w0 wx p pj j s F G) (fun iv _ => l.length - (intOf iv).toNat)
    case atStart => exact ⟨0, j5, s5, F5, Nat.zero_le _, by omega, rfl, HL.out⟩
    case round =>
      obtain ⟨k, j, s, F, hk, hk30, rfl, htl⟩ := hrel
      have HT := Lib.hid htl
      clear htl HL
      by_cases hlt : k < l.length ∧ k < 30
      · obtain ⟨hkl, hk5⟩ := hlt
        have hE := row_keep encA_len HE.out HT.out.below
        obtain ⟨ab, ao, rfl⟩ := acts_at hE hkl
        obtain ⟨q0, q1⟩ := act_cells1 hE hkl
        have hxk := HX.out l[k] (List.getElem_mem hkl)
        generalize l[k] = x at *
        obtain ⟨yd, ⟨a4, n4, c4, l4⟩, kp4, tn4, ct4⟩ := x
        simp only [Sv.val] at q1
        have HSv := Lib.hid (show SvOk W ⟨a4, n4, c4, l4⟩ from hxk.1)
        have c30 : (k : Int) < 30 := by omega
        clear hE hxk
        by_cases hq : (yd.toNat : Int) % 4 = 0
        · go_wp2_with fail
          refine (step_commit hQ HT.out.both HT.out.below0.size (by rw [HT.out.tw.len]; omega) (by rw [HT.out.tw.len]; exact HT.out.tw.jok)).mono ?_
          rintro e w6 ⟨n, j', s', F', rfl, hr, hst⟩
          have HT6 := Lib.hid (tl_stp HT.out H0.out.2.1 hst (tw_commit HT.out.tw hr))
          clear hr hst q0 q1 HT
          go_wp2_with fail
          go_roundw
          case rel => exact ⟨k + 1, j', s', F', by omega, by omega, by go_num, HT6.out⟩
          case measure => simp [intOf]; omega
        · have hq1 : 0 < (yd.toNat : Int) % 4 := by omega
          clear hq
          obtain ⟨l5, hl5⟩ : ∃ y, y = l4.take 60 := ⟨_, rfl⟩
          obtain ⟨m, hm⟩ : ∃ y, y = l5.length := ⟨_, rfl⟩
          have hcm : m ≤ 60 := by rw [hm, hl5, List.length_take]; omega
          have HL5 := Lib.hid (And.intro hl5 (And.intro hm (cut_ok HSv.out hl5 hm)))
          clear hl5 hm
          go_wp2_with fail
          refine Calls.mono (show Calls Try.prog 17 #[.slice a4 n4 c4, .int .i64 60] wr _ from short_is a4 n4 c4 m l4 l5 (sv_keep HSv.out HT.out.below) HL5.out.1 HL5.out.2.1) ?_
          rintro e w6 ⟨rfl, rfl⟩
          have hap : 0 < m → ∀ q, a4 = some q → ¬ F q.block ∧ ¬ G q.block := fun hn q hq => both_far HT.out.both (Nat.lt_of_lt_of_le (arg_lt HL5.out.2.2 hn q hq) H0.out.2.1)
          have HAp := Lib.hid hap
          clear hap
          go_wp2_with fail
          refine (step_append hQ HT.out.both HT.out.below0.size (by rw [HT.out.tw.len]; omega) (by rw [HT.out.tw.len]; exact HT.out.tw.jok) a4 m c4 l5 (arg_keep HL5.out.2.2 HT.out.below) (by omega) HAp.out).mono ?_
          rintro e w7 ⟨n, j', s', F', rfl, hr, hst⟩
          have HT6 := Lib.hid (tl_stp HT.out H0.out.2.1 hst (tw_append HT.out.tw hr))
          clear hr hst q0 q1 HT HAp HL5
          go_wp2_with fail
          go_roundw
          case rel => exact ⟨k + 1, j', s', F', by omega, by omega, by go_num, HT6.out⟩
          case measure => simp [intOf]; omega
      · have hor : ¬ (k : Int) < l.length ∨ ((k : Int) < l.length ∧ ¬ (k : Int) < 30) := by omega
        clear hlt
        rcases hor with ho | ⟨ho, ho2⟩
        all_goals
          go_wp2_with fail
          go_meet
          case rel => exact ⟨j, s, F, HT.out⟩
  case rest =>
  obtain ⟨j, s, F, htl⟩ := hcut
  obtain ⟨c2, c3', c4⟩ := H0.out.2.2
  have b0 := htl.below0
  have q2 := cell_keep b0 c2
  have q3 := cell_keep b0 c3'
  have q4 := cell_keep b0 c4
  have HT := Lib.hid htl
  clear htl HL c2 c3' c4 b0
  go_wp2_with fail
  refine (step_crash hD hQ HT.out.both HT.out.below0.size kp tn ct HI.out.1 HI.out.2.1 HI.out.2.2).mono ?_
  rintro e w6 ⟨F6, rfl, hst⟩
  have hpk := tw_crash HT.out.tw kp tn ct
  have hlen : (s.crash kp tn ct).good.length = 64 := by rw [Dsk.crash_length, HT.out.tw.len]
  have hag := crash_again s kp tn ct ct kp tn
  have hok := hD.ok hst.both.d
  have H6 := Lib.hid (And.intro (show Dsk.OneF D w0.heap.size w6 F6 p (s.crash kp tn ct) from ⟨hst.both.d, hst.both.flt⟩) (And.intro (HT.out.below.trans (hst.below.mono H0.out.2.1)) (HT.out.below0.trans hst.below)))
  generalize s.crash kp tn ct = s6 at *
  have H6b := Lib.hid (And.intro hpk (And.intro hlen (And.intro hag hok)))
  clear hst hpk hlen hag hok HT q2 q3 q4
  go_wp2_with fail
  refine (step_open hD hQ H6.out.1 H6.out.2.2.size (by rw [H6b.out.2.1]; omega) 2 ⟨by omega, by omega⟩).mono ?_
  rintro e w7 ⟨n, r, hr, hb, he⟩
  obtain ⟨rfl, rfl⟩ := open_some hr (by rw [H6b.out.2.1]; decide) H6b.out.1
  obtain ⟨pa, G7, va7, vl7, rfl, hbo, hG, ht, hli⟩ := he
  replace hbo : Both D J w0.heap.size w7 F6 G7 p pa s6 (twJ s6.now) := hbo
  replace hli : ListF w7 (Apt F6 G7 w7) vl7 (listed s6.now 2 2 0) := hli
  have hjok := twJ_ok H6b.out.2.2.2 H6b.out.2.1
  have b0 := below_keep H6.out.2.2 hb
  obtain ⟨d2, d3, d4⟩ := H0.out.2.2
  have q2 := cell_keep b0 d2
  have q3 := cell_keep b0 d3
  have q4 := cell_keep b0 d4
  have H7 := Lib.hid (And.intro hbo (And.intro (below_keep H6.out.2.1 hb) (And.intro b0 (And.intro ht (And.intro hli hjok)))))
  clear hbo hG ht hli hjok b0 hb hr d2 d3 d4 H6
  go_wp2_with fail
  refine (step_crash hD hQ H7.out.1 H7.out.2.2.1.size ct kp tn HI.out.2.2 HI.out.1 HI.out.2.1).mono ?_
  rintro e w8 ⟨F8, rfl, hst⟩
  obtain ⟨hg8, hn8⟩ := H6b.out.2.2.1
  generalize s6.crash ct kp tn = s8 at *
  have H8 := Lib.hid (And.intro hst.both (And.intro (H7.out.2.1.trans (hst.below.mono H0.out.2.1)) (And.intro (H7.out.2.2.1.trans hst.below) (And.intro (stp_txt hst H7.out.2.2.2.1) (And.intro (stp_list hst H7.out.2.2.2.2.1) (And.intro H7.out.2.2.2.2.2 (And.intro hg8 hn8)))))))
  clear hst hg8 hn8 q2 q3 q4 H7
  go_wp2_with fail
  refine (step_open hD hQ ⟨H8.out.1.d, H8.out.1.flt⟩ H8.out.2.2.1.size (by rw [H8.out.2.2.2.2.2.2.1, H6b.out.2.1]; omega) 2 ⟨by omega, by omega⟩).mono ?_
  rintro e w9 ⟨n, r, hr, hb, he⟩
  obtain ⟨rfl, rfl⟩ := open_some hr (by rw [H8.out.2.2.2.2.2.2.1, H6b.out.2.1]; decide) (by rw [H8.out.2.2.2.2.2.2.2]; exact H6b.out.1)
  obtain ⟨pb, G9, va9, vl9, rfl, hbo, hG, ht, hli⟩ := he
  rw [H8.out.2.2.2.2.2.2.2, show (2 : Int).toNat = 2 from rfl] at hbo hli
  replace hbo : Both D J w0.heap.size w9 F8 G9 p pb s8 (twJ s6.now) := hbo
  have H9 := Lib.hid (And.intro (both_keep hD hQ H8.out.1 hb) (And.intro hbo (And.intro (below_keep H8.out.2.1 hb) (And.intro (txt_keep hb H8.out.2.2.2.1) (And.intro ht (And.intro (list_keep (listF_b H8.out.2.2.2.2.1) hb) (And.intro (listF_b hli) (And.intro (show JOk (twJ s6.now) s8.good.length by rw [H8.out.2.2.2.2.2.2.1, H6b.out.2.1]; exact H8.out.2.2.2.2.2.1) (show s8.good.length ≤ 100 by rw [H8.out.2.2.2.2.2.2.1, H6b.out.2.1]; omega)))))))))
  clear hbo hG ht hli hr hb H8 H6b
  obtain ⟨ls, hls⟩ : ∃ x, x = listed s6.now 2 2 0 := ⟨_, rfl⟩
  obtain ⟨jj, hjj⟩ : ∃ x, x = twJ s6.now := ⟨_, rfl⟩
  have hl9 : ListB w9 vl7 ls ∧ ListB w9 vl9 ls := by rw [hls]; exact ⟨H9.out.2.2.2.2.2.1, H9.out.2.2.2.2.2.2.1⟩
  have hb9 : Both D J w0.heap.size w9 F8 G7 p pa s8 jj ∧ Both D J w0.heap.size w9 F8 G9 p pb s8 jj ∧ JOk jj s8.good.length ∧ s8.good.length ≤ 100 := by rw [hjj]; exact ⟨H9.out.1, H9.out.2.1, H9.out.2.2.2.2.2.2.2⟩
  have HL9 := Lib.hid hl9
  have HB9 := Lib.hid hb9
  have HT9 := Lib.hid (And.intro H9.out.2.2.1 (And.intro H9.out.2.2.2.1 H9.out.2.2.2.2.1))
  clear hl9 hb9 hls hjj H9
  go_wp2_with fail
  refine (awake_any hD hQ w9).mono ?_
  rintro e w10 ⟨rfl, hb⟩
  have ht7 := txt_keep hb HT9.out.2.1
  have ht9 := txt_keep hb HT9.out.2.2
  have k1 := kcTxt ht7
  have k2 := kcTxt ht9
  have HT10 := Lib.hid (And.intro (below_keep HT9.out.1 hb) (And.intro (both_keep hD hQ HB9.out.1 hb) (And.intro (both_keep hD hQ HB9.out.2.1 hb) (And.intro (list_keep HL9.out.1 hb) (And.intro (list_keep HL9.out.2 hb) HB9.out.2.2)))))
  obtain ⟨a1, d1, rfl, -, -⟩ := ht7
  obtain ⟨a2, d2, rfl, -, -⟩ := ht9
  clear hb HT9 HB9 HL9
  replace k1 : (convert 27 9 (.slice a1 0 d1)).run Try.prog w10 = .ok (.string ⟨#[]⟩) w10 := k1
  replace k2 : (convert 27 9 (.slice a2 0 d2)).run Try.prog w10 = .ok (.string ⟨#[]⟩) w10 := k2
  rw [show ([] : Bs).length = 0 from rfl]
  go_wp2_with fail
  clear k1 k2
  refine (texts_yes _ _ ls ls w10 HT10.out.2.2.2.1 HT10.out.2.2.2.2.1 rfl).mono ?_
  rintro e w11 ⟨rfl, hb⟩
  have H11 := Lib.hid (And.intro (below_keep HT10.out.1 hb) (And.intro (both_keep hD hQ HT10.out.2.1 hb) (And.intro (both_keep hD hQ HT10.out.2.2.1 hb) HT10.out.2.2.2.2.2)))
  clear hb HT10
  go_wp2_with fail
  refine (hQ.seq H11.out.2.1.j).mono ?_
  rintro e w12 ⟨rfl, hb⟩
  have H12 := Lib.hid (And.intro (below_keep H11.out.1 hb) (And.intro (both_keep hD hQ H11.out.2.1 hb) (And.intro (both_keep hD hQ H11.out.2.2.1 hb) H11.out.2.2.2)))
  clear hb H11
  go_wp2_with fail
  refine (hQ.seq H12.out.2.2.1.j).mono ?_
  rintro e w13 ⟨rfl, hb⟩
  have H13 := Lib.hid (And.intro (below_keep H12.out.1 hb) (And.intro (both_keep hD hQ H12.out.2.1 hb) (And.intro (both_keep hD hQ H12.out.2.2.1 hb) H12.out.2.2.2)))
  clear hb H12
  go_wp2_with fail
  refine (hQ.epoch H13.out.2.1.j).mono ?_
  rintro e w14 ⟨rfl, hb⟩
  have H14 := Lib.hid (And.intro (below_keep H13.out.1 hb) (And.intro (both_keep hD hQ H13.out.2.1 hb) (And.intro (both_keep hD hQ H13.out.2.2.1 hb) H13.out.2.2.2)))
  clear hb H13
  go_wp2_with fail
  refine (hQ.epoch H14.out.2.2.1.j).mono ?_
  rintro e w15 ⟨rfl, hb⟩
  have H15 := Lib.hid (And.intro (below_keep H14.out.1 hb) (And.intro (both_keep hD hQ H14.out.2.1 hb) (And.intro (both_keep hD hQ H14.out.2.2.1 hb) H14.out.2.2.2)))
  clear hb H14
  go_wp2_with fail
  refine (hQ.room H15.out.2.1.d H15.out.2.1.j H15.out.2.2.2.2 H15.out.2.2.2.1).mono ?_
  rintro e w16 ⟨rfl, hb⟩
  have H16 := Lib.hid (And.intro (below_keep H15.out.1 hb) (And.intro (both_keep hD hQ H15.out.2.1 hb) (And.intro (both_keep hD hQ H15.out.2.2.1 hb) H15.out.2.2.2)))
  clear hb H15
  go_wp2_with fail
  refine (hQ.room H16.out.2.2.1.d H16.out.2.2.1.j H16.out.2.2.2.2 H16.out.2.2.2.1).mono ?_
  rintro e w17 ⟨rfl, hb⟩
  have H17 := Lib.hid (below_keep H16.out.1 hb)
  clear hb H16
  go_wp2
  go_ret
  exact ⟨rfl, H17.out⟩
end Go.Proofs.Ytdgfoldobofgoaa.Jrn
/- Journal: JournalFull, over any journal that does as it should. -/
namespace Go.Proofs.Ytdgfoldobofgoaa.Jrn
open Go.RowKit
open Go.Sort
open Kit
open Oct
open Chk
open Frm
open Foot
open Dsk (Sec DS mix mix_at mix_length mix_whole mix_none)
set_option linter.unusedVariables false
variable {D : World → (Nat → Prop) → Nat → DS → Prop} {J : World → (Nat → Prop) → Nat → Nat → JS → Prop}

def fl0 (k : Nat) : List Sec := List.replicate (5 + k) (List.replicate 32 0)
def fl1 (k : Nat) : List Sec := over (fl0 k) 0 (secsB 1 0 [])
def fl2 (k : Nat) : List Sec := over (fl1 k) 2 (secsB 2 0 [])
theorem fl_pick0 : ((List.range 40).all fun k => decide (pick (fl1 k) 2 = some (0, 1, 0, [])) && decide (pick (fl2 k) 2 = some (1, 2, 0, []))) = true := by decide +kernel
theorem fl_pick1 (k : Nat) (hk : k < 40) : pick (fl1 k) 2 = some (0, 1, 0, []) := by
  have h := List.all_eq_true.1 fl_pick0 k (List.mem_range.2 hk)
  rw [Bool.and_eq_true] at h
  exact of_decide_eq_true h.1
theorem fl_pick2 (k : Nat) (hk : k < 40) : pick (fl2 k) 2 = some (1, 2, 0, []) := by
  have h := List.all_eq_true.1 fl_pick0 k (List.mem_range.2 hk)
  rw [Bool.and_eq_true] at h
  exact of_decide_eq_true h.2
theorem fl_list : ∀ k, k < 40 → listed (fl1 k) 2 1 0 = [] := by decide +kernel
theorem fl_last : ∀ k, k < 40 → lastE (fl1 k) = 1 := by decide +kernel
theorem fl_eps : ∀ k, k < 40 → ∀ x ∈ fl2 k, numK x 24 4 ≤ 2 := by decide +kernel
theorem fl_len : ∀ k, k < 40 → (fl1 k).length = 5 + k ∧ (fl2 k).length = 5 + k := by decide +kernel
theorem fl_new (k : Nat) (hk : k < 40) : DS.new ((5 + k : Nat) : Int) = { good := fl0 k, now := fl0 k, order := [], fuse := -1 } := by
  unfold DS.new fl0
  rw [if_pos (by omega), Int.toNat_natCast]
/-- A journal's disk in the law. -/
structure Fu (k : Nat) (j : JS) (s : DS) (i : Nat) : Prop where
  k40 : k < 40
  now : s.now.take 4 = (fl2 k).take 4
  len : s.good.length = 5 + k
  fuse : s.fuse = -1
  ok : s.Ok
  jok : JOk j (5 + k)
  slot : j.slot = 2
  place : j.place = 1
  ep : j.epoch = 2
  up : j.down = false
  op : j.opened = true
  eps : ∀ x ∈ s.now, numK x 24 4 ≤ 2
  seq : j.seq ≤ i
theorem fu_seen {k i : Nat} {j : JS} {s : DS} (h : Fu k j s i) : Seen j s := fun _ => ⟨2, 0, [], by rw [h.slot, h.place, pick_four h.now]; exact fl_pick2 k h.k40⟩
theorem fu_last {k i : Nat} {j : JS} {s : DS} (h : Fu k j s i) : lastE s.now ≤ 2 := by
  rcases last_is s.now with e | ⟨x, hx, e⟩
  · omega
  · rw [← e]; exact h.eps x hx
theorem fu_append {k i n : Nat} {j j' : JS} {s s' : DS} {b : Bs} (h : Fu k j s i) (hok' : s'.Ok) (hi : i ≤ 40) (hb : b.length ≤ 255) (hr : ApR j s b n j' s') :
    (j.next + secs b.length ≤ 5 + k → n = 0 ∧ j'.next = j.next + secs b.length ∧ j'.seq = j.seq + 1) ∧ (5 + k < j.next + secs b.length → n = 5 ∧ j'.next = j.next ∧ j'.seq = j.seq) ∧ Fu k j' s' (i + 1) := by
  have hsq := h.seq
  have hn := h.ok.len
  have hl := h.len
  rcases Nat.lt_or_ge (5 + k) (j.next + secs b.length) with h3 | h3
  · obtain ⟨rfl, rfl, rfl⟩ := ap_full hr h.up h.op (by omega) (by omega) (by omega)
    exact ⟨fun h' => by omega, fun _ => ⟨rfl, rfl, rfl⟩, h.k40, h.now, h.len, h.fuse, h.ok, h.jok, h.slot, h.place, h.ep, h.up, h.op, h.eps, by omega⟩
  have hj := jok_ap h.jok h.len hr
  obtain ⟨rfl, rfl, hg, hnw, hf⟩ := ap_free hr h.fuse h.up h.op (by omega) (by omega) (by omega)
  refine ⟨fun _ => ⟨rfl, rfl, rfl⟩, fun h' => by omega, h.k40, ?_, by rw [hg]; exact h.len, hf, hok', hj, h.slot, h.place, h.ep, h.up, h.op, fun x hx => ?_, by show j.seq + 1 ≤ i + 1; omega⟩
  · have h4 : 4 ≤ j.next := by have := h.jok.next.1; rw [h.slot] at this; exact this
    rw [hnw, ← h.now]
    unfold over
    rw [List.append_assoc, List.take_append_of_le_length (by rw [List.length_take]; omega), List.take_take, Nat.min_eq_left h4]
  · rw [hnw] at hx
    rcases over_mem hx with hx | hx
    · exact h.eps x hx
    · rw [h.ep] at hx
      rw [secsB_epochs (by omega) x hx]; exact Nat.le_refl _
theorem ck_full {j j' : JS} {s s' : DS} {b : Bs} {n : Nat} (h : CkR j s b n j' s') (hd : j.down = false) (h1 : b.length ≤ 65535) (h2 : lastE s.now < 4294967295) (h3 : j.slot < secs b.length) : n = 5 ∧ j' = j ∧ s' = s := by
  cases h with
  | dead h => rw [hd] at h; cases h
  | big h h1 => omega
  | full h h1 h2 => exact ⟨rfl, rfl, rfl⟩
  | done s' h h1 h2 hs => omega
  | down s' h h1 h2 hs => omega
/-- The law's state. -/
structure Fl (D : World → (Nat → Prop) → Nat → DS → Prop) (J : World → (Nat → Prop) → Nat → Nat → JS → Prop) (W w : World) (p pj : Nat) (j : JS) (s : DS) (F G : Nat → Prop) (k i : Nat) : Prop where
  both : Both D J W.heap.size w F G p pj s j
  below : Below W.heap.size W w
  fu : Fu k j s i
theorem fl_keep (hD : Dsk.Prog D) (hJ : JProg D J) {W w w' : World} {p pj k i : Nat} {j : JS} {s : DS} {F G : Nat → Prop} (h : Fl D J W w p pj j s F G k i) (hb : Below w.heap.size w w') : Fl D J W w' p pj j s F G k i := ⟨both_keep hD hJ h.both hb, below_keep h.below hb, h.fu⟩
theorem cut_is {w : World} (a : Option Addr) (n c m M : Nat) (hM : M ≤ 1000) (l l4 : Bs) (h : SvOk w ⟨a, n, c, l⟩) (h4 : l4 = l.take M) (hm : m = l4.length) :
    Calls Try.prog 17 #[.slice a n c, .int .i64 M] w fun e w' => e = .returned (.slice a m c) ∧ w = w' := by
  subst h4 hm
  exact short_any ⟨a, n, c, l⟩ M (by omega) w h

set_option maxRecDepth 100000 in
set_option maxHeartbeats 20000000 in
theorem full_any (hD : Dsk.Prog D) (hQ : JProg D J) (x : Nat) (hx : x ≤ 255) (a1 : Option Addr) (n1 c1 : Nat) (l1 : Bs) (a2 : Option Addr) (n2 c2 : Nat) (l2 : Bs) (W : World) (h1 : Arg W a1 n1 c1 l1) (h2 : Arg W a2 n2 c2 l2) :
    Calls Try.prog 5 #[.int .u8 (x : Nat), .slice a1 n1 c1, .slice a2 n2 c2] W fun e w' => e = .returned (.bool true) ∧ Below W.heap.size W w' := by
  obtain ⟨k, hk⟩ : ∃ k, k = x % 40 := ⟨_, rfl⟩
  have hk40 : k < 40 := by omega
  have HkI := Lib.hid (show 5 + (x : Int) % 40 = ((5 + k : Nat) : Int) by omega)
  have hmax : n1 ≤ 9223372036854775807 := by have := h1.cap; have := h1.max; unfold maxLen at this; omega
  obtain rfl := h1.len
  have HE := Lib.hid (And.intro h1 h2)
  clear h1 h2
  go_enter Try.func5, Try.ntmps5
  go_wp2_with fail
  rw [HkI.out]
  refine (hD.new ((5 + k : Nat) : Int) W (by omega) (by omega)).mono ?_
  rintro e w1 ⟨p, rfl, hd, hb⟩
  rw [fl_new k hk40] at hd
  have one : Dsk.OneF D W.heap.size w1 (More (fun _ => False) W w1) p { good := fl0 k, now := fl0 k, order := [], fuse := -1 } := ⟨hd, fun k hk => hk.elim (fun h => h.elim) id⟩
  generalize More (fun _ => False) W w1 = F1 at one
  have H1 := Lib.hid (And.intro one hb)
  clear one hd hb
  obtain ⟨N, hN⟩ : ∃ N, N = 5 + k := ⟨_, rfl⟩
  rw [← hN]
  have HN := Lib.hid hN
  have hN1 : 5 ≤ N := by omega
  have hN2 : N < 45 := by omega
  clear hN hk hx
  go_wp2_with fail
  have hf0 : (fl0 k).length = 5 + k := List.length_replicate
  refine (step_format hD hQ H1.out.1 H1.out.2.size (show (fl0 k).length ≤ 100 by omega) 2 ⟨by omega, by omega⟩ none 0 0 [] ⟨rfl, Nat.le_refl _, Nat.zero_le _, (fun _ => ⟨rfl, rfl⟩), .inl rfl⟩ (by omega) (fun h => by omega)).mono ?_
  rintro e w3 ⟨n, s3, F3, rfl, hfr, one, hb⟩
  obtain ⟨rfl, hg, hn, hf⟩ := format_free hfr rfl (show partOk (fl0 k).length 2 from ⟨by omega, by omega⟩) (by decide) (by decide)
  replace hg : s3.good = fl1 k := hg
  replace hn : s3.now = fl1 k := hn
  have hl3 : s3.good.length = 5 + k := by rw [hg]; exact (fl_len k hk40).1
  have H3 := Lib.hid (And.intro one (And.intro (H1.out.2.trans hb) (And.intro hl3 (And.intro hn hf))))
  clear one hb hfr hg hn hf hl3 H1 hf0
  go_wp2_with fail
  refine (step_open hD hQ H3.out.1 H3.out.2.1.size (by rw [H3.out.2.2.1]; omega) 2 ⟨by omega, by omega⟩).mono ?_
  rintro e w4 ⟨n, r, hr, hb, he⟩
  obtain ⟨rfl, rfl⟩ := open_some hr (by rw [H3.out.2.2.1]; exact ⟨by omega, by omega⟩) (by rw [H3.out.2.2.2.1]; exact fl_pick1 k hk40)
  obtain ⟨pj, G, va, vl, rfl, hbo, hG, -, -⟩ := he
  rw [H3.out.2.2.2.1, show (2 : Int).toNat = 2 from rfl, fl_list k hk40] at hbo
  replace hbo : Both D J W.heap.size w4 F3 G p pj s3 (awJ 0 1 0 4 false) := hbo
  have H4 := Lib.hid (And.intro hbo (And.intro (below_keep H3.out.2.1 hb) H3.out.2.2))
  clear hbo hb hr hG H3
  go_wp2_with fail
  have hjk : JOk (awJ 0 1 0 4 false) s3.good.length := by rw [H4.out.2.2.1]; exact ⟨⟨by show 1 ≤ 2; omega, by show 2 * 2 < 5 + k; omega⟩, by show 0 ≤ 1; omega, by show 1 < _; omega, by show 0 < _; omega, by show 2 * 2 ≤ 4; omega, by show 4 ≤ 5 + k; omega⟩
  refine (step_checkpoint hQ H4.out.1 H4.out.2.1.size (by rw [H4.out.2.2.1]; omega) hjk (fun _ => ⟨1, 0, [], by rw [H4.out.2.2.2.1]; exact fl_pick1 k hk40⟩) none 0 0 [] ⟨rfl, Nat.le_refl _, Nat.zero_le _, (fun _ => ⟨rfl, rfl⟩), .inl rfl⟩ (by omega) (fun h => by omega)).mono ?_
  rintro e w5 ⟨n, j', s5, F5, rfl, hr, hst⟩
  have hjk5 := jok_ck hjk hr
  obtain ⟨rfl, rfl, hg, hn, hf⟩ := ck_free hr H4.out.2.2.2.2 rfl (by decide) (by rw [H4.out.2.2.2.1, fl_last k hk40]; omega) (by decide)
  rw [H4.out.2.2.2.1, fl_last k hk40] at hg hn
  replace hg : s5.good = fl2 k := hg
  replace hn : s5.now = fl2 k := hn
  rw [H4.out.2.2.1] at hjk5
  rw [H4.out.2.2.2.1, fl_last k hk40] at hst hjk5
  generalize hjj : ({ awJ 0 1 0 4 false with epoch := 1 + 1, place := 1 - (awJ 0 1 0 4 false).place, next := 2 * (awJ 0 1 0 4 false).slot, opened := true } : JS) = j5 at *
  have hnx : j5.next = 4 := by rw [← hjj] <;> rfl
  have hfu : Fu k j5 s5 0 := ⟨hk40, by rw [hn], by rw [hg]; exact (fl_len k hk40).2, hf, hD.ok hst.both.d, hjk5, by rw [← hjj] <;> rfl, by rw [← hjj] <;> rfl, by rw [← hjj] <;> rfl, by rw [← hjj] <;> rfl, by rw [← hjj] <;> rfl, by rw [hn]; exact fl_eps k hk40, by rw [← hjj] <;> exact Nat.le_refl _⟩
  have HL : Hid (Fl D J W w5 p pj j5 s5 F5 G k 0) := Lib.hid ⟨hst.both, H4.out.2.1.trans hst.below, hfu⟩
  clear hr hst hg hn hf hjk hjk5 hjj hfu H4
  go_wp2_with fail
  refine (hQ.room HL.out.both.d HL.out.both.j (by rw [HL.out.fu.len]; omega) (by rw [HL.out.fu.len]; exact HL.out.fu.jok)).mono ?_
  rintro e w6 ⟨rfl, hb⟩
  rw [show ((s5.good.length - j5.next : Nat) : Int) = (N : Int) - 4 by rw [HL.out.fu.len, hnx, ← HN.out]; omega]
  have HL6 := Lib.hid (fl_keep hD hQ HL.out hb)
  clear hb hnx HL
  go_upto_block 0 with fail
  go_cut [13] (fun _ wx => ∃ (j : JS) (s : DS) (F : Nat → Prop), Fl D J W wx p pj j s F G k 40)
  case first =>
    go_wp2_with fail
    go_loopw [13] (fun iv wx => ∃ (i : Nat) (j : JS) (s : DS) (F : Nat → Prop), i ≤ l1.length ∧ i ≤ 40 ∧ iv = .int .i64 i ∧ Fl D J W wx p pj j s F G k i) (fun iv _ => l1.length - (intOf iv).toNat)
    case atStart => exact ⟨0, j5, s5, F5, Nat.zero_le _, by omega, rfl, HL6.out⟩
    case round =>
      obtain ⟨i, j, s, F, hi, hi40, rfl, hfl⟩ := hrel
      have HT := Lib.hid hfl
      clear hfl HL6
      by_cases hlt : i < l1.length ∧ i < 40
      · obtain ⟨hil, hi4⟩ := hlt
        obtain ⟨ab, ao, rfl⟩ := row_at HE.out.1.row (by omega)
        have hc0 := byte_at HE.out.1.row hil
        have c0 := cell_keep HT.out.below hc0
        generalize l1.getD i 0 = y at *
        have hy := y.toNat_lt
        have c40 : (i : Int) < 40 := by omega
        have HC := Lib.hid c0
        have HCW := Lib.hid hc0
        clear c0 hc0
        go_wp2_with fail
        refine (hQ.room HT.out.both.d HT.out.both.j (by rw [HT.out.fu.len]; omega) (by rw [HT.out.fu.len]; exact HT.out.fu.jok)).mono ?_
        rintro e w7 ⟨rfl, hb⟩
        obtain ⟨R, hR⟩ : ∃ R, R = s.good.length - j.next := ⟨_, rfl⟩
        rw [← hR]
        have hR2 : R ≤ 45 := by rw [hR, HT.out.fu.len]; omega
        have HR := Lib.hid (show j.next + R = N by rw [hR, HT.out.fu.len, ← HN.out]; have := HT.out.fu.jok.next.2; have := HN.out; omega)
        have HT7 := Lib.hid (fl_keep hD hQ HT.out hb)
        clear hb hR HT
        go_wp2_with fail
        refine (hQ.seq HT7.out.both.j).mono ?_
        rintro e w8 ⟨rfl, hb⟩
        obtain ⟨q, hq⟩ : ∃ q, q = j.seq := ⟨_, rfl⟩
        rw [← hq]
        have hq2 : q ≤ 40 := by rw [hq]; have := HT7.out.fu.seq; omega
        have HQ := Lib.hid hq
        have HT8 := Lib.hid (fl_keep hD hQ HT7.out hb)
        have c0 := cell_keep HT8.out.below HCW.out
        have hmk := run_make_b y.toNat _ rfl (by omega) w8
        clear hb hq HT7
        go_wp2_with fail
        have HTk := Lib.hid (show (6 + (y.toNat : Int) + 23) / 24 = (secs y.toNat : Nat) by unfold secs; omega)
        rw [HTk.out]
        obtain ⟨T, hT⟩ : ∃ T, T = secs y.toNat := ⟨_, rfl⟩
        rw [← hT]
        have HTT := Lib.hid hT
        have hT2 : T ≤ 12 := by rw [hT]; unfold secs; omega
        clear hT hmk c0 HTk
        refine (append_const hD hQ HT8.out.both HT8.out.below.size (by rw [HT8.out.fu.len]; omega) (by rw [HT8.out.fu.len]; exact HT8.out.fu.jok) (List.replicate y.toNat 0) y.toNat _ _ (made_b _) List.length_replicate (by omega)).mono ?_
        rintro e w9 ⟨n, j', s', F', rfl, hr, hst⟩
        obtain ⟨hA1, hA2, hfu⟩ := fu_append HT8.out.fu (hD.ok hst.both.d) (by omega) (by rw [List.length_replicate]; omega) hr
        rw [List.length_replicate, ← HTT.out] at hA1 hA2
        have H9 : Hid (Fl D J W w9 p pj j' s' F' G k (i + 1)) := Lib.hid ⟨hst.both, HT8.out.below.trans hst.below, hfu⟩
        clear hr hst hfu HT8
        rcases Nat.lt_or_ge R T with hRT | hRT
        · obtain ⟨rfl, hnx, hsq⟩ := hA2 (by have := HR.out; have := HN.out; omega)
          have HX := Lib.hid (And.intro hnx hsq)
          have hRTi : (R : Int) < T := by omega
          clear hA1 hA2 hnx hsq hRT
          go_wp2_with fail
          refine (hQ.room H9.out.both.d H9.out.both.j (by rw [H9.out.fu.len]; omega) (by rw [H9.out.fu.len]; exact H9.out.fu.jok)).mono ?_
          rintro e w10 ⟨rfl, hb⟩
          rw [show ((s'.good.length - j'.next : Nat) : Int) = (R : Int) by rw [H9.out.fu.len, HX.out.1]; have := HR.out; have := HN.out; omega]
          have H10 := Lib.hid (fl_keep hD hQ H9.out hb)
          clear hb H9
          go_wp2_with fail
          refine (hQ.seq H10.out.both.j).mono ?_
          rintro e w11 ⟨rfl, hb⟩
          rw [HX.out.2, ← HQ.out]
          have H11 := Lib.hid (fl_keep hD hQ H10.out hb)
          clear hb H10
          go_wp2_with fail
          go_roundw
          case rel => exact ⟨i + 1, j', s', F', by omega, by omega, by go_num, H11.out⟩
          case measure => simp [intOf]; omega
        · obtain ⟨rfl, hnx, hsq⟩ := hA1 (by have := HR.out; have := HN.out; omega)
          have HX := Lib.hid (And.intro hnx hsq)
          have hRTi : ¬ (R : Int) < T := by omega
          have hRTj : (T : Int) ≤ R := by omega
          clear hA1 hA2 hnx hsq hRT
          go_wp2_with fail
          refine (hQ.room H9.out.both.d H9.out.both.j (by rw [H9.out.fu.len]; omega) (by rw [H9.out.fu.len]; exact H9.out.fu.jok)).mono ?_
          rintro e w10 ⟨rfl, hb⟩
          rw [show ((s'.good.length - j'.next : Nat) : Int) = (R : Int) - T by rw [H9.out.fu.len, HX.out.1]; have := HR.out; have := HN.out; omega]
          have H10 := Lib.hid (fl_keep hD hQ H9.out hb)
          clear hb H9
          go_wp2_with fail
          refine (hQ.seq H10.out.both.j).mono ?_
          rintro e w11 ⟨rfl, hb⟩
          rw [HX.out.2, ← HQ.out, show ((q + 1 : Nat) : Int) = (q : Int) + 1 from rfl]
          have H11 := Lib.hid (fl_keep hD hQ H10.out hb)
          clear hb H10
          go_wp2_with fail
          go_roundw
          case rel => exact ⟨i + 1, j', s', F', by omega, by omega, by go_num, H11.out⟩
          case measure => simp [intOf]; omega
      · have hor : ¬ (i : Int) < l1.length ∨ ((i : Int) < l1.length ∧ ¬ (i : Int) < 40) := by omega
        clear hlt
        rcases hor with ho | ⟨ho, ho2⟩
        all_goals
          go_wp2_with fail
          go_meet
          case rel => exact ⟨j, s, F, ⟨HT.out.both, HT.out.below, by have h := HT.out.fu; exact ⟨h.k40, h.now, h.len, h.fuse, h.ok, h.jok, h.slot, h.place, h.ep, h.up, h.op, h.eps, Nat.le_trans h.seq hi40⟩⟩⟩
  case rest =>
  obtain ⟨j, s, F, hfl⟩ := hcut
  have HT := Lib.hid hfl
  clear hfl HL6
  go_wp2_with fail
  refine (hQ.seq HT.out.both.j).mono ?_
  rintro e w7 ⟨rfl, hb⟩
  obtain ⟨q, hq⟩ : ∃ q, q = j.seq := ⟨_, rfl⟩
  rw [← hq]
  have HQ := Lib.hid hq
  have HT7 := Lib.hid (fl_keep hD hQ HT.out hb)
  have hmk := run_make_b 43 43 rfl (by omega) w7
  clear hb hq HT
  go_wp2_with fail
  clear hmk
  refine (checkpoint_const hD hQ HT7.out.both HT7.out.below.size (by rw [HT7.out.fu.len]; omega) (by rw [HT7.out.fu.len]; exact HT7.out.fu.jok) (fu_seen HT7.out.fu) (List.replicate 43 0) 43 _ _ (made_b _) List.length_replicate (by omega)).mono ?_
  rintro e w8 ⟨n, j', s', F', rfl, hr, hst⟩
  obtain ⟨rfl, hj, hs⟩ := ck_full hr HT7.out.fu.up (by rw [List.length_replicate]; omega) (by have := fu_last HT7.out.fu; omega) (by rw [HT7.out.fu.slot]; decide)
  rw [hj, hs] at hst
  have HT8 : Hid (Fl D J W w8 p pj j s F' G k 40) := Lib.hid ⟨hst.both, HT7.out.below.trans hst.below, HT7.out.fu⟩
  clear hr hj hs hst HT7
  go_wp2_with fail
  refine (awake_any hD hQ w8).mono ?_
  rintro e w9 ⟨rfl, hb⟩
  have HT9 := Lib.hid (fl_keep hD hQ HT8.out hb)
  clear hb HT8
  obtain ⟨l5, hl5⟩ : ∃ y, y = l2.take 42 := ⟨_, rfl⟩
  obtain ⟨m, hm⟩ : ∃ y, y = l5.length := ⟨_, rfl⟩
  have hcm : m ≤ 42 := by rw [hm, hl5, List.length_take]; omega
  have hsv : SvOk W ⟨a2, n2, c2, l2⟩ := HE.out.2
  have HL5 := Lib.hid (And.intro hl5 (And.intro hm (show Arg W a2 m c2 l5 by
    subst hl5 hm
    exact cutS_ok hsv 42)))
  have HSv := Lib.hid hsv
  clear hl5 hm hsv
  go_wp2_with fail
  refine Calls.mono (show Calls Try.prog 17 #[.slice a2 n2 c2, .int .i64 42] w9 _ from cut_is a2 n2 c2 m 42 (by omega) l2 l5 (sv_keep HSv.out HT9.out.below) HL5.out.1 HL5.out.2.1) ?_
  rintro e w10 ⟨rfl, rfl⟩
  go_wp2_with fail
  refine (step_checkpoint hQ HT9.out.both HT9.out.below.size (by rw [HT9.out.fu.len]; omega) (by rw [HT9.out.fu.len]; exact HT9.out.fu.jok) (fu_seen HT9.out.fu) a2 m c2 l5 (arg_keep HL5.out.2.2 HT9.out.below) (by omega) (args_apart HL5.out.2.2 HT9.out.both)).mono ?_
  rintro e w11 ⟨n, j', s', F', rfl, hr, hst⟩
  have hjk := jok_ck HT9.out.fu.jok hr
  have hsc : secs l5.length ≤ 2 := by rw [← HL5.out.2.1]; unfold secs; omega
  obtain ⟨rfl, hj, hg, hn, hf⟩ := ck_free hr HT9.out.fu.fuse HT9.out.fu.up (by rw [← HL5.out.2.1]; omega) (by have := fu_last HT9.out.fu; omega) (by rw [HT9.out.fu.slot]; exact hsc)
  have hlen : s'.good.length = 5 + k := by
    rw [hg, over_length, HT9.out.fu.ok.len, HT9.out.fu.len]
    rw [secsB_length, HT9.out.fu.place, HT9.out.fu.ok.len, HT9.out.fu.len]; omega
  have hnx : j'.next = 4 := by rw [hj]; show 2 * j.slot = 4; rw [HT9.out.fu.slot]
  have hsq : j'.seq = q := by rw [hj]; exact HQ.out.symm
  have H11 := Lib.hid (And.intro hst.both (And.intro (HT9.out.below.trans hst.below) (And.intro hlen (And.intro hnx (And.intro hsq hjk)))))
  clear hr hst hjk hsc hj hg hn hf hlen hnx hsq HT9
  go_wp2_with fail
  refine (hQ.room H11.out.1.d H11.out.1.j (by rw [H11.out.2.2.1]; omega) (by rw [H11.out.2.2.1]; exact H11.out.2.2.2.2.2)).mono ?_
  rintro e w12 ⟨rfl, hb⟩
  rw [show ((s'.good.length - j'.next : Nat) : Int) = (N : Int) - 4 by rw [H11.out.2.2.1, H11.out.2.2.2.1]; have := HN.out; omega]
  have H12 := Lib.hid (And.intro (both_keep hD hQ H11.out.1 hb) (And.intro (below_keep H11.out.2.1 hb) H11.out.2.2.2.2.1))
  clear hb H11
  go_wp2_with fail
  refine (hQ.seq H12.out.1.j).mono ?_
  rintro e w13 ⟨rfl, hb⟩
  rw [H12.out.2.2]
  have H13 := Lib.hid (below_keep H12.out.2.1 hb)
  clear hb H12
  go_wp2
  go_ret
  exact ⟨rfl, H13.out⟩
end Go.Proofs.Ytdgfoldobofgoaa.Jrn
