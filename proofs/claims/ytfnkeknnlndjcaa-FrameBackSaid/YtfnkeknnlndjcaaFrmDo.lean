/- Frame: the landed read and Unpack; the landed frame keeps all its contracts. -/
import Derived.Test.YtfnkeknnlndjcaaFrmGet
namespace Go.Proofs.Ytfnkeknnlndjcaa.Frm
open Go.RowKit
open Go.Sort
open Kit
open Oct
open Chk
open Rng
set_option linter.unusedVariables false

theorem or_two (x y : UInt8) : Go.bits .or .i64 ((x.toNat : Int) * 256) (y.toNat : Int) = ((x.toNat * 256 + y.toNat : Nat) : Int) := by
  have h1 := x.toNat_lt
  have h2 := y.toNat_lt
  have h : (BitVec.ofInt 64 ((x.toNat : Int) * 256) ||| BitVec.ofInt 64 (y.toNat : Int)).toNat = x.toNat * 256 + y.toNat := by
    rw [BitVec.toNat_or, BitVec.toNat_ofInt, BitVec.toNat_ofInt, show ((x.toNat : Int) * 256 % ((2 ^ 64 : Nat) : Int)).toNat = x.toNat * 256 by omega, show ((y.toNat : Int) % ((2 ^ 64 : Nat) : Int)).toNat = y.toNat by omega]
    exact nat_join 8 _ _ (by omega) (by omega)
  show IntKind.i64.wrap ((BitVec.ofInt 64 ((x.toNat : Int) * 256) ||| BitVec.ofInt 64 (y.toNat : Int)).toNat : Int) = _
  rw [h, IntKind.wrap_i64]; omega

/-- What read answers. -/
def ReadR (w : World) (s : Bs) (e' : Ending) (w' : World) : Prop := (unpackB s = none ∧ e' = .returned (.tuple #[.slice none 0 0, .bool false]) ∨ ∃ e q b k v, unpackB s = some (e, q, b, k) ∧ e' = .returned (.tuple #[v, .bool true]) ∧ NewB w' w.heap.size v b) ∧ Below w.heap.size w w'

set_option maxRecDepth 100000 in
set_option maxHeartbeats 8000000 in
theorem read_any (aa : Option Addr) (len cap : Nat) (l : Bs) (w : World) (h : Arg w aa len cap l) (hm : len ≤ 1900) : Calls Try.prog 20 #[.slice aa len cap] w fun e' w' => ReadR w l e' w' := by
  obtain ⟨hl, hlc, hcm, hn, hE⟩ := h
  subst hl
  by_cases h32 : l.length < 32
  · have h32i : (l.length : Int) < 32 := by omega
    have HN := Lib.hid (show unpackB l = none by unfold unpackB; rw [if_pos h32])
    clear hE
    go_enter Try.func20, Try.ntmps20
    go_wp2
    go_ret2
    exact ⟨.inl ⟨HN.out, rfl⟩, Below.refl _ _⟩
  · obtain ⟨b, o, rfl⟩ := row_at hE (by omega)
    have h32i : ¬ (l.length : Int) < 32 := by omega
    have x0 := byte_at hE (k := 0) (by omega)
    have x1 := byte_at hE (k := 1) (by omega)
    rw [Nat.add_zero] at x0
    have hnn : (l.getD 0 0).toNat * 256 + (l.getD 1 0).toNat = two l := by unfold two; omega
    have hn3 := two_lt l
    have HE := Lib.hid hE
    have HX := Lib.hid (And.intro x0 x1)
    have HLand := Lib.hid (fun hk => unpack_land h32 hk)
    obtain ⟨n, hnt⟩ : ∃ n, n = two l := ⟨_, rfl⟩
    rw [← hnt] at hnn hn3 HLand
    have HNN := Lib.hid hnn
    generalize l.getD 0 0 = X0 at *
    generalize l.getD 1 0 = X1 at *
    obtain ⟨K, hK⟩ : ∃ K, secs n = K := ⟨_, rfl⟩
    have hsp : 1 ≤ K := by rw [← hK]; exact secs_pos n
    have hsr : n + 6 ≤ 24 * K := by rw [← hK]; exact secs_room n
    have hsl : K ≤ 2732 := by rw [← hK]; unfold secs; omega
    have HNone := Lib.hid (fun (hk : l.length < 32 * K) => show unpackB l = none by
      unfold unpackB
      rw [if_neg h32, if_pos (by rw [← hnt, hK]; exact hk)])
    rw [hK] at HLand
    have HK := Lib.hid hK
    unfold maxLen at hcm
    clear hE x0 x1 hnn hnt hn hK
    go_enter Try.func20, Try.ntmps20
    go_wp2_with fail
    refine Chn.wp_region_chain (fun idx => match idx with | 0 => some (.slice (some ⟨b, o, none⟩) l.length cap) | 1 => some (.pointer (some ⟨b, o, none⟩)) | 2 => some (.int .u8 (X0.toNat : Int)) | 3 => some (.int .i64 (X0.toNat : Int)) | 4 => some (.int .i64 ((X0.toNat : Int) * 256)) | 5 => some (.slice (some ⟨b, o, none⟩) l.length cap) | 6 => some (.pointer (some ⟨b, o + 1, none⟩)) | 7 => some (.int .u8 (X1.toNat : Int)) | 8 => some (.int .i64 (X1.toNat : Int)) | 9 => some (.int .i64 (n : Nat)) | 10 => some (.int .i64 (n : Nat)) | _ => none) [] (fun (_ : Nat) (_ : List Value) (ww : World) => ww = w.drew) (by kernel_rfl) (by kernel_rfl) (by kernel_rfl) (by kernel_rfl) (by kernel_rfl) (by decide) (by kernel_rfl) (rfl) ?_ ?_
    · refine ⟨?_, ?_, ?_, ?_, ?_, ?_, ?_, ?_, ?_, ?_, ?_, trivial⟩
      · intro a ww jj vs c hj0 hΦ
        have hj : jj ≤ 0 := Nat.le_trans hj0 (of_decide_eq_true (by kernel_rfl))
        refine .inl ⟨Rel.wanted_free (by kernel_rfl) _, ?_⟩
        exact Rel.wp_mv _ rfl ⟨congrArg (a.put _) (c.old 0 (v := .slice (some ⟨b, o, none⟩) l.length cap) (by kernel_rfl) (by kernel_rfl)), rfl⟩
      · intro a ww jj vs c hj0 hΦ
        have hj : jj ≤ 0 := Nat.le_trans hj0 (of_decide_eq_true (by kernel_rfl))
        refine .inl ⟨Rel.wanted_free (by kernel_rfl) _, ?_⟩
        exact Rel.wp_ia _ _ _ rfl (c.get 0 11 (by kernel_rfl) rfl) rfl (run_at_b b o _ cap 0 (by omega) _) ⟨rfl, rfl⟩
      · intro a ww jj vs c hj0 hΦ
        have hj : jj ≤ 0 := Nat.le_trans hj0 (of_decide_eq_true (by kernel_rfl))
        refine .inl ⟨Rel.wanted_free (by kernel_rfl) _, ?_⟩
        exact Rel.wp_ld _ _ rfl (c.get 1 12 (by kernel_rfl) rfl) (by rw [show ww = w.drew from hΦ]; exact run_ld_byte (w := w.drew) HX.out.1) ⟨rfl, rfl⟩
      · intro a ww jj vs c hj0 hΦ
        have hj : jj ≤ 0 := Nat.le_trans hj0 (of_decide_eq_true (by kernel_rfl))
        refine .inl ⟨Rel.wanted_free (by kernel_rfl) _, ?_⟩
        exact Rel.wp_cv _ _ _ rfl (c.get 2 13 (by kernel_rfl) rfl) (run_cv_byte X0 _) ⟨rfl, rfl⟩
      · intro a ww jj vs c hj0 hΦ
        have hj : jj ≤ 0 := Nat.le_trans hj0 (of_decide_eq_true (by kernel_rfl))
        refine .inl ⟨Rel.wanted_free (by kernel_rfl) _, ?_⟩
        exact Rel.wp_bo _ _ _ _ _ rfl (c.get 3 14 (by kernel_rfl) rfl) rfl (by have := X0.toNat_lt; simp [go_sem, IntKind.wrap_i64]; omega) ⟨rfl, rfl⟩
      · intro a ww jj vs c hj0 hΦ
        have hj : jj ≤ 0 := Nat.le_trans hj0 (of_decide_eq_true (by kernel_rfl))
        refine .inl ⟨Rel.wanted_free (by kernel_rfl) _, ?_⟩
        exact Rel.wp_mv _ rfl ⟨congrArg (a.put _) (c.old 0 (v := .slice (some ⟨b, o, none⟩) l.length cap) (by kernel_rfl) (by kernel_rfl)), rfl⟩
      · intro a ww jj vs c hj0 hΦ
        have hj : jj ≤ 0 := Nat.le_trans hj0 (of_decide_eq_true (by kernel_rfl))
        refine .inl ⟨Rel.wanted_free (by kernel_rfl) _, ?_⟩
        exact Rel.wp_ia _ _ _ rfl (c.get 5 16 (by kernel_rfl) rfl) rfl (run_at_b b o _ cap 1 (by omega) _) ⟨rfl, rfl⟩
      · intro a ww jj vs c hj0 hΦ
        have hj : jj ≤ 0 := Nat.le_trans hj0 (of_decide_eq_true (by kernel_rfl))
        refine .inl ⟨Rel.wanted_free (by kernel_rfl) _, ?_⟩
        exact Rel.wp_ld _ _ rfl (c.get 6 17 (by kernel_rfl) rfl) (by rw [show ww = w.drew from hΦ]; exact run_ld_byte (w := w.drew) HX.out.2) ⟨rfl, rfl⟩
      · intro a ww jj vs c hj0 hΦ
        have hj : jj ≤ 0 := Nat.le_trans hj0 (of_decide_eq_true (by kernel_rfl))
        refine .inl ⟨Rel.wanted_free (by kernel_rfl) _, ?_⟩
        exact Rel.wp_cv _ _ _ rfl (c.get 7 18 (by kernel_rfl) rfl) (run_cv_byte X1 _) ⟨rfl, rfl⟩
      · intro a ww jj vs c hj0 hΦ
        have hj : jj ≤ 0 := Nat.le_trans hj0 (of_decide_eq_true (by kernel_rfl))
        refine .inl ⟨Rel.wanted_free (by kernel_rfl) _, ?_⟩
        exact Rel.wp_bo _ _ _ _ _ rfl (c.get 4 15 (by kernel_rfl) rfl) (c.get 8 19 (by kernel_rfl) rfl) (by simp only [go_sem]; simp; rw [or_two, HNN.out]) ⟨rfl, rfl⟩
      · intro a ww jj vs c hj0 hΦ
        have hj : jj ≤ 0 := Nat.le_trans hj0 (of_decide_eq_true (by kernel_rfl))
        refine .inl ⟨Rel.wanted_free (by kernel_rfl) _, ?_⟩
        exact Rel.wp_as _ rfl ⟨congrArg (a.put _) (c.get 9 20 (by kernel_rfl) rfl), rfl⟩
    intro a w8 hbase hroom hdef hΦ hV
    have h : (fun (_ : Nat) (_ : List Value) (ww : World) => ww = w.drew) 0 [] w8 := hΦ
    have s4 := hV 10 _ 4 _ rfl rfl rfl
    rw [Chn.act_puts [11, 12, 13, 14, 15, 16, 17, 18, 19, 20, 4] hbase hroom hdef (by kernel_rfl)]
    clear hbase hroom hdef hΦ hV
    simp only [List.foldl_cons, List.foldl_nil]
    generalize Rel.slot a 11 = u11 at *
    generalize Rel.slot a 12 = u12 at *
    generalize Rel.slot a 13 = u13 at *
    generalize Rel.slot a 14 = u14 at *
    generalize Rel.slot a 15 = u15 at *
    generalize Rel.slot a 16 = u16 at *
    generalize Rel.slot a 17 = u17 at *
    generalize Rel.slot a 18 = u18 at *
    generalize Rel.slot a 19 = u19 at *
    generalize Rel.slot a 20 = u20 at *
    rw [s4]
    clear s4
    subst h
    go_wp2_with fail
    refine (sectors_is n K (by omega) HK.out _).mono ?_
    rintro e1 w1 ⟨rfl, hw⟩
    subst hw
    by_cases hk : l.length < 32 * K
    · have hki : (l.length : Int) / 32 < (K : Int) := by omega
      have HN := Lib.hid (HNone.out hk)
      go_wp2
      go_ret2
      exact ⟨.inl ⟨HN.out, rfl⟩, below_drew w⟩
    · have hki : ¬ (l.length : Int) / 32 < (K : Int) := by omega
      have HU := Lib.hid (HLand.out hk)
      have hn19 : n ≤ 1900 := by omega
      have hnl : 24 * K ≤ 1900 := by omega
      clear hsl
      go_wp2_with fail
      refine (stamped_any b o l.length cap K l w.drew rfl (by omega) hlc (by unfold maxLen; omega) HE.out).mono ?_
      rintro e2 w2 ⟨⟨r, rfl, hr⟩, hw⟩
      subst hw
      cases r with
      | false =>
        have HN := Lib.hid (show unpackB l = none by
          rw [HU.out, if_neg]
          rintro ⟨h1, _⟩
          exact absurd (hr.2 h1) (by decide))
        clear hr
        go_wp2
        go_ret2
        exact ⟨.inl ⟨HN.out, rfl⟩, below_drew w⟩
      | true =>
        have HAlike := Lib.hid (hr.1 rfl)
        obtain ⟨n32, hn32⟩ : ∃ n, n = 32 * K := ⟨_, rfl⟩
        have hmul : (K : Int) * 32 = (n32 : Nat) := by omega
        have hle32 : n32 ≤ l.length := by omega
        have HD := dataIn_any b o cap K l w.drew hsp (by omega) hm (by omega) (by unfold maxLen; omega) HE.out
        rw [← hn32] at HD
        have HDat := Lib.hid HD
        clear hr HD hn32 hki hk
        go_wp2_with fail
        refine HDat.out.mono ?_
        rintro e3 w3 ⟨vd, rfl, hod, hbd⟩
        have hdl := dataL_length l K
        obtain ⟨gd, cd, rfl, hrd, hgb, hgl, hdc, hdm⟩ := own_form hod (by rw [hdl]; omega)
        rw [hdl] at hdc ⊢
        unfold maxLen at hdm
        have hbody := row_take (row_from hrd 6) n
        rw [Nat.zero_add, ← body_data l hsr] at hbody
        have HBd := Lib.hid (And.intro hrd (And.intro hbody (And.intro hdl (And.intro hgb hgl))))
        have HB3 := Lib.hid hbd
        clear hod hbd hrd hbody hdl hgb hgl
        go_wp2_with fail
        refine (stampAt_any b o l.length cap 0 l w3 rfl (by omega) hlc (by unfold maxLen; omega) (row_keep encB_len (show RowB w.drew (some ⟨b, o, none⟩) l from HE.out) HB3.out)).mono ?_
        rintro e4 w4 ⟨sv, rfl, hsv, hw⟩
        subst hw
        have HSv := Lib.hid hsv
        clear hsv
        go_wp2_with fail
        have hArg : Arg w3 (some ⟨gd, 6, none⟩) n (cd - 6) (bodyB l n) := ⟨bodyB_length l n, by omega, by unfold maxLen; omega, (fun h => by cases h), HBd.out.2.1⟩
        refine (dataOf_any sv (stampL l 0) (some ⟨gd, 6, none⟩) n (cd - 6) (bodyB l n) w3 HSv.out (stampL_length (by omega)) hArg hn19).mono ?_
        rintro e5 w5 ⟨gp, cp, rfl, hop, hbp⟩
        have hsn := HK.out
        rw [hsn] at hop ⊢
        have HP := Lib.hid (And.intro (own_row' hop) hbp)
        clear hArg hop hbp hsn
        go_wp2_with fail
        refine (equal_any (some ⟨gd, 0, none⟩) (some ⟨gp, 0, none⟩) (24 * K) (24 * K) cd cp (dataL l K) (dataP (stampL l 0) (bodyB l n)) w5 HBd.out.2.2.1 (by rw [dataP_length, bodyB_length, HK.out]) (fun h => by cases h) (fun h => by cases h) (row_keep encB_len HBd.out.1 HP.out.2) HP.out.1).mono ?_
        rintro e6 w6 ⟨rfl, hw⟩
        subst hw
        have HB5 := Lib.hid ((below_drew w).trans ((HB3.out.mono (Nat.le_refl _)).trans (HP.out.2.mono HB3.out.size)))
        by_cases heq : dataL l K = dataP (stampL l 0) (bodyB l n)
        · rw [decide_eq_true heq]
          have HS := Lib.hid (show unpackB l = some (numK l 24 4, numK l 28 4, bodyB l n, K) by rw [HU.out, if_pos ⟨HAlike.out, heq⟩])
          have HNew := Lib.hid (show NewB w5 w.heap.size (.slice (some ⟨gd, 6, none⟩) n (cd - 6)) (bodyB l n) from ⟨some ⟨gd, 6, none⟩, cd - 6, by rw [bodyB_length], by rw [bodyB_length]; omega, by unfold maxLen; omega, (fun h => by cases h), row_keep encB_len HBd.out.2.1 HP.out.2, fun q hq => by
            injection hq with hq
            subst hq
            exact ⟨HBd.out.2.2.2.1, Nat.lt_of_lt_of_le HBd.out.2.2.2.2 HP.out.2.size⟩⟩)
          clear heq
          go_wp2
          go_ret2
          exact ⟨.inr ⟨_, _, _, _, _, HS.out, rfl, HNew.out⟩, HB5.out⟩
        · rw [decide_eq_false heq]
          have HN := Lib.hid (show unpackB l = none by rw [HU.out, if_neg fun h => heq h.2])
          clear heq
          go_wp2
          go_ret2
          exact ⟨.inl ⟨HN.out, rfl⟩, HB5.out⟩

theorem unpack_nums {s : Bs} {e q k : Nat} {b : Bs} (h : unpackB s = some (e, q, b, k)) : mark e q = stampL s 0 ∧ 32 ≤ s.length := by
  unfold unpackB at h
  split at h
  · cases h
  · rename_i h32
    split at h
    · cases h
    · split at h
      · injection h with h
        injection h with h4 h
        injection h with h5 h
        subst h4 h5
        exact ⟨mark_stamp (by omega), by omega⟩
      · cases h

set_option maxRecDepth 100000 in
set_option maxHeartbeats 4000000 in
theorem unpack_any (aa : Option Addr) (len cap : Nat) (l : Bs) (w : World) (h : Arg w aa len cap l) (hm : len ≤ 1900) : Calls Try.prog 12 #[.slice aa len cap] w fun e' w' => UnpN w l e' w' := by
  have HA := Lib.hid h
  clear h
  go_enter Try.func12, Try.ntmps12
  go_wp2_with fail
  refine (read_any aa len cap l w HA.out hm).mono ?_
  rintro e1 w1 ⟨(⟨hn, rfl⟩ | ⟨e, q, b, k, v, hs, rfl, hv⟩), hb⟩
  · have HB := Lib.hid hb
    have HN := Lib.hid (ansU_none hn)
    clear hb hn
    go_wp2
    refine bodyPost_ret (results_tmp5 rfl _ _ _) rfl ?_
    show UnpN w l _ _
    unfold UnpN
    rw [HN.out]
    exact ⟨_, rfl, new_nil _ _, HB.out⟩
  · obtain ⟨h1, h2, h3, h4, h5, h6⟩ := unpack_some hs
    obtain ⟨h7, h8⟩ := unpack_nums hs
    have HS := Lib.hid (ansU_some hs)
    obtain ⟨av, cv, rfl, hv1, hv2, hv3, hv4, hv5⟩ := hv
    have hl := HA.out.len
    have hlc := HA.out.cap
    have hcm := HA.out.max
    have hr := HA.out.row
    obtain ⟨sb, so, rfl⟩ := row_at hr (by omega)
    have HR := Lib.hid (row_keep encB_len hr hb)
    have HB := Lib.hid hb
    have HV := Lib.hid (show NewB w1 w.heap.size (.slice av b.length cv) b from ⟨av, cv, rfl, hv1, hv2, hv3, hv4, hv5⟩)
    have HM := Lib.hid h7
    have HK := Lib.hid h4
    have hbl : b.length ≤ 65535 := by omega
    unfold maxLen at hcm hv2
    clear hs h6 h7 hr hb hv3 hv4 hv5 h4
    subst hl
    go_wp2_with fail
    refine (stampAt_any sb so l.length cap 0 l w1 rfl (by omega) hlc (by unfold maxLen; omega) HR.out).mono ?_
    rintro e4 w4 ⟨sv, rfl, hsv, hw⟩
    subst hw
    rw [← HM.out] at hsv
    have HSv := Lib.hid hsv
    clear hsv
    go_wp2_with fail
    refine (halves_any sv e q h1 h2 w1 HSv.out).mono ?_
    rintro e5 w5 ⟨rfl, hb5⟩
    have HB5 := Lib.hid (below_keep HB.out hb5)
    have HV5 := Lib.hid (show NewB w5 w.heap.size (.slice av b.length cv) b from by
      obtain ⟨a, c, he, n1, n2, n3, n4, n5⟩ := HV.out
      exact ⟨a, c, he, n1, n2, n3, row_keep encB_len n4 hb5, fun q hq => ⟨(n5 q hq).1, Nat.lt_of_lt_of_le (n5 q hq).2 hb5.size⟩⟩)
    clear hb5
    go_wp2_with fail
    refine (sectors_is b.length k hbl HK.out.symm w5).mono ?_
    rintro e6 w6 ⟨rfl, hw⟩
    subst hw
    go_wp2
    refine bodyPost_ret (results_tmp5 rfl _ _ _) rfl ?_
    show UnpN w l _ _
    unfold UnpN
    rw [HS.out]
    exact ⟨_, rfl, HV5.out, HB5.out⟩

/-- The landed frame keeps its contracts. -/
theorem frame_prog : Prog where
  sectors := fun n w hn => (sectors_any n hn w).mono fun e w' ⟨he, hw⟩ => ⟨he, by subst hw; exact Below.refl _ _⟩
  pack := fun e q aa len cap l w he hq h hm => by
    unfold PackR packA
    by_cases hi : inE e q
    · rw [if_pos hi]
      obtain ⟨⟨h1, h2⟩, h3, h4⟩ := hi
      obtain ⟨en, rfl⟩ : ∃ n : Nat, e = n := ⟨e.toNat, by omega⟩
      obtain ⟨qn, rfl⟩ : ∃ n : Nat, q = n := ⟨q.toNat, by omega⟩
      exact (pack_ok en qn (by omega) (by omega) aa len cap l w h hm).mono fun e' w' ⟨v, he, ho, hb⟩ => ⟨v, he, new_own ho, hb⟩
    · rw [if_neg hi]
      refine (pack_bad e q he hq aa len cap w hi).mono fun e' w' ⟨he, hw⟩ => ?_
      subst hw
      exact ⟨_, he, new_nil _ _, Below.refl _ _⟩
  unpack := fun aa len cap l w h hm => unpack_any aa len cap l w h hm

end Go.Proofs.Ytfnkeknnlndjcaa.Frm
