/- Frame: the landed dataOf. -/
import Derived.Test.YtfnkeknnlndjcaaFrmCal
import Derived.Test.YtfnkeknnlndjcaaRegChn
import Derived.Test.YtfnkeknnlndjcaaRegFun
namespace Go.Proofs.Ytfnkeknnlndjcaa.Frm
open Go.RowKit
open Go.Sort
open Kit
open Oct
open Chk
set_option linter.unusedVariables false

theorem run_cv_u32 (s : BitVec 32) (w : World) : (convert 37 3 (.int .u32 (s.toNat : Nat))).run Try.prog w = .ok (.int .i64 (s.toNat : Nat)) w := by
  have := s.isLt
  simp [go_sem]
  rw [IntKind.wrap_i64]; omega
def phiDat (w0 : World) (B g n c : Nat) (L : Bs) (s : Nat) : Nat → List Value → World → Prop
  | 0, _, w => w = w0.drew
  | 1, vs, w => ∃ v, vs = [v] ∧ AtB w v 4 (beB 4 s) ∧ Below w0.heap.size w0 w
  | _, _, w => OwnB w B (.slice (some ⟨g, 0, none⟩) n c) (lay L 2 (beB 4 s)) ∧ Below B w0 w
theorem dataP_lay (st b : Bs) (n : Nat) (hn : n = 24 * secs b.length) : lay (lay (lay (List.replicate n 0) 0 (beB 2 b.length)) 2 (beB 4 (crc 0xffffffff#32 (st ++ beB 2 b.length ++ b)).toNat)) 6 b = dataP st b := by
  have h := lay_zeros [] (beB 2 b.length) n 0 rfl
  rw [List.nil_append, List.nil_append] at h
  rw [h, lay_zeros _ _ _ 2 (beB_length 2 _), lay_zeros _ _ _ 6 (by rw [List.length_append, beB_length, beB_length])]
  unfold dataP rawD
  rw [beB_length, beB_length, show n - 2 - 4 - b.length = 24 * secs b.length - (b.length + 6) by omega]
theorem run_mk_b (n : Nat) (hn : n ≤ 1000000) (w : World) : (Instr.makeSlice 22 (.int .i64 (n : Int)) (.int .i64 (n : Int))).run Try.prog w = .ok (.slice (some ⟨w.heap.size, 0, none⟩) n n) (w.alloc (.cells (madeCells #[.int .u8 0] n) 5)) := run_make_b n n rfl hn w

set_option maxHeartbeats 4000000 in
theorem dataOf_any (sv : Value) (st : Bs) (aa : Option Addr) (len cap : Nat) (l : Bs) (w : World) (hs : AtB w sv 8 st) (hst : st.length = 8) (h : Arg w aa len cap l) (hm : len ≤ 1900) :
    Calls Try.prog 17 #[sv, .slice aa len cap] w fun e w' => ∃ g c, e = .returned (.slice (some ⟨g, 0, none⟩) (24 * secs len) c) ∧ OwnB w' w.heap.size (.slice (some ⟨g, 0, none⟩) (24 * secs len) c) (dataP st l) ∧ Below w.heap.size w w' := by
  obtain ⟨sb, so, sc, rfl, hs1, hs2, hs3⟩ := hs
  have HA := Lib.hid h
  have HS := Lib.hid (And.intro hs3 hst)
  have hcl := h.cap
  have hcm := h.max
  have hll := h.len
  unfold maxLen at hs2 hcm
  clear h hs3 hst
  go_enter Try.func17, Try.ntmps17
  go_wp2_with fail
  refine (lowest_any len 2 (by omega) (by omega) (by omega) w).mono ?_
  rintro e1 w1 ⟨v2, rfl, ⟨b2, o2, c2, rfl, h21, h22, h23⟩, hb1⟩
  have H2 := Lib.hid h23
  have HB1 := Lib.hid hb1
  unfold maxLen at h22
  clear h23 hb1
  go_wp2_with fail
  refine (of_is (some ⟨sb, so, none⟩) 8 sc st (crc 0xffffffff#32 st) w1 HS.out.2 (by omega) (row_keep encB_len HS.out.1 HB1.out) rfl).mono ?_
  rintro e2 w2 ⟨rfl, hb2⟩
  have HB2 := Lib.hid (below_keep HB1.out hb2)
  have H22 := Lib.hid (row_keep encB_len H2.out hb2)
  clear hb2
  generalize hx1 : crc 0xffffffff#32 st = x1 at *
  go_wp2_with fail
  refine (from_any x1 (some ⟨b2, o2, none⟩) 2 c2 (beB 2 len) w2 (beB_length _ _) (by omega) H22.out).mono ?_
  rintro e3 w3 ⟨rfl, hb3⟩
  have HB3 := Lib.hid (below_keep HB2.out hb3)
  have H23 := Lib.hid (row_keep encB_len H22.out hb3)
  clear hb3
  generalize hx2 : crc x1 (beB 2 len) = x2 at *
  go_wp2_with fail
  refine (from_any x2 aa len cap l w3 HA.out.len (by omega) (row_keep encB_len HA.out.row HB3.out)).mono ?_
  rintro e4 w4 ⟨rfl, hb4⟩
  have HB4 := Lib.hid (below_keep HB3.out hb4)
  have H24 := Lib.hid (row_keep encB_len H23.out hb4)
  clear hb4
  have hX : crc x2 l = crc 0xffffffff#32 (st ++ beB 2 l.length ++ l) := by rw [crc_append, crc_append, hx1, hll, hx2]
  generalize crc x2 l = s3 at *
  have HX := Lib.hid hX
  clear hX hx1 hx2
  go_wp2_with fail
  obtain ⟨K, hK⟩ : ∃ K, secs len = K := ⟨_, rfl⟩
  refine (sectors_is len K (by omega) hK w4).mono ?_
  rintro e5 w5 ⟨rfl, rfl⟩
  have hsr := secs_room len
  have hsl : secs len ≤ 81 := by unfold secs; omega
  obtain ⟨n24, hn24⟩ : ∃ n, n = 24 * secs len := ⟨_, rfl⟩
  have hmul : (K : Int) * 24 = (n24 : Nat) := by omega
  have HN := Lib.hid (show len + 6 ≤ n24 ∧ n24 ≤ n24 ∧ n24 = 24 * secs len from ⟨by omega, Nat.le_refl _, hn24⟩)
  have hn6 : len + 6 ≤ n24 := by omega
  have hn7 : n24 ≤ 2000 := by omega
  have hn8 : 24 ≤ n24 := by have := secs_pos len; omega
  clear hsr hsl hK hn24
  have hmk := run_mk_b n24 (by omega) w4
  have HO := Lib.hid (own_made_b w4 w.heap.size n24 HB4.out.size (by unfold maxLen; omega))
  have HBa := Lib.hid (HB4.out.alloc HB4.out.size (.cells (madeCells #[.int .u8 0] n24) 5))
  have HR2 := Lib.hid (row_keep encB_len H24.out (below_alloc w4 (.cells (madeCells #[.int .u8 0] n24) 5)))
  go_wp2_with (first
    | (refine copy_b rfl (.tmp 22) (.tmp 23) rfl w.heap.size w4.heap.size n24 n24 (List.replicate n24 0) HO.out (List.length_replicate ..) 0 n24 n24 rfl (some ⟨b2, o2, none⟩) 2 c2 (beB 2 len) rfl (beB_length _ _) HR2.out (by omega) (by omega) ?_; intro w6 ho6 hg6
       have HO6 := Lib.hid (And.intro ho6 (show (lay (List.replicate n24 0) 0 (beB 2 len)).length = n24 by rw [lay_length (by rw [beB_length, List.length_replicate]; omega), List.length_replicate]))
       have HB6 := Lib.hid (HBa.out.trans (grown_below hg6 (Nat.le_trans HB4.out.size (by simp)) HB4.out.size))
       clear ho6 hg6)
    | fail)
  obtain ⟨L, hL⟩ : ∃ L, L = lay (List.replicate n24 0) 0 (beB 2 len) := ⟨_, rfl⟩
  rw [← hL] at HO6
  have HL := Lib.hid hL
  clear hmk hL hmul HO HR2
  refine Chn.wp_region_chain (fun idx => match idx with | 0 => some (.slice (some ⟨w4.heap.size, 0, none⟩) n24 n24) | 1 => some (.slice (some ⟨w4.heap.size, 2, none⟩) (n24 - 2) (n24 - 2)) | 2 => some (.int .u32 (s3.toNat : Nat)) | 3 => some (.int .i64 (s3.toNat : Nat)) | _ => none) [4, 5] (phiDat w6 w.heap.size w4.heap.size n24 n24 L s3.toNat) (by kernel_rfl) (by kernel_rfl) (by kernel_rfl) (by kernel_rfl) (by kernel_rfl) (by decide) (by kernel_rfl) (rfl) ?_ ?_
  · refine ⟨?_, ?_, ?_, ?_, ?_, ?_, trivial⟩
    · intro a ww jj vs c hj0 hΦ
      have hj : jj ≤ 1 := Nat.le_trans hj0 (of_decide_eq_true (by kernel_rfl))
      refine .inl ⟨Rel.wanted_free (by kernel_rfl) _, ?_⟩
      exact Rel.wp_mv _ rfl ⟨congrArg (a.put _) (c.old 7 (v := .slice (some ⟨w4.heap.size, 0, none⟩) n24 n24) (by kernel_rfl) (by kernel_rfl)), rfl⟩
    · intro a ww jj vs c hj0 hΦ
      have hj : jj ≤ 1 := Nat.le_trans hj0 (of_decide_eq_true (by kernel_rfl))
      refine .inl ⟨Rel.wanted_free (by kernel_rfl) _, ?_⟩
      exact Rel.wp_sl _ _ _ _ _ rfl (c.get 0 25 (by kernel_rfl) rfl) rfl rfl rfl (run_from w4.heap.size n24 2 n24 (by have := HN.out; omega) HN.out.2.1 (by have := HN.out; omega) ww) ⟨rfl, rfl⟩
    · intro a ww jj vs c hj0 hΦ
      have hj : jj ≤ 0 := Nat.le_trans hj0 (of_decide_eq_true (by kernel_rfl))
      refine .inl ⟨Rel.wanted_free (by kernel_rfl) _, ?_⟩
      exact Rel.wp_mv _ rfl ⟨congrArg (a.put _) (c.old 6 (v := .int .u32 (s3.toNat : Nat)) (by kernel_rfl) (by kernel_rfl)), rfl⟩
    · intro a ww jj vs c hj0 hΦ
      have hj : jj ≤ 0 := Nat.le_trans hj0 (of_decide_eq_true (by kernel_rfl))
      refine .inl ⟨Rel.wanted_free (by kernel_rfl) _, ?_⟩
      exact Rel.wp_cv _ _ _ rfl (c.get 2 27 (by kernel_rfl) rfl) (run_cv_u32 s3 ww) ⟨rfl, rfl⟩
    · refine ⟨0, rfl, ?_⟩
      intro a ww c hΦ
      have h : (phiDat w6 w.heap.size w4.heap.size n24 n24 L s3.toNat) 0 [] ww := hΦ
      clear hΦ
      refine ⟨Rel.wanted_free (by kernel_rfl) _, ?_⟩
      have hw : ww = w6.drew := h
      subst hw
      refine Rel.wp_cl _ [.tmp 28, .const (.int .i64 4)] _ rfl Try.func25 (by kernel_rfl) ?_
      show Calls _ _ #[Rel.slot a 28, .int .i64 4] w6.drew _
      rw [c.get 3 28 (by kernel_rfl) rfl]
      refine (lowest_any s3.toNat 4 (by have := s3.isLt; omega) (by omega) (by omega) w6.drew).mono ?_
      rintro e9 w9 ⟨v, rfl, hv, hb⟩
      exact ⟨v, rfl, _, rfl, v, rfl, hv, (below_drew w6).trans hb⟩
    · refine ⟨1, rfl, ?_⟩
      intro a ww c hΦ
      have h : (phiDat w6 w.heap.size w4.heap.size n24 n24 L s3.toNat) 1 [Rel.slot a 29] ww := hΦ
      clear hΦ
      refine ⟨Rel.wanted_free (by kernel_rfl) _, ?_⟩
      obtain ⟨v, hv0, hv, hb⟩ := h
      injection hv0 with hv0 _
      obtain ⟨b4, o4, c4, rfl, h41, h42, h43⟩ := hv
      obtain ⟨wz, hr, ho, hg⟩ := run_copy_b (dl := n24 - 2) (dc := n24 - 2) (c := c4) (ty := 3) (off := 2) (own_keep HO6.out.1 hb) HO6.out.2 (beB_length 4 s3.toNat) h43 (by have := HN.out; omega) (by have := HN.out; omega)
      exact Rel.wp_cp _ _ _ _ rfl (c.get 1 26 (by kernel_rfl) rfl) hv0 hr ⟨_, rfl, ho, (hb.mono HB6.out.size).trans (grown_below hg (Nat.le_trans HB6.out.size hb.size) (own_lt HO6.out.1).1)⟩
  intro a w8 hbase hroom hdef hΦ hV
  have h : (phiDat w6 w.heap.size w4.heap.size n24 n24 L s3.toNat) 2 [Rel.slot a 29, Rel.slot a 30] w8 := hΦ
  rw [Chn.act_puts [25, 26, 27, 28, 29, 30] hbase hroom hdef (by kernel_rfl)]
  clear hbase hroom hdef hΦ hV
  simp only [List.foldl_cons, List.foldl_nil]
  generalize Rel.slot a 25 = u25 at *
  generalize Rel.slot a 26 = u26 at *
  generalize Rel.slot a 27 = u27 at *
  generalize Rel.slot a 28 = u28 at *
  generalize Rel.slot a 29 = u29 at *
  generalize Rel.slot a 30 = u30 at *
  obtain ⟨ho8, hb8⟩ := (show OwnB w8 w.heap.size (.slice (some ⟨w4.heap.size, 0, none⟩) n24 n24) (lay L 2 (beB 4 s3.toNat)) ∧ Below w.heap.size w6 w8 from h)
  have HO8 := Lib.hid (And.intro ho8 (show (lay L 2 (beB 4 s3.toNat)).length = n24 by rw [lay_length (by rw [beB_length, HO6.out.2]; omega), HO6.out.2]))
  have HB8 := Lib.hid (HB6.out.trans hb8)
  have HR8 := Lib.hid (row_keep encB_len HA.out.row HB8.out)
  clear ho8 hb8 h
  go_wp2_with (first
    | (refine copy_b rfl (.tmp 32) (.tmp 33) rfl w.heap.size w4.heap.size n24 n24 (lay L 2 (beB 4 s3.toNat)) HO8.out.1 HO8.out.2 6 (n24 - 6) (n24 - 6) rfl aa len cap l rfl HA.out.len HR8.out (by omega) (by omega) ?_; intro w9 ho9 hg9
       have HO9 := Lib.hid ho9
       have HB9 := Lib.hid (HB8.out.trans (grown_below hg9 HB8.out.size (own_lt HO8.out.1).1))
       clear ho9 hg9)
    | fail)
  go_wp2
  go_ret
  refine ⟨w4.heap.size, n24, ?_, ?_, HB9.out⟩
  · rw [← HN.out.2.2]; rfl
  · rw [← HN.out.2.2]
    have e := dataP_lay st l n24 (by rw [hll]; exact HN.out.2.2)
    rw [← HX.out, hll, ← HL.out] at e
    rw [← e]
    exact HO9.out

end Go.Proofs.Ytfnkeknnlndjcaa.Frm
