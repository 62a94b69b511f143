/- Disk: the laws' own functions, over any disk that does as it should. -/
import Derived.Test.YtpbegchaneppfaaDskPair
namespace Go.Proofs.Ytpbegchaneppfaa.Dsk
open Go.RowKit
open Go.Sort
open Kit
open Oct
open Foot
set_option linter.unusedVariables false
variable {D : World → (Nat → Prop) → Nat → DS → Prop}

def kSl (n : Nat) : Rel.Kd Rel.Gr := ⟨fun _ v => ∃ a c, v = .slice a n c, fun _ _ _ _ h => h⟩
theorem kcRow (W : World) (a : Option Addr) (len cap : Nat) (l : List UInt8) (hl : l.length = len) (hn : a = none → len = 0) (h : RowB W a l) : (convert 39 9 (.slice a len cap)).run Try.prog W = .ok (.string ⟨l.toArray⟩) W :=
  conv_row (P := Try.prog) (src := 39) (dst := 9) Try.underlying39 Try.underlying5 Try.underlying9 hl hn h

set_option maxHeartbeats 4000000 in
theorem alike_any (hD : Prog D) {B pd pr c : Nat} {W : World} {s : DS} (h : Both D B W pd pr s c) (hc : c ≤ 1000000) :
    Calls Try.prog 11 #[.pointer (some ⟨pd, 0, none⟩), .pointer (some ⟨pr, 0, none⟩)] W fun e w' => e = .returned (.bool true) ∧ Below W.heap.size W w' := by
  obtain ⟨FD, FR, hP⟩ := h
  have HP := Lib.hid hP
  have hok := hD.ok hP.d
  obtain ⟨ag, cg, hcell⟩ := refs_size hP.r
  have HC := Lib.hid hcell
  have hsm := hok.small
  have HOK := Lib.hid hok
  have KC := Lib.hid kcRow
  clear hP hok hcell
  go_enter Try.func11, Try.ntmps11
  go_upto_region 1 with fail
  go_cut [27] (fun u wx => u = .bool false ∧ Below W.heap.size W wx)
  case first =>
    refine Rel.wp_region_rel (G := Rel.Gr) (Rel.tab [.is (.pointer (some ⟨pd, 0, none⟩)), .is (.int .i64 s.good.length), .is (.pointer (some ⟨pr, 0, none⟩)), .is (.pointer (some ⟨pr, 0, none⟩)), .is (.pointer (some ⟨pr, 0, none⟩)), .is (.slice ag s.good.length cg), .is (.int .i64 (s.good.length : Nat)), .is (.bool false), .is (.bool false), .is (.pointer (some ⟨pd, 0, none⟩)), .is (.int .i64 s.order.length), .is (.pointer (some ⟨pr, 0, none⟩)), kSl s.order.length, .is (.int .i64 (s.order.length : Nat)), .is (.bool false), .is (.bool false)]) (fun _ w => Below W.heap.size W w) (by kernel_rfl) (by kernel_rfl) (by kernel_rfl) (by kernel_rfl) (fun w => Rel.gr_refl _) (below_drew _) ?_ ?_
    · refine ⟨?_, ?_, ?_, ?_, ?_, ?_, ?_, ?_, ?_, ?_, ?_, ?_, ?_, ?_, ?_, ?_, trivial⟩
      · intro L a w c
        refine .inl ⟨Rel.wanted_free (by kernel_rfl) _, ?_⟩
        exact Rel.wp_mv _ rfl ⟨_, rfl, Rel.gr_refl _, (c.old 0 (v := .pointer (some ⟨pd, 0, none⟩)) (by kernel_rfl) (by kernel_rfl)), c.inv⟩
      · intro L a w c
        refine .inl ⟨Rel.wanted_free (by kernel_rfl) _, ?_⟩
        refine Rel.wp_cl _ _ _ rfl Try.func21 (by kernel_rfl) ?_
        show Calls _ _ #[Rel.slot a 12] w _
        rw [show Rel.slot a 12 = .pointer (some ⟨pd, 0, none⟩) from (c.get 0 12 (by kernel_rfl))]
        refine (hD.size (pair_keep hD HP.out c.inv).d).mono ?_
        rintro e w' ⟨rfl, hb⟩
        exact ⟨_, rfl, _, rfl, hb, rfl, below_keep c.inv hb⟩
      · intro L a w c
        refine .inl ⟨Rel.wanted_free (by kernel_rfl) _, ?_⟩
        exact Rel.wp_mv _ rfl ⟨_, rfl, Rel.gr_refl _, (c.old 1 (v := .pointer (some ⟨pr, 0, none⟩)) (by kernel_rfl) (by kernel_rfl)), c.inv⟩
      · intro L a w c
        refine .inl ⟨Rel.wanted_free (by kernel_rfl) _, ?_⟩
        exact Chn.wp_nc _ rfl (c.get 2 14 (by kernel_rfl)) ⟨_, rfl, Rel.gr_refl _, rfl, c.inv⟩
      · intro L a w c
        refine .inl ⟨Rel.wanted_free (by kernel_rfl) _, ?_⟩
        exact Chn.wp_fa _ _ _ rfl (c.get 3 15 (by kernel_rfl)) (by simp [go_sem]) ⟨_, rfl, Rel.gr_refl _, rfl, c.inv⟩
      · intro L a w c
        refine .inl ⟨Rel.wanted_free (by kernel_rfl) _, ?_⟩
        exact Rel.wp_ld _ _ rfl (c.get 4 16 (by kernel_rfl)) (run_ld_sls (cell_keep c.inv HC.out)) ⟨_, rfl, Rel.gr_refl _, rfl, c.inv⟩
      · intro L a w c
        refine .inl ⟨Rel.wanted_free (by kernel_rfl) _, ?_⟩
        exact Rel.wp_len _ _ rfl (c.get 5 17 (by kernel_rfl)) (by simp [go_sem]) ⟨_, rfl, Rel.gr_refl _, rfl, c.inv⟩
      · intro L a w c
        refine .inl ⟨Rel.wanted_free (by kernel_rfl) _, ?_⟩
        exact Rel.wp_bo _ _ _ _ _ rfl (u := .bool false) (c.get 1 13 (by kernel_rfl)) (c.get 6 18 (by kernel_rfl)) (by simp [go_sem]) ⟨_, rfl, Rel.gr_refl _, rfl, c.inv⟩
      · intro L a w c
        refine .inl ⟨Rel.wanted_free (by kernel_rfl) _, ?_⟩
        exact Rel.wp_mv _ rfl ⟨_, rfl, Rel.gr_refl _, (c.get 7 19 (by kernel_rfl)), c.inv⟩
      · intro L a w c
        refine .inl ⟨Rel.wanted_by (j := 8) (b := false) (d := 20) (by kernel_rfl) (c.get 8 20 (by kernel_rfl)), ?_⟩
        exact Rel.wp_mv _ rfl ⟨_, rfl, Rel.gr_refl _, (c.old 0 (v := .pointer (some ⟨pd, 0, none⟩)) (by kernel_rfl) (by kernel_rfl)), c.inv⟩
      · intro L a w c
        refine .inl ⟨Rel.wanted_by (j := 8) (b := false) (d := 20) (by kernel_rfl) (c.get 8 20 (by kernel_rfl)), ?_⟩
        refine Rel.wp_cl _ _ _ rfl Try.func16 (by kernel_rfl) ?_
        show Calls _ _ #[Rel.slot a 21] w _
        rw [show Rel.slot a 21 = .pointer (some ⟨pd, 0, none⟩) from (c.get 9 21 (by kernel_rfl))]
        refine (hD.cached (pair_keep hD HP.out c.inv).d).mono ?_
        rintro e w' ⟨rfl, hb⟩
        exact ⟨_, rfl, _, rfl, hb, rfl, below_keep c.inv hb⟩
      · intro L a w c
        refine .inl ⟨Rel.wanted_by (j := 8) (b := false) (d := 20) (by kernel_rfl) (c.get 8 20 (by kernel_rfl)), ?_⟩
        exact Rel.wp_mv _ rfl ⟨_, rfl, Rel.gr_refl _, (c.old 1 (v := .pointer (some ⟨pr, 0, none⟩)) (by kernel_rfl) (by kernel_rfl)), c.inv⟩
      · intro L a w c
        refine .inl ⟨Rel.wanted_by (j := 8) (b := false) (d := 20) (by kernel_rfl) (c.get 8 20 (by kernel_rfl)), ?_⟩
        refine Rel.wp_cl _ _ _ rfl Try.func25 (by kernel_rfl) ?_
        show Calls _ _ #[Rel.slot a 23] w _
        rw [show Rel.slot a 23 = .pointer (some ⟨pr, 0, none⟩) from (c.get 11 23 (by kernel_rfl))]
        refine (refs_order (pair_keep hD HP.out c.inv).r (fun k hk => ((pair_keep hD HP.out c.inv).rlt k hk).2) hc).mono ?_
        rintro e w' ⟨aa, cap, rfl, hb⟩
        exact ⟨_, rfl, _, rfl, hb, ⟨aa, cap, rfl⟩, below_keep c.inv hb⟩
      · intro L a w c
        refine .inl ⟨Rel.wanted_by (j := 8) (b := false) (d := 20) (by kernel_rfl) (c.get 8 20 (by kernel_rfl)), ?_⟩
        obtain ⟨aa, cap, e⟩ := c.get 12 24 (by kernel_rfl)
        exact Rel.wp_len _ _ rfl e (by simp [go_sem]) ⟨_, rfl, Rel.gr_refl _, rfl, c.inv⟩
      · intro L a w c
        refine .inl ⟨Rel.wanted_by (j := 8) (b := false) (d := 20) (by kernel_rfl) (c.get 8 20 (by kernel_rfl)), ?_⟩
        exact Rel.wp_bo _ _ _ _ _ rfl (u := .bool false) (c.get 10 22 (by kernel_rfl)) (c.get 13 25 (by kernel_rfl)) (by simp [go_sem]) ⟨_, rfl, Rel.gr_refl _, rfl, c.inv⟩
      · intro L a w c
        refine .inl ⟨Rel.wanted_free (by kernel_rfl) _, ?_⟩
        exact Rel.wp_pk _ _ _ rfl (b := false) (c.get 8 20 (by kernel_rfl)) ⟨_, rfl, Rel.gr_refl _, (c.get 14 26 (by kernel_rfl)), c.inv⟩
    · intro a w hbase hroom hdef hJ hV
      have e27 := hV 15 _ _ rfl rfl
      go_wp2_with fail
      refine Met.intro ?_
      go_step
      exact ⟨Rel.slot a 12, Rel.slot a 13, Rel.slot a 14, Rel.slot a 15, Rel.slot a 16, Rel.slot a 17, Rel.slot a 18, Rel.slot a 19, Rel.slot a 20, Rel.slot a 21, Rel.slot a 22, Rel.slot a 23, Rel.slot a 24, Rel.slot a 25, Rel.slot a 26, Rel.slot a 27, Rel.slot a 28, Rel.slot a 29, Rel.slot a 30, Rel.slot a 31, Rel.slot a 32, Rel.slot a 33, Rel.slot a 34, Rel.slot a 35, Rel.slot a 36, Rel.slot a 37, Rel.slot a 38, Rel.slot a 39, Rel.slot a 40, Rel.slot a 41, Rel.slot a 42, Rel.slot a 43, Rel.slot a 44, Rel.slot a 45, Rel.slot a 46, Rel.slot a 47, Rel.slot a 48, Rel.slot a 49, Rel.slot a 50, Rel.slot a 51, Rel.slot a 52, Rel.slot a 53, Rel.slot a 54, Rel.slot a 55, Rel.slot a 56, Rel.slot a 57, Rel.slot a 58, Rel.slot a 59, Rel.slot a 60, Rel.slot a 61, Rel.slot a 62, Rel.slot a 63, Rel.slot a 64, Rel.slot a 65, Rel.slot a 66, Rel.slot a 67, Rel.slot a 68, Rel.slot a 69, Rel.slot a 70, ⟨e27, hJ⟩, (Rel.act_mix [12, 13, 14, 15, 16, 17, 18, 19, 20, 21, 22, 23, 24, 25, 26, 27, 28, 29, 30, 31, 32, 33, 34, 35, 36, 37, 38, 39, 40, 41, 42, 43, 44, 45, 46, 47, 48, 49, 50, 51, 52, 53, 54, 55, 56, 57, 58, 59, 60, 61, 62, 63, 64, 65, 66, 67, 68, 69, 70] hbase hroom hdef (by kernel_rfl)).trans (by kernel_rfl)⟩
  case rest =>
    obtain ⟨rfl, hJ⟩ := hcut
    have HB := Lib.hid hJ
    have HC9 := Lib.hid (cell_keep hJ HC.out)
    clear hJ
    go_wp2_with fail
    go_loopw [5] (fun i wx => ∃ k : Nat, k ≤ s.good.length ∧ i = .int .i64 k ∧ Below W.heap.size W wx) (fun i _ => s.good.length - (intOf i).toNat)
    case atStart => exact ⟨0, Nat.zero_le _, rfl, HB.out⟩
    case round =>
      obtain ⟨k, hk, rfl, hb⟩ := hrel
      have HBr := Lib.hid hb
      have cr := cell_keep hb HC.out
      clear hb
      by_cases hlt : k < s.good.length
      · have hrd : s.read k = (s.now.getD k [], 0) := by unfold DS.read; rw [if_pos (show inR (k : Int) s.good.length from ⟨by omega, by omega⟩)]; rfl
        generalize hl : s.now.getD k [] = l at hrd
        have HRD := Lib.hid hrd
        clear hl hrd
        go_wp2_with fail
        refine (hD.read (pair_keep hD HP.out HBr.out).d k ⟨by omega, by omega⟩).mono ?_
        rw [HRD.out]
        rintro e w3 ⟨v, rfl, ho, hb3⟩
        replace ho : RdB w3 wr.heap.size v l := ho
        have HB3 := Lib.hid (below_keep HBr.out hb3)
        have HO3 := Lib.hid ho
        clear hb3 ho cr
        go_wp2_with fail
        refine (refs_read (pair_keep hD HP.out HB3.out).r hc k).mono ?_
        rw [HRD.out]
        rintro e w4 ⟨v2, rfl, ho4, hb4⟩
        replace ho4 : OwnB w4 w3.heap.size v2 l := ho4
        obtain ⟨aa, ca, rfl, hla, _, hna, hra⟩ := rd_row HO3.out
        obtain ⟨ab, cb, rfl, hlb, _, hnb, hrb⟩ := own_row ho4
        have HRa := Lib.hid (row_keep encB_len hra hb4)
        have HRb := Lib.hid hrb
        have HNa : Hid (aa = none → l.length = 0) := Lib.hid fun h => by have := hna h; omega
        have HNb : Hid (ab = none → l.length = 0) := Lib.hid fun h => by have := hnb h; omega
        have HB4 := Lib.hid (below_keep HB3.out hb4)
        clear hna hra hnb hrb hb4 ho4 hla hlb
        have ca' := KC.out w4 aa l.length ca l rfl HNa.out HRa.out
        have cb' := KC.out w4 ab l.length cb l rfl HNb.out HRb.out
        go_wp2_with fail
        go_roundw
        case rel => exact ⟨k + 1, by omega, by go_num, HB4.out⟩
        case measure => simp [intOf]; omega
      · obtain rfl : k = s.good.length := by omega
        have hrd : s.read s.good.length = ([], 1) := by unfold DS.read; rw [if_neg (fun h => by have := h.2; omega)]
        have HRD := Lib.hid hrd
        clear hrd
        go_wp2_with fail
        refine (hD.read (pair_keep hD HP.out HBr.out).d _ ⟨by omega, by omega⟩).mono ?_
        rw [HRD.out]
        rintro e w3 ⟨v, rfl, ho, hb3⟩
        have HB3 := Lib.hid (below_keep HBr.out hb3)
        clear hb3 ho cr
        go_wp2
        go_ret
        exact ⟨rfl, HB3.out⟩

def kRowB (l : List UInt8) : Rel.Kd Rel.Gr := ⟨fun w v => ∃ a n c, v = .slice a n c ∧ l.length = n ∧ (a = none → n = 0) ∧ RowB w a l, fun _ _ _ hG ⟨a, n, c, h1, h2, h3, h4⟩ => ⟨a, n, c, h1, h2, h3, row_keep encB_len h4 hG⟩⟩
theorem own_at_block {w : World} {base g n c : Nat} {l : List UInt8} (h : OwnB w base (.slice (some ⟨g, 0, none⟩) n c) l) : base ≤ g ∧ g < w.heap.size := by
  rcases h.2 with ⟨h1, _⟩ | ⟨g', cap, cur, h1, h2, h3, _⟩
  · cases h1
  · injection h1 with h1
    injection h1 with h1
    injection h1 with h1
    subst h1
    exact ⟨h2, (Array.getElem?_eq_some_iff.1 h3).1⟩
theorem awake_states : ∃ s1 s2 s3 : DS, (DS.new 4).write 3 (secB 7) = (0, s1) ∧ s1.write 1 (secB 9) = (0, s2) ∧ s2.crash 2 5 0 = s3 ∧ s2.order.length = 2 ∧ s3.read 1 = (secB 9, 0) ∧ s3.read 3 = (secB 0, 0) ∧ s3.good.length = 4 :=
  ⟨((DS.new 4).write 3 (secB 7)).2, (((DS.new 4).write 3 (secB 7)).2.write 1 (secB 9)).2, (((DS.new 4).write 3 (secB 7)).2.write 1 (secB 9)).2.crash 2 5 0, by kernel_rfl, by kernel_rfl, rfl, by kernel_rfl, by kernel_rfl, by kernel_rfl, by kernel_rfl⟩

set_option maxRecDepth 100000 in
set_option maxHeartbeats 4000000 in
theorem awake_any (hD : Prog D) (W : World) : Calls Try.prog 12 #[] W fun e w' => e = .returned (.bool true) ∧ Below W.heap.size W w' := by
  obtain ⟨s1, s2, s3, hs1, hs2, hs3, hs⟩ := awake_states
  have HS1 := Lib.hid hs1
  have HS2 := Lib.hid hs2
  have HS3 := Lib.hid hs3
  have HS := Lib.hid hs
  have KC := Lib.hid kcRow
  clear hs1 hs2 hs3 hs
  go_enter Try.func12, Try.ntmps12
  go_wp2_with fail
  refine (hD.new 4 W (by omega) (by omega)).mono ?_
  rintro e w1 ⟨p, rfl, hd, hb⟩
  have hlt1 : ∀ k, More (fun _ => False) W w1 k → W.heap.size ≤ k ∧ k < w1.heap.size := fun k hk => hk.elim (fun h => h.elim) id
  obtain ⟨F1, hF1⟩ : ∃ F, F = More (fun _ => False) W w1 := ⟨_, rfl⟩
  rw [← hF1] at hd hlt1
  clear hF1
  have H1 := Lib.hid (And.intro hd (And.intro hlt1 hb))
  clear hd hlt1 hb
  go_wp2_with fail
  refine (sector_any 7 w1).mono ?_
  rintro e w2 ⟨g7, rfl, ho7, hb⟩
  have H2 := Lib.hid (And.intro (hD.chg H1.out.1 (new_chg hb (fun _ => False)) (fun _ _ => id)) (And.intro hb ho7))
  clear hb ho7
  go_wp2_with fail
  refine (sector_any 9 w2).mono ?_
  rintro e w3 ⟨g9, rfl, ho9, hb⟩
  have hd3 := hD.chg H2.out.1 (new_chg hb (fun _ => False)) (fun _ _ => id)
  have hr7 := row_keep encB_len (own_row' H2.out.2.2) hb
  have hr9 := own_row' ho9
  have h7 := own_at_block H2.out.2.2
  have h9 := own_at_block ho9
  have hsz := H2.out.2.1.size
  have hsz3 := hb.size
  have hn7 : ¬ F1 g7 := fun h => by have := (H1.out.2.1 _ h).2; omega
  have hn9 : ¬ F1 g9 := fun h => by have := (H1.out.2.1 _ h).2; omega
  have hB3 := below_keep (below_keep H1.out.2.2 H2.out.2.1) hb
  have hF3 : ∀ k, F1 k → W.heap.size ≤ k ∧ k < w3.heap.size := fun k hk => by have := H1.out.2.1 _ hk; omega
  have H3 := Lib.hid (And.intro hd3 (And.intro hB3 (And.intro hF3 (And.intro hr7 (And.intro hr9 (And.intro hn7 (And.intro hn9 (show g9 < w3.heap.size from h9.2))))))))
  clear hd3 hr7 hr9 h7 h9 hsz hsz3 hn7 hn9 hB3 hF3 hb ho9 H2 H1
  go_wp2_with fail
  refine (hD.write H3.out.1 (fun k hk => (H3.out.2.2.1 k hk).2) 3 (some ⟨g7, 0, none⟩) 32 32 (secB 7) (by omega) (secB_len 7) (Nat.le_refl _) (by unfold maxLen; omega) (fun h => by cases h) H3.out.2.2.2.1 (fun q hq h => by injection hq with hq; subst hq; exact H3.out.2.2.2.2.2.1 h)).mono ?_
  rw [HS1.out]
  rintro e w4 ⟨rfl, hd, hC⟩
  obtain ⟨hd3, hB3, hF3, hr7, hr9, hn7, hn9, hg9⟩ := H3.out
  have hn94 : ¬ More F1 w3 w4 g9 := fun h => h.elim hn9 fun h => by omega
  have hF4 : ∀ k, More F1 w3 w4 k → W.heap.size ≤ k ∧ k < w4.heap.size := fun k hk => ⟨more_ge (fun k hk => (hF3 k hk).1) hB3.size hk, more_lt (fun k hk => (hF3 k hk).2) hC.size hk⟩
  have H4 := Lib.hid (And.intro hd (And.intro (hB3.trans (chg_below hC (fun k hk => (hF3 k hk).1) hB3.size)) (And.intro hF4 (And.intro (row_chg encB_len hC hr9 hn9) (And.intro hn94 (show g9 < w4.heap.size from Nat.lt_of_lt_of_le hg9 hC.size))))))
  clear hd hC hd3 hB3 hF3 hr7 hr9 hn7 hn9 hg9 hn94 hF4 H3
  generalize More F1 w3 w4 = F4 at H4
  go_wp2_with fail
  refine (hD.write H4.out.1 (fun k hk => (H4.out.2.2.1 k hk).2) 1 (some ⟨g9, 0, none⟩) 32 32 (secB 9) (by omega) (secB_len 9) (Nat.le_refl _) (by unfold maxLen; omega) (fun h => by cases h) H4.out.2.2.2.1 (fun q hq h => by injection hq with hq; subst hq; exact H4.out.2.2.2.2.1 h)).mono ?_
  rw [HS2.out]
  rintro e w5 ⟨rfl, hd, hC⟩
  obtain ⟨hd4, hB4, hF4, hr9, hn9, hg9⟩ := H4.out
  have hn95 : ¬ More F4 w4 w5 g9 := fun h => h.elim hn9 fun h => by omega
  have hF5 : ∀ k, More F4 w4 w5 k → W.heap.size ≤ k ∧ k < w5.heap.size := fun k hk => ⟨more_ge (fun k hk => (hF4 k hk).1) hB4.size hk, more_lt (fun k hk => (hF4 k hk).2) hC.size hk⟩
  have H5 := Lib.hid (And.intro hd (And.intro (hB4.trans (chg_below hC (fun k hk => (hF4 k hk).1) hB4.size)) (And.intro hF5 (And.intro (row_chg encB_len hC hr9 hn9) (And.intro hn95 (show g9 < w5.heap.size from Nat.lt_of_lt_of_le hg9 hC.size))))))
  clear hd hC hd4 hB4 hF4 hr9 hn9 hg9 hn95 hF5 H4
  generalize More F4 w4 w5 = F5 at H5
  go_wp2_with fail
  refine (hD.cached H5.out.1).mono ?_
  rw [HS.out.1]
  rintro e w6 ⟨rfl, hb⟩
  have H6 := Lib.hid (And.intro (hD.chg H5.out.1 (new_chg hb (fun _ => False)) (fun _ _ => id)) (And.intro (below_keep H5.out.2.1 hb) (And.intro (show ∀ k, F5 k → W.heap.size ≤ k ∧ k < w6.heap.size from fun k hk => ⟨(H5.out.2.2.1 k hk).1, Nat.lt_of_lt_of_le (H5.out.2.2.1 k hk).2 hb.size⟩) (And.intro (row_keep encB_len H5.out.2.2.2.1 hb) H5.out.2.2.2.2.1))))
  clear hb H5
  go_wp2_with fail
  refine (hD.crash H6.out.1 (fun k hk => (H6.out.2.2.1 k hk).2) 2 5 0 (by omega) (by omega) (by omega)).mono ?_
  rw [HS3.out]
  rintro e w7 ⟨rfl, hd, hC⟩
  have H7 := Lib.hid (And.intro (show D w7 (More F5 w6 w7) p s3 from hd) (And.intro (H6.out.2.1.trans (chg_below hC (fun k hk => (H6.out.2.2.1 k hk).1) H6.out.2.1.size)) (row_chg encB_len hC H6.out.2.2.2.1 H6.out.2.2.2.2)))
  clear hd hC
  generalize More F5 w6 w7 = F7 at H7
  clear H6
  go_wp2_with fail
  refine (hD.read H7.out.1 1 (by omega)).mono ?_
  rw [HS.out.2.1]
  rintro e w9 ⟨v, rfl, ho, hb⟩
  replace ho : RdB w9 w7.heap.size v (secB 9) := ho
  obtain ⟨a1, c1, rfl, hl1, _, hn1, hr1⟩ := rd_row ho
  rw [secB_len] at hl1
  have H9 := Lib.hid (And.intro (hD.chg H7.out.1 (new_chg hb (fun _ => False)) (fun _ _ => id)) (And.intro (below_keep H7.out.2.1 hb) (And.intro (row_keep encB_len H7.out.2.2 hb) hr1)))
  have HN1 : Hid (a1 = none → 32 = 0) := Lib.hid fun h => by have := hn1 h; omega
  clear ho hl1 hn1 hr1 hb H7
  simp only [secB_len]
  go_wp2_with fail
  refine (hD.read H9.out.1 3 (by omega)).mono ?_
  rw [HS.out.2.2.1]
  rintro e w8 ⟨v, rfl, ho, hb⟩
  replace ho : RdB w8 w9.heap.size v (secB 0) := ho
  obtain ⟨a3, c3, rfl, hl3, _, hn3, hr3⟩ := rd_row ho
  rw [secB_len] at hl3
  have H8 := Lib.hid (hD.chg H9.out.1 (new_chg hb (fun _ => False)) (fun _ _ => id))
  have HB8 := Lib.hid (below_keep H9.out.2.1 hb)
  have HR9 := Lib.hid (row_keep encB_len H9.out.2.2.1 hb)
  have HR1 := Lib.hid (row_keep encB_len H9.out.2.2.2 hb)
  have HR3 := Lib.hid hr3
  have HN3 : Hid (a3 = none → 32 = 0) := Lib.hid fun h => by have := hn3 h; omega
  clear ho hl3 hn3 hr3 hb H9
  simp only [secB_len]
  go_wp2_with fail
  refine Rel.wp_region_rel (G := Rel.Gr) (Rel.tab [.is (.int .i64 0), .is (.bool true), .is (.bool true), .is (.int .i64 0), .is (.bool true), .is (.bool true), .is (.bool true), .is (.int .i64 2), .is (.bool true), .is (.bool true), .is (.bool true), .is (.slice a1 32 c1), .is (.string ⟨(secB 9).toArray⟩), .is (.slice (some ⟨g9, 0, none⟩) 32 32), .is (.string ⟨(secB 9).toArray⟩), .is (.bool true), .is (.bool true), .is (.bool true), .is (.int .i64 0), .is (.bool true), .is (.bool true), .is (.bool true), .is (.slice a3 32 c3), .is (.string ⟨(secB 0).toArray⟩), kRowB (secB 0), .is (.string ⟨(secB 0).toArray⟩), .is (.bool true), .is (.bool true), .is (.bool true), .is (.int .i64 0), .is (.bool true), .is (.bool true), .is (.bool true), .is (.pointer (some ⟨p, 0, none⟩)), .is (.int .i64 (4 : Nat)), .is (.bool true), .is (.bool true), .is (.bool true)]) (fun _ w => Below w8.heap.size w8 w) (by kernel_rfl) (by kernel_rfl) (by kernel_rfl) (by kernel_rfl) (fun w => Rel.gr_refl _) (below_drew _) ?_ ?_
  · refine ⟨?_, ?_, ?_, ?_, ?_, ?_, ?_, ?_, ?_, ?_, ?_, ?_, ?_, ?_, ?_, ?_, ?_, ?_, ?_, ?_, ?_, ?_, ?_, ?_, ?_, ?_, ?_, ?_, ?_, ?_, ?_, ?_, ?_, ?_, ?_, ?_, ?_, ?_, trivial⟩
    · intro L a w c
      refine .inl ⟨Rel.wanted_free (by kernel_rfl) _, ?_⟩
      exact Rel.wp_mv _ rfl ⟨_, rfl, Rel.gr_refl _, (c.old 4 (v := .int .i64 0) (by kernel_rfl) (by kernel_rfl)), c.inv⟩
    · intro L a w c
      refine .inl ⟨Rel.wanted_free (by kernel_rfl) _, ?_⟩
      exact Rel.wp_bo _ _ _ _ _ rfl (u := .bool true) (c.get 0 34 (by kernel_rfl)) rfl (by simp [go_sem]) ⟨_, rfl, Rel.gr_refl _, rfl, c.inv⟩
    · intro L a w c
      refine .inl ⟨Rel.wanted_free (by kernel_rfl) _, ?_⟩
      exact Rel.wp_mv _ rfl ⟨_, rfl, Rel.gr_refl _, (c.get 1 35 (by kernel_rfl)), c.inv⟩
    · intro L a w c
      refine .inl ⟨Rel.wanted_by (j := 2) (b := true) (d := 36) (by kernel_rfl) (c.get 2 36 (by kernel_rfl)), ?_⟩
      exact Rel.wp_mv _ rfl ⟨_, rfl, Rel.gr_refl _, (c.old 5 (v := .int .i64 0) (by kernel_rfl) (by kernel_rfl)), c.inv⟩
    · intro L a w c
      refine .inl ⟨Rel.wanted_by (j := 2) (b := true) (d := 36) (by kernel_rfl) (c.get 2 36 (by kernel_rfl)), ?_⟩
      exact Rel.wp_bo _ _ _ _ _ rfl (u := .bool true) (c.get 3 37 (by kernel_rfl)) rfl (by simp [go_sem]) ⟨_, rfl, Rel.gr_refl _, rfl, c.inv⟩
    · intro L a w c
      refine .inl ⟨Rel.wanted_free (by kernel_rfl) _, ?_⟩
      exact Rel.wp_pk _ _ _ rfl (b := true) (c.get 2 36 (by kernel_rfl)) ⟨_, rfl, Rel.gr_refl _, (c.get 4 38 (by kernel_rfl)), c.inv⟩
    · intro L a w c
      refine .inl ⟨Rel.wanted_free (by kernel_rfl) _, ?_⟩
      exact Rel.wp_mv _ rfl ⟨_, rfl, Rel.gr_refl _, (c.get 5 39 (by kernel_rfl)), c.inv⟩
    · intro L a w c
      refine .inl ⟨Rel.wanted_by (j := 6) (b := true) (d := 40) (by kernel_rfl) (c.get 6 40 (by kernel_rfl)), ?_⟩
      exact Rel.wp_mv _ rfl ⟨_, rfl, Rel.gr_refl _, (c.old 6 (v := .int .i64 2) (by kernel_rfl) (by kernel_rfl)), c.inv⟩
    · intro L a w c
      refine .inl ⟨Rel.wanted_by (j := 6) (b := true) (d := 40) (by kernel_rfl) (c.get 6 40 (by kernel_rfl)), ?_⟩
      exact Rel.wp_bo _ _ _ _ _ rfl (u := .bool true) (c.get 7 41 (by kernel_rfl)) rfl (by simp [go_sem]) ⟨_, rfl, Rel.gr_refl _, rfl, c.inv⟩
    · intro L a w c
      refine .inl ⟨Rel.wanted_free (by kernel_rfl) _, ?_⟩
      exact Rel.wp_pk _ _ _ rfl (b := true) (c.get 6 40 (by kernel_rfl)) ⟨_, rfl, Rel.gr_refl _, (c.get 8 42 (by kernel_rfl)), c.inv⟩
    · intro L a w c
      refine .inl ⟨Rel.wanted_free (by kernel_rfl) _, ?_⟩
      exact Rel.wp_mv _ rfl ⟨_, rfl, Rel.gr_refl _, (c.get 9 43 (by kernel_rfl)), c.inv⟩
    · intro L a w c
      refine .inl ⟨Rel.wanted_by (j := 10) (b := true) (d := 44) (by kernel_rfl) (c.get 10 44 (by kernel_rfl)), ?_⟩
      exact Rel.wp_mv _ rfl ⟨_, rfl, Rel.gr_refl _, (c.old 7 (v := .slice a1 32 c1) (by kernel_rfl) (by kernel_rfl)), c.inv⟩
    · intro L a w c
      refine .inl ⟨Rel.wanted_by (j := 10) (b := true) (d := 44) (by kernel_rfl) (c.get 10 44 (by kernel_rfl)), ?_⟩
      exact Rel.wp_cv _ _ _ rfl (c.get 11 45 (by kernel_rfl)) (KC.out w _ _ _ _ (secB_len 9) HN1.out (row_keep encB_len HR1.out c.inv)) ⟨_, rfl, Rel.gr_refl _, rfl, c.inv⟩
    · intro L a w c
      refine .inl ⟨Rel.wanted_by (j := 10) (b := true) (d := 44) (by kernel_rfl) (c.get 10 44 (by kernel_rfl)), ?_⟩
      exact Rel.wp_mv _ rfl ⟨_, rfl, Rel.gr_refl _, (c.old 3 (v := .slice (some ⟨g9, 0, none⟩) 32 32) (by kernel_rfl) (by kernel_rfl)), c.inv⟩
    · intro L a w c
      refine .inl ⟨Rel.wanted_by (j := 10) (b := true) (d := 44) (by kernel_rfl) (c.get 10 44 (by kernel_rfl)), ?_⟩
      exact Rel.wp_cv _ _ _ rfl (c.get 13 47 (by kernel_rfl)) (KC.out w _ _ _ _ (secB_len 9) (fun h => by cases h) (row_keep encB_len HR9.out c.inv)) ⟨_, rfl, Rel.gr_refl _, rfl, c.inv⟩
    · intro L a w c
      refine .inl ⟨Rel.wanted_by (j := 10) (b := true) (d := 44) (by kernel_rfl) (c.get 10 44 (by kernel_rfl)), ?_⟩
      exact Rel.wp_bo _ _ _ _ _ rfl (u := .bool true) (c.get 12 46 (by kernel_rfl)) (c.get 14 48 (by kernel_rfl)) (by simp [go_sem]) ⟨_, rfl, Rel.gr_refl _, rfl, c.inv⟩
    · intro L a w c
      refine .inl ⟨Rel.wanted_free (by kernel_rfl) _, ?_⟩
      exact Rel.wp_pk _ _ _ rfl (b := true) (c.get 10 44 (by kernel_rfl)) ⟨_, rfl, Rel.gr_refl _, (c.get 15 49 (by kernel_rfl)), c.inv⟩
    · intro L a w c
      refine .inl ⟨Rel.wanted_free (by kernel_rfl) _, ?_⟩
      exact Rel.wp_mv _ rfl ⟨_, rfl, Rel.gr_refl _, (c.get 16 50 (by kernel_rfl)), c.inv⟩
    · intro L a w c
      refine .inl ⟨Rel.wanted_by (j := 17) (b := true) (d := 51) (by kernel_rfl) (c.get 17 51 (by kernel_rfl)), ?_⟩
      exact Rel.wp_mv _ rfl ⟨_, rfl, Rel.gr_refl _, (c.old 8 (v := .int .i64 0) (by kernel_rfl) (by kernel_rfl)), c.inv⟩
    · intro L a w c
      refine .inl ⟨Rel.wanted_by (j := 17) (b := true) (d := 51) (by kernel_rfl) (c.get 17 51 (by kernel_rfl)), ?_⟩
      exact Rel.wp_bo _ _ _ _ _ rfl (u := .bool true) (c.get 18 52 (by kernel_rfl)) rfl (by simp [go_sem]) ⟨_, rfl, Rel.gr_refl _, rfl, c.inv⟩
    · intro L a w c
      refine .inl ⟨Rel.wanted_free (by kernel_rfl) _, ?_⟩
      exact Rel.wp_pk _ _ _ rfl (b := true) (c.get 17 51 (by kernel_rfl)) ⟨_, rfl, Rel.gr_refl _, (c.get 19 53 (by kernel_rfl)), c.inv⟩
    · intro L a w c
      refine .inl ⟨Rel.wanted_free (by kernel_rfl) _, ?_⟩
      exact Rel.wp_mv _ rfl ⟨_, rfl, Rel.gr_refl _, (c.get 20 54 (by kernel_rfl)), c.inv⟩
    · intro L a w c
      refine .inl ⟨Rel.wanted_by (j := 21) (b := true) (d := 55) (by kernel_rfl) (c.get 21 55 (by kernel_rfl)), ?_⟩
      exact Rel.wp_mv _ rfl ⟨_, rfl, Rel.gr_refl _, (c.old 9 (v := .slice a3 32 c3) (by kernel_rfl) (by kernel_rfl)), c.inv⟩
    · intro L a w c
      refine .inl ⟨Rel.wanted_by (j := 21) (b := true) (d := 55) (by kernel_rfl) (c.get 21 55 (by kernel_rfl)), ?_⟩
      exact Rel.wp_cv _ _ _ rfl (c.get 22 56 (by kernel_rfl)) (KC.out w _ _ _ _ (secB_len 0) HN3.out (row_keep encB_len HR3.out c.inv)) ⟨_, rfl, Rel.gr_refl _, rfl, c.inv⟩
    · intro L a w c
      refine .inl ⟨Rel.wanted_by (j := 21) (b := true) (d := 55) (by kernel_rfl) (c.get 21 55 (by kernel_rfl)), ?_⟩
      refine Rel.wp_cl _ _ _ rfl Try.func20 (by kernel_rfl) ?_
      show Calls _ _ #[.int .u8 0] w _
      refine (sector_any 0 w).mono ?_
      rintro e w' ⟨g, rfl, ho, hb⟩
      exact ⟨_, rfl, _, rfl, hb, ⟨_, _, _, rfl, secB_len 0, (fun h => by cases h), own_row' ho⟩, below_keep c.inv hb⟩
    · intro L a w c
      refine .inl ⟨Rel.wanted_by (j := 21) (b := true) (d := 55) (by kernel_rfl) (c.get 21 55 (by kernel_rfl)), ?_⟩
      obtain ⟨aa, nn, cc, e, hl', hn', hr'⟩ := (c.get 24 58 (by kernel_rfl))
      exact Rel.wp_cv _ _ _ rfl e (KC.out w aa nn cc _ hl' hn' hr') ⟨_, rfl, Rel.gr_refl _, rfl, c.inv⟩
    · intro L a w c
      refine .inl ⟨Rel.wanted_by (j := 21) (b := true) (d := 55) (by kernel_rfl) (c.get 21 55 (by kernel_rfl)), ?_⟩
      exact Rel.wp_bo _ _ _ _ _ rfl (u := .bool true) (c.get 23 57 (by kernel_rfl)) (c.get 25 59 (by kernel_rfl)) (by simp [go_sem]) ⟨_, rfl, Rel.gr_refl _, rfl, c.inv⟩
    · intro L a w c
      refine .inl ⟨Rel.wanted_free (by kernel_rfl) _, ?_⟩
      exact Rel.wp_pk _ _ _ rfl (b := true) (c.get 21 55 (by kernel_rfl)) ⟨_, rfl, Rel.gr_refl _, (c.get 26 60 (by kernel_rfl)), c.inv⟩
    · intro L a w c
      refine .inl ⟨Rel.wanted_free (by kernel_rfl) _, ?_⟩
      exact Rel.wp_mv _ rfl ⟨_, rfl, Rel.gr_refl _, (c.get 27 61 (by kernel_rfl)), c.inv⟩
    · intro L a w c
      refine .inl ⟨Rel.wanted_by (j := 28) (b := true) (d := 62) (by kernel_rfl) (c.get 28 62 (by kernel_rfl)), ?_⟩
      exact Rel.wp_mv _ rfl ⟨_, rfl, Rel.gr_refl _, (c.old 10 (v := .int .i64 0) (by kernel_rfl) (by kernel_rfl)), c.inv⟩
    · intro L a w c
      refine .inl ⟨Rel.wanted_by (j := 28) (b := true) (d := 62) (by kernel_rfl) (c.get 28 62 (by kernel_rfl)), ?_⟩
      exact Rel.wp_bo _ _ _ _ _ rfl (u := .bool true) (c.get 29 63 (by kernel_rfl)) rfl (by simp [go_sem]) ⟨_, rfl, Rel.gr_refl _, rfl, c.inv⟩
    · intro L a w c
      refine .inl ⟨Rel.wanted_free (by kernel_rfl) _, ?_⟩
      exact Rel.wp_pk _ _ _ rfl (b := true) (c.get 28 62 (by kernel_rfl)) ⟨_, rfl, Rel.gr_refl _, (c.get 30 64 (by kernel_rfl)), c.inv⟩
    · intro L a w c
      refine .inl ⟨Rel.wanted_free (by kernel_rfl) _, ?_⟩
      exact Rel.wp_mv _ rfl ⟨_, rfl, Rel.gr_refl _, (c.get 31 65 (by kernel_rfl)), c.inv⟩
    · intro L a w c
      refine .inl ⟨Rel.wanted_by (j := 32) (b := true) (d := 66) (by kernel_rfl) (c.get 32 66 (by kernel_rfl)), ?_⟩
      exact Rel.wp_mv _ rfl ⟨_, rfl, Rel.gr_refl _, (c.old 1 (v := .pointer (some ⟨p, 0, none⟩)) (by kernel_rfl) (by kernel_rfl)), c.inv⟩
    · intro L a w c
      refine .inl ⟨Rel.wanted_by (j := 32) (b := true) (d := 66) (by kernel_rfl) (c.get 32 66 (by kernel_rfl)), ?_⟩
      refine Rel.wp_cl _ _ _ rfl Try.func21 (by kernel_rfl) ?_
      show Calls _ _ #[Rel.slot a 67] w _
      rw [show Rel.slot a 67 = .pointer (some ⟨p, 0, none⟩) from (c.get 33 67 (by kernel_rfl))]
      refine (hD.size (hD.chg H8.out (new_chg c.inv (fun _ => False)) (fun _ _ => id))).mono ?_
      rintro e w' ⟨rfl, hb⟩
      exact ⟨_, rfl, _, rfl, hb, congrArg (fun n : Nat => Value.int .i64 n) HS.out.2.2.2, below_keep c.inv hb⟩
    · intro L a w c
      refine .inl ⟨Rel.wanted_by (j := 32) (b := true) (d := 66) (by kernel_rfl) (c.get 32 66 (by kernel_rfl)), ?_⟩
      exact Rel.wp_bo _ _ _ _ _ rfl (u := .bool true) (c.get 34 68 (by kernel_rfl)) rfl (by simp [go_sem]) ⟨_, rfl, Rel.gr_refl _, rfl, c.inv⟩
    · intro L a w c
      refine .inl ⟨Rel.wanted_free (by kernel_rfl) _, ?_⟩
      exact Rel.wp_pk _ _ _ rfl (b := true) (c.get 32 66 (by kernel_rfl)) ⟨_, rfl, Rel.gr_refl _, (c.get 35 69 (by kernel_rfl)), c.inv⟩
    · intro L a w c
      refine .inl ⟨Rel.wanted_free (by kernel_rfl) _, ?_⟩
      exact Rel.wp_as _ rfl ⟨_, rfl, Rel.gr_refl _, (c.get 36 70 (by kernel_rfl)), c.inv⟩
  · intro a w hbase hroom hdef hJ hV
    have e0 := hV 37 _ _ rfl rfl
    obtain ⟨tm, df⟩ := a
    simp only at hdef
    subst hdef
    go_wp2
    refine bodyPost_ret (results_tmp rfl _ _ _) rfl ?_
    exact ⟨congrArg _ e0, below_keep HB8.out hJ⟩
end Go.Proofs.Ytpbegchaneppfaa.Dsk
