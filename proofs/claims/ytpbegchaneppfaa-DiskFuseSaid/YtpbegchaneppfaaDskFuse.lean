/- Disk: DiskFuse, over any disk that does as it should. -/
import Derived.Test.YtpbegchaneppfaaDskOne
namespace Go.Proofs.Ytpbegchaneppfaa.Dsk
open Go.RowKit
open Go.Sort
open Kit
open Oct
open Foot
set_option linter.unusedVariables false
variable {D : World → (Nat → Prop) → Nat → DS → Prop}

theorem flush_cases {s : DS} (ok : s.Ok) (hf : 0 ≤ s.fuse) : (s.flush = (10, s) ∧ s.fuse = 0) ∨ ∃ s1, s.flush = (0, s1) ∧ 0 < s.fuse ∧ s1.fuse = s.fuse - 1 ∧ s1.good.length = s.good.length ∧ ∀ i, s1.read i = s.read i := by
  by_cases h : s.fuse = 0
  · exact .inl ⟨by unfold DS.flush; rw [if_pos h], h⟩
  · refine .inr ⟨_, by unfold DS.flush; rw [if_neg h], by omega, by show burnt s.fuse = _; unfold burnt; rw [if_pos (by omega)], ok.len, fun i => ?_⟩
    unfold DS.read
    simp only [ok.len]
theorem write_cases (s : DS) (i : Int) (b : Sec) (hf : 0 ≤ s.fuse) : s.write i b = (1, s) ∨ (s.write i b = (10, s) ∧ s.fuse = 0) ∨ ∃ s1, s.write i b = (0, s1) ∧ 0 < s.fuse ∧ s1.fuse = s.fuse - 1 ∧ s1.good.length = s.good.length := by
  unfold DS.write
  split
  · exact .inl rfl
  · split
    · rename_i h; exact .inr (.inl ⟨rfl, h⟩)
    · rename_i h; exact .inr (.inr ⟨_, rfl, by omega, by show burnt s.fuse = _; unfold burnt; rw [if_pos (by omega)], rfl⟩)
/-- What an act has come to. -/
def Came (N : Int) (s s' : DS) (t : Int) (f : Nat) (e : Int) : Prop := s'.good.length = 8 ∧ (f : Int) ≤ N ∧ ((e = 0 ∧ s'.fuse = N - (f + 1) ∧ (f : Int) + 1 ≤ N) ∨ (e = 1 ∧ s'.fuse = N - f ∧ s'.read t = s.read t) ∨ (e = 10 ∧ s'.fuse = N - f ∧ (f : Int) = N ∧ s'.read t = s.read t))

/-- The flush was refused, and then a write. -/
theorem came_10 {N : Int} {s : DS} {f : Nat} (t : Int) (b : Sec) (hfu : s.fuse = N - f) (hz : s.fuse = 0) (hg : s.good.length = 8) (hN : (f : Int) ≤ N) : Came N s (s.write t b).2 t f (s.write t b).1 := by
  rcases write_cases s t b (by omega) with e | ⟨e, _⟩ | ⟨s1, e, h1, h2, h3⟩
  · rw [e]; exact ⟨hg, hN, .inr (.inl ⟨rfl, hfu, rfl⟩)⟩
  · rw [e]; exact ⟨hg, hN, .inr (.inr ⟨rfl, hfu, by omega, rfl⟩)⟩
  · omega
/-- The flush was done, and then a write. -/
theorem came_0 {N : Int} {s s3 : DS} {f : Nat} (t : Int) (b : Sec) (hfu : s.fuse = N - f) (hp : 0 < s.fuse) (h1 : s3.fuse = s.fuse - 1) (h2 : s3.good.length = s.good.length) (h3 : ∀ i, s3.read i = s.read i) (hg : s.good.length = 8) : Came N s (s3.write t b).2 t (f + 1) (s3.write t b).1 := by
  rcases write_cases s3 t b (by omega) with e | ⟨e, hz⟩ | ⟨s4, e, h4, h5, h6⟩
  · rw [e]; show Came N s s3 t (f + 1) 1; exact ⟨by omega, by omega, .inr (.inl ⟨rfl, by omega, h3 t⟩)⟩
  · rw [e]; show Came N s s3 t (f + 1) 10; exact ⟨by omega, by omega, .inr (.inr ⟨rfl, by omega, by omega, h3 t⟩)⟩
  · rw [e]; show Came N s s4 t (f + 1) 0; exact ⟨by omega, by omega, .inl ⟨rfl, by omega, by omega⟩⟩

theorem flush_unfused {s : DS} (h : s.fuse = -1) : s.flush = (0, s.flush.2) := by
  unfold DS.flush
  rw [if_neg (by omega)]
/-- Behind a crash a write and a flush are done. -/
theorem crash_then {s : DS} (hg : s.good.length = 8) (hf : s.fuse = -1) : ∃ s5 s6, s.write 0 (secB 1) = (0, s5) ∧ s5.flush = (0, s6) := by
  have hw : s.write 0 (secB 1) = (0, { good := s.good, now := s.now.set 0 (secB 1), order := if 0 ∈ s.order then s.order else s.order ++ [0], fuse := -1 }) := by
    unfold DS.write
    rw [if_neg (by simp only [Decidable.not_not]; exact ⟨⟨by omega, by omega⟩, secB_len 1⟩), if_neg (by omega), hf]
    rfl
  exact ⟨_, _, hw, flush_unfused rfl⟩

set_option maxRecDepth 100000 in
set_option maxHeartbeats 4000000 in
theorem fuse_any (hD : Prog D) (n : Nat) (hn : n < 256) (aa : Option Addr) (len cap : Nat) (l : List Ac) (hl : l.length = len) (hc : cap ≤ maxLen) (hlc : len ≤ cap) (hnn : aa = none → len = 0 ∧ cap = 0) (W : World) (hE : Kit.Row encAc 5 W aa l) (hx : ∀ x ∈ l, x.wf) :
    Calls Try.prog 6 #[.int .u8 (n : Int), .slice aa len cap] W fun e w' => e = .returned (.bool true) ∧ Below W.heap.size W w' := by
  subst hl
  have hmax : l.length ≤ 9223372036854775807 := by unfold maxLen at hc; omega
  have HE := Lib.hid hE
  have HX := Lib.hid hx
  have HN := Lib.hid hnn
  have KC := Lib.hid kcRow
  clear hE hx hc hlc hnn
  go_enter Try.func6, Try.ntmps6
  go_wp2_with fail
  refine (hD.new 8 W (by omega) (by omega)).mono ?_
  rintro e w1 ⟨p, rfl, hd, hb⟩
  have h1 : OneF D W.heap.size w1 (More (fun _ => False) W w1) p (DS.new 8) := ⟨hd, fun k hk => hk.elim (fun h => h.elim) id⟩
  generalize More (fun _ => False) W w1 = F1 at h1
  have H1 := Lib.hid (And.intro h1 hb)
  clear h1 hd hb
  go_wp2_with fail
  refine (hD.fuse H1.out.1.d (fun k hk => (H1.out.1.lt k hk).2) ((n : Int) % 30) ⟨by omega, by omega⟩).mono ?_
  rw [show nf ((n : Int) % 30) = (n : Int) % 30 by unfold nf; rw [if_neg (by omega)]]
  rintro e w2 ⟨rfl, hd, hC⟩
  have h2 := one_more hD H1.out.1 hd hC H1.out.2.size
  have hg : ({ DS.new 8 with fuse := (n : Int) % 30 } : DS).good.length = 8 := by kernel_rfl
  have hfz : ({ DS.new 8 with fuse := (n : Int) % 30 } : DS).fuse = (n : Int) % 30 - (0 : Nat) := by show (n : Int) % 30 = _; omega
  generalize ({ DS.new 8 with fuse := (n : Int) % 30 } : DS) = s0 at h2 hg hfz
  generalize More F1 w1 w2 = F2 at h2
  have H2 := Lib.hid (And.intro h2 (And.intro (H1.out.2.trans (one_below H1.out.1 hC H1.out.2.size)) (And.intro hg hfz)))
  clear h2 hd hC hg hfz H1
  go_wp2_with fail
  go_loopw [6, 7] (fun fv iv wx => ∃ (k f : Nat) (s : DS) (F : Nat → Prop), k ≤ l.length ∧ k ≤ 50 ∧ iv = .int .i64 k ∧ fv = .int .i64 f ∧ OneF D W.heap.size wx F p s ∧ Below W.heap.size W wx ∧ s.good.length = 8 ∧ s.fuse = (n : Int) % 30 - f ∧ (f : Int) ≤ (n : Int) % 30) (fun _ iv _ => l.length - (intOf iv).toNat)
  case atStart => exact ⟨0, 0, _, _, Nat.zero_le _, by omega, rfl, rfl, H2.out.1, H2.out.2.1, H2.out.2.2.1, H2.out.2.2.2, by omega⟩
  case round =>
    obtain ⟨k, f, s, F, hk, hk50, rfl, rfl, hone, hb, hgl, hfu, hfN⟩ := hrel
    have hf40 : f ≤ 40 := by omega
    have HR := Lib.hid (And.intro hone (And.intro hb (And.intro hgl hfu)))
    clear hone hb hgl hfu
    by_cases hlt : k < l.length ∧ k < 50
    · obtain ⟨hkl, hk5⟩ := hlt
      have hE := row_keep encAc_len HE.out HR.out.2.1
      obtain ⟨ab, ao, rfl⟩ := row_some hE hkl
      obtain ⟨q0, q1, q2, q3, q4⟩ := act_cells hE hkl
      have HCell := Lib.hid (fun (w : World) (hb : Below W.heap.size W w) => act_cells (row_keep encAc_len HE.out hb) hkl)
      have hxk := HX.out l[k] (List.getElem_mem hkl)
      generalize l[k] = x at *
      have HXk := Lib.hid hxk
      have c50 : (k : Int) < 50 := by omega
      clear hE hxk
      go_wp2_with fail
      refine (hD.read HR.out.1.d x.at' HXk.out.1).mono ?_
      rintro e w3 ⟨v, rfl, ho, hb⟩
      obtain ⟨a8, c8, rfl, hn8, hfar⟩ := far_own ho (fun k hk => (HR.out.1.lt k hk).2)
      have H4 := Lib.hid (And.intro (one_keep hD HR.out.1 hb) (And.intro (below_keep HR.out.2.1 hb) hfar))
      have HN8 := Lib.hid hn8
      clear ho hb hn8 hfar q0 q1 q2 q3 q4
      simp only []
      go_wp2_with fail
      refine (hD.flush H4.out.1.d (fun k hk => (H4.out.1.lt k hk).2)).mono ?_
      rintro e wq ⟨rfl, hd, hC⟩
      have h3 := one_more hD H4.out.1 hd hC H4.out.2.1.size
      have hfar3 := far_chg H4.out.2.2 hC
      have hB3 := H4.out.2.1.trans (one_below H4.out.1 hC H4.out.2.1.size)
      generalize More F w3 wq = F3 at h3 hfar3
      clear hd hC
      have hab : ab < W.heap.size := World.block_lt_of_cell? W _ (HCell.out W (Below.refl _ _)).1
      have HAb : Hid (¬ F3 ab) := Lib.hid fun h => by have := (h3.lt _ h).1; omega
      obtain ⟨q0, q1, q2, _, _⟩ := HCell.out wq hB3
      have HQ := Lib.hid (And.intro q1 q2)
      have hok := hD.ok H4.out.1.d
      have hfu := HR.out.2.2.2
      have hgl := HR.out.2.2.1
      have hcs := flush_cases hok (by omega)
      have HF3 := Lib.hid hfar3
      clear hok hab q1 q2 hfar3
      go_upto_if 47 with fail
      go_cut [6, 10] (fun fv ev wx => ∃ (f' : Nat) (e : Int) (s' : DS) (F' : Nat → Prop), fv = .int .i64 f' ∧ ev = .int .i64 e ∧ OneF D W.heap.size wx F' p s' ∧ Below W.heap.size W wx ∧ Far F' wx a8 (s.read x.at').1 ∧ Came ((n : Int) % 30) s s' x.at' f' e)
      case first =>
        rcases hcs with ⟨e1, hz⟩ | ⟨s3, e1, hpos, hs3, hg3, hr3⟩
        · rw [e1] at h3
          rw [e1]
          obtain ⟨s3, hs3⟩ : ∃ s3 : DS, s3 = s := ⟨_, rfl⟩
          replace h3 : OneF D W.heap.size wq F3 p s3 := by rw [hs3]; exact h3
          have H3 := Lib.hid (And.intro h3 (And.intro hB3 (And.intro hs3 (And.intro hz (And.intro hfu (And.intro hgl hfN))))))
          clear h3 hB3 e1 hs3 hz hfu hgl hfN
          by_cases h4 : x.d.toNat % 4 = 0
          · have hq : (x.d.toNat : Int) % 4 = 0 := by omega
            clear h4
            go_wp2_with fail
            go_meet
            case rel =>
              obtain ⟨h3, hB3, rfl, hz, hfu, hgl, hfN⟩ := H3.out
              exact ⟨f, 10, s3, F3, rfl, rfl, h3, hB3, HF3.out, hgl, hfN, .inr (.inr ⟨rfl, hfu, by omega, rfl⟩)⟩
          · have hq : 0 < (x.d.toNat : Int) % 4 := by omega
            clear h4
            go_wp2_with fail
            refine Rel.wp_region_rel (G := Chg F3) (Rel.tab [.is (.pointer (some ⟨p, 0, none⟩)), .is (.slice (some ⟨ab, ao, none⟩) l.length cap), .is (.int .i64 k), .is (.pointer (some ⟨ab, ao + k * 5, none⟩)), .is (.pointer (some ⟨ab, ao + k * 5 + 1, none⟩)), .is (.int .i64 x.at'), .is (.slice (some ⟨ab, ao, none⟩) l.length cap), .is (.int .i64 k), .is (.pointer (some ⟨ab, ao + k * 5, none⟩)), .is (.pointer (some ⟨ab, ao + k * 5 + 2, none⟩)), .is (.int .u8 (x.c.toNat : Int)), kMd F3 (secB x.c), .is (.int .i64 (s3.write x.at' (secB x.c)).1), .is (.int .i64 (s3.write x.at' (secB x.c)).1)]) (J1 D W.heap.size wq F3 p s3 (s3.write x.at' (secB x.c)).2 12) (by kernel_rfl) (by kernel_rfl) (by kernel_rfl) (by kernel_rfl) (fun w => chg_refl _ _) (j1_start hD H3.out.1) ?_ ?_
            · refine ⟨?_, ?_, ?_, ?_, ?_, ?_, ?_, ?_, ?_, ?_, ?_, ?_, ?_, ?_, trivial⟩
              · intro L a w c
                refine .inl ⟨Rel.wanted_free (by kernel_rfl) _, ?_⟩
                exact Rel.wp_mv _ rfl ⟨_, rfl, chg_refl _ _, (c.old 5 (v := .pointer (some ⟨p, 0, none⟩)) (by kernel_rfl) (by kernel_rfl)), (j1_set c.inv (by decide))⟩
              · intro L a w c
                refine .inl ⟨Rel.wanted_free (by kernel_rfl) _, ?_⟩
                exact Rel.wp_mv _ rfl ⟨_, rfl, chg_refl _ _, (c.old 1 (v := .slice (some ⟨ab, ao, none⟩) l.length cap) (by kernel_rfl) (by kernel_rfl)), (j1_set c.inv (by decide))⟩
              · intro L a w c
                refine .inl ⟨Rel.wanted_free (by kernel_rfl) _, ?_⟩
                exact Rel.wp_mv _ rfl ⟨_, rfl, chg_refl _ _, (c.old 7 (v := .int .i64 k) (by kernel_rfl) (by kernel_rfl)), (j1_set c.inv (by decide))⟩
              · intro L a w c
                refine .inl ⟨Rel.wanted_free (by kernel_rfl) _, ?_⟩
                exact Rel.wp_ia _ _ _ rfl (c.get 1 53 (by kernel_rfl)) (c.get 2 54 (by kernel_rfl)) (run_at_acts ab ao _ cap k hkl w) ⟨_, rfl, chg_refl _ _, rfl, j1_set c.inv (by decide)⟩
              · intro L a w c
                refine .inl ⟨Rel.wanted_free (by kernel_rfl) _, ?_⟩
                exact Chn.wp_fa _ _ _ rfl (c.get 3 55 (by kernel_rfl)) (by simp [go_sem]) ⟨_, rfl, chg_refl _ _, rfl, (j1_set c.inv (by decide))⟩
              · intro L a w c
                refine .inl ⟨Rel.wanted_free (by kernel_rfl) _, ?_⟩
                exact Rel.wp_ld _ _ rfl (c.get 4 56 (by kernel_rfl)) (run_ld_i (cell_chg c.inv.1 HQ.out.1 HAb.out)) ⟨_, rfl, chg_refl _ _, rfl, (j1_set c.inv (by decide))⟩
              · intro L a w c
                refine .inl ⟨Rel.wanted_free (by kernel_rfl) _, ?_⟩
                exact Rel.wp_mv _ rfl ⟨_, rfl, chg_refl _ _, (c.old 1 (v := .slice (some ⟨ab, ao, none⟩) l.length cap) (by kernel_rfl) (by kernel_rfl)), (j1_set c.inv (by decide))⟩
              · intro L a w c
                refine .inl ⟨Rel.wanted_free (by kernel_rfl) _, ?_⟩
                exact Rel.wp_mv _ rfl ⟨_, rfl, chg_refl _ _, (c.old 7 (v := .int .i64 k) (by kernel_rfl) (by kernel_rfl)), (j1_set c.inv (by decide))⟩
              · intro L a w c
                refine .inl ⟨Rel.wanted_free (by kernel_rfl) _, ?_⟩
                exact Rel.wp_ia _ _ _ rfl (c.get 6 58 (by kernel_rfl)) (c.get 7 59 (by kernel_rfl)) (run_at_acts ab ao _ cap k hkl w) ⟨_, rfl, chg_refl _ _, rfl, j1_set c.inv (by decide)⟩
              · intro L a w c
                refine .inl ⟨Rel.wanted_free (by kernel_rfl) _, ?_⟩
                exact Chn.wp_fa _ _ _ rfl (c.get 8 60 (by kernel_rfl)) (by simp [go_sem]) ⟨_, rfl, chg_refl _ _, rfl, (j1_set c.inv (by decide))⟩
              · intro L a w c
                refine .inl ⟨Rel.wanted_free (by kernel_rfl) _, ?_⟩
                exact Rel.wp_ld _ _ rfl (c.get 9 61 (by kernel_rfl)) (run_ld_u8 (cell_chg c.inv.1 HQ.out.2 HAb.out)) ⟨_, rfl, chg_refl _ _, rfl, (j1_set c.inv (by decide))⟩
              · intro L a w c
                refine .inl ⟨Rel.wanted_free (by kernel_rfl) _, ?_⟩
                refine Rel.wp_cl _ _ _ rfl Try.func20 (by kernel_rfl) ?_
                show Calls _ _ #[Rel.slot a 62] w _
                rw [show Rel.slot a 62 = .int .u8 (x.c.toNat : Int) from (c.get 10 62 (by kernel_rfl))]
                refine (sector_any x.c w).mono ?_
                rintro e w' ⟨g, rfl, ho, hb⟩
                exact ⟨_, rfl, _, rfl, new_chg hb _, kmd_of (secB_len _).symm ho (j1_lt c.inv (fun k hk => (H3.out.1.lt k hk).2)), j1_set (j1_keep hD c.inv hb) (by decide)⟩
              · intro L a w c
                refine .inl ⟨Rel.wanted_free (by kernel_rfl) _, ?_⟩
                obtain ⟨g, eg, hrow, hnf⟩ := c.get 11 63 (by kernel_rfl)
                refine Rel.wp_cl _ _ _ rfl Try.func13 (by kernel_rfl) ?_
                show Calls _ _ #[Rel.slot a 52, Rel.slot a 57, Rel.slot a 63] w _
                rw [show Rel.slot a 52 = .pointer (some ⟨p, 0, none⟩) from (c.get 0 52 (by kernel_rfl)), show Rel.slot a 57 = .int .i64 x.at' from (c.get 5 57 (by kernel_rfl)), show Rel.slot a 63 = _ from eg]
                refine (hD.write (j1_first c.inv c.free).d (fun k hk => ((j1_first c.inv c.free).lt k hk).2) x.at' (some ⟨g, 0, none⟩) _ _ (secB x.c) HXk.out.1 rfl (Nat.le_refl _) (by rw [secB_len]; unfold maxLen; omega) (fun h => by cases h) hrow (fun q hq h => by injection hq with hq; subst hq; exact hnf h)).mono ?_
                rintro e w' ⟨rfl, h1, hC⟩
                exact ⟨_, rfl, _, rfl, hC, rfl, j1_first' hD c.inv c.free h1 hC H3.out.2.1.size⟩
              · intro L a w c
                refine .inl ⟨Rel.wanted_free (by kernel_rfl) _, ?_⟩
                exact Rel.wp_as _ rfl ⟨_, rfl, chg_refl _ _, (c.get 12 64 (by kernel_rfl)), (j1_set c.inv (by decide))⟩
            · intro a w hbase hroom hdef hJ hV
              have e10 := hV 13 _ _ rfl rfl
              obtain ⟨hCq, F', h2, hone⟩ := j1_end hJ (by decide)
              go_wp2_with fail
              refine Met.intro ?_
              go_step
              obtain ⟨h3, hB3, rfl, hz, hfu, hgl, hfN⟩ := H3.out
              have hw := came_10 x.at' (secB x.c) hfu hz hgl hfN
              exact ⟨Rel.slot a 6, Rel.slot a 10, Rel.slot a 19, Rel.slot a 20, Rel.slot a 21, Rel.slot a 22, Rel.slot a 23, Rel.slot a 24, Rel.slot a 25, Rel.slot a 26, Rel.slot a 27, Rel.slot a 28, Rel.slot a 29, Rel.slot a 30, Rel.slot a 31, Rel.slot a 32, Rel.slot a 33, Rel.slot a 34, Rel.slot a 35, Rel.slot a 36, Rel.slot a 37, Rel.slot a 38, Rel.slot a 39, Rel.slot a 40, Rel.slot a 41, Rel.slot a 42, Rel.slot a 43, Rel.slot a 44, Rel.slot a 45, Rel.slot a 46, Rel.slot a 47, Rel.slot a 48, Rel.slot a 49, Rel.slot a 50, Rel.slot a 51, Rel.slot a 52, Rel.slot a 53, Rel.slot a 54, Rel.slot a 55, Rel.slot a 56, Rel.slot a 57, Rel.slot a 58, Rel.slot a 59, Rel.slot a 60, Rel.slot a 61, Rel.slot a 62, Rel.slot a 63, Rel.slot a 64, Rel.slot a 65, Rel.slot a 66, Rel.slot a 67, Rel.slot a 68, Rel.slot a 69, Rel.slot a 70, Rel.slot a 71, Rel.slot a 72, Rel.slot a 73, Rel.slot a 74, Rel.slot a 75, Rel.slot a 76, Rel.slot a 77, Rel.slot a 78, Rel.slot a 79, Rel.slot a 80, Rel.slot a 81, Rel.slot a 82, Rel.slot a 83, Rel.slot a 84, Rel.slot a 85, Rel.slot a 86, Rel.slot a 87, Rel.slot a 88, Rel.slot a 89, Rel.slot a 90, Rel.slot a 91, Rel.slot a 92, Rel.slot a 93, Rel.slot a 94, Rel.slot a 95, Rel.slot a 96, Rel.slot a 97, Rel.slot a 98, Rel.slot a 99, Rel.slot a 100, Rel.slot a 101, Rel.slot a 102, Rel.slot a 103, ⟨f, _, _, F', hbase 6 (by kernel_rfl), e10, hone, hB3.trans (one_below h3 hCq hB3.size), far_end HF3.out hCq h2, hw⟩, (Rel.act_mix [6, 10, 19, 20, 21, 22, 23, 24, 25, 26, 27, 28, 29, 30, 31, 32, 33, 34, 35, 36, 37, 38, 39, 40, 41, 42, 43, 44, 45, 46, 47, 48, 49, 50, 51, 52, 53, 54, 55, 56, 57, 58, 59, 60, 61, 62, 63, 64, 65, 66, 67, 68, 69, 70, 71, 72, 73, 74, 75, 76, 77, 78, 79, 80, 81, 82, 83, 84, 85, 86, 87, 88, 89, 90, 91, 92, 93, 94, 95, 96, 97, 98, 99, 100, 101, 102, 103] hbase hroom hdef (by kernel_rfl)).trans (by kernel_rfl)⟩
        · rw [e1] at h3
          rw [e1]
          replace h3 : OneF D W.heap.size wq F3 p s3 := h3
          have H3 := Lib.hid (And.intro h3 (And.intro hB3 (And.intro hpos (And.intro hs3 (And.intro hg3 (And.intro hr3 (And.intro hfu (And.intro hgl hfN))))))))
          clear h3 hB3 e1 hpos hs3 hg3 hr3 hfu hgl hfN
          by_cases h4 : x.d.toNat % 4 = 0
          · have hq : (x.d.toNat : Int) % 4 = 0 := by omega
            clear h4
            go_wp2_with fail
            go_meet
            case rel =>
              obtain ⟨h3, hB3, hpos, hs3, hg3, hr3, hfu, hgl, hfN⟩ := H3.out
              exact ⟨f, 0, s3, F3, rfl, rfl, h3, hB3, HF3.out, by omega, hfN, .inl ⟨rfl, by omega, by omega⟩⟩
          · have hq : 0 < (x.d.toNat : Int) % 4 := by omega
            clear h4
            go_wp2_with fail
            refine Rel.wp_region_rel (G := Chg F3) (Rel.tab [.is (.pointer (some ⟨p, 0, none⟩)), .is (.slice (some ⟨ab, ao, none⟩) l.length cap), .is (.int .i64 k), .is (.pointer (some ⟨ab, ao + k * 5, none⟩)), .is (.pointer (some ⟨ab, ao + k * 5 + 1, none⟩)), .is (.int .i64 x.at'), .is (.slice (some ⟨ab, ao, none⟩) l.length cap), .is (.int .i64 k), .is (.pointer (some ⟨ab, ao + k * 5, none⟩)), .is (.pointer (some ⟨ab, ao + k * 5 + 2, none⟩)), .is (.int .u8 (x.c.toNat : Int)), kMd F3 (secB x.c), .is (.int .i64 (s3.write x.at' (secB x.c)).1), .is (.int .i64 (s3.write x.at' (secB x.c)).1)]) (J1 D W.heap.size wq F3 p s3 (s3.write x.at' (secB x.c)).2 12) (by kernel_rfl) (by kernel_rfl) (by kernel_rfl) (by kernel_rfl) (fun w => chg_refl _ _) (j1_start hD H3.out.1) ?_ ?_
            · refine ⟨?_, ?_, ?_, ?_, ?_, ?_, ?_, ?_, ?_, ?_, ?_, ?_, ?_, ?_, trivial⟩
              · intro L a w c
                refine .inl ⟨Rel.wanted_free (by kernel_rfl) _, ?_⟩
                exact Rel.wp_mv _ rfl ⟨_, rfl, chg_refl _ _, (c.old 5 (v := .pointer (some ⟨p, 0, none⟩)) (by kernel_rfl) (by kernel_rfl)), (j1_set c.inv (by decide))⟩
              · intro L a w c
                refine .inl ⟨Rel.wanted_free (by kernel_rfl) _, ?_⟩
                exact Rel.wp_mv _ rfl ⟨_, rfl, chg_refl _ _, (c.old 1 (v := .slice (some ⟨ab, ao, none⟩) l.length cap) (by kernel_rfl) (by kernel_rfl)), (j1_set c.inv (by decide))⟩
              · intro L a w c
                refine .inl ⟨Rel.wanted_free (by kernel_rfl) _, ?_⟩
                exact Rel.wp_mv _ rfl ⟨_, rfl, chg_refl _ _, (c.old 7 (v := .int .i64 k) (by kernel_rfl) (by kernel_rfl)), (j1_set c.inv (by decide))⟩
              · intro L a w c
                refine .inl ⟨Rel.wanted_free (by kernel_rfl) _, ?_⟩
                exact Rel.wp_ia _ _ _ rfl (c.get 1 53 (by kernel_rfl)) (c.get 2 54 (by kernel_rfl)) (run_at_acts ab ao _ cap k hkl w) ⟨_, rfl, chg_refl _ _, rfl, j1_set c.inv (by decide)⟩
              · intro L a w c
                refine .inl ⟨Rel.wanted_free (by kernel_rfl) _, ?_⟩
                exact Chn.wp_fa _ _ _ rfl (c.get 3 55 (by kernel_rfl)) (by simp [go_sem]) ⟨_, rfl, chg_refl _ _, rfl, (j1_set c.inv (by decide))⟩
              · intro L a w c
                refine .inl ⟨Rel.wanted_free (by kernel_rfl) _, ?_⟩
                exact Rel.wp_ld _ _ rfl (c.get 4 56 (by kernel_rfl)) (run_ld_i (cell_chg c.inv.1 HQ.out.1 HAb.out)) ⟨_, rfl, chg_refl _ _, rfl, (j1_set c.inv (by decide))⟩
              · intro L a w c
                refine .inl ⟨Rel.wanted_free (by kernel_rfl) _, ?_⟩
                exact Rel.wp_mv _ rfl ⟨_, rfl, chg_refl _ _, (c.old 1 (v := .slice (some ⟨ab, ao, none⟩) l.length cap) (by kernel_rfl) (by kernel_rfl)), (j1_set c.inv (by decide))⟩
              · intro L a w c
                refine .inl ⟨Rel.wanted_free (by kernel_rfl) _, ?_⟩
                exact Rel.wp_mv _ rfl ⟨_, rfl, chg_refl _ _, (c.old 7 (v := .int .i64 k) (by kernel_rfl) (by kernel_rfl)), (j1_set c.inv (by decide))⟩
              · intro L a w c
                refine .inl ⟨Rel.wanted_free (by kernel_rfl) _, ?_⟩
                exact Rel.wp_ia _ _ _ rfl (c.get 6 58 (by kernel_rfl)) (c.get 7 59 (by kernel_rfl)) (run_at_acts ab ao _ cap k hkl w) ⟨_, rfl, chg_refl _ _, rfl, j1_set c.inv (by decide)⟩
              · intro L a w c
                refine .inl ⟨Rel.wanted_free (by kernel_rfl) _, ?_⟩
                exact Chn.wp_fa _ _ _ rfl (c.get 8 60 (by kernel_rfl)) (by simp [go_sem]) ⟨_, rfl, chg_refl _ _, rfl, (j1_set c.inv (by decide))⟩
              · intro L a w c
                refine .inl ⟨Rel.wanted_free (by kernel_rfl) _, ?_⟩
                exact Rel.wp_ld _ _ rfl (c.get 9 61 (by kernel_rfl)) (run_ld_u8 (cell_chg c.inv.1 HQ.out.2 HAb.out)) ⟨_, rfl, chg_refl _ _, rfl, (j1_set c.inv (by decide))⟩
              · intro L a w c
                refine .inl ⟨Rel.wanted_free (by kernel_rfl) _, ?_⟩
                refine Rel.wp_cl _ _ _ rfl Try.func20 (by kernel_rfl) ?_
                show Calls _ _ #[Rel.slot a 62] w _
                rw [show Rel.slot a 62 = .int .u8 (x.c.toNat : Int) from (c.get 10 62 (by kernel_rfl))]
                refine (sector_any x.c w).mono ?_
                rintro e w' ⟨g, rfl, ho, hb⟩
                exact ⟨_, rfl, _, rfl, new_chg hb _, kmd_of (secB_len _).symm ho (j1_lt c.inv (fun k hk => (H3.out.1.lt k hk).2)), j1_set (j1_keep hD c.inv hb) (by decide)⟩
              · intro L a w c
                refine .inl ⟨Rel.wanted_free (by kernel_rfl) _, ?_⟩
                obtain ⟨g, eg, hrow, hnf⟩ := c.get 11 63 (by kernel_rfl)
                refine Rel.wp_cl _ _ _ rfl Try.func13 (by kernel_rfl) ?_
                show Calls _ _ #[Rel.slot a 52, Rel.slot a 57, Rel.slot a 63] w _
                rw [show Rel.slot a 52 = .pointer (some ⟨p, 0, none⟩) from (c.get 0 52 (by kernel_rfl)), show Rel.slot a 57 = .int .i64 x.at' from (c.get 5 57 (by kernel_rfl)), show Rel.slot a 63 = _ from eg]
                refine (hD.write (j1_first c.inv c.free).d (fun k hk => ((j1_first c.inv c.free).lt k hk).2) x.at' (some ⟨g, 0, none⟩) _ _ (secB x.c) HXk.out.1 rfl (Nat.le_refl _) (by rw [secB_len]; unfold maxLen; omega) (fun h => by cases h) hrow (fun q hq h => by injection hq with hq; subst hq; exact hnf h)).mono ?_
                rintro e w' ⟨rfl, h1, hC⟩
                exact ⟨_, rfl, _, rfl, hC, rfl, j1_first' hD c.inv c.free h1 hC H3.out.2.1.size⟩
              · intro L a w c
                refine .inl ⟨Rel.wanted_free (by kernel_rfl) _, ?_⟩
                exact Rel.wp_as _ rfl ⟨_, rfl, chg_refl _ _, (c.get 12 64 (by kernel_rfl)), (j1_set c.inv (by decide))⟩
            · intro a w hbase hroom hdef hJ hV
              have e10 := hV 13 _ _ rfl rfl
              obtain ⟨hCq, F', h2, hone⟩ := j1_end hJ (by decide)
              go_wp2_with fail
              refine Met.intro ?_
              go_step
              obtain ⟨h3, hB3, hpos, hs3, hg3, hr3, hfu, hgl, hfN⟩ := H3.out
              have hw := came_0 x.at' (secB x.c) hfu hpos hs3 hg3 hr3 hgl
              exact ⟨Rel.slot a 6, Rel.slot a 10, Rel.slot a 19, Rel.slot a 20, Rel.slot a 21, Rel.slot a 22, Rel.slot a 23, Rel.slot a 24, Rel.slot a 25, Rel.slot a 26, Rel.slot a 27, Rel.slot a 28, Rel.slot a 29, Rel.slot a 30, Rel.slot a 31, Rel.slot a 32, Rel.slot a 33, Rel.slot a 34, Rel.slot a 35, Rel.slot a 36, Rel.slot a 37, Rel.slot a 38, Rel.slot a 39, Rel.slot a 40, Rel.slot a 41, Rel.slot a 42, Rel.slot a 43, Rel.slot a 44, Rel.slot a 45, Rel.slot a 46, Rel.slot a 47, Rel.slot a 48, Rel.slot a 49, Rel.slot a 50, Rel.slot a 51, Rel.slot a 52, Rel.slot a 53, Rel.slot a 54, Rel.slot a 55, Rel.slot a 56, Rel.slot a 57, Rel.slot a 58, Rel.slot a 59, Rel.slot a 60, Rel.slot a 61, Rel.slot a 62, Rel.slot a 63, Rel.slot a 64, Rel.slot a 65, Rel.slot a 66, Rel.slot a 67, Rel.slot a 68, Rel.slot a 69, Rel.slot a 70, Rel.slot a 71, Rel.slot a 72, Rel.slot a 73, Rel.slot a 74, Rel.slot a 75, Rel.slot a 76, Rel.slot a 77, Rel.slot a 78, Rel.slot a 79, Rel.slot a 80, Rel.slot a 81, Rel.slot a 82, Rel.slot a 83, Rel.slot a 84, Rel.slot a 85, Rel.slot a 86, Rel.slot a 87, Rel.slot a 88, Rel.slot a 89, Rel.slot a 90, Rel.slot a 91, Rel.slot a 92, Rel.slot a 93, Rel.slot a 94, Rel.slot a 95, Rel.slot a 96, Rel.slot a 97, Rel.slot a 98, Rel.slot a 99, Rel.slot a 100, Rel.slot a 101, Rel.slot a 102, Rel.slot a 103, ⟨f + 1, _, _, F', (hbase 6 (by kernel_rfl)).trans (show Value.int .i64 ((f : Int) + 1) = Value.int .i64 ((f + 1 : Nat) : Int) by simp), e10, hone, hB3.trans (one_below h3 hCq hB3.size), far_end HF3.out hCq h2, hw⟩, (Rel.act_mix [6, 10, 19, 20, 21, 22, 23, 24, 25, 26, 27, 28, 29, 30, 31, 32, 33, 34, 35, 36, 37, 38, 39, 40, 41, 42, 43, 44, 45, 46, 47, 48, 49, 50, 51, 52, 53, 54, 55, 56, 57, 58, 59, 60, 61, 62, 63, 64, 65, 66, 67, 68, 69, 70, 71, 72, 73, 74, 75, 76, 77, 78, 79, 80, 81, 82, 83, 84, 85, 86, 87, 88, 89, 90, 91, 92, 93, 94, 95, 96, 97, 98, 99, 100, 101, 102, 103] hbase hroom hdef (by kernel_rfl)).trans (by kernel_rfl)⟩
      case rest =>
        obtain ⟨f', e, s', F', rfl, rfl, hone, hb, hfar, hgl, hfN, hcase⟩ := hcut
        obtain ⟨q0, q1, _, _, _⟩ := HCell.out wc hb
        have H5 := Lib.hid (And.intro hone (And.intro hb (And.intro hfar (And.intro hgl (And.intro (show (f' : Int) ≤ (n : Int) % 30 from hfN) hcase)))))
        clear hone hb hfar hgl q0
        clear hfN hcs h3 hB3 hgl hfu
        have hf41 : f' ≤ 40 := by have := H5.out.2.2.2.2.1; omega
        rcases H5.out.2.2.2.2.2 with ⟨rfl, hs, hfl⟩ | ⟨rfl, hs, hsr⟩ | ⟨rfl, hs, hfe, hsr⟩
        · have HS := Lib.hid (And.intro hs hfl)
          clear hs hfl
          go_wp2_with fail
          refine (hD.read H5.out.1.d x.at' HXk.out.1).mono ?_
          rintro e w4 ⟨v, rfl, ho, hb⟩
          have H6 := Lib.hid (And.intro (one_keep hD H5.out.1 hb) (below_keep H5.out.2.1 hb))
          have hfl := HS.out.2
          clear ho hb q1
          go_wp2_with fail
          go_roundw
          case rel => exact ⟨k + 1, f' + 1, s', F', by omega, by omega, by go_num, by go_num, H6.out.1, H6.out.2, H5.out.2.2.2.1, by have := HS.out.1; omega, by omega⟩
          case measure => simp [intOf]; omega
        · have HS := Lib.hid hs
          have HSr := Lib.hid hsr
          clear hs hsr
          go_wp2_with fail
          refine (hD.read H5.out.1.d x.at' HXk.out.1).mono ?_
          rw [HSr.out]
          rintro e w4 ⟨v, rfl, ho, hb⟩
          obtain ⟨a11, c11, rfl, hn11, hfar11⟩ := far_own ho (fun k hk => (H5.out.1.lt k hk).2)
          have H6 := Lib.hid (And.intro (one_keep hD H5.out.1 hb) (below_keep H5.out.2.1 hb))
          have ca' := KC.out w4 a11 _ c11 _ rfl hn11 hfar11.row
          have cb' := KC.out w4 a8 _ c8 _ rfl HN8.out (far_keep H5.out.2.2.1 hb).row
          have hle := H5.out.2.2.2.2.1
          clear ho hb q1 hn11 hfar11
          go_wp2_with fail
          go_roundw
          case rel => exact ⟨k + 1, f', s', F', by omega, by omega, by go_num, rfl, H6.out.1, H6.out.2, H5.out.2.2.2.1, HS.out, by omega⟩
          case measure => simp [intOf]; omega
        · have HS := Lib.hid hs
          have HSr := Lib.hid hsr
          have hne : ((f' : Int) != (n : Int) % 30) = false := by rw [hfe]; simp
          clear hs hsr
          go_wp2_with fail
          refine (hD.read H5.out.1.d x.at' HXk.out.1).mono ?_
          rw [HSr.out]
          rintro e w4 ⟨v, rfl, ho, hb⟩
          obtain ⟨a11, c11, rfl, hn11, hfar11⟩ := far_own ho (fun k hk => (H5.out.1.lt k hk).2)
          have H6 := Lib.hid (And.intro (one_keep hD H5.out.1 hb) (below_keep H5.out.2.1 hb))
          have ca' := KC.out w4 a11 _ c11 _ rfl hn11 hfar11.row
          have cb' := KC.out w4 a8 _ c8 _ rfl HN8.out (far_keep H5.out.2.2.1 hb).row
          have hle := H5.out.2.2.2.2.1
          clear ho hb q1 hn11 hfar11
          go_wp2_with fail
          go_roundw
          case rel => exact ⟨k + 1, f', s', F', by omega, by omega, by go_num, congrArg _ hfe.symm, H6.out.1, H6.out.2, H5.out.2.2.2.1, HS.out, by omega⟩
          case measure => simp [intOf]; omega
    · have hor : ¬ (k : Int) < l.length ∨ ((k : Int) < l.length ∧ ¬ (k : Int) < 50) := by omega
      have hcg : (s.crash 0 0 0).good.length = 8 := by rw [← HR.out.2.2.1]; show (settle _ _ _ _ _ _ _).length = _; rw [settle_length]
      obtain ⟨s5, s6, hw5, hw6⟩ := crash_then hcg rfl
      have HW := Lib.hid (And.intro hw5 hw6)
      clear hlt hcg hw5 hw6 hf40 hfN
      rcases hor with ho | ⟨ho, ho2⟩
      all_goals
        go_wp2_with fail
        refine (hD.crash HR.out.1.d (fun k hk => (HR.out.1.lt k hk).2) 0 0 0 (by omega) (by omega) (by omega)).mono ?_
        rintro e w3 ⟨rfl, hd, hC⟩
        have h3 := one_more hD HR.out.1 hd hC HR.out.2.1.size
        have hB3 := HR.out.2.1.trans (one_below HR.out.1 hC HR.out.2.1.size)
        generalize More F wr w3 = F3 at h3
        have H3 := Lib.hid (And.intro h3 hB3)
        clear hd hC h3 hB3
        go_wp2_with fail
        refine (awake_any hD w3).mono ?_
        rintro e w4 ⟨rfl, hb⟩
        have H4 := Lib.hid (And.intro (one_keep hD H3.out.1 hb) (below_keep H3.out.2 hb))
        clear hb
        go_wp2_with fail
        refine (sector_any 1 w4).mono ?_
        rintro e w5 ⟨g, rfl, ho5, hb⟩
        have hn5 : ¬ F3 g := fun h => by have := (H4.out.1.lt _ h).2; have := (own_at_block ho5).1; omega
        have H5 := Lib.hid (And.intro (one_keep hD H4.out.1 hb) (And.intro (below_keep H4.out.2 hb) (And.intro (own_row' ho5) hn5)))
        clear hb ho5 hn5
        go_wp2_with fail
        refine (hD.write H5.out.1.d (fun k hk => (H5.out.1.lt k hk).2) 0 (some ⟨g, 0, none⟩) 32 32 (secB 1) (by omega) (secB_len 1) (Nat.le_refl _) (by unfold maxLen; omega) (fun h => by cases h) H5.out.2.2.1 (fun q hq h => by injection hq with hq; subst hq; exact H5.out.2.2.2 h)).mono ?_
        rw [HW.out.1]
        rintro e w6 ⟨rfl, hd, hC⟩
        have h6 := one_more hD H5.out.1 hd hC H5.out.2.1.size
        have hB6 := H5.out.2.1.trans (one_below H5.out.1 hC H5.out.2.1.size)
        generalize More F3 w5 w6 = F6 at h6
        have H6 := Lib.hid (And.intro h6 hB6)
        clear hd hC h6 hB6
        go_wp2_with fail
        refine (hD.flush H6.out.1.d (fun k hk => (H6.out.1.lt k hk).2)).mono ?_
        rw [show (((0 : Int), s5).2 : DS).flush = (0, s6) from HW.out.2]
        rintro e w7 ⟨rfl, hd, hC⟩
        have HB7 := Lib.hid (H6.out.2.trans (one_below H6.out.1 hC H6.out.2.size))
        clear hd hC
        go_wp2
        go_ret
        exact ⟨rfl, HB7.out⟩
end Go.Proofs.Ytpbegchaneppfaa.Dsk
