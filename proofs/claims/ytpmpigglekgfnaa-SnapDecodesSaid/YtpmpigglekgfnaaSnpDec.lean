/- Texts that were written one by one, laid behind one another. -/
import Derived.Test.YtpmpigglekgfnaaSnpBs
import Derived.Test.YtpmpigglekgfnaaSnpNum
import Derived.Test.YtpmpigglekgfnaaRegChn
import Derived.Test.YtpmpigglekgfnaaOctPos
import Derived.Test.YtpmpigglekgfnaaFoot
import Derived.Test.YtpmpigglekgfnaaPut
import Derived.Test.YtpmpigglekgfnaaNest
import Derived.Test.YtpmpigglekgfnaaRegLst
import Derived.Test.YtpmpigglekgfnaaResC
/- Snap: the document's Reader in memory. -/
namespace Go.Proofs.Ytpmpigglekgfnaa.Snp
set_option maxRecDepth 100000
open Go.RowKit
open Go.Sort
open Kit
open Oct
open Foot
open Tre (Lst inI lst_keep lst_at lst_new lst_none below_drewN' run_ld2)
open Ent (NB nb_keep nb_own nb_new int8 txt ints ints_len int8_len txt_len)
set_option linter.unusedVariables false
variable {w w' : World}

def kT (v : Value) (l : List UInt8) (s : RS) : Rel.Kd Rel.Gr := ⟨fun _ u => ∃ q, u = .tuple #[v, .int .i64 q] ∧ Pos l s q, fun _ _ _ _ h => h⟩
def kQ (l : List UInt8) (s : RS) : Rel.Kd Rel.Gr := ⟨fun _ u => ∃ q, u = .int .i64 q ∧ Pos l s q, fun _ _ _ _ h => h⟩
theorem run_ld_b {a : Addr} {v : Value} (h : w.cell? a = some v) : (Instr.loadAt 29 (.pointer (some a))).run Try.prog w = .ok v w := by simp [go_sem, h]
theorem run_ex0 (u v : Value) (w : World) : (Instr.extract (.tuple #[u, v]) 0).run Try.prog w = .ok u w := by simp [go_sem]
theorem run_ex1 (u v : Value) (w : World) : (Instr.extract (.tuple #[u, v]) 1).run Try.prog w = .ok v w := by simp [go_sem]
/-- A Reader in memory. -/
structure Rd (w : World) (R : Nat) (ab : Option Addr) (n c : Nat) (l : List UInt8) (s : RS) : Prop where
  box : ∃ q, Arr.Blk w R 80 [.slice ab n c, .int .i64 q] ∧ Pos l s q
  bs : Bs w ab n c l
  old : l ≠ [] → ∀ p, ab = some p → p.block < R
theorem rd_lt {R n c : Nat} {ab : Option Addr} {l : List UInt8} {s : RS} (h : Rd w R ab n c l s) : R < w.heap.size := by
  obtain ⟨q, hb, _⟩ := h.box
  exact Arr.blk_lt hb
theorem rd_keep {R n c : Nat} {ab : Option Addr} {l : List UInt8} {s : RS} (h : Rd w R ab n c l s) (hb : Below w.heap.size w w') : Rd w' R ab n c l s := by
  obtain ⟨⟨q, h1, h2⟩, h3, h4⟩ := h
  exact ⟨⟨q, Arr.blk_below h1 hb (Arr.blk_lt h1), h2⟩, bs_keep h3 hb, h4⟩
/-- Blocks that are not the Reader's nor of its bytes may change. -/
theorem rd_chg {R n c : Nat} {ab : Option Addr} {l : List UInt8} {s : RS} {F : Nat → Prop} (h : Rd w R ab n c l s) (hC : Chg F w w') (hF : ∀ k, F k → R < k) : Rd w' R ab n c l s := by
  obtain ⟨⟨q, h1, h2⟩, h3, h4⟩ := h
  refine ⟨⟨q, blk_chg hC h1 fun hf => Nat.lt_irrefl _ (hF R hf), h2⟩, ⟨h3.len, h3.cap, h3.max, h3.nil, ?_⟩, h4⟩
  by_cases hl : l = []
  · exact .inl hl
  · rcases h3.row with e | ⟨b, o, e, hr⟩
    · exact .inl e
    · subst e
      exact row_chg encB_len hC h3.row fun hf => by have := hF _ hf; have := h4 hl _ rfl; simp only at this; omega
/-- The place is written. -/
theorem rd_set {R n c : Nat} {ab : Option Addr} {l : List UInt8} {s s2 : RS} {w1 : World} (h : Rd w R ab n c l s) (hb : Below w.heap.size w w1) {q : Int} (hp : Pos l s2 q) :
    Rd (w1.setCell ⟨R, 1, none⟩ (.int .i64 q)) R ab n c l s2 ∧ Chg (fun k => k = R) w (w1.setCell ⟨R, 1, none⟩ (.int .i64 q)) := by
  have h1 := rd_keep h hb
  obtain ⟨⟨q0, k1, k2⟩, k3, k4⟩ := h1
  refine ⟨⟨⟨q, Arr.blk_set k1 1 (.int .i64 q), hp⟩, ⟨k3.len, k3.cap, k3.max, k3.nil, ?_⟩, k4⟩, chg_set (F := fun k => k = R) (new_chg hb _) (.inl rfl) 1 _⟩
  by_cases hl : l = []
  · exact .inl hl
  · rcases k3.row with e | ⟨b, o, e, hr⟩
    · exact .inl e
    · subst e
      exact row_chg encB_len (set_chg w1 R 1 _) k3.row fun hf => by have := k4 hl _ rfl; simp only at this; omega
set_option maxHeartbeats 8000000 in
theorem num_any {W : World} {R n cc : Nat} {ab : Option Addr} {l : List UInt8} {s s2 : RS} {N : Int} (h : Rd W R ab n cc l s) (hn : n ≤ 140737488351232) (hr : rInt s = (N, s2)) :
    Calls Try.prog 32 #[.pointer (some ⟨R, 0, none⟩)] W fun e W' => e = .returned (.int .i64 N) ∧ Rd W' R ab n cc l s2 ∧ Chg (fun k => k = R) W W' := by
  obtain ⟨q, hbk, hp⟩ := id h.box
  have HQ := Lib.hid (show W.cell? ⟨R, 0, none⟩ = some (.slice ab n cc) ∧ W.cell? ⟨R, 1, none⟩ = some (.int .i64 q) from ⟨Arr.blk_cell hbk 0, Arr.blk_cell hbk 1⟩)
  have HB := Lib.hid h.bs
  have HN := Lib.hid hn
  have HP := Lib.hid hp
  have HR := Lib.hid hr
  have HD := Lib.hid h
  have HK := Lib.hid hbk
  clear h hn hr hp hbk
  go_enter Try.func32, Try.ntmps32
  go_wp2_with fail
  refine Rel.wp_region_rel (G := Rel.Gr) (Rel.tab [.is (.pointer (some ⟨R, 0, none⟩)), .is (.pointer (some ⟨R, 0, none⟩)), .is (.pointer (some ⟨R, 0, none⟩)), .is (.slice ab n cc), .is (.pointer (some ⟨R, 0, none⟩)), .is (.pointer (some ⟨R, 0, none⟩)), .is (.pointer (some ⟨R, 1, none⟩)), .is (.int .i64 q), kT (.int .i64 N) l s2, kT (.int .i64 N) l s2, .is (.int .i64 N), kQ l s2, .is (.int .i64 N), kQ l s2]) (fun _ w => Below W.heap.size W w) (by kernel_rfl) (by kernel_rfl) (by kernel_rfl) (by kernel_rfl) (fun w => Rel.gr_refl _) (below_drew _) ?_ ?_
  · refine ⟨?_, ?_, ?_, ?_, ?_, ?_, ?_, ?_, ?_, ?_, ?_, ?_, ?_, ?_, trivial⟩
    · intro L a w c
      refine .inl ⟨Rel.wanted_free (by kernel_rfl) _, ?_⟩
      exact Rel.wp_mv _ rfl ⟨_, rfl, Rel.gr_refl _, (c.old 0 (v := .pointer (some ⟨R, 0, none⟩)) (by kernel_rfl) (by kernel_rfl)), c.inv⟩
    · intro L a w c
      refine .inl ⟨Rel.wanted_free (by kernel_rfl) _, ?_⟩
      exact Chn.wp_nc _ rfl (c.get 0 6 (by kernel_rfl)) ⟨_, rfl, Rel.gr_refl _, rfl, c.inv⟩
    · intro L a w c
      refine .inl ⟨Rel.wanted_free (by kernel_rfl) _, ?_⟩
      exact Chn.wp_fa _ _ _ rfl (c.get 1 7 (by kernel_rfl)) (by simp [go_sem]) ⟨_, rfl, Rel.gr_refl _, rfl, c.inv⟩
    · intro L a w c
      refine .inl ⟨Rel.wanted_free (by kernel_rfl) _, ?_⟩
      exact Rel.wp_ld _ _ rfl (c.get 2 8 (by kernel_rfl)) (run_ld_b (cell_keep c.inv HQ.out.1)) ⟨_, rfl, Rel.gr_refl _, rfl, c.inv⟩
    · intro L a w c
      refine .inl ⟨Rel.wanted_free (by kernel_rfl) _, ?_⟩
      exact Rel.wp_mv _ rfl ⟨_, rfl, Rel.gr_refl _, (c.old 0 (v := .pointer (some ⟨R, 0, none⟩)) (by kernel_rfl) (by kernel_rfl)), c.inv⟩
    · intro L a w c
      refine .inl ⟨Rel.wanted_free (by kernel_rfl) _, ?_⟩
      exact Chn.wp_nc _ rfl (c.get 4 10 (by kernel_rfl)) ⟨_, rfl, Rel.gr_refl _, rfl, c.inv⟩
    · intro L a w c
      refine .inl ⟨Rel.wanted_free (by kernel_rfl) _, ?_⟩
      exact Chn.wp_fa _ _ _ rfl (c.get 5 11 (by kernel_rfl)) (by simp [go_sem]) ⟨_, rfl, Rel.gr_refl _, rfl, c.inv⟩
    · intro L a w c
      refine .inl ⟨Rel.wanted_free (by kernel_rfl) _, ?_⟩
      exact Rel.wp_ld _ _ rfl (c.get 6 12 (by kernel_rfl)) (run_ld2 (cell_keep c.inv HQ.out.2)) ⟨_, rfl, Rel.gr_refl _, rfl, c.inv⟩
    · intro L a w c
      refine .inl ⟨Rel.wanted_free (by kernel_rfl) _, ?_⟩
      refine Rel.wp_cl _ _ _ rfl Try.func43 (by kernel_rfl) ?_
      show Calls _ _ #[Rel.slot a 9, Rel.slot a 13] w _
      rw [show Rel.slot a 9 = .slice ab n cc from (c.get 3 9 (by kernel_rfl)), show Rel.slot a 13 = .int .i64 q from (c.get 7 13 (by kernel_rfl))]
      refine (number_pos ab n cc w HB.out.len HN.out (row_keep encB_len HB.out.row c.inv) HP.out).mono ?_
      rintro e w' ⟨N', s', q', rfl, hr, hp, rfl⟩
      have he := HR.out.symm.trans hr
      injection he with e1 e2
      subst e1 e2
      exact ⟨_, rfl, _, rfl, Rel.gr_refl _, ⟨q', rfl, hp⟩, c.inv⟩
    · intro L a w c
      refine .inl ⟨Rel.wanted_free (by kernel_rfl) _, ?_⟩
      exact Rel.wp_mv _ rfl ⟨_, rfl, Rel.gr_refl _, (c.get 8 14 (by kernel_rfl)), c.inv⟩
    · intro L a w c
      refine .inl ⟨Rel.wanted_free (by kernel_rfl) _, ?_⟩
      obtain ⟨q', e', h'⟩ := c.get 9 5 (by kernel_rfl)
      exact Rel.wp_ex _ _ rfl e' (run_ex0 _ _ w) ⟨_, rfl, Rel.gr_refl _, rfl, c.inv⟩
    · intro L a w c
      refine .inl ⟨Rel.wanted_free (by kernel_rfl) _, ?_⟩
      obtain ⟨q', e', h'⟩ := c.get 9 5 (by kernel_rfl)
      exact Rel.wp_ex _ _ rfl e' (run_ex1 _ _ w) ⟨_, rfl, Rel.gr_refl _, ⟨q', rfl, h'⟩, c.inv⟩
    · intro L a w c
      refine .inl ⟨Rel.wanted_free (by kernel_rfl) _, ?_⟩
      exact Rel.wp_as _ rfl ⟨_, rfl, Rel.gr_refl _, (c.get 10 15 (by kernel_rfl)), c.inv⟩
    · intro L a w c
      refine .inl ⟨Rel.wanted_free (by kernel_rfl) _, ?_⟩
      exact Rel.wp_as _ rfl ⟨_, rfl, Rel.gr_refl _, (c.get 11 16 (by kernel_rfl)), c.inv⟩
  intro a w9 hbase hroom hdef hJ hV
  have s3 : Rel.slot a 3 = .int .i64 N := hV 12 _ _ rfl rfl
  have k4 : (kQ l s2 : Rel.Kd (Rel.Gr)).p w9 (Rel.slot a 4) := hV 13 _ _ rfl rfl
  rw [Chn.act_puts [6, 7, 8, 9, 10, 11, 12, 13, 14, 5, 15, 16, 3, 4] hbase hroom hdef (by kernel_rfl)]
  clear hbase hroom hdef hV
  simp only [List.foldl_cons, List.foldl_nil]
  generalize Rel.slot a 6 = u6 at *
  generalize Rel.slot a 7 = u7 at *
  generalize Rel.slot a 8 = u8 at *
  generalize Rel.slot a 9 = u9 at *
  generalize Rel.slot a 10 = u10 at *
  generalize Rel.slot a 11 = u11 at *
  generalize Rel.slot a 12 = u12 at *
  generalize Rel.slot a 13 = u13 at *
  generalize Rel.slot a 14 = u14 at *
  generalize Rel.slot a 5 = u5 at *
  generalize Rel.slot a 15 = u15 at *
  generalize Rel.slot a 16 = u16 at *
  rw [s3]
  clear s3
  generalize Rel.slot a 4 = u4 at *
  simp only [Act.put, List.setIfInBounds_toArray, List.set_cons_succ, List.set_cons_zero]
  obtain ⟨q2, rfl, hp2⟩ := k4
  have HS := Lib.hid (rd_set HD.out hJ hp2)
  have c1 := Arr.blk_cell (Arr.blk_below HK.out hJ (Arr.blk_lt HK.out)) 1
  have f1 := Arr.blk_frozen (Arr.blk_below HK.out hJ (Arr.blk_lt HK.out)) 1
  simp only [List.getElem?_cons_zero, List.getElem?_cons_succ] at c1
  clear hJ hp2
  go_wp2_with fail
  go_ret
  exact ⟨rfl, HS.out⟩
set_option maxHeartbeats 8000000 in
theorem word_any {W : World} {R n cc : Nat} {ab : Option Addr} {l : List UInt8} {s s2 : RS} {N : ByteArray} (h : Rd W R ab n cc l s) (hn : n ≤ 140737488351232) (hr : rText 16 s = (N, s2)) :
    Calls Try.prog 34 #[.pointer (some ⟨R, 0, none⟩)] W fun e W' => e = .returned (.string N) ∧ Rd W' R ab n cc l s2 ∧ Chg (fun k => k = R) W W' := by
  obtain ⟨q, hbk, hp⟩ := id h.box
  have HQ := Lib.hid (show W.cell? ⟨R, 0, none⟩ = some (.slice ab n cc) ∧ W.cell? ⟨R, 1, none⟩ = some (.int .i64 q) from ⟨Arr.blk_cell hbk 0, Arr.blk_cell hbk 1⟩)
  have HB := Lib.hid h.bs
  have HN := Lib.hid hn
  have HP := Lib.hid hp
  have HR := Lib.hid hr
  have HD := Lib.hid h
  have HK := Lib.hid hbk
  clear h hn hr hp hbk
  go_enter Try.func34, Try.ntmps34
  go_wp2_with fail
  refine Rel.wp_region_rel (G := Rel.Gr) (Rel.tab [.is (.pointer (some ⟨R, 0, none⟩)), .is (.pointer (some ⟨R, 0, none⟩)), .is (.pointer (some ⟨R, 0, none⟩)), .is (.slice ab n cc), .is (.pointer (some ⟨R, 0, none⟩)), .is (.pointer (some ⟨R, 0, none⟩)), .is (.pointer (some ⟨R, 1, none⟩)), .is (.int .i64 q), kT (.string N) l s2, kT (.string N) l s2, .is (.string N), kQ l s2, .is (.string N), kQ l s2]) (fun _ w => Below W.heap.size W w) (by kernel_rfl) (by kernel_rfl) (by kernel_rfl) (by kernel_rfl) (fun w => Rel.gr_refl _) (below_drew _) ?_ ?_
  · refine ⟨?_, ?_, ?_, ?_, ?_, ?_, ?_, ?_, ?_, ?_, ?_, ?_, ?_, ?_, trivial⟩
    · intro L a w c
      refine .inl ⟨Rel.wanted_free (by kernel_rfl) _, ?_⟩
      exact Rel.wp_mv _ rfl ⟨_, rfl, Rel.gr_refl _, (c.old 0 (v := .pointer (some ⟨R, 0, none⟩)) (by kernel_rfl) (by kernel_rfl)), c.inv⟩
    · intro L a w c
      refine .inl ⟨Rel.wanted_free (by kernel_rfl) _, ?_⟩
      exact Chn.wp_nc _ rfl (c.get 0 6 (by kernel_rfl)) ⟨_, rfl, Rel.gr_refl _, rfl, c.inv⟩
    · intro L a w c
      refine .inl ⟨Rel.wanted_free (by kernel_rfl) _, ?_⟩
      exact Chn.wp_fa _ _ _ rfl (c.get 1 7 (by kernel_rfl)) (by simp [go_sem]) ⟨_, rfl, Rel.gr_refl _, rfl, c.inv⟩
    · intro L a w c
      refine .inl ⟨Rel.wanted_free (by kernel_rfl) _, ?_⟩
      exact Rel.wp_ld _ _ rfl (c.get 2 8 (by kernel_rfl)) (run_ld_b (cell_keep c.inv HQ.out.1)) ⟨_, rfl, Rel.gr_refl _, rfl, c.inv⟩
    · intro L a w c
      refine .inl ⟨Rel.wanted_free (by kernel_rfl) _, ?_⟩
      exact Rel.wp_mv _ rfl ⟨_, rfl, Rel.gr_refl _, (c.old 0 (v := .pointer (some ⟨R, 0, none⟩)) (by kernel_rfl) (by kernel_rfl)), c.inv⟩
    · intro L a w c
      refine .inl ⟨Rel.wanted_free (by kernel_rfl) _, ?_⟩
      exact Chn.wp_nc _ rfl (c.get 4 10 (by kernel_rfl)) ⟨_, rfl, Rel.gr_refl _, rfl, c.inv⟩
    · intro L a w c
      refine .inl ⟨Rel.wanted_free (by kernel_rfl) _, ?_⟩
      exact Chn.wp_fa _ _ _ rfl (c.get 5 11 (by kernel_rfl)) (by simp [go_sem]) ⟨_, rfl, Rel.gr_refl _, rfl, c.inv⟩
    · intro L a w c
      refine .inl ⟨Rel.wanted_free (by kernel_rfl) _, ?_⟩
      exact Rel.wp_ld _ _ rfl (c.get 6 12 (by kernel_rfl)) (run_ld2 (cell_keep c.inv HQ.out.2)) ⟨_, rfl, Rel.gr_refl _, rfl, c.inv⟩
    · intro L a w c
      refine .inl ⟨Rel.wanted_free (by kernel_rfl) _, ?_⟩
      refine Rel.wp_cl _ _ _ rfl Try.func44 (by kernel_rfl) ?_
      show Calls _ _ #[Rel.slot a 9, Rel.slot a 13, .int .i64 16] w _
      rw [show Rel.slot a 9 = .slice ab n cc from (c.get 3 9 (by kernel_rfl)), show Rel.slot a 13 = .int .i64 q from (c.get 7 13 (by kernel_rfl))]
      refine (word_pos ab n cc 16 w HB.out.len HB.out.cap HB.out.max HN.out (row_keep encB_len HB.out.row c.inv) HP.out).mono ?_
      rintro e w' ⟨N', s', q', rfl, hr, hp, hb⟩
      have he := HR.out.symm.trans hr
      injection he with e1 e2
      subst e1 e2
      exact ⟨_, rfl, _, rfl, hb, ⟨q', rfl, hp⟩, below_keep c.inv hb⟩
    · intro L a w c
      refine .inl ⟨Rel.wanted_free (by kernel_rfl) _, ?_⟩
      exact Rel.wp_mv _ rfl ⟨_, rfl, Rel.gr_refl _, (c.get 8 14 (by kernel_rfl)), c.inv⟩
    · intro L a w c
      refine .inl ⟨Rel.wanted_free (by kernel_rfl) _, ?_⟩
      obtain ⟨q', e', h'⟩ := c.get 9 5 (by kernel_rfl)
      exact Rel.wp_ex _ _ rfl e' (run_ex0 _ _ w) ⟨_, rfl, Rel.gr_refl _, rfl, c.inv⟩
    · intro L a w c
      refine .inl ⟨Rel.wanted_free (by kernel_rfl) _, ?_⟩
      obtain ⟨q', e', h'⟩ := c.get 9 5 (by kernel_rfl)
      exact Rel.wp_ex _ _ rfl e' (run_ex1 _ _ w) ⟨_, rfl, Rel.gr_refl _, ⟨q', rfl, h'⟩, c.inv⟩
    · intro L a w c
      refine .inl ⟨Rel.wanted_free (by kernel_rfl) _, ?_⟩
      exact Rel.wp_as _ rfl ⟨_, rfl, Rel.gr_refl _, (c.get 10 15 (by kernel_rfl)), c.inv⟩
    · intro L a w c
      refine .inl ⟨Rel.wanted_free (by kernel_rfl) _, ?_⟩
      exact Rel.wp_as _ rfl ⟨_, rfl, Rel.gr_refl _, (c.get 11 16 (by kernel_rfl)), c.inv⟩
  intro a w9 hbase hroom hdef hJ hV
  have s3 : Rel.slot a 3 = .string N := hV 12 _ _ rfl rfl
  have k4 : (kQ l s2 : Rel.Kd (Rel.Gr)).p w9 (Rel.slot a 4) := hV 13 _ _ rfl rfl
  rw [Chn.act_puts [6, 7, 8, 9, 10, 11, 12, 13, 14, 5, 15, 16, 3, 4] hbase hroom hdef (by kernel_rfl)]
  clear hbase hroom hdef hV
  simp only [List.foldl_cons, List.foldl_nil]
  generalize Rel.slot a 6 = u6 at *
  generalize Rel.slot a 7 = u7 at *
  generalize Rel.slot a 8 = u8 at *
  generalize Rel.slot a 9 = u9 at *
  generalize Rel.slot a 10 = u10 at *
  generalize Rel.slot a 11 = u11 at *
  generalize Rel.slot a 12 = u12 at *
  generalize Rel.slot a 13 = u13 at *
  generalize Rel.slot a 14 = u14 at *
  generalize Rel.slot a 5 = u5 at *
  generalize Rel.slot a 15 = u15 at *
  generalize Rel.slot a 16 = u16 at *
  rw [s3]
  clear s3
  generalize Rel.slot a 4 = u4 at *
  simp only [Act.put, List.setIfInBounds_toArray, List.set_cons_succ, List.set_cons_zero]
  obtain ⟨q2, rfl, hp2⟩ := k4
  have HS := Lib.hid (rd_set HD.out hJ hp2)
  have c1 := Arr.blk_cell (Arr.blk_below HK.out hJ (Arr.blk_lt HK.out)) 1
  have f1 := Arr.blk_frozen (Arr.blk_below HK.out hJ (Arr.blk_lt HK.out)) 1
  simp only [List.getElem?_cons_zero, List.getElem?_cons_succ] at c1
  clear hJ hp2
  go_wp2_with fail
  go_ret
  exact ⟨rfl, HS.out⟩
set_option maxHeartbeats 8000000 in
theorem many_any {R n c : Nat} {ab : Option Addr} {l : List UInt8} {s : RS} (h : Rd w R ab n c l s) (hn : n ≤ 140737488351232) (most : Nat) (hm : most ≤ 1000) {k : Nat} {s2 : RS} (hr : rMany most s = (k, s2)) :
    Calls Try.prog 33 #[.pointer (some ⟨R, 0, none⟩), .int .i64 (most : Nat)] w fun e W' => e = .returned (.int .i64 (k : Nat)) ∧ Rd W' R ab n c l s2 ∧ Chg (fun k => k = R) w W' := by
  rcases h1 : rInt s with ⟨N, s1⟩
  have HC := Lib.hid (num_any h hn h1)
  have HR := Lib.hid hr
  have H1 := Lib.hid h1
  have hmi : (most : Int) ≤ 1000 := by omega
  clear h hn hr h1
  go_enter Try.func33, Try.ntmps33
  go_wp2_with fail
  refine HC.out.mono ?_
  rintro e w1 ⟨rfl, hd, hC⟩
  have HD := Lib.hid (And.intro hd hC)
  have hor : (N < 0) ∨ (¬ N < 0 ∧ (most : Int) < N) ∨ (¬ N < 0 ∧ ¬ (most : Int) < N) := by omega
  clear HC hd hC
  rcases hor with t1 | ⟨t1, t2⟩ | ⟨t1, t2⟩
  · have he := HR.out.symm.trans (many_bad H1.out (.inl t1))
    injection he with e1 e2
    subst e1 e2
    have HS := Lib.hid (rd_set HD.out.1 (Below.refl _ _) (pos_none l))
    obtain ⟨q, hbk, hp⟩ := HD.out.1.box
    have c1 := Arr.blk_cell hbk 1
    have f1 := Arr.blk_frozen hbk 1
    simp only [List.getElem?_cons_zero, List.getElem?_cons_succ] at c1
    clear hbk hp
    go_wp2_with fail
    go_ret
    exact ⟨rfl, HS.out.1, chg_trans HD.out.2 HS.out.2 fun x hx => .inl hx⟩
  · have he := HR.out.symm.trans (many_bad H1.out (.inr t2))
    injection he with e1 e2
    subst e1 e2
    have HS := Lib.hid (rd_set HD.out.1 (Below.refl _ _) (pos_none l))
    obtain ⟨q, hbk, hp⟩ := HD.out.1.box
    have c1 := Arr.blk_cell hbk 1
    have f1 := Arr.blk_frozen hbk 1
    simp only [List.getElem?_cons_zero, List.getElem?_cons_succ] at c1
    clear hbk hp
    go_wp2_with fail
    go_ret
    exact ⟨rfl, HS.out.1, chg_trans HD.out.2 HS.out.2 fun x hx => .inl hx⟩
  · obtain ⟨j, rfl⟩ : ∃ j : Nat, N = j := ⟨N.toNat, by omega⟩
    have he := HR.out.symm.trans (many_ok H1.out (by omega))
    injection he with e1 e2
    subst e1 e2
    go_wp2_with fail
    go_ret
    exact ⟨rfl, HD.out⟩
end Go.Proofs.Ytpmpigglekgfnaa.Snp
/- Snap: what the document's Decode holds in memory. -/
namespace Go.Proofs.Ytpmpigglekgfnaa.Snp
set_option maxRecDepth 100000
open Go.RowKit
open Go.Sort
open Kit
open Oct
open Foot
open Tre (Lst inI lst_keep lst_at lst_new lst_none below_drewN' Al encF encF_len encL encL_len)
open Rte (Rt encR encR_len)
open Job (Jb Jv Jobs encJ encJ_len job_keep)
open Drw (Dw Draws encD encD_len)
set_option linter.unusedVariables false
variable {w w' : World}

def zero8 : List Value := [.int .i64 0, .int .i64 0, .int .i64 0, .slice none 0 0, .slice none 0 0, .slice none 0 0, .slice none 0 0, .slice none 0 0]
/-- A job's draws lie in memory of their own. -/
def Drs (D : Nat) (w : World) (y : Jv) : Prop := y.In w ∧ (y.t.draws ≠ [] → ∀ p, y.a = some p → D ≤ p.block ∧ ∃ cur, w.heap[p.block]? = some (.cells cur 60 (0, 0)))
theorem heap_lt {k : Nat} {o : Obj} (h : w.heap[k]? = some o) : k < w.heap.size := (Array.getElem?_eq_some_iff.1 h).1
theorem drs_chg {D : Nat} {y : Jv} {F : Nat → Prop} (h : Drs D w y) (hC : Chg F w w') (hF : ∀ k, F k → k < D ∨ ∃ cur t, w.heap[k]? = some (.cells cur t (0, 0)) ∧ t ≠ 60) : Drs D w' y := by
  obtain ⟨h1, h2⟩ := h
  have hn : y.t.draws ≠ [] → ∀ p, y.a = some p → ¬ F p.block := fun hd p hp hf => by
    obtain ⟨k1, cur, k2⟩ := h2 hd p hp
    rcases hF _ hf with h | ⟨cur', t, h3, h4⟩
    · omega
    · rw [k2] at h3
      injection h3 with h3
      injection h3 with _ h3
      exact h4 h3.symm
  refine ⟨?_, fun hd p hp => ?_⟩
  · by_cases hd : y.t.draws = []
    · exact ⟨h1.len, h1.cap, h1.max, h1.nil, .inl hd⟩
    · exact lst_chg encD_len h1 hC (hn hd)
  · obtain ⟨k1, cur, k2⟩ := h2 hd p hp
    exact ⟨k1, cur, by rw [hC.block _ (heap_lt k2) (hn hd p hp)]; exact k2⟩
/-- The result's block, the Reader's, the state's; the state's own lists above them. -/
structure Dm (W w : World) (R B : Nat) (ab : Option Addr) (n cc : Nat) (l : List UInt8) (s : RS) (q1 q2 q3 : Int) (fs : List Tre.Fd) (ls : List Al) (rs : List Rt) (js : List Jv) (ks : List ByteArray) (vf vl vr vj vk : Value) : Prop where
  eR : R = W.heap.size + 1
  eB : B = W.heap.size + 2
  below : Below W.heap.size W w
  res : Arr.Blk w W.heap.size 28 zero8
  rd : Rd w R ab n cc l s
  box : Arr.Blk w B 28 [.int .i64 q1, .int .i64 q2, .int .i64 q3, vf, vl, vr, vj, vk]
  of : Owns encF 3 47 w (W.heap.size + 3) vf fs
  ol : Owns Tre.encL 6 50 w (W.heap.size + 3) vl ls
  or : Owns encR 3 52 w (W.heap.size + 3) vr rs
  oj : Owns encJ 12 55 w (W.heap.size + 3) vj js
  ok : Owns encK 1 9 w (W.heap.size + 3) vk ks
  dr : ∀ y ∈ js, Drs (W.heap.size + 3) w y
variable {W : World} {R B : Nat} {ab : Option Addr} {n cc : Nat} {l : List UInt8} {s s2 : RS} {q1 q2 q3 : Int} {fs : List Tre.Fd} {ls : List Al} {rs : List Rt} {js : List Jv} {ks : List ByteArray} {vf vl vr vj vk : Value}
theorem own_hi {α : Type} {enc : α → List Value} {size D g : Nat} {T : TypeId} {v : Value} {xs : List α} (h : Owns enc size T w D v xs) (hg : v.ownBlock = some g) : D ≤ g ∧ g < w.heap.size := World.ownsRow.lt h g hg
/-- What the Reader does, and new memory. -/
theorem dm_rd (h : Dm W w R B ab n cc l s q1 q2 q3 fs ls rs js ks vf vl vr vj vk) (hr : Rd w' R ab n cc l s2) (hC : Chg (fun k => k = R) w w') : Dm W w' R B ab n cc l s2 q1 q2 q3 fs ls rs js ks vf vl vr vj vk := by
  have eR := h.eR
  have eB := h.eB
  exact ⟨eR, eB, h.below.trans (chg_below hC (fun k hk => by omega) h.below.size), blk_chg hC h.res (by omega), hr, blk_chg hC h.box (by omega),
    own_chg hC h.of (fun g hg e => by have := (own_hi h.of hg).1; omega),
    own_chg hC h.ol (fun g hg e => by have := (own_hi h.ol hg).1; omega),
    own_chg hC h.or (fun g hg e => by have := (own_hi h.or hg).1; omega),
    own_chg hC h.oj (fun g hg e => by have := (own_hi h.oj hg).1; omega),
    own_chg hC h.ok (fun g hg e => by have := (own_hi h.ok hg).1; omega),
    fun y hy => drs_chg (h.dr y hy) hC fun k hk => .inl (by omega)⟩
theorem dm_below (h : Dm W w R B ab n cc l s q1 q2 q3 fs ls rs js ks vf vl vr vj vk) (hb : Below w.heap.size w w') : Dm W w' R B ab n cc l s q1 q2 q3 fs ls rs js ks vf vl vr vj vk := dm_rd h (rd_keep h.rd hb) (new_chg hb _)
theorem dm_push_f {x : Tre.Fd} {v' : Value} (h : Dm W w R B ab n cc l s q1 q2 q3 fs ls rs js ks vf vl vr vj vk) (ho : Owns encF 3 47 w' (W.heap.size + 3) v' (fs ++ [x])) (hg : w.grownBy w' vf.ownBlock) :
    Dm W (w'.setCell ⟨B, 3, none⟩ v') R B ab n cc l s q1 q2 q3 (fs ++ [x]) ls rs js ks v' vl vr vj vk := by
  have eR := h.eR
  have eB := h.eB
  have hC : Chg (fun k => some k = vf.ownBlock) w w' := grown_chg hg
  have hlo : ∀ k, some k = vf.ownBlock → W.heap.size + 3 ≤ k := fun k hk => (own_hi h.of hk.symm).1
  have hS := set_chg w' B 3 v'
  have hb : Below W.heap.size W w' := h.below.trans (chg_below hC (fun k hk => by have := hlo k hk; omega) h.below.size)
  have hty : ∀ k, some k = vf.ownBlock → ∃ cur t, w.heap[k]? = some (.cells cur t (0, 0)) ∧ t ≠ 60 := fun k hk => by
    obtain ⟨cur, hc⟩ := own_type h.of hk.symm
    exact ⟨cur, _, hc, by decide⟩
  have far : ∀ {α : Type} {enc : α → List Value} {size : Nat} {T : TypeId} {v : Value} {xs : List α}, Owns enc size T w' (W.heap.size + 3) v xs → Owns enc size T (w'.setCell ⟨B, 3, none⟩ v') (W.heap.size + 3) v xs := fun ho => own_set_far ho (fun g hg => by have := (own_hi ho hg).1; omega) _ _
  refine ⟨eR, eB, hb.trans (chg_below hS (fun k hk => by omega) hb.size), blk_chg hS (blk_chg hC h.res fun e => by have := hlo _ e; omega) (by omega), rd_chg (rd_chg h.rd hC fun k hk => by have := hlo k hk; omega) hS (fun k hk => by omega), Arr.blk_set (blk_chg hC h.box fun e => by have := hlo _ e; omega) 3 v', ?_, ?_, ?_, ?_, ?_, ?_⟩
  · exact far ho
  · exact far (own_typed h.ol hC (typed_own h.of (by decide)))
  · exact far (own_typed h.or hC (typed_own h.of (by decide)))
  · exact far (own_typed h.oj hC (typed_own h.of (by decide)))
  · exact far (own_typed h.ok hC (typed_own h.of (by decide)))
  · exact fun y hy => drs_chg (drs_chg (h.dr y hy) hC fun k hk => .inr (hty k hk)) hS fun k hk => .inl (by omega)
theorem dm_push_l {x : Al} {v' : Value} (h : Dm W w R B ab n cc l s q1 q2 q3 fs ls rs js ks vf vl vr vj vk) (ho : Owns Tre.encL 6 50 w' (W.heap.size + 3) v' (ls ++ [x])) (hg : w.grownBy w' vl.ownBlock) :
    Dm W (w'.setCell ⟨B, 4, none⟩ v') R B ab n cc l s q1 q2 q3 fs (ls ++ [x]) rs js ks vf v' vr vj vk := by
  have eR := h.eR
  have eB := h.eB
  have hC : Chg (fun k => some k = vl.ownBlock) w w' := grown_chg hg
  have hlo : ∀ k, some k = vl.ownBlock → W.heap.size + 3 ≤ k := fun k hk => (own_hi h.ol hk.symm).1
  have hS := set_chg w' B 4 v'
  have hb : Below W.heap.size W w' := h.below.trans (chg_below hC (fun k hk => by have := hlo k hk; omega) h.below.size)
  have hty : ∀ k, some k = vl.ownBlock → ∃ cur t, w.heap[k]? = some (.cells cur t (0, 0)) ∧ t ≠ 60 := fun k hk => by
    obtain ⟨cur, hc⟩ := own_type h.ol hk.symm
    exact ⟨cur, _, hc, by decide⟩
  have far : ∀ {α : Type} {enc : α → List Value} {size : Nat} {T : TypeId} {v : Value} {xs : List α}, Owns enc size T w' (W.heap.size + 3) v xs → Owns enc size T (w'.setCell ⟨B, 4, none⟩ v') (W.heap.size + 3) v xs := fun ho => own_set_far ho (fun g hg => by have := (own_hi ho hg).1; omega) _ _
  refine ⟨eR, eB, hb.trans (chg_below hS (fun k hk => by omega) hb.size), blk_chg hS (blk_chg hC h.res fun e => by have := hlo _ e; omega) (by omega), rd_chg (rd_chg h.rd hC fun k hk => by have := hlo k hk; omega) hS (fun k hk => by omega), Arr.blk_set (blk_chg hC h.box fun e => by have := hlo _ e; omega) 4 v', ?_, ?_, ?_, ?_, ?_, ?_⟩
  · exact far (own_typed h.of hC (typed_own h.ol (by decide)))
  · exact far ho
  · exact far (own_typed h.or hC (typed_own h.ol (by decide)))
  · exact far (own_typed h.oj hC (typed_own h.ol (by decide)))
  · exact far (own_typed h.ok hC (typed_own h.ol (by decide)))
  · exact fun y hy => drs_chg (drs_chg (h.dr y hy) hC fun k hk => .inr (hty k hk)) hS fun k hk => .inl (by omega)
theorem dm_push_r {x : Rt} {v' : Value} (h : Dm W w R B ab n cc l s q1 q2 q3 fs ls rs js ks vf vl vr vj vk) (ho : Owns encR 3 52 w' (W.heap.size + 3) v' (rs ++ [x])) (hg : w.grownBy w' vr.ownBlock) :
    Dm W (w'.setCell ⟨B, 5, none⟩ v') R B ab n cc l s q1 q2 q3 fs ls (rs ++ [x]) js ks vf vl v' vj vk := by
  have eR := h.eR
  have eB := h.eB
  have hC : Chg (fun k => some k = vr.ownBlock) w w' := grown_chg hg
  have hlo : ∀ k, some k = vr.ownBlock → W.heap.size + 3 ≤ k := fun k hk => (own_hi h.or hk.symm).1
  have hS := set_chg w' B 5 v'
  have hb : Below W.heap.size W w' := h.below.trans (chg_below hC (fun k hk => by have := hlo k hk; omega) h.below.size)
  have hty : ∀ k, some k = vr.ownBlock → ∃ cur t, w.heap[k]? = some (.cells cur t (0, 0)) ∧ t ≠ 60 := fun k hk => by
    obtain ⟨cur, hc⟩ := own_type h.or hk.symm
    exact ⟨cur, _, hc, by decide⟩
  have far : ∀ {α : Type} {enc : α → List Value} {size : Nat} {T : TypeId} {v : Value} {xs : List α}, Owns enc size T w' (W.heap.size + 3) v xs → Owns enc size T (w'.setCell ⟨B, 5, none⟩ v') (W.heap.size + 3) v xs := fun ho => own_set_far ho (fun g hg => by have := (own_hi ho hg).1; omega) _ _
  refine ⟨eR, eB, hb.trans (chg_below hS (fun k hk => by omega) hb.size), blk_chg hS (blk_chg hC h.res fun e => by have := hlo _ e; omega) (by omega), rd_chg (rd_chg h.rd hC fun k hk => by have := hlo k hk; omega) hS (fun k hk => by omega), Arr.blk_set (blk_chg hC h.box fun e => by have := hlo _ e; omega) 5 v', ?_, ?_, ?_, ?_, ?_, ?_⟩
  · exact far (own_typed h.of hC (typed_own h.or (by decide)))
  · exact far (own_typed h.ol hC (typed_own h.or (by decide)))
  · exact far ho
  · exact far (own_typed h.oj hC (typed_own h.or (by decide)))
  · exact far (own_typed h.ok hC (typed_own h.or (by decide)))
  · exact fun y hy => drs_chg (drs_chg (h.dr y hy) hC fun k hk => .inr (hty k hk)) hS fun k hk => .inl (by omega)
theorem dm_push_j {x : Jv} {v' : Value} (h : Dm W w R B ab n cc l s q1 q2 q3 fs ls rs js ks vf vl vr vj vk) (hx : Drs (W.heap.size + 3) w x) (ho : Owns encJ 12 55 w' (W.heap.size + 3) v' (js ++ [x])) (hg : w.grownBy w' vj.ownBlock) :
    Dm W (w'.setCell ⟨B, 6, none⟩ v') R B ab n cc l s q1 q2 q3 fs ls rs (js ++ [x]) ks vf vl vr v' vk := by
  have eR := h.eR
  have eB := h.eB
  have hC : Chg (fun k => some k = vj.ownBlock) w w' := grown_chg hg
  have hlo : ∀ k, some k = vj.ownBlock → W.heap.size + 3 ≤ k := fun k hk => (own_hi h.oj hk.symm).1
  have hS := set_chg w' B 6 v'
  have hb : Below W.heap.size W w' := h.below.trans (chg_below hC (fun k hk => by have := hlo k hk; omega) h.below.size)
  have hty : ∀ k, some k = vj.ownBlock → ∃ cur t, w.heap[k]? = some (.cells cur t (0, 0)) ∧ t ≠ 60 := fun k hk => by
    obtain ⟨cur, hc⟩ := own_type h.oj hk.symm
    exact ⟨cur, _, hc, by decide⟩
  have far : ∀ {α : Type} {enc : α → List Value} {size : Nat} {T : TypeId} {v : Value} {xs : List α}, Owns enc size T w' (W.heap.size + 3) v xs → Owns enc size T (w'.setCell ⟨B, 6, none⟩ v') (W.heap.size + 3) v xs := fun ho => own_set_far ho (fun g hg => by have := (own_hi ho hg).1; omega) _ _
  refine ⟨eR, eB, hb.trans (chg_below hS (fun k hk => by omega) hb.size), blk_chg hS (blk_chg hC h.res fun e => by have := hlo _ e; omega) (by omega), rd_chg (rd_chg h.rd hC fun k hk => by have := hlo k hk; omega) hS (fun k hk => by omega), Arr.blk_set (blk_chg hC h.box fun e => by have := hlo _ e; omega) 6 v', ?_, ?_, ?_, ?_, ?_, ?_⟩
  · exact far (own_typed h.of hC (typed_own h.oj (by decide)))
  · exact far (own_typed h.ol hC (typed_own h.oj (by decide)))
  · exact far (own_typed h.or hC (typed_own h.oj (by decide)))
  · exact far ho
  · exact far (own_typed h.ok hC (typed_own h.oj (by decide)))
  · intro y hy
    have hy2 : Drs (W.heap.size + 3) w y := by
      rcases List.mem_append.1 hy with hy | hy
      · exact h.dr y hy
      · rw [List.mem_singleton] at hy; subst hy; exact hx
    exact drs_chg (drs_chg hy2 hC fun k hk => .inr (hty k hk)) hS fun k hk => .inl (by omega)
theorem dm_push_k {x : ByteArray} {v' : Value} (h : Dm W w R B ab n cc l s q1 q2 q3 fs ls rs js ks vf vl vr vj vk) (ho : Owns encK 1 9 w' (W.heap.size + 3) v' (ks ++ [x])) (hg : w.grownBy w' vk.ownBlock) :
    Dm W (w'.setCell ⟨B, 7, none⟩ v') R B ab n cc l s q1 q2 q3 fs ls rs js (ks ++ [x]) vf vl vr vj v' := by
  have eR := h.eR
  have eB := h.eB
  have hC : Chg (fun k => some k = vk.ownBlock) w w' := grown_chg hg
  have hlo : ∀ k, some k = vk.ownBlock → W.heap.size + 3 ≤ k := fun k hk => (own_hi h.ok hk.symm).1
  have hS := set_chg w' B 7 v'
  have hb : Below W.heap.size W w' := h.below.trans (chg_below hC (fun k hk => by have := hlo k hk; omega) h.below.size)
  have hty : ∀ k, some k = vk.ownBlock → ∃ cur t, w.heap[k]? = some (.cells cur t (0, 0)) ∧ t ≠ 60 := fun k hk => by
    obtain ⟨cur, hc⟩ := own_type h.ok hk.symm
    exact ⟨cur, _, hc, by decide⟩
  have far : ∀ {α : Type} {enc : α → List Value} {size : Nat} {T : TypeId} {v : Value} {xs : List α}, Owns enc size T w' (W.heap.size + 3) v xs → Owns enc size T (w'.setCell ⟨B, 7, none⟩ v') (W.heap.size + 3) v xs := fun ho => own_set_far ho (fun g hg => by have := (own_hi ho hg).1; omega) _ _
  refine ⟨eR, eB, hb.trans (chg_below hS (fun k hk => by omega) hb.size), blk_chg hS (blk_chg hC h.res fun e => by have := hlo _ e; omega) (by omega), rd_chg (rd_chg h.rd hC fun k hk => by have := hlo k hk; omega) hS (fun k hk => by omega), Arr.blk_set (blk_chg hC h.box fun e => by have := hlo _ e; omega) 7 v', ?_, ?_, ?_, ?_, ?_, ?_⟩
  · exact far (own_typed h.of hC (typed_own h.ok (by decide)))
  · exact far (own_typed h.ol hC (typed_own h.ok (by decide)))
  · exact far (own_typed h.or hC (typed_own h.ok (by decide)))
  · exact far (own_typed h.oj hC (typed_own h.ok (by decide)))
  · exact far ho
  · exact fun y hy => drs_chg (drs_chg (h.dr y hy) hC fun k hk => .inr (hty k hk)) hS fun k hk => .inl (by omega)
theorem dm_q0 (h : Dm W w R B ab n cc l s q1 q2 q3 fs ls rs js ks vf vl vr vj vk) (q : Int) : Dm W (w.setCell ⟨B, 0, none⟩ (.int .i64 q)) R B ab n cc l s q q2 q3 fs ls rs js ks vf vl vr vj vk := by
  have eR := h.eR
  have eB := h.eB
  have hS := set_chg w B 0 (.int .i64 q)
  have far : ∀ {α : Type} {enc : α → List Value} {size : Nat} {T : TypeId} {v : Value} {xs : List α}, Owns enc size T w (W.heap.size + 3) v xs → Owns enc size T (w.setCell ⟨B, 0, none⟩ (.int .i64 q)) (W.heap.size + 3) v xs := fun ho => own_set_far ho (fun g hg => by have := (own_hi ho hg).1; omega) _ _
  exact ⟨eR, eB, h.below.trans (chg_below hS (fun k hk => by omega) h.below.size), blk_chg hS h.res (by omega), rd_chg h.rd hS (fun k hk => by omega), Arr.blk_set h.box 0 (.int .i64 q), far h.of, far h.ol, far h.or, far h.oj, far h.ok, fun y hy => drs_chg (h.dr y hy) hS fun k hk => .inl (by omega)⟩
theorem dm_q1 (h : Dm W w R B ab n cc l s q1 q2 q3 fs ls rs js ks vf vl vr vj vk) (q : Int) : Dm W (w.setCell ⟨B, 1, none⟩ (.int .i64 q)) R B ab n cc l s q1 q q3 fs ls rs js ks vf vl vr vj vk := by
  have eR := h.eR
  have eB := h.eB
  have hS := set_chg w B 1 (.int .i64 q)
  have far : ∀ {α : Type} {enc : α → List Value} {size : Nat} {T : TypeId} {v : Value} {xs : List α}, Owns enc size T w (W.heap.size + 3) v xs → Owns enc size T (w.setCell ⟨B, 1, none⟩ (.int .i64 q)) (W.heap.size + 3) v xs := fun ho => own_set_far ho (fun g hg => by have := (own_hi ho hg).1; omega) _ _
  exact ⟨eR, eB, h.below.trans (chg_below hS (fun k hk => by omega) h.below.size), blk_chg hS h.res (by omega), rd_chg h.rd hS (fun k hk => by omega), Arr.blk_set h.box 1 (.int .i64 q), far h.of, far h.ol, far h.or, far h.oj, far h.ok, fun y hy => drs_chg (h.dr y hy) hS fun k hk => .inl (by omega)⟩
theorem dm_q2 (h : Dm W w R B ab n cc l s q1 q2 q3 fs ls rs js ks vf vl vr vj vk) (q : Int) : Dm W (w.setCell ⟨B, 2, none⟩ (.int .i64 q)) R B ab n cc l s q1 q2 q fs ls rs js ks vf vl vr vj vk := by
  have eR := h.eR
  have eB := h.eB
  have hS := set_chg w B 2 (.int .i64 q)
  have far : ∀ {α : Type} {enc : α → List Value} {size : Nat} {T : TypeId} {v : Value} {xs : List α}, Owns enc size T w (W.heap.size + 3) v xs → Owns enc size T (w.setCell ⟨B, 2, none⟩ (.int .i64 q)) (W.heap.size + 3) v xs := fun ho => own_set_far ho (fun g hg => by have := (own_hi ho hg).1; omega) _ _
  exact ⟨eR, eB, h.below.trans (chg_below hS (fun k hk => by omega) h.below.size), blk_chg hS h.res (by omega), rd_chg h.rd hS (fun k hk => by omega), Arr.blk_set h.box 2 (.int .i64 q), far h.of, far h.ol, far h.or, far h.oj, far h.ok, fun y hy => drs_chg (h.dr y hy) hS fun k hk => .inl (by omega)⟩
/-- A box made within a round: since w0 nothing has changed but the Reader and what is new. -/
structure Bx (w0 w : World) (R : Nat) (ab : Option Addr) (n cc : Nat) (l : List UInt8) (s : RS) (T : TypeId) (g : Nat) (cs : List Value) : Prop where
  rd : Rd w R ab n cc l s
  chg : Chg (fun k => k = R) w0 w
  blk : Arr.Blk w g T cs
  lt : R < g
  new : w0.heap.size ≤ g
theorem bx_new {w0 w1 : World} (hr : Rd w1 R ab n cc l s) (hC : Chg (fun k => k = R) w0 w1) (hlt : R < w0.heap.size) (T : TypeId) (cs : List Value) : Bx w0 (w1.alloc (.cells cs.toArray T)) R ab n cc l s T w1.heap.size cs :=
  ⟨rd_keep hr (below_alloc _ _), chg_alloc hC _, Arr.blk_new w1 _ T cs rfl, Nat.lt_of_lt_of_le hlt hC.size, hC.size⟩
theorem bx_num {w0 : World} {T : TypeId} {g : Nat} {cs : List Value} (h : Bx w0 w R ab n cc l s T g cs) (hr : Rd w' R ab n cc l s2) (hC : Chg (fun k => k = R) w w') : Bx w0 w' R ab n cc l s2 T g cs :=
  ⟨hr, chg_trans h.chg hC fun x hx => .inl hx, blk_chg hC h.blk (fun e => by have := h.lt; omega), h.lt, h.new⟩
theorem bx_set {w0 : World} {T : TypeId} {g i : Nat} {cs : List Value} (h : Bx w0 w R ab n cc l s T g cs) (v : Value) : Bx w0 (w.setCell ⟨g, i, none⟩ v) R ab n cc l s T g (cs.set i v) :=
  ⟨rd_chg h.rd (set_chg w g i v) (fun k hk => by have := h.lt; omega), chg_set h.chg (.inr h.new) i v, Arr.blk_set h.blk i v, h.lt, h.new⟩
end Go.Proofs.Ytpmpigglekgfnaa.Snp
/- Snap: what the document's Decode builds of a job, and of a key. -/
namespace Go.Proofs.Ytpmpigglekgfnaa.Snp
set_option maxRecDepth 100000
open Go.RowKit
open Go.Sort
open Kit
open Oct
open Foot
open Tre (Lst inI lst_keep lst_at lst_new lst_none below_drewN' Al encF encF_len)
open Rte (Rt encR encR_len)
open Job (Jb Jv Jobs encJ encJ_len job_keep)
open Drw (Dw Draws encD encD_len)
set_option linter.unusedVariables false
variable {w w' : World}

def zeroJ : List Value := [.int .i64 0, .int .i64 0, .int .i64 0, .int .i64 0, .int .i64 0, .int .i64 0, .int .i64 0, .int .i64 0, .int .i64 0, .int .i64 0, .int .i64 0, .slice none 0 0]
theorem info_jobS : (Try.prog.info? 55).map (·.size) = some 12 := by kernel_rfl
theorem info_jobF : (Try.prog.info? 55).map (fun i => (i.zero, i.size, i.bytes)) = some (some (.agg zeroJ.toArray), 12, 112) := by kernel_rfl
theorem run_alloc_jb (w : World) : (Instr.alloc 55 true (.tuple #[])).run Try.prog w = .ok (.pointer (some ⟨w.heap.size, 0, none⟩)) (w.alloc (.cells zeroJ.toArray 55)) := by
  simp [go_sem]
  rfl
theorem run_iac {b n c k : Nat} (h : k < n) {z : Int} (hz : z = (k : Int)) (w : World) : (Instr.indexAt 58 (.slice (some ⟨b, 0, none⟩) n c) (.int .i64 z)).run Try.prog w = .ok (.pointer (some ⟨b, k, none⟩)) w := by
  subst hz
  simp [go_sem, h]
theorem wp_bd11 {P : Program} {o : Oper} {a : Act} {K : Act → World → Prop} {Q : Exit → Act → World → Prop} (t : TypeId) (y0 y1 y2 y3 y4 y5 y6 y7 y8 y9 y10 : Operand)
    (ho : o.op = .build t #[(0, y0), (1, y1), (2, y2), (3, y3), (4, y4), (5, y5), (6, y6), (7, y7), (8, y8), (9, y9), (10, y10)]) {v0 v1 v2 v3 v4 v5 v6 v7 v8 v9 v10 r : Value} {w' : World}
    (h0 : a.eval y0 = v0) (h1 : a.eval y1 = v1) (h2 : a.eval y2 = v2) (h3 : a.eval y3 = v3) (h4 : a.eval y4 = v4) (h5 : a.eval y5 = v5) (h6 : a.eval y6 = v6) (h7 : a.eval y7 = v7) (h8 : a.eval y8 = v8) (h9 : a.eval y9 = v9) (h10 : a.eval y10 = v10)
    (hr : (Instr.build t #[(0, v0), (1, v1), (2, v2), (3, v3), (4, v4), (5, v5), (6, v6), (7, v7), (8, v8), (9, v9), (10, v10)]).run P w = .ok r w') (h : K (a.put o.dst r) w') : o.wp P a w K Q :=
  Chn.wp_bd t _ ho (by subst h0 h1 h2 h3 h4 h5 h6 h7 h8 h9 h10; simpa using hr) h
theorem run_build11 (x0 x1 x2 x3 x4 x5 x6 x7 x8 x9 x10 : Int) (w : World) : (Instr.build 55 #[(0, .int .i64 x0), (1, .int .i64 x1), (2, .int .i64 x2), (3, .int .i64 x3), (4, .int .i64 x4), (5, .int .i64 x5), (6, .int .i64 x6), (7, .int .i64 x7), (8, .int .i64 x8), (9, .int .i64 x9), (10, .int .i64 x10)]).run Try.prog w
    = .ok (.agg #[.int .i64 x0, .int .i64 x1, .int .i64 x2, .int .i64 x3, .int .i64 x4, .int .i64 x5, .int .i64 x6, .int .i64 x7, .int .i64 x8, .int .i64 x9, .int .i64 x10, .slice none 0 0]) w := by
  simp [go_sem]
/-- A new job's box. -/
def kJ (D : Nat) : Rel.Kd Rel.Gr := ⟨fun w u => ∃ B, u = .pointer (some ⟨B, 0, none⟩) ∧ D ≤ B ∧ Arr.Blk w B 55 zeroJ, fun _ _ _ h ⟨B, e, hd, hb⟩ => ⟨B, e, hd, Arr.blk_below hb h (Arr.blk_lt hb)⟩⟩
theorem eleven_list {X : List Int} (h : X.length = 11) : ∃ x0 x1 x2 x3 x4 x5 x6 x7 x8 x9 x10, X = [x0, x1, x2, x3, x4, x5, x6, x7, x8, x9, x10] := by
  match X, h with
  | [x0, x1, x2, x3, x4, x5, x6, x7, x8, x9, x10], _ => exact ⟨x0, x1, x2, x3, x4, x5, x6, x7, x8, x9, x10, rfl⟩
theorem eleven_cells {base g c : Nat} {x0 x1 x2 x3 x4 x5 x6 x7 x8 x9 x10 : Int} (h : Owns Tre.encI 1 3 w base (.slice (some ⟨g, 0, none⟩) 11 c) [x0, x1, x2, x3, x4, x5, x6, x7, x8, x9, x10]) :
    ∀ j y, ([x0, x1, x2, x3, x4, x5, x6, x7, x8, x9, x10] : List Int)[j]? = some y → w.cell? ⟨g, j, none⟩ = some (.int .i64 y) := by
  obtain ⟨a, cap, hv, -, -, -, hr⟩ := owns_row Tre.encI_len h
  injection hv with hv
  subst hv
  intro j y hy
  obtain ⟨hj, e⟩ := List.getElem?_eq_some_iff.1 hy
  have := row_cell hr hj e (i := 0) (by omega)
  rw [Nat.mul_one, Nat.zero_add, Nat.add_zero] at this
  exact this

variable {W : World} {R B : Nat} {ab : Option Addr} {n cc : Nat} {l : List UInt8} {s s2 : RS}
/-- The job's box is written whole. -/
theorem bx_job {w0 w1 : World} {g : Nat} (hr : Rd w R ab n cc l s) (hC : Chg (fun k => k = R) w0 w) (hb : Below w.heap.size w w1) (hg : w.heap.size ≤ g) (hk : Arr.Blk w1 g 55 zeroJ) (hlt : R < w0.heap.size) (cs : List Value) :
    Bx w0 (w1.setRow g cs.toArray) R ab n cc l s 55 g cs := by
  have hw := hC.size
  refine ⟨rd_chg (rd_keep hr hb) (chg_row (F := fun k => k = g) (chg_refl _ w1) (.inl rfl) _) (fun k hk => by omega), chg_row (chg_trans hC (new_chg hb (fun _ => False)) (fun _ h => False.elim h)) (.inr (by omega)) _, Arr.blk_row hk cs, by omega, by omega⟩
/-- An own list of another type grows. -/
theorem bx_grown {w0 : World} {T e : TypeId} {g : Nat} {cs : List Value} {α : Type} {enc : α → List Value} {size : Nat} {v : Value} {xs : List α} (h : Bx w0 w R ab n cc l s T g cs) (hlt : R < w0.heap.size) (ho : Owns enc size e w w0.heap.size v xs) (hne : e ≠ T) (hg : w.grownBy w' v.ownBlock) : Bx w0 w' R ab n cc l s T g cs := by
  have hC := grown_chg hg
  refine ⟨rd_chg h.rd hC fun k hk => ?_, chg_grown h.chg hg fun k hk => .inr (own_hi ho hk).1, blk_typed h.blk hC (typed_own ho hne), h.lt, h.new⟩
  have := (own_hi ho hk.symm).1
  omega
theorem bx_alloc {w0 : World} {T : TypeId} {g : Nat} {cs : List Value} (h : Bx w0 w R ab n cc l s T g cs) (o : Obj) : Bx w0 (w.alloc o) R ab n cc l s T g cs :=
  ⟨rd_keep h.rd (below_alloc _ _), chg_alloc h.chg _, Arr.blk_alloc h.blk _, h.lt, h.new⟩
/-- The job's draws' slice is stored; the draws stay. -/
theorem own_set_typed {α : Type} {enc : α → List Value} {size g : Nat} {e T : TypeId} {base : Nat} {v : Value} {xs : List α} {cs : List Value} (ho : Owns enc size e w base v xs) (hk : Arr.Blk w g T cs) (hne : e ≠ T) (i : Nat) (u : Value) : Owns enc size e (w.setCell ⟨g, i, none⟩ u) base v xs :=
  own_set_far ho (fun g' hg' => by
    obtain ⟨cur, hc⟩ := own_type ho hg'
    intro he
    subst he
    unfold Arr.Blk at hk
    rw [hc] at hk
    injection hk with hk
    injection hk with _ hk
    exact hne hk) i u
theorem drs_of {base D : Nat} {a : Option Addr} {m c : Nat} {t : Jb} (ho : Owns encD 2 60 w base (.slice a m c) t.draws) (hD : D ≤ base) : Drs D w ⟨t, a, m, c⟩ := by
  obtain ⟨a', c', hv, h1, h2, h3, h4⟩ := owns_row encD_len ho
  injection hv with e1 e2 e3
  subst e1 e2 e3
  refine ⟨⟨rfl, h1, h2, fun e => ⟨by have h5 := h3 e; show t.draws.length = 0; omega, h3 e⟩, h4⟩, fun hd p hp => ?_⟩
  rcases ho.2 with ⟨h0, h5⟩ | ⟨g, cap, cur, hv2, hg, hh, _⟩
  · exact absurd (List.length_eq_zero_iff.1 h5) hd
  · injection hv2 with e1
    rw [show (Jv.mk t a t.draws.length c).a = a from rfl, e1] at hp
    injection hp with hp
    subst hp
    exact ⟨by simp only; omega, cur, hh⟩
end Go.Proofs.Ytpmpigglekgfnaa.Snp
/- Snap: a key put behind the others by the document's Decode; and what it answers at its end. -/
namespace Go.Proofs.Ytpmpigglekgfnaa.Snp
set_option maxRecDepth 100000
open Go.RowKit
open Go.Sort
open Kit
open Oct
open Foot
open Tre (Lst inI lst_keep lst_at lst_new lst_none below_drewN' Al encF encF_len)
open Rte (Rt encR encR_len)
open Job (Jb Jv Jobs encJ encJ_len job_keep)
open Drw (Dw Draws encD encD_len)
set_option linter.unusedVariables false
variable {w w' : World}

theorem run_ld_k {a : Addr} {v : Value} (h : w.cell? a = some v) : (Instr.loadAt 26 (.pointer (some a))).run Try.prog w = .ok v w := by simp [go_sem, h]
theorem run_bs_k (x : ByteArray) (w : World) : (Instr.buildSlice 26 1 #[(0, .string x)]).run Try.prog w = .ok (.slice (some ⟨w.heap.size, 0, none⟩) 1 1) (w.alloc (.cells #[.string x] 9)) := by
  simp [go_sem]
theorem run_st_k {ax : Option Addr} {p : Addr} {u : Value} {n c : Nat} (hc : w.cell? p = some u) (hf : w.frozen? p = false) : (Instr.storeAt 26 (.pointer (some p)) (.slice ax n c)).run Try.prog w = .ok () (w.setCell p (.slice ax n c)) := by
  simp [go_sem, hc, hf]
theorem row_k (w : World) (x : ByteArray) : Kit.Row encK 1 (w.alloc (.cells #[.string x] 9)) (some ⟨w.heap.size, 0, none⟩) [x] := row_new encK_len w [x] _ _ _ rfl rfl
/-- D: what Decode holds, with the keys so far and their slice. -/
def phiK (D : RS → List ByteArray → Value → World → Prop) (wr : World) (base : Nat) (t1 : RS) (ks : List ByteArray) (vk : Value) (x0 : ByteArray) : Nat → List Value → World → Prop
  | 0, _, w => w = wr.drew
  | 1, [u], w => u = .string x0 ∧ D t1 ks vk w
  | 2, [_, p], w => ∃ g, p = .slice (some ⟨g, 0, none⟩) 1 1 ∧ Kit.Row encK 1 w (some ⟨g, 0, none⟩) [x0] ∧ D t1 ks vk w
  | 3, [_, _, x], w => (∃ ax nx cx, x = .slice ax nx cx) ∧ ∃ w0, D t1 ks vk w0 ∧ Owns encK 1 9 w base x (ks ++ [x0]) ∧ w0.grownBy w vk.ownBlock
  | 4, _, w => ∃ ax nx cx, D t1 (ks ++ [x0]) (.slice ax nx cx) w
  | _, _, _ => False
theorem phi_cell {D : RS → List ByteArray → Value → World → Prop} {wr : World} {base : Nat} {t1 : RS} {ks : List ByteArray} {vk : Value} {x0 : ByteArray} {j : Nat} {vs : List Value} {P : World → Prop} (hj : j ≤ 2) (h : phiK D wr base t1 ks vk x0 j vs w) (h0 : P wr.drew) (h1 : ∀ w, D t1 ks vk w → P w) : P w := by
  match j, vs, h, hj with
  | 0, _, h, _ => rw [show w = wr.drew from h]; exact h0
  | 1, [u], h, _ => exact h1 w h.2
  | 2, [_, p], h, _ => obtain ⟨g, _, _, hd⟩ := h; exact h1 w hd
theorem key_append {base g : Nat} {v : Value} {ks : List ByteArray} {x : ByteArray} (ty : TypeId) (ho : Owns encK 1 9 w base v ks) (hr : Kit.Row encK 1 w (some ⟨g, 0, none⟩) [x]) (hb : base ≤ w.heap.size) (hk : ks.length ≤ 1000) :
    ∃ u w3, (Builtin.append_ #[26, 26] ty #[v, .slice (some ⟨g, 0, none⟩) 1 1]).run Try.prog w = .ok u w3 ∧ (∃ ax nx cx, u = .slice ax nx cx) ∧ Owns encK 1 9 w3 base u (ks ++ [x]) ∧ w.grownBy w3 v.ownBlock := by
  obtain ⟨u, w3, h1, h2, h3, h4⟩ := Two.run_append_apart encK_len (by decide) encK_one (P := Try.prog) 26 ty 9 Try.underlying26 (.string ⟨#[]⟩) 16 info_key rfl base _ ks ho (some ⟨g, 0, none⟩) 1 1 [x] rfl hr (fun h => by cases h) (by unfold maxLen; omega) (by omega) hb
  obtain ⟨ax, cx, e, _⟩ := owns_row encK_len h2
  exact ⟨u, w3, h1, ⟨ax, _, cx, e⟩, h2, h3⟩

/-! ### The end -/

theorem info_state8 : (Try.prog.info? 28).map (·.size) = some 8 := by kernel_rfl
def zSd : Sv := ⟨0, 0, 0, [], [], [], [], [], Pl.nil, Pl.nil, Pl.nil, Pl.nil, Pl.nil⟩
theorem zSd_in (w : World) : zSd.In w := ⟨lst_none _ _ _, lst_none _ _ _, lst_none _ _ _, lst_none _ _ _, lst_none _ _ _, fun y hy => by cases hy⟩
theorem own_lst {α : Type} {enc : α → List Value} {size : Nat} {e : TypeId} {base n c : Nat} {a : Option Addr} {xs : List α} (hs : ∀ x, (enc x).length = size) (h : Owns enc size e w base (.slice a n c) xs) : Lst enc size w a n c xs := by
  obtain ⟨a', c', hv, h1, h2, h3, h4⟩ := owns_row hs h
  injection hv with e1 e2 e3
  subst e1 e2 e3
  exact ⟨rfl, h1, h2, fun e => ⟨by have h5 := h3 e; omega, h3 e⟩, h4⟩
theorem own_form {α : Type} {enc : α → List Value} {size : Nat} {e : TypeId} {base : Nat} {v : Value} {xs : List α} (hs : ∀ x, (enc x).length = size) (h : Owns enc size e w base v xs) : ∃ p : Pl, v = .slice p.a p.n p.c := by
  obtain ⟨a, c, hv, -⟩ := owns_row hs h
  exact ⟨⟨a, _, c⟩, hv⟩
variable {W : World} {R B : Nat} {ab : Option Addr} {n cc : Nat} {l : List UInt8} {s s2 : RS} {q1 q2 q3 : Int} {fs : List Tre.Fd} {ls : List Al} {rs : List Rt} {js : List Jv} {ks : List ByteArray} {pf pl pr pj pk : Pl}
/-- The state that is handed back. -/
theorem dm_in (h : Dm W w R B ab n cc l s q1 q2 q3 fs ls rs js ks (.slice pf.a pf.n pf.c) (.slice pl.a pl.n pl.c) (.slice pr.a pr.n pr.c) (.slice pj.a pj.n pj.c) (.slice pk.a pk.n pk.c)) (hC : Chg (fun k => k = W.heap.size) w w') : Sv.In ⟨q1, q2, q3, fs, ls, rs, js, ks, pf, pl, pr, pj, pk⟩ w' := by
  have far : ∀ {α : Type} {enc : α → List Value} {size : Nat} {T : TypeId} {v : Value} {xs : List α}, Owns enc size T w (W.heap.size + 3) v xs → Owns enc size T w' (W.heap.size + 3) v xs := fun ho => own_chg hC ho (fun g hg e => by have := (own_hi ho hg).1; omega)
  exact ⟨own_lst encF_len (far h.of), own_lst Tre.encL_len (far h.ol), own_lst encR_len (far h.or), own_lst encJ_len (far h.oj), own_lst encK_len (far h.ok), fun y hy => (drs_chg (h.dr y hy) hC fun k hk => .inl (by omega)).1⟩
end Go.Proofs.Ytpmpigglekgfnaa.Snp
/- Snap: the document's Decode. -/
namespace Go.Proofs.Ytpmpigglekgfnaa.Snp
set_option maxRecDepth 100000
open Go.RowKit
open Go.Sort
open Kit
open Oct
open Foot
open Tre (Lst inI lst_keep lst_at lst_new lst_none below_drewN' Al encF encF_len run_ld2)
open Rte (Rt encR encR_len)
open Job (Jb Jv Jobs encJ encJ_len job_keep)
open Drw (Dw Draws encD encD_len)
set_option linter.unusedVariables false
variable {w w' : World}

theorem encF_one (x : Tre.Fd) : ∀ u ∈ encF x, u.oneCell' = true := by
  intro u hu
  simp [encF] at hu
  rcases hu with rfl | rfl | rfl <;> rfl
theorem info_fund : (Try.prog.info? 47).map (fun i => (i.zero, i.size, i.bytes)) = some (some (.agg #[.string ⟨#[]⟩, .int .i64 0, .int .i64 0]), 3, 32) := by kernel_rfl
theorem row_lt {a : Option Addr} {l : List UInt8} (h : RowB w a l) (hl : l ≠ []) : ∀ p, a = some p → p.block < w.heap.size := by
  intro p hp
  rcases h with e | ⟨b, o, e, hc⟩
  · exact absurd e hl
  · subst hp
    injection e with e
    subst e
    have h0 : 0 < l.length := List.length_pos_iff.2 hl
    have := hc 0 h0 0 (by omega)
    by_cases hb : b < w.heap.size
    · exact hb
    · simp [World.cell?, hb, encB] at this
theorem dm_start {W : World} {ab : Option Addr} {n cc : Nat} {l : List UInt8} (hB : Bs W ab n cc l) :
    Dm W (((W.alloc (.cells zero8.toArray 28)).alloc (.cells #[.slice ab n cc, .int .i64 0] 80)).alloc (.cells zero8.toArray 28)) (W.heap.size + 1) (W.heap.size + 1 + 1) ab n cc l (some l) 0 0 0 [] [] [] [] [] (.slice none 0 0) (.slice none 0 0) (.slice none 0 0) (.slice none 0 0) (.slice none 0 0) := by
  have b1 := below_alloc W (.cells zero8.toArray 28)
  have b2 := below_alloc (W.alloc (.cells zero8.toArray 28)) (.cells #[.slice ab n cc, .int .i64 0] 80)
  have b3 := below_alloc ((W.alloc (.cells zero8.toArray 28)).alloc (.cells #[.slice ab n cc, .int .i64 0] 80)) (.cells zero8.toArray 28)
  have z1 : (W.alloc (.cells zero8.toArray 28)).heap.size = W.heap.size + 1 := by simp
  have z2 : ((W.alloc (.cells zero8.toArray 28)).alloc (.cells #[.slice ab n cc, .int .i64 0] 80)).heap.size = W.heap.size + 2 := by simp
  have k1 := Arr.blk_new W W.heap.size 28 zero8 rfl
  have k2 := Arr.blk_new (W.alloc (.cells zero8.toArray 28)) (W.heap.size + 1) 80 [.slice ab n cc, .int .i64 0] z1.symm
  refine ⟨rfl, rfl, below_keep (below_keep b1 b2) b3, Arr.blk_below k1 (below_keep b2 b3) (Arr.blk_lt k1), ⟨⟨0, Arr.blk_below k2 b3 (Arr.blk_lt k2), .inr ⟨0, Nat.zero_le _, by rw [List.drop_zero], rfl⟩⟩, bs_keep hB (below_keep (below_keep b1 b2) b3), fun hl p hp => ?_⟩, Arr.blk_new _ _ 28 zero8 z2.symm, owns_nil _ _ _, owns_nil _ _ _, owns_nil _ _ _, owns_nil _ _ _, owns_nil _ _ _, fun y hy => by cases hy⟩
  have := row_lt hB.row hl p hp
  omega
set_option maxHeartbeats 32000000 in
theorem rdec_any {W : World} {ab : Option Addr} {n cc : Nat} {l : List UInt8} (hB : Bs W ab n cc l) (hn : n ≤ 140737488351232) :
    Calls Try.prog 11 #[.slice ab n cc] W fun e W' => ∃ x : Sv, e = .returned (.tuple #[valV x, .int .i64 (decE l)]) ∧ x.t = decV l ∧ x.In W' ∧ Below W.heap.size W W' := by
  rcases h1 : rInt (some l) with ⟨q1, s1⟩
  rcases h2 : rInt s1 with ⟨q2, s2⟩
  rcases h3 : rInt s2 with ⟨q3, s3⟩
  rcases h4 : rMany 8 s3 with ⟨nf, m4⟩
  rcases h5 : rep cFd nf m4 with ⟨FS, s4⟩
  rcases h6 : rMany 16 s4 with ⟨nl, m5⟩
  rcases h7 : rep cAl nl m5 with ⟨LS, s5⟩
  rcases h8 : rMany 16 s5 with ⟨nr, m6⟩
  rcases h9 : rep cRt nr m6 with ⟨RS', s6⟩
  rcases h10 : rMany 16 s6 with ⟨nj, m7⟩
  rcases h11 : rep cJb nj m7 with ⟨JS, s7⟩
  rcases h12 : rMany 8 s7 with ⟨nk, m8⟩
  rcases h13 : rep cTxt nk m8 with ⟨KS, s8⟩
  have hdec := sn_of h1 h2 h3 (lst_of h4 h5) (lst_of h6 h7) (lst_of h8 h9) (lst_of h10 h11) (lst_of h12 h13)
  have HDe := Lib.hid hdec
  have HE := Lib.hid (And.intro h1 (And.intro h2 h3))
  have HE4 := Lib.hid (And.intro h4 h5)
  have HE5 := Lib.hid (And.intro h6 h7)
  have HE6 := Lib.hid (And.intro h8 h9)
  have HE7 := Lib.hid (And.intro h10 h11)
  have HE8 := Lib.hid (And.intro h12 h13)
  have hnf : nf ≤ 8 := by have h := many_le 8 s3; rw [h4] at h; exact h
  have hnl : nl ≤ 16 := by have h := many_le 16 s4; rw [h6] at h; exact h
  have hnr : nr ≤ 16 := by have h := many_le 16 s5; rw [h8] at h; exact h
  have hnj : nj ≤ 16 := by have h := many_le 16 s6; rw [h10] at h; exact h
  have hnk : nk ≤ 8 := by have h := many_le 8 s7; rw [h12] at h; exact h
  have HS := Lib.hid (dm_start hB)
  have HN := Lib.hid hn
  have HB := Lib.hid hB
  clear h1 h2 h3 h4 h5 h6 h7 h8 h9 h10 h11 h12 h13 hdec hB hn
  go_enter Try.func11, Try.ntmps11
  go_upto_region 3 with fail
  obtain ⟨w1, hw1⟩ : ∃ z, z = ((W.alloc (.cells #[.int .i64 0, .int .i64 0, .int .i64 0, .slice none 0 0, .slice none 0 0, .slice none 0 0, .slice none 0 0, .slice none 0 0] 28)).alloc (.cells #[.slice ab n cc, .int .i64 0] 80)).alloc (.cells #[.int .i64 0, .int .i64 0, .int .i64 0, .slice none 0 0, .slice none 0 0, .slice none 0 0, .slice none 0 0, .slice none 0 0] 28) := ⟨_, rfl⟩
  rw [← hw1]
  rw [show ((W.alloc (.cells zero8.toArray 28)).alloc (.cells #[.slice ab n cc, .int .i64 0] 80)).alloc (.cells zero8.toArray 28) = w1 from hw1.symm] at HS
  obtain ⟨B, hBe⟩ : ∃ B, B = W.heap.size + 1 + 1 := ⟨_, rfl⟩
  obtain ⟨R, hRe⟩ : ∃ R, R = W.heap.size + 1 := ⟨_, rfl⟩
  rw [← hBe, ← hRe] at HS ⊢
  have H1 := HS
  clear hw1 HS hBe hRe
  go_wp2_with fail
  refine (num_any H1.out.rd HN.out HE.out.1).mono ?_
  rintro e w2 ⟨rfl, hr, hC⟩
  have hd := dm_rd H1.out hr hC
  have c0 := Arr.blk_cell hd.box 0
  have f0 := Arr.blk_frozen hd.box 0
  simp only [List.getElem?_cons_zero] at c0
  obtain ⟨w3, hw⟩ : ∃ z, z = w2.setCell ⟨B, 0, none⟩ (.int .i64 q1) := ⟨_, rfl⟩
  have H3 := Lib.hid (show Dm W w3 R B ab n cc l s1 q1 0 0 [] [] [] [] [] (.slice none 0 0) (.slice none 0 0) (.slice none 0 0) (.slice none 0 0) (.slice none 0 0) by rw [hw]; exact dm_q0 hd q1)
  have HW := Lib.hid hw
  clear hr hC hd hw
  go_upto_region 4 with fail
  rw [← HW.out]
  clear c0 f0 HW
  go_wp2_with fail
  refine (num_any H3.out.rd HN.out HE.out.2.1).mono ?_
  rintro e w4 ⟨rfl, hr, hC⟩
  have hd := dm_rd H3.out hr hC
  have c0 := Arr.blk_cell hd.box 1
  have f0 := Arr.blk_frozen hd.box 1
  simp only [List.getElem?_cons_zero, List.getElem?_cons_succ] at c0
  obtain ⟨w5, hw⟩ : ∃ z, z = w4.setCell ⟨B, 1, none⟩ (.int .i64 q2) := ⟨_, rfl⟩
  have H5 := Lib.hid (show Dm W w5 R B ab n cc l s2 q1 q2 0 [] [] [] [] [] (.slice none 0 0) (.slice none 0 0) (.slice none 0 0) (.slice none 0 0) (.slice none 0 0) by rw [hw]; exact dm_q1 hd q2)
  have HW := Lib.hid hw
  clear hr hC hd hw
  go_upto_region 5 with fail
  rw [← HW.out]
  clear c0 f0 HW
  go_wp2_with fail
  refine (num_any H5.out.rd HN.out HE.out.2.2).mono ?_
  rintro e w6 ⟨rfl, hr, hC⟩
  have hd := dm_rd H5.out hr hC
  have c0 := Arr.blk_cell hd.box 2
  have f0 := Arr.blk_frozen hd.box 2
  simp only [List.getElem?_cons_zero, List.getElem?_cons_succ] at c0
  obtain ⟨w7, hw⟩ : ∃ z, z = w6.setCell ⟨B, 2, none⟩ (.int .i64 q3) := ⟨_, rfl⟩
  have H7 := Lib.hid (show Dm W w7 R B ab n cc l s3 q1 q2 q3 [] [] [] [] [] (.slice none 0 0) (.slice none 0 0) (.slice none 0 0) (.slice none 0 0) (.slice none 0 0) by rw [hw]; exact dm_q2 hd q3)
  have HW := Lib.hid hw
  clear hr hC hd hw
  go_upto_region 6 with fail
  rw [← HW.out]
  clear c0 f0 HW
  go_wp2_with fail
  refine (many_any H7.out.rd HN.out 8 (by omega) HE4.out.1).mono ?_
  rintro e wa ⟨rfl, hr, hC⟩
  have Ha := Lib.hid (dm_rd H7.out hr hC)
  clear hr hC
  go_upto_block 0 with fail
  go_cut [6] (fun _ wx => ∃ vf, Dm W wx R B ab n cc l s4 q1 q2 q3 FS [] [] [] [] vf (.slice none 0 0) (.slice none 0 0) (.slice none 0 0) (.slice none 0 0))
  case first =>
    go_wp2_with fail
    go_loopw [6] (fun iv wr => ∃ (k j : Nat) (xs : List Tre.Fd) (t : RS) (v : Value), j + k = nf ∧ iv = .int .i64 (k : Nat) ∧ rep cFd j m4 = (xs, t) ∧ Dm W wr R B ab n cc l t q1 q2 q3 xs [] [] [] [] v (.slice none 0 0) (.slice none 0 0) (.slice none 0 0) (.slice none 0 0)) (fun iv _ => (intOf iv).toNat)
    case atStart => exact ⟨nf, 0, [], m4, _, by omega, rfl, rfl, Ha.out⟩
    case round =>
      obtain ⟨k, j, xs, t, v, hk, rfl, hrep, hd⟩ := hrel
      have HRp := Lib.hid (And.intro hrep hd)
      clear hrep hd
      rcases Nat.eq_zero_or_pos k with h0 | h0
      · subst h0
        have he : FS = xs ∧ s4 = t := by
          have h := HE4.out.2.symm.trans (show rep cFd nf m4 = (xs, t) by rw [← hk]; exact HRp.out.1)
          injection h with h1 h2
          exact ⟨h1, h2⟩
        obtain ⟨rfl, rfl⟩ := he
        go_wp2_with fail
        go_meet
        case rel => exact ⟨_, HRp.out.2⟩
      · obtain ⟨k1, rfl⟩ : ∃ k1, k = k1 + 1 := ⟨k - 1, by omega⟩
        have hkb : k1 ≤ 40 := by omega
        rcases hx0 : rText 16 t with ⟨x0, t1⟩
        rcases hx1 : rInt t1 with ⟨x1, t2⟩
        rcases hx2 : rInt t2 with ⟨x2, t3⟩
        have HX := Lib.hid (And.intro (fd_of hx0 hx1 hx2) (And.intro hx0 (And.intro hx1 hx2)))
        clear hx0 hx1 hx2
        go_wp2_with fail
        refine (word_any HRp.out.2.rd HN.out HX.out.2.1).mono ?_
        rintro e u0 ⟨rfl, hr, hC⟩
        have hbx := bx_new hr hC (rd_lt HRp.out.2.rd) 47 [.string x0, .int .i64 0, .int .i64 0]
        obtain ⟨g, hg⟩ : ∃ g, g = u0.heap.size := ⟨_, rfl⟩
        obtain ⟨w1, hw⟩ : ∃ z, z = u0.alloc (.cells #[.string x0, .int .i64 0, .int .i64 0] 47) := ⟨_, rfl⟩
        rw [show u0.alloc (.cells ([.string x0, .int .i64 0, .int .i64 0] : List Value).toArray 47) = w1 from hw.symm, ← hg] at hbx
        have HK1 := Lib.hid hbx
        have HW := Lib.hid hw
        clear hr hC hbx hw
        go_upto_region 10 with fail
        rw [← HW.out, ← hg]
        clear HW hg
        go_wp2_with fail
        refine (num_any HK1.out.rd HN.out HX.out.2.2.1).mono ?_
        rintro e u1 ⟨rfl, hr, hC⟩
        have hbx := bx_num HK1.out hr hC
        have c0 := Arr.blk_cell hbx.blk 1
        have f0 := Arr.blk_frozen hbx.blk 1
        simp only [List.getElem?_cons_zero, List.getElem?_cons_succ] at c0
        obtain ⟨w2, hw⟩ : ∃ z, z = u1.setCell ⟨g, 1, none⟩ (.int .i64 x1) := ⟨_, rfl⟩
        have HK2 := Lib.hid (show Bx wr w2 R ab n cc l t2 47 g [.string x0, .int .i64 x1, .int .i64 0] by rw [hw]; exact bx_set (i := 1) hbx (.int .i64 x1))
        have HW := Lib.hid hw
        clear hr hC hbx hw
        go_upto_region 11 with fail
        rw [← HW.out]
        clear c0 f0 HW
        go_wp2_with fail
        refine (num_any HK2.out.rd HN.out HX.out.2.2.2).mono ?_
        rintro e u2 ⟨rfl, hr, hC⟩
        have hbx := bx_num HK2.out hr hC
        have c0 := Arr.blk_cell hbx.blk 2
        have f0 := Arr.blk_frozen hbx.blk 2
        simp only [List.getElem?_cons_zero, List.getElem?_cons_succ] at c0
        obtain ⟨w3, hw⟩ : ∃ z, z = u2.setCell ⟨g, 2, none⟩ (.int .i64 x2) := ⟨_, rfl⟩
        have HK3 := Lib.hid (show Bx wr w3 R ab n cc l t3 47 g [.string x0, .int .i64 x1, .int .i64 x2] by rw [hw]; exact bx_set (i := 2) hbx (.int .i64 x2))
        have HW := Lib.hid hw
        clear hr hC hbx hw
        go_upto_region 12 with fail
        rw [← HW.out]
        clear c0 f0 HW
        have hdm := dm_rd HRp.out.2 HK3.out.rd HK3.out.chg
        have c0 := Arr.blk_cell hdm.box 3
        have p0 := Arr.blk_cell HK3.out.blk 0
        have p1 := Arr.blk_cell HK3.out.blk 1
        have p2 := Arr.blk_cell HK3.out.blk 2
        simp only [List.getElem?_cons_zero, List.getElem?_cons_succ] at c0 p0 p1 p2
        have HD7 := Lib.hid (dm_below hdm (below_alloc w3 (.cells #[.string x0, .int .i64 x1, .int .i64 x2] 47)))
        have HRw := Lib.hid (lst_new encF_len w3 [(⟨x0, x1, x2⟩ : Tre.Fd)] #[.string x0, .int .i64 x1, .int .i64 x2] 47 _ 1 rfl rfl rfl (by omega)).row
        have HLn := Lib.hid (show xs.length + 1 ≤ maxLen ∧ (xs.length + 1) * 32 ≤ 140737488355328 by
          have h := rep_len cFd j m4
          rw [HRp.out.1] at h
          simp only at h
          unfold maxLen; omega)
        have HSz := Lib.hid (show W.heap.size + 3 ≤ (w3.alloc (.cells #[.string x0, .int .i64 x1, .int .i64 x2] 47)).heap.size by have h1 := Arr.blk_lt HD7.out.box; have h2 := HD7.out.eB; omega)
        clear hdm
        go_wp2_with (first | (at_builtin; refine Two.append_apart encF_len (by omega) encF_one rfl (.tmp 48) (.tmp 50) 22 47 rfl Try.underlying22 (.agg #[.string ⟨#[]⟩, .int .i64 0, .int .i64 0]) 32 info_fund rfl (W.heap.size + 3) _ xs rfl HD7.out.of (some ⟨w3.heap.size, 0, none⟩) 1 1 [(⟨x0, x1, x2⟩ : Tre.Fd)] rfl rfl HRw.out (fun h => by cases h) HLn.out.1 HLn.out.2 HSz.out ?_; intro v9 w9 ho9 hg9 hx9; obtain ⟨ax, cx, e9, -, -, -, -⟩ := owns_row encF_len ho9; obtain ⟨nx, hnx⟩ : ∃ nx, nx = (xs ++ [(⟨x0, x1, x2⟩ : Tre.Fd)]).length := ⟨_, rfl⟩; rw [← hnx] at e9; subst e9; clear hnx; have hb9 := blk_chg (grown_chg hg9) HD7.out.box (fun e => by have h1 := (own_hi HD7.out.of e.symm).1; have h2 := HD7.out.eB; omega); have c9 := Arr.blk_cell hb9 3; have f9 := Arr.blk_frozen hb9 3; simp only [List.getElem?_cons_zero, List.getElem?_cons_succ] at c9; have H9 := Lib.hid (dm_push_f HD7.out ho9 hg9); clear ho9 hg9 hx9 hb9) | fail)
        go_roundw
        case rel => exact ⟨k1, j + 1, xs ++ [(⟨x0, x1, x2⟩ : Tre.Fd)], t3, _, by omega, by go_num, rep_next HRp.out.1 HX.out.1, H9.out⟩
        case measure => simp [intOf]
  case rest =>
  obtain ⟨vf, hcut⟩ := hcut
  have Hc4 := Lib.hid hcut
  clear hcut Ha
  go_wp2_with fail
  refine (many_any Hc4.out.rd HN.out 16 (by omega) HE5.out.1).mono ?_
  rintro e wa ⟨rfl, hr, hC⟩
  have Ha := Lib.hid (dm_rd Hc4.out hr hC)
  clear hr hC
  go_upto_block 2 with fail
  go_cut [8] (fun _ wx => ∃ vl, Dm W wx R B ab n cc l s5 q1 q2 q3 FS LS [] [] [] vf vl (.slice none 0 0) (.slice none 0 0) (.slice none 0 0))
  case first =>
    go_wp2_with fail
    go_loopw [8] (fun iv wr => ∃ (k j : Nat) (xs : List Al) (t : RS) (v : Value), j + k = nl ∧ iv = .int .i64 (k : Nat) ∧ rep cAl j m5 = (xs, t) ∧ Dm W wr R B ab n cc l t q1 q2 q3 FS xs [] [] [] vf v (.slice none 0 0) (.slice none 0 0) (.slice none 0 0)) (fun iv _ => (intOf iv).toNat)
    case atStart => exact ⟨nl, 0, [], m5, _, by omega, rfl, rfl, Ha.out⟩
    case round =>
      obtain ⟨k, j, xs, t, v, hk, rfl, hrep, hd⟩ := hrel
      have HRp := Lib.hid (And.intro hrep hd)
      clear hrep hd
      rcases Nat.eq_zero_or_pos k with h0 | h0
      · subst h0
        have he : LS = xs ∧ s5 = t := by
          have h := HE5.out.2.symm.trans (show rep cAl nl m5 = (xs, t) by rw [← hk]; exact HRp.out.1)
          injection h with h1 h2
          exact ⟨h1, h2⟩
        obtain ⟨rfl, rfl⟩ := he
        go_wp2_with fail
        go_meet
        case rel => exact ⟨_, HRp.out.2⟩
      · obtain ⟨k1, rfl⟩ : ∃ k1, k = k1 + 1 := ⟨k - 1, by omega⟩
        have hkb : k1 ≤ 40 := by omega
        rcases hx0 : rInt t with ⟨x0, t1⟩
        rcases hx1 : rInt t1 with ⟨x1, t2⟩
        rcases hx2 : rInt t2 with ⟨x2, t3⟩
        rcases hx3 : rInt t3 with ⟨x3, t4⟩
        rcases hx4 : rInt t4 with ⟨x4, t5⟩
        rcases hx5 : rInt t5 with ⟨x5, t6⟩
        have HX := Lib.hid (And.intro (al_of hx0 hx1 hx2 hx3 hx4 hx5) (And.intro hx0 (And.intro hx1 (And.intro hx2 (And.intro hx3 (And.intro hx4 hx5))))))
        clear hx0 hx1 hx2 hx3 hx4 hx5
        go_wp2_with fail
        refine (num_any HRp.out.2.rd HN.out HX.out.2.1).mono ?_
        rintro e u0 ⟨rfl, hr, hC⟩
        have hbx := bx_new hr hC (rd_lt HRp.out.2.rd) 50 [.int .i64 x0, .int .i64 0, .int .i64 0, .int .i64 0, .int .i64 0, .int .i64 0]
        obtain ⟨g, hg⟩ : ∃ g, g = u0.heap.size := ⟨_, rfl⟩
        obtain ⟨w1, hw⟩ : ∃ z, z = u0.alloc (.cells #[.int .i64 x0, .int .i64 0, .int .i64 0, .int .i64 0, .int .i64 0, .int .i64 0] 50) := ⟨_, rfl⟩
        rw [show u0.alloc (.cells ([.int .i64 x0, .int .i64 0, .int .i64 0, .int .i64 0, .int .i64 0, .int .i64 0] : List Value).toArray 50) = w1 from hw.symm, ← hg] at hbx
        have HK1 := Lib.hid hbx
        have HW := Lib.hid hw
        clear hr hC hbx hw
        go_upto_region 17 with fail
        rw [← HW.out, ← hg]
        clear HW hg
        go_wp2_with fail
        refine (num_any HK1.out.rd HN.out HX.out.2.2.1).mono ?_
        rintro e u1 ⟨rfl, hr, hC⟩
        have hbx := bx_num HK1.out hr hC
        have c0 := Arr.blk_cell hbx.blk 1
        have f0 := Arr.blk_frozen hbx.blk 1
        simp only [List.getElem?_cons_zero, List.getElem?_cons_succ] at c0
        obtain ⟨w2, hw⟩ : ∃ z, z = u1.setCell ⟨g, 1, none⟩ (.int .i64 x1) := ⟨_, rfl⟩
        have HK2 := Lib.hid (show Bx wr w2 R ab n cc l t2 50 g [.int .i64 x0, .int .i64 x1, .int .i64 0, .int .i64 0, .int .i64 0, .int .i64 0] by rw [hw]; exact bx_set (i := 1) hbx (.int .i64 x1))
        have HW := Lib.hid hw
        clear hr hC hbx hw
        go_upto_region 18 with fail
        rw [← HW.out]
        clear c0 f0 HW
        go_wp2_with fail
        refine (num_any HK2.out.rd HN.out HX.out.2.2.2.1).mono ?_
        rintro e u2 ⟨rfl, hr, hC⟩
        have hbx := bx_num HK2.out hr hC
        have c0 := Arr.blk_cell hbx.blk 2
        have f0 := Arr.blk_frozen hbx.blk 2
        simp only [List.getElem?_cons_zero, List.getElem?_cons_succ] at c0
        obtain ⟨w3, hw⟩ : ∃ z, z = u2.setCell ⟨g, 2, none⟩ (.int .i64 x2) := ⟨_, rfl⟩
        have HK3 := Lib.hid (show Bx wr w3 R ab n cc l t3 50 g [.int .i64 x0, .int .i64 x1, .int .i64 x2, .int .i64 0, .int .i64 0, .int .i64 0] by rw [hw]; exact bx_set (i := 2) hbx (.int .i64 x2))
        have HW := Lib.hid hw
        clear hr hC hbx hw
        go_upto_region 19 with fail
        rw [← HW.out]
        clear c0 f0 HW
        go_wp2_with fail
        refine (num_any HK3.out.rd HN.out HX.out.2.2.2.2.1).mono ?_
        rintro e u3 ⟨rfl, hr, hC⟩
        have hbx := bx_num HK3.out hr hC
        have c0 := Arr.blk_cell hbx.blk 3
        have f0 := Arr.blk_frozen hbx.blk 3
        simp only [List.getElem?_cons_zero, List.getElem?_cons_succ] at c0
        obtain ⟨w4, hw⟩ : ∃ z, z = u3.setCell ⟨g, 3, none⟩ (.int .i64 x3) := ⟨_, rfl⟩
        have HK4 := Lib.hid (show Bx wr w4 R ab n cc l t4 50 g [.int .i64 x0, .int .i64 x1, .int .i64 x2, .int .i64 x3, .int .i64 0, .int .i64 0] by rw [hw]; exact bx_set (i := 3) hbx (.int .i64 x3))
        have HW := Lib.hid hw
        clear hr hC hbx hw
        go_upto_region 20 with fail
        rw [← HW.out]
        clear c0 f0 HW
        go_wp2_with fail
        refine (num_any HK4.out.rd HN.out HX.out.2.2.2.2.2.1).mono ?_
        rintro e u4 ⟨rfl, hr, hC⟩
        have hbx := bx_num HK4.out hr hC
        have c0 := Arr.blk_cell hbx.blk 4
        have f0 := Arr.blk_frozen hbx.blk 4
        simp only [List.getElem?_cons_zero, List.getElem?_cons_succ] at c0
        obtain ⟨w5, hw⟩ : ∃ z, z = u4.setCell ⟨g, 4, none⟩ (.int .i64 x4) := ⟨_, rfl⟩
        have HK5 := Lib.hid (show Bx wr w5 R ab n cc l t5 50 g [.int .i64 x0, .int .i64 x1, .int .i64 x2, .int .i64 x3, .int .i64 x4, .int .i64 0] by rw [hw]; exact bx_set (i := 4) hbx (.int .i64 x4))
        have HW := Lib.hid hw
        clear hr hC hbx hw
        go_upto_region 21 with fail
        rw [← HW.out]
        clear c0 f0 HW
        go_wp2_with fail
        refine (num_any HK5.out.rd HN.out HX.out.2.2.2.2.2.2).mono ?_
        rintro e u5 ⟨rfl, hr, hC⟩
        have hbx := bx_num HK5.out hr hC
        have c0 := Arr.blk_cell hbx.blk 5
        have f0 := Arr.blk_frozen hbx.blk 5
        simp only [List.getElem?_cons_zero, List.getElem?_cons_succ] at c0
        obtain ⟨w6, hw⟩ : ∃ z, z = u5.setCell ⟨g, 5, none⟩ (.int .i64 x5) := ⟨_, rfl⟩
        have HK6 := Lib.hid (show Bx wr w6 R ab n cc l t6 50 g [.int .i64 x0, .int .i64 x1, .int .i64 x2, .int .i64 x3, .int .i64 x4, .int .i64 x5] by rw [hw]; exact bx_set (i := 5) hbx (.int .i64 x5))
        have HW := Lib.hid hw
        clear hr hC hbx hw
        go_upto_region 22 with fail
        rw [← HW.out]
        clear c0 f0 HW
        have hdm := dm_rd HRp.out.2 HK6.out.rd HK6.out.chg
        have c0 := Arr.blk_cell hdm.box 4
        have p0 := Arr.blk_cell HK6.out.blk 0
        have p1 := Arr.blk_cell HK6.out.blk 1
        have p2 := Arr.blk_cell HK6.out.blk 2
        have p3 := Arr.blk_cell HK6.out.blk 3
        have p4 := Arr.blk_cell HK6.out.blk 4
        have p5 := Arr.blk_cell HK6.out.blk 5
        simp only [List.getElem?_cons_zero, List.getElem?_cons_succ] at c0 p0 p1 p2 p3 p4 p5
        have HD7 := Lib.hid (dm_below hdm (below_alloc w6 (.cells #[.int .i64 x0, .int .i64 x1, .int .i64 x2, .int .i64 x3, .int .i64 x4, .int .i64 x5] 50)))
        have HRw := Lib.hid (lst_new Tre.encL_len w6 [(⟨x0, x1, x2, x3, x4, x5⟩ : Al)] #[.int .i64 x0, .int .i64 x1, .int .i64 x2, .int .i64 x3, .int .i64 x4, .int .i64 x5] 50 _ 1 rfl rfl rfl (by omega)).row
        have HLn := Lib.hid (show xs.length + 1 ≤ maxLen ∧ (xs.length + 1) * 48 ≤ 140737488355328 by
          have h := rep_len cAl j m5
          rw [HRp.out.1] at h
          simp only at h
          unfold maxLen; omega)
        have HSz := Lib.hid (show W.heap.size + 3 ≤ (w6.alloc (.cells #[.int .i64 x0, .int .i64 x1, .int .i64 x2, .int .i64 x3, .int .i64 x4, .int .i64 x5] 50)).heap.size by have h1 := Arr.blk_lt HD7.out.box; have h2 := HD7.out.eB; omega)
        clear hdm
        go_wp2_with (first | (at_builtin; refine Two.append_apart Tre.encL_len (by omega) Tre.encL_one rfl (.tmp 78) (.tmp 80) 23 50 rfl Try.underlying23 (.agg #[.int .i64 0, .int .i64 0, .int .i64 0, .int .i64 0, .int .i64 0, .int .i64 0]) 48 Tre.info_al rfl (W.heap.size + 3) _ xs rfl HD7.out.ol (some ⟨w6.heap.size, 0, none⟩) 1 1 [(⟨x0, x1, x2, x3, x4, x5⟩ : Al)] rfl rfl HRw.out (fun h => by cases h) HLn.out.1 HLn.out.2 HSz.out ?_; intro v9 w9 ho9 hg9 hx9; obtain ⟨ax, cx, e9, -, -, -, -⟩ := owns_row Tre.encL_len ho9; obtain ⟨nx, hnx⟩ : ∃ nx, nx = (xs ++ [(⟨x0, x1, x2, x3, x4, x5⟩ : Al)]).length := ⟨_, rfl⟩; rw [← hnx] at e9; subst e9; clear hnx; have hb9 := blk_chg (grown_chg hg9) HD7.out.box (fun e => by have h1 := (own_hi HD7.out.ol e.symm).1; have h2 := HD7.out.eB; omega); have c9 := Arr.blk_cell hb9 4; have f9 := Arr.blk_frozen hb9 4; simp only [List.getElem?_cons_zero, List.getElem?_cons_succ] at c9; have H9 := Lib.hid (dm_push_l HD7.out ho9 hg9); clear ho9 hg9 hx9 hb9) | fail)
        go_roundw
        case rel => exact ⟨k1, j + 1, xs ++ [(⟨x0, x1, x2, x3, x4, x5⟩ : Al)], t6, _, by omega, by go_num, rep_next HRp.out.1 HX.out.1, H9.out⟩
        case measure => simp [intOf]
  case rest =>
  obtain ⟨vl, hcut⟩ := hcut
  have Hc5 := Lib.hid hcut
  clear hcut Ha
  go_wp2_with fail
  refine (many_any Hc5.out.rd HN.out 16 (by omega) HE6.out.1).mono ?_
  rintro e wa ⟨rfl, hr, hC⟩
  have Ha := Lib.hid (dm_rd Hc5.out hr hC)
  clear hr hC
  go_upto_block 4 with fail
  go_cut [10] (fun _ wx => ∃ vr, Dm W wx R B ab n cc l s6 q1 q2 q3 FS LS RS' [] [] vf vl vr (.slice none 0 0) (.slice none 0 0))
  case first =>
    go_wp2_with fail
    go_loopw [10] (fun iv wr => ∃ (k j : Nat) (xs : List Rt) (t : RS) (v : Value), j + k = nr ∧ iv = .int .i64 (k : Nat) ∧ rep cRt j m6 = (xs, t) ∧ Dm W wr R B ab n cc l t q1 q2 q3 FS LS xs [] [] vf vl v (.slice none 0 0) (.slice none 0 0)) (fun iv _ => (intOf iv).toNat)
    case atStart => exact ⟨nr, 0, [], m6, _, by omega, rfl, rfl, Ha.out⟩
    case round =>
      obtain ⟨k, j, xs, t, v, hk, rfl, hrep, hd⟩ := hrel
      have HRp := Lib.hid (And.intro hrep hd)
      clear hrep hd
      rcases Nat.eq_zero_or_pos k with h0 | h0
      · subst h0
        have he : RS' = xs ∧ s6 = t := by
          have h := HE6.out.2.symm.trans (show rep cRt nr m6 = (xs, t) by rw [← hk]; exact HRp.out.1)
          injection h with h1 h2
          exact ⟨h1, h2⟩
        obtain ⟨rfl, rfl⟩ := he
        go_wp2_with fail
        go_meet
        case rel => exact ⟨_, HRp.out.2⟩
      · obtain ⟨k1, rfl⟩ : ∃ k1, k = k1 + 1 := ⟨k - 1, by omega⟩
        have hkb : k1 ≤ 40 := by omega
        rcases hx0 : rInt t with ⟨x0, t1⟩
        rcases hx1 : rInt t1 with ⟨x1, t2⟩
        rcases hx2 : rInt t2 with ⟨x2, t3⟩
        have HX := Lib.hid (And.intro (rt_of hx0 hx1 hx2) (And.intro hx0 (And.intro hx1 hx2)))
        clear hx0 hx1 hx2
        go_wp2_with fail
        refine (num_any HRp.out.2.rd HN.out HX.out.2.1).mono ?_
        rintro e u0 ⟨rfl, hr, hC⟩
        have hbx := bx_new hr hC (rd_lt HRp.out.2.rd) 52 [.int .i64 x0, .int .i64 0, .int .i64 0]
        obtain ⟨g, hg⟩ : ∃ g, g = u0.heap.size := ⟨_, rfl⟩
        obtain ⟨w1, hw⟩ : ∃ z, z = u0.alloc (.cells #[.int .i64 x0, .int .i64 0, .int .i64 0] 52) := ⟨_, rfl⟩
        rw [show u0.alloc (.cells ([.int .i64 x0, .int .i64 0, .int .i64 0] : List Value).toArray 52) = w1 from hw.symm, ← hg] at hbx
        have HK1 := Lib.hid hbx
        have HW := Lib.hid hw
        clear hr hC hbx hw
        go_upto_region 27 with fail
        rw [← HW.out, ← hg]
        clear HW hg
        go_wp2_with fail
        refine (num_any HK1.out.rd HN.out HX.out.2.2.1).mono ?_
        rintro e u1 ⟨rfl, hr, hC⟩
        have hbx := bx_num HK1.out hr hC
        have c0 := Arr.blk_cell hbx.blk 1
        have f0 := Arr.blk_frozen hbx.blk 1
        simp only [List.getElem?_cons_zero, List.getElem?_cons_succ] at c0
        obtain ⟨w2, hw⟩ : ∃ z, z = u1.setCell ⟨g, 1, none⟩ (.int .i64 x1) := ⟨_, rfl⟩
        have HK2 := Lib.hid (show Bx wr w2 R ab n cc l t2 52 g [.int .i64 x0, .int .i64 x1, .int .i64 0] by rw [hw]; exact bx_set (i := 1) hbx (.int .i64 x1))
        have HW := Lib.hid hw
        clear hr hC hbx hw
        go_upto_region 28 with fail
        rw [← HW.out]
        clear c0 f0 HW
        go_wp2_with fail
        refine (num_any HK2.out.rd HN.out HX.out.2.2.2).mono ?_
        rintro e u2 ⟨rfl, hr, hC⟩
        have hbx := bx_num HK2.out hr hC
        have c0 := Arr.blk_cell hbx.blk 2
        have f0 := Arr.blk_frozen hbx.blk 2
        simp only [List.getElem?_cons_zero, List.getElem?_cons_succ] at c0
        obtain ⟨w3, hw⟩ : ∃ z, z = u2.setCell ⟨g, 2, none⟩ (.int .i64 x2) := ⟨_, rfl⟩
        have HK3 := Lib.hid (show Bx wr w3 R ab n cc l t3 52 g [.int .i64 x0, .int .i64 x1, .int .i64 x2] by rw [hw]; exact bx_set (i := 2) hbx (.int .i64 x2))
        have HW := Lib.hid hw
        clear hr hC hbx hw
        go_upto_region 29 with fail
        rw [← HW.out]
        clear c0 f0 HW
        have hdm := dm_rd HRp.out.2 HK3.out.rd HK3.out.chg
        have c0 := Arr.blk_cell hdm.box 5
        have p0 := Arr.blk_cell HK3.out.blk 0
        have p1 := Arr.blk_cell HK3.out.blk 1
        have p2 := Arr.blk_cell HK3.out.blk 2
        simp only [List.getElem?_cons_zero, List.getElem?_cons_succ] at c0 p0 p1 p2
        have HD7 := Lib.hid (dm_below hdm (below_alloc w3 (.cells #[.int .i64 x0, .int .i64 x1, .int .i64 x2] 52)))
        have HRw := Lib.hid (lst_new encR_len w3 [(⟨x0, x1, x2⟩ : Rt)] #[.int .i64 x0, .int .i64 x1, .int .i64 x2] 52 _ 1 rfl rfl rfl (by omega)).row
        have HLn := Lib.hid (show xs.length + 1 ≤ maxLen ∧ (xs.length + 1) * 24 ≤ 140737488355328 by
          have h := rep_len cRt j m6
          rw [HRp.out.1] at h
          simp only at h
          unfold maxLen; omega)
        have HSz := Lib.hid (show W.heap.size + 3 ≤ (w3.alloc (.cells #[.int .i64 x0, .int .i64 x1, .int .i64 x2] 52)).heap.size by have h1 := Arr.blk_lt HD7.out.box; have h2 := HD7.out.eB; omega)
        clear hdm
        go_wp2_with (first | (at_builtin; refine Two.append_apart encR_len (by omega) Rte.encR_one rfl (.tmp 99) (.tmp 101) 24 52 rfl Try.underlying24 (.agg #[.int .i64 0, .int .i64 0, .int .i64 0]) 24 Rte.info_rate rfl (W.heap.size + 3) _ xs rfl HD7.out.or (some ⟨w3.heap.size, 0, none⟩) 1 1 [(⟨x0, x1, x2⟩ : Rt)] rfl rfl HRw.out (fun h => by cases h) HLn.out.1 HLn.out.2 HSz.out ?_; intro v9 w9 ho9 hg9 hx9; obtain ⟨ax, cx, e9, -, -, -, -⟩ := owns_row encR_len ho9; obtain ⟨nx, hnx⟩ : ∃ nx, nx = (xs ++ [(⟨x0, x1, x2⟩ : Rt)]).length := ⟨_, rfl⟩; rw [← hnx] at e9; subst e9; clear hnx; have hb9 := blk_chg (grown_chg hg9) HD7.out.box (fun e => by have h1 := (own_hi HD7.out.or e.symm).1; have h2 := HD7.out.eB; omega); have c9 := Arr.blk_cell hb9 5; have f9 := Arr.blk_frozen hb9 5; simp only [List.getElem?_cons_zero, List.getElem?_cons_succ] at c9; have H9 := Lib.hid (dm_push_r HD7.out ho9 hg9); clear ho9 hg9 hx9 hb9) | fail)
        go_roundw
        case rel => exact ⟨k1, j + 1, xs ++ [(⟨x0, x1, x2⟩ : Rt)], t3, _, by omega, by go_num, rep_next HRp.out.1 HX.out.1, H9.out⟩
        case measure => simp [intOf]
  case rest =>
  obtain ⟨vr, hcut⟩ := hcut
  have Hc6 := Lib.hid hcut
  clear hcut Ha
  go_wp2_with fail
  refine (many_any Hc6.out.rd HN.out 16 (by omega) HE7.out.1).mono ?_
  rintro e wa ⟨rfl, hr, hC⟩
  have Ha := Lib.hid (dm_rd Hc6.out hr hC)
  clear hr hC
  go_upto_block 6 with fail
  go_cut [12] (fun _ wx => ∃ (js : List Jv) (vj : Value), js.map (·.t) = JS ∧ Dm W wx R B ab n cc l s7 q1 q2 q3 FS LS RS' js [] vf vl vr vj (.slice none 0 0))
  case first =>
    go_wp2_with fail
    go_loopw [12] (fun iv wr => ∃ (k j : Nat) (js : List Jv) (t : RS) (v : Value), j + k = nj ∧ iv = .int .i64 (k : Nat) ∧ rep cJb j m7 = (js.map (·.t), t) ∧ Dm W wr R B ab n cc l t q1 q2 q3 FS LS RS' js [] vf vl vr v (.slice none 0 0)) (fun iv _ => (intOf iv).toNat)
    case atStart => exact ⟨nj, 0, [], m7, _, by omega, rfl, rfl, Ha.out⟩
    case round =>
      obtain ⟨k, j, js, t, v, hk, rfl, hrep, hd⟩ := hrel
      have HRp := Lib.hid (And.intro hrep hd)
      clear hrep hd
      rcases Nat.eq_zero_or_pos k with h0 | h0
      · subst h0
        have he : JS = js.map (·.t) ∧ s7 = t := by
          have h := HE7.out.2.symm.trans (show rep cJb nj m7 = (js.map (·.t), t) by rw [← hk]; exact HRp.out.1)
          injection h with h1 h2
          exact ⟨h1, h2⟩
        have HEj := Lib.hid he.1.symm
        obtain rfl := he.2
        clear he
        go_wp2_with fail
        go_meet
        case rel => exact ⟨js, _, HEj.out, HRp.out.2⟩
      · have hk0 : (0 : Int) < (k : Int) := by omega
        have hkb : k ≤ 40 := by omega
        obtain ⟨w0, rfl⟩ : ∃ z, z = wr := ⟨_, rfl⟩
        rcases hx1 : rep cInt 11 t with ⟨X, t1⟩
        rcases hx2 : rMany 16 t1 with ⟨nd, t2⟩
        rcases hx3 : rep cDw nd t2 with ⟨DS, t3⟩
        have HX := Lib.hid (And.intro (jb_of hx1 (lst_of hx2 hx3)) (And.intro hx1 (And.intro hx2 hx3)))
        clear hx1 hx2 hx3
        go_upto_block 8 with fail
        go_cut [13] (fun lv wx => Rd wx R ab n cc l t1 ∧ Chg (fun k => k = R) w0 wx ∧ Owns Tre.encI 1 3 wx w0.heap.size lv X)
        case first =>
          have HNw := Lib.hid (show Owns Tre.encI 1 3 (w0.alloc (.cells #[] 3)) w0.heap.size (.slice (some ⟨w0.heap.size, 0, none⟩) 0 0) [] from ⟨rfl, .inr ⟨w0.heap.size, 0, _, rfl, Nat.le_refl _, heap_alloc_new w0 _, Nat.le_refl _, by unfold maxLen; omega, rfl, rfl⟩⟩)
          go_wp2_with fail
          go_loopw [13, 14] (fun lv iv wi => ∃ (i : Nat) (xs : List Int) (tt : RS), i ≤ 11 ∧ iv = .int .i64 (i : Nat) ∧ rep cInt i t = (xs, tt) ∧ Rd wi R ab n cc l tt ∧ Chg (fun k => k = R) w0 wi ∧ Owns Tre.encI 1 3 wi w0.heap.size lv xs) (fun _ iv _ => 11 - (intOf iv).toNat)
          case atStart => exact ⟨0, [], t, by omega, rfl, rfl, rd_keep HRp.out.2.rd (below_alloc _ _), chg_alloc (chg_refl _ _) _, HNw.out⟩
          case round =>
            obtain ⟨i, xs, tt, hi, rfl, hrep, hrd, hC, ho⟩ := hrel
            have HI := Lib.hid (And.intro hrep (And.intro hrd (And.intro hC ho)))
            clear hrep hrd hC ho
            by_cases hlt : i < 11
            · rcases hx : rInt tt with ⟨x, t'⟩
              have HXx := Lib.hid hx
              have HNu := Lib.hid (num_any HI.out.2.1 HN.out hx)
              have HLx := Lib.hid (show xs.length ≤ 11 by have h := rep_len cInt i t; rw [HI.out.1] at h; simp only at h; omega)
              clear hx
              go_wp2_with fail
              refine HNu.out.mono ?_
              rintro e u0 ⟨rfl, hr, hC⟩
              have hR := rd_lt HRp.out.2.rd
              have ho := own_chg hC HI.out.2.2.2 (fun g hg e => by have := (own_hi HI.out.2.2.2 hg).1; omega)
              have HU := Lib.hid (And.intro (rd_keep hr (below_alloc u0 (.cells #[.int .i64 x] 3))) (And.intro (chg_alloc (chg_trans HI.out.2.2.1 hC fun y hy => .inl hy) (.cells #[.int .i64 x] 3)) (Kit.owns_alloc ho (.cells #[.int .i64 x] 3))))
              have HRw := Lib.hid (lst_new Tre.encI_len u0 [x] #[.int .i64 x] 3 _ 1 rfl rfl rfl (by omega)).row
              have HLn := Lib.hid (show xs.length + 1 ≤ maxLen ∧ (xs.length + 1) * 8 ≤ 140737488355328 by have := HLx.out; unfold maxLen; omega)
              have HSz := Lib.hid HU.out.2.1.size
              have HRl := Lib.hid hR
              clear hr hC ho hR HNu
              go_wp2_with (first | (at_builtin; refine Two.append_apart Tre.encI_len (by omega) Tre.encI_one rfl (.tmp 115) (.tmp 118) 58 3 rfl Try.underlying58 (.int .i64 0) 8 Tre.info_i rfl w0.heap.size _ xs rfl HU.out.2.2 (some ⟨u0.heap.size, 0, none⟩) 1 1 [x] rfl rfl HRw.out (fun h => by cases h) HLn.out.1 HLn.out.2 HSz.out ?_; intro v9 w9 ho9 hg9 hx9; have H9 := Lib.hid (And.intro (rd_chg HU.out.1 (grown_chg hg9) (fun k hk => by have h1 := (own_hi HU.out.2.2 hk.symm).1; have h2 := HRl.out; omega)) (And.intro (chg_grown HU.out.2.1 hg9 fun k hk => .inr (own_hi HU.out.2.2 hk).1) ho9)); clear ho9 hg9 hx9) | fail)
              go_roundw
              case rel => exact ⟨i + 1, xs ++ [x], t', by omega, by go_num, rep_next HI.out.1 HXx.out, H9.out.1, H9.out.2.1, H9.out.2.2⟩
              case measure => simp [intOf]; omega
            · obtain rfl : i = 11 := by omega
              have he := HX.out.2.1.symm.trans HI.out.1
              injection he with e1 e2
              subst e1 e2
              go_wp2_with fail
              go_meet
              case rel => exact ⟨HI.out.2.1, HI.out.2.2.1, HI.out.2.2.2⟩
        case rest =>
        obtain ⟨hr, hC, ho⟩ := hcut
        obtain ⟨w1, rfl⟩ : ∃ z, z = wc := ⟨_, rfl⟩
        have hXl : X.length = 11 := by have h := rep_len cInt 11 t; rw [HX.out.2.1] at h; exact h
        obtain ⟨x0, x1, x2, x3, x4, x5, x6, x7, x8, x9, x10, rfl⟩ := eleven_list hXl
        obtain ⟨gX, cX, rfl, -, -, -⟩ := owns_at Tre.encI_len ho (by simp)
        have HXc := Lib.hid (eleven_cells ho)
        have HR1 := Lib.hid (And.intro hr hC)
        have HRl := Lib.hid (rd_lt HRp.out.2.rd)
        clear hr hC ho hXl
        go_wp2_with fail
        refine Rel.wp_region_last (G := Rel.Gr) _ (Rel.tab [.is (.slice (some ⟨gX, 0, none⟩) 11 cX), .is (.pointer (some ⟨gX, 0, none⟩)), .is (.int .i64 x0), .is (.slice (some ⟨gX, 0, none⟩) 11 cX), .is (.pointer (some ⟨gX, 1, none⟩)), .is (.int .i64 x1), .is (.slice (some ⟨gX, 0, none⟩) 11 cX), .is (.pointer (some ⟨gX, 2, none⟩)), .is (.int .i64 x2), .is (.slice (some ⟨gX, 0, none⟩) 11 cX), .is (.pointer (some ⟨gX, 3, none⟩)), .is (.int .i64 x3), .is (.slice (some ⟨gX, 0, none⟩) 11 cX), .is (.pointer (some ⟨gX, 4, none⟩)), .is (.int .i64 x4), .is (.slice (some ⟨gX, 0, none⟩) 11 cX), .is (.pointer (some ⟨gX, 5, none⟩)), .is (.int .i64 x5), .is (.slice (some ⟨gX, 0, none⟩) 11 cX), .is (.pointer (some ⟨gX, 6, none⟩)), .is (.int .i64 x6), .is (.slice (some ⟨gX, 0, none⟩) 11 cX), .is (.pointer (some ⟨gX, 7, none⟩)), .is (.int .i64 x7), .is (.slice (some ⟨gX, 0, none⟩) 11 cX), .is (.pointer (some ⟨gX, 8, none⟩)), .is (.int .i64 x8), .is (.slice (some ⟨gX, 0, none⟩) 11 cX), .is (.pointer (some ⟨gX, 9, none⟩)), .is (.int .i64 x9), .is (.slice (some ⟨gX, 0, none⟩) 11 cX), .is (.pointer (some ⟨gX, 10, none⟩)), .is (.int .i64 x10), .is (.agg #[.int .i64 x0, .int .i64 x1, .int .i64 x2, .int .i64 x3, .int .i64 x4, .int .i64 x5, .int .i64 x6, .int .i64 x7, .int .i64 x8, .int .i64 x9, .int .i64 x10, .slice none 0 0]), kJ w1.heap.size]) (fun _ w => Below w1.heap.size w1 w) (by kernel_rfl) rfl (by kernel_rfl) (by kernel_rfl) (by kernel_rfl) (by kernel_rfl) (by kernel_rfl) (below_drew _) ?_ ?_
        · refine ⟨?_, ?_, ?_, ?_, ?_, ?_, ?_, ?_, ?_, ?_, ?_, ?_, ?_, ?_, ?_, ?_, ?_, ?_, ?_, ?_, ?_, ?_, ?_, ?_, ?_, ?_, ?_, ?_, ?_, ?_, ?_, ?_, ?_, ?_, ?_, trivial⟩
          · intro L a w c
            refine .inl ⟨Rel.wanted_free (by kernel_rfl) _, ?_⟩
            exact Rel.wp_mv _ rfl ⟨_, rfl, Rel.gr_refl _, (c.old 13 (v := .slice (some ⟨gX, 0, none⟩) 11 cX) (by kernel_rfl) (by kernel_rfl)), c.inv⟩
          · intro L a w c
            refine .inl ⟨Rel.wanted_free (by kernel_rfl) _, ?_⟩
            exact Rel.wp_ia _ _ _ rfl (c.get 0 120 (by kernel_rfl)) rfl (run_iac (k := 0) (by decide) rfl w) ⟨_, rfl, Rel.gr_refl _, rfl, c.inv⟩
          · intro L a w c
            refine .inl ⟨Rel.wanted_free (by kernel_rfl) _, ?_⟩
            exact Rel.wp_ld _ _ rfl (c.get 1 121 (by kernel_rfl)) (run_ld2 (cell_keep c.inv (HXc.out 0 _ rfl))) ⟨_, rfl, Rel.gr_refl _, rfl, c.inv⟩
          · intro L a w c
            refine .inl ⟨Rel.wanted_free (by kernel_rfl) _, ?_⟩
            exact Rel.wp_mv _ rfl ⟨_, rfl, Rel.gr_refl _, (c.old 13 (v := .slice (some ⟨gX, 0, none⟩) 11 cX) (by kernel_rfl) (by kernel_rfl)), c.inv⟩
          · intro L a w c
            refine .inl ⟨Rel.wanted_free (by kernel_rfl) _, ?_⟩
            exact Rel.wp_ia _ _ _ rfl (c.get 3 123 (by kernel_rfl)) rfl (run_iac (k := 1) (by decide) rfl w) ⟨_, rfl, Rel.gr_refl _, rfl, c.inv⟩
          · intro L a w c
            refine .inl ⟨Rel.wanted_free (by kernel_rfl) _, ?_⟩
            exact Rel.wp_ld _ _ rfl (c.get 4 124 (by kernel_rfl)) (run_ld2 (cell_keep c.inv (HXc.out 1 _ rfl))) ⟨_, rfl, Rel.gr_refl _, rfl, c.inv⟩
          · intro L a w c
            refine .inl ⟨Rel.wanted_free (by kernel_rfl) _, ?_⟩
            exact Rel.wp_mv _ rfl ⟨_, rfl, Rel.gr_refl _, (c.old 13 (v := .slice (some ⟨gX, 0, none⟩) 11 cX) (by kernel_rfl) (by kernel_rfl)), c.inv⟩
          · intro L a w c
            refine .inl ⟨Rel.wanted_free (by kernel_rfl) _, ?_⟩
            exact Rel.wp_ia _ _ _ rfl (c.get 6 126 (by kernel_rfl)) rfl (run_iac (k := 2) (by decide) rfl w) ⟨_, rfl, Rel.gr_refl _, rfl, c.inv⟩
          · intro L a w c
            refine .inl ⟨Rel.wanted_free (by kernel_rfl) _, ?_⟩
            exact Rel.wp_ld _ _ rfl (c.get 7 127 (by kernel_rfl)) (run_ld2 (cell_keep c.inv (HXc.out 2 _ rfl))) ⟨_, rfl, Rel.gr_refl _, rfl, c.inv⟩
          · intro L a w c
            refine .inl ⟨Rel.wanted_free (by kernel_rfl) _, ?_⟩
            exact Rel.wp_mv _ rfl ⟨_, rfl, Rel.gr_refl _, (c.old 13 (v := .slice (some ⟨gX, 0, none⟩) 11 cX) (by kernel_rfl) (by kernel_rfl)), c.inv⟩
          · intro L a w c
            refine .inl ⟨Rel.wanted_free (by kernel_rfl) _, ?_⟩
            exact Rel.wp_ia _ _ _ rfl (c.get 9 129 (by kernel_rfl)) rfl (run_iac (k := 3) (by decide) rfl w) ⟨_, rfl, Rel.gr_refl _, rfl, c.inv⟩
          · intro L a w c
            refine .inl ⟨Rel.wanted_free (by kernel_rfl) _, ?_⟩
            exact Rel.wp_ld _ _ rfl (c.get 10 130 (by kernel_rfl)) (run_ld2 (cell_keep c.inv (HXc.out 3 _ rfl))) ⟨_, rfl, Rel.gr_refl _, rfl, c.inv⟩
          · intro L a w c
            refine .inl ⟨Rel.wanted_free (by kernel_rfl) _, ?_⟩
            exact Rel.wp_mv _ rfl ⟨_, rfl, Rel.gr_refl _, (c.old 13 (v := .slice (some ⟨gX, 0, none⟩) 11 cX) (by kernel_rfl) (by kernel_rfl)), c.inv⟩
          · intro L a w c
            refine .inl ⟨Rel.wanted_free (by kernel_rfl) _, ?_⟩
            exact Rel.wp_ia _ _ _ rfl (c.get 12 132 (by kernel_rfl)) rfl (run_iac (k := 4) (by decide) rfl w) ⟨_, rfl, Rel.gr_refl _, rfl, c.inv⟩
          · intro L a w c
            refine .inl ⟨Rel.wanted_free (by kernel_rfl) _, ?_⟩
            exact Rel.wp_ld _ _ rfl (c.get 13 133 (by kernel_rfl)) (run_ld2 (cell_keep c.inv (HXc.out 4 _ rfl))) ⟨_, rfl, Rel.gr_refl _, rfl, c.inv⟩
          · intro L a w c
            refine .inl ⟨Rel.wanted_free (by kernel_rfl) _, ?_⟩
            exact Rel.wp_mv _ rfl ⟨_, rfl, Rel.gr_refl _, (c.old 13 (v := .slice (some ⟨gX, 0, none⟩) 11 cX) (by kernel_rfl) (by kernel_rfl)), c.inv⟩
          · intro L a w c
            refine .inl ⟨Rel.wanted_free (by kernel_rfl) _, ?_⟩
            exact Rel.wp_ia _ _ _ rfl (c.get 15 135 (by kernel_rfl)) rfl (run_iac (k := 5) (by decide) rfl w) ⟨_, rfl, Rel.gr_refl _, rfl, c.inv⟩
          · intro L a w c
            refine .inl ⟨Rel.wanted_free (by kernel_rfl) _, ?_⟩
            exact Rel.wp_ld _ _ rfl (c.get 16 136 (by kernel_rfl)) (run_ld2 (cell_keep c.inv (HXc.out 5 _ rfl))) ⟨_, rfl, Rel.gr_refl _, rfl, c.inv⟩
          · intro L a w c
            refine .inl ⟨Rel.wanted_free (by kernel_rfl) _, ?_⟩
            exact Rel.wp_mv _ rfl ⟨_, rfl, Rel.gr_refl _, (c.old 13 (v := .slice (some ⟨gX, 0, none⟩) 11 cX) (by kernel_rfl) (by kernel_rfl)), c.inv⟩
          · intro L a w c
            refine .inl ⟨Rel.wanted_free (by kernel_rfl) _, ?_⟩
            exact Rel.wp_ia _ _ _ rfl (c.get 18 138 (by kernel_rfl)) rfl (run_iac (k := 6) (by decide) rfl w) ⟨_, rfl, Rel.gr_refl _, rfl, c.inv⟩
          · intro L a w c
            refine .inl ⟨Rel.wanted_free (by kernel_rfl) _, ?_⟩
            exact Rel.wp_ld _ _ rfl (c.get 19 139 (by kernel_rfl)) (run_ld2 (cell_keep c.inv (HXc.out 6 _ rfl))) ⟨_, rfl, Rel.gr_refl _, rfl, c.inv⟩
          · intro L a w c
            refine .inl ⟨Rel.wanted_free (by kernel_rfl) _, ?_⟩
            exact Rel.wp_mv _ rfl ⟨_, rfl, Rel.gr_refl _, (c.old 13 (v := .slice (some ⟨gX, 0, none⟩) 11 cX) (by kernel_rfl) (by kernel_rfl)), c.inv⟩
          · intro L a w c
            refine .inl ⟨Rel.wanted_free (by kernel_rfl) _, ?_⟩
            exact Rel.wp_ia _ _ _ rfl (c.get 21 141 (by kernel_rfl)) rfl (run_iac (k := 7) (by decide) rfl w) ⟨_, rfl, Rel.gr_refl _, rfl, c.inv⟩
          · intro L a w c
            refine .inl ⟨Rel.wanted_free (by kernel_rfl) _, ?_⟩
            exact Rel.wp_ld _ _ rfl (c.get 22 142 (by kernel_rfl)) (run_ld2 (cell_keep c.inv (HXc.out 7 _ rfl))) ⟨_, rfl, Rel.gr_refl _, rfl, c.inv⟩
          · intro L a w c
            refine .inl ⟨Rel.wanted_free (by kernel_rfl) _, ?_⟩
            exact Rel.wp_mv _ rfl ⟨_, rfl, Rel.gr_refl _, (c.old 13 (v := .slice (some ⟨gX, 0, none⟩) 11 cX) (by kernel_rfl) (by kernel_rfl)), c.inv⟩
          · intro L a w c
            refine .inl ⟨Rel.wanted_free (by kernel_rfl) _, ?_⟩
            exact Rel.wp_ia _ _ _ rfl (c.get 24 144 (by kernel_rfl)) rfl (run_iac (k := 8) (by decide) rfl w) ⟨_, rfl, Rel.gr_refl _, rfl, c.inv⟩
          · intro L a w c
            refine .inl ⟨Rel.wanted_free (by kernel_rfl) _, ?_⟩
            exact Rel.wp_ld _ _ rfl (c.get 25 145 (by kernel_rfl)) (run_ld2 (cell_keep c.inv (HXc.out 8 _ rfl))) ⟨_, rfl, Rel.gr_refl _, rfl, c.inv⟩
          · intro L a w c
            refine .inl ⟨Rel.wanted_free (by kernel_rfl) _, ?_⟩
            exact Rel.wp_mv _ rfl ⟨_, rfl, Rel.gr_refl _, (c.old 13 (v := .slice (some ⟨gX, 0, none⟩) 11 cX) (by kernel_rfl) (by kernel_rfl)), c.inv⟩
          · intro L a w c
            refine .inl ⟨Rel.wanted_free (by kernel_rfl) _, ?_⟩
            exact Rel.wp_ia _ _ _ rfl (c.get 27 147 (by kernel_rfl)) rfl (run_iac (k := 9) (by decide) rfl w) ⟨_, rfl, Rel.gr_refl _, rfl, c.inv⟩
          · intro L a w c
            refine .inl ⟨Rel.wanted_free (by kernel_rfl) _, ?_⟩
            exact Rel.wp_ld _ _ rfl (c.get 28 148 (by kernel_rfl)) (run_ld2 (cell_keep c.inv (HXc.out 9 _ rfl))) ⟨_, rfl, Rel.gr_refl _, rfl, c.inv⟩
          · intro L a w c
            refine .inl ⟨Rel.wanted_free (by kernel_rfl) _, ?_⟩
            exact Rel.wp_mv _ rfl ⟨_, rfl, Rel.gr_refl _, (c.old 13 (v := .slice (some ⟨gX, 0, none⟩) 11 cX) (by kernel_rfl) (by kernel_rfl)), c.inv⟩
          · intro L a w c
            refine .inl ⟨Rel.wanted_free (by kernel_rfl) _, ?_⟩
            exact Rel.wp_ia _ _ _ rfl (c.get 30 150 (by kernel_rfl)) rfl (run_iac (k := 10) (by decide) rfl w) ⟨_, rfl, Rel.gr_refl _, rfl, c.inv⟩
          · intro L a w c
            refine .inl ⟨Rel.wanted_free (by kernel_rfl) _, ?_⟩
            exact Rel.wp_ld _ _ rfl (c.get 31 151 (by kernel_rfl)) (run_ld2 (cell_keep c.inv (HXc.out 10 _ rfl))) ⟨_, rfl, Rel.gr_refl _, rfl, c.inv⟩
          · intro L a w c
            refine .inl ⟨Rel.wanted_free (by kernel_rfl) _, ?_⟩
            exact wp_bd11 _ _ _ _ _ _ _ _ _ _ _ _ rfl (Rel.eval_tmp (c.get 2 122 (by kernel_rfl))) (Rel.eval_tmp (c.get 5 125 (by kernel_rfl))) (Rel.eval_tmp (c.get 8 128 (by kernel_rfl))) (Rel.eval_tmp (c.get 11 131 (by kernel_rfl))) (Rel.eval_tmp (c.get 14 134 (by kernel_rfl))) (Rel.eval_tmp (c.get 17 137 (by kernel_rfl))) (Rel.eval_tmp (c.get 20 140 (by kernel_rfl))) (Rel.eval_tmp (c.get 23 143 (by kernel_rfl))) (Rel.eval_tmp (c.get 26 146 (by kernel_rfl))) (Rel.eval_tmp (c.get 29 149 (by kernel_rfl))) (Rel.eval_tmp (c.get 32 152 (by kernel_rfl))) (run_build11 _ _ _ _ _ _ _ _ _ _ _ w) ⟨_, rfl, Rel.gr_refl _, rfl, c.inv⟩
          · intro L a w c
            refine .inl ⟨Rel.wanted_free (by kernel_rfl) _, ?_⟩
            exact Rel.wp_al _ rfl (run_alloc_jb w) ⟨_, rfl, below_alloc _ _, ⟨_, rfl, c.inv.size, Arr.blk_new w _ _ zeroJ rfl⟩, below_keep c.inv (below_alloc _ _)⟩
        intro a w4 hbase hroom hdef hJ hV
        have s153 : Rel.slot a 153 = .agg #[.int .i64 x0, .int .i64 x1, .int .i64 x2, .int .i64 x3, .int .i64 x4, .int .i64 x5, .int .i64 x6, .int .i64 x7, .int .i64 x8, .int .i64 x9, .int .i64 x10, .slice none 0 0] := hV 33 _ _ rfl rfl
        have k15 : (kJ w1.heap.size : Rel.Kd (Rel.Gr)).p w4 (Rel.slot a 15) := hV 34 _ _ rfl rfl
        rw [Chn.act_puts [120, 121, 122, 123, 124, 125, 126, 127, 128, 129, 130, 131, 132, 133, 134, 135, 136, 137, 138, 139, 140, 141, 142, 143, 144, 145, 146, 147, 148, 149, 150, 151, 152, 153, 15] hbase hroom hdef (by kernel_rfl)]
        clear hbase hroom hdef hV
        simp only [List.foldl_cons, List.foldl_nil]
        generalize Rel.slot a 120 = u120 at *
        generalize Rel.slot a 121 = u121 at *
        generalize Rel.slot a 122 = u122 at *
        generalize Rel.slot a 123 = u123 at *
        generalize Rel.slot a 124 = u124 at *
        generalize Rel.slot a 125 = u125 at *
        generalize Rel.slot a 126 = u126 at *
        generalize Rel.slot a 127 = u127 at *
        generalize Rel.slot a 128 = u128 at *
        generalize Rel.slot a 129 = u129 at *
        generalize Rel.slot a 130 = u130 at *
        generalize Rel.slot a 131 = u131 at *
        generalize Rel.slot a 132 = u132 at *
        generalize Rel.slot a 133 = u133 at *
        generalize Rel.slot a 134 = u134 at *
        generalize Rel.slot a 135 = u135 at *
        generalize Rel.slot a 136 = u136 at *
        generalize Rel.slot a 137 = u137 at *
        generalize Rel.slot a 138 = u138 at *
        generalize Rel.slot a 139 = u139 at *
        generalize Rel.slot a 140 = u140 at *
        generalize Rel.slot a 141 = u141 at *
        generalize Rel.slot a 142 = u142 at *
        generalize Rel.slot a 143 = u143 at *
        generalize Rel.slot a 144 = u144 at *
        generalize Rel.slot a 145 = u145 at *
        generalize Rel.slot a 146 = u146 at *
        generalize Rel.slot a 147 = u147 at *
        generalize Rel.slot a 148 = u148 at *
        generalize Rel.slot a 149 = u149 at *
        generalize Rel.slot a 150 = u150 at *
        generalize Rel.slot a 151 = u151 at *
        generalize Rel.slot a 152 = u152 at *
        rw [s153]
        clear s153
        generalize Rel.slot a 15 = u15 at *
        simp only [Act.put, List.setIfInBounds_toArray, List.set_cons_succ, List.set_cons_zero]
        obtain ⟨g, rfl, hg, hblk⟩ := k15
        dsimp only [List.getLast]
        have hbx := bx_job HR1.out.1 HR1.out.2 hJ hg hblk HRl.out [.int .i64 x0, .int .i64 x1, .int .i64 x2, .int .i64 x3, .int .i64 x4, .int .i64 x5, .int .i64 x6, .int .i64 x7, .int .i64 x8, .int .i64 x9, .int .i64 x10, .slice none 0 0]
        refine wp_store_row 55 (.tmp 15) (.tmp 153) rfl g #[.int .i64 x0, .int .i64 x1, .int .i64 x2, .int .i64 x3, .int .i64 x4, .int .i64 x5, .int .i64 x6, .int .i64 x7, .int .i64 x8, .int .i64 x9, .int .i64 x10, .slice none 0 0] rfl rfl 55 zeroJ.toArray hblk info_jobS rfl (by simp [Value.oneCell']) ?_
        obtain ⟨w5, hw5⟩ : ∃ x, x = w4.setRow g #[.int .i64 x0, .int .i64 x1, .int .i64 x2, .int .i64 x3, .int .i64 x4, .int .i64 x5, .int .i64 x6, .int .i64 x7, .int .i64 x8, .int .i64 x9, .int .i64 x10, .slice none 0 0] := ⟨_, rfl⟩
        rw [show w4.setRow g [.int .i64 x0, .int .i64 x1, .int .i64 x2, .int .i64 x3, .int .i64 x4, .int .i64 x5, .int .i64 x6, .int .i64 x7, .int .i64 x8, .int .i64 x9, .int .i64 x10, .slice none 0 0].toArray = w5 from hw5.symm] at hbx
        rw [← hw5]
        have H5 := Lib.hid hbx
        clear hbx hw5 hblk hg hJ HXc
        go_wp2_with fail
        refine (many_any H5.out.rd HN.out 16 (by omega) HX.out.2.2.1).mono ?_
        rintro e w6 ⟨rfl, hr, hC⟩
        have H6 := Lib.hid (bx_num H5.out hr hC)
        clear hr hC
        go_upto_block 10 with fail
        go_cut [16] (fun _ wx => ∃ v, Bx w0 wx R ab n cc l t3 55 g [.int .i64 x0, .int .i64 x1, .int .i64 x2, .int .i64 x3, .int .i64 x4, .int .i64 x5, .int .i64 x6, .int .i64 x7, .int .i64 x8, .int .i64 x9, .int .i64 x10, v] ∧ Owns encD 2 60 wx w0.heap.size v DS)
        case first =>
          go_wp2_with fail
          go_loopw [16] (fun iv wi => ∃ (kd jd : Nat) (xs : List Dw) (tt : RS) (v : Value), jd + kd = nd ∧ iv = .int .i64 (kd : Nat) ∧ rep cDw jd t2 = (xs, tt) ∧ Bx w0 wi R ab n cc l tt 55 g [.int .i64 x0, .int .i64 x1, .int .i64 x2, .int .i64 x3, .int .i64 x4, .int .i64 x5, .int .i64 x6, .int .i64 x7, .int .i64 x8, .int .i64 x9, .int .i64 x10, v] ∧ Owns encD 2 60 wi w0.heap.size v xs) (fun iv _ => (intOf iv).toNat)
          case atStart => exact ⟨nd, 0, [], t2, _, by omega, rfl, rfl, H6.out, owns_nil _ _ _⟩
          case round =>
            obtain ⟨kd, jd, xs, tt, v, hkd, rfl, hrep, hbx, hown⟩ := hrel
            have HI := Lib.hid (And.intro hrep (And.intro hbx hown))
            clear hrep hbx hown
            have hnd : nd ≤ 16 := by have h := many_le 16 t1; rw [HX.out.2.2.1] at h; exact h
            rcases Nat.eq_zero_or_pos kd with h0d | h0d
            · subst h0d
              have he : DS = xs ∧ t3 = tt := by
                have h := HX.out.2.2.2.symm.trans (show rep cDw nd t2 = (xs, tt) by rw [← hkd]; exact HI.out.1)
                injection h with h1 h2
                exact ⟨h1, h2⟩
              obtain ⟨rfl, rfl⟩ := he
              go_wp2_with fail
              go_meet
              case rel => exact ⟨_, HI.out.2⟩
            · have hkd0 : (0 : Int) < (kd : Int) := by omega
              have hkd1 : kd ≤ 40 := by omega
              obtain ⟨wi0, rfl⟩ : ∃ z, z = wr := ⟨_, rfl⟩
              rcases hx0 : rInt tt with ⟨y0, u1⟩
              rcases hx1 : rInt u1 with ⟨y1, u2⟩
              have HY := Lib.hid (And.intro (dw_of hx0 hx1) (And.intro hx0 hx1))
              clear hx0 hx1
              go_wp2_with fail
              refine (num_any HI.out.2.1.rd HN.out HY.out.2.1).mono ?_
              rintro e z0 ⟨rfl, hr, hC⟩
              have hbd := bx_new hr hC (rd_lt HI.out.2.1.rd) 60 [.int .i64 y0, .int .i64 0]
              obtain ⟨gd, hgd⟩ : ∃ gd, gd = z0.heap.size := ⟨_, rfl⟩
              obtain ⟨z1, hw⟩ : ∃ z, z = z0.alloc (.cells #[.int .i64 y0, .int .i64 0] 60) := ⟨_, rfl⟩
              rw [show z0.alloc (.cells ([.int .i64 y0, .int .i64 0] : List Value).toArray 60) = z1 from hw.symm, ← hgd] at hbd
              have HK1 := Lib.hid hbd
              have HW := Lib.hid hw
              clear hr hC hbd hw
              go_upto_region 43 with fail
              rw [← HW.out, ← hgd]
              clear HW hgd
              go_wp2_with fail
              refine (num_any HK1.out.rd HN.out HY.out.2.2).mono ?_
              rintro e z2 ⟨rfl, hr, hC⟩
              have hbd := bx_num HK1.out hr hC
              have c0 := Arr.blk_cell hbd.blk 1
              have f0 := Arr.blk_frozen hbd.blk 1
              simp only [List.getElem?_cons_zero, List.getElem?_cons_succ] at c0
              obtain ⟨z3, hw⟩ : ∃ z, z = z2.setCell ⟨gd, 1, none⟩ (.int .i64 y1) := ⟨_, rfl⟩
              have HK2 := Lib.hid (show Bx wi0 z3 R ab n cc l u2 60 gd [.int .i64 y0, .int .i64 y1] by rw [hw]; exact bx_set (i := 1) hbd (.int .i64 y1))
              have HW := Lib.hid hw
              clear hr hC hbd hw
              go_upto_region 44 with fail
              rw [← HW.out]
              clear c0 f0 HW
              have hjb := bx_num HI.out.2.1 HK2.out.rd HK2.out.chg
              have hod := own_chg HK2.out.chg HI.out.2.2 (fun q hq e => by have h1 := (own_hi HI.out.2.2 hq).1; have h2 := HRl.out; omega)
              have c0 := Arr.blk_cell hjb.blk 11
              have p0 := Arr.blk_cell HK2.out.blk 0
              have p1 := Arr.blk_cell HK2.out.blk 1
              simp only [List.getElem?_cons_zero, List.getElem?_cons_succ] at c0 p0 p1
              have HJ7 := Lib.hid (And.intro (bx_alloc hjb (.cells #[.int .i64 y0, .int .i64 y1] 60)) (Nest.own_on hod (below_alloc z3 (.cells #[.int .i64 y0, .int .i64 y1] 60))))
              have HRw := Lib.hid (lst_new encD_len z3 [(⟨y0, y1⟩ : Dw)] #[.int .i64 y0, .int .i64 y1] 60 _ 1 rfl rfl rfl (by omega)).row
              have HLn := Lib.hid (show xs.length + 1 ≤ maxLen ∧ (xs.length + 1) * 16 ≤ 140737488355328 by
                have h := rep_len cDw jd t2
                rw [HI.out.1] at h
                simp only at h
                unfold maxLen; omega)
              have HSz := Lib.hid HJ7.out.1.chg.size
              clear hjb hod
              go_wp2_with (first | (at_builtin; refine Two.append_apart encD_len (by omega) Drw.encD_one rfl (.tmp 167) (.tmp 169) 53 60 rfl Try.underlying53 (.agg #[.int .i64 0, .int .i64 0]) 16 Drw.info_draw rfl w0.heap.size _ xs rfl HJ7.out.2 (some ⟨z3.heap.size, 0, none⟩) 1 1 [(⟨y0, y1⟩ : Dw)] rfl rfl HRw.out (fun h => by cases h) HLn.out.1 HLn.out.2 HSz.out ?_; intro v9 w9 ho9 hg9 hx9; obtain ⟨ax, cx, e9, -, -, -, -⟩ := owns_row encD_len ho9; obtain ⟨nx, hnx⟩ : ∃ nx, nx = (xs ++ [(⟨y0, y1⟩ : Dw)]).length := ⟨_, rfl⟩; rw [← hnx] at e9; subst e9; clear hnx; have hb9 := bx_grown HJ7.out.1 HRl.out HJ7.out.2 (by decide) hg9; have c9 := Arr.blk_cell hb9.blk 11; have f9 := Arr.blk_frozen hb9.blk 11; simp only [List.getElem?_cons_zero, List.getElem?_cons_succ] at c9; have H9 := Lib.hid (show Bx w0 (w9.setCell ⟨g, 11, none⟩ (.slice ax nx cx)) R ab n cc l u2 55 g [.int .i64 x0, .int .i64 x1, .int .i64 x2, .int .i64 x3, .int .i64 x4, .int .i64 x5, .int .i64 x6, .int .i64 x7, .int .i64 x8, .int .i64 x9, .int .i64 x10, .slice ax nx cx] ∧ Owns encD 2 60 (w9.setCell ⟨g, 11, none⟩ (.slice ax nx cx)) w0.heap.size (.slice ax nx cx) (xs ++ [(⟨y0, y1⟩ : Dw)]) from ⟨bx_set (i := 11) hb9 _, own_set_typed ho9 hb9.blk (by decide) 11 _⟩); clear ho9 hg9 hx9 hb9) | fail)
              go_roundw
              case rel => exact ⟨kd - 1, jd + 1, xs ++ [(⟨y0, y1⟩ : Dw)], u2, _, by omega, by first | go_num | (congr 1; omega), rep_next HI.out.1 HY.out.1, H9.out.1, H9.out.2⟩
              case measure => simp [intOf]; omega
        case rest =>
        obtain ⟨v, hbx, hown⟩ := hcut
        obtain ⟨w8, rfl⟩ : ∃ z, z = wc := ⟨_, rfl⟩
        obtain ⟨ad, cd, rfl, -, -, -, -⟩ := owns_row encD_len hown
        obtain ⟨md, hmd⟩ : ∃ md, md = DS.length := ⟨_, rfl⟩
        rw [← hmd] at hbx hown
        have hdm := dm_rd HRp.out.2 hbx.rd hbx.chg
        have c0 := Arr.blk_cell hdm.box 6
        have p0 := Arr.blk_cell hbx.blk 0
        have p1 := Arr.blk_cell hbx.blk 1
        have p2 := Arr.blk_cell hbx.blk 2
        have p3 := Arr.blk_cell hbx.blk 3
        have p4 := Arr.blk_cell hbx.blk 4
        have p5 := Arr.blk_cell hbx.blk 5
        have p6 := Arr.blk_cell hbx.blk 6
        have p7 := Arr.blk_cell hbx.blk 7
        have p8 := Arr.blk_cell hbx.blk 8
        have p9 := Arr.blk_cell hbx.blk 9
        have p10 := Arr.blk_cell hbx.blk 10
        have p11 := Arr.blk_cell hbx.blk 11
        simp only [List.getElem?_cons_zero, List.getElem?_cons_succ] at c0 p0 p1 p2 p3 p4 p5 p6 p7 p8 p9 p10 p11
        have HD7 := Lib.hid (dm_below hdm (below_alloc w8 (.cells #[.int .i64 x0, .int .i64 x1, .int .i64 x2, .int .i64 x3, .int .i64 x4, .int .i64 x5, .int .i64 x6, .int .i64 x7, .int .i64 x8, .int .i64 x9, .int .i64 x10, .slice ad md cd] 55)))
        have HDr := Lib.hid (show Drs (W.heap.size + 3) (w8.alloc (.cells #[.int .i64 x0, .int .i64 x1, .int .i64 x2, .int .i64 x3, .int .i64 x4, .int .i64 x5, .int .i64 x6, .int .i64 x7, .int .i64 x8, .int .i64 x9, .int .i64 x10, .slice ad md cd] 55)) (⟨jobOf [x0, x1, x2, x3, x4, x5, x6, x7, x8, x9, x10] DS, ad, md, cd⟩ : Jv) from drs_of (Nest.own_on hown (below_alloc w8 (.cells #[.int .i64 x0, .int .i64 x1, .int .i64 x2, .int .i64 x3, .int .i64 x4, .int .i64 x5, .int .i64 x6, .int .i64 x7, .int .i64 x8, .int .i64 x9, .int .i64 x10, .slice ad md cd] 55))) (by have h1 := Arr.blk_lt HRp.out.2.box; have h2 := HRp.out.2.eB; omega))
        have HRw := Lib.hid (lst_new encJ_len w8 [(⟨jobOf [x0, x1, x2, x3, x4, x5, x6, x7, x8, x9, x10] DS, ad, md, cd⟩ : Jv)] #[.int .i64 x0, .int .i64 x1, .int .i64 x2, .int .i64 x3, .int .i64 x4, .int .i64 x5, .int .i64 x6, .int .i64 x7, .int .i64 x8, .int .i64 x9, .int .i64 x10, .slice ad md cd] 55 _ 1 rfl rfl rfl (by omega)).row
        have HLn := Lib.hid (show js.length + 1 ≤ maxLen ∧ (js.length + 1) * 112 ≤ 140737488355328 by
          have h := rep_len cJb j m7
          rw [HRp.out.1] at h
          simp only [List.length_map] at h
          unfold maxLen; omega)
        have HSz := Lib.hid (show W.heap.size + 3 ≤ (w8.alloc (.cells #[.int .i64 x0, .int .i64 x1, .int .i64 x2, .int .i64 x3, .int .i64 x4, .int .i64 x5, .int .i64 x6, .int .i64 x7, .int .i64 x8, .int .i64 x9, .int .i64 x10, .slice ad md cd] 55)).heap.size by have h1 := Arr.blk_lt HD7.out.box; have h2 := HD7.out.eB; omega)
        clear hdm hbx hown hmd
        go_wp2_with (first | (at_builtin; refine Two.append_apart encJ_len (by omega) Job.encJ_one rfl (.tmp 173) (.tmp 175) 25 55 rfl Try.underlying25 (.agg zeroJ.toArray) 112 info_jobF rfl (W.heap.size + 3) _ js rfl HD7.out.oj (some ⟨w8.heap.size, 0, none⟩) 1 1 [(⟨jobOf [x0, x1, x2, x3, x4, x5, x6, x7, x8, x9, x10] DS, ad, md, cd⟩ : Jv)] rfl rfl HRw.out (fun h => by cases h) HLn.out.1 HLn.out.2 HSz.out ?_; intro v9 w9 ho9 hg9 hx9; obtain ⟨ax, cx, e9, -, -, -, -⟩ := owns_row encJ_len ho9; obtain ⟨nx, hnx⟩ : ∃ nx, nx = (js ++ [(⟨jobOf [x0, x1, x2, x3, x4, x5, x6, x7, x8, x9, x10] DS, ad, md, cd⟩ : Jv)]).length := ⟨_, rfl⟩; rw [← hnx] at e9; subst e9; clear hnx; have hb9 := blk_chg (grown_chg hg9) HD7.out.box (fun e => by have h1 := (own_hi HD7.out.oj e.symm).1; have h2 := HD7.out.eB; omega); have c9 := Arr.blk_cell hb9 6; have f9 := Arr.blk_frozen hb9 6; simp only [List.getElem?_cons_zero, List.getElem?_cons_succ] at c9; have H9 := Lib.hid (dm_push_j HD7.out HDr.out ho9 hg9); clear ho9 hg9 hx9 hb9) | fail)
        go_roundw
        case rel => exact ⟨k - 1, j + 1, js ++ [(⟨jobOf [x0, x1, x2, x3, x4, x5, x6, x7, x8, x9, x10] DS, ad, md, cd⟩ : Jv)], t3, _, by omega, by first | go_num | (congr 1; omega), by rw [List.map_append]; exact rep_next HRp.out.1 HX.out.1, H9.out⟩
        case measure => simp [intOf]; omega
  case rest =>
  obtain ⟨js, vj, hjs, hcut⟩ := hcut
  have Hc7 := Lib.hid (And.intro hjs hcut)
  clear hjs hcut Ha
  go_wp2_with fail
  refine (many_any Hc7.out.2.rd HN.out 8 (by omega) HE8.out.1).mono ?_
  rintro e wa ⟨rfl, hr, hC⟩
  have Ha := Lib.hid (dm_rd Hc7.out.2 hr hC)
  clear hr hC
  go_upto_block 12 with fail
  go_cut [18] (fun _ wx => ∃ vk, Dm W wx R B ab n cc l s8 q1 q2 q3 FS LS RS' js KS vf vl vr vj vk)
  case first =>
    go_wp2_with fail
    go_loopw [18] (fun iv wr => ∃ (k j : Nat) (xs : List ByteArray) (t : RS) (v : Value), j + k = nk ∧ iv = .int .i64 (k : Nat) ∧ rep cTxt j m8 = (xs, t) ∧ Dm W wr R B ab n cc l t q1 q2 q3 FS LS RS' js xs vf vl vr vj v) (fun iv _ => (intOf iv).toNat)
    case atStart => exact ⟨nk, 0, [], m8, _, by omega, rfl, rfl, Ha.out⟩
    case round =>
      obtain ⟨k, j, xs, t, v, hk, rfl, hrep, hd⟩ := hrel
      have HRp := Lib.hid (And.intro hrep hd)
      clear hrep hd
      rcases Nat.eq_zero_or_pos k with h0 | h0
      · subst h0
        have he : KS = xs ∧ s8 = t := by
          have h := HE8.out.2.symm.trans (show rep cTxt nk m8 = (xs, t) by rw [← hk]; exact HRp.out.1)
          injection h with h1 h2
          exact ⟨h1, h2⟩
        obtain ⟨rfl, rfl⟩ := he
        go_wp2_with fail
        go_meet
        case rel => exact ⟨_, HRp.out.2⟩
      · have hk0 : (0 : Int) < (k : Int) := by omega
        have hkb : k ≤ 40 := by omega
        rcases hx0 : rText 16 t with ⟨x0, t1⟩
        have HX := Lib.hid hx0
        obtain ⟨DK, hDK⟩ : ∃ DK : RS → List ByteArray → Value → World → Prop, DK = fun t xs v w => Dm W w R B ab n cc l t q1 q2 q3 FS LS RS' js xs vf vl vr vj v := ⟨_, rfl⟩
        have HCk := Lib.hid (show wr.drew.cell? ⟨B, 7, none⟩ = some v from Arr.blk_cell HRp.out.2.box 7)
        have HDk := Lib.hid (show ∀ w, DK t1 xs v w → w.cell? ⟨B, 7, none⟩ = some v by rw [hDK]; exact fun w h => Arr.blk_cell h.box 7)
        have HDd := Lib.hid (show ∀ w9, Rd w9 R ab n cc l t1 → Chg (fun k => k = R) wr.drew w9 → DK t1 xs v w9 by rw [hDK]; exact fun w9 hr hC => dm_rd HRp.out.2 hr (chg_trans (chg_drew (chg_refl _ wr)) hC fun x hx => .inl hx))
        have HDb := Lib.hid (show ∀ w w', DK t1 xs v w → Below w.heap.size w w' → DK t1 xs v w' by rw [hDK]; exact fun w w' h hb => dm_below h hb)
        have HDo := Lib.hid (show ∀ w, DK t1 xs v w → Owns encK 1 9 w (W.heap.size + 3) v xs ∧ W.heap.size + 3 ≤ w.heap.size by rw [hDK]; exact fun w h => ⟨h.ok, by have h1 := Arr.blk_lt h.box; have h2 := h.eB; omega⟩)
        have HDp := Lib.hid (show ∀ w0 w9 ax nx cx, DK t1 xs v w0 → Owns encK 1 9 w9 (W.heap.size + 3) (.slice ax nx cx) (xs ++ [x0]) → w0.grownBy w9 v.ownBlock → w9.cell? ⟨B, 7, none⟩ = some v ∧ w9.frozen? ⟨B, 7, none⟩ = false ∧ DK t1 (xs ++ [x0]) (.slice ax nx cx) (w9.setCell ⟨B, 7, none⟩ (.slice ax nx cx)) by
          rw [hDK]
          intro w0 w9 ax nx cx h ho hg
          have hb9 := blk_chg (grown_chg hg) h.box (fun e => by have h1 := (own_hi h.ok e.symm).1; have h2 := h.eB; omega)
          exact ⟨Arr.blk_cell hb9 7, Arr.blk_frozen hb9 7, dm_push_k h ho hg⟩)
        have HDf := Lib.hid (show ∀ w v, DK t1 (xs ++ [x0]) v w → Dm W w R B ab n cc l t1 q1 q2 q3 FS LS RS' js (xs ++ [x0]) vf vl vr vj v by rw [hDK]; exact fun w v h => h)
        have HLn := Lib.hid (show xs.length ≤ 1000 by
          have h := rep_len cTxt j m8
          rw [HRp.out.1] at h
          simp only at h
          omega)
        clear hx0 hDK
        go_wp2_with fail
        refine Chn.wp_region_chain (fun idx => match idx with | 0 => some (.pointer (some ⟨B, 7, none⟩)) | 1 => some (v) | 2 => some (.pointer (some ⟨R, 0, none⟩)) | 6 => some (.pointer (some ⟨B, 7, none⟩)) | _ => none) [3, 4, 5, 7] (phiK DK wr (W.heap.size + 3) t1 xs v x0) (by kernel_rfl) (by kernel_rfl) (by kernel_rfl) (by kernel_rfl) (by kernel_rfl) (by decide) (by kernel_rfl) (rfl) ?_ ?_
        · refine ⟨?_, ?_, ?_, ?_, ?_, ?_, ?_, ?_, trivial⟩
          · intro a ww jj vs c hj0 hΦ
            have hj : jj ≤ 2 := Nat.le_trans hj0 (of_decide_eq_true (by kernel_rfl))
            refine .inl ⟨Rel.wanted_free (by kernel_rfl) _, ?_⟩
            exact Chn.wp_fa _ _ _ rfl (c.old 5 (v := .pointer (some ⟨B, 0, none⟩)) (by kernel_rfl) (by kernel_rfl)) (by simp [go_sem]) ⟨rfl, rfl⟩
          · intro a ww jj vs c hj0 hΦ
            have hj : jj ≤ 2 := Nat.le_trans hj0 (of_decide_eq_true (by kernel_rfl))
            refine .inl ⟨Rel.wanted_free (by kernel_rfl) _, ?_⟩
            exact Rel.wp_ld _ _ rfl (c.get 0 184 (by kernel_rfl) rfl) (run_ld_k (phi_cell (P := fun w => w.cell? ⟨B, 7, none⟩ = some v) hj hΦ HCk.out HDk.out)) ⟨rfl, rfl⟩
          · intro a ww jj vs c hj0 hΦ
            have hj : jj ≤ 0 := Nat.le_trans hj0 (of_decide_eq_true (by kernel_rfl))
            refine .inl ⟨Rel.wanted_free (by kernel_rfl) _, ?_⟩
            exact Rel.wp_mv _ rfl ⟨congrArg (a.put _) (c.old 4 (v := .pointer (some ⟨R, 0, none⟩)) (by kernel_rfl) (by kernel_rfl)), rfl⟩
          · refine ⟨0, rfl, ?_⟩
            intro a ww c hΦ
            have h : (phiK DK wr (W.heap.size + 3) t1 xs v x0) 0 [] ww := hΦ
            clear hΦ
            refine ⟨Rel.wanted_free (by kernel_rfl) _, ?_⟩
            have hw : ww = wr.drew := h
            subst hw
            refine Rel.wp_cl _ [.tmp 186] _ rfl Try.func34 (by kernel_rfl) ?_
            show Calls _ _ #[Rel.slot a 186] wr.drew _
            rw [c.get 2 186 (by kernel_rfl) rfl]
            refine (word_any (rd_keep HRp.out.2.rd (below_drew wr)) HN.out HX.out).mono ?_
            rintro e9 w9 ⟨rfl, hr, hC⟩
            exact ⟨_, rfl, _, rfl, rfl, HDd.out _ hr hC⟩
          · refine ⟨1, rfl, ?_⟩
            intro a ww c hΦ
            have h : (phiK DK wr (W.heap.size + 3) t1 xs v x0) 1 [Rel.slot a 187] ww := hΦ
            clear hΦ
            refine ⟨Rel.wanted_free (by kernel_rfl) _, ?_⟩
            obtain ⟨hu, hd⟩ := h
            exact Chn.wp_bs1 _ _ rfl hu (run_bs_k _ _) ⟨_, rfl, _, rfl, row_k ww x0, HDb.out _ _ hd (below_alloc _ _)⟩
          · refine ⟨2, rfl, ?_⟩
            intro a ww c hΦ
            have h : (phiK DK wr (W.heap.size + 3) t1 xs v x0) 2 [Rel.slot a 187, Rel.slot a 188] ww := hΦ
            clear hΦ
            refine ⟨Rel.wanted_free (by kernel_rfl) _, ?_⟩
            obtain ⟨g, hp, hrow, hd⟩ := h
            obtain ⟨x, w3, hx, hs, ho, hg⟩ := key_append _ (HDo.out _ hd).1 hrow (HDo.out _ hd).2 HLn.out
            exact Chn.wp_ap _ _ _ rfl (c.get 1 185 (by kernel_rfl) rfl) hp hx ⟨_, rfl, hs, _, hd, ho, hg⟩
          · intro a ww jj vs c hj0 hΦ
            have hj : jj ≤ 3 := Nat.le_trans hj0 (of_decide_eq_true (by kernel_rfl))
            refine .inl ⟨Rel.wanted_free (by kernel_rfl) _, ?_⟩
            exact Chn.wp_fa _ _ _ rfl (c.old 5 (v := .pointer (some ⟨B, 0, none⟩)) (by kernel_rfl) (by kernel_rfl)) (by simp [go_sem]) ⟨rfl, rfl⟩
          · refine ⟨3, rfl, ?_⟩
            intro a ww c hΦ
            have h : (phiK DK wr (W.heap.size + 3) t1 xs v x0) 3 [Rel.slot a 187, Rel.slot a 188, Rel.slot a 189] ww := hΦ
            clear hΦ
            refine ⟨Rel.wanted_free (by kernel_rfl) _, ?_⟩
            obtain ⟨⟨ax, nx, cx, hx⟩, wz, hd, ho, hg⟩ := h
            rw [hx] at ho
            obtain ⟨hc9, hf9, hp9⟩ := HDp.out _ _ _ _ _ hd ho hg
            exact Chn.wp_st _ _ _ rfl (c.get 6 190 (by kernel_rfl) rfl) hx (run_st_k hc9 hf9) ⟨undef, rfl, ax, nx, cx, hp9⟩
        intro a w22 hbase hroom hdef hΦ hV
        have h : (phiK DK wr (W.heap.size + 3) t1 xs v x0) 4 [Rel.slot a 187, Rel.slot a 188, Rel.slot a 189, undef] w22 := hΦ
        rw [Chn.act_puts [184, 185, 186, 187, 188, 189, 190] hbase hroom hdef (by kernel_rfl)]
        clear hbase hroom hdef hΦ hV
        simp only [List.foldl_cons, List.foldl_nil]
        generalize Rel.slot a 184 = u184 at *
        generalize Rel.slot a 185 = u185 at *
        generalize Rel.slot a 186 = u186 at *
        generalize Rel.slot a 187 = u187 at *
        generalize Rel.slot a 188 = u188 at *
        generalize Rel.slot a 189 = u189 at *
        generalize Rel.slot a 190 = u190 at *
        obtain ⟨ay, ny, cy, h9⟩ := h
        have H9 := Lib.hid (HDf.out _ _ h9)
        clear h9
        go_wp2_with fail
        go_roundw
        case rel => exact ⟨k - 1, j + 1, xs ++ [x0], t1, _, by omega, by first | go_num | (congr 1; omega), rep_next HRp.out.1 HX.out, H9.out⟩
        case measure => simp [intOf]; omega
  case rest =>
  obtain ⟨vk, hcut⟩ := hcut
  obtain ⟨w20, rfl⟩ : ∃ z, z = wc := ⟨_, rfl⟩
  obtain ⟨pf, rfl⟩ := own_form encF_len hcut.of
  obtain ⟨pl, rfl⟩ := own_form Tre.encL_len hcut.ol
  obtain ⟨pr, rfl⟩ := own_form encR_len hcut.or
  obtain ⟨pj, rfl⟩ := own_form encJ_len hcut.oj
  obtain ⟨pk, rfl⟩ := own_form encK_len hcut.ok
  obtain ⟨q, hq, hp⟩ := hcut.rd.box
  have c1 := Arr.blk_cell hq 1
  simp only [List.getElem?_cons_zero, List.getElem?_cons_succ] at c1
  have hpe := pos_end hp HB.out.len
  have H20 := Lib.hid hcut
  clear hcut hq hp Ha
  by_cases hqn : q = (n : Int)
  · subst hqn
    have HDd := Lib.hid (show decT l = some ⟨q1, q2, q3, FS, LS, RS', JS, KS⟩ by
      rw [HDe.out, if_pos]
      simpa using hpe)
    clear hpe
    go_wp2_with (first | (refine Arr.wpList_load_blk rfl 28 (.tmp 5) rfl B rfl [.int .i64 q1, .int .i64 q2, .int .i64 q3, .slice pf.a pf.n pf.c, .slice pl.a pl.n pl.c, .slice pr.a pr.n pr.c, .slice pj.a pj.n pj.c, .slice pk.a pk.n pk.c] 28 H20.out.box _ Try.underlying28 rfl info_state8 ?_) | (refine wpList_store_own rfl 28 (.tmp 2) (.tmp 199) rfl W.heap.size [.int .i64 q1, .int .i64 q2, .int .i64 q3, .slice pf.a pf.n pf.c, .slice pl.a pl.n pl.c, .slice pr.a pr.n pr.c, .slice pj.a pj.n pj.c, .slice pk.a pk.n pk.c] rfl rfl zero8 28 H20.out.res info_state8 rfl rfl ?_; intro wz hblk hC hsz) | fail)
    refine bodyPost_ret (results_cell_row2 rfl _ _ W.heap.size 28 [.int .i64 q1, .int .i64 q2, .int .i64 q3, .slice pf.a pf.n pf.c, .slice pl.a pl.n pl.c, .slice pr.a pr.n pr.c, .slice pj.a pj.n pj.c, .slice pk.a pk.n pk.c] _ rfl hblk Try.underlying28 rfl info_state8) rfl ?_
    have hbf := H20.out.below.trans (chg_below hC (fun y hy => Nat.le_of_eq hy.symm) H20.out.below.size)
    exact ⟨⟨q1, q2, q3, FS, LS, RS', js, KS, pf, pl, pr, pj, pk⟩, by rw [(dec_ok HDd.out).2]; rfl, by rw [(dec_ok HDd.out).1, ← Hc7.out.1], dm_in H20.out hC, hbf⟩
  · have hne : (q == (n : Int)) = false := beq_false_of_ne hqn
    have HDd := Lib.hid (show decT l = none by
      rw [HDe.out, if_neg]
      intro e
      rw [hne] at hpe
      exact of_decide_eq_false hpe e)
    clear hpe
    go_wp2_with (first | (refine wpList_store_own rfl 28 (.tmp 2) (.tmp 198) rfl W.heap.size zero8 rfl rfl zero8 28 H20.out.res info_state8 rfl rfl ?_; intro wz hblk hC hsz) | fail)
    refine bodyPost_ret (results_cell_row2 rfl _ _ W.heap.size 28 zero8 _ rfl hblk Try.underlying28 rfl info_state8) rfl ?_
    have hbf := H20.out.below.trans (chg_below hC (fun y hy => Nat.le_of_eq hy.symm) H20.out.below.size)
    exact ⟨zSd, by rw [(dec_no HDd.out).2]; rfl, by rw [(dec_no HDd.out).1]; rfl, zSd_in _, hbf⟩
end Go.Proofs.Ytpmpigglekgfnaa.Snp
