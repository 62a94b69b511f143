/- Disk: the document's own disk: all is for good. -/
import Derived.Test.YtpbegchaneppfaaDskRefR
namespace Go.Proofs.Ytpbegchaneppfaa.Dsk
open Go.RowKit
open Go.Sort
open Kit
open Oct
open Foot
set_option linter.unusedVariables false

theorem run_ld_i {w : World} {a : Addr} {n : Int} (h : w.cell? a = some (.int .i64 n)) : (Instr.loadAt 3 (.pointer (some a))).run Try.prog w = .ok (.int .i64 n) w := by
  simp [go_sem, h]
theorem run_ld_sl {w : World} {a : Addr} {ag : Option Addr} {n c : Nat} (h : w.cell? a = some (.slice ag n c)) : (Instr.loadAt 39 (.pointer (some a))).run Try.prog w = .ok (.slice ag n c) w := by
  simp [go_sem, h]
theorem run_st_sl {w : World} {ax : Option Addr} {p : Addr} {u : Value} {n c : Nat} (hc : w.cell? p = some u) (hf : w.frozen? p = false) : (Instr.storeAt 39 (.pointer (some p)) (.slice ax n c)).run Try.prog w = .ok () (w.setCell p (.slice ax n c)) := by
  simp [go_sem, hc, hf]
theorem run_ia_sls (b k n c : Nat) (h : k < n) (w : World) : (Instr.indexAt 30 (.slice (some ⟨b, 0, none⟩) n c) (.int .i64 k)).run Try.prog w = .ok (.pointer (some ⟨b, k, none⟩)) w := by
  simp [go_sem]
  omega
theorem run_ia_log (b k n c : Nat) (h : k < n) (w : World) : (Instr.indexAt 31 (.slice (some ⟨b, 0, none⟩) n c) (.int .i64 k)).run Try.prog w = .ok (.pointer (some ⟨b, k * 2, none⟩)) w := by
  simp [go_sem]
  omega

def phiFl (W : World) (gg ya xb xn xc : Nat) : Nat → List Value → World → Prop
  | 0, [], w => w = W.drew
  | 1, _, w => w = W.drew.setCell ⟨gg, ya, none⟩ (.slice (some ⟨xb, 0, none⟩) xn xc)
  | _, _, _ => False
theorem flCell {W w : World} {gg ya xb xn xc j : Nat} {vs : List Value} (hj : j ≤ 0) (h : phiFl W gg ya xb xn xc j vs w) {a : Addr} {v : Value} (hc : W.cell? a = some v) : w.cell? a = some v := by
  match j, vs, h with
  | 0, [], h => subst h; exact hc

/-- A sector for good is another. -/
theorem ref_setgood {w : World} {F : Nat → Prop} {p : Nat} {good : List Sec} {log : List (Nat × Sec)} {fuse : Int} {gg cg : Nat} {gs : List Sl} {al : Option Addr} {cl : Nat} {ls : List On} {s : Sl} {l : Sec} (r : RefAt w F p good log fuse (some ⟨gg, 0, none⟩) cg gs al cl ls) (hs : SecAt w F s l) (j : Nat) (hj : j < good.length) :
    RefD (w.setCell ⟨gg, j, none⟩ s.val) F p (good.set j l) log fuse ∧ Chg F w (w.setCell ⟨gg, j, none⟩ s.val) := by
  have hc := set_chg w gg j s.val
  obtain ⟨cur, hcur⟩ := own_type r.gown (g := gg) rfl
  have hty : ∀ {e : TypeId}, (39 : TypeId) ≠ e → Typed (fun k => k = gg) w e := fun h => typed_one hcur h
  refine ⟨⟨some ⟨gg, 0, none⟩, cg, gs.set j s, al, cl, ls, ?_, r.own, ?_, ?_, own_typed r.lown hc (hty ne_sl_on), r.lfoot, ?_, r.llen, ?_, ?_⟩, chg_set (chg_refl F w) (.inl (r.gfoot gg rfl)) _ _⟩
  · rw [List.length_set]; exact blk_typed r.blk hc (hty (Ne.symm ne_disk_sl))
  · have ho := (World.ownsRow.stored r.gown j s.val).1
    have e : (flat encSl gs).set j s.val = flat encSl (gs.set j s) := by
      have hf : ∀ l : List Sl, flat encSl l = l.map Sl.val := fun l => by
        induction l with
        | nil => rfl
        | cons x l ih => show encSl x ++ flat encSl l = _; rw [ih]; rfl
      rw [hf, hf, List.map_set]
    rw [e] at ho
    unfold Owns
    rw [List.length_set]
    exact ho
  · intro k hk
    rw [List.length_set] at hk
    exact r.gfoot k hk
  · rw [List.length_set, List.length_set, r.glen]
  · intro i s' l' h1 h2
    rw [List.getElem?_set] at h1 h2
    by_cases he : j = i
    · subst he
      rw [if_pos rfl, if_pos (by rw [r.glen]; exact hj)] at h1
      rw [if_pos rfl, if_pos hj] at h2
      injection h1 with h1
      injection h2 with h2
      subst h1 h2
      exact sec_typed hs hc (hty ne_sl_u8)
    · rw [if_neg he] at h1 h2
      exact sec_typed (r.gsec i s' l' h1 h2) hc (hty ne_sl_u8)
  · intro i x y h1 h2
    exact ⟨(r.lsec i x y h1 h2).1, sec_typed (r.lsec i x y h1 h2).2 hc (hty ne_sl_u8)⟩

/-- The log is emptied. -/
theorem ref_nolog {w : World} {F : Nat → Prop} {p : Nat} {good : List Sec} {log : List (Nat × Sec)} {fuse : Int} (h : RefD w F p good log fuse) :
    RefD (w.setCell ⟨p, 1, none⟩ (.slice none 0 0)) F p good [] fuse ∧ Chg F w (w.setCell ⟨p, 1, none⟩ (.slice none 0 0)) ∧ (∃ u, w.cell? ⟨p, 1, none⟩ = some u) ∧ w.frozen? ⟨p, 1, none⟩ = false := by
  obtain ⟨ag, cg, gs, al, cl, ls, r⟩ := h
  refine ⟨⟨ag, cg, gs, none, 0, [], ?_, r.own, gown_disk r.gown r.blk, r.gfoot, owns_nil _ _ _, (fun k hk => by cases hk), r.glen, rfl, (fun i s l h1 h2 => sec_disk (r.gsec i s l h1 h2) r.blk), (fun i x y h1 h2 => by simp at h1)⟩, chg_set (chg_refl F w) (.inl r.own) _ _, ⟨_, Arr.blk_cell r.blk 1⟩, Arr.blk_frozen r.blk 1⟩
  exact Arr.blk_set r.blk 1 _

theorem logNow_take {good : List Sec} {log : List (Nat × Sec)} {k : Nat} (h : k < log.length) : logNow good (log.take (k + 1)) = (logNow good (log.take k)).set log[k].1 log[k].2 := by
  rw [List.take_succ_eq_append_getElem h, logNow_snoc]

set_option maxHeartbeats 4000000 in
theorem rflush_ok {F : Nat → Prop} {p : Nat} {good : List Sec} {log : List (Nat × Sec)} {fuse : Int} {w : World} (h : RefD w F p good log fuse) (hf : -9223372036854775808 ≤ fuse ∧ fuse ≤ 9223372036854775807) (hfu : fuse ≠ 0) (hg : good.length ≤ 1024) (hk : log.length ≤ 1000000) (hlt : ∀ x ∈ log, x.1 < good.length) :
    Calls Try.prog 22 #[.pointer (some ⟨p, 0, none⟩)] w fun e w' => e = .returned (.int .i64 0) ∧ RefD w' F p (logNow good log) [] (burnt fuse) ∧ Chg F w w' ∧ w'.heap.size = w.heap.size := by
  have HBurn := Lib.hid (rburn_any h hf)
  have HLog := Lib.hid hk
  clear h
  go_enter Try.func22, Try.ntmps22
  go_wp2_with fail
  refine HBurn.out.mono ?_
  rintro e w1 ⟨rfl, hR, hC, hsz⟩
  rw [decide_eq_false hfu]
  have HR := Lib.hid hR
  have HC := Lib.hid hC
  have HS := Lib.hid hsz
  have HLt := Lib.hid hlt
  clear hR hC hsz hlt hk
  go_wp2_with fail
  go_loopw [3] (fun j wr => ∃ k : Nat, k ≤ log.length ∧ j = .int .i64 k ∧ RefD wr F p (logNow good (log.take k)) log (burnt fuse) ∧ Chg F w1 wr ∧ wr.heap.size = w1.heap.size) (fun j _ => log.length - (intOf j).toNat)
  case atStart => exact ⟨0, Nat.zero_le _, rfl, HR.out, chg_refl F w1, rfl⟩
  case round =>
    obtain ⟨k, hk, rfl, hR, hC, hsz⟩ := hrel
    obtain ⟨ag, cg, gs, al, cl, ls, r⟩ := hR
    have k1 := Arr.blk_cell r.blk 1
    simp only [List.getElem?_cons_zero, List.getElem?_cons_succ] at k1
    have hll := r.llen
    rw [hll] at k1
    have hlog := HLog.out
    by_cases hlt : k < log.length
    · have hkl : k < ls.length := by rw [hll]; exact hlt
      have hlk := HLt.out _ (List.getElem_mem hlt)
      have hnow := logNow_length good (log.take k)
      obtain ⟨gl, rfl, _, _, hrl⟩ := own_at encOn_len r.lown (by omega)
      have hgl := r.glen
      rw [hnow] at hgl
      obtain ⟨gg, rfl, _, _, hrg⟩ := own_at encSl_len r.gown (by omega)
      have k0 := Arr.blk_cell r.blk 0
      simp only [List.getElem?_cons_zero] at k0
      rw [hgl] at k0
      have x0 := row_cell hrl hkl rfl (i := 0) (by omega)
      have x1 := row_cell hrl hkl rfl (i := 1) (by omega)
      have hxy := r.lsec k ls[k] log[k] (List.getElem?_eq_getElem hkl) (List.getElem?_eq_getElem hlt)
      have htk := logNow_take (good := good) hlt
      have hgq : log[k].1 < gs.length := by rw [hgl]; exact hlk
      have q0 := row_cell hrg hgq rfl (i := 0) (by omega)
      have hf0 := World.ownsRow.frozenAt r.gown log[k].1
      generalize ls[k] = x at *
      generalize hy : log[k] = y at *
      obtain ⟨xa, ⟨xb, xn, xc⟩⟩ := x
      obtain ⟨ya, yb⟩ := y
      obtain ⟨hxa, hxs⟩ := hxy
      simp only at hxa hxs htk hlk hgq hf0
      subst hxa
      simp only [encOn, encSl, Sl.val, Nat.zero_add, Nat.add_zero, Nat.mul_one, List.getElem?_cons_zero, List.getElem?_cons_succ] at x0 x1 q0
      have hset := ref_setgood (w := wr.drew) ⟨r.blk, r.own, r.gown, r.gfoot, r.lown, r.lfoot, r.glen, r.llen, r.gsec, r.lsec⟩ hxs ya (by rw [hnow]; exact hlk)
      have HCs := Lib.hid (And.intro k0 (And.intro k1 (And.intro x0 (And.intro x1 (And.intro q0 hf0)))))
      have HLa := Lib.hid hlt
      have HLb := Lib.hid hlk
      have HSet := Lib.hid hset
      have HTk := Lib.hid htk
      have HCr := Lib.hid hC
      have HZ := Lib.hid hsz
      clear r hrl hrg hxs htk hset hC hsz hf0 q0 x0 x1 hy
      go_wp2_with fail
      refine Chn.wp_region_chain (fun idx => match idx with | 0 => some (.pointer (some ⟨p, 0, none⟩)) | 1 => some (.pointer (some ⟨p, 0, none⟩)) | 2 => some (.pointer (some ⟨p, 0, none⟩)) | 3 => some (.slice (some ⟨gg, 0, none⟩) good.length cg) | 4 => some (.pointer (some ⟨p, 0, none⟩)) | 5 => some (.pointer (some ⟨p, 0, none⟩)) | 6 => some (.pointer (some ⟨p, 1, none⟩)) | 7 => some (.slice (some ⟨gl, 0, none⟩) log.length cl) | 8 => some (.int .i64 k) | 9 => some (.pointer (some ⟨gl, k * 2, none⟩)) | 10 => some (.pointer (some ⟨gl, k * 2, none⟩)) | 11 => some (.int .i64 ya) | 12 => some (.pointer (some ⟨p, 0, none⟩)) | 13 => some (.pointer (some ⟨p, 0, none⟩)) | 14 => some (.pointer (some ⟨p, 1, none⟩)) | 15 => some (.slice (some ⟨gl, 0, none⟩) log.length cl) | 16 => some (.int .i64 k) | 17 => some (.pointer (some ⟨gl, k * 2, none⟩)) | 18 => some (.pointer (some ⟨gl, k * 2 + 1, none⟩)) | 19 => some (.slice (some ⟨xb, 0, none⟩) xn xc) | 20 => some (.pointer (some ⟨gg, ya, none⟩)) | _ => none) [21] (phiFl wr gg ya xb xn xc) (by kernel_rfl) (by kernel_rfl) (by kernel_rfl) (by kernel_rfl) (by kernel_rfl) (by decide) (by kernel_rfl) (rfl) ?_ ?_
      · refine ⟨?_, ?_, ?_, ?_, ?_, ?_, ?_, ?_, ?_, ?_, ?_, ?_, ?_, ?_, ?_, ?_, ?_, ?_, ?_, ?_, ?_, ?_, trivial⟩
        · intro a ww jj vs c hj0 hΦ
          have hj : jj ≤ 0 := Nat.le_trans hj0 (of_decide_eq_true (by kernel_rfl))
          refine .inl ⟨Rel.wanted_free (by kernel_rfl) _, ?_⟩
          exact Rel.wp_mv _ rfl ⟨congrArg (a.put _) (c.old 0 (v := .pointer (some ⟨p, 0, none⟩)) (by kernel_rfl) (by kernel_rfl)), rfl⟩
        · intro a ww jj vs c hj0 hΦ
          have hj : jj ≤ 0 := Nat.le_trans hj0 (of_decide_eq_true (by kernel_rfl))
          refine .inl ⟨Rel.wanted_free (by kernel_rfl) _, ?_⟩
          exact Chn.wp_nc _ rfl (c.get 0 16 (by kernel_rfl) rfl) ⟨rfl, rfl⟩
        · intro a ww jj vs c hj0 hΦ
          have hj : jj ≤ 0 := Nat.le_trans hj0 (of_decide_eq_true (by kernel_rfl))
          refine .inl ⟨Rel.wanted_free (by kernel_rfl) _, ?_⟩
          exact Chn.wp_fa _ _ _ rfl (c.get 1 17 (by kernel_rfl) rfl) (by simp [go_sem]) ⟨rfl, rfl⟩
        · intro a ww jj vs c hj0 hΦ
          have hj : jj ≤ 0 := Nat.le_trans hj0 (of_decide_eq_true (by kernel_rfl))
          refine .inl ⟨Rel.wanted_free (by kernel_rfl) _, ?_⟩
          exact Rel.wp_ld _ _ rfl (c.get 2 18 (by kernel_rfl) rfl) (run_ld_sls (flCell hj hΦ HCs.out.1)) ⟨rfl, rfl⟩
        · intro a ww jj vs c hj0 hΦ
          have hj : jj ≤ 0 := Nat.le_trans hj0 (of_decide_eq_true (by kernel_rfl))
          refine .inl ⟨Rel.wanted_free (by kernel_rfl) _, ?_⟩
          exact Rel.wp_mv _ rfl ⟨congrArg (a.put _) (c.old 0 (v := .pointer (some ⟨p, 0, none⟩)) (by kernel_rfl) (by kernel_rfl)), rfl⟩
        · intro a ww jj vs c hj0 hΦ
          have hj : jj ≤ 0 := Nat.le_trans hj0 (of_decide_eq_true (by kernel_rfl))
          refine .inl ⟨Rel.wanted_free (by kernel_rfl) _, ?_⟩
          exact Chn.wp_nc _ rfl (c.get 4 20 (by kernel_rfl) rfl) ⟨rfl, rfl⟩
        · intro a ww jj vs c hj0 hΦ
          have hj : jj ≤ 0 := Nat.le_trans hj0 (of_decide_eq_true (by kernel_rfl))
          refine .inl ⟨Rel.wanted_free (by kernel_rfl) _, ?_⟩
          exact Chn.wp_fa _ _ _ rfl (c.get 5 21 (by kernel_rfl) rfl) (by simp [go_sem]) ⟨rfl, rfl⟩
        · intro a ww jj vs c hj0 hΦ
          have hj : jj ≤ 0 := Nat.le_trans hj0 (of_decide_eq_true (by kernel_rfl))
          refine .inl ⟨Rel.wanted_free (by kernel_rfl) _, ?_⟩
          exact Rel.wp_ld _ _ rfl (c.get 6 22 (by kernel_rfl) rfl) (run_ld_log (flCell hj hΦ HCs.out.2.1)) ⟨rfl, rfl⟩
        · intro a ww jj vs c hj0 hΦ
          have hj : jj ≤ 0 := Nat.le_trans hj0 (of_decide_eq_true (by kernel_rfl))
          refine .inl ⟨Rel.wanted_free (by kernel_rfl) _, ?_⟩
          exact Rel.wp_mv _ rfl ⟨congrArg (a.put _) (c.old 3 (v := .int .i64 k) (by kernel_rfl) (by kernel_rfl)), rfl⟩
        · intro a ww jj vs c hj0 hΦ
          have hj : jj ≤ 0 := Nat.le_trans hj0 (of_decide_eq_true (by kernel_rfl))
          refine .inl ⟨Rel.wanted_free (by kernel_rfl) _, ?_⟩
          exact Rel.wp_ia _ _ _ rfl (c.get 7 23 (by kernel_rfl) rfl) (c.get 8 24 (by kernel_rfl) rfl) (run_ia_log gl k log.length cl HLa.out _) ⟨rfl, rfl⟩
        · intro a ww jj vs c hj0 hΦ
          have hj : jj ≤ 0 := Nat.le_trans hj0 (of_decide_eq_true (by kernel_rfl))
          refine .inl ⟨Rel.wanted_free (by kernel_rfl) _, ?_⟩
          exact Chn.wp_fa _ _ _ rfl (c.get 9 25 (by kernel_rfl) rfl) (by simp [go_sem]) ⟨rfl, rfl⟩
        · intro a ww jj vs c hj0 hΦ
          have hj : jj ≤ 0 := Nat.le_trans hj0 (of_decide_eq_true (by kernel_rfl))
          refine .inl ⟨Rel.wanted_free (by kernel_rfl) _, ?_⟩
          exact Rel.wp_ld _ _ rfl (c.get 10 26 (by kernel_rfl) rfl) (run_ld_i (flCell hj hΦ HCs.out.2.2.1)) ⟨rfl, rfl⟩
        · intro a ww jj vs c hj0 hΦ
          have hj : jj ≤ 0 := Nat.le_trans hj0 (of_decide_eq_true (by kernel_rfl))
          refine .inl ⟨Rel.wanted_free (by kernel_rfl) _, ?_⟩
          exact Rel.wp_mv _ rfl ⟨congrArg (a.put _) (c.old 0 (v := .pointer (some ⟨p, 0, none⟩)) (by kernel_rfl) (by kernel_rfl)), rfl⟩
        · intro a ww jj vs c hj0 hΦ
          have hj : jj ≤ 0 := Nat.le_trans hj0 (of_decide_eq_true (by kernel_rfl))
          refine .inl ⟨Rel.wanted_free (by kernel_rfl) _, ?_⟩
          exact Chn.wp_nc _ rfl (c.get 12 28 (by kernel_rfl) rfl) ⟨rfl, rfl⟩
        · intro a ww jj vs c hj0 hΦ
          have hj : jj ≤ 0 := Nat.le_trans hj0 (of_decide_eq_true (by kernel_rfl))
          refine .inl ⟨Rel.wanted_free (by kernel_rfl) _, ?_⟩
          exact Chn.wp_fa _ _ _ rfl (c.get 13 29 (by kernel_rfl) rfl) (by simp [go_sem]) ⟨rfl, rfl⟩
        · intro a ww jj vs c hj0 hΦ
          have hj : jj ≤ 0 := Nat.le_trans hj0 (of_decide_eq_true (by kernel_rfl))
          refine .inl ⟨Rel.wanted_free (by kernel_rfl) _, ?_⟩
          exact Rel.wp_ld _ _ rfl (c.get 14 30 (by kernel_rfl) rfl) (run_ld_log (flCell hj hΦ HCs.out.2.1)) ⟨rfl, rfl⟩
        · intro a ww jj vs c hj0 hΦ
          have hj : jj ≤ 0 := Nat.le_trans hj0 (of_decide_eq_true (by kernel_rfl))
          refine .inl ⟨Rel.wanted_free (by kernel_rfl) _, ?_⟩
          exact Rel.wp_mv _ rfl ⟨congrArg (a.put _) (c.old 3 (v := .int .i64 k) (by kernel_rfl) (by kernel_rfl)), rfl⟩
        · intro a ww jj vs c hj0 hΦ
          have hj : jj ≤ 0 := Nat.le_trans hj0 (of_decide_eq_true (by kernel_rfl))
          refine .inl ⟨Rel.wanted_free (by kernel_rfl) _, ?_⟩
          exact Rel.wp_ia _ _ _ rfl (c.get 15 31 (by kernel_rfl) rfl) (c.get 16 32 (by kernel_rfl) rfl) (run_ia_log gl k log.length cl HLa.out _) ⟨rfl, rfl⟩
        · intro a ww jj vs c hj0 hΦ
          have hj : jj ≤ 0 := Nat.le_trans hj0 (of_decide_eq_true (by kernel_rfl))
          refine .inl ⟨Rel.wanted_free (by kernel_rfl) _, ?_⟩
          exact Chn.wp_fa _ _ _ rfl (c.get 17 33 (by kernel_rfl) rfl) (by simp [go_sem]) ⟨rfl, rfl⟩
        · intro a ww jj vs c hj0 hΦ
          have hj : jj ≤ 0 := Nat.le_trans hj0 (of_decide_eq_true (by kernel_rfl))
          refine .inl ⟨Rel.wanted_free (by kernel_rfl) _, ?_⟩
          exact Rel.wp_ld _ _ rfl (c.get 18 34 (by kernel_rfl) rfl) (run_ld_sl (flCell hj hΦ HCs.out.2.2.2.1)) ⟨rfl, rfl⟩
        · intro a ww jj vs c hj0 hΦ
          have hj : jj ≤ 0 := Nat.le_trans hj0 (of_decide_eq_true (by kernel_rfl))
          refine .inl ⟨Rel.wanted_free (by kernel_rfl) _, ?_⟩
          exact Rel.wp_ia _ _ _ rfl (c.get 3 19 (by kernel_rfl) rfl) (c.get 11 27 (by kernel_rfl) rfl) (run_ia_sls gg ya good.length cg HLb.out _) ⟨rfl, rfl⟩
        · refine ⟨0, rfl, ?_⟩
          intro a ww c hΦ
          have h : (phiFl wr gg ya xb xn xc) 0 [] ww := hΦ
          clear hΦ
          refine ⟨Rel.wanted_free (by kernel_rfl) _, ?_⟩
          simp only [phiFl] at h
          subst h
          exact Chn.wp_st _ _ _ rfl (c.get 20 36 (by kernel_rfl) rfl) (c.get 19 35 (by kernel_rfl) rfl) (run_st_sl (w := wr.drew) HCs.out.2.2.2.2.1 HCs.out.2.2.2.2.2) ⟨undef, rfl, rfl⟩
      intro a w9 hbase hroom hdef hΦ hV
      have h : (phiFl wr gg ya xb xn xc) 1 [undef] w9 := hΦ
      rw [Chn.act_puts [16, 17, 18, 19, 20, 21, 22, 23, 24, 25, 26, 27, 28, 29, 30, 31, 32, 33, 34, 35, 36] hbase hroom hdef (by kernel_rfl)]
      clear hbase hroom hdef hΦ hV
      simp only [List.foldl_cons, List.foldl_nil]
      generalize Rel.slot a 16 = u16 at *
      generalize Rel.slot a 17 = u17 at *
      generalize Rel.slot a 18 = u18 at *
      generalize Rel.slot a 19 = u19 at *
      generalize Rel.slot a 20 = u20 at *
      generalize Rel.slot a 21 = u21 at *
      generalize Rel.slot a 22 = u22 at *
      generalize Rel.slot a 23 = u23 at *
      generalize Rel.slot a 24 = u24 at *
      generalize Rel.slot a 25 = u25 at *
      generalize Rel.slot a 26 = u26 at *
      generalize Rel.slot a 27 = u27 at *
      generalize Rel.slot a 28 = u28 at *
      generalize Rel.slot a 29 = u29 at *
      generalize Rel.slot a 30 = u30 at *
      generalize Rel.slot a 31 = u31 at *
      generalize Rel.slot a 32 = u32 at *
      generalize Rel.slot a 33 = u33 at *
      generalize Rel.slot a 34 = u34 at *
      generalize Rel.slot a 35 = u35 at *
      generalize Rel.slot a 36 = u36 at *
      simp only [phiFl] at h
      subst h
      go_wp2_with fail
      go_roundw
      case rel => exact ⟨k + 1, by omega, by go_num, by rw [HTk.out]; exact HSet.out.1, chg_trans (chg_drew HCr.out) HSet.out.2 (fun x hx => .inl hx), (setCell_size wr _ _).trans HZ.out⟩
      case measure => simp [intOf]; omega
    · obtain rfl : k = log.length := by omega
      have hR2 : RefD wr F p (logNow good log) log (burnt fuse) := by
        have := (⟨ag, cg, gs, al, cl, ls, r⟩ : RefD wr F p (logNow good (log.take log.length)) log (burnt fuse))
        rwa [List.take_length] at this
      obtain ⟨h1, h2, ⟨u, h3⟩, h4⟩ := ref_nolog hR2
      have HF := Lib.hid (And.intro h1 (chg_trans hC h2 fun x hx => .inl hx))
      have HZ := Lib.hid hsz
      clear r hR2 h1 h2 hC hsz h3 hlog
      go_wp2
      go_ret
      exact ⟨rfl, HF.out.1, chg_trans HC.out HF.out.2 fun x hx => .inl hx, by rw [setCell_size, HZ.out, HS.out]⟩

end Go.Proofs.Ytpbegchaneppfaa.Dsk
