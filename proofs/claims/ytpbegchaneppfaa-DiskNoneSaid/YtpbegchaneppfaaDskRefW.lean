/- Disk: the document's own disk: a sector is written. -/
import Derived.Test.YtpbegchaneppfaaDskRef
namespace Go.Proofs.Ytpbegchaneppfaa.Dsk
open Go.RowKit
open Go.Sort
open Kit
open Oct
open Foot
set_option linter.unusedVariables false

theorem run_bs_nil (w : World) : (Instr.buildSlice 39 0 #[]).run Try.prog w = .ok (.slice (some ⟨w.heap.size, 0, none⟩) 0 0) (w.alloc (.cells #[] 5)) := by
  simp [go_sem]
theorem run_st_log {w : World} {ax : Option Addr} {p : Addr} {u : Value} {n c : Nat} (hc : w.cell? p = some u) (hf : w.frozen? p = false) : (Instr.storeAt 31 (.pointer (some p)) (.slice ax n c)).run Try.prog w = .ok () (w.setCell p (.slice ax n c)) := by
  simp [go_sem, hc, hf]
theorem run_bd_on {i : Int} {s : Sl} (w : World) : (Instr.build 69 #[(0, .int .i64 i), (1, s.val)]).run Try.prog w = .ok (.agg #[.int .i64 i, s.val]) w := by
  simp [go_sem, Sl.val]
theorem run_bs_on (s : Sl) {i : Int} (w : World) : (Instr.buildSlice 31 1 #[(0, .agg #[.int .i64 i, s.val])]).run Try.prog w = .ok (.slice (some ⟨w.heap.size, 0, none⟩) 1 1) (w.alloc (.cells #[.int .i64 i, s.val] 69)) := by
  simp [go_sem, Sl.val]

/-- A list of bytes of the call's own that has some. -/
theorem own_sl {w : World} {v : Value} {l : List UInt8} (h : OwnB w 0 v l) (hl : 0 < l.length) : ∃ s : Sl, v = s.val ∧ s.n = l.length := by
  rcases h.2 with ⟨rfl, h0⟩ | ⟨g, cap, cur, rfl, _⟩
  · omega
  · exact ⟨⟨g, l.length, cap⟩, rfl, rfl⟩
/-- Bytes that were copied into new memory. -/
def NewSec (W w : World) (s : Sl) (l : Sec) : Prop := s.n = l.length ∧ OwnB w 0 s.val l ∧ W.heap.size ≤ s.b ∧ Below W.heap.size W w
def phiWr (W : World) (F : Nat → Prop) (p : Nat) (good : List Sec) (log : List (Nat × Sec)) (fuse : Int) (i : Int) (l : Sec) (al : Option Addr) (cl : Nat) (ls : List On) : Nat → List Value → World → Prop
  | 0, [], w => w = W.drew
  | 1, [v], w => v = .slice (some ⟨W.heap.size, 0, none⟩) 0 0 ∧ w = W.drew.alloc (.cells #[] 5)
  | 2, [_, b], w => ∃ s : Sl, b = s.val ∧ NewSec W w s l
  | 3, [_, b, o], w => ∃ s : Sl, b = s.val ∧ NewSec W w s l ∧ o = .agg #[.int .i64 i, s.val]
  | 4, [_, _, _, u], w => ∃ (s : Sl) (g : Nat), u = .slice (some ⟨g, 0, none⟩) 1 1 ∧ NewSec W w s l ∧ Row encOn 2 w (some ⟨g, 0, none⟩) [⟨i, s⟩]
  | 5, [_, _, _, _, x], w => (w.cell? ⟨p, 1, none⟩ = some (.slice al ls.length cl) ∧ w.frozen? ⟨p, 1, none⟩ = false) ∧ (∃ ax nx cx, x = .slice ax nx cx) ∧ RefD (w.setCell ⟨p, 1, none⟩ x) (More F W (w.setCell ⟨p, 1, none⟩ x)) p good (log ++ [(i.toNat, l)]) fuse ∧ Chg F W (w.setCell ⟨p, 1, none⟩ x)
  | 6, _, w => RefD w (More F W w) p good (log ++ [(i.toNat, l)]) fuse ∧ Chg F W w
  | _, _, _ => False
theorem wrCell {W w : World} {F : Nat → Prop} {p : Nat} {good : List Sec} {log : List (Nat × Sec)} {fuse i : Int} {l : Sec} {ag : Option Addr} {cg : Nat} {gs : List Sl} {al : Option Addr} {cl : Nat} {ls : List On} {j : Nat} {vs : List Value} (hj : j ≤ 4) (h : phiWr W F p good log fuse i l al cl ls j vs w) (r : RefAt W F p good log fuse ag cg gs al cl ls) : w.cell? ⟨p, 1, none⟩ = some (.slice al ls.length cl) := by
  have c0 := Arr.blk_cell r.blk 1
  match j, vs, h with
  | 0, [], h => subst h; exact c0
  | 1, [v], h => obtain ⟨_, rfl⟩ := h; exact cell_alloc c0
  | 2, [v, u], h => obtain ⟨s, _, hs⟩ := h; exact cell_keep hs.2.2.2 c0
  | 3, [v, u, o], h => obtain ⟨s, _, hs, _⟩ := h; exact cell_keep hs.2.2.2 c0
  | 4, [v, u, o, x], h => obtain ⟨s, g, _, hs, _⟩ := h; exact cell_keep hs.2.2.2 c0

theorem wr_bytes {aa : Option Addr} {cc : Nat} {l : Sec} (ty : TypeId) {W0 : World} (hA : ∀ w, Below W0.heap.size W0 w → RowB w aa l) (hl : l.length = 32 ∧ (aa = none → 32 = 0 ∧ cc = 0)) (W : World) (hW : Below W0.heap.size W0 W := by first | assumption | exact Below.refl _ _) :
    ∃ b w2, (Builtin.append_ #[39, 39] ty #[.slice (some ⟨W.heap.size, 0, none⟩) 0 0, .slice aa 32 cc]).run Try.prog (W.drew.alloc (.cells #[] 5)) = .ok b w2 ∧ ∃ s : Sl, b = s.val ∧ NewSec W w2 s l := by
  have hb1 : Below W.heap.size W (W.drew.alloc (.cells #[] 5)) := (below_drew W).alloc (Nat.le_refl _) _
  have he := own_empty W.drew 0 (Nat.zero_le _)
  obtain ⟨b, w2, hr, ho, hg, hw⟩ := Two.run_append_apart encB_len (by decide) encB_one (P := Try.prog) 39 ty 5 Try.underlying39 (.int .u8 0) 1 info8 rfl 0 _ [] he aa 32 cc l hl.1 (hA _ (below_keep hW hb1)) hl.2 (by unfold maxLen; decide) (by decide) (Nat.zero_le _)
  rw [List.nil_append] at ho
  obtain ⟨s, rfl, hs⟩ := own_sl ho (by rw [hl.1]; decide)
  refine ⟨_, w2, hr, s, rfl, hs, ho, ?_, hb1.trans ((Below.refl _ _).grown hg (by simp) fun k hk => ?_)⟩
  · rcases hw with hw | hw
    · injection hw with hw
      have e : s.b = W.heap.size := hw
      omega
    · injection hw with hw
      have e : s.b = (W.drew.alloc (.cells #[] 5)).heap.size := hw
      rw [e]; simp
  · injection hk with hk
    rw [← hk]; exact Nat.le_refl _
theorem wr_row {W w : World} {s0 : Sl} {l : Sec} {i : Int} (h : NewSec W w s0 l) : ∃ (s : Sl) (g : Nat), (Value.slice (some ⟨w.heap.size, 0, none⟩) 1 1 : Value) = .slice (some ⟨g, 0, none⟩) 1 1 ∧ NewSec W (w.alloc (.cells #[.int .i64 i, s0.val] 69)) s l ∧ Row encOn 2 (w.alloc (.cells #[.int .i64 i, s0.val] 69)) (some ⟨g, 0, none⟩) [⟨i, s⟩] :=
  ⟨s0, w.heap.size, rfl, ⟨h.1, owns_alloc h.2.1 _, h.2.2.1, h.2.2.2.alloc h.2.2.2.size _⟩, Kit.row_new encOn_len w [⟨i, s0⟩] _ _ _ rfl rfl⟩

/-- An entry more in the log. -/
theorem log_made {W w2 w3 : World} {F : Nat → Prop} {p : Nat} {good : List Sec} {log : List (Nat × Sec)} {fuse : Int} {ag : Option Addr} {cg : Nat} {gs : List Sl} {al : Option Addr} {cl : Nat} {ls : List On} {s : Sl} {l : Sec} {x : Value} {i : Int}
    (r : RefAt W F p good log fuse ag cg gs al cl ls) (hF : ∀ k, F k → k < W.heap.size) (hs : NewSec W w2 s l) (hi : 0 ≤ i)
    (ho : Owns encOn 2 69 w3 0 x (ls ++ [⟨i, s⟩])) (hg : w2.grownBy w3 (Value.slice al ls.length cl).ownBlock) (hw : x.ownBlock = (Value.slice al ls.length cl).ownBlock ∨ x.ownBlock = some w2.heap.size) :
    (w3.cell? ⟨p, 1, none⟩ = some (.slice al ls.length cl) ∧ w3.frozen? ⟨p, 1, none⟩ = false) ∧ (∃ ax nx cx, x = .slice ax nx cx) ∧ RefD (w3.setCell ⟨p, 1, none⟩ x) (More F W (w3.setCell ⟨p, 1, none⟩ x)) p good (log ++ [(i.toNat, l)]) fuse ∧ Chg F W (w3.setCell ⟨p, 1, none⟩ x) := by
  obtain ⟨hsn, hso, hsb, hb⟩ := hs
  have c2 := new_chg hb (fun _ => False)
  have b2 := blk_chg c2 r.blk id
  have g2 := own_chg c2 r.gown (fun _ _ => id)
  have l2 := own_chg c2 r.lown (fun _ _ => id)
  have c3 := grown_chg hg
  have b3 := blk_typed b2 c3 (typed_own l2 (Ne.symm ne_disk_on))
  have g3 := own_typed g2 c3 (typed_own l2 (Ne.symm ne_sl_on))
  have sz2 : W.heap.size ≤ w2.heap.size := hb.size
  have sz3 : w2.heap.size ≤ w3.heap.size := hg.size
  have szs : (w3.setCell ⟨p, 1, none⟩ x).heap.size = w3.heap.size := setCell_size _ _ _
  have sec3 : ∀ {F' : Nat → Prop} {s : Sl} {l : Sec}, SecAt w2 F' s l → SecAt (w3.setCell ⟨p, 1, none⟩ x) F' s l := fun h => sec_disk (sec_typed h c3 (typed_own l2 ne_on_u8)) b3
  have secW : ∀ {s : Sl} {l : Sec}, SecAt W F s l → SecAt (w3.setCell ⟨p, 1, none⟩ x) (More F W (w3.setCell ⟨p, 1, none⟩ x)) s l := fun h => sec_mono (sec3 (sec_chg h c2 fun _ _ => id)) fun _ => more_old
  have hsl : s.b < w2.heap.size := (World.ownsRow.lt hso _ rfl).2
  obtain ⟨ax, cx, hx, hcx, _, _, _⟩ := owns_row encOn_len ho
  have cW3 : Chg F W w3 := chg_trans (new_chg hb F) c3 fun k hk => .inl (r.lfoot k hk.symm)
  refine ⟨⟨Arr.blk_cell b3 1, Arr.blk_frozen b3 1⟩, ⟨ax, _, cx, hx⟩, ⟨ag, cg, gs, ax, cx, ls ++ [⟨i, s⟩], ?_, more_old r.own, gown_disk g3 b3, fun k hk => more_old (r.gfoot k hk), ?_, ?_, r.glen, ?_, ?_, ?_⟩, chg_set cW3 (.inl r.own) _ _⟩
  · have := Arr.blk_set b3 1 x
    rw [hx] at this ⊢
    exact this
  · rw [← hx]; exact lown_disk ho b3
  · intro k hk
    rw [← hx] at hk
    rcases hw with hw | hw
    · exact more_old (r.lfoot k (by rw [← hw]; exact hk))
    · rw [hw] at hk
      injection hk with hk
      have := (World.ownsRow.lt ho _ hw).2
      exact more_new (by omega) (by rw [szs]; omega)
  · rw [List.length_append, List.length_append, r.llen]; rfl
  · intro i' s' l' h1 h2
    exact secW (r.gsec i' s' l' h1 h2)
  · intro j y z h1 h2
    by_cases hj : j < ls.length
    · rw [List.getElem?_append_left hj] at h1
      rw [List.getElem?_append_left (by rw [← r.llen]; exact hj)] at h2
      exact ⟨(r.lsec j y z h1 h2).1, secW (r.lsec j y z h1 h2).2⟩
    · rw [List.getElem?_append_right (by omega)] at h1
      rw [List.getElem?_append_right (by rw [← r.llen]; omega), ← r.llen] at h2
      have h0 : j - ls.length = 0 := by
        have := (List.getElem?_eq_some_iff.1 h1).1
        simp at this; omega
      rw [h0] at h1 h2
      simp at h1 h2
      subst h1 h2
      exact ⟨by simp; omega, sec3 (s := s) ⟨hsn, hso, more_new hsb (by rw [szs]; exact Nat.lt_of_lt_of_le hsl sz3)⟩⟩
theorem wr_append {W w2 : World} {F : Nat → Prop} {p : Nat} {good : List Sec} {log : List (Nat × Sec)} {fuse : Int} {ag : Option Addr} {cg : Nat} {gs : List Sl} {al : Option Addr} {cl : Nat} {ls : List On} {s : Sl} {l : Sec} {i : Int} {g : Nat} (ty : TypeId)
    (r : RefAt W F p good log fuse ag cg gs al cl ls) (hk : ls.length ≤ 1000000) (hF : ∀ k, F k → k < W.heap.size) (hi : 0 ≤ i) (hs : NewSec W w2 s l) (hr : Row encOn 2 w2 (some ⟨g, 0, none⟩) [⟨i, s⟩]) :
    ∃ x w3, (Builtin.append_ #[31, 31] ty #[.slice al ls.length cl, .slice (some ⟨g, 0, none⟩) 1 1]).run Try.prog w2 = .ok x w3 ∧
      ((w3.cell? ⟨p, 1, none⟩ = some (.slice al ls.length cl) ∧ w3.frozen? ⟨p, 1, none⟩ = false) ∧ (∃ ax nx cx, x = .slice ax nx cx) ∧ RefD (w3.setCell ⟨p, 1, none⟩ x) (More F W (w3.setCell ⟨p, 1, none⟩ x)) p good (log ++ [(i.toNat, l)]) fuse ∧ Chg F W (w3.setCell ⟨p, 1, none⟩ x)) := by
  obtain ⟨x, w3, h1, h2, h3, h4⟩ := Two.run_append_apart encOn_len (by decide) encOn_one (P := Try.prog) 31 ty 69 Try.underlying31 (.agg #[.int .i64 0, .slice none 0 0]) 32 info_on rfl 0 _ ls
    (own_chg (new_chg hs.2.2.2 (fun _ => False)) r.lown (fun _ _ => id)) (some ⟨g, 0, none⟩) 1 1 [⟨i, s⟩] rfl hr (fun h => by cases h) (by unfold maxLen; omega) (by omega) (Nat.zero_le _)
  exact ⟨x, w3, h1, log_made r hF hs hi h2 h3 h4⟩

set_option maxHeartbeats 2000000 in
theorem rwrite_ok {F : Nat → Prop} {p : Nat} {good : List Sec} {log : List (Nat × Sec)} {fuse : Int} {w : World} (h : RefD w F p good log fuse) (hF : ∀ k, F k → k < w.heap.size) (hf : -9223372036854775808 ≤ fuse ∧ fuse ≤ 9223372036854775807) (hg : good.length ≤ 1024) (hk : log.length ≤ 1000000)
    (i : Int) (aa : Option Addr) (len cc : Nat) (l : Sec) (hl : l.length = len) (hn : aa = none → len = 0 ∧ cc = 0) (hE : RowB w aa l) (hA : ∀ q, aa = some q → ¬ F q.block) (hi : inR i good.length) (h32 : l.length = 32) (hfu : fuse ≠ 0) :
    Calls Try.prog 24 #[.pointer (some ⟨p, 0, none⟩), .int .i64 i, .slice aa len cc] w fun e w' => e = .returned (.int .i64 0) ∧ RefD w' (More F w w') p good (log ++ [(i.toNat, l)]) (burnt fuse) ∧ Chg F w w' := by
  subst hl
  rw [h32] at hn ⊢
  obtain ⟨hi0, hi1⟩ := hi
  have hburn := rburn_any h hf
  have c0 : ∃ ag cg, w.cell? ⟨p, 0, none⟩ = some (.slice ag good.length cg) := by
    obtain ⟨ag, cg, gs, al, cl, ls, r⟩ := h
    exact ⟨ag, cg, by rw [← r.glen]; exact Arr.blk_cell r.blk 0⟩
  obtain ⟨ag0, cg0, c0⟩ := c0
  have d1 : decide (i < 0) = false := by rw [decide_eq_false_iff_not]; omega
  have d2 : decide ((good.length : Int) ≤ i) = false := by rw [decide_eq_false_iff_not]; omega
  have HBurn := Lib.hid hburn
  have HE := Lib.hid hE
  have HN := Lib.hid hn
  have hI := Lib.hid hi0
  have HFu := Lib.hid hfu
  have HG := Lib.hid hk
  clear h hburn hE hn hfu hk
  go_enter Try.func24, Try.ntmps24
  go_wp2_with fail
  refine HBurn.out.mono ?_
  rintro e w1 ⟨rfl, hR, hC, hsz⟩
  rw [decide_eq_false HFu.out]
  have HC1 := Lib.hid hC
  have HF : Hid (∀ k, F k → k < w1.heap.size) := Lib.hid (fun k hk => by rw [hsz]; exact hF k hk)
  have HS1 := Lib.hid hsz
  obtain ⟨ag, cg, gs, al, cl, ls, r⟩ := hR
  have HK : Hid (ls.length ≤ 1000000) := Lib.hid (by rw [r.llen]; exact HG.out)
  have HR := Lib.hid r
  have hE1 : RowB w1 aa l := by
    cases aa with
    | none => exact absurd (HN.out rfl).1 (by decide)
    | some q =>
      have hq : ∃ b off, q = ⟨b, off, none⟩ := by
        rcases HE.out with h0 | ⟨b, off, h1, _⟩
        · rw [h0] at h32; cases h32
        · injection h1 with h1; exact ⟨b, off, h1⟩
      obtain ⟨b, off, rfl⟩ := hq
      exact row_chg encB_len hC HE.out (hA _ rfl)
  have HA := Lib.hid (fun (w : World) (hb : Below w1.heap.size w1 w) => row_keep encB_len hE1 hb)
  have HL := Lib.hid (And.intro h32 HN.out)
  clear hC hsz r hE1
  go_wp2_with fail
  refine Chn.wp_region_chain (fun idx => match idx with | 0 => some (.pointer (some ⟨p, 0, none⟩)) | 1 => some (.pointer (some ⟨p, 0, none⟩)) | 2 => some (.pointer (some ⟨p, 0, none⟩)) | 3 => some (.pointer (some ⟨p, 1, none⟩)) | 4 => some (.slice al ls.length cl) | 5 => some (.int .i64 i) | 7 => some (.slice aa 32 cc) | 12 => some (.pointer (some ⟨p, 0, none⟩)) | 13 => some (.pointer (some ⟨p, 1, none⟩)) | _ => none) [6, 8, 9, 10, 11, 14] (phiWr w1 F p good log (burnt fuse) i l al cl ls) (by kernel_rfl) (by kernel_rfl) (by kernel_rfl) (by kernel_rfl) (by kernel_rfl) (by decide) (by kernel_rfl) (rfl) ?_ ?_
  · refine ⟨?_, ?_, ?_, ?_, ?_, ?_, ?_, ?_, ?_, ?_, ?_, ?_, ?_, ?_, ?_, trivial⟩
    · intro a ww jj vs c hj0 hΦ
      have hj : jj ≤ 5 := Nat.le_trans hj0 (of_decide_eq_true (by kernel_rfl))
      refine .inl ⟨Rel.wanted_free (by kernel_rfl) _, ?_⟩
      exact Rel.wp_mv _ rfl ⟨congrArg (a.put _) (c.old 0 (v := .pointer (some ⟨p, 0, none⟩)) (by kernel_rfl) (by kernel_rfl)), rfl⟩
    · intro a ww jj vs c hj0 hΦ
      have hj : jj ≤ 4 := Nat.le_trans hj0 (of_decide_eq_true (by kernel_rfl))
      refine .inl ⟨Rel.wanted_free (by kernel_rfl) _, ?_⟩
      exact Rel.wp_mv _ rfl ⟨congrArg (a.put _) (c.old 0 (v := .pointer (some ⟨p, 0, none⟩)) (by kernel_rfl) (by kernel_rfl)), rfl⟩
    · intro a ww jj vs c hj0 hΦ
      have hj : jj ≤ 4 := Nat.le_trans hj0 (of_decide_eq_true (by kernel_rfl))
      refine .inl ⟨Rel.wanted_free (by kernel_rfl) _, ?_⟩
      exact Chn.wp_nc _ rfl (c.get 1 27 (by kernel_rfl) rfl) ⟨rfl, rfl⟩
    · intro a ww jj vs c hj0 hΦ
      have hj : jj ≤ 4 := Nat.le_trans hj0 (of_decide_eq_true (by kernel_rfl))
      refine .inl ⟨Rel.wanted_free (by kernel_rfl) _, ?_⟩
      exact Chn.wp_fa _ _ _ rfl (c.get 2 28 (by kernel_rfl) rfl) (by simp [go_sem]) ⟨rfl, rfl⟩
    · intro a ww jj vs c hj0 hΦ
      have hj : jj ≤ 4 := Nat.le_trans hj0 (of_decide_eq_true (by kernel_rfl))
      refine .inl ⟨Rel.wanted_free (by kernel_rfl) _, ?_⟩
      exact Rel.wp_ld _ _ rfl (c.get 3 29 (by kernel_rfl) rfl) (run_ld_log (wrCell hj hΦ HR.out)) ⟨rfl, rfl⟩
    · intro a ww jj vs c hj0 hΦ
      have hj : jj ≤ 2 := Nat.le_trans hj0 (of_decide_eq_true (by kernel_rfl))
      refine .inl ⟨Rel.wanted_free (by kernel_rfl) _, ?_⟩
      exact Rel.wp_mv _ rfl ⟨congrArg (a.put _) (c.old 1 (v := .int .i64 i) (by kernel_rfl) (by kernel_rfl)), rfl⟩
    · refine ⟨0, rfl, ?_⟩
      intro a ww c hΦ
      have h : (phiWr w1 F p good log (burnt fuse) i l al cl ls) 0 [] ww := hΦ
      clear hΦ
      refine ⟨Rel.wanted_free (by kernel_rfl) _, ?_⟩
      simp only [phiWr] at h
      subst h
      exact Chn.wp_bs0 _ rfl (run_bs_nil _) ⟨_, rfl, rfl, rfl⟩
    · intro a ww jj vs c hj0 hΦ
      have hj : jj ≤ 1 := Nat.le_trans hj0 (of_decide_eq_true (by kernel_rfl))
      refine .inl ⟨Rel.wanted_free (by kernel_rfl) _, ?_⟩
      exact Rel.wp_mv _ rfl ⟨congrArg (a.put _) (c.old 2 (v := .slice aa 32 cc) (by kernel_rfl) (by kernel_rfl)), rfl⟩
    · refine ⟨1, rfl, ?_⟩
      intro a ww c hΦ
      have h : (phiWr w1 F p good log (burnt fuse) i l al cl ls) 1 [Rel.slot a 32] ww := hΦ
      clear hΦ
      refine ⟨Rel.wanted_free (by kernel_rfl) _, ?_⟩
      obtain ⟨hv, rfl⟩ := h
      obtain ⟨b, w2, hr, hb⟩ := wr_bytes (ty := 39) HA.out HL.out w1
      exact Chn.wp_ap _ _ _ rfl hv (c.get 7 33 (by kernel_rfl) rfl) hr ⟨_, rfl, hb⟩
    · refine ⟨2, rfl, ?_⟩
      intro a ww c hΦ
      have h : (phiWr w1 F p good log (burnt fuse) i l al cl ls) 2 [Rel.slot a 32, Rel.slot a 34] ww := hΦ
      clear hΦ
      refine ⟨Rel.wanted_free (by kernel_rfl) _, ?_⟩
      obtain ⟨s, hs, hr⟩ := h
      exact Chn.wp_bd2 _ _ _ _ _ rfl (c.get 5 31 (by kernel_rfl) rfl) hs (run_bd_on _) ⟨_, rfl, s, hs, hr, rfl⟩
    · refine ⟨3, rfl, ?_⟩
      intro a ww c hΦ
      have h : (phiWr w1 F p good log (burnt fuse) i l al cl ls) 3 [Rel.slot a 32, Rel.slot a 34, Rel.slot a 35] ww := hΦ
      clear hΦ
      refine ⟨Rel.wanted_free (by kernel_rfl) _, ?_⟩
      obtain ⟨s, hs, hr, ho⟩ := h
      refine Chn.wp_bs1 _ _ rfl ho (run_bs_on s _) ⟨_, rfl, ?_⟩
      show phiWr w1 F p good log (burnt fuse) i l al cl ls 4 [Rel.slot a 32, Rel.slot a 34, Rel.slot a 35, .slice (some ⟨ww.heap.size, 0, none⟩) 1 1] _
      exact wr_row (i := i) hr
    · refine ⟨4, rfl, ?_⟩
      intro a ww c hΦ
      have h : (phiWr w1 F p good log (burnt fuse) i l al cl ls) 4 [Rel.slot a 32, Rel.slot a 34, Rel.slot a 35, Rel.slot a 36] ww := hΦ
      clear hΦ
      refine ⟨Rel.wanted_free (by kernel_rfl) _, ?_⟩
      obtain ⟨s, g, hu, hw, hr⟩ := h
      obtain ⟨x, w3, hx, hm⟩ := wr_append (ty := 31) HR.out HK.out HF.out hI.out hw hr
      exact Chn.wp_ap _ _ _ rfl (c.get 4 30 (by kernel_rfl) rfl) hu hx ⟨_, rfl, hm⟩
    · intro a ww jj vs c hj0 hΦ
      have hj : jj ≤ 5 := Nat.le_trans hj0 (of_decide_eq_true (by kernel_rfl))
      refine .inl ⟨Rel.wanted_free (by kernel_rfl) _, ?_⟩
      exact Chn.wp_nc _ rfl (c.get 0 26 (by kernel_rfl) rfl) ⟨rfl, rfl⟩
    · intro a ww jj vs c hj0 hΦ
      have hj : jj ≤ 5 := Nat.le_trans hj0 (of_decide_eq_true (by kernel_rfl))
      refine .inl ⟨Rel.wanted_free (by kernel_rfl) _, ?_⟩
      exact Chn.wp_fa _ _ _ rfl (c.get 12 38 (by kernel_rfl) rfl) (by simp [go_sem]) ⟨rfl, rfl⟩
    · refine ⟨5, rfl, ?_⟩
      intro a ww c hΦ
      have h : (phiWr w1 F p good log (burnt fuse) i l al cl ls) 5 [Rel.slot a 32, Rel.slot a 34, Rel.slot a 35, Rel.slot a 36, Rel.slot a 37] ww := hΦ
      clear hΦ
      refine ⟨Rel.wanted_free (by kernel_rfl) _, ?_⟩
      obtain ⟨⟨c0, f0⟩, ⟨ax, nx, cx, hx⟩, hR3, hC3⟩ := h
      rw [hx] at hR3 hC3
      exact Chn.wp_st _ _ _ rfl (c.get 13 39 (by kernel_rfl) rfl) hx (run_st_log c0 f0) ⟨undef, rfl, hR3, hC3⟩
  intro a w9 hbase hroom hdef hΦ hV
  have h : (phiWr w1 F p good log (burnt fuse) i l al cl ls) 6 [Rel.slot a 32, Rel.slot a 34, Rel.slot a 35, Rel.slot a 36, Rel.slot a 37, undef] w9 := hΦ
  rw [Chn.act_puts [26, 27, 28, 29, 30, 31, 32, 33, 34, 35, 36, 37, 38, 39] hbase hroom hdef (by kernel_rfl)]
  clear hbase hroom hdef hΦ hV
  simp only [List.foldl_cons, List.foldl_nil]
  generalize Rel.slot a 26 = u26 at *
  generalize Rel.slot a 27 = u27 at *
  generalize Rel.slot a 28 = u28 at *
  generalize Rel.slot a 29 = u29 at *
  generalize Rel.slot a 30 = u30 at *
  generalize Rel.slot a 31 = u31 at *
  generalize Rel.slot a 32 = u32 at *
  generalize Rel.slot a 33 = u33 at *
  generalize Rel.slot a 34 = u34 at *
  generalize Rel.slot a 35 = u35 at *
  generalize Rel.slot a 36 = u36 at *
  generalize Rel.slot a 37 = u37 at *
  generalize Rel.slot a 38 = u38 at *
  generalize Rel.slot a 39 = u39 at *
  obtain ⟨hR9, hC9⟩ := h
  have HR9 := Lib.hid hR9
  have HC9 := Lib.hid hC9
  clear hR9 hC9
  go_wp2_with fail
  go_ret
  refine ⟨rfl, ref_mono HR9.out fun x hx => ?_, chg_trans HC1.out HC9.out fun x hx => .inl hx⟩
  rcases hx with hx | hx
  · exact .inl hx
  · exact .inr ⟨by have := HS1.out; omega, hx.2⟩

end Go.Proofs.Ytpbegchaneppfaa.Dsk
