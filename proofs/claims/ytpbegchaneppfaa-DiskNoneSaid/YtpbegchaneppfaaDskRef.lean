/- Disk: the document's own disk, as it lies in memory, and its calls. -/
import Derived.Test.YtpbegchaneppfaaDskMath
import Derived.Test.YtpbegchaneppfaaFoot
import Derived.Test.YtpbegchaneppfaaRegChn
import Derived.BigFrame
import Derived.BigQuiet
import Derived.Deep.DeepCutAuto
import Derived.Deep.RegionHeld3
import Derived.Deep.RegionWith
import Derived.WalkLawsBesides
import Derived.LoopTactic
namespace Go.Proofs.Ytpbegchaneppfaa.Dsk
open Go.RowKit
open Go.Sort
open Kit
open Oct
open Foot
set_option linter.unusedVariables false

/-- A slice in a block of its own. -/
structure Sl where
  b : Nat
  n : Nat
  c : Nat
def Sl.val (s : Sl) : Value := .slice (some ⟨s.b, 0, none⟩) s.n s.c
def encSl (s : Sl) : List Value := [s.val]
theorem encSl_len (s : Sl) : (encSl s).length = 1 := rfl
theorem encSl_one (s : Sl) : ∀ u ∈ encSl s, u.oneCell' = true := by
  intro u hu
  simp [encSl] at hu
  subst hu; rfl
/-- A place, and what was written there. -/
structure On where
  a : Int
  s : Sl
def encOn (x : On) : List Value := [.int .i64 x.a, x.s.val]
theorem encOn_len (x : On) : (encOn x).length = 2 := rfl
theorem encOn_one (x : On) : ∀ u ∈ encOn x, u.oneCell' = true := by
  intro u hu
  simp [encOn] at hu
  rcases hu with rfl | rfl <;> rfl

/-- A sector's bytes lie in a block of F. -/
def SecAt (w : World) (F : Nat → Prop) (s : Sl) (l : Sec) : Prop := s.n = l.length ∧ OwnB w 0 s.val l ∧ F s.b

/-- The document's disk in memory: all its blocks lie in F. -/
structure RefAt (w : World) (F : Nat → Prop) (p : Nat) (good : List Sec) (log : List (Nat × Sec)) (fuse : Int) (ag : Option Addr) (cg : Nat) (gs : List Sl) (al : Option Addr) (cl : Nat) (ls : List On) : Prop where
  blk : Arr.Blk w p 33 [.slice ag gs.length cg, .slice al ls.length cl, .int .i64 fuse]
  own : F p
  gown : Owns encSl 1 39 w 0 (.slice ag gs.length cg) gs
  gfoot : ∀ k, (Value.slice ag gs.length cg).ownBlock = some k → F k
  lown : Owns encOn 2 69 w 0 (.slice al ls.length cl) ls
  lfoot : ∀ k, (Value.slice al ls.length cl).ownBlock = some k → F k
  glen : gs.length = good.length
  llen : ls.length = log.length
  gsec : ∀ (i : Nat) (s : Sl) (l : Sec), gs[i]? = some s → good[i]? = some l → SecAt w F s l
  lsec : ∀ (i : Nat) (x : On) (y : Nat × Sec), ls[i]? = some x → log[i]? = some y → x.a = (y.1 : Int) ∧ SecAt w F x.s y.2
def RefD (w : World) (F : Nat → Prop) (p : Nat) (good : List Sec) (log : List (Nat × Sec)) (fuse : Int) : Prop :=
  ∃ ag cg gs al cl ls, RefAt w F p good log fuse ag cg gs al cl ls

theorem sec_mono {w : World} {F G : Nat → Prop} {s : Sl} {l : Sec} (h : SecAt w F s l) (hf : ∀ k, F k → G k) : SecAt w G s l := ⟨h.1, h.2.1, hf _ h.2.2⟩
theorem sec_chg {w w' : World} {F G : Nat → Prop} {s : Sl} {l : Sec} (h : SecAt w F s l) (hc : Chg G w w') (ha : ∀ k, F k → ¬ G k) : SecAt w' F s l :=
  ⟨h.1, own_chg hc h.2.1 (fun g hg => by injection hg with hg; subst hg; exact ha _ h.2.2), h.2.2⟩
theorem ref_mono {w : World} {F G : Nat → Prop} {p : Nat} {good : List Sec} {log : List (Nat × Sec)} {fuse : Int} (h : RefD w F p good log fuse) (hf : ∀ k, F k → G k) : RefD w G p good log fuse := by
  obtain ⟨ag, cg, gs, al, cl, ls, r⟩ := h
  exact ⟨ag, cg, gs, al, cl, ls, r.blk, hf _ r.own, r.gown, fun k hk => hf k (r.gfoot k hk), r.lown, fun k hk => hf k (r.lfoot k hk), r.glen, r.llen, fun i s l h1 h2 => sec_mono (r.gsec i s l h1 h2) hf, fun i x y h1 h2 => ⟨(r.lsec i x y h1 h2).1, sec_mono (r.lsec i x y h1 h2).2 hf⟩⟩
/-- What others change is nothing of it. -/
theorem ref_chg {w w' : World} {F G : Nat → Prop} {p : Nat} {good : List Sec} {log : List (Nat × Sec)} {fuse : Int} (h : RefD w F p good log fuse) (hc : Chg G w w') (ha : ∀ k, F k → ¬ G k) : RefD w' F p good log fuse := by
  obtain ⟨ag, cg, gs, al, cl, ls, r⟩ := h
  exact ⟨ag, cg, gs, al, cl, ls, blk_chg hc r.blk (ha _ r.own), r.own, own_chg hc r.gown (fun g hg => ha g (r.gfoot g hg)), r.gfoot, own_chg hc r.lown (fun g hg => ha g (r.lfoot g hg)), r.lfoot, r.glen, r.llen, fun i s l h1 h2 => sec_chg (r.gsec i s l h1 h2) hc ha, fun i x y h1 h2 => ⟨(r.lsec i x y h1 h2).1, sec_chg (r.lsec i x y h1 h2).2 hc ha⟩⟩

/-! ### Its own blocks are unlike one another -/

theorem ne_disk_sl : (33 : TypeId) ≠ 39 := by decide
theorem ne_disk_on : (33 : TypeId) ≠ 69 := by decide
theorem ne_disk_u8 : (33 : TypeId) ≠ 5 := by decide
theorem ne_sl_on : (39 : TypeId) ≠ 69 := by decide
theorem ne_sl_u8 : (39 : TypeId) ≠ 5 := by decide
theorem ne_on_u8 : (69 : TypeId) ≠ 5 := by decide

theorem sec_typed {w w' : World} {F G : Nat → Prop} {s : Sl} {l : Sec} (h : SecAt w F s l) (hc : Chg G w w') (ht : Typed G w 5) : SecAt w' F s l := ⟨h.1, own_typed h.2.1 hc ht, h.2.2⟩
theorem sec_disk {w : World} {F : Nat → Prop} {s : Sl} {l : Sec} {p i : Nat} {u : Value} {cs : List Value} (h : SecAt w F s l) (hp : Arr.Blk w p 33 cs) : SecAt (w.setCell ⟨p, i, none⟩ u) F s l :=
  sec_typed h (set_chg w p i u) (typed_one hp ne_disk_u8)
theorem gown_disk {w : World} {v u : Value} {gs : List Sl} {p i : Nat} {cs : List Value} (h : Owns encSl 1 39 w 0 v gs) (hp : Arr.Blk w p 33 cs) : Owns encSl 1 39 (w.setCell ⟨p, i, none⟩ u) 0 v gs :=
  own_typed h (set_chg w p i u) (typed_one hp ne_disk_sl)
theorem lown_disk {w : World} {v u : Value} {ls : List On} {p i : Nat} {cs : List Value} (h : Owns encOn 2 69 w 0 v ls) (hp : Arr.Blk w p 33 cs) : Owns encOn 2 69 (w.setCell ⟨p, i, none⟩ u) 0 v ls :=
  own_typed h (set_chg w p i u) (typed_one hp ne_disk_on)

/-- The fuse is set. -/
theorem ref_fuse {w : World} {F : Nat → Prop} {p : Nat} {good : List Sec} {log : List (Nat × Sec)} {fuse : Int} (h : RefD w F p good log fuse) (f : Int) : RefD (w.setCell ⟨p, 2, none⟩ (.int .i64 f)) F p good log f ∧ Chg F w (w.setCell ⟨p, 2, none⟩ (.int .i64 f)) := by
  obtain ⟨ag, cg, gs, al, cl, ls, r⟩ := h
  refine ⟨⟨ag, cg, gs, al, cl, ls, ?_, r.own, gown_disk r.gown r.blk, r.gfoot, lown_disk r.lown r.blk, r.lfoot, r.glen, r.llen, fun i s l h1 h2 => sec_disk (r.gsec i s l h1 h2) r.blk, fun i x y h1 h2 => ⟨(r.lsec i x y h1 h2).1, sec_disk (r.lsec i x y h1 h2).2 r.blk⟩⟩, chg_set (chg_refl F w) (.inl r.own) _ _⟩
  exact Arr.blk_set r.blk 2 _

/-! ### The calls -/

set_option maxHeartbeats 2000000 in
theorem rburn_any {F : Nat → Prop} {p : Nat} {good : List Sec} {log : List (Nat × Sec)} {fuse : Int} {w : World} (h : RefD w F p good log fuse) (hf : -9223372036854775808 ≤ fuse ∧ fuse ≤ 9223372036854775807) :
    Calls Try.prog 33 #[.pointer (some ⟨p, 0, none⟩)] w fun e w' => e = .returned (.bool (!decide (fuse = 0))) ∧ RefD w' F p good log (burnt fuse) ∧ Chg F w w' ∧ w'.heap.size = w.heap.size := by
  obtain ⟨hf1, hf2⟩ := hf
  have hs := ref_fuse h (fuse - 1)
  have c2 : w.cell? ⟨p, 2, none⟩ = some (.int .i64 fuse) := by obtain ⟨ag, cg, gs, al, cl, ls, r⟩ := h; exact Arr.blk_cell r.blk 2
  have f2 : w.frozen? ⟨p, 2, none⟩ = false := by obtain ⟨ag, cg, gs, al, cl, ls, r⟩ := h; exact Arr.blk_frozen r.blk 2
  have HD := Lib.hid h
  have HS := Lib.hid hs
  clear h hs
  by_cases h0 : fuse = 0
  · subst h0
    go_enter Try.func33, Try.ntmps33
    go_wp2
    go_ret
    exact ⟨rfl, HD.out, chg_refl F w, rfl⟩
  · have hb : (fuse == 0) = false := by rw [beq_eq_false_iff_ne]; exact h0
    by_cases h1 : 0 < fuse
    · have HB : Hid (burnt fuse = fuse - 1) := Lib.hid (by unfold burnt; rw [if_pos h1])
      go_enter Try.func33, Try.ntmps33
      go_wp2
      go_ret
      refine ⟨?_, ?_, HS.out.2, setCell_size _ _ _⟩
      · first | rfl | (rw [decide_eq_false h0]; rfl)
      · rw [HB.out]; exact HS.out.1
    · have HB : Hid (burnt fuse = fuse) := Lib.hid (by unfold burnt; rw [if_neg h1])
      go_enter Try.func33, Try.ntmps33
      go_wp2
      go_ret
      refine ⟨?_, ?_, chg_refl F w, rfl⟩
      · first | rfl | (rw [decide_eq_false h0]; rfl)
      · rw [HB.out]; exact HD.out

theorem run_ld_sls {w : World} {a : Addr} {ag : Option Addr} {n c : Nat} (h : w.cell? a = some (.slice ag n c)) : (Instr.loadAt 30 (.pointer (some a))).run Try.prog w = .ok (.slice ag n c) w := by
  simp [go_sem, h]
theorem run_ld_log {w : World} {a : Addr} {ag : Option Addr} {n c : Nat} (h : w.cell? a = some (.slice ag n c)) : (Instr.loadAt 31 (.pointer (some a))).run Try.prog w = .ok (.slice ag n c) w := by
  simp [go_sem, h]

/-- A sector more, for good. -/
theorem good_made {W w2 w3 : World} {F : Nat → Prop} {p : Nat} {good : List Sec} {log : List (Nat × Sec)} {fuse : Int} {ag : Option Addr} {cg : Nat} {gs : List Sl} {al : Option Addr} {cl : Nat} {ls : List On} {s : Sl} {l : Sec} {x : Value}
    (r : RefAt W F p good log fuse ag cg gs al cl ls) (hF : ∀ k, F k → k < W.heap.size) (hb : Below W.heap.size W w2) (hs : OwnB w2 0 s.val l) (hsn : s.n = l.length) (hsb : W.heap.size ≤ s.b)
    (ho : Owns encSl 1 39 w3 0 x (gs ++ [s])) (hg : w2.grownBy w3 (Value.slice ag gs.length cg).ownBlock) (hw : x.ownBlock = (Value.slice ag gs.length cg).ownBlock ∨ x.ownBlock = some w2.heap.size) :
    (w3.cell? ⟨p, 0, none⟩ = some (.slice ag gs.length cg) ∧ w3.frozen? ⟨p, 0, none⟩ = false) ∧ (∃ ax nx cx, x = .slice ax nx cx) ∧ RefD (w3.setCell ⟨p, 0, none⟩ x) (More F W (w3.setCell ⟨p, 0, none⟩ x)) p (good ++ [l]) log fuse ∧ Chg F W (w3.setCell ⟨p, 0, none⟩ x) := by
  have c2 := new_chg hb (fun _ => False)
  have hno : ∀ (P : Prop), False → ¬ P := fun _ h => h.elim
  have b2 := blk_chg c2 r.blk id
  have g2 := own_chg c2 r.gown (fun _ _ => id)
  have l2 := own_chg c2 r.lown (fun _ _ => id)
  have c3 := grown_chg hg
  have b3 := blk_typed b2 c3 (typed_own g2 (Ne.symm ne_disk_sl))
  have l3 := own_typed l2 c3 (typed_own g2 ne_sl_on)
  have sz2 : W.heap.size ≤ w2.heap.size := hb.size
  have sz3 : w2.heap.size ≤ w3.heap.size := hg.size
  have szs : (w3.setCell ⟨p, 0, none⟩ x).heap.size = w3.heap.size := setCell_size _ _ _
  have sec3 : ∀ {F' : Nat → Prop} {s : Sl} {l : Sec}, SecAt w2 F' s l → SecAt (w3.setCell ⟨p, 0, none⟩ x) F' s l := fun h => sec_disk (sec_typed h c3 (typed_own g2 ne_sl_u8)) b3
  have secW : ∀ {s : Sl} {l : Sec}, SecAt W F s l → SecAt (w3.setCell ⟨p, 0, none⟩ x) (More F W (w3.setCell ⟨p, 0, none⟩ x)) s l := fun h => sec_mono (sec3 (sec_chg h c2 fun _ _ => id)) fun _ => more_old
  have hsl : s.b < w2.heap.size := (World.ownsRow.lt hs _ rfl).2
  obtain ⟨ax, cx, hx, hcx, _, _, _⟩ := owns_row encSl_len ho
  have cW3 : Chg F W w3 := chg_trans (new_chg hb F) c3 fun k hk => .inl (r.gfoot k hk.symm)
  refine ⟨⟨Arr.blk_cell b3 0, Arr.blk_frozen b3 0⟩, ⟨ax, _, cx, hx⟩, ⟨ax, cx, gs ++ [s], al, cl, ls, ?_, more_old r.own, ?_, ?_, lown_disk l3 b3, fun k hk => more_old (r.lfoot k hk), ?_, r.llen, ?_, ?_⟩, chg_set cW3 (.inl r.own) _ _⟩
  · have := Arr.blk_set b3 0 x
    rw [hx] at this ⊢
    exact this
  · rw [← hx]; exact gown_disk ho b3
  · intro k hk
    rw [← hx] at hk
    rcases hw with hw | hw
    · exact more_old (r.gfoot k (by rw [← hw]; exact hk))
    · rw [hw] at hk
      injection hk with hk
      have := (World.ownsRow.lt ho _ hw).2
      exact more_new (by omega) (by rw [szs]; omega)
  · rw [List.length_append, List.length_append, r.glen]; rfl
  · intro i s' l' h1 h2
    by_cases hi : i < gs.length
    · rw [List.getElem?_append_left hi] at h1
      rw [List.getElem?_append_left (by rw [← r.glen]; exact hi)] at h2
      exact secW (r.gsec i s' l' h1 h2)
    · rw [List.getElem?_append_right (by omega)] at h1
      rw [List.getElem?_append_right (by rw [← r.glen]; omega), ← r.glen] at h2
      have h0 : i - gs.length = 0 := by
        have := (List.getElem?_eq_some_iff.1 h1).1
        simp at this; omega
      rw [h0] at h1 h2
      simp at h1 h2
      subst h1 h2
      exact sec3 ⟨hsn, hs, more_new hsb (by rw [szs]; omega)⟩
  · intro i y z h1 h2
    exact ⟨(r.lsec i y z h1 h2).1, secW (r.lsec i y z h1 h2).2⟩

def zeros : Sec := List.replicate 32 0

def phiNew (W : World) (F : Nat → Prop) (p : Nat) (good : List Sec) (ag : Option Addr) (cg : Nat) (gs : List Sl) : Nat → List Value → World → Prop
  | 0, [], w => w = W.drew
  | 1, [v], w => v = .slice (some ⟨W.heap.size, 0, none⟩) 32 32 ∧ w = W.drew.alloc (.cells (madeCells #[.int .u8 0] 32) 5)
  | 2, [v, u], w => v = .slice (some ⟨W.heap.size, 0, none⟩) 32 32 ∧ u = .slice (some ⟨W.heap.size + 1, 0, none⟩) 1 1 ∧ w = (W.drew.alloc (.cells (madeCells #[.int .u8 0] 32) 5)).alloc (.cells #[.slice (some ⟨W.heap.size, 0, none⟩) 32 32] 39)
  | 3, [v, u, x], w => (w.cell? ⟨p, 0, none⟩ = some (.slice ag gs.length cg) ∧ w.frozen? ⟨p, 0, none⟩ = false) ∧ (∃ ax nx cx, x = .slice ax nx cx) ∧ RefD (w.setCell ⟨p, 0, none⟩ x) (More F W (w.setCell ⟨p, 0, none⟩ x)) p (good ++ [zeros]) [] (-1) ∧ Chg F W (w.setCell ⟨p, 0, none⟩ x)
  | 4, _, w => RefD w (More F W w) p (good ++ [zeros]) [] (-1) ∧ Chg F W w
  | _, _, _ => False
theorem newCell {W w : World} {F : Nat → Prop} {p : Nat} {good : List Sec} {log : List (Nat × Sec)} {fuse : Int} {ag : Option Addr} {cg : Nat} {gs : List Sl} {al : Option Addr} {cl : Nat} {ls : List On} {j : Nat} {vs : List Value} (hj : j ≤ 2) (h : phiNew W F p good ag cg gs j vs w) (r : RefAt W F p good log fuse ag cg gs al cl ls) : w.cell? ⟨p, 0, none⟩ = some (.slice ag gs.length cg) := by
  have c0 := Arr.blk_cell r.blk 0
  match j, vs, h with
  | 0, [], h => subst h; exact c0
  | 1, [v], h => obtain ⟨_, rfl⟩ := h; exact cell_alloc c0
  | 2, [v, u], h => obtain ⟨_, _, rfl⟩ := h; exact cell_alloc (cell_alloc c0)

theorem run_mk32 (w : World) : (Instr.makeSlice 39 (.int .i64 32) (.int .i64 32)).run Try.prog w = .ok (.slice (some ⟨w.heap.size, 0, none⟩) 32 32) (w.alloc (.cells (madeCells #[.int .u8 0] 32) 5)) := by
  obtain ⟨i0, hi, hz0, hz1, hz2⟩ := info_parts info8
  have := run_make (P := Try.prog) w 39 5 i0 (.int .u8 0) Try.underlying39 hi hz0 .i64 .i64 32 32 (by decide) (by decide) (by rw [hz2]; decide) (by decide)
  rw [hz1] at this
  exact this
theorem made_zeros (n : Nat) : (madeCells #[Value.int .u8 0] n).toList = cellsB (List.replicate n 0) := by
  apply List.ext_getElem
  · simp [madeCells, cellsB]
  · intro i h1 h2
    simp [madeCells, cellsB, Nat.mod_one]
theorem own_made (w : World) (n : Nat) (hn : n ≤ maxLen) : OwnB (w.alloc (.cells (madeCells #[.int .u8 0] n) 5)) 0 (.slice (some ⟨w.heap.size, 0, none⟩) n n) (List.replicate n 0) := by
  refine own_iff.2 ⟨by rw [cellsB_length, Nat.mul_one], .inr ⟨_, n, _, by rw [List.length_replicate], Nat.zero_le _, heap_alloc_new w _, by rw [List.length_replicate]; exact Nat.le_refl _, hn, by rw [size_madeCells, Nat.mul_one], ?_⟩⟩
  rw [made_zeros, List.length_replicate, Nat.mul_one, List.take_of_length_le]
  rw [cellsB_length, List.length_replicate]; exact Nat.le_refl _
theorem run_bs_sl {w : World} {x : Value} {b n c : Nat} (h : x = .slice (some ⟨b, 0, none⟩) n c) : (Instr.buildSlice 30 1 #[(0, x)]).run Try.prog w = .ok (.slice (some ⟨w.heap.size, 0, none⟩) 1 1) (w.alloc (.cells #[.slice (some ⟨b, 0, none⟩) n c] 39)) := by
  subst h
  simp [go_sem]
theorem run_st_sls {w : World} {ax : Option Addr} {p : Addr} {u : Value} {n c : Nat} (hc : w.cell? p = some u) (hf : w.frozen? p = false) : (Instr.storeAt 30 (.pointer (some p)) (.slice ax n c)).run Try.prog w = .ok () (w.setCell p (.slice ax n c)) := by
  simp [go_sem, hc, hf]
theorem info_sl : (Try.prog.info? 39).map (fun i => (i.zero, i.size, i.bytes)) = some (some (.slice none 0 0), 1, 24) := by kernel_rfl
theorem info_on : (Try.prog.info? 69).map (fun i => (i.zero, i.size, i.bytes)) = some (some (.agg #[.int .i64 0, .slice none 0 0]), 2, 32) := by kernel_rfl

def newSl (W : World) : Sl := ⟨W.heap.size, 32, 32⟩
abbrev newW (W : World) : World := (W.drew.alloc (.cells (madeCells #[.int .u8 0] 32) 5)).alloc (.cells #[.slice (some ⟨W.heap.size, 0, none⟩) 32 32] 39)
theorem newW_below (W : World) : Below W.heap.size W (newW W) := ((below_drew W).alloc (Nat.le_refl _) _).alloc (by simp) _
theorem new_append {W : World} {F : Nat → Prop} {p : Nat} {good : List Sec} {log : List (Nat × Sec)} {fuse : Int} {ag : Option Addr} {cg : Nat} {gs : List Sl} {al : Option Addr} {cl : Nat} {ls : List On} (ty : TypeId) (r : RefAt W F p good log fuse ag cg gs al cl ls) (hk : gs.length ≤ 1024) :
    ∃ x w3, (Builtin.append_ #[30, 30] ty #[.slice ag gs.length cg, .slice (some ⟨W.heap.size + 1, 0, none⟩) 1 1]).run Try.prog (newW W) = .ok x w3 ∧ Owns encSl 1 39 w3 0 x (gs ++ [newSl W]) ∧ (newW W).grownBy w3 (Value.slice ag gs.length cg).ownBlock ∧ (x.ownBlock = (Value.slice ag gs.length cg).ownBlock ∨ x.ownBlock = some (newW W).heap.size) :=
  Two.run_append_apart encSl_len (by decide) encSl_one _ ty 39 Try.underlying30 (.slice none 0 0) 24 info_sl rfl 0 _ gs (own_chg (new_chg (newW_below W) (fun _ => False)) r.gown (fun _ _ => id)) (some ⟨W.heap.size + 1, 0, none⟩) 1 1 [newSl W] rfl
    (Kit.row_new encSl_len _ [newSl W] _ _ _ (by simp) rfl) (fun h => by cases h) (by unfold maxLen; omega) (by omega) (Nat.zero_le _)
theorem new_made {W w3 : World} {F : Nat → Prop} {p : Nat} {good : List Sec} {log : List (Nat × Sec)} {fuse : Int} {ag : Option Addr} {cg : Nat} {gs : List Sl} {al : Option Addr} {cl : Nat} {ls : List On} {x : Value} (r : RefAt W F p good log fuse ag cg gs al cl ls) (hF : ∀ k, F k → k < W.heap.size)
    (ho : Owns encSl 1 39 w3 0 x (gs ++ [newSl W])) (hg : (newW W).grownBy w3 (Value.slice ag gs.length cg).ownBlock) (hw : x.ownBlock = (Value.slice ag gs.length cg).ownBlock ∨ x.ownBlock = some (newW W).heap.size) :
    (w3.cell? ⟨p, 0, none⟩ = some (.slice ag gs.length cg) ∧ w3.frozen? ⟨p, 0, none⟩ = false) ∧ (∃ ax nx cx, x = .slice ax nx cx) ∧ RefD (w3.setCell ⟨p, 0, none⟩ x) (More F W (w3.setCell ⟨p, 0, none⟩ x)) p (good ++ [zeros]) log fuse ∧ Chg F W (w3.setCell ⟨p, 0, none⟩ x) :=
  good_made r hF (newW_below W) (s := newSl W) (l := zeros) (owns_alloc (own_made W.drew 32 (by unfold maxLen; omega)) _) rfl (Nat.le_refl _) ho hg hw

set_option maxHeartbeats 1000000 in
theorem rnew_any (n : Int) (w : World) (h1 : -9223372036854775808 ≤ n) (h2 : n ≤ 9223372036854775807) :
    Calls Try.prog 9 #[.int .i64 n] w fun e w' => ∃ p, e = .returned (.pointer (some ⟨p, 0, none⟩)) ∧ RefD w' (More (fun _ => False) w w') p (DS.new n).good [] (-1) ∧ Below w.heap.size w w' := by
  obtain ⟨cnt, hcnt⟩ : ∃ c : Nat, c = if n < 1024 then n.toNat else 1024 := ⟨_, rfl⟩
  have hgood : (DS.new n).good = List.replicate cnt zeros := by rw [hcnt]; rfl
  have HGood := Lib.hid hgood
  have hcm : cnt ≤ 1024 := by rw [hcnt]; split <;> omega
  clear hgood
  go_enter Try.func9, Try.ntmps9
  go_wp2_with fail
  · have hMc : ∀ k : Nat, ((k : Int) < 1024 ↔ k < cnt) := by intro k; rw [hcnt]; split <;> omega
    rename_i hnn _ _
    clear hcnt hnn
    go_loopw [4] (fun i wr => ∃ k : Nat, k ≤ cnt ∧ i = .int .i64 k ∧ RefD wr (More (fun _ => False) w wr) w.heap.size (List.replicate k zeros) [] (-1) ∧ Below w.heap.size w wr) (fun i _ => cnt - (intOf i).toNat)
    case atStart =>
      refine ⟨0, Nat.zero_le _, rfl, ⟨none, 0, [], none, 0, [], Arr.blk_new w _ _ [.slice none 0 0, .slice none 0 0, .int .i64 (-1)] rfl, more_new (Nat.le_refl _) (by simp), owns_nil _ _ _, (fun k hk => by cases hk), owns_nil _ _ _, (fun k hk => by cases hk), rfl, rfl, (fun i s l h => by simp at h), (fun i s l h => by simp at h)⟩, below_alloc w _⟩
    case round =>
      obtain ⟨k, hk, rfl, hR, hb⟩ := hrel
      by_cases hlt : k < cnt
      · have hd := (hMc k).2 hlt
        obtain ⟨ag, cg, gs, al, cl, ls, r⟩ := hR
        have hgl : gs.length ≤ 1024 := by rw [r.glen, List.length_replicate]; omega
        have HR := Lib.hid r
        have HK := Lib.hid hgl
        have HF : Hid (∀ k, More (fun _ => False) w wr k → k < wr.heap.size) := Lib.hid (fun k hk => more_lt (fun _ h => h.elim) hb.size hk)
        have HB := Lib.hid hb
        clear r hgl hb
        go_wp2_with fail
        refine Chn.wp_region_chain (fun idx => match idx with | 0 => some (.pointer (some ⟨w.heap.size, 0, none⟩)) | 1 => some (.pointer (some ⟨w.heap.size, 0, none⟩)) | 2 => some (.pointer (some ⟨w.heap.size, 0, none⟩)) | 3 => some (.pointer (some ⟨w.heap.size, 0, none⟩)) | 4 => some (.slice ag gs.length cg) | 8 => some (.pointer (some ⟨w.heap.size, 0, none⟩)) | 9 => some (.pointer (some ⟨w.heap.size, 0, none⟩)) | _ => none) [5, 6, 7, 10] (phiNew wr (More (fun _ => False) w wr) w.heap.size (List.replicate k zeros) ag cg gs) (by kernel_rfl) (by kernel_rfl) (by kernel_rfl) (by kernel_rfl) (by kernel_rfl) (by decide) (by kernel_rfl) (rfl) ?_ ?_
        · refine ⟨?_, ?_, ?_, ?_, ?_, ?_, ?_, ?_, ?_, ?_, ?_, trivial⟩
          · intro a ww jj vs c hj0 hΦ
            have hj : jj ≤ 3 := Nat.le_trans hj0 (of_decide_eq_true (by kernel_rfl))
            refine .inl ⟨Rel.wanted_free (by kernel_rfl) _, ?_⟩
            exact Rel.wp_mv _ rfl ⟨congrArg (a.put _) (c.old 3 (v := .pointer (some ⟨w.heap.size, 0, none⟩)) (by kernel_rfl) (by kernel_rfl)), rfl⟩
          · intro a ww jj vs c hj0 hΦ
            have hj : jj ≤ 2 := Nat.le_trans hj0 (of_decide_eq_true (by kernel_rfl))
            refine .inl ⟨Rel.wanted_free (by kernel_rfl) _, ?_⟩
            exact Rel.wp_mv _ rfl ⟨congrArg (a.put _) (c.old 3 (v := .pointer (some ⟨w.heap.size, 0, none⟩)) (by kernel_rfl) (by kernel_rfl)), rfl⟩
          · intro a ww jj vs c hj0 hΦ
            have hj : jj ≤ 2 := Nat.le_trans hj0 (of_decide_eq_true (by kernel_rfl))
            refine .inl ⟨Rel.wanted_free (by kernel_rfl) _, ?_⟩
            exact Chn.wp_nc _ rfl (c.get 1 15 (by kernel_rfl) rfl) ⟨rfl, rfl⟩
          · intro a ww jj vs c hj0 hΦ
            have hj : jj ≤ 2 := Nat.le_trans hj0 (of_decide_eq_true (by kernel_rfl))
            refine .inl ⟨Rel.wanted_free (by kernel_rfl) _, ?_⟩
            exact Chn.wp_fa _ _ _ rfl (c.get 2 16 (by kernel_rfl) rfl) (by simp [go_sem]) ⟨rfl, rfl⟩
          · intro a ww jj vs c hj0 hΦ
            have hj : jj ≤ 2 := Nat.le_trans hj0 (of_decide_eq_true (by kernel_rfl))
            refine .inl ⟨Rel.wanted_free (by kernel_rfl) _, ?_⟩
            exact Rel.wp_ld _ _ rfl (c.get 3 17 (by kernel_rfl) rfl) (run_ld_sls (newCell hj hΦ HR.out)) ⟨rfl, rfl⟩
          · refine ⟨0, rfl, ?_⟩
            intro a ww c hΦ
            have h : (phiNew wr (More (fun _ => False) w wr) w.heap.size (List.replicate k zeros) ag cg gs) 0 [] ww := hΦ
            clear hΦ
            refine ⟨Rel.wanted_free (by kernel_rfl) _, ?_⟩
            simp only [phiNew] at h
            subst h
            exact Chn.wp_ms _ _ _ rfl rfl rfl (run_mk32 _) ⟨_, rfl, rfl, rfl⟩
          · refine ⟨1, rfl, ?_⟩
            intro a ww c hΦ
            have h : (phiNew wr (More (fun _ => False) w wr) w.heap.size (List.replicate k zeros) ag cg gs) 1 [Rel.slot a 19] ww := hΦ
            clear hΦ
            refine ⟨Rel.wanted_free (by kernel_rfl) _, ?_⟩
            obtain ⟨hv, rfl⟩ := h
            exact Chn.wp_bs1 _ _ rfl rfl (run_bs_sl hv) ⟨_, rfl, hv, by simp, rfl⟩
          · refine ⟨2, rfl, ?_⟩
            intro a ww c hΦ
            have h : (phiNew wr (More (fun _ => False) w wr) w.heap.size (List.replicate k zeros) ag cg gs) 2 [Rel.slot a 19, Rel.slot a 20] ww := hΦ
            clear hΦ
            refine ⟨Rel.wanted_free (by kernel_rfl) _, ?_⟩
            obtain ⟨hv, hu, rfl⟩ := h
            obtain ⟨x, w3, hr, ho, hg, hw⟩ := new_append (ty := 30) HR.out HK.out
            exact Chn.wp_ap _ _ _ rfl (c.get 4 18 (by kernel_rfl) rfl) hu hr ⟨_, rfl, new_made HR.out HF.out ho hg hw⟩
          · intro a ww jj vs c hj0 hΦ
            have hj : jj ≤ 3 := Nat.le_trans hj0 (of_decide_eq_true (by kernel_rfl))
            refine .inl ⟨Rel.wanted_free (by kernel_rfl) _, ?_⟩
            exact Chn.wp_nc _ rfl (c.get 0 14 (by kernel_rfl) rfl) ⟨rfl, rfl⟩
          · intro a ww jj vs c hj0 hΦ
            have hj : jj ≤ 3 := Nat.le_trans hj0 (of_decide_eq_true (by kernel_rfl))
            refine .inl ⟨Rel.wanted_free (by kernel_rfl) _, ?_⟩
            exact Chn.wp_fa _ _ _ rfl (c.get 8 22 (by kernel_rfl) rfl) (by simp [go_sem]) ⟨rfl, rfl⟩
          · refine ⟨3, rfl, ?_⟩
            intro a ww c hΦ
            have h : (phiNew wr (More (fun _ => False) w wr) w.heap.size (List.replicate k zeros) ag cg gs) 3 [Rel.slot a 19, Rel.slot a 20, Rel.slot a 21] ww := hΦ
            clear hΦ
            refine ⟨Rel.wanted_free (by kernel_rfl) _, ?_⟩
            obtain ⟨⟨c0, f0⟩, ⟨ax, nx, cx, hx⟩, hR3, hC3⟩ := h
            rw [hx] at hR3 hC3
            exact Chn.wp_st _ _ _ rfl (c.get 9 23 (by kernel_rfl) rfl) hx (run_st_sls c0 f0) ⟨undef, rfl, hR3, hC3⟩
        intro a w9 hbase hroom hdef hΦ hV
        have h : (phiNew wr (More (fun _ => False) w wr) w.heap.size (List.replicate k zeros) ag cg gs) 4 [Rel.slot a 19, Rel.slot a 20, Rel.slot a 21, undef] w9 := hΦ
        rw [Chn.act_puts [14, 15, 16, 17, 18, 19, 20, 21, 22, 23] hbase hroom hdef (by kernel_rfl)]
        clear hbase hroom hdef hΦ hV
        simp only [List.foldl_cons, List.foldl_nil]
        generalize Rel.slot a 14 = u14 at *
        generalize Rel.slot a 15 = u15 at *
        generalize Rel.slot a 16 = u16 at *
        generalize Rel.slot a 17 = u17 at *
        generalize Rel.slot a 18 = u18 at *
        generalize Rel.slot a 19 = u19 at *
        generalize Rel.slot a 20 = u20 at *
        generalize Rel.slot a 21 = u21 at *
        generalize Rel.slot a 22 = u22 at *
        generalize Rel.slot a 23 = u23 at *
        obtain ⟨hR9, hC9⟩ := h
        have HR9 := Lib.hid hR9
        have HC9 := Lib.hid hC9
        clear hR9 hC9
        go_wp2_with fail
        go_roundw
        case rel =>
          refine ⟨k + 1, by omega, by go_num, ?_, HB.out.trans (chg_below HC9.out (fun x hx => more_ge (fun _ h => h.elim) (Nat.le_refl _) hx) HB.out.size)⟩
          rw [List.replicate_succ']
          exact ref_mono HR9.out fun x hx => more_more HB.out.size HC9.out.size hx
        case measure => simp [intOf]; omega
      · have hd := mt (hMc k).1 hlt
        obtain rfl : k = cnt := by omega
        have HR := Lib.hid hR
        have HB := Lib.hid hb
        clear hR hb
        go_wp2
        go_ret
        exact ⟨_, rfl, by rw [HGood.out]; exact HR.out, HB.out⟩
  · have hMc : ∀ k : Nat, ((k : Int) < n ↔ k < cnt) := by intro k; rw [hcnt]; split <;> omega
    rename_i hnn _ _
    clear hcnt hnn
    go_loopw [4] (fun i wr => ∃ k : Nat, k ≤ cnt ∧ i = .int .i64 k ∧ RefD wr (More (fun _ => False) w wr) w.heap.size (List.replicate k zeros) [] (-1) ∧ Below w.heap.size w wr) (fun i _ => cnt - (intOf i).toNat)
    case atStart =>
      refine ⟨0, Nat.zero_le _, rfl, ⟨none, 0, [], none, 0, [], Arr.blk_new w _ _ [.slice none 0 0, .slice none 0 0, .int .i64 (-1)] rfl, more_new (Nat.le_refl _) (by simp), owns_nil _ _ _, (fun k hk => by cases hk), owns_nil _ _ _, (fun k hk => by cases hk), rfl, rfl, (fun i s l h => by simp at h), (fun i s l h => by simp at h)⟩, below_alloc w _⟩
    case round =>
      obtain ⟨k, hk, rfl, hR, hb⟩ := hrel
      by_cases hlt : k < cnt
      · have hd := (hMc k).2 hlt
        obtain ⟨ag, cg, gs, al, cl, ls, r⟩ := hR
        have hgl : gs.length ≤ 1024 := by rw [r.glen, List.length_replicate]; omega
        have HR := Lib.hid r
        have HK := Lib.hid hgl
        have HF : Hid (∀ k, More (fun _ => False) w wr k → k < wr.heap.size) := Lib.hid (fun k hk => more_lt (fun _ h => h.elim) hb.size hk)
        have HB := Lib.hid hb
        clear r hgl hb
        go_wp2_with fail
        refine Chn.wp_region_chain (fun idx => match idx with | 0 => some (.pointer (some ⟨w.heap.size, 0, none⟩)) | 1 => some (.pointer (some ⟨w.heap.size, 0, none⟩)) | 2 => some (.pointer (some ⟨w.heap.size, 0, none⟩)) | 3 => some (.pointer (some ⟨w.heap.size, 0, none⟩)) | 4 => some (.slice ag gs.length cg) | 8 => some (.pointer (some ⟨w.heap.size, 0, none⟩)) | 9 => some (.pointer (some ⟨w.heap.size, 0, none⟩)) | _ => none) [5, 6, 7, 10] (phiNew wr (More (fun _ => False) w wr) w.heap.size (List.replicate k zeros) ag cg gs) (by kernel_rfl) (by kernel_rfl) (by kernel_rfl) (by kernel_rfl) (by kernel_rfl) (by decide) (by kernel_rfl) (rfl) ?_ ?_
        · refine ⟨?_, ?_, ?_, ?_, ?_, ?_, ?_, ?_, ?_, ?_, ?_, trivial⟩
          · intro a ww jj vs c hj0 hΦ
            have hj : jj ≤ 3 := Nat.le_trans hj0 (of_decide_eq_true (by kernel_rfl))
            refine .inl ⟨Rel.wanted_free (by kernel_rfl) _, ?_⟩
            exact Rel.wp_mv _ rfl ⟨congrArg (a.put _) (c.old 3 (v := .pointer (some ⟨w.heap.size, 0, none⟩)) (by kernel_rfl) (by kernel_rfl)), rfl⟩
          · intro a ww jj vs c hj0 hΦ
            have hj : jj ≤ 2 := Nat.le_trans hj0 (of_decide_eq_true (by kernel_rfl))
            refine .inl ⟨Rel.wanted_free (by kernel_rfl) _, ?_⟩
            exact Rel.wp_mv _ rfl ⟨congrArg (a.put _) (c.old 3 (v := .pointer (some ⟨w.heap.size, 0, none⟩)) (by kernel_rfl) (by kernel_rfl)), rfl⟩
          · intro a ww jj vs c hj0 hΦ
            have hj : jj ≤ 2 := Nat.le_trans hj0 (of_decide_eq_true (by kernel_rfl))
            refine .inl ⟨Rel.wanted_free (by kernel_rfl) _, ?_⟩
            exact Chn.wp_nc _ rfl (c.get 1 15 (by kernel_rfl) rfl) ⟨rfl, rfl⟩
          · intro a ww jj vs c hj0 hΦ
            have hj : jj ≤ 2 := Nat.le_trans hj0 (of_decide_eq_true (by kernel_rfl))
            refine .inl ⟨Rel.wanted_free (by kernel_rfl) _, ?_⟩
            exact Chn.wp_fa _ _ _ rfl (c.get 2 16 (by kernel_rfl) rfl) (by simp [go_sem]) ⟨rfl, rfl⟩
          · intro a ww jj vs c hj0 hΦ
            have hj : jj ≤ 2 := Nat.le_trans hj0 (of_decide_eq_true (by kernel_rfl))
            refine .inl ⟨Rel.wanted_free (by kernel_rfl) _, ?_⟩
            exact Rel.wp_ld _ _ rfl (c.get 3 17 (by kernel_rfl) rfl) (run_ld_sls (newCell hj hΦ HR.out)) ⟨rfl, rfl⟩
          · refine ⟨0, rfl, ?_⟩
            intro a ww c hΦ
            have h : (phiNew wr (More (fun _ => False) w wr) w.heap.size (List.replicate k zeros) ag cg gs) 0 [] ww := hΦ
            clear hΦ
            refine ⟨Rel.wanted_free (by kernel_rfl) _, ?_⟩
            simp only [phiNew] at h
            subst h
            exact Chn.wp_ms _ _ _ rfl rfl rfl (run_mk32 _) ⟨_, rfl, rfl, rfl⟩
          · refine ⟨1, rfl, ?_⟩
            intro a ww c hΦ
            have h : (phiNew wr (More (fun _ => False) w wr) w.heap.size (List.replicate k zeros) ag cg gs) 1 [Rel.slot a 19] ww := hΦ
            clear hΦ
            refine ⟨Rel.wanted_free (by kernel_rfl) _, ?_⟩
            obtain ⟨hv, rfl⟩ := h
            exact Chn.wp_bs1 _ _ rfl rfl (run_bs_sl hv) ⟨_, rfl, hv, by simp, rfl⟩
          · refine ⟨2, rfl, ?_⟩
            intro a ww c hΦ
            have h : (phiNew wr (More (fun _ => False) w wr) w.heap.size (List.replicate k zeros) ag cg gs) 2 [Rel.slot a 19, Rel.slot a 20] ww := hΦ
            clear hΦ
            refine ⟨Rel.wanted_free (by kernel_rfl) _, ?_⟩
            obtain ⟨hv, hu, rfl⟩ := h
            obtain ⟨x, w3, hr, ho, hg, hw⟩ := new_append (ty := 30) HR.out HK.out
            exact Chn.wp_ap _ _ _ rfl (c.get 4 18 (by kernel_rfl) rfl) hu hr ⟨_, rfl, new_made HR.out HF.out ho hg hw⟩
          · intro a ww jj vs c hj0 hΦ
            have hj : jj ≤ 3 := Nat.le_trans hj0 (of_decide_eq_true (by kernel_rfl))
            refine .inl ⟨Rel.wanted_free (by kernel_rfl) _, ?_⟩
            exact Chn.wp_nc _ rfl (c.get 0 14 (by kernel_rfl) rfl) ⟨rfl, rfl⟩
          · intro a ww jj vs c hj0 hΦ
            have hj : jj ≤ 3 := Nat.le_trans hj0 (of_decide_eq_true (by kernel_rfl))
            refine .inl ⟨Rel.wanted_free (by kernel_rfl) _, ?_⟩
            exact Chn.wp_fa _ _ _ rfl (c.get 8 22 (by kernel_rfl) rfl) (by simp [go_sem]) ⟨rfl, rfl⟩
          · refine ⟨3, rfl, ?_⟩
            intro a ww c hΦ
            have h : (phiNew wr (More (fun _ => False) w wr) w.heap.size (List.replicate k zeros) ag cg gs) 3 [Rel.slot a 19, Rel.slot a 20, Rel.slot a 21] ww := hΦ
            clear hΦ
            refine ⟨Rel.wanted_free (by kernel_rfl) _, ?_⟩
            obtain ⟨⟨c0, f0⟩, ⟨ax, nx, cx, hx⟩, hR3, hC3⟩ := h
            rw [hx] at hR3 hC3
            exact Chn.wp_st _ _ _ rfl (c.get 9 23 (by kernel_rfl) rfl) hx (run_st_sls c0 f0) ⟨undef, rfl, hR3, hC3⟩
        intro a w9 hbase hroom hdef hΦ hV
        have h : (phiNew wr (More (fun _ => False) w wr) w.heap.size (List.replicate k zeros) ag cg gs) 4 [Rel.slot a 19, Rel.slot a 20, Rel.slot a 21, undef] w9 := hΦ
        rw [Chn.act_puts [14, 15, 16, 17, 18, 19, 20, 21, 22, 23] hbase hroom hdef (by kernel_rfl)]
        clear hbase hroom hdef hΦ hV
        simp only [List.foldl_cons, List.foldl_nil]
        generalize Rel.slot a 14 = u14 at *
        generalize Rel.slot a 15 = u15 at *
        generalize Rel.slot a 16 = u16 at *
        generalize Rel.slot a 17 = u17 at *
        generalize Rel.slot a 18 = u18 at *
        generalize Rel.slot a 19 = u19 at *
        generalize Rel.slot a 20 = u20 at *
        generalize Rel.slot a 21 = u21 at *
        generalize Rel.slot a 22 = u22 at *
        generalize Rel.slot a 23 = u23 at *
        obtain ⟨hR9, hC9⟩ := h
        have HR9 := Lib.hid hR9
        have HC9 := Lib.hid hC9
        clear hR9 hC9
        go_wp2_with fail
        go_roundw
        case rel =>
          refine ⟨k + 1, by omega, by go_num, ?_, HB.out.trans (chg_below HC9.out (fun x hx => more_ge (fun _ h => h.elim) (Nat.le_refl _) hx) HB.out.size)⟩
          rw [List.replicate_succ']
          exact ref_mono HR9.out fun x hx => more_more HB.out.size HC9.out.size hx
        case measure => simp [intOf]; omega
      · have hd := mt (hMc k).1 hlt
        obtain rfl : k = cnt := by omega
        have HR := Lib.hid hR
        have HB := Lib.hid hb
        clear hR hb
        go_wp2
        go_ret
        exact ⟨_, rfl, by rw [HGood.out]; exact HR.out, HB.out⟩

end Go.Proofs.Ytpbegchaneppfaa.Dsk
