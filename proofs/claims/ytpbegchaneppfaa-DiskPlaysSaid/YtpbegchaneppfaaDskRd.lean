/- Disk: the landed disk: a read. -/
import Derived.Test.YtpbegchaneppfaaDskWr
namespace Go.Proofs.Ytpbegchaneppfaa.Dsk
open Go.RowKit
open Go.Sort
open Kit
open Oct
open Foot
set_option linter.unusedVariables false
variable {w w' : World} {F G : Nat → Prop} {p cl cc : Nat} {good : List Sec} {cache : List (Nat × Sec)} {al ac : Option Addr} {fu : Bool} {left : Int} {s : DS}

theorem row_blk {x : Nat} {t : TypeId} {l : Sec} (h : Arr.Blk w x t (cellsB l)) : RowB w (some ⟨x, 0, none⟩) l := by
  refine .inr ⟨x, 0, rfl, fun j hj i hi => ?_⟩
  have : i = 0 := by omega
  subst this
  rw [Nat.mul_one, Nat.zero_add, Nat.add_zero, Arr.blk_cell h]
  simp [encB, cellsB, List.getElem?_eq_getElem hj]
/-- What was read of a block of its own. -/
theorem rd_blk {x : Nat} {t : TypeId} {l : Sec} {base : Nat} (h : Arr.Blk w x t (encS l)) (hl : l.length = 32) (hb : base ≤ x) : RdB w base (.slice (some ⟨x, 0, none⟩) 32 32) l := by
  rw [encS_is hl] at h
  refine ⟨_, 32, by rw [hl], by omega, by unfold maxLen; omega, (fun e => by cases e), row_blk h, fun q hq => ?_⟩
  injection hq with hq
  subst hq
  exact ⟨rfl, hb, Arr.blk_lt h⟩
theorem size_sec (l : Sec) : (Try.prog.info? 64).map (·.size) = some (encS l).length := by rw [encS_len]; kernel_rfl
theorem encS_all (l : Sec) : (encS l).all (·.oneCell') = true := List.all_eq_true.2 (encS_one l)
theorem cd_range {b o k : Nat} {l : List (Nat × Sec)} (h : Kit.Row encC 33 w (some ⟨b, o, none⟩) l) (hk : k < l.length) {x : Nat × Sec} (hx : l[k] = x) : w.rangeAt b (o + k * 33 + 1) (encS x.2) := by
  intro j v hv
  have hj : j < 32 := by rw [← encS_len x.2]; exact (List.getElem?_eq_some_iff.1 hv).1
  have := row_range encC_len h hk hx (j + 1) v (by show (Value.int .i64 _ :: encS x.2)[j + 1]? = _; rw [List.getElem?_cons_succ]; exact hv)
  rw [show o + k * 33 + 1 + j = o + k * 33 + (j + 1) by omega]
  exact this

set_option maxHeartbeats 2000000 in
theorem dread_any (h : Dk w F p s) (i : Int) (hi : -9223372036854775808 ≤ i ∧ i ≤ 9223372036854775807) :
    Calls Try.prog 17 #[.pointer (some ⟨p, 0, none⟩), .int .i64 i] w fun e w' => ∃ v, e = .returned (.tuple #[v, .int .i64 (s.read i).2]) ∧ RdB w' w.heap.size v (s.read i).1 ∧ Below w.heap.size w w' := by
  have hH := dhas_any h i
  by_cases h1 : inR i s.good.length
  · rw [decide_eq_true h1] at hH
    have HH := Lib.hid hH
    clear hH
    obtain ⟨q, rfl⟩ : ∃ q : Nat, i = q := ⟨i.toNat, by have := h1.1; omega⟩
    have hqg : q < s.good.length := by have := h1.2; omega
    have hrd : s.read q = (s.now.getD q [], 0) := by unfold DS.read; rw [if_pos h1]; rfl
    rw [hrd]
    obtain ⟨al, ac, cl, cc, fu, left, r⟩ := h
    have hok := r.ok
    have hnq : q < s.now.length := by rw [hok.len]; exact hqg
    have hn32 : (s.now.getD q []).length = 32 := hok.now32 _ (getD_mem hnq)
    have hg32 : s.good[q].length = 32 := hok.good32 _ (List.getElem_mem hqg)
    have hrest : q ∉ s.order → s.now.getD q [] = s.good[q] := fun hn => by
      rw [List.getD, hok.rest q hn, List.getElem?_eq_getElem hqg]; rfl
    have hol := order_le hok
    have c0 := Arr.blk_cell r.blk 0
    simp only [List.getElem?_cons_zero] at c0
    obtain ⟨gl, rfl, _, _, hrowl⟩ := own_at encS_len r.lown (by omega)
    have hrg := row_range encS_len hrowl hqg rfl
    rw [Nat.zero_add] at hrg
    have hlt : (q : Int) < s.good.length := by omega
    generalize s.good[q] = old at *
    obtain ⟨new, hnew⟩ : ∃ n, n = s.now.getD q [] := ⟨_, rfl⟩
    rw [← hnew] at hn32 hrest ⊢
    have HR := Lib.hid r
    have HRg := Lib.hid hrg
    have HNew := Lib.hid (And.intro hnew (And.intro hn32 (And.intro hg32 (And.intro hrest hol))))
    have hba := below_alloc w (.cells (encS []).toArray 64)
    have hblk : Arr.Blk (w.alloc (.cells (encS []).toArray 64)) w.heap.size 64 (encS []) := Arr.blk_new _ _ _ _ rfl
    have HBk := Lib.hid hblk
    have HBa := Lib.hid hba
    clear r hok hnq hn32 hg32 hrest hol hrowl hrg hnew h1 hrd hba hblk
    go_enter Try.func17, Try.ntmps17
    go_wp2_with (first
      | (go_at_call 27; refine HH.out.mono ?_; rintro e w0 ⟨rfl, h0⟩; replace h0 := h0.symm; subst h0)
      | (refine wpList_load_mid rfl 64 (.tmp 17) rfl gl (q * 32) rfl (encS old) _ HRg.out Try.underlying64 rfl (size_sec old) ?_)
      | (refine Arr.wpList_store_blk rfl 64 (.tmp 6) (.tmp 18) rfl w.heap.size (encS old) rfl rfl (encS []) 64 HBk.out (size_sec old) (by rw [encS_len, encS_len]) (encS_all old) w.heap.size (Nat.le_refl _) ?_; intro w3 hB3 hb3; have H3 := Lib.hid (And.intro hB3 (HBa.out.trans hb3)); clear hB3 hb3)
      | fail)
    refine (dfind_any ⟨_, _, _, _, _, _, dkat_chg HR.out (new_chg H3.out.2 (fun _ => False)) (fun _ _ => id)⟩ q).mono ?_
    rintro e w4 ⟨j, rfl, hj, hb4⟩
    have hb04 := below_keep H3.out.2 hb4
    have r4 := dkat_chg HR.out (new_chg hb04 (fun _ => False)) (fun _ _ => id)
    have hB4 := Arr.blk_below H3.out.1 hb4 (Arr.blk_lt H3.out.1)
    have H4 := Lib.hid (And.intro hB4 hb04)
    rcases hj with ⟨rfl, hno⟩ | ⟨k, hk, rfl, hkq⟩
    · have hnm := found_none hno
      have HE := Lib.hid (HNew.out.2.2.2.1 hnm)
      clear hnm hno hb4 hb04 r4 hB4
      go_wp2
      go_ret2
      refine ⟨_, rfl, ?_, H4.out.2⟩
      show RdB _ _ _ new
      rw [HE.out]
      exact rd_blk H4.out.1 HNew.out.2.2.1 (Nat.le_refl _)
    · obtain ⟨hko, hkq'⟩ := found_some hk hkq
      have c1 := Arr.blk_cell r4.blk 1
      simp only [List.getElem?_cons_zero, List.getElem?_cons_succ] at c1
      obtain ⟨b, rfl, _, _, hrowc⟩ := own_at encC_len r4.cown (by omega)
      have hrg := cd_range hrowc hk (cacheOf_at s hk hko)
      rw [Nat.zero_add] at hrg
      have hdat : s.now.getD s.order[k] [] = new := by rw [hkq', HNew.out.1]
      simp only at hrg
      rw [hdat] at hrg
      have HRk := Lib.hid hrg
      have hklt : (k : Int) < s.order.length := by omega
      clear hb4 hb04 r4 hB4 hkq hk hko hkq' hrowc hrg hdat
      go_wp2_with (first
        | (refine wpList_load_mid rfl 64 (.tmp 30) rfl b (k * 33 + 1) rfl (encS new) _ HRk.out Try.underlying64 rfl (size_sec new) ?_)
        | (refine Arr.wpList_store_blk rfl 64 (.tmp 6) (.tmp 31) rfl w.heap.size (encS new) rfl rfl (encS old) 64 H4.out.1 (size_sec new) (by rw [encS_len, encS_len]) (encS_all new) w.heap.size (Nat.le_refl _) ?_; intro w5 hB5 hb5; have H5 := Lib.hid (And.intro hB5 (H4.out.2.trans hb5)); clear hB5 hb5)
        | fail)
      go_ret2
      exact ⟨_, rfl, rd_blk H5.out.1 HNew.out.2.1 (Nat.le_refl _), H5.out.2⟩
  · rw [decide_eq_false h1] at hH
    have HH := Lib.hid hH
    have hrd : s.read i = ([], 1) := by unfold DS.read; rw [if_neg h1]
    rw [hrd]
    clear hH h h1 hrd
    go_enter Try.func17, Try.ntmps17
    go_wp2_with (first
      | (go_at_call 27; refine HH.out.mono ?_; rintro e w0 ⟨rfl, h0⟩; replace h0 := h0.symm; subst h0)
      | fail)
    go_ret2
    exact ⟨_, rfl, ⟨none, 0, rfl, Nat.le_refl _, by unfold maxLen; omega, fun _ => rfl, .inl rfl, fun q hq => by cases hq⟩, Below.refl _ _⟩

end Go.Proofs.Ytpbegchaneppfaa.Dsk
