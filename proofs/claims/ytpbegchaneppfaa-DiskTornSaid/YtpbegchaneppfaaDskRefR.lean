/- Disk: the document's own disk: a write that is refused; a sector is read. -/
import Derived.Test.YtpbegchaneppfaaDskRefW
namespace Go.Proofs.Ytpbegchaneppfaa.Dsk
open Go.RowKit
open Go.Sort
open Kit
open Oct
open Foot
set_option linter.unusedVariables false

theorem ref_cell0 {w : World} {F : Nat → Prop} {p : Nat} {good : List Sec} {log : List (Nat × Sec)} {fuse : Int} (h : RefD w F p good log fuse) : ∃ ag cg, w.cell? ⟨p, 0, none⟩ = some (.slice ag good.length cg) := by
  obtain ⟨ag, cg, gs, al, cl, ls, r⟩ := h
  exact ⟨ag, cg, by rw [← r.glen]; exact Arr.blk_cell r.blk 0⟩

set_option maxHeartbeats 2000000 in
theorem rwrite_bad {F : Nat → Prop} {p : Nat} {good : List Sec} {log : List (Nat × Sec)} {fuse : Int} {w : World} (h : RefD w F p good log fuse)
    (i : Int) (aa : Option Addr) (len cc : Nat) (hi : ¬ (inR i good.length ∧ len = 32)) (hm : len ≤ 9223372036854775807) (hg : good.length ≤ 1024) :
    Calls Try.prog 24 #[.pointer (some ⟨p, 0, none⟩), .int .i64 i, .slice aa len cc] w fun e w' => e = .returned (.int .i64 1) ∧ w = w' := by
  obtain ⟨ag0, cg0, c0⟩ := ref_cell0 h
  clear h
  by_cases h0 : i < 0
  · have d1 : decide (i < 0) = true := by rw [decide_eq_true_iff]; exact h0
    clear hi
    go_enter Try.func24, Try.ntmps24
    go_wp2
    go_ret
    exact ⟨rfl, rfl⟩
  by_cases h1 : (good.length : Int) ≤ i
  · have d1 : decide (i < 0) = false := by rw [decide_eq_false_iff_not]; exact h0
    have d2 : decide ((good.length : Int) ≤ i) = true := by rw [decide_eq_true_iff]; exact h1
    clear hi
    go_enter Try.func24, Try.ntmps24
    go_wp2
    go_ret
    exact ⟨rfl, rfl⟩
  · have d1 : decide (i < 0) = false := by rw [decide_eq_false_iff_not]; exact h0
    have d2 : decide ((good.length : Int) ≤ i) = false := by rw [decide_eq_false_iff_not]; exact h1
    have d3 : ((len : Int) != 32) = true := by
      rw [bne_iff_ne]; intro e
      exact hi ⟨⟨by omega, by omega⟩, by omega⟩
    clear hi
    go_enter Try.func24, Try.ntmps24
    go_wp2
    go_ret
    exact ⟨rfl, rfl⟩

set_option maxHeartbeats 2000000 in
theorem rwrite_down {F : Nat → Prop} {p : Nat} {good : List Sec} {log : List (Nat × Sec)} {w : World} (h : RefD w F p good log 0) (hg : good.length ≤ 1024)
    (i : Int) (aa : Option Addr) (cc : Nat) (hi : inR i good.length) :
    Calls Try.prog 24 #[.pointer (some ⟨p, 0, none⟩), .int .i64 i, .slice aa 32 cc] w fun e w' => e = .returned (.int .i64 10) ∧ RefD w' F p good log 0 ∧ Chg F w w' ∧ w'.heap.size = w.heap.size := by
  obtain ⟨ag0, cg0, c0⟩ := ref_cell0 h
  obtain ⟨hi0, hi1⟩ := hi
  have HBurn := Lib.hid (rburn_any h (by omega))
  have d1 : decide (i < 0) = false := by rw [decide_eq_false_iff_not]; omega
  have d2 : decide ((good.length : Int) ≤ i) = false := by rw [decide_eq_false_iff_not]; omega
  clear h
  go_enter Try.func24, Try.ntmps24
  go_wp2_with fail
  refine HBurn.out.mono ?_
  rintro e w1 ⟨rfl, hR, hC, hsz⟩
  simp only [decide_true, Bool.not_true]
  have HR := Lib.hid hR
  have HC := Lib.hid (And.intro hC hsz)
  clear hR hC hsz
  go_wp2
  go_ret
  exact ⟨rfl, HR.out, HC.out.1, HC.out.2⟩

set_option maxHeartbeats 2000000 in
theorem rread_bad {F : Nat → Prop} {p : Nat} {good : List Sec} {log : List (Nat × Sec)} {fuse : Int} {w : World} (h : RefD w F p good log fuse)
    (i : Int) (hi : ¬ inR i good.length) (hg : good.length ≤ 1024) :
    Calls Try.prog 26 #[.pointer (some ⟨p, 0, none⟩), .int .i64 i] w fun e w' => e = .returned (.tuple #[.slice none 0 0, .int .i64 1]) ∧ w = w' := by
  obtain ⟨ag0, cg0, c0⟩ := ref_cell0 h
  clear h
  by_cases h0 : i < 0
  · have d1 : decide (i < 0) = true := by rw [decide_eq_true_iff]; exact h0
    clear hi
    go_enter Try.func26, Try.ntmps26
    go_wp2
    go_ret2
    exact ⟨rfl, rfl⟩
  · have d1 : decide (i < 0) = false := by rw [decide_eq_false_iff_not]; exact h0
    have d2 : decide ((good.length : Int) ≤ i) = true := by rw [decide_eq_true_iff]; unfold inR at hi; omega
    clear hi
    go_enter Try.func26, Try.ntmps26
    go_wp2
    go_ret2
    exact ⟨rfl, rfl⟩

theorem own_at {α : Type} {enc : α → List Value} {size : Nat} (hs : ∀ x, (enc x).length = size) {e : TypeId} {w : World} {base n c : Nat} {a : Option Addr} {l : List α} (h : Owns enc size e w base (.slice a n c) l) (hl : 0 < l.length) : ∃ g, a = some ⟨g, 0, none⟩ ∧ n = l.length ∧ n ≤ c ∧ Row enc size w (some ⟨g, 0, none⟩) l := by
  obtain ⟨a', c', he, h1, _, h3, h4⟩ := owns_row hs h
  injection he with e1 e2 e3
  subst e1 e2 e3
  rcases h.2 with ⟨h5, h6⟩ | ⟨g, cap, cur, h5, _⟩
  · omega
  · injection h5 with h5 _ _
    exact ⟨g, h5, rfl, h1, by rw [← h5]; exact h4⟩

set_option maxHeartbeats 4000000 in
theorem rread_ok {F : Nat → Prop} {p : Nat} {good : List Sec} {log : List (Nat × Sec)} {fuse : Int} {w : World} (h : RefD w F p good log fuse) (hg : good.length ≤ 1024) (hk : log.length ≤ 1000000)
    (h32 : ∀ l ∈ logNow good log, l.length = 32) (i : Int) (hi : inR i good.length) :
    Calls Try.prog 26 #[.pointer (some ⟨p, 0, none⟩), .int .i64 i] w fun e w' => ∃ v, e = .returned (.tuple #[v, .int .i64 0]) ∧ OwnB w' w.heap.size v ((logNow good log).getD i.toNat []) ∧ Below w.heap.size w w' := by
  obtain ⟨ag, cg, gs, al, cl, ls, r⟩ := h
  obtain ⟨hi0, hi1⟩ := hi
  obtain ⟨q, rfl⟩ : ∃ q : Nat, i = (q : Int) := ⟨i.toNat, by omega⟩
  have hq : q < good.length := by omega
  have hqs : q < gs.length := by rw [r.glen]; exact hq
  have hll : ls.length ≤ 1000000 := by rw [r.llen]; exact hk
  have c0 := Arr.blk_cell r.blk 0
  have c1 := Arr.blk_cell r.blk 1
  simp only [List.getElem?_cons_zero, List.getElem?_cons_succ] at c0 c1
  rw [r.glen] at c0
  obtain ⟨gg, rfl, _, _, hrg⟩ := own_at encSl_len r.gown (by omega)
  have cq := row_cell hrg hqs rfl (i := 0) (by omega)
  have hsq := r.gsec q gs[q] good[q] (List.getElem?_eq_getElem hqs) (List.getElem?_eq_getElem hq)
  generalize gs[q] = s0 at *
  obtain ⟨sb, sn, sc⟩ := s0
  simp only [encSl, Sl.val, Nat.mul_one, Nat.add_zero, Nat.zero_add, List.getElem?_cons_zero] at cq
  have d1 : decide ((q : Int) < 0) = false := by rw [decide_eq_false_iff_not]; omega
  have d2 : decide ((good.length : Int) ≤ (q : Int)) = false := by rw [decide_eq_false_iff_not]; omega
  have HS0 : Hid (SecAt w F ⟨sb, sn, sc⟩ ((logNow good (log.take 0)).getD q [])) := Lib.hid (by
    rw [List.take_zero]
    show SecAt w F _ (good.getD q [])
    rw [getD_at hq]; exact hsq)
  have HR := Lib.hid r
  have H32 := Lib.hid h32
  clear r hrg hsq h32 hi0 hi1
  go_enter Try.func26, Try.ntmps26
  go_wp2
  go_loop [6, 7] (fun b j => ∃ (k : Nat) (s : Sl), k ≤ ls.length ∧ j = .int .i64 k ∧ b = s.val ∧ SecAt w F s ((logNow good (log.take k)).getD q [])) (fun _ j => ls.length - (intOf j).toNat)
  case atStart => exact ⟨0, ⟨sb, sn, sc⟩, Nat.zero_le _, rfl, rfl, HS0.out⟩
  case round =>
    obtain ⟨k, s, hk, rfl, rfl, hS⟩ := hrel
    by_cases hlt : k < ls.length
    · obtain ⟨gl, hal, _, _, hrl⟩ := own_at encOn_len HR.out.lown (by omega)
      subst hal
      have hkl : k < log.length := by rw [← HR.out.llen]; exact hlt
      have k0 := row_cell hrl hlt rfl (i := 0) (by omega)
      have k1 := row_cell hrl hlt rfl (i := 1) (by omega)
      have hxy := HR.out.lsec k ls[k] log[k] (List.getElem?_eq_getElem hlt) (List.getElem?_eq_getElem hkl)
      have htk : log.take (k + 1) = log.take k ++ [log[k]] := List.take_succ_eq_append_getElem hkl
      have hln := logNow_length good (log.take k)
      have hn2 : (logNow good (log.take (k + 1))).getD q [] = if log[k].1 = q then log[k].2 else (logNow good (log.take k)).getD q [] := by
        rw [htk, logNow_snoc]
        simp only [List.getD, List.getElem?_set]
        by_cases he : log[k].1 = q
        · rw [if_pos he, if_pos he, if_pos (by rw [hln, he]; exact hq)]; rfl
        · rw [if_neg he, if_neg he]
      generalize ls[k] = x at *
      generalize log[k] = y at *
      obtain ⟨xa, ⟨xb, xn, xc⟩⟩ := x
      obtain ⟨ya, yb⟩ := y
      obtain ⟨hxa, hxs⟩ := hxy
      simp only at hxa hxs hn2
      subst hxa
      simp only [encOn, Sl.val, Nat.zero_add, Nat.add_zero, List.getElem?_cons_zero, List.getElem?_cons_succ] at k0 k1
      have HX := Lib.hid hxs
      have HS := Lib.hid hS
      by_cases he : ya = q
      · have d3 : ((ya : Int) == (q : Int)) = true := by rw [beq_iff_eq]; omega
        rw [if_pos he] at hn2
        have HN := Lib.hid hn2
        clear hxs hS hn2 hrl htk he
        go_wp2
        go_round
        case rel => exact ⟨k + 1, ⟨xb, xn, xc⟩, by omega, by go_num, rfl, by rw [HN.out]; exact HX.out⟩
        case measure => simp [intOf]; omega
      · have d3 : ((ya : Int) == (q : Int)) = false := by rw [beq_eq_false_iff_ne]; omega
        rw [if_neg he] at hn2
        have HN := Lib.hid hn2
        clear hxs hS hn2 hrl htk he
        go_wp2
        go_round
        case rel => exact ⟨k + 1, s, by omega, by go_num, rfl, by rw [HN.out]; exact HS.out⟩
        case measure => simp [intOf]; omega
    · obtain rfl : k = ls.length := by omega
      rw [HR.out.llen, List.take_length] at hS
      have hl : ((logNow good log).getD q []).length = 32 := H32.out _ (getD_mem (by rw [logNow_length]; exact hq))
      obtain ⟨b, n, c⟩ := s
      obtain ⟨h1, h2, _⟩ := hS
      generalize hLL : (logNow good log).getD q [] = l at *
      have HLL := Lib.hid hLL
      clear hLL
      simp only at h1
      subst h1
      have HL := Lib.hid hl
      have HO := Lib.hid (own_row' h2)
      clear h2 hl
      go_wp2_with (first | (at_builtin; refine append_b rfl (.tmp 53) (.tmp 54) rfl w.heap.size _ [] rfl (own_empty w _ (Nat.le_refl _)) (some ⟨b, 0, none⟩) l.length c l rfl rfl (row_alloc HO.out _) (fun h => by cases h) (by rw [HL.out]; decide) (by simp) ?_; intro v w2 hown hb; rw [List.nil_append] at hown; have HV := Lib.hid hown; have HB := Lib.hid ((below_alloc w _).trans hb); clear hown hb) | fail)
      go_ret2
      refine ⟨v, rfl, ?_, HB.out⟩
      have hv := HV.out
      rw [← HLL.out] at hv
      simpa [List.getD] using hv

end Go.Proofs.Ytpbegchaneppfaa.Dsk
