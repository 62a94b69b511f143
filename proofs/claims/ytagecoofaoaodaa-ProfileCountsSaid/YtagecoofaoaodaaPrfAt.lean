/- Profile: the document's At, fits and Fit, as they run. -/
import Derived.Test.YtagecoofaoaodaaPrfMem
import Derived.Lib.QuietBelow
namespace Go.Proofs.Ytagecoofaoaodaa.Prf
set_option maxRecDepth 100000
open Go.RowKit
open Go.Sort
open Kit
open Tre (Lst inI lst_keep lst_take lst_at lst_new lst_none below_drewN')
set_option linter.unusedVariables false
variable {w w' : World}

theorem val_take {p : List St} {k : Nat} {s : St} (t : Int) (h : p[k]? = some s) : val (p.take (k + 1)) t = if s.tick ≤ t then s.free else val (p.take k) t := by
  obtain ⟨hk, e⟩ := List.getElem?_eq_some_iff.1 h
  rw [List.take_succ_eq_append_getElem hk, e, val_snoc]
set_option maxHeartbeats 8000000 in
theorem rat_any (W : World) (t : Int) (a1 : Option Addr) (n c1 : Nat) (p : List St) (h : Steps W a1 n c1 p) (hn : n ≤ 2000) :
    Calls Try.prog 15 #[.slice a1 n c1, .int .i64 t] W fun e W' => e = .returned (.int .i64 (val p t)) ∧ Below W.heap.size W W' := by
  have HL := Lib.hid (And.intro h h.len)
  clear h
  go_enter Try.func15, Try.ntmps15
  go_wp2_with fail
  go_loopw [5] (fun i wr => ∃ (k : Nat) (iv : Int), k ≤ n ∧ i = .int .i64 iv ∧ iv = (k : Int) - 1 ∧ val p t = val (p.take k) t ∧ Below W.heap.size W wr) (fun i _ => ((intOf i) + 1).toNat)
  case atStart => exact ⟨n, (n : Int) - 1, Nat.le_refl _, by first | rfl | go_num, rfl, by rw [List.take_of_length_le (by rw [HL.out.2]; exact Nat.le_refl _)], Below.refl _ _⟩
  case round =>
    obtain ⟨k, iv, hk, rfl, hiv, hv, hb⟩ := hrel
    have HV := Lib.hid (And.intro hv hb)
    clear hv hb
    cases k with
    | zero =>
      obtain rfl : iv = -1 := by omega
      have HE := Lib.hid (show val p t = 0 by rw [HV.out.1]; rfl)
      clear hiv
      go_wp2_with fail
      go_ret
      exact ⟨by rw [HE.out]; rfl, HV.out.2⟩
    | succ k =>
      obtain rfl : iv = (k : Int) := by omega
      have hkn : k < n := by omega
      have hkl : k < p.length := by rw [HL.out.2]; exact hkn
      obtain ⟨b, o, rfl⟩ := lst_at HL.out.1 (by omega)
      obtain ⟨q0, q1⟩ := step_cells (lst_keep encS_len HL.out.1 HV.out.2) hkl
      have hvt := val_take t (List.getElem?_eq_getElem hkl)
      generalize p[k] = s at *
      obtain ⟨s0, s1⟩ := s
      simp only at q0 q1 hvt
      have HVt := Lib.hid hvt
      clear hvt hiv hkl hk
      by_cases hst : s0 ≤ t
      · have HE := Lib.hid (show val p t = s1 by rw [HV.out.1, HVt.out, if_pos hst])
        go_wp2_with fail
        go_ret
        exact ⟨by rw [HE.out]; rfl, HV.out.2⟩
      · have HE := Lib.hid (show val p t = val (p.take k) t by rw [HV.out.1, HVt.out, if_neg hst])
        go_wp2_with fail
        go_roundw
        case rel => exact ⟨k, (k : Int) - 1, by omega, by first | rfl | go_num, rfl, HE.out, HV.out.2⟩
        case measure => simp [intOf]
set_option maxHeartbeats 8000000 in
theorem rfits_any (W : World) (nodes long : Int) (a1 : Option Addr) (n c1 f : Nat) (p : List St) (s : St) (h : Steps W a1 n c1 p) (hp : Pf p) (hf : f < n) (hs : p[f]? = some s) (hl : long ≤ 1125899906842624) :
    Calls Try.prog 22 #[.slice a1 n c1, .int .i64 (f : Nat), .int .i64 nodes, .int .i64 long] W fun e W' => e = .returned (.bool (runB nodes (s.tick + long) (p.drop f))) ∧ Below W.heap.size W W' := by
  have HL := Lib.hid (And.intro h (And.intro h.len hp))
  have hn : n ≤ 1000 := by rw [← h.len]; exact hp.len
  obtain ⟨hsl, hse⟩ := List.getElem?_eq_some_iff.1 hs
  have hst := hp.tick s (List.mem_of_getElem? hs)
  obtain ⟨s0, s1⟩ := s
  obtain ⟨hs0, hs1⟩ := hst
  simp only at hs0 hs1
  have HSc := Lib.hid (fun (w : World) (b o : Nat) (h : Steps w (some ⟨b, o, none⟩) n c1 p) => by have := (step_cells h hsl).1; rw [hse] at this; exact this)
  clear h hp hs hse hsl hl
  go_enter Try.func22, Try.ntmps22
  go_wp2_with fail
  go_loopw [9] (fun i wr => ∃ k : Nat, f ≤ k ∧ k ≤ n ∧ i = .int .i64 (k : Nat) ∧ runB nodes (s0 + long) (p.drop f) = runB nodes (s0 + long) (p.drop k) ∧ Below W.heap.size W wr) (fun i _ => n - (intOf i).toNat)
  case atStart => exact ⟨f, Nat.le_refl _, by omega, rfl, rfl, Below.refl _ _⟩
  case round =>
    obtain ⟨k, hfk, hk, rfl, hr, hb⟩ := hrel
    have HV := Lib.hid (And.intro hr hb)
    clear hr hb
    by_cases hlt : k < n
    · have hkl : k < p.length := by rw [HL.out.2.1]; exact hlt
      obtain ⟨b, o, rfl⟩ := lst_at HL.out.1 (by omega)
      obtain ⟨q0, q1⟩ := step_cells (lst_keep encS_len HL.out.1 HV.out.2) hkl
      have r0 := HSc.out wr b o (lst_keep encS_len HL.out.1 HV.out.2)
      have hdr := List.drop_eq_getElem_cons hkl
      have hxt := HL.out.2.2.tick p[k] (List.getElem_mem hkl)
      generalize p[k] = x at *
      obtain ⟨x0, x1⟩ := x
      obtain ⟨hx0, hx1⟩ := hxt
      simp only at q0 q1 r0 hx0 hx1
      have HDr := Lib.hid hdr
      clear hdr hkl
      by_cases hc : x0 < s0 + long
      · have hc1 : x0 - s0 < long := by omega
        have hc2 : decide (x0 - s0 < long) = true := decide_eq_true hc1
        by_cases hfr : x1 < nodes
        · have HE := Lib.hid (show runB nodes (s0 + long) (p.drop f) = false by rw [HV.out.1, HDr.out, runB, if_pos hc, if_pos hfr])
          go_wp2_with fail
          go_quiet (fail)
          go_wp2_with fail
          go_ret
          exact ⟨by rw [HE.out]; rfl, below_keep HV.out.2 (below_drewN' _ _)⟩
        · have HE := Lib.hid (show runB nodes (s0 + long) (p.drop f) = runB nodes (s0 + long) (p.drop (k + 1)) by rw [HV.out.1, HDr.out, runB, if_pos hc, if_neg hfr])
          go_wp2_with fail
          go_quiet (fail)
          go_wp2_with fail
          go_roundw
          case rel => exact ⟨k + 1, by omega, by omega, by go_num, HE.out, below_keep HV.out.2 (below_drewN' _ _)⟩
          case measure => simp [intOf]; omega
      · have hc1 : ¬ x0 - s0 < long := by omega
        have hc2 : decide (x0 - s0 < long) = false := decide_eq_false hc1
        have HE := Lib.hid (show runB nodes (s0 + long) (p.drop f) = true by rw [HV.out.1, HDr.out, runB, if_neg hc])
        go_wp2_with fail
        go_quiet (fail)
        go_wp2_with fail
        go_ret
        exact ⟨by rw [HE.out]; rfl, below_keep HV.out.2 (below_drewN' _ _)⟩
    · obtain rfl : n = k := by omega
      have HE := Lib.hid (show runB nodes (s0 + long) (p.drop f) = true by rw [HV.out.1, List.drop_eq_nil_of_le (by rw [HL.out.2.1]; exact Nat.le_refl _)]; rfl)
      have hnn : decide ((n : Int) < (n : Int)) = false := by simp
      go_wp2_with fail
      go_quiet (fail)
      go_wp2_with fail
      go_ret
      exact ⟨by rw [HE.out]; rfl, below_keep HV.out.2 (below_drewN' _ _)⟩
set_option maxHeartbeats 8000000 in
theorem rfit_any (W : World) (nodes long : Int) (a1 : Option Addr) (n c1 : Nat) (p : List St) (hl : Tk long) (h : Steps W a1 n c1 p) (hp : Pf p) :
    Calls Try.prog 12 #[.slice a1 n c1, .int .i64 nodes, .int .i64 long] W fun e W' => ∃ m b, e = .returned (.tuple #[.int .i64 m, .bool b]) ∧ IsF p nodes long m b ∧ Below W.heap.size W W' := by
  have HL := Lib.hid (And.intro h (And.intro h.len hp))
  obtain ⟨lg, hlg⟩ : ∃ lg, lg = longOf long := ⟨_, rfl⟩
  have HLg := Lib.hid hlg
  have hlg1 : 1 ≤ lg ∧ lg ≤ 1125899906842624 := by rw [hlg]; unfold longOf; obtain ⟨h1, h2⟩ := hl; split <;> omega
  have HL1 := Lib.hid hlg1
  have hn : n ≤ 1000 := by rw [← h.len]; exact hp.len
  clear h hp hlg1
  go_enter Try.func12, Try.ntmps12
  go_upto_if 10 with fail
  go_cut [2] (fun lv wx => lv = .int .i64 lg ∧ W = wx)
  case first =>
    by_cases h1 : long < 1
    · obtain rfl : lg = 1 := by rw [hlg]; unfold longOf; rw [if_pos h1]
      clear hlg hl
      go_wp2_with fail
      go_meet
      case rel => exact ⟨rfl, rfl⟩
    · obtain rfl : lg = long := by rw [hlg]; unfold longOf; rw [if_neg h1]
      clear hlg hl
      go_wp2_with fail
      go_meet
      case rel => exact ⟨rfl, rfl⟩
  case rest =>
  obtain ⟨rfl, rfl⟩ := hcut
  clear hlg hl
  go_wp2_with fail
  go_loopw [8] (fun i wr => ∃ k : Nat, k ≤ n ∧ i = .int .i64 (k : Nat) ∧ (∀ x ∈ p.take k, ¬ fitsAt p nodes (longOf long) x.tick) ∧ Below W.heap.size W wr) (fun i _ => n - (intOf i).toNat)
  case atStart => exact ⟨0, Nat.zero_le _, rfl, (fun x hx => by simp at hx), Below.refl _ _⟩
  case round =>
    obtain ⟨k, hk, rfl, hno, hb⟩ := hrel
    have HV := Lib.hid (And.intro hno hb)
    clear hno hb
    by_cases hlt : k < n
    · have hkl : k < p.length := by rw [HL.out.2.1]; exact hlt
      have hs : p[k]? = some p[k] := List.getElem?_eq_getElem hkl
      have hdr := List.drop_eq_getElem_cons hkl
      have htk := List.take_succ_eq_append_getElem hkl
      obtain ⟨b, o, rfl⟩ := lst_at HL.out.1 (by omega)
      have HSt := Lib.hid (fun (w : World) (hb : Below W.heap.size W w) => (step_cells (lst_keep encS_len HL.out.1 hb) hkl).1)
      generalize p[k] = s at *
      have hiff := step_fits (nodes := nodes) HL.out.2.2.norm hdr HL1.out.1
      have HC := Lib.hid (rfits_any wr nodes lg (some ⟨b, o, none⟩) n c1 k p s (lst_keep encS_len HL.out.1 HV.out.2) HL.out.2.2 hlt hs HL1.out.2)
      cases hr : runB nodes (s.tick + lg) (p.drop k) with
      | true =>
        have HF := Lib.hid (fit_found HL.out.2.2.norm hdr HV.out.1 (by rw [← HLg.out]; exact hiff.1 hr))
        rw [hr] at HC
        obtain ⟨s0, s1⟩ := s
        simp only at HSt HF
        clear hiff hdr htk hs hr hkl
        go_wp2_with fail
        refine HC.out.mono ?_
        rintro e w2 ⟨rfl, hb2⟩
        have q0 := HSt.out w2 (below_keep HV.out.2 hb2)
        have HB2 := Lib.hid (below_keep HV.out.2 hb2)
        clear hb2
        go_wp2_with fail
        go_ret2
        exact ⟨_, _, rfl, HF.out, HB2.out⟩
      | false =>
        have HF := Lib.hid (show ∀ x ∈ p.take (k + 1), ¬ fitsAt p nodes (longOf long) x.tick by
          intro x hx
          rw [htk, List.mem_append, List.mem_singleton] at hx
          rcases hx with hx | rfl
          · exact HV.out.1 x hx
          · rw [← HLg.out]
            intro h
            rw [hiff.2 h] at hr
            cases hr)
        rw [hr] at HC
        clear hiff hdr htk hs hr hkl
        go_wp2_with fail
        refine HC.out.mono ?_
        rintro e w2 ⟨rfl, hb2⟩
        have HB2 := Lib.hid (below_keep HV.out.2 hb2)
        clear hb2
        go_wp2_with fail
        go_roundw
        case rel => exact ⟨k + 1, by omega, by go_num, HF.out, HB2.out⟩
        case measure => simp [intOf]; omega
    · obtain rfl : n = k := by omega
      have HF := Lib.hid (fit_none (p := p) (nodes := nodes) (long := long) fun x hx => HV.out.1 x (by rw [List.take_of_length_le (by rw [HL.out.2.1]; exact Nat.le_refl _)]; exact hx))
      go_wp2_with fail
      go_ret2
      exact ⟨_, _, rfl, HF.out, HV.out.2⟩
end Go.Proofs.Ytagecoofaoaodaa.Prf
