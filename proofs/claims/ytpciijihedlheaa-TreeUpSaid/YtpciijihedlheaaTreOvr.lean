/- Tree: the document's Over, as it runs, over any contract of its Use. -/
import Derived.Test.YtpciijihedlheaaTreRef
namespace Go.Proofs.Ytpciijihedlheaa.Tre
set_option maxRecDepth 100000
open Go.RowKit
open Go.Sort
open Kit
open Mon
set_option linter.unusedVariables false
variable {w w' : World}

theorem overFrom_step {l : List Fd} {al : List Al} {k : Nat} {x : Fd} (h : l[k]? = some x) : overFrom l al (l.length - k) k = if overAt l al k x then (k : Int) else overFrom l al (l.length - (k + 1)) (k + 1) := by
  have hk := (List.getElem?_eq_some_iff.1 h).1
  obtain ⟨m, hm⟩ : ∃ m, l.length - k = m + 1 := ⟨l.length - k - 1, by omega⟩
  have hm2 : l.length - (k + 1) = m := by omega
  rw [hm, hm2, overFrom, h]
theorem overFrom_end {l : List Fd} {al : List Al} {k : Nat} (h : l.length ≤ k) : overFrom l al (l.length - k) k = -1 := by
  rw [Nat.sub_eq_zero_of_le h, overFrom]

set_option maxHeartbeats 4000000 in
theorem rover_any (l : List Fd) (hok : ∀ x ∈ l, x.ok) (a : Option Addr) (n c : Nat) (al : List Al) (a2 : Option Addr) (n2 c2 : Nat) (w : World) (h : Funds w a n c l) (hn : n ≤ 100) (h2 : Allocs w a2 n2 c2 al)
    (hU : ∀ (w : World), Funds w a n c l → Allocs w a2 n2 c2 al → ∀ f : Int, Calls Try.prog 15 #[.slice a n c, .slice a2 n2 c2, .int .i64 f] w fun e w' => e = .returned (.tuple #[.int .i64 (useN l al f), .int .i64 (useE l al f)]) ∧ Below w.heap.size w w') :
    Calls Try.prog 17 #[.slice a n c, .slice a2 n2 c2] w fun e w' => e = .returned (.int .i64 (over l al)) ∧ Below w.heap.size w w' := by
  have hll := h.len
  have HL := Lib.hid (And.intro h (And.intro h2 (And.intro hok (And.intro hU hll))))
  clear h h2 hok hU hll
  go_enter Try.func17, Try.ntmps17
  go_wp2_with fail
  go_loopw [5] (fun i wr => ∃ k : Nat, k ≤ n ∧ i = .int .i64 (k : Nat) ∧ over l al = overFrom l al (l.length - k) k ∧ Below w.heap.size w wr) (fun i _ => n - (intOf i).toNat)
  case atStart => exact ⟨0, Nat.zero_le _, rfl, rfl, Below.refl _ _⟩
  case round =>
    obtain ⟨k, hk, rfl, ho, hb⟩ := hrel
    have HO := Lib.hid (And.intro ho hb)
    clear ho hb
    by_cases hlt : k < n
    · have hkl : k < l.length := by rw [HL.out.2.2.2.2]; exact hlt
      obtain ⟨b, o, rfl⟩ := lst_at HL.out.1 (by omega)
      have hxk := HL.out.2.2.1 l[k] (List.getElem_mem hkl)
      have hget := List.getElem?_eq_getElem hkl
      have HF := Lib.hid (fun (wz : World) (hz : Below w.heap.size w wz) => (fund_cells (lst_keep encF_len HL.out.1 hz) hkl).2.2)
      generalize l[k] = x at *
      obtain ⟨nm, pr, lm⟩ := x
      simp only at HF
      obtain ⟨hs1, ⟨hp1, hp2⟩, hl1, hl2⟩ := hxk
      simp only at hl1 hl2
      clear hs1 hp1 hp2
      have HX := Lib.hid (overFrom_step (al := al) hget)
      clear hget
      go_wp2_with fail
      refine (HL.out.2.2.2.1 wr (lst_keep encF_len HL.out.1 HO.out.2) (lst_keep encL_len HL.out.2.1 HO.out.2) k).mono ?_
      rintro e w1 ⟨rfl, hb1⟩
      have HO1 := Lib.hid (And.intro HO.out.1 (below_keep HO.out.2 hb1))
      clear hb1
      have q2 := HF.out w1 HO1.out.2
      have hov : overAt l al k ⟨nm, pr, lm⟩ = (decide (0 < lm) && (decide (useE l al k ≠ 0) || decide (lm < useN l al k))) := rfl
      have HV := Lib.hid hov
      clear hov
      generalize useE l al k = ue at *
      generalize useN l al k = un at *
      by_cases h0 : 0 < lm
      · by_cases he : ue = 0
        · subst he
          by_cases hu : lm < un
          · have HD := Lib.hid (show over l al = (k : Int) by rw [HO.out.1, HX.out, HV.out, if_pos (by simp [h0, hu])])
            go_wp2_with fail
            go_ret
            exact ⟨by rw [HD.out]; rfl, HO1.out.2⟩
          · have HD := Lib.hid (show over l al = overFrom l al (l.length - (k + 1)) (k + 1) by rw [HO.out.1, HX.out, HV.out, if_neg (by simp [h0]; omega)])
            go_wp2_with fail
            go_roundw
            case rel => exact ⟨k + 1, by omega, by go_num, HD.out, HO1.out.2⟩
            case measure => simp [intOf]; omega
        · have HD := Lib.hid (show over l al = (k : Int) by rw [HO.out.1, HX.out, HV.out, if_pos (by simp [h0, he])])
          have hue : ¬ ue = 0 := he
          have hue2 : (ue == 0) = false := beq_false_of_ne he
          have hue3 : (ue != 0) = true := by rw [bne, hue2]; rfl
          clear he
          go_wp2_with fail
          go_ret
          exact ⟨by rw [HD.out]; rfl, HO1.out.2⟩
      · have HD := Lib.hid (show over l al = overFrom l al (l.length - (k + 1)) (k + 1) by rw [HO.out.1, HX.out, HV.out, if_neg (by simp [h0])])
        go_wp2_with fail
        go_roundw
        case rel => exact ⟨k + 1, by omega, by go_num, HD.out, HO1.out.2⟩
        case measure => simp [intOf]; omega
    · obtain rfl : k = n := by omega
      have HD := Lib.hid (show over l al = -1 by rw [HO.out.1, overFrom_end (by rw [HL.out.2.2.2.2]; exact Nat.le_refl _)])
      go_wp2_with fail
      go_ret
      exact ⟨by rw [HD.out]; rfl, HO.out.2⟩
end Go.Proofs.Ytpciijihedlheaa.Tre
