/- TreeMore answers true for any lists of funds and of allocations and any two numbers, the lists read afterwards as they were: of their first 20, where the funds may be and no amount is below 0 or above 2^40, a fund is used at least as much as each that lies below it; more that is spent of one allocation is more that is used of its fund, and of each above it, and of no other. No condition. -/
import Derived.Test.YtpciijihedlheaaRows
import Derived.WalkKit
import Derived.ProofKit
import Derived.OpenShut
import Derived.ShutString
import Derived.ChangeOld
import Derived.Below
import Derived.Test.YtpciijihedlheaaOpens
import Derived.Test.YtpciijihedlheaaTreMo
namespace Go.Proofs.Ytpciijihedlheaa.treeMore
open Go.ChangeShapes Go.WideShapes Go.ChangeAt Go.RowKit
open Go.ChangeMaps (open_string shut_string)
set_option linter.unusedVariables false

theorem own : ownKnob Try.prog.godebug = none := by kernel_rfl
theorem laidOut : laidOutB Try.prog = true := by kernel_rfl

open Tre
open Kit
open Go.Sort
set_option maxRecDepth 100000
set_option maxHeartbeats 8000000 in
theorem walk (W : World) (a0 : Option Addr) (len0 cap0 : Nat) (x0 : List Tre.Fd) (w0 : Opn.RSlice Tre.RFd 3 W [.slice a0 len0 cap0] x0) (a1 : Option Addr) (len1 cap1 : Nat) (x1 : List Tre.Al) (w1 : Opn.RSlice Tre.RAl 6 W [.slice a1 len1 cap1] x1) (a2 : Int) (w2 : (Lit.int .u8 a2).wf = true) (a3 : Int) (w3 : (Lit.int .u32 a3).wf = true) :
    Calls Try.prog 6 #[.slice a0 len0 cap0, .slice a1 len1 cap1, .int .u8 a2, .int .u32 a3] W fun e w' => e = .returned (.bool true) ∧ Below W.heap.size W w' := by
  obtain ⟨hF, hok⟩ := funds_arg w0
  obtain ⟨hA, hoka⟩ := allocs_arg w1
  obtain ⟨hat0, hat1⟩ := u8_in w2
  obtain ⟨hmo0, hmo1⟩ := u32_in w3
  obtain ⟨A, rfl⟩ : ∃ A : Nat, a2 = A := ⟨a2.toNat, by omega⟩
  obtain ⟨m, hm⟩ : ∃ m, m = min len0 20 := ⟨_, rfl⟩
  obtain ⟨X, hX⟩ : ∃ X, X = x0.take m := ⟨_, rfl⟩
  obtain ⟨m2, hm2⟩ : ∃ m, m = min len1 20 := ⟨_, rfl⟩
  obtain ⟨Y, hY⟩ : ∃ Y, Y = x1.take m2 := ⟨_, rfl⟩
  have HFew := Lib.hid (few_any a0 a1 len0 cap0 len1 cap1 m m2 hF.cap hA.cap hF.max hA.max hm hm2 W)
  have HX := Lib.hid (show Funds W a0 m cap0 X ∧ (∀ x ∈ X, x.ok) from ⟨by rw [hX]; exact lst_take hF m (by omega), fun x hx => by rw [hX] at hx; exact hok x (List.mem_of_mem_take hx)⟩)
  have HY := Lib.hid (show Allocs W a1 m2 cap1 Y ∧ (∀ x ∈ Y, x.ok) from ⟨by rw [hY]; exact lst_take hA m2 (by omega), fun x hx => by rw [hY] at hx; exact hoka x (List.mem_of_mem_take hx)⟩)
  have hmn : m ≤ 20 := by omega
  have hmn2 : m2 ≤ 20 := by omega
  clear w0 w1 w2 w3 hF hok hA hoka hm hX hm2 hY hat0
  have HG := Lib.hid (good_any X HX.out.2 a0 m cap0 W HX.out.1 (by omega))
  by_cases hearly : goodB X = false ∨ (goodB X = true ∧ m2 = 0) ∨ (goodB X = true ∧ ¬ m2 = 0 ∧ m = 0)
  · clear hmo0 hmo1 hat1
    rcases hearly with hg | ⟨hg, h0⟩ | ⟨hg, h0, h1⟩
    · rw [hg] at HG
      clear hg
      go_enter Try.func6, Try.ntmps6
      go_wp2_with fail
      refine HFew.out.mono ?_
      rintro e w1 ⟨rfl, rfl⟩
      go_wp2_with fail
      refine HG.out.mono ?_
      rintro e w2 ⟨rfl, hb2⟩
      have HB2 := Lib.hid hb2
      clear hb2
      go_wp2_with fail
      refine (awake_any w2).mono ?_
      rintro e w3 ⟨rfl, hb3⟩
      have HB3 := Lib.hid (below_keep HB2.out hb3)
      clear hb3
      go_wp2_with fail
      go_ret
      exact ⟨rfl, HB3.out⟩
    · subst h0
      rw [hg] at HG
      clear hg
      go_enter Try.func6, Try.ntmps6
      go_wp2_with fail
      refine HFew.out.mono ?_
      rintro e w1 ⟨rfl, rfl⟩
      go_wp2_with fail
      refine HG.out.mono ?_
      rintro e w2 ⟨rfl, hb2⟩
      have HB2 := Lib.hid hb2
      clear hb2
      go_wp2_with fail
      refine (awake_any w2).mono ?_
      rintro e w3 ⟨rfl, hb3⟩
      have HB3 := Lib.hid (below_keep HB2.out hb3)
      clear hb3
      go_wp2_with fail
      go_ret
      exact ⟨rfl, HB3.out⟩
    · subst h1
      rw [hg] at HG
      have h0i : ((m2 : Int) == 0) = false := beq_false_of_ne (by omega)
      clear hg
      go_enter Try.func6, Try.ntmps6
      go_wp2_with fail
      refine HFew.out.mono ?_
      rintro e w1 ⟨rfl, rfl⟩
      go_wp2_with fail
      refine HG.out.mono ?_
      rintro e w2 ⟨rfl, hb2⟩
      have HB2 := Lib.hid hb2
      clear hb2
      go_wp2_with fail
      refine (awake_any w2).mono ?_
      rintro e w3 ⟨rfl, hb3⟩
      have HB3 := Lib.hid (below_keep HB2.out hb3)
      clear hb3
      go_wp2_with fail
      go_ret
      exact ⟨rfl, HB3.out⟩
  · have hg : goodB X = true := by
      cases hgg : goodB X with
      | true => rfl
      | false => exact absurd (.inl hgg) hearly
    have hm21 : 1 ≤ m2 := by
      rcases Nat.eq_zero_or_pos m2 with h | h
      · exact absurd (.inr (.inl ⟨hg, h⟩)) hearly
      · exact h
    have hm1 : 1 ≤ m := by
      rcases Nat.eq_zero_or_pos m with h | h
      · exact absurd (.inr (.inr ⟨hg, by omega, h⟩)) hearly
      · exact h
    have h0i : ((m2 : Int) == 0) = false := beq_false_of_ne (by omega)
    have h1i : ((m : Int) == 0) = false := beq_false_of_ne (by omega)
    rw [hg] at HG
    have HGd := Lib.hid hg
    clear hearly hg
    obtain ⟨b, o, rfl⟩ := lst_at HX.out.1 (by omega)
    obtain ⟨b1, o1, rfl⟩ := lst_at HY.out.1 (by omega)
    have HMo := Lib.hid (And.intro hmo0 hmo1)
    clear hmo0 hmo1
    go_enter Try.func6, Try.ntmps6
    go_wp2_with fail
    refine HFew.out.mono ?_
    rintro e w1 ⟨rfl, rfl⟩
    go_wp2_with fail
    refine HG.out.mono ?_
    rintro e w2 ⟨rfl, hb2⟩
    have hb3 := below_keep hb2 (below_alloc w2 (.cells #[] 43))
    have HB2 := Lib.hid (And.intro hb2 (And.intro hb3 (And.intro (lst_keep encF_len HX.out.1 hb3) (lst_keep encL_len HY.out.1 hb3))))
    clear hb2 hb3 HG
    have HZ0 := Lib.hid (own_empty_al w2 W.heap.size HB2.out.1.size)
    have HD0 := Lib.hid (show 0 < 6 by omega)
    have HD1 := Lib.hid (show ([] : List Al).length + m2 ≤ maxLen by unfold maxLen; simp; omega)
    have HD2 := Lib.hid (show (([] : List Al).length + m2) * 48 ≤ 140737488355328 by simp; omega)
    have HYl := Lib.hid HY.out.1.len
    go_wp2_with (first | (at_builtin; refine Two.append_apart encL_len HD0.out encL_one rfl (.tmp 45) (.tmp 46) 23 43 rfl Try.underlying23 (.agg #[.int .i64 0, .int .i64 0, .int .i64 0, .int .i64 0, .int .i64 0, .int .i64 0]) 48 info_al rfl W.heap.size _ [] rfl HZ0.out (some ⟨b1, o1, none⟩) m2 cap1 Y rfl HYl.out HB2.out.2.2.2.row (fun h => by cases h) HD1.out HD2.out HB2.out.2.1.size ?_; intro v9 w9 ho9 hg9 hx9; have HB9 := Lib.hid (HB2.out.2.1.trans (Two.below_grown HZ0.out hg9 HB2.out.2.1.size)); have HO9 := Lib.hid (show Owns encL 6 43 w9 W.heap.size v9 Y from ho9); obtain ⟨g9, c9, rfl, hl9⟩ := own_slice HO9.out HYl.out hm21; have HZ := Lib.hid hl9; clear ho9 hg9 hl9 hx9) | fail)
    go_loop [12] (fun i => ∃ k : Nat, k ≤ m2 ∧ i = .int .i64 (k : Nat) ∧ Hid (∀ a ∈ Y.take k, Sm a)) (fun i => m2 - (intOf i).toNat)
    case atStart => exact ⟨0, Nat.zero_le _, rfl, Lib.hid (fun a ha => by simp at ha)⟩
    case round =>
      obtain ⟨k, hk, rfl, hsm⟩ := hrel
      by_cases hlt : k < m2
      · have hkl : k < Y.length := by rw [HYl.out]; exact hlt
        obtain ⟨-, -, -, -, q4, q5⟩ := alloc_cells6 HZ.out hkl
        have HTk := Lib.hid (List.take_succ_eq_append_getElem hkl)
        generalize Y[k] = x at *
        obtain ⟨x0', x1', x2', x3', x4', x5'⟩ := x
        simp only at q4 q5
        rw [Nat.zero_add] at q4 q5
        by_cases hs : Sm ⟨x0', x1', x2', x3', x4', x5'⟩
        · have hs4 : ¬ x4' < 0 ∧ ¬ x5' < 0 ∧ ¬ 1099511627776 < x4' ∧ ¬ 1099511627776 < x5' := by
            unfold Sm at hs
            simp only at hs
            omega
          obtain ⟨t1, t2, t3, t4⟩ := hs4
          have HSk := Lib.hid (show ∀ a ∈ Y.take (k + 1), Sm a by
            intro a ha
            rw [HTk.out, List.mem_append, List.mem_singleton] at ha
            rcases ha with ha | rfl
            · exact hsm.out a ha
            · exact hs)
          clear hs
          go_wp2_with fail
          go_round
          case rel => exact ⟨k + 1, by omega, by go_num, HSk⟩
          case measure => simp [intOf]; omega
        · have hor : x4' < 0 ∨ (¬ x4' < 0 ∧ x5' < 0) ∨ (¬ x4' < 0 ∧ ¬ x5' < 0 ∧ 1099511627776 < x4') ∨ (¬ x4' < 0 ∧ ¬ x5' < 0 ∧ ¬ 1099511627776 < x4' ∧ 1099511627776 < x5') := by
            unfold Sm at hs
            simp only at hs
            omega
          clear hs
          rcases hor with t1 | ⟨t1, t2⟩ | ⟨t1, t2, t3⟩ | ⟨t1, t2, t3, t4⟩
          all_goals
            go_wp2_with fail
            refine (awake_any w9).mono ?_
            rintro e w3 ⟨rfl, hb3⟩
            have HB3 := Lib.hid (HB9.out.trans (hb3.mono HB9.out.size))
            clear hb3
            go_wp2_with fail
            go_ret
            exact ⟨rfl, HB3.out⟩
      · obtain rfl : k = m2 := by omega
        have HSm := Lib.hid (show ∀ a ∈ Y, Sm a by
          have h := hsm.out
          rw [List.take_of_length_le (by rw [HYl.out]; exact Nat.le_refl _)] at h
          exact h)
        clear hsm
        obtain ⟨K, hK⟩ : ∃ K : Nat, K = A % k := ⟨_, rfl⟩
        have hKk : K < k := by rw [hK]; exact Nat.mod_lt _ (by omega)
        go_upto_region 11 with fail
        rw [show (A : Int) % (k : Int) = (K : Nat) by rw [hK, Int.natCast_emod]]
        clear hK hat1
        have hKl : K < Y.length := by rw [HYl.out]; exact hKk
        obtain ⟨-, -, -, -, -, q5⟩ := alloc_cells6 HZ.out hKl
        have hget := List.getElem?_eq_getElem hKl
        have hsx := HSm.out _ (List.getElem_mem hKl)
        generalize Y[K] = x at *
        obtain ⟨fu, x1', x2', x3', x4', sp⟩ := x
        simp only at q5
        rw [Nat.zero_add] at q5
        obtain ⟨g, cap, ev, eb, -, -, ef, eo⟩ := owns_spend HO9.out hget (sp + a3)
        injection ev with e1 e2 e3
        injection e1 with e1
        injection e1 with e1 _
        subst e1
        clear e2 e3
        obtain ⟨s0, s1⟩ : 0 ≤ sp ∧ sp ≤ 1099511627776 := ⟨hsx.2.2.1, hsx.2.2.2⟩
        obtain ⟨hmo0, hmo1⟩ := HMo.out
        obtain ⟨wz, hwz⟩ : ∃ x, x = w9.setCell ⟨g9, K * 6 + 5, none⟩ (.int .i64 (sp + a3)) := ⟨_, rfl⟩
        have hbz : Below W.heap.size W wz := by rw [hwz]; exact HB9.out.setCell (p := ⟨g9, K * 6 + 5, none⟩) eb _
        rw [← hwz] at eo
        have HWz := Lib.hid hwz
        obtain ⟨Z, hZ⟩ : ∃ Z, Z = Y.set K (moreA ⟨fu, x1', x2', x3', x4', sp⟩ a3) := ⟨_, rfl⟩
        have eo2 : Owns encL 6 43 wz W.heap.size (.slice (some ⟨g9, 0, none⟩) k c9) Z := by rw [hZ]; exact eo
        have hZl : Z.length = k := by rw [hZ, List.length_set]; exact HYl.out
        obtain ⟨g', c', ev, ez⟩ := own_slice eo2 hZl hm21
        injection ev with e1 e2 e3
        injection e1 with e1
        injection e1 with e1 _
        subst e1 e3
        clear e2
        have hZK : Z[K]? = some (moreA ⟨fu, x1', x2', x3', x4', sp⟩ a3) := by rw [hZ, List.getElem?_set_self hKl]
        have HS := Lib.hid (And.intro hbz (And.intro (lst_keep encF_len HX.out.1 hbz) (And.intro (lst_keep encL_len HY.out.1 hbz) (And.intro ez (by have h := fund_cell' ez hZK; rw [Nat.zero_add] at h; exact h)))))
        have HZo := Lib.hid (show ∀ x ∈ Z, x.ok by rw [hZ]; exact more_ok HY.out.2 HSm.out hget HMo.out.1 HMo.out.2)
        have HGet := Lib.hid (And.intro hget hZ)
        clear hbz eo eo2 hZl ez hZK hget hZ hsx eb hwz
        go_upto_region 12 with fail
        rw [← HWz.out]
        clear ef q5 s0 s1 hmo0 hmo1 HWz HO9 HZ HB9
        go_wp2_with fail
        go_loopw [14] (fun i wr => ∃ j : Nat, j ≤ m ∧ i = .int .i64 (j : Nat) ∧ Below wz.heap.size wz wr) (fun i _ => m - (intOf i).toNat)
        case atStart => exact ⟨0, Nat.zero_le _, rfl, Below.refl _ _⟩
        case round =>
          obtain ⟨j, hj, rfl, hbr⟩ := hrel
          have HBr := Lib.hid hbr
          clear hbr
          by_cases hlt2 : j < m
          · have hjX : j < X.length := by rw [HX.out.1.len]; exact hlt2
            have hgx := List.getElem?_eq_getElem hjX
            have HPc := Lib.hid (fun (wy : World) (hz : Below W.heap.size W wy) => (fund_cells (lst_keep encF_len HX.out.1 hz) hjX).2.1)
            generalize X[j] = xx at *
            obtain ⟨nm, pr, lm⟩ := xx
            simp only at HPc
            obtain ⟨hp0, hp1, -, -⟩ := good_at HGd.out hgx
            simp only at hp0 hp1
            obtain ⟨s, hs0, hs1, eE, eN, eE2, eN2⟩ := uses_more HSm.out (by rw [HYl.out]; exact hmn2) HGet.out.1 HMo.out.1 HMo.out.2 hjX
            rw [← HGet.out.2] at eE2 eN2
            simp only at eN2
            have HU1 := Lib.hid (fun w h1 h2 => use_any X HX.out.2 (some ⟨b, o, none⟩) m cap0 Y HY.out.2 (some ⟨b1, o1, none⟩) k cap1 w h1 (by omega) h2 (by omega) (j : Nat))
            have HU2 := Lib.hid (fun w h1 h2 => use_any X HX.out.2 (some ⟨b, o, none⟩) m cap0 Z HZo.out (some ⟨g9, 0, none⟩) k c9 w h1 (by omega) h2 (by omega) (j : Nat))
            have HPt := Lib.hid (fun w h => path_any X HX.out.2 (some ⟨b, o, none⟩) m cap0 w h (by omega) fu)
            have HPa := Lib.hid (fun (h : 0 ≤ pr) => (by
              obtain ⟨t, g1, g2, g3⟩ := uses_parent HSm.out (by rw [HYl.out]; exact hmn2) hgx h hp1
              simp only at g1 g2 g3
              rw [eN] at g3
              have h2 := fun w h1 h2 => use_any X HX.out.2 (some ⟨b, o, none⟩) m cap0 Y HY.out.2 (some ⟨b1, o1, none⟩) k cap1 w h1 (by omega) h2 (by omega) pr
              rw [g1, g2] at h2
              exact ⟨t, g3, h2⟩ : ∃ t : Int, s ≤ t ∧ ∀ (w : World), Funds w (some ⟨b, o, none⟩) m cap0 X → Allocs w (some ⟨b1, o1, none⟩) k cap1 Y → Calls Try.prog 14 #[.slice (some ⟨b, o, none⟩) m cap0, .slice (some ⟨b1, o1, none⟩) k cap1, .int .i64 pr] w fun e w' => e = .returned (.tuple #[.int .i64 t, .int .i64 0]) ∧ Below w.heap.size w w'))
            rw [eN, eE] at HU1
            rw [eE2] at HU2
            obtain ⟨s2, hs2⟩ : ∃ s2, s2 = useN X Z (j : Int) := ⟨_, rfl⟩
            rw [← hs2] at HU2 eN2
            obtain ⟨P, hP⟩ : ∃ P, P = path X fu := ⟨_, rfl⟩
            rw [← hP] at HPt eN2
            obtain ⟨ab, hab⟩ : ∃ ab, ab = P.contains (j : Int) := ⟨_, rfl⟩
            rw [← hab] at eN2
            have HN2 := Lib.hid eN2
            have HAb := Lib.hid hab
            have HSs := Lib.hid (And.intro hs0 hs1)
            clear hgx eE eN eE2 eN2 hs2 hP hab hs0 hs1
            have hb1 := below_keep HS.out.1 HBr.out
            have HB1 := Lib.hid hb1
            clear hb1
            go_wp2_with fail
            refine (HU1.out wr (lst_keep encF_len HX.out.1 HB1.out) (lst_keep encL_len HY.out.1 HB1.out)).mono ?_
            rintro e w3 ⟨rfl, hb3⟩
            have HB3 := Lib.hid (And.intro (below_keep HB1.out hb3) (below_keep HBr.out hb3))
            clear hb3
            go_wp2_with fail
            refine (HU2.out w3 (lst_keep encF_len HX.out.1 HB3.out.1) (lst_keep encL_len HS.out.2.2.2.1 HB3.out.2)).mono ?_
            rintro e w4 ⟨rfl, hb4⟩
            have HB4 := Lib.hid (And.intro (below_keep HB3.out.1 hb4) (below_keep HB3.out.2 hb4))
            clear hb4
            have qf := cell_keep HB4.out.2 HS.out.2.2.2.2
            simp only [moreA] at qf
            go_wp2_with fail
            refine (HPt.out w4 (lst_keep encF_len HX.out.1 HB4.out.1)).mono ?_
            rintro e w5 ⟨v5, rfl, hn5, hb5⟩
            obtain ⟨a5, c5, rfl, hl5, -⟩ := hn5
            obtain ⟨nP, hnP⟩ : ∃ n, n = P.length := ⟨_, rfl⟩
            rw [← hnP] at hl5 ⊢
            have HNp := Lib.hid hnP
            have HL5 := Lib.hid hl5
            have hnPm : nP ≤ 9223372036854775807 := by have := hl5.cap; have := hl5.max; unfold maxLen at this; omega
            have HB5 := Lib.hid (And.intro (below_keep HB4.out.1 hb5) (below_keep HB4.out.2 hb5))
            clear hb5 hl5 hnP qf
            go_wp2_with fail
            go_loop [19, 21] (fun r iq => ∃ (q : Nat) (rb : Bool), q ≤ nP ∧ iq = .int .i64 (q : Nat) ∧ r = .bool rb ∧ Hid (rb = (P.take q).contains (j : Int))) (fun _ iq => nP - (intOf iq).toNat)
            case atStart => exact ⟨0, false, Nat.zero_le _, rfl, rfl, Lib.hid rfl⟩
            case round =>
              obtain ⟨q, rb, hq, rfl, rfl, hrb⟩ := hrel
              by_cases hlt3 : q < nP
              · have hqP : q < P.length := by rw [← HNp.out]; exact hlt3
                obtain ⟨b5, o5, rfl⟩ := lst_at HL5.out (by omega)
                have q9 := int_cell HL5.out hqP
                have HSt := Lib.hid (contains_step (j := (j : Int)) (List.take_succ_eq_append_getElem hqP))
                generalize P[q] = y at *
                cases rb with
                | true =>
                  have HR := Lib.hid (show true = (P.take (q + 1)).contains (j : Int) by rw [HSt.out, ← hrb.out, Bool.true_or])
                  go_wp2_with fail
                  go_round
                  case rel => exact ⟨q + 1, true, by omega, by go_num, rfl, HR⟩
                  case measure => simp [intOf]; omega
                | false =>
                  cases hy : (y == (j : Int)) with
                  | true =>
                    have HR := Lib.hid (show true = (P.take (q + 1)).contains (j : Int) by rw [HSt.out, hy, Bool.or_true])
                    go_wp2_with fail
                    go_round
                    case rel => exact ⟨q + 1, true, by omega, by go_num, rfl, HR⟩
                    case measure => simp [intOf]; omega
                  | false =>
                    have HR := Lib.hid (show false = (P.take (q + 1)).contains (j : Int) by rw [HSt.out, hy, ← hrb.out, Bool.or_false])
                    go_wp2_with fail
                    go_round
                    case rel => exact ⟨q + 1, false, by omega, by go_num, rfl, HR⟩
                    case measure => simp [intOf]; omega
              · obtain rfl : q = nP := by omega
                have hre : rb = ab := by
                  rw [hrb.out, HAb.out, List.take_of_length_le (by rw [← HNp.out]; exact Nat.le_refl _)]
                subst hre
                obtain ⟨w6, hw6⟩ : ∃ w6, w6 = w5 := ⟨_, rfl⟩
                subst hw6
                have HB6 := HB5
                obtain ⟨hmo0, hmo1⟩ := HMo.out
                obtain ⟨hs0, hs1⟩ := HSs.out
                obtain ⟨qx, hpx⟩ : ∃ qx, qx = HPc.out w6 HB6.out.1 := ⟨_, rfl⟩
                clear hpx
                cases rb with
                | true =>
                  obtain rfl : s2 = s + a3 := by have h := HN2.out; rw [if_pos rfl] at h; exact h
                  by_cases hpr : 0 ≤ pr
                  · obtain ⟨t, ht, hu3⟩ := HPa.out hpr
                    have HU3 := Lib.hid hu3
                    have ht2 : ¬ t < s := by omega
                    clear hu3 ht
                    go_wp2_with fail
                    refine (HU3.out w6 (lst_keep encF_len HX.out.1 HB6.out.1) (lst_keep encL_len HY.out.1 HB6.out.1)).mono ?_
                    rintro e w7 ⟨rfl, hb7⟩
                    have HB7 := Lib.hid (below_keep HB6.out.2 hb7)
                    clear hb7
                    go_wp2_with fail
                    go_roundw
                    case rel => exact ⟨j + 1, by omega, by go_num, HB7.out⟩
                    case measure => simp [intOf]; omega
                  · go_wp2_with fail
                    go_roundw
                    case rel => exact ⟨j + 1, by omega, by go_num, HB6.out.2⟩
                    case measure => simp [intOf]; omega
                | false =>
                  obtain rfl : s = s2 := by have h := HN2.out; rw [if_neg Bool.false_ne_true, Int.add_zero] at h; exact h.symm
                  by_cases hpr : 0 ≤ pr
                  · obtain ⟨t, ht, hu3⟩ := HPa.out hpr
                    have HU3 := Lib.hid hu3
                    have ht2 : ¬ t < s := by omega
                    clear hu3 ht
                    go_wp2_with fail
                    refine (HU3.out w6 (lst_keep encF_len HX.out.1 HB6.out.1) (lst_keep encL_len HY.out.1 HB6.out.1)).mono ?_
                    rintro e w7 ⟨rfl, hb7⟩
                    have HB7 := Lib.hid (below_keep HB6.out.2 hb7)
                    clear hb7
                    go_wp2_with fail
                    go_roundw
                    case rel => exact ⟨j + 1, by omega, by go_num, HB7.out⟩
                    case measure => simp [intOf]; omega
                  · go_wp2_with fail
                    go_roundw
                    case rel => exact ⟨j + 1, by omega, by go_num, HB6.out.2⟩
                    case measure => simp [intOf]; omega
          · have hge : ¬ (j : Int) < (m : Int) := by omega
            go_wp2_with fail
            refine (awake_any wr).mono ?_
            rintro e w3 ⟨rfl, hb3⟩
            have HB3 := Lib.hid (below_keep (below_keep HS.out.1 HBr.out) hb3)
            clear hb3
            go_wp2_with fail
            go_ret
            exact ⟨rfl, HB3.out⟩

set_option maxRecDepth 100000 in
theorem lifted (os : Os) (started : os.Started) (H : Type) (enc : TypeId × Value → H) :
    ReturnsInHanded {} Try.checked os 6 .any (Rows.treeMoreSpec.pre6 enc Try.prog Try.f6 Rows.treeMoreRow.domain false) (Rows.treeMoreSpec.post enc Try.prog Try.f6 false true false false) := by
  refine returnsInHanded_of_change (C := Try.checked) own started (by kernel_rfl) Try.func6
    (ChangeSpec.witness6 (enc := enc) (C := Try.checked) false ⟨#[], #[.slice none 0 0, .slice none 0 0, .int .u8 0, .int .u32 0], []⟩ 8 (by kernel_rfl) (by kernel_rfl) (by kernel_rfl) (by kernel_rfl)) ?_
  intro W base args ds gs before hval0 hW hcnd _
  have hval : ∀ (j : Nat) t v, Try.f6.params[j]? = some t → args[j]? = some v → Value.okWide Try.prog W .any base t v := hval0
  have hW' := hW
  obtain ⟨p, q, hA0, hV, rfl, hfz, hnd⟩ := hW
  have hA : DataW.TrodAll enc Try.prog W 0 (fun _ => true) true Try.f6.params.toList args.toList ds p := hA0
  rw [Try.params6] at hA hval
  obtain ⟨v0, vs0, d0, ds0, p0, q0, hargs, rfl, rfl, h0, r0⟩ := trodAll_cons hA
  obtain ⟨v1, vs1, d1, ds1, p1, q1, rfl, rfl, rfl, h1, r1⟩ := trodAll_cons r0
  obtain ⟨v2, vs2, d2, ds2, p2, q2, rfl, rfl, rfl, h2, r2⟩ := trodAll_cons r1
  obtain ⟨v3, vs3, d3, ds3, p3, q3, rfl, rfl, rfl, h3, r3⟩ := trodAll_cons r2
  obtain ⟨rfl, rfl, rfl⟩ := trodAll_nil r3
  obtain rfl : args = #[v0, v1, v2, v3] := by cases args; simp_all
  obtain ⟨rfl, rfl⟩ := trodVars_none hV
  have k0 := h0
  have lt0 : ∀ x ∈ p0, x.block < W.heap.size := by obtain ⟨m, hm⟩ := k0; exact DataW.trod_lt m _ _ _ hm
  obtain ⟨a0, len0, cap0, rfl⟩ := okWide_slice Try.underlying22 (hval 0 22 v0 rfl rfl)
  obtain ⟨x0, w0⟩ := Opn.opens_arg (Tre.opens_funds) h0
  have k1 := h1
  have lt1 : ∀ x ∈ p1, x.block < W.heap.size := by obtain ⟨m, hm⟩ := k1; exact DataW.trod_lt m _ _ _ hm
  obtain ⟨a1, len1, cap1, rfl⟩ := okWide_slice Try.underlying23 (hval 1 23 v1 rfl rfl)
  obtain ⟨x1, w1⟩ := Opn.opens_arg (Tre.opens_allocs) h1
  have k2 := h2
  have lt2 : ∀ x ∈ p2, x.block < W.heap.size := by obtain ⟨m, hm⟩ := k2; exact DataW.trod_lt m _ _ _ hm
  obtain ⟨a2, rfl, _, _, w2⟩ := open_int Try.underlying5 (hval 2 5 v2 rfl rfl) h2
  have k3 := h3
  have lt3 : ∀ x ∈ p3, x.block < W.heap.size := by obtain ⟨m, hm⟩ := k3; exact DataW.trod_lt m _ _ _ hm
  obtain ⟨a3, rfl, _, _, w3⟩ := open_int Try.underlying41 (hval 3 41 v3 rfl rfl) h3
  clear hA0 hval0
  refine (walk W a0 len0 cap0 x0 w0 a1 len1 cap1 x1 w1 a2 w2 a3 w3).mono fun e W' ⟨he, bel⟩ => ?_
  subst he
  exact ⟨_, rfl, _, _, _, [], _, [], hW', trodAll_mk1 (shut_bool Try.underlying4 _), (trodAll_cons_mk (Below.trod laidOut (by kernel_rfl) (of_decide_eq_true (by kernel_rfl)) k0 bel lt0) (trodAll_cons_mk (Below.trod laidOut (by kernel_rfl) (of_decide_eq_true (by kernel_rfl)) k1 bel lt1) (trodAll_cons_mk (Below.trod laidOut (by kernel_rfl) (of_decide_eq_true (by kernel_rfl)) k2 bel lt2) (trodAll_cons_mk (Below.trod laidOut (by kernel_rfl) (of_decide_eq_true (by kernel_rfl)) k3 bel lt3) trodAll_mk0)))), rfl, bel.frame _, fun h => by cases h⟩

theorem over : Rows.treeMoreRow.holds Try.pinned (OpenSpec.ofChange Rows.treeMoreSpec) :=
  OpenClaim.holds_of_wide 6 Try.f6 rfl rfl rfl rfl rfl rfl rfl ⟨rfl, rfl, rfl, rfl, rfl⟩ rfl rfl rfl rfl rfl (by kernel_rfl) Try.func6 (by kernel_rfl)
    (of_decide_eq_true (by kernel_rfl)) (by unfold Func.isWrapper; first | (rw [if_pos (by decide +kernel)]; kernel_rfl) | (rw [if_neg (by decide +kernel)]; exact ⟨rfl, rfl⟩))
    (fun os started H enc _ => lifted os started H enc)

/-- THE STATEMENT -/
theorem proved : Rows.TreeMoreSaid := over
#print axioms proved
end Go.Proofs.Ytpciijihedlheaa.treeMore
