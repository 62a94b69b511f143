/- Profile: the document's New, as it runs. -/
import Derived.Test.YtagecoofaoaodaaPrfMade
import Derived.Test.YtagecoofaoaodaaFoot
namespace Go.Proofs.Ytagecoofaoaodaa.Prf
set_option maxRecDepth 100000
open Go.RowKit
open Go.Sort
open Kit
open Tre (Lst inI lst_keep lst_take lst_at lst_new lst_none below_drewN' encI encI_len encI_one OwI IntsL int_cell own_chg' owns_lit lit_row info_i run_ld2)
set_option linter.unusedVariables false
variable {w w' : World}

theorem own_emptyI (w : World) (base : Nat) (hb : base ≤ w.heap.size) : OwI (w.alloc (.cells #[] 3)) base (.slice (some ⟨w.heap.size, 0, none⟩) 0 0) [] :=
  ⟨by simp [flat], .inr ⟨w.heap.size, 0, _, rfl, hb, heap_alloc_new w _, Nat.le_refl _, by unfold maxLen; omega, by simp, by simp [flat]⟩⟩
theorem own_ints {base : Nat} {v : Value} {l : List Int} (h : OwI w base v l) : ∃ a c, v = .slice a l.length c ∧ IntsL w a l.length c l := by
  obtain ⟨a, c, hv, hc, hm, hn, hrow⟩ := owns_row encI_len h
  exact ⟨a, c, hv, rfl, hc, hm, fun e => ⟨by have := hn e; omega, hn e⟩, hrow⟩
theorem map_take {α β : Type} (f : α → β) {l : List α} {k : Nat} {x : α} (h : l[k]? = some x) : (l.take (k + 1)).map f = (l.take k).map f ++ [f x] := by
  obtain ⟨hk, e⟩ := List.getElem?_eq_some_iff.1 h
  rw [List.take_succ_eq_append_getElem hk, e, List.map_append]; rfl
set_option maxHeartbeats 32000000 in
theorem rnew_any (W : World) (now total : Int) (a1 : Option Addr) (n c1 : Nat) (l : List Bz) (hnow : Tk now) (htot : Nd total) (h : Busys W a1 n c1 l) (hm : ∀ b ∈ l, b.may) (hn : n ≤ 500) :
    Calls Try.prog 10 #[.int .i64 now, .int .i64 total, .slice a1 n c1] W fun e W' => ∃ v p, e = .returned v ∧ OwS W' W.heap.size v p ∧ IsP p (newF total l) now ∧ p.length ≤ n + 1 ∧ Below W.heap.size W W' := by
  have HL := Lib.hid (And.intro h (And.intro h.len hm))
  have HNow := Lib.hid hnow
  obtain ⟨ht0, ht1⟩ := htot
  have HEm := Lib.hid (And.intro (own_emptyI W W.heap.size (Nat.le_refl _)) (below_alloc W (.cells #[] 3)))
  clear h hm hnow
  go_enter Try.func10, Try.ntmps10
  go_wp2_with fail
  go_loopw [7, 8] (fun v i wr => ∃ k : Nat, k ≤ n ∧ i = .int .i64 (k : Nat) ∧ OwI wr W.heap.size v ((l.take k).map (·.till)) ∧ Below W.heap.size W wr) (fun _ i _ => n - (intOf i).toNat)
  case atStart => exact ⟨0, Nat.zero_le _, rfl, HEm.out.1, HEm.out.2⟩
  case round =>
    obtain ⟨k, hk, rfl, hown, hb⟩ := hrel
    have HO := Lib.hid (And.intro hown hb)
    clear hown hb
    by_cases hlt : k < n
    · have hkl : k < l.length := by rw [HL.out.2.1]; exact hlt
      obtain ⟨b, o, rfl⟩ := lst_at HL.out.1 (by omega)
      obtain ⟨q0, -⟩ := busy_cells (lst_keep encZ_len HL.out.1 HO.out.2) hkl
      have hmt := map_take (·.till) (List.getElem?_eq_getElem hkl)
      generalize l[k] = x at *
      obtain ⟨x0, x1⟩ := x
      simp only at q0 hmt
      have hlx : ((l.take k).map (·.till)).length ≤ 500 := by rw [List.length_map, List.length_take]; omega
      obtain ⟨lx, hx⟩ : ∃ lx, lx = (l.take k).map (·.till) := ⟨_, rfl⟩
      rw [← hx] at HO hmt hlx
      have HMt := Lib.hid hmt
      have HA1 := Lib.hid (And.intro (own_chg' HO.out.1 (below_alloc wr (.cells #[.int .i64 x0] 3))) (And.intro (lit_row wr x0) (below_keep HO.out.2 (below_alloc wr (.cells #[.int .i64 x0] 3)))))
      have HD := Lib.hid (show lx.length + 1 ≤ maxLen ∧ (lx.length + 1) * 8 ≤ 140737488355328 by unfold maxLen; omega)
      clear hx hmt hlx
      go_wp2_with (first | (at_builtin; refine Two.append_apart encI_len Nat.zero_lt_one encI_one rfl (.tmp 21) (.tmp 27) 48 3 rfl Try.underlying48 (.int .i64 0) 8 info_i rfl W.heap.size _ lx rfl HA1.out.1 (some ⟨wr.heap.size, 0, none⟩) 1 1 [x0] rfl rfl HA1.out.2.1 (fun h => by cases h) HD.out.1 HD.out.2 HA1.out.2.2.size ?_; intro v9 w9 ho9 hg9 hx9; have HB9 := Lib.hid (HA1.out.2.2.trans (Two.below_grown HA1.out.1 hg9 HA1.out.2.2.size)); have HO9 := Lib.hid ho9; clear ho9 hg9 hx9) | fail)
      go_roundw
      case rel => exact ⟨k + 1, by omega, by go_num, by rw [HMt.out]; exact HO9.out, HB9.out⟩
      case measure => simp [intOf]; omega
    · obtain rfl : n = k := by omega
      have htk : l.take n = l := List.take_of_length_le (by rw [HL.out.2.1]; exact Nat.le_refl _)
      rw [htk] at HO
      obtain ⟨ae, ce, rfl, hel⟩ := own_ints HO.out.1
      obtain ⟨ne, hne⟩ : ∃ ne, ne = (l.map (·.till)).length := ⟨_, rfl⟩
      rw [← hne] at hel ⊢
      have HT := Lib.hid (rticks_any wr now ae ne ce (l.map (·.till)) hel (by rw [hne, List.length_map, HL.out.2.1]; omega) HNow.out.1)
      have HB := Lib.hid HO.out.2
      clear htk hne hel HO
      go_wp2_with fail
      refine HT.out.mono ?_
      rintro e w3 ⟨v3, ts, rfl, ho3, hts, hb3⟩
      have hP := new_isP (total := total) hts
      obtain ⟨at3, ct3, rfl, htl⟩ := own_ints ho3
      have htn := isT_len hts
      rw [List.length_map, HL.out.2.1] at htn
      obtain ⟨nt, hnt⟩ : ∃ nt, nt = ts.length := ⟨_, rfl⟩
      rw [← hnt] at htl htn ⊢
      have H3 := Lib.hid (And.intro htl (And.intro hnt (And.intro hP (below_keep HB.out hb3))))
      have HEm2 := Lib.hid (And.intro (own_emptyI w3 w3.heap.size (Nat.le_refl _)) (below_alloc w3 (.cells #[] 3)))
      have hnt2 : nt ≤ 501 := by omega
      clear hP htl htn ho3 hts hnt hb3 HT
      go_wp2_with fail
      go_loopw [10, 11, 12, 13] (fun v i _ _ wr => ∃ k : Nat, k ≤ nt ∧ i = .int .i64 (k : Nat) ∧ OwI wr w3.heap.size v ((ts.take k).map (newF total l)) ∧ Below w3.heap.size w3 wr) (fun _ i _ _ _ => nt - (intOf i).toNat)
      case atStart => exact ⟨0, Nat.zero_le _, rfl, HEm2.out.1, HEm2.out.2⟩
      case round =>
        obtain ⟨k, hk, rfl, hown, hb⟩ := hrel
        have HO := Lib.hid (And.intro hown hb)
        clear hown hb
        by_cases hlt : k < nt
        · have hkl : k < ts.length := by rw [← H3.out.2.1]; exact hlt
          obtain ⟨bt, ot, rfl⟩ := lst_at H3.out.1 (by omega)
          obtain ⟨wo, rfl⟩ : ∃ z, z = wr := ⟨_, rfl⟩
          have hqt := int_cell (lst_keep encI_len H3.out.1 HO.out.2) hkl
          have hmt := map_take (newF total l) (List.getElem?_eq_getElem hkl)
          generalize ts[k] = t at *
          have HMt := Lib.hid hmt
          have HQt := Lib.hid hqt
          clear hmt hqt hkl
          go_wp2_with fail
          go_loopw [12, 13] (fun s i wr => ∃ (q : Nat) (sv : Int), q ≤ n ∧ i = .int .i64 (q : Nat) ∧ s = .int .i64 sv ∧ sv = total - busyN (l.take q) t ∧ Below wo.heap.size wo wr) (fun _ i _ => n - (intOf i).toNat)
          case atStart => exact ⟨0, total, Nat.zero_le _, rfl, rfl, by simp [busyN], Below.refl _ _⟩
          case round =>
            obtain ⟨q, sv, hq, rfl, rfl, hsv, hb⟩ := hrel
            have HS := Lib.hid (And.intro hsv hb)
            have hbd := busy_bound HL.out.2.2 q (by omega) t
            have hs1 : -1048576000 ≤ sv := by omega
            have hs2 : sv ≤ 1048576 := by omega
            clear hsv hb hbd
            by_cases hlq : q < n
            · have hql : q < l.length := by rw [HL.out.2.1]; exact hlq
              obtain ⟨b, o, rfl⟩ := lst_at HL.out.1 (by omega)
              have hbw := below_keep H3.out.2.2.2 (below_keep HO.out.2 HS.out.2)
              obtain ⟨q0, q1⟩ := busy_cells (lst_keep encZ_len HL.out.1 hbw) hql
              have r := cell_keep HS.out.2 HQt.out
              have hbt := busy_take t (List.getElem?_eq_getElem hql)
              have hmy := (HL.out.2.2 l[q] (List.getElem_mem hql)).2
              generalize l[q] = x at *
              obtain ⟨x0, x1⟩ := x
              simp only at q0 q1 hbt
              obtain ⟨e1, e2⟩ := hmy
              simp only at e1 e2
              have HBt := Lib.hid hbt
              clear hbt hbw hql
              by_cases htx : t < x0
              · have htx2 : decide (t < x0) = true := decide_eq_true htx
                have HE := Lib.hid (show sv - x1 = total - busyN (l.take (q + 1)) t by rw [HBt.out, if_pos htx]; have := HS.out.1; omega)
                go_wp2_with fail
                go_quiet (fail)
                go_wp2_with fail
                go_roundw
                case rel => exact ⟨q + 1, sv - x1, by omega, by go_num, by first | rfl | go_num, HE.out, below_keep HS.out.2 (below_drewN' _ _)⟩
                case measure => simp [intOf]; omega
              · have htx2 : decide (t < x0) = false := decide_eq_false htx
                have HE := Lib.hid (show sv = total - busyN (l.take (q + 1)) t by rw [HBt.out, if_neg htx]; have := HS.out.1; omega)
                go_wp2_with fail
                go_quiet (fail)
                go_wp2_with fail
                go_roundw
                case rel => exact ⟨q + 1, sv, by omega, by go_num, rfl, HE.out, below_keep HS.out.2 (below_drewN' _ _)⟩
                case measure => simp [intOf]; omega
            · obtain rfl : n = q := by omega
              have htk : l.take n = l := List.take_of_length_le (by rw [HL.out.2.1]; exact Nat.le_refl _)
              have HE := Lib.hid (show newF total l t = sv by have h1 := HS.out.1; rw [htk] at h1; exact h1.symm)
              have hlx : ((ts.take k).map (newF total l)).length ≤ 501 := by rw [List.length_map, List.length_take]; omega
              obtain ⟨lx, hx⟩ : ∃ lx, lx = (ts.take k).map (newF total l) := ⟨_, rfl⟩
              rw [← hx] at HO HMt hlx
              have hO2 := own_chg' HO.out.1 HS.out.2
              have hB2 := below_keep HO.out.2 HS.out.2
              have HA1 := Lib.hid (And.intro (own_chg' hO2 (below_alloc wr (.cells #[.int .i64 sv] 3))) (And.intro (lit_row wr sv) (below_keep hB2 (below_alloc wr (.cells #[.int .i64 sv] 3)))))
              have HD := Lib.hid (show lx.length + 1 ≤ maxLen ∧ (lx.length + 1) * 8 ≤ 140737488355328 by unfold maxLen; omega)
              clear htk hx hlx hO2 hB2
              go_wp2_with (first | (at_builtin; refine Two.append_apart encI_len Nat.zero_lt_one encI_one rfl (.tmp 63) (.tmp 65) 48 3 rfl Try.underlying48 (.int .i64 0) 8 info_i rfl w3.heap.size _ lx rfl HA1.out.1 (some ⟨wr.heap.size, 0, none⟩) 1 1 [sv] rfl rfl HA1.out.2.1 (fun h => by cases h) HD.out.1 HD.out.2 HA1.out.2.2.size ?_; intro v9 w9 ho9 hg9 hx9; have HB9 := Lib.hid (HA1.out.2.2.trans (Two.below_grown HA1.out.1 hg9 HA1.out.2.2.size)); have HO9 := Lib.hid ho9; clear ho9 hg9 hx9) | fail)
              go_roundw
              case rel => exact ⟨k + 1, by omega, by go_num, by rw [HMt.out, HE.out]; exact HO9.out, HB9.out⟩
              case measure => simp [intOf]; omega
        · obtain rfl : nt = k := by omega
          have htk : ts.take nt = ts := List.take_of_length_le (by rw [← H3.out.2.1]; exact Nat.le_refl _)
          rw [htk] at HO
          obtain ⟨af, cf, rfl, hfl⟩ := own_ints HO.out.1
          have hfn : (ts.map (newF total l)).length = nt := by rw [List.length_map, ← H3.out.2.1]
          rw [hfn] at hfl ⊢
          have HM := Lib.hid (rmade_any wr (newF total l) at3 af nt ct3 cf ts (lst_keep encI_len H3.out.1 HO.out.2) hfl (by omega))
          have HB2 := Lib.hid (below_keep H3.out.2.2.2 HO.out.2)
          clear htk hfl hfn HO
          go_wp2_with fail
          refine HM.out.mono ?_
          rintro e w9 ⟨v9, rfl, ho9, hb9⟩
          have HR := Lib.hid (And.intro (Foot.owns_le ho9 HB2.out.size) (below_keep HB2.out hb9))
          clear ho9 hb9 HM
          go_wp2_with fail
          go_ret
          exact ⟨_, _, rfl, HR.out.1, H3.out.2.2.1.1, by have h1 := H3.out.2.2.1.2; rw [HL.out.2.1] at h1; exact h1, HR.out.2⟩
end Go.Proofs.Ytagecoofaoaodaa.Prf
