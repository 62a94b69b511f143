/- Common to the claims of this seat, part 23: texts that were written one by one, laid behind one another. -/
import Derived.Test.YtjcndgopijpibaaGreatPart3
import Derived.Test.YtjcndgopijpibaaGreatPart11
import Derived.Test.YtjcndgopijpibaaGreatPart14
import Derived.Test.YtjcndgopijpibaaGreatPart22
/- Ledger, the landed: what is wrong with legs, whatever is in their accounts. -/
namespace Go.Proofs.YtjcndgopijpibaaGreat.Led
set_option maxRecDepth 100000
open Go.RowKit
open Go.Sort
open Kit
open Mon
open Tre
set_option linter.unusedVariables false
variable {w w' : World}
set_option maxHeartbeats 8000000 in
theorem pre_any (W : World) (a : Option Addr) (n c : Nat) (a2 : Option Addr) (n2 c2 : Nat) (legs : List Lg) (hn : n ≤ 100) (hG : Legs W a2 n2 c2 legs) (hok : ∀ x ∈ legs, x.ok) (hn2 : n2 ≤ 100) :
    Calls Tryz.prog 111 #[.slice a n c, .slice a2 n2 c2] W fun e W' => e = .returned (.int .i64 (preE (1 + 3 * n) legs)) ∧ Below W.heap.size W W' := by
  have HG := Lib.hid (And.intro hG (And.intro hG.len hok))
  obtain ⟨m, hm⟩ : ∃ m, m = 1 + 3 * n := ⟨_, rfl⟩
  rw [← hm]
  have HM := Lib.hid hm
  clear hG hok hm
  go_enter Tryz.func111, Tryz.ntmps111
  go_wp2_with fail
  go_loopw [5, 12] (fun v i wr => ∃ k : Nat, k ≤ n2 ∧ i = .int .i64 (k : Nat) ∧ scanE m (legs.take k) = 0 ∧ OwI wr W.heap.size v (amts (legs.take k)) ∧ Below W.heap.size W wr) (fun _ i _ => n2 - (intOf i).toNat)
  case atStart => exact ⟨0, Nat.zero_le _, rfl, rfl, owns_nil _ _ _, Below.refl _ _⟩
  case round =>
    obtain ⟨k, hk, rfl, hsc, hown, hb⟩ := hrel
    have HO := Lib.hid (And.intro hsc (And.intro hown hb))
    clear hsc hown hb
    by_cases hlt : k < n2
    · have hkl : k < legs.length := by rw [HG.out.2.1]; exact hlt
      obtain ⟨b2, o2, rfl⟩ := lst_at HG.out.1 (by omega)
      have hget := List.getElem?_eq_getElem hkl
      obtain ⟨q0, q1⟩ := leg_cells (lst_keep encG_len HG.out.1 HO.out.2.2) hkl
      obtain ⟨s4, s3, s0⟩ := scan_at HO.out.1 hget
      have ham := amts_take hget
      generalize legs[k] = x at *
      obtain ⟨ac, am⟩ := x
      simp only at q0 q1 s4 s3 s0 ham
      have HX := Lib.hid (And.intro s4 (And.intro s3 (And.intro s0 ham)))
      have hb1 := below_alloc wr (.cells #[.int .i64 ac, .int .i64 am] 49)
      have HB1 := Lib.hid (below_keep HO.out.2.2 hb1)
      clear s4 s3 s0 ham hget
      by_cases hbd : ac < 0 ∨ (m : Int) ≤ ac
      · have HR := Lib.hid (pre_scan (HX.out.1 hbd) (by decide))
        have HC := Lib.hid (is_no (wr.alloc (.cells #[.int .i64 ac, .int .i64 am] 49)) a n c ac hn (by have := HM.out; omega))
        clear hbd
        go_wp2_with fail
        refine HC.out.mono ?_
        rintro e w1 ⟨rfl, rfl⟩
        go_wp2_with fail
        go_ret
        exact ⟨by rw [HR.out]; rfl, HB1.out⟩
      · have HC := Lib.hid (is_yes (wr.alloc (.cells #[.int .i64 ac, .int .i64 am] 49)) a n c ac hn (by omega) (by have := HM.out; omega))
        by_cases hz : am = 0
        · have HR := Lib.hid (pre_scan (HX.out.2.1 hbd hz) (by decide))
          subst hz
          clear hbd
          go_wp2_with fail
          refine HC.out.mono ?_
          rintro e w1 ⟨rfl, rfl⟩
          go_wp2_with fail
          go_ret
          exact ⟨by rw [HR.out]; rfl, HB1.out⟩
        · have HS := Lib.hid (HX.out.2.2.1 hbd hz)
          have hz2 : (am == 0) = false := beq_false_of_ne hz
          clear hbd hz
          have hlx : (amts (legs.take k)).length ≤ 100 := by
            unfold amts
            rw [List.length_map, List.length_take]; omega
          obtain ⟨lx, hx⟩ : ∃ y, y = amts (legs.take k) := ⟨_, rfl⟩
          rw [← hx] at HO HX hlx
          have hb2 := below_alloc (wr.alloc (.cells #[.int .i64 ac, .int .i64 am] 49)) (.cells #[.int .i64 am] 3)
          have HA1 := Lib.hid (own_chg' (own_chg' HO.out.2.1 hb1) hb2)
          have HA2 := Lib.hid (show Kit.Row encI 1 _ (some ⟨wr.heap.size + 1, 0, none⟩) [am] from row_new encI_len (wr.alloc (.cells #[.int .i64 ac, .int .i64 am] 49)) [am] #[.int .i64 am] 3 _ (by simp) rfl)
          have HA3 := Lib.hid (below_keep HB1.out hb2)
          have HD1 := Lib.hid (show lx.length + 1 ≤ maxLen by unfold maxLen; omega)
          have HD2 := Lib.hid (show (lx.length + 1) * 8 ≤ 140737488355328 by omega)
          clear hx hlx hb1 hb2
          go_wp2_with fail
          refine HC.out.mono ?_
          rintro e w1 ⟨rfl, rfl⟩
          go_wp2_with (first | (at_builtin; refine Two.append_apart encI_len Nat.zero_lt_one encI_one rfl (.tmp 24) (.tmp 27) 31 3 rfl Tryz.underlying31 (.int .i64 0) 8 info_i rfl W.heap.size _ lx rfl HA1.out (some ⟨wr.heap.size + 1, 0, none⟩) 1 1 [am] rfl rfl HA2.out (fun h => by cases h) HD1.out HD2.out HA3.out.size ?_; intro v9 w9 ho9 hg9 hx9; have HB9 := Lib.hid (HA3.out.trans (Two.below_grown HA1.out hg9 HA3.out.size)); have HO9 := Lib.hid ho9; clear ho9 hg9 hx9) | fail)
          go_roundw
          case rel => exact ⟨k + 1, by omega, by go_num, HS.out, by rw [HX.out.2.2.2]; exact HO9.out, HB9.out⟩
          case measure => simp [intOf]; omega
    · obtain rfl : n2 = k := by omega
      have htk : legs.take n2 = legs := List.take_of_length_le (by rw [HG.out.2.1]; exact Nat.le_refl _)
      rw [htk] at HO
      by_cases hmany : n2 < 1 ∨ 64 < n2
      · have HR := Lib.hid (pre_many HO.out.1 (by rw [HG.out.2.1]; exact hmany))
        have hor : n2 = 0 ∨ (((n2 : Int) == 0) = false ∧ (64 : Int) < (n2 : Int)) := by
          rcases hmany with h | h
          · exact .inl (by omega)
          · exact .inr ⟨beq_false_of_ne (by omega), by omega⟩
        clear hmany
        rcases hor with t1 | ⟨t1, t2⟩
        · subst t1
          go_wp2_with fail
          go_ret
          exact ⟨by rw [HR.out]; rfl, HO.out.2.2⟩
        · go_wp2_with fail
          go_ret
          exact ⟨by rw [HR.out]; rfl, HO.out.2.2⟩
      · have t1 : ((n2 : Int) == 0) = false := beq_false_of_ne (by omega)
        have t2 : ¬ (64 : Int) < (n2 : Int) := by omega
        have hmany2 : ¬ (legs.length < 1 ∨ 64 < legs.length) := by rw [HG.out.2.1]; exact hmany
        have HMany := Lib.hid hmany2
        clear hmany hmany2
        obtain ⟨a10, c10, rfl, g1', g2', g3', g4'⟩ := owns_row encI_len HO.out.2.1
        have hel : Elems wr a10 (amts legs) := ints_elems ⟨rfl, g1', g2', fun e => ⟨by have := g3' e; omega, g3' e⟩, g4'⟩
        have HE := Lib.hid (And.intro hel (show (amts legs).length ≤ maxLen from Nat.le_trans g1' g2'))
        obtain ⟨na, hna⟩ : ∃ na, na = (amts legs).length := ⟨_, rfl⟩
        rw [← hna]
        have HNa := Lib.hid hna
        have HB := Lib.hid (And.intro HO.out.1 HO.out.2.2)
        clear g1' g2' g3' g4' hel hna HO htk
        go_wp2_with fail
        refine (add_any a10 na c10 (amts legs) wr HNa.out.symm (by rw [HNa.out]; exact HE.out.2) HE.out.1).mono ?_
        rintro e w3 ⟨rfl, rfl⟩
        by_cases hae : addE (amts legs) = 0
        · by_cases han : addN (amts legs) = 0
          · have HR := Lib.hid (pre_ok HB.out.1 HMany.out hae han)
            rw [hae, han]
            clear hae han
            go_wp2_with fail
            go_ret
            exact ⟨by rw [HR.out]; rfl, HB.out.2⟩
          · have HR := Lib.hid (pre_sum HB.out.1 HMany.out hae han)
            rw [hae]
            have han2 : (addN (amts legs) == 0) = false := beq_false_of_ne han
            generalize addN (amts legs) = sn at *
            clear hae han
            go_wp2_with fail
            go_ret
            exact ⟨by rw [HR.out]; rfl, HB.out.2⟩
        · have HR := Lib.hid (pre_add HB.out.1 HMany.out hae)
          have he2 : addE (amts legs) = 2 := by
            rcases addE_two (amts legs) with h | h
            · exact absurd h hae
            · exact h
          rw [he2]
          clear hae he2
          go_wp2_with fail
          go_ret
          exact ⟨by rw [HR.out]; rfl, HB.out.2⟩
end Go.Proofs.YtjcndgopijpibaaGreat.Led
/- Book, the landed: how many Args a kind has; may it have a key; is a key among others? -/
namespace Go.Proofs.YtjcndgopijpibaaGreat.Bok
set_option maxRecDepth 100000
open Go.RowKit
open Go.Sort
open Kit
open Foot
open Tre (Lst inI lst_keep lst_at lst_new lst_none encF encF_len encL_len IntsL goodB)
open Led (Lg encG encG_len)
open Snp (Sn Sv encK encK_len encK_one)
set_option linter.unusedVariables false
variable {w w' W0 W : World} {B : Nat}
set_option maxHeartbeats 4000000 in
theorem argsOf_any (k : Int) (w : World) : Calls Tryz.prog 61 #[.int .i64 k] w fun e w' => e = .returned (.int .i64 (many k)) ∧ w = w' := by
  rcases many_each k with h | ⟨⟨h1, h2, h3, h4, h5⟩, ⟨h6, h7, h8, h9, h10⟩, ⟨h11, h12, h13, h14, h15⟩⟩
  · rcases h with rfl | rfl | rfl | rfl | rfl | rfl | rfl | rfl | rfl | rfl | rfl | rfl | rfl | rfl | rfl
    all_goals
      go_enter Tryz.func61, Tryz.ntmps61
      go_wp2_with fail
      go_ret
      exact ⟨rfl, rfl⟩
  · have e := Lib.hid (show many k = -1 by unfold many; simp [h1, h2, h3, h4, h5, h6, h7, h8, h9, h10, h11, h12, h13, h14, h15])
    have q1 : (k == 1) = false := beq_false_of_ne h1
    have q2 : (k == 2) = false := beq_false_of_ne h2
    have q3 : (k == 3) = false := beq_false_of_ne h3
    have q4 : (k == 4) = false := beq_false_of_ne h4
    have q5 : (k == 5) = false := beq_false_of_ne h5
    have q6 : (k == 6) = false := beq_false_of_ne h6
    have q7 : (k == 7) = false := beq_false_of_ne h7
    have q8 : (k == 8) = false := beq_false_of_ne h8
    have q9 : (k == 9) = false := beq_false_of_ne h9
    have q10 : (k == 10) = false := beq_false_of_ne h10
    have q11 : (k == 11) = false := beq_false_of_ne h11
    have q12 : (k == 12) = false := beq_false_of_ne h12
    have q13 : (k == 13) = false := beq_false_of_ne h13
    have q14 : (k == 14) = false := beq_false_of_ne h14
    have q15 : (k == 15) = false := beq_false_of_ne h15
    clear h1 h2 h3 h4 h5 h6 h7 h8 h9 h10 h11 h12 h13 h14 h15
    go_enter Tryz.func61, Tryz.ntmps61
    go_wp2_with fail
    go_ret
    exact ⟨by rw [e.out]; rfl, rfl⟩
theorem mayKey_any (k : Int) (w : World) (b : Bool) (hb : b = true ↔ k ≤ 7 ∨ k = 13) : Calls Tryz.prog 62 #[.int .i64 k] w fun e w' => e = .returned (.bool b) ∧ w = w' := by
  by_cases h1 : k ≤ 7
  · obtain rfl : b = true := hb.2 (.inl h1)
    clear hb
    go_enter Tryz.func62, Tryz.ntmps62
    go_wp2_with fail
    go_ret
    exact ⟨rfl, rfl⟩
  · by_cases h2 : k = 13
    · obtain rfl : b = true := hb.2 (.inr h2)
      subst h2
      clear hb
      go_enter Tryz.func62, Tryz.ntmps62
      go_wp2_with fail
      go_ret
      exact ⟨rfl, rfl⟩
    · obtain rfl : b = false := by
        cases b with
        | false => rfl
        | true => have := hb.1 rfl; omega
      have hq : (k == 13) = false := beq_false_of_ne h2
      clear hb
      go_enter Tryz.func62, Tryz.ntmps62
      go_wp2_with fail
      go_ret
      exact ⟨rfl, rfl⟩
theorem toList_ne {x y : ByteArray} (h : x ≠ y) : ¬ x.toList = y.toList := fun e => h (by
  rw [ByteArray.toList_eq, ByteArray.toList_eq] at e
  exact ByteArray.ext (Array.toList_inj.1 e))
set_option maxHeartbeats 4000000 in
theorem idxS_any (W : World) (a : Option Addr) (n c : Nat) (l : List ByteArray) (h : Lst encK 1 W a n c l) (s : ByteArray) :
    Calls Tryz.prog 88 #[.slice a n c, .string s] W fun e w' => ∃ j : Int, e = .returned (.int .i64 j) ∧ (0 ≤ j ↔ s ∈ l) ∧ W = w' := by
  have hm1 : n ≤ 9223372036854775807 := by have := h.cap; have := h.max; unfold maxLen at this; omega
  have HL := Lib.hid (And.intro h h.len)
  clear h
  go_enter Tryz.func88, Tryz.ntmps88
  go_wp2_with fail
  go_loop [5, 8] (fun _ i => ∃ k : Nat, k ≤ n ∧ i = .int .i64 (k : Nat) ∧ Hid (s ∉ l.take k)) (fun _ i => n - (intOf i).toNat)
  case atStart => exact ⟨0, Nat.zero_le _, rfl, Lib.hid (by simp)⟩
  case round =>
    obtain ⟨k, hk, rfl, hno⟩ := hrel
    by_cases hlt : k < n
    · have hkl : k < l.length := by rw [HL.out.2]; exact hlt
      obtain ⟨b, o, rfl⟩ := lst_at HL.out.1 (by omega)
      have q0 := Snp.key_cell HL.out.1 hkl
      have HM := Lib.hid (List.take_succ_eq_append_getElem hkl)
      have HI := Lib.hid (List.getElem_mem hkl)
      generalize l[k] = x at *
      by_cases hx : s = x
      · subst hx
        go_wp2_with fail
        go_ret
        exact ⟨_, rfl, ⟨fun _ => HI.out, fun _ => by omega⟩, rfl⟩
      · have hne := toList_ne hx
        have hne2 : (s.toList == x.toList) = false := beq_false_of_ne hne
        have HX := Lib.hid hx
        clear hx
        go_wp2_with fail
        go_round
        case rel => exact ⟨k + 1, by omega, by go_num, Lib.hid (by
          rw [HM.out, List.mem_append, List.mem_singleton]
          rintro (h | h)
          · exact hno.out h
          · exact HX.out h)⟩
        case measure => simp [intOf]; omega
    · obtain rfl : k = n := by omega
      have hN := hno.out
      rw [List.take_of_length_le (by rw [HL.out.2]; exact Nat.le_refl _)] at hN
      have HN := Lib.hid hN
      clear hN
      go_wp2_with fail
      go_ret
      exact ⟨_, rfl, ⟨fun h => by omega, fun h => absurd h HN.out⟩, rfl⟩
theorem has_any (W : World) (a : Option Addr) (n c : Nat) (l : List ByteArray) (h : Lst encK 1 W a n c l) (s : ByteArray) :
    Calls Tryz.prog 63 #[.slice a n c, .string s] W fun e w' => e = .returned (.bool (hasK l s)) ∧ W = w' := by
  have HI := Lib.hid (idxS_any W a n c l h s)
  clear h
  go_enter Tryz.func63, Tryz.ntmps63
  go_wp2_with fail
  refine HI.out.mono ?_
  rintro e w' ⟨j, rfl, hj, rfl⟩
  by_cases h0 : 0 ≤ j
  · have HC := Lib.hid (show hasK l s = true from hasK_iff.2 (hj.1 h0))
    clear hj
    go_wp2_with fail
    go_ret
    exact ⟨by rw [HC.out]; first | rfl | exact Kit.ret_bool (decide_eq_true (by omega)), rfl⟩
  · have HC := Lib.hid (show hasK l s = false by
      cases hb : hasK l s with
      | false => rfl
      | true => exact absurd (hj.2 (hasK_iff.1 hb)) h0)
    clear hj
    go_wp2_with fail
    go_ret
    exact ⟨by rw [HC.out]; first | rfl | exact Kit.ret_bool (decide_eq_false (by omega)), rfl⟩
end Go.Proofs.YtjcndgopijpibaaGreat.Bok
