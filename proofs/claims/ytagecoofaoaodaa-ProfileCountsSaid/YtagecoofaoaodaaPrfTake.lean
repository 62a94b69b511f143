/- Profile: the document's Take, as it runs. -/
import Derived.Test.YtagecoofaoaodaaPrfNew
import Derived.Test.YtagecoofaoaodaaPrfAt
namespace Go.Proofs.Ytagecoofaoaodaa.Prf
set_option maxRecDepth 100000
open Go.RowKit
open Go.Sort
open Kit
open Tre (Lst inI lst_keep lst_take lst_at lst_new lst_none below_drewN' encI encI_len encI_one OwI IntsL int_cell own_chg' owns_lit lit_row info_i run_ld2)
set_option linter.unusedVariables false
variable {w w' : World}

theorem valA_bound {K t : Int} : ∀ {p : List St} {acc : Int}, (-K ≤ acc ∧ acc ≤ K) → (∀ s ∈ p, -K ≤ s.free ∧ s.free ≤ K) → -K ≤ valA acc p t ∧ valA acc p t ≤ K
  | [], _, h, _ => h
  | s :: p, acc, h, hp => by
    rw [valA_cons]
    refine valA_bound ?_ fun x hx => hp x (List.mem_cons_of_mem _ hx)
    split
    · exact hp s (List.mem_cons_self ..)
    · exact h
theorem val_bound {p : List St} (h : Pf p) (t : Int) : -1099511627776 ≤ val p t ∧ val p t ≤ 1099511627776 := valA_bound (K := 1099511627776) (by omega) h.free
theorem owns_two (w : World) (x y : Int) : OwI (w.alloc (.cells #[.int .i64 x, .int .i64 y] 3)) w.heap.size (.slice (some ⟨w.heap.size, 0, none⟩) 2 2) [x, y] :=
  ⟨rfl, .inr ⟨w.heap.size, 2, _, rfl, Nat.le_refl _, heap_alloc_new w _, Nat.le_refl _, by unfold maxLen; omega, rfl, rfl⟩⟩
set_option maxHeartbeats 32000000 in
theorem rtake_any (W : World) (at' long nodes : Int) (a1 : Option Addr) (n c1 : Nat) (p : List St) (hat : Tk at') (hlo : 0 ≤ long) (hal : Tk (at' + long)) (hnd : Nd nodes) (h : Steps W a1 n c1 p) (hp : Pf p) :
    Calls Try.prog 17 #[.slice a1 n c1, .int .i64 at', .int .i64 long, .int .i64 nodes] W fun e W' => ∃ v q, e = .returned v ∧ OwS W' W.heap.size v q ∧ (p = [] → q = []) ∧ (∀ s l, p = s :: l → IsP q (takeF p at' long nodes) s.tick ∧ q.length ≤ n + 3) ∧ Below W.heap.size W W' := by
  have HL := Lib.hid (And.intro h (And.intro h.len hp))
  have hn : n ≤ 1000 := by rw [← h.len]; exact hp.len
  obtain ⟨ha0, ha1⟩ := hat
  obtain ⟨hal0, hal1⟩ := hal
  obtain ⟨hn0, hn1⟩ := hnd
  have hlo1 : long ≤ 1125899906842624 := by omega
  have hln : ¬ long < 0 := by omega
  have HB1 := Lib.hid (And.intro (owns_two W at' (at' + long)) (below_alloc W (.cells #[.int .i64 at', .int .i64 (at' + long)] 3)))
  clear h hp
  by_cases hz : n = 0
  · subst hz
    have HE := Lib.hid (show p = [] from List.length_eq_zero_iff.1 HL.out.2.1)
    go_enter Try.func17, Try.ntmps17
    go_wp2_with fail
    go_ret
    exact ⟨_, rfl, [], owns_nil _ _ _, (fun _ => rfl), (fun s l e => by rw [HE.out] at e; cases e), Below.refl _ _⟩
  · have hnz : ((n : Int) == 0) = false := beq_false_of_ne (by omega)
    go_enter Try.func17, Try.ntmps17
    go_wp2_with fail
    go_loopw [9, 10] (fun v i wr => ∃ k : Nat, k ≤ n ∧ i = .int .i64 (k : Nat) ∧ OwI wr W.heap.size v ([at', at' + long] ++ (p.take k).map (·.tick)) ∧ Below W.heap.size W wr) (fun _ i _ => n - (intOf i).toNat)
    case atStart => exact ⟨0, Nat.zero_le _, rfl, HB1.out.1, HB1.out.2⟩
    case round =>
      obtain ⟨k, hk, rfl, hown, hb⟩ := hrel
      have HO := Lib.hid (And.intro hown hb)
      clear hown hb
      by_cases hlt : k < n
      · have hkl : k < p.length := by rw [HL.out.2.1]; exact hlt
        obtain ⟨b, o, rfl⟩ := lst_at HL.out.1 (by omega)
        obtain ⟨q0, -⟩ := step_cells (lst_keep encS_len HL.out.1 HO.out.2) hkl
        have hmt := map_take (·.tick) (List.getElem?_eq_getElem hkl)
        generalize p[k] = x at *
        obtain ⟨x0, x1⟩ := x
        simp only at q0 hmt
        have hlx : ([at', at' + long] ++ (p.take k).map (·.tick)).length ≤ 1002 := by rw [List.length_append, List.length_map, List.length_take]; simp only [List.length_cons, List.length_nil]; omega
        have hmt2 : [at', at' + long] ++ (p.take (k + 1)).map (·.tick) = ([at', at' + long] ++ (p.take k).map (·.tick)) ++ [x0] := by rw [hmt, List.append_assoc]
        obtain ⟨lx, hx⟩ : ∃ lx, lx = [at', at' + long] ++ (p.take k).map (·.tick) := ⟨_, rfl⟩
        rw [← hx] at HO hmt2 hlx
        have HMt := Lib.hid hmt2
        have HA1 := Lib.hid (And.intro (own_chg' HO.out.1 (below_alloc wr (.cells #[.int .i64 x0] 3))) (And.intro (lit_row wr x0) (below_keep HO.out.2 (below_alloc wr (.cells #[.int .i64 x0] 3)))))
        have HD := Lib.hid (show lx.length + 1 ≤ maxLen ∧ (lx.length + 1) * 8 ≤ 140737488355328 by unfold maxLen; omega)
        clear hx hmt hmt2 hlx
        go_wp2_with (first | (at_builtin; refine Two.append_apart encI_len Nat.zero_lt_one encI_one rfl (.tmp 31) (.tmp 37) 48 3 rfl Try.underlying48 (.int .i64 0) 8 info_i rfl W.heap.size _ lx rfl HA1.out.1 (some ⟨wr.heap.size, 0, none⟩) 1 1 [x0] rfl rfl HA1.out.2.1 (fun h => by cases h) HD.out.1 HD.out.2 HA1.out.2.2.size ?_; intro v9 w9 ho9 hg9 hx9; have HB9 := Lib.hid (HA1.out.2.2.trans (Two.below_grown HA1.out.1 hg9 HA1.out.2.2.size)); have HO9 := Lib.hid ho9; clear ho9 hg9 hx9) | fail)
        go_roundw
        case rel => exact ⟨k + 1, by omega, by go_num, by rw [HMt.out]; exact HO9.out, HB9.out⟩
        case measure => simp [intOf]; omega
      · obtain rfl : n = k := by omega
        have htk : p.take n = p := List.take_of_length_le (by rw [HL.out.2.1]; exact Nat.le_refl _)
        rw [htk] at HO
        obtain ⟨ae, ce, rfl, hel⟩ := own_ints HO.out.1
        have hle : ([at', at' + long] ++ p.map (·.tick)).length = n + 2 := by rw [List.length_append, List.length_map, HL.out.2.1]; simp only [List.length_cons, List.length_nil]; omega
        rw [hle] at hel
        obtain ⟨ne, hne⟩ : ∃ ne, ne = n + 2 := ⟨_, rfl⟩
        rw [hle, ← hne]
        rw [← hne] at hel
        obtain ⟨b, o, rfl⟩ := lst_at HL.out.1 (by omega)
        have h0l : 0 < p.length := by rw [HL.out.2.1]; omega
        obtain ⟨q0, -⟩ := step_cells (lst_keep encS_len HL.out.1 HO.out.2) h0l
        simp only [Nat.zero_mul, Nat.add_zero] at q0
        have hhd : ∃ s l, p = s :: l := by
          cases p with
          | nil => simp at h0l
          | cons s l => exact ⟨s, l, rfl⟩
        obtain ⟨s, l, hsl⟩ := hhd
        have hp0 : p[0] = s := by subst hsl; rfl
        have hst := HL.out.2.2.tick s (by rw [hsl]; exact List.mem_cons_self ..)
        rw [hp0] at q0
        obtain ⟨u, hu⟩ : ∃ u, u = s.tick := ⟨_, rfl⟩
        rw [← hu] at q0 hst
        have HT := Lib.hid (rticks_any wr u ae ne ce ([at', at' + long] ++ p.map (·.tick)) hel (by omega) hst.1)
        have HSl := Lib.hid (And.intro hsl hu)
        have HB := Lib.hid HO.out.2
        clear htk hel hle HO h0l hp0 hst hsl hu hne
        go_wp2_with fail
        refine HT.out.mono ?_
        rintro e w3 ⟨v3, ts, rfl, ho3, hts, hb3⟩
        have hP := take_isP (nodes := nodes) (p := p) hlo hts
        obtain ⟨at3, ct3, rfl, htl⟩ := own_ints ho3
        have htn := isT_len hts
        rw [List.length_append, List.length_map, HL.out.2.1] at htn
        simp only [List.length_cons, List.length_nil] at htn
        obtain ⟨nt, hnt⟩ : ∃ nt, nt = ts.length := ⟨_, rfl⟩
        rw [← hnt] at htl htn ⊢
        have H3 := Lib.hid (And.intro htl (And.intro hnt (And.intro hP (below_keep HB.out hb3))))
        have HEm2 := Lib.hid (And.intro (own_emptyI w3 w3.heap.size (Nat.le_refl _)) (below_alloc w3 (.cells #[] 3)))
        have hnt2 : nt ≤ 1004 := by omega
        clear hP htl htn ho3 hts hnt hb3 HT q0
        go_wp2_with fail
        go_loopw [12, 13] (fun v i wr => ∃ k : Nat, k ≤ nt ∧ i = .int .i64 (k : Nat) ∧ OwI wr w3.heap.size v ((ts.take k).map (takeF p at' long nodes)) ∧ Below w3.heap.size w3 wr) (fun _ i _ => nt - (intOf i).toNat)
        case atStart => exact ⟨0, Nat.zero_le _, rfl, HEm2.out.1, HEm2.out.2⟩
        case round =>
          obtain ⟨k, hk, rfl, hown, hb⟩ := hrel
          have HO := Lib.hid (And.intro hown hb)
          clear hown hb
          by_cases hlt : k < nt
          · have hkl : k < ts.length := by rw [← H3.out.2.1]; exact hlt
            obtain ⟨bt, ot, rfl⟩ := lst_at H3.out.1 (by omega)
            have hqt := int_cell (lst_keep encI_len H3.out.1 HO.out.2) hkl
            have hmt := map_take (takeF p at' long nodes) (List.getElem?_eq_getElem hkl)
            have HQf := Lib.hid (fun (w : World) (hb : Below w3.heap.size w3 w) => int_cell (lst_keep encI_len H3.out.1 hb) hkl)
            generalize ts[k] = t at *
            obtain ⟨vt, hvt⟩ : ∃ vt, vt = val p t := ⟨_, rfl⟩
            obtain ⟨hv0, hv1⟩ := val_bound HL.out.2.2 t
            rw [← hvt] at hv0 hv1
            have HC := Lib.hid (rat_any wr t (some ⟨b, o, none⟩) n c1 p (lst_keep encS_len HL.out.1 (below_keep H3.out.2.2.2 HO.out.2)) (by omega))
            rw [← hvt] at HC
            have hlx : ((ts.take k).map (takeF p at' long nodes)).length ≤ 1004 := by rw [List.length_map, List.length_take]; omega
            obtain ⟨lx, hx⟩ : ∃ lx, lx = (ts.take k).map (takeF p at' long nodes) := ⟨_, rfl⟩
            rw [← hx] at HO hmt hlx
            have HMt := Lib.hid hmt
            have HVt := Lib.hid hvt
            have HD := Lib.hid (show lx.length + 1 ≤ maxLen ∧ (lx.length + 1) * 8 ≤ 140737488355328 by unfold maxLen; omega)
            clear hmt hkl hx hlx hvt
            go_wp2_with fail
            refine HC.out.mono ?_
            rintro e w4 ⟨rfl, hb4⟩
            have qt := HQf.out w4 (below_keep HO.out.2 hb4)
            have HO4 := Lib.hid (And.intro (own_chg' HO.out.1 hb4) (below_keep HO.out.2 hb4))
            clear hb4 HC hqt
            by_cases hc : at' ≤ t ∧ t < at' + long
            · obtain ⟨hc1, hc2⟩ := hc
              have HE := Lib.hid (show takeF p at' long nodes t = vt - nodes by unfold takeF; rw [if_pos ⟨hc1, hc2⟩, ← HVt.out])
              have HA1 := Lib.hid (And.intro (own_chg' HO4.out.1 (below_alloc w4 (.cells #[.int .i64 (vt - nodes)] 3))) (And.intro (lit_row w4 (vt - nodes)) (below_keep HO4.out.2 (below_alloc w4 (.cells #[.int .i64 (vt - nodes)] 3)))))
              go_wp2_with (first | (at_builtin; refine Two.append_apart encI_len Nat.zero_lt_one encI_one rfl (.tmp 77) (.tmp 79) 48 3 rfl Try.underlying48 (.int .i64 0) 8 info_i rfl w3.heap.size _ lx rfl HA1.out.1 (some ⟨w4.heap.size, 0, none⟩) 1 1 [vt - nodes] rfl rfl HA1.out.2.1 (fun h => by cases h) HD.out.1 HD.out.2 HA1.out.2.2.size ?_; intro v9 w9 ho9 hg9 hx9; have HB9 := Lib.hid (HA1.out.2.2.trans (Two.below_grown HA1.out.1 hg9 HA1.out.2.2.size)); have HO9 := Lib.hid ho9; clear ho9 hg9 hx9) | fail)
              go_roundw
              case rel => exact ⟨k + 1, by omega, by go_num, by rw [HMt.out, HE.out]; exact HO9.out, HB9.out⟩
              case measure => simp [intOf]; omega
            · have HE := Lib.hid (show takeF p at' long nodes t = vt by unfold takeF; rw [if_neg hc, ← HVt.out, Int.sub_zero])
              have HA1 := Lib.hid (And.intro (own_chg' HO4.out.1 (below_alloc w4 (.cells #[.int .i64 vt] 3))) (And.intro (lit_row w4 vt) (below_keep HO4.out.2 (below_alloc w4 (.cells #[.int .i64 vt] 3)))))
              by_cases hc1 : at' ≤ t
              · have hc2 : ¬ t < at' + long := fun h => hc ⟨hc1, h⟩
                have hc3 : decide (t < at' + long) = false := decide_eq_false hc2
                clear hc
                go_wp2_with (first | (at_builtin; refine Two.append_apart encI_len Nat.zero_lt_one encI_one rfl (.tmp 77) (.tmp 79) 48 3 rfl Try.underlying48 (.int .i64 0) 8 info_i rfl w3.heap.size _ lx rfl HA1.out.1 (some ⟨w4.heap.size, 0, none⟩) 1 1 [vt] rfl rfl HA1.out.2.1 (fun h => by cases h) HD.out.1 HD.out.2 HA1.out.2.2.size ?_; intro v9 w9 ho9 hg9 hx9; have HB9 := Lib.hid (HA1.out.2.2.trans (Two.below_grown HA1.out.1 hg9 HA1.out.2.2.size)); have HO9 := Lib.hid ho9; clear ho9 hg9 hx9) | fail)
                go_roundw
                case rel => exact ⟨k + 1, by omega, by go_num, by rw [HMt.out, HE.out]; exact HO9.out, HB9.out⟩
                case measure => simp [intOf]; omega
              · have hc3 : decide (at' ≤ t) = false := decide_eq_false hc1
                clear hc
                go_wp2_with (first | (at_builtin; refine Two.append_apart encI_len Nat.zero_lt_one encI_one rfl (.tmp 77) (.tmp 79) 48 3 rfl Try.underlying48 (.int .i64 0) 8 info_i rfl w3.heap.size _ lx rfl HA1.out.1 (some ⟨w4.heap.size, 0, none⟩) 1 1 [vt] rfl rfl HA1.out.2.1 (fun h => by cases h) HD.out.1 HD.out.2 HA1.out.2.2.size ?_; intro v9 w9 ho9 hg9 hx9; have HB9 := Lib.hid (HA1.out.2.2.trans (Two.below_grown HA1.out.1 hg9 HA1.out.2.2.size)); have HO9 := Lib.hid ho9; clear ho9 hg9 hx9) | fail)
                go_roundw
                case rel => exact ⟨k + 1, by omega, by go_num, by rw [HMt.out, HE.out]; exact HO9.out, HB9.out⟩
                case measure => simp [intOf]; omega
          · obtain rfl : nt = k := by omega
            have htk : ts.take nt = ts := List.take_of_length_le (by rw [← H3.out.2.1]; exact Nat.le_refl _)
            rw [htk] at HO
            obtain ⟨af, cf, rfl, hfl⟩ := own_ints HO.out.1
            have hfn : (ts.map (takeF p at' long nodes)).length = nt := by rw [List.length_map, ← H3.out.2.1]
            rw [hfn] at hfl ⊢
            have HM := Lib.hid (rmade_any wr (takeF p at' long nodes) at3 af nt ct3 cf ts (lst_keep encI_len H3.out.1 HO.out.2) hfl (by omega))
            have HB2 := Lib.hid (below_keep H3.out.2.2.2 HO.out.2)
            clear htk hfl hfn HO
            go_wp2_with fail
            refine HM.out.mono ?_
            rintro e w9 ⟨v9, rfl, ho9, hb9⟩
            have HR := Lib.hid (And.intro (Foot.owns_le ho9 HB2.out.size) (below_keep HB2.out hb9))
            clear ho9 hb9 HM
            go_wp2_with fail
            go_ret
            refine ⟨_, _, rfl, HR.out.1, (fun e => by rw [HSl.out.1] at e; cases e), (fun s' l' e => ?_), HR.out.2⟩
            have e2 := HSl.out.1.symm.trans e
            injection e2 with e3 e4
            subst e3
            have h1 := H3.out.2.2.1.2
            rw [HL.out.2.1] at h1
            exact ⟨by rw [← HSl.out.2]; exact H3.out.2.2.1.1, h1⟩
end Go.Proofs.Ytagecoofaoaodaa.Prf
