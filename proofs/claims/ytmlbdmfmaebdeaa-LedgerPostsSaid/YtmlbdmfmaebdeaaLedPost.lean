/- Ledger: the document's Post, as it runs. -/
import Derived.Test.YtmlbdmfmaebdeaaLedRef
import Derived.Test.YtmlbdmfmaebdeaaLedScn
namespace Go.Proofs.Ytmlbdmfmaebdeaa.Led
set_option maxRecDepth 100000
open Go.RowKit
open Go.Sort
open Kit
open Mon
open Tre
set_option linter.unusedVariables false
variable {w w' : World}

theorem run_st_i {w : World} {a : Addr} {u : Value} {x : Int} (h : w.cell? a = some u) (hf : w.frozen? a = false) : (Instr.storeAt 3 (.pointer (some a)) (.int .i64 x)).run Try.prog w = .ok () (w.setCell a (.int .i64 x)) := by
  simp [go_sem, h, hf]
theorem run_i0 {b n c k : Nat} (h : k < n) (w : World) : (Instr.indexAt 34 (.slice (some ⟨b, 0, none⟩) n c) (.int .i64 (k : Nat))).run Try.prog w = .ok (.pointer (some ⟨b, k, none⟩)) w := by
  simp [go_sem, h]
theorem run_a0 {b n c k : Nat} (h : k < n) (w : World) : (Instr.indexAt 22 (.slice (some ⟨b, 0, none⟩) n c) (.int .i64 (k : Nat))).run Try.prog w = .ok (.pointer (some ⟨b, k * 6, none⟩)) w := by
  simp [go_sem, h]
theorem wrap_small {k : Nat} (h : k ≤ 1000000) : IntKind.i64.wrap (k : Int) = (k : Int) := by
  have h2 : (k : Int) ≤ 1000000 := by omega
  simp [IntKind.wrap, IntKind.bits, IntKind.signed]
  omega
theorem run_mul3 {j : Nat} (h : j ≤ 1000) (x y : Operand) (w : World) : (do eqGuard .mul 3 x y (.int .i64 3) (.int .i64 (j : Nat)); binOp .mul 3 (.int .i64 3) (.int .i64 (j : Nat)) : Sem Value).run Try.prog w = .ok (.int .i64 ((3 * j : Nat) : Int)) w := by
  have e := wrap_small (k := 3 * j) (by omega)
  rw [Int.natCast_mul] at e
  have e2 : IntKind.i64.wrap (3 * (j : Int)) = 3 * (j : Int) := e
  simp [go_sem, e2]
theorem run_addk {j : Nat} (h : j ≤ 1000) (q : Nat) (hq : q ≤ 3) {z : Int} (hz : z = (q : Int)) (x y : Operand) (w : World) : (do eqGuard .add 3 x y (.int .i64 z) (.int .i64 ((3 * j : Nat) : Int)); binOp .add 3 (.int .i64 z) (.int .i64 ((3 * j : Nat) : Int)) : Sem Value).run Try.prog w = .ok (.int .i64 ((q + 3 * j : Nat) : Int)) w := by
  subst hz
  have e := wrap_small (k := q + 3 * j) (by omega)
  rw [Int.natCast_add, Int.natCast_mul] at e
  have e2 : IntKind.i64.wrap ((q : Int) + 3 * (j : Int)) = (q : Int) + 3 * (j : Int) := e
  simp [go_sem, e2]
/-- The world behind i of three stores. -/
def phiOut (W : World) (g K : Nat) (x y z : Int) : Nat → List Value → World → Prop
  | 0, _, ww => ww = W
  | 1, _, ww => ww = W.setCell ⟨g, K + 3, none⟩ (.int .i64 x)
  | 2, _, ww => ww = (W.setCell ⟨g, K + 3, none⟩ (.int .i64 x)).setCell ⟨g, K + 4, none⟩ (.int .i64 y)
  | _, _, ww => ww = ((W.setCell ⟨g, K + 3, none⟩ (.int .i64 x)).setCell ⟨g, K + 4, none⟩ (.int .i64 y)).setCell ⟨g, K + 5, none⟩ (.int .i64 z)
theorem phi_far {W ww : World} {g K i : Nat} {x y z : Int} {vs : List Value} {a : Addr} {v : Value} (h : phiOut W g K x y z i vs ww) (hi : i ≤ 3) (hne : g ≠ a.block) (hc : W.cell? a = some v) : ww.cell? a = some v := by
  match i, h, hi with
  | 0, h, _ => rw [show ww = W from h]; exact hc
  | 1, h, _ => rw [show ww = _ from h]; exact set_far hne hc
  | 2, h, _ => rw [show ww = _ from h]; exact set_far hne (set_far hne hc)
  | 3, h, _ => rw [show ww = _ from h]; exact set_far hne (set_far hne (set_far hne hc))
/-- An allocation's three amounts set, one by one. -/
theorem own_three {base g n cap : Nat} {l : List Al} (h : Owns encL 6 45 w base (.slice (some ⟨g, 0, none⟩) n cap) l) (hnl : l.length = n) {k : Nat} {a : Al} (ha : l[k]? = some a) (x y z : Int) :
    ((w.cell? ⟨g, k * 6 + 3, none⟩ = some (.int .i64 a.avail) ∧ w.frozen? ⟨g, k * 6 + 3, none⟩ = false) ∧ ((w.setCell ⟨g, k * 6 + 3, none⟩ (.int .i64 x)).cell? ⟨g, k * 6 + 4, none⟩ = some (.int .i64 a.lien) ∧ (w.setCell ⟨g, k * 6 + 3, none⟩ (.int .i64 x)).frozen? ⟨g, k * 6 + 4, none⟩ = false) ∧
      (((w.setCell ⟨g, k * 6 + 3, none⟩ (.int .i64 x)).setCell ⟨g, k * 6 + 4, none⟩ (.int .i64 y)).cell? ⟨g, k * 6 + 5, none⟩ = some (.int .i64 a.spent) ∧ ((w.setCell ⟨g, k * 6 + 3, none⟩ (.int .i64 x)).setCell ⟨g, k * 6 + 4, none⟩ (.int .i64 y)).frozen? ⟨g, k * 6 + 5, none⟩ = false)) ∧
      Owns encL 6 45 (((w.setCell ⟨g, k * 6 + 3, none⟩ (.int .i64 x)).setCell ⟨g, k * 6 + 4, none⟩ (.int .i64 y)).setCell ⟨g, k * 6 + 5, none⟩ (.int .i64 z)) base (.slice (some ⟨g, 0, none⟩) n cap) (l.set k { a with avail := x, lien := y, spent := z }) := by
  have hk := (List.getElem?_eq_some_iff.1 ha).1
  obtain ⟨a1, a2, a3⟩ := owns_put encL_len h hnl ha (i := 3) (by omega) (fun a => { a with avail := x }) (.int .i64 x) (fun a => rfl)
  obtain ⟨b1, b2, b3⟩ := owns_put encL_len a3 (by rw [List.length_set]; exact hnl) (List.getElem?_set_self hk) (i := 4) (by omega) (fun a => { a with lien := y }) (.int .i64 y) (fun a => rfl)
  obtain ⟨c1, c2, c3⟩ := owns_put encL_len b3 (by rw [List.length_set, List.length_set]; exact hnl) (List.getElem?_set_self (by rw [List.length_set]; exact hk)) (i := 5) (by omega) (fun a => { a with spent := z }) (.int .i64 z) (fun a => rfl)
  rw [List.set_set, List.set_set] at c3
  exact ⟨⟨⟨a1, a2⟩, ⟨b1, b2⟩, ⟨c1, c2⟩⟩, c3⟩
theorem int_of_own {base g n c : Nat} {l : List Int} (h : OwI w base (.slice (some ⟨g, 0, none⟩) n c) l) (hn : l.length = n) {k : Nat} {x : Int} (hx : l[k]? = some x) : w.drew.cell? ⟨g, k, none⟩ = some (.int .i64 x) := by
  have := (owns_put encI_len (owns_drew h) hn hx (i := 0) Nat.zero_lt_one (fun _ => 0) (.int .i64 0) (fun a => rfl)).1
  rw [Nat.mul_one, Nat.add_zero] at this
  exact this
theorem own_lt' {base g n c : Nat} {l : List Int} (h : OwI w base (.slice (some ⟨g, 0, none⟩) n c) l) : g < w.heap.size := (World.ownsRow.lt h g rfl).2
theorem encI_put (x u : Int) : encI u = (encI x).set 0 (.int .i64 u) := rfl

set_option maxHeartbeats 16000000 in
theorem rpost_any (W : World) (wd : Int) (a : Option Addr) (n c : Nat) (al : List Al) (a2 : Option Addr) (n2 c2 : Nat) (legs : List Lg) (hA : Allocs W a n c al) (hn : n ≤ 100) (hG : Legs W a2 n2 c2 legs) (hn2 : n2 ≤ 100) :
    Calls Try.prog 11 #[.int .i64 wd, .slice a n c, .slice a2 n2 c2] W fun e W' => ∃ v, e = .returned (.tuple #[.int .i64 (postW wd al legs), v, .int .i64 (postE wd al legs)]) ∧ OutA W' W.heap.size v (postA wd al legs) ∧ Below W.heap.size W W' := by
  have HA := Lib.hid (And.intro hA hA.len)
  have HG := Lib.hid (And.intro hG hG.len)
  have HF := Lib.hid (flat_any wd al a n c W hA hn)
  obtain ⟨fl, hfl⟩ : ∃ fl, fl = flatN wd al := ⟨_, rfl⟩
  rw [← hfl] at HF
  obtain ⟨m, hm⟩ : ∃ m, m = fl.length := ⟨_, rfl⟩
  have hmn : m = 1 + 3 * n := by rw [hm, hfl, flat_len, hA.len]
  have hm1 : 1 ≤ m := by omega
  have hm4 : m ≤ 301 := by omega
  have HM := Lib.hid (And.intro hfl (And.intro hm (And.intro hmn (show m = 1 + 3 * al.length by rw [hA.len]; exact hmn))))
  clear hA hG hfl hm hmn
  go_enter Try.func11, Try.ntmps11
  go_wp2_with fail
  refine HF.out.mono ?_
  rintro e w1 ⟨v1, rfl, hO1, hb1⟩
  obtain ⟨g1, c1, rfl, hg1, _, _⟩ := owns_at encI_len hO1 (by rw [← HM.out.2.1]; exact hm1)
  rw [← HM.out.2.1] at hO1 ⊢
  have H1 := Lib.hid (And.intro hO1 (And.intro hb1 hg1))
  have HE0 := Lib.hid (And.intro (below_alloc w1 (.cells #[] 3)) (show OwI (w1.alloc (.cells #[] 3)) w1.heap.size (.slice (some ⟨w1.heap.size, 0, none⟩) 0 0) [] from ⟨rfl, .inr ⟨w1.heap.size, 0, _, rfl, Nat.le_refl _, heap_alloc_new w1 _, Nat.le_refl _, by unfold maxLen; omega, rfl, rfl⟩⟩))
  clear hO1 hb1 hg1 HF
  go_wp2_with fail
  go_loopw [10, 11] (fun v i wr => ∃ k : Nat, k ≤ n2 ∧ i = .int .i64 (k : Nat) ∧ scanE m (legs.take k) = 0 ∧ OwI wr w1.heap.size v (amts (legs.take k)) ∧ Below w1.heap.size w1 wr) (fun _ i _ => n2 - (intOf i).toNat)
  case atStart => exact ⟨0, Nat.zero_le _, rfl, rfl, HE0.out.2, HE0.out.1⟩
  case round =>
    obtain ⟨k, hk, rfl, hsc, hown, hb⟩ := hrel
    have HO := Lib.hid (And.intro hsc (And.intro hown hb))
    clear hsc hown hb
    by_cases hlt : k < n2
    · have hkl : k < legs.length := by rw [HG.out.2]; exact hlt
      obtain ⟨b2, o2, rfl⟩ := lst_at HG.out.1 (by omega)
      have hget := List.getElem?_eq_getElem hkl
      obtain ⟨q0, q1⟩ := leg_cells (lst_keep encG_len HG.out.1 (below_keep H1.out.2.1 HO.out.2.2)) hkl
      obtain ⟨s4, s3, s0⟩ := scan_at HO.out.1 hget
      have ham := amts_take hget
      generalize legs[k] = x at *
      obtain ⟨ac, am⟩ := x
      simp only at q0 q1 s4 s3 s0 ham
      have HX := Lib.hid (And.intro s4 (And.intro s3 (And.intro s0 ham)))
      clear s4 s3 s0 ham hget
      by_cases hbd : ac < 0 ∨ (m : Int) ≤ ac
      · have HR := Lib.hid (refused (w := wd) (al := al) (legs := legs) (e := 4) (post_pre (pre_scan (by rw [← HM.out.2.2.2]; exact HX.out.1 hbd) (by decide)) (by decide)) (by decide))
        have hor : ac < 0 ∨ (¬ ac < 0 ∧ (m : Int) ≤ ac) := by omega
        clear hbd
        rcases hor with t1 | ⟨t1, t2⟩
        all_goals
          go_wp2_with fail
          go_ret3
          exact ⟨_, by rw [HR.out.1, HR.out.2.2]; rfl, by rw [HR.out.2.1]; exact out_none _ _, below_keep H1.out.2.1 HO.out.2.2⟩
      · by_cases hz : am = 0
        · have HR := Lib.hid (refused (w := wd) (al := al) (legs := legs) (e := 3) (post_pre (pre_scan (by rw [← HM.out.2.2.2]; exact HX.out.2.1 hbd hz) (by decide)) (by decide)) (by decide))
          obtain ⟨t1, t2⟩ : ¬ ac < 0 ∧ ¬ (m : Int) ≤ ac := by omega
          subst hz
          clear hbd
          go_wp2_with fail
          go_ret3
          exact ⟨_, by rw [HR.out.1, HR.out.2.2]; rfl, by rw [HR.out.2.1]; exact out_none _ _, below_keep H1.out.2.1 HO.out.2.2⟩
        · have HS := Lib.hid (HX.out.2.2.1 hbd hz)
          obtain ⟨t1, t2⟩ : ¬ ac < 0 ∧ ¬ (m : Int) ≤ ac := by omega
          have hz2 : (am == 0) = false := beq_false_of_ne hz
          clear hbd hz
          have hlx : (amts (legs.take k)).length ≤ 100 := by
            unfold amts
            rw [List.length_map, List.length_take]; omega
          obtain ⟨lx, hx⟩ : ∃ y, y = amts (legs.take k) := ⟨_, rfl⟩
          rw [← hx] at HO HX hlx
          have HA1 := Lib.hid (own_chg' HO.out.2.1 (below_alloc wr (.cells #[.int .i64 am] 3)))
          have HA2 := Lib.hid (lit_row wr am)
          have HA3 := Lib.hid (below_keep HO.out.2.2 (below_alloc wr (.cells #[.int .i64 am] 3)))
          have HD1 := Lib.hid (show lx.length + 1 ≤ maxLen by unfold maxLen; omega)
          have HD2 := Lib.hid (show (lx.length + 1) * 8 ≤ 140737488355328 by omega)
          clear hx hlx
          go_wp2_with (first | (at_builtin; refine Two.append_apart encI_len Nat.zero_lt_one encI_one rfl (.tmp 53) (.tmp 59) 34 3 rfl Try.underlying34 (.int .i64 0) 8 info_i rfl w1.heap.size _ lx rfl HA1.out (some ⟨wr.heap.size, 0, none⟩) 1 1 [am] rfl rfl HA2.out (fun h => by cases h) HD1.out HD2.out HA3.out.size ?_; intro v9 w9 ho9 hg9 hx9; have HB9 := Lib.hid (HA3.out.trans (Two.below_grown HA1.out hg9 HA3.out.size)); have HO9 := Lib.hid ho9; clear ho9 hg9 hx9) | fail)
          go_roundw
          case rel => exact ⟨k + 1, by omega, by go_num, HS.out, by rw [HX.out.2.2.2]; exact HO9.out, HB9.out⟩
          case measure => simp [intOf]; omega
    · obtain rfl : n2 = k := by omega
      have htk : legs.take n2 = legs := List.take_of_length_le (by rw [HG.out.2]; exact Nat.le_refl _)
      rw [htk] at HO
      have HEl := Lib.hid (H1.out)
      by_cases hmany : n2 < 1 ∨ 64 < n2
      · have HR := Lib.hid (refused (w := wd) (al := al) (legs := legs) (e := 3) (post_pre (by rw [← HM.out.2.2.2]; exact pre_many HO.out.1 (by rw [HG.out.2]; exact hmany)) (by decide)) (by decide))
        have hor : ((n2 : Int) < 1) ∨ (¬ (n2 : Int) < 1 ∧ (64 : Int) < (n2 : Int)) := by omega
        clear hmany
        rcases hor with t1 | ⟨t1, t2⟩
        all_goals
          go_wp2_with fail
          go_ret3
          exact ⟨_, by rw [HR.out.1, HR.out.2.2]; rfl, by rw [HR.out.2.1]; exact out_none _ _, below_keep H1.out.2.1 HO.out.2.2⟩
      · have t1 : ¬ (n2 : Int) < 1 := by omega
        have t2 : ¬ (64 : Int) < (n2 : Int) := by omega
        have hmany2 : ¬ (legs.length < 1 ∨ 64 < legs.length) := by rw [HG.out.2]; exact hmany
        have HMany := Lib.hid hmany2
        clear hmany hmany2
        obtain ⟨a10, c10, rfl, g1', g2', g3', g4'⟩ := owns_row encI_len HO.out.2.1
        have hel : Elems wr a10 (amts legs) := ints_elems ⟨rfl, g1', g2', fun e => ⟨by have := g3' e; omega, g3' e⟩, g4'⟩
        have HE := Lib.hid (And.intro hel (show (amts legs).length ≤ maxLen from Nat.le_trans g1' g2'))
        obtain ⟨na, hna⟩ : ∃ na, na = (amts legs).length := ⟨_, rfl⟩
        rw [← hna]
        have HNa := Lib.hid hna
        have HB := Lib.hid (And.intro HO.out.1 (below_keep H1.out.2.1 HO.out.2.2))
        have HF1 := Lib.hid (own_chg' H1.out.1 HO.out.2.2)
        clear g1' g2' g3' g4' hel hna HO htk
        go_wp2_with fail
        refine (radd_any a10 na c10 (amts legs) wr HNa.out.symm (by rw [HNa.out]; exact HE.out.2) HE.out.1).mono ?_
        rintro e w3 ⟨rfl, rfl⟩
        by_cases hae : addE (amts legs) = 0
        · by_cases han : addN (amts legs) = 0
          · have HPre := Lib.hid (show preE (1 + 3 * al.length) legs = 0 by rw [← HM.out.2.2.2]; exact pre_ok HB.out.1 HMany.out hae han)
            rw [hae, han]
            clear hae han
            obtain ⟨F, hF⟩ : ∃ F, F = postF wd al legs := ⟨_, rfl⟩
            have HFl := Lib.hid (show F.length = m ∧ fl.length = m ∧ (∀ k, k < m → F[k]? = some (acctN fl legs k)) from ⟨by rw [hF, postF_len, HM.out.2.2.2], HM.out.2.1.symm, fun k hk => by rw [hF, HM.out.1]; exact postF_at _ _ _ (by rw [← HM.out.2.2.2]; exact hk)⟩)
            have HFe := Lib.hid hF
            clear hF
            go_wp2_with fail
            go_loopw [14] (fun i wr => ∃ k : Nat, k ≤ m ∧ i = .int .i64 (k : Nat) ∧ (∀ j, j < k → acctE fl legs j = 0) ∧ OwI wr W.heap.size (.slice (some ⟨g1, 0, none⟩) m c1) (part F fl k) ∧ Below W.heap.size W wr) (fun i _ => m - (intOf i).toNat)
            case atStart => exact ⟨0, Nat.zero_le _, rfl, (fun j hj => by omega), HF1.out, HB.out.2⟩
            case round =>
              obtain ⟨k, hk, rfl, hz, hof, hbk⟩ := hrel
              obtain ⟨wk, hwk⟩ : ∃ x, x = wr := ⟨_, rfl⟩
              subst hwk
              have HK := Lib.hid (And.intro hz (And.intro hof hbk))
              clear hz hof hbk
              by_cases hlt : k < m
              · obtain ⟨y, hy⟩ : ∃ y, fl[k]? = some y := ⟨_, List.getElem?_eq_getElem (by rw [HFl.out.2.1]; exact hlt)⟩
                have hpy := part_at HFl.out.1 hlt hy
                obtain ⟨qy, fy, -⟩ := owns_put encI_len HK.out.2.1 (part_len HFl.out.1 HFl.out.2.1 hk) hpy Nat.zero_lt_one (fun _ => 0) (.int .i64 0) (fun a => encI_put a 0)
                rw [Nat.mul_one, Nat.add_zero] at qy fy
                have qy' : wk.cell? ⟨g1, k, none⟩ = some (.int .i64 y) := qy
                have HY := Lib.hid (And.intro hy hpy)
                have HLi := Lib.hid (And.intro (owns_lit wk y wk.heap.size (Nat.le_refl _)) (below_alloc wk (.cells #[.int .i64 y] 3)))
                clear hy hpy qy fy
                go_wp2_with fail
                go_loopw [15, 16] (fun v i w3 => ∃ q : Nat, q ≤ n2 ∧ i = .int .i64 (q : Nat) ∧ OwI w3 wk.heap.size v (y :: of (legs.take q) k) ∧ Below wk.heap.size wk w3) (fun _ i _ => n2 - (intOf i).toNat)
                case atStart => exact ⟨0, Nat.zero_le _, rfl, HLi.out.1, HLi.out.2⟩
                case round =>
                  obtain ⟨q, hq, rfl, hoq, hbq⟩ := hrel
                  have HQ := Lib.hid (And.intro hoq hbq)
                  clear hoq hbq
                  by_cases hlt3 : q < n2
                  · have hql : q < legs.length := by rw [HG.out.2]; exact hlt3
                    obtain ⟨b2, o2, rfl⟩ := lst_at HG.out.1 (by omega)
                    have hget := List.getElem?_eq_getElem hql
                    obtain ⟨p0, p1⟩ := leg_cells (lst_keep encG_len HG.out.1 (below_keep HK.out.2.2 HQ.out.2)) hql
                    have hot := of_take (k := k) hget
                    generalize legs[q] = x at *
                    obtain ⟨ac, am⟩ := x
                    simp only at p0 p1 hot
                    clear hget
                    by_cases hac : ac = (k : Int)
                    · have HOt := Lib.hid (show of (legs.take (q + 1)) k = of (legs.take q) k ++ [am] by rw [hot, if_pos hac])
                      have hlx : (of (legs.take q) k).length ≤ 100 := by
                        have h1 := of_len (legs.take q) k
                        rw [List.length_take] at h1
                        omega
                      subst hac
                      obtain ⟨lx, hx⟩ : ∃ z, z = of (legs.take q) k := ⟨_, rfl⟩
                      rw [← hx] at HQ HOt hlx
                      have HA1 := Lib.hid (own_chg' HQ.out.1 (below_alloc wr (.cells #[.int .i64 am] 3)))
                      have HA2 := Lib.hid (lit_row wr am)
                      have HA3 := Lib.hid (below_keep HQ.out.2 (below_alloc wr (.cells #[.int .i64 am] 3)))
                      have HD1 := Lib.hid (show (y :: lx).length + 1 ≤ maxLen by unfold maxLen; simp; omega)
                      have HD2 := Lib.hid (show ((y :: lx).length + 1) * 8 ≤ 140737488355328 by simp; omega)
                      clear hx hlx hot
                      go_wp2_with (first | (at_builtin; refine Two.append_apart encI_len Nat.zero_lt_one encI_one rfl (.tmp 103) (.tmp 109) 34 3 rfl Try.underlying34 (.int .i64 0) 8 info_i rfl wk.heap.size _ (y :: lx) rfl HA1.out (some ⟨wr.heap.size, 0, none⟩) 1 1 [am] rfl rfl HA2.out (fun h => by cases h) HD1.out HD2.out HA3.out.size ?_; intro v9 w9 ho9 hg9 hx9; have HB9 := Lib.hid (HA3.out.trans (Two.below_grown HA1.out hg9 HA3.out.size)); have HO9 := Lib.hid ho9; clear ho9 hg9 hx9) | fail)
                      go_roundw
                      case rel => exact ⟨q + 1, by omega, by go_num, by rw [HOt.out]; exact HO9.out, HB9.out⟩
                      case measure => simp [intOf]; omega
                    · have HOt := Lib.hid (show of (legs.take (q + 1)) k = of (legs.take q) k by rw [hot, if_neg hac, List.append_nil])
                      have hne : (ac == (k : Int)) = false := beq_false_of_ne hac
                      clear hac hot
                      go_wp2_with fail
                      go_roundw
                      case rel => exact ⟨q + 1, by omega, by go_num, by rw [HOt.out]; exact HQ.out.1, HQ.out.2⟩
                      case measure => simp [intOf]; omega
                  · obtain rfl : n2 = q := by omega
                    have htk : legs.take n2 = legs := List.take_of_length_le (by rw [HG.out.2]; exact Nat.le_refl _)
                    rw [htk] at HQ
                    have hmy : y :: of legs k = mine fl legs k := by unfold mine; rw [getD_at HY.out.1]
                    rw [hmy] at HQ
                    have hml : (mine fl legs k).length = 1 + (of legs k).length := by rw [← hmy]; simp; omega
                    have hol := of_len legs k
                    rw [HG.out.2] at hol
                    obtain ⟨a15, c15, rfl, s1, s2, s3, s4⟩ := owns_row encI_len HQ.out.1
                    have hel : Elems wr a15 (mine fl legs k) := ints_elems ⟨rfl, s1, s2, fun e => ⟨by have := s3 e; omega, s3 e⟩, s4⟩
                    have HEm := Lib.hid (And.intro hel (show (mine fl legs k).length ≤ maxLen from Nat.le_trans s1 s2))
                    obtain ⟨nm, hnm⟩ : ∃ nm, nm = (mine fl legs k).length := ⟨_, rfl⟩
                    rw [← hnm] at hml ⊢
                    have HNm := Lib.hid (And.intro hnm hml)
                    have hnm2 : nm ≤ 101 := by omega
                    have HW := Lib.hid (And.intro (own_chg' HK.out.2.1 HQ.out.2) (below_keep HK.out.2.2 HQ.out.2))
                    clear htk hmy hel s1 s2 s3 s4 hnm hml hol qy'
                    cases hnd : named legs k with
                    | false =>
                      obtain ⟨u1, u2⟩ := acct_un (fl := fl) hnd
                      have hnm1 : nm = 1 := by rw [HNm.out.2, of_nil hnd]; rfl
                      have HP := Lib.hid (show part F fl (k + 1) = part F fl k from part_same HFl.out.1 HFl.out.2.1 hlt (x := y) (by rw [HFl.out.2.2 k hlt, u2, getD_at HY.out.1]) HY.out.1)
                      have HZ := Lib.hid (show ∀ j, j < k + 1 → acctE fl legs j = 0 from fun j hj => by
                        rcases Nat.lt_succ_iff_lt_or_eq.1 hj with h | h
                        · exact HK.out.1 j h
                        · rw [h]; exact u1)
                      clear hnd u1 u2
                      subst hnm1
                      go_wp2_with fail
                      go_roundw
                      case rel => exact ⟨k + 1, by omega, by go_num, HZ.out, by rw [HP.out]; exact HW.out.1, HW.out.2⟩
                      case measure => simp [intOf]; omega
                    | true =>
                      obtain ⟨u1, u2, u3, u4⟩ := acct_cases (fl := fl) hnd
                      have hnm1 : ((nm : Int) == 1) = false := by
                        have h1 := HNm.out.2
                        have h2 := named_of hnd
                        exact beq_false_of_ne (by omega)
                      have HU := Lib.hid (And.intro u1 (And.intro u2 (And.intro u3 u4)))
                      clear u1 u2 u3 u4 hnd
                      go_wp2_with fail
                      refine (radd_any a15 nm c15 (mine fl legs k) wr HNm.out.1.symm (by rw [HNm.out.1]; exact HEm.out.2) HEm.out.1).mono ?_
                      rintro e w3 ⟨rfl, rfl⟩
                      by_cases hae : addE (mine fl legs k) = 0
                      · rw [hae]
                        cases hbad : bad k (addN (mine fl legs k)) with
                        | true =>
                          have HR := Lib.hid (refused (w := wd) (al := al) (legs := legs) (e := 7) (post_first HPre.out (by rw [← HM.out.1]; exact HK.out.1) (by rw [← HM.out.1]; exact HU.out.2.1 hae hbad) (by decide) (by rw [← HM.out.2.2.2]; exact hlt)) (by decide))
                          have hor : (k = 0 ∧ 0 < addN (mine fl legs k)) ∨ (¬ k = 0 ∧ addN (mine fl legs k) < 0) := by
                            unfold bad at hbad
                            simp at hbad
                            omega
                          clear hbad hae
                          generalize addN (mine fl legs k) = sn at *
                          rcases hor with ⟨t1, t2⟩ | ⟨t1, t2⟩
                          · subst t1
                            go_wp2_with fail
                            go_ret3
                            exact ⟨_, by rw [HR.out.1, HR.out.2.2]; rfl, by rw [HR.out.2.1]; exact out_none _ _, HW.out.2⟩
                          · have t3 : ((k : Int) == 0) = false := beq_false_of_ne (by omega)
                            have t4 : (0 : Int) < (k : Int) := by omega
                            go_wp2_with fail
                            go_ret3
                            exact ⟨_, by rw [HR.out.1, HR.out.2.2]; rfl, by rw [HR.out.2.1]; exact out_none _ _, HW.out.2⟩
                        | false =>
                          have hor : (k = 0 ∧ ¬ 0 < addN (mine fl legs k)) ∨ (¬ k = 0 ∧ ¬ addN (mine fl legs k) < 0) := by
                            unfold bad at hbad
                            simp at hbad
                            omega
                          have hFk : F[k]? = some (addN (mine fl legs k)) := by rw [HFl.out.2.2 k hlt, HU.out.2.2.2]
                          have HZ := Lib.hid (show ∀ j, j < k + 1 → acctE fl legs j = 0 from fun j hj => by
                            rcases Nat.lt_succ_iff_lt_or_eq.1 hj with h | h
                            · exact HK.out.1 j h
                            · rw [h]; exact HU.out.2.2.1 hae hbad)
                          clear hbad hae HU HEm HNm
                          generalize addN (mine fl legs k) = sn at *
                          obtain ⟨c9, f9, o9⟩ := owns_put encI_len HW.out.1 (part_len HFl.out.1 HFl.out.2.1 hk) HY.out.2 Nat.zero_lt_one (fun _ => sn) (.int .i64 sn) (fun a => encI_put a sn)
                          rw [Nat.mul_one, Nat.add_zero] at c9 f9 o9
                          have c9' : wr.cell? ⟨g1, k, none⟩ = some (.int .i64 y) := c9
                          rw [part_set HFl.out.1 HFl.out.2.1 hlt hFk] at o9
                          have HN := Lib.hid (And.intro o9 (show Below W.heap.size W (wr.setCell ⟨g1, k, none⟩ (.int .i64 sn)) from HW.out.2.setCell (p := ⟨g1, k, none⟩) HEl.out.2.2 _))
                          clear c9 o9 hFk
                          rcases hor with ⟨t1, t2⟩ | ⟨t1, t2⟩
                          · subst t1
                            go_wp2_with fail
                            go_roundw
                            case rel => exact ⟨1, by omega, by go_num, HZ.out, HN.out.1, HN.out.2⟩
                            case measure => simp [intOf]; omega
                          · have t3 : ((k : Int) == 0) = false := beq_false_of_ne (by omega)
                            have t4 : (0 : Int) < (k : Int) := by omega
                            go_wp2_with fail
                            go_roundw
                            case rel => exact ⟨k + 1, by omega, by go_num, HZ.out, HN.out.1, HN.out.2⟩
                            case measure => simp [intOf]; omega
                      · have HR := Lib.hid (refused (w := wd) (al := al) (legs := legs) (e := 2) (post_first HPre.out (by rw [← HM.out.1]; exact HK.out.1) (by rw [← HM.out.1]; exact HU.out.1 hae) (by decide) (by rw [← HM.out.2.2.2]; exact hlt)) (by decide))
                        have he2 : addE (mine fl legs k) = 2 := by
                          rcases addE_two (mine fl legs k) with h | h
                          · exact absurd h hae
                          · exact h
                        rw [he2]
                        generalize addN (mine fl legs k) = sn at *
                        clear hae he2
                        go_wp2_with fail
                        go_ret3
                        exact ⟨_, by rw [HR.out.1, HR.out.2.2]; rfl, by rw [HR.out.2.1]; exact out_none _ _, HW.out.2⟩
              · obtain rfl : m = k := by omega
                have HOk := Lib.hid (show postE wd al legs = 0 from post_iff.2 ⟨HPre.out, fun j hj => by rw [← HM.out.1]; exact HK.out.1 j (by rw [HM.out.2.2.2]; exact hj)⟩)
                have hown := HK.out.2.1
                rw [part_all HFl.out.1 HFl.out.2.1] at hown
                have hb3 := below_keep HK.out.2.2 (below_alloc wk (.cells #[] 45))
                have HB2 := Lib.hid (And.intro hown (And.intro hb3 (lst_keep encL_len HA.out.1 hb3)))
                clear hown hb3
                have HZ0 := Lib.hid (own_empty_al wk wk.heap.size (Nat.le_refl _))
                have HD0 := Lib.hid (show 0 < 6 by omega)
                have HD1 := Lib.hid (show ([] : List Al).length + n ≤ maxLen by unfold maxLen; simp; omega)
                have HD2 := Lib.hid (show (([] : List Al).length + n) * 48 ≤ 140737488355328 by simp; omega)
                have HS0 := Lib.hid (below_alloc wk (.cells #[] 45))
                go_wp2_with (first | (at_builtin; refine Two.append_apart encL_len HD0.out encL_one rfl (.tmp 140) (.tmp 141) 22 45 rfl Try.underlying22 (.agg #[.int .i64 0, .int .i64 0, .int .i64 0, .int .i64 0, .int .i64 0, .int .i64 0]) 48 info_al rfl wk.heap.size _ [] rfl HZ0.out a n c al rfl HA.out.2 HB2.out.2.2.row HB2.out.2.2.nil HD1.out HD2.out HS0.out.size ?_; intro v9 w9 ho9 hg9 hx9; have HB9 := Lib.hid (HS0.out.trans (Two.below_grown HZ0.out hg9 HS0.out.size)); have HO9 := Lib.hid (show Owns encL 6 45 w9 wk.heap.size v9 al from ho9); obtain ⟨a9, c9, hv9, -⟩ := owns_row encL_len HO9.out; rw [HA.out.2] at hv9; subst hv9; clear ho9 hg9 hx9) | fail)
                obtain ⟨S, hS⟩ : ∃ S, S = setA F al := ⟨_, rfl⟩
                have HSl := Lib.hid (show S.length = n ∧ al.length = n ∧ (∀ j x, al[j]? = some x → S[j]? = some (setOne F x j)) from ⟨by rw [hS, setA_len]; exact HA.out.2, HA.out.2, fun j x hx => by rw [hS]; exact setA_at hx⟩)
                have HSe := Lib.hid hS
                clear hS
                go_loopw [20] (fun i wr => ∃ j : Nat, j ≤ n ∧ i = .int .i64 (j : Nat) ∧ Owns encL 6 45 wr wk.heap.size (.slice a9 n c9) (part S al j) ∧ Below wk.heap.size wk wr) (fun i _ => n - (intOf i).toNat)
                case atStart => exact ⟨0, Nat.zero_le _, rfl, HO9.out, HB9.out⟩
                case round =>
                  obtain ⟨j, hjn, rfl, hoj, hbj⟩ := hrel
                  have HJ := Lib.hid (And.intro hoj hbj)
                  clear hoj hbj
                  by_cases hlt4 : j < n
                  · obtain ⟨g9, c9', hv9, hg9, -, -⟩ := owns_at encL_len HJ.out.1 (by rw [part_len HSl.out.1 HSl.out.2.1 hjn]; omega)
                    rw [part_len HSl.out.1 HSl.out.2.1 hjn] at hv9
                    injection hv9 with e1 e2 e3
                    subst e1 e3
                    clear e2
                    obtain ⟨x, hx⟩ : ∃ x, al[j]? = some x := ⟨_, List.getElem?_eq_getElem (by rw [HSl.out.2.1]; exact hlt4)⟩
                    have hSx := HSl.out.2.2 j x hx
                    have hF1 : 1 + 3 * j < F.length ∧ 2 + 3 * j < F.length ∧ 3 + 3 * j < F.length := by rw [HFl.out.1, HM.out.2.2.1]; omega
                    obtain ⟨f3, hf3⟩ : ∃ f, F[1 + 3 * j]? = some f := ⟨_, List.getElem?_eq_getElem hF1.1⟩
                    obtain ⟨f4, hf4⟩ : ∃ f, F[2 + 3 * j]? = some f := ⟨_, List.getElem?_eq_getElem hF1.2.1⟩
                    obtain ⟨f5, hf5⟩ : ∃ f, F[3 + 3 * j]? = some f := ⟨_, List.getElem?_eq_getElem hF1.2.2⟩
                    have hset : part S al (j + 1) = (part S al j).set j { x with avail := f3, lien := f4, spent := f5 } := by
                      rw [part_set HSl.out.1 HSl.out.2.1 hlt4 (x := { x with avail := f3, lien := f4, spent := f5 })]
                      rw [hSx]
                      unfold setOne
                      rw [getD_at hf3, getD_at hf4, getD_at hf5]
                    have hFo := own_chg' HB2.out.1 HJ.out.2
                    have hIn := @int_of_own wr W.heap.size g1 m c1 F hFo HFl.out.1
                    have h3 := own_three (owns_drew HJ.out.1) (part_len HSl.out.1 HSl.out.2.1 hjn) (part_at HSl.out.1 hlt4 hx) f3 f4 f5
                    have HSt := Lib.hid h3.1
                    have HCf := Lib.hid (And.intro (hIn hf3) (And.intro (hIn hf4) (hIn hf5)))
                    have HEnd := Lib.hid (And.intro h3.2 (And.intro hset (HJ.out.2.drew)))
                    have HNe := Lib.hid (show g9 ≠ g1 by have := own_lt' HB2.out.1; omega)
                    have HJn := Lib.hid (show j ≤ 1000 ∧ 1 + 3 * j < m ∧ 2 + 3 * j < m ∧ 3 + 3 * j < m by rw [HM.out.2.2.1]; omega)
                    have HJn2 := Lib.hid hlt4
                    have HG9 := Lib.hid hg9
                    clear h3 hset hFo hIn hf3 hf4 hf5 hF1 hSx hx hg9
                    go_wp2_with fail
                    refine Chn.wp_region_chain (fun idx => match idx with | 0 => some (.slice (some ⟨g9, 0, none⟩) n c9) | 1 => some (.int .i64 (j : Nat)) | 2 => some (.slice (some ⟨g9, 0, none⟩) n c9) | 3 => some (.int .i64 (j : Nat)) | 4 => some (.slice (some ⟨g9, 0, none⟩) n c9) | 5 => some (.int .i64 (j : Nat)) | 6 => some (.slice (some ⟨g1, 0, none⟩) m c1) | 7 => some (.int .i64 (j : Nat)) | 8 => some (.int .i64 ((3 * j : Nat) : Int)) | 9 => some (.int .i64 ((1 + 3 * j : Nat) : Int)) | 10 => some (.pointer (some ⟨g1, 1 + 3 * j, none⟩)) | 11 => some (.int .i64 f3) | 12 => some (.slice (some ⟨g1, 0, none⟩) m c1) | 13 => some (.int .i64 (j : Nat)) | 14 => some (.int .i64 ((3 * j : Nat) : Int)) | 15 => some (.int .i64 ((2 + 3 * j : Nat) : Int)) | 16 => some (.pointer (some ⟨g1, 2 + 3 * j, none⟩)) | 17 => some (.int .i64 f4) | 18 => some (.slice (some ⟨g1, 0, none⟩) m c1) | 19 => some (.int .i64 (j : Nat)) | 20 => some (.int .i64 ((3 * j : Nat) : Int)) | 21 => some (.int .i64 ((3 + 3 * j : Nat) : Int)) | 22 => some (.pointer (some ⟨g1, 3 + 3 * j, none⟩)) | 23 => some (.int .i64 f5) | 24 => some (.pointer (some ⟨g9, j * 6, none⟩)) | 25 => some (.pointer (some ⟨g9, j * 6 + 3, none⟩)) | 27 => some (.pointer (some ⟨g9, j * 6, none⟩)) | 28 => some (.pointer (some ⟨g9, j * 6 + 4, none⟩)) | 30 => some (.pointer (some ⟨g9, j * 6, none⟩)) | 31 => some (.pointer (some ⟨g9, j * 6 + 5, none⟩)) | _ => none) [26, 29, 32] (phiOut wr.drew g9 (j * 6) f3 f4 f5) (by kernel_rfl) (by kernel_rfl) (by kernel_rfl) (by kernel_rfl) (by kernel_rfl) (by decide) (by kernel_rfl) (rfl) ?_ ?_
                    · refine ⟨?_, ?_, ?_, ?_, ?_, ?_, ?_, ?_, ?_, ?_, ?_, ?_, ?_, ?_, ?_, ?_, ?_, ?_, ?_, ?_, ?_, ?_, ?_, ?_, ?_, ?_, ?_, ?_, ?_, ?_, ?_, ?_, ?_, trivial⟩
                      · intro a ww jj vs c hj0 hΦ
                        have hj : jj ≤ 0 := Nat.le_trans hj0 (of_decide_eq_true (by kernel_rfl))
                        refine .inl ⟨Rel.wanted_free (by kernel_rfl) _, ?_⟩
                        exact Rel.wp_mv _ rfl ⟨congrArg (a.put _) (c.old 19 (v := .slice (some ⟨g9, 0, none⟩) n c9) (by kernel_rfl) (by kernel_rfl)), rfl⟩
                      · intro a ww jj vs c hj0 hΦ
                        have hj : jj ≤ 0 := Nat.le_trans hj0 (of_decide_eq_true (by kernel_rfl))
                        refine .inl ⟨Rel.wanted_free (by kernel_rfl) _, ?_⟩
                        exact Rel.wp_mv _ rfl ⟨congrArg (a.put _) (c.old 20 (v := .int .i64 (j : Nat)) (by kernel_rfl) (by kernel_rfl)), rfl⟩
                      · intro a ww jj vs c hj0 hΦ
                        have hj : jj ≤ 1 := Nat.le_trans hj0 (of_decide_eq_true (by kernel_rfl))
                        refine .inl ⟨Rel.wanted_free (by kernel_rfl) _, ?_⟩
                        exact Rel.wp_mv _ rfl ⟨congrArg (a.put _) (c.old 19 (v := .slice (some ⟨g9, 0, none⟩) n c9) (by kernel_rfl) (by kernel_rfl)), rfl⟩
                      · intro a ww jj vs c hj0 hΦ
                        have hj : jj ≤ 1 := Nat.le_trans hj0 (of_decide_eq_true (by kernel_rfl))
                        refine .inl ⟨Rel.wanted_free (by kernel_rfl) _, ?_⟩
                        exact Rel.wp_mv _ rfl ⟨congrArg (a.put _) (c.old 20 (v := .int .i64 (j : Nat)) (by kernel_rfl) (by kernel_rfl)), rfl⟩
                      · intro a ww jj vs c hj0 hΦ
                        have hj : jj ≤ 2 := Nat.le_trans hj0 (of_decide_eq_true (by kernel_rfl))
                        refine .inl ⟨Rel.wanted_free (by kernel_rfl) _, ?_⟩
                        exact Rel.wp_mv _ rfl ⟨congrArg (a.put _) (c.old 19 (v := .slice (some ⟨g9, 0, none⟩) n c9) (by kernel_rfl) (by kernel_rfl)), rfl⟩
                      · intro a ww jj vs c hj0 hΦ
                        have hj : jj ≤ 2 := Nat.le_trans hj0 (of_decide_eq_true (by kernel_rfl))
                        refine .inl ⟨Rel.wanted_free (by kernel_rfl) _, ?_⟩
                        exact Rel.wp_mv _ rfl ⟨congrArg (a.put _) (c.old 20 (v := .int .i64 (j : Nat)) (by kernel_rfl) (by kernel_rfl)), rfl⟩
                      · intro a ww jj vs c hj0 hΦ
                        have hj : jj ≤ 0 := Nat.le_trans hj0 (of_decide_eq_true (by kernel_rfl))
                        refine .inl ⟨Rel.wanted_free (by kernel_rfl) _, ?_⟩
                        exact Rel.wp_mv _ rfl ⟨congrArg (a.put _) (c.old 9 (v := .slice (some ⟨g1, 0, none⟩) m c1) (by kernel_rfl) (by kernel_rfl)), rfl⟩
                      · intro a ww jj vs c hj0 hΦ
                        have hj : jj ≤ 0 := Nat.le_trans hj0 (of_decide_eq_true (by kernel_rfl))
                        refine .inl ⟨Rel.wanted_free (by kernel_rfl) _, ?_⟩
                        exact Rel.wp_mv _ rfl ⟨congrArg (a.put _) (c.old 20 (v := .int .i64 (j : Nat)) (by kernel_rfl) (by kernel_rfl)), rfl⟩
                      · intro a ww jj vs c hj0 hΦ
                        have hj : jj ≤ 0 := Nat.le_trans hj0 (of_decide_eq_true (by kernel_rfl))
                        refine .inl ⟨Rel.wanted_free (by kernel_rfl) _, ?_⟩
                        exact Rel.wp_bo _ _ _ _ _ rfl rfl (c.get 7 156 (by kernel_rfl) rfl) (run_mul3 HJn.out.1 _ _ ww) ⟨rfl, rfl⟩
                      · intro a ww jj vs c hj0 hΦ
                        have hj : jj ≤ 0 := Nat.le_trans hj0 (of_decide_eq_true (by kernel_rfl))
                        refine .inl ⟨Rel.wanted_free (by kernel_rfl) _, ?_⟩
                        exact Rel.wp_bo _ _ _ _ _ rfl rfl (c.get 8 157 (by kernel_rfl) rfl) (run_addk HJn.out.1 1 (by decide) rfl _ _ ww) ⟨rfl, rfl⟩
                      · intro a ww jj vs c hj0 hΦ
                        have hj : jj ≤ 0 := Nat.le_trans hj0 (of_decide_eq_true (by kernel_rfl))
                        refine .inl ⟨Rel.wanted_free (by kernel_rfl) _, ?_⟩
                        exact Rel.wp_ia _ _ _ rfl (c.get 6 155 (by kernel_rfl) rfl) (c.get 9 158 (by kernel_rfl) rfl) (run_i0 (HJn.out.2.1) ww) ⟨rfl, rfl⟩
                      · intro a ww jj vs c hj0 hΦ
                        have hj : jj ≤ 0 := Nat.le_trans hj0 (of_decide_eq_true (by kernel_rfl))
                        refine .inl ⟨Rel.wanted_free (by kernel_rfl) _, ?_⟩
                        exact Rel.wp_ld _ _ rfl (c.get 10 159 (by kernel_rfl) rfl) (run_ld2 (phi_far (i := jj) hΦ (show jj ≤ 3 by omega) HNe.out HCf.out.1)) ⟨rfl, rfl⟩
                      · intro a ww jj vs c hj0 hΦ
                        have hj : jj ≤ 1 := Nat.le_trans hj0 (of_decide_eq_true (by kernel_rfl))
                        refine .inl ⟨Rel.wanted_free (by kernel_rfl) _, ?_⟩
                        exact Rel.wp_mv _ rfl ⟨congrArg (a.put _) (c.old 9 (v := .slice (some ⟨g1, 0, none⟩) m c1) (by kernel_rfl) (by kernel_rfl)), rfl⟩
                      · intro a ww jj vs c hj0 hΦ
                        have hj : jj ≤ 1 := Nat.le_trans hj0 (of_decide_eq_true (by kernel_rfl))
                        refine .inl ⟨Rel.wanted_free (by kernel_rfl) _, ?_⟩
                        exact Rel.wp_mv _ rfl ⟨congrArg (a.put _) (c.old 20 (v := .int .i64 (j : Nat)) (by kernel_rfl) (by kernel_rfl)), rfl⟩
                      · intro a ww jj vs c hj0 hΦ
                        have hj : jj ≤ 1 := Nat.le_trans hj0 (of_decide_eq_true (by kernel_rfl))
                        refine .inl ⟨Rel.wanted_free (by kernel_rfl) _, ?_⟩
                        exact Rel.wp_bo _ _ _ _ _ rfl rfl (c.get 13 162 (by kernel_rfl) rfl) (run_mul3 HJn.out.1 _ _ ww) ⟨rfl, rfl⟩
                      · intro a ww jj vs c hj0 hΦ
                        have hj : jj ≤ 1 := Nat.le_trans hj0 (of_decide_eq_true (by kernel_rfl))
                        refine .inl ⟨Rel.wanted_free (by kernel_rfl) _, ?_⟩
                        exact Rel.wp_bo _ _ _ _ _ rfl rfl (c.get 14 163 (by kernel_rfl) rfl) (run_addk HJn.out.1 2 (by decide) rfl _ _ ww) ⟨rfl, rfl⟩
                      · intro a ww jj vs c hj0 hΦ
                        have hj : jj ≤ 1 := Nat.le_trans hj0 (of_decide_eq_true (by kernel_rfl))
                        refine .inl ⟨Rel.wanted_free (by kernel_rfl) _, ?_⟩
                        exact Rel.wp_ia _ _ _ rfl (c.get 12 161 (by kernel_rfl) rfl) (c.get 15 164 (by kernel_rfl) rfl) (run_i0 (HJn.out.2.2.1) ww) ⟨rfl, rfl⟩
                      · intro a ww jj vs c hj0 hΦ
                        have hj : jj ≤ 1 := Nat.le_trans hj0 (of_decide_eq_true (by kernel_rfl))
                        refine .inl ⟨Rel.wanted_free (by kernel_rfl) _, ?_⟩
                        exact Rel.wp_ld _ _ rfl (c.get 16 165 (by kernel_rfl) rfl) (run_ld2 (phi_far (i := jj) hΦ (show jj ≤ 3 by omega) HNe.out HCf.out.2.1)) ⟨rfl, rfl⟩
                      · intro a ww jj vs c hj0 hΦ
                        have hj : jj ≤ 2 := Nat.le_trans hj0 (of_decide_eq_true (by kernel_rfl))
                        refine .inl ⟨Rel.wanted_free (by kernel_rfl) _, ?_⟩
                        exact Rel.wp_mv _ rfl ⟨congrArg (a.put _) (c.old 9 (v := .slice (some ⟨g1, 0, none⟩) m c1) (by kernel_rfl) (by kernel_rfl)), rfl⟩
                      · intro a ww jj vs c hj0 hΦ
                        have hj : jj ≤ 2 := Nat.le_trans hj0 (of_decide_eq_true (by kernel_rfl))
                        refine .inl ⟨Rel.wanted_free (by kernel_rfl) _, ?_⟩
                        exact Rel.wp_mv _ rfl ⟨congrArg (a.put _) (c.old 20 (v := .int .i64 (j : Nat)) (by kernel_rfl) (by kernel_rfl)), rfl⟩
                      · intro a ww jj vs c hj0 hΦ
                        have hj : jj ≤ 2 := Nat.le_trans hj0 (of_decide_eq_true (by kernel_rfl))
                        refine .inl ⟨Rel.wanted_free (by kernel_rfl) _, ?_⟩
                        exact Rel.wp_bo _ _ _ _ _ rfl rfl (c.get 19 168 (by kernel_rfl) rfl) (run_mul3 HJn.out.1 _ _ ww) ⟨rfl, rfl⟩
                      · intro a ww jj vs c hj0 hΦ
                        have hj : jj ≤ 2 := Nat.le_trans hj0 (of_decide_eq_true (by kernel_rfl))
                        refine .inl ⟨Rel.wanted_free (by kernel_rfl) _, ?_⟩
                        exact Rel.wp_bo _ _ _ _ _ rfl rfl (c.get 20 169 (by kernel_rfl) rfl) (run_addk HJn.out.1 3 (by decide) rfl _ _ ww) ⟨rfl, rfl⟩
                      · intro a ww jj vs c hj0 hΦ
                        have hj : jj ≤ 2 := Nat.le_trans hj0 (of_decide_eq_true (by kernel_rfl))
                        refine .inl ⟨Rel.wanted_free (by kernel_rfl) _, ?_⟩
                        exact Rel.wp_ia _ _ _ rfl (c.get 18 167 (by kernel_rfl) rfl) (c.get 21 170 (by kernel_rfl) rfl) (run_i0 (HJn.out.2.2.2) ww) ⟨rfl, rfl⟩
                      · intro a ww jj vs c hj0 hΦ
                        have hj : jj ≤ 2 := Nat.le_trans hj0 (of_decide_eq_true (by kernel_rfl))
                        refine .inl ⟨Rel.wanted_free (by kernel_rfl) _, ?_⟩
                        exact Rel.wp_ld _ _ rfl (c.get 22 171 (by kernel_rfl) rfl) (run_ld2 (phi_far (i := jj) hΦ (show jj ≤ 3 by omega) HNe.out HCf.out.2.2)) ⟨rfl, rfl⟩
                      · intro a ww jj vs c hj0 hΦ
                        have hj : jj ≤ 0 := Nat.le_trans hj0 (of_decide_eq_true (by kernel_rfl))
                        refine .inl ⟨Rel.wanted_free (by kernel_rfl) _, ?_⟩
                        exact Rel.wp_ia _ _ _ rfl (c.get 0 149 (by kernel_rfl) rfl) (c.get 1 150 (by kernel_rfl) rfl) (run_a0 HJn2.out ww) ⟨rfl, rfl⟩
                      · intro a ww jj vs c hj0 hΦ
                        have hj : jj ≤ 0 := Nat.le_trans hj0 (of_decide_eq_true (by kernel_rfl))
                        refine .inl ⟨Rel.wanted_free (by kernel_rfl) _, ?_⟩
                        exact Chn.wp_fa _ _ _ rfl (c.get 24 173 (by kernel_rfl) rfl) (by simp [go_sem]) ⟨rfl, rfl⟩
                      · refine ⟨0, rfl, ?_⟩
                        intro a ww c hΦ
                        have h : (phiOut wr.drew g9 (j * 6) f3 f4 f5) 0 [] ww := hΦ
                        clear hΦ
                        refine ⟨Rel.wanted_free (by kernel_rfl) _, ?_⟩
                        have hw : ww = _ := h
                        subst hw
                        exact Chn.wp_st _ _ _ rfl (c.get 25 174 (by kernel_rfl) rfl) (c.get 11 160 (by kernel_rfl) rfl) (run_st_i HSt.out.1.1 HSt.out.1.2) ⟨undef, rfl, rfl⟩
                      · intro a ww jj vs c hj0 hΦ
                        have hj : jj ≤ 1 := Nat.le_trans hj0 (of_decide_eq_true (by kernel_rfl))
                        refine .inl ⟨Rel.wanted_free (by kernel_rfl) _, ?_⟩
                        exact Rel.wp_ia _ _ _ rfl (c.get 2 151 (by kernel_rfl) rfl) (c.get 3 152 (by kernel_rfl) rfl) (run_a0 HJn2.out ww) ⟨rfl, rfl⟩
                      · intro a ww jj vs c hj0 hΦ
                        have hj : jj ≤ 1 := Nat.le_trans hj0 (of_decide_eq_true (by kernel_rfl))
                        refine .inl ⟨Rel.wanted_free (by kernel_rfl) _, ?_⟩
                        exact Chn.wp_fa _ _ _ rfl (c.get 27 175 (by kernel_rfl) rfl) (by simp [go_sem]) ⟨rfl, rfl⟩
                      · refine ⟨1, rfl, ?_⟩
                        intro a ww c hΦ
                        have h : (phiOut wr.drew g9 (j * 6) f3 f4 f5) 1 [undef] ww := hΦ
                        clear hΦ
                        refine ⟨Rel.wanted_free (by kernel_rfl) _, ?_⟩
                        have hw : ww = _ := h
                        subst hw
                        exact Chn.wp_st _ _ _ rfl (c.get 28 176 (by kernel_rfl) rfl) (c.get 17 166 (by kernel_rfl) rfl) (run_st_i HSt.out.2.1.1 HSt.out.2.1.2) ⟨undef, rfl, rfl⟩
                      · intro a ww jj vs c hj0 hΦ
                        have hj : jj ≤ 2 := Nat.le_trans hj0 (of_decide_eq_true (by kernel_rfl))
                        refine .inl ⟨Rel.wanted_free (by kernel_rfl) _, ?_⟩
                        exact Rel.wp_ia _ _ _ rfl (c.get 4 153 (by kernel_rfl) rfl) (c.get 5 154 (by kernel_rfl) rfl) (run_a0 HJn2.out ww) ⟨rfl, rfl⟩
                      · intro a ww jj vs c hj0 hΦ
                        have hj : jj ≤ 2 := Nat.le_trans hj0 (of_decide_eq_true (by kernel_rfl))
                        refine .inl ⟨Rel.wanted_free (by kernel_rfl) _, ?_⟩
                        exact Chn.wp_fa _ _ _ rfl (c.get 30 177 (by kernel_rfl) rfl) (by simp [go_sem]) ⟨rfl, rfl⟩
                      · refine ⟨2, rfl, ?_⟩
                        intro a ww c hΦ
                        have h : (phiOut wr.drew g9 (j * 6) f3 f4 f5) 2 [undef, undef] ww := hΦ
                        clear hΦ
                        refine ⟨Rel.wanted_free (by kernel_rfl) _, ?_⟩
                        have hw : ww = _ := h
                        subst hw
                        exact Chn.wp_st _ _ _ rfl (c.get 31 178 (by kernel_rfl) rfl) (c.get 23 172 (by kernel_rfl) rfl) (run_st_i HSt.out.2.2.1 HSt.out.2.2.2) ⟨undef, rfl, rfl⟩
                    intro a w9 hbase hroom hdef hΦ hV
                    have h : (phiOut wr.drew g9 (j * 6) f3 f4 f5) 3 [undef, undef, undef] w9 := hΦ
                    rw [Chn.act_puts [149, 150, 151, 152, 153, 154, 155, 156, 157, 158, 159, 160, 161, 162, 163, 164, 165, 166, 167, 168, 169, 170, 171, 172, 173, 174, 175, 176, 177, 178] hbase hroom hdef (by kernel_rfl)]
                    clear hbase hroom hdef hΦ hV
                    simp only [List.foldl_cons, List.foldl_nil]
                    generalize Rel.slot a 149 = u149 at *
                    generalize Rel.slot a 150 = u150 at *
                    generalize Rel.slot a 151 = u151 at *
                    generalize Rel.slot a 152 = u152 at *
                    generalize Rel.slot a 153 = u153 at *
                    generalize Rel.slot a 154 = u154 at *
                    generalize Rel.slot a 155 = u155 at *
                    generalize Rel.slot a 156 = u156 at *
                    generalize Rel.slot a 157 = u157 at *
                    generalize Rel.slot a 158 = u158 at *
                    generalize Rel.slot a 159 = u159 at *
                    generalize Rel.slot a 160 = u160 at *
                    generalize Rel.slot a 161 = u161 at *
                    generalize Rel.slot a 162 = u162 at *
                    generalize Rel.slot a 163 = u163 at *
                    generalize Rel.slot a 164 = u164 at *
                    generalize Rel.slot a 165 = u165 at *
                    generalize Rel.slot a 166 = u166 at *
                    generalize Rel.slot a 167 = u167 at *
                    generalize Rel.slot a 168 = u168 at *
                    generalize Rel.slot a 169 = u169 at *
                    generalize Rel.slot a 170 = u170 at *
                    generalize Rel.slot a 171 = u171 at *
                    generalize Rel.slot a 172 = u172 at *
                    generalize Rel.slot a 173 = u173 at *
                    generalize Rel.slot a 174 = u174 at *
                    generalize Rel.slot a 175 = u175 at *
                    generalize Rel.slot a 176 = u176 at *
                    generalize Rel.slot a 177 = u177 at *
                    generalize Rel.slot a 178 = u178 at *
                    have hw9 : w9 = _ := h
                    clear h
                    have HE9 := Lib.hid (show Owns encL 6 45 w9 wk.heap.size (.slice (some ⟨g9, 0, none⟩) n c9) (part S al (j + 1)) ∧ Below wk.heap.size wk w9 from ⟨by rw [hw9, HEnd.out.2.1]; exact HEnd.out.1, by rw [hw9]; exact ((HEnd.out.2.2.setCell (p := ⟨g9, j * 6 + 3, none⟩) HG9.out _).setCell (p := ⟨g9, j * 6 + 4, none⟩) HG9.out _).setCell (p := ⟨g9, j * 6 + 5, none⟩) HG9.out _⟩)
                    clear hw9
                    go_wp2_with fail
                    go_roundw
                    case rel => exact ⟨j + 1, by omega, by go_num, HE9.out.1, HE9.out.2⟩
                    case measure => simp [intOf]; omega
                  · obtain rfl : n = j := by omega
                    have hFo := own_chg' HB2.out.1 HJ.out.2
                    obtain ⟨F0, hF0⟩ : ∃ f, F[0]? = some f := ⟨_, List.getElem?_eq_getElem (by rw [HFl.out.1]; omega)⟩
                    have q0 : wr.cell? ⟨g1, 0, none⟩ = some (.int .i64 F0) := @int_of_own wr W.heap.size g1 m c1 F hFo HFl.out.1 0 F0 hF0
                    have hSo := HJ.out.1
                    rw [part_all HSl.out.1 HSl.out.2.1] at hSo
                    have HFin := Lib.hid (show postW wd al legs = F0 ∧ postA wd al legs = S ∧ postE wd al legs = 0 from ⟨by rw [postW_ok HOk.out, ← HFe.out, getD_at hF0], by rw [postA_ok HOk.out, ← HFe.out, ← HSe.out], HOk.out⟩)
                    have HFo := Lib.hid (And.intro hSo (HK.out.2.2.trans (HJ.out.2.mono HK.out.2.2.size)))
                    clear hFo hF0 hSo
                    go_wp2_with fail
                    go_ret3
                    exact ⟨_, by rw [HFin.out.1, HFin.out.2.2]; rfl, by rw [HFin.out.2.1]; exact outA_le (.inl HFo.out.1) HK.out.2.2.size, HFo.out.2⟩
          · have HR := Lib.hid (refused (w := wd) (al := al) (legs := legs) (e := 3) (post_pre (by rw [← HM.out.2.2.2]; exact pre_sum HB.out.1 HMany.out hae han) (by decide)) (by decide))
            rw [hae]
            have hn0 : (addN (amts legs) == 0) = false := beq_false_of_ne han
            generalize addN (amts legs) = sn at *
            clear hae han
            go_wp2_with fail
            go_ret3
            exact ⟨_, by rw [HR.out.1, HR.out.2.2]; rfl, by rw [HR.out.2.1]; exact out_none _ _, HB.out.2⟩
        · have HR := Lib.hid (refused (w := wd) (al := al) (legs := legs) (e := 2) (post_pre (by rw [← HM.out.2.2.2]; exact pre_add HB.out.1 HMany.out hae) (by decide)) (by decide))
          have he2 : addE (amts legs) = 2 := by
            rcases addE_two (amts legs) with h | h
            · exact absurd h hae
            · exact h
          rw [he2]
          generalize addN (amts legs) = sn at *
          clear hae he2
          go_wp2_with fail
          go_ret3
          exact ⟨_, by rw [HR.out.1, HR.out.2.2]; rfl, by rw [HR.out.2.1]; exact out_none _ _, HB.out.2⟩
end Go.Proofs.Ytmlbdmfmaebdeaa.Led
