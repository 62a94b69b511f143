/- Cons, the landed: Plan and Next; what the program's cons must do, done. -/
import Derived.Test.YtckebhknnocpkaaConDoM
import Derived.Test.YtckebhknnocpkaaPrfDoT
import Derived.Test.YtckebhknnocpkaaOneArm
import Derived.Test.YtckebhknnocpkaaIntMem
namespace Go.Proofs.Ytckebhknnocpkaa.Cns
set_option maxRecDepth 100000
open Go.RowKit
open Go.Sort
open Kit
open Foot
open Tre (Lst inI lst_keep lst_take lst_at lst_new lst_none encI encI_len encI_one OwI own_chg' int_cell newI_own IntsL info_i NewI)
open Prf (St Bz busyN newF Nd Tk Pf Busys encZ_len encS encS_len OwS)
open Esy (T9 Bools encO_len bool_cell)
open Go.Proofs.Ytckebhknnocpkaa.Ord (Aq Asks encQ encQ_len ask_cells info_ask)
set_option linter.unusedVariables false
variable {w w' : World}

theorem tyC : Nest.Ty Tre.encI 1 Try.prog 28 3 (.int .i64 0) 8 := ⟨Tre.encI_len, by omega, Tre.encI_one, Try.underlying28, Tre.info_i, rfl⟩
theorem ne_is : (3 : TypeId) ≠ 57 := by decide
theorem own_keepS' {base : Nat} {v : Value} {l : List St} (h : OwS w base v l) (hb : Below w.heap.size w w') : OwS w' base v l := Nest.own_on h hb
theorem steps_of {base m c : Nat} {a : Option Addr} {p : List St} (h : OwS w base (.slice a m c) p) (hm : m = p.length) : Prf.Steps w a m c p := by
  obtain ⟨a', c', e, hs⟩ := Prf.own_steps h
  injection e with e1 e2 e3
  subst e1 e3 hm
  exact hs
/-- Some new elements put behind an own list at once; only its own block is changed. -/
theorem chg_arm {α : Type} {enc : α → List Value} {size : Nat} {T t : TypeId} {P : Program} {z : Value} {bytes : Nat} (H : Nest.Ty enc size P t T z bytes) {w : World} {ops : Array Oper} {rest : List Oper} {o : Oper} {A : Act} {Q : Exit → Act → World → Prop} (hgd : o.guard = none) (s x : Operand) (ho : o.op = .call { callee := .builtin .append, args := #[s, x], argTypes := #[t, t] })
    (w1 : World) (C : Array Value) (hw : w = w1.alloc (.cells C T)) (ys : List α) (m : Nat) (hm : ys.length = m) (hC : C.toList = flat enc ys) (base : Nat) (v : Value) (l : List α) (hv : A.eval s = v) (hown : Owns enc size T w1 base v l) (B : Nat) (hB : B = w1.heap.size) (hx : A.eval x = .slice (some ⟨B, 0, none⟩) m m)
    (hl : l.length + m ≤ 100000) (hb8 : bytes ≤ 1000) (hbase : base ≤ w1.heap.size) (h : ∀ v' w', Owns enc size T w' base v' (l ++ ys) → Below base w1 w' → Chg (fun k => some k = v.ownBlock) w1 w' → wpList P ops Q rest (A.put o.dst v') w') : wpList P ops Q (o :: rest) A w := by
  subst hw hB
  have hb := below_alloc w1 (.cells C T)
  refine Two.append_apart H.hs H.hz H.one hgd s x t T ho H.und z bytes H.info H.zero base v l hv (Nest.own_on hown hb) (some ⟨w1.heap.size, 0, none⟩) m m ys hx hm (row_new H.hs w1 ys C T _ rfl hC) (fun h => by cases h) (by unfold maxLen; omega) ?_ (Nat.le_trans hbase hb.size) ?_
  · have : (l.length + m) * bytes ≤ 100000 * 1000 := Nat.mul_le_mul hl hb8
    omega
  · intro v' w' h1 h2 _
    exact h v' w' h1 ((hb.mono hbase).trans (Two.below_grown (Nest.own_on hown hb) h2 (Nat.le_trans hbase hb.size))) (chg_grown (new_chg hb _) h2 fun k hk => .inl hk.symm)

set_option maxHeartbeats 32000000 in
theorem plan_own (W : World) (now total : Int) (a : Option Addr) (n c : Nat) (l : List Bz) (a2 : Option Addr) (n2 c2 : Nat) (q : List Aq) (a3 : Option Addr) (n3 c3 : Nat) (rf : List Bool)
    (hnow : T9 now) (htot : Nd total) (hB : Busys W a n c l) (hm : ∀ b ∈ l, okD b) (hn : n ≤ 100) (hQ : Asks W a2 n2 c2 q) (hqm : ∀ x ∈ q, okC x) (hn2 : n2 ≤ 100) (hO : Bools W a3 n3 c3 rf) :
    Calls Try.prog 13 #[.int .i64 now, .int .i64 total, .slice a n c, .slice a2 n2 c2, .slice a3 n3 c3] W fun e W' => ∃ v, e = .returned v ∧ OwI W' W.heap.size v (plan now total l q rf) ∧ Below W.heap.size W W' := by
  have HN := Lib.hid (Prf.new_own W now total a n c l ⟨hnow.1, by have := hnow.2; omega⟩ htot hB (fun b hb => ⟨⟨(hm b hb).1.1, by have := (hm b hb).1.2; omega⟩, (hm b hb).2⟩) (by omega))
  have HL := Lib.hid (And.intro hQ (And.intro hQ.len (And.intro hqm (And.intro hO (And.intro hO.len (And.intro hnow (And.intro htot (show l.length ≤ 100 by rw [hB.len]; exact hn))))))))
  have HM0 := Lib.hid (fun p => sk_start (total := total) (q := q) (rf := rf) (p := p) hnow hm)
  clear hB hm htot hnow hQ hqm hO
  go_enter Try.func13, Try.ntmps13
  go_wp2_with fail
  refine HN.out.mono ?_
  rintro e w1 ⟨a1, c1, p0, rfl, -, hp1, hb1, ho1⟩
  have hs0 := HM0.out p0 hp1
  obtain ⟨m0, hm0⟩ : ∃ m, m = p0.length := ⟨_, rfl⟩
  rw [← hm0] at ho1 ⊢
  have H1 := Lib.hid (And.intro hm0 (And.intro ho1 (And.intro hb1 hs0)))
  clear hp1 hb1 ho1 hs0 hm0 HN HM0
  go_wp2_with fail
  go_loopw [11, 12, 25] (fun lv tv i wr => ∃ (k : Nat) (al : Option Addr) (ml cl : Nat) (p : List St) (tk : List Ta) (r : List Int), k ≤ n2 ∧ i = .int .i64 (k : Nat) ∧ lv = .slice al ml cl ∧ ml = p.length ∧ OwS wr W.heap.size (.slice al ml cl) p ∧ OwI wr W.heap.size tv r ∧ Below W.heap.size W wr ∧ Sk now total l q rf k tk p r) (fun _ _ i _ => n2 - (intOf i).toNat)
  case atStart => exact ⟨0, a1, m0, c1, p0, _, [], Nat.zero_le _, rfl, rfl, H1.out.1, H1.out.2.1, owns_nil _ _ _, H1.out.2.2.1, H1.out.2.2.2⟩
  case round =>
    obtain ⟨k, al, ml, cl, p, tk, r, hk, rfl, rfl, hml, hos, hoi, hb, hsk⟩ := hrel
    have HK := Lib.hid (And.intro hml (And.intro hos (And.intro hoi (And.intro hb (And.intro hsk trivial)))))
    clear hml hos hoi hb hsk
    by_cases hlt : k < n2
    · have hkl : k < q.length := by rw [HL.out.2.1]; exact hlt
      obtain ⟨b, o, rfl⟩ := lst_at HL.out.1 (by omega)
      obtain ⟨q0, q1⟩ := ask_cells (lst_keep encQ_len HL.out.1 HK.out.2.2.2.1) hkl
      have hx := List.getElem?_eq_getElem hkl
      have hxo := HL.out.2.2.1 q[k] (List.getElem_mem hkl)
      generalize q[k] = x at *
      obtain ⟨x0, x1⟩ := x
      simp only at q0 q1
      have hb1 := below_alloc wr (.cells #[.int .i64 x0, .int .i64 x1] 38)
      have HA := Lib.hid (And.intro (own_keepS' HK.out.2.1 hb1) (And.intro (own_chg' HK.out.2.2.1 hb1) (below_keep HK.out.2.2.2.1 hb1)))
      have hrl : r.length + 1 ≤ 100000 := by rw [← HK.out.2.2.2.2.1.out, planT_len, List.length_take]; omega
      have HB3 := lst_keep encO_len HL.out.2.2.2.1 (below_keep HK.out.2.2.2.1 hb1)
      have hr : (k < n3 ∧ ∃ b3 o3, a3 = some ⟨b3, o3, none⟩ ∧ (wr.alloc (.cells #[.int .i64 x0, .int .i64 x1] 38)).cell? ⟨b3, o3 + k, none⟩ = some (.bool (rf.getD k false))) ∨ (¬ k < n3 ∧ rf.getD k false = false) := by
        have h3l := HL.out.2.2.2.2.1
        by_cases hk3 : k < n3
        · obtain ⟨b3, o3, rfl⟩ := lst_at HL.out.2.2.2.1 (by omega)
          have r0 := bool_cell HB3 (show k < rf.length by omega)
          have hgd : rf.getD k false = rf[k]'(by omega) := by rw [List.getD_eq_getElem?_getD, List.getElem?_eq_getElem (by omega)]; rfl
          rw [← hgd] at r0
          exact .inl ⟨hk3, b3, o3, rfl, r0⟩
        · exact .inr ⟨hk3, by rw [List.getD_eq_getElem?_getD, List.getElem?_eq_none (by omega)]; rfl⟩
      obtain ⟨rk, hrk⟩ : ∃ rk, rk = rf.getD k false := ⟨_, rfl⟩
      rw [← hrk] at hr
      have HR := Lib.hid hrk
      have HX1 := Lib.hid (And.intro hx (And.intro hxo hrl))
      clear hb1 hx hxo hrl hkl HB3 hrk
      rcases hr with ⟨hk3, b3, o3, rfl, r0⟩ | ⟨hk3, rfl⟩
      · have hk3i : (k : Int) < (n3 : Int) := by omega
        cases rk
        · have HX := Lib.hid (And.intro HX1.out.1 (And.intro HX1.out.2.1 (And.intro HR.out.symm HX1.out.2.2)))
          by_cases hle : x0 ≤ total
          · skip
            have hng : ¬ total < x0 := by omega
            have hnd : decide (total < x0) = false := decide_eq_false hng
            have HLe := Lib.hid hle
            clear hle
            have HLw := Lib.hid (show max x1 1 = longW ⟨x0, x1⟩ by unfold longW; simp only; split <;> omega)
            have HLb := Lib.hid (show 1 ≤ max x1 1 ∧ max x1 1 ≤ 1048576 by have := HX1.out.2.1.2.2; simp only at this; omega)
            have HPf := Lib.hid (HK.out.2.2.2.2.1.pf HL.out.2.2.2.2.2.1 HL.out.2.2.2.2.2.2.1 HL.out.2.2.2.2.2.2.2 (by omega))
            have HStep := Lib.hid (steps_of HA.out.1 HK.out.1)
            have HF := Lib.hid (Prf.fit_any (wr.alloc (.cells #[.int .i64 x0, .int .i64 x1] 38)) x0 (max x1 1) al ml cl p ⟨by have := HLb.out; omega, by have := HLb.out; omega⟩ HStep.out HPf.out)
            have HC0 := Lib.hid (show (wr.alloc (.cells #[.int .i64 x0, .int .i64 x1] 38)).cell? ⟨wr.heap.size, 0, none⟩ = some (.int .i64 x0) by rw [World.cell?_alloc_new]; rfl)
            go_wp2_with fail
            generalize max x1 1 = L at *
            obtain ⟨hlw, hlx⟩ := HLb.out
            refine HF.out.mono ?_
            rintro e w2 ⟨m, bb, rfl, hf, hb2⟩
            have hnw := HL.out.2.2.2.2.2.1
            obtain ⟨-, -, g2, g3⟩ := fit_is (M := 562949953421312 + (k : Int) * 1048576) HK.out.2.2.2.2.1.good (by have := hnw.2; omega) HK.out.2.2.2.2.1.bd HLe.out HK.out.2.2.2.2.1.isp hlw hf
            have hm0 : 0 ≤ m := by have := hnw.1; omega
            have hm1 : m + L ≤ 1125899906842624 := by omega
            have H2 := Lib.hid (And.intro hf (And.intro (own_keepS' HA.out.1 hb2) (And.intro (own_chg' HA.out.2.1 hb2) (below_keep HA.out.2.2 hb2))))
            have HT := Lib.hid (Prf.take_own w2 m L x0 al ml cl p ⟨hm0, by omega⟩ (by omega) ⟨by omega, hm1⟩ HX.out.2.1.1 (lst_keep encS_len HStep.out hb2) HPf.out)
            have c0 := cell_keep hb2 HC0.out
            clear hf hb2 HF hnw g2 g3 hm0 hm1 hlx
            go_wp2_with fail
            refine HT.out.mono ?_
            rintro e w3 ⟨a4, c4, p4, rfl, -, -, h3, h4, h5⟩
            obtain ⟨m4, hm4⟩ : ∃ m, m = p4.length := ⟨_, rfl⟩
            rw [← hm4] at h5 ⊢
            have HE := Lib.hid (sk_take (p' := p4) HK.out.2.2.2.2.1 HL.out.2.2.2.2.2.1.2 HX.out.1 HX.out.2.1 HX.out.2.2.1 HLe.out (by rw [← HLw.out]; exact H2.out.1) (by rw [← HLw.out]; exact h3))
            have H3 := Lib.hid (And.intro hm4 (And.intro (owns_le h5 H2.out.2.2.2.size) (And.intro (own_chg' H2.out.2.2.1 h4) (below_keep H2.out.2.2.2 h4))))
            clear h3 h4 h5 hm4 HT c0
            go_wp2_with (first | (at_builtin; refine chg_arm tyC rfl (.tmp 67) (.tmp 69) rfl w3 #[.int .i64 m] rfl [(m : Int)] 1 rfl rfl W.heap.size _ r rfl H3.out.2.2.1 w3.heap.size rfl rfl HX.out.2.2.2 (by omega) H3.out.2.2.2.size ?_; intro v9 w9 ho9 hb9 hc9; have H9 := Lib.hid (And.intro ho9 (And.intro (H3.out.2.2.2.trans hb9) (Foot.own_typed H3.out.2.1 hc9 (Foot.typed_own H3.out.2.2.1 ne_is)))); clear ho9 hb9 hc9) | fail)
            go_roundw
            case rel => exact ⟨k + 1, a4, m4, c4, p4, _, r ++ [m], by omega, by go_num, rfl, H3.out.1, H9.out.2.2, H9.out.1, H9.out.2.1, HE.out⟩
            case measure => simp [intOf]; omega
          · have hlf : total < x0 := by omega
            have HE := Lib.hid (sk_skip HK.out.2.2.2.2.1 HX.out.1 (.inr hlf))
            go_wp2_with (first | (at_builtin; refine chg_arm tyC rfl (.tmp 47) (.tmp 48) rfl (wr.alloc (.cells #[.int .i64 x0, .int .i64 x1] 38)) #[.int .i64 (-1)] rfl [(-1 : Int)] 1 rfl rfl W.heap.size _ r rfl HA.out.2.1 (wr.heap.size + 1) (by simp) rfl HX.out.2.2.2 (by omega) HA.out.2.2.size ?_; intro v9 w9 ho9 hb9 hc9; have H9 := Lib.hid (And.intro ho9 (And.intro (HA.out.2.2.trans hb9) (Foot.own_typed HA.out.1 hc9 (Foot.typed_own HA.out.2.1 ne_is)))); clear ho9 hb9 hc9) | fail)
            go_roundw
            case rel => exact ⟨k + 1, al, ml, cl, p, tk, r ++ [-1], by omega, by go_num, rfl, HK.out.1, H9.out.2.2, H9.out.1, H9.out.2.1, HE.out⟩
            case measure => simp [intOf]; omega
        · have HX := Lib.hid (And.intro HX1.out.1 (And.intro HX1.out.2.1 (And.intro trivial HX1.out.2.2)))
          have HE := Lib.hid (sk_skip HK.out.2.2.2.2.1 HX.out.1 (.inl HR.out.symm))
          go_wp2_with (first | (at_builtin; refine chg_arm tyC rfl (.tmp 47) (.tmp 48) rfl (wr.alloc (.cells #[.int .i64 x0, .int .i64 x1] 38)) #[.int .i64 (-1)] rfl [(-1 : Int)] 1 rfl rfl W.heap.size _ r rfl HA.out.2.1 (wr.heap.size + 1) (by simp) rfl HX.out.2.2.2 (by omega) HA.out.2.2.size ?_; intro v9 w9 ho9 hb9 hc9; have H9 := Lib.hid (And.intro ho9 (And.intro (HA.out.2.2.trans hb9) (Foot.own_typed HA.out.1 hc9 (Foot.typed_own HA.out.2.1 ne_is)))); clear ho9 hb9 hc9) | fail)
          go_roundw
          case rel => exact ⟨k + 1, al, ml, cl, p, tk, r ++ [-1], by omega, by go_num, rfl, HK.out.1, H9.out.2.2, H9.out.1, H9.out.2.1, HE.out⟩
          case measure => simp [intOf]; omega
      · have hk3i : ¬ (k : Int) < (n3 : Int) := by omega
        have HX := Lib.hid (And.intro HX1.out.1 (And.intro HX1.out.2.1 (And.intro HR.out.symm HX1.out.2.2)))
        by_cases hle : x0 ≤ total
        · skip
          have hng : ¬ total < x0 := by omega
          have hnd : decide (total < x0) = false := decide_eq_false hng
          have HLe := Lib.hid hle
          clear hle
          have HLw := Lib.hid (show max x1 1 = longW ⟨x0, x1⟩ by unfold longW; simp only; split <;> omega)
          have HLb := Lib.hid (show 1 ≤ max x1 1 ∧ max x1 1 ≤ 1048576 by have := HX1.out.2.1.2.2; simp only at this; omega)
          have HPf := Lib.hid (HK.out.2.2.2.2.1.pf HL.out.2.2.2.2.2.1 HL.out.2.2.2.2.2.2.1 HL.out.2.2.2.2.2.2.2 (by omega))
          have HStep := Lib.hid (steps_of HA.out.1 HK.out.1)
          have HF := Lib.hid (Prf.fit_any (wr.alloc (.cells #[.int .i64 x0, .int .i64 x1] 38)) x0 (max x1 1) al ml cl p ⟨by have := HLb.out; omega, by have := HLb.out; omega⟩ HStep.out HPf.out)
          have HC0 := Lib.hid (show (wr.alloc (.cells #[.int .i64 x0, .int .i64 x1] 38)).cell? ⟨wr.heap.size, 0, none⟩ = some (.int .i64 x0) by rw [World.cell?_alloc_new]; rfl)
          go_wp2_with fail
          generalize max x1 1 = L at *
          obtain ⟨hlw, hlx⟩ := HLb.out
          refine HF.out.mono ?_
          rintro e w2 ⟨m, bb, rfl, hf, hb2⟩
          have hnw := HL.out.2.2.2.2.2.1
          obtain ⟨-, -, g2, g3⟩ := fit_is (M := 562949953421312 + (k : Int) * 1048576) HK.out.2.2.2.2.1.good (by have := hnw.2; omega) HK.out.2.2.2.2.1.bd HLe.out HK.out.2.2.2.2.1.isp hlw hf
          have hm0 : 0 ≤ m := by have := hnw.1; omega
          have hm1 : m + L ≤ 1125899906842624 := by omega
          have H2 := Lib.hid (And.intro hf (And.intro (own_keepS' HA.out.1 hb2) (And.intro (own_chg' HA.out.2.1 hb2) (below_keep HA.out.2.2 hb2))))
          have HT := Lib.hid (Prf.take_own w2 m L x0 al ml cl p ⟨hm0, by omega⟩ (by omega) ⟨by omega, hm1⟩ HX.out.2.1.1 (lst_keep encS_len HStep.out hb2) HPf.out)
          have c0 := cell_keep hb2 HC0.out
          clear hf hb2 HF hnw g2 g3 hm0 hm1 hlx
          go_wp2_with fail
          refine HT.out.mono ?_
          rintro e w3 ⟨a4, c4, p4, rfl, -, -, h3, h4, h5⟩
          obtain ⟨m4, hm4⟩ : ∃ m, m = p4.length := ⟨_, rfl⟩
          rw [← hm4] at h5 ⊢
          have HE := Lib.hid (sk_take (p' := p4) HK.out.2.2.2.2.1 HL.out.2.2.2.2.2.1.2 HX.out.1 HX.out.2.1 HX.out.2.2.1 HLe.out (by rw [← HLw.out]; exact H2.out.1) (by rw [← HLw.out]; exact h3))
          have H3 := Lib.hid (And.intro hm4 (And.intro (owns_le h5 H2.out.2.2.2.size) (And.intro (own_chg' H2.out.2.2.1 h4) (below_keep H2.out.2.2.2 h4))))
          clear h3 h4 h5 hm4 HT c0
          go_wp2_with (first | (at_builtin; refine chg_arm tyC rfl (.tmp 67) (.tmp 69) rfl w3 #[.int .i64 m] rfl [(m : Int)] 1 rfl rfl W.heap.size _ r rfl H3.out.2.2.1 w3.heap.size rfl rfl HX.out.2.2.2 (by omega) H3.out.2.2.2.size ?_; intro v9 w9 ho9 hb9 hc9; have H9 := Lib.hid (And.intro ho9 (And.intro (H3.out.2.2.2.trans hb9) (Foot.own_typed H3.out.2.1 hc9 (Foot.typed_own H3.out.2.2.1 ne_is)))); clear ho9 hb9 hc9) | fail)
          go_roundw
          case rel => exact ⟨k + 1, a4, m4, c4, p4, _, r ++ [m], by omega, by go_num, rfl, H3.out.1, H9.out.2.2, H9.out.1, H9.out.2.1, HE.out⟩
          case measure => simp [intOf]; omega
        · have hlf : total < x0 := by omega
          have HE := Lib.hid (sk_skip HK.out.2.2.2.2.1 HX.out.1 (.inr hlf))
          go_wp2_with (first | (at_builtin; refine chg_arm tyC rfl (.tmp 47) (.tmp 48) rfl (wr.alloc (.cells #[.int .i64 x0, .int .i64 x1] 38)) #[.int .i64 (-1)] rfl [(-1 : Int)] 1 rfl rfl W.heap.size _ r rfl HA.out.2.1 (wr.heap.size + 1) (by simp) rfl HX.out.2.2.2 (by omega) HA.out.2.2.size ?_; intro v9 w9 ho9 hb9 hc9; have H9 := Lib.hid (And.intro ho9 (And.intro (HA.out.2.2.trans hb9) (Foot.own_typed HA.out.1 hc9 (Foot.typed_own HA.out.2.1 ne_is)))); clear ho9 hb9 hc9) | fail)
          go_roundw
          case rel => exact ⟨k + 1, al, ml, cl, p, tk, r ++ [-1], by omega, by go_num, rfl, HK.out.1, H9.out.2.2, H9.out.1, H9.out.2.1, HE.out⟩
          case measure => simp [intOf]; omega
    · obtain rfl : k = n2 := by omega
      have HE := Lib.hid (show r = plan now total l q rf by
        rw [← HK.out.2.2.2.2.1.out, List.take_of_length_le (by rw [HL.out.2.1]; exact Nat.le_refl _)]; rfl)
      go_wp2_with fail
      go_ret
      exact ⟨_, rfl, by rw [← HE.out]; exact HK.out.2.2.1, HK.out.2.2.2.1⟩
def firstI (x : Int) (l : List Int) : Int := match firstAt x l with | none => -1 | some k => (k : Nat)
set_option maxHeartbeats 4000000 in
theorem index_at (l : List Int) (a : Option Addr) (n c : Nat) (w : World) (h : IntsL w a n c l) (x : Int) :
    Calls Try.prog 18 #[.slice a n c, .int .i64 x] w fun e w' => e = .returned (.int .i64 (firstI x l)) ∧ w = w' := by
  have hm1 : n ≤ 9223372036854775807 := by have := h.cap; have := h.max; unfold maxLen at this; omega
  have HL := Lib.hid (And.intro h h.len)
  clear h
  go_enter Try.func18, Try.ntmps18
  go_wp2_with fail
  go_loop [5, 8] (fun _ i => ∃ k : Nat, k ≤ n ∧ i = .int .i64 (k : Nat) ∧ Hid (x ∉ l.take k)) (fun _ i => n - (intOf i).toNat)
  case atStart => exact ⟨0, Nat.zero_le _, rfl, Lib.hid (by simp)⟩
  case round =>
    obtain ⟨k, hk, rfl, hno⟩ := hrel
    by_cases hlt : k < n
    · have hkl : k < l.length := by rw [HL.out.2]; exact hlt
      obtain ⟨b, o, rfl⟩ := lst_at HL.out.1 (by omega)
      have q := int_cell HL.out.1 hkl
      have HTk := Lib.hid (List.take_succ_eq_append_getElem hkl)
      have HGe := Lib.hid (List.getElem?_eq_getElem hkl)
      generalize l[k] = y at *
      by_cases he : x = y
      · subst he
        have HFi := Lib.hid (show firstI x l = (k : Nat) by unfold firstI; rw [first_some l k hno.out HGe.out])
        go_wp2_with fail
        go_ret
        exact ⟨by rw [HFi.out]; rfl, rfl⟩
      · have HE := Lib.hid he
        have hne : (x == y) = false := beq_false_of_ne he
        clear he
        go_wp2_with fail
        go_round
        case rel => exact ⟨k + 1, by omega, by go_num, Lib.hid (by
          rw [HTk.out, List.mem_append, List.mem_singleton]
          rintro (h | h)
          · exact hno.out h
          · exact HE.out h)⟩
        case measure => simp [intOf]; omega
    · obtain rfl : k = n := by omega
      have hN := hno.out
      rw [List.take_of_length_le (by rw [HL.out.2]; exact Nat.le_refl _)] at hN
      have HFi := Lib.hid (show firstI x l = -1 by unfold firstI; rw [first_none hN])
      clear hN
      go_wp2_with fail
      go_ret
      exact ⟨by rw [HFi.out]; rfl, rfl⟩
set_option maxHeartbeats 8000000 in
theorem next_any (W : World) (now total : Int) (a : Option Addr) (n c : Nat) (l : List Bz) (a2 : Option Addr) (n2 c2 : Nat) (q : List Aq) (a3 : Option Addr) (n3 c3 : Nat) (rf : List Bool)
    (hnow : T9 now) (htot : Nd total) (hB : Busys W a n c l) (hm : ∀ b ∈ l, okD b) (hn : n ≤ 100) (hQ : Asks W a2 n2 c2 q) (hqm : ∀ x ∈ q, okC x) (hn2 : n2 ≤ 100) (hO : Bools W a3 n3 c3 rf) :
    Calls Try.prog 10 #[.int .i64 now, .int .i64 total, .slice a n c, .slice a2 n2 c2, .slice a3 n3 c3] W fun e W' => e = .returned (.tuple #[.int .i64 (nextI now total l q rf), .bool (nextB now total l q rf)]) ∧ Below W.heap.size W W' := by
  have HP := Lib.hid (plan_own W now total a n c l a2 n2 c2 q a3 n3 c3 rf hnow htot hB hm hn hQ hqm hn2 hO)
  have hno := hnow
  obtain ⟨t0, t1⟩ := hno
  clear hnow htot hB hm hQ hqm hO
  go_enter Try.func10, Try.ntmps10
  go_wp2_with fail
  refine HP.out.mono ?_
  rintro e w1 ⟨v1, rfl, ho1, hb1⟩
  obtain ⟨a1, c1, rfl, hl1, -⟩ := newI_own ho1
  have HI := Lib.hid (index_at (plan now total l q rf) a1 _ c1 w1 hl1 now)
  have H1 := Lib.hid hb1
  obtain ⟨m, hm⟩ : ∃ m, m = (plan now total l q rf).length := ⟨_, rfl⟩
  rw [← hm] at HI ⊢
  clear ho1 hl1 hb1 hm HP
  go_wp2_with fail
  refine HI.out.mono ?_
  rintro e w2 ⟨rfl, hw⟩
  subst hw
  clear HI
  cases hf : firstAt now (plan now total l q rf) with
  | none =>
    have HF := Lib.hid hf
    have hfi : firstI now (plan now total l q rf) = -1 := by unfold firstI; rw [hf]
    rw [hfi]
    clear hf hfi
    go_wp2_with fail
    refine bodyPost_ret (results_tmp2 rfl _ _ _) rfl ?_
    exact ⟨by rw [nextI, nextB, HF.out]; rfl, H1.out⟩
  | some k =>
    have HF := Lib.hid hf
    have hfi : firstI now (plan now total l q rf) = (k : Nat) := by unfold firstI; rw [hf]
    rw [hfi]
    clear hf hfi
    go_wp2_with fail
    refine bodyPost_ret (results_tmp2 rfl _ _ _) rfl ?_
    exact ⟨by rw [nextI, nextB, HF.out]; rfl, H1.out⟩
/-- The landed cons does what it must. -/
theorem cons_prog : Prog where
  plan := fun W now total a n c l a2 n2 c2 q a3 n3 c3 rf h1 h2 h3 h4 h5 h6 h7 h8 h9 =>
    (plan_own W now total a n c l a2 n2 c2 q a3 n3 c3 rf h1 h2 h3 h4 h5 h6 h7 h8 h9).mono fun _ _ ⟨v, e, ho, hb⟩ => ⟨v, e, newI_own ho, hb⟩
  next := next_any
end Go.Proofs.Ytckebhknnocpkaa.Cns
