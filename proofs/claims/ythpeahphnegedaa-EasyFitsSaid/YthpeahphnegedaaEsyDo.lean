/- Easy, the landed: Shadow and Next; what the program's easy must do, done. -/
import Derived.Test.YthpeahphnegedaaEsyDoC
import Derived.Test.YthpeahphnegedaaEsyAns
import Derived.Test.YthpeahphnegedaaPrfDoN
namespace Go.Proofs.Ythpeahphnegedaa.Esy
set_option maxRecDepth 100000
open Go.RowKit
open Go.Sort
open Kit
open Tre (Lst inI lst_keep lst_take lst_at lst_new lst_none encI encI_len encI_one OwI own_chg' int_cell newI_own IntsL)
open Prf (Bz newF Nd Tk Busys encZ encZ_len encS_len Steps)
open Go.Proofs.Ythpeahphnegedaa.Ord (Aq Asks encQ encQ_len ask_cells info_ask)
set_option linter.unusedVariables false
variable {w w' : World}

set_option maxHeartbeats 16000000 in
theorem shadow_any (W : World) (now total : Int) (a : Option Addr) (n c : Nat) (l : List Bz) (nodes : Int) (hnow : T9 now) (htot : Nd total) (h : Busys W a n c l) (hm : ∀ b ∈ l, okB b) (hn : n ≤ 100) (hnd : Nd nodes) :
    Calls Try.prog 11 #[.int .i64 now, .int .i64 total, .slice a n c, .int .i64 nodes] W fun e W' => e = .returned (.tuple #[.int .i64 (shT now total l nodes), .int .i64 (shX now total l nodes), .bool (shB now total l nodes)]) ∧ Below W.heap.size W W' := by
  have htk : Tk now := ⟨hnow.1, by have := hnow.2; omega⟩
  have HN := Lib.hid (Prf.new_any W now total a n c l htk htot h hm (by omega))
  have HH := Lib.hid (And.intro htk (And.intro htot (And.intro hm (show l.length ≤ 500 by rw [h.len]; omega))))
  obtain ⟨d0, d1⟩ := hnd
  clear h hm htot hnow htk
  go_enter Try.func11, Try.ntmps11
  go_wp2_with fail
  refine HN.out.mono ?_
  rintro e w1 ⟨a1, c1, p, rfl, hs1, hp1, hb1⟩
  have hpf := pf_new HH.out.1 HH.out.2.1 HH.out.2.2.1 HH.out.2.2.2 hp1
  have HF := Lib.hid (Prf.fit_any w1 nodes 1 a1 p.length c1 p ⟨by omega, by omega⟩ hs1 hpf)
  have H1 := Lib.hid (And.intro hs1 (And.intro hp1 (And.intro hb1 hpf)))
  obtain ⟨np, hnp⟩ : ∃ np, np = p.length := ⟨_, rfl⟩
  rw [← hnp] at HF H1 ⊢
  clear hs1 hp1 hb1 hpf hnp HN
  go_wp2_with fail
  refine HF.out.mono ?_
  rintro e w2 ⟨m, b, rfl, hf, hb2⟩
  have HS := Lib.hid (fit_shadow H1.out.2.1 hf)
  have HM0 := Lib.hid (show b = false → m = 0 from fun hb => by
    rcases hf with ⟨h1, _⟩ | ⟨_, h1, _⟩
    · rw [hb] at h1; cases h1
    · exact h1)
  have H2 := Lib.hid (And.intro (lst_keep encS_len H1.out.1 hb2) (below_keep H1.out.2.2.1 hb2))
  clear hf hb2 HF
  cases b
  · have hm0 := HM0.out rfl
    subst hm0
    go_wp2_with fail
    refine bodyPost_ret (results_tmp3 rfl _ _ _) rfl ?_
    exact ⟨by
      obtain ⟨g1, g2, g3, -⟩ := HS.out
      rw [g1, g2, g3]; rfl, H2.out.2⟩
  · have HA := Lib.hid (Prf.at_any w2 m a1 np c1 p H2.out.1 H1.out.2.2.2)
    obtain ⟨vt, hvt⟩ : ∃ vt, vt = newF total l m := ⟨_, rfl⟩
    have hbd := newF_bound (t := m) HH.out.2.1 HH.out.2.2.1 HH.out.2.2.2
    rw [HS.out.2.2.2 rfl, ← hvt] at HA
    rw [← hvt] at hbd
    obtain ⟨b0, b1⟩ := hbd
    have HX := Lib.hid (show shX now total l nodes = vt - nodes by rw [hvt]; exact HS.out.2.2.1)
    clear hvt
    go_wp2_with fail
    refine HA.out.mono ?_
    rintro e w3 ⟨rfl, hb3⟩
    have H3 := Lib.hid (below_keep H2.out.2 hb3)
    clear hb3 HA
    go_wp2_with fail
    refine bodyPost_ret (results_tmp3 rfl _ _ _) rfl ?_
    exact ⟨by rw [HX.out, HS.out.1, HS.out.2.1]; rfl, H3.out⟩

theorem run_fr {g K M cp : Nat} (h1 : K ≤ M) (w : World) : (Instr.sliceAt 40 (.slice (some ⟨g, 0, none⟩) M cp) (some (.int .i64 (K : Nat))) none none).run Try.prog w = .ok (.slice (some ⟨g, if cp = K then 0 else K, none⟩) (M - K) (cp - K)) w := by
  have h2 : K ≤ M := h1
  by_cases h : cp = K
  · simp [go_sem, h1, h]
  · simp [go_sem, h1, h]

set_option maxHeartbeats 32000000 in
theorem next_any (W : World) (now total : Int) (a : Option Addr) (n c : Nat) (l : List Bz) (a2 : Option Addr) (n2 c2 : Nat) (q : List Aq) (a3 : Option Addr) (n3 c3 : Nat) (rf : List Bool)
    (hnow : T9 now) (htot : Nd total) (hB : Busys W a n c l) (hm : ∀ b ∈ l, okB b) (hn : n ≤ 100) (hQ : Asks W a2 n2 c2 q) (hqm : ∀ x ∈ q, okQ x) (hn2 : n2 ≤ 100) (hO : Bools W a3 n3 c3 rf) :
    Calls Try.prog 9 #[.int .i64 now, .int .i64 total, .slice a n c, .slice a2 n2 c2, .slice a3 n3 c3] W fun e W' => e = .returned (.tuple #[.int .i64 (nextI now total l q rf), .bool (nextB now total l q rf)]) ∧ Below W.heap.size W W' := by
  have htk : Tk now := ⟨hnow.1, by have := hnow.2; omega⟩
  have HH := Lib.hid (And.intro htk (And.intro htot (And.intro hm (show l.length ≤ 500 by rw [hB.len]; omega))))
  have HL := Lib.hid (And.intro hB (And.intro hQ (And.intro hQ.len hqm)))
  have HP := Lib.hid (counting_any W total a2 n2 c2 q a3 n3 c3 rf hQ hn2 hO)
  have HSh := Lib.hid (fun g w (hb : Below W.heap.size W w) (hg : Nd g) => shadow_any w now total a n c l g hnow htot (lst_keep encZ_len hB hb) hm hn hg)
  have HNx := Lib.hid (nx_next (now := now) (total := total) (l := l) (q := q) (rf := rf))
  have HT9 := Lib.hid hnow
  have hno := hnow
  obtain ⟨t0, t1⟩ := hno
  clear hB hm htot hnow htk hQ hqm hO
  go_enter Try.func9, Try.ntmps9
  go_wp2_with fail
  refine HP.out.mono ?_
  rintro e w1 ⟨v1, rfl, ho1, hb1⟩
  obtain ⟨a1, c1, rfl, hl1, -⟩ := newI_own ho1
  obtain ⟨m, hm⟩ : ∃ m, m = (ints (plc total q rf n2)).length := ⟨_, rfl⟩
  have hm2 : m ≤ 100 := by rw [hm, ints_len]; exact Nat.le_trans (plc_len _) hn2
  rw [← hm] at hl1 ⊢
  have hcm := hl1.cap
  have hcx := hl1.max
  have H1 := Lib.hid (And.intro hl1 (And.intro hb1 (show (plc total q rf n2).length = m by rw [hm, ints_len])))
  have HOw := Lib.hid ho1
  clear hl1 hb1 ho1 hm HP
  by_cases hm0 : m = 0
  · subst hm0
    have HN := Lib.hid (HNx.out.symm.trans (nx_none (by rw [HL.out.2.2.1]; exact Nat.le_refl _) (List.length_eq_zero_iff.1 H1.out.2.2)))
    go_wp2_with fail
    refine bodyPost_ret (results_tmp2 rfl _ _ _) rfl ?_
    exact ⟨by rw [nextI, nextB, HN.out]; rfl, H1.out.2.1⟩
  · have hmi : ((m : Int) == 0) = false := beq_false_of_ne (by omega)
    have hpl : 1 ≤ (ints (plc total q rf n2)).length := by rw [ints_len, H1.out.2.2]; omega
    obtain ⟨g1, cap, hv, hgg, -, -⟩ := Kit.owns_at encI_len HOw.out hpl
    injection hv with e1 e2 e3
    subst e1 e3
    clear e2
    obtain ⟨p0, hp0⟩ : ∃ p0, (plc total q rf n2)[0]? = some p0 := ⟨_, List.getElem?_eq_getElem (by rw [H1.out.2.2]; omega)⟩
    obtain ⟨hp0n, x, hx, hcx⟩ := plc_at hp0
    have HX := Lib.hid (And.intro hp0 (And.intro hx (And.intro hcx (HNx.out.symm.trans (nx_first hp0)))))
    obtain ⟨hpq, hxe⟩ := List.getElem?_eq_some_iff.1 hx
    obtain ⟨⟨x0, x1⟩, x2, x3⟩ := HL.out.2.2.2 x (List.mem_of_getElem? hx)
    have HPl := Lib.hid (fun (i p : Nat) (w : World) (hi : (plc total q rf n2)[i]? = some p) (hb : Below w1.heap.size w1 w) => show w.cell? ⟨g1, i, none⟩ = some (.int .i64 (p : Nat)) by
      obtain ⟨h1, h2⟩ := List.getElem?_eq_some_iff.1 hi
      have := int_cell (lst_keep encI_len H1.out.1 hb) (k := i) (by rw [ints_len]; exact h1)
      rw [Nat.zero_add] at this
      rw [this]
      congr 2
      unfold ints
      rw [List.getElem_map, h2])
    obtain ⟨b2, o2, rfl⟩ := lst_at HL.out.2.1 (by omega)
    have HAs := Lib.hid (fun (p : Nat) (x : Aq) (w : World) (hx : q[p]? = some x) (hb : Below W.heap.size W w) => show w.cell? ⟨b2, o2 + p * 2, none⟩ = some (.int .i64 x.nodes) ∧ w.cell? ⟨b2, o2 + p * 2 + 1, none⟩ = some (.int .i64 x.wall) by
      obtain ⟨h1, h2⟩ := List.getElem?_eq_some_iff.1 hx
      have := ask_cells (lst_keep encQ_len HL.out.2.1 hb) h1
      rw [h2] at this
      exact this)
    have HNw := Lib.hid (Prf.new_any w1 now total a n c l HH.out.1 HH.out.2.1 (lst_keep encZ_len HL.out.1 H1.out.2.1) HH.out.2.2.1 (by rw [← HL.out.1.len]; exact HH.out.2.2.2))
    obtain ⟨xn, hxn⟩ : ∃ xn, xn = x.nodes := ⟨_, rfl⟩
    obtain ⟨xw, hxw⟩ : ∃ xw, xw = x.wall := ⟨_, rfl⟩
    rw [← hxn] at x0 x1
    rw [← hxw] at x2 x3
    have HXn := Lib.hid (And.intro hxn hxw)
    clear hgg hpl hp0 hx hcx hpq hxe hxn hxw
    go_wp2_with fail
    refine HNw.out.mono ?_
    rintro e w2 ⟨a4, c4, p, rfl, hs2, hp2, hb2⟩
    have hpf := pf_new HH.out.1 HH.out.2.1 HH.out.2.2.1 HH.out.2.2.2 hp2
    have HAt := Lib.hid (Prf.at_any w2 now a4 p.length c4 p hs2 hpf)
    rw [hp2.fn now (Int.le_refl _)] at HAt
    obtain ⟨fv, hfv⟩ : ∃ fv, fv = newF total l now := ⟨_, rfl⟩
    rw [← hfv] at HAt
    have HFv := Lib.hid hfv
    obtain ⟨np, hnp⟩ : ∃ np, np = p.length := ⟨_, rfl⟩
    rw [← hnp] at HAt ⊢
    have H2 := Lib.hid hb2
    clear hs2 hpf hp2 hb2 hnp hfv HNw
    go_wp2_with fail
    refine HAt.out.mono ?_
    rintro e w3 ⟨rfl, hb3⟩
    have H3 := Lib.hid (below_keep H2.out hb3)
    clear hb3 HAt
    have p3 := HPl.out 0 p0 w3 HX.out.1 H3.out
    obtain ⟨y0, y1⟩ := HAs.out p0 x w3 HX.out.2.1 (below_keep H1.out.2.1 H3.out)
    rw [← HXn.out.1] at y0
    rw [← HXn.out.2] at y1
    by_cases hle : xn ≤ fv
    · have HN := Lib.hid (HX.out.2.2.2.trans (nx_stop HX.out.2.1 HX.out.2.2.1 (by rw [← HFv.out, ← HXn.out.1]; omega) rfl))
      have hb4 := below_alloc w3 (.cells #[.int .i64 xn, .int .i64 xw] 35)
      have p4 := HPl.out 0 p0 (w3.alloc (.cells #[.int .i64 xn, .int .i64 xw] 35)) HX.out.1 (below_keep H3.out hb4)
      have H4 := Lib.hid (below_keep H1.out.2.1 (below_keep H3.out hb4))
      clear hb4
      go_wp2_with fail
      refine bodyPost_ret (results_tmp2 rfl _ _ _) rfl ?_
      exact ⟨by rw [nextI, nextB, HN.out]; rfl, H4.out⟩
    · have hld : decide (xn ≤ fv) = false := decide_eq_false hle
      have HN0 := Lib.hid ((nx_short (h := none) HX.out.2.1 HX.out.2.2.1 (by rw [← HFv.out, ← HXn.out.1]; omega)).symm.trans HX.out.2.2.2.symm)
      have hb4 := below_alloc w3 (.cells #[.int .i64 xn, .int .i64 xw] 35)
      have H4 := Lib.hid (below_keep H3.out hb4)
      have HC := Lib.hid (HSh.out xn (w3.alloc (.cells #[.int .i64 xn, .int .i64 xw] 35)) (below_keep H1.out.2.1 H4.out) ⟨x0, x1⟩)
      obtain ⟨st, hst⟩ : ∃ st, st = shT now total l xn := ⟨_, rfl⟩
      obtain ⟨sx, hsx⟩ : ∃ sx, sx = shX now total l xn := ⟨_, rfl⟩
      obtain ⟨sb, hsb⟩ : ∃ sb, sb = shB now total l xn := ⟨_, rfl⟩
      obtain ⟨s0, s1⟩ := shT_bound (total := total) (nodes := xn) HT9.out HH.out.2.2.1
      rw [← hst] at s0 s1
      rw [← hst, ← hsx, ← hsb] at HC
      have HM := Lib.hid (fun (y : Aq) => show mayB now total l (some xn) y = decide (now + y.wall ≤ st ∨ y.nodes ≤ sx) by rw [hst, hsx]; rfl)
      obtain ⟨r, hr⟩ : ∃ r, r = m - 1 := ⟨_, rfl⟩
      obtain ⟨f1, hf1⟩ : ∃ f1, f1 = if c1 = 1 then 0 else 1 := ⟨_, rfl⟩
      obtain ⟨cr, hcr⟩ : ∃ cr, cr = c1 - 1 := ⟨_, rfl⟩
      have hrun : ∀ w : World, (Instr.sliceAt 40 (.slice (some ⟨g1, 0, none⟩) m c1) (some (.int .i64 1)) none none).run Try.prog w = .ok (.slice (some ⟨g1, f1, none⟩) r cr) w := fun w => by
        have := run_fr (g := g1) (K := 1) (M := m) (cp := c1) (by omega) w
        rw [← hr, ← hcr, ← hf1] at this
        exact this
      have HR := Lib.hid (And.intro hr hf1)
      have hr100 : r ≤ 100 := by omega
      clear hb4 hst hsx hsb hr hf1 hcr
      go_wp2_with fail
      refine HC.out.mono ?_
      rintro e w5 ⟨rfl, hb5⟩
      have H5 := Lib.hid (below_keep H4.out hb5)
      clear hb5 HC
      go_wp2_with fail
      go_loopw [60] (fun i wr => ∃ (k pk : Nat), k ≤ r ∧ i = .int .i64 (k : Nat) ∧ (plc total q rf n2)[k]? = some pk ∧ NX now total l q rf (some xn) (pk + 1) = next now total l q rf ∧ Below w1.heap.size w1 wr) (fun i _ => r - (intOf i).toNat)
      case atStart => exact ⟨0, p0, Nat.zero_le _, rfl, HX.out.1, by rw [← HN0.out, HXn.out.1]; rfl, H5.out⟩
      case round =>
        obtain ⟨k, pk, hk, rfl, hpk, hnx, hb⟩ := hrel
        have HB := Lib.hid (And.intro hb (And.intro hpk hnx))
        clear hb hpk hnx
        by_cases hlt : k < r
        · obtain ⟨p, hp⟩ : ∃ p, (plc total q rf n2)[k + 1]? = some p := ⟨_, List.getElem?_eq_getElem (by rw [H1.out.2.2]; have := HR.out.1; omega)⟩
          obtain ⟨hpn, y, hy, hcy⟩ := plc_at hp
          have pc : wr.cell? ⟨g1, f1 + k, none⟩ = some (.int .i64 (p : Nat)) := by
            have h1 : f1 = 1 := by
              rw [HR.out.2, if_neg (by have := HR.out.1; omega)]
            have := HPl.out (k + 1) p wr hp HB.out.1
            rw [h1, Nat.add_comm]
            exact this
          obtain ⟨q0, q1⟩ := HAs.out p y wr hy (below_keep H1.out.2.1 HB.out.1)
          obtain ⟨⟨v0, v1⟩, v2, v3⟩ := HL.out.2.2.2 y (List.mem_of_getElem? hy)
          have hmy := HM.out y
          have hstp := (nx_then (h := some xn) (now := now) (l := l) HB.out.2.1 hp).symm.trans HB.out.2.2
          obtain ⟨yn, hyn⟩ : ∃ yn, yn = y.nodes := ⟨_, rfl⟩
          obtain ⟨yw, hyw⟩ : ∃ yw, yw = y.wall := ⟨_, rfl⟩
          rw [← hyn, ← hyw] at hmy
          rw [← hyn] at q0 v0 v1
          rw [← hyw] at q1 v2 v3
          have HY := Lib.hid (And.intro hp (And.intro hy (And.intro hcy (And.intro hstp (And.intro hmy (And.intro hyn hyw))))))
          have hb6 := below_alloc wr (.cells #[.int .i64 yn, .int .i64 yw] 35)
          have H6 := Lib.hid (below_keep HB.out.1 hb6)
          have p6 : (wr.alloc (.cells #[.int .i64 yn, .int .i64 yw] 35)).cell? ⟨wr.heap.size, 1, none⟩ = some (.int .i64 yw) := by rw [World.cell?_alloc_new]; rfl
          clear hp hy hcy hmy hstp hyn hyw hb6
          by_cases hfy : yn ≤ fv
          · have hfit : ¬ newF total l now < y.nodes := by rw [← HFv.out, ← HY.out.2.2.2.2.2.1]; omega
            have HFi := Lib.hid hfit
            clear hfit
            by_cases h1 : yw ≤ st - now
            · have HN := Lib.hid (HY.out.2.2.2.1.symm.trans (nx_stop HY.out.2.1 HY.out.2.2.1 HFi.out (by rw [HY.out.2.2.2.2.1]; exact decide_eq_true (.inl (by omega)))))
              go_wp2_with fail
              refine bodyPost_ret (results_tmp2 rfl _ _ _) rfl ?_
              exact ⟨by rw [nextI, nextB, HN.out]; rfl, below_keep H1.out.2.1 H6.out⟩
            · have h1d : decide (yw ≤ st - now) = false := decide_eq_false h1
              by_cases h2 : yn ≤ sx
              · have HN := Lib.hid (HY.out.2.2.2.1.symm.trans (nx_stop HY.out.2.1 HY.out.2.2.1 HFi.out (by rw [HY.out.2.2.2.2.1]; exact decide_eq_true (.inr h2))))
                go_wp2_with fail
                refine bodyPost_ret (results_tmp2 rfl _ _ _) rfl ?_
                exact ⟨by rw [nextI, nextB, HN.out]; rfl, below_keep H1.out.2.1 H6.out⟩
              · have h2d : decide (yn ≤ sx) = false := decide_eq_false h2
                have HN := Lib.hid ((nx_over (h := some xn) HY.out.2.1 HY.out.2.2.1 HFi.out (by rw [HY.out.2.2.2.2.1]; exact decide_eq_false (fun h => h.elim (fun h => h1 (by omega)) h2))).symm.trans HY.out.2.2.2.1)
                go_wp2_with fail
                go_roundw
                case rel => exact ⟨k + 1, p, by omega, by go_num, HY.out.1, HN.out, H6.out⟩
                case measure => first | (simp [intOf]; done) | (simp [intOf]; omega)
          · have hfd : decide (yn ≤ fv) = false := decide_eq_false hfy
            have HN := Lib.hid ((nx_short (h := some xn) HY.out.2.1 HY.out.2.2.1 (by rw [← HFv.out, ← HY.out.2.2.2.2.2.1]; omega)).symm.trans HY.out.2.2.2.1)
            go_wp2_with fail
            go_roundw
            case rel => exact ⟨k + 1, p, by omega, by go_num, HY.out.1, HN.out, H6.out⟩
            case measure => first | (simp [intOf]; done) | (simp [intOf]; omega)
        · obtain rfl : k = r := by omega
          have HN := Lib.hid (HB.out.2.2.symm.trans (nx_last (by rw [HL.out.2.2.1]; exact Nat.le_refl _) HB.out.2.1 (by rw [H1.out.2.2]; have := HR.out.1; omega)))
          go_wp2_with fail
          refine bodyPost_ret (results_tmp2 rfl _ _ _) rfl ?_
          exact ⟨by rw [nextI, nextB, HN.out]; rfl, below_keep H1.out.2.1 HB.out.1⟩

/-- The landed easy does what it must. -/
theorem easy_prog : Prog where
  next := next_any
  shadow := shadow_any
end Go.Proofs.Ythpeahphnegedaa.Esy
