/- Cons: ConsRoom, over any cons that does as it should. -/
import Derived.Test.YtckebhknnocpkaaConPlL
namespace Go.Proofs.Ytckebhknnocpkaa.Cns
set_option maxRecDepth 100000
open Go.RowKit
open Go.Sort
open Kit
open Tre (Lst inI lst_keep lst_take lst_at lst_new lst_none below_drewN' run_ld2 IntsL encI encI_len OwI int_cell ints_any)
open Prf (Bz newF Nd Tk Busys encZ encZ_len OwZ own_busys held held_may rheld_any busyN busy_take busy_cells busy_bound)
open Esy (T9 okB Bools encO_len rbusy9_any busy9 busy9_may own_asks rcounts_any)
open Go.Proofs.Ytckebhknnocpkaa.Ord (Aq Asks encQ encQ_len ask_cells info_ask)
set_option linter.unusedVariables false
variable {w w' : World}

theorem run_ii {b o n c k : Nat} (h : k < n) (w : World) : (Instr.indexAt 28 (.slice (some ⟨b, o, none⟩) n c) (.int .i64 (k : Nat))).run Try.prog w = .ok (.pointer (some ⟨b, o + k, none⟩)) w := by
  simp [go_sem, h]
/-- One of the plan, as it stands in it. -/
theorem plan_at {total now : Int} {q : List Aq} {T0 : List Ta} {rf : List Bool} {k : Nat} {x : Aq} (hx : q[k]? = some x) :
    (planT total now T0 q rf)[k]? = some (bestI (pick total now (endT total now T0 (q.take k) rf) x (rf.drop k))) ∧ endT total now T0 (q.take (k + 1)) rf = after (endT total now T0 (q.take k) rf) x (pick total now (endT total now T0 (q.take k) rf) x (rf.drop k)) := by
  obtain ⟨hk, e⟩ := List.getElem?_eq_some_iff.1 hx
  have hl : (q.take k).length = k := by rw [List.length_take]; omega
  obtain ⟨h1, h2⟩ := planT_snoc (total := total) (now := now) x (q.take k) T0 rf
  have htk : q.take (k + 1) = q.take k ++ [x] := by rw [List.take_succ_eq_append_getElem hk, e]
  rw [hl, ← htk] at h1 h2
  refine ⟨?_, h2⟩
  have h3 := planT_later (total := total) (now := now) (q.drop (k + 1)) (q.take (k + 1)) T0 rf
  rw [List.take_append_drop, h1] at h3
  have h4 : ((planT total now T0 q rf).take (q.take (k + 1)).length)[k]? = (planT total now T0 q rf)[k]? := by
    rw [List.getElem?_take, if_pos (by rw [List.length_take]; omega)]
  rw [← h4, h3, List.getElem?_append_right (by rw [planT_len, hl]; exact Nat.le_refl _), planT_len, hl, Nat.sub_self]
  rfl
set_option maxHeartbeats 32000000 in
theorem room_any (hP : Prog) (W : World) (tot8 : Int) (ab : Option Addr) (n cb : Nat) (l : List Bz) (a3 : Option Addr) (n3 c3 : Nat) (q : List Aq) (a4 : Option Addr) (n4 c4 : Nat) (rf : List Bool) (at8 : Int) (h0 : 0 ≤ tot8 ∧ tot8 ≤ 255) (h : Busys W ab n cb l) (hq : Asks W a3 n3 c3 q) (hr : Bools W a4 n4 c4 rf) (hat : 0 ≤ at8 ∧ at8 ≤ 255) :
    Calls Try.prog 4 #[.int .u8 tot8, .slice ab n cb, .slice a3 n3 c3, .slice a4 n4 c4, .int .u8 at8] W fun e w' => e = .returned (.bool true) ∧ Below W.heap.size W w' := by
  have HP := Lib.hid hP
  have HL := Lib.hid (And.intro h (And.intro hq hr))
  obtain ⟨h00, h01⟩ := h0
  obtain ⟨at0, at1⟩ := hat
  have t0 : 0 ≤ tot8 % 40 := Int.emod_nonneg _ (by omega)
  have t1 : tot8 % 40 ≤ 39 := by have := Int.emod_lt_of_pos tot8 (show (0 : Int) < 40 by omega); omega
  have HC0 := Lib.hid (rbusy9_any W ab n cb l h)
  have HM := Lib.hid (busy9_may (l := l))
  obtain ⟨lb, hlb⟩ : ∃ lb, lb = busy9 l := ⟨_, rfl⟩
  rw [← hlb] at HC0 HM
  obtain ⟨nb, hnb⟩ : ∃ nb, nb = lb.length := ⟨_, rfl⟩
  have HNb := Lib.hid hnb
  have hnb40 : nb ≤ 40 := by rw [hnb]; exact HM.out.2
  have HBd := Lib.hid (fun k t (hk : k ≤ 1000) => busy_bound (l := lb) (fun b hb => (HM.out.1 b hb).2) k hk t)
  clear hP h hq hr hlb hnb
  go_enter Try.func4, Try.ntmps4
  go_wp2_with fail
  refine HC0.out.mono ?_
  rintro e w3 ⟨v3, rfl, ho3, hb3⟩
  obtain ⟨a5, c5, rfl, l5⟩ := own_busys ho3
  rw [← HNb.out] at l5 ⊢
  have H3 := Lib.hid (And.intro hb3 l5)
  have HC1 := Lib.hid (rasksW_any w3 a3 n3 c3 q (lst_keep encQ_len HL.out.2.1 H3.out.1))
  have HMq := Lib.hid (asksW_may (l := q))
  obtain ⟨qb, hqb⟩ : ∃ qb, qb = asksW q := ⟨_, rfl⟩
  rw [← hqb] at HC1 HMq
  obtain ⟨mb, hmb⟩ : ∃ mb, mb = qb.length := ⟨_, rfl⟩
  have HMb := Lib.hid hmb
  have hmb30 : mb ≤ 30 := by have := HMq.out.2; omega
  clear hqb hmb hb3 ho3 l5 HC0
  go_wp2_with fail
  refine HC1.out.mono ?_
  rintro e w4 ⟨v4, rfl, ho4, hb4⟩
  obtain ⟨a6, c6, rfl, l6⟩ := own_asks ho4
  rw [← HMb.out] at l6 ⊢
  have H4 := Lib.hid (And.intro (below_keep H3.out.1 hb4) (And.intro (lst_keep encZ_len H3.out.2 hb4) l6))
  obtain ⟨al, hal⟩ : ∃ al, al = tot8 % 40 := ⟨_, rfl⟩
  have HAl := Lib.hid (And.intro hal (show Nd al from by rw [hal]; exact ⟨t0, by omega⟩))
  have hal0 : 0 ≤ al ∧ al ≤ 39 := by omega
  have HoD := Lib.hid (show ∀ b ∈ lb, okD b from fun b hb => ⟨(HM.out.1 b hb).1, (HM.out.1 b hb).2.2⟩)
  clear hb4 ho4 l6 HC1 H3 hal
  go_upto_region 3 with fail
  rw [← HAl.out.1]
  clear t0 t1
  obtain ⟨al0, al1⟩ := hal0
  go_wp2_with fail
  go_loopw [14, 15] (fun v i wr => ∃ k : Nat, k ≤ nb ∧ i = .int .i64 (k : Nat) ∧ v = .int .i64 (busyN (lb.take k) 0) ∧ Below w4.heap.size w4 wr) (fun _ i _ => nb - (intOf i).toNat)
  case atStart => exact ⟨0, Nat.zero_le _, rfl, by simp [busyN], Below.refl _ _⟩
  case round =>
    obtain ⟨k, hk, rfl, rfl, hb⟩ := hrel
    have HB := Lib.hid hb
    clear hb
    by_cases hlt : k < nb
    · have hlti : (k : Int) < (nb : Int) := by omega
      have hkl : k < lb.length := by rw [← HNb.out]; exact hlt
      obtain ⟨b1, o1, rfl⟩ := lst_at H4.out.2.1 (by omega)
      obtain ⟨q0, q1⟩ := busy_cells (lst_keep encZ_len H4.out.2.1 HB.out) hkl
      have hmt := busy_take 0 (List.getElem?_eq_getElem hkl)
      have hma := (HM.out.1 _ (List.getElem_mem hkl)).2.2
      obtain ⟨g0, g1⟩ := HBd.out k 0 (by omega)
      generalize lb[k] = xy at *
      obtain ⟨x, y⟩ := xy
      simp only at q0 q1 hmt hma
      obtain ⟨y0, y1⟩ := hma
      by_cases htx : 0 < x
      · have HMt := Lib.hid (show busyN (lb.take (k + 1)) 0 = busyN (lb.take k) 0 + y by rw [hmt, if_pos htx])
        clear hmt
        obtain ⟨z, hz⟩ : ∃ z, z = busyN (lb.take k) 0 := ⟨_, rfl⟩
        rw [← hz] at HMt g0 g1 ⊢
        clear hz
        go_wp2_with fail
        go_roundw
        case rel => exact ⟨k + 1, by omega, by go_num, by rw [HMt.out], HB.out⟩
        case measure => simp [intOf]; omega
      · have HMt := Lib.hid (show busyN (lb.take (k + 1)) 0 = busyN (lb.take k) 0 by rw [hmt, if_neg htx]; omega)
        clear hmt
        obtain ⟨z, hz⟩ : ∃ z, z = busyN (lb.take k) 0 := ⟨_, rfl⟩
        rw [← hz] at HMt g0 g1 ⊢
        clear hz
        go_wp2_with fail
        go_roundw
        case rel => exact ⟨k + 1, by omega, by go_num, by rw [HMt.out], HB.out⟩
        case measure => simp [intOf]; omega
    · obtain rfl : k = nb := by omega
      have hni : ¬ (k : Int) < (k : Int) := by omega
      have htk : lb.take k = lb := List.take_of_length_le (by rw [← HNb.out]; exact Nat.le_refl _)
      obtain ⟨g0, g1⟩ := HBd.out k 0 (by omega)
      rw [htk] at g0 g1 ⊢
      clear htk
      have HBz := Lib.hid (show busyN lb 0 = busyN lb 0 from rfl)
      obtain ⟨bz, hbz⟩ : ∃ bz, bz = busyN lb 0 := ⟨_, rfl⟩
      have HBz := Lib.hid hbz
      rw [← hbz] at g0 g1 ⊢
      clear hbz
      by_cases hov : al < bz
      · have HCa := Lib.hid (awake_any HP.out wr)
        go_wp2_with fail
        refine HCa.out.mono ?_
        rintro e w5 ⟨rfl, hb5⟩
        have H5 := Lib.hid (below_keep (below_keep H4.out.1 HB.out) hb5)
        clear hb5 HCa
        go_wp2_with fail
        go_ret
        exact ⟨rfl, H5.out⟩
      · have H5 := Lib.hid (And.intro (below_keep H4.out.1 HB.out) (And.intro (lst_keep encZ_len H4.out.2.1 HB.out) (And.intro (lst_keep encQ_len H4.out.2.2 HB.out) (lst_keep encO_len HL.out.2.2 (below_keep H4.out.1 HB.out)))))
        obtain ⟨T0, hT0⟩ : ∃ T0, T0 = runT 0 lb := ⟨_, rfl⟩
        have hgood := runT_good (now := 0) (l := lb) fun b hb => (HM.out.1 b hb).2.2.1
        have hfree : ∀ t, 0 ≤ t → takenN T0 t = busyN lb t := fun t ht => by rw [hT0]; exact runT_free ht lb
        have hroom : ∀ t, 0 ≤ t → 0 ≤ freeT al T0 t := by
          intro t ht
          have h1 := hfree t ht
          have h2 : busyN lb t ≤ busyN lb 0 := by
            have key : ∀ l : List Bz, (∀ b ∈ l, 0 ≤ b.nodes) → busyN l t ≤ busyN l 0 := by
              intro l
              induction l with
              | nil => intro _; exact Int.le_refl _
              | cons b l ih =>
                intro h
                have := ih fun x hx => h x (List.mem_cons_of_mem _ hx)
                have := h b (List.mem_cons_self ..)
                rw [busyN, busyN]
                by_cases h1 : t < b.till
                · rw [if_pos h1, if_pos (by omega)]; omega
                · rw [if_neg h1]
                  split <;> omega
            exact key lb fun b hb => (HM.out.1 b hb).2.2.1
          have h3 := HBz.out
          unfold freeT
          omega
        have hbnd : Bnd 562949953421312 T0 := by
          rw [hT0]
          have key : ∀ l : List Bz, (∀ b ∈ l, T9 b.till ∧ Nd b.nodes) → Bnd 562949953421312 (runT 0 l) := by
            intro l
            induction l with
            | nil => intro _ o ho; cases ho
            | cons b l ih =>
              intro h
              have h1 := h b (List.mem_cons_self ..)
              have h2 := ih fun x hx => h x (List.mem_cons_of_mem _ hx)
              rw [runT]
              split
              · intro o ho
                rcases List.mem_cons.1 ho with rfl | ho
                · exact ⟨⟨Int.le_refl _, (show (0 : Int) ≤ 562949953421312 by decide)⟩, h1.1, h1.2⟩
                · exact h2 o ho
              · exact h2
          exact key lb HoD.out
        have hlen0 : T0.length ≤ 40 := by rw [hT0]; have := runT_len 0 lb; rw [← HNb.out] at this; omega
        rw [← hT0] at hgood
        obtain ⟨L, hL⟩ : ∃ L, plan 0 al lb qb rf = L := ⟨_, rfl⟩
        have hLl : L.length = mb := by rw [← hL, plan_len]; exact HMb.out.symm
        have hLT : planT al 0 T0 qb rf = L := by rw [hT0]; exact hL
        have HC2 := Lib.hid (plan_is HP.out wr 0 al a5 k c5 lb a6 mb c6 qb a4 n4 c4 rf L hL mb hLl ⟨by omega, by omega⟩ HAl.out.2 H5.out.2.1 HoD.out (by omega) H5.out.2.2.1 (fun x hx => HMq.out.1 x hx) (by omega) H5.out.2.2.2)
        have HT := Lib.hid (And.intro hgood (And.intro hfree (And.intro hroom (And.intro hbnd (And.intro hlen0 (And.intro hLl hLT))))))
        clear hgood hfree hroom hbnd hlen0 hL hLl hLT hT0 HB H4 g0 g1
        go_wp2_with fail
        refine HC2.out.mono ?_
        rintro e w6 ⟨a7, c7, rfl, i7, hb6⟩
        have H6 := Lib.hid (And.intro (below_keep H5.out.1 hb6) (And.intro (lst_keep encZ_len H5.out.2.1 hb6) (And.intro (lst_keep encQ_len H5.out.2.2.1 hb6) (And.intro (lst_keep encO_len H5.out.2.2.2 hb6) i7))))
        clear hb6 i7 HC2 H5
        go_wp2_with fail
        go_loopw [17, 18] (fun v i wr => ∃ k2 : Nat, k2 ≤ k ∧ i = .int .i64 (k2 : Nat) ∧ v = .int .i64 (busyN (lb.take k2) at8) ∧ Below w6.heap.size w6 wr) (fun _ i _ => k - (intOf i).toNat)
        case atStart => exact ⟨0, Nat.zero_le _, rfl, by simp [busyN], Below.refl _ _⟩
        case round =>
          obtain ⟨k2, hk2, rfl, rfl, hb⟩ := hrel
          have HB := Lib.hid hb
          clear hb
          by_cases hlt2 : k2 < k
          · have hlti : (k2 : Int) < (k : Int) := by omega
            have hkl : k2 < lb.length := by rw [← HNb.out]; exact hlt2
            obtain ⟨b1, o1, rfl⟩ := lst_at H6.out.2.1 (by omega)
            obtain ⟨q0, q1⟩ := busy_cells (lst_keep encZ_len H6.out.2.1 HB.out) hkl
            have hmt := busy_take at8 (List.getElem?_eq_getElem hkl)
            have hma := (HM.out.1 _ (List.getElem_mem hkl)).2.2
            obtain ⟨g0, g1⟩ := HBd.out k2 at8 (by omega)
            generalize lb[k2] = xy at *
            obtain ⟨x, y⟩ := xy
            simp only at q0 q1 hmt hma
            obtain ⟨y0, y1⟩ := hma
            by_cases htx : at8 < x
            · have HMt := Lib.hid (show busyN (lb.take (k2 + 1)) at8 = busyN (lb.take k2) at8 + y by rw [hmt, if_pos htx])
              clear hmt
              obtain ⟨z, hz⟩ : ∃ z, z = busyN (lb.take k2) at8 := ⟨_, rfl⟩
              rw [← hz] at HMt g0 g1 ⊢
              clear hz
              go_wp2_with fail
              go_roundw
              case rel => exact ⟨k2 + 1, by omega, by go_num, by rw [HMt.out], HB.out⟩
              case measure => simp [intOf]; omega
            · have HMt := Lib.hid (show busyN (lb.take (k2 + 1)) at8 = busyN (lb.take k2) at8 by rw [hmt, if_neg htx]; omega)
              clear hmt
              obtain ⟨z, hz⟩ : ∃ z, z = busyN (lb.take k2) at8 := ⟨_, rfl⟩
              rw [← hz] at HMt g0 g1 ⊢
              clear hz
              go_wp2_with fail
              go_roundw
              case rel => exact ⟨k2 + 1, by omega, by go_num, by rw [HMt.out], HB.out⟩
              case measure => simp [intOf]; omega
          · obtain rfl : k2 = k := by omega
            have hni2 : ¬ (k2 : Int) < (k2 : Int) := by omega
            have htk : busyN (lb.take k2) at8 = takenN T0 at8 := by rw [List.take_of_length_le (by rw [← HNb.out]; exact Nat.le_refl _), HT.out.2.1 at8 at0]
            rw [htk]
            clear htk
            have H7 := Lib.hid (And.intro (below_keep H6.out.1 HB.out) (And.intro (lst_keep encQ_len H6.out.2.2.1 HB.out) (And.intro (lst_keep encO_len H6.out.2.2.2.1 HB.out) (lst_keep encI_len H6.out.2.2.2.2 HB.out))))
            obtain ⟨w7, rfl⟩ : ∃ z, z = wr := ⟨_, rfl⟩
            clear HB H6 hni hlt hk hk2 hlt2
            go_wp2_with fail
            go_loopw [17, 19, 20] (fun v i lv wr => ∃ k : Nat, k ≤ mb ∧ i = .int .i64 (k : Nat) ∧ v = .int .i64 (takenN (endT al 0 T0 (qb.take k) rf) at8) ∧ Below w7.heap.size w7 wr) (fun _ i _ _ => mb - (intOf i).toNat)
            case atStart => exact ⟨0, Nat.zero_le _, rfl, rfl, Below.refl _ _⟩
            case round =>
              obtain ⟨k, hk, rfl, rfl, hb⟩ := hrel
              have HB := Lib.hid hb
              clear hb
              by_cases hlt : k < mb
              · have hlti : (k : Int) < (mb : Int) := by omega
                have hkq : k < qb.length := by rw [← HMb.out]; exact hlt
                obtain ⟨x, hx⟩ : ∃ x, qb[k]? = some x := ⟨_, List.getElem?_eq_getElem hkq⟩
                have hxe := (List.getElem?_eq_some_iff.1 hx).2
                have hok := HMq.out.1 x (List.mem_of_getElem? hx)
                have hgood := endT_good (total := al) (q := qb.take k) (rf := rf) HT.out.1 fun x hx => (HMq.out.1 x (List.mem_of_mem_take hx)).1.1
                have hlq : (qb.take k).length = k := by rw [List.length_take]; omega
                have hbnd := endT_bnd (total := al) (q := qb.take k) (rf := rf) HT.out.1 HT.out.2.2.2.1 (Int.le_refl _) (by omega) fun x hx => ⟨(HMq.out.1 x (List.mem_of_mem_take hx)).1, (HMq.out.1 x (List.mem_of_mem_take hx)).2.2⟩
                have hlen := endT_len (total := al) (now := 0) (qb.take k) T0 rf
                have hpk := pick_counts (total := al) (x := x) (rf := rf.drop k) hgood
                have hle := fun m => pick_le (total := al) (x := x) (rf := rf.drop k) (m := m) hgood hbnd (by omega)
                obtain ⟨hpa, hsn⟩ := plan_at (total := al) (now := 0) (q := qb) (T0 := T0) (rf := rf) hx
                rw [HT.out.2.2.2.2.2.2] at hpa
                obtain ⟨tk, htk⟩ : ∃ tk, tk = endT al 0 T0 (qb.take k) rf := ⟨_, rfl⟩
                rw [← htk] at hgood hbnd hlen hpk hle hpa hsn ⊢
                have htb := taken_bound (l := tk) (bnd_ok hbnd (by omega)) tk.length (by have := HT.out.2.2.2.2.1; omega) at8
                rw [List.take_of_length_le (Nat.le_refl _)] at htb
                obtain ⟨tb0, tb1⟩ := htb
                have hcv0 : countsB al x (rf.drop k) = Esy.countsB al rf k x := by
                  have e1 : (rf.drop k).headD false = rf.getD k false := by
                    rw [List.getD_eq_getElem?_getD, List.headD_eq_head?_getD, List.head?_drop]
                  unfold countsB Esy.countsB
                  rw [e1]
                obtain ⟨cv, hcv⟩ : ∃ cv, cv = Esy.countsB al rf k x := ⟨_, rfl⟩
                rw [← hcv] at hcv0
                obtain ⟨b6, o6, rfl⟩ := lst_at H7.out.2.1 (by omega)
                have HCo := Lib.hid (fun w (hb : Below wr.heap.size wr w) => rcounts_any w al (some ⟨b6, o6, none⟩) mb c6 qb a4 n4 c4 rf k x (lst_keep encQ_len (lst_keep encQ_len H7.out.2.1 HB.out) hb) (lst_keep encO_len (lst_keep encO_len H7.out.2.2.1 HB.out) hb) hlt hx)
                rw [← hcv] at HCo
                obtain ⟨lw, hlw⟩ : ∃ lw, lw = longW x := ⟨_, rfl⟩
                have hlw1 : 1 ≤ lw ∧ lw ≤ 1048576 := by rw [hlw]; exact ⟨longW_pos x, longW_le hok.2.2⟩
                have qq := ask_cells (lst_keep encQ_len H7.out.2.1 HB.out) hkq
                rw [hxe] at qq
                have hlor : (x.wall < 1 ∧ lw = 1) ∨ (¬ x.wall < 1 ∧ lw = x.wall) := by rw [hlw]; unfold longW; split <;> omega
                obtain ⟨b7, o7, rfl⟩ := lst_at H7.out.2.2.2 (by omega)
                have hkL : k < L.length := by rw [HT.out.2.2.2.2.2.1]; exact hlt
                have qp := int_cell (lst_keep encI_len H7.out.2.2.2 HB.out) hkL
                have hpe := (List.getElem?_eq_some_iff.1 hpa).2
                obtain ⟨pv, hpv⟩ : ∃ pv, pv = L[k] := ⟨_, rfl⟩
                rw [← hpv] at qp hpe
                have HQ := Lib.hid qp
                obtain ⟨xn0, xn1⟩ := hok.1
                have hpv2 : (cv = true ∧ 0 ≤ pv ∧ pv ≤ 700000000000000 ∧ takenN (endT al 0 T0 (qb.take (k + 1)) rf) at8 = takenN tk at8 + (if pv ≤ at8 ∧ at8 < pv + lw then x.nodes else 0)) ∨ (cv = false ∧ pv = -1 ∧ takenN (endT al 0 T0 (qb.take (k + 1)) rf) at8 = takenN tk at8) := by
                  rw [hcv0] at hpk
                  rcases hpk with ⟨h1, m, h2, h3⟩ | ⟨h1, h2⟩
                  · have hmm := (hle m h2).2
                    rw [h2] at hpe hsn
                    have hpm : pv = m := hpe
                    refine .inl ⟨h1, by omega, by rw [hlq] at hmm; omega, ?_⟩
                    rw [hsn, hpm, hlw]
                    show takenN (tk ++ [⟨m, m + longW x, x.nodes⟩]) at8 = _
                    rw [takenN_snoc]
                  · rw [h2] at hpe hsn
                    exact .inr ⟨h1, hpe, by rw [hsn]; rfl⟩
                obtain ⟨q0, q1⟩ := qq
                obtain ⟨xn, hxn⟩ : ∃ xn, xn = x.nodes := ⟨_, rfl⟩
                obtain ⟨xw, hxw⟩ : ∃ xw, xw = x.wall := ⟨_, rfl⟩
                rw [← hxn] at q0 xn0 xn1 hpv2
                rw [← hxw] at q1 hlor
                have HPv := Lib.hid hpv2
                clear hgood hlq hbnd hlen hkq hx hxe hok hpk hle hpa hsn htk hcv0 hcv hlw hkL hpe hpv hpv2 hxn hxw
                go_upto_if 94 with fail
                go_cut [20] (fun v wx => v = .int .i64 lw ∧ wx = wr)
                case first =>
                  rcases hlor with ⟨g1, rfl⟩ | ⟨g1, rfl⟩
                  all_goals
                    go_wp2_with fail
                    go_meet
                    case rel => exact ⟨rfl, rfl⟩
                case rest =>
                obtain ⟨rfl, h0⟩ := hcut
                replace h0 := h0.symm
                subst h0
                obtain ⟨l1, l2⟩ := hlw1
                obtain ⟨tz, htz⟩ : ∃ tz, tz = takenN tk at8 := ⟨_, rfl⟩
                rw [← htz] at HPv tb0 tb1 ⊢
                clear hlor htz
                rcases HPv.out with ⟨rfl, p0, p1, hN⟩ | ⟨rfl, rfl, hN⟩
                · have HGe := Lib.hid (show 0 ≤ pv from p0)
                  by_cases s1 : pv ≤ at8
                  · by_cases s2 : at8 < pv + lw
                    · rw [if_pos ⟨s1, s2⟩] at hN
                      have HN := Lib.hid hN
                      clear hN
                      go_wp2_with fail
                      refine Rel.wp_region_rel (G := Rel.Gr) (Rel.tab [.is (.slice (some ⟨b7, o7, none⟩) mb c7), .is (.int .i64 (k : Nat)), .is (.pointer (some ⟨b7, o7 + k, none⟩)), .is (.int .i64 pv), .is (.bool true), .is (.int .i64 al), .is (.slice (some ⟨b6, o6, none⟩) mb c6), .is (.slice a4 n4 c4), .is (.int .i64 (k : Nat)), .is (.bool true), .is (.bool false)]) (fun _ w => Below wr.heap.size wr w) (by kernel_rfl) (by kernel_rfl) (by kernel_rfl) (by kernel_rfl) (fun w => Rel.gr_refl _) (below_drew _) ?_ ?_
                      · refine ⟨?_, ?_, ?_, ?_, ?_, ?_, ?_, ?_, ?_, ?_, ?_, trivial⟩
                        · intro L a w c
                          refine .inl ⟨Rel.wanted_free (by kernel_rfl) _, ?_⟩
                          exact Rel.wp_mv _ rfl ⟨_, rfl, Rel.gr_refl _, (c.old 16 (v := .slice (some ⟨b7, o7, none⟩) mb c7) (by kernel_rfl) (by kernel_rfl)), c.inv⟩
                        · intro L a w c
                          refine .inl ⟨Rel.wanted_free (by kernel_rfl) _, ?_⟩
                          exact Rel.wp_mv _ rfl ⟨_, rfl, Rel.gr_refl _, (c.old 19 (v := .int .i64 (k : Nat)) (by kernel_rfl) (by kernel_rfl)), c.inv⟩
                        · intro L a w c
                          refine .inl ⟨Rel.wanted_free (by kernel_rfl) _, ?_⟩
                          exact Rel.wp_ia _ _ _ rfl (c.get 0 127 (by kernel_rfl)) (c.get 1 128 (by kernel_rfl)) (run_ii hlt w) ⟨_, rfl, Rel.gr_refl _, rfl, c.inv⟩
                        · intro L a w c
                          refine .inl ⟨Rel.wanted_free (by kernel_rfl) _, ?_⟩
                          exact Rel.wp_ld _ _ rfl (c.get 2 129 (by kernel_rfl)) (run_ld2 (cell_keep c.inv HQ.out)) ⟨_, rfl, Rel.gr_refl _, rfl, c.inv⟩
                        · intro L a w c
                          refine .inl ⟨Rel.wanted_free (by kernel_rfl) _, ?_⟩
                          exact Rel.wp_bo _ _ _ _ _ rfl (u := .bool true) (c.get 3 130 (by kernel_rfl)) rfl (by simp [go_sem, HGe.out]) ⟨_, rfl, Rel.gr_refl _, rfl, c.inv⟩
                        · intro L a w c
                          refine .inl ⟨Rel.wanted_free (by kernel_rfl) _, ?_⟩
                          exact Rel.wp_mv _ rfl ⟨_, rfl, Rel.gr_refl _, (c.old 11 (v := .int .i64 al) (by kernel_rfl) (by kernel_rfl)), c.inv⟩
                        · intro L a w c
                          refine .inl ⟨Rel.wanted_free (by kernel_rfl) _, ?_⟩
                          exact Rel.wp_mv _ rfl ⟨_, rfl, Rel.gr_refl _, (c.old 13 (v := .slice (some ⟨b6, o6, none⟩) mb c6) (by kernel_rfl) (by kernel_rfl)), c.inv⟩
                        · intro L a w c
                          refine .inl ⟨Rel.wanted_free (by kernel_rfl) _, ?_⟩
                          exact Rel.wp_mv _ rfl ⟨_, rfl, Rel.gr_refl _, (c.old 3 (v := .slice a4 n4 c4) (by kernel_rfl) (by kernel_rfl)), c.inv⟩
                        · intro L a w c
                          refine .inl ⟨Rel.wanted_free (by kernel_rfl) _, ?_⟩
                          exact Rel.wp_mv _ rfl ⟨_, rfl, Rel.gr_refl _, (c.old 19 (v := .int .i64 (k : Nat)) (by kernel_rfl) (by kernel_rfl)), c.inv⟩
                        · intro L a w c
                          refine .inl ⟨Rel.wanted_free (by kernel_rfl) _, ?_⟩
                          refine Rel.wp_cl _ _ _ rfl Try.func14 (by kernel_rfl) ?_
                          show Calls _ _ #[Rel.slot a 132, Rel.slot a 133, Rel.slot a 134, Rel.slot a 135] w _
                          rw [show Rel.slot a 132 = .int .i64 al from (c.get 5 132 (by kernel_rfl)), show Rel.slot a 133 = .slice (some ⟨b6, o6, none⟩) mb c6 from (c.get 6 133 (by kernel_rfl)), show Rel.slot a 134 = .slice a4 n4 c4 from (c.get 7 134 (by kernel_rfl)), show Rel.slot a 135 = .int .i64 (k : Nat) from (c.get 8 135 (by kernel_rfl))]
                          refine (HCo.out w c.inv).mono ?_
                          rintro e w' ⟨rfl, hb⟩
                          exact ⟨_, rfl, _, rfl, hb, rfl, below_keep c.inv hb⟩
                        · intro L a w c
                          refine .inl ⟨Rel.wanted_free (by kernel_rfl) _, ?_⟩
                          exact Rel.wp_bo _ _ _ _ _ rfl (u := .bool false) (c.get 4 131 (by kernel_rfl)) (c.get 9 136 (by kernel_rfl)) (by simp [go_sem]) ⟨_, rfl, Rel.gr_refl _, rfl, c.inv⟩
                      intro a wd hbase hroom hdef hJ hV
                      have s137 : Rel.slot a 137 = .bool false := hV 10 _ _ rfl rfl
                      rw [Chn.act_puts [127, 128, 129, 130, 131, 132, 133, 134, 135, 136, 137] hbase hroom hdef (by kernel_rfl)]
                      clear hbase hroom hdef hV
                      simp only [List.foldl_cons, List.foldl_nil]
                      generalize Rel.slot a 127 = u127 at *
                      generalize Rel.slot a 128 = u128 at *
                      generalize Rel.slot a 129 = u129 at *
                      generalize Rel.slot a 130 = u130 at *
                      generalize Rel.slot a 131 = u131 at *
                      generalize Rel.slot a 132 = u132 at *
                      generalize Rel.slot a 133 = u133 at *
                      generalize Rel.slot a 134 = u134 at *
                      generalize Rel.slot a 135 = u135 at *
                      generalize Rel.slot a 136 = u136 at *
                      rw [s137]
                      clear s137
                      simp only [Act.put, List.setIfInBounds_toArray, List.set_cons_succ, List.set_cons_zero]
                      have HBd2 := Lib.hid (below_keep HB.out hJ)
                      clear hJ
                      go_wp2_with fail
                      go_roundw
                      case rel => exact ⟨k + 1, by omega, by go_num, by rw [HN.out], HBd2.out⟩
                      case measure => simp [intOf]; omega
                    · rw [if_neg (fun h => s2 h.2), Int.add_zero] at hN
                      have HN := Lib.hid hN
                      clear hN
                      go_wp2_with fail
                      refine Rel.wp_region_rel (G := Rel.Gr) (Rel.tab [.is (.slice (some ⟨b7, o7, none⟩) mb c7), .is (.int .i64 (k : Nat)), .is (.pointer (some ⟨b7, o7 + k, none⟩)), .is (.int .i64 pv), .is (.bool true), .is (.int .i64 al), .is (.slice (some ⟨b6, o6, none⟩) mb c6), .is (.slice a4 n4 c4), .is (.int .i64 (k : Nat)), .is (.bool true), .is (.bool false)]) (fun _ w => Below wr.heap.size wr w) (by kernel_rfl) (by kernel_rfl) (by kernel_rfl) (by kernel_rfl) (fun w => Rel.gr_refl _) (below_drew _) ?_ ?_
                      · refine ⟨?_, ?_, ?_, ?_, ?_, ?_, ?_, ?_, ?_, ?_, ?_, trivial⟩
                        · intro L a w c
                          refine .inl ⟨Rel.wanted_free (by kernel_rfl) _, ?_⟩
                          exact Rel.wp_mv _ rfl ⟨_, rfl, Rel.gr_refl _, (c.old 16 (v := .slice (some ⟨b7, o7, none⟩) mb c7) (by kernel_rfl) (by kernel_rfl)), c.inv⟩
                        · intro L a w c
                          refine .inl ⟨Rel.wanted_free (by kernel_rfl) _, ?_⟩
                          exact Rel.wp_mv _ rfl ⟨_, rfl, Rel.gr_refl _, (c.old 19 (v := .int .i64 (k : Nat)) (by kernel_rfl) (by kernel_rfl)), c.inv⟩
                        · intro L a w c
                          refine .inl ⟨Rel.wanted_free (by kernel_rfl) _, ?_⟩
                          exact Rel.wp_ia _ _ _ rfl (c.get 0 127 (by kernel_rfl)) (c.get 1 128 (by kernel_rfl)) (run_ii hlt w) ⟨_, rfl, Rel.gr_refl _, rfl, c.inv⟩
                        · intro L a w c
                          refine .inl ⟨Rel.wanted_free (by kernel_rfl) _, ?_⟩
                          exact Rel.wp_ld _ _ rfl (c.get 2 129 (by kernel_rfl)) (run_ld2 (cell_keep c.inv HQ.out)) ⟨_, rfl, Rel.gr_refl _, rfl, c.inv⟩
                        · intro L a w c
                          refine .inl ⟨Rel.wanted_free (by kernel_rfl) _, ?_⟩
                          exact Rel.wp_bo _ _ _ _ _ rfl (u := .bool true) (c.get 3 130 (by kernel_rfl)) rfl (by simp [go_sem, HGe.out]) ⟨_, rfl, Rel.gr_refl _, rfl, c.inv⟩
                        · intro L a w c
                          refine .inl ⟨Rel.wanted_free (by kernel_rfl) _, ?_⟩
                          exact Rel.wp_mv _ rfl ⟨_, rfl, Rel.gr_refl _, (c.old 11 (v := .int .i64 al) (by kernel_rfl) (by kernel_rfl)), c.inv⟩
                        · intro L a w c
                          refine .inl ⟨Rel.wanted_free (by kernel_rfl) _, ?_⟩
                          exact Rel.wp_mv _ rfl ⟨_, rfl, Rel.gr_refl _, (c.old 13 (v := .slice (some ⟨b6, o6, none⟩) mb c6) (by kernel_rfl) (by kernel_rfl)), c.inv⟩
                        · intro L a w c
                          refine .inl ⟨Rel.wanted_free (by kernel_rfl) _, ?_⟩
                          exact Rel.wp_mv _ rfl ⟨_, rfl, Rel.gr_refl _, (c.old 3 (v := .slice a4 n4 c4) (by kernel_rfl) (by kernel_rfl)), c.inv⟩
                        · intro L a w c
                          refine .inl ⟨Rel.wanted_free (by kernel_rfl) _, ?_⟩
                          exact Rel.wp_mv _ rfl ⟨_, rfl, Rel.gr_refl _, (c.old 19 (v := .int .i64 (k : Nat)) (by kernel_rfl) (by kernel_rfl)), c.inv⟩
                        · intro L a w c
                          refine .inl ⟨Rel.wanted_free (by kernel_rfl) _, ?_⟩
                          refine Rel.wp_cl _ _ _ rfl Try.func14 (by kernel_rfl) ?_
                          show Calls _ _ #[Rel.slot a 132, Rel.slot a 133, Rel.slot a 134, Rel.slot a 135] w _
                          rw [show Rel.slot a 132 = .int .i64 al from (c.get 5 132 (by kernel_rfl)), show Rel.slot a 133 = .slice (some ⟨b6, o6, none⟩) mb c6 from (c.get 6 133 (by kernel_rfl)), show Rel.slot a 134 = .slice a4 n4 c4 from (c.get 7 134 (by kernel_rfl)), show Rel.slot a 135 = .int .i64 (k : Nat) from (c.get 8 135 (by kernel_rfl))]
                          refine (HCo.out w c.inv).mono ?_
                          rintro e w' ⟨rfl, hb⟩
                          exact ⟨_, rfl, _, rfl, hb, rfl, below_keep c.inv hb⟩
                        · intro L a w c
                          refine .inl ⟨Rel.wanted_free (by kernel_rfl) _, ?_⟩
                          exact Rel.wp_bo _ _ _ _ _ rfl (u := .bool false) (c.get 4 131 (by kernel_rfl)) (c.get 9 136 (by kernel_rfl)) (by simp [go_sem]) ⟨_, rfl, Rel.gr_refl _, rfl, c.inv⟩
                      intro a wd hbase hroom hdef hJ hV
                      have s137 : Rel.slot a 137 = .bool false := hV 10 _ _ rfl rfl
                      rw [Chn.act_puts [127, 128, 129, 130, 131, 132, 133, 134, 135, 136, 137] hbase hroom hdef (by kernel_rfl)]
                      clear hbase hroom hdef hV
                      simp only [List.foldl_cons, List.foldl_nil]
                      generalize Rel.slot a 127 = u127 at *
                      generalize Rel.slot a 128 = u128 at *
                      generalize Rel.slot a 129 = u129 at *
                      generalize Rel.slot a 130 = u130 at *
                      generalize Rel.slot a 131 = u131 at *
                      generalize Rel.slot a 132 = u132 at *
                      generalize Rel.slot a 133 = u133 at *
                      generalize Rel.slot a 134 = u134 at *
                      generalize Rel.slot a 135 = u135 at *
                      generalize Rel.slot a 136 = u136 at *
                      rw [s137]
                      clear s137
                      simp only [Act.put, List.setIfInBounds_toArray, List.set_cons_succ, List.set_cons_zero]
                      have HBd2 := Lib.hid (below_keep HB.out hJ)
                      clear hJ
                      go_wp2_with fail
                      go_roundw
                      case rel => exact ⟨k + 1, by omega, by go_num, by rw [HN.out], HBd2.out⟩
                      case measure => simp [intOf]; omega
                  · rw [if_neg (fun h => s1 h.1), Int.add_zero] at hN
                    have HN := Lib.hid hN
                    clear hN
                    go_wp2_with fail
                    refine Rel.wp_region_rel (G := Rel.Gr) (Rel.tab [.is (.slice (some ⟨b7, o7, none⟩) mb c7), .is (.int .i64 (k : Nat)), .is (.pointer (some ⟨b7, o7 + k, none⟩)), .is (.int .i64 pv), .is (.bool true), .is (.int .i64 al), .is (.slice (some ⟨b6, o6, none⟩) mb c6), .is (.slice a4 n4 c4), .is (.int .i64 (k : Nat)), .is (.bool true), .is (.bool false)]) (fun _ w => Below wr.heap.size wr w) (by kernel_rfl) (by kernel_rfl) (by kernel_rfl) (by kernel_rfl) (fun w => Rel.gr_refl _) (below_drew _) ?_ ?_
                    · refine ⟨?_, ?_, ?_, ?_, ?_, ?_, ?_, ?_, ?_, ?_, ?_, trivial⟩
                      · intro L a w c
                        refine .inl ⟨Rel.wanted_free (by kernel_rfl) _, ?_⟩
                        exact Rel.wp_mv _ rfl ⟨_, rfl, Rel.gr_refl _, (c.old 16 (v := .slice (some ⟨b7, o7, none⟩) mb c7) (by kernel_rfl) (by kernel_rfl)), c.inv⟩
                      · intro L a w c
                        refine .inl ⟨Rel.wanted_free (by kernel_rfl) _, ?_⟩
                        exact Rel.wp_mv _ rfl ⟨_, rfl, Rel.gr_refl _, (c.old 19 (v := .int .i64 (k : Nat)) (by kernel_rfl) (by kernel_rfl)), c.inv⟩
                      · intro L a w c
                        refine .inl ⟨Rel.wanted_free (by kernel_rfl) _, ?_⟩
                        exact Rel.wp_ia _ _ _ rfl (c.get 0 127 (by kernel_rfl)) (c.get 1 128 (by kernel_rfl)) (run_ii hlt w) ⟨_, rfl, Rel.gr_refl _, rfl, c.inv⟩
                      · intro L a w c
                        refine .inl ⟨Rel.wanted_free (by kernel_rfl) _, ?_⟩
                        exact Rel.wp_ld _ _ rfl (c.get 2 129 (by kernel_rfl)) (run_ld2 (cell_keep c.inv HQ.out)) ⟨_, rfl, Rel.gr_refl _, rfl, c.inv⟩
                      · intro L a w c
                        refine .inl ⟨Rel.wanted_free (by kernel_rfl) _, ?_⟩
                        exact Rel.wp_bo _ _ _ _ _ rfl (u := .bool true) (c.get 3 130 (by kernel_rfl)) rfl (by simp [go_sem, HGe.out]) ⟨_, rfl, Rel.gr_refl _, rfl, c.inv⟩
                      · intro L a w c
                        refine .inl ⟨Rel.wanted_free (by kernel_rfl) _, ?_⟩
                        exact Rel.wp_mv _ rfl ⟨_, rfl, Rel.gr_refl _, (c.old 11 (v := .int .i64 al) (by kernel_rfl) (by kernel_rfl)), c.inv⟩
                      · intro L a w c
                        refine .inl ⟨Rel.wanted_free (by kernel_rfl) _, ?_⟩
                        exact Rel.wp_mv _ rfl ⟨_, rfl, Rel.gr_refl _, (c.old 13 (v := .slice (some ⟨b6, o6, none⟩) mb c6) (by kernel_rfl) (by kernel_rfl)), c.inv⟩
                      · intro L a w c
                        refine .inl ⟨Rel.wanted_free (by kernel_rfl) _, ?_⟩
                        exact Rel.wp_mv _ rfl ⟨_, rfl, Rel.gr_refl _, (c.old 3 (v := .slice a4 n4 c4) (by kernel_rfl) (by kernel_rfl)), c.inv⟩
                      · intro L a w c
                        refine .inl ⟨Rel.wanted_free (by kernel_rfl) _, ?_⟩
                        exact Rel.wp_mv _ rfl ⟨_, rfl, Rel.gr_refl _, (c.old 19 (v := .int .i64 (k : Nat)) (by kernel_rfl) (by kernel_rfl)), c.inv⟩
                      · intro L a w c
                        refine .inl ⟨Rel.wanted_free (by kernel_rfl) _, ?_⟩
                        refine Rel.wp_cl _ _ _ rfl Try.func14 (by kernel_rfl) ?_
                        show Calls _ _ #[Rel.slot a 132, Rel.slot a 133, Rel.slot a 134, Rel.slot a 135] w _
                        rw [show Rel.slot a 132 = .int .i64 al from (c.get 5 132 (by kernel_rfl)), show Rel.slot a 133 = .slice (some ⟨b6, o6, none⟩) mb c6 from (c.get 6 133 (by kernel_rfl)), show Rel.slot a 134 = .slice a4 n4 c4 from (c.get 7 134 (by kernel_rfl)), show Rel.slot a 135 = .int .i64 (k : Nat) from (c.get 8 135 (by kernel_rfl))]
                        refine (HCo.out w c.inv).mono ?_
                        rintro e w' ⟨rfl, hb⟩
                        exact ⟨_, rfl, _, rfl, hb, rfl, below_keep c.inv hb⟩
                      · intro L a w c
                        refine .inl ⟨Rel.wanted_free (by kernel_rfl) _, ?_⟩
                        exact Rel.wp_bo _ _ _ _ _ rfl (u := .bool false) (c.get 4 131 (by kernel_rfl)) (c.get 9 136 (by kernel_rfl)) (by simp [go_sem]) ⟨_, rfl, Rel.gr_refl _, rfl, c.inv⟩
                    intro a wd hbase hroom hdef hJ hV
                    have s137 : Rel.slot a 137 = .bool false := hV 10 _ _ rfl rfl
                    rw [Chn.act_puts [127, 128, 129, 130, 131, 132, 133, 134, 135, 136, 137] hbase hroom hdef (by kernel_rfl)]
                    clear hbase hroom hdef hV
                    simp only [List.foldl_cons, List.foldl_nil]
                    generalize Rel.slot a 127 = u127 at *
                    generalize Rel.slot a 128 = u128 at *
                    generalize Rel.slot a 129 = u129 at *
                    generalize Rel.slot a 130 = u130 at *
                    generalize Rel.slot a 131 = u131 at *
                    generalize Rel.slot a 132 = u132 at *
                    generalize Rel.slot a 133 = u133 at *
                    generalize Rel.slot a 134 = u134 at *
                    generalize Rel.slot a 135 = u135 at *
                    generalize Rel.slot a 136 = u136 at *
                    rw [s137]
                    clear s137
                    simp only [Act.put, List.setIfInBounds_toArray, List.set_cons_succ, List.set_cons_zero]
                    have HBd2 := Lib.hid (below_keep HB.out hJ)
                    clear hJ
                    go_wp2_with fail
                    go_roundw
                    case rel => exact ⟨k + 1, by omega, by go_num, by rw [HN.out], HBd2.out⟩
                    case measure => simp [intOf]; omega
                · have HN := Lib.hid hN
                  clear hN
                  go_wp2_with fail
                  refine Rel.wp_region_rel (G := Rel.Gr) (Rel.tab [.is (.slice (some ⟨b7, o7, none⟩) mb c7), .is (.int .i64 (k : Nat)), .is (.pointer (some ⟨b7, o7 + k, none⟩)), .is (.int .i64 (-1)), .is (.bool false), .is (.int .i64 al), .is (.slice (some ⟨b6, o6, none⟩) mb c6), .is (.slice a4 n4 c4), .is (.int .i64 (k : Nat)), .is (.bool false), .is (.bool false)]) (fun _ w => Below wr.heap.size wr w) (by kernel_rfl) (by kernel_rfl) (by kernel_rfl) (by kernel_rfl) (fun w => Rel.gr_refl _) (below_drew _) ?_ ?_
                  · refine ⟨?_, ?_, ?_, ?_, ?_, ?_, ?_, ?_, ?_, ?_, ?_, trivial⟩
                    · intro L a w c
                      refine .inl ⟨Rel.wanted_free (by kernel_rfl) _, ?_⟩
                      exact Rel.wp_mv _ rfl ⟨_, rfl, Rel.gr_refl _, (c.old 16 (v := .slice (some ⟨b7, o7, none⟩) mb c7) (by kernel_rfl) (by kernel_rfl)), c.inv⟩
                    · intro L a w c
                      refine .inl ⟨Rel.wanted_free (by kernel_rfl) _, ?_⟩
                      exact Rel.wp_mv _ rfl ⟨_, rfl, Rel.gr_refl _, (c.old 19 (v := .int .i64 (k : Nat)) (by kernel_rfl) (by kernel_rfl)), c.inv⟩
                    · intro L a w c
                      refine .inl ⟨Rel.wanted_free (by kernel_rfl) _, ?_⟩
                      exact Rel.wp_ia _ _ _ rfl (c.get 0 127 (by kernel_rfl)) (c.get 1 128 (by kernel_rfl)) (run_ii hlt w) ⟨_, rfl, Rel.gr_refl _, rfl, c.inv⟩
                    · intro L a w c
                      refine .inl ⟨Rel.wanted_free (by kernel_rfl) _, ?_⟩
                      exact Rel.wp_ld _ _ rfl (c.get 2 129 (by kernel_rfl)) (run_ld2 (cell_keep c.inv HQ.out)) ⟨_, rfl, Rel.gr_refl _, rfl, c.inv⟩
                    · intro L a w c
                      refine .inl ⟨Rel.wanted_free (by kernel_rfl) _, ?_⟩
                      exact Rel.wp_bo _ _ _ _ _ rfl (u := .bool false) (c.get 3 130 (by kernel_rfl)) rfl (by simp [go_sem]) ⟨_, rfl, Rel.gr_refl _, rfl, c.inv⟩
                    · intro L a w c
                      refine .inl ⟨Rel.wanted_free (by kernel_rfl) _, ?_⟩
                      exact Rel.wp_mv _ rfl ⟨_, rfl, Rel.gr_refl _, (c.old 11 (v := .int .i64 al) (by kernel_rfl) (by kernel_rfl)), c.inv⟩
                    · intro L a w c
                      refine .inl ⟨Rel.wanted_free (by kernel_rfl) _, ?_⟩
                      exact Rel.wp_mv _ rfl ⟨_, rfl, Rel.gr_refl _, (c.old 13 (v := .slice (some ⟨b6, o6, none⟩) mb c6) (by kernel_rfl) (by kernel_rfl)), c.inv⟩
                    · intro L a w c
                      refine .inl ⟨Rel.wanted_free (by kernel_rfl) _, ?_⟩
                      exact Rel.wp_mv _ rfl ⟨_, rfl, Rel.gr_refl _, (c.old 3 (v := .slice a4 n4 c4) (by kernel_rfl) (by kernel_rfl)), c.inv⟩
                    · intro L a w c
                      refine .inl ⟨Rel.wanted_free (by kernel_rfl) _, ?_⟩
                      exact Rel.wp_mv _ rfl ⟨_, rfl, Rel.gr_refl _, (c.old 19 (v := .int .i64 (k : Nat)) (by kernel_rfl) (by kernel_rfl)), c.inv⟩
                    · intro L a w c
                      refine .inl ⟨Rel.wanted_free (by kernel_rfl) _, ?_⟩
                      refine Rel.wp_cl _ _ _ rfl Try.func14 (by kernel_rfl) ?_
                      show Calls _ _ #[Rel.slot a 132, Rel.slot a 133, Rel.slot a 134, Rel.slot a 135] w _
                      rw [show Rel.slot a 132 = .int .i64 al from (c.get 5 132 (by kernel_rfl)), show Rel.slot a 133 = .slice (some ⟨b6, o6, none⟩) mb c6 from (c.get 6 133 (by kernel_rfl)), show Rel.slot a 134 = .slice a4 n4 c4 from (c.get 7 134 (by kernel_rfl)), show Rel.slot a 135 = .int .i64 (k : Nat) from (c.get 8 135 (by kernel_rfl))]
                      refine (HCo.out w c.inv).mono ?_
                      rintro e w' ⟨rfl, hb⟩
                      exact ⟨_, rfl, _, rfl, hb, rfl, below_keep c.inv hb⟩
                    · intro L a w c
                      refine .inl ⟨Rel.wanted_free (by kernel_rfl) _, ?_⟩
                      exact Rel.wp_bo _ _ _ _ _ rfl (u := .bool false) (c.get 4 131 (by kernel_rfl)) (c.get 9 136 (by kernel_rfl)) (by simp [go_sem]) ⟨_, rfl, Rel.gr_refl _, rfl, c.inv⟩
                  intro a wd hbase hroom hdef hJ hV
                  have s137 : Rel.slot a 137 = .bool false := hV 10 _ _ rfl rfl
                  rw [Chn.act_puts [127, 128, 129, 130, 131, 132, 133, 134, 135, 136, 137] hbase hroom hdef (by kernel_rfl)]
                  clear hbase hroom hdef hV
                  simp only [List.foldl_cons, List.foldl_nil]
                  generalize Rel.slot a 127 = u127 at *
                  generalize Rel.slot a 128 = u128 at *
                  generalize Rel.slot a 129 = u129 at *
                  generalize Rel.slot a 130 = u130 at *
                  generalize Rel.slot a 131 = u131 at *
                  generalize Rel.slot a 132 = u132 at *
                  generalize Rel.slot a 133 = u133 at *
                  generalize Rel.slot a 134 = u134 at *
                  generalize Rel.slot a 135 = u135 at *
                  generalize Rel.slot a 136 = u136 at *
                  rw [s137]
                  clear s137
                  simp only [Act.put, List.setIfInBounds_toArray, List.set_cons_succ, List.set_cons_zero]
                  have HBd2 := Lib.hid (below_keep HB.out hJ)
                  clear hJ
                  go_wp2_with fail
                  go_roundw
                  case rel => exact ⟨k + 1, by omega, by go_num, by rw [HN.out], HBd2.out⟩
                  case measure => simp [intOf]; omega
              · obtain rfl : k = mb := by omega
                have hni : ¬ (k : Int) < (k : Int) := by omega
                have htk : qb.take k = qb := List.take_of_length_le (by rw [← HMb.out]; exact Nat.le_refl _)
                have hrm := endT_room (total := al) (q := qb) (rf := rf) HT.out.1 (fun x hx => (HMq.out.1 x hx).1.1) HT.out.2.2.1 at8 at0
                rw [htk]
                unfold freeT at hrm
                obtain ⟨tz, htz⟩ : ∃ tz, tz = takenN (endT al 0 T0 qb rf) at8 := ⟨_, rfl⟩
                rw [← htz] at hrm ⊢
                have hle : tz ≤ al := by omega
                have H8 := Lib.hid (below_keep H7.out.1 HB.out)
                have HCa := Lib.hid (awake_any HP.out wr)
                clear htk hrm htz HB
                go_wp2_with fail
                refine HCa.out.mono ?_
                rintro e w8 ⟨rfl, hb8⟩
                have H9 := Lib.hid (below_keep H8.out hb8)
                clear hb8 HCa
                go_wp2_with fail
                go_ret
                exact ⟨by first | rfl | exact ret_bool (by simp [hle]), H9.out⟩
end Go.Proofs.Ytckebhknnocpkaa.Cns
