/- Profile: ProfileCounts, over any profiles that do as they should. -/
import Derived.Test.YtagecoofaoaodaaPrfTkL
namespace Go.Proofs.Ytagecoofaoaodaa.Prf
set_option maxRecDepth 100000
open Go.RowKit
open Go.Sort
open Kit
open Tre (Lst inI lst_keep lst_take lst_at lst_new lst_none below_drewN' run_ld2)
set_option linter.unusedVariables false
variable {w w' : World}

theorem norm_at : ∀ {p : List St} {k : Nat} {x y : St}, Norm p → p[k]? = some x → p[k + 1]? = some y → x.tick < y.tick ∧ x.free ≠ y.free
  | [], _, _, _, _, h, _ => by simp at h
  | [_], 0, _, _, _, _, h => by simp at h
  | [_], k + 1, _, _, _, h, _ => by simp at h
  | a :: b :: l, 0, x, y, hn, h1, h2 => by
    simp at h1 h2
    subst h1 h2
    exact ⟨hn.1, hn.2.1⟩
  | a :: b :: l, k + 1, x, y, hn, h1, h2 => norm_at (p := b :: l) (k := k) hn.2.2 (by simpa using h1) (by simpa using h2)
set_option maxHeartbeats 8000000 in
theorem counts_any (hP : Prog) (W : World) (total : Int) (ab : Option Addr) (n cb : Nat) (l : List Bz) (t : Int) (h : Busys W ab n cb l) (h0 : 0 ≤ total ∧ total ≤ 255) (h4 : 0 ≤ t ∧ t ≤ 255) :
    Calls Try.prog 4 #[.int .u8 total, .slice ab n cb, .int .u8 t] W fun e w' => e = .returned (.bool true) ∧ Below W.heap.size W w' := by
  have HP := Lib.hid hP
  have HC0 := Lib.hid (rbusy_any W ab n cb l h)
  obtain ⟨h00, h01⟩ := h0
  obtain ⟨h40, h41⟩ := h4
  clear hP h
  go_enter Try.func4, Try.ntmps4
  go_wp2_with fail
  refine HC0.out.mono ?_
  rintro e w1 ⟨v1, rfl, ho1, hb1⟩
  obtain ⟨a1, c1, rfl, hl1⟩ := own_busys ho1
  obtain ⟨lb, hlb⟩ : ∃ lb, lb = busyH l := ⟨_, rfl⟩
  rw [← hlb] at hl1 ⊢
  have hmay := busyH_may (l := l)
  rw [← hlb] at hmay
  obtain ⟨nb, hnb⟩ : ∃ nb, nb = lb.length := ⟨_, rfl⟩
  rw [← hnb] at hl1 ⊢
  have hnb40 : nb ≤ 40 := by omega
  have H1 := Lib.hid (And.intro hb1 (And.intro hl1 hmay))
  have HC1 := Lib.hid (HP.out.new w1 0 total a1 nb c1 lb ⟨by omega, by omega⟩ (nd8 h00 (by omega)) hl1 hmay.1 (by omega))
  have HNb := Lib.hid hnb
  clear hb1 ho1 hl1 hmay hnb hlb HC0
  go_wp2_with fail
  refine HC1.out.mono ?_
  rintro e w2 ⟨a2, c2, p, rfl, hs2, hp2, hb2⟩
  have hg2 : Pg 0 p 0 := pg_new ⟨by omega, by omega⟩ (nd8 h00 (by omega)) H1.out.2.2.1 H1.out.2.2.2 hp2
  have hpt := hp2.fn t h40
  unfold newF at hpt
  have hnp1 : 1 ≤ p.length := by
    obtain ⟨f, l', e⟩ := hg2.head
    rw [e]; simp
  have hnp2 : p.length ≤ 1000 := by have := hg2.len; omega
  obtain ⟨np, hnp⟩ : ∃ np, np = p.length := ⟨_, rfl⟩
  rw [← hnp] at hs2 hnp1 hnp2 ⊢
  have H2 := Lib.hid (And.intro (below_keep H1.out.1 hb2) (And.intro hs2 (And.intro (lst_keep encZ_len H1.out.2.1 hb2) hg2)))
  have HNp := Lib.hid (And.intro hnp hpt)
  have HBd := Lib.hid (fun k (hk : k ≤ 1000) => busy_bound (l := lb) H1.out.2.2.1 k hk t)
  clear hs2 hp2 hb2 hg2 hnp hpt HC1
  go_wp2_with fail
  go_loopw [9, 10] (fun v i wr => ∃ k : Nat, k ≤ nb ∧ i = .int .i64 (k : Nat) ∧ v = .int .i64 (total - busyN (lb.take k) t) ∧ Below w2.heap.size w2 wr) (fun _ i _ => nb - (intOf i).toNat)
  case atStart => exact ⟨0, Nat.zero_le _, rfl, by simp [busyN], Below.refl _ _⟩
  case round =>
    obtain ⟨k, hk, rfl, rfl, hb⟩ := hrel
    have HB := Lib.hid hb
    clear hb
    by_cases hlt : k < nb
    · have hlti : (k : Int) < (nb : Int) := by omega
      have hkl : k < lb.length := by rw [← HNb.out]; exact hlt
      obtain ⟨b1, o1, rfl⟩ := lst_at H2.out.2.2.1 (by omega)
      obtain ⟨q0, q1⟩ := busy_cells (lst_keep encZ_len H2.out.2.2.1 HB.out) hkl
      have hmt := busy_take t (List.getElem?_eq_getElem hkl)
      have hma := (H1.out.2.2.1 _ (List.getElem_mem hkl)).2
      obtain ⟨g0, g1⟩ := HBd.out k (by omega)
      generalize lb[k] = xy at *
      obtain ⟨x, y⟩ := xy
      simp only at q0 q1 hmt hma
      obtain ⟨y0, y1⟩ := hma
      by_cases htx : t < x
      · have HMt := Lib.hid (show total - busyN (lb.take (k + 1)) t = total - busyN (lb.take k) t - y by rw [hmt, if_pos htx]; omega)
        clear hmt
        obtain ⟨z, hz⟩ : ∃ z, z = busyN (lb.take k) t := ⟨_, rfl⟩
        rw [← hz] at HMt g0 g1 ⊢
        clear hz
        go_wp2_with fail
        go_roundw
        case rel => exact ⟨k + 1, by omega, by go_num, by rw [HMt.out], HB.out⟩
        case measure => simp [intOf]; omega
      · have HMt := Lib.hid (show total - busyN (lb.take (k + 1)) t = total - busyN (lb.take k) t by rw [hmt, if_neg htx]; omega)
        clear hmt
        obtain ⟨z, hz⟩ : ∃ z, z = busyN (lb.take k) t := ⟨_, rfl⟩
        rw [← hz] at HMt g0 g1 ⊢
        clear hz
        go_wp2_with fail
        go_roundw
        case rel => exact ⟨k + 1, by omega, by go_num, by rw [HMt.out], HB.out⟩
        case measure => simp [intOf]; omega
    · obtain rfl : k = nb := by omega
      have hni : ¬ (k : Int) < (k : Int) := by omega
      have htk : lb.take k = lb := List.take_of_length_le (by rw [← HNb.out]; exact Nat.le_refl _)
      rw [htk]
      clear htk
      go_wp2_with fail
      go_loopw [11] (fun i wr => ∃ k1 : Nat, k1 + 1 ≤ np ∧ i = .int .i64 ((k1 : Nat) + 1 : Int) ∧ Below w2.heap.size w2 wr) (fun i _ => np - (intOf i).toNat)
      case atStart => exact ⟨0, hnp1, rfl, HB.out⟩
      case round =>
        obtain ⟨k1, hk1, rfl, hb⟩ := hrel
        have HB2 := Lib.hid hb
        clear hb
        by_cases hlt1 : k1 + 1 < np
        · have hl1i : (k1 : Int) + 1 < (np : Int) := by omega
          have hkp : k1 < p.length := by rw [← HNp.out.1]; omega
          have hkp1 : k1 + 1 < p.length := by rw [← HNp.out.1]; exact hlt1
          obtain ⟨b2, o2, rfl⟩ := lst_at H2.out.2.1 (by omega)
          obtain ⟨q0, q1⟩ := step_cells (lst_keep encS_len H2.out.2.1 HB2.out) hkp
          obtain ⟨r0, r1⟩ := step_cells (lst_keep encS_len H2.out.2.1 HB2.out) hkp1
          obtain ⟨d0, d1⟩ := norm_at H2.out.2.2.2.norm (List.getElem?_eq_getElem hkp) (List.getElem?_eq_getElem hkp1)
          generalize p[k1] = x at *
          generalize p[k1 + 1] = y at *
          obtain ⟨x0, x1⟩ := x
          obtain ⟨y0, y1⟩ := y
          simp only at q0 q1 r0 r1 d0 d1
          have e0 : decide (y0 ≤ x0) = false := decide_eq_false (by omega)
          have e1 : (y1 == x1) = false := beq_false_of_ne fun e => d1 e.symm
          clear d0 d1
          go_wp2_with fail
          go_quiet (fail)
          go_wp2_with fail
          go_roundw
          case rel => exact ⟨k1 + 1, by omega, by go_num, below_keep HB2.out (below_drewN' _ _)⟩
          case measure => simp [intOf]; omega
        · obtain rfl : np = k1 + 1 := by omega
          have hl1i : ¬ (k1 : Int) + 1 < (k1 : Int) + 1 := by omega
          have HC5 := Lib.hid (awake_any HP.out wr)
          go_wp2_with fail
          refine HC5.out.mono ?_
          rintro e w7 ⟨rfl, hb7⟩
          have H7 := Lib.hid (And.intro (below_keep (below_keep H2.out.1 HB2.out) hb7) (lst_keep encS_len (lst_keep encS_len H2.out.2.1 HB2.out) hb7))
          have HC7 := Lib.hid (HP.out.at_ w7 t a2 (k1 + 1) c2 p (tk8 h40 (by omega)) H7.out.2 (H2.out.2.2.2.pf (by omega)))
          rw [HNp.out.2] at HC7
          clear hb7 HC5
          go_wp2_with fail
          refine HC7.out.mono ?_
          rintro e w8 ⟨rfl, hb8⟩
          have H8 := Lib.hid (below_keep H7.out.1 hb8)
          clear hb8 HC7
          go_wp2_with fail
          go_ret
          exact ⟨rfl, H8.out⟩
end Go.Proofs.Ytagecoofaoaodaa.Prf
