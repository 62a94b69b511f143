/- Tree: the landed Use and Over, as they run. -/
import Derived.Test.YtpciijihedlheaaTreLnd
import Derived.Test.YtpciijihedlheaaTreUse
import Derived.Test.YtpciijihedlheaaTreOvr
namespace Go.Proofs.Ytpciijihedlheaa.Tre
set_option maxRecDepth 100000
open Go.RowKit
open Go.Sort
open Kit
open Mon
set_option linter.unusedVariables false
variable {w w' : World}

theorem alloc_cells6 {b o n c k : Nat} {l : List Al} (h : Allocs w (some ⟨b, o, none⟩) n c l) (hk : k < l.length) :
    w.cell? ⟨b, o + k * 6, none⟩ = some (.int .i64 l[k].fund) ∧ w.cell? ⟨b, o + k * 6 + 1, none⟩ = some (.int .i64 l[k].from') ∧ w.cell? ⟨b, o + k * 6 + 2, none⟩ = some (.int .i64 l[k].till) ∧ w.cell? ⟨b, o + k * 6 + 3, none⟩ = some (.int .i64 l[k].avail) ∧ w.cell? ⟨b, o + k * 6 + 4, none⟩ = some (.int .i64 l[k].lien) ∧ w.cell? ⟨b, o + k * 6 + 5, none⟩ = some (.int .i64 l[k].spent) :=
  ⟨row_cell h.row hk rfl (i := 0) (by omega), row_cell h.row hk rfl (i := 1) (by omega), row_cell h.row hk rfl (i := 2) (by omega), row_cell h.row hk rfl (i := 3) (by omega), row_cell h.row hk rfl (i := 4) (by omega), row_cell h.row hk rfl (i := 5) (by omega)⟩
theorem boxed_alloc (w : World) (x0 x1 x2 x3 x4 x5 : Int) :
    (w.alloc (.cells #[.int .i64 x0, .int .i64 x1, .int .i64 x2, .int .i64 x3, .int .i64 x4, .int .i64 x5] 43)).cell? ⟨w.heap.size, 0, none⟩ = some (.int .i64 x0) ∧ (w.alloc (.cells #[.int .i64 x0, .int .i64 x1, .int .i64 x2, .int .i64 x3, .int .i64 x4, .int .i64 x5] 43)).cell? ⟨w.heap.size, 4, none⟩ = some (.int .i64 x4) ∧ (w.alloc (.cells #[.int .i64 x0, .int .i64 x1, .int .i64 x2, .int .i64 x3, .int .i64 x4, .int .i64 x5] 43)).cell? ⟨w.heap.size, 5, none⟩ = some (.int .i64 x5) := by
  refine ⟨?_, ?_, ?_⟩
  all_goals
    rw [World.cell?_alloc_new]
    rfl
theorem lit2_row (w : World) (x y : Int) : Kit.Row encI 1 (w.alloc (.cells #[.int .i64 x, .int .i64 y] 3)) (some ⟨w.heap.size, 0, none⟩) [x, y] := row_new encI_len w [x, y] _ _ _ rfl rfl

set_option maxHeartbeats 4000000 in
theorem use_any (l : List Fd) (hok : ∀ x ∈ l, x.ok) (a : Option Addr) (n c : Nat) (al : List Al) (hoka : ∀ x ∈ al, x.ok) (a2 : Option Addr) (n2 c2 : Nat) (w : World) (h : Funds w a n c l) (hn : n ≤ 100) (h2 : Allocs w a2 n2 c2 al) (hn2 : n2 ≤ 100) (f : Int) :
    Calls Try.prog 14 #[.slice a n c, .slice a2 n2 c2, .int .i64 f] w fun e w' => e = .returned (.tuple #[.int .i64 (useN l al f), .int .i64 (useE l al f)]) ∧ Below w.heap.size w w' := by
  have HL := Lib.hid (And.intro h (And.intro h2 (And.intro hok hoka)))
  have hll := h.len
  have hl2 := h2.len
  have HLl := Lib.hid (And.intro hll hl2)
  by_cases hf : 0 ≤ f ∧ f < n
  · have hi1 : ¬ f < 0 := by omega
    have hi2 : ¬ (n : Int) ≤ f := by omega
    have HU := Lib.hid (show useN l al f = addN (amounts l al f) ∧ useE l al f = addE (amounts l al f) by
      unfold useN useE
      rw [hll, if_pos hf, if_pos hf]
      exact ⟨rfl, rfl⟩)
    clear h h2 hok hoka hf hll hl2
    go_enter Try.func14, Try.ntmps14
    go_wp2_with fail
    go_loopw [8, 10, 21] (fun v _ i wr => ∃ k : Nat, k ≤ n2 ∧ i = .int .i64 (k : Nat) ∧ OwI wr w.heap.size v (amounts l (al.take k) f) ∧ Below w.heap.size w wr) (fun _ _ i _ => n2 - (intOf i).toNat)
    case atStart => exact ⟨0, Nat.zero_le _, rfl, owns_nil _ _ _, Below.refl _ _⟩
    case round =>
      obtain ⟨k, hk, rfl, hown, hb⟩ := hrel
      have HO := Lib.hid (And.intro hown hb)
      clear hown hb
      by_cases hlt : k < n2
      · have hka : k < al.length := by rw [HLl.out.2]; exact hlt
        obtain ⟨b2, o2, rfl⟩ := lst_at HL.out.2.1 (by omega)
        obtain ⟨q0, q1, q2, q3, q4, q5⟩ := alloc_cells6 (lst_keep encL_len HL.out.2.1 HO.out.2) hka
        have hsn := amounts_snoc (l := l) (f := f) (List.getElem?_eq_getElem hka)
        generalize al[k] = x at *
        obtain ⟨x0, x1, x2, x3, x4, x5⟩ := x
        simp only at q0 q1 q2 q3 q4 q5 hsn
        have HS := Lib.hid hsn
        obtain ⟨c0, c4, c5⟩ := boxed_alloc wr x0 x1 x2 x3 x4 x5
        have HW := Lib.hid (And.intro (below_alloc wr (.cells #[.int .i64 x0, .int .i64 x1, .int .i64 x2, .int .i64 x3, .int .i64 x4, .int .i64 x5] 43)) (And.intro c4 c5))
        clear hsn c4 c5
        go_wp2_with fail
        refine (path_any l HL.out.2.2.1 a n c _ (lst_keep encF_len HL.out.1 (below_keep HO.out.2 HW.out.1)) hn x0).mono ?_
        rintro e w1 ⟨v1, rfl, hn1, hb1⟩
        obtain ⟨p, hp⟩ : ∃ p, p = path l x0 := ⟨_, rfl⟩
        rw [← hp] at hn1
        obtain ⟨a1, c1, rfl, hl, -⟩ := hn1
        obtain ⟨m, hm⟩ : ∃ m, m = p.length := ⟨_, rfl⟩
        rw [← hm] at hl ⊢
        have HP := Lib.hid (And.intro hp hl)
        have hb01 := below_keep HW.out.1 hb1
        have HB1 := Lib.hid (And.intro (own_chg' HO.out.1 hb01) (below_keep HO.out.2 hb01))
        have k4 := cell_keep hb1 HW.out.2.1
        have k5 := cell_keep hb1 HW.out.2.2
        clear hp hl hm hb01 hb1 q0 q1 q2 q3 q4 q5 c0
        go_wp2_with fail
        refine (contains_any p a1 m c1 w1 HP.out.2 f).mono ?_
        rintro e w2 ⟨rfl, rfl⟩
        cases hc : p.contains f with
        | false =>
          have HS2 := Lib.hid (show amounts l (al.take (k + 1)) f = amounts l (al.take k) f by rw [HS.out, ← HP.out.1, hc]; simp)
          clear hc
          go_wp2_with fail
          go_roundw
          case rel => exact ⟨k + 1, by omega, by go_num, by rw [HS2.out]; exact HB1.out.1, HB1.out.2⟩
          case measure => simp [intOf]; omega
        | true =>
          have HS2 := Lib.hid (show amounts l (al.take (k + 1)) f = amounts l (al.take k) f ++ [x4, x5] by rw [HS.out, ← HP.out.1, hc, if_pos rfl])
          clear hc
          have hlx2 : (amounts l (al.take k) f).length ≤ 200 := by
            have h1 := amounts_length l f (al.take k)
            have h2 : (al.take k).length ≤ k := by rw [List.length_take]; exact Nat.min_le_left _ _
            omega
          obtain ⟨lx, hlx⟩ : ∃ y, y = amounts l (al.take k) f := ⟨_, rfl⟩
          rw [← hlx] at HB1 HS2 hlx2
          have HA1 := Lib.hid (own_chg' HB1.out.1 (below_alloc w1 (.cells #[.int .i64 x4, .int .i64 x5] 3)))
          have HA2 := Lib.hid (lit2_row w1 x4 x5)
          have HA3 := Lib.hid (below_keep HB1.out.2 (below_alloc w1 (.cells #[.int .i64 x4, .int .i64 x5] 3)))
          have HD1 := Lib.hid (show lx.length + 2 ≤ maxLen by unfold maxLen; omega)
          have HD2 := Lib.hid (show (lx.length + 2) * 8 ≤ 140737488355328 by omega)
          clear hlx hlx2
          go_wp2_with (first | (at_builtin; refine Two.append_apart encI_len Nat.zero_lt_one encI_one rfl (.tmp 31) (.tmp 36) 29 3 rfl Try.underlying29 (.int .i64 0) 8 info_i rfl w.heap.size _ lx rfl HA1.out (some ⟨w1.heap.size, 0, none⟩) 2 2 [x4, x5] rfl rfl HA2.out (fun h => by cases h) HD1.out HD2.out HA3.out.size ?_; intro v9 w9 ho9 hg9 _; have HB9 := Lib.hid (HA3.out.trans (Two.below_grown HA1.out hg9 HA3.out.size)); have HO9 := Lib.hid ho9; clear ho9 hg9) | fail)
          go_roundw
          case rel => exact ⟨k + 1, by omega, by go_num, by rw [HS2.out]; exact HO9.out, HB9.out⟩
          case measure => simp [intOf]; omega
      · obtain rfl : k = n2 := by omega
        obtain ⟨a8, c8, rfl, g1, g2, g3, g4⟩ := owns_row encI_len HO.out.1
        have htk : al.take k = al := List.take_of_length_le (by rw [HLl.out.2]; exact Nat.le_refl _)
        rw [htk] at g1 g4 ⊢
        have hel : Elems wr a8 (amounts l al f) := ints_elems ⟨rfl, g1, g2, fun e => ⟨by have := g3 e; omega, g3 e⟩, g4⟩
        have HE := Lib.hid (And.intro hel (And.intro (show (amounts l al f).length ≤ maxLen from Nat.le_trans g1 g2) HO.out.2))
        obtain ⟨m, hm⟩ : ∃ m, m = (amounts l al f).length := ⟨_, rfl⟩
        rw [← hm]
        have HM := Lib.hid hm
        clear g1 g2 g3 g4 htk hel hm HO
        go_wp2_with fail
        refine (add_any a8 m c8 (amounts l al f) wr HM.out.symm (by rw [HM.out]; exact HE.out.2.1) HE.out.1).mono ?_
        rintro e w1 ⟨rfl, rfl⟩
        go_wp2_with fail
        go_ret2
        exact ⟨by rw [HU.out.1, HU.out.2]; rfl, HE.out.2.2⟩
  · have hor : f < 0 ∨ (¬ f < 0 ∧ (n : Int) ≤ f) := by omega
    have HU := Lib.hid (show useN l al f = 0 ∧ useE l al f = 4 by
      unfold useN useE
      rw [hll, if_neg hf, if_neg hf]
      exact ⟨rfl, rfl⟩)
    clear h h2 hok hoka hf hll hl2
    rcases hor with ho | ⟨ho, ho2⟩
    all_goals
      go_enter Try.func14, Try.ntmps14
      go_wp2_with fail
      go_ret2
      exact ⟨by rw [HU.out.1, HU.out.2]; rfl, Below.refl _ _⟩

set_option maxHeartbeats 2000000 in
theorem exceeds_any (l : List Fd) (hok : ∀ x ∈ l, x.ok) (a : Option Addr) (n c : Nat) (al : List Al) (hoka : ∀ x ∈ al, x.ok) (a2 : Option Addr) (n2 c2 : Nat) (w : World) (h : Funds w a n c l) (hn : n ≤ 100) (h2 : Allocs w a2 n2 c2 al) (hn2 : n2 ≤ 100) (k : Nat) (x : Fd) (hx : l[k]? = some x) :
    Calls Try.prog 24 #[.slice a n c, .slice a2 n2 c2, .int .i64 (k : Nat)] w fun e w' => e = .returned (.bool (decide (useE l al k ≠ 0) || decide (x.lim < useN l al k))) ∧ Below w.heap.size w w' := by
  have hkl := (List.getElem?_eq_some_iff.1 hx).1
  have hxe := (List.getElem?_eq_some_iff.1 hx).2
  have hkn : k < n := by rw [← h.len]; exact hkl
  obtain ⟨b, o, rfl⟩ := lst_at h (by omega)
  have HF := Lib.hid (fun (wz : World) (hz : Below w.heap.size w wz) => (fund_cells (lst_keep encF_len h hz) hkl).2.2)
  rw [hxe] at HF
  obtain ⟨nm, pr, lm⟩ := x
  simp only at HF
  have HU := Lib.hid (use_any l hok _ n c al hoka a2 n2 c2 w h hn h2 hn2 k)
  clear h h2 hok hoka hx hxe
  simp only
  generalize useE l al k = ue at *
  generalize useN l al k = un at *
  go_enter Try.func24, Try.ntmps24
  go_wp2_with fail
  refine HU.out.mono ?_
  rintro e w1 ⟨rfl, hb⟩
  have HB := Lib.hid hb
  have q2 := HF.out w1 hb
  clear hb HF HU
  by_cases he : ue = 0
  · subst he
    by_cases hu : lm < un
    · go_wp2_with fail
      go_ret
      exact ⟨ret_bool (by first | (simp; done) | (simp; assumption) | (simp; omega)), HB.out⟩
    · go_wp2_with fail
      go_ret
      exact ⟨ret_bool (by first | (simp; done) | (simp; assumption) | (simp; omega)), HB.out⟩
  · have hue : ¬ ue = 0 := he
    have hue2 : (ue == 0) = false := beq_false_of_ne he
    have hue3 : (ue != 0) = true := by rw [bne, hue2]; rfl
    have HE := Lib.hid he
    clear he
    go_wp2_with fail
    go_ret
    exact ⟨ret_bool (by simp [HE.out]), HB.out⟩

theorem exceeds_is (l : List Fd) (hok : ∀ x ∈ l, x.ok) (a : Option Addr) (n c : Nat) (al : List Al) (hoka : ∀ x ∈ al, x.ok) (a2 : Option Addr) (n2 c2 : Nat) (w : World) (h : Funds w a n c l) (hn : n ≤ 100) (h2 : Allocs w a2 n2 c2 al) (hn2 : n2 ≤ 100) (k : Nat) (x : Fd) (hx : l[k]? = some x) (b : Bool) (hb : (decide (useE l al k ≠ 0) || decide (x.lim < useN l al k)) = b) :
    Calls Try.prog 24 #[.slice a n c, .slice a2 n2 c2, .int .i64 (k : Nat)] w fun e w' => e = .returned (.bool b) ∧ Below w.heap.size w w' := by
  rw [← hb]
  exact exceeds_any l hok a n c al hoka a2 n2 c2 w h hn h2 hn2 k x hx
end Go.Proofs.Ytpciijihedlheaa.Tre
