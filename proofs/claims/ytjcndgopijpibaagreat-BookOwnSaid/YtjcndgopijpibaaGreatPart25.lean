/- Common to the claims of this seat, part 25: texts that were written one by one, laid behind one another. -/
import Derived.Scope
import Derived.WalkMore
import Derived.Test.YtjcndgopijpibaaGreatPart12
import Derived.Test.YtjcndgopijpibaaGreatPart14
import Derived.Test.YtjcndgopijpibaaGreatPart16
import Derived.Test.YtjcndgopijpibaaGreatPart24
/- Tree: the landed Use and Over, as they run. -/
namespace Go.Proofs.YtjcndgopijpibaaGreat.Tre
set_option maxRecDepth 100000
open Go.RowKit
open Go.Sort
open Kit
open Mon
set_option linter.unusedVariables false
variable {w w' : World}
theorem boxed_alloc (w : World) (x0 x1 x2 x3 x4 x5 : Int) :
    (w.alloc (.cells #[.int .i64 x0, .int .i64 x1, .int .i64 x2, .int .i64 x3, .int .i64 x4, .int .i64 x5] 65)).cell? ⟨w.heap.size, 0, none⟩ = some (.int .i64 x0) ∧ (w.alloc (.cells #[.int .i64 x0, .int .i64 x1, .int .i64 x2, .int .i64 x3, .int .i64 x4, .int .i64 x5] 65)).cell? ⟨w.heap.size, 4, none⟩ = some (.int .i64 x4) ∧ (w.alloc (.cells #[.int .i64 x0, .int .i64 x1, .int .i64 x2, .int .i64 x3, .int .i64 x4, .int .i64 x5] 65)).cell? ⟨w.heap.size, 5, none⟩ = some (.int .i64 x5) := by
  refine ⟨?_, ?_, ?_⟩
  all_goals
    rw [World.cell?_alloc_new]
    rfl
set_option maxHeartbeats 4000000 in
theorem use_any (l : List Fd) (hok : ∀ x ∈ l, x.ok) (a : Option Addr) (n c : Nat) (al : List Al) (hoka : ∀ x ∈ al, x.ok) (a2 : Option Addr) (n2 c2 : Nat) (w : World) (h : Funds w a n c l) (hn : n ≤ 100) (h2 : Allocs w a2 n2 c2 al) (hn2 : n2 ≤ 100) (f : Int) :
    Calls Tryz.prog 115 #[.slice a n c, .slice a2 n2 c2, .int .i64 f] w fun e w' => e = .returned (.tuple #[.int .i64 (useN l al f), .int .i64 (useE l al f)]) ∧ Below w.heap.size w w' := by
  have HL := Lib.hid (And.intro h (And.intro h2 (And.intro hok hoka)))
  have hll := h.len
  have hl2 := h2.len
  have HLl := Lib.hid (And.intro hll hl2)
  by_cases hf : 0 ≤ f ∧ f < n
  · have hi1 : ¬ f < 0 := by omega
    have hi2 : ¬ (n : Int) ≤ f := by omega
    have HU := Lib.hid (show useN l al f = addN (amounts l al f) ∧ useE l al f = addE (amounts l al f) by
      unfold useN useE
      rw [hll, if_pos hf, if_pos hf]
      exact ⟨rfl, rfl⟩)
    clear h h2 hok hoka hf hll hl2
    go_enter Tryz.func115, Tryz.ntmps115
    go_wp2_with fail
    go_loopw [8, 10, 21] (fun v _ i wr => ∃ k : Nat, k ≤ n2 ∧ i = .int .i64 (k : Nat) ∧ OwI wr w.heap.size v (amounts l (al.take k) f) ∧ Below w.heap.size w wr) (fun _ _ i _ => n2 - (intOf i).toNat)
    case atStart => exact ⟨0, Nat.zero_le _, rfl, owns_nil _ _ _, Below.refl _ _⟩
    case round =>
      obtain ⟨k, hk, rfl, hown, hb⟩ := hrel
      have HO := Lib.hid (And.intro hown hb)
      clear hown hb
      by_cases hlt : k < n2
      · have hka : k < al.length := by rw [HLl.out.2]; exact hlt
        obtain ⟨b2, o2, rfl⟩ := lst_at HL.out.2.1 (by omega)
        obtain ⟨q0, q1, q2, q3, q4, q5⟩ := alloc_cells6 (lst_keep encL_len HL.out.2.1 HO.out.2) hka
        have hsn := amounts_snoc (l := l) (f := f) (List.getElem?_eq_getElem hka)
        generalize al[k] = x at *
        obtain ⟨x0, x1, x2, x3, x4, x5⟩ := x
        simp only at q0 q1 q2 q3 q4 q5 hsn
        have HS := Lib.hid hsn
        obtain ⟨c0, c4, c5⟩ := boxed_alloc wr x0 x1 x2 x3 x4 x5
        have HW := Lib.hid (And.intro (below_alloc wr (.cells #[.int .i64 x0, .int .i64 x1, .int .i64 x2, .int .i64 x3, .int .i64 x4, .int .i64 x5] 65)) (And.intro c4 c5))
        clear hsn c4 c5
        go_wp2_with fail
        refine (path_any l HL.out.2.2.1 a n c _ (lst_keep encF_len HL.out.1 (below_keep HO.out.2 HW.out.1)) hn x0).mono ?_
        rintro e w1 ⟨v1, rfl, hn1, hb1⟩
        obtain ⟨p, hp⟩ : ∃ p, p = path l x0 := ⟨_, rfl⟩
        rw [← hp] at hn1
        obtain ⟨a1, c1, rfl, hl, -⟩ := hn1
        obtain ⟨m, hm⟩ : ∃ m, m = p.length := ⟨_, rfl⟩
        rw [← hm] at hl ⊢
        have HP := Lib.hid (And.intro hp hl)
        have hb01 := below_keep HW.out.1 hb1
        have HB1 := Lib.hid (And.intro (own_chg' HO.out.1 hb01) (below_keep HO.out.2 hb01))
        have k4 := cell_keep hb1 HW.out.2.1
        have k5 := cell_keep hb1 HW.out.2.2
        clear hp hl hm hb01 hb1 q0 q1 q2 q3 q4 q5 c0
        go_wp2_with fail
        refine (contains_any p a1 m c1 w1 HP.out.2 f).mono ?_
        rintro e w2 ⟨rfl, rfl⟩
        cases hc : p.contains f with
        | false =>
          have HS2 := Lib.hid (show amounts l (al.take (k + 1)) f = amounts l (al.take k) f by rw [HS.out, ← HP.out.1, hc]; simp)
          clear hc
          go_wp2_with fail
          go_roundw
          case rel => exact ⟨k + 1, by omega, by go_num, by rw [HS2.out]; exact HB1.out.1, HB1.out.2⟩
          case measure => simp [intOf]; omega
        | true =>
          have HS2 := Lib.hid (show amounts l (al.take (k + 1)) f = amounts l (al.take k) f ++ [x4, x5] by rw [HS.out, ← HP.out.1, hc, if_pos rfl])
          clear hc
          have hlx2 : (amounts l (al.take k) f).length ≤ 200 := by
            have h1 := amounts_length l f (al.take k)
            have h2 : (al.take k).length ≤ k := by rw [List.length_take]; exact Nat.min_le_left _ _
            omega
          obtain ⟨lx, hlx⟩ : ∃ y, y = amounts l (al.take k) f := ⟨_, rfl⟩
          rw [← hlx] at HB1 HS2 hlx2
          have HA1 := Lib.hid (own_chg' HB1.out.1 (below_alloc w1 (.cells #[.int .i64 x4, .int .i64 x5] 3)))
          have HA2 := Lib.hid (lit2_row w1 x4 x5)
          have HA3 := Lib.hid (below_keep HB1.out.2 (below_alloc w1 (.cells #[.int .i64 x4, .int .i64 x5] 3)))
          have HD1 := Lib.hid (show lx.length + 2 ≤ maxLen by unfold maxLen; omega)
          have HD2 := Lib.hid (show (lx.length + 2) * 8 ≤ 140737488355328 by omega)
          clear hlx hlx2
          go_wp2_with (first | (at_builtin; refine Two.append_apart encI_len Nat.zero_lt_one encI_one rfl (.tmp 31) (.tmp 36) 31 3 rfl Tryz.underlying31 (.int .i64 0) 8 info_i rfl w.heap.size _ lx rfl HA1.out (some ⟨w1.heap.size, 0, none⟩) 2 2 [x4, x5] rfl rfl HA2.out (fun h => by cases h) HD1.out HD2.out HA3.out.size ?_; intro v9 w9 ho9 hg9 _; have HB9 := Lib.hid (HA3.out.trans (Two.below_grown HA1.out hg9 HA3.out.size)); have HO9 := Lib.hid ho9; clear ho9 hg9) | fail)
          go_roundw
          case rel => exact ⟨k + 1, by omega, by go_num, by rw [HS2.out]; exact HO9.out, HB9.out⟩
          case measure => simp [intOf]; omega
      · obtain rfl : k = n2 := by omega
        obtain ⟨a8, c8, rfl, g1, g2, g3, g4⟩ := owns_row encI_len HO.out.1
        have htk : al.take k = al := List.take_of_length_le (by rw [HLl.out.2]; exact Nat.le_refl _)
        rw [htk] at g1 g4 ⊢
        have hel : Elems wr a8 (amounts l al f) := ints_elems ⟨rfl, g1, g2, fun e => ⟨by have := g3 e; omega, g3 e⟩, g4⟩
        have HE := Lib.hid (And.intro hel (And.intro (show (amounts l al f).length ≤ maxLen from Nat.le_trans g1 g2) HO.out.2))
        obtain ⟨m, hm⟩ : ∃ m, m = (amounts l al f).length := ⟨_, rfl⟩
        rw [← hm]
        have HM := Lib.hid hm
        clear g1 g2 g3 g4 htk hel hm HO
        go_wp2_with fail
        refine (add_any a8 m c8 (amounts l al f) wr HM.out.symm (by rw [HM.out]; exact HE.out.2.1) HE.out.1).mono ?_
        rintro e w1 ⟨rfl, rfl⟩
        go_wp2_with fail
        go_ret2
        exact ⟨by rw [HU.out.1, HU.out.2]; rfl, HE.out.2.2⟩
  · have hor : f < 0 ∨ (¬ f < 0 ∧ (n : Int) ≤ f) := by omega
    have HU := Lib.hid (show useN l al f = 0 ∧ useE l al f = 4 by
      unfold useN useE
      rw [hll, if_neg hf, if_neg hf]
      exact ⟨rfl, rfl⟩)
    clear h h2 hok hoka hf hll hl2
    rcases hor with ho | ⟨ho, ho2⟩
    all_goals
      go_enter Tryz.func115, Tryz.ntmps115
      go_wp2_with fail
      go_ret2
      exact ⟨by rw [HU.out.1, HU.out.2]; rfl, Below.refl _ _⟩
set_option maxHeartbeats 2000000 in
theorem exceeds_any (l : List Fd) (hok : ∀ x ∈ l, x.ok) (a : Option Addr) (n c : Nat) (al : List Al) (hoka : ∀ x ∈ al, x.ok) (a2 : Option Addr) (n2 c2 : Nat) (w : World) (h : Funds w a n c l) (hn : n ≤ 100) (h2 : Allocs w a2 n2 c2 al) (hn2 : n2 ≤ 100) (k : Nat) (x : Fd) (hx : l[k]? = some x) :
    Calls Tryz.prog 80 #[.slice a n c, .slice a2 n2 c2, .int .i64 (k : Nat)] w fun e w' => e = .returned (.bool (decide (useE l al k ≠ 0) || decide (x.lim < useN l al k))) ∧ Below w.heap.size w w' := by
  have hkl := (List.getElem?_eq_some_iff.1 hx).1
  have hxe := (List.getElem?_eq_some_iff.1 hx).2
  have hkn : k < n := by rw [← h.len]; exact hkl
  obtain ⟨b, o, rfl⟩ := lst_at h (by omega)
  have HF := Lib.hid (fun (wz : World) (hz : Below w.heap.size w wz) => (fund_cells (lst_keep encF_len h hz) hkl).2.2)
  rw [hxe] at HF
  obtain ⟨nm, pr, lm⟩ := x
  simp only at HF
  have HU := Lib.hid (use_any l hok _ n c al hoka a2 n2 c2 w h hn h2 hn2 k)
  clear h h2 hok hoka hx hxe
  simp only
  generalize useE l al k = ue at *
  generalize useN l al k = un at *
  go_enter Tryz.func80, Tryz.ntmps80
  go_wp2_with fail
  refine HU.out.mono ?_
  rintro e w1 ⟨rfl, hb⟩
  have HB := Lib.hid hb
  have q2 := HF.out w1 hb
  clear hb HF HU
  by_cases he : ue = 0
  · subst he
    by_cases hu : lm < un
    · go_wp2_with fail
      go_ret
      exact ⟨Kit.ret_bool (by first | (simp; done) | (simp; assumption) | (simp; omega)), HB.out⟩
    · go_wp2_with fail
      go_ret
      exact ⟨Kit.ret_bool (by first | (simp; done) | (simp; assumption) | (simp; omega)), HB.out⟩
  · have hue : ¬ ue = 0 := he
    have hue2 : (ue == 0) = false := beq_false_of_ne he
    have hue3 : (ue != 0) = true := by rw [bne, hue2]; rfl
    have HE := Lib.hid he
    clear he
    go_wp2_with fail
    go_ret
    exact ⟨Kit.ret_bool (by simp [HE.out]), HB.out⟩
theorem exceeds_is (l : List Fd) (hok : ∀ x ∈ l, x.ok) (a : Option Addr) (n c : Nat) (al : List Al) (hoka : ∀ x ∈ al, x.ok) (a2 : Option Addr) (n2 c2 : Nat) (w : World) (h : Funds w a n c l) (hn : n ≤ 100) (h2 : Allocs w a2 n2 c2 al) (hn2 : n2 ≤ 100) (k : Nat) (x : Fd) (hx : l[k]? = some x) (b : Bool) (hb : (decide (useE l al k ≠ 0) || decide (x.lim < useN l al k)) = b) :
    Calls Tryz.prog 80 #[.slice a n c, .slice a2 n2 c2, .int .i64 (k : Nat)] w fun e w' => e = .returned (.bool b) ∧ Below w.heap.size w w' := by
  rw [← hb]
  exact exceeds_any l hok a n c al hoka a2 n2 c2 w h hn h2 hn2 k x hx
end Go.Proofs.YtjcndgopijpibaaGreat.Tre
/- Tree: the landed Over, as it runs. -/
namespace Go.Proofs.YtjcndgopijpibaaGreat.Tre
set_option maxRecDepth 100000
open Go.RowKit
open Go.Sort
open Kit
open Mon
set_option linter.unusedVariables false
variable {w w' : World}
set_option maxHeartbeats 4000000 in
theorem over_any (l : List Fd) (hok : ∀ x ∈ l, x.ok) (a : Option Addr) (n c : Nat) (al : List Al) (hoka : ∀ x ∈ al, x.ok) (a2 : Option Addr) (n2 c2 : Nat) (w : World) (h : Funds w a n c l) (hn : n ≤ 100) (h2 : Allocs w a2 n2 c2 al) (hn2 : n2 ≤ 100) :
    Calls Tryz.prog 37 #[.slice a n c, .slice a2 n2 c2] w fun e w' => e = .returned (.int .i64 (over l al)) ∧ Below w.heap.size w w' := by
  have hll := h.len
  have HL := Lib.hid (And.intro h (And.intro h2 (And.intro hok (And.intro hoka hll))))
  clear h h2 hok hoka hll
  go_enter Tryz.func37, Tryz.ntmps37
  go_wp2_with fail
  go_loopw [5, 6, 9] (fun _ _ i wr => ∃ k : Nat, k ≤ n ∧ i = .int .i64 (k : Nat) ∧ over l al = overFrom l al (l.length - k) k ∧ Below w.heap.size w wr) (fun _ _ i _ => n - (intOf i).toNat)
  case atStart => exact ⟨0, Nat.zero_le _, rfl, rfl, Below.refl _ _⟩
  case round =>
    obtain ⟨k, hk, rfl, ho, hb⟩ := hrel
    have HO := Lib.hid (And.intro ho hb)
    clear ho hb
    by_cases hlt : k < n
    · have hkl : k < l.length := by rw [HL.out.2.2.2.2]; exact hlt
      obtain ⟨b, o, rfl⟩ := lst_at HL.out.1 (by omega)
      obtain ⟨q0, q1, q2⟩ := fund_cells (lst_keep encF_len HL.out.1 HO.out.2) hkl
      have hget := List.getElem?_eq_getElem hkl
      generalize l[k] = x at *
      obtain ⟨nm, pr, lm⟩ := x
      simp only at q0 q1 q2
      have HX := Lib.hid (And.intro hget (overFrom_step (al := al) hget))
      obtain ⟨g0, g1, g2⟩ := boxed_fund wr nm pr lm
      have HW := Lib.hid (below_alloc wr (.cells #[.string nm, .int .i64 pr, .int .i64 lm] 81))
      have hov : overAt l al k ⟨nm, pr, lm⟩ = (decide (0 < lm) && (decide (useE l al k ≠ 0) || decide (lm < useN l al k))) := rfl
      have HV := Lib.hid hov
      clear hov hget
      by_cases h0 : 0 < lm
      · have HV2 := Lib.hid (show overAt l al k ⟨nm, pr, lm⟩ = (decide (useE l al k ≠ 0) || decide (lm < useN l al k)) by rw [HV.out, decide_eq_true h0, Bool.true_and])
        cases hq : (decide (useE l al k ≠ 0) || decide (lm < useN l al k)) with
        | true =>
          have HD := Lib.hid (show over l al = (k : Int) by rw [HO.out.1, HX.out.2, HV2.out, hq, if_pos rfl])
          have HQ := Lib.hid hq
          clear hq
          go_wp2_with fail
          refine (exceeds_is l HL.out.2.2.1 _ n c al HL.out.2.2.2.1 a2 n2 c2 _ (lst_keep encF_len HL.out.1 (below_keep HO.out.2 HW.out)) hn (lst_keep encL_len HL.out.2.1 (below_keep HO.out.2 HW.out)) hn2 k ⟨nm, pr, lm⟩ HX.out.1 true HQ.out).mono ?_
          rintro e w1 ⟨rfl, hb1⟩
          have HO1 := Lib.hid (below_keep (below_keep HO.out.2 HW.out) hb1)
          clear hb1 q0 q1 q2 g0 g1 g2
          go_wp2_with fail
          go_ret
          exact ⟨by rw [HD.out]; rfl, HO1.out⟩
        | false =>
          have HD := Lib.hid (show over l al = overFrom l al (l.length - (k + 1)) (k + 1) by rw [HO.out.1, HX.out.2, HV2.out, hq]; rfl)
          have HQ := Lib.hid hq
          clear hq
          go_wp2_with fail
          refine (exceeds_is l HL.out.2.2.1 _ n c al HL.out.2.2.2.1 a2 n2 c2 _ (lst_keep encF_len HL.out.1 (below_keep HO.out.2 HW.out)) hn (lst_keep encL_len HL.out.2.1 (below_keep HO.out.2 HW.out)) hn2 k ⟨nm, pr, lm⟩ HX.out.1 false HQ.out).mono ?_
          rintro e w1 ⟨rfl, hb1⟩
          have HO1 := Lib.hid (below_keep (below_keep HO.out.2 HW.out) hb1)
          clear hb1 q0 q1 q2 g0 g1 g2
          go_wp2_with fail
          go_roundw
          case rel => exact ⟨k + 1, by omega, by go_num, HD.out, HO1.out⟩
          case measure => simp [intOf]; omega
      · have HD := Lib.hid (show over l al = overFrom l al (l.length - (k + 1)) (k + 1) by rw [HO.out.1, HX.out.2, HV.out, decide_eq_false h0]; rfl)
        go_wp2_with fail
        go_roundw
        case rel => exact ⟨k + 1, by omega, by go_num, HD.out, below_keep HO.out.2 HW.out⟩
        case measure => simp [intOf]; omega
    · obtain rfl : k = n := by omega
      have HD := Lib.hid (show over l al = -1 by rw [HO.out.1, overFrom_end (by rw [HL.out.2.2.2.2]; exact Nat.le_refl _)])
      go_wp2_with fail
      go_ret
      exact ⟨by rw [HD.out]; rfl, HO.out.2⟩
end Go.Proofs.YtjcndgopijpibaaGreat.Tre
/- A scope in which the run jumps back to several labels: what holds at a jump to each, and a measure that every pass lowers. -/
namespace Go.Proofs.YtjcndgopijpibaaGreat.Scp
def Jumps (J : Nat → Act → World → Prop) (Q : Exit → Act → World → Prop) : Exit → Act → World → Prop
  | .goto l, a, w => J l a w
  | e, a, w => Q e a w
variable {P : Program} {a : Act} {w : World} {Q : Exit → Act → World → Prop}
theorem jumps_ret {J : Nat → Act → World → Prop} : Jumps J Q .ret a w = Q .ret a w := rfl
theorem wp_labels {c : Code} (J : Nat → Act → World → Prop) (m : Nat → Act → World → Nat)
    (first : c.wp P (Jumps J Q) a w)
    (pass : ∀ l a w, J l a w → ∃ rest, findLabel c l = some rest ∧ rest.wp P (Jumps (fun l' a' w' => J l' a' w' ∧ m l' a' w' < m l a w) Q) a w) : (Code.scope c).wp P Q a w := by
  intro b k cs
  have key : ∀ n l a w, m l a w = n → J l a w → ∃ rest, findLabel c l = some rest ∧ ∃ e a' w', Q e a' w' ∧ Arrives P (lone (b.at a (.code rest :: .inScope c :: k)) cs w) b k cs e a' w' := by
    intro n
    induction n using Nat.strongRecOn with
    | _ n ih =>
      intro l a w hn hJ
      obtain ⟨rest, hf, hp⟩ := pass l a w hJ
      refine ⟨rest, hf, ?_⟩
      obtain ⟨e, a1, w1, hq, harr⟩ := hp b (.inScope c :: k) cs
      cases e with
      | normal => exact ⟨.normal, a1, w1, hq, Steps.trans harr (.one step_inScope)⟩
      | exit id => exact ⟨.exit id, a1, w1, hq, fun k' hk => harr k' (by simp [exitTo, hk])⟩
      | goto l' =>
        obtain ⟨hJ', hlt⟩ := hq
        obtain ⟨rest2, hf2, e2, a2, w2, hq2, harr2⟩ := ih _ (by omega) l' a1 w1 rfl hJ'
        have hg : gotoIn l' (.inScope c :: k) = some (.code rest2 :: .inScope c :: k) := by simp [gotoIn, hf2]
        exact ⟨e2, a2, w2, hq2, .of_steps (harr _ hg) harr2⟩
      | ret => exact ⟨_, a1, w1, hq, harr⟩
      | panic ch => exact ⟨_, a1, w1, hq, harr⟩
      | outgrown => exact ⟨_, a1, w1, hq, harr⟩
  obtain ⟨e, a1, w1, hq, harr⟩ := first b (.inScope c :: k) cs
  cases e with
  | normal => exact ⟨.normal, a1, w1, hq, .head step_scope (Steps.trans harr (.one step_inScope))⟩
  | exit id => exact ⟨.exit id, a1, w1, hq, fun k' hk => .head step_scope (harr k' (by simp [exitTo, hk]))⟩
  | goto l' =>
    obtain ⟨rest, hf, e2, a2, w2, hq2, harr2⟩ := key _ l' a1 w1 rfl hq
    have hg : gotoIn l' (.inScope c :: k) = some (.code rest :: .inScope c :: k) := by simp [gotoIn, hf]
    exact ⟨e2, a2, w2, hq2, .of_steps (.head step_scope (harr _ hg)) harr2⟩
  | ret => exact ⟨_, a1, w1, hq, .of_steps (.one step_scope) harr⟩
  | panic ch => exact ⟨_, a1, w1, hq, .of_steps (.one step_scope) harr⟩
  | outgrown => exact ⟨_, a1, w1, hq, .of_steps (.one step_scope) harr⟩
theorem wp_two {c r0 r1 : Code} (J0 J1 : Act → World → Prop) (m0 m1 : Act → World → Nat) (h0 : findLabel c 0 = some r0) (h1 : findLabel c 1 = some r1)
    (first : c.wp P (Jumps (fun l a w => (l = 0 ∧ J0 a w) ∨ (l = 1 ∧ J1 a w)) Q) a w)
    (pass0 : ∀ a w, J0 a w → r0.wp P (Jumps (fun l a' w' => (l = 0 ∧ J0 a' w' ∧ m0 a' w' < m0 a w) ∨ (l = 1 ∧ J1 a' w' ∧ m1 a' w' < m0 a w)) Q) a w)
    (pass1 : ∀ a w, J1 a w → r1.wp P (Jumps (fun l a' w' => (l = 0 ∧ J0 a' w' ∧ m0 a' w' < m1 a w) ∨ (l = 1 ∧ J1 a' w' ∧ m1 a' w' < m1 a w)) Q) a w) : (Code.scope c).wp P Q a w := by
  have hJ : ∀ (m : Nat) (a : Act) (w : World) (e : Exit) (a' : Act) (w' : World),
      Jumps (fun l a' w' => (l = 0 ∧ J0 a' w' ∧ m0 a' w' < m) ∨ (l = 1 ∧ J1 a' w' ∧ m1 a' w' < m)) Q e a' w' →
      Jumps (fun l a' w' => ((l = 0 ∧ J0 a' w') ∨ (l = 1 ∧ J1 a' w')) ∧ (if l = 0 then m0 a' w' else m1 a' w') < m) Q e a' w' := by
    intro m a w e a' w' h
    cases e with
    | goto l =>
      rcases h with ⟨rfl, h1, h2⟩ | ⟨rfl, h1, h2⟩
      · exact ⟨.inl ⟨rfl, h1⟩, h2⟩
      · exact ⟨.inr ⟨rfl, h1⟩, h2⟩
    | normal => exact h
    | exit id => exact h
    | ret => exact h
    | panic ch => exact h
    | outgrown => exact h
  refine wp_labels (fun l a w => (l = 0 ∧ J0 a w) ∨ (l = 1 ∧ J1 a w)) (fun l a w => if l = 0 then m0 a w else m1 a w) first fun l a w h => ?_
  rcases h with ⟨rfl, h⟩ | ⟨rfl, h⟩
  · exact ⟨r0, h0, Code.wp_mono (fun e a' w' hq => hJ _ a w e a' w' hq) (pass0 a w h)⟩
  · exact ⟨r1, h1, Code.wp_mono (fun e a' w' hq => hJ _ a w e a' w' hq) (pass1 a w h)⟩
theorem jumps_mono {J J' : Nat → Act → World → Prop} (h : ∀ l a w, J l a w → J' l a w) (e : Exit) (a : Act) (w : World) : Jumps J Q e a w → Jumps J' Q e a w := by
  intro hq
  cases e with
  | goto l => exact h l a w hq
  | normal => exact hq
  | exit id => exact hq
  | ret => exact hq
  | panic ch => exact hq
  | outgrown => exact hq
end Go.Proofs.YtjcndgopijpibaaGreat.Scp
/- A scope with one label, that is jumped to at most once, and ahead only. -/
namespace Go.Proofs.YtjcndgopijpibaaGreat.Scp
variable {P : Program} {a : Act} {w : World} {Q : Exit → Act → World → Prop}
theorem wp_once {c r0 : Code} (J0 : Act → World → Prop) (h0 : findLabel c 0 = some (Code.skip.seq r0)) (first : c.wp P (Jumps (fun l a w => l = 0 ∧ J0 a w) Q) a w)
    (pass : ∀ a w, J0 a w → r0.wp P (Jumps (fun _ _ _ => False) Q) a w) : (Code.scope c).wp P Q a w := by
  refine wp_labels (fun l a w => l = 0 ∧ J0 a w) (fun _ _ _ => 0) first fun l a w h => ?_
  obtain ⟨rfl, hj⟩ := h
  exact ⟨_, h0, wp_seq (wp_skip (Code.wp_mono (jumps_mono fun _ _ _ h => h.elim) (pass a w hj)))⟩
theorem wp_ahead {c r0 : Code} (h0 : findLabel c 0 = some (Code.skip.seq r0)) (first : c.wp P (Jumps (fun l a w => l = 0 ∧ r0.wp P (Jumps (fun _ _ _ => False) Q) a w) Q) a w) : (Code.scope c).wp P Q a w :=
  wp_once (fun a w => r0.wp P (Jumps (fun _ _ _ => False) Q) a w) h0 first fun _ _ h => h
end Go.Proofs.YtjcndgopijpibaaGreat.Scp
