/- Common to the claims of this seat, part 14: texts that were written one by one, laid behind one another. -/
import Derived.Test.YtjcndgopijpibaaGreatPart3
import Derived.Test.YtjcndgopijpibaaGreatPart6
import Derived.Test.YtjcndgopijpibaaGreatPart10
import Derived.Test.YtjcndgopijpibaaGreatPart11
import Derived.Test.YtjcndgopijpibaaGreatPart12
import Derived.Test.YtjcndgopijpibaaGreatPart13
/- Draw: the document's Legs, as it runs. -/
namespace Go.Proofs.YtjcndgopijpibaaGreat.Drw
set_option maxRecDepth 100000
open Go.RowKit
open Go.Sort
open Kit
open Mon
open Tre (Lst inI lst_keep lst_take lst_at lst_new lst_none below_drewN')
open Led (Lg encG encG_len encG_one Legs tyG)
set_option linter.unusedVariables false
variable {w w' : World}
theorem legs_take {l m : List Dw} {k : Nat} {d c : Dw} (f t r : Int) (hd : l[k]? = some d) (hc : m[k]? = some c) : legsD (l.take (k + 1)) (m.take (k + 1)) f t r = legsD (l.take k) (m.take k) f t r ++ legOf d c f t r := by
  induction k generalizing l m with
  | zero =>
    cases l with
    | nil => simp at hd
    | cons d' l =>
      cases m with
      | nil => simp at hc
      | cons c' m =>
        simp at hd hc
        subst hd hc
        simp [legsD]
  | succ k ih =>
    cases l with
    | nil => simp at hd
    | cons d' l =>
      cases m with
      | nil => simp at hc
      | cons c' m =>
        rw [List.getElem?_cons_succ] at hd hc
        rw [List.take_succ_cons, List.take_succ_cons, legsD, ih hd hc, List.take_succ_cons, List.take_succ_cons, legsD, List.append_assoc]
theorem legOf_len (d c : Dw) (f t r : Int) : (legOf d c f t r).length ≤ 3 := by
  unfold legOf
  split
  · simp
  · split <;> split <;> simp
theorem legs_len : ∀ (l m : List Dw) (f t r : Int), (legsD l m f t r).length ≤ 3 * l.length
  | [], m, f, t, r => by simp [legsD]
  | d :: l, [], f, t, r => by simp [legsD]
  | d :: l, c :: m, f, t, r => by
    have h1 := legs_len l m f t r
    have h2 := legOf_len d c f t r
    rw [legsD, List.length_append, List.length_cons]
    omega
end Go.Proofs.YtjcndgopijpibaaGreat.Drw
/- Draw, the landed: put, and the legs of draws. -/
namespace Go.Proofs.YtjcndgopijpibaaGreat.Drw
set_option maxRecDepth 100000
open Go.RowKit
open Go.Sort
open Kit
open Mon
open Tre (Lst inI lst_keep lst_take lst_at lst_new lst_none below_drewN')
open Led (Lg encG encG_len encG_one Legs tyG info_leg)
set_option linter.unusedVariables false
variable {w w' : World}
def legP (x acct am : Int) : List Lg := if am = 0 then [] else [⟨acct + 3 * x, am⟩]
theorem legP_len (x acct am : Int) : (legP x acct am).length ≤ 1 := by
  unfold legP
  split <;> simp
theorem legOf_move (x0 x1 f t r : Int) : legOf ⟨x0, x1⟩ ⟨x0, x1⟩ f t r = legP x0 f (-x1) ++ legP x0 t x1 := by
  unfold legOf legP
  by_cases h : x1 = 0
  · simp [h]
  · simp [h]
set_option maxHeartbeats 4000000 in
theorem put_any (W : World) (base : Nat) (v : Value) (l : List Lg) (x acct am : Int) (hO : Owns encG 2 49 W base v l) (hb : base ≤ W.heap.size) (hl : l.length + 1 ≤ 100000) (hx0 : 0 ≤ x) (hx1 : x ≤ 15) (ha0 : 0 ≤ acct) (ha1 : acct ≤ 3) :
    Calls Tryz.prog 127 #[v, .int .i64 x, .int .i64 acct, .int .i64 am] W fun e w' => ∃ v', e = .returned v' ∧ Owns encG 2 49 w' base v' (l ++ legP x acct am) ∧ Foot.Chg (fun k => some k = v.ownBlock) W w' := by
  have HO := Lib.hid (And.intro hO (And.intro hb hl))
  clear hO hb hl
  by_cases hz : am = 0
  · subst hz
    go_enter Tryz.func127, Tryz.ntmps127
    go_wp2_with fail
    go_ret
    exact ⟨v, rfl, by unfold legP; rw [if_pos rfl, List.append_nil]; exact HO.out.1, Foot.chg_refl _ _⟩
  · have hz2 : (am == 0) = false := beq_false_of_ne hz
    have HE := Lib.hid (show legP x acct am = [⟨acct + 3 * x, am⟩] by unfold legP; rw [if_neg hz])
    have hb1 := below_alloc W (.cells #[.int .i64 (acct + 3 * x), .int .i64 am] 49)
    have HA1 := Lib.hid (And.intro (Nest.own_on HO.out.1 hb1) (And.intro (leg_row W (acct + 3 * x) am) hb1))
    have h02 := Lib.hid (show 0 < 2 by omega)
    have HD := Lib.hid (show l.length + 1 ≤ maxLen ∧ (l.length + 1) * 16 ≤ 140737488355328 ∧ base ≤ (W.alloc (.cells #[.int .i64 (acct + 3 * x), .int .i64 am] 49)).heap.size by have := HO.out.2.2; have := HO.out.2.1; refine ⟨by unfold maxLen; omega, by omega, by simp; omega⟩)
    clear hb1 hz
    go_enter Tryz.func127, Tryz.ntmps127
    go_wp2_with (first | (at_builtin; refine Two.append_apart encG_len h02.out encG_one rfl (.tmp 12) (.tmp 19) 32 49 rfl Tryz.underlying32 (.agg #[.int .i64 0, .int .i64 0]) 16 info_leg rfl base v l rfl HA1.out.1 (some ⟨W.heap.size, 0, none⟩) 1 1 [⟨acct + 3 * x, am⟩] rfl rfl HA1.out.2.1 (fun h => by cases h) HD.out.1 HD.out.2.1 HD.out.2.2 ?_; intro v9 w9 ho9 hg9 hx9; have HG9 := Lib.hid (Foot.chg_trans (Foot.new_chg HA1.out.2.2 (fun k => some k = v.ownBlock)) (Foot.grown_chg hg9) (fun x hx => .inl hx)); have HO9 := Lib.hid ho9; clear ho9 hg9 hx9) | fail)
    go_ret
    exact ⟨v9, rfl, by rw [HE.out]; exact HO9.out, HG9.out⟩
theorem box_typed {v : Value} {base : Nat} {l : List Lg} (ho : Owns encG 2 49 w base v l) : Foot.Typed (fun k => some k = v.ownBlock) w 63 := Foot.typed_own ho (by decide)
theorem box_new (w : World) (x0 x1 : Int) : Arr.Blk (w.alloc (.cells #[.int .i64 x0, .int .i64 x1] 63)) w.heap.size 63 (encD ⟨x0, x1⟩) := Arr.blk_new w _ _ _ rfl
theorem own_below {v : Value} {base : Nat} {l : List Lg} (ho : Owns encG 2 49 w base v l) (hb : base ≤ w.heap.size) (hc : Foot.Chg (fun k => some k = v.ownBlock) w w') : Below base w w' :=
  Foot.chg_below hc (fun k hk => (World.ownsRow.lt ho k hk.symm).1) hb
set_option maxHeartbeats 8000000 in
theorem move_any (W : World) (a : Option Addr) (n c : Nat) (l : List Dw) (f t : Int) (h : Draws W a n c l) (hs : ∀ x ∈ l, Sane x) (hn : n ≤ 100) (hf0 : 0 ≤ f) (hf1 : f ≤ 3) (ht0 : 0 ≤ t) (ht1 : t ≤ 3) :
    Calls Tryz.prog 125 #[.slice a n c, .int .i64 f, .int .i64 t] W fun e w' => ∃ v, e = .returned v ∧ Owns encG 2 49 w' W.heap.size v (legsD l l f t 0) ∧ Below W.heap.size W w' := by
  have HL := Lib.hid (And.intro h (And.intro h.len hs))
  clear h hs
  go_enter Tryz.func125, Tryz.ntmps125
  go_wp2_with fail
  go_loopw [7, 12] (fun v i wr => ∃ k : Nat, k ≤ n ∧ i = .int .i64 (k : Nat) ∧ Owns encG 2 49 wr W.heap.size v (legsD (l.take k) (l.take k) f t 0) ∧ Below W.heap.size W wr) (fun _ i _ => n - (intOf i).toNat)
  case atStart => exact ⟨0, Nat.zero_le _, rfl, owns_nil _ _ _, Below.refl _ _⟩
  case round =>
    obtain ⟨k, hk, rfl, hown, hb⟩ := hrel
    have HO := Lib.hid (And.intro hown hb)
    clear hown hb
    by_cases hlt : k < n
    · have hkl : k < l.length := by rw [HL.out.2.1]; exact hlt
      obtain ⟨b1, o1, rfl⟩ := lst_at HL.out.1 (by omega)
      obtain ⟨q0, q1⟩ := draw_cells (lst_keep encD_len HL.out.1 HO.out.2) hkl
      have hlg := legs_take f t 0 (List.getElem?_eq_getElem hkl) (List.getElem?_eq_getElem hkl)
      have hsd := HL.out.2.2 _ (List.getElem_mem hkl)
      have hll := legs_len (l.take k) (l.take k) f t 0
      have hlk : (l.take k).length ≤ k := by rw [List.length_take]; exact Nat.min_le_left _ _
      generalize l[k] = x at *
      obtain ⟨x0, x1⟩ := x
      simp only at q0 q1
      obtain ⟨e1, e2, e3, e4⟩ := hsd
      simp only at e1 e2 e3 e4
      obtain ⟨lx, hx⟩ : ∃ lx, lx = legsD (l.take k) (l.take k) f t 0 := ⟨_, rfl⟩
      rw [← hx] at HO hlg hll
      have hl3 : lx.length ≤ 300 := by omega
      rw [legOf_move, ← List.append_assoc] at hlg
      have HLg := Lib.hid hlg
      have hb1 := below_alloc wr (.cells #[.int .i64 x0, .int .i64 x1] 63)
      have HW1 := Lib.hid (And.intro (Nest.own_on HO.out.1 hb1) (And.intro (below_keep HO.out.2 hb1) (And.intro (box_new wr x0 x1) (show lx.length + 1 ≤ 100000 by omega))))
      have HP := Lib.hid (legP_len x0 f (-x1))
      clear hlg hx hll hlk hb1
      go_wp2_with fail
      refine (put_any _ W.heap.size _ lx x0 f (-x1) HW1.out.1 HW1.out.2.1.size HW1.out.2.2.2 e1 e2 hf0 hf1).mono ?_
      rintro e w2 ⟨v2, rfl, ho2, hc2⟩
      have hbx := Foot.blk_typed HW1.out.2.2.1 hc2 (box_typed HW1.out.1)
      have c0 : w2.cell? ⟨wr.heap.size, 0, none⟩ = some (.int .i64 x0) := Arr.blk_cell hbx 0
      have c1 : w2.cell? ⟨wr.heap.size, 1, none⟩ = some (.int .i64 x1) := Arr.blk_cell hbx 1
      have HW2 := Lib.hid (And.intro ho2 (And.intro (HW1.out.2.1.trans (own_below HW1.out.1 HW1.out.2.1.size hc2)) (show (lx ++ legP x0 f (-x1)).length + 1 ≤ 100000 by rw [List.length_append]; have := HP.out; omega)))
      clear ho2 hc2 hbx
      go_wp2_with fail
      refine (put_any _ W.heap.size _ (lx ++ legP x0 f (-x1)) x0 t x1 HW2.out.1 HW2.out.2.1.size HW2.out.2.2 e1 e2 ht0 ht1).mono ?_
      rintro e w3 ⟨v3, rfl, ho3, hc3⟩
      have HW3 := Lib.hid (And.intro ho3 (HW2.out.2.1.trans (own_below HW2.out.1 HW2.out.2.1.size hc3)))
      clear ho3 hc3
      go_wp2_with fail
      go_roundw
      case rel => exact ⟨k + 1, by omega, by go_num, by rw [HLg.out]; exact HW3.out.1, HW3.out.2⟩
      case measure => simp [intOf]; omega
    · obtain rfl : n = k := by omega
      have htk : l.take n = l := List.take_of_length_le (by rw [HL.out.2.1]; exact Nat.le_refl _)
      rw [htk] at HO
      go_wp2_with fail
      go_ret
      exact ⟨_, rfl, HO.out.1, HO.out.2⟩
theorem free_any (W : World) (a : Option Addr) (n c : Nat) (l : List Dw) (h : Draws W a n c l) (hs : ∀ x ∈ l, Sane x) (hn : n ≤ 100) :
    Calls Tryz.prog 100 #[.slice a n c] W fun e W' => ∃ v, e = .returned v ∧ OutG W' W.heap.size v (legsD l l 2 1 0) ∧ Below W.heap.size W W' := by
  have HC := Lib.hid (move_any W a n c l 2 1 h hs hn (by omega) (by omega) (by omega) (by omega))
  clear h hs
  go_enter Tryz.func100, Tryz.ntmps100
  go_wp2_with fail
  refine HC.out.mono ?_
  rintro e w2 ⟨v, rfl, ho, hb⟩
  go_wp2_with fail
  go_ret
  exact ⟨v, rfl, .inl ho, hb⟩
end Go.Proofs.YtjcndgopijpibaaGreat.Drw
/- Draw: the document's Legs of any amounts, as it runs. -/
namespace Go.Proofs.YtjcndgopijpibaaGreat.Drw
set_option maxRecDepth 100000
open Go.RowKit
open Go.Sort
open Kit
open Mon
open Tre (Lst inI lst_keep lst_take lst_at lst_new lst_none below_drewN')
open Led (Lg encG encG_len encG_one Legs tyG)
set_option linter.unusedVariables false
variable {w w' : World}
theorem legsW_take {l m : List Dw} {k : Nat} {d c : Dw} (f t r : Int) (hd : l[k]? = some d) (hc : m[k]? = some c) : legsW (l.take (k + 1)) (m.take (k + 1)) f t r = legsW (l.take k) (m.take k) f t r ++ legW d c f t r := by
  induction k generalizing l m with
  | zero =>
    cases l with
    | nil => simp at hd
    | cons d' l =>
      cases m with
      | nil => simp at hc
      | cons c' m =>
        simp at hd hc
        subst hd hc
        simp [legsW]
  | succ k ih =>
    cases l with
    | nil => simp at hd
    | cons d' l =>
      cases m with
      | nil => simp at hc
      | cons c' m =>
        rw [List.getElem?_cons_succ] at hd hc
        rw [List.take_succ_cons, List.take_succ_cons, legsW, ih hd hc, List.take_succ_cons, List.take_succ_cons, legsW, List.append_assoc]
theorem legW_len (d c : Dw) (f t r : Int) : (legW d c f t r).length ≤ 3 := by
  unfold legW
  split
  · simp
  · split <;> split <;> simp
theorem legsW_len : ∀ (l m : List Dw) (f t r : Int), (legsW l m f t r).length ≤ 3 * l.length
  | [], m, f, t, r => by simp [legsW]
  | d :: l, [], f, t, r => by simp [legsW]
  | d :: l, c :: m, f, t, r => by
    have h1 := legsW_len l m f t r
    have h2 := legW_len d c f t r
    rw [legsW, List.length_append, List.length_cons]
    omega
end Go.Proofs.YtjcndgopijpibaaGreat.Drw
/- Draw, the landed: the legs of draws, of any amounts. -/
namespace Go.Proofs.YtjcndgopijpibaaGreat.Drw
set_option maxRecDepth 100000
open Go.RowKit
open Go.Sort
open Kit
open Mon
open Tre (Lst inI lst_keep lst_take lst_at lst_new lst_none below_drewN')
open Led (Lg encG encG_len encG_one Legs tyG info_leg)
set_option linter.unusedVariables false
variable {w w' : World}
def Near (x : Dw) : Prop := (0 ≤ x.alloc ∧ x.alloc ≤ 15) ∧ inI x.amt
theorem wrap_ne {x : Int} (h : inI x) (h0 : ¬ x = 0) : ¬ wrap64 (-x) = 0 := by unfold inI at h; unfold wrap64; omega
theorem legW_move (x0 x1 f t r : Int) (hi : inI x1) : legW ⟨x0, x1⟩ ⟨x0, x1⟩ f t r = legP x0 f (wrap64 (-x1)) ++ legP x0 t x1 := by
  unfold legW legP
  by_cases h : x1 = 0
  · subst h
    rw [if_pos rfl, if_pos (by unfold wrap64; omega), if_pos rfl]; rfl
  · have e0 : wrap64 0 = 0 := by unfold wrap64; omega
    simp [h, wrap_ne hi h, e0]
theorem legW_spend (x0 x1 y0 y1 f t r : Int) (hi : inI x1) (h : ¬ x1 = 0) : legW ⟨x0, x1⟩ ⟨y0, y1⟩ f t r = legP x0 f (wrap64 (-x1)) ++ legP x0 t y1 ++ legP x0 r (wrap64 (x1 - y1)) := by
  unfold legW legP
  by_cases h1 : y1 = 0
  · by_cases h2 : wrap64 (x1 - y1) = 0 <;> simp [h, h1, wrap_ne hi h] <;> simp_all
  · by_cases h2 : wrap64 (x1 - y1) = 0 <;> simp [h, h1, h2, wrap_ne hi h]
theorem legW_zero (x0 y0 y1 f t r : Int) : legW ⟨x0, 0⟩ ⟨y0, y1⟩ f t r = [] := by
  unfold legW
  rw [if_pos rfl]
set_option maxHeartbeats 8000000 in
theorem moveW_any (W : World) (a : Option Addr) (n c : Nat) (l : List Dw) (f t : Int) (h : Draws W a n c l) (hs : ∀ x ∈ l, Near x) (hn : n ≤ 100) (hf0 : 0 ≤ f) (hf1 : f ≤ 3) (ht0 : 0 ≤ t) (ht1 : t ≤ 3) :
    Calls Tryz.prog 125 #[.slice a n c, .int .i64 f, .int .i64 t] W fun e w' => ∃ v, e = .returned v ∧ Owns encG 2 49 w' W.heap.size v (legsW l l f t 0) ∧ Below W.heap.size W w' := by
  have HL := Lib.hid (And.intro h (And.intro h.len hs))
  clear h hs
  go_enter Tryz.func125, Tryz.ntmps125
  go_wp2_with fail
  go_loopw [7, 12] (fun v i wr => ∃ k : Nat, k ≤ n ∧ i = .int .i64 (k : Nat) ∧ Owns encG 2 49 wr W.heap.size v (legsW (l.take k) (l.take k) f t 0) ∧ Below W.heap.size W wr) (fun _ i _ => n - (intOf i).toNat)
  case atStart => exact ⟨0, Nat.zero_le _, rfl, owns_nil _ _ _, Below.refl _ _⟩
  case round =>
    obtain ⟨k, hk, rfl, hown, hb⟩ := hrel
    have HO := Lib.hid (And.intro hown hb)
    clear hown hb
    by_cases hlt : k < n
    · have hkl : k < l.length := by rw [HL.out.2.1]; exact hlt
      obtain ⟨b1, o1, rfl⟩ := lst_at HL.out.1 (by omega)
      obtain ⟨q0, q1⟩ := draw_cells (lst_keep encD_len HL.out.1 HO.out.2) hkl
      have hlg := legsW_take f t 0 (List.getElem?_eq_getElem hkl) (List.getElem?_eq_getElem hkl)
      have hsd := HL.out.2.2 _ (List.getElem_mem hkl)
      have hll := legsW_len (l.take k) (l.take k) f t 0
      have hlk : (l.take k).length ≤ k := by rw [List.length_take]; exact Nat.min_le_left _ _
      generalize l[k] = x at *
      obtain ⟨x0, x1⟩ := x
      simp only at q0 q1
      obtain ⟨⟨e1, e2⟩, e3⟩ := hsd
      simp only at e1 e2 e3
      obtain ⟨lx, hx⟩ : ∃ lx, lx = legsW (l.take k) (l.take k) f t 0 := ⟨_, rfl⟩
      rw [← hx] at HO hlg hll
      have hl3 : lx.length ≤ 300 := by omega
      rw [legW_move _ _ _ _ _ e3, ← List.append_assoc] at hlg
      have HLg := Lib.hid hlg
      have hb1 := below_alloc wr (.cells #[.int .i64 x0, .int .i64 x1] 63)
      have HW1 := Lib.hid (And.intro (Nest.own_on HO.out.1 hb1) (And.intro (below_keep HO.out.2 hb1) (And.intro (box_new wr x0 x1) (show lx.length + 1 ≤ 100000 by omega))))
      have HP := Lib.hid (legP_len x0 f (wrap64 (-x1)))
      clear hlg hx hll hlk hb1 e3
      go_wp2_with fail
      refine (put_any _ W.heap.size _ lx x0 f (wrap64 (-x1)) HW1.out.1 HW1.out.2.1.size HW1.out.2.2.2 e1 e2 hf0 hf1).mono ?_
      rintro e w2 ⟨v2, rfl, ho2, hc2⟩
      have hbx := Foot.blk_typed HW1.out.2.2.1 hc2 (box_typed HW1.out.1)
      have c0 : w2.cell? ⟨wr.heap.size, 0, none⟩ = some (.int .i64 x0) := Arr.blk_cell hbx 0
      have c1 : w2.cell? ⟨wr.heap.size, 1, none⟩ = some (.int .i64 x1) := Arr.blk_cell hbx 1
      have HW2 := Lib.hid (And.intro ho2 (And.intro (HW1.out.2.1.trans (own_below HW1.out.1 HW1.out.2.1.size hc2)) (show (lx ++ legP x0 f (wrap64 (-x1))).length + 1 ≤ 100000 by rw [List.length_append]; have := HP.out; omega)))
      clear ho2 hc2 hbx
      go_wp2_with fail
      refine (put_any _ W.heap.size _ (lx ++ legP x0 f (wrap64 (-x1))) x0 t x1 HW2.out.1 HW2.out.2.1.size HW2.out.2.2 e1 e2 ht0 ht1).mono ?_
      rintro e w3 ⟨v3, rfl, ho3, hc3⟩
      have HW3 := Lib.hid (And.intro ho3 (HW2.out.2.1.trans (own_below HW2.out.1 HW2.out.2.1.size hc3)))
      clear ho3 hc3
      go_wp2_with fail
      go_roundw
      case rel => exact ⟨k + 1, by omega, by go_num, by rw [HLg.out]; exact HW3.out.1, HW3.out.2⟩
      case measure => simp [intOf]; omega
    · obtain rfl : n = k := by omega
      have htk : l.take n = l := List.take_of_length_le (by rw [HL.out.2.1]; exact Nat.le_refl _)
      rw [htk] at HO
      go_wp2_with fail
      go_ret
      exact ⟨_, rfl, HO.out.1, HO.out.2⟩
theorem lienW_any (W : World) (a : Option Addr) (n c : Nat) (l : List Dw) (h : Draws W a n c l) (hs : ∀ x ∈ l, Near x) (hn : n ≤ 100) :
    Calls Tryz.prog 110 #[.slice a n c] W fun e W' => ∃ v, e = .returned v ∧ Owns encG 2 49 W' W.heap.size v (legsW l l 1 2 0) ∧ Below W.heap.size W W' := by
  have HC := Lib.hid (moveW_any W a n c l 1 2 h hs hn (by omega) (by omega) (by omega) (by omega))
  clear h hs
  go_enter Tryz.func110, Tryz.ntmps110
  go_wp2_with fail
  refine HC.out.mono ?_
  rintro e w2 ⟨v, rfl, ho, hb⟩
  go_wp2_with fail
  go_ret
  exact ⟨v, rfl, ho, hb⟩
theorem freeW_any (W : World) (a : Option Addr) (n c : Nat) (l : List Dw) (h : Draws W a n c l) (hs : ∀ x ∈ l, Near x) (hn : n ≤ 100) :
    Calls Tryz.prog 100 #[.slice a n c] W fun e W' => ∃ v, e = .returned v ∧ Owns encG 2 49 W' W.heap.size v (legsW l l 2 1 0) ∧ Below W.heap.size W W' := by
  have HC := Lib.hid (moveW_any W a n c l 2 1 h hs hn (by omega) (by omega) (by omega) (by omega))
  clear h hs
  go_enter Tryz.func100, Tryz.ntmps100
  go_wp2_with fail
  refine HC.out.mono ?_
  rintro e w2 ⟨v, rfl, ho, hb⟩
  go_wp2_with fail
  go_ret
  exact ⟨v, rfl, ho, hb⟩
theorem backW_any (W : World) (a : Option Addr) (n c : Nat) (l : List Dw) (h : Draws W a n c l) (hs : ∀ x ∈ l, Near x) (hn : n ≤ 100) :
    Calls Tryz.prog 105 #[.slice a n c] W fun e W' => ∃ v, e = .returned v ∧ Owns encG 2 49 W' W.heap.size v (legsW l l 3 1 0) ∧ Below W.heap.size W W' := by
  have HC := Lib.hid (moveW_any W a n c l 3 1 h hs hn (by omega) (by omega) (by omega) (by omega))
  clear h hs
  go_enter Tryz.func105, Tryz.ntmps105
  go_wp2_with fail
  refine HC.out.mono ?_
  rintro e w2 ⟨v, rfl, ho, hb⟩
  go_wp2_with fail
  go_ret
  exact ⟨v, rfl, ho, hb⟩
set_option maxHeartbeats 16000000 in
theorem spendW_any (W : World) (a a2 : Option Addr) (n c n2 c2 : Nat) (l m : List Dw) (h : Draws W a n c l) (h2 : Draws W a2 n2 c2 m) (hs : ∀ x ∈ l, Near x) (hs2 : ∀ x ∈ m, Near x) (hn : n ≤ 100) (hn2 : n2 ≤ 100) :
    Calls Tryz.prog 103 #[.slice a n c, .slice a2 n2 c2] W fun e w' => ∃ v, e = .returned v ∧ Owns encG 2 49 w' W.heap.size v (if n = n2 then legsW l m 2 3 1 else []) ∧ Below W.heap.size W w' := by
  have HL := Lib.hid (And.intro h (And.intro h.len (And.intro h2 (And.intro h2.len (And.intro hs hs2)))))
  clear h h2 hs hs2
  by_cases hnn : n = n2
  · subst hnn
    rw [if_pos rfl]
    go_enter Tryz.func103, Tryz.ntmps103
    go_wp2_with fail
    go_loopw [5, 16] (fun v i wr => ∃ k : Nat, k ≤ n ∧ i = .int .i64 (k : Nat) ∧ Owns encG 2 49 wr W.heap.size v (legsW (l.take k) (m.take k) 2 3 1) ∧ Below W.heap.size W wr) (fun _ i _ => n - (intOf i).toNat)
    case atStart => exact ⟨0, Nat.zero_le _, rfl, owns_nil _ _ _, Below.refl _ _⟩
    case round =>
      obtain ⟨k, hk, rfl, hown, hb⟩ := hrel
      have HO := Lib.hid (And.intro hown hb)
      clear hown hb
      by_cases hlt : k < n
      · have hkl : k < l.length := by rw [HL.out.2.1]; exact hlt
        have hkm : k < m.length := by rw [HL.out.2.2.2.1]; exact hlt
        obtain ⟨b1, o1, rfl⟩ := lst_at HL.out.1 (by omega)
        obtain ⟨b2, o2, rfl⟩ := lst_at HL.out.2.2.1 (by omega)
        obtain ⟨q0, q1⟩ := draw_cells (lst_keep encD_len HL.out.1 HO.out.2) hkl
        obtain ⟨-, p1⟩ := draw_cells (lst_keep encD_len HL.out.2.2.1 HO.out.2) hkm
        have hlg := legsW_take 2 3 1 (List.getElem?_eq_getElem hkl) (List.getElem?_eq_getElem hkm)
        have hsd := HL.out.2.2.2.2.1 _ (List.getElem_mem hkl)
        have hsc := HL.out.2.2.2.2.2 _ (List.getElem_mem hkm)
        have hll := legsW_len (l.take k) (m.take k) 2 3 1
        have hlk : (l.take k).length ≤ k := by rw [List.length_take]; exact Nat.min_le_left _ _
        generalize l[k] = x at *
        generalize m[k] = y at *
        obtain ⟨x0, x1⟩ := x
        obtain ⟨y0, y1⟩ := y
        simp only at q0 q1 p1
        obtain ⟨⟨e1, e2⟩, e3⟩ := hsd
        obtain ⟨-, e5⟩ := hsc
        simp only at e1 e2 e3 e5
        obtain ⟨lx, hx⟩ : ∃ lx, lx = legsW (l.take k) (m.take k) 2 3 1 := ⟨_, rfl⟩
        rw [← hx] at HO hlg hll
        have hl3 : lx.length ≤ 300 := by omega
        have hb1 := below_alloc wr (.cells #[.int .i64 x0, .int .i64 x1] 63)
        have HW1 := Lib.hid (And.intro (Nest.own_on HO.out.1 hb1) (And.intro (below_keep HO.out.2 hb1) (And.intro (box_new wr x0 x1) (show lx.length + 1 ≤ 100000 by omega))))
        by_cases hz : x1 = 0
        · subst hz
          rw [legW_zero, List.append_nil] at hlg
          have HLg := Lib.hid hlg
          clear hlg hx hll hlk hb1 e3
          go_wp2_with fail
          go_roundw
          case rel => exact ⟨k + 1, by omega, by go_num, by rw [HLg.out]; exact HW1.out.1, HW1.out.2.1⟩
          case measure => simp [intOf]; omega
        · have hz2 : (x1 == 0) = false := beq_false_of_ne hz
          rw [legW_spend _ _ _ _ _ _ _ e3 hz, ← List.append_assoc, ← List.append_assoc] at hlg
          have HLg := Lib.hid hlg
          have HP := Lib.hid (And.intro (legP_len x0 2 (wrap64 (-x1))) (legP_len x0 3 y1))
          have p1' := cell_keep hb1 p1
          clear hlg hx hll hlk hb1 p1 hz e3 e5
          go_wp2_with fail
          refine (put_any _ W.heap.size _ lx x0 2 (wrap64 (-x1)) HW1.out.1 HW1.out.2.1.size HW1.out.2.2.2 e1 e2 (by omega) (by omega)).mono ?_
          rintro e w2 ⟨v2, rfl, ho2, hc2⟩
          have hbx := Foot.blk_typed HW1.out.2.2.1 hc2 (box_typed HW1.out.1)
          have c0 : w2.cell? ⟨wr.heap.size, 0, none⟩ = some (.int .i64 x0) := Arr.blk_cell hbx 0
          have HW2 := Lib.hid (And.intro ho2 (And.intro (HW1.out.2.1.trans (own_below HW1.out.1 HW1.out.2.1.size hc2)) (And.intro hbx (show (lx ++ legP x0 2 (wrap64 (-x1))).length + 1 ≤ 100000 by rw [List.length_append]; have := HP.out.1; omega))))
          clear ho2 hc2 hbx
          go_wp2_with fail
          refine (put_any _ W.heap.size _ (lx ++ legP x0 2 (wrap64 (-x1))) x0 3 y1 HW2.out.1 HW2.out.2.1.size HW2.out.2.2.2 e1 e2 (by omega) (by omega)).mono ?_
          rintro e w3 ⟨v3, rfl, ho3, hc3⟩
          have hbx := Foot.blk_typed HW2.out.2.2.1 hc3 (box_typed HW2.out.1)
          have d0 : w3.cell? ⟨wr.heap.size, 0, none⟩ = some (.int .i64 x0) := Arr.blk_cell hbx 0
          have d1 : w3.cell? ⟨wr.heap.size, 1, none⟩ = some (.int .i64 x1) := Arr.blk_cell hbx 1
          have HW3 := Lib.hid (And.intro ho3 (And.intro (HW2.out.2.1.trans (own_below HW2.out.1 HW2.out.2.1.size hc3)) (show (lx ++ legP x0 2 (wrap64 (-x1)) ++ legP x0 3 y1).length + 1 ≤ 100000 by rw [List.length_append, List.length_append]; have := HP.out; omega)))
          clear ho3 hc3 hbx c0
          go_wp2_with fail
          refine (put_any _ W.heap.size _ (lx ++ legP x0 2 (wrap64 (-x1)) ++ legP x0 3 y1) x0 1 (wrap64 (x1 - y1)) HW3.out.1 HW3.out.2.1.size HW3.out.2.2 e1 e2 (by omega) (by omega)).mono ?_
          rintro e w4 ⟨v4, rfl, ho4, hc4⟩
          have HW4 := Lib.hid (And.intro ho4 (HW3.out.2.1.trans (own_below HW3.out.1 HW3.out.2.1.size hc4)))
          clear ho4 hc4
          go_wp2_with fail
          go_roundw
          case rel => exact ⟨k + 1, by omega, by go_num, by rw [HLg.out]; exact HW4.out.1, HW4.out.2⟩
          case measure => simp [intOf]; omega
      · obtain rfl : n = k := by omega
        have htk : l.take n = l := List.take_of_length_le (by rw [HL.out.2.1]; exact Nat.le_refl _)
        have htm : m.take n = m := List.take_of_length_le (by rw [HL.out.2.2.2.1]; exact Nat.le_refl _)
        rw [htk, htm] at HO
        go_wp2_with fail
        go_ret
        exact ⟨_, rfl, HO.out.1, HO.out.2⟩
  · rw [if_neg hnn]
    have hne : ((n : Int) == (n2 : Int)) = false := beq_false_of_ne (by omega)
    go_enter Tryz.func103, Tryz.ntmps103
    go_wp2_with fail
    go_ret
    exact ⟨_, rfl, owns_nil _ _ _, Below.refl _ _⟩
end Go.Proofs.YtjcndgopijpibaaGreat.Drw
/- Draw: the document's Charge and Total, as they run. -/
namespace Go.Proofs.YtjcndgopijpibaaGreat.Drw
set_option maxRecDepth 100000
open Go.RowKit
open Go.Sort
open Kit
open Mon
open Tre (Lst inI lst_keep lst_take lst_at lst_new lst_none below_drewN' encI encI_len encI_one OwI own_chg' info_i lit_row owns_lit ints_elems)
set_option linter.unusedVariables false
variable {w w' : World}
theorem charge_neg {l : List Dw} {k : Nat} {x : Dw} (hx : l[k]? = some x) (h : x.amt < 0) (a : Int) : chargeTo (l.drop k) a = none := by
  have hk := (List.getElem?_eq_some_iff.1 hx).1
  have he := (List.getElem?_eq_some_iff.1 hx).2
  rw [List.drop_eq_getElem_cons hk, he, chargeTo, if_pos h]
theorem charge_step {l : List Dw} {k : Nat} {x : Dw} (hx : l[k]? = some x) (h : ¬ x.amt < 0) (a : Int) : chargeTo (l.drop k) a = (chargeTo (l.drop (k + 1)) (a - min x.amt a)).map fun p => (⟨x.alloc, min x.amt a⟩ :: p.1, p.2) := by
  have hk := (List.getElem?_eq_some_iff.1 hx).1
  have he := (List.getElem?_eq_some_iff.1 hx).2
  rw [List.drop_eq_getElem_cons hk, he, chargeTo, if_neg h]
  cases chargeTo (l.drop (k + 1)) (a - min x.amt a) with
  | none => rfl
  | some p => rfl
theorem chargeE_arg {l : List Dw} {a : Int} (h : a < 0) : chargeE l a = 1 := by unfold chargeE; rw [if_pos h]
theorem chargeE_none {l : List Dw} {a : Int} (h0 : 0 ≤ a) (h : chargeTo l a = none) : chargeE l a = 7 := by unfold chargeE; rw [if_neg (by omega), h]
theorem chargeE_some {l k : List Dw} {a b : Int} (h0 : 0 ≤ a) (h : chargeTo l a = some (k, b)) : chargeE l a = if 0 < b then 7 else 0 := by unfold chargeE; rw [if_neg (by omega), h]
theorem chargeL_no {l : List Dw} {a : Int} (h : chargeE l a ≠ 0) : chargeL l a = [] := by unfold chargeL; rw [if_neg h]
theorem chargeL_some {l k : List Dw} {a b : Int} (h0 : 0 ≤ a) (h : chargeTo l a = some (k, b)) (hb : ¬ 0 < b) : chargeL l a = k := by
  unfold chargeL
  rw [chargeE_some h0 h, if_neg hb, if_pos rfl, h]
end Go.Proofs.YtjcndgopijpibaaGreat.Drw
/- Draw, the landed: Charge and Total. -/
namespace Go.Proofs.YtjcndgopijpibaaGreat.Drw
set_option maxRecDepth 100000
open Go.RowKit
open Go.Sort
open Kit
open Mon
open Tre (Lst inI lst_keep lst_take lst_at lst_new lst_none below_drewN' encI encI_len encI_one OwI own_chg' info_i lit_row owns_lit ints_elems)
set_option linter.unusedVariables false
variable {w w' : World}
set_option maxHeartbeats 8000000 in
theorem charge_own (a : Option Addr) (n c : Nat) (l : List Dw) (am : Int) (w : World) (h : Draws w a n c l) (hn : n ≤ 100) (hok : ∀ x ∈ l, x.ok) (ham : inI am) :
    Calls Tryz.prog 102 #[.slice a n c, .int .i64 am] w fun e w' => ∃ v, e = .returned (.tuple #[v, .int .i64 (chargeE l am)]) ∧ Owns encD 2 63 w' w.heap.size v (chargeL l am) ∧ Below w.heap.size w w' := by
  have HL := Lib.hid (And.intro h (And.intro h.len hok))
  clear h hok
  by_cases h0 : am < 0
  · have HE := Lib.hid (show chargeE l am = 1 ∧ chargeL l am = [] from ⟨chargeE_arg h0, chargeL_no (by rw [chargeE_arg h0]; decide)⟩)
    go_enter Tryz.func102, Tryz.ntmps102
    go_wp2_with fail
    go_ret2
    exact ⟨_, by rw [HE.out.1]; rfl, by rw [HE.out.2]; exact owns_nil _ _ _, Below.refl _ _⟩
  · have H0 := Lib.hid (show 0 ≤ am by omega)
    go_enter Tryz.func102, Tryz.ntmps102
    go_wp2_with fail
    go_loopw [1, 6, 14] (fun av v i wr => ∃ (k : Nat) (b : Int) (out : List Dw), k ≤ n ∧ i = .int .i64 (k : Nat) ∧ av = .int .i64 b ∧ (0 ≤ b ∧ b ≤ am) ∧ out.length = k ∧ chargeTo l am = (chargeTo (l.drop k) b).map (fun p => (out ++ p.1, p.2)) ∧ Owns encD 2 63 wr w.heap.size v out ∧ Below w.heap.size w wr) (fun _ _ i _ => n - (intOf i).toNat)
    case atStart => exact ⟨0, am, [], Nat.zero_le _, rfl, rfl, ⟨by omega, Int.le_refl _⟩, rfl, by cases hc : chargeTo l am <;> simp [hc], owns_nil _ _ _, Below.refl _ _⟩
    case round =>
      obtain ⟨k, b, out, hk, rfl, rfl, ⟨hb0, hb1⟩, hol, hct, hown, hb⟩ := hrel
      have HO := Lib.hid (And.intro hct (And.intro hown (And.intro hb hol)))
      clear hct hown hb hol
      by_cases hlt : k < n
      · have hkl : k < l.length := by rw [HL.out.2.1]; exact hlt
        obtain ⟨b2, o2, rfl⟩ := lst_at HL.out.1 (by omega)
        obtain ⟨q0, q1⟩ := draw_cells (lst_keep encD_len HL.out.1 HO.out.2.2.1) hkl
        have hget := List.getElem?_eq_getElem hkl
        have hxk := HL.out.2.2 l[k] (List.getElem_mem hkl)
        generalize l[k] = x at *
        have hng := fun h => charge_neg hget h b
        have hst := fun h => charge_step hget h b
        obtain ⟨x0, x1⟩ := x
        simp only at q0 q1 hng hst
        have hx1 := hxk.2
        simp only at hx1
        have HX := Lib.hid (And.intro hng hst)
        clear hng hst hget hxk
        by_cases hneg : x1 < 0
        · have HE := Lib.hid (show chargeE l am = 7 ∧ chargeL l am = [] by
            have hn0 : chargeTo l am = none := by rw [HO.out.1, HX.out.1 hneg]; rfl
            exact ⟨chargeE_none H0.out hn0, chargeL_no (by rw [chargeE_none H0.out hn0]; decide)⟩)
          go_wp2_with fail
          go_ret2
          exact ⟨_, by rw [HE.out.1]; rfl, by rw [HE.out.2]; exact owns_nil _ _ _, below_keep HO.out.2.2.1 (below_alloc _ _)⟩
        · have hst := HX.out.2 hneg
          have hl1 : (out ++ ([⟨x0, min x1 b⟩] : List Dw)).length = k + 1 := by rw [List.length_append, HO.out.2.2.2]; rfl
          have HSt := Lib.hid (And.intro (show chargeTo l am = (chargeTo (l.drop (k + 1)) (b - min x1 b)).map (fun p => ((out ++ [⟨x0, min x1 b⟩]) ++ p.1, p.2)) by
            rw [HO.out.1, hst]
            cases chargeTo (l.drop (k + 1)) (b - min x1 b) with
            | none => rfl
            | some p => simp) hl1)
          have hol2 := HO.out.2.2.2
          have HD := Lib.hid (show out.length + 1 ≤ maxLen ∧ (out.length + 1) * 16 ≤ 140737488355328 by unfold maxLen; omega)
          clear hst hl1 hol2
          by_cases hgt : b < x1
          · have hmin : min x1 b = b := by omega
            rw [hmin] at HSt
            have HA1 := Lib.hid (And.intro (Nest.own_on (Nest.own_on HO.out.2.1 (below_alloc wr (.cells #[.int .i64 x0, .int .i64 x1] 63))) (below_alloc (wr.alloc (.cells #[.int .i64 x0, .int .i64 x1] 63)) (.cells #[.int .i64 x0, .int .i64 b] 63))) (And.intro (show Kit.Row encD 2 _ (some ⟨wr.heap.size + 1, 0, none⟩) [⟨x0, b⟩] from row_new encD_len (wr.alloc (.cells #[.int .i64 x0, .int .i64 x1] 63)) [⟨x0, b⟩] #[.int .i64 x0, .int .i64 b] 63 _ (by simp) rfl) (below_keep (below_keep HO.out.2.2.1 (below_alloc wr (.cells #[.int .i64 x0, .int .i64 x1] 63))) (below_alloc (wr.alloc (.cells #[.int .i64 x0, .int .i64 x1] 63)) (.cells #[.int .i64 x0, .int .i64 b] 63)))))
            have h02 := Lib.hid (show 0 < 2 by omega)
            clear hmin
            go_wp2_with (first | (at_builtin; refine Two.append_apart encD_len h02.out encD_one rfl (.tmp 25) (.tmp 30) 56 63 rfl Tryz.underlying56 (.agg #[.int .i64 0, .int .i64 0]) 16 info_draw rfl w.heap.size _ out rfl HA1.out.1 (some ⟨wr.heap.size + 1, 0, none⟩) 1 1 [⟨x0, b⟩] rfl rfl HA1.out.2.1 (fun h => by cases h) HD.out.1 HD.out.2 HA1.out.2.2.size ?_; intro v9 w9 ho9 hg9 hx9; have HB9 := Lib.hid (HA1.out.2.2.trans (Two.below_grown HA1.out.1 hg9 HA1.out.2.2.size)); have HO9 := Lib.hid ho9; clear ho9 hg9 hx9) | fail)
            go_roundw
            case rel => exact ⟨k + 1, 0, out ++ [⟨x0, b⟩], by omega, by go_num, by first | rfl | (congr 1; omega), ⟨by omega, by omega⟩, HSt.out.2, by have := HSt.out.1; rwa [Int.sub_self] at this, HO9.out, HB9.out⟩
            case measure => simp [intOf]; omega
          · have hmin : min x1 b = x1 := by omega
            rw [hmin] at HSt
            have HA1 := Lib.hid (And.intro (Nest.own_on (Nest.own_on HO.out.2.1 (below_alloc wr (.cells #[.int .i64 x0, .int .i64 x1] 63))) (below_alloc (wr.alloc (.cells #[.int .i64 x0, .int .i64 x1] 63)) (.cells #[.int .i64 x0, .int .i64 x1] 63))) (And.intro (show Kit.Row encD 2 _ (some ⟨wr.heap.size + 1, 0, none⟩) [⟨x0, x1⟩] from row_new encD_len (wr.alloc (.cells #[.int .i64 x0, .int .i64 x1] 63)) [⟨x0, x1⟩] #[.int .i64 x0, .int .i64 x1] 63 _ (by simp) rfl) (below_keep (below_keep HO.out.2.2.1 (below_alloc wr (.cells #[.int .i64 x0, .int .i64 x1] 63))) (below_alloc (wr.alloc (.cells #[.int .i64 x0, .int .i64 x1] 63)) (.cells #[.int .i64 x0, .int .i64 x1] 63)))))
            have h02 := Lib.hid (show 0 < 2 by omega)
            clear hmin
            go_wp2_with (first | (at_builtin; refine Two.append_apart encD_len h02.out encD_one rfl (.tmp 25) (.tmp 30) 56 63 rfl Tryz.underlying56 (.agg #[.int .i64 0, .int .i64 0]) 16 info_draw rfl w.heap.size _ out rfl HA1.out.1 (some ⟨wr.heap.size + 1, 0, none⟩) 1 1 [⟨x0, x1⟩] rfl rfl HA1.out.2.1 (fun h => by cases h) HD.out.1 HD.out.2 HA1.out.2.2.size ?_; intro v9 w9 ho9 hg9 hx9; have HB9 := Lib.hid (HA1.out.2.2.trans (Two.below_grown HA1.out.1 hg9 HA1.out.2.2.size)); have HO9 := Lib.hid ho9; clear ho9 hg9 hx9) | fail)
            go_roundw
            case rel => exact ⟨k + 1, b - x1, out ++ [⟨x0, x1⟩], by omega, by go_num, rfl, ⟨by omega, by omega⟩, HSt.out.2, HSt.out.1, HO9.out, HB9.out⟩
            case measure => simp [intOf]; omega
      · obtain rfl : n = k := by omega
        have hct : chargeTo l am = some (out, b) := by
          rw [HO.out.1, List.drop_eq_nil_of_le (by rw [HL.out.2.1]; exact Nat.le_refl _)]; simp [chargeTo]
        by_cases hpos : 0 < b
        · have HE := Lib.hid (show chargeE l am = 7 ∧ chargeL l am = [] by
            have he : chargeE l am = 7 := by rw [chargeE_some H0.out hct, if_pos hpos]
            exact ⟨he, chargeL_no (by rw [he]; decide)⟩)
          clear hct
          go_wp2_with fail
          go_ret2
          exact ⟨_, by rw [HE.out.1]; rfl, by rw [HE.out.2]; exact owns_nil _ _ _, HO.out.2.2.1⟩
        · have HE := Lib.hid (show chargeE l am = 0 ∧ chargeL l am = out from ⟨by rw [chargeE_some H0.out hct, if_neg hpos], chargeL_some H0.out hct hpos⟩)
          clear hct
          go_wp2_with fail
          go_ret2
          exact ⟨_, by rw [HE.out.1]; rfl, by rw [HE.out.2]; exact HO.out.2.1, HO.out.2.2.1⟩
end Go.Proofs.YtjcndgopijpibaaGreat.Drw
/- Money: what each function of package money answers, call by call. -/
namespace Go.Proofs.YtjcndgopijpibaaGreat.Mon
open Go.RowKit
theorem fits_yes (n : Int) (w : World) (h : fitsB n = true) : Calls Tryz.prog 148 #[.int .i64 n] w fun e w' => e = .returned (.bool true) ∧ w = w' := by
  obtain ⟨h1, h2⟩ := fitsB_iff.1 h
  clear h
  go_enter Tryz.func148, Tryz.ntmps148
  go_wp2
  go_ret
  exact ⟨rfl, rfl⟩
theorem fits_no (n : Int) (w : World) (h : fitsB n = false) : Calls Tryz.prog 148 #[.int .i64 n] w fun e w' => e = .returned (.bool false) ∧ w = w' := by
  have h1 := fitsB_no.1 h
  clear h
  by_cases h2 : -1152921504606846976 ≤ n
  · have h3 : decide (n ≤ 1152921504606846976) = false := by simp; omega
    clear h1
    go_enter Tryz.func148, Tryz.ntmps148
    go_wp2
    go_ret
    exact ⟨rfl, rfl⟩
  · have h3 : decide (-1152921504606846976 ≤ n) = false := by simp; omega
    clear h1
    go_enter Tryz.func148, Tryz.ntmps148
    go_wp2
    go_ret
    exact ⟨rfl, rfl⟩
set_option maxHeartbeats 400000 in
theorem add_any (a : Option Addr) (len cap : Nat) (l : List Int) (w : World) (hl : l.length = len) (hm : len ≤ maxLen) (hE : Elems w a l) :
    Calls Tryz.prog 136 #[.slice a len cap] w fun e w' => e = .returned (.tuple #[.int .i64 (addN l), .int .i64 (addE l)]) ∧ w = w' := by
  unfold maxLen at hm
  have h00 : fitsB 0 = true := by decide
  have hr0 : Rest (fun a b => a + b) (addF l) l 0 0 := rfl
  have HL := Lib.hid hl
  have HE := Lib.hid hE
  have H00 := Lib.hid h00
  clear hl hE h00
  go_enter Tryz.func136, Tryz.ntmps136
  go_wp2
  go_loop [4, 9] (fun t i => ∃ k : Nat, ∃ s : Int, k ≤ len ∧ i = .int .i64 k ∧ t = .int .i64 s ∧ Hid (fitsB s = true) ∧ Rest (fun a b => a + b) (addF l) l s k) (fun _ i => len - (intOf i).toNat)
  case atStart => exact ⟨0, 0, Nat.zero_le _, rfl, rfl, H00, hr0⟩
  case round =>
    obtain ⟨k, s, hk, rfl, rfl, hs, hr⟩ := hrel
    by_cases hlt : k < len
    · have hkl : k < l.length := by rw [HL.out]; exact hlt
      obtain ⟨b, off, HA, hc⟩ : ∃ b off, Hid (a = some ⟨b, off, none⟩) ∧ w.cell? ⟨b, off + k, none⟩ = some (.int .i64 (l.getD k 0)) := by
        rcases HE.out with h | ⟨b, off, h, hj⟩
        · rw [h] at hkl; simp at hkl
        · exact ⟨b, off, h, hj k hkl⟩
      have ha := HA.out
      subst ha
      generalize hx : l.getD k 0 = x at *
      have HX := Lib.hid hx
      clear hx
      cases h1 : fitsB x with
      | false =>
        have H1 := Lib.hid h1
        clear h1
        have Hn := Lib.hid (rest_no1 hr hkl (by rw [HX.out]; exact H1.out))
        go_wp2_with (go_at_call 148; refine (fits_no _ _ H1.out).mono ?_; rintro e w' ⟨rfl, rfl⟩)
        go_ret2
        exact ⟨ret_two (none_N Hn.out).symm (none_E Hn.out).symm, rfl⟩
      | true =>
        have hx2 := fitsB_iff.1 h1
        have hs2 := fitsB_iff.1 hs.out
        obtain ⟨hx3, hx4⟩ := hx2
        obtain ⟨hs3, hs4⟩ := hs2
        have H1 := Lib.hid h1
        clear h1
        cases h2 : fitsB (s + x) with
        | false =>
          have H2 := Lib.hid h2
          clear h2
          have Hn := Lib.hid (rest_no2 hr hkl (by rw [HX.out]; exact H2.out))
          go_wp2_with fail
          refine (fits_yes _ _ H1.out).mono ?_
          rintro e w' ⟨rfl, rfl⟩
          go_wp2_with fail
          refine (fits_no _ _ H2.out).mono ?_
          rintro e w' ⟨rfl, rfl⟩
          go_wp2_with fail
          go_ret2
          exact ⟨ret_two (none_N Hn.out).symm (none_E Hn.out).symm, rfl⟩
        | true =>
          have H2 := Lib.hid h2
          clear h2
          have hn : Rest (fun a b => a + b) (addF l) l (s + x) (k + 1) := by
            have := rest_step hr hkl (by rw [HX.out]; exact H1.out) (by rw [HX.out]; exact H2.out)
            rw [HX.out] at this; exact this
          go_wp2_with fail
          refine (fits_yes _ _ H1.out).mono ?_
          rintro e w' ⟨rfl, rfl⟩
          go_wp2_with fail
          refine (fits_yes _ _ H2.out).mono ?_
          rintro e w' ⟨rfl, rfl⟩
          go_wp2_with fail
          go_round
          case rel => exact ⟨k + 1, s + x, by omega, by go_num, rfl, H2, hn⟩
          case measure => simp [intOf]; omega
    · have Hn := Lib.hid (rest_end hr (by rw [HL.out]; omega))
      go_wp2
      go_ret2
      exact ⟨ret_two (some_N Hn.out).symm (some_E Hn.out).symm, rfl⟩
end Go.Proofs.YtjcndgopijpibaaGreat.Mon
