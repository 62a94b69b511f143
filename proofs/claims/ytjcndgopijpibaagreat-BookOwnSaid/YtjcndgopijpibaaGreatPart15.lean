/- Common to the claims of this seat, part 15: texts that were written one by one, laid behind one another. -/
import Derived.Deep.WholeRow
import Derived.Test.YtjcndgopijpibaaGreatPart3
import Derived.Test.YtjcndgopijpibaaGreatPart5
import Derived.Test.YtjcndgopijpibaaGreatPart6
import Derived.Test.YtjcndgopijpibaaGreatPart7
import Derived.Test.YtjcndgopijpibaaGreatPart11
import Derived.Test.YtjcndgopijpibaaGreatPart12
import Derived.Test.YtjcndgopijpibaaGreatPart13
import Derived.Test.YtjcndgopijpibaaGreatPart14
/- Money: products, call by call. -/
namespace Go.Proofs.YtjcndgopijpibaaGreat.Mon
open Go.RowKit
theorem size_any (n : Int) (w : World) (h1 : -1152921504606846976 ≤ n) (h2 : n ≤ 1152921504606846976) :
    Calls Tryz.prog 161 #[.int .i64 n] w fun e w' => e = .returned (.int .i64 (abs n)) ∧ w = w' := by
  by_cases h : n < 0
  · have HH := Lib.hid (abs_neg h)
    go_enter Tryz.func161, Tryz.ntmps161
    go_wp2
    go_ret
    exact ⟨ret_int HH.out.symm, rfl⟩
  · have HH := Lib.hid (abs_pos h)
    go_enter Tryz.func161, Tryz.ntmps161
    go_wp2
    go_ret
    exact ⟨ret_int HH.out.symm, rfl⟩
theorem product_any (a b : Int) (w : World) (h1 : -1152921504606846976 ≤ a) (h2 : a ≤ 1152921504606846976) (h3 : -1152921504606846976 ≤ b) (h4 : b ≤ 1152921504606846976) :
    Calls Tryz.prog 149 #[.int .i64 a, .int .i64 b] w fun e w' => e = .returned (.bool (fitsB (a * b))) ∧ w = w' := by
  by_cases h : b = 0
  · subst h
    have HF := Lib.hid (fits_zero a)
    go_enter Tryz.func149, Tryz.ntmps149
    go_wp2_with fail
    go_ret
    exact ⟨ret_bool HF.out.symm, rfl⟩
  · have hb : (b == 0) = false := by simpa using h
    have hq := quot_iff a b h
    have ha0 := abs_ge a
    have hb0 : 1 ≤ abs b := by unfold abs; omega
    cases hf : fitsB (a * b) with
    | false =>
      have hd : decide (abs a ≤ 1152921504606846976 / abs b) = false := by
        rw [decide_eq_false_iff_not, hq, hf]; simp
      clear hq hf h
      go_enter Tryz.func149, Tryz.ntmps149
      go_wp2_with fail
      refine (size_any a _ h1 h2).mono ?_
      rintro e w' ⟨rfl, rfl⟩
      go_wp2_with fail
      refine (size_any b _ h3 h4).mono ?_
      rintro e w' ⟨rfl, rfl⟩
      go_wp2_with fail
      go_ret
      exact ⟨rfl, rfl⟩
    | true =>
      have hd : decide (abs a ≤ 1152921504606846976 / abs b) = true := by
        rw [decide_eq_true_iff, hq, hf]
      clear hq hf h
      go_enter Tryz.func149, Tryz.ntmps149
      go_wp2_with fail
      refine (size_any a _ h1 h2).mono ?_
      rintro e w' ⟨rfl, rfl⟩
      go_wp2_with fail
      refine (size_any b _ h3 h4).mono ?_
      rintro e w' ⟨rfl, rfl⟩
      go_wp2_with fail
      go_ret
      exact ⟨rfl, rfl⟩
set_option maxHeartbeats 400000 in
theorem mul_any (a : Option Addr) (len cap : Nat) (l : List Int) (w : World) (hl : l.length = len) (hm : len ≤ maxLen) (hE : Elems w a l) :
    Calls Tryz.prog 126 #[.slice a len cap] w fun e w' => e = .returned (.tuple #[.int .i64 (mulN l), .int .i64 (mulE l)]) ∧ w = w' := by
  unfold maxLen at hm
  have h00 : fitsB 1 = true := by decide
  have hr0 : Rest (fun a b => a * b) (mulF l) l 1 0 := rfl
  have HL := Lib.hid hl
  have HE := Lib.hid hE
  have H00 := Lib.hid h00
  clear hl hE h00
  go_enter Tryz.func126, Tryz.ntmps126
  go_wp2
  go_loop [4, 9] (fun t i => ∃ k : Nat, ∃ s : Int, k ≤ len ∧ i = .int .i64 k ∧ t = .int .i64 s ∧ Hid (fitsB s = true) ∧ Rest (fun a b => a * b) (mulF l) l s k) (fun _ i => len - (intOf i).toNat)
  case atStart => exact ⟨0, 1, Nat.zero_le _, rfl, rfl, H00, hr0⟩
  case round =>
    obtain ⟨k, s, hk, rfl, rfl, hs, hr⟩ := hrel
    by_cases hlt : k < len
    · have hkl : k < l.length := by rw [HL.out]; exact hlt
      obtain ⟨b, off, HA, hc⟩ : ∃ b off, Hid (a = some ⟨b, off, none⟩) ∧ w.cell? ⟨b, off + k, none⟩ = some (.int .i64 (l.getD k 0)) := by
        rcases HE.out with h | ⟨b, off, h, hj⟩
        · rw [h] at hkl; simp at hkl
        · exact ⟨b, off, h, hj k hkl⟩
      have ha := HA.out
      subst ha
      generalize hx : l.getD k 0 = x at *
      have HX := Lib.hid hx
      clear hx
      cases h1 : fitsB x with
      | false =>
        have H1 := Lib.hid h1
        clear h1
        have Hn := Lib.hid (rest_no1 hr hkl (by rw [HX.out]; exact H1.out))
        go_wp2_with fail
        refine (fits_no _ _ H1.out).mono ?_
        rintro e w' ⟨rfl, rfl⟩
        go_wp2_with fail
        go_ret2
        exact ⟨ret_two (none_N Hn.out).symm (none_E Hn.out).symm, rfl⟩
      | true =>
        have hx2 := fitsB_iff.1 h1
        have hs2 := fitsB_iff.1 hs.out
        obtain ⟨hx3, hx4⟩ := hx2
        obtain ⟨hs3, hs4⟩ := hs2
        have H1 := Lib.hid h1
        clear h1
        cases h2 : fitsB (s * x) with
        | false =>
          have H2 := Lib.hid h2
          have hp := product_any s x w hs3 hs4 hx3 hx4
          rw [h2] at hp
          have HP := Lib.hid hp
          clear h2 hp
          have Hn := Lib.hid (rest_no2 hr hkl (by rw [HX.out]; exact H2.out))
          go_wp2_with fail
          refine (fits_yes _ _ H1.out).mono ?_
          rintro e w' ⟨rfl, rfl⟩
          go_wp2_with fail
          refine HP.out.mono ?_
          rintro e w' ⟨rfl, rfl⟩
          go_wp2_with fail
          go_ret2
          exact ⟨ret_two (none_N Hn.out).symm (none_E Hn.out).symm, rfl⟩
        | true =>
          have H2 := Lib.hid h2
          have hp := product_any s x w hs3 hs4 hx3 hx4
          rw [h2] at hp
          have HP := Lib.hid hp
          clear h2 hp
          have hn : Rest (fun a b => a * b) (mulF l) l (s * x) (k + 1) := by
            have := rest_step hr hkl (by rw [HX.out]; exact H1.out) (by rw [HX.out]; exact H2.out)
            rw [HX.out] at this; exact this
          obtain ⟨hy1, hy2⟩ := fitsB_iff.1 H2.out
          go_wp2_with fail
          refine (fits_yes _ _ H1.out).mono ?_
          rintro e w' ⟨rfl, rfl⟩
          go_wp2_with fail
          refine HP.out.mono ?_
          rintro e w' ⟨rfl, rfl⟩
          go_wp2_with fail
          go_round
          case rel => exact ⟨k + 1, s * x, by omega, by go_num, rfl, H2, hn⟩
          case measure => simp [intOf]; omega
    · have Hn := Lib.hid (rest_end hr (by rw [HL.out]; omega))
      go_wp2
      go_ret2
      exact ⟨ret_two (some_N Hn.out).symm (some_E Hn.out).symm, rfl⟩
end Go.Proofs.YtjcndgopijpibaaGreat.Mon
/- Money: what nodes cost. -/
namespace Go.Proofs.YtjcndgopijpibaaGreat.Mon
open Go.RowKit
theorem elems_new (w : World) (A : Array Value) (T : TypeId) (l : List Int) (n : Nat) (hn : n = w.heap.size) (h : ∀ j, j < l.length → A[j]? = some (.int .i64 (l.getD j 0))) : Elems (w.alloc (.cells A T)) (some ⟨n, 0, none⟩) l :=
  .inr ⟨_, _, rfl, fun j hj => by rw [Nat.zero_add, hn, World.cell?_alloc_new]; exact h j hj⟩
theorem elems_three (a b c : Int) : ∀ j, j < [a, b, c].length → (#[Value.int .i64 a, Value.int .i64 b, Value.int .i64 c] : Array Value)[j]? = some (.int .i64 ([a, b, c].getD j 0)) := by
  intro j hj
  match j, hj with
  | 0, _ => rfl
  | 1, _ => rfl
  | 2, _ => rfl
theorem cost_any (a b c : Int) (w : World) :
    Calls Tryz.prog 101 #[.int .i64 a, .int .i64 b, .int .i64 c] w fun e w' => e = .returned (.tuple #[.int .i64 (costN a b c), .int .i64 (costE a b c)]) ∧ Below w.heap.size w w' := by
  by_cases h : a < 0 ∨ b < 0 ∨ c < 0
  · have HC := Lib.hid (cost_neg h)
    by_cases h1 : a < 0
    · clear h
      go_enter Tryz.func101, Tryz.ntmps101
      go_wp2
      go_ret2
      exact ⟨ret_two HC.out.1.symm HC.out.2.symm, Below.refl _ _⟩
    · by_cases h2 : b < 0
      · clear h
        go_enter Tryz.func101, Tryz.ntmps101
        go_wp2
        go_ret2
        exact ⟨ret_two HC.out.1.symm HC.out.2.symm, Below.refl _ _⟩
      · have h3 : c < 0 := by omega
        clear h
        go_enter Tryz.func101, Tryz.ntmps101
        go_wp2
        go_ret2
        exact ⟨ret_two HC.out.1.symm HC.out.2.symm, Below.refl _ _⟩
  · have HC := Lib.hid (cost_pos h)
    have h1 : ¬ a < 0 := by omega
    have h2 : ¬ b < 0 := by omega
    have h3 : ¬ c < 0 := by omega
    clear h
    go_enter Tryz.func101, Tryz.ntmps101
    go_wp2_with fail
    refine (mul_any _ 3 3 [a, b, c] _ rfl (by unfold maxLen; omega) (elems_new _ _ _ _ _ (by simp) (elems_three a b c))).mono ?_
    rintro e w' ⟨rfl, rfl⟩
    go_wp2_with fail
    go_ret2
    exact ⟨ret_two HC.out.1.symm HC.out.2.symm, (Below.refl _ _).alloc (Nat.le_refl _) _⟩
end Go.Proofs.YtjcndgopijpibaaGreat.Mon
/- Book: a struct made and put into a box of its own, in a drawn region; structs loaded from such boxes. -/
namespace Go.Proofs.YtjcndgopijpibaaGreat.Bok
set_option maxRecDepth 100000
open Go.RowKit
open Go.Sort
open Kit
open Foot
open Tre (Lst inI lst_keep lst_at lst_new lst_none encF encF_len encL_len)
open Rte (Rt encR encR_len)
open Job (Jb Jv Jobs encJ encJ_len encJ_one)
open Drw (Dw Draws encD encD_len encD_one)
open Snp (Sn Sv encK encK_len encK_one)
set_option linter.unusedVariables false
variable {w w' : World}
theorem run_ld_st {w : World} {B : Nat} {cs : List Value} (h : Arr.Blk w B 29 cs) (hl : cs.length = 8) : (Instr.loadAt 29 (.pointer (some ⟨B, 0, none⟩))).run Tryz.prog w = .ok (.agg cs.toArray) w := by
  have hi : (Tryz.prog.info? 29).map (·.size) = some cs.toArray.size := by rw [info_st]; simp [hl]
  simp only [Instr.loadAt, Instr.sureAddr, Sem.run_bind, Sem.run_pure, Result.andThen_ok]
  exact run_loadVar_row w B 29 29 cs.toArray (0, 0) _ h Tryz.underlying29 rfl hi
theorem run_st_st {w : World} {B : Nat} {cs old : List Value} (h : Arr.Blk w B 29 old) (hl : cs.length = 8) (ho : old.length = 8) (h1 : cs.all (·.oneCell') = true) : (Instr.storeAt 29 (.pointer (some ⟨B, 0, none⟩)) (.agg cs.toArray)).run Tryz.prog w = .ok () (w.setRow B cs.toArray) := by
  have hi : (Tryz.prog.info? 29).map (·.size) = some cs.toArray.size := by rw [info_st]; simp [hl]
  simp only [Instr.storeAt, Instr.sureAddr, Sem.run_bind, Sem.run_pure, Result.andThen_ok]
  exact run_storeVar_row w B 29 29 old.toArray cs.toArray h hi (by simp [hl, ho]) (by simpa using h1)
theorem one12C (x : Jv) : (encJ x).all (·.oneCell') = true := by
  rw [List.all_eq_true]
  exact encJ_one x
def zeroJ12 : List Value := [.int .i64 0, .int .i64 0, .int .i64 0, .int .i64 0, .int .i64 0, .int .i64 0, .int .i64 0, .int .i64 0, .int .i64 0, .int .i64 0, .int .i64 0, .slice none 0 0]
theorem info_j12 : (Tryz.prog.info? 58).map (·.size) = some 12 := by kernel_rfl
theorem info_a6 : (Tryz.prog.info? 65).map (·.size) = some 6 := by kernel_rfl
def phiJ (wa : World) (C : Array Value) : Nat → List Value → World → Prop
  | 0, _, w => w = wa.drew
  | 1, [p], w => p = .pointer (some ⟨wa.heap.size, 0, none⟩) ∧ w = wa.drew.alloc (.cells zeroJ12.toArray 58)
  | 2, [p, _], w => p = .pointer (some ⟨wa.heap.size, 0, none⟩) ∧ w = wa.drew.alloc (.cells C 58)
  | _, _, _ => False
theorem phiJ_cell {wa : World} {C : Array Value} {j : Nat} {vs : List Value} {b o : Nat} {u : Value} (hj : j ≤ 1) (h : phiJ wa C j vs w) (hc : wa.cell? ⟨b, o, none⟩ = some u) : w.cell? ⟨b, o, none⟩ = some u := by
  have h0 : wa.drew.cell? ⟨b, o, none⟩ = some u := cell_keep (below_drew wa) hc
  match j, vs, hj, h with
  | 0, _, _, h => rw [h]; exact h0
  | 1, [p], _, h => rw [h.2]; exact cell_keep (below_alloc _ _) h0
  | 1, [], _, h => exact h.elim
  | 1, _ :: _ :: _, _, h => exact h.elim
theorem run_alloc_jb (w : World) : (Instr.alloc 58 true (.tuple #[])).run Tryz.prog w = .ok (.pointer (some ⟨w.heap.size, 0, none⟩)) (w.alloc (.cells zeroJ12.toArray 58)) := by
  simp [go_sem]
  rfl
theorem wp_alJ {P : Program} {o : Oper} {a : Act} {K : Act → World → Prop} {Q : Exit → Act → World → Prop} (t : TypeId) (ho : o.op = .alloc t) {u : Value} {w' : World} (hr : (Instr.alloc t true (.tuple #[])).run P w = .ok u w') (h : K (a.put o.dst u) w') : o.wp P a w K Q := by
  unfold Oper.wp execOp
  simp only [ho, Sem.run_bind, hr]
  exact h
theorem run_st_jb (x0 x1 x2 x3 x4 x5 x6 : Int) (w : World) : (Instr.storeAt 58 (.pointer (some ⟨w.heap.size, 0, none⟩)) (.agg #[.int .i64 x0, .int .i64 x1, .int .i64 x2, .int .i64 x3, .int .i64 x4, .int .i64 x5, .int .i64 x6, .int .i64 1, .int .i64 0, .int .i64 0, .int .i64 0, .slice none 0 0])).run Tryz.prog (w.alloc (.cells zeroJ12.toArray 58)) = .ok () (w.alloc (.cells #[.int .i64 x0, .int .i64 x1, .int .i64 x2, .int .i64 x3, .int .i64 x4, .int .i64 x5, .int .i64 x6, .int .i64 1, .int .i64 0, .int .i64 0, .int .i64 0, .slice none 0 0] 58)) :=
  run_storeAt_new w 58 zeroJ12.toArray [Value.int .i64 x0, .int .i64 x1, .int .i64 x2, .int .i64 x3, .int .i64 x4, .int .i64 x5, .int .i64 x6, .int .i64 1, .int .i64 0, .int .i64 0, .int .i64 0, .slice none 0 0].toArray info_j12 rfl (by rw [List.all_toArray]; rfl)
theorem run_bd_j (x0 x1 x2 x3 x4 x5 x6 : Int) (w : World) : (Instr.build 58 #[(0, .int .i64 x0), (1, .int .i64 x1), (2, .int .i64 x2), (3, .int .i64 x3), (4, .int .i64 x4), (5, .int .i64 x5), (6, .int .i64 x6), (7, .int .i64 1)]).run Tryz.prog w = .ok (.agg #[.int .i64 x0, .int .i64 x1, .int .i64 x2, .int .i64 x3, .int .i64 x4, .int .i64 x5, .int .i64 x6, .int .i64 1, .int .i64 0, .int .i64 0, .int .i64 0, .slice none 0 0]) w := by
  simp [go_sem]
theorem wp_bd8J {P : Program} {o : Oper} {a : Act} {K : Act → World → Prop} {Q : Exit → Act → World → Prop} (t : TypeId) (x0 x1 x2 x3 x4 x5 x6 x7 : Operand) (ho : o.op = .build t #[(0, x0), (1, x1), (2, x2), (3, x3), (4, x4), (5, x5), (6, x6), (7, x7)]) {v0 v1 v2 v3 v4 v5 v6 v7 r : Value} {w' : World} (h0 : a.eval x0 = v0) (h1 : a.eval x1 = v1) (h2 : a.eval x2 = v2) (h3 : a.eval x3 = v3) (h4 : a.eval x4 = v4) (h5 : a.eval x5 = v5) (h6 : a.eval x6 = v6) (h7 : a.eval x7 = v7)
    (hr : (Instr.build t #[(0, v0), (1, v1), (2, v2), (3, v3), (4, v4), (5, v5), (6, v6), (7, v7)]).run P w = .ok r w') (h : K (a.put o.dst r) w') : o.wp P a w K Q :=
  Chn.wp_bd t _ ho (by simpa [h0, h1, h2, h3, h4, h5, h6, h7] using hr) h
theorem run_ldAl {w : World} {b : Nat} {cs : List Value} (h : Arr.Blk w b 65 cs) (hl : cs.length = 6) : (Instr.loadAt 65 (.pointer (some ⟨b, 0, none⟩))).run Tryz.prog w = .ok (.agg cs.toArray) w := by
  have hi : (Tryz.prog.info? 65).map (·.size) = some cs.toArray.size := by rw [info_a6]; simp [hl]
  simp only [Instr.loadAt, Instr.sureAddr, Sem.run_bind, Sem.run_pure, Result.andThen_ok]
  exact run_loadVar_row w b 65 65 cs.toArray (0, 0) _ h Tryz.underlying65 rfl hi
theorem run_ldJb {w : World} {b : Nat} {cs : List Value} (h : Arr.Blk w b 58 cs) (hl : cs.length = 12) : (Instr.loadAt 58 (.pointer (some ⟨b, 0, none⟩))).run Tryz.prog w = .ok (.agg cs.toArray) w := by
  have hi : (Tryz.prog.info? 58).map (·.size) = some cs.toArray.size := by rw [info_j12]; simp [hl]
  simp only [Instr.loadAt, Instr.sureAddr, Sem.run_bind, Sem.run_pure, Result.andThen_ok]
  exact run_loadVar_row w b 58 58 cs.toArray (0, 0) _ h Tryz.underlying58 rfl hi
def zeroA6 : List Value := [.int .i64 0, .int .i64 0, .int .i64 0, .int .i64 0, .int .i64 0, .int .i64 0]
def phiA (wa : World) (C : Array Value) : Nat → List Value → World → Prop
  | 0, _, w => w = wa.drew
  | 1, [p], w => p = .pointer (some ⟨wa.heap.size, 0, none⟩) ∧ w = wa.drew.alloc (.cells zeroA6.toArray 65)
  | 2, [p, _], w => p = .pointer (some ⟨wa.heap.size, 0, none⟩) ∧ w = wa.drew.alloc (.cells C 65)
  | _, _, _ => False
theorem phiA_cell {wa : World} {C : Array Value} {j : Nat} {vs : List Value} {b o : Nat} {u : Value} (hj : j ≤ 2) (h : phiA wa C j vs w) (hc : wa.cell? ⟨b, o, none⟩ = some u) : w.cell? ⟨b, o, none⟩ = some u := by
  have h0 : wa.drew.cell? ⟨b, o, none⟩ = some u := cell_keep (below_drew wa) hc
  match j, vs, hj, h with
  | 0, _, _, h => rw [h]; exact h0
  | 1, [p], _, h => rw [h.2]; exact cell_keep (below_alloc _ _) h0
  | 1, [], _, h => exact h.elim
  | 1, _ :: _ :: _, _, h => exact h.elim
  | 2, [p, q], _, h => rw [h.2]; exact cell_keep (below_alloc _ _) h0
  | 2, [], _, h => exact h.elim
  | 2, [_], _, h => exact h.elim
  | 2, _ :: _ :: _ :: _, _, h => exact h.elim
theorem run_alloc_al (w : World) : (Instr.alloc 65 true (.tuple #[])).run Tryz.prog w = .ok (.pointer (some ⟨w.heap.size, 0, none⟩)) (w.alloc (.cells zeroA6.toArray 65)) := by
  simp [go_sem]
  rfl
theorem run_st_al (x0 x1 x2 : Int) (w : World) : (Instr.storeAt 65 (.pointer (some ⟨w.heap.size, 0, none⟩)) (.agg #[.int .i64 x0, .int .i64 x1, .int .i64 x2, .int .i64 0, .int .i64 0, .int .i64 0])).run Tryz.prog (w.alloc (.cells zeroA6.toArray 65)) = .ok () (w.alloc (.cells #[.int .i64 x0, .int .i64 x1, .int .i64 x2, .int .i64 0, .int .i64 0, .int .i64 0] 65)) :=
  run_storeAt_new w 65 zeroA6.toArray [Value.int .i64 x0, .int .i64 x1, .int .i64 x2, .int .i64 0, .int .i64 0, .int .i64 0].toArray info_a6 rfl (by rw [List.all_toArray]; rfl)
theorem phiB_blk {α : Type} {enc : α → List Value} {size : Nat} {T T2 : TypeId} {w0 : World} {base : Nat} {v : Value} {l : List α} {y : α} {B i j b : Nat} {vs cs : List Value} (hj : j ≤ 1) (h : phiB enc size T w0 base v l y B i j vs w) (hc : Arr.Blk w0 b T2 cs) : Arr.Blk w b T2 cs := by
  have h0 : Arr.Blk w0.drew b T2 cs := Arr.blk_below hc (below_drew w0) (Arr.blk_lt hc)
  match j, vs, hj, h with
  | 0, _, _, h => rw [h]; exact h0
  | 1, [p], _, h => rw [h.2]; exact Arr.blk_alloc h0 _
  | 1, [], _, h => exact h.elim
  | 1, _ :: _ :: _, _, h => exact h.elim
theorem run_subB {a b c : Int} (h : a - b = c) (hc : -9223372036854775808 ≤ c ∧ c ≤ 9223372036854775807) (x y : Operand) (w : World) : (do eqGuard .sub 3 x y (.int .i64 a) (.int .i64 b); binOp .sub 3 (.int .i64 a) (.int .i64 b) : Sem Value).run Tryz.prog w = .ok (.int .i64 c) w := by
  subst h
  simp [go_sem]
  exact IntWalk.i64_in _ hc
end Go.Proofs.YtjcndgopijpibaaGreat.Bok
/- Book: the legs of a transaction that may be (mathematics). -/
namespace Go.Proofs.YtjcndgopijpibaaGreat.Bok
open Go.RowKit
open Go.Proofs.YtjcndgopijpibaaGreat.Mon (costN costE mulN mulE outN)
open Tre (inI Al Fd goodB over)
open Rte (Rt goodR)
open Led (Lg postE postW postA)
open Drw (Dw drawsE drawsL chargeE chargeL legsW)
open Job (Jb findI goodJ maskL)
open Poo (cnt lo)
open Ent (Tx zeroT)
open Snp (Sn zeroS)
set_option linter.unusedVariables false
theorem pair_ok {f t a : Int} (hf : inI f) (ht : inI t) (ha : 0 ≤ a ∧ inI a) : ∀ g ∈ pair f t a, g.ok := fun g hg => by
  unfold pair at hg
  have ha2 := ha.2.2
  simp only [List.mem_cons, List.not_mem_nil, or_false] at hg
  rcases hg with rfl | rfl
  · exact ⟨hf, by unfold inI; simp only; omega⟩
  · exact ⟨ht, ha.2⟩
theorem legW_ok {d c : Dw} {f t r : Int} (hd : 0 ≤ d.alloc ∧ d.alloc ≤ 15) (hc : inI c.amt) (hf : 0 ≤ f ∧ f ≤ 3) (ht : 0 ≤ t ∧ t ≤ 3) (hr : 0 ≤ r ∧ r ≤ 3) : ∀ g ∈ Drw.legW d c f t r, g.ok := fun g hg => by
  unfold Drw.legW at hg
  by_cases h0 : d.amt = 0
  · rw [if_pos h0] at hg; cases hg
  rw [if_neg h0] at hg
  rcases List.mem_append.1 hg with hg | hg
  · rcases List.mem_append.1 hg with hg | hg
    · rw [List.mem_singleton] at hg
      subst hg
      exact ⟨by unfold inI; simp only; omega, wrap_inI _⟩
    · by_cases h1 : c.amt ≠ 0
      · rw [if_pos h1, List.mem_singleton] at hg
        subst hg
        exact ⟨by unfold inI; simp only; omega, hc⟩
      · rw [if_neg h1] at hg; cases hg
  · by_cases h1 : wrap64 (d.amt - c.amt) ≠ 0
    · rw [if_pos h1, List.mem_singleton] at hg
      subst hg
      exact ⟨by unfold inI; simp only; omega, wrap_inI _⟩
    · rw [if_neg h1] at hg; cases hg
theorem legsW_ok {f t r : Int} (hf : 0 ≤ f ∧ f ≤ 3) (ht : 0 ≤ t ∧ t ≤ 3) (hr : 0 ≤ r ∧ r ≤ 3) : ∀ (l m : List Dw), (∀ d ∈ l, 0 ≤ d.alloc ∧ d.alloc ≤ 15) → (∀ c ∈ m, inI c.amt) → ∀ g ∈ legsW l m f t r, g.ok
  | [], m, _, _, g, hg => by cases m <;> cases hg
  | d :: l, [], _, _, g, hg => by cases hg
  | d :: l, c :: m, hl, hm, g, hg => by
    rw [Drw.legsW] at hg
    rcases List.mem_append.1 hg with hg | hg
    · exact legW_ok (hl d (List.mem_cons_self ..)) (hm c (List.mem_cons_self ..)) hf ht hr g hg
    · exact legsW_ok hf ht hr l m (fun d hd => hl d (List.mem_cons_of_mem _ hd)) (fun c hc => hm c (List.mem_cons_of_mem _ hc)) g hg
theorem legsW_many {f t r : Int} : ∀ (l m : List Dw), (legsW l m f t r).length ≤ 3 * l.length
  | [], m => by cases m <;> simp [Drw.legsW]
  | d :: l, [] => by simp [Drw.legsW]
  | d :: l, c :: m => by
    have := legsW_many (f := f) (t := t) (r := r) l m
    have h3 : (Drw.legW d c f t r).length ≤ 3 := by
      unfold Drw.legW
      split
      · simp
      · split <;> split <;> simp
    rw [Drw.legsW, List.length_append, List.length_cons]
    omega
theorem exp_ok {now : Int} : ∀ (l : List Tre.Al) (i : Nat), i + l.length ≤ 100 → (∀ x ∈ l, x.ok) → (∀ g ∈ expFrom now i l, g.ok) ∧ (expFrom now i l).length ≤ 2 * l.length
  | [], i, _, _ => ⟨fun g hg => (by cases hg), by simp [expFrom]⟩
  | x :: l, i, hi, hok => by
    simp only [List.length_cons] at hi
    obtain ⟨h1, h2⟩ := exp_ok (now := now) l (i + 1) (by omega) (fun y hy => hok y (List.mem_cons_of_mem _ hy))
    have hx := (hok x (List.mem_cons_self ..)).2.2.2.1
    rw [expFrom]
    refine ⟨fun g hg => ?_, ?_⟩
    · rcases List.mem_append.1 hg with hg | hg
      · by_cases hc : 0 < x.avail ∧ x.till ≤ now
        · rw [if_pos hc] at hg
          exact pair_ok (by unfold inI; omega) (by unfold inI; omega) ⟨by omega, hx⟩ g hg
        · rw [if_neg hc] at hg; cases hg
      · exact h1 g hg
    · rw [List.length_append, List.length_cons]
      split
      · simp [pair]; omega
      · simp; omega
theorem kind_legs {s : Sn} {t : Tx} (hf : formB t = false) (h : kindE s t = 0) (hm : MayS s) (hok : s.ok) (ht : t.ok) : (∀ g ∈ kindL s t, g.ok) ∧ (kindL s t).length ≤ 100 := by
  have hargs : ∀ i, inI (ag t.args i) := fun i => ag_in ht.2.2.2.1 i
  have hal := hm.1.2.1
  have hall := hok.2.2.2.2.1
  unfold kindE at h
  unfold kindL
  by_cases k7 : t.kind < 7
  · rw [if_pos k7] at h ⊢
    unfold bankE at h
    unfold bankL
    by_cases k1 : t.kind = 1
    · rw [if_pos k1]; exact ⟨fun g hg => (by cases hg), by simp⟩
    rw [if_neg k1] at h ⊢
    by_cases k2 : t.kind = 2
    · rw [if_pos k2] at h ⊢
      have h3 := hargs 3
      refine ⟨pair_ok (by unfold inI; omega) (by unfold inI; omega) ⟨?_, h3⟩, by simp [pair]⟩
      by_cases hin : inL s.funds (ag t.args 0) = true
      · rw [if_pos hin] at h
        by_cases hb : ag t.args 1 < 0 ∨ ag t.args 2 ≤ ag t.args 1 ∨ 1099511627776 < ag t.args 2 ∨ ag t.args 3 < 1
        · rw [if_pos hb] at h; omega
        · omega
      · rw [if_neg hin] at h; omega
    rw [if_neg k2] at h ⊢
    by_cases k6 : t.kind = 6
    · rw [if_pos k6]; exact ⟨fun g hg => (by cases hg), by simp⟩
    rw [if_neg k6] at h ⊢
    by_cases hin : inL s.allocs (ag t.args 0) = true
    · rw [if_pos hin] at h
      have hin0 : 0 ≤ ag t.args 0 ∧ ag t.args 0 < (s.allocs.length : Int) := by unfold inL at hin; exact of_decide_eq_true hin
      by_cases k5 : t.kind = 5
      · rw [if_pos k5] at h ⊢
        by_cases hin2 : inL s.allocs (ag t.args 1) = true
        · rw [if_pos hin2] at h
          have hin1 : 0 ≤ ag t.args 1 ∧ ag t.args 1 < (s.allocs.length : Int) := by unfold inL at hin2; exact of_decide_eq_true hin2
          by_cases hb : ag t.args 0 = ag t.args 1 ∨ ag t.args 2 < 1
          · rw [if_pos hb] at h; omega
          · exact ⟨pair_ok (by unfold inI; omega) (by unfold inI; omega) ⟨by omega, hargs 2⟩, by simp [pair]⟩
        · rw [if_neg hin2] at h; omega
      · rw [if_neg k5] at h ⊢
        by_cases hb : ag t.args 1 < 1
        · rw [if_pos hb] at h; omega
        · by_cases k3 : t.kind = 3
          · rw [if_pos k3]
            exact ⟨pair_ok (by unfold inI; omega) (by unfold inI; omega) ⟨by omega, hargs 1⟩, by simp [pair]⟩
          · rw [if_neg k3]
            exact ⟨pair_ok (by unfold inI; omega) (by unfold inI; omega) ⟨by omega, hargs 1⟩, by simp [pair]⟩
    · rw [if_neg hin] at h; omega
  rw [if_neg k7] at h ⊢
  by_cases k8 : t.kind = 7
  · rw [if_pos k8]; exact ⟨fun g hg => (by cases hg), by simp⟩
  rw [if_neg k8] at h ⊢
  by_cases k15 : t.kind < 15
  · rw [if_pos k15] at h ⊢
    obtain ⟨n, j, e1, e2, e3, e4, e5, e6⟩ := jobsE_parts h
    have hjm := List.mem_of_getElem? e2
    have hjd : DP j.draws := ⟨(hm.2.2 j hjm).1.2.2.2.2, fun d hd => ⟨(hm.2.2 j hjm).2 d hd, ((hok.2.2.2.2.2.2.1 j hjm).2.2.2.2.2.2.2.2.2.2.2 d hd).2⟩⟩
    unfold jobsL
    rw [e4]
    unfold jobL
    unfold jobE at e6
    have all : ∀ (l m : List Dw) (f u r : Int), DP l → DP m → 0 ≤ f ∧ f ≤ 3 → 0 ≤ u ∧ u ≤ 3 → 0 ≤ r ∧ r ≤ 3 → (∀ g ∈ legsW l m f u r, g.ok) ∧ (legsW l m f u r).length ≤ 100 := fun l m f u r hl hm' h1 h2 h3 => ⟨legsW_ok h1 h2 h3 l m (fun d hd => (hl.2 d hd).1) (fun c hc => (hm'.2 c hc).2), by
      have := legsW_many (f := f) (t := u) (r := r) l m
      have := hl.1
      omega⟩
    by_cases k11 : t.kind = 11
    · rw [if_pos k11]
      exact all _ _ 2 1 0 hjd hjd (by omega) (by omega) (by omega)
    rw [if_neg k11]
    by_cases k12 : t.kind = 12
    · rw [if_pos k12] at e6 ⊢
      by_cases hb : ag t.args 1 < 0 ∨ j.wall < ag t.args 1
      · rw [if_pos hb] at e6; omega
      rw [if_neg hb] at e6
      by_cases hb2 : costE j.nodes (ag t.args 1) j.price ≠ 0
      · rw [if_pos hb2] at e6; exact absurd e6 hb2
      rw [if_neg hb2] at e6
      exact all _ _ 2 3 1 hjd (charge_dp e6 hjd) (by omega) (by omega) (by omega)
    rw [if_neg k12] at e6 ⊢
    by_cases k13 : t.kind = 13
    · rw [if_pos k13] at e6 ⊢
      by_cases hb : ag t.args 1 < 1
      · rw [if_pos hb] at e6; omega
      rw [if_neg hb] at e6
      exact all _ _ 3 1 0 (charge_dp e6 hjd) (charge_dp e6 hjd) (by omega) (by omega) (by omega)
    rw [if_neg k13] at e6 ⊢
    by_cases k14 : t.kind = 14
    · rw [if_pos k14] at e6 ⊢
      by_cases hb : ag t.args 1 < 0 ∨ 4294967296 ≤ ag t.args 1 ∨ (Poo.cnt (Poo.lo (ag t.args 1)) : Int) ≠ j.nodes
      · rw [if_pos hb] at e6; omega
      rw [if_neg hb] at e6
      by_cases hb2 : bits BinOp.and IntKind.i64 (ag t.args 1) (Job.maskL s.jobs) ≠ 0
      · rw [if_pos hb2] at e6; omega
      rw [if_neg hb2] at e6
      by_cases hb3 : costE j.nodes j.wall j.price ≠ 0
      · rw [if_pos hb3] at e6; exact absurd e6 hb3
      rw [if_neg hb3] at e6
      have hd := draws_dp e6 hal hall
      exact all _ _ 1 2 0 hd hd (by omega) (by omega) (by omega)
    rw [if_neg k14]
    exact ⟨fun g hg => (by cases hg), by simp⟩
  rw [if_neg k15]
  obtain ⟨h1, h2⟩ := exp_ok (now := t.time) s.allocs 0 (by omega) hall
  exact ⟨h1, by show (expFrom t.time 0 s.allocs).length ≤ 100; omega⟩
end Go.Proofs.YtjcndgopijpibaaGreat.Bok
/- Tree: the document's Path, as it runs. -/
namespace Go.Proofs.YtjcndgopijpibaaGreat.Tre
set_option maxRecDepth 100000
open Go.RowKit
open Go.Sort
open Kit
open Mon
set_option linter.unusedVariables false
variable {w w' : World}
end Go.Proofs.YtjcndgopijpibaaGreat.Tre
/- Tree: the landed Path, as it runs. -/
namespace Go.Proofs.YtjcndgopijpibaaGreat.Tre
set_option maxRecDepth 100000
open Go.RowKit
open Go.Sort
open Kit
open Mon
set_option linter.unusedVariables false
variable {w w' : World}
set_option maxHeartbeats 4000000 in
theorem path_any (l : List Fd) (hok : ∀ x ∈ l, x.ok) (a : Option Addr) (n c : Nat) (w : World) (h : Funds w a n c l) (hn : n ≤ 100) (f : Int) :
    Calls Tryz.prog 132 #[.slice a n c, .int .i64 f] w fun e w' => ∃ v, e = .returned v ∧ NewI w' w.heap.size v (path l f) ∧ Below w.heap.size w w' := by
  have HP := Lib.hid (show path l f = [] ++ (if f < (n : Int) then path l f else []) by
    by_cases hf : f < (n : Int)
    · rw [if_pos hf]; rfl
    · rw [if_neg hf, path_far (.inr (by rw [h.len]; omega))]; rfl)
  have HL := Lib.hid (And.intro h h.len)
  clear h
  go_enter Tryz.func132, Tryz.ntmps132
  go_wp2_with fail
  go_loopw [1, 5, 6] (fun fv v bv wr => ∃ (fc : Int) (m : Nat) (done : List Int), fv = .int .i64 fc ∧ bv = .int .i64 (m : Nat) ∧ m ≤ n ∧ done.length + m ≤ n ∧ path l f = done ++ (if fc < (m : Int) then path l fc else []) ∧ OwI wr w.heap.size v done ∧ Below w.heap.size w wr) (fun _ _ bv _ => (intOf bv).toNat)
  case atStart => exact ⟨f, n, [], rfl, rfl, Nat.le_refl _, by simp, HP.out, owns_nil _ _ _, Below.refl _ _⟩
  case round =>
    obtain ⟨fc, m, done, rfl, rfl, hmn, hdl, hpt, hown, hb⟩ := hrel
    have HO := Lib.hid (And.intro hpt (And.intro hown (And.intro hb hdl)))
    clear hpt hown hb hdl
    by_cases h0 : 0 ≤ fc
    · by_cases hlt : fc < (m : Int)
      · obtain ⟨k, rfl⟩ : ∃ k : Nat, fc = k := ⟨fc.toNat, by omega⟩
        have hkn : k < n := by omega
        have hkl : k < l.length := by rw [HL.out.2]; exact hkn
        obtain ⟨b, o, rfl⟩ := lst_at HL.out.1 (by omega)
        have HF := Lib.hid (fun (wz : World) (hz : Below w.heap.size w wz) => (fund_cells (lst_keep encF_len HL.out.1 hz) hkl).2.1)
        have hpa := path_at (List.getElem?_eq_getElem hkl)
        generalize l[k] = x at *
        obtain ⟨nm, pr, lm⟩ := x
        simp only at HF hpa
        have HPa := Lib.hid (show path l f = (done ++ [(k : Int)]) ++ (if pr < (k : Int) then path l pr else []) by
          rw [HO.out.1, if_pos hlt, hpa, List.append_assoc]; rfl)
        have HA1 := Lib.hid (own_chg' HO.out.2.1 (below_alloc wr (.cells #[.int .i64 (k : Nat)] 3)))
        have HA2 := Lib.hid (lit_row wr (k : Nat))
        have HA3 := Lib.hid (below_keep HO.out.2.2.1 (below_alloc wr (.cells #[.int .i64 (k : Nat)] 3)))
        have HD1 := Lib.hid (show done.length + 1 ≤ maxLen by have := HO.out.2.2.2; unfold maxLen; omega)
        have HD2 := Lib.hid (show (done.length + 1) * 8 ≤ 140737488355328 by have := HO.out.2.2.2; omega)
        have HD3 := Lib.hid (show (done ++ [(k : Int)]).length + k ≤ n by have := HO.out.2.2.2; rw [List.length_append]; simp; omega)
        clear hpa
        go_wp2_with (first | (at_builtin; refine Two.append_apart encI_len Nat.zero_lt_one encI_one rfl (.tmp 16) (.tmp 18) 31 3 rfl Tryz.underlying31 (.int .i64 0) 8 info_i rfl w.heap.size _ done rfl HA1.out (some ⟨wr.heap.size, 0, none⟩) 1 1 [((k : Nat) : Int)] rfl rfl HA2.out (fun h => by cases h) HD1.out HD2.out HA3.out.size ?_; intro v9 w9 ho9 hg9 _; have HB9 := Lib.hid (HA3.out.trans (Two.below_grown HA1.out hg9 HA3.out.size)); have HO9 := Lib.hid ho9; have q9 := HF.out w9 HB9.out; clear ho9 hg9) | fail)
        go_quiet (fail)
        go_wp2_with fail
        go_roundw
        case rel => exact ⟨pr, k, done ++ [(k : Int)], rfl, rfl, by omega, HD3.out, HPa.out, own_chg' HO9.out (below_drewN' _ _), below_keep HB9.out (below_drewN' _ _)⟩
        case measure => simp [intOf]; omega
      · have HPa := Lib.hid (show path l f = done by rw [HO.out.1, if_neg hlt, List.append_nil])
        have hge : ¬ fc < (m : Int) := hlt
        go_wp2_with fail
        go_ret
        exact ⟨_, rfl, by rw [HPa.out]; exact newI_own HO.out.2.1, HO.out.2.2.1⟩
    · have HPa := Lib.hid (show path l f = done by rw [HO.out.1, path_neg (by omega)]; simp)
      go_wp2_with fail
      go_ret
      exact ⟨_, rfl, by rw [HPa.out]; exact newI_own HO.out.2.1, HO.out.2.2.1⟩
end Go.Proofs.YtjcndgopijpibaaGreat.Tre
/- Tree: the document's Good, as it runs. -/
namespace Go.Proofs.YtjcndgopijpibaaGreat.Tre
set_option maxRecDepth 100000
open Go.RowKit
open Go.Sort
open Kit
open Mon
set_option linter.unusedVariables false
variable {w w' : World}
theorem name_ne {a b : ByteArray} (h : a ≠ b) : (a.toList == b.toList) = false :=
  beq_false_of_ne (fun e => h (by
    rw [ByteArray.toList_eq, ByteArray.toList_eq] at e
    exact ByteArray.ext (Array.toList_inj.1 e)))
def bad1 (i : Nat) (x : Fd) : Prop := x.name.size < 1 ∨ (16 < x.name.size) ∨ x.par < -1 ∨ (i : Int) ≤ x.par ∨ x.lim < 0 ∨ 1152921504606846976 < x.lim
theorem okAt_iff (l : List Fd) (i : Nat) (x : Fd) : okAt l i x = true ↔ ¬ bad1 i x ∧ ∀ y ∈ l.take i, y.name ≠ x.name := by
  unfold okAt bad1
  simp only [Bool.and_eq_true, decide_eq_true_eq, List.all_eq_true]
  constructor
  · rintro ⟨⟨⟨⟨⟨⟨h1, h2⟩, h3⟩, h4⟩, h5⟩, h6⟩, h7⟩
    exact ⟨by omega, h7⟩
  · rintro ⟨h, h7⟩
    exact ⟨⟨⟨⟨⟨⟨by omega, by omega⟩, by omega⟩, by omega⟩, by omega⟩, by omega⟩, h7⟩
theorem okTo_false {l : List Fd} {i n : Nat} {x : Fd} (hi : i < n) (hx : l[i]? = some x) (h : okAt l i x = false) : okTo l n = false := by
  cases hc : okTo l n with
  | false => rfl
  | true => rw [okTo_at hc hi hx] at h; cases h
theorem good_false {l : List Fd} (h : okTo l l.length = false) : goodB l = false := by unfold goodB; rw [h, Bool.and_false]
set_option maxHeartbeats 8000000 in
theorem rgood_any (l : List Fd) (hok : ∀ x ∈ l, x.ok) (a : Option Addr) (n c : Nat) (w : World) (h : Funds w a n c l) (hn : n ≤ 100) :
    Calls Tryz.prog 40 #[.slice a n c] w fun e w' => e = .returned (.bool (goodB l)) ∧ Below w.heap.size w w' := by
  have HL := Lib.hid (And.intro h (And.intro hok h.len))
  clear h hok
  go_enter Tryz.func40, Tryz.ntmps40
  go_wp2_with fail
  go_loopw [3] (fun i wr => ∃ k : Nat, k ≤ n ∧ i = .int .i64 (k : Nat) ∧ okTo l k = true ∧ Below w.heap.size w wr) (fun i _ => n - (intOf i).toNat)
  case atStart => exact ⟨0, Nat.zero_le _, rfl, rfl, Below.refl _ _⟩
  case round =>
    obtain ⟨k, hk, rfl, hto, hb⟩ := hrel
    have HO := Lib.hid (And.intro hto hb)
    clear hto hb
    by_cases hlt : k < n
    · have hkl : k < l.length := by rw [HL.out.2.2]; exact hlt
      obtain ⟨b, o, rfl⟩ := lst_at HL.out.1 (by omega)
      have hF := lst_keep encF_len HL.out.1 HO.out.2
      obtain ⟨q0, q1, q2⟩ := fund_cells hF hkl
      have hxk := HL.out.2.1 l[k] (List.getElem_mem hkl)
      have hget := List.getElem?_eq_getElem hkl
      generalize l[k] = x at *
      obtain ⟨nm, pr, lm⟩ := x
      simp only at q0 q1 q2
      obtain ⟨hs1, ⟨hp1, hp2⟩, hl1, hl2⟩ := hxk
      simp only at hs1 hp1 hp2 hl1 hl2
      have hs2 : nm.size ≤ 9223372036854775807 := by unfold maxLen at hs1; omega
      have HX := Lib.hid (And.intro hget (And.intro (okTo_succ l hget) (okAt_iff l k ⟨nm, pr, lm⟩)))
      clear hget hF
      by_cases hbad : bad1 k ⟨nm, pr, lm⟩
      · have HBad := Lib.hid (show goodB l = false from good_false (okTo_false hkl HX.out.1 (by
          cases hc : okAt l k ⟨nm, pr, lm⟩ with
          | false => rfl
          | true => exact absurd hbad (HX.out.2.2.1 hc).1)))
        have hor : ((nm.size : Int) < 1) ∨ (¬ (nm.size : Int) < 1 ∧ (16 : Int) < nm.size) ∨ (¬ (nm.size : Int) < 1 ∧ ¬ (16 : Int) < nm.size ∧ pr < -1) ∨ (¬ (nm.size : Int) < 1 ∧ ¬ (16 : Int) < nm.size ∧ ¬ pr < -1 ∧ (k : Int) - 1 < pr) ∨ (¬ (nm.size : Int) < 1 ∧ ¬ (16 : Int) < nm.size ∧ ¬ pr < -1 ∧ ¬ (k : Int) - 1 < pr ∧ lm < 0) ∨ (¬ (nm.size : Int) < 1 ∧ ¬ (16 : Int) < nm.size ∧ ¬ pr < -1 ∧ ¬ (k : Int) - 1 < pr ∧ ¬ lm < 0 ∧ 1152921504606846976 < lm) := by
          unfold bad1 at hbad
          simp only at hbad
          omega
        clear hbad
        rcases hor with h1 | ⟨h1, h2⟩ | ⟨h1, h2, h3⟩ | ⟨h1, h2, h3, h4⟩ | ⟨h1, h2, h3, h4, h5⟩ | ⟨h1, h2, h3, h4, h5, h6⟩
        all_goals
          go_wp2_with fail
          go_ret
          exact ⟨by rw [HBad.out]; rfl, below_keep HO.out.2 (below_alloc _ _)⟩
      · have hg1 : ¬ (nm.size : Int) < 1 ∧ ¬ (16 : Int) < nm.size ∧ ¬ pr < -1 ∧ ¬ (k : Int) - 1 < pr ∧ ¬ lm < 0 ∧ ¬ 1152921504606846976 < lm := by
          unfold bad1 at hbad
          simp only at hbad
          omega
        obtain ⟨g1, g2, g3, g4, g5, g6⟩ := hg1
        have HNb := Lib.hid hbad
        clear hbad
        go_upto_region 5 with fail
        obtain ⟨w2, hw2⟩ : ∃ x, x = wr.alloc (.cells #[.string nm, .int .i64 pr, .int .i64 lm] 81) := ⟨_, rfl⟩
        rw [← hw2]
        have hb2 : Below wr.heap.size wr w2 := by rw [hw2]; exact below_alloc _ _
        have hblk : Arr.Blk w2 wr.heap.size 81 [.string nm, .int .i64 pr, .int .i64 lm] := by rw [hw2]; exact Arr.blk_new wr _ _ [.string nm, .int .i64 pr, .int .i64 lm] rfl
        have r0 := Arr.blk_cell hblk 0
        have r1 := Arr.blk_cell hblk 1
        have r2 := Arr.blk_cell hblk 2
        simp only [List.getElem?_cons_zero, List.getElem?_cons_succ] at r0 r1 r2
        have H2 := Lib.hid (And.intro hb2 (And.intro r0 (lst_keep encF_len HL.out.1 (below_keep HO.out.2 hb2))))
        clear hw2 hb2 hblk q0 q1 q2
        go_wp2_with fail
        go_loopw [5] (fun i wz => ∃ j : Nat, j ≤ k ∧ i = .int .i64 (j : Nat) ∧ (∀ y ∈ l.take j, y.name ≠ nm) ∧ Below w2.heap.size w2 wz) (fun i _ => k - (intOf i).toNat)
        case atStart => exact ⟨0, Nat.zero_le _, rfl, (fun y hy => by simp at hy), Below.refl _ _⟩
        case round =>
          obtain ⟨j, hj, rfl, hall, hbz⟩ := hrel
          have HI := Lib.hid (And.intro hall hbz)
          clear hall hbz r0 r1 r2
          by_cases hlt2 : j < k
          · have hjl : j < l.length := by omega
            obtain ⟨p0, _, _⟩ := fund_cells (lst_keep encF_len H2.out.2.2 HI.out.2) hjl
            have r0 := cell_keep HI.out.2 H2.out.2.1
            have hgj := List.getElem?_eq_getElem hjl
            have HTk := Lib.hid (List.take_succ_eq_append_getElem hjl)
            generalize l[j] = y at *
            obtain ⟨ym, yp, yl⟩ := y
            simp only at p0
            by_cases he : ym = nm
            · have HBad := Lib.hid (show goodB l = false from good_false (okTo_false hkl HX.out.1 (by
                cases hc : okAt l k ⟨nm, pr, lm⟩ with
                | false => rfl
                | true => exact absurd he ((HX.out.2.2.1 hc).2 ⟨ym, yp, yl⟩ (List.mem_iff_getElem?.2 ⟨j, by rw [List.getElem?_take_of_lt hlt2, hgj]⟩)))))
              have he2 : (ym.toList == nm.toList) = true := by rw [he]; exact beq_self_eq_true _
              clear he
              go_wp2_with fail
              go_quiet (fail)
              go_wp2_with fail
              go_ret
              exact ⟨by rw [HBad.out]; rfl, below_keep (below_keep HO.out.2 H2.out.1) (below_keep HI.out.2 (below_drewN' _ _))⟩
            · have hne2 : (ym.toList == nm.toList) = false := name_ne he
              have HNe := Lib.hid he
              clear he
              have HE2 := Lib.hid (show ∀ z ∈ l.take (j + 1), z.name ≠ nm by
                intro z hz
                rw [HTk.out, List.mem_append, List.mem_singleton] at hz
                rcases hz with hz | rfl
                · exact HI.out.1 z hz
                · exact HNe.out)
              go_wp2_with fail
              go_quiet (fail)
              go_wp2_with fail
              go_roundw
              case rel => exact ⟨j + 1, by omega, by go_num, HE2.out, below_keep HI.out.2 (below_drewN' _ _)⟩
              case measure => simp [intOf]; omega
          · obtain rfl : j = k := by omega
            have hokk : okTo l (j + 1) = true := by
              rw [HX.out.2.1, HO.out.1, Bool.true_and]
              exact HX.out.2.2.2 ⟨HNb.out, HI.out.1⟩
            have HK := Lib.hid (And.intro hokk (below_keep (below_keep HO.out.2 H2.out.1) HI.out.2))
            clear hokk
            go_wp2_with fail
            go_roundw
            case rel => exact ⟨j + 1, by omega, by go_num, HK.out.1, HK.out.2⟩
            case measure => simp [intOf]; omega
    · obtain rfl : k = n := by omega
      have HG := Lib.hid (show goodB l = decide (k ≤ 8) by unfold goodB; rw [HL.out.2.2, HO.out.1, Bool.and_true])
      by_cases h8 : k ≤ 8
      · have h8i : (k : Int) ≤ 8 := by omega
        have HD := Lib.hid (decide_eq_true h8)
        go_wp2_with fail
        go_ret
        exact ⟨by rw [HG.out, HD.out]; first | rfl | exact ret_bool (decide_eq_true h8i), HO.out.2⟩
      · have h8i : ¬ (k : Int) ≤ 8 := by omega
        have HD := Lib.hid (decide_eq_false h8)
        go_wp2_with fail
        go_ret
        exact ⟨by rw [HG.out, HD.out]; first | rfl | exact ret_bool (decide_eq_false h8i), HO.out.2⟩
end Go.Proofs.YtjcndgopijpibaaGreat.Tre
