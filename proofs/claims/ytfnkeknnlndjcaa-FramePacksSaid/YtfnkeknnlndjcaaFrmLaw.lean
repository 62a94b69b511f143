/- Frame: what the program's frame is to do, whatever its code; the fixed fact of the laws, and 600 bytes at most. -/
import Derived.Test.YtfnkeknnlndjcaaFrmUnp
import Derived.Lib.SmallJoins
namespace Go.Proofs.Ytfnkeknnlndjcaa.Frm
open Go.RowKit
open Go.Sort
open Kit
open Oct
open Chk
set_option linter.unusedVariables false

/-- What Pack answers. -/
def packA (e q : Int) (l : Bs) : Bs × Nat := if inE e q then (packB e.toNat q.toNat l, 0) else ([], 1)
abbrev PackR (w : World) (e q : Int) (l : Bs) (e' : Ending) (w' : World) : Prop := ∃ v, e' = .returned (.tuple #[v, .int .i64 ((packA e q l).2 : Nat)]) ∧ NewB w' w.heap.size v (packA e q l).1 ∧ Below w.heap.size w w'
abbrev UnpN (w : World) (s : Bs) (e' : Ending) (w' : World) : Prop := ∃ v, e' = .returned (.tuple #[.int .i64 ((ansU s).1 : Nat), .int .i64 ((ansU s).2.1 : Nat), v, .int .i64 ((ansU s).2.2.2.1 : Nat), .int .i64 ((ansU s).2.2.2.2 : Nat)]) ∧ NewB w' w.heap.size v (ansU s).2.2.1 ∧ Below w.heap.size w w'
/-- A slice that can be read. -/
structure Arg (w : World) (aa : Option Addr) (n c : Nat) (l : Bs) : Prop where
  len : l.length = n
  cap : n ≤ c
  max : c ≤ maxLen
  nil : aa = none → n = 0 ∧ c = 0
  row : RowB w aa l
theorem arg_keep {w w' : World} {aa : Option Addr} {len cap : Nat} {l : Bs} (h : Arg w aa len cap l) (hb : Below w.heap.size w w') : Arg w' aa len cap l := ⟨h.len, h.cap, h.max, h.nil, row_keep encB_len h.row hb⟩
theorem arg_take {w : World} {aa : Option Addr} {len cap : Nat} {l : Bs} (h : Arg w aa len cap l) (m : Nat) (hm : m ≤ len) : Arg w aa m cap (l.take m) :=
  ⟨by rw [List.length_take, h.len]; omega, Nat.le_trans hm h.cap, h.max, fun e => ⟨by have := h.nil e; omega, (h.nil e).2⟩, row_take h.row m⟩
theorem arg_new {w : World} {base : Nat} {v : Value} {l : Bs} (h : NewB w base v l) : ∃ a cap, v = .slice a l.length cap ∧ Arg w a l.length cap l := by
  obtain ⟨a, c, rfl, h1, h2, h3, h4, _⟩ := h
  exact ⟨a, c, rfl, rfl, h1, h2, h3, h4⟩

structure Prog : Prop where
  sectors : ∀ (n : Int) (w : World), -9223372036854775808 ≤ n ∧ n ≤ 9223372036854775807 → Calls Try.prog 10 #[.int .i64 n] w fun e w' => e = .returned (.int .i64 (secsI n : Nat)) ∧ Below w.heap.size w w'
  pack : ∀ (e q : Int) (aa : Option Addr) (len cap : Nat) (l : Bs) (w : World), -9223372036854775808 ≤ e ∧ e ≤ 9223372036854775807 → -9223372036854775808 ≤ q ∧ q ≤ 9223372036854775807 → Arg w aa len cap l → len ≤ 1900 →
    Calls Try.prog 6 #[.int .i64 e, .int .i64 q, .slice aa len cap] w fun e' w' => PackR w e q l e' w'
  unpack : ∀ (aa : Option Addr) (len cap : Nat) (l : Bs) (w : World), Arg w aa len cap l → len ≤ 1900 → Calls Try.prog 12 #[.slice aa len cap] w fun e' w' => UnpN w l e' w'

/-! ### The document's -/

theorem rpack_any (e q : Int) (aa : Option Addr) (len cap : Nat) (l : Bs) (w : World) (h : Arg w aa len cap l) (hm : len ≤ 1900) :
    Calls Try.prog 8 #[.int .i64 e, .int .i64 q, .slice aa len cap] w fun e' w' => PackR w e q l e' w' := by
  unfold PackR packA
  by_cases hi : inE e q
  · rw [if_pos hi]
    obtain ⟨⟨h1, h2⟩, h3, h4⟩ := hi
    obtain ⟨en, rfl⟩ : ∃ n : Nat, e = n := ⟨e.toNat, by omega⟩
    obtain ⟨qn, rfl⟩ : ∃ n : Nat, q = n := ⟨q.toNat, by omega⟩
    exact (rpack_ok en qn (by omega) (by omega) aa len cap l w h.len hm h.nil h.row).mono fun e' w' ⟨v, he, ho, hb⟩ => ⟨v, he, new_own ho, hb⟩
  · rw [if_neg hi]
    refine (rpack_bad e q aa len cap w hi).mono fun e' w' ⟨he, hw⟩ => ?_
    subst hw
    exact ⟨_, he, new_nil _ _, Below.refl _ _⟩
theorem runp_any (aa : Option Addr) (len cap : Nat) (l : Bs) (w : World) (h : Arg w aa len cap l) (hm : len ≤ 1900) :
    Calls Try.prog 13 #[.slice aa len cap] w fun e' w' => UnpN w l e' w' :=
  (runpack_any aa len cap l w h.len hm h.cap h.row).mono fun e' w' ⟨v, he, ho, hb⟩ => ⟨v, he, new_own ho, hb⟩

theorem kcRow (W : World) (a : Option Addr) (len cap : Nat) (l : Bs) (h : Arg W a len cap l) : (convert 22 9 (.slice a len cap)).run Try.prog W = .ok (.string ⟨l.toArray⟩) W :=
  conv_row Try.underlying22 Try.underlying5 Try.underlying9 h.len (fun e => (h.nil e).1) h.row

/-! ### What the laws share -/

def cut6 (l : Bs) : Bs := l.take 600
theorem cut6_le (l : Bs) : (cut6 l).length ≤ 600 := by unfold cut6; rw [List.length_take]; omega
set_option maxHeartbeats 1000000 in
theorem short6_any (a : Option Addr) (len cap : Nat) (l : Bs) (w : World) (h : Arg w a len cap l) :
    Calls Try.prog 7 #[.slice a len cap] w fun e w' => e = .returned (.slice a (cut6 l).length cap) ∧ w' = w := by
  have hl := h.len
  have hc := h.cap
  have hm := h.max
  unfold maxLen at hm
  clear h
  subst hl
  by_cases h : l.length ≤ 600
  · have e : (cut6 l).length = l.length := by unfold cut6; rw [List.length_take]; omega
    have E := Lib.hid e
    clear e
    go_enter Try.func7, Try.ntmps7
    go_wp2
    go_ret
    refine ⟨?_, rfl⟩
    rw [E.out]; rfl
  · have e : (cut6 l).length = 600 := by unfold cut6; rw [List.length_take]; omega
    have E := Lib.hid e
    have hlt : (600 : Int) < l.length := by omega
    clear e
    go_enter Try.func7, Try.ntmps7
    go_wp2
    go_ret
    refine ⟨?_, rfl⟩
    rw [E.out]
    first | rfl | (simp; try omega)
theorem arg_cut6 {w : World} {a : Option Addr} {len cap : Nat} {l : Bs} (h : Arg w a len cap l) : Arg w a (cut6 l).length cap (cut6 l) := by
  have hl := h.len
  have := arg_take h (min 600 l.length) (by omega)
  have e : l.take (min 600 l.length) = cut6 l := by
    unfold cut6
    rcases Nat.le_total 600 l.length with h1 | h1
    · rw [Nat.min_eq_left h1]
    · rw [Nat.min_eq_right h1, List.take_of_length_le (by omega), List.take_of_length_le h1]
  rw [e] at this
  have e2 : min 600 l.length = (cut6 l).length := by unfold cut6; rw [List.length_take]
  rw [e2] at this
  exact this

def rec6 : Bs := [114, 101, 99, 111, 114, 100]
theorem packA_rec : packA 1 7 rec6 = (packB 1 7 rec6, 0) := by unfold packA; rw [if_pos (by unfold inE; omega)]; rfl
theorem ans_rec : ansU (packB 1 7 rec6) = (1, 7, rec6, 1, 0) := by
  refine ansU_some ?_
  have := unpack_pack (e := 1) (q := 7) (b := rec6) [] (by omega) (by omega) (by decide)
  rw [List.append_nil] at this
  exact this
theorem ans_zeros : ansU (List.replicate 64 0) = (0, 0, [], 0, 3) := ansU_none zeros_none

set_option maxHeartbeats 2000000 in
theorem awake_any (hF : Prog) (W : World) : Calls Try.prog 9 #[] W fun e w' => e = .returned (.bool true) ∧ Below W.heap.size W w' := by
  have kc := Lib.run_convert_bytes_const (P := Try.prog) W 22 5 #[.int .u8 114, .int .u8 101, .int .u8 99, .int .u8 111, .int .u8 114, .int .u8 100] 6 6 Try.underlying22 Try.underlying5
  go_enter Try.func9, Try.ntmps9
  go_wp2_with fail
  clear kc
  obtain ⟨w0, hw0⟩ : ∃ x, x = W.alloc (.cells #[.int .u8 114, .int .u8 101, .int .u8 99, .int .u8 111, .int .u8 114, .int .u8 100] 5 (0, 6)) := ⟨_, rfl⟩
  refine (hF.pack 1 7 _ 6 6 rec6 _ (by omega) (by omega) ⟨rfl, by omega, by unfold maxLen; omega, (fun h => by cases h), row_mark W _ _ _ _ rfl⟩ (by omega)).mono ?_
  rintro e' w1 ⟨v, rfl, hv, hb⟩
  rw [packA_rec] at hv ⊢
  have hB1 : Below W.heap.size W w1 := (below_alloc W _).trans (hb.mono (by simp))
  obtain ⟨a1, c1, rfl, hA⟩ := arg_new hv
  have hp : (packB 1 7 rec6).length = 32 := by rw [packB_length]; rfl
  simp only [hp] at hA ⊢
  have HA := Lib.hid hA
  have HB1 := Lib.hid hB1
  clear hv hb hA hB1 hp hw0
  go_wp2_with fail
  refine (hF.unpack a1 32 c1 (packB 1 7 rec6) w1 HA.out (by omega)).mono ?_
  rintro e' w2 ⟨v, rfl, hv, hb⟩
  rw [ans_rec] at hv ⊢
  obtain ⟨a2, c2, rfl, hA⟩ := arg_new hv
  have HA2 := Lib.hid hA
  have HB2 := Lib.hid (below_keep HB1.out hb)
  have hmk := run_make_b 64 64 rfl (by omega) w2
  have HZ := Lib.hid (own_made_b w2 w2.heap.size 64 (Nat.le_refl _) (by unfold maxLen; omega))
  have HBz := Lib.hid (below_alloc w2 (.cells (madeCells #[.int .u8 0] 64) 5))
  clear hv hb hA
  go_wp2_with fail
  clear hmk
  refine (hF.unpack (some ⟨w2.heap.size, 0, none⟩) 64 64 (List.replicate 64 0) _ ⟨List.length_replicate .., by omega, by unfold maxLen; omega, (fun h => by cases h), own_row' HZ.out⟩ (by omega)).mono ?_
  rintro e' w3 ⟨v, rfl, hv, hb⟩
  rw [ans_zeros] at hv ⊢
  have HB23 := Lib.hid (below_keep HBz.out hb)
  have HB3 := Lib.hid (below_keep HB2.out HB23.out)
  have hcv : (convert 22 9 (.slice a2 rec6.length c2)).run Try.prog w3 = .ok (.string ⟨#[114, 101, 99, 111, 114, 100]⟩) w3 := kcRow w3 a2 rec6.length c2 rec6 (arg_keep HA2.out HB23.out)
  clear hv hb
  go_wp2_with fail
  refine (hF.sectors 18 w3 (by omega)).mono ?_
  rw [show secsI 18 = 1 by decide]
  rintro e' w4 ⟨rfl, hb⟩
  have HB4 := Lib.hid (below_keep HB3.out hb)
  clear hb
  go_wp2_with fail
  refine (hF.sectors 19 w4 (by omega)).mono ?_
  rw [show secsI 19 = 2 by decide]
  rintro e' w5 ⟨rfl, hb⟩
  have HB5 := Lib.hid (below_keep HB4.out hb)
  clear hb
  go_wp2_with fail
  refine (hF.sectors (-1) w5 (by omega)).mono ?_
  rw [show secsI (-1) = 0 by decide]
  rintro e' w6 ⟨rfl, hb⟩
  have HB6 := Lib.hid (below_keep HB5.out hb)
  clear hb
  go_wp2
  go_ret
  exact ⟨rfl, HB6.out⟩

/-! ### The laws -/

set_option maxHeartbeats 2000000 in
theorem packs_any (hF : Prog) (e q : Int) (he : -9223372036854775808 ≤ e ∧ e ≤ 9223372036854775807) (hq : -9223372036854775808 ≤ q ∧ q ≤ 9223372036854775807) (aa : Option Addr) (len cap : Nat) (l : Bs) (n : Int) (hn : -9223372036854775808 ≤ n ∧ n ≤ 9223372036854775807) (W : World) (hA : Arg W aa len cap l) :
    Calls Try.prog 3 #[.int .i64 e, .int .i64 q, .slice aa len cap, .int .i64 n] W fun e' w' => e' = .returned (.bool true) ∧ Below W.heap.size W w' := by
  have HA := Lib.hid hA
  have H6 := Lib.hid (cut6_le l)
  have HI := Lib.hid (And.intro he (And.intro hq hn))
  clear hA he hq hn
  go_enter Try.func3, Try.ntmps3
  go_wp2_with fail
  refine (short6_any aa len cap l W HA.out).mono ?_
  rintro e' w1 ⟨rfl, hw⟩
  subst hw
  go_wp2_with fail
  refine (hF.pack e q aa (cut6 l).length cap (cut6 l) w1 HI.out.1 HI.out.2.1 (arg_cut6 HA.out) (by have := H6.out; omega)).mono ?_
  rintro e' w2 ⟨v, rfl, hv, hb⟩
  obtain ⟨a2, c2, rfl, hA2⟩ := arg_new hv
  have HA2 := Lib.hid hA2
  have HB2 := Lib.hid hb
  clear hv hb hA2
  go_wp2_with fail
  refine (short6_any aa len cap l w2 (arg_keep HA.out HB2.out)).mono ?_
  rintro e' w3 ⟨rfl, hw⟩
  subst hw
  go_wp2_with fail
  refine (rpack_any e q aa (cut6 l).length cap (cut6 l) w3 (arg_keep (arg_cut6 HA.out) HB2.out) (by have := H6.out; omega)).mono ?_
  rintro e' w4 ⟨v, rfl, hv, hb⟩
  obtain ⟨a4, c4, rfl, hA4⟩ := arg_new hv
  have HA4 := Lib.hid (And.intro (arg_keep HA2.out hb) hA4)
  have HB4 := Lib.hid (below_keep HB2.out hb)
  clear hv hb hA4 HA2
  generalize (packA e q (cut6 l)).1 = P at *
  generalize (packA e q (cut6 l)).2 = E at *
  go_wp2_with fail
  refine (awake_any hF w4).mono ?_
  rintro e' w5 ⟨rfl, hb⟩
  have HB5 := Lib.hid (below_keep HB4.out hb)
  have cv1 := kcRow w5 a2 P.length c2 P (arg_keep HA4.out.1 hb)
  have cv2 := kcRow w5 a4 P.length c4 P (arg_keep HA4.out.2 hb)
  clear hb
  go_wp2_with fail
  refine (hF.sectors n w5 HI.out.2.2).mono ?_
  rintro e' w6 ⟨rfl, hb⟩
  have HB6 := Lib.hid (below_keep HB5.out hb)
  clear hb
  go_wp2_with fail
  refine (rsectors_any n HI.out.2.2 w6).mono ?_
  rintro e' w7 ⟨rfl, rfl⟩
  go_wp2
  go_ret
  exact ⟨rfl, HB6.out⟩

set_option maxHeartbeats 2000000 in
theorem unpacks_any (hF : Prog) (aa : Option Addr) (len cap : Nat) (l : Bs) (W : World) (hA : Arg W aa len cap l) :
    Calls Try.prog 4 #[.slice aa len cap] W fun e' w' => e' = .returned (.bool true) ∧ Below W.heap.size W w' := by
  have HA := Lib.hid hA
  have H6 := Lib.hid (cut6_le l)
  clear hA
  go_enter Try.func4, Try.ntmps4
  go_wp2_with fail
  refine (short6_any aa len cap l W HA.out).mono ?_
  rintro e' w1 ⟨rfl, hw⟩
  subst hw
  go_wp2_with fail
  refine (hF.unpack aa (cut6 l).length cap (cut6 l) w1 (arg_cut6 HA.out) (by have := H6.out; omega)).mono ?_
  rintro e' w2 ⟨v, rfl, hv, hb⟩
  obtain ⟨a2, c2, rfl, hA2⟩ := arg_new hv
  have HA2 := Lib.hid hA2
  have HB2 := Lib.hid hb
  clear hv hb hA2
  go_wp2_with fail
  refine (runp_any aa (cut6 l).length cap (cut6 l) w2 (arg_keep (arg_cut6 HA.out) HB2.out) (by have := H6.out; omega)).mono ?_
  rintro e' w4 ⟨v, rfl, hv, hb⟩
  obtain ⟨a4, c4, rfl, hA4⟩ := arg_new hv
  have HA4 := Lib.hid (And.intro (arg_keep HA2.out hb) hA4)
  have HB4 := Lib.hid (below_keep HB2.out hb)
  clear hv hb hA4 HA2
  generalize ansU (cut6 l) = U at *
  obtain ⟨u1, u2, P, u4, u5⟩ := U
  simp only at HA4 ⊢
  go_wp2_with fail
  refine (awake_any hF w4).mono ?_
  rintro e' w5 ⟨rfl, hb⟩
  have HB5 := Lib.hid (below_keep HB4.out hb)
  have cv1 := kcRow w5 a2 P.length c2 P (arg_keep HA4.out.1 hb)
  have cv2 := kcRow w5 a4 P.length c4 P (arg_keep HA4.out.2 hb)
  clear hb
  go_wp2
  go_ret
  exact ⟨rfl, HB5.out⟩

end Go.Proofs.Ytfnkeknnlndjcaa.Frm
