/- Octet: bytes there and back; bytes that are changed in place. -/
import Derived.Test.YtijenfmkgedkfaaOctRel
import Derived.Laws.OwnMore
namespace Go.Proofs.Ytijenfmkgedkfaa.Oct
open Go.RowKit
open Go.Sort
open Kit
set_option linter.unusedVariables false

def val : List UInt8 → Nat
  | [] => 0
  | b :: l => b.toNat * 256 ^ l.length + val l
theorem val_lt : ∀ l : List UInt8, val l < 256 ^ l.length
  | [] => by simp [val]
  | b :: l => by
    have h := val_lt l
    have hb := b.toNat_lt
    have e : 256 ^ (b :: l).length = 256 * 256 ^ l.length := by rw [List.length_cons, Nat.pow_succ, Nat.mul_comm]
    have h2 : (b.toNat + 1) * 256 ^ l.length ≤ 256 * 256 ^ l.length := Nat.mul_le_mul_right _ (by omega)
    rw [Nat.add_mul] at h2
    rw [e]
    show b.toNat * 256 ^ l.length + val l < _
    omega
theorem numF_val : ∀ (l : List UInt8) (m : Nat), (m + 1) * 256 ^ l.length ≤ 18446744073709551616 → numF m l = m * 256 ^ l.length + val l
  | [], m, _ => by simp [numF, val]
  | b :: l, m, h => by
    have hb := b.toNat_lt
    have hp : 0 < 256 ^ l.length := Nat.pow_pos (by decide)
    have e : 256 ^ (b :: l).length = 256 * 256 ^ l.length := by rw [List.length_cons, Nat.pow_succ, Nat.mul_comm]
    rw [e, ← Nat.mul_assoc] at h
    have h3 : (m * 256 + b.toNat + 1) * 256 ^ l.length ≤ (m + 1) * 256 * 256 ^ l.length := Nat.mul_le_mul_right _ (by omega)
    have h4 : m * 256 + b.toNat + 1 ≤ (m * 256 + b.toNat + 1) * 256 ^ l.length := Nat.le_mul_of_pos_right _ hp
    show numF ((m * 256 + b.toNat) % 18446744073709551616) l = _
    rw [Nat.mod_eq_of_lt (by omega), numF_val l _ (by omega), e]
    show _ = m * (256 * 256 ^ l.length) + (b.toNat * 256 ^ l.length + val l)
    rw [Nat.add_mul, Nat.mul_assoc]; omega
theorem be_val : ∀ (l : List UInt8) (x : Nat), beB l.length (x * 256 ^ l.length + val l) = l
  | [], _ => rfl
  | b :: l, x => by
    have hp : 0 < 256 ^ l.length := Nat.pow_pos (by decide)
    have hv := val_lt l
    have e : x * 256 ^ (b :: l).length + val (b :: l) = (x * 256 + b.toNat) * 256 ^ l.length + val l := by
      show x * 256 ^ (l.length + 1) + (b.toNat * 256 ^ l.length + val l) = _
      rw [Nat.add_mul, Nat.pow_succ, Nat.mul_assoc, Nat.mul_comm 256 (256 ^ l.length)]; omega
    rw [e]
    show UInt8.ofNat (((x * 256 + b.toNat) * 256 ^ l.length + val l) / 256 ^ l.length) :: beB l.length _ = _
    rw [be_val l]
    congr 1
    rw [Nat.add_comm, Nat.add_mul_div_right _ _ hp, Nat.div_eq_of_lt hv, Nat.zero_add]
    apply UInt8.toNat.inj
    rw [u8_of]
    have := b.toNat_lt
    omega
/-- Eight bytes are the bytes of what they come to. -/
theorem be_num8 (l : List UInt8) (h : l.length = 8) : beB 8 (numB l) = l := by
  have e := numF_val l 0 (by rw [h]; decide)
  unfold numB
  rw [e]
  have := be_val l 0
  rw [h] at this ⊢
  exact this
theorem toU_toI (n : Nat) (h : n < 18446744073709551616) : toU64 (toI64 n) = n := by unfold toU64 toI64; split <;> omega
theorem be_back (l : List UInt8) (h : l.length = 8) : beB 8 (toU64 (toI64 (numB l))) = l := by rw [toU_toI _ (numB_lt l), be_num8 l h]

/-- One byte of the call's own is changed. -/
theorem own_set {w : World} {base g n cap : Nat} {l : List UInt8} (h : OwnB w base (.slice (some ⟨g, 0, none⟩) n cap) l) (hn : l.length = n) {i : Nat} (hi : i < n) {x : UInt8} (hx : l[i]? = some x) (b : UInt8) :
    w.cell? ⟨g, i, none⟩ = some (.int .u8 (x.toNat : Int)) ∧ w.frozen? ⟨g, i, none⟩ = false ∧
      OwnB (w.setCell ⟨g, i, none⟩ (.int .u8 (b.toNat : Int))) base (.slice (some ⟨g, 0, none⟩) n cap) (l.set i b) ∧ w.grownBy (w.setCell ⟨g, i, none⟩ (.int .u8 (b.toNat : Int))) (some g) := by
  subst hn
  have ho := own_iff.1 h
  refine ⟨?_, ho.frozenAt i, ?_, (ho.stored i _).2⟩
  · rw [ho.cellAt i (by omega)]
    simp [cellsB, List.getElem?_map, hx]
  · refine own_iff.2 ?_
    rw [List.length_set]
    have e : cellsB (l.set i b) = (cellsB l).set i (.int .u8 (b.toNat : Int)) := by unfold cellsB; rw [List.map_set]
    rw [e]
    exact (ho.stored i _).1
theorem own_row' {w : World} {base g n cap : Nat} {l : List UInt8} (h : OwnB w base (.slice (some ⟨g, 0, none⟩) n cap) l) : RowB w (some ⟨g, 0, none⟩) l := by
  obtain ⟨a', c', he, _, _, _, h6⟩ := own_row h
  injection he with e1 _ _
  subst e1
  exact h6
theorem xor_byte (x : UInt8) (t : Nat) (ht : t < 256) : bits .xor .u8 (x.toNat : Int) (t : Int) = ((UInt8.ofNat (x.toNat ^^^ t)).toNat : Int) := by
  have hx := x.toNat_lt
  rw [u8_xor_nat _ _ hx ht, u8_of, Nat.mod_eq_of_lt]
  exact Nat.xor_lt_two_pow (n := 8) hx ht

/-- The next number of bytes that end in others. -/
theorem rInt_at (l m : List UInt8) (i : Nat) (h : 8 * i + 8 ≤ l.length) : rInt (some ((l ++ m).drop (8 * i))) = (toI64 (numB ((l.drop (8 * i)).take 8)), some ((l ++ m).drop (8 * (i + 1)))) := by
  simp only [rInt]
  rw [if_pos (by rw [List.length_drop, List.length_append]; omega), List.drop_drop]
  have e : ((l ++ m).drop (8 * i)).take 8 = (l.drop (8 * i)).take 8 := by
    rw [List.drop_append_of_le_length (by omega), List.take_append_of_le_length (by rw [List.length_drop]; omega)]
  rw [e, show 8 * i + 8 = 8 * (i + 1) by omega]
theorem got_at (l : List UInt8) (i : Nat) (h : 8 * i + 8 ≤ l.length) : l.take (8 * i) ++ beB 8 (toU64 (toI64 (numB ((l.drop (8 * i)).take 8)))) = l.take (8 * (i + 1)) := by
  rw [be_back _ (by rw [List.length_take, List.length_drop]; omega), show 8 * (i + 1) = 8 * i + 8 by omega, List.take_add]

theorem int_own (a : Option Addr) (len cap n' : Nat) (n : Int) (l L : List UInt8) (w : World) (hl : l.length = len) (hn : a = none → len = 0 ∧ cap = 0) (hE : RowB w a l) (hm : len ≤ 140737488355328) (hL : l ++ beB 8 (toU64 n) = L) (hn' : L.length = n') :
    Calls Try.prog 10 #[.slice a len cap, .int .i64 n] w fun e w' => ∃ g cap, e = .returned (.slice (some ⟨g, 0, none⟩) n' cap) ∧ n' ≤ cap ∧ cap ≤ maxLen ∧ w.heap.size ≤ g ∧ g < w'.heap.size ∧ OwnB w' w.heap.size (.slice (some ⟨g, 0, none⟩) n' cap) L ∧ Below w.heap.size w w' := by
  subst hL hn'
  refine (int_any a len cap n l w hl hn hE hm).mono ?_
  rintro e w' ⟨g, c, rfl, ⟨h1, h2, h3⟩, hb⟩
  obtain ⟨a', c', he, _, h5, _, h6⟩ := own_row h3
  injection he with e1 e2 e3
  subst e1 e3
  exact ⟨g, c, rfl, h2, h5, h1, ((own_iff.1 h3).lt g rfl).2, h3, hb⟩
theorem text_own (a : Option Addr) (len cap n' : Nat) (s : ByteArray) (l L : List UInt8) (w : World) (hl : l.length = len) (hn : a = none → len = 0 ∧ cap = 0) (hE : RowB w a l) (hm : len ≤ 140737488355328) (hs : s.size ≤ 65535) (hL : l ++ beB 2 s.size ++ s.data.toList = L) (hn' : L.length = n') :
    Calls Try.prog 8 #[.slice a len cap, .string s] w fun e w' => ∃ g cap, e = .returned (.tuple #[.slice (some ⟨g, 0, none⟩) n' cap, .int .i64 0]) ∧ n' ≤ cap ∧ cap ≤ maxLen ∧ w.heap.size ≤ g ∧ g < w'.heap.size ∧ RowB w' (some ⟨g, 0, none⟩) L ∧ Below w.heap.size w w' := by
  subst hL hn'
  refine (text_any a len cap s l w hl hn hE hm hs).mono ?_
  rintro e w' ⟨g, c, rfl, ⟨h1, h2, h3⟩, hb⟩
  obtain ⟨a', c', he, _, h5, _, h6⟩ := own_row h3
  injection he with e1 e2 e3
  subst e1 e3
  have e : (l ++ beB 2 s.size ++ s.data.toList).length = len + 2 + s.size := by
    rw [List.length_append, List.length_append, beB_length, hl, Array.length_toList]; rfl
  exact ⟨g, c, by rw [e], h2, h5, h1, ((own_iff.1 h3).lt g rfl).2, h6, hb⟩

theorem row_below {w w' : World} {B : Nat} {a : Option Addr} {l : List UInt8} (h : RowB w a l) (hb : Below B w w') (hlt : ∀ q, a = some q → q.block < B) : RowB w' a l := by
  rcases h with h | ⟨b, off, h1, h2⟩
  · exact .inl h
  · refine .inr ⟨b, off, h1, fun j hj i hi => ?_⟩
    rw [hb.cell (p := ⟨b, off + j * 1 + i, none⟩) (hlt ⟨b, off, none⟩ h1)]
    exact h2 j hj i hi
theorem row_belowAt {w w' : World} {B g off : Nat} {l : List UInt8} (h : RowB w (some ⟨g, off, none⟩) l) (hb : Below B w w') (hlt : g < B) : RowB w' (some ⟨g, off, none⟩) l :=
  row_below h hb fun q hq => by injection hq with hq; subst hq; exact hlt
theorem below_of_grown {w w' : World} {B g : Nat} (h : w.grownBy w' (some g)) (hB : B ≤ w.heap.size) (hg : B ≤ g) : Below B w w' := grown_below h hB hg

theorem own_keep {w w' : World} {base : Nat} {v : Value} {l : List UInt8} (h : OwnB w base v l) (hb : Below w.heap.size w w') : OwnB w' base v l :=
  own_iff.2 ((own_iff.1 h).kept (row := none) ⟨hb.os, hb.tape, hb.output, hb.size, fun k hk _ => hb.block k hk⟩ (by cases v.ownBlock <;> simp))

theorem wrap_mid (n : Int) (h : 0 ≤ n) (h2 : n < 4611686018427387904) : IntKind.i64.wrap n = n := by
  unfold IntKind.wrap
  simp [IntKind.bits, IntKind.signed]
  split <;> omega
theorem run_quo8 (n : Nat) (hn : n ≤ 5000) (x y : Operand) (w : World) : (do eqGuard .quo 3 x y (.int .i64 n) (.int .i64 8); binOp .quo 3 (.int .i64 n) (.int .i64 8) : Sem Value).run Try.prog w = .ok (.int .i64 (n / 8 : Nat)) w := by
  simp [go_sem]
  exact wrap_mid _ (by omega) (by omega)
theorem run_mul8 (n : Nat) (hn : n ≤ 5000) (x y : Operand) (w : World) : (do eqGuard .mul 3 x y (.int .i64 (n / 8 : Nat)) (.int .i64 8); binOp .mul 3 (.int .i64 (n / 8 : Nat)) (.int .i64 8) : Sem Value).run Try.prog w = .ok (.int .i64 (8 * (n / 8) : Nat)) w := by
  simp [go_sem]
  rw [wrap_mid _ (by omega) (by omega)]
  omega
theorem run_slice_to (a : Option Addr) (n m c : Nat) (h1 : m ≤ n) (h2 : n ≤ c) (w : World) : (Instr.sliceAt 22 (.slice a n c) none (some (.int .i64 m)) none).run Try.prog w = .ok (.slice a m c) w := by
  simp [go_sem]
  intro h; omega
theorem run_len (a : Option Addr) (n c : Nat) (w : World) : (Builtin.len_ #[22] 3 #[.slice a n c]).run Try.prog w = .ok (.int .i64 n) w := by
  simp [go_sem]

end Go.Proofs.Ytijenfmkgedkfaa.Oct
