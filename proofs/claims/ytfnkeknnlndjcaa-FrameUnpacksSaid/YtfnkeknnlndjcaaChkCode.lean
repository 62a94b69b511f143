/- Check: the program's own sums, by a table that jumps make. -/
import Derived.Test.YtfnkeknnlndjcaaChkRef
import Derived.Test.YtfnkeknnlndjcaaScopes
import Derived.Test.YtfnkeknnlndjcaaArrs
import Derived.Lib.SmallJoins
namespace Go.Proofs.Ytfnkeknnlndjcaa.Chk
open Go.RowKit
open Go.Sort
open Kit
open Oct
open Scp
set_option linter.unusedVariables false

theorem Z_toNat (z : BitVec 32) : (Z z).toNat = if z.toNat / 2147483648 = 1 then z.toNat * 2 % 4294967296 ^^^ polyN else z.toNat * 2 % 4294967296 := by
  have h := bitZ_toNat z false
  have e : bitZ z false = Z z := by unfold bitZ; rw [show hi1 false = 0#32 from rfl, BitVec.xor_zero]
  have hz := z.isLt
  rw [e] at h
  rw [h, bitN]
  by_cases h1 : z.toNat / 2147483648 = 1
  · rw [if_pos h1, if_neg (by rw [h1]; decide)]
  · rw [if_neg h1, if_pos (by show _ = 0; omega)]

set_option maxHeartbeats 1000000 in
theorem doubled_any (z : BitVec 32) (w : World) : Calls Try.prog 41 #[uv z] w fun e w' => e = .returned (uv (Z z)) ∧ w = w' := by
  have hz := z.isLt
  have hn := Z_toNat z
  have hx := xor_poly z
  by_cases h1 : z.toNat / 2147483648 = 1
  · rw [if_pos h1] at hn
    have HN := Lib.hid (hx.trans (congrArg (fun n : Nat => (n : Int)) hn.symm))
    have hd : ((z.toNat : Int) / 2147483648 == 1) = true := by rw [beq_iff_eq]; omega
    clear hn hx h1
    go_enter Try.func41, Try.ntmps41
    go_wp2
    go_ret
    exact ⟨ret_int HN.out, rfl⟩
  · rw [if_neg h1] at hn
    have HN : Hid ((z.toNat : Int) * 2 % 4294967296 = ((Z z).toNat : Int)) := Lib.hid (by omega)
    have hd : ((z.toNat : Int) / 2147483648 == 1) = false := by rw [beq_eq_false_iff_ne]; omega
    clear hn hx h1
    go_enter Try.func41, Try.ntmps41
    go_wp2
    go_ret
    exact ⟨ret_int HN.out, rfl⟩

/-- 16 sums in a block. -/
def row (f : Nat → BitVec 32) : List Value := (List.range 16).map fun j => uv (f j)
abbrev BlkT (w : World) (b : Nat) (f : Nat → BitVec 32) : Prop := Arr.Blk w b 62 (row f)
theorem row_at (f : Nat → BitVec 32) (j : Nat) (h : j < 16) : (row f)[j]? = some (uv (f j)) := by
  unfold row; rw [List.getElem?_map, List.getElem?_range h]; rfl
theorem row_set (f g : Nat → BitVec 32) (i : Nat) (s : BitVec 32) (h : ∀ j, j < 16 → g j = if j = i then s else f j) : (row f).set i (uv s) = row g := by
  apply List.ext_getElem?
  intro j
  by_cases hj : j < 16
  · rw [row_at g j hj, h j hj, List.getElem?_set]
    by_cases he : i = j
    · subst he
      rw [if_pos rfl, if_pos rfl, if_pos (by simp [row]; exact hj)]
    · rw [if_neg he, row_at f j hj, if_neg (fun e => he e.symm)]
  · rw [List.getElem?_eq_none (by simp [row]; omega), List.getElem?_eq_none (by simp [row]; omega)]
/-- What half a byte leaves. -/
def nib (j : Nat) : BitVec 32 := Zn 4 (BitVec.ofNat 32 j <<< 28)
/-- The table, made up to a piece, and there up to a bit. -/
def part (piece bit : Nat) (j : Nat) : BitVec 32 := if j < piece then nib j else if j = piece then Zn bit (BitVec.ofNat 32 j <<< 28) else 0#32
def upto (piece : Nat) (j : Nat) : BitVec 32 := if j < piece then nib j else 0#32
theorem Zn_succ (n : Nat) : ∀ x, Zn (n + 1) x = Z (Zn n x) := by
  induction n with
  | zero => intro x; rfl
  | succ n ih => intro x; exact ih (Z x)

def AtNext (w : World) (a' : Act) (w' : World) : Prop :=
  ∃ (piece : Nat) (bit u4 u5 u6 u7 u8 u9 u10 u11 u12 u13 u14 u15 u16 u17 u18 u19 u20 u21 u22 u23 : Value), a' = { tmps := #[.pointer (some ⟨w.heap.size, 0, none⟩), .pointer (some ⟨w.heap.size + 1, 0, none⟩), .int .i64 piece, bit, u4, u5, u6, u7, u8, u9, u10, u11, u12, u13, u14, u15, u16, u17, u18, u19, u20, u21, u22, u23], defers := [] } ∧
    piece ≤ 16 ∧ Below w.heap.size w w' ∧ BlkT w' w.heap.size (fun _ => 0#32) ∧ BlkT w' (w.heap.size + 1) (upto piece)
def AtDouble (w : World) (a' : Act) (w' : World) : Prop :=
  ∃ (piece bit : Nat) (u4 u5 u6 u7 u8 u9 u10 u11 u12 u13 u14 u15 u16 u17 u18 u19 u20 u21 u22 u23 : Value), a' = { tmps := #[.pointer (some ⟨w.heap.size, 0, none⟩), .pointer (some ⟨w.heap.size + 1, 0, none⟩), .int .i64 piece, .int .i64 bit, u4, u5, u6, u7, u8, u9, u10, u11, u12, u13, u14, u15, u16, u17, u18, u19, u20, u21, u22, u23], defers := [] } ∧
    piece < 16 ∧ bit ≤ 4 ∧ Below w.heap.size w w' ∧ BlkT w' w.heap.size (fun _ => 0#32) ∧ BlkT w' (w.heap.size + 1) (part piece bit)
def pieceOf (a : Act) : Nat := (intOf (a.tmps.getD 2 undef)).toNat
def bitOf (a : Act) : Nat := (intOf (a.tmps.getD 3 undef)).toNat

def table : Value := .agg (row nib).toArray

set_option maxRecDepth 100000 in
set_option maxHeartbeats 4000000 in
theorem madeTable_any (w : World) : Calls Try.prog 36 #[] w fun e w' => e = .returned table ∧ Below w.heap.size w w' := by
  go_enter Try.func36, Try.ntmps36
  go_wp2
  refine wp_falls (AtNext w) (AtDouble w) (fun a _ => 8 * (16 - pieceOf a)) (fun a _ => 8 * (16 - pieceOf a) - 1 - bitOf a) rfl rfl ?_ ?_ ?_
  · rintro a' w' ⟨piece, bit, u4, u5, u6, u7, u8, u9, u10, u11, u12, u13, u14, u15, u16, u17, u18, u19, u20, u21, u22, u23, rfl, h1, h2, hb, hR, hT⟩
    have h6 : pieceOf { tmps := #[.pointer (some ⟨w.heap.size, 0, none⟩), .pointer (some ⟨w.heap.size + 1, 0, none⟩), .int .i64 piece, .int .i64 bit, u4, u5, u6, u7, u8, u9, u10, u11, u12, u13, u14, u15, u16, u17, u18, u19, u20, u21, u22, u23], defers := [] } = piece := by simp [pieceOf, intOf]
    have h7 : bitOf { tmps := #[.pointer (some ⟨w.heap.size, 0, none⟩), .pointer (some ⟨w.heap.size + 1, 0, none⟩), .int .i64 piece, .int .i64 bit, u4, u5, u6, u7, u8, u9, u10, u11, u12, u13, u14, u15, u16, u17, u18, u19, u20, u21, u22, u23], defers := [] } = bit := by simp [bitOf, intOf]
    rw [h6, h7]
    clear h6 h7
    have HB := Lib.hid hb
    have HR := Lib.hid hR
    have HT := Lib.hid hT
    clear hb hR
    by_cases hlt : bit < 4
    · have c0 := Arr.blk_cell hT piece
      have f0 := Arr.blk_frozen hT piece
      rw [row_at _ _ h1, show part piece bit piece = Zn bit (BitVec.ofNat 32 piece <<< 28) by unfold part; rw [if_neg (by omega), if_pos rfl]] at c0
      have HE := Lib.hid (row_set (part piece bit) (part piece (bit + 1)) piece (Z (Zn bit (BitVec.ofNat 32 piece <<< 28))) (by
        intro j _
        unfold part
        by_cases hj : j < piece
        · rw [if_pos hj, if_neg (by omega), if_pos hj]
        · by_cases he : j = piece
          · rw [if_neg hj, if_pos he, if_pos he, Zn_succ, he]
          · rw [if_neg hj, if_neg he, if_neg he, if_neg hj, if_neg he]))
      generalize hz : Zn bit (BitVec.ofNat 32 piece <<< 28) = z at *
      clear hT hz
      go_wp2_with fail
      refine (doubled_any z _).mono ?_
      rintro e w1 ⟨rfl, rfl⟩
      go_wp2
      go_step3
      refine .inr ⟨rfl, ⟨piece, bit + 1, _, _, _, _, _, _, _, _, _, _, _, _, _, _, _, _, _, _, _, _, rfl, h1, by omega, Arr.below_set HB.out (by omega) _ _, Arr.blk_set_far HR.out (by omega) _ _, by rw [BlkT, ← HE.out]; exact Arr.blk_set HT.out _ _⟩, ?_⟩
      simp only [pieceOf, bitOf, intOf]
      simp
      omega
    · obtain rfl : bit = 4 := by omega
      have HE : Hid (part piece 4 = upto (piece + 1)) := Lib.hid (by
        funext j
        unfold part upto
        by_cases hj : j < piece
        · rw [if_pos hj, if_pos (by omega)]
        · by_cases he : j = piece
          · rw [if_neg hj, if_pos he, if_pos (by omega)]; rfl
          · rw [if_neg hj, if_neg he, if_neg (by omega)])
      clear hT
      go_wp2
      go_step3
      refine .inl ⟨rfl, ⟨piece + 1, _, _, _, _, _, _, _, _, _, _, _, _, _, _, _, _, _, _, _, _, _, rfl, by omega, HB.out, HR.out, by rw [← HE.out]; exact HT.out⟩, ?_⟩
      simp only [pieceOf, intOf]
      simp
      omega
  · intro hp1
    rintro a' w' ⟨piece, bit, u4, u5, u6, u7, u8, u9, u10, u11, u12, u13, u14, u15, u16, u17, u18, u19, u20, u21, u22, u23, rfl, h1, hb, hR, hT⟩
    have HP := Lib.hid hp1
    have HB := Lib.hid hb
    have HR := Lib.hid hR
    have HT := Lib.hid hT
    clear hb hR hp1
    by_cases hlt : piece < 16
    · have c0 := Arr.blk_cell hT piece
      have f0 := Arr.blk_frozen hT piece
      rw [row_at _ _ hlt] at c0
      clear hT
      have HE := Lib.hid (row_set (upto piece) (part piece 0) piece (BitVec.ofNat 32 piece <<< 28) (by
        intro j _
        unfold part upto
        by_cases hj : j < piece
        · rw [if_pos hj, if_neg (by omega), if_pos hj]
        · by_cases he : j = piece
          · rw [if_neg hj, if_pos he, if_pos he, he]; rfl
          · rw [if_neg hj, if_neg he, if_neg he, if_neg hj]))
      have hv : (BitVec.ofNat 32 piece <<< 28).toNat = piece * 268435456 := by
        rw [BitVec.toNat_shiftLeft, BitVec.toNat_ofNat, Nat.shiftLeft_eq]; omega
      have HV : Hid (Value.int IntKind.u32 ((piece : Int) * 268435456) = uv (BitVec.ofNat 32 piece <<< 28)) := Lib.hid (by
        show Value.int IntKind.u32 _ = Value.int IntKind.u32 _
        rw [hv]; congr 1)
      clear hv
      go_wp2
      go_step3
      rename_i hK
      refine hK _ _ (HP.out _ _ _ ?_ ?_)
      · exact ⟨piece, 0, _, _, _, _, _, _, _, _, _, _, _, _, _, _, _, _, _, _, _, _, rfl, hlt, by omega, Arr.below_set HB.out (by omega) _ _, Arr.blk_set_far HR.out (by omega) _ _, by rw [BlkT, HV.out, ← HE.out]; exact Arr.blk_set HT.out _ _⟩
      · simp only [pieceOf, bitOf, intOf]
        simp
    · obtain rfl : piece = 16 := by omega
      have HN : Hid (Arr.Blk w' (w.heap.size + 1) 62 (row nib)) := Lib.hid (by
        rw [← show row (upto 16) = row nib from by
          unfold row
          apply List.map_congr_left
          intro j hj
          have := List.mem_range.1 hj
          unfold upto; rw [if_pos this]]
        exact HT.out)
      have HO : Hid (Arr.Blk w' w.heap.size 62 (row fun _ => 0#32)) := Lib.hid HR.out
      have hi : ∀ f : Nat → BitVec 32, (Try.prog.info? 62).map (·.size) = some (row f).toArray.size := fun f => by
        rw [show (row f).toArray.size = 16 from rfl]; kernel_rfl
      have h1c : ∀ f : Nat → BitVec 32, (row f).toArray.all (·.oneCell') = true := fun f => by
        simp only [row, List.all_toArray, List.all_map, List.all_eq_true]
        intro j _; rfl
      have HF := Lib.hid (And.intro hi h1c)
      clear hT HT HR hi h1c
      go_wp2_with (first
        | (refine wpList_load_row rfl 62 (.tmp 1) rfl (w.heap.size + 1) rfl 62 (row nib).toArray (0, 0) _ HN.out Try.underlying62 rfl (HF.out.1 _) ?_)
        | (refine wpList_store_row rfl 62 (.tmp 0) (.tmp 6) rfl w.heap.size (row nib).toArray rfl rfl 62 _ HO.out (HF.out.1 _) rfl (HF.out.2 _) ?_))
      simp only [jumps_ret]
      refine bodyPost_ret (results_cell_row rfl _ _ w.heap.size 62 (row nib).toArray (0, 0) _ rfl (Arr.blk_row HO.out _) Try.underlying62 rfl (HF.out.1 _)) rfl ?_
      exact ⟨rfl, Arr.below_row HB.out (by omega) _⟩
  · intro hp0
    have HP := Lib.hid hp0
    clear hp0
    go_wp2
    go_step3
    rename_i hK
    refine hK _ _ (HP.out _ _ ?_)
    exact ⟨0, _, _, _, _, _, _, _, _, _, _, _, _, _, _, _, _, _, _, _, _, _, rfl, by omega, (below_alloc w _).alloc (by simp) _, Arr.blk_alloc (Arr.blk_new w _ _ (row fun _ => 0#32) rfl) _, Arr.blk_new _ _ _ (row (upto 0)) (by simp)⟩

/-- Half a byte at once. -/
theorem nib_step (s : BitVec 32) : (s <<< 4) ^^^ nib (s.toNat / 268435456) = Zn 4 s := by
  have e : s = (s >>> 28 <<< 28) ^^^ (s &&& 0xFFFFFFF#32) := by
    apply BitVec.eq_of_getLsbD_eq
    intro i hi
    have hc : (0xFFFFFFF#32 : BitVec 32).getLsbD i = decide (i < 28) := by
      have : ∀ i : Fin 32, (0xFFFFFFF#32 : BitVec 32).getLsbD i.val = decide (i.val < 28) := by decide
      exact this ⟨i, hi⟩
    simp only [BitVec.getLsbD_xor, BitVec.getLsbD_shiftLeft, BitVec.getLsbD_ushiftRight, BitVec.getLsbD_and, hc]
    by_cases h : i < 28
    · simp [h]
    · simp [h, hi, show 28 + (i - 28) = i by omega]
  have hc : ∀ i, i < 32 → (0xFFFFFFF#32 : BitVec 32).getLsbD i = decide (i < 28) := by
    intro i hi
    have : ∀ i : Fin 32, (0xFFFFFFF#32 : BitVec 32).getLsbD i.val = decide (i.val < 28) := by decide
    exact this ⟨i, hi⟩
  have e2 : Zn 4 (s &&& 0xFFFFFFF#32) = s <<< 4 := by
    rw [Zn_shl 4]
    · apply BitVec.eq_of_getLsbD_eq
      intro i hi
      rw [BitVec.getLsbD_shiftLeft, BitVec.getLsbD_shiftLeft, BitVec.getLsbD_and]
      by_cases h4 : i < 4
      · simp [h4]
      · rw [hc _ (by omega)]
        simp [h4, show i - 4 < 28 by omega]
    · intro i hi
      rw [BitVec.getLsbD_and]
      by_cases h32 : i < 32
      · rw [hc i h32, decide_eq_false (by omega), Bool.and_false]
      · rw [BitVec.getLsbD_of_ge _ _ (by omega)]; rfl
  have e3 : BitVec.ofNat 32 (s.toNat / 268435456) = s >>> 28 := by
    apply BitVec.eq_of_toNat_eq
    have := s.isLt
    rw [BitVec.toNat_ofNat, BitVec.toNat_ushiftRight, Nat.shiftRight_eq_div_pow]
    omega
  conv => rhs; rw [e]
  rw [Zn_xor, e2]
  unfold nib
  rw [e3, BitVec.xor_comm]
theorem Zn_add (m n : Nat) (x : BitVec 32) : Zn (m + n) x = Zn n (Zn m x) := by
  induction m generalizing x with
  | zero => rw [Nat.zero_add]; rfl
  | succ m ih => rw [show m + 1 + n = (m + n) + 1 by omega]; exact ih (Z x)
theorem byte_xor (s : BitVec 32) (b : UInt8) : bitsZ s (bitsOf b) = Zn 8 (s ^^^ (wide b <<< 24)) := by
  rw [bitsZ_top _ _ (by rw [bitsOf_length]; omega), bitsOf_length, top_bitsOf]

theorem xor_uv (a b : BitVec 32) (x y : Int) (hx : x = (a.toNat : Int)) (hy : y = (b.toNat : Int)) : Value.int IntKind.u32 (Go.bits .xor .u32 x y) = uv (a ^^^ b) := by
  subst hx hy
  show Value.int IntKind.u32 _ = Value.int IntKind.u32 _
  rw [u32_xor_nat _ _ a.isLt b.isLt, BitVec.toNat_xor]
theorem xor_first (x : BitVec 32) (y : UInt8) : Value.int IntKind.u32 (Go.bits .xor .u32 (x.toNat : Int) ((y.toNat : Int) % 4294967296 * 16777216 % 4294967296)) = uv (Zn (4 * 0) (x ^^^ (wide y <<< 24))) := by
  have hy := y.toNat_lt
  refine xor_uv x (wide y <<< 24) _ _ rfl ?_
  rw [BitVec.toNat_shiftLeft, wide, BitVec.toNat_ofNat, Nat.shiftLeft_eq]
  omega
theorem xor_nib (z nb t : BitVec 32) (h : z <<< 4 ^^^ nb = t) : Value.int IntKind.u32 (Go.bits .xor .u32 ((z.toNat : Int) * 16 % 4294967296) (nb.toNat : Int)) = uv t := by
  rw [← h]
  refine xor_uv (z <<< 4) nb _ _ ?_ rfl
  rw [BitVec.toNat_shiftLeft, Nat.shiftLeft_eq]
  omega

set_option maxHeartbeats 4000000 in
theorem from_any (s : BitVec 32) (a : Option Addr) (len cap : Nat) (l : List UInt8) (w : World) (hl : l.length = len) (hm : len ≤ 4000) (hE : RowB w a l) :
    Calls Try.prog 26 #[uv s, .slice a len cap] w fun e w' => e = .returned (uv (crc s l)) ∧ Below w.heap.size w w' := by
  have HL := Lib.hid hl
  clear hl
  have hi : (Try.prog.info? 62).map (·.size) = some (row nib).length := by
    rw [show (row nib).length = 16 from rfl]; kernel_rfl
  have h1c : (row nib).all (·.oneCell') = true := by
    simp only [row, List.all_map, List.all_eq_true]
    intro j _; rfl
  have HF := Lib.hid (And.intro hi h1c)
  clear hi h1c
  go_enter Try.func26, Try.ntmps26
  go_wp2_with fail
  refine (madeTable_any w).mono ?_
  rintro e w1 ⟨rfl, hb⟩
  have HE := Lib.hid (row_keep encB_len hE hb)
  have HB := Lib.hid hb
  have hsz := hb.size
  clear hb hE
  go_wp2_with (refine Arr.wpList_store_blk rfl 62 (.tmp 5) (.tmp 8) rfl w1.heap.size (row nib) rfl rfl (row fun _ => 0#32) 62 (Arr.blk_new w1 _ _ (row fun _ => 0#32) rfl) HF.out.1 rfl HF.out.2 w1.heap.size (Nat.le_refl _) ?_; intro w2 hT hb)
  have HB2 := Lib.hid (below_keep HB.out ((below_alloc w1 _).trans hb))
  have HE2 := Lib.hid (row_keep encB_len HE.out ((below_alloc w1 _).trans hb))
  have HT := Lib.hid hT
  clear hT hb HB HE HF
  go_wp2
  go_loop [0, 11] (fun v i => ∃ k : Nat, k ≤ len ∧ i = .int .i64 k ∧ v = uv (crc s (l.take k))) (fun _ i => len - (intOf i).toNat)
  case atStart => exact ⟨0, Nat.zero_le _, rfl, rfl⟩
  case round =>
    obtain ⟨k, hk, rfl, rfl⟩ := hrel
    by_cases hlt : k < len
    · have hkl : k < l.length := by rw [HL.out]; exact hlt
      obtain ⟨b, off, HA⟩ := row_some HE2.out (by omega)
      have ha := HA.out
      subst ha
      have c0 := row_cell HE2.out hkl rfl (i := 0) (by omega)
      have HS : Hid (crc s (l.take (k + 1)) = bitsZ (crc s (l.take k)) (bitsOf l[k])) := by
        exact Lib.hid (by rw [List.take_succ_eq_append_getElem hkl, crc_snoc])
      simp only [encB, Nat.mul_one, Nat.add_zero, List.getElem?_cons_zero] at c0
      generalize hx : crc s (l.take k) = x at *
      generalize hy : l[k] = y at *
      clear hx hy
      go_wp2
      go_loop [0, 20] (fun v i => ∃ j : Nat, j ≤ 2 ∧ i = .int .i64 j ∧ v = uv (Zn (4 * j) (x ^^^ (wide y <<< 24)))) (fun _ i => 2 - (intOf i).toNat)
      case atStart => exact ⟨0, Nat.zero_le _, rfl, xor_first x y⟩
      case round =>
        obtain ⟨j, hj, rfl, rfl⟩ := hrel
        by_cases hj2 : j < 2
        · have hn := nib_step (Zn (4 * j) (x ^^^ (wide y <<< 24)))
          rw [← Zn_add] at hn
          generalize hz : Zn (4 * j) (x ^^^ (wide y <<< 24)) = z at *
          clear hz
          have hz : z.toNat < 4294967296 := z.isLt
          have t0 := Arr.blk_cell HT.out (z.toNat / 268435456)
          rw [row_at _ _ (by omega)] at t0
          generalize hnb : nib (z.toNat / 268435456) = nb at *
          have HN := Lib.hid hn
          clear hn hnb
          have HX := Lib.hid (xor_nib z nb _ HN.out)
          go_wp2
          go_round
          case rel => exact ⟨j + 1, by omega, by go_num, HX.out⟩
          case measure => simp [intOf]; omega
        · obtain rfl : j = 2 := by omega
          have HX := Lib.hid (HS.out.trans (byte_xor x y))
          go_wp2
          go_round
          case rel => exact ⟨k + 1, by omega, by go_num, congrArg uv HX.out.symm⟩
          case measure => simp [intOf]; omega
    · obtain rfl : k = len := by omega
      have e : l.take k = l := by rw [← HL.out, List.take_length]
      have HQ := Lib.hid (congrArg (crc s) e)
      clear e
      go_wp2
      go_ret
      exact ⟨congrArg (fun z => Ending.returned (uv z)) HQ.out, HB2.out⟩

set_option maxHeartbeats 1000000 in
theorem start_any (w : World) : Calls Try.prog 37 #[] w fun e w' => e = .returned (.int .u32 4294967295) ∧ w = w' := by
  go_enter Try.func37, Try.ntmps37
  go_wp2
  go_ret
  exact ⟨rfl, rfl⟩

end Go.Proofs.Ytfnkeknnlndjcaa.Chk
