/- Frame: the landed way of a record, as plain data: its data with what fills the last sector; sectors read a piece at a time. -/
import Derived.Test.YtfnkeknnlndjcaaFrmMath
namespace Go.Proofs.Ytfnkeknnlndjcaa.Frm
open Oct
open Chk
set_option linter.unusedVariables false

/-- What a record's sectors have, but for their stamps. -/
def rawD (st b : Bs) : Bs := beB 2 b.length ++ beB 4 (crc 0xffffffff#32 (st ++ beB 2 b.length ++ b)).toNat ++ b
theorem rawD_length (st b : Bs) : (rawD st b).length = b.length + 6 := by simp [rawD, beB_length]; omega
theorem rawD_mark (e q : Nat) (b : Bs) : rawD (mark e q) b = dataB e q b := rfl
def dataP (st b : Bs) : Bs := rawD st b ++ List.replicate (24 * secs b.length - (b.length + 6)) 0
theorem dataP_length (st b : Bs) : (dataP st b).length = 24 * secs b.length := by
  have := secs_room b.length
  rw [dataP, List.length_append, rawD_length, List.length_replicate]; omega
theorem dataP_at (st b : Bs) (i : Nat) : (dataP st b).getD i 0 = (rawD st b).getD i 0 := by
  unfold dataP
  by_cases h : i < (rawD st b).length
  · rw [getD_left h]
  · rw [getD_past (by omega : (rawD st b).length ≤ i), List.getD, List.getElem?_append_right (by omega)]
    cases hx : (List.replicate (24 * secs b.length - (b.length + 6)) (0 : UInt8))[i - (rawD st b).length]? with
    | none => rfl
    | some x =>
      have := List.mem_of_getElem? hx
      rw [List.mem_replicate] at this
      rw [this.2]; rfl
theorem getD_ext {l k : Bs} (hl : l.length = k.length) (h : ∀ i, i < l.length → l.getD i 0 = k.getD i 0) : l = k := by
  apply List.ext_getElem hl
  intro i h1 h2
  have := h i h1
  simpa [List.getD, h1, h2] using this
theorem getD_drop (l : Bs) (a i : Nat) : (l.drop a).getD i 0 = l.getD (a + i) 0 := by simp [List.getD, List.getElem?_drop]
theorem getD_take {l : Bs} {a i : Nat} (h : i < a) : (l.take a).getD i 0 = l.getD i 0 := by simp [List.getD, List.getElem?_take_of_lt h]
/-- A piece of the data. -/
theorem piece_chunk (e q : Nat) (b : Bs) {k : Nat} (hk : k < secs b.length) : ((dataP (mark e q) b).drop (24 * k)).take 24 = chunk (dataB e q b) k := by
  have hl := dataP_length (mark e q) b
  apply getD_ext
  · rw [List.length_take, List.length_drop, hl, chunk_length]; omega
  · intro i hi
    rw [List.length_take, List.length_drop, hl] at hi
    rw [getD_take (by omega), getD_drop, dataP_at, rawD_mark]
    unfold chunk
    simp [List.getD, show i < 24 by omega]

/-- What sectors have, but for their stamps; the stamp of each. -/
def dataL (s : Bs) (K : Nat) : Bs := (List.range (24 * K)).map fun i => s.getD (i / 24 * 32 + i % 24) 0
theorem dataL_length (s : Bs) (K : Nat) : (dataL s K).length = 24 * K := by simp [dataL]
theorem dataL_at (s : Bs) {K i : Nat} (h : i < 24 * K) : (dataL s K).getD i 0 = s.getD (i / 24 * 32 + i % 24) 0 := by
  simp [dataL, List.getD, h]
def stampL (s : Bs) (i : Nat) : Bs := (s.drop (32 * i + 24)).take 8
theorem stampL_length {s : Bs} {i : Nat} (h : 32 * (i + 1) ≤ s.length) : (stampL s i).length = 8 := by
  rw [stampL, List.length_take, List.length_drop]; omega
theorem stampL_at (s : Bs) {i r : Nat} (h : r < 8) : (stampL s i).getD r 0 = s.getD (32 * i + 24 + r) 0 := by
  rw [stampL, getD_take h, getD_drop]
/-- One sector more. -/
theorem dataL_succ {s : Bs} {k : Nat} (h : 32 * (k + 1) ≤ s.length) : dataL s k ++ (s.drop (32 * k)).take 24 = dataL s (k + 1) := by
  have hl := dataL_length s k
  apply getD_ext
  · rw [List.length_append, hl, dataL_length, List.length_take, List.length_drop]; omega
  · intro i hi
    rw [List.length_append, hl, List.length_take, List.length_drop] at hi
    rw [dataL_at s (by omega)]
    by_cases h1 : i < 24 * k
    · rw [getD_left (by omega), dataL_at s h1]
    · rw [List.getD, List.getElem?_append_right (by omega), hl, ← List.getD, getD_take (by omega), getD_drop]
      congr 1; omega
theorem body_data (s : Bs) {n K : Nat} (h : n + 6 ≤ 24 * K) : bodyB s n = ((dataL s K).drop 6).take n := by
  apply getD_ext
  · rw [bodyB_length, List.length_take, List.length_drop, dataL_length]; omega
  · intro i hi
    rw [bodyB_length] at hi
    rw [getD_take hi, getD_drop, dataL_at s (by omega)]
    simp [bodyB, List.getD, hi]
/-- The first stamp is the mark of the numbers in it. -/
theorem mark_stamp {s : Bs} (h : 32 ≤ s.length) : mark (numK s 24 4) (numK s 28 4) = stampL s 0 := by
  apply getD_ext
  · rw [mark_length, stampL_length (by omega)]
  · intro i hi
    rw [mark_length] at hi
    rw [stampL_at s hi, Nat.mul_zero, Nat.zero_add]
    have b4 : ∀ (o r : Nat), r < 4 → (beB 4 (numK s o 4)).getD r 0 = s.getD (o + r) 0 := by
      intro o r hr
      rw [getD_is (beB_at 4 _ r hr)]
      apply UInt8.toNat.inj
      rw [u8_of]
      simp only [numK]
      obtain ⟨x0, hx0⟩ : ∃ x, x = s.getD (o + 0) 0 := ⟨_, rfl⟩
      obtain ⟨x1, hx1⟩ : ∃ x, x = s.getD (o + 1) 0 := ⟨_, rfl⟩
      obtain ⟨x2, hx2⟩ : ∃ x, x = s.getD (o + 2) 0 := ⟨_, rfl⟩
      obtain ⟨x3, hx3⟩ : ∃ x, x = s.getD (o + 3) 0 := ⟨_, rfl⟩
      have h0 := x0.toNat_lt
      have h1 := x1.toNat_lt
      have h2 := x2.toNat_lt
      have h3 := x3.toNat_lt
      rw [← hx0, ← hx1, ← hx2, ← hx3]
      obtain rfl | rfl | rfl | rfl : r = 0 ∨ r = 1 ∨ r = 2 ∨ r = 3 := by omega
      · rw [← hx0, show (256 : Nat) ^ (4 - 1 - 0) = 16777216 from rfl]; clear hx0 hx1 hx2 hx3; omega
      · rw [← hx1, show (256 : Nat) ^ (4 - 1 - 1) = 65536 from rfl]; clear hx0 hx1 hx2 hx3; omega
      · rw [← hx2, show (256 : Nat) ^ (4 - 1 - 2) = 256 from rfl]; clear hx0 hx1 hx2 hx3; omega
      · rw [← hx3, show (256 : Nat) ^ (4 - 1 - 3) = 1 from rfl]; clear hx0 hx1 hx2 hx3; omega
    unfold mark
    by_cases h4 : i < 4
    · rw [getD_left (by rw [beB_length]; exact h4), b4 24 i h4]
    · rw [List.getD, List.getElem?_append_right (by rw [beB_length]; omega), beB_length, ← List.getD, b4 28 (i - 4) (by omega)]
      congr 1; omega
/-- The landed way to see whether sectors are a record's. -/
theorem pack_iff {s b : Bs} {e q : Nat} (hl : 32 * secs b.length ≤ s.length) : packB e q b = s.take (32 * secs b.length) ↔ (∀ i, i < secs b.length → stampL s i = mark e q) ∧ dataL s (secs b.length) = dataP (mark e q) b := by
  have hpl := packB_length e q b
  constructor
  · intro h
    have hg : ∀ i, i < 32 * secs b.length → (packB e q b).getD i 0 = s.getD i 0 := fun i hi => by rw [h, getD_take hi]
    refine ⟨fun i hi => getD_ext (by rw [stampL_length (by omega), mark_length]) fun r hr => ?_, getD_ext (by rw [dataL_length, dataP_length]) fun i hi => ?_⟩
    · rw [stampL_length (by omega)] at hr
      rw [stampL_at s hr, ← hg _ (by omega)]
      have := packN_stamp (d := dataB e q b) (mark_length e q) hi hr
      unfold packB
      rw [List.getD, this, List.getD]
    · rw [dataL_length] at hi
      rw [dataL_at s hi, dataP_at, rawD_mark, ← hg _ (by omega)]
      have := packN_data (d := dataB e q b) (mark_length e q) (k := secs b.length) (q := i / 24) (r := i % 24) (by omega) (by omega)
      unfold packB
      rw [show i / 24 * 32 + i % 24 = 32 * (i / 24) + i % 24 by omega, getD_is this, show 24 * (i / 24) + i % 24 = i by omega]
  · rintro ⟨h1, h2⟩
    apply getD_ext
    · rw [hpl, List.length_take]; omega
    · intro i hi
      rw [hpl] at hi
      rw [getD_take hi]
      have hq : i / 32 < secs b.length := by omega
      by_cases hr : i % 32 < 24
      · have := packN_data (d := dataB e q b) (mark_length e q) hq hr
        unfold packB
        rw [show i = 32 * (i / 32) + i % 32 by omega, getD_is this]
        have h3 := dataP_at (mark e q) b (24 * (i / 32) + i % 32)
        rw [← h2, rawD_mark, dataL_at s (by omega)] at h3
        rw [← h3]
        congr 1; omega
      · have := packN_stamp (d := dataB e q b) (mark_length e q) hq (r := i % 32 - 24) (by omega)
        unfold packB
        rw [show i = 32 * (i / 32) + 24 + (i % 32 - 24) by omega, List.getD, this, ← List.getD, ← h1 _ hq, stampL_at s (by omega)]
/-- What the landed way finds. -/
theorem unpack_land {s : Bs} (h32 : ¬ s.length < 32) (hk : ¬ s.length < 32 * secs (two s)) : unpackB s = if (∀ i, i < secs (two s) → stampL s i = stampL s 0) ∧ dataL s (secs (two s)) = dataP (stampL s 0) (bodyB s (two s)) then some (numK s 24 4, numK s 28 4, bodyB s (two s), secs (two s)) else none := by
  have hp := pack_iff (s := s) (b := bodyB s (two s)) (e := numK s 24 4) (q := numK s 28 4) (by rw [bodyB_length]; omega)
  rw [bodyB_length, mark_stamp (by omega)] at hp
  unfold unpackB
  rw [if_neg h32, if_neg hk]
  by_cases h : packB (numK s 24 4) (numK s 28 4) (bodyB s (two s)) = s.take (32 * secs (two s))
  · rw [if_pos h, if_pos (hp.1 h)]
  · rw [if_neg h, if_neg fun h' => h (hp.2 h')]
end Go.Proofs.Ytfnkeknnlndjcaa.Frm
