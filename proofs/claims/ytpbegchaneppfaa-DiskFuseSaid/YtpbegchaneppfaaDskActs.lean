/- Disk: what the laws share: acts as arguments, and the bytes of an act. -/
import Derived.Test.YtpbegchaneppfaaDskRefC
namespace Go.Proofs.Ytpbegchaneppfaa.Dsk
open Go.RowKit
open Go.Sort
open Kit
open Oct
open Foot
set_option linter.unusedVariables false

/-- An act. -/
structure Ac where
  d : UInt8
  at' : Int
  c : UInt8
  keep : Int
  cut : Int
def Ac.wf (x : Ac) : Prop := (-9223372036854775808 ≤ x.at' ∧ x.at' ≤ 9223372036854775807) ∧ (-9223372036854775808 ≤ x.keep ∧ x.keep ≤ 9223372036854775807) ∧ (-9223372036854775808 ≤ x.cut ∧ x.cut ≤ 9223372036854775807)
def encAc (x : Ac) : List Value := [.int .u8 (x.d.toNat : Int), .int .i64 x.at', .int .u8 (x.c.toNat : Int), .int .i64 x.keep, .int .i64 x.cut]
theorem encAc_len (x : Ac) : (encAc x).length = 5 := rfl
def RAc (cs : List Value) (x : Ac) : Prop := cs = encAc x ∧ x.wf
theorem cells_act : Try.prog.cellsOf 29 = 5 := by kernel_rfl
theorem cells_int : Try.prog.cellsOf 3 = 1 := by kernel_rfl
theorem i64_wf {n : Int} (h : (Lit.int .i64 n).wf = true) : -9223372036854775808 ≤ n ∧ n ≤ 9223372036854775807 := by
  simp [Lit.wf, IntKind.min, IntKind.max, IntKind.signed, IntKind.bits] at h
  exact h
theorem opens_act {w : World} : Opn.Opens Try.prog w 29 RAc := by
  refine Opn.opens_struct Try.underlying29 fun cs hlen hf => ?_
  rw [cells_act] at hlen
  match cs, hlen with
  | [c0, c1, c2, c3, c4], _ =>
    obtain ⟨d, h0⟩ := hf 0 _ rfl _ _ opens_byte
    obtain ⟨t, h1, w1⟩ := hf 1 _ rfl _ _ (Opn.opens_int Try.underlying3)
    obtain ⟨c, h2⟩ := hf 2 _ rfl _ _ opens_byte
    obtain ⟨k, h3, w3⟩ := hf 3 _ rfl _ _ (Opn.opens_int Try.underlying3)
    obtain ⟨u, h4, w4⟩ := hf 4 _ rfl _ _ (Opn.opens_int Try.underlying3)
    unfold RByte encB at h0 h2
    simp [cells_int, cells_u8] at h0 h1 h2 h3 h4
    subst h0 h1 h2 h3 h4
    exact ⟨⟨d, t, c, k, u⟩, rfl, i64_wf w1, i64_wf w3, i64_wf w4⟩
theorem opens_acts {w : World} : Opn.Opens Try.prog w 22 (Opn.RSlice RAc 5 w) := Opn.opens_slice Try.underlying22 cells_act (by omega) opens_act
theorem acts_arg {w : World} {a : Option Addr} {len cap : Nat} {l : List Ac} (h : Opn.RSlice RAc 5 w [.slice a len cap] l) : l.length = len ∧ len ≤ cap ∧ cap ≤ maxLen ∧ (a = none → len = 0 ∧ cap = 0) ∧ Kit.Row encAc 5 w a l ∧ ∀ x ∈ l, x.wf := by
  obtain ⟨a', len', cap', he, hl, hc, hm, hn, hcs⟩ := h
  simp at he
  obtain ⟨rfl, rfl, rfl⟩ := he
  exact ⟨hl, hc, hm, hn, Kit.row_of_cells (fun _ _ h => h.1) hcs, Kit.all_of_cells (fun _ _ h => h.2) hcs⟩

/-- A sector of one byte. -/
def secB (c : UInt8) : Sec := List.replicate 32 c
theorem secB_len (c : UInt8) : (secB c).length = 32 := List.length_replicate
/-- The bytes of an act. -/
def madeB (x : Ac) : Sec := if x.d.toNat % 16 = 15 then List.replicate (x.c.toNat % 64) 0 else (secB x.c).set (x.c.toNat % 32) (UInt8.ofNat (x.cut % 256).toNat)

set_option maxHeartbeats 2000000 in
theorem sector_any (c : UInt8) (w : World) : Calls Try.prog 20 #[.int .u8 (c.toNat : Int)] w fun e w' => ∃ g, e = .returned (.slice (some ⟨g, 0, none⟩) 32 32) ∧ OwnB w' w.heap.size (.slice (some ⟨g, 0, none⟩) 32 32) (secB c) ∧ Below w.heap.size w w' := by
  have hc := c.toNat_lt
  have hmk := run_mk32 w
  have HM := Lib.hid (own_made w 32 (by unfold maxLen; omega))
  go_enter Try.func20, Try.ntmps20
  go_wp2_with fail
  clear hmk
  go_loopw [4] (fun i wr => ∃ k : Nat, k ≤ 32 ∧ i = .int .i64 k ∧ OwnB wr w.heap.size (.slice (some ⟨w.heap.size, 0, none⟩) 32 32) (List.replicate k c ++ List.replicate (32 - k) 0) ∧ Below w.heap.size w wr) (fun i _ => 32 - (intOf i).toNat)
  case atStart =>
    refine ⟨0, Nat.zero_le _, rfl, ?_, below_alloc w _⟩
    obtain ⟨h1, h2⟩ := HM.out
    refine ⟨h1, h2.imp id ?_⟩
    rintro ⟨g, cap, cur, he, _, h3⟩
    refine ⟨g, cap, cur, he, ?_, h3⟩
    injection he with he _ _
    injection he with he
    injection he with he _ _
    omega
  case round =>
    obtain ⟨k, hk, rfl, hO, hb⟩ := hrel
    by_cases hlt : k < 32
    · have hl : (List.replicate k c ++ List.replicate (32 - k) (0 : UInt8)).length = 32 := by rw [List.length_append, List.length_replicate, List.length_replicate]; omega
      obtain ⟨y0, f0, o1, g1⟩ := own_set hO hl hlt (List.getElem?_eq_getElem (by omega)) c
      have hs : (List.replicate k c ++ List.replicate (32 - k) (0 : UInt8)).set k c = List.replicate (k + 1) c ++ List.replicate (32 - (k + 1)) 0 := by
        rw [List.set_append, if_neg (by simp), List.length_replicate, Nat.sub_self, show 32 - k = (32 - (k + 1)) + 1 by omega, List.replicate_succ, List.set_cons_zero, List.replicate_succ', List.append_assoc]
        rfl
      rw [hs] at o1
      have HO := Lib.hid o1
      have HB := Lib.hid (hb.trans (grown_below g1 hb.size (Nat.le_refl _)))
      generalize (List.replicate k c ++ List.replicate (32 - k) (0 : UInt8))[k] = y at *
      clear hO hb o1 g1 hs
      go_wp2
      go_roundw
      case rel => exact ⟨k + 1, by omega, by go_num, HO.out, HB.out⟩
      case measure => simp [intOf]; omega
    · obtain rfl : k = 32 := by omega
      have HO := Lib.hid hO
      have HB := Lib.hid hb
      clear hO hb
      go_wp2
      go_ret
      exact ⟨_, rfl, by have := HO.out; simpa [secB] using this, HB.out⟩

theorem byte_cut (n : Int) : Value.int .u8 (n % 256) = .int .u8 ((UInt8.ofNat (n % 256).toNat).toNat : Int) := by
  rw [u8_of]; congr 1; omega
theorem rem_u8 (c : UInt8) (m : Nat) : ((c.toNat : Int) % (m : Int)) = ((c.toNat % m : Nat) : Int) := by rw [Int.natCast_emod]

theorem run_mkn (n : Nat) (z : Int) (hz : z = (n : Int)) (hn : n ≤ 1000000) (w : World) : (Instr.makeSlice 39 (.int .i64 z) (.int .i64 z)).run Try.prog w = .ok (.slice (some ⟨w.heap.size, 0, none⟩) n n) (w.alloc (.cells (madeCells #[.int .u8 0] n) 5)) := by
  subst hz
  obtain ⟨i0, hi, hz0, hz1, hz2⟩ := info_parts info8
  have := run_make (P := Try.prog) w 39 5 i0 (.int .u8 0) Try.underlying39 hi hz0 .i64 .i64 n n (by omega) (by omega) (by rw [hz2]; omega) (by omega)
  rw [hz1, Nat.mul_one] at this
  exact this
theorem own_base {w : World} {n c : Nat} {g B : Nat} {l : List UInt8} (h : OwnB w 0 (.slice (some ⟨g, 0, none⟩) n c) l) (hB : B ≤ g) : OwnB w B (.slice (some ⟨g, 0, none⟩) n c) l := by
  obtain ⟨h1, h2⟩ := h
  refine ⟨h1, h2.imp id ?_⟩
  rintro ⟨g', cap, cur, he, _, h3⟩
  refine ⟨g', cap, cur, he, ?_, h3⟩
  injection he with he _ _
  injection he with he
  injection he with he _ _
  omega

set_option maxHeartbeats 2000000 in
theorem made_any (x : Ac) (w : World) : Calls Try.prog 14 #[.agg #[.int .u8 (x.d.toNat : Int), .int .i64 x.at', .int .u8 (x.c.toNat : Int), .int .i64 x.keep, .int .i64 x.cut]] w fun e w' => ∃ g n, e = .returned (.slice (some ⟨g, 0, none⟩) n n) ∧ n = (madeB x).length ∧ OwnB w' w.heap.size (.slice (some ⟨g, 0, none⟩) n n) (madeB x) ∧ Below w.heap.size w w' := by
  obtain ⟨d, t, c, kp, cut⟩ := x
  have hd := d.toNat_lt
  have hc := c.toNat_lt
  simp only
  by_cases h15 : d.toNat % 16 = 15
  · have hB : madeB ⟨d, t, c, kp, cut⟩ = List.replicate (c.toNat % 64) 0 := by unfold madeB; rw [if_pos h15]
    have HB := Lib.hid hB
    have hq : (((d.toNat : Int) % 16) == 15) = true := by rw [beq_iff_eq]; omega
    have hmk := run_mkn (c.toNat % 64) ((c.toNat : Int) % 64) (by omega) (by omega)
    clear hB h15
    go_enter Try.func14, Try.ntmps14
    go_wp2_with fail
    go_ret
    refine ⟨_, _, rfl, by rw [HB.out, List.length_replicate], ?_, ?_⟩
    · rw [HB.out]
      have hom := own_made (w.alloc (.cells #[.int .u8 (d.toNat : Int), .int .i64 t, .int .u8 (c.toNat : Int), .int .i64 kp, .int .i64 cut] 29)) (c.toNat % 64) (by unfold maxLen; omega)
      rw [show (w.alloc (.cells #[.int .u8 (d.toNat : Int), .int .i64 t, .int .u8 (c.toNat : Int), .int .i64 kp, .int .i64 cut] 29)).heap.size = w.heap.size + 1 by simp] at hom
      exact own_base hom (by omega)
    · exact (below_alloc w _).alloc (by simp) _
  · have hB : madeB ⟨d, t, c, kp, cut⟩ = (secB c).set (c.toNat % 32) (UInt8.ofNat (cut % 256).toNat) := by unfold madeB; rw [if_neg h15]
    have HB := Lib.hid hB
    have hq : (((d.toNat : Int) % 16) == 15) = false := by rw [beq_eq_false_iff_ne]; omega
    have hs1 : c.toNat % 32 < 32 := Nat.mod_lt _ (by decide)
    clear hB h15
    go_enter Try.func14, Try.ntmps14
    go_wp2_with fail
    refine (sector_any c _).mono ?_
    rintro e w1 ⟨g, rfl, hO, hb⟩
    obtain ⟨y, hy⟩ : ∃ y, (secB c)[c.toNat % 32]? = some y := ⟨_, List.getElem?_eq_getElem (by rw [secB_len]; exact hs1)⟩
    obtain ⟨y0, f0, o1, g1⟩ := own_set hO (secB_len c) hs1 hy (UInt8.ofNat (cut % 256).toNat)
    have hx2 : w1.cell? ⟨w.heap.size, 2, none⟩ = some (.int .u8 (c.toNat : Int)) := cell_keep hb (by rw [World.cell?_alloc_new]; rfl)
    have hx4 : w1.cell? ⟨w.heap.size, 4, none⟩ = some (.int .i64 cut) := cell_keep hb (by rw [World.cell?_alloc_new]; rfl)
    have hgge : w.heap.size ≤ g := by have := ((own_iff.1 hO).lt g rfl).1; simp at this; omega
    rw [← byte_cut] at o1 g1
    have HO := Lib.hid o1
    have HB1 := Lib.hid (((below_alloc w _).trans (hb.mono (by simp))).trans (grown_below g1 (Nat.le_trans (by simp) hb.size) hgge))
    clear hO hb o1 g1 hy
    go_wp2_with fail
    go_ret
    refine ⟨g, 32, rfl, by rw [HB.out, List.length_set, secB_len], ?_, HB1.out⟩
    rw [HB.out]
    exact own_base (owns_le HO.out (Nat.zero_le _)) hgge

end Go.Proofs.Ytpbegchaneppfaa.Dsk
