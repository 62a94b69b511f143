/- Plane: the document's answer: Apart. -/
import Derived.Test.YtahkhkfmpnoneaaPlaRefM
namespace Go.Proofs.Ytahkhkfmpnoneaa.Pla
open Go.RowKit
open Go.Sort

def RowTo (L : List Bx) (k : Nat) (hk : k < L.length) (q : Nat) : Prop := ∀ j (h : j < L.length), k < j → j < q → L[k].meets L[j] = false
def RefTo (L : List Bx) (k : Nat) : Prop := ∀ i (h : i < L.length), i < k → L[i].good = true ∧ RowTo L i h L.length

theorem refTo_apart {L : List Bx} (h : RefTo L L.length) : ApartTo L L.length := by
  intro i hi _
  refine ⟨(h i hi hi).1, fun j hj => ?_⟩
  exact (h j (by omega) (by omega)).2 i hi hj hi

theorem not_apart_good {L : List Bx} {k : Nat} (hk : k < L.length) (h : L[k].good = false) : ¬ ApartTo L L.length := by
  intro h'; have := (h' k hk hk).1; rw [h] at this; cases this
theorem not_apart_meets {L : List Bx} {k q : Nat} (hq : q < L.length) (hkq : k < q) (h : (L[k]'(by omega)).meets L[q] = true) : ¬ ApartTo L L.length := by
  intro h'; have := (h' q hq hq).2 k hkq; rw [h] at this; cases this

/-- A list's box can be read in every later world. -/
theorem boxes_regrown {w : World} {a : Option Addr} {l : List Bx} (h : Boxes w a l) (d : Nat) (os : Array Obj) : Boxes (grow (redrawn w d) os) a l := boxes_below h (below_regrown w d os)

theorem boxes_some {w : World} {a : Option Addr} {l : List Bx} (h : Boxes w a l) (hl : 0 < l.length) : ∃ b off, Hid (a = some ⟨b, off, none⟩) := by
  obtain ⟨b, off, h1, _⟩ := boxes_at h hl; exact ⟨b, off, h1⟩
theorem boxes_cells {w : World} {b off : Nat} {l : List Bx} (h : Boxes w (some ⟨b, off, none⟩) l) {k : Nat} (hk : k < l.length) {x : Bx} (hx : l[k] = x) : w.cell? ⟨b, off + k * 4, none⟩ = some (.int .i64 x.t) ∧ w.cell? ⟨b, off + k * 4 + 1, none⟩ = some (.int .i64 x.n) ∧ w.cell? ⟨b, off + k * 4 + 2, none⟩ = some (.int .i64 x.l) ∧ w.cell? ⟨b, off + k * 4 + 3, none⟩ = some (.int .i64 x.m) := by
  subst hx
  obtain ⟨b', off', h1, _, h2⟩ := boxes_at h hk
  have e := h1.out
  simp at e
  obtain ⟨rfl, rfl⟩ := e
  exact h2

set_option maxHeartbeats 2000000 in
theorem rapart_any (a : Option Addr) (len cap : Nat) (L : List Bx) (w : World) (hl : L.length = len) (hc : len ≤ cap) (hm : cap ≤ maxLen) (hE : Boxes w a L) :
    Calls Try.prog 16 #[.slice a len cap] w fun e w' => e = .returned (.bool (apartB L)) ∧ Below w.heap.size w w' := by
  unfold maxLen at hm
  have HL := Lib.hid hl
  have HE := Lib.hid hE
  clear hl hE
  go_enter Try.func16, Try.ntmps16
  go_wp2
  go_loopw [3] (fun i wr => ∃ k : Nat, k ≤ len ∧ i = .int .i64 k ∧ Hid (RefTo L k) ∧ Below w.heap.size w wr) (fun i _ => len - (intOf i).toNat)
  case atStart => exact ⟨0, Nat.zero_le _, rfl, fun i h hi => absurd hi (Nat.not_lt_zero i), Below.refl _ _⟩
  case round =>
    obtain ⟨k, hk, rfl, ha, hb⟩ := hrel
    by_cases hlt : k < len
    · have hkl : k < L.length := by rw [HL.out]; exact hlt
      have hE1 := boxes_below HE.out hb
      obtain ⟨b, off, HA⟩ := boxes_some hE1 (by omega)
      have ha' := HA.out
      subst ha'
      obtain ⟨x, hx⟩ : ∃ x, L[k] = x := ⟨_, rfl⟩
      obtain ⟨d0, d1, d2, d3⟩ := boxes_cells hE1 hkl hx
      obtain ⟨t, n, l, m⟩ := x
      have HX := Lib.hid hx
      have hg := rgood_any t n l m
      clear hx hE1
      cases h : goodB t n l m with
      | false =>
        have HS := Lib.hid (apartB_no (not_apart_good hkl (by rw [HX.out]; exact h)))
        rw [h] at hg
        have HB := Lib.hid hb
        clear h hb
        go_wp2_with fail
        refine (hg _).mono ?_
        rintro e w1 ⟨rfl, hb⟩
        go_wp2
        go_ret
        exact ⟨ret_bool HS.out, below_keep HB.out hb⟩
      | true =>
        rw [h] at hg
        have HB := Lib.hid hb
        have HGood := Lib.hid h
        clear h hb
        go_wp2_with fail
        refine (hg _).mono ?_
        rintro e wo ⟨rfl, hbo⟩
        have HBO := Lib.hid (below_keep HB.out hbo)
        have HB1 := Lib.hid hbo
        clear hbo hg d0 d1 d2 d3
        go_wp2_with fail
        go_loopw [4] (fun j wi => ∃ q : Nat, k < q ∧ q ≤ len ∧ j = .int .i64 q ∧ Hid (RowTo L k hkl q) ∧ Below w.heap.size w wi) (fun j _ => len - (intOf j).toNat)
        case atStart => exact ⟨k + 1, by omega, by omega, by go_num, fun j h h1 h2 => by omega, HBO.out⟩
        case round =>
          obtain ⟨q, hkq, hq, rfl, hr, hbi⟩ := hrel
          by_cases hql : q < len
          · have hqL : q < L.length := by rw [HL.out]; exact hql
            have hE2 := boxes_below HE.out hbi
            obtain ⟨y, hy⟩ : ∃ y, L[q] = y := ⟨_, rfl⟩
            obtain ⟨yt, yn, yl, ym⟩ := y
            have c0 := fun d os => (boxes_cells (boxes_regrown hE2 d os) hkl HX.out).1
            have c1 := fun d os => (boxes_cells (boxes_regrown hE2 d os) hkl HX.out).2.1
            have c2 := fun d os => (boxes_cells (boxes_regrown hE2 d os) hkl HX.out).2.2.1
            have c3 := fun d os => (boxes_cells (boxes_regrown hE2 d os) hkl HX.out).2.2.2
            have e0 := fun d os => (boxes_cells (boxes_regrown hE2 d os) hqL hy).1
            have e1 := fun d os => (boxes_cells (boxes_regrown hE2 d os) hqL hy).2.1
            have e2 := fun d os => (boxes_cells (boxes_regrown hE2 d os) hqL hy).2.2.1
            have e3 := fun d os => (boxes_cells (boxes_regrown hE2 d os) hqL hy).2.2.2
            have cM := fun d os => Calls.regrown_of (w := wr) (d := d) (os := os) (rmeets_any t n l m yt yn yl ym _)
            have i0 : (0 : Int) ≤ (k : Int) := by omega
            have i1 : (k : Int) < (len : Int) := by omega
            have i2 : (0 : Int) ≤ (q : Int) := by omega
            have i3 : (q : Int) < (len : Int) := by omega
            have HY := Lib.hid hy
            have HBI := Lib.hid hbi
            clear hy hbi hE2
            cases hM : meetsB t n l m yt yn yl ym with
            | true =>
              have HS := Lib.hid (apartB_no (not_apart_meets hqL hkq (by rw [HX.out, HY.out]; exact hM)))
              rw [hM] at cM
              clear hM
              go_wp2
              refine wp_region_quiet_below (by kernel_rfl) (by kernel_rfl) ?_
              repeat (quiet_step (first | (with_reducible exact cM _ _)))
              refine wpQuiet_nil ?_
              intro _ hw'
              obtain ⟨⟨dq, osq⟩, hw''⟩ := hw'
              subst hw''
              go_wp2
              go_ret
              exact ⟨ret_bool HS.out, below_keep HBI.out (below_regrown wr dq osq)⟩
            | false =>
              have HS : Hid (RowTo L k hkl (q + 1)) := by
                intro j hj h1 h2
                by_cases he : j = q
                · subst he; rw [HX.out, HY.out]; exact hM
                · exact hr.out j hj h1 (by omega)
              rw [hM] at cM
              clear hM hr
              go_wp2
              refine wp_region_quiet_below (by kernel_rfl) (by kernel_rfl) ?_
              repeat (quiet_step (first | (with_reducible exact cM _ _)))
              refine wpQuiet_nil ?_
              intro _ hw'
              obtain ⟨⟨dq, osq⟩, hw''⟩ := hw'
              subst hw''
              go_wp2
              go_roundw
              case rel => exact ⟨q + 1, by omega, by omega, by go_num, HS, below_keep HBI.out (below_regrown wr dq osq)⟩
              case measure => simp [intOf]; omega
          · have HS : Hid (RefTo L (k + 1)) := by
              intro i hi h1
              by_cases he : i = k
              · subst he
                refine ⟨by rw [HX.out]; exact HGood.out, ?_⟩
                have := hr.out
                rw [HL.out]
                intro j hj h1 h2
                exact this j hj h1 (by omega)
              · exact ha.out i hi (by omega)
            have HBI := Lib.hid hbi
            clear hr hbi ha
            go_wp2
            go_roundw
            case rel => exact ⟨k + 1, by omega, by go_num, HS, HBI.out⟩
            case measure => simp [intOf]; omega
    · have HS := Lib.hid (apartB_yes (refTo_apart (L := L) fun i hi h => ha.out i hi (by rw [HL.out] at h; omega)))
      have HB := Lib.hid hb
      clear ha hb
      go_wp2
      go_ret
      exact ⟨ret_bool HS.out, HB.out⟩

end Go.Proofs.Ytahkhkfmpnoneaa.Pla
