/- Common to the claims of this seat, part 30: texts that were written one by one, laid behind one another. -/
import Derived.Test.YtjcndgopijpibaaGreatPart5
import Derived.Test.YtjcndgopijpibaaGreatPart6
import Derived.Test.YtjcndgopijpibaaGreatPart8
/- Book: a world in which some numbers were written over, all else is as it was. -/
namespace Go.Proofs.YtjcndgopijpibaaGreat.Bok
set_option maxRecDepth 100000
open Go.RowKit
open Go.Sort
open Kit
open Foot
open Tre (below_drewN')
set_option linter.unusedVariables false
variable {w w' : World}
structure Like (B : Nat) (w w' : World) : Prop where
  chg : Chg (fun k => B ≤ k) w w'
  cell : ∀ a v, w.cell? a = some v → w'.cell? a = some v ∨ ((∃ x, v = .int .i64 x) ∧ ∃ x, w'.cell? a = some (.int .i64 x))
  frozen : ∀ a, a.block < w.heap.size → w'.frozen? a = w.frozen? a
namespace Like
variable {B : Nat}
theorem refl (B : Nat) (w : World) : Like B w w := ⟨chg_refl _ _, fun _ _ h => .inl h, fun _ _ => rfl⟩
theorem int {a : Addr} {x : Int} (h : Like B w w') (hc : w.cell? a = some (.int .i64 x)) : ∃ x, w'.cell? a = some (.int .i64 x) := by
  rcases h.cell a _ hc with e | ⟨_, e⟩
  · exact ⟨x, e⟩
  · exact e
theorem sl {a : Addr} {p : Option Addr} {n c : Nat} (h : Like B w w') (hc : w.cell? a = some (.slice p n c)) : w'.cell? a = some (.slice p n c) := by
  rcases h.cell a _ hc with e | ⟨⟨x, e⟩, _⟩
  · exact e
  · cases e
theorem set {a : Addr} {x : Int} (h : Like B w w') (hB : B ≤ a.block) (hs : a.spot = none) (hc : w'.cell? a = some (.int .i64 x)) (y : Int) : Like B w (w'.setCell a (.int .i64 y)) := by
  obtain ⟨b, i, sp⟩ := a
  simp only at hs hB
  subst hs
  refine ⟨chg_set h.chg (.inl hB) i _, fun a v hv => ?_, fun a ha => by rw [World.frozen?_setCell]; exact h.frozen a ha⟩
  by_cases he : a = ⟨b, i, none⟩
  · subst he
    refine .inr ⟨?_, y, same_cell hc _⟩
    rcases h.cell _ _ hv with e | ⟨e, _⟩
    · rw [hc] at e
      injection e with e
      exact ⟨x, e.symm⟩
    · exact e
  · have hf : ∀ v, w'.cell? a = some v → (w'.setCell ⟨b, i, none⟩ (.int .i64 y)).cell? a = some v := fun v h => by
      by_cases hb : b = a.block
      · obtain ⟨ab, ao, sp⟩ := a
        simp only at hb
        subst hb
        cases sp with
        | none =>
          refine set_off (fun e => he ?_) h
          subst e; rfl
        | some s =>
          exfalso
          unfold World.cell? at h
          split at h
          · simp at h
          · cases h
      · exact set_far hb h
    rcases h.cell a v hv with e | ⟨e, z, e2⟩
    · exact .inl (hf _ e)
    · exact .inr ⟨e, z, hf _ e2⟩
theorem drew {n : Nat} (h : Like B w w') : Like B w (w'.drewN n) := ⟨⟨h.chg.os, h.chg.tape, h.chg.output, h.chg.size, h.chg.block⟩, h.cell, h.frozen⟩
theorem below (h : Like B w w') (hB : B ≤ w.heap.size) : Below B w w' := chg_below h.chg (fun _ h => h) hB
theorem free {α : Type} {enc : α → List Value} {size base : Nat} {T : TypeId} {q : Addr} {n c : Nat} {l : List α} (h : Like B w w') (hn : NewL enc size T w base (some q) n c l) (i : Nat) : w'.frozen? ⟨q.block, i, none⟩ = false := by
  obtain ⟨g1, g2, cur, g3⟩ := hn.new q rfl
  rw [h.frozen ⟨q.block, i, none⟩ g2]
  unfold World.frozen?
  simp [g3]
end Like
end Go.Proofs.YtjcndgopijpibaaGreat.Bok
/- Snap: the document's SameJob. -/
namespace Go.Proofs.YtjcndgopijpibaaGreat.Snp
set_option maxRecDepth 100000
open Go.RowKit
open Go.Sort
open Kit
open Tre (Lst inI lst_keep lst_at below_drewN')
open Job (Jb Jv Jobs encJ valJ job_keep)
open Drw (Dw Draws encD encD_len draw_cells)
set_option linter.unusedVariables false
variable {w w' : World}
theorem text_ne {a b : ByteArray} (h : a ≠ b) : ¬ a.toList = b.toList := fun e => h (by
  rw [ByteArray.toList_eq, ByteArray.toList_eq] at e
  exact ByteArray.ext (Array.toList_inj.1 e))
theorem diff_at {α : Type} : ∀ (l k : List α), l.length = k.length → (∀ (i : Nat) (x y : α), l[i]? = some x → k[i]? = some y → x = y) → l = k
  | [], [], _, _ => rfl
  | x :: l, y :: k, h, hi => by
    have h0 := hi 0 x y rfl rfl
    have h1 := diff_at l k (by simpa using h) fun i a b ha hb => hi (i + 1) a b (by simpa using ha) (by simpa using hb)
    rw [h0, h1]
  | [], _ :: _, h, _ => by simp at h
  | _ :: _, [], h, _ => by simp at h
theorem diff_next {α : Type} {l k : List α} {n : Nat} {u : α} (h : ∀ (i : Nat) (x y : α), i < n → l[i]? = some x → k[i]? = some y → x = y) (h1 : l[n]? = some u) (h2 : k[n]? = some u) : ∀ (i : Nat) (x y : α), i < n + 1 → l[i]? = some x → k[i]? = some y → x = y := by
  intro i x y hi hx hy
  rcases Nat.lt_succ_iff_lt_or_eq.1 hi with h' | h'
  · exact h i x y h' hx hy
  · subst h'
    have e1 := h1.symm.trans hx
    have e2 := h2.symm.trans hy
    injection e1 with e1
    injection e2 with e2
    rw [← e1, ← e2]
theorem diff_all {α : Type} {l k : List α} {n : Nat} (hl : l.length = n) (hk : k.length = n) (h : ∀ (i : Nat) (x y : α), i < n → l[i]? = some x → k[i]? = some y → x = y) : l = k :=
  diff_at l k (by rw [hl, hk]) fun i x y hx hy => h i x y (by rw [← hl]; exact (List.getElem?_eq_some_iff.1 hx).1) hx hy
theorem two_boxes (W : World) (T : TypeId) (A B : List Value) : Below W.heap.size W ((W.alloc (.cells A.toArray T)).alloc (.cells B.toArray T)) ∧ Arr.Blk ((W.alloc (.cells A.toArray T)).alloc (.cells B.toArray T)) W.heap.size T A ∧ Arr.Blk ((W.alloc (.cells A.toArray T)).alloc (.cells B.toArray T)) (W.heap.size + 1) T B := by
  have h1 := Arr.blk_new W W.heap.size T A rfl
  have hz : (W.alloc (.cells A.toArray T)).heap.size = W.heap.size + 1 := by simp
  refine ⟨below_keep (below_alloc W _) (below_alloc _ _), Arr.blk_below h1 (below_alloc _ _) (Arr.blk_lt h1), ?_⟩
  exact Arr.blk_new _ _ T B hz.symm
set_option maxHeartbeats 16000000 in
theorem rsamej_any (W : World) (x y : Jv) (hx : x.In W) (hy : y.In W) :
    Calls Tryz.prog 32 #[valJ x, valJ y] W fun e W' => ∃ b, e = .returned (.bool b) ∧ (b = true ↔ x.t = y.t) ∧ Below W.heap.size W W' := by
  obtain ⟨⟨a0, a1, a2, a3, a4, a5, a6, a7, a8, a9, a10, ds⟩, ad, nd, cd⟩ := x
  obtain ⟨⟨b0, b1, b2, b3, b4, b5, b6, b7, b8, b9, b10, ds2⟩, ad2, nd2, cd2⟩ := y
  have g1 : Draws W ad nd cd ds := hx
  have h1 : Draws W ad2 nd2 cd2 ds2 := hy
  have h2 := two_boxes W 58 [.int .i64 a0, .int .i64 a1, .int .i64 a2, .int .i64 a3, .int .i64 a4, .int .i64 a5, .int .i64 a6, .int .i64 a7, .int .i64 a8, .int .i64 a9, .int .i64 a10, .slice ad nd cd] [.int .i64 b0, .int .i64 b1, .int .i64 b2, .int .i64 b3, .int .i64 b4, .int .i64 b5, .int .i64 b6, .int .i64 b7, .int .i64 b8, .int .i64 b9, .int .i64 b10, .slice ad2 nd2 cd2]
  have HI := Lib.hid (And.intro g1 h1)
  have HLn := Lib.hid (And.intro g1.len h1.len)
  have hn1 : nd ≤ 9223372036854775807 := by have e1 := g1.cap; have e2 := g1.max; unfold maxLen at e2; omega
  have hn2 : nd2 ≤ 9223372036854775807 := by have e1 := h1.cap; have e2 := h1.max; unfold maxLen at e2; omega
  obtain ⟨w2, hw2⟩ : ∃ z, z = (W.alloc (.cells #[.int .i64 a0, .int .i64 a1, .int .i64 a2, .int .i64 a3, .int .i64 a4, .int .i64 a5, .int .i64 a6, .int .i64 a7, .int .i64 a8, .int .i64 a9, .int .i64 a10, .slice ad nd cd] 58)).alloc (.cells #[.int .i64 b0, .int .i64 b1, .int .i64 b2, .int .i64 b3, .int .i64 b4, .int .i64 b5, .int .i64 b6, .int .i64 b7, .int .i64 b8, .int .i64 b9, .int .i64 b10, .slice ad2 nd2 cd2] 58) := ⟨_, rfl⟩
  rw [show (W.alloc (.cells ([.int .i64 a0, .int .i64 a1, .int .i64 a2, .int .i64 a3, .int .i64 a4, .int .i64 a5, .int .i64 a6, .int .i64 a7, .int .i64 a8, .int .i64 a9, .int .i64 a10, .slice ad nd cd] : List Value).toArray 58)).alloc (.cells ([.int .i64 b0, .int .i64 b1, .int .i64 b2, .int .i64 b3, .int .i64 b4, .int .i64 b5, .int .i64 b6, .int .i64 b7, .int .i64 b8, .int .i64 b9, .int .i64 b10, .slice ad2 nd2 cd2] : List Value).toArray 58) = w2 from hw2.symm] at h2
  have HW := Lib.hid hw2
  have HB := Lib.hid h2
  clear g1 h1 h2 hx hy hw2
  simp only
  by_cases hh : a0 = b0 ∧ a1 = b1 ∧ a2 = b2 ∧ a3 = b3 ∧ a4 = b4 ∧ a5 = b5 ∧ a6 = b6 ∧ a7 = b7 ∧ a8 = b8 ∧ a9 = b9 ∧ a10 = b10 ∧ nd = nd2
  · obtain ⟨rfl, rfl, rfl, rfl, rfl, rfl, rfl, rfl, rfl, rfl, rfl, rfl⟩ := hh
    have p0 := Arr.blk_cell HB.out.2.1 0
    have r0 := Arr.blk_cell HB.out.2.2 0
    have p1 := Arr.blk_cell HB.out.2.1 1
    have r1 := Arr.blk_cell HB.out.2.2 1
    have p2 := Arr.blk_cell HB.out.2.1 2
    have r2 := Arr.blk_cell HB.out.2.2 2
    have p3 := Arr.blk_cell HB.out.2.1 3
    have r3 := Arr.blk_cell HB.out.2.2 3
    have p4 := Arr.blk_cell HB.out.2.1 4
    have r4 := Arr.blk_cell HB.out.2.2 4
    have p5 := Arr.blk_cell HB.out.2.1 5
    have r5 := Arr.blk_cell HB.out.2.2 5
    have p6 := Arr.blk_cell HB.out.2.1 6
    have r6 := Arr.blk_cell HB.out.2.2 6
    have p7 := Arr.blk_cell HB.out.2.1 7
    have r7 := Arr.blk_cell HB.out.2.2 7
    have p8 := Arr.blk_cell HB.out.2.1 8
    have r8 := Arr.blk_cell HB.out.2.2 8
    have p9 := Arr.blk_cell HB.out.2.1 9
    have r9 := Arr.blk_cell HB.out.2.2 9
    have p10 := Arr.blk_cell HB.out.2.1 10
    have r10 := Arr.blk_cell HB.out.2.2 10
    have p11 := Arr.blk_cell HB.out.2.1 11
    have r11 := Arr.blk_cell HB.out.2.2 11
    simp only [List.getElem?_cons_zero, List.getElem?_cons_succ] at p0 r0 p1 r1 p2 r2 p3 r3 p4 r4 p5 r5 p6 r6 p7 r7 p8 r8 p9 r9 p10 r10 p11 r11
    go_enter Tryz.func32, Tryz.ntmps32
    go_upto_region 1 with fail
    rw [← HW.out]
    go_wp2_with fail
    clear p0 r0 p1 r1 p2 r2 p3 r3 p4 r4 p5 r5 p6 r6 p7 r7 p8 r8 p9 r9 p10 r10 p11 r11
    go_loopw [5] (fun iv wr => ∃ k : Nat, k ≤ nd ∧ iv = .int .i64 (k : Nat) ∧ (∀ (i : Nat) (u v : Dw), i < k → ds[i]? = some u → ds2[i]? = some v → u = v) ∧ Below w2.heap.size w2 wr) (fun iv _ => nd - (intOf iv).toNat)
    case atStart => exact ⟨0, Nat.zero_le _, rfl, (fun i u v hi => by omega), by first | exact Below.refl _ _ | exact below_drewN' _ _⟩
    case round =>
      obtain ⟨k, hk, rfl, hal, hb⟩ := hrel
      have HO := Lib.hid (And.intro hal hb)
      have q1 := Arr.blk_cell (Arr.blk_below HB.out.2.1 hb (Arr.blk_lt HB.out.2.1)) 11
      have q2 := Arr.blk_cell (Arr.blk_below HB.out.2.2 hb (Arr.blk_lt HB.out.2.2)) 11
      simp only [List.getElem?_cons_zero, List.getElem?_cons_succ] at q1 q2
      by_cases hlt : k < nd
      · have hk1 : k < ds.length := by rw [HLn.out.1]; exact hlt
        have hk2 : k < ds2.length := by rw [HLn.out.2]; exact hlt
        obtain ⟨b, o, rfl⟩ := lst_at HI.out.1 (by omega)
        obtain ⟨b', o', rfl⟩ := lst_at HI.out.2 (by omega)
        obtain ⟨p1, p2⟩ := draw_cells (lst_keep encD_len HI.out.1 (below_keep HB.out.1 hb)) hk1
        obtain ⟨p3, p4⟩ := draw_cells (lst_keep encD_len HI.out.2 (below_keep HB.out.1 hb)) hk2
        have e1 := List.getElem?_eq_getElem hk1
        have e2 := List.getElem?_eq_getElem hk2
        generalize ds[k] = u at p1 p2 e1
        generalize ds2[k] = v at p3 p4 e2
        obtain ⟨uc, um⟩ := u
        obtain ⟨vc, vm⟩ := v
        simp only at p1 p2 p3 p4
        have HE := Lib.hid (And.intro e1 e2)
        clear hal hb e1 e2 hk1 hk2
        by_cases huv : uc = vc ∧ um = vm
        · obtain ⟨rfl, rfl⟩ := huv
          go_wp2_with fail
          go_big_quiet (fail)
          go_wp2_with fail
          go_roundw
          case rel => exact ⟨k + 1, by omega, by go_num, diff_next HO.out.1 HE.out.1 HE.out.2, below_keep HO.out.2 (below_drewN' _ _)⟩
          case measure => simp [intOf]; omega
        · have HNe := Lib.hid (show ¬ (⟨a0, a1, a2, a3, a4, a5, a6, a7, a8, a9, a10, ds⟩ : Jb) = ⟨a0, a1, a2, a3, a4, a5, a6, a7, a8, a9, a10, ds2⟩ from fun e => by
            injection e with _ _ _ _ _ _ _ _ _ _ _ e7
            have e1 := HE.out.1
            rw [e7, HE.out.2] at e1
            injection e1 with e1
            injection e1 with e1 e2
            exact huv ⟨e1.symm, e2.symm⟩)
          have hor : ((uc == vc) = false) ∨ (uc = vc ∧ (um == vm) = false) := by
            by_cases h : uc = vc
            · exact .inr ⟨h, beq_false_of_ne fun h2 => huv ⟨h, h2⟩⟩
            · exact .inl (beq_false_of_ne h)
          clear huv
          rcases hor with t1 | ⟨rfl, t1⟩
          all_goals
            go_wp2_with fail
            go_big_quiet (fail)
            go_wp2_with fail
            go_ret
            exact ⟨false, rfl, ⟨(fun h => by cases h), fun h => absurd h HNe.out⟩, below_keep HB.out.1 (below_keep HO.out.2 (below_drewN' _ _))⟩
      · obtain rfl : k = nd := by omega
        have HLg := Lib.hid (diff_all HLn.out.1 HLn.out.2 hal)
        clear hal hb
        go_wp2_with fail
        go_ret
        exact ⟨true, rfl, ⟨fun _ => by rw [HLg.out], fun _ => rfl⟩, below_keep HB.out.1 HO.out.2⟩
  · have hor : (¬ a0 = b0) ∨ (a0 = b0 ∧ ¬ a1 = b1) ∨ (a0 = b0 ∧ a1 = b1 ∧ ¬ a2 = b2) ∨ (a0 = b0 ∧ a1 = b1 ∧ a2 = b2 ∧ ¬ a3 = b3) ∨ (a0 = b0 ∧ a1 = b1 ∧ a2 = b2 ∧ a3 = b3 ∧ ¬ a4 = b4) ∨ (a0 = b0 ∧ a1 = b1 ∧ a2 = b2 ∧ a3 = b3 ∧ a4 = b4 ∧ ¬ a5 = b5) ∨ (a0 = b0 ∧ a1 = b1 ∧ a2 = b2 ∧ a3 = b3 ∧ a4 = b4 ∧ a5 = b5 ∧ ¬ a6 = b6) ∨ (a0 = b0 ∧ a1 = b1 ∧ a2 = b2 ∧ a3 = b3 ∧ a4 = b4 ∧ a5 = b5 ∧ a6 = b6 ∧ ¬ a7 = b7) ∨ (a0 = b0 ∧ a1 = b1 ∧ a2 = b2 ∧ a3 = b3 ∧ a4 = b4 ∧ a5 = b5 ∧ a6 = b6 ∧ a7 = b7 ∧ ¬ a8 = b8) ∨ (a0 = b0 ∧ a1 = b1 ∧ a2 = b2 ∧ a3 = b3 ∧ a4 = b4 ∧ a5 = b5 ∧ a6 = b6 ∧ a7 = b7 ∧ a8 = b8 ∧ ¬ a9 = b9) ∨ (a0 = b0 ∧ a1 = b1 ∧ a2 = b2 ∧ a3 = b3 ∧ a4 = b4 ∧ a5 = b5 ∧ a6 = b6 ∧ a7 = b7 ∧ a8 = b8 ∧ a9 = b9 ∧ ¬ a10 = b10) ∨ (a0 = b0 ∧ a1 = b1 ∧ a2 = b2 ∧ a3 = b3 ∧ a4 = b4 ∧ a5 = b5 ∧ a6 = b6 ∧ a7 = b7 ∧ a8 = b8 ∧ a9 = b9 ∧ a10 = b10 ∧ ¬ (nd : Int) = (nd2 : Int)) := by
      by_cases e0 : a0 = b0
      · by_cases e1 : a1 = b1
        · by_cases e2 : a2 = b2
          · by_cases e3 : a3 = b3
            · by_cases e4 : a4 = b4
              · by_cases e5 : a5 = b5
                · by_cases e6 : a6 = b6
                  · by_cases e7 : a7 = b7
                    · by_cases e8 : a8 = b8
                      · by_cases e9 : a9 = b9
                        · by_cases e10 : a10 = b10
                          · exact .inr (.inr (.inr (.inr (.inr (.inr (.inr (.inr (.inr (.inr (.inr (⟨e0, e1, e2, e3, e4, e5, e6, e7, e8, e9, e10, fun e => hh ⟨e0, e1, e2, e3, e4, e5, e6, e7, e8, e9, e10, by omega⟩⟩)))))))))))
                          · exact .inr (.inr (.inr (.inr (.inr (.inr (.inr (.inr (.inr (.inr (.inl ⟨e0, e1, e2, e3, e4, e5, e6, e7, e8, e9, e10⟩))))))))))
                        · exact .inr (.inr (.inr (.inr (.inr (.inr (.inr (.inr (.inr (.inl ⟨e0, e1, e2, e3, e4, e5, e6, e7, e8, e9⟩)))))))))
                      · exact .inr (.inr (.inr (.inr (.inr (.inr (.inr (.inr (.inl ⟨e0, e1, e2, e3, e4, e5, e6, e7, e8⟩))))))))
                    · exact .inr (.inr (.inr (.inr (.inr (.inr (.inr (.inl ⟨e0, e1, e2, e3, e4, e5, e6, e7⟩)))))))
                  · exact .inr (.inr (.inr (.inr (.inr (.inr (.inl ⟨e0, e1, e2, e3, e4, e5, e6⟩))))))
                · exact .inr (.inr (.inr (.inr (.inr (.inl ⟨e0, e1, e2, e3, e4, e5⟩)))))
              · exact .inr (.inr (.inr (.inr (.inl ⟨e0, e1, e2, e3, e4⟩))))
            · exact .inr (.inr (.inr (.inl ⟨e0, e1, e2, e3⟩)))
          · exact .inr (.inr (.inl ⟨e0, e1, e2⟩))
        · exact .inr (.inl ⟨e0, e1⟩)
      · exact .inl e0
    have HNe := Lib.hid (show ¬ (⟨a0, a1, a2, a3, a4, a5, a6, a7, a8, a9, a10, ds⟩ : Jb) = ⟨b0, b1, b2, b3, b4, b5, b6, b7, b8, b9, b10, ds2⟩ from fun e => by
      injection e with e0 e1 e2 e3 e4 e5 e6 e7 e8 e9 e10 e11
      refine hh ⟨e0, e1, e2, e3, e4, e5, e6, e7, e8, e9, e10, ?_⟩
      rw [← HLn.out.1, ← HLn.out.2, e11])
    clear hh
    rcases hor with t1 | ⟨rfl, t1⟩ | ⟨rfl, rfl, t1⟩ | ⟨rfl, rfl, rfl, t1⟩ | ⟨rfl, rfl, rfl, rfl, t1⟩ | ⟨rfl, rfl, rfl, rfl, rfl, t1⟩ | ⟨rfl, rfl, rfl, rfl, rfl, rfl, t1⟩ | ⟨rfl, rfl, rfl, rfl, rfl, rfl, rfl, t1⟩ | ⟨rfl, rfl, rfl, rfl, rfl, rfl, rfl, rfl, t1⟩ | ⟨rfl, rfl, rfl, rfl, rfl, rfl, rfl, rfl, rfl, t1⟩ | ⟨rfl, rfl, rfl, rfl, rfl, rfl, rfl, rfl, rfl, rfl, t1⟩ | ⟨rfl, rfl, rfl, rfl, rfl, rfl, rfl, rfl, rfl, rfl, rfl, t1⟩
    all_goals
      have p0 := Arr.blk_cell HB.out.2.1 0
      have r0 := Arr.blk_cell HB.out.2.2 0
      have p1 := Arr.blk_cell HB.out.2.1 1
      have r1 := Arr.blk_cell HB.out.2.2 1
      have p2 := Arr.blk_cell HB.out.2.1 2
      have r2 := Arr.blk_cell HB.out.2.2 2
      have p3 := Arr.blk_cell HB.out.2.1 3
      have r3 := Arr.blk_cell HB.out.2.2 3
      have p4 := Arr.blk_cell HB.out.2.1 4
      have r4 := Arr.blk_cell HB.out.2.2 4
      have p5 := Arr.blk_cell HB.out.2.1 5
      have r5 := Arr.blk_cell HB.out.2.2 5
      have p6 := Arr.blk_cell HB.out.2.1 6
      have r6 := Arr.blk_cell HB.out.2.2 6
      have p7 := Arr.blk_cell HB.out.2.1 7
      have r7 := Arr.blk_cell HB.out.2.2 7
      have p8 := Arr.blk_cell HB.out.2.1 8
      have r8 := Arr.blk_cell HB.out.2.2 8
      have p9 := Arr.blk_cell HB.out.2.1 9
      have r9 := Arr.blk_cell HB.out.2.2 9
      have p10 := Arr.blk_cell HB.out.2.1 10
      have r10 := Arr.blk_cell HB.out.2.2 10
      have p11 := Arr.blk_cell HB.out.2.1 11
      have r11 := Arr.blk_cell HB.out.2.2 11
      simp only [List.getElem?_cons_zero, List.getElem?_cons_succ] at p0 r0 p1 r1 p2 r2 p3 r3 p4 r4 p5 r5 p6 r6 p7 r7 p8 r8 p9 r9 p10 r10 p11 r11
      go_enter Tryz.func32, Tryz.ntmps32
      go_upto_region 1 with fail
      rw [← HW.out]
      go_wp2_with fail
      go_ret
      exact ⟨false, rfl, ⟨(fun h => by cases h), fun h => absurd h HNe.out⟩, by first | exact HB.out.1 | exact below_keep HB.out.1 (below_drewN' _ _)⟩
end Go.Proofs.YtjcndgopijpibaaGreat.Snp
