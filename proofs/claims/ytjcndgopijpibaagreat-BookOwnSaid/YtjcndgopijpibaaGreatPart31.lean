/- Common to the claims of this seat, part 31: texts that were written one by one, laid behind one another. -/
import Derived.Test.YtjcndgopijpibaaGreatPart7
import Derived.Test.YtjcndgopijpibaaGreatPart9
import Derived.Test.YtjcndgopijpibaaGreatPart30
/- Snap: the document's Same. -/
namespace Go.Proofs.YtjcndgopijpibaaGreat.Snp
set_option maxRecDepth 100000
open Go.RowKit
open Go.Sort
open Kit
open Tre (Lst inI lst_keep lst_at below_drewN' Funds Allocs Al encF encF_len encL_len)
open Rte (Rt Rates encR encR_len)
open Job (Jb Jv Jobs encJ encJ_len valJ job_keep)
open Drw (Dw Draws encD encD_len draw_cells)
set_option linter.unusedVariables false
variable {w w' : World}
theorem name_ne {a b : ByteArray} (h : a ≠ b) : (a.toList == b.toList) = false := beq_false_of_ne (text_ne h)
theorem key_at {b o n c k : Nat} {l : List ByteArray} {x : ByteArray} (h : Keys w (some ⟨b, o, none⟩) n c l) (hx : l[k]? = some x) : w.cell? ⟨b, o + k, none⟩ = some (.string x) := by
  obtain ⟨hk, e⟩ := List.getElem?_eq_some_iff.1 hx
  have := key_cell h hk
  rwa [e] at this
theorem run_ld_jl {a : Addr} {v : Value} (h : w.cell? a = some v) : (Instr.loadAt 26 (.pointer (some a))).run Tryz.prog w = .ok v w := by simp [go_sem, h]
theorem run_ij12 {b o n c k : Nat} (h : k < n) (w : World) : (Instr.indexAt 26 (.slice (some ⟨b, o, none⟩) n c) (.int .i64 (k : Nat))).run Tryz.prog w = .ok (.pointer (some ⟨b, o + k * 12, none⟩)) w := by simp [go_sem, h]
theorem run_ld_j {b o n c k : Nat} {l : List Jv} {x : Jv} (h : Jobs w (some ⟨b, o, none⟩) n c l) (hx : l[k]? = some x) : (Instr.loadAt 58 (.pointer (some ⟨b, o + k * 12, none⟩))).run Tryz.prog w = .ok (valJ x) w := by
  obtain ⟨h0, h1, h2, h3, h4, h5, h6, h7, h8, h9, h10, h11⟩ := job_all h hx
  simp [go_sem, h0, h1, h2, h3, h4, h5, h6, h7, h8, h9, h10, h11]
set_option maxHeartbeats 64000000 in
theorem rsame_any (W : World) (x y : Sv) (hx : x.In W) (hy : y.In W) :
    Calls Tryz.prog 14 #[valV x, valV y] W fun e W' => ∃ b, e = .returned (.bool b) ∧ (b = true ↔ x.t = y.t) ∧ Below W.heap.size W W' := by
  obtain ⟨T1, hT1⟩ : ∃ z, z = x.t := ⟨_, rfl⟩
  obtain ⟨T2, hT2⟩ : ∃ z, z = y.t := ⟨_, rfl⟩
  rw [← hT1, ← hT2]
  obtain ⟨s1, s2, s3, fs1, ls1, rs1, js1, ks1, ⟨af1, nf, cf1⟩, ⟨al1, nl, cl1⟩, ⟨ar1, nr, cr1⟩, ⟨aj1, nj, cj1⟩, ⟨ak1, nk, ck1⟩⟩ := x
  obtain ⟨t1, t2, t3, fs2, ls2, rs2, js2, ks2, ⟨af2, nf2, cf2⟩, ⟨al2, nl2, cl2⟩, ⟨ar2, nr2, cr2⟩, ⟨aj2, nj2, cj2⟩, ⟨ak2, nk2, ck2⟩⟩ := y
  have HI := Lib.hid (And.intro hx hy)
  have HT := Lib.hid (And.intro (show T1 = ⟨s1, s2, s3, fs1, ls1, rs1, js1.map (·.t), ks1⟩ from hT1) (show T2 = ⟨t1, t2, t3, fs2, ls2, rs2, js2.map (·.t), ks2⟩ from hT2))
  clear hT1 hT2
  obtain ⟨g1, g2, g3, g4, g5, g6⟩ := hx
  obtain ⟨h1, h2, h3, h4, h5, h6⟩ := hy
  simp only at g1 g2 g3 g4 g5 h1 h2 h3 h4 h5
  have HBx := two_boxes W 29 [.int .i64 s1, .int .i64 s2, .int .i64 s3, .slice af1 nf cf1, .slice al1 nl cl1, .slice ar1 nr cr1, .slice aj1 nj cj1, .slice ak1 nk ck1] [.int .i64 t1, .int .i64 t2, .int .i64 t3, .slice af2 nf2 cf2, .slice al2 nl2 cl2, .slice ar2 nr2 cr2, .slice aj2 nj2 cj2, .slice ak2 nk2 ck2]
  have HLn := Lib.hid (And.intro (And.intro g1.len (And.intro g2.len (And.intro g3.len (And.intro g4.len g5.len)))) (And.intro h1.len (And.intro h2.len (And.intro h3.len (And.intro h4.len h5.len)))))
  have hm1 : nf ≤ 9223372036854775807 := by have e1 := g1.cap; have e2 := g1.max; unfold maxLen at e2; omega
  have hm2 : nl ≤ 9223372036854775807 := by have e1 := g2.cap; have e2 := g2.max; unfold maxLen at e2; omega
  have hm3 : nr ≤ 9223372036854775807 := by have e1 := g3.cap; have e2 := g3.max; unfold maxLen at e2; omega
  have hm4 : nj ≤ 9223372036854775807 := by have e1 := g4.cap; have e2 := g4.max; unfold maxLen at e2; omega
  have hm5 : nk ≤ 9223372036854775807 := by have e1 := g5.cap; have e2 := g5.max; unfold maxLen at e2; omega
  have hm6 : nf2 ≤ 9223372036854775807 := by have e1 := h1.cap; have e2 := h1.max; unfold maxLen at e2; omega
  have hm7 : nl2 ≤ 9223372036854775807 := by have e1 := h2.cap; have e2 := h2.max; unfold maxLen at e2; omega
  have hm8 : nr2 ≤ 9223372036854775807 := by have e1 := h3.cap; have e2 := h3.max; unfold maxLen at e2; omega
  have hm9 : nj2 ≤ 9223372036854775807 := by have e1 := h4.cap; have e2 := h4.max; unfold maxLen at e2; omega
  have hm10 : nk2 ≤ 9223372036854775807 := by have e1 := h5.cap; have e2 := h5.max; unfold maxLen at e2; omega
  obtain ⟨w2, hw2⟩ : ∃ z, z = (W.alloc (.cells #[.int .i64 s1, .int .i64 s2, .int .i64 s3, .slice af1 nf cf1, .slice al1 nl cl1, .slice ar1 nr cr1, .slice aj1 nj cj1, .slice ak1 nk ck1] 29)).alloc (.cells #[.int .i64 t1, .int .i64 t2, .int .i64 t3, .slice af2 nf2 cf2, .slice al2 nl2 cl2, .slice ar2 nr2 cr2, .slice aj2 nj2 cj2, .slice ak2 nk2 ck2] 29) := ⟨_, rfl⟩
  rw [show (W.alloc (.cells ([.int .i64 s1, .int .i64 s2, .int .i64 s3, .slice af1 nf cf1, .slice al1 nl cl1, .slice ar1 nr cr1, .slice aj1 nj cj1, .slice ak1 nk ck1] : List Value).toArray 29)).alloc (.cells ([.int .i64 t1, .int .i64 t2, .int .i64 t3, .slice af2 nf2 cf2, .slice al2 nl2 cl2, .slice ar2 nr2 cr2, .slice aj2 nj2 cj2, .slice ak2 nk2 ck2] : List Value).toArray 29) = w2 from hw2.symm] at HBx
  have HW := Lib.hid hw2
  have HB := Lib.hid HBx
  clear g1 g2 g3 g4 g5 g6 h1 h2 h3 h4 h5 h6 HBx hw2
  by_cases hh : s1 = t1 ∧ s2 = t2 ∧ s3 = t3 ∧ nf = nf2 ∧ nl = nl2 ∧ nr = nr2 ∧ nj = nj2 ∧ nk = nk2
  · obtain ⟨rfl, rfl, rfl, rfl, rfl, rfl, rfl, rfl⟩ := hh
    have p0 := Arr.blk_cell HB.out.2.1 0
    have r0 := Arr.blk_cell HB.out.2.2 0
    have p1 := Arr.blk_cell HB.out.2.1 1
    have r1 := Arr.blk_cell HB.out.2.2 1
    have p2 := Arr.blk_cell HB.out.2.1 2
    have r2 := Arr.blk_cell HB.out.2.2 2
    have p3 := Arr.blk_cell HB.out.2.1 3
    have r3 := Arr.blk_cell HB.out.2.2 3
    have p4 := Arr.blk_cell HB.out.2.1 4
    have r4 := Arr.blk_cell HB.out.2.2 4
    have p5 := Arr.blk_cell HB.out.2.1 5
    have r5 := Arr.blk_cell HB.out.2.2 5
    have p6 := Arr.blk_cell HB.out.2.1 6
    have r6 := Arr.blk_cell HB.out.2.2 6
    have p7 := Arr.blk_cell HB.out.2.1 7
    have r7 := Arr.blk_cell HB.out.2.2 7
    simp only [List.getElem?_cons_zero, List.getElem?_cons_succ] at p0 r0 p1 r1 p2 r2 p3 r3 p4 r4 p5 r5 p6 r6 p7 r7
    clear hm6 hm7 hm8 hm9 hm10
    go_enter Tryz.func14, Tryz.ntmps14
    go_upto_region 1 with fail
    rw [← HW.out]
    go_wp2_with fail
    clear p0 r0 p1 r1 p2 r2 p3 r3 p4 r4 p5 r5 p6 r6 p7 r7
    go_loopw [5] (fun iv wr => ∃ k : Nat, k ≤ nf ∧ iv = .int .i64 (k : Nat) ∧ (∀ (i : Nat) (u v : Tre.Fd), i < k → fs1[i]? = some u → fs2[i]? = some v → u = v) ∧ Below w2.heap.size w2 wr) (fun iv _ => nf - (intOf iv).toNat)
    case atStart => exact ⟨0, Nat.zero_le _, rfl, (fun i u v hi => by omega), by first | exact Below.refl _ _ | exact below_drewN' _ _⟩
    case round =>
      obtain ⟨k, hk, rfl, hal, hb⟩ := hrel
      have HO := Lib.hid (And.intro hal hb)
      have q1 := Arr.blk_cell (Arr.blk_below HB.out.2.1 hb (Arr.blk_lt HB.out.2.1)) 3
      have q2 := Arr.blk_cell (Arr.blk_below HB.out.2.2 hb (Arr.blk_lt HB.out.2.2)) 3
      simp only [List.getElem?_cons_zero, List.getElem?_cons_succ] at q1 q2
      by_cases hlt : k < nf
      · obtain ⟨u, hu⟩ : ∃ u, fs1[k]? = some u := ⟨_, List.getElem?_eq_getElem (by rw [HLn.out.1.1]; exact hlt)⟩
        obtain ⟨v, hv⟩ : ∃ v, fs2[k]? = some v := ⟨_, List.getElem?_eq_getElem (by rw [HLn.out.2.1]; exact hlt)⟩
        obtain ⟨b1, o1, rfl⟩ := lst_at HI.out.1.funds (by show 0 < nf; omega)
        obtain ⟨b2, o2, rfl⟩ := lst_at HI.out.2.funds (by show 0 < nf; omega)
        obtain ⟨u0, u1, u2⟩ := u
        obtain ⟨v0, v1, v2⟩ := v
        obtain ⟨p0, p1, p2⟩ := fund_at (lst_keep encF_len HI.out.1.funds (below_keep HB.out.1 hb)) hu
        obtain ⟨r0, r1, r2⟩ := fund_at (lst_keep encF_len HI.out.2.funds (below_keep HB.out.1 hb)) hv
        simp only at p0 r0 p1 r1 p2 r2
        have HE := Lib.hid (And.intro hu hv)
        clear hal hb hu hv
        by_cases huv : u0 = v0 ∧ u1 = v1 ∧ u2 = v2
        · obtain ⟨rfl, rfl, rfl⟩ := huv
          go_wp2_with fail
          go_big_quiet (fail)
          go_wp2_with fail
          go_roundw
          case rel => exact ⟨k + 1, by omega, by go_num, diff_next HO.out.1 HE.out.1 HE.out.2, below_keep HO.out.2 (below_drewN' _ _)⟩
          case measure => simp [intOf]; omega
        · have HNe := Lib.hid (show ¬ T1 = T2 from fun e => by
            rw [HT.out.1, HT.out.2] at e
            injection e with _ _ _ e1 _ _ _ _
            have e2 := HE.out.1
            rw [e1, HE.out.2] at e2
            injection e2 with e2
            injection e2 with d0 d1 d2
            exact huv ⟨d0.symm, d1.symm, d2.symm⟩)
          have hor : ((u0.toList == v0.toList) = false) ∨ (u0 = v0 ∧ (u1 == v1) = false) ∨ (u0 = v0 ∧ u1 = v1 ∧ (u2 == v2) = false) := by
            by_cases h0 : u0 = v0
            · by_cases h1 : u1 = v1
              · exact .inr (.inr (⟨h0, h1, beq_false_of_ne (fun h => huv ⟨h0, h1, h⟩)⟩))
              · exact .inr (.inl ⟨h0, beq_false_of_ne h1⟩)
            · exact .inl (name_ne h0)
          clear huv
          rcases hor with t9 | ⟨rfl, t9⟩ | ⟨rfl, rfl, t9⟩
          all_goals
            go_wp2_with fail
            go_big_quiet (fail)
            go_wp2_with fail
            go_ret
            exact ⟨false, rfl, ⟨(fun h => by cases h), fun h => absurd h HNe.out⟩, below_keep HB.out.1 (below_keep HO.out.2 (below_drewN' _ _))⟩
      · obtain rfl : k = nf := by omega
        have HP1 := Lib.hid (And.intro (diff_all HLn.out.1.1 HLn.out.2.1 hal) hb)
        clear hal hb
        go_wp2_with fail
        go_loopw [6] (fun iv wr => ∃ k : Nat, k ≤ nl ∧ iv = .int .i64 (k : Nat) ∧ (∀ (i : Nat) (u v : Al), i < k → ls1[i]? = some u → ls2[i]? = some v → u = v) ∧ Below w2.heap.size w2 wr) (fun iv _ => nl - (intOf iv).toNat)
        case atStart => exact ⟨0, Nat.zero_le _, rfl, (fun i u v hi => by omega), HP1.out.2⟩
        case round =>
          obtain ⟨k, hk, rfl, hal, hb⟩ := hrel
          have HO := Lib.hid (And.intro hal hb)
          have q1 := Arr.blk_cell (Arr.blk_below HB.out.2.1 hb (Arr.blk_lt HB.out.2.1)) 4
          have q2 := Arr.blk_cell (Arr.blk_below HB.out.2.2 hb (Arr.blk_lt HB.out.2.2)) 4
          simp only [List.getElem?_cons_zero, List.getElem?_cons_succ] at q1 q2
          by_cases hlt : k < nl
          · obtain ⟨u, hu⟩ : ∃ u, ls1[k]? = some u := ⟨_, List.getElem?_eq_getElem (by rw [HLn.out.1.2.1]; exact hlt)⟩
            obtain ⟨v, hv⟩ : ∃ v, ls2[k]? = some v := ⟨_, List.getElem?_eq_getElem (by rw [HLn.out.2.2.1]; exact hlt)⟩
            obtain ⟨b1, o1, rfl⟩ := lst_at HI.out.1.allocs (by show 0 < nl; omega)
            obtain ⟨b2, o2, rfl⟩ := lst_at HI.out.2.allocs (by show 0 < nl; omega)
            obtain ⟨u0, u1, u2, u3, u4, u5⟩ := u
            obtain ⟨v0, v1, v2, v3, v4, v5⟩ := v
            obtain ⟨p0, p1, p2, p3, p4, p5⟩ := alloc_at (lst_keep encL_len HI.out.1.allocs (below_keep HB.out.1 hb)) hu
            obtain ⟨r0, r1, r2, r3, r4, r5⟩ := alloc_at (lst_keep encL_len HI.out.2.allocs (below_keep HB.out.1 hb)) hv
            simp only at p0 r0 p1 r1 p2 r2 p3 r3 p4 r4 p5 r5
            have HE := Lib.hid (And.intro hu hv)
            clear hal hb hu hv
            by_cases huv : u0 = v0 ∧ u1 = v1 ∧ u2 = v2 ∧ u3 = v3 ∧ u4 = v4 ∧ u5 = v5
            · obtain ⟨rfl, rfl, rfl, rfl, rfl, rfl⟩ := huv
              go_wp2_with fail
              go_big_quiet (fail)
              go_wp2_with fail
              go_roundw
              case rel => exact ⟨k + 1, by omega, by go_num, diff_next HO.out.1 HE.out.1 HE.out.2, below_keep HO.out.2 (below_drewN' _ _)⟩
              case measure => simp [intOf]; omega
            · have HNe := Lib.hid (show ¬ T1 = T2 from fun e => by
                rw [HT.out.1, HT.out.2] at e
                injection e with _ _ _ _ e1 _ _ _
                have e2 := HE.out.1
                rw [e1, HE.out.2] at e2
                injection e2 with e2
                injection e2 with d0 d1 d2 d3 d4 d5
                exact huv ⟨d0.symm, d1.symm, d2.symm, d3.symm, d4.symm, d5.symm⟩)
              have hor : ((u0 == v0) = false) ∨ (u0 = v0 ∧ (u1 == v1) = false) ∨ (u0 = v0 ∧ u1 = v1 ∧ (u2 == v2) = false) ∨ (u0 = v0 ∧ u1 = v1 ∧ u2 = v2 ∧ (u3 == v3) = false) ∨ (u0 = v0 ∧ u1 = v1 ∧ u2 = v2 ∧ u3 = v3 ∧ (u4 == v4) = false) ∨ (u0 = v0 ∧ u1 = v1 ∧ u2 = v2 ∧ u3 = v3 ∧ u4 = v4 ∧ (u5 == v5) = false) := by
                by_cases h0 : u0 = v0
                · by_cases h1 : u1 = v1
                  · by_cases h2 : u2 = v2
                    · by_cases h3 : u3 = v3
                      · by_cases h4 : u4 = v4
                        · exact .inr (.inr (.inr (.inr (.inr (⟨h0, h1, h2, h3, h4, beq_false_of_ne (fun h => huv ⟨h0, h1, h2, h3, h4, h⟩)⟩)))))
                        · exact .inr (.inr (.inr (.inr (.inl ⟨h0, h1, h2, h3, beq_false_of_ne h4⟩))))
                      · exact .inr (.inr (.inr (.inl ⟨h0, h1, h2, beq_false_of_ne h3⟩)))
                    · exact .inr (.inr (.inl ⟨h0, h1, beq_false_of_ne h2⟩))
                  · exact .inr (.inl ⟨h0, beq_false_of_ne h1⟩)
                · exact .inl (beq_false_of_ne h0)
              clear huv
              rcases hor with t9 | ⟨rfl, t9⟩ | ⟨rfl, rfl, t9⟩ | ⟨rfl, rfl, rfl, t9⟩ | ⟨rfl, rfl, rfl, rfl, t9⟩ | ⟨rfl, rfl, rfl, rfl, rfl, t9⟩
              all_goals
                go_wp2_with fail
                go_big_quiet (fail)
                go_wp2_with fail
                go_ret
                exact ⟨false, rfl, ⟨(fun h => by cases h), fun h => absurd h HNe.out⟩, below_keep HB.out.1 (below_keep HO.out.2 (below_drewN' _ _))⟩
          · obtain rfl : k = nl := by omega
            have HP2 := Lib.hid (And.intro (diff_all HLn.out.1.2.1 HLn.out.2.2.1 hal) hb)
            clear hal hb
            go_wp2_with fail
            go_loopw [7] (fun iv wr => ∃ k : Nat, k ≤ nr ∧ iv = .int .i64 (k : Nat) ∧ (∀ (i : Nat) (u v : Rt), i < k → rs1[i]? = some u → rs2[i]? = some v → u = v) ∧ Below w2.heap.size w2 wr) (fun iv _ => nr - (intOf iv).toNat)
            case atStart => exact ⟨0, Nat.zero_le _, rfl, (fun i u v hi => by omega), HP2.out.2⟩
            case round =>
              obtain ⟨k, hk, rfl, hal, hb⟩ := hrel
              have HO := Lib.hid (And.intro hal hb)
              have q1 := Arr.blk_cell (Arr.blk_below HB.out.2.1 hb (Arr.blk_lt HB.out.2.1)) 5
              have q2 := Arr.blk_cell (Arr.blk_below HB.out.2.2 hb (Arr.blk_lt HB.out.2.2)) 5
              simp only [List.getElem?_cons_zero, List.getElem?_cons_succ] at q1 q2
              by_cases hlt : k < nr
              · obtain ⟨u, hu⟩ : ∃ u, rs1[k]? = some u := ⟨_, List.getElem?_eq_getElem (by rw [HLn.out.1.2.2.1]; exact hlt)⟩
                obtain ⟨v, hv⟩ : ∃ v, rs2[k]? = some v := ⟨_, List.getElem?_eq_getElem (by rw [HLn.out.2.2.2.1]; exact hlt)⟩
                obtain ⟨b1, o1, rfl⟩ := lst_at HI.out.1.rates (by show 0 < nr; omega)
                obtain ⟨b2, o2, rfl⟩ := lst_at HI.out.2.rates (by show 0 < nr; omega)
                obtain ⟨u0, u1, u2⟩ := u
                obtain ⟨v0, v1, v2⟩ := v
                obtain ⟨p0, p1, p2⟩ := rate_at (lst_keep encR_len HI.out.1.rates (below_keep HB.out.1 hb)) hu
                obtain ⟨r0, r1, r2⟩ := rate_at (lst_keep encR_len HI.out.2.rates (below_keep HB.out.1 hb)) hv
                simp only at p0 r0 p1 r1 p2 r2
                have HE := Lib.hid (And.intro hu hv)
                clear hal hb hu hv
                by_cases huv : u0 = v0 ∧ u1 = v1 ∧ u2 = v2
                · obtain ⟨rfl, rfl, rfl⟩ := huv
                  go_wp2_with fail
                  go_big_quiet (fail)
                  go_wp2_with fail
                  go_roundw
                  case rel => exact ⟨k + 1, by omega, by go_num, diff_next HO.out.1 HE.out.1 HE.out.2, below_keep HO.out.2 (below_drewN' _ _)⟩
                  case measure => simp [intOf]; omega
                · have HNe := Lib.hid (show ¬ T1 = T2 from fun e => by
                    rw [HT.out.1, HT.out.2] at e
                    injection e with _ _ _ _ _ e1 _ _
                    have e2 := HE.out.1
                    rw [e1, HE.out.2] at e2
                    injection e2 with e2
                    injection e2 with d0 d1 d2
                    exact huv ⟨d0.symm, d1.symm, d2.symm⟩)
                  have hor : ((u0 == v0) = false) ∨ (u0 = v0 ∧ (u1 == v1) = false) ∨ (u0 = v0 ∧ u1 = v1 ∧ (u2 == v2) = false) := by
                    by_cases h0 : u0 = v0
                    · by_cases h1 : u1 = v1
                      · exact .inr (.inr (⟨h0, h1, beq_false_of_ne (fun h => huv ⟨h0, h1, h⟩)⟩))
                      · exact .inr (.inl ⟨h0, beq_false_of_ne h1⟩)
                    · exact .inl (beq_false_of_ne h0)
                  clear huv
                  rcases hor with t9 | ⟨rfl, t9⟩ | ⟨rfl, rfl, t9⟩
                  all_goals
                    go_wp2_with fail
                    go_big_quiet (fail)
                    go_wp2_with fail
                    go_ret
                    exact ⟨false, rfl, ⟨(fun h => by cases h), fun h => absurd h HNe.out⟩, below_keep HB.out.1 (below_keep HO.out.2 (below_drewN' _ _))⟩
              · obtain rfl : k = nr := by omega
                have HP3 := Lib.hid (And.intro (diff_all HLn.out.1.2.2.1 HLn.out.2.2.2.1 hal) hb)
                clear hal hb
                go_wp2_with fail
                go_loopw [8] (fun iv wr => ∃ k : Nat, k ≤ nj ∧ iv = .int .i64 (k : Nat) ∧ (∀ (i : Nat) (u v : Jb), i < k → (js1.map (·.t))[i]? = some u → (js2.map (·.t))[i]? = some v → u = v) ∧ Below w2.heap.size w2 wr) (fun iv _ => nj - (intOf iv).toNat)
                case atStart => exact ⟨0, Nat.zero_le _, rfl, (fun i u v hi => by omega), HP3.out.2⟩
                case round =>
                  obtain ⟨k, hk, rfl, hal, hb⟩ := hrel
                  have HO := Lib.hid (And.intro hal hb)
                  have q1 := Arr.blk_cell (Arr.blk_below HB.out.2.1 hb (Arr.blk_lt HB.out.2.1)) 6
                  have q2 := Arr.blk_cell (Arr.blk_below HB.out.2.2 hb (Arr.blk_lt HB.out.2.2)) 6
                  simp only [List.getElem?_cons_zero, List.getElem?_cons_succ] at q1 q2
                  by_cases hlt : k < nj
                  · obtain ⟨u, hu⟩ : ∃ u, js1[k]? = some u := ⟨_, List.getElem?_eq_getElem (by rw [HLn.out.1.2.2.2.1]; exact hlt)⟩
                    obtain ⟨v, hv⟩ : ∃ v, js2[k]? = some v := ⟨_, List.getElem?_eq_getElem (by rw [HLn.out.2.2.2.2.1]; exact hlt)⟩
                    obtain ⟨b1, o1, rfl⟩ := lst_at HI.out.1.jobs (by show 0 < nj; omega)
                    obtain ⟨b2, o2, rfl⟩ := lst_at HI.out.2.jobs (by show 0 < nj; omega)
                    have HQ := Lib.hid (And.intro q1 (And.intro q2 (And.intro (lst_keep encJ_len HI.out.1.jobs (below_keep HB.out.1 hb)) (And.intro (lst_keep encJ_len HI.out.2.jobs (below_keep HB.out.1 hb)) (And.intro hu hv)))))
                    have hj := fun w9 (h9 : Below wr.heap.size wr w9) => rsamej_any w9 u v (job_keep (HI.out.1.draws u (List.mem_of_getElem? hu)) (below_keep HB.out.1 (below_keep hb h9))) (job_keep (HI.out.2.draws v (List.mem_of_getElem? hv)) (below_keep HB.out.1 (below_keep hb h9)))
                    have HM := Lib.hid (And.intro (show (js1.map (·.t))[k]? = some u.t by rw [List.getElem?_map, hu]; rfl) (show (js2.map (·.t))[k]? = some v.t by rw [List.getElem?_map, hv]; rfl))
                    obtain ⟨B, hB⟩ : ∃ B, B = @decide (u.t = v.t) (Classical.propDecidable _) := ⟨_, rfl⟩
                    have HSj := Lib.hid (show ∀ w9, Below wr.heap.size wr w9 → Calls Tryz.prog 32 #[valJ u, valJ v] w9 fun e W' => e = .returned (.bool B) ∧ Below w9.heap.size w9 W' from fun w9 h9 => (hj w9 h9).mono fun e W' h => by
                      obtain ⟨b, rfl, hbt, hb9⟩ := h
                      refine ⟨?_, hb9⟩
                      congr 2
                      rw [hB, Bool.eq_iff_iff, hbt]
                      simp)
                    have HBt := Lib.hid hB
                    clear hal hb hu hv hj hB
                    cases B with
                    | true =>
                      have he := Lib.hid (show u.t = v.t by have h := HBt.out; simpa using h.symm)
                      go_wp2_with fail
                      refine Rel.wp_region_rel (G := Rel.Gr) (Rel.tab [.is (.pointer (some ⟨W.heap.size, 6, none⟩)), .is (.slice (some ⟨b1, o1, none⟩) nj cj1), .is (.int .i64 (k : Nat)), .is (.pointer (some ⟨b1, o1 + k * 12, none⟩)), .is (valJ u), .is (.pointer (some ⟨W.heap.size + 1, 6, none⟩)), .is (.slice (some ⟨b2, o2, none⟩) nj cj2), .is (.int .i64 (k : Nat)), .is (.pointer (some ⟨b2, o2 + k * 12, none⟩)), .is (valJ v), .is (.bool true), .is (.bool false)]) (fun _ w => Below wr.heap.size wr w) (by kernel_rfl) (by kernel_rfl) (by kernel_rfl) (by kernel_rfl) (fun w => Rel.gr_refl _) (below_drew _) ?_ ?_
                      · refine ⟨?_, ?_, ?_, ?_, ?_, ?_, ?_, ?_, ?_, ?_, ?_, ?_, trivial⟩
                        · intro L a w c
                          refine .inl ⟨Rel.wanted_free (by kernel_rfl) _, ?_⟩
                          exact Chn.wp_fa _ _ _ rfl (c.old 2 (v := .pointer (some ⟨W.heap.size, 0, none⟩)) (by kernel_rfl) (by kernel_rfl)) (by simp [go_sem]) ⟨_, rfl, Rel.gr_refl _, rfl, c.inv⟩
                        · intro L a w c
                          refine .inl ⟨Rel.wanted_free (by kernel_rfl) _, ?_⟩
                          exact Rel.wp_ld _ _ rfl (c.get 0 135 (by kernel_rfl)) (run_ld_jl (cell_keep c.inv HQ.out.1)) ⟨_, rfl, Rel.gr_refl _, rfl, c.inv⟩
                        · intro L a w c
                          refine .inl ⟨Rel.wanted_free (by kernel_rfl) _, ?_⟩
                          exact Rel.wp_mv _ rfl ⟨_, rfl, Rel.gr_refl _, (c.old 8 (v := .int .i64 (k : Nat)) (by kernel_rfl) (by kernel_rfl)), c.inv⟩
                        · intro L a w c
                          refine .inl ⟨Rel.wanted_free (by kernel_rfl) _, ?_⟩
                          exact Rel.wp_ia _ _ _ rfl (c.get 1 136 (by kernel_rfl)) (c.get 2 137 (by kernel_rfl)) (run_ij12 hlt w) ⟨_, rfl, Rel.gr_refl _, rfl, c.inv⟩
                        · intro L a w c
                          refine .inl ⟨Rel.wanted_free (by kernel_rfl) _, ?_⟩
                          exact Rel.wp_ld _ _ rfl (c.get 3 138 (by kernel_rfl)) (run_ld_j (lst_keep encJ_len HQ.out.2.2.1 c.inv) HQ.out.2.2.2.2.1) ⟨_, rfl, Rel.gr_refl _, rfl, c.inv⟩
                        · intro L a w c
                          refine .inl ⟨Rel.wanted_free (by kernel_rfl) _, ?_⟩
                          exact Chn.wp_fa _ _ _ rfl (c.old 3 (v := .pointer (some ⟨W.heap.size + 1, 0, none⟩)) (by kernel_rfl) (by kernel_rfl)) (by simp [go_sem]) ⟨_, rfl, Rel.gr_refl _, rfl, c.inv⟩
                        · intro L a w c
                          refine .inl ⟨Rel.wanted_free (by kernel_rfl) _, ?_⟩
                          exact Rel.wp_ld _ _ rfl (c.get 5 140 (by kernel_rfl)) (run_ld_jl (cell_keep c.inv HQ.out.2.1)) ⟨_, rfl, Rel.gr_refl _, rfl, c.inv⟩
                        · intro L a w c
                          refine .inl ⟨Rel.wanted_free (by kernel_rfl) _, ?_⟩
                          exact Rel.wp_mv _ rfl ⟨_, rfl, Rel.gr_refl _, (c.old 8 (v := .int .i64 (k : Nat)) (by kernel_rfl) (by kernel_rfl)), c.inv⟩
                        · intro L a w c
                          refine .inl ⟨Rel.wanted_free (by kernel_rfl) _, ?_⟩
                          exact Rel.wp_ia _ _ _ rfl (c.get 6 141 (by kernel_rfl)) (c.get 7 142 (by kernel_rfl)) (run_ij12 hlt w) ⟨_, rfl, Rel.gr_refl _, rfl, c.inv⟩
                        · intro L a w c
                          refine .inl ⟨Rel.wanted_free (by kernel_rfl) _, ?_⟩
                          exact Rel.wp_ld _ _ rfl (c.get 8 143 (by kernel_rfl)) (run_ld_j (lst_keep encJ_len HQ.out.2.2.2.1 c.inv) HQ.out.2.2.2.2.2) ⟨_, rfl, Rel.gr_refl _, rfl, c.inv⟩
                        · intro L a w c
                          refine .inl ⟨Rel.wanted_free (by kernel_rfl) _, ?_⟩
                          refine Rel.wp_cl _ _ _ rfl Tryz.func32 (by kernel_rfl) ?_
                          show Calls _ _ #[Rel.slot a 139, Rel.slot a 144] w _
                          rw [show Rel.slot a 139 = valJ u from (c.get 4 139 (by kernel_rfl)), show Rel.slot a 144 = valJ v from (c.get 9 144 (by kernel_rfl))]
                          refine (HSj.out w c.inv).mono ?_
                          rintro e w' ⟨rfl, hb⟩
                          exact ⟨_, rfl, _, rfl, hb, rfl, below_keep c.inv hb⟩
                        · intro L a w c
                          refine .inl ⟨Rel.wanted_free (by kernel_rfl) _, ?_⟩
                          exact Chn.wp_uo _ _ _ rfl (c.get 10 145 (by kernel_rfl)) (by simp [go_sem]) ⟨_, rfl, Rel.gr_refl _, rfl, c.inv⟩
                      intro a w9 hbase hroom hdef hJ hV
                      have s146 : Rel.slot a 146 = .bool false := hV 11 _ _ rfl rfl
                      rw [Chn.act_puts [135, 136, 137, 138, 139, 140, 141, 142, 143, 144, 145, 146] hbase hroom hdef (by kernel_rfl)]
                      clear hbase hroom hdef hV
                      simp only [List.foldl_cons, List.foldl_nil]
                      generalize Rel.slot a 135 = u135 at *
                      generalize Rel.slot a 136 = u136 at *
                      generalize Rel.slot a 137 = u137 at *
                      generalize Rel.slot a 138 = u138 at *
                      generalize Rel.slot a 139 = u139 at *
                      generalize Rel.slot a 140 = u140 at *
                      generalize Rel.slot a 141 = u141 at *
                      generalize Rel.slot a 142 = u142 at *
                      generalize Rel.slot a 143 = u143 at *
                      generalize Rel.slot a 144 = u144 at *
                      generalize Rel.slot a 145 = u145 at *
                      rw [s146]
                      clear s146
                      simp only [Act.put, List.setIfInBounds_toArray, List.set_cons_succ, List.set_cons_zero]
                      have HE := Lib.hid (below_keep HO.out.2 hJ)
                      clear hJ
                      go_wp2_with fail
                      go_roundw
                      case rel => exact ⟨k + 1, by omega, by go_num, diff_next HO.out.1 HM.out.1 (by rw [he.out]; exact HM.out.2), HE.out⟩
                      case measure => simp [intOf]; omega
                    | false =>
                      have he := Lib.hid (show ¬ u.t = v.t by have h := HBt.out; simpa using h.symm)
                      have HNe := Lib.hid (show ¬ T1 = T2 from fun e => by
                        rw [HT.out.1, HT.out.2] at e
                        injection e with _ _ _ _ _ _ e1 _
                        have e2 := HM.out.1
                        rw [e1, HM.out.2] at e2
                        injection e2 with e2
                        exact he.out e2.symm)
                      go_wp2_with fail
                      refine Rel.wp_region_rel (G := Rel.Gr) (Rel.tab [.is (.pointer (some ⟨W.heap.size, 6, none⟩)), .is (.slice (some ⟨b1, o1, none⟩) nj cj1), .is (.int .i64 (k : Nat)), .is (.pointer (some ⟨b1, o1 + k * 12, none⟩)), .is (valJ u), .is (.pointer (some ⟨W.heap.size + 1, 6, none⟩)), .is (.slice (some ⟨b2, o2, none⟩) nj cj2), .is (.int .i64 (k : Nat)), .is (.pointer (some ⟨b2, o2 + k * 12, none⟩)), .is (valJ v), .is (.bool false), .is (.bool true)]) (fun _ w => Below wr.heap.size wr w) (by kernel_rfl) (by kernel_rfl) (by kernel_rfl) (by kernel_rfl) (fun w => Rel.gr_refl _) (below_drew _) ?_ ?_
                      · refine ⟨?_, ?_, ?_, ?_, ?_, ?_, ?_, ?_, ?_, ?_, ?_, ?_, trivial⟩
                        · intro L a w c
                          refine .inl ⟨Rel.wanted_free (by kernel_rfl) _, ?_⟩
                          exact Chn.wp_fa _ _ _ rfl (c.old 2 (v := .pointer (some ⟨W.heap.size, 0, none⟩)) (by kernel_rfl) (by kernel_rfl)) (by simp [go_sem]) ⟨_, rfl, Rel.gr_refl _, rfl, c.inv⟩
                        · intro L a w c
                          refine .inl ⟨Rel.wanted_free (by kernel_rfl) _, ?_⟩
                          exact Rel.wp_ld _ _ rfl (c.get 0 135 (by kernel_rfl)) (run_ld_jl (cell_keep c.inv HQ.out.1)) ⟨_, rfl, Rel.gr_refl _, rfl, c.inv⟩
                        · intro L a w c
                          refine .inl ⟨Rel.wanted_free (by kernel_rfl) _, ?_⟩
                          exact Rel.wp_mv _ rfl ⟨_, rfl, Rel.gr_refl _, (c.old 8 (v := .int .i64 (k : Nat)) (by kernel_rfl) (by kernel_rfl)), c.inv⟩
                        · intro L a w c
                          refine .inl ⟨Rel.wanted_free (by kernel_rfl) _, ?_⟩
                          exact Rel.wp_ia _ _ _ rfl (c.get 1 136 (by kernel_rfl)) (c.get 2 137 (by kernel_rfl)) (run_ij12 hlt w) ⟨_, rfl, Rel.gr_refl _, rfl, c.inv⟩
                        · intro L a w c
                          refine .inl ⟨Rel.wanted_free (by kernel_rfl) _, ?_⟩
                          exact Rel.wp_ld _ _ rfl (c.get 3 138 (by kernel_rfl)) (run_ld_j (lst_keep encJ_len HQ.out.2.2.1 c.inv) HQ.out.2.2.2.2.1) ⟨_, rfl, Rel.gr_refl _, rfl, c.inv⟩
                        · intro L a w c
                          refine .inl ⟨Rel.wanted_free (by kernel_rfl) _, ?_⟩
                          exact Chn.wp_fa _ _ _ rfl (c.old 3 (v := .pointer (some ⟨W.heap.size + 1, 0, none⟩)) (by kernel_rfl) (by kernel_rfl)) (by simp [go_sem]) ⟨_, rfl, Rel.gr_refl _, rfl, c.inv⟩
                        · intro L a w c
                          refine .inl ⟨Rel.wanted_free (by kernel_rfl) _, ?_⟩
                          exact Rel.wp_ld _ _ rfl (c.get 5 140 (by kernel_rfl)) (run_ld_jl (cell_keep c.inv HQ.out.2.1)) ⟨_, rfl, Rel.gr_refl _, rfl, c.inv⟩
                        · intro L a w c
                          refine .inl ⟨Rel.wanted_free (by kernel_rfl) _, ?_⟩
                          exact Rel.wp_mv _ rfl ⟨_, rfl, Rel.gr_refl _, (c.old 8 (v := .int .i64 (k : Nat)) (by kernel_rfl) (by kernel_rfl)), c.inv⟩
                        · intro L a w c
                          refine .inl ⟨Rel.wanted_free (by kernel_rfl) _, ?_⟩
                          exact Rel.wp_ia _ _ _ rfl (c.get 6 141 (by kernel_rfl)) (c.get 7 142 (by kernel_rfl)) (run_ij12 hlt w) ⟨_, rfl, Rel.gr_refl _, rfl, c.inv⟩
                        · intro L a w c
                          refine .inl ⟨Rel.wanted_free (by kernel_rfl) _, ?_⟩
                          exact Rel.wp_ld _ _ rfl (c.get 8 143 (by kernel_rfl)) (run_ld_j (lst_keep encJ_len HQ.out.2.2.2.1 c.inv) HQ.out.2.2.2.2.2) ⟨_, rfl, Rel.gr_refl _, rfl, c.inv⟩
                        · intro L a w c
                          refine .inl ⟨Rel.wanted_free (by kernel_rfl) _, ?_⟩
                          refine Rel.wp_cl _ _ _ rfl Tryz.func32 (by kernel_rfl) ?_
                          show Calls _ _ #[Rel.slot a 139, Rel.slot a 144] w _
                          rw [show Rel.slot a 139 = valJ u from (c.get 4 139 (by kernel_rfl)), show Rel.slot a 144 = valJ v from (c.get 9 144 (by kernel_rfl))]
                          refine (HSj.out w c.inv).mono ?_
                          rintro e w' ⟨rfl, hb⟩
                          exact ⟨_, rfl, _, rfl, hb, rfl, below_keep c.inv hb⟩
                        · intro L a w c
                          refine .inl ⟨Rel.wanted_free (by kernel_rfl) _, ?_⟩
                          exact Chn.wp_uo _ _ _ rfl (c.get 10 145 (by kernel_rfl)) (by simp [go_sem]) ⟨_, rfl, Rel.gr_refl _, rfl, c.inv⟩
                      intro a w9 hbase hroom hdef hJ hV
                      have s146 : Rel.slot a 146 = .bool true := hV 11 _ _ rfl rfl
                      rw [Chn.act_puts [135, 136, 137, 138, 139, 140, 141, 142, 143, 144, 145, 146] hbase hroom hdef (by kernel_rfl)]
                      clear hbase hroom hdef hV
                      simp only [List.foldl_cons, List.foldl_nil]
                      generalize Rel.slot a 135 = u135 at *
                      generalize Rel.slot a 136 = u136 at *
                      generalize Rel.slot a 137 = u137 at *
                      generalize Rel.slot a 138 = u138 at *
                      generalize Rel.slot a 139 = u139 at *
                      generalize Rel.slot a 140 = u140 at *
                      generalize Rel.slot a 141 = u141 at *
                      generalize Rel.slot a 142 = u142 at *
                      generalize Rel.slot a 143 = u143 at *
                      generalize Rel.slot a 144 = u144 at *
                      generalize Rel.slot a 145 = u145 at *
                      rw [s146]
                      clear s146
                      simp only [Act.put, List.setIfInBounds_toArray, List.set_cons_succ, List.set_cons_zero]
                      have HE := Lib.hid (below_keep HB.out.1 (below_keep HO.out.2 hJ))
                      clear hJ
                      go_wp2_with fail
                      go_ret
                      exact ⟨false, rfl, ⟨(fun h => by cases h), fun h => absurd h HNe.out⟩, HE.out⟩
                  · obtain rfl : k = nj := by omega
                    have HP4 := Lib.hid (And.intro (diff_all (by rw [List.length_map]; exact HLn.out.1.2.2.2.1) (by rw [List.length_map]; exact HLn.out.2.2.2.2.1) hal) hb)
                    clear hal hb
                    go_wp2_with fail
                    go_loopw [9] (fun iv wr => ∃ k : Nat, k ≤ nk ∧ iv = .int .i64 (k : Nat) ∧ (∀ (i : Nat) (u v : ByteArray), i < k → ks1[i]? = some u → ks2[i]? = some v → u = v) ∧ Below w2.heap.size w2 wr) (fun iv _ => nk - (intOf iv).toNat)
                    case atStart => exact ⟨0, Nat.zero_le _, rfl, (fun i u v hi => by omega), HP4.out.2⟩
                    case round =>
                      obtain ⟨k, hk, rfl, hal, hb⟩ := hrel
                      have HO := Lib.hid (And.intro hal hb)
                      have q1 := Arr.blk_cell (Arr.blk_below HB.out.2.1 hb (Arr.blk_lt HB.out.2.1)) 7
                      have q2 := Arr.blk_cell (Arr.blk_below HB.out.2.2 hb (Arr.blk_lt HB.out.2.2)) 7
                      simp only [List.getElem?_cons_zero, List.getElem?_cons_succ] at q1 q2
                      by_cases hlt : k < nk
                      · obtain ⟨u, hu⟩ : ∃ u, ks1[k]? = some u := ⟨_, List.getElem?_eq_getElem (by rw [HLn.out.1.2.2.2.2]; exact hlt)⟩
                        obtain ⟨v, hv⟩ : ∃ v, ks2[k]? = some v := ⟨_, List.getElem?_eq_getElem (by rw [HLn.out.2.2.2.2.2]; exact hlt)⟩
                        obtain ⟨b1, o1, rfl⟩ := lst_at HI.out.1.keys (by show 0 < nk; omega)
                        obtain ⟨b2, o2, rfl⟩ := lst_at HI.out.2.keys (by show 0 < nk; omega)
                        have p0 := key_at (lst_keep encK_len HI.out.1.keys (below_keep HB.out.1 hb)) hu
                        have r0 := key_at (lst_keep encK_len HI.out.2.keys (below_keep HB.out.1 hb)) hv
                        have HE := Lib.hid (And.intro hu hv)
                        clear hal hb hu hv
                        by_cases huv : u = v
                        · obtain rfl := huv
                          go_wp2_with fail
                          go_big_quiet (fail)
                          go_wp2_with fail
                          go_roundw
                          case rel => exact ⟨k + 1, by omega, by go_num, diff_next HO.out.1 HE.out.1 HE.out.2, below_keep HO.out.2 (below_drewN' _ _)⟩
                          case measure => simp [intOf]; omega
                        · have HNe := Lib.hid (show ¬ T1 = T2 from fun e => by
                            rw [HT.out.1, HT.out.2] at e
                            injection e with _ _ _ _ _ _ _ e1
                            have e2 := HE.out.1
                            rw [e1, HE.out.2] at e2
                            injection e2 with e2
                            exact huv e2.symm)
                          have t9 : (u.toList == v.toList) = false := name_ne huv
                          clear huv
                          go_wp2_with fail
                          go_big_quiet (fail)
                          go_wp2_with fail
                          go_ret
                          exact ⟨false, rfl, ⟨(fun h => by cases h), fun h => absurd h HNe.out⟩, below_keep HB.out.1 (below_keep HO.out.2 (below_drewN' _ _))⟩
                      · obtain rfl : k = nk := by omega
                        have HP5 := Lib.hid (And.intro (diff_all HLn.out.1.2.2.2.2 HLn.out.2.2.2.2.2 hal) hb)
                        clear hal hb
                        go_wp2_with fail
                        go_ret
                        exact ⟨true, rfl, ⟨fun _ => by rw [HT.out.1, HT.out.2, HP1.out.1, HP2.out.1, HP3.out.1, HP4.out.1, HP5.out.1], fun _ => rfl⟩, below_keep HB.out.1 HP5.out.2⟩
  · have hor : (¬ s1 = t1) ∨ (s1 = t1 ∧ ¬ s2 = t2) ∨ (s1 = t1 ∧ s2 = t2 ∧ ¬ s3 = t3) ∨ (s1 = t1 ∧ s2 = t2 ∧ s3 = t3 ∧ ¬ (nf : Int) = (nf2 : Int)) ∨ (s1 = t1 ∧ s2 = t2 ∧ s3 = t3 ∧ nf = nf2 ∧ ¬ (nl : Int) = (nl2 : Int)) ∨ (s1 = t1 ∧ s2 = t2 ∧ s3 = t3 ∧ nf = nf2 ∧ nl = nl2 ∧ ¬ (nr : Int) = (nr2 : Int)) ∨ (s1 = t1 ∧ s2 = t2 ∧ s3 = t3 ∧ nf = nf2 ∧ nl = nl2 ∧ nr = nr2 ∧ ¬ (nj : Int) = (nj2 : Int)) ∨ (s1 = t1 ∧ s2 = t2 ∧ s3 = t3 ∧ nf = nf2 ∧ nl = nl2 ∧ nr = nr2 ∧ nj = nj2 ∧ ¬ (nk : Int) = (nk2 : Int)) := by
      by_cases h0 : s1 = t1
      · by_cases h1 : s2 = t2
        · by_cases h2 : s3 = t3
          · by_cases h3 : nf = nf2
            · by_cases h4 : nl = nl2
              · by_cases h5 : nr = nr2
                · by_cases h6 : nj = nj2
                  · exact .inr (.inr (.inr (.inr (.inr (.inr (.inr (⟨h0, h1, h2, h3, h4, h5, h6, fun h => hh ⟨h0, h1, h2, h3, h4, h5, h6, by omega⟩⟩)))))))
                  · exact .inr (.inr (.inr (.inr (.inr (.inr (.inl ⟨h0, h1, h2, h3, h4, h5, (by omega)⟩))))))
                · exact .inr (.inr (.inr (.inr (.inr (.inl ⟨h0, h1, h2, h3, h4, (by omega)⟩)))))
              · exact .inr (.inr (.inr (.inr (.inl ⟨h0, h1, h2, h3, (by omega)⟩))))
            · exact .inr (.inr (.inr (.inl ⟨h0, h1, h2, (by omega)⟩)))
          · exact .inr (.inr (.inl ⟨h0, h1, h2⟩))
        · exact .inr (.inl ⟨h0, h1⟩)
      · exact .inl h0
    have HNe := Lib.hid (show ¬ T1 = T2 from fun e => by
      rw [HT.out.1, HT.out.2] at e
      injection e with e1 e2 e3 e4 e5 e6 e7 e8
      have e7' := congrArg List.length e7
      rw [List.length_map, List.length_map] at e7'
      have hl := HLn.out
      rw [e4, e5, e6, e7', e8] at hl
      exact hh ⟨e1, e2, e3, hl.1.1.symm.trans hl.2.1, hl.1.2.1.symm.trans hl.2.2.1, hl.1.2.2.1.symm.trans hl.2.2.2.1, hl.1.2.2.2.1.symm.trans hl.2.2.2.2.1, hl.1.2.2.2.2.symm.trans hl.2.2.2.2.2⟩)
    clear hh
    rcases hor with z9 | ⟨rfl, z9⟩ | ⟨rfl, rfl, z9⟩ | ⟨rfl, rfl, rfl, z9⟩ | ⟨rfl, rfl, rfl, rfl, z9⟩ | ⟨rfl, rfl, rfl, rfl, rfl, z9⟩ | ⟨rfl, rfl, rfl, rfl, rfl, rfl, z9⟩ | ⟨rfl, rfl, rfl, rfl, rfl, rfl, rfl, z9⟩
    all_goals
      have p0 := Arr.blk_cell HB.out.2.1 0
      have r0 := Arr.blk_cell HB.out.2.2 0
      have p1 := Arr.blk_cell HB.out.2.1 1
      have r1 := Arr.blk_cell HB.out.2.2 1
      have p2 := Arr.blk_cell HB.out.2.1 2
      have r2 := Arr.blk_cell HB.out.2.2 2
      have p3 := Arr.blk_cell HB.out.2.1 3
      have r3 := Arr.blk_cell HB.out.2.2 3
      have p4 := Arr.blk_cell HB.out.2.1 4
      have r4 := Arr.blk_cell HB.out.2.2 4
      have p5 := Arr.blk_cell HB.out.2.1 5
      have r5 := Arr.blk_cell HB.out.2.2 5
      have p6 := Arr.blk_cell HB.out.2.1 6
      have r6 := Arr.blk_cell HB.out.2.2 6
      have p7 := Arr.blk_cell HB.out.2.1 7
      have r7 := Arr.blk_cell HB.out.2.2 7
      simp only [List.getElem?_cons_zero, List.getElem?_cons_succ] at p0 r0 p1 r1 p2 r2 p3 r3 p4 r4 p5 r5 p6 r6 p7 r7
      go_enter Tryz.func14, Tryz.ntmps14
      go_upto_region 1 with fail
      rw [← HW.out]
      go_wp2_with fail
      go_ret
      first | exact ⟨false, rfl, ⟨(fun h => by cases h), fun h => absurd h HNe.out⟩, HB.out.1⟩ | exact .inl ⟨rfl, HNe.out, HB.out.1⟩ | exact ⟨rfl, HB.out.1⟩
end Go.Proofs.YtjcndgopijpibaaGreat.Snp
