/- Plane: the document's answer: Rows. -/
import Derived.Test.YtahkhkfmpnoneaaPlaRows
namespace Go.Proofs.Ytahkhkfmpnoneaa.Pla
open Go.RowKit
open Go.Sort

theorem runs_last {f : Nat → Bool} : ∀ n, f n = true → ∃ l a k, runs f (n + 1) = l ++ [(a, k)] ∧ 1 ≤ k ∧ k ≤ n + 1
  | 0, h => ⟨[], 0, 1, by rw [runs_new h (.inl rfl)]; rfl, by omega, by omega⟩
  | n + 1, h => by
    cases h1 : f n with
    | false => exact ⟨runs f (n + 1), n + 1, 1, runs_new h (.inr h1), by omega, by omega⟩
    | true =>
      obtain ⟨l, a, k, e, h2, h3⟩ := runs_last n h1
      exact ⟨l, a, k + 1, by rw [runs_more h (by omega) h1, e, bump_snoc], by omega, by omega⟩

theorem boxesOf_length (tick long : Int) (l : List (Nat × Nat)) : (boxesOf tick long l).length = l.length := by unfold boxesOf; rw [List.length_map]

theorem owns_bump {w : World} {base : Nat} {v : Value} {tick long : Int} {l : List (Nat × Nat)} {a k : Nat} (h : Owns w base v (boxesOf tick long (l ++ [(a, k)]))) :
    ∃ g cap, v = .slice (some ⟨g, 0, none⟩) (l.length + 1) cap ∧ base ≤ g ∧ l.length + 1 ≤ cap ∧ w.cell? ⟨g, l.length * 4 + 3, none⟩ = some (.int .i64 k) ∧ w.frozen? ⟨g, l.length * 4 + 3, none⟩ = false ∧
      Owns (w.setCell ⟨g, l.length * 4 + 3, none⟩ (.int .i64 ((k : Int) + 1))) base v (boxesOf tick long (l ++ [(a, k + 1)])) := by
  have hl : (boxesOf tick long (l ++ [(a, k)])).length = l.length + 1 := by rw [boxesOf_length]; simp
  have hl' : (boxesOf tick long (l ++ [(a, k + 1)])).length = l.length + 1 := by rw [boxesOf_length]; simp
  have hc : boxCells (boxesOf tick long (l ++ [(a, k)])) = boxCells (boxesOf tick long l) ++ [.int .i64 tick, .int .i64 a, .int .i64 long, .int .i64 k] := by rw [boxesOf_snoc, boxCells_snoc]
  have hc' : boxCells (boxesOf tick long (l ++ [(a, k + 1)])) = boxCells (boxesOf tick long l) ++ [.int .i64 tick, .int .i64 a, .int .i64 long, .int .i64 ((k : Int) + 1)] := by rw [boxesOf_snoc, boxCells_snoc]; rfl
  have hcl : (boxCells (boxesOf tick long l)).length = l.length * 4 := by rw [boxCells_length, boxesOf_length]
  unfold Owns at h ⊢
  rw [hl, hc] at h
  have hh := h
  rcases h.2 with ⟨_, h0⟩ | ⟨g, cap, cur, rfl, hg, _, hn, _⟩
  · omega
  · refine ⟨g, cap, rfl, hg, hn, ?_, ?_, ?_⟩
    · rw [hh.cellAt _ (by omega), List.getElem?_append_right (by omega), hcl, show l.length * 4 + 3 - l.length * 4 = 3 by omega]; rfl
    · exact hh.frozenAt _
    · have := hh.stored (l.length * 4 + 3) (.int .i64 ((k : Int) + 1))
      rw [hl', hc']
      have e : (boxCells (boxesOf tick long l) ++ [Value.int .i64 tick, .int .i64 a, .int .i64 long, .int .i64 k]).set (l.length * 4 + 3) (.int .i64 ((k : Int) + 1)) = boxCells (boxesOf tick long l) ++ [.int .i64 tick, .int .i64 a, .int .i64 long, .int .i64 ((k : Int) + 1)] := by
        rw [List.set_append, if_neg (by omega), hcl, show l.length * 4 + 3 - l.length * 4 = 3 by omega]; rfl
      rw [e] at this
      exact this.1

set_option maxHeartbeats 2000000 in
theorem rrows_any (tick long mask : Int) (w : World) :
    Calls Try.prog 19 #[.int .i64 tick, .int .i64 long, .int .i64 mask] w (OutBoxes w (rowsL tick long mask)) := by
  have hown0 : Owns (w.alloc (.cells #[] 23)) w.heap.size (.slice (some ⟨w.heap.size, 0, none⟩) 0 0) [] := World.ownsRow_made w #[] 0 (Nat.le_refl _) (by unfold maxLen; omega) rfl
  have hb0 : Below w.heap.size w (w.alloc (.cells #[] 23)) := (Below.refl _ _).alloc (Nat.le_refl _) _
  cases h1 : decide (0 ≤ tick ∧ tick ≤ 1099511627776) with
  | false =>
    have HN := Lib.hid (show [] = rowsL tick long mask by
      unfold rowsL; rw [if_neg]; intro h; have := goodB_iff.1 h; rw [decide_eq_false_iff_not] at h1; omega)
    have H1 := Lib.hid h1
    clear h1
    go_enter Try.func19, Try.ntmps19
    go_wp2_with fail
    refine (rin_is _ _ _ _ _ H1.out).mono ?_
    rintro e w' ⟨rfl, rfl⟩
    go_wp2
    go_ret
    exact out_owns hown0 hb0 HN.out
  | true =>
  cases h2 : decide (1 ≤ long ∧ long ≤ 1048576) with
  | false =>
    have HN := Lib.hid (show [] = rowsL tick long mask by
      unfold rowsL; rw [if_neg]; intro h; have := goodB_iff.1 h; rw [decide_eq_false_iff_not] at h2; omega)
    have H1 := Lib.hid h1
    have H2 := Lib.hid h2
    clear h1 h2
    go_enter Try.func19, Try.ntmps19
    go_wp2_with fail
    refine (rin_is _ _ _ _ _ H1.out).mono ?_
    rintro e w' ⟨rfl, rfl⟩
    go_wp2_with fail
    refine (rin_is _ _ _ _ _ H2.out).mono ?_
    rintro e w' ⟨rfl, rfl⟩
    go_wp2
    go_ret
    exact out_owns hown0 hb0 HN.out
  | true =>
    have HN := Lib.hid (show boxesOf tick long (runs (bitB mask) 32) = rowsL tick long mask by
      unfold rowsL; rw [if_pos]; rw [goodB_iff]; rw [decide_eq_true_iff] at h1 h2; omega)
    have H1 := Lib.hid h1
    have H2 := Lib.hid h2
    clear h1 h2
    go_enter Try.func19, Try.ntmps19
    go_wp2_with fail
    refine (rin_is _ _ _ _ _ H1.out).mono ?_
    rintro e w' ⟨rfl, rfl⟩
    go_wp2_with fail
    refine (rin_is _ _ _ _ _ H2.out).mono ?_
    rintro e w' ⟨rfl, rfl⟩
    go_wp2
    go_loopw [7, 8] (fun v i wr => ∃ n : Nat, n ≤ 32 ∧ i = .int .i64 n ∧ Owns wr w.heap.size v (boxesOf tick long (runs (bitB mask) n)) ∧ Below w.heap.size w wr) (fun _ i _ => 32 - (intOf i).toNat)
    case atStart => exact ⟨0, by omega, rfl, hown0, hb0⟩
    case round =>
      obtain ⟨n, hn, rfl, hown, hb⟩ := hrel
      have HO := Lib.hid hown
      have HB := Lib.hid hb
      have hsz : w.heap.size ≤ wr.heap.size := hb.size
      clear hown hb hown0 hb0
      by_cases hlt : n < 32
      · have hd : decide ((n : Int) < 32) = true := by rw [decide_eq_true_iff]; omega
        have hq := bitB_not mask n
        cases hbt : bitB mask n with
        | false =>
          rw [hbt] at hq
          have HE : Hid (Owns wr w.heap.size u7 (boxesOf tick long (runs (bitB mask) (n + 1)))) := by
            show Owns _ _ _ _; rw [runs_skip hbt]; exact HO.out
          clear hbt
          go_wp2
          go_roundw
          case rel => exact ⟨n + 1, by omega, by go_num, HE.out, HB.out⟩
          case measure => simp [intOf]; omega
        | true =>
          rw [hbt] at hq
          by_cases h0 : n = 0
          · subst h0
            have HE : Hid (boxesOf tick long (runs (bitB mask) (0 + 1)) = boxesOf tick long (runs (bitB mask) 0) ++ [⟨tick, 0, long, 1⟩]) := by
              show _ = _; rw [runs_new hbt (.inl rfl), boxesOf_snoc]; rfl
            have hq2 : (bits BinOp.and IntKind.i64 mask 1 == 0) = false := by simpa using hq
            have HLen : Hid ((boxesOf tick long (runs (bitB mask) 0)).length ≤ 1000000) := by show _ ≤ _; rw [boxesOf_length]; simp [runs]
            clear hbt
            go_wp2_with (at_builtin; refine wpList_append_box rfl (.tmp 50) (.tmp 55) rfl w.heap.size _ _ rfl (owns_alloc HO.out _) wr.heap.size rfl ⟨tick, 0, long, 1⟩ (by simp [go_sem]) HLen.out (by simp; omega) ?_; intro v2 w2 hown2 hb2)
            go_roundw
            case rel => exact ⟨0 + 1, by omega, by go_num, by rw [HE.out]; exact hown2, HB.out.trans ((((Below.refl _ _).alloc (Nat.le_refl _) _).mono hsz).trans hb2)⟩
            case measure => simp [intOf]
          · have hn0 : decide ((0 : Int) < (n : Int)) = true := by rw [decide_eq_true_iff]; omega
            cases hbm : bitB mask (n - 1) with
            | false =>
              have HE : Hid (boxesOf tick long (runs (bitB mask) (n + 1)) = boxesOf tick long (runs (bitB mask) n) ++ [⟨tick, n, long, 1⟩]) := by
                show _ = _; rw [runs_new hbt (.inr hbm), boxesOf_snoc]; rfl
              have hq1 : (bits BinOp.and IntKind.i64 (mask / 2 ^ (n - 1)) 1 == 1) = false := hbm
              have HLen : Hid ((boxesOf tick long (runs (bitB mask) n)).length ≤ 1000000) := by show _ ≤ _; rw [boxesOf_length]; have := runs_length (bitB mask) n; omega
              clear hbt hbm
              go_wp2_with (at_builtin; refine wpList_append_box rfl (.tmp 50) (.tmp 55) rfl w.heap.size _ _ rfl (owns_alloc HO.out _) wr.heap.size rfl ⟨tick, n, long, 1⟩ (by simp [go_sem]) HLen.out (by simp; omega) ?_; intro v2 w2 hown2 hb2)
              go_roundw
              case rel => exact ⟨n + 1, by omega, by go_num, by rw [HE.out]; exact hown2, HB.out.trans ((((Below.refl _ _).alloc (Nat.le_refl _) _).mono hsz).trans hb2)⟩
              case measure => simp [intOf]; omega
            | true =>
              obtain ⟨l, a, k, hr, hk1, hk2⟩ := runs_last (n - 1) hbm
              rw [show n - 1 + 1 = n by omega] at hr
              have hr2 : runs (bitB mask) (n + 1) = l ++ [(a, k + 1)] := by rw [runs_more hbt (by omega) hbm, hr, bump_snoc]
              have hll : l.length + 1 ≤ 32 := by have := runs_length (bitB mask) n; rw [hr, List.length_append] at this; simp at this; omega
              have hO := HO.out
              rw [hr] at hO
              obtain ⟨g, cap, hv, hg, hcap, hc, hf, hO2⟩ := owns_bump hO
              subst hv
              rw [← hr2] at hO2
              have HO2 := Lib.hid hO2
              have hq1 : (bits BinOp.and IntKind.i64 (mask / 2 ^ (n - 1)) 1 == 1) = true := hbm
              clear hbt hbm hr hr2 hO hO2 HO
              generalize l.length = K at *
              go_wp2
              go_roundw
              case rel => exact ⟨n + 1, by omega, by go_num, HO2.out, HB.out.setCell (p := ⟨g, K * 4 + 3, none⟩) hg _⟩
              case measure => simp [intOf]; omega
      · have hd : decide ((n : Int) < 32) = false := by rw [decide_eq_false_iff_not]; omega
        have HE := Lib.hid (show boxesOf tick long (runs (bitB mask) n) = rowsL tick long mask by rw [show n = 32 by omega]; exact HN.out)
        go_wp2
        go_ret
        exact out_owns HO.out HB.out HE.out

end Go.Proofs.Ytahkhkfmpnoneaa.Pla
