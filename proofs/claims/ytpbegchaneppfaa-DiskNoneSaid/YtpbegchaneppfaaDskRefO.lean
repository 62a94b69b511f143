/- Disk: the document's own disk: which sectors are cached. -/
import Derived.Test.YtpbegchaneppfaaDskRefF
namespace Go.Proofs.Ytpbegchaneppfaa.Dsk
open Go.RowKit
open Go.Sort
open Kit
open Oct
open Foot
set_option linter.unusedVariables false

set_option maxHeartbeats 2000000 in
theorem rflush_down {F : Nat → Prop} {p : Nat} {good : List Sec} {log : List (Nat × Sec)} {w : World} (h : RefD w F p good log 0) :
    Calls Try.prog 22 #[.pointer (some ⟨p, 0, none⟩)] w fun e w' => e = .returned (.int .i64 10) ∧ RefD w' F p good log 0 ∧ Chg F w w' ∧ w'.heap.size = w.heap.size := by
  have HBurn := Lib.hid (rburn_any h (by omega))
  clear h
  go_enter Try.func22, Try.ntmps22
  go_wp2_with fail
  refine HBurn.out.mono ?_
  rintro e w1 ⟨rfl, hR, hC, hsz⟩
  simp only [decide_true, Bool.not_true]
  have HR := Lib.hid hR
  have HC := Lib.hid (And.intro hC hsz)
  clear hR hC hsz
  go_wp2
  go_ret
  exact ⟨rfl, HR.out, HC.out.1, HC.out.2⟩

def encN (n : Nat) : List Value := [.int .i64 (n : Int)]
theorem encN_len (n : Nat) : (encN n).length = 1 := rfl
theorem encN_one (n : Nat) : ∀ u ∈ encN n, u.oneCell' = true := by
  intro u hu
  simp [encN] at hu
  subst hu; rfl
theorem info_int : (Try.prog.info? 3).map (fun i => (i.zero, i.size, i.bytes)) = some (some (.int .i64 0), 1, 8) := by kernel_rfl
theorem run_ia_ints (b k n c : Nat) (h : k < n) (w : World) : (Instr.indexAt 57 (.slice (some ⟨b, 0, none⟩) n c) (.int .i64 k)).run Try.prog w = .ok (.pointer (some ⟨b, k, none⟩)) w := by
  simp [go_sem]
  omega
theorem run_eq_nat (x y : Nat) (a b : Operand) (w : World) : (do eqGuard .eql 3 a b (.int .i64 x) (.int .i64 y); binOp .eql 3 (.int .i64 x) (.int .i64 y) : Sem Value).run Try.prog w = .ok (.bool (decide (x = y))) w := by
  have e : ((x : Int) == (y : Int)) = decide (x = y) := by
    rw [Bool.eq_iff_iff, beq_iff_eq, decide_eq_true_iff]; omega
  rw [← e]
  simp [go_sem]
theorem dec_take {o : List Nat} {j y x : Nat} (h : o[j]? = some x) : decide (y ∈ o.take (j + 1)) = (decide (y ∈ o.take j) || decide (x = y)) := by
  obtain ⟨hj, hx⟩ := List.getElem?_eq_some_iff.1 h
  rw [Bool.eq_iff_iff, Bool.or_eq_true, decide_eq_true_iff, decide_eq_true_iff, decide_eq_true_iff, List.take_succ_eq_append_getElem hj, List.mem_append, List.mem_singleton, hx]
  exact or_congr Iff.rfl eq_comm
theorem logOrd_len (log : List (Nat × Sec)) : (logOrd log).length ≤ log.length := by
  induction log using snocRec with
  | nil => exact Nat.le_refl _
  | snoc l x ih =>
    rw [logOrd_snoc, List.length_append, List.length_singleton]
    split
    · omega
    · rw [List.length_append, List.length_singleton]; omega

set_option maxHeartbeats 4000000 in
theorem rorder_any {F : Nat → Prop} {p : Nat} {good : List Sec} {log : List (Nat × Sec)} {fuse : Int} {w : World} (h : RefD w F p good log fuse) (hF : ∀ k, F k → k < w.heap.size) (hk : log.length ≤ 1000000) :
    Calls Try.prog 25 #[.pointer (some ⟨p, 0, none⟩)] w fun e w' => ∃ v, e = .returned v ∧ Owns encN 1 3 w' w.heap.size v (logOrd log) ∧ Below w.heap.size w w' := by
  obtain ⟨ag, cg, gs, al, cl, ls, r⟩ := h
  have HR := Lib.hid r
  have k1 := Arr.blk_cell r.blk 1
  simp only [List.getElem?_cons_zero, List.getElem?_cons_succ] at k1
  have hll := r.llen
  rw [hll] at k1
  clear r
  go_enter Try.func25, Try.ntmps25
  go_wp2_with fail
  go_loopw [3, 4] (fun v i wr => ∃ k : Nat, k ≤ log.length ∧ i = .int .i64 k ∧ Owns encN 1 3 wr w.heap.size v (logOrd (log.take k)) ∧ Below w.heap.size w wr) (fun _ i _ => log.length - (intOf i).toNat)
  case atStart => exact ⟨0, Nat.zero_le _, rfl, World.ownsRow_made w #[] 0 (Nat.le_refl _) (by unfold maxLen; omega) rfl, below_alloc w _⟩
  case round =>
    obtain ⟨k, hk2, rfl, hO, hb⟩ := hrel
    have k1r := cell_keep hb k1
    by_cases hlt : k < log.length
    · have hkl : k < ls.length := by rw [hll]; exact hlt
      obtain ⟨gl, rfl, _, _, hrl⟩ := own_at encOn_len HR.out.lown (by omega)
      have x0 := cell_keep hb (row_cell hrl hkl rfl (i := 0) (by omega))
      have hxy := HR.out.lsec k ls[k] log[k] (List.getElem?_eq_getElem hkl) (List.getElem?_eq_getElem hlt)
      have hto : logOrd (log.take (k + 1)) = if log[k].1 ∈ logOrd (log.take k) then logOrd (log.take k) else logOrd (log.take k) ++ [log[k].1] := by
        rw [List.take_succ_eq_append_getElem hlt, logOrd_snoc]
      have hol : (logOrd (log.take k)).length ≤ 1000000 := by
        have := logOrd_len (log.take k)
        rw [List.length_take] at this; omega
      obtain ⟨ao, co, rfl, hoc, hcm, hno, hro⟩ := owns_row encN_len hO
      generalize logOrd (log.take k) = o at *
      generalize ls[k] = x at *
      generalize log[k] = y at *
      obtain ⟨xa, xs⟩ := x
      obtain ⟨ya, yb⟩ := y
      obtain ⟨hxa, _⟩ := hxy
      simp only at hxa hto
      subst hxa
      simp only [Nat.add_zero, Nat.zero_add] at x0
      have HO := Lib.hid hO
      have HRo := Lib.hid hro
      have HB := Lib.hid hb
      have HTo := Lib.hid hto
      have HLa := Lib.hid hlt
      have HNo := Lib.hid hno
      have HCx := Lib.hid (And.intro k1r x0)
      clear hO hro hb hto hrl k1 hno
      generalize wr = wo at *
      go_wp2_with fail
      go_loopw [5, 6] (fun m i wr => ∃ j : Nat, j ≤ o.length ∧ i = .int .i64 j ∧ m = .bool (decide (ya ∈ o.take j)) ∧ Below wo.heap.size wo wr) (fun _ i _ => o.length - (intOf i).toNat)
      case atStart => exact ⟨0, Nat.zero_le _, rfl, by simp, Below.refl _ _⟩
      case round =>
        obtain ⟨j, hj, rfl, rfl, hbi⟩ := hrel
        by_cases hjl : j < o.length
        · have hxo : ∃ x, o[j]? = some x := ⟨_, List.getElem?_eq_getElem hjl⟩
          obtain ⟨x, hx⟩ := hxo
          have htj := dec_take (y := ya) hx
          have hx' : o[j] = x := by rw [List.getElem?_eq_getElem hjl] at hx; injection hx
          obtain ⟨go, hao⟩ : ∃ go, ao = some ⟨go, 0, none⟩ := by
            obtain ⟨g, h1, _⟩ := own_at encN_len HO.out (by omega)
            exact ⟨g, h1⟩
          subst hao
          have hxj := row_cell (row_keep encN_len HRo.out hbi) hjl hx' (i := 0) (by omega)
          simp only [encN, Nat.zero_add, Nat.add_zero, Nat.mul_one, List.getElem?_cons_zero] at hxj
          have HCs := Lib.hid (And.intro (cell_keep hbi HCx.out.1) (And.intro (cell_keep hbi HCx.out.2) hxj))
          have HJ := Lib.hid hjl
          have HBi := Lib.hid hbi
          have HTj := Lib.hid htj
          clear hbi hxj hx hx' htj
          cases hm : decide (ya ∈ o.take j) with
          | true =>
            rw [hm] at HTj
            clear hm
            go_wp2_with fail
            refine Chn.wp_region_chain (fun idx => match idx with | 0 => some (.bool true) | 1 => some (.bool true) | 2 => some (undef) | 3 => some (undef) | 4 => some (undef) | 5 => some (undef) | 6 => some (undef) | 7 => some (undef) | 8 => some (undef) | 9 => some (undef) | 10 => some (undef) | 11 => some (undef) | 12 => some (undef) | 13 => some (undef) | 14 => some (undef) | 15 => some (.bool true) | 16 => some (.bool true) | _ => none) [] (fun (_ : Nat) (_ : List Value) (w : World) => w = wr.drew) (by kernel_rfl) (by kernel_rfl) (by kernel_rfl) (by kernel_rfl) (by kernel_rfl) (by decide) (by kernel_rfl) (rfl) ?_ ?_
            · refine ⟨?_, ?_, ?_, ?_, ?_, ?_, ?_, ?_, ?_, ?_, ?_, ?_, ?_, ?_, ?_, ?_, ?_, trivial⟩
              · intro a ww jj vs c hj0 hΦ
                have hj : jj ≤ 0 := Nat.le_trans hj0 (of_decide_eq_true (by kernel_rfl))
                refine .inl ⟨Rel.wanted_free (by kernel_rfl) _, ?_⟩
                exact Rel.wp_mv _ rfl ⟨congrArg (a.put _) (c.old 5 (v := .bool true) (by kernel_rfl) (by kernel_rfl)), rfl⟩
              · intro a ww jj vs c hj0 hΦ
                have hj : jj ≤ 0 := Nat.le_trans hj0 (of_decide_eq_true (by kernel_rfl))
                refine .inl ⟨Rel.wanted_free (by kernel_rfl) _, ?_⟩
                exact Rel.wp_mv _ rfl ⟨congrArg (a.put _) (c.get 0 23 (by kernel_rfl) rfl), rfl⟩
              · intro a ww jj vs c hj0 hΦ
                exact .inr ⟨Chn.wanted_not (j := 1) (b := false) (d := 24) (by kernel_rfl) (c.get 1 24 (by kernel_rfl) rfl), rfl⟩
              · intro a ww jj vs c hj0 hΦ
                exact .inr ⟨Chn.wanted_not (j := 1) (b := false) (d := 24) (by kernel_rfl) (c.get 1 24 (by kernel_rfl) rfl), rfl⟩
              · intro a ww jj vs c hj0 hΦ
                exact .inr ⟨Chn.wanted_not (j := 1) (b := false) (d := 24) (by kernel_rfl) (c.get 1 24 (by kernel_rfl) rfl), rfl⟩
              · intro a ww jj vs c hj0 hΦ
                exact .inr ⟨Chn.wanted_not (j := 1) (b := false) (d := 24) (by kernel_rfl) (c.get 1 24 (by kernel_rfl) rfl), rfl⟩
              · intro a ww jj vs c hj0 hΦ
                exact .inr ⟨Chn.wanted_not (j := 1) (b := false) (d := 24) (by kernel_rfl) (c.get 1 24 (by kernel_rfl) rfl), rfl⟩
              · intro a ww jj vs c hj0 hΦ
                exact .inr ⟨Chn.wanted_not (j := 1) (b := false) (d := 24) (by kernel_rfl) (c.get 1 24 (by kernel_rfl) rfl), rfl⟩
              · intro a ww jj vs c hj0 hΦ
                exact .inr ⟨Chn.wanted_not (j := 1) (b := false) (d := 24) (by kernel_rfl) (c.get 1 24 (by kernel_rfl) rfl), rfl⟩
              · intro a ww jj vs c hj0 hΦ
                exact .inr ⟨Chn.wanted_not (j := 1) (b := false) (d := 24) (by kernel_rfl) (c.get 1 24 (by kernel_rfl) rfl), rfl⟩
              · intro a ww jj vs c hj0 hΦ
                exact .inr ⟨Chn.wanted_not (j := 1) (b := false) (d := 24) (by kernel_rfl) (c.get 1 24 (by kernel_rfl) rfl), rfl⟩
              · intro a ww jj vs c hj0 hΦ
                exact .inr ⟨Chn.wanted_not (j := 1) (b := false) (d := 24) (by kernel_rfl) (c.get 1 24 (by kernel_rfl) rfl), rfl⟩
              · intro a ww jj vs c hj0 hΦ
                exact .inr ⟨Chn.wanted_not (j := 1) (b := false) (d := 24) (by kernel_rfl) (c.get 1 24 (by kernel_rfl) rfl), rfl⟩
              · intro a ww jj vs c hj0 hΦ
                exact .inr ⟨Chn.wanted_not (j := 1) (b := false) (d := 24) (by kernel_rfl) (c.get 1 24 (by kernel_rfl) rfl), rfl⟩
              · intro a ww jj vs c hj0 hΦ
                exact .inr ⟨Chn.wanted_not (j := 1) (b := false) (d := 24) (by kernel_rfl) (c.get 1 24 (by kernel_rfl) rfl), rfl⟩
              · intro a ww jj vs c hj0 hΦ
                have hj : jj ≤ 0 := Nat.le_trans hj0 (of_decide_eq_true (by kernel_rfl))
                refine .inl ⟨Rel.wanted_free (by kernel_rfl) _, ?_⟩
                exact Rel.wp_pk _ _ _ rfl (b := true) (c.get 1 24 (by kernel_rfl) rfl) ⟨rfl, rfl⟩
              · intro a ww jj vs c hj0 hΦ
                have hj : jj ≤ 0 := Nat.le_trans hj0 (of_decide_eq_true (by kernel_rfl))
                refine .inl ⟨Rel.wanted_free (by kernel_rfl) _, ?_⟩
                exact Rel.wp_as _ rfl ⟨congrArg (a.put _) (c.get 15 38 (by kernel_rfl) rfl), rfl⟩
            intro a w9 hbase hroom hdef hΦ hV
            have h : (fun (_ : Nat) (_ : List Value) (w : World) => w = wr.drew) 0 [] w9 := hΦ
            have s5 := hV 16 _ 5 _ rfl rfl rfl
            rw [Chn.act_puts [23, 24, 25, 26, 27, 28, 29, 30, 31, 32, 33, 34, 35, 36, 37, 38, 5] hbase hroom hdef (by kernel_rfl)]
            clear hbase hroom hdef hΦ hV
            simp only [List.foldl_cons, List.foldl_nil]
            generalize Rel.slot a 23 = u23 at *
            generalize Rel.slot a 24 = u24 at *
            generalize Rel.slot a 25 = u25 at *
            generalize Rel.slot a 26 = u26 at *
            generalize Rel.slot a 27 = u27 at *
            generalize Rel.slot a 28 = u28 at *
            generalize Rel.slot a 29 = u29 at *
            generalize Rel.slot a 30 = u30 at *
            generalize Rel.slot a 31 = u31 at *
            generalize Rel.slot a 32 = u32 at *
            generalize Rel.slot a 33 = u33 at *
            generalize Rel.slot a 34 = u34 at *
            generalize Rel.slot a 35 = u35 at *
            generalize Rel.slot a 36 = u36 at *
            generalize Rel.slot a 37 = u37 at *
            generalize Rel.slot a 38 = u38 at *
            rw [s5]
            clear s5
            subst h
            go_wp2_with fail
            go_roundw
            case rel => exact ⟨j + 1, by omega, by go_num, by rw [HTj.out]; rfl, HBi.out.drew⟩
            case measure => simp [intOf]; omega
          | false =>
            rw [hm] at HTj
            clear hm
            go_wp2_with fail
            refine Chn.wp_region_chain (fun idx => match idx with | 0 => some (.bool false) | 1 => some (.bool false) | 2 => some (.slice (some ⟨go, 0, none⟩) o.length co) | 3 => some (.int .i64 j) | 4 => some (.pointer (some ⟨go, j, none⟩)) | 5 => some (.int .i64 x) | 6 => some (.pointer (some ⟨p, 0, none⟩)) | 7 => some (.pointer (some ⟨p, 0, none⟩)) | 8 => some (.pointer (some ⟨p, 1, none⟩)) | 9 => some (.slice (some ⟨gl, 0, none⟩) log.length cl) | 10 => some (.int .i64 k) | 11 => some (.pointer (some ⟨gl, k * 2, none⟩)) | 12 => some (.pointer (some ⟨gl, k * 2, none⟩)) | 13 => some (.int .i64 ya) | 14 => some (.bool (decide (x = ya))) | 15 => some (.bool (decide (x = ya))) | 16 => some (.bool (decide (x = ya))) | _ => none) [] (fun (_ : Nat) (_ : List Value) (w : World) => w = wr.drew) (by kernel_rfl) (by kernel_rfl) (by kernel_rfl) (by kernel_rfl) (by kernel_rfl) (by decide) (by kernel_rfl) (rfl) ?_ ?_
            · refine ⟨?_, ?_, ?_, ?_, ?_, ?_, ?_, ?_, ?_, ?_, ?_, ?_, ?_, ?_, ?_, ?_, ?_, trivial⟩
              · intro a ww jj vs c hj0 hΦ
                have hj : jj ≤ 0 := Nat.le_trans hj0 (of_decide_eq_true (by kernel_rfl))
                refine .inl ⟨Rel.wanted_free (by kernel_rfl) _, ?_⟩
                exact Rel.wp_mv _ rfl ⟨congrArg (a.put _) (c.old 5 (v := .bool false) (by kernel_rfl) (by kernel_rfl)), rfl⟩
              · intro a ww jj vs c hj0 hΦ
                have hj : jj ≤ 0 := Nat.le_trans hj0 (of_decide_eq_true (by kernel_rfl))
                refine .inl ⟨Rel.wanted_free (by kernel_rfl) _, ?_⟩
                exact Rel.wp_mv _ rfl ⟨congrArg (a.put _) (c.get 0 23 (by kernel_rfl) rfl), rfl⟩
              · intro a ww jj vs c hj0 hΦ
                have hj : jj ≤ 0 := Nat.le_trans hj0 (of_decide_eq_true (by kernel_rfl))
                refine .inl ⟨Rel.wanted_by (j := 1) (b := false) (d := 24) (by kernel_rfl) (c.get 1 24 (by kernel_rfl) rfl), ?_⟩
                exact Rel.wp_mv _ rfl ⟨congrArg (a.put _) (c.old 3 (v := .slice (some ⟨go, 0, none⟩) o.length co) (by kernel_rfl) (by kernel_rfl)), rfl⟩
              · intro a ww jj vs c hj0 hΦ
                have hj : jj ≤ 0 := Nat.le_trans hj0 (of_decide_eq_true (by kernel_rfl))
                refine .inl ⟨Rel.wanted_by (j := 1) (b := false) (d := 24) (by kernel_rfl) (c.get 1 24 (by kernel_rfl) rfl), ?_⟩
                exact Rel.wp_mv _ rfl ⟨congrArg (a.put _) (c.old 6 (v := .int .i64 j) (by kernel_rfl) (by kernel_rfl)), rfl⟩
              · intro a ww jj vs c hj0 hΦ
                have hj : jj ≤ 0 := Nat.le_trans hj0 (of_decide_eq_true (by kernel_rfl))
                refine .inl ⟨Rel.wanted_by (j := 1) (b := false) (d := 24) (by kernel_rfl) (c.get 1 24 (by kernel_rfl) rfl), ?_⟩
                exact Rel.wp_ia _ _ _ rfl (c.get 2 25 (by kernel_rfl) rfl) (c.get 3 26 (by kernel_rfl) rfl) (run_ia_ints go j o.length co HJ.out _) ⟨rfl, rfl⟩
              · intro a ww jj vs c hj0 hΦ
                have hj : jj ≤ 0 := Nat.le_trans hj0 (of_decide_eq_true (by kernel_rfl))
                refine .inl ⟨Rel.wanted_by (j := 1) (b := false) (d := 24) (by kernel_rfl) (c.get 1 24 (by kernel_rfl) rfl), ?_⟩
                exact Rel.wp_ld _ _ rfl (c.get 4 27 (by kernel_rfl) rfl) (run_ld_i (by rw [show ww = wr.drew from hΦ]; exact HCs.out.2.2)) ⟨rfl, rfl⟩
              · intro a ww jj vs c hj0 hΦ
                have hj : jj ≤ 0 := Nat.le_trans hj0 (of_decide_eq_true (by kernel_rfl))
                refine .inl ⟨Rel.wanted_by (j := 1) (b := false) (d := 24) (by kernel_rfl) (c.get 1 24 (by kernel_rfl) rfl), ?_⟩
                exact Rel.wp_mv _ rfl ⟨congrArg (a.put _) (c.old 0 (v := .pointer (some ⟨p, 0, none⟩)) (by kernel_rfl) (by kernel_rfl)), rfl⟩
              · intro a ww jj vs c hj0 hΦ
                have hj : jj ≤ 0 := Nat.le_trans hj0 (of_decide_eq_true (by kernel_rfl))
                refine .inl ⟨Rel.wanted_by (j := 1) (b := false) (d := 24) (by kernel_rfl) (c.get 1 24 (by kernel_rfl) rfl), ?_⟩
                exact Chn.wp_nc _ rfl (c.get 6 29 (by kernel_rfl) rfl) ⟨rfl, rfl⟩
              · intro a ww jj vs c hj0 hΦ
                have hj : jj ≤ 0 := Nat.le_trans hj0 (of_decide_eq_true (by kernel_rfl))
                refine .inl ⟨Rel.wanted_by (j := 1) (b := false) (d := 24) (by kernel_rfl) (c.get 1 24 (by kernel_rfl) rfl), ?_⟩
                exact Chn.wp_fa _ _ _ rfl (c.get 7 30 (by kernel_rfl) rfl) (by simp [go_sem]) ⟨rfl, rfl⟩
              · intro a ww jj vs c hj0 hΦ
                have hj : jj ≤ 0 := Nat.le_trans hj0 (of_decide_eq_true (by kernel_rfl))
                refine .inl ⟨Rel.wanted_by (j := 1) (b := false) (d := 24) (by kernel_rfl) (c.get 1 24 (by kernel_rfl) rfl), ?_⟩
                exact Rel.wp_ld _ _ rfl (c.get 8 31 (by kernel_rfl) rfl) (run_ld_log (by rw [show ww = wr.drew from hΦ]; exact HCs.out.1)) ⟨rfl, rfl⟩
              · intro a ww jj vs c hj0 hΦ
                have hj : jj ≤ 0 := Nat.le_trans hj0 (of_decide_eq_true (by kernel_rfl))
                refine .inl ⟨Rel.wanted_by (j := 1) (b := false) (d := 24) (by kernel_rfl) (c.get 1 24 (by kernel_rfl) rfl), ?_⟩
                exact Rel.wp_mv _ rfl ⟨congrArg (a.put _) (c.old 4 (v := .int .i64 k) (by kernel_rfl) (by kernel_rfl)), rfl⟩
              · intro a ww jj vs c hj0 hΦ
                have hj : jj ≤ 0 := Nat.le_trans hj0 (of_decide_eq_true (by kernel_rfl))
                refine .inl ⟨Rel.wanted_by (j := 1) (b := false) (d := 24) (by kernel_rfl) (c.get 1 24 (by kernel_rfl) rfl), ?_⟩
                exact Rel.wp_ia _ _ _ rfl (c.get 9 32 (by kernel_rfl) rfl) (c.get 10 33 (by kernel_rfl) rfl) (run_ia_log gl k log.length cl HLa.out _) ⟨rfl, rfl⟩
              · intro a ww jj vs c hj0 hΦ
                have hj : jj ≤ 0 := Nat.le_trans hj0 (of_decide_eq_true (by kernel_rfl))
                refine .inl ⟨Rel.wanted_by (j := 1) (b := false) (d := 24) (by kernel_rfl) (c.get 1 24 (by kernel_rfl) rfl), ?_⟩
                exact Chn.wp_fa _ _ _ rfl (c.get 11 34 (by kernel_rfl) rfl) (by simp [go_sem]) ⟨rfl, rfl⟩
              · intro a ww jj vs c hj0 hΦ
                have hj : jj ≤ 0 := Nat.le_trans hj0 (of_decide_eq_true (by kernel_rfl))
                refine .inl ⟨Rel.wanted_by (j := 1) (b := false) (d := 24) (by kernel_rfl) (c.get 1 24 (by kernel_rfl) rfl), ?_⟩
                exact Rel.wp_ld _ _ rfl (c.get 12 35 (by kernel_rfl) rfl) (run_ld_i (by rw [show ww = wr.drew from hΦ]; exact HCs.out.2.1)) ⟨rfl, rfl⟩
              · intro a ww jj vs c hj0 hΦ
                have hj : jj ≤ 0 := Nat.le_trans hj0 (of_decide_eq_true (by kernel_rfl))
                refine .inl ⟨Rel.wanted_by (j := 1) (b := false) (d := 24) (by kernel_rfl) (c.get 1 24 (by kernel_rfl) rfl), ?_⟩
                exact Rel.wp_bo _ _ _ _ _ rfl (c.get 5 28 (by kernel_rfl) rfl) (c.get 13 36 (by kernel_rfl) rfl) (run_eq_nat x ya _ _ _) ⟨rfl, rfl⟩
              · intro a ww jj vs c hj0 hΦ
                have hj : jj ≤ 0 := Nat.le_trans hj0 (of_decide_eq_true (by kernel_rfl))
                refine .inl ⟨Rel.wanted_free (by kernel_rfl) _, ?_⟩
                exact Rel.wp_pk _ _ _ rfl (b := false) (c.get 1 24 (by kernel_rfl) rfl) ⟨congrArg (a.put _) (c.get 14 37 (by kernel_rfl) rfl), rfl⟩
              · intro a ww jj vs c hj0 hΦ
                have hj : jj ≤ 0 := Nat.le_trans hj0 (of_decide_eq_true (by kernel_rfl))
                refine .inl ⟨Rel.wanted_free (by kernel_rfl) _, ?_⟩
                exact Rel.wp_as _ rfl ⟨congrArg (a.put _) (c.get 15 38 (by kernel_rfl) rfl), rfl⟩
            intro a w9 hbase hroom hdef hΦ hV
            have h : (fun (_ : Nat) (_ : List Value) (w : World) => w = wr.drew) 0 [] w9 := hΦ
            have s5 := hV 16 _ 5 _ rfl rfl rfl
            rw [Chn.act_puts [23, 24, 25, 26, 27, 28, 29, 30, 31, 32, 33, 34, 35, 36, 37, 38, 5] hbase hroom hdef (by kernel_rfl)]
            clear hbase hroom hdef hΦ hV
            simp only [List.foldl_cons, List.foldl_nil]
            generalize Rel.slot a 23 = u23 at *
            generalize Rel.slot a 24 = u24 at *
            generalize Rel.slot a 25 = u25 at *
            generalize Rel.slot a 26 = u26 at *
            generalize Rel.slot a 27 = u27 at *
            generalize Rel.slot a 28 = u28 at *
            generalize Rel.slot a 29 = u29 at *
            generalize Rel.slot a 30 = u30 at *
            generalize Rel.slot a 31 = u31 at *
            generalize Rel.slot a 32 = u32 at *
            generalize Rel.slot a 33 = u33 at *
            generalize Rel.slot a 34 = u34 at *
            generalize Rel.slot a 35 = u35 at *
            generalize Rel.slot a 36 = u36 at *
            generalize Rel.slot a 37 = u37 at *
            generalize Rel.slot a 38 = u38 at *
            rw [s5]
            clear s5
            subst h
            go_wp2_with fail
            go_roundw
            case rel => exact ⟨j + 1, by omega, by go_num, by rw [HTj.out]; rfl, HBi.out.drew⟩
            case measure => simp [intOf]; omega
        · obtain rfl : j = o.length := by omega
          rw [List.take_length]
          have HBi := Lib.hid hbi
          have HK1 := Lib.hid (And.intro (cell_keep hbi HCx.out.1) (cell_keep hbi HCx.out.2))
          have HOw := Lib.hid (own_chg (new_chg hbi (fun _ => False)) HO.out (fun _ _ => id))
          have hto := HTo.out
          have hk11 := HK1.out.1
          have hk12 := HK1.out.2
          clear hbi
          by_cases hm : ya ∈ o
          · rw [decide_eq_true hm]
            rw [if_pos hm] at hto
            have HTo2 := Lib.hid hto
            clear hm hto
            go_wp2_with fail
            go_roundw
            case rel => exact ⟨k + 1, by omega, by go_num, by rw [HTo2.out]; exact HOw.out, below_keep HB.out HBi.out⟩
            case measure => simp [intOf]; omega
          · rw [decide_eq_false hm]
            rw [if_neg hm] at hto
            have HTo2 := Lib.hid hto
            clear hm hto
            go_wp2_with (first | (at_builtin; refine Kit.append_row encN_len (by decide) encN_one rfl (.tmp 41) (.tmp 50) 57 3 rfl Try.underlying57 (.int .i64 0) 8 info_int rfl w.heap.size _ o rfl (owns_alloc HOw.out _) (some ⟨wr.heap.size, 0, none⟩) 1 1 [ya] rfl rfl (Kit.row_new encN_len wr [ya] _ _ _ rfl rfl) (fun h => by cases h) (by unfold maxLen; omega) (by omega) (by have h1 := HB.out.size; have h2 := HBi.out.size; simp; omega) ?_; intro v9 w9 hown9 hb9; have HO9 := Lib.hid hown9; have HB9 := Lib.hid (((below_keep HB.out HBi.out).alloc (Nat.le_trans HB.out.size HBi.out.size) _).trans hb9); clear hown9 hb9) | fail)
            go_roundw
            case rel => exact ⟨k + 1, by omega, by go_num, by rw [HTo2.out]; exact HO9.out, HB9.out⟩
            case measure => simp [intOf]; omega
    · obtain rfl : k = log.length := by omega
      rw [List.take_length] at hO
      have HO := Lib.hid hO
      have HB := Lib.hid hb
      clear hO hb
      go_wp2
      go_ret
      exact ⟨_, rfl, HO.out, HB.out⟩

end Go.Proofs.Ytpbegchaneppfaa.Dsk
