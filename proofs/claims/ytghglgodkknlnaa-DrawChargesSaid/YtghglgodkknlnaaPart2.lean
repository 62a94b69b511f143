/- Common to the claims of this seat, part 2: texts that were written one by one, laid behind one another. -/
import Derived.Lib.QuietBelow
import Derived.Lib.SliceRun
import Derived.Test.YtghglgodkknlnaaPart1
/- Draw: the document's open and next, as they run. -/
namespace Go.Proofs.Ytghglgodkknlnaa.Drw
set_option maxRecDepth 100000
open Go.RowKit
open Go.Sort
open Kit
open Mon
open Tre (Al Lst inI lst_keep lst_take lst_at lst_new lst_none below_drewN' Allocs encL encL_len alloc_cells6)
set_option linter.unusedVariables false
variable {w w' : World}

set_option maxHeartbeats 4000000 in
theorem open_any (f0 f1 f2 f3 f4 f5 now : Int) (w : World) :
    Calls Try.prog 48 #[.agg #[.int .i64 f0, .int .i64 f1, .int .i64 f2, .int .i64 f3, .int .i64 f4, .int .i64 f5], .int .i64 now] w fun e w' => e = .returned (.bool (openA ⟨f0, f1, f2, f3, f4, f5⟩ now)) ∧ Below w.heap.size w w' := by
  by_cases h1 : 0 < f3
  · by_cases h2 : f1 ≤ now
    · by_cases h3 : now < f2
      · have HE := Lib.hid (show openA ⟨f0, f1, f2, f3, f4, f5⟩ now = true by simp [openA, h1, h2, h3])
        go_enter Try.func48, Try.ntmps48
        go_wp2_with fail
        go_ret
        exact ⟨by rw [HE.out]; rfl, below_alloc _ _⟩
      · have HE := Lib.hid (show openA ⟨f0, f1, f2, f3, f4, f5⟩ now = false by simp [openA, h1, h2, h3])
        go_enter Try.func48, Try.ntmps48
        go_wp2_with fail
        go_ret
        exact ⟨by rw [HE.out]; rfl, below_alloc _ _⟩
    · have HE := Lib.hid (show openA ⟨f0, f1, f2, f3, f4, f5⟩ now = false by simp [openA, h1, h2])
      go_enter Try.func48, Try.ntmps48
      go_wp2_with fail
      go_ret
      exact ⟨by rw [HE.out]; rfl, below_alloc _ _⟩
  · have HE := Lib.hid (show openA ⟨f0, f1, f2, f3, f4, f5⟩ now = false by simp [openA, h1])
    go_enter Try.func48, Try.ntmps48
    go_wp2_with fail
    go_ret
    exact ⟨by rw [HE.out]; rfl, below_alloc _ _⟩

/-! ### next -/

def encB (b : Bool) : List Value := [.bool b]
theorem encB_len (b : Bool) : (encB b).length = 1 := rfl
theorem bool_cell {b o n c k : Nat} {l : List Bool} (h : Lst encB 1 w (some ⟨b, o, none⟩) n c l) (hk : k < l.length) : w.cell? ⟨b, o + k, none⟩ = some (.bool l[k]) := by
  have := row_cell h.row hk rfl (i := 0) (by omega)
  simpa [encB] using this
def doneOf (dl : List Bool) : Nat → Bool := fun i => dl.getD i false
def idx (o : Option Nat) : Int := match o with | none => -1 | some b => (b : Int)
theorem step_no {al : List Al} {f now : Int} {done : Nat → Bool} {b : Option Nat} {i : Nat} (h : done i = true ∨ cand al f now i = false) : nextStep al f now done b i = b := by
  unfold nextStep
  rcases h with h | h <;> simp [h]
theorem step_first {al : List Al} {f now : Int} {done : Nat → Bool} {i : Nat} (h : done i = false) (hc : cand al f now i = true) : nextStep al f now done none i = some i := by simp [nextStep, h, hc]
theorem step_some {al : List Al} {f now : Int} {done : Nat → Bool} {i b : Nat} (h : done i = false) (hc : cand al f now i = true) : nextStep al f now done (some b) i = if tillOf al i < tillOf al b then some i else some b := by
  unfold nextStep
  by_cases ht : tillOf al i < tillOf al b <;> simp [h, hc, ht]
theorem till_get {al : List Al} {k : Nat} (h : k < al.length) : tillOf al k = al[k].till := by simp [tillOf, List.getElem?_eq_getElem h]
theorem cand_get {al : List Al} {f now : Int} {k : Nat} (h : k < al.length) : cand al f now k = (decide (al[k].fund = f) && openA al[k] now) := by simp [cand, List.getElem?_eq_getElem h]
set_option maxHeartbeats 16000000 in
theorem next_any (al : List Al) (a a2 : Option Addr) (n c c2 : Nat) (dl : List Bool) (f now : Int) (w : World) (h : Allocs w a n c al) (hn : n ≤ 100) (hd : Lst encB 1 w a2 n c2 dl) :
    Calls Try.prog 31 #[.slice a n c, .int .i64 f, .int .i64 now, .slice a2 n c2] w fun e w' => e = .returned (.int .i64 (idx (nextD al f now (doneOf dl)))) ∧ Below w.heap.size w w' := by
  have HL := Lib.hid (And.intro h (And.intro h.len (And.intro hd hd.len)))
  clear h hd
  go_enter Try.func31, Try.ntmps31
  go_wp2_with fail
  go_loopw [9, 10] (fun bv i wr => ∃ k : Nat, k ≤ n ∧ i = .int .i64 (k : Nat) ∧ bv = .int .i64 (idx (nextTo al f now (doneOf dl) k)) ∧ Below w.heap.size w wr) (fun _ i _ => n - (intOf i).toNat)
  case atStart => exact ⟨0, Nat.zero_le _, rfl, rfl, Below.refl _ _⟩
  case round =>
    obtain ⟨k, hk, rfl, rfl, hb⟩ := hrel
    have HB := Lib.hid hb
    clear hb
    by_cases hlt : k < n
    · have hkl : k < al.length := by rw [HL.out.2.1]; exact hlt
      have hkd : k < dl.length := by rw [HL.out.2.2.2]; exact hlt
      obtain ⟨b1, o1, rfl⟩ := lst_at HL.out.1 (by omega)
      obtain ⟨b2, o2, rfl⟩ := lst_at HL.out.2.2.1 (by omega)
      have hF := fun d os => lst_keep encL_len HL.out.1 (below_keep HB.out (below_regrown wr d os))
      have hG := fun d os => lst_keep encB_len HL.out.2.2.1 (below_keep HB.out (below_regrown wr d os))
      have q0 := fun d os => (alloc_cells6 (hF d os) hkl).1
      have q1 := fun d os => (alloc_cells6 (hF d os) hkl).2.1
      have q2 := fun d os => (alloc_cells6 (hF d os) hkl).2.2.1
      have q3 := fun d os => (alloc_cells6 (hF d os) hkl).2.2.2.1
      have q4 := fun d os => (alloc_cells6 (hF d os) hkl).2.2.2.2.1
      have q5 := fun d os => (alloc_cells6 (hF d os) hkl).2.2.2.2.2
      have p0 := fun d os => bool_cell (hG d os) hkd
      have hcd := cand_get (f := f) (now := now) hkl
      have htl := till_get hkl
      have hdo : doneOf dl k = dl[k] := by simp [doneOf, hkd]
      have hsu := nextTo_succ al f now (doneOf dl) k
      have HF := Lib.hid hF
      clear hF hG
      generalize dl[k] = dk at *
      generalize al[k] = x at *
      obtain ⟨f0, f1, f2, f3, f4, f5⟩ := x
      simp only at q0 q1 q2 q3 q4 q5 hcd htl
      have cO := fun d os => Calls.regrown_of (w := wr) (d := d) (os := os) (open_any f0 f1 f2 f3 f4 f5 now _)
      have i0 : (0 : Int) ≤ (k : Int) := by omega
      have i1 : (k : Int) < (n : Int) := by omega
      have HS := Lib.hid (And.intro hsu (And.intro hcd (And.intro htl hdo)))
      have hbs := (nextTo_spec al f now (doneOf dl) k).2
      clear hcd htl hdo hsu
      cases dk with
      | true =>
        have HR := Lib.hid (show nextTo al f now (doneOf dl) (k + 1) = nextTo al f now (doneOf dl) k by rw [HS.out.1]; exact step_no (.inl HS.out.2.2.2))
        clear hbs
        go_wp2_with fail
        refine wp_region_quiet_below (by kernel_rfl) (by kernel_rfl) ?_
        repeat (go_big_quiet_step (fail))
        refine wpQuiet_nil ?_
        intro _ hw'
        obtain ⟨⟨dq, osq⟩, hw''⟩ := hw'
        subst hw''
        go_wp2_with fail
        go_roundw
        case rel => exact ⟨k + 1, by omega, by go_num, by rw [HR.out], below_keep HB.out (below_regrown wr dq osq)⟩
        case measure => simp [intOf]; omega
      | false =>
        by_cases hf : f0 = f
        · subst hf
          cases ho : openA ⟨f0, f1, f2, f3, f4, f5⟩ now with
          | false =>
            have HR := Lib.hid (show nextTo al f0 now (doneOf dl) (k + 1) = nextTo al f0 now (doneOf dl) k by rw [HS.out.1]; exact step_no (.inr (by rw [HS.out.2.1, ho]; simp)))
            rw [ho] at cO
            clear ho hbs
            go_wp2_with fail
            refine wp_region_quiet_below (by kernel_rfl) (by kernel_rfl) ?_
            repeat (go_big_quiet_step (first | (with_reducible exact cO _ _)))
            refine wpQuiet_nil ?_
            intro _ hw'
            obtain ⟨⟨dq, osq⟩, hw''⟩ := hw'
            subst hw''
            go_wp2_with fail
            go_roundw
            case rel => exact ⟨k + 1, by omega, by go_num, by rw [HR.out], below_keep HB.out (below_regrown wr dq osq)⟩
            case measure => simp [intOf]; omega
          | true =>
            have hct : cand al f0 now k = true := by rw [HS.out.2.1, ho]; simp
            rw [ho] at cO
            cases hbest : nextTo al f0 now (doneOf dl) k with
            | none =>
              have HR := Lib.hid (show nextTo al f0 now (doneOf dl) (k + 1) = some k by rw [HS.out.1, hbest]; exact step_first HS.out.2.2.2 hct)
              have HI : idx (none : Option Nat) = -1 := rfl
              rw [HI]
              clear ho hbs hct hbest HI
              go_wp2_with fail
              refine wp_region_quiet_below (by kernel_rfl) (by kernel_rfl) ?_
              repeat (go_big_quiet_step (first | (with_reducible exact cO _ _)))
              refine wpQuiet_nil ?_
              intro _ hw'
              obtain ⟨⟨dq, osq⟩, hw''⟩ := hw'
              subst hw''
              go_wp2_with fail
              go_roundw
              case rel => exact ⟨k + 1, by omega, by go_num, by rw [HR.out]; rfl, below_keep HB.out (below_regrown wr dq osq)⟩
              case measure => simp [intOf]; omega
            | some b =>
              have hbn := hbs b hbest
              have hbl : b < al.length := by omega
              have r2 := fun d os => (alloc_cells6 (HF.out d os) hbl).2.2.1
              have htb := till_get hbl
              generalize al[b] = y at *
              obtain ⟨y0, y1, y2, y3, y4, y5⟩ := y
              simp only at r2 htb
              have hst := step_some (b := b) HS.out.2.2.2 hct
              rw [htb, HS.out.2.2.1, ← hbest, ← HS.out.1] at hst
              have HI : idx (some b) = (b : Int) := rfl
              rw [HI]
              have hbn2 : b < n := by have := hbn.1; omega
              have j0 : (0 : Int) ≤ (b : Int) := by omega
              have j1 : (b : Int) < (n : Int) := by omega
              have j2 : decide ((b : Int) < 0) = false := by simp
              clear ho hbs hct hbn HI htb hbl
              by_cases ht : f2 < y2
              · rw [if_pos ht] at hst
                have HR := Lib.hid hst
                clear hst hbest
                go_wp2_with fail
                refine wp_region_quiet_below (by kernel_rfl) (by kernel_rfl) ?_
                repeat (go_big_quiet_step (first | (with_reducible exact cO _ _)))
                refine wpQuiet_nil ?_
                intro _ hw'
                obtain ⟨⟨dq, osq⟩, hw''⟩ := hw'
                subst hw''
                go_wp2_with fail
                go_roundw
                case rel => exact ⟨k + 1, by omega, by go_num, by rw [HR.out]; rfl, below_keep HB.out (below_regrown wr dq osq)⟩
                case measure => simp [intOf]; omega
              · rw [if_neg ht, hbest] at hst
                have HR := Lib.hid hst
                clear hst hbest
                go_wp2_with fail
                refine wp_region_quiet_below (by kernel_rfl) (by kernel_rfl) ?_
                repeat (go_big_quiet_step (first | (with_reducible exact cO _ _)))
                refine wpQuiet_nil ?_
                intro _ hw'
                obtain ⟨⟨dq, osq⟩, hw''⟩ := hw'
                subst hw''
                go_wp2_with fail
                go_roundw
                case rel => exact ⟨k + 1, by omega, by go_num, by rw [HR.out]; rfl, below_keep HB.out (below_regrown wr dq osq)⟩
                case measure => simp [intOf]; omega
        · have HR := Lib.hid (show nextTo al f now (doneOf dl) (k + 1) = nextTo al f now (doneOf dl) k by rw [HS.out.1]; exact step_no (.inr (by rw [HS.out.2.1]; simp [hf])))
          have hf2 : (f0 == f) = false := beq_false_of_ne hf
          clear hf hbs
          go_wp2_with fail
          refine wp_region_quiet_below (by kernel_rfl) (by kernel_rfl) ?_
          repeat (go_big_quiet_step (fail))
          refine wpQuiet_nil ?_
          intro _ hw'
          obtain ⟨⟨dq, osq⟩, hw''⟩ := hw'
          subst hw''
          go_wp2_with fail
          go_roundw
          case rel => exact ⟨k + 1, by omega, by go_num, by rw [HR.out], below_keep HB.out (below_regrown wr dq osq)⟩
          case measure => simp [intOf]; omega
    · obtain rfl : n = k := by omega
      have HE := Lib.hid (show nextTo al f now (doneOf dl) n = nextD al f now (doneOf dl) by unfold nextD; rw [HL.out.2.1])
      go_wp2_with fail
      go_ret
      exact ⟨by rw [HE.out]; rfl, HB.out⟩
end Go.Proofs.Ytghglgodkknlnaa.Drw
/- Draw: the order of drawing, as it comes up step by step (mathematics). -/
namespace Go.Proofs.Ytghglgodkknlnaa.Drw
open Tre (Al path pathN pathN_lt pathN_none pathN_some path_nat path_neg)
set_option linter.unusedVariables false

theorem pathN_desc (l : List Tre.Fd) : ∀ f : Nat, (pathN l f).Pairwise (· > ·) := by
  intro f
  induction f using Nat.strongRecOn with
  | _ f ih =>
    cases hx : l[f]? with
    | none => rw [pathN_none (List.getElem?_eq_none_iff.1 hx)]; exact List.Pairwise.nil
    | some x =>
      rw [pathN_some hx]
      by_cases hp : 0 ≤ x.par ∧ x.par < (f : Int)
      · rw [if_pos hp]
        refine List.Pairwise.cons (fun k hk => ?_) (ih _ (by omega))
        have := (pathN_lt l _ k hk).1
        omega
      · rw [if_neg hp]
        exact List.Pairwise.cons (fun k hk => by cases hk) List.Pairwise.nil
/-- A path has no fund twice: each is below the one ahead of it. -/
theorem path_desc (l : List Tre.Fd) (f : Int) : (path l f).Pairwise (· > ·) := by
  by_cases hf : f < 0
  · rw [path_neg hf]; exact List.Pairwise.nil
  · obtain ⟨m, rfl⟩ : ∃ m : Nat, f = m := ⟨f.toNat, by omega⟩
    rw [path_nat, List.pairwise_map]
    exact (pathN_desc l m).imp fun h => by omega
theorem sel_congr {al : List Al} {f now : Int} : ∀ (k : Nat) {d1 d2 : Nat → Bool}, (∀ i, cand al f now i = true → d1 i = d2 i) → sel al f now k d1 = sel al f now k d2
  | 0, _, _, _ => rfl
  | k + 1, d1, d2, h => by
    rw [sel, sel, nextD_congr h]
    cases nextD al f now d2 with
    | none => rfl
    | some i =>
      simp only
      rw [sel_congr k (d1 := fun j => d1 j || j == i) (d2 := fun j => d2 j || j == i) (fun j hj => by rw [h j hj])]
theorem ordF_congr {al : List Al} {f now : Int} {d1 d2 : Nat → Bool} (h : ∀ i, cand al f now i = true → d1 i = d2 i) : ordF al f now d1 = ordF al f now d2 := sel_congr _ h
theorem sel_len {al : List Al} {f now : Int} : ∀ (k : Nat) (d : Nat → Bool), (sel al f now k d).length ≤ k
  | 0, _ => Nat.le_refl _
  | k + 1, d => by
    rw [sel]
    cases nextD al f now d with
    | none => exact Nat.zero_le _
    | some i => exact Nat.succ_le_succ (sel_len k _)
theorem order_len (al : List Al) (now : Int) : ∀ p : List Int, (order al now p).length ≤ p.length * al.length
  | [] => Nat.zero_le _
  | f :: p => by
    have h1 := order_len al now p
    have h2 : (ordF al f now none0).length ≤ al.length := sel_len _ _
    have e : order al now (f :: p) = ordF al f now none0 ++ order al now p := rfl
    rw [e, List.length_append, List.length_cons, Nat.add_mul, Nat.one_mul]
    omega
theorem takeD_len (al : List Al) : ∀ (l : List Nat) (a : Int), (takeD al l a).length ≤ l.length
  | [], _ => Nat.le_refl _
  | i :: r, a => by
    rw [takeD]
    split
    · exact Nat.zero_le _
    · exact Nat.succ_le_succ (takeD_len al r _)
/-- What is left of the order: of the fund in hand those that were not drawn on, then the other funds. -/
def remO (al : List Al) (now : Int) (done : Nat → Bool) : List Int → List Nat
  | [] => []
  | f :: ps => ordF al f now done ++ order al now ps
def Fresh (al : List Al) (now : Int) (done : Nat → Bool) (ps : List Int) : Prop := ∀ f, f ∈ ps → ∀ i, cand al f now i = true → done i = false
theorem rem_start (al : List Al) (now : Int) (p : List Int) : remO al now none0 p = order al now p := by cases p <;> rfl
theorem rem_fresh {al : List Al} {now : Int} {done : Nat → Bool} {ps : List Int} (h : Fresh al now done ps) : remO al now done ps = order al now ps := by
  cases ps with
  | nil => rfl
  | cons f ps =>
    have e : order al now (f :: ps) = ordF al f now none0 ++ order al now ps := rfl
    rw [remO, e, ordF_congr (d2 := none0) fun i hi => h f (List.mem_cons_self ..) i hi]
theorem cand_fund {al : List Al} {f now : Int} {i : Nat} (h : cand al f now i = true) : ∃ a, al[i]? = some a ∧ a.fund = f ∧ 0 < a.avail := by
  unfold cand at h
  cases ha : al[i]? with
  | none => rw [ha] at h; cases h
  | some a =>
    rw [ha] at h
    simp [openA] at h
    exact ⟨a, rfl, h.1, h.2.1.1⟩
/-- The fund in hand has none left: on to the next. -/
theorem rem_next {al : List Al} {now : Int} {done : Nat → Bool} {f : Int} {ps : List Int} (h : nextD al f now done = none) (hf : Fresh al now done ps) : remO al now done (f :: ps) = remO al now done ps := by
  rw [rem_fresh hf, remO, ordF_none h, List.nil_append]
theorem rem_take {al : List Al} {now : Int} {done : Nat → Bool} {f : Int} {ps : List Int} {b : Nat} (h : nextD al f now done = some b) : remO al now done (f :: ps) = b :: remO al now (fun j => done j || j == b) (f :: ps) := by
  rw [remO, ordF_some h]; rfl
theorem fresh_take {al : List Al} {now : Int} {done : Nat → Bool} {f : Int} {ps : List Int} {b : Nat} (h : cand al f now b = true) (hn : f ∉ ps) (hf : Fresh al now done ps) : Fresh al now (fun j => done j || j == b) ps := by
  intro g hg i hi
  have h1 := hf g hg i hi
  by_cases hib : i = b
  · subst hib
    obtain ⟨a, ha, hfa, _⟩ := cand_fund h
    obtain ⟨a', ha', hga, _⟩ := cand_fund hi
    rw [ha] at ha'
    injection ha' with ha'
    subst ha'
    rw [← hfa, hga] at hn
    exact absurd hg hn
  · simp [h1, hib]
theorem done_set {dl : List Bool} {b : Nat} (h : b < dl.length) : doneOf (dl.set b true) = fun j => doneOf dl j || j == b := by
  funext j
  unfold doneOf
  by_cases hj : j = b
  · subst hj
    simp [List.getD, h]
  · simp [List.getD, List.getElem?_set_ne (Ne.symm hj), hj]
theorem done_none (n : Nat) : doneOf (List.replicate n false) = none0 := by
  funext j
  unfold doneOf none0
  by_cases hj : j < n <;> simp [List.getD, hj]
/-- How far the drawing is. -/
structure Far (al : List Al) (now am : Int) (p : List Int) (k : Nat) (b : Int) (out : List Dw) (dl : List Bool) : Prop where
  kp : k ≤ p.length
  amt : 0 ≤ b ∧ b ≤ am
  dlen : dl.length = al.length
  tk : takeD al (order al now p) am = out ++ takeD al (remO al now (doneOf dl) (p.drop k)) b
  rs : restD al (order al now p) am = restD al (remO al now (doneOf dl) (p.drop k)) b
  fresh : Fresh al now (doneOf dl) (p.drop (k + 1))
theorem far_start (al : List Al) (now am : Int) (p : List Int) (h : 0 ≤ am) : Far al now am p 0 am [] (List.replicate al.length false) :=
  ⟨Nat.zero_le _, ⟨h, Int.le_refl _⟩, List.length_replicate, by rw [done_none, List.drop_zero, rem_start]; rfl, by rw [done_none, List.drop_zero, rem_start], by rw [done_none]; exact fun _ _ _ _ => rfl⟩
theorem far_len {al : List Al} {now am : Int} {p : List Int} {k : Nat} {b : Int} {out : List Dw} {dl : List Bool} (h : Far al now am p k b out dl) : out.length ≤ p.length * al.length := by
  have h1 := takeD_len al (order al now p) am
  have h2 := order_len al now p
  rw [h.tk, List.length_append] at h1
  omega
theorem far_next {al : List Al} {now am : Int} {p : List Int} {k : Nat} {b : Int} {out : List Dw} {dl : List Bool} (h : Far al now am p k b out dl) (hk : k < p.length) (hn : nextD al p[k] now (doneOf dl) = none) : Far al now am p (k + 1) b out dl := by
  have e : remO al now (doneOf dl) (p.drop k) = remO al now (doneOf dl) (p.drop (k + 1)) := by
    rw [List.drop_eq_getElem_cons hk, rem_next hn h.fresh]
  refine ⟨hk, h.amt, h.dlen, by rw [h.tk, e], by rw [h.rs, e], fun g hg => h.fresh g ?_⟩
  have : p.drop (k + 1 + 1) = (p.drop (k + 1)).drop 1 := by rw [List.drop_drop]
  rw [this] at hg
  exact List.mem_of_mem_drop hg
theorem far_take {al : List Al} {now am : Int} {p : List Int} {k : Nat} {b : Int} {out : List Dw} {dl : List Bool} {m : Nat} (h : Far al now am p k b out dl) (hk : k < p.length) (hp : p.Pairwise (· > ·)) (hb : 0 < b) (hn : nextD al p[k] now (doneOf dl) = some m) :
    ∃ x, al[m]? = some x ∧ 0 < x.avail ∧ m < dl.length ∧ Far al now am p k (b - min x.avail b) (out ++ [⟨m, min x.avail b⟩]) (dl.set m true) := by
  obtain ⟨hc, hd, _⟩ := nextD_some hn
  obtain ⟨x, hx, hf, hav⟩ := cand_fund hc
  have hm : m < dl.length := by rw [h.dlen]; exact cand_lt hc
  have ha : availOf al m = x.avail := by unfold availOf; rw [hx]
  have hdr := List.drop_eq_getElem_cons hk
  have hni : p[k] ∉ p.drop (k + 1) := by
    intro hin
    have h2 := List.Pairwise.sublist (List.drop_sublist k p) hp
    rw [hdr, List.pairwise_cons] at h2
    have := h2.1 _ hin
    omega
  have e : remO al now (doneOf dl) (p.drop k) = m :: remO al now (doneOf (dl.set m true)) (p.drop k) := by
    rw [hdr, rem_take hn, done_set hm]
  refine ⟨x, hx, hav, hm, h.kp, ?_, by rw [List.length_set]; exact h.dlen, ?_, ?_, ?_⟩
  · have := h.amt; omega
  · rw [h.tk, e, takeD, if_neg (by omega), ha, List.append_assoc]; rfl
  · rw [h.rs, e, restD, if_neg (by omega), ha]
  · rw [done_set hm]; exact fresh_take hc hni h.fresh
theorem far_end {al : List Al} {now am : Int} {p : List Int} {k : Nat} {b : Int} {out : List Dw} {dl : List Bool} (h : Far al now am p k b out dl) (he : k = p.length ∨ b ≤ 0) : takeD al (order al now p) am = out ∧ restD al (order al now p) am = b := by
  have h1 := h.tk
  have h2 := h.rs
  rcases he with rfl | hb
  · rw [List.drop_length, remO] at h1 h2
    rw [h1, h2, takeD, restD, List.append_nil]; exact ⟨rfl, rfl⟩
  · cases hr : remO al now (doneOf dl) (p.drop k) with
    | nil => rw [hr] at h1 h2; rw [h1, h2, takeD, restD, List.append_nil]; exact ⟨rfl, rfl⟩
    | cons i r => rw [hr] at h1 h2; rw [h1, h2, takeD, restD, if_pos hb, if_pos hb, List.append_nil]; exact ⟨rfl, rfl⟩
end Go.Proofs.Ytghglgodkknlnaa.Drw
/- Tree: the document's Path, as it runs. -/
namespace Go.Proofs.Ytghglgodkknlnaa.Tre
set_option maxRecDepth 100000
open Go.RowKit
open Go.Sort
open Kit
open Mon
set_option linter.unusedVariables false
variable {w w' : World}

theorem pathI_length (l : List Fd) (f : Int) (h : l.length ≤ 100) : (path l f).length ≤ 101 := by
  by_cases hf : 0 ≤ f
  · unfold path
    rw [if_pos hf, List.length_map]
    by_cases hl : f.toNat < l.length
    · have := pathN_length l f.toNat
      omega
    · rw [pathN_none (by omega)]; simp
  · rw [path_neg (by omega)]; simp

/-! ### Path -/

theorem rpath_far (l : List Fd) (a : Option Addr) (n c : Nat) (w : World) (h : Funds w a n c l) (hn : n ≤ 100) (f : Int) (hf : f < 0 ∨ (n : Int) ≤ f) :
    Calls Try.prog 30 #[.slice a n c, .int .i64 f] w fun e w' => ∃ v, e = .returned v ∧ NewI w' w.heap.size v (path l f) ∧ Below w.heap.size w w' := by
  have HP := Lib.hid (path_far (l := l) (f := f) (by rw [h.len]; exact hf))
  clear h
  have hor : f < 0 ∨ (¬ f < 0 ∧ (n : Int) ≤ f) := by omega
  clear hf
  rcases hor with ho | ⟨ho, ho2⟩
  all_goals
    go_enter Try.func30, Try.ntmps30
    go_wp2_with fail
    go_ret
    exact ⟨_, rfl, by rw [HP.out]; exact newI_nil _ _, Below.refl _ _⟩
set_option maxHeartbeats 4000000 in
theorem rpath_nat (l : List Fd) (hok : ∀ x ∈ l, x.ok) : ∀ (f : Nat) (a : Option Addr) (n c : Nat) (w : World), Funds w a n c l → n ≤ 100 → f < n →
    Calls Try.prog 30 #[.slice a n c, .int .i64 (f : Nat)] w fun e w' => ∃ v, e = .returned v ∧ NewI w' w.heap.size v (path l (f : Int)) ∧ Below w.heap.size w w' := by
  intro f
  induction f using Nat.strongRecOn with
  | _ f ih =>
    intro a n c w h hn hf
    have hfl : f < l.length := by rw [h.len]; exact hf
    obtain ⟨b, o, rfl⟩ := lst_at h (by omega)
    obtain ⟨_, q1, _⟩ := fund_cells h hfl
    have hpa := path_at (List.getElem?_eq_getElem hfl)
    have hxk := hok l[f] (List.getElem_mem hfl)
    generalize l[f] = x at *
    obtain ⟨nm, pr, lm⟩ := x
    simp only at q1 hpa
    have hpr := hxk.2.1
    have H := Lib.hid (And.intro h (And.intro hpa ih))
    clear h hpa ih hxk
    by_cases hp : pr < (f : Int)
    · have hrec : ∀ (w1 : World), Below w.heap.size w w1 → Calls Try.prog 30 #[.slice (some ⟨b, o, none⟩) n c, .int .i64 pr] w1 fun e w' => ∃ v, e = .returned v ∧ NewI w' w1.heap.size v (path l pr) ∧ Below w1.heap.size w1 w' := fun w1 hb => by
        by_cases h0 : 0 ≤ pr
        · obtain ⟨m, rfl⟩ : ∃ m : Nat, pr = m := ⟨pr.toNat, by omega⟩
          exact H.out.2.2 m (by omega) _ n c w1 (lst_keep encF_len H.out.1 hb) hn (by omega)
        · exact rpath_far l _ n c w1 (lst_keep encF_len H.out.1 hb) hn pr (.inl (by omega))
      have HR := Lib.hid hrec
      have hpi : ¬ (f : Int) ≤ pr := by omega
      have HPa := Lib.hid (show path l (f : Int) = (f : Int) :: path l pr by rw [H.out.2.1, if_pos hp])
      have q1b := cell_keep (below_alloc w (.cells #[.int .i64 (f : Nat)] 3)) q1
      clear hrec hp
      go_enter Try.func30, Try.ntmps30
      go_wp2_with fail
      refine (HR.out _ (below_alloc w (.cells #[.int .i64 (f : Nat)] 3))).mono ?_
      rintro e w2 ⟨v, rfl, hn2, hb2⟩
      obtain ⟨a2, c2, rfl, hl2, -⟩ := hn2
      have hown := own_chg' (owns_lit w (f : Nat) w.heap.size (Nat.le_refl _)) hb2
      have hlen := pathI_length l pr (by rw [H.out.1.len]; exact hn)
      have HA := Lib.hid (And.intro hown (And.intro hl2 (And.intro (show [((f : Nat) : Int)].length + (path l pr).length ≤ maxLen by unfold maxLen; simp; omega) (And.intro (show ([((f : Nat) : Int)].length + (path l pr).length) * 8 ≤ 140737488355328 by simp; omega) (And.intro (below_keep (below_alloc w (.cells #[.int .i64 (f : Nat)] 3)) hb2).size (below_keep (below_alloc w (.cells #[.int .i64 (f : Nat)] 3)) hb2))))))
      obtain ⟨m2, hm2⟩ : ∃ m, m = (path l pr).length := ⟨_, rfl⟩
      rw [← hm2] at HA ⊢
      have HM := Lib.hid hm2
      clear hown hl2 hlen hb2 hm2
      go_wp2_with (first | (at_builtin; refine Two.append_apart encI_len Nat.zero_lt_one encI_one rfl (.tmp 23) (.tmp 30) 50 3 rfl Try.underlying50 (.int .i64 0) 8 info_i rfl w.heap.size (.slice (some ⟨w.heap.size, 0, none⟩) 1 1) [((f : Nat) : Int)] rfl HA.out.1 a2 m2 c2 (path l pr) rfl HM.out.symm HA.out.2.1.row HA.out.2.1.nil HA.out.2.2.1 HA.out.2.2.2.1 HA.out.2.2.2.2.1 ?_; intro v9 w9 ho9 hg9 _; have HP := Lib.hid (show Owns encI 1 3 w9 w.heap.size v9 (path l (f : Int)) ∧ Below w.heap.size w w9 from ⟨by rw [HPa.out]; exact ho9, HA.out.2.2.2.2.2.trans (Two.below_grown HA.out.1 hg9 HA.out.2.2.2.2.1)⟩); clear ho9 hg9 HA) | fail)
      go_ret
      exact ⟨_, rfl, newI_own HP.out.1, HP.out.2⟩
    · have hpi : (f : Int) ≤ pr := by omega
      have HPa := Lib.hid (show path l (f : Int) = [(f : Int)] by rw [H.out.2.1, if_neg hp])
      clear hp
      go_enter Try.func30, Try.ntmps30
      go_wp2_with fail
      go_ret
      exact ⟨_, rfl, by rw [HPa.out]; exact newI_own (owns_lit w (f : Nat) w.heap.size (Nat.le_refl _)), below_alloc _ _⟩
theorem rpath_any (l : List Fd) (hok : ∀ x ∈ l, x.ok) (a : Option Addr) (n c : Nat) (w : World) (h : Funds w a n c l) (hn : n ≤ 100) (f : Int) :
    Calls Try.prog 30 #[.slice a n c, .int .i64 f] w fun e w' => ∃ v, e = .returned v ∧ NewI w' w.heap.size v (path l f) ∧ Below w.heap.size w w' := by
  by_cases hf : f < 0 ∨ (n : Int) ≤ f
  · exact rpath_far l a n c w h hn f hf
  · obtain ⟨m, rfl⟩ : ∃ m : Nat, f = m := ⟨f.toNat, by omega⟩
    exact rpath_nat l hok m a n c w h hn (by omega)
end Go.Proofs.Ytghglgodkknlnaa.Tre
/- Common: objects in memory, each with the blocks that are its own: what a call changes lies in these, or is new. -/
namespace Go.Proofs.Ytghglgodkknlnaa.Foot
open Go.RowKit
open Go.Sort
open Kit
set_option linter.unusedVariables false

/-- Only these blocks are changed; others may be new. -/
structure Chg (F : Nat → Prop) (w w' : World) : Prop where
  os : w'.os = w.os
  tape : w'.tape = w.tape
  output : w'.output = w.output
  size : w.heap.size ≤ w'.heap.size
  block : ∀ k, k < w.heap.size → ¬ F k → w'.heap[k]? = w.heap[k]?

/-- These blocks, and the new ones. -/
def More (F : Nat → Prop) (w w' : World) (k : Nat) : Prop := F k ∨ (w.heap.size ≤ k ∧ k < w'.heap.size)

variable {F G : Nat → Prop} {w w1 w2 w' : World}
theorem chg_refl (F : Nat → Prop) (w : World) : Chg F w w := ⟨rfl, rfl, rfl, Nat.le_refl _, fun _ _ _ => rfl⟩
theorem chg_mono (h : Chg F w w') (hf : ∀ k, k < w.heap.size → F k → G k) : Chg G w w' := ⟨h.os, h.tape, h.output, h.size, fun k hk hg => h.block k hk fun h' => hg (hf k hk h')⟩
theorem chg_trans (h : Chg F w w1) (k : Chg G w1 w2) (hg : ∀ x, G x → F x ∨ w.heap.size ≤ x) : Chg F w w2 :=
  ⟨k.os.trans h.os, k.tape.trans h.tape, k.output.trans h.output, Nat.le_trans h.size k.size, fun x hx hf => (k.block x (Nat.lt_of_lt_of_le hx h.size) fun h' => by
    rcases hg x h' with h1 | h1
    · exact hf h1
    · omega).trans (h.block x hx hf)⟩
theorem chg_more (h : Chg F w w1) (k : Chg (More F w w1) w1 w2) : Chg F w w2 := chg_trans h k fun _ hx => hx.imp id fun h => h.1
theorem chg_alloc (h : Chg F w w1) (o : Obj) : Chg F w (w1.alloc o) :=
  ⟨h.os, h.tape, h.output, by have := h.size; simp; omega, fun k hk hf => (Below.heap_alloc w1 o k (Nat.lt_of_lt_of_le hk h.size)).trans (h.block k hk hf)⟩
theorem chg_drew (h : Chg F w w1) : Chg F w w1.drew := ⟨h.os, h.tape, h.output, h.size, h.block⟩
theorem chg_set (h : Chg F w w1) {b : Nat} (hb : F b ∨ w.heap.size ≤ b) (i : Nat) (v : Value) : Chg F w (w1.setCell ⟨b, i, none⟩ v) :=
  ⟨h.os, h.tape, h.output, by rw [setCell_size]; exact h.size, fun k hk hf => (Below.heap_setCell w1 _ v k fun e => by
    subst e
    rcases hb with h1 | h1
    · exact hf h1
    · omega).trans (h.block k hk hf)⟩
theorem chg_row (h : Chg F w w1) {b : Nat} (hb : F b ∨ w.heap.size ≤ b) (ds : Array Value) : Chg F w (w1.setRow b ds) :=
  ⟨h.os, h.tape, h.output, by rw [setRow_size]; exact h.size, fun k hk hf => (setRow_other w1 b k ds fun e => by
    subst e
    rcases hb with h1 | h1
    · exact hf h1
    · omega).trans (h.block k hk hf)⟩
theorem chg_grown (h : Chg F w w1) {row : Option Nat} (hg : w1.grownBy w2 row) (hr : ∀ k, row = some k → F k ∨ w.heap.size ≤ k) : Chg F w w2 :=
  chg_trans h (G := fun k => some k = row) ⟨hg.os, hg.tape, hg.output, hg.size, fun k hk hn => hg.block k hk hn⟩ fun x hx => hr x hx.symm
theorem chg_below (h : Chg F w w') {B : Nat} (hF : ∀ k, F k → B ≤ k) (hB : B ≤ w.heap.size) : Below B w w' := ⟨h.os, h.tape, h.output, h.size, fun k hk => h.block k (by omega) fun h' => by have := hF k h'; omega⟩
theorem below_chg {B : Nat} (h : Below B w w') : Chg (fun k => B ≤ k) w w' := ⟨h.os, h.tape, h.output, h.size, fun k _ hf => h.block k (by omega)⟩
/-- What makes memory alone changes nothing. -/
theorem new_chg (h : Below w.heap.size w w') (F : Nat → Prop) : Chg F w w' := ⟨h.os, h.tape, h.output, h.size, fun k hk _ => h.block k hk⟩

theorem more_old {k : Nat} (h : F k) : More F w w' k := .inl h
theorem more_new {k : Nat} (h1 : w.heap.size ≤ k) (h2 : k < w'.heap.size) : More F w w' k := .inr ⟨h1, h2⟩
theorem more_up (h : w1.heap.size ≤ w2.heap.size) {k : Nat} (hk : More F w w1 k) : More F w w2 k := hk.imp id fun h' => ⟨h'.1, by omega⟩
theorem more_more (h : w.heap.size ≤ w1.heap.size) (h2 : w1.heap.size ≤ w2.heap.size) {k : Nat} (hk : More (More F w w1) w1 w2 k) : More F w w2 k := by
  rcases hk with (hk | hk) | hk
  · exact .inl hk
  · exact .inr ⟨hk.1, by omega⟩
  · exact .inr ⟨by omega, hk.2⟩
theorem more_lt (hF : ∀ k, F k → k < w.heap.size) (h : w.heap.size ≤ w'.heap.size) {k : Nat} (hk : More F w w' k) : k < w'.heap.size := by
  rcases hk with hk | hk
  · have := hF k hk; omega
  · exact hk.2
theorem more_ge {B : Nat} (hF : ∀ k, F k → B ≤ k) (h : B ≤ w.heap.size) {k : Nat} (hk : More F w w' k) : B ≤ k := by
  rcases hk with hk | hk
  · exact hF k hk
  · omega
/-- Two that have nothing in common, and the one grows. -/
theorem more_apart (hG : ∀ k, G k → k < w.heap.size) (ha : ∀ k, F k → ¬ G k) {k : Nat} (hk : More F w w' k) : ¬ G k := by
  intro hg
  rcases hk with hk | hk
  · exact ha k hk hg
  · have := hG k hg; omega

/-! ### What stays -/

theorem cell_chg (h : Chg F w w') {b o : Nat} {v : Value} (hc : w.cell? ⟨b, o, none⟩ = some v) (hb : ¬ F b) : w'.cell? ⟨b, o, none⟩ = some v := by
  rw [World.cell?_of_block (w := w) (a := ⟨b, o, none⟩) (h.block b (World.block_lt_of_cell? w _ hc) hb)]; exact hc
theorem blk_chg (h : Chg F w w') {b : Nat} {t : TypeId} {cs : List Value} (hc : Arr.Blk w b t cs) (hb : ¬ F b) : Arr.Blk w' b t cs := by
  unfold Arr.Blk
  rw [h.block b (Arr.blk_lt hc) hb]; exact hc
theorem own_chg {α : Type} {enc : α → List Value} {size : Nat} {e : TypeId} {base : Nat} {v : Value} {l : List α} (h : Chg F w w') (ho : Owns enc size e w base v l) (hb : ∀ g, v.ownBlock = some g → ¬ F g) : Owns enc size e w' base v l := by
  refine ⟨ho.1, ?_⟩
  rcases ho.2 with hn | ⟨g, cap, cur, rfl, h1, hg, rest⟩
  · exact .inl hn
  · refine .inr ⟨g, cap, cur, rfl, h1, ?_, rest⟩
    rw [h.block g (Array.getElem?_eq_some_iff.1 hg).1 (hb g rfl)]
    exact hg
theorem row_chg {α : Type} {enc : α → List Value} {size : Nat} (hs : ∀ x, (enc x).length = size) {b off : Nat} {l : List α} (h : Chg F w w') (hr : Row enc size w (some ⟨b, off, none⟩) l) (hb : ¬ F b) : Row enc size w' (some ⟨b, off, none⟩) l := by
  rcases hr with hr | ⟨b', off', h1, h2⟩
  · exact .inl hr
  · injection h1 with h1
    injection h1 with h1 h3
    subst h1 h3
    refine .inr ⟨b, off, rfl, fun j hj i hi => ?_⟩
    have e := h2 j hj i hi
    rw [List.getElem?_eq_getElem (by rw [hs]; exact hi)] at e ⊢
    exact cell_chg h e hb

/-! ### Blocks of unlike elements are unlike -/

theorem own_type {α : Type} {enc : α → List Value} {size : Nat} {e : TypeId} {base : Nat} {v : Value} {l : List α} (ho : Owns enc size e w base v l) {g : Nat} (hg : v.ownBlock = some g) : ∃ cur, w.heap[g]? = some (.cells cur e (0, 0)) := by
  rcases ho.2 with ⟨rfl, _⟩ | ⟨g', cap, cur, rfl, _, h1, _⟩
  · cases hg
  · injection hg with hg
    subst hg
    exact ⟨cur, h1⟩
theorem type_ne {b g : Nat} {t e : TypeId} {cs cur : Array Value} (h1 : w.heap[b]? = some (.cells cs t (0, 0))) (h2 : w.heap[g]? = some (.cells cur e (0, 0))) (hne : t ≠ e) : b ≠ g := by
  intro he
  subst he
  rw [h1] at h2
  injection h2 with h2
  injection h2 with _ h3 _
  exact hne h3
theorem own_set_far {α : Type} {enc : α → List Value} {size : Nat} {e : TypeId} {base : Nat} {v : Value} {l : List α} (ho : Owns enc size e w base v l) {b : Nat} (hb : ∀ g, v.ownBlock = some g → g ≠ b) (i : Nat) (u : Value) : Owns enc size e (w.setCell ⟨b, i, none⟩ u) base v l :=
  own_chg (chg_set (F := fun k => k = b) (chg_refl _ w) (.inl rfl) i u) ho hb

theorem owns_le {α : Type} {enc : α → List Value} {size : Nat} {e : TypeId} {base base' : Nat} {v : Value} {l : List α} (h : Owns enc size e w base v l) (hb : base' ≤ base) : Owns enc size e w base' v l :=
  ⟨h.1, h.2.imp id fun ⟨g, cap, cur, h1, h2, h3⟩ => ⟨g, cap, cur, h1, by omega, h3⟩⟩
/-- All these blocks hold elements of a type that is not e. -/
def Typed (G : Nat → Prop) (w : World) (e : TypeId) : Prop := ∀ k, G k → ∃ cur t, w.heap[k]? = some (.cells cur t (0, 0)) ∧ t ≠ e
theorem own_typed {α : Type} {enc : α → List Value} {size : Nat} {e : TypeId} {base : Nat} {v : Value} {l : List α} (ho : Owns enc size e w base v l) (hc : Chg G w w') (ht : Typed G w e) : Owns enc size e w' base v l :=
  own_chg hc ho fun g hg hG => by
    obtain ⟨cur, t, h1, h2⟩ := ht g hG
    obtain ⟨cur', h3⟩ := own_type ho hg
    exact type_ne h1 h3 h2 rfl
theorem blk_typed {b : Nat} {t : TypeId} {cs : List Value} (h : Arr.Blk w b t cs) (hc : Chg G w w') (ht : Typed G w t) : Arr.Blk w' b t cs :=
  blk_chg hc h fun hG => by
    obtain ⟨cur, t', h1, h2⟩ := ht b hG
    exact type_ne h1 h h2 rfl
theorem typed_one {b : Nat} {t e : TypeId} {cs : Array Value} (h : w.heap[b]? = some (.cells cs t (0, 0))) (hne : t ≠ e) : Typed (fun k => k = b) w e := fun k hk => by subst hk; exact ⟨_, _, h, hne⟩
theorem typed_own {α : Type} {enc : α → List Value} {size : Nat} {t e : TypeId} {base : Nat} {v : Value} {l : List α} (ho : Owns enc size t w base v l) (hne : t ≠ e) : Typed (fun k => some k = v.ownBlock) w e := fun k hk => by
  obtain ⟨cur, h⟩ := own_type ho hk.symm
  exact ⟨_, _, h, hne⟩
theorem grown_chg {row : Option Nat} (h : w.grownBy w' row) : Chg (fun k => some k = row) w w' := ⟨h.os, h.tape, h.output, h.size, fun k hk hn => h.block k hk hn⟩
theorem set_chg (w : World) (b i : Nat) (v : Value) : Chg (fun k => k = b) w (w.setCell ⟨b, i, none⟩ v) := chg_set (F := fun k => k = b) (chg_refl _ w) (.inl rfl) i v

end Go.Proofs.Ytghglgodkknlnaa.Foot
/- One new element put behind an own list: the arm of a walk. -/
namespace Go.Proofs.Ytghglgodkknlnaa.Nest
open Go.RowKit
open Go.Sort
open Kit
set_option linter.unusedVariables false
variable {α : Type} {enc : α → List Value} {size : Nat} {T t : TypeId} {P : Program} {z : Value} {bytes : Nat}

theorem one_arm (H : Ty enc size P t T z bytes) {w : World} {ops : Array Oper} {rest : List Oper} {o : Oper} {A : Act} {Q : Exit → Act → World → Prop} (hgd : o.guard = none) (s x : Operand) (ho : o.op = .call { callee := .builtin .append, args := #[s, x], argTypes := #[t, t] })
    (w1 : World) (C : Array Value) (hw : w = w1.alloc (.cells C T)) (y : α) (hC : C.toList = enc y) (base : Nat) (v : Value) (l : List α) (hv : A.eval s = v) (hown : Owns enc size T w1 base v l) (hx : A.eval x = .slice (some ⟨w1.heap.size, 0, none⟩) 1 1)
    (hl : l.length + 1 ≤ 100000) (hb8 : bytes ≤ 1000) (hbase : base ≤ w1.heap.size) (h : ∀ v' w', Owns enc size T w' base v' (l ++ [y]) → Below base w1 w' → wpList P ops Q rest (A.put o.dst v') w') : wpList P ops Q (o :: rest) A w := by
  subst hw
  have hb := below_alloc w1 (.cells C T)
  refine Two.append_apart H.hs H.hz H.one hgd s x t T ho H.und z bytes H.info H.zero base v l hv (own_on hown hb) (some ⟨w1.heap.size, 0, none⟩) 1 1 [y] hx rfl (row_new H.hs w1 [y] C T _ rfl (by rw [hC]; simp [flat])) (fun h => by cases h) (by unfold maxLen; omega) ?_ (Nat.le_trans hbase hb.size) ?_
  · have : (l.length + 1) * bytes ≤ 100000 * 1000 := Nat.mul_le_mul hl hb8
    omega
  · intro v' w' h1 h2 _
    exact h v' w' h1 ((hb.mono hbase).trans (Two.below_grown (own_on hown hb) h2 (Nat.le_trans hbase hb.size)))
end Go.Proofs.Ytghglgodkknlnaa.Nest
/- Draw: the document's Draws, as it runs. -/
namespace Go.Proofs.Ytghglgodkknlnaa.Drw
set_option maxRecDepth 100000
open Go.RowKit
open Go.Sort
open Kit
open Mon
open Tre (Al Lst inI lst_keep lst_take lst_at lst_new lst_none below_drewN' Allocs encL encL_len alloc_cells6 path Funds IntsL encI_len int_cell)
set_option linter.unusedVariables false
variable {w w' : World}

theorem encB_one (x : Bool) : ∀ u ∈ encB x, u.oneCell' = true := by
  intro u hu
  simp [encB] at hu
  subst hu; rfl
theorem info_bool : (Try.prog.info? 4).map (fun i => (i.zero, i.size, i.bytes)) = some (some (.bool false), 1, 1) := by kernel_rfl
theorem run_mkbools (w : World) (n : Nat) (hn : n ≤ 1000) : (Instr.makeSlice 61 (.int .i64 (n : Nat)) (.int .i64 (n : Nat))).run Try.prog w = .ok (.slice (some ⟨w.heap.size, 0, none⟩) n n) (w.alloc (.cells (madeCells #[.bool false] n) 4)) := by
  obtain ⟨i0, hi, hz0, hz1, hz2⟩ := info_parts info_bool
  have := run_make (P := Try.prog) w 61 4 i0 (.bool false) Try.underlying61 hi hz0 .i64 .i64 n n (by omega) (by omega) (by rw [hz2]; omega) (by omega)
  rw [hz1, Nat.mul_one] at this
  exact this
theorem made_bools (n : Nat) : (madeCells #[Value.bool false] n).toList = flat encB (List.replicate n false) := by
  rw [show flat encB (List.replicate n false) = List.replicate n (Value.bool false) by
    induction n with
    | zero => rfl
    | succ n ih =>
      rw [List.replicate_succ, List.replicate_succ, ← ih]; rfl]
  apply List.eq_replicate_iff.2
  refine ⟨by simp [madeCells], fun v hv => ?_⟩
  simp only [madeCells, Array.toList_map, List.mem_map] at hv
  obtain ⟨j, _, rfl⟩ := hv
  simp [Nat.mod_one]
abbrev OwB (w : World) (base : Nat) (v : Value) (l : List Bool) : Prop := Owns encB 1 4 w base v l
abbrev OwD (w : World) (base : Nat) (v : Value) (l : List Dw) : Prop := Owns encD 2 44 w base v l
theorem own_bools (w : World) (base n : Nat) (hb : base ≤ w.heap.size) (hn : n ≤ 1000) : OwB (w.alloc (.cells (madeCells #[.bool false] n) 4)) base (.slice (some ⟨w.heap.size, 0, none⟩) n n) (List.replicate n false) := by
  refine ⟨by rw [flat_length encB_len], .inr ⟨_, n, _, by rw [List.length_replicate], hb, heap_alloc_new w _, by rw [List.length_replicate]; exact Nat.le_refl _, by unfold maxLen; omega, by rw [size_madeCells, Nat.mul_one], ?_⟩⟩
  rw [made_bools, List.length_replicate, List.take_of_length_le]
  rw [flat_length encB_len, List.length_replicate]; exact Nat.le_refl _
theorem unlike_blk {base : Nat} {v : Value} {g n c : Nat} {l : List Dw} {dl : List Bool} (h : OwD w base v l) (h2 : OwB w base (.slice (some ⟨g, 0, none⟩) n c) dl) : v.ownBlock ≠ some g := by
  intro e
  obtain ⟨c1, e1⟩ := Foot.own_type h e
  obtain ⟨c2, e2⟩ := Foot.own_type h2 (g := g) rfl
  exact Foot.type_ne e1 e2 (by decide) rfl
theorem bools_lst {base : Nat} {g n c : Nat} {dl : List Bool} (h : OwB w base (.slice (some ⟨g, 0, none⟩) n c) dl) (hn : dl.length = n) : Lst encB 1 w (some ⟨g, 0, none⟩) n c dl := by
  obtain ⟨a, c', e, h1, h2, h3, h4⟩ := owns_row encB_len h
  injection e with e1 e2 e3
  subst e1 e3
  exact ⟨hn, by omega, h2, (fun h => by cases h), h4⟩
theorem apart_bools {base : Nat} {v : Value} {g n c : Nat} {l : List Dw} {dl : List Bool} (h : OwD w base v l) (h2 : OwB w base (.slice (some ⟨g, 0, none⟩) n c) dl) : Two.Apart v (.slice (some ⟨g, 0, none⟩) n c) := .inr fun e => unlike_blk h h2 e.symm
theorem encB_put (a : Bool) : encB true = (encB a).set 0 (.bool true) := rfl
theorem drawsE_no {fl : List Tre.Fd} {al : List Al} {f am now : Int} (h : path fl f = []) : drawsE fl al f am now = 4 ∧ drawsL fl al f am now = [] := by
  have he : drawsE fl al f am now = 4 := by unfold drawsE; rw [if_pos h]
  exact ⟨he, by unfold drawsL; rw [if_neg (by rw [he]; decide)]⟩
theorem drawsE_neg {fl : List Tre.Fd} {al : List Al} {f am now : Int} (h : path fl f ≠ []) (ha : am < 0) : drawsE fl al f am now = 1 ∧ drawsL fl al f am now = [] := by
  have he : drawsE fl al f am now = 1 := by unfold drawsE; rw [if_neg h, if_pos ha]
  exact ⟨he, by unfold drawsL; rw [if_neg (by rw [he]; decide)]⟩
theorem draws_far {fl : List Tre.Fd} {al : List Al} {f am now : Int} {out : List Dw} {b : Int} (h : path fl f ≠ []) (ha : ¬ am < 0) (he : takeD al (order al now (path fl f)) am = out ∧ restD al (order al now (path fl f)) am = b) :
    (0 < b → drawsE fl al f am now = 7 ∧ drawsL fl al f am now = []) ∧ (¬ 0 < b → drawsE fl al f am now = 0 ∧ drawsL fl al f am now = out) := by
  have e : drawsE fl al f am now = if 0 < b then 7 else 0 := by unfold drawsE; rw [if_neg h, if_neg ha, he.2]
  refine ⟨fun hb => ?_, fun hb => ?_⟩
  · rw [if_pos hb] at e
    exact ⟨e, by unfold drawsL; rw [if_neg (by rw [e]; decide)]⟩
  · rw [if_neg hb] at e
    exact ⟨e, by unfold drawsL; rw [if_pos e, he.1]⟩
set_option maxHeartbeats 16000000 in
theorem rdraws_any (fl : List Tre.Fd) (al : List Al) (hok : ∀ x ∈ fl, x.ok) (hoka : ∀ x ∈ al, x.ok) (a a2 : Option Addr) (n c n2 c2 : Nat) (f am now : Int) (w : World) (h : Funds w a n c fl) (hn : n ≤ 100) (h2 : Allocs w a2 n2 c2 al) (hn2 : n2 ≤ 100) (hf : inI f) (ham : inI am) (hnow : inI now) :
    Calls Try.prog 10 #[.slice a n c, .slice a2 n2 c2, .int .i64 f, .int .i64 am, .int .i64 now] w fun e w' => ∃ v, e = .returned (.tuple #[v, .int .i64 (drawsE fl al f am now)]) ∧ OutD w' w.heap.size v (drawsL fl al f am now) ∧ Below w.heap.size w w' := by
  have HL := Lib.hid (And.intro h2 (And.intro h2.len hoka))
  have HP := Lib.hid (Tre.rpath_any fl hok a n c w h hn f)
  have hpl := Tre.pathI_length fl f (by rw [h.len]; exact hn)
  have HD := Lib.hid (path_desc fl f)
  clear h h2 hok hoka
  obtain ⟨ham0, ham1⟩ := ham
  go_enter Try.func10, Try.ntmps10
  go_wp2_with fail
  refine HP.out.mono ?_
  rintro e w1 ⟨v, rfl, hni, hb1⟩
  obtain ⟨a1, c1, rfl, hl1, -⟩ := hni
  have HB1 := Lib.hid (And.intro hb1 (lst_keep encL_len HL.out.1 hb1))
  have HI := Lib.hid hl1
  obtain ⟨m, hm⟩ : ∃ m, m = (path fl f).length := ⟨_, rfl⟩
  rw [← hm] at HI hpl ⊢
  have HM := Lib.hid hm
  clear hb1 hl1 hm
  by_cases hm0 : m = 0
  · have HE := Lib.hid (drawsE_no (al := al) (am := am) (now := now) (List.eq_nil_of_length_eq_zero (by rw [← HM.out]; exact hm0)))
    subst hm0
    go_wp2_with fail
    go_ret2
    exact ⟨_, by rw [HE.out.1]; rfl, by rw [HE.out.2]; exact out_nil _ _ _ _ _, HB1.out.1⟩
  · have hne : path fl f ≠ [] := by intro e; rw [e] at HM; exact hm0 HM.out
    have hmb : ((m : Int) == 0) = false := beq_false_of_ne (by omega)
    by_cases hneg : am < 0
    · have HE := Lib.hid (drawsE_neg (al := al) (now := now) hne hneg)
      clear hne
      go_wp2_with fail
      go_ret2
      exact ⟨_, by rw [HE.out.1]; rfl, by rw [HE.out.2]; exact out_nil _ _ _ _ _, HB1.out.1⟩
    · have HE := Lib.hid (fun (out : List Dw) (b : Int) => draws_far (fl := fl) (al := al) (f := f) (am := am) (now := now) (out := out) (b := b) hne hneg)
      have HEm := Lib.hid (And.intro (own_empty encD 2 44 w1 w1.heap.size (Nat.le_refl _)) (below_alloc w1 (.cells #[] 44)))
      obtain ⟨w2, hw2⟩ : ∃ w2, w2 = w1.alloc (.cells #[] 44) := ⟨_, rfl⟩
      rw [← hw2] at HEm
      have hs2 : w1.heap.size ≤ w2.heap.size := HEm.out.2.size
      have hmk := run_mkbools w2 n2 (by omega)
      have HDn := Lib.hid (And.intro (own_bools w2 w1.heap.size n2 hs2 (by omega)) (And.intro (Nest.own_on HEm.out.1 (below_alloc w2 (.cells (madeCells #[.bool false] n2) 4))) (below_keep HEm.out.2 (below_alloc w2 (.cells (madeCells #[.bool false] n2) 4)))))
      have HFs := Lib.hid (show Far al now am (path fl f) 0 am [] (List.replicate n2 false) by
        have := far_start al now am (path fl f) (by omega)
        rwa [HL.out.2.1] at this)
      clear hne hs2 HEm
      subst hw2
      go_wp2_with fail
      obtain ⟨g, hg⟩ : ∃ g, w1.heap.size + 1 = g := ⟨_, rfl⟩
      rw [hg]
      rw [show (w1.alloc (.cells #[] 44)).heap.size = g by rw [← hg]; simp] at HDn
      clear hg hmk
      go_loopw [3, 13, 15] (fun av v kv wr => ∃ (b : Int) (k : Nat) (out : List Dw) (dl : List Bool), av = .int .i64 b ∧ kv = .int .i64 (k : Nat) ∧ Far al now am (path fl f) k b out dl ∧ OwD wr w1.heap.size v out ∧ OwB wr w1.heap.size (.slice (some ⟨g, 0, none⟩) n2 n2) dl ∧ Below w1.heap.size w1 wr) (fun av _ kv _ => (intOf av).toNat + (m - (intOf kv).toNat))
      case atStart => exact ⟨am, 0, [], _, rfl, rfl, HFs.out, HDn.out.2.1, HDn.out.1, HDn.out.2.2⟩
      case round =>
        obtain ⟨b, k, out, dl, rfl, rfl, hfar, ho, hbl, hb⟩ := hrel
        have HF := Lib.hid hfar
        have HO := Lib.hid (And.intro ho (And.intro hbl hb))
        have hkm : k ≤ m := by rw [HM.out]; exact hfar.kp
        obtain ⟨hb0, hb1⟩ := hfar.amt
        have HDl := Lib.hid (show dl.length = n2 by rw [hfar.dlen, HL.out.2.1])
        clear hfar ho hbl hb
        by_cases hk : k < m
        · by_cases hp : 0 < b
          · have hkp : k < (path fl f).length := by rw [← HM.out]; exact hk
            obtain ⟨pb, po, rfl⟩ := lst_at HI.out (by omega)
            have c0 := int_cell (lst_keep encI_len HI.out HO.out.2.2) hkp
            have hcall := next_any al a2 (some ⟨g, 0, none⟩) n2 c2 n2 dl (path fl f)[k] now wr (lst_keep encL_len HB1.out.2 HO.out.2.2) hn2 (bools_lst HO.out.2.1 HDl.out)
            have hfn := fun h => far_next HF.out hkp h
            have hft := fun q h => far_take (m := q) HF.out hkp HD.out hp h
            generalize (path fl f)[k] = pk at *
            cases hnx : nextD al pk now (doneOf dl) with
            | none =>
              have HN := Lib.hid (hfn hnx)
              rw [hnx] at hcall
              have HC := Lib.hid hcall
              clear hfn hft hnx hcall hkp
              go_wp2_with fail
              refine HC.out.mono ?_
              rintro e w3 ⟨rfl, hb3⟩
              have H3 := Lib.hid (And.intro (Nest.own_on HO.out.1 hb3) (And.intro (Nest.own_on HO.out.2.1 hb3) (below_keep HO.out.2.2 hb3)))
              have hI : idx none = -1 := rfl
              rw [hI]
              clear hb3 hI
              go_wp2_with fail
              go_roundw
              case rel => exact ⟨b, k + 1, out, dl, rfl, by go_num, HN.out, H3.out.1, H3.out.2.1, H3.out.2.2⟩
              case measure => simp [intOf]; omega
            | some q =>
              obtain ⟨x, hx, hav, hqd, hnew⟩ := hft q hnx
              have hq2 : q < n2 := by rw [← HDl.out]; exact hqd
              have hql : q < al.length := by rw [HL.out.2.1]; exact hq2
              have HN := Lib.hid hnew
              rw [hnx] at hcall
              have HC := Lib.hid hcall
              have hxk : inI x.avail := (HL.out.2.2 x (List.mem_of_getElem? hx)).2.2.2.1
              have hxe : al[q] = x := by have := List.getElem?_eq_getElem hql; rw [hx] at this; injection this with this; exact this.symm
              have HQ := Lib.hid (And.intro hqd (And.intro hql hxe))
              obtain ⟨b2, o2, rfl⟩ := lst_at HL.out.1 (by omega)
              have hln := far_len HF.out
              have hln2 : (path fl f).length * al.length ≤ 101 * 100 := Nat.mul_le_mul (by rw [← HM.out]; exact hpl) (by rw [HL.out.2.1]; exact hn2)
              have HLn := Lib.hid (show out.length + 1 ≤ maxLen ∧ (out.length + 1) * 16 ≤ 140737488355328 by unfold maxLen; omega)
              have h02 := Lib.hid (show 0 < 2 by omega)
              have HX := Lib.hid hx
              have HHk := Lib.hid hxk
              clear hfn hft hnx hcall hkp hnew hln hln2 hxe hx hxk
              go_wp2_with fail
              refine HC.out.mono ?_
              rintro e w3 ⟨rfl, hb3⟩
              have H3 := Lib.hid (And.intro (Nest.own_on HO.out.1 hb3) (And.intro (Nest.own_on HO.out.2.1 hb3) (below_keep HO.out.2.2 hb3)))
              have hI : idx (some q) = (q : Int) := rfl
              rw [hI]
              clear hb3 hI
              obtain ⟨c9, f9, o9⟩ := owns_put encB_len H3.out.2.1 HDl.out (List.getElem?_eq_getElem HQ.out.1) Nat.zero_lt_one (fun _ => true) (.bool true) encB_put
              rw [Nat.mul_one, Nat.add_zero] at c9 f9 o9
              have hge : w1.heap.size ≤ g ∧ g < w3.heap.size := World.ownsRow.lt H3.out.2.1 g rfl
              obtain ⟨w4, hw4⟩ : ∃ w4, w4 = w3.setCell ⟨g, q, none⟩ (.bool true) := ⟨_, rfl⟩
              have hB4 : Below w1.heap.size w1 w4 := by rw [hw4]; exact H3.out.2.2.setCell (p := ⟨g, q, none⟩) hge.1 _
              have hO4 := Foot.own_set_far H3.out.1 (b := g) (fun g' e1 e2 => unlike_blk H3.out.1 H3.out.2.1 (by rw [e1, e2])) q (.bool true)
              rw [← hw4] at hO4
              have q3 := (alloc_cells6 (lst_keep encL_len HB1.out.2 hB4) HQ.out.2.1).2.2.2.1
              rw [HQ.out.2.2] at q3
              rw [← hw4] at o9
              have HW := Lib.hid (And.intro hO4 (And.intro o9 hB4))
              have q3b := q3
              rw [hw4] at q3b
              have c9' : w3.cell? ⟨g, q, none⟩ = some (.bool dl[q]) := c9
              clear hB4 hO4 o9 c9 hge q3
              subst hw4
              generalize dl[q] = dq at *
              generalize x.avail = av at *
              by_cases hgt : b < av
              · have hmin : min av b = b := by omega
                rw [hmin] at HN
                have HA := Lib.hid (And.intro (Nest.own_on HW.out.1 (below_alloc (w3.setCell ⟨g, q, none⟩ (.bool true)) (.cells #[.int .i64 (q : Nat), .int .i64 b] 44))) (And.intro (Nest.own_on HW.out.2.1 (below_alloc (w3.setCell ⟨g, q, none⟩ (.bool true)) (.cells #[.int .i64 (q : Nat), .int .i64 b] 44))) (And.intro (show Kit.Row encD 2 ((w3.setCell ⟨g, q, none⟩ (.bool true)).alloc (.cells #[.int .i64 (q : Nat), .int .i64 b] 44)) (some ⟨w3.heap.size, 0, none⟩) [⟨(q : Nat), b⟩] by have := draw_row (w3.setCell ⟨g, q, none⟩ (.bool true)) (q : Nat) b; rwa [size_setCell] at this) (below_keep HW.out.2.2 (below_alloc (w3.setCell ⟨g, q, none⟩ (.bool true)) (.cells #[.int .i64 (q : Nat), .int .i64 b] 44))))))
                clear hmin
                go_wp2_with (first | (at_builtin; refine Two.append_apart encD_len h02.out encD_one rfl (.tmp 62) (.tmp 66) 26 44 rfl Try.underlying26 (.agg #[.int .i64 0, .int .i64 0]) 16 info_draw rfl w1.heap.size _ out rfl HA.out.1 (some ⟨w3.heap.size, 0, none⟩) 1 1 [⟨(q : Nat), b⟩] rfl rfl HA.out.2.2.1 (fun h => by cases h) HLn.out.1 HLn.out.2 HA.out.2.2.2.size ?_; intro v9 w9 ho9 hg9 hx9; have H9 := Lib.hid (And.intro ho9 (And.intro (Two.owns_kept HA.out.2.1 hg9 (apart_bools HA.out.1 HA.out.2.1)) (HA.out.2.2.2.trans (Two.below_grown HA.out.1 hg9 HA.out.2.2.2.size)))); clear ho9 hg9 hx9) | fail)
                go_roundw
                case rel => exact ⟨0, k, out ++ [⟨(q : Nat), b⟩], dl.set q true, by first | rfl | (congr 1; omega), rfl, by have := HN.out; rwa [Int.sub_self] at this, H9.out.1, H9.out.2.1, H9.out.2.2⟩
                case measure => simp [intOf]; omega
              · have hmin : min av b = av := by omega
                rw [hmin] at HN
                have HA := Lib.hid (And.intro (Nest.own_on HW.out.1 (below_alloc (w3.setCell ⟨g, q, none⟩ (.bool true)) (.cells #[.int .i64 (q : Nat), .int .i64 av] 44))) (And.intro (Nest.own_on HW.out.2.1 (below_alloc (w3.setCell ⟨g, q, none⟩ (.bool true)) (.cells #[.int .i64 (q : Nat), .int .i64 av] 44))) (And.intro (show Kit.Row encD 2 ((w3.setCell ⟨g, q, none⟩ (.bool true)).alloc (.cells #[.int .i64 (q : Nat), .int .i64 av] 44)) (some ⟨w3.heap.size, 0, none⟩) [⟨(q : Nat), av⟩] by have := draw_row (w3.setCell ⟨g, q, none⟩ (.bool true)) (q : Nat) av; rwa [size_setCell] at this) (below_keep HW.out.2.2 (below_alloc (w3.setCell ⟨g, q, none⟩ (.bool true)) (.cells #[.int .i64 (q : Nat), .int .i64 av] 44))))))
                clear hmin
                go_wp2_with (first | (at_builtin; refine Two.append_apart encD_len h02.out encD_one rfl (.tmp 62) (.tmp 66) 26 44 rfl Try.underlying26 (.agg #[.int .i64 0, .int .i64 0]) 16 info_draw rfl w1.heap.size _ out rfl HA.out.1 (some ⟨w3.heap.size, 0, none⟩) 1 1 [⟨(q : Nat), av⟩] rfl rfl HA.out.2.2.1 (fun h => by cases h) HLn.out.1 HLn.out.2 HA.out.2.2.2.size ?_; intro v9 w9 ho9 hg9 hx9; have H9 := Lib.hid (And.intro ho9 (And.intro (Two.owns_kept HA.out.2.1 hg9 (apart_bools HA.out.1 HA.out.2.1)) (HA.out.2.2.2.trans (Two.below_grown HA.out.1 hg9 HA.out.2.2.2.size)))); clear ho9 hg9 hx9) | fail)
                go_roundw
                case rel => exact ⟨b - av, k, out ++ [⟨(q : Nat), av⟩], dl.set q true, rfl, rfl, HN.out, H9.out.1, H9.out.2.1, H9.out.2.2⟩
                case measure => simp [intOf]; omega
          · have HZ := Lib.hid ((HE.out out b (far_end HF.out (.inr (by omega)))).2 (by omega))
            go_wp2_with fail
            go_ret2
            exact ⟨_, by rw [HZ.out.1]; rfl, by rw [HZ.out.2]; exact .inl (Foot.owns_le HO.out.1 HB1.out.1.size), below_keep HB1.out.1 HO.out.2.2⟩
        · obtain rfl : k = m := by omega
          by_cases hp : 0 < b
          · have HZ := Lib.hid ((HE.out out b (far_end HF.out (.inl HM.out))).1 (by omega))
            go_wp2_with fail
            go_ret2
            exact ⟨_, by rw [HZ.out.1]; rfl, by rw [HZ.out.2]; exact out_nil _ _ _ _ _, below_keep HB1.out.1 HO.out.2.2⟩
          · have HZ := Lib.hid ((HE.out out b (far_end HF.out (.inl HM.out))).2 (by omega))
            go_wp2_with fail
            go_ret2
            exact ⟨_, by rw [HZ.out.1]; rfl, by rw [HZ.out.2]; exact .inl (Foot.owns_le HO.out.1 HB1.out.1.size), below_keep HB1.out.1 HO.out.2.2⟩
end Go.Proofs.Ytghglgodkknlnaa.Drw
/- Draw: the document's Charge and Total, as they run. -/
namespace Go.Proofs.Ytghglgodkknlnaa.Drw
set_option maxRecDepth 100000
open Go.RowKit
open Go.Sort
open Kit
open Mon
open Tre (Lst inI lst_keep lst_take lst_at lst_new lst_none below_drewN' encI encI_len encI_one OwI own_chg' info_i lit_row owns_lit ints_elems)
set_option linter.unusedVariables false
variable {w w' : World}

theorem charge_neg {l : List Dw} {k : Nat} {x : Dw} (hx : l[k]? = some x) (h : x.amt < 0) (a : Int) : chargeTo (l.drop k) a = none := by
  have hk := (List.getElem?_eq_some_iff.1 hx).1
  have he := (List.getElem?_eq_some_iff.1 hx).2
  rw [List.drop_eq_getElem_cons hk, he, chargeTo, if_pos h]
theorem charge_step {l : List Dw} {k : Nat} {x : Dw} (hx : l[k]? = some x) (h : ¬ x.amt < 0) (a : Int) : chargeTo (l.drop k) a = (chargeTo (l.drop (k + 1)) (a - min x.amt a)).map fun p => (⟨x.alloc, min x.amt a⟩ :: p.1, p.2) := by
  have hk := (List.getElem?_eq_some_iff.1 hx).1
  have he := (List.getElem?_eq_some_iff.1 hx).2
  rw [List.drop_eq_getElem_cons hk, he, chargeTo, if_neg h]
  cases chargeTo (l.drop (k + 1)) (a - min x.amt a) with
  | none => rfl
  | some p => rfl
theorem chargeE_arg {l : List Dw} {a : Int} (h : a < 0) : chargeE l a = 1 := by unfold chargeE; rw [if_pos h]
theorem chargeE_none {l : List Dw} {a : Int} (h0 : 0 ≤ a) (h : chargeTo l a = none) : chargeE l a = 7 := by unfold chargeE; rw [if_neg (by omega), h]
theorem chargeE_some {l k : List Dw} {a b : Int} (h0 : 0 ≤ a) (h : chargeTo l a = some (k, b)) : chargeE l a = if 0 < b then 7 else 0 := by unfold chargeE; rw [if_neg (by omega), h]
theorem chargeL_no {l : List Dw} {a : Int} (h : chargeE l a ≠ 0) : chargeL l a = [] := by unfold chargeL; rw [if_neg h]
theorem chargeL_some {l k : List Dw} {a b : Int} (h0 : 0 ≤ a) (h : chargeTo l a = some (k, b)) (hb : ¬ 0 < b) : chargeL l a = k := by
  unfold chargeL
  rw [chargeE_some h0 h, if_neg hb, if_pos rfl, h]
set_option maxHeartbeats 8000000 in
theorem rcharge_any (a : Option Addr) (n c : Nat) (l : List Dw) (am : Int) (w : World) (h : Draws w a n c l) (hn : n ≤ 100) (hok : ∀ x ∈ l, x.ok) (ham : inI am) :
    Calls Try.prog 14 #[.slice a n c, .int .i64 am] w fun e w' => ∃ v, e = .returned (.tuple #[v, .int .i64 (chargeE l am)]) ∧ OutD w' w.heap.size v (chargeL l am) ∧ Below w.heap.size w w' := by
  have HL := Lib.hid (And.intro h (And.intro h.len hok))
  clear h hok
  by_cases h0 : am < 0
  · have HE := Lib.hid (show chargeE l am = 1 ∧ chargeL l am = [] from ⟨chargeE_arg h0, chargeL_no (by rw [chargeE_arg h0]; decide)⟩)
    go_enter Try.func14, Try.ntmps14
    go_wp2_with fail
    go_ret2
    exact ⟨_, by rw [HE.out.1]; rfl, by rw [HE.out.2]; exact out_nil _ _ _ _ _, Below.refl _ _⟩
  · have HEm := Lib.hid (And.intro (own_empty encD 2 44 w w.heap.size (Nat.le_refl _)) (below_alloc w (.cells #[] 44)))
    have H0 := Lib.hid (show 0 ≤ am by omega)
    go_enter Try.func14, Try.ntmps14
    go_wp2_with fail
    go_loopw [1, 6, 7] (fun av v i wr => ∃ (k : Nat) (b : Int) (out : List Dw), k ≤ n ∧ i = .int .i64 (k : Nat) ∧ av = .int .i64 b ∧ (0 ≤ b ∧ b ≤ am) ∧ out.length = k ∧ chargeTo l am = (chargeTo (l.drop k) b).map (fun p => (out ++ p.1, p.2)) ∧ Owns encD 2 44 wr w.heap.size v out ∧ Below w.heap.size w wr) (fun _ _ i _ => n - (intOf i).toNat)
    case atStart => exact ⟨0, am, [], Nat.zero_le _, rfl, rfl, ⟨by omega, Int.le_refl _⟩, rfl, by cases hc : chargeTo l am <;> simp [hc], HEm.out.1, HEm.out.2⟩
    case round =>
      obtain ⟨k, b, out, hk, rfl, rfl, ⟨hb0, hb1⟩, hol, hct, hown, hb⟩ := hrel
      have HO := Lib.hid (And.intro hct (And.intro hown (And.intro hb hol)))
      clear hct hown hb hol
      by_cases hlt : k < n
      · have hkl : k < l.length := by rw [HL.out.2.1]; exact hlt
        obtain ⟨b2, o2, rfl⟩ := lst_at HL.out.1 (by omega)
        obtain ⟨q0, q1⟩ := draw_cells (lst_keep encD_len HL.out.1 HO.out.2.2.1) hkl
        have hget := List.getElem?_eq_getElem hkl
        have hxk := HL.out.2.2 l[k] (List.getElem_mem hkl)
        generalize l[k] = x at *
        have hng := fun h => charge_neg hget h b
        have hst := fun h => charge_step hget h b
        obtain ⟨x0, x1⟩ := x
        simp only at q0 q1 hng hst
        have hx1 := hxk.2
        simp only at hx1
        have HX := Lib.hid (And.intro hng hst)
        clear hng hst hget hxk
        by_cases hneg : x1 < 0
        · have HE := Lib.hid (show chargeE l am = 7 ∧ chargeL l am = [] by
            have hn0 : chargeTo l am = none := by rw [HO.out.1, HX.out.1 hneg]; rfl
            exact ⟨chargeE_none H0.out hn0, chargeL_no (by rw [chargeE_none H0.out hn0]; decide)⟩)
          go_wp2_with fail
          go_ret2
          exact ⟨_, by rw [HE.out.1]; rfl, by rw [HE.out.2]; exact out_nil _ _ _ _ _, HO.out.2.2.1⟩
        · have hst := HX.out.2 hneg
          have hl1 : (out ++ ([⟨x0, min x1 b⟩] : List Dw)).length = k + 1 := by rw [List.length_append, HO.out.2.2.2]; rfl
          have HSt := Lib.hid (And.intro (show chargeTo l am = (chargeTo (l.drop (k + 1)) (b - min x1 b)).map (fun p => ((out ++ [⟨x0, min x1 b⟩]) ++ p.1, p.2)) by
            rw [HO.out.1, hst]
            cases chargeTo (l.drop (k + 1)) (b - min x1 b) with
            | none => rfl
            | some p => simp) hl1)
          have hol2 := HO.out.2.2.2
          have HD := Lib.hid (show out.length + 1 ≤ maxLen ∧ (out.length + 1) * 16 ≤ 140737488355328 by unfold maxLen; omega)
          clear hst hl1 hol2
          by_cases hgt : b < x1
          · have hmin : min x1 b = b := by omega
            rw [hmin] at HSt
            have HA1 := Lib.hid (And.intro (Nest.own_on HO.out.2.1 (below_alloc wr (.cells #[.int .i64 x0, .int .i64 b] 44))) (And.intro (draw_row wr x0 b) (below_keep HO.out.2.2.1 (below_alloc wr (.cells #[.int .i64 x0, .int .i64 b] 44)))))
            have h02 := Lib.hid (show 0 < 2 by omega)
            clear hmin
            go_wp2_with (first | (at_builtin; refine Two.append_apart encD_len h02.out encD_one rfl (.tmp 36) (.tmp 44) 26 44 rfl Try.underlying26 (.agg #[.int .i64 0, .int .i64 0]) 16 info_draw rfl w.heap.size _ out rfl HA1.out.1 (some ⟨wr.heap.size, 0, none⟩) 1 1 [⟨x0, b⟩] rfl rfl HA1.out.2.1 (fun h => by cases h) HD.out.1 HD.out.2 HA1.out.2.2.size ?_; intro v9 w9 ho9 hg9 hx9; have HB9 := Lib.hid (HA1.out.2.2.trans (Two.below_grown HA1.out.1 hg9 HA1.out.2.2.size)); have HO9 := Lib.hid ho9; clear ho9 hg9 hx9) | fail)
            go_roundw
            case rel => exact ⟨k + 1, 0, out ++ [⟨x0, b⟩], by omega, by go_num, by first | rfl | (congr 1; omega), ⟨by omega, by omega⟩, HSt.out.2, by have := HSt.out.1; rwa [Int.sub_self] at this, HO9.out, HB9.out⟩
            case measure => simp [intOf]; omega
          · have hmin : min x1 b = x1 := by omega
            rw [hmin] at HSt
            have HA1 := Lib.hid (And.intro (Nest.own_on HO.out.2.1 (below_alloc wr (.cells #[.int .i64 x0, .int .i64 x1] 44))) (And.intro (draw_row wr x0 x1) (below_keep HO.out.2.2.1 (below_alloc wr (.cells #[.int .i64 x0, .int .i64 x1] 44)))))
            have h02 := Lib.hid (show 0 < 2 by omega)
            clear hmin
            go_wp2_with (first | (at_builtin; refine Two.append_apart encD_len h02.out encD_one rfl (.tmp 36) (.tmp 44) 26 44 rfl Try.underlying26 (.agg #[.int .i64 0, .int .i64 0]) 16 info_draw rfl w.heap.size _ out rfl HA1.out.1 (some ⟨wr.heap.size, 0, none⟩) 1 1 [⟨x0, x1⟩] rfl rfl HA1.out.2.1 (fun h => by cases h) HD.out.1 HD.out.2 HA1.out.2.2.size ?_; intro v9 w9 ho9 hg9 hx9; have HB9 := Lib.hid (HA1.out.2.2.trans (Two.below_grown HA1.out.1 hg9 HA1.out.2.2.size)); have HO9 := Lib.hid ho9; clear ho9 hg9 hx9) | fail)
            go_roundw
            case rel => exact ⟨k + 1, b - x1, out ++ [⟨x0, x1⟩], by omega, by go_num, rfl, ⟨by omega, by omega⟩, HSt.out.2, HSt.out.1, HO9.out, HB9.out⟩
            case measure => simp [intOf]; omega
      · obtain rfl : n = k := by omega
        have hct : chargeTo l am = some (out, b) := by
          rw [HO.out.1, List.drop_eq_nil_of_le (by rw [HL.out.2.1]; exact Nat.le_refl _)]; simp [chargeTo]
        by_cases hpos : 0 < b
        · have HE := Lib.hid (show chargeE l am = 7 ∧ chargeL l am = [] by
            have he : chargeE l am = 7 := by rw [chargeE_some H0.out hct, if_pos hpos]
            exact ⟨he, chargeL_no (by rw [he]; decide)⟩)
          clear hct
          go_wp2_with fail
          go_ret2
          exact ⟨_, by rw [HE.out.1]; rfl, by rw [HE.out.2]; exact out_nil _ _ _ _ _, HO.out.2.2.1⟩
        · have HE := Lib.hid (show chargeE l am = 0 ∧ chargeL l am = out from ⟨by rw [chargeE_some H0.out hct, if_neg hpos], chargeL_some H0.out hct hpos⟩)
          clear hct
          go_wp2_with fail
          go_ret2
          exact ⟨_, by rw [HE.out.1]; rfl, by rw [HE.out.2]; exact .inl HO.out.2.1, HO.out.2.2.1⟩

/-! ### Total -/

theorem amtsD_take {l : List Dw} {k : Nat} {x : Dw} (h : l[k]? = some x) : amtsD (l.take (k + 1)) = amtsD (l.take k) ++ [x.amt] := by
  have hk := (List.getElem?_eq_some_iff.1 h).1
  have he := (List.getElem?_eq_some_iff.1 h).2
  unfold amtsD
  rw [List.take_succ_eq_append_getElem hk, he, List.map_append]; rfl
set_option maxHeartbeats 4000000 in
theorem rtotal_any (a : Option Addr) (n c : Nat) (l : List Dw) (w : World) (h : Draws w a n c l) (hn : n ≤ 100) :
    Calls Try.prog 16 #[.slice a n c] w fun e w' => e = .returned (.tuple #[.int .i64 (addN (amtsD l)), .int .i64 (addE (amtsD l))]) ∧ Below w.heap.size w w' := by
  have HL := Lib.hid (And.intro h h.len)
  clear h
  have HEm := Lib.hid (And.intro (own_empty encI 1 3 w w.heap.size (Nat.le_refl _)) (below_alloc w (.cells #[] 3)))
  go_enter Try.func16, Try.ntmps16
  go_wp2_with fail
  go_loopw [4, 5] (fun v i wr => ∃ k : Nat, k ≤ n ∧ i = .int .i64 (k : Nat) ∧ OwI wr w.heap.size v (amtsD (l.take k)) ∧ Below w.heap.size w wr) (fun _ i _ => n - (intOf i).toNat)
  case atStart => exact ⟨0, Nat.zero_le _, rfl, HEm.out.1, HEm.out.2⟩
  case round =>
    obtain ⟨k, hk, rfl, hown, hb⟩ := hrel
    have HO := Lib.hid (And.intro hown hb)
    clear hown hb
    by_cases hlt : k < n
    · have hkl : k < l.length := by rw [HL.out.2]; exact hlt
      obtain ⟨b2, o2, rfl⟩ := lst_at HL.out.1 (by omega)
      obtain ⟨-, q1⟩ := draw_cells (lst_keep encD_len HL.out.1 HO.out.2) hkl
      have hat := amtsD_take (List.getElem?_eq_getElem hkl)
      generalize l[k] = x at *
      obtain ⟨x0, x1⟩ := x
      simp only at q1 hat
      have HAt := Lib.hid hat
      have hlx : (amtsD (l.take k)).length ≤ 100 := by unfold amtsD; rw [List.length_map, List.length_take]; omega
      obtain ⟨lx, hx⟩ : ∃ y, y = amtsD (l.take k) := ⟨_, rfl⟩
      rw [← hx] at HO HAt hlx
      have HA1 := Lib.hid (own_chg' HO.out.1 (below_alloc wr (.cells #[.int .i64 x1] 3)))
      have HA2 := Lib.hid (lit_row wr x1)
      have HA3 := Lib.hid (below_keep HO.out.2 (below_alloc wr (.cells #[.int .i64 x1] 3)))
      have HD1 := Lib.hid (show lx.length + 1 ≤ maxLen by unfold maxLen; omega)
      have HD2 := Lib.hid (show (lx.length + 1) * 8 ≤ 140737488355328 by omega)
      clear hx hlx hat
      go_wp2_with (first | (at_builtin; refine Two.append_apart encI_len Nat.zero_lt_one encI_one rfl (.tmp 13) (.tmp 19) 50 3 rfl Try.underlying50 (.int .i64 0) 8 info_i rfl w.heap.size _ lx rfl HA1.out (some ⟨wr.heap.size, 0, none⟩) 1 1 [x1] rfl rfl HA2.out (fun h => by cases h) HD1.out HD2.out HA3.out.size ?_; intro v9 w9 ho9 hg9 hx9; have HB9 := Lib.hid (HA3.out.trans (Two.below_grown HA1.out hg9 HA3.out.size)); have HO9 := Lib.hid ho9; clear ho9 hg9 hx9) | fail)
      go_roundw
      case rel => exact ⟨k + 1, by omega, by go_num, by rw [HAt.out]; exact HO9.out, HB9.out⟩
      case measure => simp [intOf]; omega
    · obtain rfl : n = k := by omega
      have htk : l.take n = l := List.take_of_length_le (by rw [HL.out.2]; exact Nat.le_refl _)
      rw [htk] at HO
      obtain ⟨a10, c10, rfl, g1', g2', g3', g4'⟩ := owns_row encI_len HO.out.1
      have hel : Elems wr a10 (amtsD l) := ints_elems ⟨rfl, g1', g2', fun e => ⟨by have := g3' e; omega, g3' e⟩, g4'⟩
      have HE := Lib.hid (And.intro hel (And.intro (show (amtsD l).length ≤ maxLen from Nat.le_trans g1' g2') HO.out.2))
      obtain ⟨na, hna⟩ : ∃ na, na = (amtsD l).length := ⟨_, rfl⟩
      rw [← hna]
      have HNa := Lib.hid hna
      clear g1' g2' g3' g4' hel hna HO htk
      go_wp2_with fail
      refine (radd_any a10 na c10 (amtsD l) wr HNa.out.symm (by rw [HNa.out]; exact HE.out.2.1) HE.out.1).mono ?_
      rintro e w3 ⟨rfl, rfl⟩
      go_wp2_with fail
      go_ret2
      exact ⟨rfl, HE.out.2.2⟩
end Go.Proofs.Ytghglgodkknlnaa.Drw
/- Draw: DrawDraws and DrawCharges, over any draws that do as they should. -/
namespace Go.Proofs.Ytghglgodkknlnaa.Drw
set_option maxRecDepth 100000
open Go.RowKit
open Go.Sort
open Kit
open Mon
open Tre (Al Lst inI lst_keep lst_take lst_at lst_new Allocs Funds encF encF_len encL encL_len path)
open Led (Lg encG encG_len Legs)
set_option linter.unusedVariables false
variable {w w' : World}

theorem cut_fl {a : Option Addr} {n c : Nat} {l : List Tre.Fd} (h : Funds w a n c l) (hok : ∀ x ∈ l, x.ok) : ∃ m X, m = min n 12 ∧ X = l.take m ∧ Funds w a m c X ∧ (∀ x ∈ X, x.ok) ∧ m ≤ 12 :=
  ⟨min n 12, l.take (min n 12), rfl, rfl, lst_take h _ (Nat.min_le_left _ _), fun x hx => hok x (List.mem_of_mem_take hx), Nat.min_le_right _ _⟩
theorem cut_al {a : Option Addr} {n c : Nat} {l : List Al} (h : Allocs w a n c l) (hok : ∀ x ∈ l, x.ok) : ∃ m X, m = min n 16 ∧ X = l.take m ∧ Allocs w a m c X ∧ (∀ x ∈ X, x.ok) ∧ m ≤ 16 :=
  ⟨min n 16, l.take (min n 16), rfl, rfl, lst_take h _ (Nat.min_le_left _ _), fun x hx => hok x (List.mem_of_mem_take hx), Nat.min_le_right _ _⟩
theorem cut_dw {a : Option Addr} {n c : Nat} {l : List Dw} (h : Draws w a n c l) (hok : ∀ x ∈ l, x.ok) (k : Nat) : Draws w a (min n k) c (l.take (min n k)) ∧ (∀ x ∈ l.take (min n k), x.ok) :=
  ⟨lst_take h _ (Nat.min_le_left _ _), fun x hx => hok x (List.mem_of_mem_take hx)⟩

set_option maxHeartbeats 4000000 in
theorem draws_any (hP : Prog) (W : World) (a : Option Addr) (n c : Nat) (fl : List Tre.Fd) (hF : Funds W a n c fl) (hokf : ∀ x ∈ fl, x.ok) (a2 : Option Addr) (n2 c2 : Nat) (al : List Al) (hA : Allocs W a2 n2 c2 al) (hoka : ∀ x ∈ al, x.ok) (f am now : Int) (hf : inI f) (ham : inI am) (hnow : inI now) :
    Calls Try.prog 3 #[.slice a n c, .slice a2 n2 c2, .int .i64 f, .int .i64 am, .int .i64 now] W fun e W' => e = .returned (.bool true) ∧ Below W.heap.size W W' := by
  obtain ⟨m, X, hm, hX, hFX, hokX, hm12⟩ := cut_fl hF hokf
  obtain ⟨m2, Y, hm2, hY, hAY, hokY, hm16⟩ := cut_al hA hoka
  have HFew := Lib.hid (few_any a a2 n c n2 c2 m m2 hF.cap hA.cap hF.max hA.max hm hm2 W)
  have HX := Lib.hid (And.intro hFX hAY)
  have HDr := Lib.hid (hP.draws W X Y a a2 m c m2 c2 f am now hFX hAY hokX hokY (by omega) (by omega) hf ham hnow)
  have HRe := Lib.hid (fun w h1 h2 => rdraws_any X Y hokX hokY a a2 m c m2 c2 f am now w h1 (by omega) h2 (by omega) hf ham hnow)
  have HAw := Lib.hid (fun w => awake_any hP w)
  generalize drawsE X Y f am now = de at HDr HRe
  generalize drawsL X Y f am now = dl at HDr HRe
  clear hm hX hFX hokX hm12 hm2 hY hAY hokY hm16 hF hokf hA hoka hf ham hnow hP
  go_enter Try.func3, Try.ntmps3
  go_wp2_with fail
  refine HFew.out.mono ?_
  rintro e w1 ⟨rfl, rfl⟩
  go_wp2_with fail
  refine HDr.out.mono ?_
  rintro e w1 ⟨v1, rfl, ho1, hb1⟩
  obtain ⟨x1, k1, rfl, hl1⟩ := out_lst encD_len ho1
  obtain ⟨np, hnp⟩ : ∃ np, np = dl.length := ⟨_, rfl⟩
  rw [← hnp] at hl1 ⊢
  have HN := Lib.hid hnp
  have HB1 := Lib.hid (And.intro hb1 hl1)
  clear ho1 hb1 hl1 hnp
  go_wp2_with fail
  refine (HRe.out w1 (lst_keep encF_len HX.out.1 HB1.out.1) (lst_keep encL_len HX.out.2 HB1.out.1)).mono ?_
  rintro e w2 ⟨v2, rfl, ho2, hb2⟩
  obtain ⟨x2, k2, rfl, hl2⟩ := out_lst encD_len ho2
  rw [← HN.out] at hl2 ⊢
  have HB2 := Lib.hid (And.intro (below_keep HB1.out.1 hb2) (And.intro (lst_keep encD_len HB1.out.2 hb2) hl2))
  clear ho2 hb2 hl2
  go_wp2_with fail
  refine (HAw.out w2).mono ?_
  rintro e w3 ⟨rfl, hb3⟩
  have HB3 := Lib.hid (below_keep HB2.out.1 hb3)
  have HSm := Lib.hid (alike_any x1 x2 np k1 k2 dl w3 (lst_keep encD_len HB2.out.2.1 hb3) (lst_keep encD_len HB2.out.2.2 hb3))
  clear hb3
  go_wp2_with fail
  refine HSm.out.mono ?_
  rintro e w4 ⟨rfl, hb4⟩
  have HB4 := Lib.hid (below_keep HB3.out hb4)
  clear hb4
  go_wp2
  go_ret
  exact ⟨by first | rfl | exact ret_bool (by simp), HB4.out⟩
/-! ### DrawCharges -/

theorem run_40d (a : Option Addr) (n c : Nat) (h1 : 40 ≤ n) (h2 : n ≤ c) (w : World) : (Instr.sliceAt 26 (.slice a n c) none (some (.int .i64 40)) none).run Try.prog w = .ok (.slice a 40 c) w := by
  simp [go_sem]
  intro h; omega
set_option maxHeartbeats 4000000 in
theorem charges_any (hP : Prog) (W : World) (a : Option Addr) (n c : Nat) (l : List Dw) (hD : Draws W a n c l) (hok : ∀ x ∈ l, x.ok) (am : Int) (ham : inI am) :
    Calls Try.prog 4 #[.slice a n c, .int .i64 am] W fun e W' => e = .returned (.bool true) ∧ Below W.heap.size W W' := by
  obtain ⟨m, hm⟩ : ∃ m, m = min n 40 := ⟨_, rfl⟩
  obtain ⟨hDX, hokX⟩ := cut_dw hD hok 40
  rw [← hm] at hDX hokX
  obtain ⟨X, hX⟩ : ∃ X, X = l.take m := ⟨_, rfl⟩
  rw [← hX] at hDX hokX
  have hm40 : m ≤ 40 := by omega
  have hcap := hD.cap
  have hb1 : n ≤ 9223372036854775807 := by have := hD.max; unfold maxLen at this; omega
  have HX := Lib.hid hDX
  have HCh := Lib.hid (hP.charge W a m c X am hDX hokX (by omega) ham)
  have HRe := Lib.hid (fun w h => rcharge_any a m c X am w h (by omega) hokX ham)
  have HTo := Lib.hid (fun w h => hP.total w a m c X h hokX (by omega))
  have HRt := Lib.hid (fun w h => rtotal_any a m c X w h (by omega))
  have HAw := Lib.hid (fun w => awake_any hP w)
  generalize chargeE X am = de at HCh HRe
  generalize chargeL X am = dl at HCh HRe
  generalize addN (amtsD X) = tn at HTo HRt
  generalize addE (amtsD X) = te at HTo HRt
  clear hX hDX hokX hD hok ham hP hm40
  by_cases g1 : 40 < n
  · have g1i : (40 : Int) < n := by omega
    have r1 := run_40d a n c (by omega) hcap W
    obtain rfl : m = 40 := by omega
    clear g1 hm
    go_enter Try.func4, Try.ntmps4
    go_wp2_with fail
    refine HCh.out.mono ?_
    rintro e w1 ⟨v1, rfl, ho1, hb1⟩
    obtain ⟨x1, k1, rfl, hl1⟩ := out_lst encD_len ho1
    obtain ⟨np, hnp⟩ : ∃ np, np = dl.length := ⟨_, rfl⟩
    rw [← hnp] at hl1 ⊢
    have HN := Lib.hid hnp
    have HB1 := Lib.hid (And.intro hb1 hl1)
    clear ho1 hb1 hl1 hnp
    go_wp2_with fail
    refine (HRe.out w1 (lst_keep encD_len HX.out HB1.out.1)).mono ?_
    rintro e w2 ⟨v2, rfl, ho2, hb2⟩
    obtain ⟨x2, k2, rfl, hl2⟩ := out_lst encD_len ho2
    rw [← HN.out] at hl2 ⊢
    have HB2 := Lib.hid (And.intro (below_keep HB1.out.1 hb2) (And.intro (lst_keep encD_len HB1.out.2 hb2) hl2))
    clear ho2 hb2 hl2
    go_wp2_with fail
    refine (HTo.out w2 (lst_keep encD_len HX.out HB2.out.1)).mono ?_
    rintro e w3 ⟨rfl, hb3⟩
    have HB3 := Lib.hid (And.intro (below_keep HB2.out.1 hb3) (And.intro (lst_keep encD_len HB2.out.2.1 hb3) (lst_keep encD_len HB2.out.2.2 hb3)))
    clear hb3
    go_wp2_with fail
    refine (HRt.out w3 (lst_keep encD_len HX.out HB3.out.1)).mono ?_
    rintro e w4 ⟨rfl, hb4⟩
    have HB4 := Lib.hid (And.intro (below_keep HB3.out.1 hb4) (And.intro (lst_keep encD_len HB3.out.2.1 hb4) (lst_keep encD_len HB3.out.2.2 hb4)))
    clear hb4
    go_wp2_with fail
    refine (HAw.out w4).mono ?_
    rintro e w5 ⟨rfl, hb5⟩
    have HB5 := Lib.hid (below_keep HB4.out.1 hb5)
    have HSm := Lib.hid (alike_any x1 x2 np k1 k2 dl w5 (lst_keep encD_len HB4.out.2.1 hb5) (lst_keep encD_len HB4.out.2.2 hb5))
    clear hb5
    go_wp2_with fail
    refine HSm.out.mono ?_
    rintro e w6 ⟨rfl, hb6⟩
    have HB6 := Lib.hid (below_keep HB5.out hb6)
    clear hb6
    go_wp2
    go_ret
    exact ⟨by first | rfl | exact ret_bool (by simp), HB6.out⟩
  · have g1i : ¬ (40 : Int) < n := by omega
    obtain rfl : m = n := by omega
    clear g1 hm
    go_enter Try.func4, Try.ntmps4
    go_wp2_with fail
    refine HCh.out.mono ?_
    rintro e w1 ⟨v1, rfl, ho1, hb1⟩
    obtain ⟨x1, k1, rfl, hl1⟩ := out_lst encD_len ho1
    obtain ⟨np, hnp⟩ : ∃ np, np = dl.length := ⟨_, rfl⟩
    rw [← hnp] at hl1 ⊢
    have HN := Lib.hid hnp
    have HB1 := Lib.hid (And.intro hb1 hl1)
    clear ho1 hb1 hl1 hnp
    go_wp2_with fail
    refine (HRe.out w1 (lst_keep encD_len HX.out HB1.out.1)).mono ?_
    rintro e w2 ⟨v2, rfl, ho2, hb2⟩
    obtain ⟨x2, k2, rfl, hl2⟩ := out_lst encD_len ho2
    rw [← HN.out] at hl2 ⊢
    have HB2 := Lib.hid (And.intro (below_keep HB1.out.1 hb2) (And.intro (lst_keep encD_len HB1.out.2 hb2) hl2))
    clear ho2 hb2 hl2
    go_wp2_with fail
    refine (HTo.out w2 (lst_keep encD_len HX.out HB2.out.1)).mono ?_
    rintro e w3 ⟨rfl, hb3⟩
    have HB3 := Lib.hid (And.intro (below_keep HB2.out.1 hb3) (And.intro (lst_keep encD_len HB2.out.2.1 hb3) (lst_keep encD_len HB2.out.2.2 hb3)))
    clear hb3
    go_wp2_with fail
    refine (HRt.out w3 (lst_keep encD_len HX.out HB3.out.1)).mono ?_
    rintro e w4 ⟨rfl, hb4⟩
    have HB4 := Lib.hid (And.intro (below_keep HB3.out.1 hb4) (And.intro (lst_keep encD_len HB3.out.2.1 hb4) (lst_keep encD_len HB3.out.2.2 hb4)))
    clear hb4
    go_wp2_with fail
    refine (HAw.out w4).mono ?_
    rintro e w5 ⟨rfl, hb5⟩
    have HB5 := Lib.hid (below_keep HB4.out.1 hb5)
    have HSm := Lib.hid (alike_any x1 x2 np k1 k2 dl w5 (lst_keep encD_len HB4.out.2.1 hb5) (lst_keep encD_len HB4.out.2.2 hb5))
    clear hb5
    go_wp2_with fail
    refine HSm.out.mono ?_
    rintro e w6 ⟨rfl, hb6⟩
    have HB6 := Lib.hid (below_keep HB5.out hb6)
    clear hb6
    go_wp2
    go_ret
    exact ⟨by first | rfl | exact ret_bool (by simp), HB6.out⟩
end Go.Proofs.Ytghglgodkknlnaa.Drw
/- Common: two boxes made and written in a region that draws its order (`x, y := l[i], l[j]` of structs). -/
namespace Go.Proofs.Ytghglgodkknlnaa.BoxTwo
open Go.RowKit
open Kit
open Rel (slot)
set_option linter.unusedVariables false

/-- Where: the two allocs, the two stores, their slots. -/
structure At where
  i1 : Nat
  i2 : Nat
  s1 : Nat
  s2 : Nat
  d1 : Nat
  d2 : Nat
def Box (W : World) (T : TypeId) (Z X : List Value) (done : Bool) (v : Value) (w : World) : Prop := ∃ B, v = .pointer (some ⟨B, 0, none⟩) ∧ W.heap.size ≤ B ∧ Arr.Blk w B T (if done = true then X else Z)
def J (n : At) (W : World) (T : TypeId) (Z X Y : List Value) (L : Array Bool) (f : Tmp → Value) (w : World) : Prop :=
  Below W.heap.size W w ∧ (L.getD n.i1 false = true → Box W T Z X (L.getD n.s1 false) (f n.d1) w) ∧ (L.getD n.i2 false = true → Box W T Z Y (L.getD n.s2 false) (f n.d2) w) ∧ (L.getD n.i1 false = true → L.getD n.i2 false = true → f n.d1 ≠ f n.d2)
variable {n : At} {W w : World} {T : TypeId} {Z X Y : List Value} {L : Array Bool} {a : Act}
theorem start (m : Nat) (f : Tmp → Value) : J n W T Z X Y (Array.replicate m false) f W.drew := by
  have h : ∀ i : Nat, (Array.replicate m false).getD i false = false := by
    intro i
    by_cases hi : i < m <;> simp [hi]
  refine ⟨below_drew W, ?_, ?_, ?_⟩ <;> intro e <;> rw [h] at e <;> cases e
theorem go {k d : Nat} {v : Value} (h : J n W T Z X Y L (slot a) w) (k1 : k ≠ n.i1) (k2 : k ≠ n.i2) (k3 : k ≠ n.s1) (k4 : k ≠ n.s2) (e1 : d ≠ n.d1) (e2 : d ≠ n.d2) : J n W T Z X Y (L.setIfInBounds k true) (slot (a.put (some d) v)) w := by
  unfold J
  simp only [Rel.set_ne k1, Rel.set_ne k2, Rel.set_ne k3, Rel.set_ne k4, Rel.slot_put_ne e1, Rel.slot_put_ne e2]
  exact h
theorem mk1 (h : J n W T Z X Y L (slot a) w) (k2 : n.i1 ≠ n.i2) (k3 : n.i1 ≠ n.s1) (k4 : n.i1 ≠ n.s2) (e2 : n.d1 ≠ n.d2) (ht : n.d1 < a.tmps.size) (hs : L.getD n.s1 false = false) :
    J n W T Z X Y (L.setIfInBounds n.i1 true) (slot (a.put (some n.d1) (.pointer (some ⟨w.heap.size, 0, none⟩)))) (w.alloc (.cells Z.toArray T)) := by
  obtain ⟨h1, h2, h3, h4⟩ := h
  unfold J
  simp only [Rel.set_ne k2, Rel.set_ne k3, Rel.set_ne k4, Rel.slot_put_ne e2, Rel.slot_put ht, hs]
  refine ⟨h1.trans ((below_alloc w _).mono h1.size), fun _ => ⟨w.heap.size, rfl, h1.size, Arr.blk_new w _ _ Z rfl⟩, fun hi => ?_, fun _ hi e => ?_⟩
  · obtain ⟨B, e, hb, hk⟩ := h3 hi
    exact ⟨B, e, hb, Arr.blk_alloc hk _⟩
  · obtain ⟨B, e', hb, hk⟩ := h3 hi
    have := Arr.blk_lt hk
    rw [e'] at e
    injection e with e
    injection e with e
    injection e with e
    omega
theorem mk2 (h : J n W T Z X Y L (slot a) w) (k2 : n.i2 ≠ n.i1) (k3 : n.i2 ≠ n.s1) (k4 : n.i2 ≠ n.s2) (e2 : n.d2 ≠ n.d1) (ht : n.d2 < a.tmps.size) (hs : L.getD n.s2 false = false) :
    J n W T Z X Y (L.setIfInBounds n.i2 true) (slot (a.put (some n.d2) (.pointer (some ⟨w.heap.size, 0, none⟩)))) (w.alloc (.cells Z.toArray T)) := by
  obtain ⟨h1, h2, h3, h4⟩ := h
  unfold J
  simp only [Rel.set_ne k2, Rel.set_ne k3, Rel.set_ne k4, Rel.slot_put_ne e2, Rel.slot_put ht, hs]
  refine ⟨h1.trans ((below_alloc w _).mono h1.size), fun hi => ?_, fun _ => ⟨w.heap.size, rfl, h1.size, Arr.blk_new w _ _ Z rfl⟩, fun hi _ e => ?_⟩
  · obtain ⟨B, e, hb, hk⟩ := h2 hi
    exact ⟨B, e, hb, Arr.blk_alloc hk _⟩
  · obtain ⟨B, e', hb, hk⟩ := h2 hi
    have := Arr.blk_lt hk
    rw [e'] at e
    injection e with e
    injection e with e
    injection e with e
    omega
theorem ptr_ne {B C : Nat} (h : Value.pointer (some ⟨B, 0, none⟩) ≠ .pointer (some ⟨C, 0, none⟩)) : B ≠ C := fun e => h (by rw [e])
theorem st1 {m : Nat} (h : J n W T Z X Y L (slot a) w) (k1 : n.s1 ≠ n.i1) (k2 : n.s1 ≠ n.i2) (k3 : n.s1 ≠ n.s2) (hi : L.getD n.i1 false = true) (hs : L.getD n.s1 false = false) (hm : L.size = m) (hsm : n.s1 < m) :
    ∃ B, slot a n.d1 = .pointer (some ⟨B, 0, none⟩) ∧ Arr.Blk w B T Z ∧ J n W T Z X Y (L.setIfInBounds n.s1 true) (slot a) (w.setRow B X.toArray) := by
  obtain ⟨h1, h2, h3, h4⟩ := h
  obtain ⟨B, e, hb, hk⟩ := h2 hi
  rw [hs] at hk
  refine ⟨B, e, hk, ?_⟩
  unfold J
  simp only [Rel.set_ne k1, Rel.set_ne k2, Rel.set_ne k3, Rel.set_eq hm hsm]
  refine ⟨Arr.below_row h1 hb _, fun _ => ⟨B, e, hb, Arr.blk_row hk X⟩, fun h5 => ?_, h4⟩
  obtain ⟨C, e2, hc, hk2⟩ := h3 h5
  have hne := h4 hi h5
  rw [e, e2] at hne
  exact ⟨C, e2, hc, Arr.blk_row_far hk2 (fun e => ptr_ne hne e.symm) _⟩
theorem st2 {m : Nat} (h : J n W T Z X Y L (slot a) w) (k1 : n.s2 ≠ n.i1) (k2 : n.s2 ≠ n.i2) (k3 : n.s2 ≠ n.s1) (hi : L.getD n.i2 false = true) (hs : L.getD n.s2 false = false) (hm : L.size = m) (hsm : n.s2 < m) :
    ∃ B, slot a n.d2 = .pointer (some ⟨B, 0, none⟩) ∧ Arr.Blk w B T Z ∧ J n W T Z X Y (L.setIfInBounds n.s2 true) (slot a) (w.setRow B Y.toArray) := by
  obtain ⟨h1, h2, h3, h4⟩ := h
  obtain ⟨B, e, hb, hk⟩ := h3 hi
  rw [hs] at hk
  refine ⟨B, e, hk, ?_⟩
  unfold J
  simp only [Rel.set_ne k1, Rel.set_ne k2, Rel.set_ne k3, Rel.set_eq hm hsm]
  refine ⟨Arr.below_row h1 hb _, fun h5 => ?_, fun _ => ⟨B, e, hb, Arr.blk_row hk Y⟩, h4⟩
  obtain ⟨C, e2, hc, hk2⟩ := h2 h5
  have hne := h4 h5 hi
  rw [e, e2] at hne
  exact ⟨C, e2, hc, Arr.blk_row_far hk2 (ptr_ne hne) _⟩
theorem fin {m : Nat} {f : Tmp → Value} (h : J n W T Z X Y (Array.replicate m true) f w) (h1 : n.i1 < m) (h2 : n.i2 < m) (h3 : n.s1 < m) (h4 : n.s2 < m) : ∃ B C, f n.d1 = .pointer (some ⟨B, 0, none⟩) ∧ f n.d2 = .pointer (some ⟨C, 0, none⟩) ∧ B ≠ C ∧ Arr.Blk w B T X ∧ Arr.Blk w C T Y ∧ Below W.heap.size W w := by
  have hg : ∀ i, i < m → (Array.replicate m true).getD i false = true := fun i hi => by simp [hi]
  obtain ⟨g1, g2, g3, g4⟩ := h
  obtain ⟨B, e, hb, hk⟩ := g2 (hg _ h1)
  obtain ⟨C, e2, hc, hk2⟩ := g3 (hg _ h2)
  have hne := g4 (hg _ h1) (hg _ h2)
  rw [hg _ h3] at hk
  rw [hg _ h4] at hk2
  rw [e, e2] at hne
  exact ⟨B, C, e, e2, ptr_ne hne, hk, hk2, g1⟩
end Go.Proofs.Ytghglgodkknlnaa.BoxTwo
/- Common: a region that draws its order whose last operation waits for all others (a store behind what it stores): the others by what the slots hold (XRegRel), then the last one alone. -/
namespace Go.Proofs.Ytghglgodkknlnaa.Rel
open Go.RowKit

variable {P : Program} {Q : Exit → Act → World → Prop} {G : World → World → Prop} {a0 : Act}

theorem pop_size {L : Array Bool} {n : Nat} (h : L.size = n + 1) : L.pop.size = n := by simp [h]
theorem pop_at {L : Array Bool} {n i : Nat} (h : L.size = n + 1) (hi : i < n) : L.pop[i]? = L[i]? := by
  rw [Array.getElem?_pop, if_pos (by omega)]
theorem pop_getD {L : Array Bool} {n i : Nat} (h : L.size = n + 1) (hi : i < n) (b : Bool) : L.pop.getD i b = L.getD i b := by
  rw [Array.getD_eq_getD_getElem?, Array.getD_eq_getD_getElem?, pop_at h hi]
theorem pop_set {L : Array Bool} {n i : Nat} (h : L.size = n + 1) (hi : i < n) : (L.setIfInBounds i true).pop = L.pop.setIfInBounds i true := by
  apply Array.ext_getElem?
  intro j
  rw [Array.getElem?_pop, Array.getElem?_setIfInBounds, Array.getElem?_setIfInBounds, Array.getElem?_pop]
  simp only [Array.size_setIfInBounds, Array.size_pop]
  by_cases hij : i = j
  · subst hij
    rw [if_pos (by omega), if_pos rfl, if_pos rfl, if_pos (by omega), if_pos (by omega)]
  · rw [if_neg hij, if_neg hij]
/-- One operation of the law, by its invariant. -/
theorem rel_step {ops : Array Oper} {V : Nat → Kd G} {J : Array Bool → World → Prop} (hap : apartB ops.toList = true) (hsz : ∀ (i : Nat) (o : Oper) (d : Tmp), ops[i]? = some o → o.dst = some d → d < a0.tmps.size)
    (hsteps : Steps P ops Q V J a0 0 ops.toList) {L : Array Bool} {a : Act} {w : World} {i : Nat} {o : Oper} (hI : Inv ops V J a0 L a w) (hun : L.getD i true = false) (ho : ops[i]? = some o) (hg : o.guard = none) (hcame : ∀ j, waits o j = true → L.getD j false = true) :
    o.wp P a w (fun a' w' => Inv ops V J a0 (L.setIfInBounds i true) a' w') Q := by
  have hI' := hI
  obtain ⟨h1, h2, h3, h4, h5, h6, h7⟩ := hI
  have hs := steps_at ops.toList 0 hsteps i o (by simpa using ho)
  rw [Nat.zero_add] at hs
  replace hs := hs L a w ⟨h1, hun, h2, h3, h5, fun j o' d hj hd hw => h6 j o' d hj hd (hcame j hw), hcame, h7⟩
  rcases hs with ⟨hw, hs⟩ | ⟨hw, hv, hJ⟩
  · exact Oper.wp_mono (fun a'' w'' ⟨v, ha, hG, hv, hJ⟩ => by subst ha; exact inv_step hap hsz ho hun hcame hI' hG hv hJ) hs
  · rw [wanted_none hg] at hw; cases hw

/-- THE LAW. -/
theorem wp_region_last {id : Nat} {w : World} {l : List Oper} (o : Oper) (V : Nat → Kd G) (J : Array Bool → World → Prop) (hm : P.follows .mixedOrders = true) (hlast : l.getLast? = some o) (hfree : (l.all fun o => o.guard.isNone) = true) (hap : apartB l.dropLast = true) (hor : orderB 0 l = true)
    (hwait : ((List.range l.dropLast.length).all fun j => waits o j) = true) (hsz : (l.dropLast.all fun o => match o.dst with | some d => decide (d < a0.tmps.size) | none => true) = true)
    (h0 : J (Array.replicate l.dropLast.length false) w.drew) (hsteps : Steps P l.dropLast.toArray Q V J a0 0 l.dropLast)
    (hdone : ∀ a w, (∀ s, unwritten l.dropLast.toArray s = true → slot a s = slot a0 s) → a.tmps.size = a0.tmps.size → a.defers = a0.defers → J (Array.replicate l.dropLast.length true) w → (∀ (j : Nat) (o : Oper) (d : Tmp), l.dropLast[j]? = some o → o.dst = some d → (V j).p w (slot a d)) → o.wp P a w (fun a' w' => Q .normal a' w') Q) :
    (Code.region id l.toArray true).wp P Q a0 w := by
  obtain ⟨n, hn⟩ : ∃ n, n = l.dropLast.length := ⟨_, rfl⟩
  have hl : l = l.dropLast ++ [o] := by
    rcases List.eq_nil_or_concat l with e | ⟨l', b, e⟩
    · rw [e] at hlast; cases hlast
    · rw [e] at hlast ⊢
      simp at hlast
      subst hlast
      simp
  have hlen : l.length = n + 1 := by rw [hl, List.length_append, List.length_singleton, ← hn]
  have hat : ∀ i, i < n → l[i]? = l.dropLast[i]? := fun i hi => by
    conv => lhs; rw [hl]
    rw [List.getElem?_append_left (by omega)]
  have hatn : l[n]? = some o := by
    conv => lhs; rw [hl]
    rw [List.getElem?_append_right (by omega), ← hn, Nat.sub_self]; rfl
  have hsz' : ∀ (i : Nat) (o : Oper) (d : Tmp), l.dropLast.toArray[i]? = some o → o.dst = some d → d < a0.tmps.size := by
    intro i o d ho hd
    have := List.all_eq_true.1 hsz o (List.mem_of_getElem? (by simpa using ho))
    rw [hd] at this
    simpa using this
  have hguard : ∀ (i : Nat) (x : Oper), l[i]? = some x → x.guard = none := fun i x hx => by
    have := List.all_eq_true.1 hfree x (List.mem_of_getElem? hx)
    simpa using this
  rw [← hn] at hwait h0 hdone
  have hw := List.all_eq_true.1 hwait
  refine Reg.wp_region_inv (fun L a w => (L.size = n + 1 ∧ L.getD n true = false ∧ Inv l.dropLast.toArray V J a0 L.pop a w) ∨ (L = Array.replicate (n + 1) true ∧ Q .normal a w)) hm ?_ ?_ ?_
  · left
    refine ⟨by simp [hlen], by simp [hlen], by simp [hlen], fun _ _ => rfl, rfl, rfl, ?_, fun j o d _ _ hl' => ?_, fun j o i _ hl' _ => ?_⟩
    · have e : (Array.replicate l.toArray.size false).pop = Array.replicate n false := by simp [hlen]
      rw [e]; exact h0
    · have e : (Array.replicate l.toArray.size false).pop = Array.replicate n false := by simp [hlen]
      rw [e] at hl'
      by_cases hj : j < n <;> simp [hj] at hl'
    · have e : (Array.replicate l.toArray.size false).pop = Array.replicate n false := by simp [hlen]
      rw [e] at hl'
      by_cases hj : j < n <;> simp [hj] at hl'
  · intro L a' w' hI hready
    rcases hI with ⟨h1, h2, hI⟩ | ⟨_, hq⟩
    · exfalso
      have hall : ∀ j, j < n → L.getD j false = true := by
        intro j
        induction j using Nat.strongRecOn with
        | _ j ih =>
          intro hj
          have ho : l[j]? = some (l[j]'(by omega)) := List.getElem?_eq_getElem (by omega)
          refine Reg.none_ready (ops := l.toArray) (by simp [h1, hlen]) hready (o := l[j]'(by omega)) (by simp) fun e he hb => ?_
          have hlt := order_at l 0 hor j _ ho e he hb
          exact ih e.on (by omega) (by omega)
      have hn' : L.getD n false = true := by
        refine Reg.none_ready (ops := l.toArray) (by simp [h1, hlen]) hready (o := o) (by simpa using hatn) fun e he hb => ?_
        have hlt := order_at l 0 hor n _ hatn e he hb
        exact hall e.on (by omega)
      have hsz : n < L.size := by omega
      simp [hsz] at h2 hn'
      rw [h2] at hn'; cases hn'
    · exact hq
  · intro L a' w' i hI hi
    obtain ⟨hun, x, hx, hdep⟩ := mem_ready.1 hi
    have hx' : l[i]? = some x := by simpa using hx
    have hg := hguard i x hx'
    have hil : i < n + 1 := by rw [← hlen]; exact (List.getElem?_eq_some_iff.1 hx').1
    rcases hI with ⟨h1, h2, hI⟩ | ⟨hL, _⟩
    · have hcame : ∀ j, waits x j = true → L.getD j false = true := by
        intro j hj
        unfold waits at hj
        obtain ⟨e, he, hb⟩ := List.any_eq_true.1 hj
        simp only [Bool.and_eq_true, beq_iff_eq] at hb
        have := hdep e (by simpa using he) hb.2
        rw [hb.1] at this
        exact this
      unfold wpOp
      simp only [hx]
      rw [if_pos (wanted_none hg _)]
      by_cases hin : i = n
      · subst hin
        rw [hatn] at hx'
        injection hx' with hx'
        subst hx'
        have hall : ∀ j, j < i → L.getD j false = true := fun j hj => hcame j (hw j (List.mem_range.2 hj))
        have hpop : L.pop = Array.replicate i true := by
          apply Array.ext
          · simp [h1]
          · intro j hj1 hj2
            have hj : j < i := by simpa using hj2
            have := hall j hj
            have hjL : j < L.size := by omega
            simp [hjL] at this
            simp [this]
        have hset : L.setIfInBounds i true = Array.replicate (i + 1) true := by
          apply Array.ext
          · simp [h1]
          · intro j hj1 hj2
            have hj : j < i + 1 := by simpa using hj2
            rw [Array.getElem_setIfInBounds (by simpa using hj1)]
            by_cases e : i = j
            · simp [e]
            · have := hall j (by omega)
              have hjL : j < L.size := by omega
              simp [hjL] at this
              simp [e, this]
        rw [hpop] at hI
        obtain ⟨_, g2, g3, g4, g5, g6, _⟩ := hI
        refine .inl (Oper.wp_mono (fun a'' w'' hq => .inr ⟨hset, hq⟩) (hdone a' w' g2 g3 g4 g5 fun j y d hj hd => g6 j y d (by simpa using hj) hd ?_))
        have hjn : j < i := by rw [hn]; exact (List.getElem?_eq_some_iff.1 hj).1
        simp [hjn]
      · have hin' : i < n := by omega
        have hxd : l.dropLast.toArray[i]? = some x := by
          have := hat i hin'
          rw [hx'] at this
          simpa using this.symm
        have hw' : ∀ j, waits x j = true → j < n := fun j hj => by
          unfold waits at hj
          obtain ⟨e, he, hb⟩ := List.any_eq_true.1 hj
          simp only [Bool.and_eq_true, beq_iff_eq] at hb
          have := order_at l 0 hor i x hx' e (by simpa using he) hb.2
          omega
        have hs := rel_step (by simpa using hap) hsz' hsteps hI (by rw [pop_getD h1 hin']; exact hun) hxd hg fun j hj => by rw [pop_getD h1 (hw' j hj)]; exact hcame j hj
        refine .inl (Oper.wp_mono (fun a'' w'' hq => .inl ⟨by simp [h1], ?_, by rw [pop_set h1 hin']; exact hq⟩) hs)
        have hne : i ≠ n := hin
        simp [hne]
        simpa using h2
    · subst hL
      simp [hil] at hun

section
variable {o : Oper} {a : Act} {w : World} {K : Act → World → Prop}
theorem wp_al (t : TypeId) (ho : o.op = .alloc t) {u : Value} {w' : World} (hr : (Instr.alloc t true (.tuple #[])).run P w = .ok u w') (h : K (a.put o.dst u) w') : o.wp P a w K Q := by
  unfold Oper.wp execOp
  simp only [ho, Sem.run_bind, hr]
  exact h
theorem wp_bd4 (t : TypeId) (x y z u : Operand) (ho : o.op = .build t #[(0, x), (1, y), (2, z), (3, u)]) {vx vy vz vu r : Value} {w' : World} (hx : a.eval x = vx) (hy : a.eval y = vy) (hz : a.eval z = vz) (hu : a.eval u = vu) (hr : (Instr.build t #[(0, vx), (1, vy), (2, vz), (3, vu)]).run P w = .ok r w') (h : K (a.put o.dst r) w') : o.wp P a w K Q := by
  subst hx hy hz hu
  unfold Oper.wp execOp
  have hm : (#[(0, x), (1, y), (2, z), (3, u)] : Array (Nat × Operand)).map (fun (i, x) => (i, a.eval x)) = #[(0, a.eval x), (1, a.eval y), (2, a.eval z), (3, a.eval u)] := by simp
  simp only [ho, Sem.run_bind, hm, hr]
  exact h
end
end Go.Proofs.Ytghglgodkknlnaa.Rel
/- A region that draws its order and sees its slots (as RegSee), with stores in it: an operation may write no slot. -/
namespace Go.Proofs.Ytghglgodkknlnaa.Rel
open Go.RowKit

/-- Each operation that writes a slot writes one of its own. -/
def apartN : List Oper → Bool
  | [] => true
  | o :: l => (o.dst.isNone || l.all (fun x => x.dst != o.dst)) && apartN l
theorem apartN_at (l : List Oper) : apartN l = true → ∀ (i j : Nat) (o o' : Oper) (d d' : Tmp), l[i]? = some o → l[j]? = some o' → i ≠ j → o.dst = some d → o'.dst = some d' → d ≠ d' := by
  induction l with
  | nil => intro _ i j o o' d d' e; simp at e
  | cons x l ih =>
    intro h i j o o' d d' e e' hne hd hd'
    simp only [apartN, Bool.and_eq_true, Bool.or_eq_true, List.all_eq_true, bne_iff_ne, ne_eq] at h
    have far : ∀ (y : Oper) (dx dy : Tmp), y ∈ l → x.dst = some dx → y.dst = some dy → dx ≠ dy := by
      intro y dx dy hy hx hyd e
      rcases h.1 with h1 | h1
      · rw [hx] at h1; cases h1
      · exact h1 y hy (by rw [hx, hyd, e])
    cases i with
    | zero =>
      cases j with
      | zero => exact absurd rfl hne
      | succ j =>
        simp at e e'; subst e
        exact far o' d d' (List.mem_of_getElem? e') hd hd'
    | succ i =>
      cases j with
      | zero =>
        simp at e e'; subst e'
        exact (far o d' d (List.mem_of_getElem? e) hd' hd).symm
      | succ j => exact ih h.2 i j o o' d d' (by simpa using e) (by simpa using e') (by omega) hd hd'

section
variable {P : Program} {ops : Array Oper} {Q : Exit → Act → World → Prop} {G : World → World → Prop} {V : Nat → Kd G} {J : Array Bool → World → Prop} {a0 : Act}
theorem inv_stepN {k : Nat} {o : Oper} {L : Array Bool} {a : Act} {w w' : World} {v : Value} (hap : apartN ops.toList = true) (hsz : ∀ (i : Nat) (o : Oper) (d : Tmp), ops[i]? = some o → o.dst = some d → d < a0.tmps.size)
    (ho : ops[k]? = some o) (hk : L.getD k true = false) (hcm : ∀ j, waits o j = true → L.getD j false = true) (hI : Inv ops V J a0 L a w) (hG : G w w') (hv : (V k).p w' v) (hJ : J (L.setIfInBounds k true) w') : Inv ops V J a0 (L.setIfInBounds k true) (a.put o.dst v) w' := by
  obtain ⟨h1, h2, h3, h4, h5, h6, h7⟩ := hI
  have hset : ∀ i, L.getD i false = true → (L.setIfInBounds k true).getD i false = true := by
    intro i hi
    by_cases hik : k = i
    · subst hik
      obtain ⟨hs, _⟩ := Reg.getD_false hk
      simp [hs]
    · simpa [hik] using hi
  refine ⟨by simp [h1], fun s hs => ?_, by rw [put_size]; exact h3, by rw [put_defers]; exact h4, hJ, fun j o' d' ho' hd' hl => ?_, fun j o' i ho' hl hw => ?_⟩
  · cases hd : o.dst with
    | none => exact h2 s hs
    | some d =>
      rw [slot_put_ne (fun e => unwritten_ne hs ho (by rw [hd, e]))]
      exact h2 s hs
  · by_cases hjk : j = k
    · subst hjk
      rw [ho] at ho'
      injection ho' with ho'
      subst ho'
      rw [hd', slot_put (by rw [h3]; exact hsz _ _ _ ho hd')]
      exact hv
    · have h8 : (V j).p w (slot a d') := h6 j o' d' ho' hd' (by simpa [Ne.symm hjk] using hl)
      have h9 := (V j).st w w' _ hG h8
      cases hd : o.dst with
      | none => exact h9
      | some d =>
        rw [slot_put_ne (fun e => apartN_at ops.toList hap k j o o' d d' (by simpa using ho) (by simpa using ho') (Ne.symm hjk) hd hd' e)]
        exact h9
  · by_cases hjk : j = k
    · subst hjk
      rw [ho] at ho'
      injection ho' with ho'
      subst ho'
      exact hset i (hcm i hw)
    · exact hset i (h7 j o' i ho' (by simpa [Ne.symm hjk] using hl) hw)
end
section
variable {P : Program} {ops : Array Oper} {Q : Exit → Act → World → Prop} {G : World → World → Prop} {V : Nat → Kd G} {J : Array Bool → (Tmp → Value) → World → Prop} {a0 : Act}
/-- THE LAW. -/
theorem wp_region_seen {id : Nat} {w : World} {l : List Oper} (V : Nat → Kd G) (J : Array Bool → (Tmp → Value) → World → Prop) (hm : P.follows .mixedOrders = true) (hap : apartN l = true) (hor : orderB 0 l = true) (hsz : (l.all fun o => match o.dst with | some d => decide (d < a0.tmps.size) | none => true) = true)
    (hGr : ∀ w, G w w) (h0 : J (Array.replicate l.length false) (slot a0) w.drew) (hsteps : StepsS P l.toArray Q V J a0 0 l)
    (hdone : ∀ a w, (∀ s, unwritten l.toArray s = true → slot a s = slot a0 s) → a.tmps.size = a0.tmps.size → a.defers = a0.defers → J (Array.replicate l.length true) (slot a) w → (∀ (j : Nat) (o : Oper) (d : Tmp), l[j]? = some o → o.dst = some d → (V j).p w (slot a d)) → Q .normal a w) :
    (Code.region id l.toArray true).wp P Q a0 w := by
  have hsz' : ∀ (i : Nat) (o : Oper) (d : Tmp), l.toArray[i]? = some o → o.dst = some d → d < a0.tmps.size := by
    intro i o d ho hd
    have := List.all_eq_true.1 hsz o (List.mem_of_getElem? (by simpa using ho))
    rw [hd] at this
    simpa using this
  refine Reg.wp_region_inv (fun L a w => Inv l.toArray V (fun _ _ => True) a0 L a w ∧ J L (slot a) w) hm ?_ ?_ ?_
  · exact ⟨⟨by simp, fun _ _ => rfl, rfl, rfl, trivial, fun j o d _ _ hl => by
      by_cases hj : j < l.length <;> simp [hj] at hl, fun j o i _ hl _ => by
      by_cases hj : j < l.length <;> simp [hj] at hl⟩, by simpa using h0⟩
  · intro L a' w' hI hready
    obtain ⟨⟨h1, h2, h3, h4, _, h6, h7⟩, h5⟩ := hI
    have hall : ∀ j, j < l.length → L.getD j false = true := by
      intro j
      induction j using Nat.strongRecOn with
      | _ j ih =>
        intro hj
        have ho : l[j]? = some l[j] := List.getElem?_eq_getElem hj
        refine Reg.none_ready (by exact h1) hready (o := l[j]) (by simp) fun e he hb => ?_
        have hlt := order_at l 0 hor j _ ho e he hb
        exact ih e.on (by omega) (by omega)
    have hL : L = Array.replicate l.length true := by
      apply Array.ext
      · simpa using h1
      · intro i hi1 hi2
        have := hall i (by simpa using hi2)
        simp [hi1] at this
        simp [this]
    subst hL
    exact hdone a' w' h2 h3 h4 h5 fun j o d hj hd => h6 j o d (by simpa using hj) hd (hall j (by
      rcases Nat.lt_or_ge j l.length with h | h
      · exact h
      · rw [List.getElem?_eq_none h] at hj; cases hj))
  · intro L a' w' i hI hi
    obtain ⟨hI, hJ0⟩ := hI
    obtain ⟨hun, o, ho, hdep⟩ := mem_ready.1 hi
    have hI' := hI
    obtain ⟨h1, h2, h3, h4, h5, h6, h7⟩ := hI
    have hcame : ∀ j, waits o j = true → L.getD j false = true := by
      intro j hj
      unfold waits at hj
      obtain ⟨e, he, hb⟩ := List.any_eq_true.1 hj
      simp only [Bool.and_eq_true, beq_iff_eq] at hb
      have := hdep e (by simpa using he) hb.2
      rw [hb.1] at this
      exact this
    have hs := stepsS_at l 0 hsteps i o (by simpa using ho)
    rw [Nat.zero_add] at hs
    replace hs := hs L a' w' ⟨h1, hun, h2, h3, h5, fun j o' d hj hd hw => h6 j o' d hj hd (hcame j hw), hcame, h7⟩ hJ0
    unfold wpOp
    simp only [ho]
    rcases hs with ⟨hw, hs⟩ | ⟨hw, hv, hJ⟩
    · rw [if_pos hw]
      exact .inl (Oper.wp_mono (fun a'' w'' ⟨v, ha, hG, hv, hJ⟩ => by subst ha; exact ⟨inv_stepN (by simpa using hap) hsz' ho hun hcame hI' hG hv trivial, hJ⟩) hs)
    · rw [if_neg (by rw [hw]; exact Bool.false_ne_true)]
      exact ⟨inv_stepN (by simpa using hap) hsz' ho hun hcame hI' (hGr w') hv trivial, hJ⟩
end

end Go.Proofs.Ytghglgodkknlnaa.Rel
/- Does a number stand in a list of numbers (slices.Index, slices.Contains)? -/
namespace Go.Proofs.Ytghglgodkknlnaa.Tre
set_option maxRecDepth 100000
open Go.RowKit
open Go.Sort
open Kit
open Mon
set_option linter.unusedVariables false
variable {w w' : World}

/-! ### Does a number stand in a list? -/

set_option maxHeartbeats 1000000 in
theorem index_any (l : List Int) (a : Option Addr) (n c : Nat) (w : World) (h : IntsL w a n c l) (x : Int) :
    Calls Try.prog 55 #[.slice a n c, .int .i64 x] w fun e w' => ∃ j : Int, e = .returned (.int .i64 j) ∧ (0 ≤ j ↔ x ∈ l) ∧ w = w' := by
  have hm1 : n ≤ 9223372036854775807 := by have := h.cap; have := h.max; unfold maxLen at this; omega
  have HL := Lib.hid (And.intro h h.len)
  clear h
  go_enter Try.func55, Try.ntmps55
  go_wp2_with fail
  go_loop [5, 8] (fun _ i => ∃ k : Nat, k ≤ n ∧ i = .int .i64 (k : Nat) ∧ Hid (x ∉ l.take k)) (fun _ i => n - (intOf i).toNat)
  case atStart => exact ⟨0, Nat.zero_le _, rfl, Lib.hid (by simp)⟩
  case round =>
    obtain ⟨k, hk, rfl, hno⟩ := hrel
    by_cases hlt : k < n
    · have hkl : k < l.length := by rw [HL.out.2]; exact hlt
      obtain ⟨b, o, rfl⟩ := lst_at HL.out.1 (by omega)
      have q := int_cell HL.out.1 hkl
      have HTk := Lib.hid (List.take_succ_eq_append_getElem hkl)
      have HMe := Lib.hid (List.getElem_mem hkl)
      generalize l[k] = y at *
      by_cases he : x = y
      · subst he
        go_wp2_with fail
        go_ret
        exact ⟨_, rfl, ⟨fun _ => HMe.out, fun _ => by omega⟩, rfl⟩
      · have HE := Lib.hid he
        have hne : (x == y) = false := beq_false_of_ne he
        clear he
        go_wp2_with fail
        go_round
        case rel => exact ⟨k + 1, by omega, by go_num, Lib.hid (by
          rw [HTk.out, List.mem_append, List.mem_singleton]
          rintro (h | h)
          · exact hno.out h
          · exact HE.out h)⟩
        case measure => simp [intOf]; omega
    · obtain rfl : k = n := by omega
      have hN := hno.out
      rw [List.take_of_length_le (by rw [HL.out.2]; exact Nat.le_refl _)] at hN
      have HN := Lib.hid hN
      clear hN
      go_wp2_with fail
      go_ret
      exact ⟨_, rfl, ⟨fun h => by omega, fun h => absurd h HN.out⟩, rfl⟩
theorem contains_any (l : List Int) (a : Option Addr) (n c : Nat) (w : World) (h : IntsL w a n c l) (x : Int) :
    Calls Try.prog 42 #[.slice a n c, .int .i64 x] w fun e w' => e = .returned (.bool (l.contains x)) ∧ w = w' := by
  have HL := Lib.hid h
  clear h
  go_enter Try.func42, Try.ntmps42
  go_wp2_with fail
  refine (index_any l a n c w HL.out x).mono ?_
  rintro e w1 ⟨j, rfl, hj, rfl⟩
  by_cases h0 : 0 ≤ j
  · have HC := Lib.hid (show l.contains x = true by simpa using hj.1 h0)
    clear hj
    go_wp2_with fail
    go_ret
    exact ⟨by rw [HC.out]; first | rfl | exact ret_bool (decide_eq_true h0) | exact ret_bool (decide_eq_false (by omega)), rfl⟩
  · have HC := Lib.hid (show l.contains x = false by
      have : x ∉ l := fun h => h0 (hj.2 h)
      simpa using this)
    clear hj
    go_wp2_with fail
    go_ret
    exact ⟨by rw [HC.out]; first | rfl | exact ret_bool (decide_eq_true h0) | exact ret_bool (decide_eq_false (by omega)), rfl⟩
end Go.Proofs.Ytghglgodkknlnaa.Tre
/- Draw, the landed: the draws of nothing at a list's end are cut off (the library's slices.IndexFunc, slices.DeleteFunc). -/
namespace Go.Proofs.Ytghglgodkknlnaa.Drw
set_option maxRecDepth 100000
open Go.RowKit
open Go.Sort
open Kit
open Mon
open Foot
open Tre (Lst inI lst_keep lst_take lst_at lst_new lst_none below_drewN')
set_option linter.unusedVariables false
variable {w w' : World}

theorem out_keep {α : Type} {enc : α → List Value} {size : Nat} (hs : ∀ x, (enc x).length = size) {T : TypeId} {base : Nat} {v : Value} {l : List α} (h : OutL enc size T w base v l) (hb : Below w.heap.size w w') : OutL enc size T w' base v l := by
  rcases h with h | h
  · exact .inl (Nest.own_on h hb)
  · exact .inr h
theorem zero_any (W : World) (x : Dw) (z : Bool) (hz : (x.amt == 0) = z) : Calls Try.prog 29 #[.agg #[.int .i64 x.alloc, .int .i64 x.amt]] W fun e w' => e = .returned (.bool z) ∧ Below W.heap.size W w' := by
  obtain ⟨x0, x1⟩ := x
  have hb := Lib.hid (below_alloc W (.cells #[.int .i64 x0, .int .i64 x1] 44))
  simp only at hz ⊢
  go_enter Try.func29, Try.ntmps29
  go_wp2_with fail
  go_ret
  exact ⟨by first | rfl | exact ret_bool hz, hb.out⟩

/-! ### The first draw of nothing -/

def idxZ (A Z : List Dw) : Int := if Z = [] then -1 else A.length
set_option maxHeartbeats 4000000 in
theorem idx_any (W : World) (a : Option Addr) (n c : Nat) (A Z : List Dw) (h : Draws W a n c (A ++ Z)) (hA : ∀ x ∈ A, x.amt ≠ 0) (hZ : ∀ x ∈ Z, x.amt = 0) :
    Calls Try.prog 47 #[.slice a n c, .func (.func 29) #[] #[]] W fun e w' => e = .returned (.int .i64 (idxZ A Z)) ∧ Below W.heap.size W w' := by
  have hm1 : n ≤ 9223372036854775807 := by have := h.cap; have := h.max; unfold maxLen at this; omega
  have HL := Lib.hid (And.intro h (And.intro h.len (And.intro hA hZ)))
  clear h hA hZ
  go_enter Try.func47, Try.ntmps47
  go_wp2_with fail
  go_loopw [5, 8] (fun _ i wr => ∃ k : Nat, k ≤ n ∧ k ≤ A.length ∧ i = .int .i64 (k : Nat) ∧ Below W.heap.size W wr) (fun _ i _ => n - (intOf i).toNat)
  case atStart => exact ⟨0, Nat.zero_le _, Nat.zero_le _, rfl, Below.refl _ _⟩
  case round =>
    obtain ⟨k, hk, hkA, rfl, hb⟩ := hrel
    have HB := Lib.hid hb
    clear hb
    by_cases hlt : k < n
    · have hkl : k < (A ++ Z).length := by rw [HL.out.2.1]; exact hlt
      obtain ⟨b, o, rfl⟩ := lst_at HL.out.1 (by omega)
      obtain ⟨q0, q1⟩ := draw_cells (lst_keep encD_len HL.out.1 HB.out) hkl
      by_cases hka : k < A.length
      · have hne : (A ++ Z)[k].amt ≠ 0 := by
          rw [List.getElem_append_left hka]
          exact HL.out.2.2.1 _ (List.getElem_mem hka)
        generalize (A ++ Z)[k] = x at *
        have HC := Lib.hid (zero_any wr x false (beq_false_of_ne hne))
        obtain ⟨x0, x1⟩ := x
        simp only at q0 q1 HC
        clear hne
        go_wp2_with fail
        refine HC.out.mono ?_
        rintro e w2 ⟨rfl, hb2⟩
        have HB2 := Lib.hid (below_keep HB.out hb2)
        clear hb2
        go_wp2_with fail
        go_roundw
        case rel => exact ⟨k + 1, by omega, by omega, by go_num, HB2.out⟩
        case measure => simp [intOf]; omega
      · obtain rfl : k = A.length := by omega
        have hz : (A ++ Z)[A.length].amt = 0 := by
          rw [List.getElem_append_right (Nat.le_refl _)]
          exact HL.out.2.2.2 _ (List.getElem_mem _)
        have HE := Lib.hid (show idxZ A Z = A.length by
          unfold idxZ
          rw [if_neg]
          intro e
          rw [e] at hkl
          simp at hkl)
        generalize (A ++ Z)[A.length] = x at *
        have HC := Lib.hid (zero_any wr x true (beq_iff_eq.2 hz))
        obtain ⟨x0, x1⟩ := x
        simp only at q0 q1 HC
        clear hz hkl hka
        go_wp2_with fail
        refine HC.out.mono ?_
        rintro e w2 ⟨rfl, hb2⟩
        have HB2 := Lib.hid (below_keep HB.out hb2)
        clear hb2
        go_wp2_with fail
        go_ret
        exact ⟨by rw [HE.out]; rfl, HB2.out⟩
    · have HE := Lib.hid (show idxZ A Z = -1 by
        unfold idxZ
        rw [if_pos]
        have := HL.out.2.1
        rw [List.length_append] at this
        exact List.length_eq_zero_iff.1 (by omega))
      obtain rfl : n = k := by omega
      go_wp2_with fail
      go_ret
      exact ⟨by rw [HE.out]; rfl, HB.out⟩

/-! ### What is behind it is cleared -/

theorem zero_two (i : Nat) : (#[Value.int .i64 0, .int .i64 0] : Array Value)[i % 2]! = Value.int .i64 0 := by
  have h := Nat.mod_lt i (show 0 < 2 by omega)
  generalize i % 2 = r at *
  match r, h with
  | 0, _ => rfl
  | 1, _ => rfl
theorem zero_draws (n : Nat) : (Builtin.zeroCells (Value.agg #[.int .i64 0, .int .i64 0]).cells n).toList = List.replicate (n * 2) (Value.int .i64 0) := by
  have hc : (Value.agg #[.int .i64 0, .int .i64 0]).cells = #[.int .i64 0, .int .i64 0] := rfl
  rw [hc]
  unfold Builtin.zeroCells
  apply List.eq_replicate_iff.2
  constructor
  · simp
  · intro v hv
    rw [Array.toList_map, List.mem_map] at hv
    obtain ⟨i, _, rfl⟩ := hv
    exact zero_two i
theorem run_clear_d (w : World) (ty : TypeId) (g o n c : Nat) (hn : 0 < n) (hc : ∀ j, j < n * 2 → (w.cell? ⟨g, o + j, none⟩).isSome = true) (hf : ∀ j, j < n * 2 → w.frozen? ⟨g, o + j, none⟩ = false) :
    (Builtin.clear_ #[26] ty #[.slice (some ⟨g, o, none⟩) n c]).run Try.prog w = .ok (.tuple #[]) (w.setCells g o (List.replicate (n * 2) (.int .i64 0))) := by
  have hst := run_storeCells_cells (P := Try.prog) g o (List.replicate (n * 2) (Value.int .i64 0)) 0 w (by simpa using hc) (by simpa using hf) (by intro v hv'; rw [List.eq_of_mem_replicate hv']; rfl)
  simp only [Nat.add_zero] at hst
  have hz := zero_draws n
  obtain ⟨m, rfl⟩ : ∃ m, n = m + 1 := ⟨n - 1, by omega⟩
  simp [Builtin.clear_, run_underlying Try.underlying26, Try.zeroValue44, hz, hst]
theorem set_blk (g : Nat) (T : TypeId) : ∀ (vs : List Value) (o : Nat) (w : World) (cs : List Value), Arr.Blk w g T cs → ∃ cs', Arr.Blk (w.setCells g o vs) g T cs' ∧ cs'.length = cs.length ∧ ∀ m, m ≤ o → cs'.take m = cs.take m
  | [], _, _, cs, h => ⟨cs, h, rfl, fun _ _ => rfl⟩
  | v :: r, o, w, cs, h => by
    obtain ⟨cs', h1, h2, h3⟩ := set_blk g T r (o + 1) (w.setCell ⟨g, o, none⟩ v) (cs.set o v) (Arr.blk_set h o v)
    refine ⟨cs', h1, by rw [h2, List.length_set], fun m hm => ?_⟩
    rw [h3 m (by omega), List.take_set_of_le hm]
theorem set_chgs (g : Nat) : ∀ (vs : List Value) (o : Nat) (w w1 : World), Chg (fun k => k = g) w w1 → Chg (fun k => k = g) w (w1.setCells g o vs)
  | [], _, _, _, h => h
  | v :: r, o, w, w1, h => set_chgs g r (o + 1) w _ (chg_set h (.inl rfl) o v)
/-- What is behind a list's first elements is cleared: these stay. -/
theorem own_clear {base g cap : Nat} {A Z : List Dw} (h : Owns encD 2 44 w base (.slice (some ⟨g, 0, none⟩) (A ++ Z).length cap) (A ++ Z)) (hz : Z ≠ []) :
    ∃ w2, (∀ ty, (Builtin.clear_ #[26] ty #[.slice (some ⟨g, A.length * 2, none⟩) ((A ++ Z).length - A.length) (cap - A.length)]).run Try.prog w = .ok (.tuple #[]) w2) ∧ Owns encD 2 44 w2 base (.slice (some ⟨g, 0, none⟩) A.length cap) A ∧ Below base w w2 := by
  have hzl : 0 < Z.length := List.length_pos_iff.2 hz
  have hb := (World.ownsRow.lt h g rfl)
  rcases h with ⟨_, ⟨h0, _⟩ | ⟨g', cap', cur, hv, hg, hbk, h1, h2, h3, h4⟩⟩
  · cases h0
  simp only [Value.slice.injEq, Option.some.injEq, Addr.mk.injEq] at hv
  obtain ⟨⟨rfl, -⟩, -, rfl⟩ := hv
  have hal : (A ++ Z).length = A.length + Z.length := List.length_append
  have hbl : Arr.Blk w g 44 cur.toList := by unfold Arr.Blk; rw [hbk]
  obtain ⟨cs', k1, k2, k3⟩ := set_blk g 44 (List.replicate (Z.length * 2) (Value.int .i64 0)) (A.length * 2) w cur.toList hbl
  have hcl : cs'.length = cap * 2 := by rw [k2]; simpa using h3
  refine ⟨w.setCells g (A.length * 2) (List.replicate (Z.length * 2) (Value.int .i64 0)), fun ty => ?_, ?_, chg_below (set_chgs g _ _ w w (chg_refl _ w)) (fun k hk => by omega) (by omega)⟩
  · rw [show (A ++ Z).length - A.length = Z.length by omega]
    refine run_clear_d w ty g (A.length * 2) Z.length _ hzl (fun j hj => ?_) (fun j hj => Arr.blk_frozen hbl _)
    rw [Arr.blk_cell hbl]
    have h5 : cur.toList.length = cap * 2 := by simpa using h3
    have : A.length * 2 + j < cur.toList.length := by omega
    rw [List.getElem?_eq_getElem this]; rfl
  · refine ⟨by rw [flat_length encD_len], .inr ⟨g, cap, cs'.toArray, rfl, hg, k1, by omega, h2, by simpa using hcl, ?_⟩⟩
    have e1 : (flat encD A).length = A.length * 2 := flat_length encD_len A
    have e2 : cur.toList.take (A.length * 2) = flat encD A := by
      have e3 : (cur.toList.take ((A ++ Z).length * 2)).take (A.length * 2) = (flat encD (A ++ Z)).take (A.length * 2) := by rw [h4]
      rw [List.take_take, Nat.min_eq_left (by omega), flat_append, ← e1, List.take_left] at e3
      rw [e1] at e3
      exact e3
    rw [List.toList_toArray, k3 _ (Nat.le_refl _), e2]

set_option maxHeartbeats 8000000 in
theorem del_any (W : World) (base : Nat) (v : Value) (A Z : List Dw) (hO : OutD W base v (A ++ Z)) (hbs : base ≤ W.heap.size) (hA : ∀ x ∈ A, x.amt ≠ 0) (hZ : ∀ x ∈ Z, x.amt = 0) :
    Calls Try.prog 28 #[v, .func (.func 29) #[] #[]] W fun e w' => ∃ v', e = .returned v' ∧ OutD w' base v' A ∧ Below base W w' := by
  obtain ⟨a, c, rfl, hL⟩ := out_lst encD_len hO
  have HI := Lib.hid (idx_any W a _ c A Z hL hA hZ)
  by_cases hz : Z = []
  · subst hz
    rw [List.append_nil] at *
    have hi : idxZ A [] = -1 := rfl
    rw [hi] at HI
    have HO := Lib.hid (And.intro hO hbs)
    clear hO hL hA hZ hi hbs
    go_enter Try.func28, Try.ntmps28
    go_wp2_with fail
    refine HI.out.mono ?_
    rintro e w2 ⟨rfl, hb2⟩
    have HB2 := Lib.hid (And.intro (out_keep encD_len HO.out.1 hb2) (hb2.mono HO.out.2))
    clear hb2
    go_wp2_with fail
    go_ret
    exact ⟨_, rfl, HB2.out.1, HB2.out.2⟩
  · have hi : idxZ A Z = A.length := by unfold idxZ; rw [if_neg hz]
    rw [hi] at HI
    have hzl : 0 < Z.length := List.length_pos_iff.2 hz
    have hal : (A ++ Z).length = A.length + Z.length := List.length_append
    have hown : Owns encD 2 44 W base (.slice a (A ++ Z).length c) (A ++ Z) := by
      rcases hO with h | ⟨h, _⟩
      · exact h
      · rw [h] at hal; simp at hal; omega
    obtain ⟨g, cap, hv, hg, hcap, hmx⟩ := owns_at encD_len hown (by omega)
    simp only [Value.slice.injEq, true_and] at hv
    obtain ⟨rfl, rfl⟩ := hv
    have HO := Lib.hid (And.intro hown (And.intro hbs (And.intro hZ hz)))
    obtain ⟨n, hn⟩ : ∃ n, n = (A ++ Z).length := ⟨_, rfl⟩
    have hcA : (A.length : Int) < (c : Int) := by omega
    have hnA : A.length < n := by omega
    have hm1 : n ≤ 9223372036854775807 := by unfold maxLen at hmx; omega
    have hcn : n ≤ c := by omega
    rw [← hn] at HI hL HO ⊢
    have HN := Lib.hid hn
    have HLs := Lib.hid hL
    obtain ⟨na, hna⟩ : ∃ na, na = A.length := ⟨_, rfl⟩
    rw [← hna] at HI hcA hnA
    have HNa := Lib.hid hna
    clear hO hL hA hZ hi hbs hown hg hcap hmx hzl hal hn hna hz
    go_enter Try.func28, Try.ntmps28
    go_wp2_with fail
    refine HI.out.mono ?_
    rintro e w2 ⟨rfl, hb2⟩
    have HB2 := Lib.hid hb2
    clear hb2 HI
    have hcne : ¬ c = na := by omega
    have hne : ((na : Int) == -1) = false := beq_false_of_ne (by omega)
    go_wp2_with fail
    go_loopw [5, 6] (fun i5 i wr => i5 = .int .i64 (na : Nat) ∧ ∃ k : Nat, na + 1 ≤ k ∧ k ≤ n ∧ i = .int .i64 (k : Nat) ∧ Below W.heap.size W wr) (fun _ i _ => n - (intOf i).toNat)
    case atStart => exact ⟨rfl, na + 1, Nat.le_refl _, by omega, by go_num, HB2.out⟩
    case round =>
      obtain ⟨rfl, k, hka, hk, rfl, hb⟩ := hrel
      have HB := Lib.hid hb
      clear hb
      by_cases hlt : k < n
      · have hkl : k < (A ++ Z).length := by rw [← HN.out]; exact hlt
        obtain ⟨q0, q1⟩ := draw_cells (lst_keep encD_len HLs.out HB.out) hkl
        simp only [Nat.zero_add] at q0 q1
        have hz : (A ++ Z)[k].amt = 0 := by
          rw [List.getElem_append_right (by have := HNa.out; omega)]
          exact HO.out.2.2.1 _ (List.getElem_mem _)
        generalize (A ++ Z)[k] = x at *
        have HC := Lib.hid (zero_any (wr.alloc (.cells #[.int .i64 x.alloc, .int .i64 x.amt] 44)) x true (beq_iff_eq.2 hz))
        obtain ⟨x0, x1⟩ := x
        simp only at q0 q1 HC
        have HB1 := Lib.hid (below_keep HB.out (below_alloc wr (.cells #[.int .i64 x0, .int .i64 x1] 44)))
        clear hz hkl
        go_wp2_with fail
        refine HC.out.mono ?_
        rintro e w3 ⟨rfl, hb3⟩
        have HB3 := Lib.hid (below_keep HB1.out hb3)
        clear hb3
        go_wp2_with fail
        go_roundw
        case rel => exact ⟨rfl, k + 1, by omega, by omega, by go_num, HB3.out⟩
        case measure => simp [intOf]; omega
      · obtain rfl : n = k := by omega
        obtain ⟨wz, hcl, ho2, hb2⟩ := own_clear (w := wr) (base := base) (g := g) (cap := c) (A := A) (Z := Z) (by rw [← HN.out]; exact Nest.own_on HO.out.1 HB.out) HO.out.2.2.2
        rw [← HN.out, ← HNa.out] at hcl
        rw [← HNa.out] at ho2
        have HE := Lib.hid (And.intro ho2 ((HB.out.mono HO.out.2.1).trans hb2))
        clear ho2 hb2
        go_wp2_with fail
        go_ret
        exact ⟨_, rfl, .inl HE.out.1, HE.out.2⟩
end Go.Proofs.Ytghglgodkknlnaa.Drw
/- Draw: the document's Legs, as it runs. -/
namespace Go.Proofs.Ytghglgodkknlnaa.Drw
set_option maxRecDepth 100000
open Go.RowKit
open Go.Sort
open Kit
open Mon
open Tre (Lst inI lst_keep lst_take lst_at lst_new lst_none below_drewN')
open Led (Lg encG encG_len encG_one Legs tyG)
set_option linter.unusedVariables false
variable {w w' : World}

theorem legs_take {l m : List Dw} {k : Nat} {d c : Dw} (f t r : Int) (hd : l[k]? = some d) (hc : m[k]? = some c) : legsD (l.take (k + 1)) (m.take (k + 1)) f t r = legsD (l.take k) (m.take k) f t r ++ legOf d c f t r := by
  induction k generalizing l m with
  | zero =>
    cases l with
    | nil => simp at hd
    | cons d' l =>
      cases m with
      | nil => simp at hc
      | cons c' m =>
        simp at hd hc
        subst hd hc
        simp [legsD]
  | succ k ih =>
    cases l with
    | nil => simp at hd
    | cons d' l =>
      cases m with
      | nil => simp at hc
      | cons c' m =>
        rw [List.getElem?_cons_succ] at hd hc
        rw [List.take_succ_cons, List.take_succ_cons, legsD, ih hd hc, List.take_succ_cons, List.take_succ_cons, legsD, List.append_assoc]
theorem legOf_len (d c : Dw) (f t r : Int) : (legOf d c f t r).length ≤ 3 := by
  unfold legOf
  split
  · simp
  · split <;> split <;> simp
theorem legs_len : ∀ (l m : List Dw) (f t r : Int), (legsD l m f t r).length ≤ 3 * l.length
  | [], m, f, t, r => by simp [legsD]
  | d :: l, [], f, t, r => by simp [legsD]
  | d :: l, c :: m, f, t, r => by
    have h1 := legs_len l m f t r
    have h2 := legOf_len d c f t r
    rw [legsD, List.length_append, List.length_cons]
    omega
set_option maxHeartbeats 16000000 in
theorem rlegs_any (a a2 : Option Addr) (n c n2 c2 : Nat) (l m : List Dw) (f t r : Int) (w : World) (h : Draws w a n c l) (hn : n ≤ 100) (h2 : Draws w a2 n2 c2 m) (hnn : n ≤ n2) (hs : ∀ x ∈ l, Sane x) (hs2 : ∀ x ∈ m, Sane x) (hf : 0 ≤ f ∧ f ≤ 3) (ht : 0 ≤ t ∧ t ≤ 3) (hr : 0 ≤ r ∧ r ≤ 3) :
    Calls Try.prog 20 #[.slice a n c, .slice a2 n2 c2, .int .i64 f, .int .i64 t, .int .i64 r] w fun e w' => ∃ v, e = .returned v ∧ Owns encG 2 68 w' w.heap.size v (legsD l (m.take n) f t r) ∧ Below w.heap.size w w' := by
  have HL := Lib.hid (And.intro h (And.intro h.len (And.intro h2 (And.intro h2.len (And.intro hs hs2)))))
  clear h h2 hs hs2
  have HEm := Lib.hid (And.intro (own_empty encG 2 68 w w.heap.size (Nat.le_refl _)) (below_alloc w (.cells #[] 68)))
  have h16 := Lib.hid (show 16 ≤ 1000 by omega)
  obtain ⟨hf0, hf1⟩ := hf
  obtain ⟨ht0, ht1⟩ := ht
  obtain ⟨hr0, hr1⟩ := hr
  go_enter Try.func20, Try.ntmps20
  go_wp2_with fail
  go_loopw [11, 12] (fun v i wr => ∃ k : Nat, k ≤ n ∧ i = .int .i64 (k : Nat) ∧ Owns encG 2 68 wr w.heap.size v (legsD (l.take k) (m.take k) f t r) ∧ Below w.heap.size w wr) (fun _ i _ => n - (intOf i).toNat)
  case atStart => exact ⟨0, Nat.zero_le _, rfl, HEm.out.1, HEm.out.2⟩
  case round =>
    obtain ⟨k, hk, rfl, hown, hb⟩ := hrel
    have HO := Lib.hid (And.intro hown hb)
    clear hown hb
    by_cases hlt : k < n
    · have hlt2 : k < n2 := by omega
      have hkl : k < l.length := by rw [HL.out.2.1]; exact hlt
      have hkm : k < m.length := by rw [HL.out.2.2.2.1]; exact hlt2
      obtain ⟨b1, o1, rfl⟩ := lst_at HL.out.1 (by omega)
      obtain ⟨b2, o2, rfl⟩ := lst_at HL.out.2.2.1 (by omega)
      obtain ⟨q0, q1⟩ := draw_cells (lst_keep encD_len HL.out.1 HO.out.2) hkl
      obtain ⟨-, p1⟩ := draw_cells (lst_keep encD_len HL.out.2.2.1 HO.out.2) hkm
      have hlg := legs_take f t r (List.getElem?_eq_getElem hkl) (List.getElem?_eq_getElem hkm)
      have hsd := HL.out.2.2.2.2.1 _ (List.getElem_mem hkl)
      have hsc := HL.out.2.2.2.2.2 _ (List.getElem_mem hkm)
      have hll := legs_len (l.take k) (m.take k) f t r
      have hlk : (l.take k).length ≤ k := by rw [List.length_take]; exact Nat.min_le_left _ _
      generalize l[k] = x at *
      generalize m[k] = y at *
      obtain ⟨x0, x1⟩ := x
      obtain ⟨y0, y1⟩ := y
      simp only at q0 q1 p1
      obtain ⟨e1, e2, e3, e4⟩ := hsd
      obtain ⟨-, -, e5, e6⟩ := hsc
      simp only at e1 e2 e3 e4 e5 e6
      obtain ⟨lx, hx⟩ : ∃ lx, lx = legsD (l.take k) (m.take k) f t r := ⟨_, rfl⟩
      rw [← hx] at HO hlg hll
      have hl3 : lx.length ≤ 300 := by omega
      have HLg := Lib.hid hlg
      clear hlg hx hll hlk
      by_cases hz : x1 = 0
      · have HE := Lib.hid (show legsD (l.take (k + 1)) (m.take (k + 1)) f t r = lx by rw [HLg.out]; unfold legOf; rw [if_pos hz, List.append_nil])
        subst hz
        clear e3 e4
        go_wp2_with fail
        go_quiet (fail)
        go_wp2_with fail
        go_roundw
        case rel => exact ⟨k + 1, by omega, by go_num, by rw [HE.out]; exact Nest.own_on HO.out.1 (below_drewN' _ _), below_keep HO.out.2 (below_drewN' _ _)⟩
        case measure => simp [intOf]; omega
      · have hz2 : (x1 == 0) = false := beq_false_of_ne hz
        go_wp2_with fail
        go_quiet (fail)
        generalize hw2 : World.drewN wr _ = w2
        have HO2 := Lib.hid (And.intro (show Owns encG 2 68 w2 w.heap.size _ lx by rw [← hw2]; exact Nest.own_on HO.out.1 (below_drewN' _ _)) (And.intro (show Below w.heap.size w w2 by rw [← hw2]; exact below_keep HO.out.2 (below_drewN' _ _)) (show lx.length + 1 ≤ 100000 by omega)))
        have p2 : w2.cell? ⟨b2, o2 + k * 2 + 1, none⟩ = some (.int .i64 y1) := by rw [← hw2]; exact p1
        clear hw2 q0 q1 p1
        by_cases hy : y1 = 0
        · have hxy : ((x1 - y1) == 0) = false := beq_false_of_ne (by omega)
          have HE := Lib.hid (show legsD (l.take (k + 1)) (m.take (k + 1)) f t r = lx ++ ([⟨f + 3 * x0, -x1⟩] : List Lg) ++ ([⟨r + 3 * x0, x1 - y1⟩] : List Lg) by rw [HLg.out]; unfold legOf; rw [if_neg hz, if_neg (by simp only; omega), if_pos (by simp only; omega)]; simp)
          subst hy
          clear e5 e6
          simp only [Int.sub_zero] at HE hxy
          go_wp2_with (first | (at_builtin; refine Nest.one_arm tyG rfl (.tmp 40) (.tmp 48) rfl w2 _ rfl ⟨f + 3 * x0, -x1⟩ rfl w.heap.size _ (lx) rfl HO2.out.1 rfl HO2.out.2.2 h16.out HO2.out.2.1.size ?_; intro v9 w9 ho hbb; have H9 := Lib.hid (And.intro ho (And.intro (HO2.out.2.1.trans hbb) (show (lx ++ ([⟨f + 3 * x0, -x1⟩] : List Lg) : List Lg).length + 1 ≤ 100000 by simp; omega))); clear ho hbb) | (at_builtin; refine Nest.one_arm tyG rfl (.tmp 65) (.tmp 74) rfl w9 _ rfl ⟨r + 3 * x0, x1⟩ rfl w.heap.size _ (lx ++ ([⟨f + 3 * x0, -x1⟩] : List Lg)) rfl H9.out.1 rfl H9.out.2.2 h16.out H9.out.2.1.size ?_; intro v10 w10 ho hbb; have H10 := Lib.hid (And.intro ho (And.intro (H9.out.2.1.trans hbb) (show (lx ++ ([⟨f + 3 * x0, -x1⟩] : List Lg) ++ ([⟨r + 3 * x0, x1⟩] : List Lg) : List Lg).length + 1 ≤ 100000 by simp; omega))); clear ho hbb) | fail)
          go_roundw
          case rel => exact ⟨k + 1, by omega, by go_num, by rw [HE.out]; exact H10.out.1, H10.out.2.1⟩
          case measure => simp [intOf]; omega
        · have hy2 : (y1 == 0) = false := beq_false_of_ne hy
          by_cases hd : x1 - y1 = 0
          · have HE := Lib.hid (show legsD (l.take (k + 1)) (m.take (k + 1)) f t r = lx ++ ([⟨f + 3 * x0, -x1⟩] : List Lg) ++ ([⟨t + 3 * x0, y1⟩] : List Lg) by rw [HLg.out]; unfold legOf; rw [if_neg hz, if_pos hy, if_neg (by simp only; omega)]; simp)
            obtain rfl : x1 = y1 := by omega
            clear e5 e6
            go_wp2_with (first | (at_builtin; refine Nest.one_arm tyG rfl (.tmp 40) (.tmp 48) rfl w2 _ rfl ⟨f + 3 * x0, -x1⟩ rfl w.heap.size _ (lx) rfl HO2.out.1 rfl HO2.out.2.2 h16.out HO2.out.2.1.size ?_; intro v9 w9 ho hbb; have H9 := Lib.hid (And.intro ho (And.intro (HO2.out.2.1.trans hbb) (show (lx ++ ([⟨f + 3 * x0, -x1⟩] : List Lg) : List Lg).length + 1 ≤ 100000 by simp; omega))); clear ho hbb) | (at_builtin; refine Nest.one_arm tyG rfl (.tmp 52) (.tmp 59) rfl w9 _ rfl ⟨t + 3 * x0, x1⟩ rfl w.heap.size _ (lx ++ ([⟨f + 3 * x0, -x1⟩] : List Lg)) rfl H9.out.1 rfl H9.out.2.2 h16.out H9.out.2.1.size ?_; intro v10 w10 ho hbb; have H10 := Lib.hid (And.intro ho (And.intro (H9.out.2.1.trans hbb) (show (lx ++ ([⟨f + 3 * x0, -x1⟩] : List Lg) ++ ([⟨t + 3 * x0, x1⟩] : List Lg) : List Lg).length + 1 ≤ 100000 by simp; omega))); clear ho hbb) | fail)
            go_roundw
            case rel => exact ⟨k + 1, by omega, by go_num, by rw [HE.out]; exact H10.out.1, H10.out.2.1⟩
            case measure => simp [intOf]; omega
          · have hxy : ((x1 - y1) == 0) = false := beq_false_of_ne hd
            have HE := Lib.hid (show legsD (l.take (k + 1)) (m.take (k + 1)) f t r = lx ++ ([⟨f + 3 * x0, -x1⟩] : List Lg) ++ ([⟨t + 3 * x0, y1⟩] : List Lg) ++ ([⟨r + 3 * x0, x1 - y1⟩] : List Lg) by rw [HLg.out]; unfold legOf; rw [if_neg hz, if_pos hy, if_pos hd]; simp)
            clear hd hy
            go_wp2_with (first | (at_builtin; refine Nest.one_arm tyG rfl (.tmp 40) (.tmp 48) rfl w2 _ rfl ⟨f + 3 * x0, -x1⟩ rfl w.heap.size _ (lx) rfl HO2.out.1 rfl HO2.out.2.2 h16.out HO2.out.2.1.size ?_; intro v9 w9 ho hbb; have H9 := Lib.hid (And.intro ho (And.intro (HO2.out.2.1.trans hbb) (show (lx ++ ([⟨f + 3 * x0, -x1⟩] : List Lg) : List Lg).length + 1 ≤ 100000 by simp; omega))); clear ho hbb) | (at_builtin; refine Nest.one_arm tyG rfl (.tmp 52) (.tmp 59) rfl w9 _ rfl ⟨t + 3 * x0, y1⟩ rfl w.heap.size _ (lx ++ ([⟨f + 3 * x0, -x1⟩] : List Lg)) rfl H9.out.1 rfl H9.out.2.2 h16.out H9.out.2.1.size ?_; intro v10 w10 ho hbb; have H10 := Lib.hid (And.intro ho (And.intro (H9.out.2.1.trans hbb) (show (lx ++ ([⟨f + 3 * x0, -x1⟩] : List Lg) ++ ([⟨t + 3 * x0, y1⟩] : List Lg) : List Lg).length + 1 ≤ 100000 by simp; omega))); clear ho hbb) | (at_builtin; refine Nest.one_arm tyG rfl (.tmp 65) (.tmp 74) rfl w10 _ rfl ⟨r + 3 * x0, x1 - y1⟩ rfl w.heap.size _ (lx ++ ([⟨f + 3 * x0, -x1⟩] : List Lg) ++ ([⟨t + 3 * x0, y1⟩] : List Lg)) rfl H10.out.1 rfl H10.out.2.2 h16.out H10.out.2.1.size ?_; intro v11 w11 ho hbb; have H11 := Lib.hid (And.intro ho (And.intro (H10.out.2.1.trans hbb) (show (lx ++ ([⟨f + 3 * x0, -x1⟩] : List Lg) ++ ([⟨t + 3 * x0, y1⟩] : List Lg) ++ ([⟨r + 3 * x0, x1 - y1⟩] : List Lg) : List Lg).length + 1 ≤ 100000 by simp; omega))); clear ho hbb) | fail)
            go_roundw
            case rel => exact ⟨k + 1, by omega, by go_num, by rw [HE.out]; exact H11.out.1, H11.out.2.1⟩
            case measure => simp [intOf]; omega
    · obtain rfl : n = k := by omega
      have htk : l.take n = l := List.take_of_length_le (by rw [HL.out.2.1]; exact Nat.le_refl _)
      rw [htk] at HO
      go_wp2_with fail
      go_ret
      exact ⟨_, rfl, HO.out.1, HO.out.2⟩
end Go.Proofs.Ytghglgodkknlnaa.Drw
/- Draw, the landed: put, and the legs of draws. -/
namespace Go.Proofs.Ytghglgodkknlnaa.Drw
set_option maxRecDepth 100000
open Go.RowKit
open Go.Sort
open Kit
open Mon
open Tre (Lst inI lst_keep lst_take lst_at lst_new lst_none below_drewN')
open Led (Lg encG encG_len encG_one Legs tyG info_leg)
set_option linter.unusedVariables false
variable {w w' : World}

def legP (x acct am : Int) : List Lg := if am = 0 then [] else [⟨acct + 3 * x, am⟩]
theorem legP_len (x acct am : Int) : (legP x acct am).length ≤ 1 := by
  unfold legP
  split <;> simp
theorem legOf_move (x0 x1 f t r : Int) : legOf ⟨x0, x1⟩ ⟨x0, x1⟩ f t r = legP x0 f (-x1) ++ legP x0 t x1 := by
  unfold legOf legP
  by_cases h : x1 = 0
  · simp [h]
  · simp [h]
theorem legOf_spend (x0 x1 y0 y1 f t r : Int) (h : ¬ x1 = 0) : legOf ⟨x0, x1⟩ ⟨y0, y1⟩ f t r = legP x0 f (-x1) ++ legP x0 t y1 ++ legP x0 r (x1 - y1) := by
  unfold legOf legP
  by_cases h1 : y1 = 0
  · simp [h, h1]
  · by_cases h2 : x1 - y1 = 0 <;> simp [h, h1, h2]
theorem legOf_zero (x0 y0 y1 f t r : Int) : legOf ⟨x0, 0⟩ ⟨y0, y1⟩ f t r = [] := by
  unfold legOf
  rw [if_pos rfl]

set_option maxHeartbeats 4000000 in
theorem put_any (W : World) (base : Nat) (v : Value) (l : List Lg) (x acct am : Int) (hO : Owns encG 2 68 W base v l) (hb : base ≤ W.heap.size) (hl : l.length + 1 ≤ 100000) (hx0 : 0 ≤ x) (hx1 : x ≤ 15) (ha0 : 0 ≤ acct) (ha1 : acct ≤ 3) :
    Calls Try.prog 35 #[v, .int .i64 x, .int .i64 acct, .int .i64 am] W fun e w' => ∃ v', e = .returned v' ∧ Owns encG 2 68 w' base v' (l ++ legP x acct am) ∧ Foot.Chg (fun k => some k = v.ownBlock) W w' := by
  have HO := Lib.hid (And.intro hO (And.intro hb hl))
  clear hO hb hl
  by_cases hz : am = 0
  · subst hz
    go_enter Try.func35, Try.ntmps35
    go_wp2_with fail
    go_ret
    exact ⟨v, rfl, by unfold legP; rw [if_pos rfl, List.append_nil]; exact HO.out.1, Foot.chg_refl _ _⟩
  · have hz2 : (am == 0) = false := beq_false_of_ne hz
    have HE := Lib.hid (show legP x acct am = [⟨acct + 3 * x, am⟩] by unfold legP; rw [if_neg hz])
    have hb1 := below_alloc W (.cells #[.int .i64 (acct + 3 * x), .int .i64 am] 68)
    have HA1 := Lib.hid (And.intro (Nest.own_on HO.out.1 hb1) (And.intro (leg_row W (acct + 3 * x) am) hb1))
    have h02 := Lib.hid (show 0 < 2 by omega)
    have HD := Lib.hid (show l.length + 1 ≤ maxLen ∧ (l.length + 1) * 16 ≤ 140737488355328 ∧ base ≤ (W.alloc (.cells #[.int .i64 (acct + 3 * x), .int .i64 am] 68)).heap.size by have := HO.out.2.2; have := HO.out.2.1; refine ⟨by unfold maxLen; omega, by omega, by simp; omega⟩)
    clear hb1 hz
    go_enter Try.func35, Try.ntmps35
    go_wp2_with (first | (at_builtin; refine Two.append_apart encG_len h02.out encG_one rfl (.tmp 12) (.tmp 19) 46 68 rfl Try.underlying46 (.agg #[.int .i64 0, .int .i64 0]) 16 info_leg rfl base v l rfl HA1.out.1 (some ⟨W.heap.size, 0, none⟩) 1 1 [⟨acct + 3 * x, am⟩] rfl rfl HA1.out.2.1 (fun h => by cases h) HD.out.1 HD.out.2.1 HD.out.2.2 ?_; intro v9 w9 ho9 hg9 hx9; have HG9 := Lib.hid (Foot.chg_trans (Foot.new_chg HA1.out.2.2 (fun k => some k = v.ownBlock)) (Foot.grown_chg hg9) (fun x hx => .inl hx)); have HO9 := Lib.hid ho9; clear ho9 hg9 hx9) | fail)
    go_ret
    exact ⟨v9, rfl, by rw [HE.out]; exact HO9.out, HG9.out⟩

theorem box_typed {v : Value} {base : Nat} {l : List Lg} (ho : Owns encG 2 68 w base v l) : Foot.Typed (fun k => some k = v.ownBlock) w 44 := Foot.typed_own ho (by decide)
theorem box_new (w : World) (x0 x1 : Int) : Arr.Blk (w.alloc (.cells #[.int .i64 x0, .int .i64 x1] 44)) w.heap.size 44 (encD ⟨x0, x1⟩) := Arr.blk_new w _ _ _ rfl
theorem own_below {v : Value} {base : Nat} {l : List Lg} (ho : Owns encG 2 68 w base v l) (hb : base ≤ w.heap.size) (hc : Foot.Chg (fun k => some k = v.ownBlock) w w') : Below base w w' :=
  Foot.chg_below hc (fun k hk => (World.ownsRow.lt ho k hk.symm).1) hb

set_option maxHeartbeats 8000000 in
theorem move_any (W : World) (a : Option Addr) (n c : Nat) (l : List Dw) (f t : Int) (h : Draws W a n c l) (hs : ∀ x ∈ l, Sane x) (hn : n ≤ 100) (hf0 : 0 ≤ f) (hf1 : f ≤ 3) (ht0 : 0 ≤ t) (ht1 : t ≤ 3) :
    Calls Try.prog 34 #[.slice a n c, .int .i64 f, .int .i64 t] W fun e w' => ∃ v, e = .returned v ∧ Owns encG 2 68 w' W.heap.size v (legsD l l f t 0) ∧ Below W.heap.size W w' := by
  have HL := Lib.hid (And.intro h (And.intro h.len hs))
  clear h hs
  go_enter Try.func34, Try.ntmps34
  go_wp2_with fail
  go_loopw [7, 12] (fun v i wr => ∃ k : Nat, k ≤ n ∧ i = .int .i64 (k : Nat) ∧ Owns encG 2 68 wr W.heap.size v (legsD (l.take k) (l.take k) f t 0) ∧ Below W.heap.size W wr) (fun _ i _ => n - (intOf i).toNat)
  case atStart => exact ⟨0, Nat.zero_le _, rfl, owns_nil _ _ _, Below.refl _ _⟩
  case round =>
    obtain ⟨k, hk, rfl, hown, hb⟩ := hrel
    have HO := Lib.hid (And.intro hown hb)
    clear hown hb
    by_cases hlt : k < n
    · have hkl : k < l.length := by rw [HL.out.2.1]; exact hlt
      obtain ⟨b1, o1, rfl⟩ := lst_at HL.out.1 (by omega)
      obtain ⟨q0, q1⟩ := draw_cells (lst_keep encD_len HL.out.1 HO.out.2) hkl
      have hlg := legs_take f t 0 (List.getElem?_eq_getElem hkl) (List.getElem?_eq_getElem hkl)
      have hsd := HL.out.2.2 _ (List.getElem_mem hkl)
      have hll := legs_len (l.take k) (l.take k) f t 0
      have hlk : (l.take k).length ≤ k := by rw [List.length_take]; exact Nat.min_le_left _ _
      generalize l[k] = x at *
      obtain ⟨x0, x1⟩ := x
      simp only at q0 q1
      obtain ⟨e1, e2, e3, e4⟩ := hsd
      simp only at e1 e2 e3 e4
      obtain ⟨lx, hx⟩ : ∃ lx, lx = legsD (l.take k) (l.take k) f t 0 := ⟨_, rfl⟩
      rw [← hx] at HO hlg hll
      have hl3 : lx.length ≤ 300 := by omega
      rw [legOf_move, ← List.append_assoc] at hlg
      have HLg := Lib.hid hlg
      have hb1 := below_alloc wr (.cells #[.int .i64 x0, .int .i64 x1] 44)
      have HW1 := Lib.hid (And.intro (Nest.own_on HO.out.1 hb1) (And.intro (below_keep HO.out.2 hb1) (And.intro (box_new wr x0 x1) (show lx.length + 1 ≤ 100000 by omega))))
      have HP := Lib.hid (legP_len x0 f (-x1))
      clear hlg hx hll hlk hb1
      go_wp2_with fail
      refine (put_any _ W.heap.size _ lx x0 f (-x1) HW1.out.1 HW1.out.2.1.size HW1.out.2.2.2 e1 e2 hf0 hf1).mono ?_
      rintro e w2 ⟨v2, rfl, ho2, hc2⟩
      have hbx := Foot.blk_typed HW1.out.2.2.1 hc2 (box_typed HW1.out.1)
      have c0 : w2.cell? ⟨wr.heap.size, 0, none⟩ = some (.int .i64 x0) := Arr.blk_cell hbx 0
      have c1 : w2.cell? ⟨wr.heap.size, 1, none⟩ = some (.int .i64 x1) := Arr.blk_cell hbx 1
      have HW2 := Lib.hid (And.intro ho2 (And.intro (HW1.out.2.1.trans (own_below HW1.out.1 HW1.out.2.1.size hc2)) (show (lx ++ legP x0 f (-x1)).length + 1 ≤ 100000 by rw [List.length_append]; have := HP.out; omega)))
      clear ho2 hc2 hbx
      go_wp2_with fail
      refine (put_any _ W.heap.size _ (lx ++ legP x0 f (-x1)) x0 t x1 HW2.out.1 HW2.out.2.1.size HW2.out.2.2 e1 e2 ht0 ht1).mono ?_
      rintro e w3 ⟨v3, rfl, ho3, hc3⟩
      have HW3 := Lib.hid (And.intro ho3 (HW2.out.2.1.trans (own_below HW2.out.1 HW2.out.2.1.size hc3)))
      clear ho3 hc3
      go_wp2_with fail
      go_roundw
      case rel => exact ⟨k + 1, by omega, by go_num, by rw [HLg.out]; exact HW3.out.1, HW3.out.2⟩
      case measure => simp [intOf]; omega
    · obtain rfl : n = k := by omega
      have htk : l.take n = l := List.take_of_length_le (by rw [HL.out.2.1]; exact Nat.le_refl _)
      rw [htk] at HO
      go_wp2_with fail
      go_ret
      exact ⟨_, rfl, HO.out.1, HO.out.2⟩

theorem lien_any (W : World) (a : Option Addr) (n c : Nat) (l : List Dw) (h : Draws W a n c l) (hs : ∀ x ∈ l, Sane x) (hn : n ≤ 100) :
    Calls Try.prog 19 #[.slice a n c] W fun e W' => ∃ v, e = .returned v ∧ OutG W' W.heap.size v (legsD l l 1 2 0) ∧ Below W.heap.size W W' := by
  have HC := Lib.hid (move_any W a n c l 1 2 h hs hn (by omega) (by omega) (by omega) (by omega))
  clear h hs
  go_enter Try.func19, Try.ntmps19
  go_wp2_with fail
  refine HC.out.mono ?_
  rintro e w2 ⟨v, rfl, ho, hb⟩
  go_wp2_with fail
  go_ret
  exact ⟨v, rfl, .inl ho, hb⟩
theorem free_any (W : World) (a : Option Addr) (n c : Nat) (l : List Dw) (h : Draws W a n c l) (hs : ∀ x ∈ l, Sane x) (hn : n ≤ 100) :
    Calls Try.prog 21 #[.slice a n c] W fun e W' => ∃ v, e = .returned v ∧ OutG W' W.heap.size v (legsD l l 2 1 0) ∧ Below W.heap.size W W' := by
  have HC := Lib.hid (move_any W a n c l 2 1 h hs hn (by omega) (by omega) (by omega) (by omega))
  clear h hs
  go_enter Try.func21, Try.ntmps21
  go_wp2_with fail
  refine HC.out.mono ?_
  rintro e w2 ⟨v, rfl, ho, hb⟩
  go_wp2_with fail
  go_ret
  exact ⟨v, rfl, .inl ho, hb⟩
theorem back_any (W : World) (a : Option Addr) (n c : Nat) (l : List Dw) (h : Draws W a n c l) (hs : ∀ x ∈ l, Sane x) (hn : n ≤ 100) :
    Calls Try.prog 22 #[.slice a n c] W fun e W' => ∃ v, e = .returned v ∧ OutG W' W.heap.size v (legsD l l 3 1 0) ∧ Below W.heap.size W W' := by
  have HC := Lib.hid (move_any W a n c l 3 1 h hs hn (by omega) (by omega) (by omega) (by omega))
  clear h hs
  go_enter Try.func22, Try.ntmps22
  go_wp2_with fail
  refine HC.out.mono ?_
  rintro e w2 ⟨v, rfl, ho, hb⟩
  go_wp2_with fail
  go_ret
  exact ⟨v, rfl, .inl ho, hb⟩

set_option maxHeartbeats 16000000 in
theorem spend_any (W : World) (a a2 : Option Addr) (n c n2 c2 : Nat) (l m : List Dw) (h : Draws W a n c l) (h2 : Draws W a2 n2 c2 m) (hs : ∀ x ∈ l, Sane x) (hs2 : ∀ x ∈ m, Sane x) (hn : n ≤ 100) (hn2 : n2 ≤ 100) :
    Calls Try.prog 23 #[.slice a n c, .slice a2 n2 c2] W fun e w' => ∃ v, e = .returned v ∧ OutG w' W.heap.size v (if n = n2 then legsD l m 2 3 1 else []) ∧ Below W.heap.size W w' := by
  have HL := Lib.hid (And.intro h (And.intro h.len (And.intro h2 (And.intro h2.len (And.intro hs hs2)))))
  clear h h2 hs hs2
  by_cases hnn : n = n2
  · subst hnn
    rw [if_pos rfl]
    go_enter Try.func23, Try.ntmps23
    go_wp2_with fail
    go_loopw [5, 16] (fun v i wr => ∃ k : Nat, k ≤ n ∧ i = .int .i64 (k : Nat) ∧ Owns encG 2 68 wr W.heap.size v (legsD (l.take k) (m.take k) 2 3 1) ∧ Below W.heap.size W wr) (fun _ i _ => n - (intOf i).toNat)
    case atStart => exact ⟨0, Nat.zero_le _, rfl, owns_nil _ _ _, Below.refl _ _⟩
    case round =>
      obtain ⟨k, hk, rfl, hown, hb⟩ := hrel
      have HO := Lib.hid (And.intro hown hb)
      clear hown hb
      by_cases hlt : k < n
      · have hkl : k < l.length := by rw [HL.out.2.1]; exact hlt
        have hkm : k < m.length := by rw [HL.out.2.2.2.1]; exact hlt
        obtain ⟨b1, o1, rfl⟩ := lst_at HL.out.1 (by omega)
        obtain ⟨b2, o2, rfl⟩ := lst_at HL.out.2.2.1 (by omega)
        obtain ⟨q0, q1⟩ := draw_cells (lst_keep encD_len HL.out.1 HO.out.2) hkl
        obtain ⟨-, p1⟩ := draw_cells (lst_keep encD_len HL.out.2.2.1 HO.out.2) hkm
        have hlg := legs_take 2 3 1 (List.getElem?_eq_getElem hkl) (List.getElem?_eq_getElem hkm)
        have hsd := HL.out.2.2.2.2.1 _ (List.getElem_mem hkl)
        have hsc := HL.out.2.2.2.2.2 _ (List.getElem_mem hkm)
        have hll := legs_len (l.take k) (m.take k) 2 3 1
        have hlk : (l.take k).length ≤ k := by rw [List.length_take]; exact Nat.min_le_left _ _
        generalize l[k] = x at *
        generalize m[k] = y at *
        obtain ⟨x0, x1⟩ := x
        obtain ⟨y0, y1⟩ := y
        simp only at q0 q1 p1
        obtain ⟨e1, e2, e3, e4⟩ := hsd
        obtain ⟨-, -, e5, e6⟩ := hsc
        simp only at e1 e2 e3 e4 e5 e6
        obtain ⟨lx, hx⟩ : ∃ lx, lx = legsD (l.take k) (m.take k) 2 3 1 := ⟨_, rfl⟩
        rw [← hx] at HO hlg hll
        have hl3 : lx.length ≤ 300 := by omega
        have hb1 := below_alloc wr (.cells #[.int .i64 x0, .int .i64 x1] 44)
        have HW1 := Lib.hid (And.intro (Nest.own_on HO.out.1 hb1) (And.intro (below_keep HO.out.2 hb1) (And.intro (box_new wr x0 x1) (show lx.length + 1 ≤ 100000 by omega))))
        by_cases hz : x1 = 0
        · subst hz
          rw [legOf_zero, List.append_nil] at hlg
          have HLg := Lib.hid hlg
          clear hlg hx hll hlk hb1 e3 e4
          go_wp2_with fail
          go_roundw
          case rel => exact ⟨k + 1, by omega, by go_num, by rw [HLg.out]; exact HW1.out.1, HW1.out.2.1⟩
          case measure => simp [intOf]; omega
        · have hz2 : (x1 == 0) = false := beq_false_of_ne hz
          rw [legOf_spend _ _ _ _ _ _ _ hz, ← List.append_assoc, ← List.append_assoc] at hlg
          have HLg := Lib.hid hlg
          have HP := Lib.hid (And.intro (legP_len x0 2 (-x1)) (legP_len x0 3 y1))
          have p1' := cell_keep hb1 p1
          clear hlg hx hll hlk hb1 p1 hz
          go_wp2_with fail
          refine (put_any _ W.heap.size _ lx x0 2 (-x1) HW1.out.1 HW1.out.2.1.size HW1.out.2.2.2 e1 e2 (by omega) (by omega)).mono ?_
          rintro e w2 ⟨v2, rfl, ho2, hc2⟩
          have hbx := Foot.blk_typed HW1.out.2.2.1 hc2 (box_typed HW1.out.1)
          have c0 : w2.cell? ⟨wr.heap.size, 0, none⟩ = some (.int .i64 x0) := Arr.blk_cell hbx 0
          have HW2 := Lib.hid (And.intro ho2 (And.intro (HW1.out.2.1.trans (own_below HW1.out.1 HW1.out.2.1.size hc2)) (And.intro hbx (show (lx ++ legP x0 2 (-x1)).length + 1 ≤ 100000 by rw [List.length_append]; have := HP.out.1; omega))))
          clear ho2 hc2 hbx
          go_wp2_with fail
          refine (put_any _ W.heap.size _ (lx ++ legP x0 2 (-x1)) x0 3 y1 HW2.out.1 HW2.out.2.1.size HW2.out.2.2.2 e1 e2 (by omega) (by omega)).mono ?_
          rintro e w3 ⟨v3, rfl, ho3, hc3⟩
          have hbx := Foot.blk_typed HW2.out.2.2.1 hc3 (box_typed HW2.out.1)
          have d0 : w3.cell? ⟨wr.heap.size, 0, none⟩ = some (.int .i64 x0) := Arr.blk_cell hbx 0
          have d1 : w3.cell? ⟨wr.heap.size, 1, none⟩ = some (.int .i64 x1) := Arr.blk_cell hbx 1
          have HW3 := Lib.hid (And.intro ho3 (And.intro (HW2.out.2.1.trans (own_below HW2.out.1 HW2.out.2.1.size hc3)) (show (lx ++ legP x0 2 (-x1) ++ legP x0 3 y1).length + 1 ≤ 100000 by rw [List.length_append, List.length_append]; have := HP.out; omega)))
          clear ho3 hc3 hbx c0
          go_wp2_with fail
          refine (put_any _ W.heap.size _ (lx ++ legP x0 2 (-x1) ++ legP x0 3 y1) x0 1 (x1 - y1) HW3.out.1 HW3.out.2.1.size HW3.out.2.2 e1 e2 (by omega) (by omega)).mono ?_
          rintro e w4 ⟨v4, rfl, ho4, hc4⟩
          have HW4 := Lib.hid (And.intro ho4 (HW3.out.2.1.trans (own_below HW3.out.1 HW3.out.2.1.size hc4)))
          clear ho4 hc4
          go_wp2_with fail
          go_roundw
          case rel => exact ⟨k + 1, by omega, by go_num, by rw [HLg.out]; exact HW4.out.1, HW4.out.2⟩
          case measure => simp [intOf]; omega
      · obtain rfl : n = k := by omega
        have htk : l.take n = l := List.take_of_length_le (by rw [HL.out.2.1]; exact Nat.le_refl _)
        have htm : m.take n = m := List.take_of_length_le (by rw [HL.out.2.2.2.1]; exact Nat.le_refl _)
        rw [htk, htm] at HO
        go_wp2_with fail
        go_ret
        exact ⟨_, rfl, .inl HO.out.1, HO.out.2⟩
  · rw [if_neg hnn]
    have hne : ((n : Int) == (n2 : Int)) = false := beq_false_of_ne (by omega)
    go_enter Try.func23, Try.ntmps23
    go_wp2_with fail
    go_ret
    exact ⟨_, rfl, out_nil _ _ _ _ _, Below.refl _ _⟩
end Go.Proofs.Ytghglgodkknlnaa.Drw
/- Draw, the landed: Charge and Total. -/
namespace Go.Proofs.Ytghglgodkknlnaa.Drw
set_option maxRecDepth 100000
open Go.RowKit
open Go.Sort
open Kit
open Mon
open Tre (Lst inI lst_keep lst_take lst_at lst_new lst_none below_drewN' encI encI_len encI_one OwI own_chg' info_i lit_row owns_lit ints_elems)
set_option linter.unusedVariables false
variable {w w' : World}

set_option maxHeartbeats 8000000 in
theorem charge_any (a : Option Addr) (n c : Nat) (l : List Dw) (am : Int) (w : World) (h : Draws w a n c l) (hn : n ≤ 100) (hok : ∀ x ∈ l, x.ok) (ham : inI am) :
    Calls Try.prog 13 #[.slice a n c, .int .i64 am] w fun e w' => ∃ v, e = .returned (.tuple #[v, .int .i64 (chargeE l am)]) ∧ OutD w' w.heap.size v (chargeL l am) ∧ Below w.heap.size w w' := by
  have HL := Lib.hid (And.intro h (And.intro h.len hok))
  clear h hok
  by_cases h0 : am < 0
  · have HE := Lib.hid (show chargeE l am = 1 ∧ chargeL l am = [] from ⟨chargeE_arg h0, chargeL_no (by rw [chargeE_arg h0]; decide)⟩)
    go_enter Try.func13, Try.ntmps13
    go_wp2_with fail
    go_ret2
    exact ⟨_, by rw [HE.out.1]; rfl, by rw [HE.out.2]; exact out_nil _ _ _ _ _, Below.refl _ _⟩
  · have H0 := Lib.hid (show 0 ≤ am by omega)
    go_enter Try.func13, Try.ntmps13
    go_wp2_with fail
    go_loopw [1, 6, 14] (fun av v i wr => ∃ (k : Nat) (b : Int) (out : List Dw), k ≤ n ∧ i = .int .i64 (k : Nat) ∧ av = .int .i64 b ∧ (0 ≤ b ∧ b ≤ am) ∧ out.length = k ∧ chargeTo l am = (chargeTo (l.drop k) b).map (fun p => (out ++ p.1, p.2)) ∧ Owns encD 2 44 wr w.heap.size v out ∧ Below w.heap.size w wr) (fun _ _ i _ => n - (intOf i).toNat)
    case atStart => exact ⟨0, am, [], Nat.zero_le _, rfl, rfl, ⟨by omega, Int.le_refl _⟩, rfl, by cases hc : chargeTo l am <;> simp [hc], owns_nil _ _ _, Below.refl _ _⟩
    case round =>
      obtain ⟨k, b, out, hk, rfl, rfl, ⟨hb0, hb1⟩, hol, hct, hown, hb⟩ := hrel
      have HO := Lib.hid (And.intro hct (And.intro hown (And.intro hb hol)))
      clear hct hown hb hol
      by_cases hlt : k < n
      · have hkl : k < l.length := by rw [HL.out.2.1]; exact hlt
        obtain ⟨b2, o2, rfl⟩ := lst_at HL.out.1 (by omega)
        obtain ⟨q0, q1⟩ := draw_cells (lst_keep encD_len HL.out.1 HO.out.2.2.1) hkl
        have hget := List.getElem?_eq_getElem hkl
        have hxk := HL.out.2.2 l[k] (List.getElem_mem hkl)
        generalize l[k] = x at *
        have hng := fun h => charge_neg hget h b
        have hst := fun h => charge_step hget h b
        obtain ⟨x0, x1⟩ := x
        simp only at q0 q1 hng hst
        have hx1 := hxk.2
        simp only at hx1
        have HX := Lib.hid (And.intro hng hst)
        clear hng hst hget hxk
        by_cases hneg : x1 < 0
        · have HE := Lib.hid (show chargeE l am = 7 ∧ chargeL l am = [] by
            have hn0 : chargeTo l am = none := by rw [HO.out.1, HX.out.1 hneg]; rfl
            exact ⟨chargeE_none H0.out hn0, chargeL_no (by rw [chargeE_none H0.out hn0]; decide)⟩)
          go_wp2_with fail
          go_ret2
          exact ⟨_, by rw [HE.out.1]; rfl, by rw [HE.out.2]; exact out_nil _ _ _ _ _, below_keep HO.out.2.2.1 (below_alloc _ _)⟩
        · have hst := HX.out.2 hneg
          have hl1 : (out ++ ([⟨x0, min x1 b⟩] : List Dw)).length = k + 1 := by rw [List.length_append, HO.out.2.2.2]; rfl
          have HSt := Lib.hid (And.intro (show chargeTo l am = (chargeTo (l.drop (k + 1)) (b - min x1 b)).map (fun p => ((out ++ [⟨x0, min x1 b⟩]) ++ p.1, p.2)) by
            rw [HO.out.1, hst]
            cases chargeTo (l.drop (k + 1)) (b - min x1 b) with
            | none => rfl
            | some p => simp) hl1)
          have hol2 := HO.out.2.2.2
          have HD := Lib.hid (show out.length + 1 ≤ maxLen ∧ (out.length + 1) * 16 ≤ 140737488355328 by unfold maxLen; omega)
          clear hst hl1 hol2
          by_cases hgt : b < x1
          · have hmin : min x1 b = b := by omega
            rw [hmin] at HSt
            have HA1 := Lib.hid (And.intro (Nest.own_on (Nest.own_on HO.out.2.1 (below_alloc wr (.cells #[.int .i64 x0, .int .i64 x1] 44))) (below_alloc (wr.alloc (.cells #[.int .i64 x0, .int .i64 x1] 44)) (.cells #[.int .i64 x0, .int .i64 b] 44))) (And.intro (show Kit.Row encD 2 _ (some ⟨wr.heap.size + 1, 0, none⟩) [⟨x0, b⟩] from row_new encD_len (wr.alloc (.cells #[.int .i64 x0, .int .i64 x1] 44)) [⟨x0, b⟩] #[.int .i64 x0, .int .i64 b] 44 _ (by simp) rfl) (below_keep (below_keep HO.out.2.2.1 (below_alloc wr (.cells #[.int .i64 x0, .int .i64 x1] 44))) (below_alloc (wr.alloc (.cells #[.int .i64 x0, .int .i64 x1] 44)) (.cells #[.int .i64 x0, .int .i64 b] 44)))))
            have h02 := Lib.hid (show 0 < 2 by omega)
            clear hmin
            go_wp2_with (first | (at_builtin; refine Two.append_apart encD_len h02.out encD_one rfl (.tmp 25) (.tmp 30) 26 44 rfl Try.underlying26 (.agg #[.int .i64 0, .int .i64 0]) 16 info_draw rfl w.heap.size _ out rfl HA1.out.1 (some ⟨wr.heap.size + 1, 0, none⟩) 1 1 [⟨x0, b⟩] rfl rfl HA1.out.2.1 (fun h => by cases h) HD.out.1 HD.out.2 HA1.out.2.2.size ?_; intro v9 w9 ho9 hg9 hx9; have HB9 := Lib.hid (HA1.out.2.2.trans (Two.below_grown HA1.out.1 hg9 HA1.out.2.2.size)); have HO9 := Lib.hid ho9; clear ho9 hg9 hx9) | fail)
            go_roundw
            case rel => exact ⟨k + 1, 0, out ++ [⟨x0, b⟩], by omega, by go_num, by first | rfl | (congr 1; omega), ⟨by omega, by omega⟩, HSt.out.2, by have := HSt.out.1; rwa [Int.sub_self] at this, HO9.out, HB9.out⟩
            case measure => simp [intOf]; omega
          · have hmin : min x1 b = x1 := by omega
            rw [hmin] at HSt
            have HA1 := Lib.hid (And.intro (Nest.own_on (Nest.own_on HO.out.2.1 (below_alloc wr (.cells #[.int .i64 x0, .int .i64 x1] 44))) (below_alloc (wr.alloc (.cells #[.int .i64 x0, .int .i64 x1] 44)) (.cells #[.int .i64 x0, .int .i64 x1] 44))) (And.intro (show Kit.Row encD 2 _ (some ⟨wr.heap.size + 1, 0, none⟩) [⟨x0, x1⟩] from row_new encD_len (wr.alloc (.cells #[.int .i64 x0, .int .i64 x1] 44)) [⟨x0, x1⟩] #[.int .i64 x0, .int .i64 x1] 44 _ (by simp) rfl) (below_keep (below_keep HO.out.2.2.1 (below_alloc wr (.cells #[.int .i64 x0, .int .i64 x1] 44))) (below_alloc (wr.alloc (.cells #[.int .i64 x0, .int .i64 x1] 44)) (.cells #[.int .i64 x0, .int .i64 x1] 44)))))
            have h02 := Lib.hid (show 0 < 2 by omega)
            clear hmin
            go_wp2_with (first | (at_builtin; refine Two.append_apart encD_len h02.out encD_one rfl (.tmp 25) (.tmp 30) 26 44 rfl Try.underlying26 (.agg #[.int .i64 0, .int .i64 0]) 16 info_draw rfl w.heap.size _ out rfl HA1.out.1 (some ⟨wr.heap.size + 1, 0, none⟩) 1 1 [⟨x0, x1⟩] rfl rfl HA1.out.2.1 (fun h => by cases h) HD.out.1 HD.out.2 HA1.out.2.2.size ?_; intro v9 w9 ho9 hg9 hx9; have HB9 := Lib.hid (HA1.out.2.2.trans (Two.below_grown HA1.out.1 hg9 HA1.out.2.2.size)); have HO9 := Lib.hid ho9; clear ho9 hg9 hx9) | fail)
            go_roundw
            case rel => exact ⟨k + 1, b - x1, out ++ [⟨x0, x1⟩], by omega, by go_num, rfl, ⟨by omega, by omega⟩, HSt.out.2, HSt.out.1, HO9.out, HB9.out⟩
            case measure => simp [intOf]; omega
      · obtain rfl : n = k := by omega
        have hct : chargeTo l am = some (out, b) := by
          rw [HO.out.1, List.drop_eq_nil_of_le (by rw [HL.out.2.1]; exact Nat.le_refl _)]; simp [chargeTo]
        by_cases hpos : 0 < b
        · have HE := Lib.hid (show chargeE l am = 7 ∧ chargeL l am = [] by
            have he : chargeE l am = 7 := by rw [chargeE_some H0.out hct, if_pos hpos]
            exact ⟨he, chargeL_no (by rw [he]; decide)⟩)
          clear hct
          go_wp2_with fail
          go_ret2
          exact ⟨_, by rw [HE.out.1]; rfl, by rw [HE.out.2]; exact out_nil _ _ _ _ _, HO.out.2.2.1⟩
        · have HE := Lib.hid (show chargeE l am = 0 ∧ chargeL l am = out from ⟨by rw [chargeE_some H0.out hct, if_neg hpos], chargeL_some H0.out hct hpos⟩)
          clear hct
          go_wp2_with fail
          go_ret2
          exact ⟨_, by rw [HE.out.1]; rfl, by rw [HE.out.2]; exact .inl HO.out.2.1, HO.out.2.2.1⟩

set_option maxHeartbeats 4000000 in
theorem total_any (a : Option Addr) (n c : Nat) (l : List Dw) (w : World) (h : Draws w a n c l) (hn : n ≤ 100) :
    Calls Try.prog 15 #[.slice a n c] w fun e w' => e = .returned (.tuple #[.int .i64 (addN (amtsD l)), .int .i64 (addE (amtsD l))]) ∧ Below w.heap.size w w' := by
  have HL := Lib.hid (And.intro h h.len)
  clear h
  go_enter Try.func15, Try.ntmps15
  go_wp2_with fail
  go_loopw [4, 9] (fun v i wr => ∃ k : Nat, k ≤ n ∧ i = .int .i64 (k : Nat) ∧ OwI wr w.heap.size v (amtsD (l.take k)) ∧ Below w.heap.size w wr) (fun _ i _ => n - (intOf i).toNat)
  case atStart => exact ⟨0, Nat.zero_le _, rfl, owns_nil _ _ _, Below.refl _ _⟩
  case round =>
    obtain ⟨k, hk, rfl, hown, hb⟩ := hrel
    have HO := Lib.hid (And.intro hown hb)
    clear hown hb
    by_cases hlt : k < n
    · have hkl : k < l.length := by rw [HL.out.2]; exact hlt
      obtain ⟨b2, o2, rfl⟩ := lst_at HL.out.1 (by omega)
      obtain ⟨q0, q1⟩ := draw_cells (lst_keep encD_len HL.out.1 HO.out.2) hkl
      have hat := amtsD_take (List.getElem?_eq_getElem hkl)
      generalize l[k] = x at *
      obtain ⟨x0, x1⟩ := x
      simp only at q0 q1 hat
      have HAt := Lib.hid hat
      have hlx : (amtsD (l.take k)).length ≤ 100 := by unfold amtsD; rw [List.length_map, List.length_take]; omega
      obtain ⟨lx, hx⟩ : ∃ y, y = amtsD (l.take k) := ⟨_, rfl⟩
      rw [← hx] at HO HAt hlx
      have HA1 := Lib.hid (own_chg' (own_chg' HO.out.1 (below_alloc wr (.cells #[.int .i64 x0, .int .i64 x1] 44))) (below_alloc (wr.alloc (.cells #[.int .i64 x0, .int .i64 x1] 44)) (.cells #[.int .i64 x1] 3)))
      have HA2 := Lib.hid (show Kit.Row encI 1 _ (some ⟨wr.heap.size + 1, 0, none⟩) [x1] from row_new encI_len (wr.alloc (.cells #[.int .i64 x0, .int .i64 x1] 44)) [x1] #[.int .i64 x1] 3 _ (by simp) rfl)
      have HA3 := Lib.hid (below_keep (below_keep HO.out.2 (below_alloc wr (.cells #[.int .i64 x0, .int .i64 x1] 44))) (below_alloc (wr.alloc (.cells #[.int .i64 x0, .int .i64 x1] 44)) (.cells #[.int .i64 x1] 3)))
      have HD1 := Lib.hid (show lx.length + 1 ≤ maxLen by unfold maxLen; omega)
      have HD2 := Lib.hid (show (lx.length + 1) * 8 ≤ 140737488355328 by omega)
      clear hx hlx hat
      go_wp2_with (first | (at_builtin; refine Two.append_apart encI_len Nat.zero_lt_one encI_one rfl (.tmp 13) (.tmp 16) 50 3 rfl Try.underlying50 (.int .i64 0) 8 info_i rfl w.heap.size _ lx rfl HA1.out (some ⟨wr.heap.size + 1, 0, none⟩) 1 1 [x1] rfl rfl HA2.out (fun h => by cases h) HD1.out HD2.out HA3.out.size ?_; intro v9 w9 ho9 hg9 hx9; have HB9 := Lib.hid (HA3.out.trans (Two.below_grown HA1.out hg9 HA3.out.size)); have HO9 := Lib.hid ho9; clear ho9 hg9 hx9) | fail)
      go_roundw
      case rel => exact ⟨k + 1, by omega, by go_num, by rw [HAt.out]; exact HO9.out, HB9.out⟩
      case measure => simp [intOf]; omega
    · obtain rfl : n = k := by omega
      have htk : l.take n = l := List.take_of_length_le (by rw [HL.out.2]; exact Nat.le_refl _)
      rw [htk] at HO
      obtain ⟨a10, c10, rfl, g1', g2', g3', g4'⟩ := owns_row encI_len HO.out.1
      have hel : Elems wr a10 (amtsD l) := ints_elems ⟨rfl, g1', g2', fun e => ⟨by have := g3' e; omega, g3' e⟩, g4'⟩
      have HE := Lib.hid (And.intro hel (And.intro (show (amtsD l).length ≤ maxLen from Nat.le_trans g1' g2') HO.out.2))
      obtain ⟨na, hna⟩ : ∃ na, na = (amtsD l).length := ⟨_, rfl⟩
      rw [← hna]
      have HNa := Lib.hid hna
      clear g1' g2' g3' g4' hel hna HO htk
      go_wp2_with fail
      refine (add_any a10 na c10 (amtsD l) wr HNa.out.symm (by rw [HNa.out]; exact HE.out.2.1) HE.out.1).mono ?_
      rintro e w3 ⟨rfl, rfl⟩
      go_wp2_with fail
      go_ret2
      exact ⟨rfl, HE.out.2.2⟩
end Go.Proofs.Ytghglgodkknlnaa.Drw
/- Tree: the landed Path, as it runs. -/
namespace Go.Proofs.Ytghglgodkknlnaa.Tre
set_option maxRecDepth 100000
open Go.RowKit
open Go.Sort
open Kit
open Mon
set_option linter.unusedVariables false
variable {w w' : World}

/-! ### Path -/

set_option maxHeartbeats 4000000 in
theorem path_any (l : List Fd) (hok : ∀ x ∈ l, x.ok) (a : Option Addr) (n c : Nat) (w : World) (h : Funds w a n c l) (hn : n ≤ 100) (f : Int) :
    Calls Try.prog 24 #[.slice a n c, .int .i64 f] w fun e w' => ∃ v, e = .returned v ∧ NewI w' w.heap.size v (path l f) ∧ Below w.heap.size w w' := by
  have HP := Lib.hid (show path l f = [] ++ (if f < (n : Int) then path l f else []) by
    by_cases hf : f < (n : Int)
    · rw [if_pos hf]; rfl
    · rw [if_neg hf, path_far (.inr (by rw [h.len]; omega))]; rfl)
  have HL := Lib.hid (And.intro h h.len)
  clear h
  go_enter Try.func24, Try.ntmps24
  go_wp2_with fail
  go_loopw [1, 5, 6] (fun fv v bv wr => ∃ (fc : Int) (m : Nat) (done : List Int), fv = .int .i64 fc ∧ bv = .int .i64 (m : Nat) ∧ m ≤ n ∧ done.length + m ≤ n ∧ path l f = done ++ (if fc < (m : Int) then path l fc else []) ∧ OwI wr w.heap.size v done ∧ Below w.heap.size w wr) (fun _ _ bv _ => (intOf bv).toNat)
  case atStart => exact ⟨f, n, [], rfl, rfl, Nat.le_refl _, by simp, HP.out, owns_nil _ _ _, Below.refl _ _⟩
  case round =>
    obtain ⟨fc, m, done, rfl, rfl, hmn, hdl, hpt, hown, hb⟩ := hrel
    have HO := Lib.hid (And.intro hpt (And.intro hown (And.intro hb hdl)))
    clear hpt hown hb hdl
    by_cases h0 : 0 ≤ fc
    · by_cases hlt : fc < (m : Int)
      · obtain ⟨k, rfl⟩ : ∃ k : Nat, fc = k := ⟨fc.toNat, by omega⟩
        have hkn : k < n := by omega
        have hkl : k < l.length := by rw [HL.out.2]; exact hkn
        obtain ⟨b, o, rfl⟩ := lst_at HL.out.1 (by omega)
        have HF := Lib.hid (fun (wz : World) (hz : Below w.heap.size w wz) => (fund_cells (lst_keep encF_len HL.out.1 hz) hkl).2.1)
        have hpa := path_at (List.getElem?_eq_getElem hkl)
        generalize l[k] = x at *
        obtain ⟨nm, pr, lm⟩ := x
        simp only at HF hpa
        have HPa := Lib.hid (show path l f = (done ++ [(k : Int)]) ++ (if pr < (k : Int) then path l pr else []) by
          rw [HO.out.1, if_pos hlt, hpa, List.append_assoc]; rfl)
        have HA1 := Lib.hid (own_chg' HO.out.2.1 (below_alloc wr (.cells #[.int .i64 (k : Nat)] 3)))
        have HA2 := Lib.hid (lit_row wr (k : Nat))
        have HA3 := Lib.hid (below_keep HO.out.2.2.1 (below_alloc wr (.cells #[.int .i64 (k : Nat)] 3)))
        have HD1 := Lib.hid (show done.length + 1 ≤ maxLen by have := HO.out.2.2.2; unfold maxLen; omega)
        have HD2 := Lib.hid (show (done.length + 1) * 8 ≤ 140737488355328 by have := HO.out.2.2.2; omega)
        have HD3 := Lib.hid (show (done ++ [(k : Int)]).length + k ≤ n by have := HO.out.2.2.2; rw [List.length_append]; simp; omega)
        clear hpa
        go_wp2_with (first | (at_builtin; refine Two.append_apart encI_len Nat.zero_lt_one encI_one rfl (.tmp 16) (.tmp 18) 50 3 rfl Try.underlying50 (.int .i64 0) 8 info_i rfl w.heap.size _ done rfl HA1.out (some ⟨wr.heap.size, 0, none⟩) 1 1 [((k : Nat) : Int)] rfl rfl HA2.out (fun h => by cases h) HD1.out HD2.out HA3.out.size ?_; intro v9 w9 ho9 hg9 _; have HB9 := Lib.hid (HA3.out.trans (Two.below_grown HA1.out hg9 HA3.out.size)); have HO9 := Lib.hid ho9; have q9 := HF.out w9 HB9.out; clear ho9 hg9) | fail)
        go_quiet (fail)
        go_wp2_with fail
        go_roundw
        case rel => exact ⟨pr, k, done ++ [(k : Int)], rfl, rfl, by omega, HD3.out, HPa.out, own_chg' HO9.out (below_drewN' _ _), below_keep HB9.out (below_drewN' _ _)⟩
        case measure => simp [intOf]; omega
      · have HPa := Lib.hid (show path l f = done by rw [HO.out.1, if_neg hlt, List.append_nil])
        have hge : ¬ fc < (m : Int) := hlt
        go_wp2_with fail
        go_ret
        exact ⟨_, rfl, by rw [HPa.out]; exact newI_own HO.out.2.1, HO.out.2.2.1⟩
    · have HPa := Lib.hid (show path l f = done by rw [HO.out.1, path_neg (by omega)]; simp)
      go_wp2_with fail
      go_ret
      exact ⟨_, rfl, by rw [HPa.out]; exact newI_own HO.out.2.1, HO.out.2.2.1⟩
end Go.Proofs.Ytghglgodkknlnaa.Tre
/- Draw: draws of allocations that there may be, and of amounts that fit (the laws' sane). -/
namespace Go.Proofs.Ytghglgodkknlnaa.Drw
set_option maxRecDepth 100000
open Go.RowKit
open Go.Sort
open Kit
open Mon
open Tre (Al Lst inI lst_keep lst_take lst_at lst_new)
set_option linter.unusedVariables false
variable {w w' : World}

instance (d : Dw) : Decidable (Sane d) := by unfold Sane; infer_instance
def saneL (l : List Dw) : List Dw := (l.take 20).filter fun d => decide (Sane d)
theorem sane_mem {l : List Dw} : ∀ x ∈ saneL l, Sane x := fun x hx => by
  have := (List.mem_filter.1 hx).2
  simpa using this
theorem sane_len (l : List Dw) : (saneL l).length ≤ 20 := by
  have h1 := List.length_filter_le (fun d => decide (Sane d)) (l.take 20)
  rw [List.length_take] at h1
  unfold saneL; omega
set_option maxHeartbeats 8000000 in
theorem sane_any (a : Option Addr) (n c : Nat) (l : List Dw) (w : World) (h : Draws w a n c l) (hok : ∀ x ∈ l, x.ok) :
    Calls Try.prog 17 #[.slice a n c] w fun e w' => ∃ v, e = .returned v ∧ Owns encD 2 44 w' w.heap.size v (saneL l) ∧ Below w.heap.size w w' := by
  have hmax : n ≤ 9223372036854775807 := by have := h.cap; have := h.max; unfold maxLen at this; omega
  have HL := Lib.hid (And.intro h (And.intro h.len hok))
  clear h hok
  have HEm := Lib.hid (And.intro (own_empty encD 2 44 w w.heap.size (Nat.le_refl _)) (below_alloc w (.cells #[] 44)))
  go_enter Try.func17, Try.ntmps17
  go_wp2_with fail
  go_loopw [3, 4] (fun v i wr => ∃ k : Nat, (k ≤ n ∧ k ≤ 20) ∧ i = .int .i64 (k : Nat) ∧ Owns encD 2 44 wr w.heap.size v ((l.take k).filter fun d => decide (Sane d)) ∧ Below w.heap.size w wr) (fun _ i _ => n - (intOf i).toNat)
  case atStart => exact ⟨0, ⟨Nat.zero_le _, Nat.zero_le _⟩, rfl, HEm.out.1, HEm.out.2⟩
  case round =>
    obtain ⟨k, ⟨hk, hk2⟩, rfl, hown, hb⟩ := hrel
    have HO := Lib.hid (And.intro hown hb)
    clear hown hb
    by_cases hlt : k < n
    · by_cases hlt2 : k < 20
      · have hkl : k < l.length := by rw [HL.out.2.1]; exact hlt
        obtain ⟨b2, o2, rfl⟩ := lst_at HL.out.1 (by omega)
        obtain ⟨q0, q1⟩ := draw_cells (lst_keep encD_len HL.out.1 HO.out.2) hkl
        have htk : (l.take (k + 1)).filter (fun d => decide (Sane d)) = (l.take k).filter (fun d => decide (Sane d)) ++ (if Sane l[k] then [l[k]] else []) := by
          rw [List.take_succ_eq_append_getElem hkl, List.filter_append]
          congr 1
          by_cases hs : Sane l[k] <;> simp [hs]
        generalize l[k] = x at *
        obtain ⟨lx, hx⟩ : ∃ y, y = (l.take k).filter (fun d => decide (Sane d)) := ⟨_, rfl⟩
        have hlx : lx.length ≤ 20 := by
          rw [hx]
          have h1 := List.length_filter_le (fun d => decide (Sane d)) (l.take k)
          rw [List.length_take] at h1; omega
        rw [← hx] at HO htk
        obtain ⟨x0, x1⟩ := x
        simp only at q0 q1
        have HSn := Lib.hid (fun h : ¬ Sane ⟨x0, x1⟩ => show (l.take (k + 1)).filter (fun d => decide (Sane d)) = lx by rw [htk, if_neg h, List.append_nil])
        have HSy := Lib.hid (fun h : Sane ⟨x0, x1⟩ => show (l.take (k + 1)).filter (fun d => decide (Sane d)) = lx ++ [⟨x0, x1⟩] by rw [htk, if_pos h])
        clear hx htk
        by_cases h1 : 0 ≤ x0
        · by_cases h2 : x0 < 16
          · by_cases h3 : -1152921504606846976 ≤ x1
            · by_cases h4 : x1 ≤ 1152921504606846976
              · have HE := Lib.hid (HSy.out (by unfold Sane; simp only; omega))
                have HD1 := Lib.hid (show lx.length + 1 ≤ maxLen by unfold maxLen; omega)
                have HD2 := Lib.hid (show (lx.length + 1) * 16 ≤ 140737488355328 by omega)
                have HA1 := Lib.hid (And.intro (Nest.own_on HO.out.1 (below_alloc wr (.cells #[.int .i64 x0, .int .i64 x1] 44))) (And.intro (draw_row wr x0 x1) (below_keep HO.out.2 (below_alloc wr (.cells #[.int .i64 x0, .int .i64 x1] 44)))))
                have h02 := Lib.hid (show 0 < 2 by omega)
                clear hlx
                go_wp2_with (first | (at_builtin; refine Two.append_apart encD_len h02.out encD_one rfl (.tmp 46) (.tmp 51) 26 44 rfl Try.underlying26 (.agg #[.int .i64 0, .int .i64 0]) 16 info_draw rfl w.heap.size _ lx rfl HA1.out.1 (some ⟨wr.heap.size, 0, none⟩) 1 1 [⟨x0, x1⟩] rfl rfl HA1.out.2.1 (fun h => by cases h) HD1.out HD2.out HA1.out.2.2.size ?_; intro v9 w9 ho9 hg9 hx9; have HB9 := Lib.hid (HA1.out.2.2.trans (Two.below_grown HA1.out.1 hg9 HA1.out.2.2.size)); have HO9 := Lib.hid ho9; clear ho9 hg9 hx9) | fail)
                go_roundw
                case rel => exact ⟨k + 1, ⟨by omega, by omega⟩, by go_num, by rw [HE.out]; exact HO9.out, HB9.out⟩
                case measure => simp [intOf]; omega
              · have HE := Lib.hid (HSn.out (by unfold Sane; simp only; omega))
                go_wp2_with fail
                go_roundw
                case rel => exact ⟨k + 1, ⟨by omega, by omega⟩, by go_num, by rw [HE.out]; exact HO.out.1, HO.out.2⟩
                case measure => simp [intOf]; omega
            · have HE := Lib.hid (HSn.out (by unfold Sane; simp only; omega))
              go_wp2_with fail
              go_roundw
              case rel => exact ⟨k + 1, ⟨by omega, by omega⟩, by go_num, by rw [HE.out]; exact HO.out.1, HO.out.2⟩
              case measure => simp [intOf]; omega
          · have HE := Lib.hid (HSn.out (by unfold Sane; simp only; omega))
            go_wp2_with fail
            go_roundw
            case rel => exact ⟨k + 1, ⟨by omega, by omega⟩, by go_num, by rw [HE.out]; exact HO.out.1, HO.out.2⟩
            case measure => simp [intOf]; omega
        · have HE := Lib.hid (HSn.out (by unfold Sane; simp only; omega))
          go_wp2_with fail
          go_roundw
          case rel => exact ⟨k + 1, ⟨by omega, by omega⟩, by go_num, by rw [HE.out]; exact HO.out.1, HO.out.2⟩
          case measure => simp [intOf]; omega
      · obtain rfl : k = 20 := by omega
        have HE := Lib.hid (show (l.take 20).filter (fun d => decide (Sane d)) = saneL l from rfl)
        have t1 : (20 : Int) < n := by omega
        go_wp2_with fail
        go_ret
        exact ⟨_, rfl, by rw [← HE.out]; exact HO.out.1, HO.out.2⟩
    · obtain rfl : n = k := by omega
      have HE := Lib.hid (show (l.take n).filter (fun d => decide (Sane d)) = saneL l by unfold saneL; rw [List.take_of_length_le (show l.length ≤ n by rw [HL.out.2.1]; exact Nat.le_refl _), List.take_of_length_le (show l.length ≤ 20 by rw [HL.out.2.1]; omega)])
      go_wp2_with fail
      go_ret
      exact ⟨_, rfl, by rw [← HE.out]; exact HO.out.1, HO.out.2⟩
end Go.Proofs.Ytghglgodkknlnaa.Drw
/- Draw: DrawLegs, over any draws that do as they should. -/
namespace Go.Proofs.Ytghglgodkknlnaa.Drw
set_option maxRecDepth 100000
open Go.RowKit
open Go.Sort
open Kit
open Mon
open Tre (Al Lst inI lst_keep lst_take lst_at lst_new)
open Led (Lg encG encG_len Legs)
set_option linter.unusedVariables false
variable {w w' : World}

abbrev OwD' (w : World) (base : Nat) (v : Value) (l : List Dw) : Prop := Owns encD 2 44 w base v l
theorem own_lst {base : Nat} {a : Option Addr} {n c : Nat} {l : List Dw} (h : OwD' w base (.slice a n c) l) (hn : l.length = n) : Draws w a n c l := by
  obtain ⟨a', c', e, hl⟩ := out_lst encD_len (.inl h)
  injection e with e1 e2 e3
  subst e1 e3 hn
  exact hl
set_option maxHeartbeats 16000000 in
theorem legsl_any (hP0 : Prog) (W : World) (a : Option Addr) (n c : Nat) (l : List Dw) (hA : Draws W a n c l) (hok : ∀ x ∈ l, x.ok) (a' : Option Addr) (n' c' : Nat) (l' : List Dw) (hA' : Draws W a' n' c' l') (hok' : ∀ x ∈ l', x.ok) :
    Calls Try.prog 5 #[.slice a n c, .slice a' n' c'] W fun e W' => e = .returned (.bool true) ∧ Below W.heap.size W W' := by
  have hP := Lib.hid hP0
  have HS1 := Lib.hid (sane_any a n c l W hA hok)
  have HS2 := Lib.hid (fun w h => sane_any a' n' c' l' w h hok')
  have HA := Lib.hid hA'
  have HDs := Lib.hid (And.intro (sane_mem (l := l)) (And.intro (sane_len l) (And.intro (sane_mem (l := l')) (sane_len l'))))
  generalize saneL l = D at HS1 HDs
  generalize saneL l' = C at HS2 HDs
  clear hA hok hA' hok' hP0
  go_enter Try.func5, Try.ntmps5
  go_wp2_with fail
  refine HS1.out.mono ?_
  rintro e w1 ⟨v1, rfl, ho1, hb1⟩
  obtain ⟨a1, k1, rfl, hd1⟩ := out_lst encD_len (.inl ho1)
  obtain ⟨nd, hnd⟩ : ∃ y, y = D.length := ⟨_, rfl⟩
  rw [← hnd] at hd1 ⊢
  have hnd2 : nd ≤ 20 := by rw [hnd]; exact HDs.out.2.1
  have HD := Lib.hid (And.intro hd1 (And.intro HDs.out.1 (show nd ≤ 100 by omega)))
  have HTk := Lib.hid (show D.take nd = D from List.take_of_length_le (by rw [hnd]; exact Nat.le_refl _))
  have HW1 := Lib.hid hb1
  have HS3 := Lib.hid (HS2.out w1 (lst_keep encD_len HA.out hb1))
  clear hb1 ho1 hd1 hnd HS1 HS2
  go_wp2_with fail
  refine HS3.out.mono ?_
  rintro e w2 ⟨v2, rfl, ho2, hb2⟩
  obtain ⟨a2, k2, hv2, hd2⟩ := out_lst encD_len (.inl ho2)
  subst hv2
  obtain ⟨nc, hnc⟩ : ∃ y, y = C.length := ⟨_, rfl⟩
  rw [← hnc] at hd2 ho2 ⊢
  have hnc2 : nc ≤ 20 := by rw [hnc]; exact HDs.out.2.2.2
  have HC := Lib.hid (And.intro ho2 (And.intro hb2 (And.intro HDs.out.2.2.1 hnc.symm)))
  clear hb2 ho2 hd2 hnc HS3
  go_wp2_with fail
  go_loopw [7] (fun i wr => ∃ (k : Nat) (M : List Dw), (k ≤ nc ∧ k ≤ nd) ∧ i = .int .i64 (k : Nat) ∧ (M.length = nc ∧ (∀ x ∈ M, Sane x) ∧ (∀ i, i < k → (M[i]?).map Dw.alloc = (D[i]?).map Dw.alloc)) ∧ OwD' wr w1.heap.size (.slice a2 nc k2) M ∧ Below w1.heap.size w1 wr) (fun i _ => nc - (intOf i).toNat)
  case atStart => exact ⟨0, C, ⟨Nat.zero_le _, Nat.zero_le _⟩, rfl, ⟨HC.out.2.2.2, HC.out.2.2.1, fun i hi => by omega⟩, HC.out.1, HC.out.2.1⟩
  case round =>
    obtain ⟨k, M, ⟨hk1, hk2⟩, rfl, hM, ho, hb⟩ := hrel
    have HM := Lib.hid (And.intro hM (And.intro ho hb))
    clear hM ho hb
    by_cases h1 : k < nc
    · by_cases h2 : k < nd
      · have hkM : k < M.length := by rw [HM.out.1.1]; exact h1
        have hkD : k < D.length := by have := HD.out.1.len; omega
        obtain ⟨g, cap, e1, hg, -, -⟩ := owns_at encD_len HM.out.2.1 (by omega)
        injection e1 with e1 e2 e3
        subst e1
        clear e2 e3
        obtain ⟨b1, o1, rfl⟩ := lst_at HD.out.1 (by omega)
        obtain ⟨q0, -⟩ := draw_cells (lst_keep encD_len HD.out.1 HM.out.2.2) hkD
        obtain ⟨c9, f9, o9⟩ := owns_put encD_len HM.out.2.1 HM.out.1.1 (List.getElem?_eq_getElem hkM) (i := 0) (by omega) (fun x => ⟨D[k].alloc, x.amt⟩) (.int .i64 D[k].alloc) (fun x => rfl)
        rw [Nat.add_zero] at c9 f9 o9
        have c9' : wr.cell? ⟨g, k * 2, none⟩ = some (.int .i64 M[k].alloc) := c9
        have HN := Lib.hid (And.intro o9 (And.intro (HM.out.2.2.setCell (p := ⟨g, k * 2, none⟩) hg (.int .i64 D[k].alloc)) (show (M.set k ⟨D[k].alloc, M[k].amt⟩).length = nc ∧ (∀ x ∈ M.set k ⟨D[k].alloc, M[k].amt⟩, Sane x) ∧ (∀ i, i < k + 1 → ((M.set k ⟨D[k].alloc, M[k].amt⟩)[i]?).map Dw.alloc = (D[i]?).map Dw.alloc) by
          refine ⟨by rw [List.length_set]; exact HM.out.1.1, fun x hx => ?_, fun i hi => ?_⟩
          · rcases List.mem_or_eq_of_mem_set hx with hx | rfl
            · exact HM.out.1.2.1 x hx
            · have s1 := HD.out.2.1 _ (List.getElem_mem hkD)
              have s2 := HM.out.1.2.1 _ (List.getElem_mem hkM)
              exact ⟨s1.1, s1.2.1, s2.2.2⟩
          · by_cases hik : i = k
            · subst hik
              rw [List.getElem?_set_self hkM, List.getElem?_eq_getElem hkD]; rfl
            · rw [List.getElem?_set_ne (Ne.symm hik)]
              exact HM.out.1.2.2 i (by omega))))
        generalize D[k] = x at *
        generalize M[k] = y at *
        clear c9 o9 hg
        go_wp2_with fail
        go_roundw
        case rel => exact ⟨k + 1, _, ⟨by omega, by omega⟩, by go_num, HN.out.2.2, HN.out.1, HN.out.2.1⟩
        case measure => simp [intOf]; omega
      · obtain ⟨u0, rfl⟩ : ∃ x, x = wr := ⟨wr, rfl⟩
        have HUu0 := Lib.hid (And.intro HM.out.2.2 (And.intro (below_keep HW1.out HM.out.2.2) HM.out.2.1))
        have HMs := Lib.hid (And.intro HM.out.1.1 HM.out.1.2.1)
        clear HM
        have HP0 := Lib.hid (hP.out.lien u0 a1 nd k1 D (lst_keep encD_len HD.out.1 HUu0.out.1) HD.out.2.1 HD.out.2.2)
        go_wp2_with fail
        refine HP0.out.mono ?_
        rintro e u1 ⟨vu1, rfl, ho, hb⟩
        obtain ⟨xu1, cu1, rfl, hl⟩ := out_lst encG_len ho
        have HUu1 := Lib.hid (And.intro (below_keep HUu0.out.1 hb) (And.intro (below_keep HUu0.out.2.1 hb) (And.intro (Nest.own_on HUu0.out.2.2 hb) hl)))
        have HR0 := Lib.hid (rlegs_any a1 a1 nd k1 nd k1 D D 1 2 0 u1 (lst_keep encD_len HD.out.1 HUu1.out.1) HD.out.2.2 (lst_keep encD_len HD.out.1 HUu1.out.1) (Nat.le_refl _) HD.out.2.1 HD.out.2.1 (by omega) (by omega) (by omega))
        rw [HTk.out] at HR0
        obtain ⟨nu1, hnu1⟩ : ∃ y, y = (legsD D D 1 2 0).length := ⟨_, rfl⟩
        rw [← hnu1] at HUu1 ⊢
        have HNu1 := Lib.hid hnu1
        clear ho hb hl hnu1 HP0
        go_wp2_with fail
        refine HR0.out.mono ?_
        rintro e u2 ⟨vu2, rfl, ho, hb⟩
        obtain ⟨xu2, cu2, rfl, hl⟩ := out_lst encG_len (.inl ho)
        rw [← HNu1.out] at hl ⊢
        have HUu2 := Lib.hid (And.intro (below_keep HUu1.out.1 hb) (And.intro (below_keep HUu1.out.2.1 hb) (Nest.own_on HUu1.out.2.2.1 hb)))
        have HS0 := Lib.hid (sameg_any xu1 xu2 nu1 cu1 cu2 (legsD D D 1 2 0) u2 (lst_keep encG_len HUu1.out.2.2.2 hb) hl)
        clear ho hb hl HR0
        go_wp2_with fail
        refine HS0.out.mono ?_
        rintro e u3 ⟨rfl, hb⟩
        have HUu3 := Lib.hid (And.intro (below_keep HUu2.out.1 hb) (And.intro (below_keep HUu2.out.2.1 hb) (Nest.own_on HUu2.out.2.2 hb)))
        clear hb HS0
        have HP1 := Lib.hid (hP.out.free u3 a1 nd k1 D (lst_keep encD_len HD.out.1 HUu3.out.1) HD.out.2.1 HD.out.2.2)
        go_wp2_with fail
        refine HP1.out.mono ?_
        rintro e u4 ⟨vu4, rfl, ho, hb⟩
        obtain ⟨xu4, cu4, rfl, hl⟩ := out_lst encG_len ho
        have HUu4 := Lib.hid (And.intro (below_keep HUu3.out.1 hb) (And.intro (below_keep HUu3.out.2.1 hb) (And.intro (Nest.own_on HUu3.out.2.2 hb) hl)))
        have HR1 := Lib.hid (rlegs_any a1 a1 nd k1 nd k1 D D 2 1 0 u4 (lst_keep encD_len HD.out.1 HUu4.out.1) HD.out.2.2 (lst_keep encD_len HD.out.1 HUu4.out.1) (Nat.le_refl _) HD.out.2.1 HD.out.2.1 (by omega) (by omega) (by omega))
        rw [HTk.out] at HR1
        obtain ⟨nu4, hnu4⟩ : ∃ y, y = (legsD D D 2 1 0).length := ⟨_, rfl⟩
        rw [← hnu4] at HUu4 ⊢
        have HNu4 := Lib.hid hnu4
        clear ho hb hl hnu4 HP1
        go_wp2_with fail
        refine HR1.out.mono ?_
        rintro e u5 ⟨vu5, rfl, ho, hb⟩
        obtain ⟨xu5, cu5, rfl, hl⟩ := out_lst encG_len (.inl ho)
        rw [← HNu4.out] at hl ⊢
        have HUu5 := Lib.hid (And.intro (below_keep HUu4.out.1 hb) (And.intro (below_keep HUu4.out.2.1 hb) (Nest.own_on HUu4.out.2.2.1 hb)))
        have HS1 := Lib.hid (sameg_any xu4 xu5 nu4 cu4 cu5 (legsD D D 2 1 0) u5 (lst_keep encG_len HUu4.out.2.2.2 hb) hl)
        clear ho hb hl HR1
        go_wp2_with fail
        refine HS1.out.mono ?_
        rintro e u6 ⟨rfl, hb⟩
        have HUu6 := Lib.hid (And.intro (below_keep HUu5.out.1 hb) (And.intro (below_keep HUu5.out.2.1 hb) (Nest.own_on HUu5.out.2.2 hb)))
        clear hb HS1
        have HP2 := Lib.hid (hP.out.back u6 a1 nd k1 D (lst_keep encD_len HD.out.1 HUu6.out.1) HD.out.2.1 HD.out.2.2)
        go_wp2_with fail
        refine HP2.out.mono ?_
        rintro e u7 ⟨vu7, rfl, ho, hb⟩
        obtain ⟨xu7, cu7, rfl, hl⟩ := out_lst encG_len ho
        have HUu7 := Lib.hid (And.intro (below_keep HUu6.out.1 hb) (And.intro (below_keep HUu6.out.2.1 hb) (And.intro (Nest.own_on HUu6.out.2.2 hb) hl)))
        have HR2 := Lib.hid (rlegs_any a1 a1 nd k1 nd k1 D D 3 1 0 u7 (lst_keep encD_len HD.out.1 HUu7.out.1) HD.out.2.2 (lst_keep encD_len HD.out.1 HUu7.out.1) (Nat.le_refl _) HD.out.2.1 HD.out.2.1 (by omega) (by omega) (by omega))
        rw [HTk.out] at HR2
        obtain ⟨nu7, hnu7⟩ : ∃ y, y = (legsD D D 3 1 0).length := ⟨_, rfl⟩
        rw [← hnu7] at HUu7 ⊢
        have HNu7 := Lib.hid hnu7
        clear ho hb hl hnu7 HP2
        go_wp2_with fail
        refine HR2.out.mono ?_
        rintro e u8 ⟨vu8, rfl, ho, hb⟩
        obtain ⟨xu8, cu8, rfl, hl⟩ := out_lst encG_len (.inl ho)
        rw [← HNu7.out] at hl ⊢
        have HUu8 := Lib.hid (And.intro (below_keep HUu7.out.1 hb) (And.intro (below_keep HUu7.out.2.1 hb) (Nest.own_on HUu7.out.2.2.1 hb)))
        have HS2 := Lib.hid (sameg_any xu7 xu8 nu7 cu7 cu8 (legsD D D 3 1 0) u8 (lst_keep encG_len HUu7.out.2.2.2 hb) hl)
        clear ho hb hl HR2
        go_wp2_with fail
        refine HS2.out.mono ?_
        rintro e u9 ⟨rfl, hb⟩
        have HUu9 := Lib.hid (And.intro (below_keep HUu8.out.1 hb) (And.intro (below_keep HUu8.out.2.1 hb) (Nest.own_on HUu8.out.2.2 hb)))
        clear hb HS2
        have HZ := Lib.hid (hP.out.spend)
        have hnb : ((nc : Int) == (nd : Int)) = false := beq_false_of_ne (by omega)
        go_wp2_with fail
        refine (awake_any hP.out u9).mono ?_
        rintro e ua ⟨rfl, hb⟩
        have HUa := Lib.hid (And.intro (below_keep HUu9.out.1 hb) (And.intro (below_keep HUu9.out.2.1 hb) (Nest.own_on HUu9.out.2.2 hb)))
        have HPs := Lib.hid (hP.out.spend ua a1 a2 nd k1 nc k2 D M (lst_keep encD_len HD.out.1 HUa.out.1) (own_lst HUa.out.2.2 HMs.out.1) HD.out.2.1 HMs.out.2 (fun h => absurd h (by omega)) HD.out.2.2 (by omega))
        rw [if_neg (by omega)] at HPs
        clear hb
        go_wp2_with fail
        refine HPs.out.mono ?_
        rintro e ub ⟨vb, rfl, ho, hb⟩
        obtain ⟨xb, cb, rfl⟩ := legs_num ho (n := 0) rfl
        have HUb := Lib.hid (below_keep HUa.out.2.1 hb)
        clear ho hb
        go_wp2_with fail
        go_ret
        exact ⟨rfl, HUb.out⟩
    · obtain rfl : nc = k := by omega
      by_cases hne : nc = nd
      · obtain rfl : nc = nd := by omega
        have HMa := Lib.hid (show D.map Dw.alloc = M.map Dw.alloc by
          apply List.ext_getElem?
          intro i
          rw [List.getElem?_map, List.getElem?_map]
          by_cases hi : i < nc
          · exact (HM.out.1.2.2 i hi).symm
          · rw [List.getElem?_eq_none (by have := HD.out.1.len; omega), List.getElem?_eq_none (by have := HM.out.1.1; omega)])
        obtain ⟨u0, rfl⟩ : ∃ x, x = wr := ⟨wr, rfl⟩
        have HUu0 := Lib.hid (And.intro HM.out.2.2 (And.intro (below_keep HW1.out HM.out.2.2) HM.out.2.1))
        have HMs := Lib.hid (And.intro HM.out.1.1 HM.out.1.2.1)
        clear HM
        have HP0 := Lib.hid (hP.out.lien u0 a1 nc k1 D (lst_keep encD_len HD.out.1 HUu0.out.1) HD.out.2.1 HD.out.2.2)
        go_wp2_with fail
        refine HP0.out.mono ?_
        rintro e u1 ⟨vu1, rfl, ho, hb⟩
        obtain ⟨xu1, cu1, rfl, hl⟩ := out_lst encG_len ho
        have HUu1 := Lib.hid (And.intro (below_keep HUu0.out.1 hb) (And.intro (below_keep HUu0.out.2.1 hb) (And.intro (Nest.own_on HUu0.out.2.2 hb) hl)))
        have HR0 := Lib.hid (rlegs_any a1 a1 nc k1 nc k1 D D 1 2 0 u1 (lst_keep encD_len HD.out.1 HUu1.out.1) HD.out.2.2 (lst_keep encD_len HD.out.1 HUu1.out.1) (Nat.le_refl _) HD.out.2.1 HD.out.2.1 (by omega) (by omega) (by omega))
        rw [HTk.out] at HR0
        obtain ⟨nu1, hnu1⟩ : ∃ y, y = (legsD D D 1 2 0).length := ⟨_, rfl⟩
        rw [← hnu1] at HUu1 ⊢
        have HNu1 := Lib.hid hnu1
        clear ho hb hl hnu1 HP0
        go_wp2_with fail
        refine HR0.out.mono ?_
        rintro e u2 ⟨vu2, rfl, ho, hb⟩
        obtain ⟨xu2, cu2, rfl, hl⟩ := out_lst encG_len (.inl ho)
        rw [← HNu1.out] at hl ⊢
        have HUu2 := Lib.hid (And.intro (below_keep HUu1.out.1 hb) (And.intro (below_keep HUu1.out.2.1 hb) (Nest.own_on HUu1.out.2.2.1 hb)))
        have HS0 := Lib.hid (sameg_any xu1 xu2 nu1 cu1 cu2 (legsD D D 1 2 0) u2 (lst_keep encG_len HUu1.out.2.2.2 hb) hl)
        clear ho hb hl HR0
        go_wp2_with fail
        refine HS0.out.mono ?_
        rintro e u3 ⟨rfl, hb⟩
        have HUu3 := Lib.hid (And.intro (below_keep HUu2.out.1 hb) (And.intro (below_keep HUu2.out.2.1 hb) (Nest.own_on HUu2.out.2.2 hb)))
        clear hb HS0
        have HP1 := Lib.hid (hP.out.free u3 a1 nc k1 D (lst_keep encD_len HD.out.1 HUu3.out.1) HD.out.2.1 HD.out.2.2)
        go_wp2_with fail
        refine HP1.out.mono ?_
        rintro e u4 ⟨vu4, rfl, ho, hb⟩
        obtain ⟨xu4, cu4, rfl, hl⟩ := out_lst encG_len ho
        have HUu4 := Lib.hid (And.intro (below_keep HUu3.out.1 hb) (And.intro (below_keep HUu3.out.2.1 hb) (And.intro (Nest.own_on HUu3.out.2.2 hb) hl)))
        have HR1 := Lib.hid (rlegs_any a1 a1 nc k1 nc k1 D D 2 1 0 u4 (lst_keep encD_len HD.out.1 HUu4.out.1) HD.out.2.2 (lst_keep encD_len HD.out.1 HUu4.out.1) (Nat.le_refl _) HD.out.2.1 HD.out.2.1 (by omega) (by omega) (by omega))
        rw [HTk.out] at HR1
        obtain ⟨nu4, hnu4⟩ : ∃ y, y = (legsD D D 2 1 0).length := ⟨_, rfl⟩
        rw [← hnu4] at HUu4 ⊢
        have HNu4 := Lib.hid hnu4
        clear ho hb hl hnu4 HP1
        go_wp2_with fail
        refine HR1.out.mono ?_
        rintro e u5 ⟨vu5, rfl, ho, hb⟩
        obtain ⟨xu5, cu5, rfl, hl⟩ := out_lst encG_len (.inl ho)
        rw [← HNu4.out] at hl ⊢
        have HUu5 := Lib.hid (And.intro (below_keep HUu4.out.1 hb) (And.intro (below_keep HUu4.out.2.1 hb) (Nest.own_on HUu4.out.2.2.1 hb)))
        have HS1 := Lib.hid (sameg_any xu4 xu5 nu4 cu4 cu5 (legsD D D 2 1 0) u5 (lst_keep encG_len HUu4.out.2.2.2 hb) hl)
        clear ho hb hl HR1
        go_wp2_with fail
        refine HS1.out.mono ?_
        rintro e u6 ⟨rfl, hb⟩
        have HUu6 := Lib.hid (And.intro (below_keep HUu5.out.1 hb) (And.intro (below_keep HUu5.out.2.1 hb) (Nest.own_on HUu5.out.2.2 hb)))
        clear hb HS1
        have HP2 := Lib.hid (hP.out.back u6 a1 nc k1 D (lst_keep encD_len HD.out.1 HUu6.out.1) HD.out.2.1 HD.out.2.2)
        go_wp2_with fail
        refine HP2.out.mono ?_
        rintro e u7 ⟨vu7, rfl, ho, hb⟩
        obtain ⟨xu7, cu7, rfl, hl⟩ := out_lst encG_len ho
        have HUu7 := Lib.hid (And.intro (below_keep HUu6.out.1 hb) (And.intro (below_keep HUu6.out.2.1 hb) (And.intro (Nest.own_on HUu6.out.2.2 hb) hl)))
        have HR2 := Lib.hid (rlegs_any a1 a1 nc k1 nc k1 D D 3 1 0 u7 (lst_keep encD_len HD.out.1 HUu7.out.1) HD.out.2.2 (lst_keep encD_len HD.out.1 HUu7.out.1) (Nat.le_refl _) HD.out.2.1 HD.out.2.1 (by omega) (by omega) (by omega))
        rw [HTk.out] at HR2
        obtain ⟨nu7, hnu7⟩ : ∃ y, y = (legsD D D 3 1 0).length := ⟨_, rfl⟩
        rw [← hnu7] at HUu7 ⊢
        have HNu7 := Lib.hid hnu7
        clear ho hb hl hnu7 HP2
        go_wp2_with fail
        refine HR2.out.mono ?_
        rintro e u8 ⟨vu8, rfl, ho, hb⟩
        obtain ⟨xu8, cu8, rfl, hl⟩ := out_lst encG_len (.inl ho)
        rw [← HNu7.out] at hl ⊢
        have HUu8 := Lib.hid (And.intro (below_keep HUu7.out.1 hb) (And.intro (below_keep HUu7.out.2.1 hb) (Nest.own_on HUu7.out.2.2.1 hb)))
        have HS2 := Lib.hid (sameg_any xu7 xu8 nu7 cu7 cu8 (legsD D D 3 1 0) u8 (lst_keep encG_len HUu7.out.2.2.2 hb) hl)
        clear ho hb hl HR2
        go_wp2_with fail
        refine HS2.out.mono ?_
        rintro e u9 ⟨rfl, hb⟩
        have HUu9 := Lib.hid (And.intro (below_keep HUu8.out.1 hb) (And.intro (below_keep HUu8.out.2.1 hb) (Nest.own_on HUu8.out.2.2 hb)))
        clear hb HS2
        go_wp2_with fail
        refine (awake_any hP.out u9).mono ?_
        rintro e ua ⟨rfl, hb⟩
        have HUa := Lib.hid (And.intro (below_keep HUu9.out.1 hb) (And.intro (below_keep HUu9.out.2.1 hb) (Nest.own_on HUu9.out.2.2 hb)))
        have HPs := Lib.hid (hP.out.spend ua a1 a2 nc k1 nc k2 D M (lst_keep encD_len HD.out.1 HUa.out.1) (own_lst HUa.out.2.2 HMs.out.1) HD.out.2.1 HMs.out.2 (fun _ => HMa.out) HD.out.2.2 HD.out.2.2)
        rw [if_pos rfl] at HPs
        clear hb
        go_wp2_with fail
        refine HPs.out.mono ?_
        rintro e ub ⟨vb, rfl, ho, hb⟩
        obtain ⟨xb, cb, rfl, hl⟩ := out_lst encG_len ho
        have HUb := Lib.hid (And.intro (below_keep HUa.out.1 hb) (And.intro (below_keep HUa.out.2.1 hb) (And.intro (Nest.own_on HUa.out.2.2 hb) hl)))
        have HRz := Lib.hid (rlegs_any a1 a2 nc k1 nc k2 D M 2 3 1 ub (lst_keep encD_len HD.out.1 HUb.out.1) HD.out.2.2 (own_lst HUb.out.2.2.1 HMs.out.1) (Nat.le_refl _) HD.out.2.1 HMs.out.2 (by omega) (by omega) (by omega))
        rw [show M.take nc = M from List.take_of_length_le (by rw [HMs.out.1]; exact Nat.le_refl _)] at HRz
        obtain ⟨nz, hnz⟩ : ∃ y, y = (legsD D M 2 3 1).length := ⟨_, rfl⟩
        rw [← hnz] at HUb ⊢
        have HNz := Lib.hid hnz
        clear ho hb hl hnz HPs
        go_wp2_with fail
        refine HRz.out.mono ?_
        rintro e uc ⟨vc, rfl, ho, hb⟩
        obtain ⟨xc, cc, rfl, hl⟩ := out_lst encG_len (.inl ho)
        rw [← HNz.out] at hl ⊢
        have HUc := Lib.hid (below_keep HUb.out.2.1 hb)
        have HSz := Lib.hid (sameg_any xb xc nz cb cc (legsD D M 2 3 1) uc (lst_keep encG_len HUb.out.2.2.2 hb) hl)
        clear ho hb hl HRz
        go_wp2_with fail
        refine HSz.out.mono ?_
        rintro e ud ⟨rfl, hb⟩
        have HUd := Lib.hid (below_keep HUc.out hb)
        clear hb HSz
        go_wp2_with fail
        go_ret
        exact ⟨rfl, HUd.out⟩
      · obtain ⟨u0, rfl⟩ : ∃ x, x = wr := ⟨wr, rfl⟩
        have HUu0 := Lib.hid (And.intro HM.out.2.2 (And.intro (below_keep HW1.out HM.out.2.2) HM.out.2.1))
        have HMs := Lib.hid (And.intro HM.out.1.1 HM.out.1.2.1)
        clear HM
        have HP0 := Lib.hid (hP.out.lien u0 a1 nd k1 D (lst_keep encD_len HD.out.1 HUu0.out.1) HD.out.2.1 HD.out.2.2)
        go_wp2_with fail
        refine HP0.out.mono ?_
        rintro e u1 ⟨vu1, rfl, ho, hb⟩
        obtain ⟨xu1, cu1, rfl, hl⟩ := out_lst encG_len ho
        have HUu1 := Lib.hid (And.intro (below_keep HUu0.out.1 hb) (And.intro (below_keep HUu0.out.2.1 hb) (And.intro (Nest.own_on HUu0.out.2.2 hb) hl)))
        have HR0 := Lib.hid (rlegs_any a1 a1 nd k1 nd k1 D D 1 2 0 u1 (lst_keep encD_len HD.out.1 HUu1.out.1) HD.out.2.2 (lst_keep encD_len HD.out.1 HUu1.out.1) (Nat.le_refl _) HD.out.2.1 HD.out.2.1 (by omega) (by omega) (by omega))
        rw [HTk.out] at HR0
        obtain ⟨nu1, hnu1⟩ : ∃ y, y = (legsD D D 1 2 0).length := ⟨_, rfl⟩
        rw [← hnu1] at HUu1 ⊢
        have HNu1 := Lib.hid hnu1
        clear ho hb hl hnu1 HP0
        go_wp2_with fail
        refine HR0.out.mono ?_
        rintro e u2 ⟨vu2, rfl, ho, hb⟩
        obtain ⟨xu2, cu2, rfl, hl⟩ := out_lst encG_len (.inl ho)
        rw [← HNu1.out] at hl ⊢
        have HUu2 := Lib.hid (And.intro (below_keep HUu1.out.1 hb) (And.intro (below_keep HUu1.out.2.1 hb) (Nest.own_on HUu1.out.2.2.1 hb)))
        have HS0 := Lib.hid (sameg_any xu1 xu2 nu1 cu1 cu2 (legsD D D 1 2 0) u2 (lst_keep encG_len HUu1.out.2.2.2 hb) hl)
        clear ho hb hl HR0
        go_wp2_with fail
        refine HS0.out.mono ?_
        rintro e u3 ⟨rfl, hb⟩
        have HUu3 := Lib.hid (And.intro (below_keep HUu2.out.1 hb) (And.intro (below_keep HUu2.out.2.1 hb) (Nest.own_on HUu2.out.2.2 hb)))
        clear hb HS0
        have HP1 := Lib.hid (hP.out.free u3 a1 nd k1 D (lst_keep encD_len HD.out.1 HUu3.out.1) HD.out.2.1 HD.out.2.2)
        go_wp2_with fail
        refine HP1.out.mono ?_
        rintro e u4 ⟨vu4, rfl, ho, hb⟩
        obtain ⟨xu4, cu4, rfl, hl⟩ := out_lst encG_len ho
        have HUu4 := Lib.hid (And.intro (below_keep HUu3.out.1 hb) (And.intro (below_keep HUu3.out.2.1 hb) (And.intro (Nest.own_on HUu3.out.2.2 hb) hl)))
        have HR1 := Lib.hid (rlegs_any a1 a1 nd k1 nd k1 D D 2 1 0 u4 (lst_keep encD_len HD.out.1 HUu4.out.1) HD.out.2.2 (lst_keep encD_len HD.out.1 HUu4.out.1) (Nat.le_refl _) HD.out.2.1 HD.out.2.1 (by omega) (by omega) (by omega))
        rw [HTk.out] at HR1
        obtain ⟨nu4, hnu4⟩ : ∃ y, y = (legsD D D 2 1 0).length := ⟨_, rfl⟩
        rw [← hnu4] at HUu4 ⊢
        have HNu4 := Lib.hid hnu4
        clear ho hb hl hnu4 HP1
        go_wp2_with fail
        refine HR1.out.mono ?_
        rintro e u5 ⟨vu5, rfl, ho, hb⟩
        obtain ⟨xu5, cu5, rfl, hl⟩ := out_lst encG_len (.inl ho)
        rw [← HNu4.out] at hl ⊢
        have HUu5 := Lib.hid (And.intro (below_keep HUu4.out.1 hb) (And.intro (below_keep HUu4.out.2.1 hb) (Nest.own_on HUu4.out.2.2.1 hb)))
        have HS1 := Lib.hid (sameg_any xu4 xu5 nu4 cu4 cu5 (legsD D D 2 1 0) u5 (lst_keep encG_len HUu4.out.2.2.2 hb) hl)
        clear ho hb hl HR1
        go_wp2_with fail
        refine HS1.out.mono ?_
        rintro e u6 ⟨rfl, hb⟩
        have HUu6 := Lib.hid (And.intro (below_keep HUu5.out.1 hb) (And.intro (below_keep HUu5.out.2.1 hb) (Nest.own_on HUu5.out.2.2 hb)))
        clear hb HS1
        have HP2 := Lib.hid (hP.out.back u6 a1 nd k1 D (lst_keep encD_len HD.out.1 HUu6.out.1) HD.out.2.1 HD.out.2.2)
        go_wp2_with fail
        refine HP2.out.mono ?_
        rintro e u7 ⟨vu7, rfl, ho, hb⟩
        obtain ⟨xu7, cu7, rfl, hl⟩ := out_lst encG_len ho
        have HUu7 := Lib.hid (And.intro (below_keep HUu6.out.1 hb) (And.intro (below_keep HUu6.out.2.1 hb) (And.intro (Nest.own_on HUu6.out.2.2 hb) hl)))
        have HR2 := Lib.hid (rlegs_any a1 a1 nd k1 nd k1 D D 3 1 0 u7 (lst_keep encD_len HD.out.1 HUu7.out.1) HD.out.2.2 (lst_keep encD_len HD.out.1 HUu7.out.1) (Nat.le_refl _) HD.out.2.1 HD.out.2.1 (by omega) (by omega) (by omega))
        rw [HTk.out] at HR2
        obtain ⟨nu7, hnu7⟩ : ∃ y, y = (legsD D D 3 1 0).length := ⟨_, rfl⟩
        rw [← hnu7] at HUu7 ⊢
        have HNu7 := Lib.hid hnu7
        clear ho hb hl hnu7 HP2
        go_wp2_with fail
        refine HR2.out.mono ?_
        rintro e u8 ⟨vu8, rfl, ho, hb⟩
        obtain ⟨xu8, cu8, rfl, hl⟩ := out_lst encG_len (.inl ho)
        rw [← HNu7.out] at hl ⊢
        have HUu8 := Lib.hid (And.intro (below_keep HUu7.out.1 hb) (And.intro (below_keep HUu7.out.2.1 hb) (Nest.own_on HUu7.out.2.2.1 hb)))
        have HS2 := Lib.hid (sameg_any xu7 xu8 nu7 cu7 cu8 (legsD D D 3 1 0) u8 (lst_keep encG_len HUu7.out.2.2.2 hb) hl)
        clear ho hb hl HR2
        go_wp2_with fail
        refine HS2.out.mono ?_
        rintro e u9 ⟨rfl, hb⟩
        have HUu9 := Lib.hid (And.intro (below_keep HUu8.out.1 hb) (And.intro (below_keep HUu8.out.2.1 hb) (Nest.own_on HUu8.out.2.2 hb)))
        clear hb HS2
        have HZ := Lib.hid (hP.out.spend)
        have hnb : ((nc : Int) == (nd : Int)) = false := beq_false_of_ne (by omega)
        go_wp2_with fail
        refine (awake_any hP.out u9).mono ?_
        rintro e ua ⟨rfl, hb⟩
        have HUa := Lib.hid (And.intro (below_keep HUu9.out.1 hb) (And.intro (below_keep HUu9.out.2.1 hb) (Nest.own_on HUu9.out.2.2 hb)))
        have HPs := Lib.hid (hP.out.spend ua a1 a2 nd k1 nc k2 D M (lst_keep encD_len HD.out.1 HUa.out.1) (own_lst HUa.out.2.2 HMs.out.1) HD.out.2.1 HMs.out.2 (fun h => absurd h (by omega)) HD.out.2.2 (by omega))
        rw [if_neg (by omega)] at HPs
        clear hb
        go_wp2_with fail
        refine HPs.out.mono ?_
        rintro e ub ⟨vb, rfl, ho, hb⟩
        obtain ⟨xb, cb, rfl⟩ := legs_num ho (n := 0) rfl
        have HUb := Lib.hid (below_keep HUa.out.2.1 hb)
        clear ho hb
        go_wp2_with fail
        go_ret
        exact ⟨rfl, HUb.out⟩
end Go.Proofs.Ytghglgodkknlnaa.Drw
/- Draw: what is drawn, without the document's answer (mathematics for DrawTakes). -/
namespace Go.Proofs.Ytghglgodkknlnaa.Drw
open Tre (Al)
set_option linter.unusedVariables false

def fundOf (al : List Al) (i : Nat) : Int := match al[i]? with | some a => a.fund | none => 0
theorem cand_fundOf {al : List Al} {f now : Int} {i : Nat} (h : cand al f now i = true) : fundOf al i = f := by
  obtain ⟨a, ha, hf, _⟩ := cand_fund h
  unfold fundOf; rw [ha]; exact hf
theorem ordF_all (al : List Al) (f now : Int) : (∀ i, i ∈ ordF al f now none0 ↔ cand al f now i = true) ∧ (ordF al f now none0).Pairwise (before al) := by
  obtain ⟨h1, h2⟩ := ordF_spec (al := al) (f := f) (now := now) (left al f now none0) (done := none0) (Nat.le_refl _)
  exact ⟨fun i => by rw [h1]; simp [none0], h2⟩
theorem order_mem {al : List Al} {now : Int} {p : List Int} {i : Nat} (h : i ∈ order al now p) : fundOf al i ∈ p ∧ cand al (fundOf al i) now i = true := by
  unfold order at h
  obtain ⟨f, hf, hi⟩ := List.mem_flatMap.1 h
  have hc := ((ordF_all al f now).1 i).1 hi
  have he := cand_fundOf hc
  rw [he]; exact ⟨hf, hc⟩
/-- One after another: of the same fund in the order of drawing, else of a fund further up (its number is less). -/
def Behind (al : List Al) (i j : Nat) : Prop := fundOf al j < fundOf al i ∨ (fundOf al i = fundOf al j ∧ before al i j)
theorem order_pair (al : List Al) (now : Int) : ∀ {p : List Int}, p.Pairwise (· > ·) → (order al now p).Pairwise (Behind al)
  | [], _ => List.Pairwise.nil
  | f :: ps, h => by
    obtain ⟨h1, h2⟩ := List.pairwise_cons.1 h
    have e : order al now (f :: ps) = ordF al f now none0 ++ order al now ps := rfl
    rw [e, List.pairwise_append]
    refine ⟨?_, order_pair al now h2, fun i hi j hj => ?_⟩
    · refine List.Pairwise.imp_of_mem ?_ (ordF_all al f now).2
      intro i j hi hj hb
      have ei := cand_fundOf (((ordF_all al f now).1 i).1 hi)
      have ej := cand_fundOf (((ordF_all al f now).1 j).1 hj)
      exact .inr ⟨by rw [ei, ej], hb⟩
    · have ei := cand_fundOf (((ordF_all al f now).1 i).1 hi)
      have := h1 _ (order_mem hj).1
      exact .inl (by rw [ei]; exact this)
/-- What is taken is a first part of the order, each no more than there is, all but the last the whole. -/
theorem take_prefix (al : List Al) : ∀ (l : List Nat) (a : Int), ∃ k, k ≤ l.length ∧ (takeD al l a).map Dw.alloc = (l.take k).map fun (i : Nat) => (i : Int)
  | [], a => ⟨0, Nat.le_refl _, rfl⟩
  | i :: r, a => by
    rw [takeD]
    split
    · exact ⟨0, Nat.zero_le _, rfl⟩
    · obtain ⟨k, hk, h⟩ := take_prefix al r (a - min (availOf al i) a)
      exact ⟨k + 1, Nat.succ_le_succ hk, by rw [List.map_cons, h, List.take_succ_cons, List.map_cons]⟩
theorem take_sum (al : List Al) : ∀ (l : List Nat) (a : Int), (amtsD (takeD al l a)).sum + restD al l a = a
  | [], a => by simp [takeD, restD, amtsD]
  | i :: r, a => by
    rw [takeD, restD]
    split
    · simp [amtsD]
    · have h := take_sum al r (a - min (availOf al i) a)
      unfold amtsD at h ⊢
      rw [List.map_cons, List.sum_cons]
      simp only
      omega
theorem take_amt (al : List Al) : ∀ (l : List Nat) (a : Int) (q : Nat) (d : Dw), (∀ i ∈ l, 0 < availOf al i) → (takeD al l a)[q]? = some d → 1 ≤ d.amt ∧ d.amt ≤ availOf al d.alloc.toNat ∧ (q + 1 < (takeD al l a).length → d.amt = availOf al d.alloc.toNat)
  | [], a, q, d, _, h => by simp [takeD] at h
  | i :: r, a, q, d, hl, h => by
    have hi := hl i (List.mem_cons_self ..)
    rw [takeD] at h ⊢
    by_cases ha : a ≤ 0
    · rw [if_pos ha] at h; simp at h
    · rw [if_neg ha] at h ⊢
      cases q with
      | zero =>
        simp at h
        subst h
        refine ⟨by simp only; omega, by simp only [Int.toNat_natCast]; omega, fun hlen => ?_⟩
        simp only [Int.toNat_natCast]
        by_cases hm : a ≤ availOf al i
        · have hz : a - min (availOf al i) a ≤ 0 := by omega
          rw [List.length_cons] at hlen
          cases r with
          | nil => simp [takeD] at hlen
          | cons j r => rw [takeD, if_pos hz] at hlen; simp at hlen
        · omega
      | succ q =>
        rw [List.getElem?_cons_succ] at h
        obtain ⟨h1, h2, h3⟩ := take_amt al r _ q d (fun j hj => hl j (List.mem_cons_of_mem _ hj)) h
        exact ⟨h1, h2, fun hlen => h3 (by rw [List.length_cons] at hlen; omega)⟩
end Go.Proofs.Ytghglgodkknlnaa.Drw
/- Draw: legs of small amounts that come to nothing are posted: what lies in the accounts behind them (mathematics for DrawRound). -/
namespace Go.Proofs.Ytghglgodkknlnaa.Drw
open Mon
open Tre (Al)
open Led
set_option linter.unusedVariables false

theorem sum_bound {B : Int} (hB : 0 ≤ B) : ∀ (l : List Int), (∀ x ∈ l, -B ≤ x ∧ x ≤ B) → -((l.length : Int) * B) ≤ l.sum ∧ l.sum ≤ (l.length : Int) * B
  | [], _ => by simp
  | x :: l, h => by
    obtain ⟨h1, h2⟩ := sum_bound hB l fun y hy => h y (List.mem_cons_of_mem _ hy)
    obtain ⟨h3, h4⟩ := h x (List.mem_cons_self ..)
    rw [List.sum_cons, List.length_cons]
    have e : ((l.length + 1 : Nat) : Int) * B = (l.length : Int) * B + B := by rw [Int.natCast_add, Int.add_mul]; simp
    rw [e]
    omega
theorem small_add {B : Int} (hB : 0 ≤ B) {l : List Int} (h : ∀ x ∈ l, -B ≤ x ∧ x ≤ B) {n : Nat} (hn : l.length ≤ n) (hs : (n : Int) * B ≤ 1152921504606846976) (h1 : B ≤ 1152921504606846976) : addE l = 0 := by
  rw [addE_iff]
  refine ⟨fun x hx => fitsB_iff.2 (by have := h x hx; omega), fun k hk => fitsB_iff.2 ?_⟩
  have h2 := sum_bound hB (l.take (k + 1)) fun x hx => h x (List.mem_of_mem_take hx)
  have h3 : (((l.take (k + 1)).length : Nat) : Int) * B ≤ (n : Int) * B := Int.mul_le_mul_of_nonneg_right (by rw [List.length_take]; omega) hB
  omega
theorem mem_of {legs : List Lg} {k : Nat} {x : Int} (h : x ∈ of legs k) : ∃ g ∈ legs, g.acct = (k : Int) ∧ g.amt = x := by
  unfold of at h
  obtain ⟨g, hg, e⟩ := List.mem_map.1 h
  obtain ⟨h1, h2⟩ := List.mem_filter.1 hg
  exact ⟨g, h1, by simpa using h2, e⟩
theorem of_length (legs : List Lg) (k : Nat) : (of legs k).length ≤ legs.length := by
  unfold of
  rw [List.length_map]
  exact List.length_filter_le _ _
/-- Small legs of allocations' accounts that come to nothing, and leave no account below 0: none is refused. -/
structure Small (fl : List Int) (n : Nat) (legs : List Lg) : Prop where
  accts : ∀ g ∈ legs, 1 ≤ g.acct ∧ g.acct < 1 + 3 * (n : Int) ∧ g.amt ≠ 0 ∧ -4503599627370496 ≤ g.amt ∧ g.amt ≤ 4503599627370496
  some' : 1 ≤ legs.length
  most : legs.length ≤ 64
  sum : (amts legs).sum = 0
  books : ∀ k, 1 ≤ k → k < 1 + 3 * n → 0 ≤ fl.getD k 0 ∧ fl.getD k 0 ≤ 4503599627370496 ∧ 0 ≤ fl.getD k 0 + (of legs k).sum
theorem small_post {w : Int} {al : List Al} {legs : List Lg} (h : Small (flatN w al) al.length legs) : postE w al legs = 0 := by
  rw [post_iff, pre_iff]
  refine ⟨⟨fun g hg => ?_, h.some', h.most, ?_, h.sum⟩, fun k hk => ?_⟩
  · obtain ⟨h1, h2, h3, _⟩ := h.accts g hg
    exact ⟨by omega, by omega, h3⟩
  · refine small_add (B := 4503599627370496) (by decide) (fun x hx => ?_) (n := 64) (by unfold amts; rw [List.length_map]; exact h.most) (by decide) (by decide)
    unfold amts at hx
    obtain ⟨g, hg, e⟩ := List.mem_map.1 hx
    have := h.accts g hg
    omega
  · unfold acctE
    by_cases hn : named legs k = true
    · rw [if_pos hn]
      obtain ⟨g, hg, hk2⟩ := List.any_eq_true.1 hn
      have hk3 : g.acct = (k : Int) := by simpa using hk2
      have hk1 : 1 ≤ k := by have := (h.accts g hg).1; omega
      obtain ⟨b1, b2, b3⟩ := h.books k hk1 hk
      have hadd : addE (mine (flatN w al) legs k) = 0 := by
        refine small_add (B := 4503599627370496) (by decide) (fun x hx => ?_) (n := 65) (by unfold mine; rw [List.length_cons]; have := of_length legs k; have := h.most; omega) (by decide) (by decide)
        unfold mine at hx
        rcases List.mem_cons.1 hx with e | hx
        · omega
        · obtain ⟨g, hg, _, e⟩ := mem_of hx
          have := h.accts g hg
          omega
      rw [if_neg (by simpa using hadd), addN_sum hadd]
      have hs : (mine (flatN w al) legs k).sum = (flatN w al).getD k 0 + (of legs k).sum := by unfold mine; rw [List.sum_cons]
      rw [hs]
      have hb : ∀ z : Int, 0 ≤ z → bad k z = false := by
        intro z hz
        unfold bad
        simp
        omega
      rw [hb _ b3]; rfl
    · rw [if_neg hn]
/-- Allocations whose amounts are moved. -/
def adjOne (u v s : Nat → Int) (i : Nat) (a : Al) : Al := { a with avail := a.avail + u i, lien := a.lien + v i, spent := a.spent + s i }
def adjFrom (u v s : Nat → Int) : Nat → List Al → List Al
  | _, [] => []
  | i, a :: al => adjOne u v s i a :: adjFrom u v s (i + 1) al
def adj (u v s : Nat → Int) (al : List Al) : List Al := adjFrom u v s 0 al
theorem adjFrom_len (u v s : Nat → Int) : ∀ (al : List Al) (i : Nat), (adjFrom u v s i al).length = al.length
  | [], _ => rfl
  | a :: al, i => by simp [adjFrom, adjFrom_len u v s al (i + 1)]
theorem adj_len (u v s : Nat → Int) (al : List Al) : (adj u v s al).length = al.length := adjFrom_len u v s al 0
theorem adjFrom_at (u v s : Nat → Int) : ∀ (al : List Al) (i j : Nat) (a : Al), al[j]? = some a → (adjFrom u v s i al)[j]? = some (adjOne u v s (i + j) a)
  | [], i, j, a, h => by simp at h
  | x :: al, i, 0, a, h => by
    simp at h; subst h; rfl
  | x :: al, i, j + 1, a, h => by
    rw [List.getElem?_cons_succ] at h
    have := adjFrom_at u v s al (i + 1) j a h
    rw [adjFrom, List.getElem?_cons_succ, this, show i + 1 + j = i + (j + 1) by omega]
theorem adj_at {u v s : Nat → Int} {al : List Al} {j : Nat} {a : Al} (h : al[j]? = some a) : (adj u v s al)[j]? = some (adjOne u v s j a) := by
  have := adjFrom_at u v s al 0 j a h
  rwa [Nat.zero_add] at this
theorem al_ext {l k : List Al} (hl : l.length = k.length) (h : ∀ (j : Nat) (a : Al), l[j]? = some a → k[j]? = some a) : l = k := by
  apply List.ext_getElem?
  intro i
  cases hx : l[i]? with
  | some x => exact (h i x hx).symm
  | none =>
    rw [List.getElem?_eq_none_iff] at hx
    rw [List.getElem?_eq_none (by omega)]
theorem adj_adj {u v s u' v' s' : Nat → Int} {al : List Al} : adj u' v' s' (adj u v s al) = adj (fun i => u i + u' i) (fun i => v i + v' i) (fun i => s i + s' i) al := by
  refine al_ext (by rw [adj_len, adj_len, adj_len]) fun j a h => ?_
  cases hb : al[j]? with
  | none =>
    rw [List.getElem?_eq_none_iff] at hb
    have := (List.getElem?_eq_some_iff.1 h).1
    rw [adj_len, adj_len] at this; omega
  | some b =>
    rw [adj_at (adj_at hb)] at h
    rw [adj_at hb, ← h]
    unfold adjOne
    simp only [Int.add_assoc]
theorem adj_congr {u v s u' v' s' : Nat → Int} {al : List Al} (h : ∀ i, i < al.length → u i = u' i ∧ v i = v' i ∧ s i = s' i) : adj u v s al = adj u' v' s' al := by
  refine al_ext (by rw [adj_len, adj_len]) fun j a hj => ?_
  have hl := (List.getElem?_eq_some_iff.1 hj).1
  rw [adj_len] at hl
  have hb := List.getElem?_eq_getElem hl
  rw [adj_at hb] at hj
  rw [adj_at hb, ← hj]
  obtain ⟨h1, h2, h3⟩ := h j hl
  unfold adjOne
  rw [h1, h2, h3]
theorem adj_zero {al : List Al} : adj (fun _ => 0) (fun _ => 0) (fun _ => 0) al = al := by
  refine al_ext (by rw [adj_len]) fun j a hj => ?_
  have hl := (List.getElem?_eq_some_iff.1 hj).1
  rw [adj_len] at hl
  have hb := List.getElem?_eq_getElem hl
  rw [adj_at hb] at hj
  rw [hb, ← hj]
  unfold adjOne
  simp
/-- What legs that were not refused made of the allocations. -/
theorem post_adj {w : Int} {al : List Al} {legs : List Lg} {u v s : Nat → Int} (h : postE w al legs = 0) (h0 : (of legs 0).sum = 0) (hu : ∀ i, i < al.length → (of legs (1 + 3 * i)).sum = u i ∧ (of legs (2 + 3 * i)).sum = v i ∧ (of legs (3 + 3 * i)).sum = s i) : postW w al legs = w ∧ postA w al legs = adj u v s al := by
  have ha := (post_iff.1 h).2
  have hF : ∀ k, k < 1 + 3 * al.length → (postF w al legs).getD k 0 = (flatN w al).getD k 0 + (of legs k).sum := fun k hk => by rw [getD_at (postF_at w al legs hk), acct_sum (ha k hk)]
  constructor
  · rw [postW_ok h, hF 0 (by omega), h0]
    simp [flatN]
  · rw [postA_ok h]
    refine al_ext (by rw [setA_len, adj_len]) fun j a hj => ?_
    have hl := (List.getElem?_eq_some_iff.1 hj).1
    rw [setA_len] at hl
    have hb := List.getElem?_eq_getElem hl
    rw [setA_at hb] at hj
    rw [adj_at hb, ← hj]
    obtain ⟨g1, g2, g3⟩ := flat_at al j al[j] w hb
    obtain ⟨u1, u2, u3⟩ := hu j hl
    unfold setOne adjOne
    rw [hF _ (by omega), hF _ (by omega), hF _ (by omega), getD_at g1, getD_at g2, getD_at g3, u1, u2, u3]
end Go.Proofs.Ytghglgodkknlnaa.Drw
/- Draw: liens, what is charged of them, and what is given back (mathematics for DrawRound). -/
namespace Go.Proofs.Ytghglgodkknlnaa.Drw
open Mon
open Tre (Al path)
open Led
set_option linter.unusedVariables false

/-- What draws take of the allocation at place i. -/
def ofD (l : List Dw) (i : Nat) : Int := (of (l.map fun d => (⟨d.alloc, d.amt⟩ : Lg)) i).sum
theorem ofD_nil (i : Nat) : ofD [] i = 0 := rfl
theorem of_cons (g : Lg) (l : List Lg) (k : Nat) : (of (g :: l) k).sum = (if g.acct = (k : Int) then g.amt else 0) + (of l k).sum := by
  unfold of
  rw [List.filter_cons]
  by_cases h : g.acct = (k : Int)
  · rw [if_pos (by simpa using h), if_pos h, List.map_cons, List.sum_cons]
  · rw [if_neg (by simpa using h), if_neg h]; omega
theorem of_append (a b : List Lg) (k : Nat) : (of (a ++ b) k).sum = (of a k).sum + (of b k).sum := by
  unfold of
  rw [List.filter_append, List.map_append, List.sum_append]
theorem ofD_cons (d : Dw) (l : List Dw) (i : Nat) : ofD (d :: l) i = (if d.alloc = (i : Int) then d.amt else 0) + ofD l i := by
  unfold ofD
  rw [List.map_cons, of_cons]
/-- All draws of accounts of one kind. -/
def hit (l : List Dw) (q K : Int) : Int := (l.map fun d => if q + 3 * d.alloc = K then d.amt else 0).sum
theorem hit_at {q q' : Int} (hq : 1 ≤ q ∧ q ≤ 3) (hq' : 1 ≤ q' ∧ q' ≤ 3) (i : Nat) : ∀ l : List Dw, hit l q (q' + 3 * (i : Int)) = if q = q' then ofD l i else 0
  | [] => by simp [hit, ofD_nil]
  | d :: l => by
    have ih := hit_at hq hq' i l
    unfold hit at ih ⊢
    rw [List.map_cons, List.sum_cons, ih, ofD_cons]
    by_cases h : q = q'
    · subst h
      rw [if_pos rfl, if_pos rfl]
      by_cases h2 : d.alloc = (i : Int)
      · rw [if_pos (by omega), if_pos h2]
      · rw [if_neg (by omega), if_neg h2]
    · rw [if_neg h, if_neg h, if_neg (by omega)]; rfl
theorem hit_zero {q : Int} (hq : 1 ≤ q) : ∀ l : List Dw, (∀ d ∈ l, 0 ≤ d.alloc) → hit l q 0 = 0
  | [], _ => rfl
  | d :: l, h => by
    have ih := hit_zero hq l fun x hx => h x (List.mem_cons_of_mem _ hx)
    have hd := h d (List.mem_cons_self ..)
    unfold hit at ih ⊢
    rw [List.map_cons, List.sum_cons, ih, if_neg (by omega)]; rfl
theorem leg_of {d c : Dw} (h : d.amt = 0 → c.amt = 0) (f t r : Int) (K : Nat) : (of (legOf d c f t r) K).sum = (if f + 3 * d.alloc = (K : Int) then -d.amt else 0) + (if t + 3 * d.alloc = (K : Int) then c.amt else 0) + (if r + 3 * d.alloc = (K : Int) then d.amt - c.amt else 0) := by
  unfold legOf
  by_cases h0 : d.amt = 0
  · rw [if_pos h0, h0, h h0]
    simp [of]
  · rw [if_neg h0, of_append, of_append, of_cons]
    have e0 : (of [] K).sum = 0 := rfl
    have e1 : (of (if c.amt ≠ 0 then [(⟨t + 3 * d.alloc, c.amt⟩ : Lg)] else []) K).sum = if t + 3 * d.alloc = (K : Int) then c.amt else 0 := by
      by_cases hc : c.amt = 0
      · rw [if_neg (by simpa using hc), hc]; simp [of]
      · rw [if_pos hc, of_cons, e0]; simp
    have e2 : (of (if d.amt - c.amt ≠ 0 then [(⟨r + 3 * d.alloc, d.amt - c.amt⟩ : Lg)] else []) K).sum = if r + 3 * d.alloc = (K : Int) then d.amt - c.amt else 0 := by
      by_cases hc : d.amt - c.amt = 0
      · rw [if_neg (by simpa using hc), hc]; simp [of]
      · rw [if_pos hc, of_cons, e0]; simp
    rw [e1, e2, e0]; simp
/-- Draws and charges, place by place. -/
def Pair (P : Dw → Dw → Prop) : List Dw → List Dw → Prop
  | [], [] => True
  | d :: l, c :: k => P d c ∧ Pair P l k
  | _, _ => False
theorem pair_same {P : Dw → Dw → Prop} : ∀ {l : List Dw}, (∀ d ∈ l, P d d) → Pair P l l
  | [], _ => trivial
  | d :: l, h => ⟨h d (List.mem_cons_self ..), pair_same fun x hx => h x (List.mem_cons_of_mem _ hx)⟩
theorem pair_imp {P Q : Dw → Dw → Prop} : ∀ {l k : List Dw}, Pair P l k → (∀ d ∈ l, ∀ c ∈ k, P d c → Q d c) → Pair Q l k
  | [], [], _, _ => trivial
  | d :: l, c :: k, h, hi => ⟨hi d (List.mem_cons_self ..) c (List.mem_cons_self ..) h.1, pair_imp h.2 fun x hx y hy => hi x (List.mem_cons_of_mem _ hx) y (List.mem_cons_of_mem _ hy)⟩
  | [], _ :: _, h, _ => h.elim
  | _ :: _, [], h, _ => h.elim
def Fit (d c : Dw) : Prop := d.alloc = c.alloc ∧ (d.amt = 0 → c.amt = 0)
theorem legs_of (f t r : Int) (K : Nat) : ∀ {l k : List Dw}, Pair Fit l k → (of (legsD l k f t r) K).sum = hit k t K - hit l f K + (hit l r K - hit k r K)
  | [], [], _ => rfl
  | d :: l, c :: k, h => by
    have ih := legs_of f t r K h.2
    rw [legsD, of_append, leg_of h.1.2, ih]
    unfold hit
    rw [List.map_cons, List.map_cons, List.map_cons, List.map_cons, List.sum_cons, List.sum_cons, List.sum_cons, List.sum_cons]
    rw [← h.1.1]
    by_cases h1 : f + 3 * d.alloc = (K : Int) <;> by_cases h2 : t + 3 * d.alloc = (K : Int) <;> by_cases h3 : r + 3 * d.alloc = (K : Int)
    all_goals simp only [h1, h2, h3, if_true, if_false]
    all_goals omega
  | [], _ :: _, h => h.elim
  | _ :: _, [], h => h.elim
theorem opt_sum (q x : Int) : (amts (if x ≠ 0 then [(⟨q, x⟩ : Lg)] else [])).sum = x := by
  by_cases h : x = 0
  · rw [if_neg (by simpa using h), h]; rfl
  · rw [if_pos h]; simp [amts]
theorem opt_len (q x : Int) : (if x ≠ 0 then [(⟨q, x⟩ : Lg)] else []).length ≤ 1 := by
  by_cases h : x = 0
  · rw [if_neg (by simpa using h)]; simp
  · rw [if_pos h]; simp
theorem legs_sum (f t r : Int) : ∀ {l k : List Dw}, Pair Fit l k → (amts (legsD l k f t r)).sum = 0
  | [], [], _ => rfl
  | d :: l, c :: k, h => by
    have ih := legs_sum f t r h.2
    have e : (amts (legOf d c f t r)).sum = 0 := by
      unfold legOf
      by_cases h0 : d.amt = 0
      · rw [if_pos h0]; rfl
      · rw [if_neg h0]
        have e1 := opt_sum (t + 3 * d.alloc) c.amt
        have e2 := opt_sum (r + 3 * d.alloc) (d.amt - c.amt)
        unfold amts at e1 e2 ⊢
        rw [List.map_append, List.sum_append, List.map_append, List.sum_append, e1, e2]
        simp
        omega
    rw [legsD]
    unfold amts at ih e ⊢
    rw [List.map_append, List.sum_append, ih, e]; rfl
  | [], _ :: _, h => h.elim
  | _ :: _, [], h => h.elim
theorem legsR_len (f t r : Int) : ∀ (l k : List Dw), (legsD l k f t r).length ≤ 3 * l.length
  | [], _ => by simp [legsD]
  | d :: l, [] => by simp [legsD]
  | d :: l, c :: k => by
    have ih := legsR_len f t r l k
    rw [legsD, List.length_append, List.length_cons]
    have : (legOf d c f t r).length ≤ 3 := by
      unfold legOf
      by_cases h0 : d.amt = 0
      · rw [if_pos h0]; simp
      · rw [if_neg h0, List.length_append, List.length_append]
        have e1 := opt_len (t + 3 * d.alloc) c.amt
        have e2 := opt_len (r + 3 * d.alloc) (d.amt - c.amt)
        simp only [List.length_cons, List.length_nil]
        omega
    omega
/-- A leg of draws: one of three kinds. -/
theorem legs_mem (f t r : Int) : ∀ {l k : List Dw} {g : Lg}, g ∈ legsD l k f t r → ∃ d ∈ l, ∃ c ∈ k, (∀ {P : Dw → Dw → Prop}, Pair P l k → P d c) ∧ ((g.acct = f + 3 * d.alloc ∧ g.amt = -d.amt ∧ d.amt ≠ 0) ∨ (g.acct = t + 3 * d.alloc ∧ g.amt = c.amt ∧ c.amt ≠ 0) ∨ (g.acct = r + 3 * d.alloc ∧ g.amt = d.amt - c.amt ∧ d.amt - c.amt ≠ 0))
  | [], _, g, h => by simp [legsD] at h
  | d :: l, [], g, h => by simp [legsD] at h
  | d :: l, c :: k, g, h => by
    rw [legsD] at h
    rcases List.mem_append.1 h with h | h
    · refine ⟨d, List.mem_cons_self .., c, List.mem_cons_self .., fun hp => hp.1, ?_⟩
      unfold legOf at h
      by_cases h0 : d.amt = 0
      · rw [if_pos h0] at h; cases h
      · rw [if_neg h0] at h
        rcases List.mem_append.1 h with h | h
        · rcases List.mem_append.1 h with h | h
          · rw [List.mem_singleton] at h
            subst h
            exact .inl ⟨rfl, rfl, h0⟩
          · by_cases h1 : c.amt = 0
            · rw [if_neg (by simpa using h1)] at h; cases h
            · rw [if_pos h1, List.mem_singleton] at h
              subst h
              exact .inr (.inl ⟨rfl, rfl, h1⟩)
        · by_cases h2 : d.amt - c.amt = 0
          · rw [if_neg (by simpa using h2)] at h; cases h
          · rw [if_pos h2, List.mem_singleton] at h
            subst h
            exact .inr (.inr ⟨rfl, rfl, h2⟩)
    · obtain ⟨d', hd, c', hc, hp, hg⟩ := legs_mem f t r h
      exact ⟨d', List.mem_cons_of_mem _ hd, c', List.mem_cons_of_mem _ hc, fun h => hp h.2, hg⟩
theorem legs_some (f t r : Int) {d c : Dw} {l k : List Dw} (h : d.amt ≠ 0) : 1 ≤ (legsD (d :: l) (c :: k) f t r).length := by
  rw [legsD, List.length_append]
  unfold legOf
  rw [if_neg h]
  simp
  omega

/-! ### What was drawn -/

/-- Draws of allocations that there are, none twice, none more than it has. -/
structure Held (al : List Al) (l : List Dw) : Prop where
  at' : ∀ d ∈ l, 0 ≤ d.alloc ∧ d.alloc < (al.length : Int) ∧ 1 ≤ d.amt ∧ d.amt ≤ availOf al d.alloc.toNat
  once : l.Pairwise fun x y => x.alloc ≠ y.alloc
theorem ofD_none {i : Nat} : ∀ {l : List Dw}, (∀ d ∈ l, d.alloc ≠ (i : Int)) → ofD l i = 0
  | [], _ => rfl
  | d :: l, h => by
    rw [ofD_cons, if_neg (h d (List.mem_cons_self ..)), ofD_none fun x hx => h x (List.mem_cons_of_mem _ hx)]; rfl
theorem ofD_one {i : Nat} : ∀ {l : List Dw}, l.Pairwise (fun x y => x.alloc ≠ y.alloc) → ofD l i = 0 ∨ ∃ d ∈ l, d.alloc = (i : Int) ∧ ofD l i = d.amt
  | [], _ => .inl rfl
  | d :: l, h => by
    obtain ⟨h1, h2⟩ := List.pairwise_cons.1 h
    rw [ofD_cons]
    by_cases hd : d.alloc = (i : Int)
    · right
      refine ⟨d, List.mem_cons_self .., hd, ?_⟩
      rw [if_pos hd, ofD_none fun x hx => by rw [← hd]; exact Ne.symm (h1 x hx)]; omega
    · rw [if_neg hd]
      rcases ofD_one (i := i) h2 with e | ⟨x, hx, hxi, e⟩
      · left; rw [e]; rfl
      · right
        exact ⟨x, List.mem_cons_of_mem _ hx, hxi, by rw [e]; omega⟩
theorem held_of {al : List Al} {l : List Dw} (h : Held al l) {i : Nat} (hi : i < al.length) : 0 ≤ ofD l i ∧ (0 < ofD l i → ofD l i ≤ availOf al i) := by
  rcases ofD_one (i := i) h.once with e | ⟨d, hd, hdi, e⟩
  · rw [e]; exact ⟨Int.le_refl _, fun h => by omega⟩
  · obtain ⟨_, _, h3, h4⟩ := h.at' d hd
    rw [hdi, Int.toNat_natCast] at h4
    rw [e]; exact ⟨by omega, fun _ => h4⟩
theorem once_len : ∀ (n : Nat) (l : List Dw), l.Pairwise (fun x y => x.alloc ≠ y.alloc) → (∀ d ∈ l, 0 ≤ d.alloc ∧ d.alloc < (n : Int)) → l.length ≤ n
  | 0, l, _, h => by
    cases l with
    | nil => simp
    | cons d l => have := h d (List.mem_cons_self ..); omega
  | n + 1, l, hp, h => by
    have h1 := once_len n (l.filter fun d => d.alloc != (n : Int)) (hp.filter _) fun d hd => by
      obtain ⟨h1, h2⟩ := List.mem_filter.1 hd
      have := h d h1
      have h3 : d.alloc ≠ (n : Int) := by simpa using h2
      omega
    have h2 : ∀ (l : List Dw), l.Pairwise (fun x y => x.alloc ≠ y.alloc) → l.length ≤ (l.filter fun d => d.alloc != (n : Int)).length + 1 := by
      intro l
      induction l with
      | nil => intro _; simp
      | cons d l ih =>
        intro hp
        obtain ⟨g1, g2⟩ := List.pairwise_cons.1 hp
        rw [List.filter_cons]
        by_cases hd : d.alloc = (n : Int)
        · rw [if_neg (by simp [hd])]
          have : (l.filter fun d => d.alloc != (n : Int)) = l := List.filter_eq_self.2 fun x hx => by
            have := g1 x hx
            rw [hd] at this
            simpa using Ne.symm this
          rw [this, List.length_cons]; omega
        · rw [if_pos (by simpa using hd), List.length_cons, List.length_cons]
          have := ih g2; omega
    have := h2 l hp
    omega
theorem once_of_pair {al : List Al} : ∀ {l : List Nat}, l.Pairwise (Behind al) → l.Pairwise fun (x y : Nat) => (x : Int) ≠ (y : Int) := fun h => h.imp fun {x y} hb e => by
  obtain rfl : x = y := by omega
  rcases hb with h | ⟨_, h⟩
  · omega
  · rcases h with h | ⟨_, h⟩ <;> omega
theorem held_take {al : List Al} {now a : Int} {p : List Int} (hp : p.Pairwise (· > ·)) : Held al (takeD al (order al now p) a) := by
  obtain ⟨k, hk, hmap⟩ := take_prefix al (order al now p) a
  have hmem : ∀ i ∈ order al now p, i < al.length ∧ 0 < availOf al i := by
    intro i hi
    have hc := (order_mem hi).2
    obtain ⟨x, hx, _, hav⟩ := cand_fund hc
    exact ⟨(List.getElem?_eq_some_iff.1 hx).1, by unfold availOf; rw [hx]; exact hav⟩
  constructor
  · intro d hd
    obtain ⟨q, hq, e⟩ := List.getElem_of_mem hd
    have hq2 := List.getElem?_eq_getElem hq
    rw [e] at hq2
    obtain ⟨h1, h2, _⟩ := take_amt al (order al now p) a q d (fun i hi => (hmem i hi).2) hq2
    have hm : d.alloc ∈ (takeD al (order al now p) a).map Dw.alloc := List.mem_map.2 ⟨d, hd, rfl⟩
    rw [hmap] at hm
    obtain ⟨i, hi, e2⟩ := List.mem_map.1 hm
    have := (hmem i (List.mem_of_mem_take hi)).1
    exact ⟨by omega, by omega, h1, h2⟩
  · have h1 : ((takeD al (order al now p) a).map Dw.alloc).Pairwise (fun x y => x ≠ y) := by
      rw [hmap, List.pairwise_map]
      exact once_of_pair ((order_pair al now hp).sublist (List.take_sublist _ _))
    rwa [List.pairwise_map] at h1
theorem take_rest (al : List Al) : ∀ (l : List Nat) (a : Int), 0 ≤ a → 0 ≤ restD al l a
  | [], a, h => h
  | i :: r, a, h => by
    rw [restD]
    split
    · exact h
    · exact take_rest al r _ (by omega)

/-! ### What is charged -/

def Part (d c : Dw) : Prop := d.alloc = c.alloc ∧ 0 ≤ c.amt ∧ c.amt ≤ d.amt
theorem charge_spec : ∀ (l : List Dw) (a : Int), (∀ d ∈ l, 0 ≤ d.amt) → 0 ≤ a → ∃ k b, chargeTo l a = some (k, b) ∧ Pair Part l k ∧ 0 ≤ b ∧ (amtsD k).sum + b = a ∧ (0 < b → (amtsD k).sum = (amtsD l).sum)
  | [], a, _, ha => ⟨[], a, rfl, trivial, ha, by simp [amtsD], fun _ => rfl⟩
  | d :: l, a, h, ha => by
    have hd := h d (List.mem_cons_self ..)
    obtain ⟨k, b, h1, h2, h3, h4, h5⟩ := charge_spec l (a - min d.amt a) (fun x hx => h x (List.mem_cons_of_mem _ hx)) (by omega)
    refine ⟨⟨d.alloc, min d.amt a⟩ :: k, b, ?_, ⟨⟨rfl, by simp only; omega, by simp only; omega⟩, h2⟩, h3, ?_, fun hb => ?_⟩
    · rw [chargeTo, if_neg (by omega), h1]
    · unfold amtsD at h4 ⊢
      rw [List.map_cons, List.sum_cons]; simp only; omega
    · have h6 := h5 hb
      have hs : 0 ≤ (amtsD k).sum := by
        have hk : ∀ {l k : List Dw}, Pair Part l k → 0 ≤ (amtsD k).sum := by
          intro l k
          induction l generalizing k with
          | nil => intro hp; cases k with
            | nil => simp [amtsD]
            | cons => exact hp.elim
          | cons x l ih => intro hp; cases k with
            | nil => exact hp.elim
            | cons y k =>
              have := ih hp.2
              have := hp.1.2.1
              unfold amtsD at *
              rw [List.map_cons, List.sum_cons]; omega
        exact hk h2
      unfold amtsD at h4 h6 hs ⊢
      rw [List.map_cons, List.sum_cons, List.map_cons, List.sum_cons, h6]
      simp only
      omega
theorem charge_cases {l : List Dw} (hl : ∀ d ∈ l, 0 ≤ d.amt) (a : Int) : (chargeE l a = 0 ∧ 0 ≤ a ∧ Pair Part l (chargeL l a) ∧ (amtsD (chargeL l a)).sum = a) ∨ (chargeE l a ≠ 0 ∧ (a < 0 ∨ (amtsD l).sum < a)) := by
  by_cases ha : a < 0
  · right
    exact ⟨by unfold chargeE; rw [if_pos ha]; decide, .inl ha⟩
  · obtain ⟨k, b, h1, h2, h3, h4, h5⟩ := charge_spec l a hl (by omega)
    by_cases hb : 0 < b
    · right
      refine ⟨by unfold chargeE; rw [if_neg ha, h1]; simp [hb], .inr ?_⟩
      have := h5 hb
      omega
    · left
      have he : chargeE l a = 0 := by unfold chargeE; rw [if_neg ha, h1]; simp [hb]
      have hk : chargeL l a = k := by unfold chargeL; rw [if_pos he, h1]
      rw [hk]
      exact ⟨he, by omega, h2, by omega⟩
theorem part_len : ∀ {l k : List Dw}, Pair Part l k → k.length = l.length ∧ l.map Dw.alloc = k.map Dw.alloc
  | [], [], _ => ⟨rfl, rfl⟩
  | d :: l, c :: k, h => by
    obtain ⟨h1, h2⟩ := part_len h.2
    exact ⟨by simp [h1], by rw [List.map_cons, List.map_cons, h.1.1, h2]⟩
  | [], _ :: _, h => h.elim
  | _ :: _, [], h => h.elim
theorem part_of (i : Nat) : ∀ {l k : List Dw}, Pair Part l k → 0 ≤ ofD k i ∧ ofD k i ≤ ofD l i
  | [], [], _ => ⟨Int.le_refl _, Int.le_refl _⟩
  | d :: l, c :: k, h => by
    obtain ⟨h1, h2⟩ := part_of i h.2
    obtain ⟨g1, g2, g3⟩ := h.1
    rw [ofD_cons, ofD_cons, ← g1]
    by_cases hd : d.alloc = (i : Int)
    · rw [if_pos hd, if_pos hd]; omega
    · rw [if_neg hd, if_neg hd]; omega
  | [], _ :: _, h => h.elim
  | _ :: _, [], h => h.elim
theorem ofD_sum {l : List Dw} {n : Nat} (h : ∀ d ∈ l, 0 ≤ d.alloc ∧ d.alloc < (n : Int)) : ((List.range n).map fun i => ofD l i).sum = (amtsD l).sum := by
  have := sum_range_of (l.map fun d => (⟨d.alloc, d.amt⟩ : Lg)) n fun g hg => by
    obtain ⟨d, hd, e⟩ := List.mem_map.1 hg
    subst e
    exact h d hd
  have e : amts (l.map fun d => (⟨d.alloc, d.amt⟩ : Lg)) = amtsD l := by
    unfold amts amtsD
    rw [List.map_map]; rfl
  rw [e] at this
  exact this
end Go.Proofs.Ytghglgodkknlnaa.Drw
/- Draw: what is drawn, place by place (mathematics for DrawTakes). -/
namespace Go.Proofs.Ytghglgodkknlnaa.Drw
open Mon
open Tre (Al path)
open Led
set_option linter.unusedVariables false

theorem draws_ok {X : List Tre.Fd} {Y : List Al} {f am now : Int} (h : drawsE X Y f am now = 0) : 0 ≤ am ∧ path X f ≠ [] ∧ drawsL X Y f am now = takeD Y (order Y now (path X f)) am ∧ (amtsD (drawsL X Y f am now)).sum = am := by
  have hL : drawsL X Y f am now = takeD Y (order Y now (path X f)) am := by unfold drawsL; rw [if_pos h]
  unfold drawsE at h
  by_cases h1 : path X f = []
  · rw [if_pos h1] at h; cases h
  · rw [if_neg h1] at h
    by_cases h2 : am < 0
    · rw [if_pos h2] at h; cases h
    · rw [if_neg h2] at h
      by_cases h3 : 0 < restD Y (order Y now (path X f)) am
      · rw [if_pos h3] at h; cases h
      · have h4 := take_rest Y (order Y now (path X f)) am (by omega)
        have h5 := take_sum Y (order Y now (path X f)) am
        exact ⟨by omega, h1, hL, by rw [hL]; omega⟩
theorem draws_no {X : List Tre.Fd} {Y : List Al} {f am now : Int} (h : drawsE X Y f am now ≠ 0) : drawsL X Y f am now = [] := by unfold drawsL; rw [if_neg h]
theorem draws_held {X : List Tre.Fd} {Y : List Al} {f am now : Int} (h : drawsE X Y f am now = 0) : Held Y (drawsL X Y f am now) := by
  rw [(draws_ok h).2.2.1]
  exact held_take (path_desc X f)
/-- What holds of the draw at place q. -/
structure Nth (Y : List Al) (now : Int) (p : List Int) (dl : List Dw) (q : Nat) (i : Nat) (a : Al) (m : Int) : Prop where
  at' : dl[q]? = some ⟨(i : Int), m⟩
  al : Y[i]? = some a
  one : 1 ≤ m
  most : m ≤ a.avail
  from' : a.from' ≤ now
  till : now < a.till
  whole : q + 1 < dl.length → m = a.avail
  way : ∃ K : Nat, p[K]? = some a.fund
theorem nth_of {X : List Tre.Fd} {Y : List Al} {f am now : Int} (h : drawsE X Y f am now = 0) {q : Nat} (hq : q < (drawsL X Y f am now).length) : ∃ i a m, Nth Y now (path X f) (drawsL X Y f am now) q i a m := by
  have hd := List.getElem?_eq_getElem hq
  generalize (drawsL X Y f am now)[q] = d at hd
  obtain ⟨-, -, hL, -⟩ := draws_ok h
  rw [hL] at hd ⊢
  have hmem : ∀ i ∈ order Y now (path X f), 0 < availOf Y i := by
    intro i hi
    obtain ⟨x, hx, _, hav⟩ := cand_fund (order_mem hi).2
    unfold availOf; rw [hx]; exact hav
  obtain ⟨h1, h2, h3⟩ := take_amt Y (order Y now (path X f)) am q d hmem hd
  obtain ⟨k, hk, hmap⟩ := take_prefix Y (order Y now (path X f)) am
  have hm : d.alloc ∈ (takeD Y (order Y now (path X f)) am).map Dw.alloc := List.mem_map.2 ⟨d, List.mem_of_getElem? hd, rfl⟩
  rw [hmap] at hm
  obtain ⟨i, hi, e⟩ := List.mem_map.1 hm
  obtain ⟨ho1, ho2⟩ := order_mem (List.mem_of_mem_take hi)
  unfold cand at ho2
  cases ha : Y[i]? with
  | none => rw [ha] at ho2; cases ho2
  | some a =>
    rw [ha] at ho2
    simp [openA] at ho2
    have hfu : fundOf Y i = a.fund := by unfold fundOf; rw [ha]
    have hav : availOf Y d.alloc.toNat = a.avail := by rw [← e, Int.toNat_natCast]; unfold availOf; rw [ha]
    rw [hav] at h2 h3
    rw [hfu] at ho1
    obtain ⟨K, hK, eK⟩ := List.getElem_of_mem ho1
    exact ⟨i, a, d.amt, by rw [hd, e], ha, h1, h2, ho2.2.1.2, ho2.2.2, h3, K, by rw [List.getElem?_eq_getElem hK, eK]⟩
/-- One after another. -/
theorem nth_next {X : List Tre.Fd} {Y : List Al} {f am now : Int} (h : drawsE X Y f am now = 0) {q i j : Nat} {a b : Al} {m n : Int} (h1 : Nth Y now (path X f) (drawsL X Y f am now) q i a m) (h2 : Nth Y now (path X f) (drawsL X Y f am now) (q + 1) j b n) : b.fund < a.fund ∨ (a.fund = b.fund ∧ (a.till < b.till ∨ (a.till = b.till ∧ i < j))) := by
  obtain ⟨-, -, hL, -⟩ := draws_ok h
  obtain ⟨k, hk, hmap⟩ := take_prefix Y (order Y now (path X f)) am
  have hp := (order_pair Y now (path_desc X f)).sublist (List.take_sublist k _)
  rw [← hL] at hmap
  have e1 : ((order Y now (path X f)).take k)[q]? = some i := by
    have := congrArg (fun l => l[q]?) hmap
    simp only [List.getElem?_map, h1.at'] at this
    cases hx : ((order Y now (path X f)).take k)[q]? with
    | none => rw [hx] at this; cases this
    | some x => rw [hx] at this; simp at this; exact congrArg some (by omega)
  have e2 : ((order Y now (path X f)).take k)[q + 1]? = some j := by
    have := congrArg (fun l => l[q + 1]?) hmap
    simp only [List.getElem?_map, h2.at'] at this
    cases hx : ((order Y now (path X f)).take k)[q + 1]? with
    | none => rw [hx] at this; cases this
    | some x => rw [hx] at this; simp at this; exact congrArg some (by omega)
  obtain ⟨l1, g1⟩ := List.getElem?_eq_some_iff.1 e1
  obtain ⟨l2, g2⟩ := List.getElem?_eq_some_iff.1 e2
  have hb := List.pairwise_iff_getElem.1 hp q (q + 1) l1 l2 (by omega)
  rw [g1, g2] at hb
  unfold Behind fundOf before tillOf at hb
  rw [h1.al, h2.al] at hb
  exact hb
theorem desc_at {p : List Int} (hp : p.Pairwise (· > ·)) {i j : Nat} {x y : Int} (hx : p[i]? = some x) (hy : p[j]? = some y) : (y ≤ x → i ≤ j) ∧ (x = y → i = j) := by
  obtain ⟨hi, ei⟩ := List.getElem?_eq_some_iff.1 hx
  obtain ⟨hj, ej⟩ := List.getElem?_eq_some_iff.1 hy
  subst ei ej
  have key := List.pairwise_iff_getElem.1 hp
  have h1 : ∀ a b (ha : a < p.length) (hb : b < p.length), p[b] ≤ p[a] → a ≤ b := fun a b ha hb h => by
    rcases Nat.lt_or_ge b a with h2 | h2
    · have := key b a hb ha h2; omega
    · exact h2
  refine ⟨h1 i j hi hj, fun e => ?_⟩
  have := h1 i j hi hj (by omega)
  have := h1 j i hj hi (by omega)
  omega
/-- The next fund is not behind the level. -/
def Ready (Y : List Al) (now : Int) (p : List Int) (dl : List Dw) (q L : Nat) : Prop := ∀ i a m, Nth Y now p dl q i a m → ∃ K : Nat, L ≤ K ∧ p[K]? = some a.fund
theorem ready_zero (Y : List Al) (now : Int) (p : List Int) (dl : List Dw) : Ready Y now p dl 0 0 := fun i a m h => by
  obtain ⟨K, hK⟩ := h.way
  exact ⟨K, Nat.zero_le _, hK⟩
theorem ready_next {X : List Tre.Fd} {Y : List Al} {f am now : Int} (h : drawsE X Y f am now = 0) {q i K : Nat} {a : Al} {m : Int} (h1 : Nth Y now (path X f) (drawsL X Y f am now) q i a m) (hK : (path X f)[K]? = some a.fund) : Ready Y now (path X f) (drawsL X Y f am now) (q + 1) K := fun j b n h2 => by
  obtain ⟨K2, hK2⟩ := h2.way
  refine ⟨K2, (desc_at (path_desc X f) hK hK2).1 ?_, hK2⟩
  have := nth_next h h1 h2
  omega
/-- What is left to draw. -/
def leftD (dl : List Dw) (am : Int) (q : Nat) : Int := am - (amtsD (dl.take q)).sum
theorem left_zero (dl : List Dw) (am : Int) : leftD dl am 0 = am := by simp [leftD, amtsD]
theorem left_step {dl : List Dw} {am : Int} {q : Nat} {d : Dw} (h : dl[q]? = some d) : leftD dl am (q + 1) = leftD dl am q - d.amt := by
  have hk := (List.getElem?_eq_some_iff.1 h).1
  have he := (List.getElem?_eq_some_iff.1 h).2
  unfold leftD amtsD
  rw [List.take_succ_eq_append_getElem hk, he, List.map_append, List.sum_append]
  simp
  omega
theorem amts_nonneg : ∀ {l : List Dw}, (∀ d ∈ l, 0 ≤ d.amt) → 0 ≤ (amtsD l).sum
  | [], _ => by simp [amtsD]
  | d :: l, h => by
    have h1 := amts_nonneg fun x hx => h x (List.mem_cons_of_mem _ hx)
    have h2 := h d (List.mem_cons_self ..)
    unfold amtsD at h1 ⊢
    rw [List.map_cons, List.sum_cons]; omega
theorem left_bound {dl : List Dw} {am : Int} (h : ∀ d ∈ dl, 1 ≤ d.amt) (hs : (amtsD dl).sum = am) (q : Nat) : 0 ≤ leftD dl am q ∧ leftD dl am q ≤ am := by
  have h1 := amts_nonneg (l := dl.take q) fun d hd => by have := h d (List.mem_of_mem_take hd); omega
  have h2 := amts_nonneg (l := dl.drop q) fun d hd => by have := h d (List.mem_of_mem_drop hd); omega
  have e : (amtsD dl).sum = (amtsD (dl.take q)).sum + (amtsD (dl.drop q)).sum := by
    conv => lhs; rw [← List.take_append_drop q dl]
    unfold amtsD
    rw [List.map_append, List.sum_append]
  unfold leftD
  omega
end Go.Proofs.Ytghglgodkknlnaa.Drw
