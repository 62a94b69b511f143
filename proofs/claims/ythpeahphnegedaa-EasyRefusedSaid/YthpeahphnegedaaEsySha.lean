/- Easy: the document's free and Shadow, as they run. -/
import Derived.Test.YthpeahphnegedaaEsyMem
import Derived.BigFrame
import Derived.BigQuiet
import Derived.Deep.DeepCutAuto
import Derived.Deep.CutBlock
import Derived.WalkLawsBesides
import Derived.LoopTactic
namespace Go.Proofs.Ythpeahphnegedaa.Esy
set_option maxRecDepth 100000
open Go.RowKit
open Go.Sort
open Kit
open Tre (Lst inI lst_keep lst_take lst_at lst_new lst_none i64_wf below_drewN')
open Prf (Bz busyN newF Nd Tk Busys encZ_len busy_cells busy_take busy_bound)
set_option linter.unusedVariables false
variable {w w' : World}

set_option maxHeartbeats 8000000 in
theorem rfree_any (W : World) (total : Int) (a1 : Option Addr) (nb c1 : Nat) (lb : List Bz) (t : Int) (ht : Nd total) (h : Busys W a1 nb c1 lb) (hm : ∀ b ∈ lb, okB b) (hn : nb ≤ 100) :
    Calls Try.prog 19 #[.int .i64 total, .slice a1 nb c1, .int .i64 t] W fun e w' => e = .returned (.int .i64 (newF total lb t)) ∧ Below W.heap.size W w' := by
  have HL := Lib.hid (And.intro h (And.intro h.len hm))
  obtain ⟨h00, h01⟩ := ht
  have HBd := Lib.hid (fun k (hk : k ≤ 1000) => busy_bound (l := lb) (fun b hb => hm b hb) k hk t)
  clear h hm
  go_enter Try.func19, Try.ntmps19
  go_wp2_with fail
  go_loopw [0, 7] (fun v i wr => ∃ k : Nat, k ≤ nb ∧ i = .int .i64 (k : Nat) ∧ v = .int .i64 (total - busyN (lb.take k) t) ∧ Below W.heap.size W wr) (fun _ i _ => nb - (intOf i).toNat)
  case atStart => exact ⟨0, Nat.zero_le _, rfl, by simp [busyN], Below.refl _ _⟩
  case round =>
    obtain ⟨k, hk, rfl, rfl, hb⟩ := hrel
    have HB := Lib.hid hb
    clear hb
    by_cases hlt : k < nb
    · have hlti : (k : Int) < (nb : Int) := by omega
      have hkl : k < lb.length := by rw [HL.out.2.1]; exact hlt
      obtain ⟨b1, o1, rfl⟩ := lst_at HL.out.1 (by omega)
      obtain ⟨q0, q1⟩ := busy_cells (lst_keep encZ_len HL.out.1 HB.out) hkl
      have hmt := busy_take t (List.getElem?_eq_getElem hkl)
      have hma := (HL.out.2.2 _ (List.getElem_mem hkl)).2
      obtain ⟨g0, g1⟩ := HBd.out k (by omega)
      generalize lb[k] = xy at *
      obtain ⟨x, y⟩ := xy
      simp only at q0 q1 hmt hma
      obtain ⟨y0, y1⟩ := hma
      by_cases htx : t < x
      · have HMt := Lib.hid (show total - busyN (lb.take (k + 1)) t = total - busyN (lb.take k) t - y by rw [hmt, if_pos htx]; omega)
        clear hmt
        obtain ⟨z, hz⟩ : ∃ z, z = busyN (lb.take k) t := ⟨_, rfl⟩
        rw [← hz] at HMt g0 g1 ⊢
        clear hz
        go_wp2_with fail
        go_roundw
        case rel => exact ⟨k + 1, by omega, by go_num, by rw [HMt.out], HB.out⟩
        case measure => simp [intOf]; omega
      · have HMt := Lib.hid (show total - busyN (lb.take (k + 1)) t = total - busyN (lb.take k) t by rw [hmt, if_neg htx]; omega)
        clear hmt
        obtain ⟨z, hz⟩ : ∃ z, z = busyN (lb.take k) t := ⟨_, rfl⟩
        rw [← hz] at HMt g0 g1 ⊢
        clear hz
        go_wp2_with fail
        go_roundw
        case rel => exact ⟨k + 1, by omega, by go_num, by rw [HMt.out], HB.out⟩
        case measure => simp [intOf]; omega
    · obtain rfl : k = nb := by omega
      have hni : ¬ (k : Int) < (k : Int) := by omega
      have htk : lb.take k = lb := List.take_of_length_le (by rw [HL.out.2.1]; exact Nat.le_refl _)
      rw [htk]
      clear htk
      go_wp2_with fail
      go_ret
      exact ⟨rfl, HB.out⟩

/-! ### Shadow -/

/-- The best of the first k of the ticks. -/
def sh (now total : Int) (l : List Bz) (nodes : Int) (k : Nat) : Option Int := ((ticksL now l).take k).foldl (shS now total l nodes) none
theorem sh_next {now total nodes x : Int} {l : List Bz} {k : Nat} (h : (ticksL now l)[k]? = some x) : sh now total l nodes (k + 1) = shS now total l nodes (sh now total l nodes k) x := by
  obtain ⟨hk, e⟩ := List.getElem?_eq_some_iff.1 h
  unfold sh
  rw [List.take_succ_eq_append_getElem hk, e, List.foldl_append]; rfl
theorem sh_end {now total nodes : Int} {l : List Bz} : sh now total l nodes (l.length + 1) = shadow now total l nodes := by
  unfold sh shadow
  rw [List.take_of_length_le (by simp [ticksL])]
theorem shS_up {now total nodes t : Int} {l : List Bz} {b : Option Int} (hb : ∀ x, b = some x → now ≤ x) : ∀ x, shS now total l nodes b t = some x → now ≤ x := by
  intro x hx
  unfold shS at hx
  split at hx
  · rename_i h
    injection hx with hx
    omega
  · exact hb x hx
theorem shadow_up {now total nodes : Int} {l : List Bz} : ∀ x, shadow now total l nodes = some x → now ≤ x := by
  have key : ∀ (ts : List Int) (b : Option Int), (∀ x, b = some x → now ≤ x) → ∀ x, ts.foldl (shS now total l nodes) b = some x → now ≤ x := by
    intro ts
    induction ts with
    | nil => intro b hb; exact hb
    | cons t ts ih => intro b hb; exact ih _ (shS_up hb)
  exact key _ none fun x h => by cases h
theorem free_bound {total t : Int} {l : List Bz} (ht : Nd total) (hm : ∀ b ∈ l, okB b) (hn : l.length ≤ 100) : -104857600 ≤ newF total l t ∧ newF total l t ≤ 1048576 := by
  obtain ⟨k1, k2⟩ := Prf.busyN_le (K := 1048576) (by omega) (t := t) (l := l) fun b hb => (hm b hb).2
  have : (l.length : Int) * 1048576 ≤ 100 * 1048576 := Int.mul_le_mul_of_nonneg_right (by omega) (by omega)
  obtain ⟨h0, h1⟩ := ht
  unfold newF
  omega
theorem sh_up {now total nodes : Int} {l : List Bz} : ∀ (k : Nat) x, sh now total l nodes k = some x → now ≤ x := by
  have key : ∀ (ts : List Int) (b : Option Int), (∀ x, b = some x → now ≤ x) → ∀ x, ts.foldl (shS now total l nodes) b = some x → now ≤ x := by
    intro ts
    induction ts with
    | nil => intro b hb; exact hb
    | cons t ts ih => intro b hb; exact ih _ (shS_up hb)
  intro k
  exact key _ none fun x h => by cases h
set_option maxHeartbeats 8000000 in
theorem rshadow_any (W : World) (now total : Int) (ab : Option Addr) (n c : Nat) (l : List Bz) (nodes : Int) (hnow : T9 now) (ht : Nd total) (h : Busys W ab n c l) (hm : ∀ b ∈ l, okB b) (hn : n ≤ 100) (hnd : Nd nodes) :
    Calls Try.prog 12 #[.int .i64 now, .int .i64 total, .slice ab n c, .int .i64 nodes] W fun e W' => e = .returned (.tuple #[.int .i64 (shT now total l nodes), .int .i64 (shX now total l nodes), .bool (shB now total l nodes)]) ∧ Below W.heap.size W W' := by
  have HL := Lib.hid (And.intro h (And.intro h.len hm))
  have HFr := Lib.hid (fun t w (hb : Below W.heap.size W w) => rfree_any w total ab n c l t ht (lst_keep encZ_len h hb) hm hn)
  have HBd := Lib.hid (fun t => free_bound (t := t) ht hm (by rw [h.len]; exact hn))
  obtain ⟨hnow0, hnow1⟩ := hnow
  obtain ⟨hnd0, hnd1⟩ := hnd
  clear h hm ht
  go_enter Try.func12, Try.ntmps12
  go_wp2_with fail
  go_loopw [11, 12] (fun bv iv wr => ∃ k : Nat, k ≤ n + 1 ∧ iv = .int .i64 ((k : Int) - 1) ∧ bv = .int .i64 (bestI (sh now total l nodes k)) ∧ Below W.heap.size W wr) (fun _ i _ => n + 1 - (intOf i + 1).toNat)
  case atStart => exact ⟨0, Nat.zero_le _, by simp, rfl, Below.refl _ _⟩
  case round =>
    obtain ⟨k, hk, rfl, rfl, hb⟩ := hrel
    have HB := Lib.hid hb
    clear hb
    have HUp0 := Lib.hid (sh_up (now := now) (total := total) (nodes := nodes) (l := l) k)
    by_cases hlt : k < n + 1
    · have hst := fun x (h : (ticksL now l)[k]? = some x) => sh_next (total := total) (nodes := nodes) h
      obtain ⟨bb, hbb⟩ : ∃ bb, bb = sh now total l nodes k := ⟨_, rfl⟩
      rw [← hbb] at hst HUp0 ⊢
      have HUp := HUp0
      clear hbb
      rcases k with _ | k1
      · have HSt := Lib.hid (hst now rfl)
        clear hst
        have hlt0 : (-1 : Int) < (n : Int) := by omega
        rw [show ((0 : Nat) : Int) - 1 = -1 from rfl]
        have HT := Lib.hid (Int.le_refl now)
        go_wp2_with fail
        refine (HFr.out now wr HB.out).mono ?_
        rintro e w2 ⟨rfl, hb2⟩
        have HB2 := Lib.hid (below_keep HB.out hb2)
        obtain ⟨fv, hfv⟩ : ∃ fv, fv = newF total l now := ⟨_, rfl⟩
        rw [← hfv]
        have HFv := Lib.hid hfv
        clear hb2 hfv
        by_cases hge : nodes ≤ fv
        · rcases bb with _ | x
          · have HN := Lib.hid (show sh now total l nodes (0 + 1) = some now by rw [HSt.out, shS, if_pos ⟨HT.out, by rw [← HFv.out]; exact hge, fun x hx => by cases hx⟩])
            go_wp2_with fail
            go_roundw
            case rel => exact ⟨0 + 1, by omega, by go_num, by rw [HN.out]; rfl, HB2.out⟩
            case measure => first | (simp [intOf]; done) | (simp [intOf]; omega)
          · have hx0 : ¬ x < 0 := by have := HUp.out x rfl; omega
            by_cases hlx : now < x
            · have HN := Lib.hid (show sh now total l nodes (0 + 1) = some now by rw [HSt.out, shS, if_pos ⟨HT.out, by rw [← HFv.out]; exact hge, fun y hy => by injection hy with hy; omega⟩])
              dsimp only [bestI]
              go_wp2_with fail
              go_roundw
              case rel => exact ⟨0 + 1, by omega, by go_num, by rw [HN.out]; rfl, HB2.out⟩
              case measure => first | (simp [intOf]; done) | (simp [intOf]; omega)
            · have HN := Lib.hid (show sh now total l nodes (0 + 1) = some x by rw [HSt.out, shS, if_neg (fun h => hlx (h.2.2 x rfl))])
              dsimp only [bestI]
              go_wp2_with fail
              go_roundw
              case rel => exact ⟨0 + 1, by omega, by go_num, by rw [HN.out]; rfl, HB2.out⟩
              case measure => first | (simp [intOf]; done) | (simp [intOf]; omega)
        · have HN := Lib.hid (show sh now total l nodes (0 + 1) = bb by rw [HSt.out, shS, if_neg (fun h => hge (by rw [HFv.out]; exact h.2.1))])
          go_wp2_with fail
          go_roundw
          case rel => exact ⟨0 + 1, by omega, by go_num, by rw [HN.out], HB2.out⟩
          case measure => first | (simp [intOf]; done) | (simp [intOf]; omega)
      · rw [show ((k1 + 1 : Nat) : Int) - 1 = (k1 : Int) by omega]
        have hlti : (k1 : Int) < (n : Int) := by omega
        have hkl : k1 < l.length := by rw [HL.out.2.1]; omega
        obtain ⟨b1, o1, rfl⟩ := lst_at HL.out.1 (by omega)
        obtain ⟨q0, -⟩ := busy_cells (lst_keep encZ_len HL.out.1 HB.out) hkl
        have hst2 := hst l[k1].till (by unfold ticksL; rw [List.getElem?_cons_succ, List.getElem?_map, List.getElem?_eq_getElem hkl]; rfl)
        clear hst
        generalize l[k1].till = tt at *
        have HSt := Lib.hid hst2
        clear hst2
        by_cases hT : now ≤ tt
        · have HT := Lib.hid hT
          go_wp2_with fail
          refine (HFr.out tt wr HB.out).mono ?_
          rintro e w2 ⟨rfl, hb2⟩
          have HB2 := Lib.hid (below_keep HB.out hb2)
          obtain ⟨fv, hfv⟩ : ∃ fv, fv = newF total l tt := ⟨_, rfl⟩
          rw [← hfv]
          have HFv := Lib.hid hfv
          clear hb2 hfv
          by_cases hge : nodes ≤ fv
          · rcases bb with _ | x
            · have HN := Lib.hid (show sh now total l nodes ((k1 + 1) + 1) = some tt by rw [HSt.out, shS, if_pos ⟨HT.out, by rw [← HFv.out]; exact hge, fun x hx => by cases hx⟩])
              go_wp2_with fail
              go_roundw
              case rel => exact ⟨(k1 + 1) + 1, by omega, by go_num, by rw [HN.out]; rfl, HB2.out⟩
              case measure => first | (simp [intOf]; done) | (simp [intOf]; omega)
            · have hx0 : ¬ x < 0 := by have := HUp.out x rfl; omega
              by_cases hlx : tt < x
              · have HN := Lib.hid (show sh now total l nodes ((k1 + 1) + 1) = some tt by rw [HSt.out, shS, if_pos ⟨HT.out, by rw [← HFv.out]; exact hge, fun y hy => by injection hy with hy; omega⟩])
                dsimp only [bestI]
                go_wp2_with fail
                go_roundw
                case rel => exact ⟨(k1 + 1) + 1, by omega, by go_num, by rw [HN.out]; rfl, HB2.out⟩
                case measure => first | (simp [intOf]; done) | (simp [intOf]; omega)
              · have HN := Lib.hid (show sh now total l nodes ((k1 + 1) + 1) = some x by rw [HSt.out, shS, if_neg (fun h => hlx (h.2.2 x rfl))])
                dsimp only [bestI]
                go_wp2_with fail
                go_roundw
                case rel => exact ⟨(k1 + 1) + 1, by omega, by go_num, by rw [HN.out]; rfl, HB2.out⟩
                case measure => first | (simp [intOf]; done) | (simp [intOf]; omega)
          · have HN := Lib.hid (show sh now total l nodes ((k1 + 1) + 1) = bb by rw [HSt.out, shS, if_neg (fun h => hge (by rw [HFv.out]; exact h.2.1))])
            go_wp2_with fail
            go_roundw
            case rel => exact ⟨(k1 + 1) + 1, by omega, by go_num, by rw [HN.out], HB2.out⟩
            case measure => first | (simp [intOf]; done) | (simp [intOf]; omega)
        · have HN := Lib.hid (show sh now total l nodes (k1 + 1 + 1) = bb by rw [HSt.out, shS, if_neg (fun h => hT h.1)])
          go_wp2_with fail
          go_roundw
          case rel => exact ⟨k1 + 1 + 1, by omega, by go_num, by rw [HN.out], HB.out⟩
          case measure => first | (simp [intOf]; done) | (simp [intOf]; omega)
    · obtain rfl : k = n + 1 := by omega
      have hend : sh now total l nodes (n + 1) = shadow now total l nodes := by rw [← HL.out.2.1]; exact sh_end
      rw [hend] at HUp0 ⊢
      clear hend
      rw [show ((n + 1 : Nat) : Int) - 1 = (n : Int) by omega]
      have hni : ¬ (n : Int) < (n : Int) := by omega
      obtain ⟨bb, hbb⟩ : ∃ bb, bb = shadow now total l nodes := ⟨_, rfl⟩
      rw [← hbb] at HUp0 ⊢
      have Hb := Lib.hid hbb
      clear hbb
      rcases bb with _ | b
      · dsimp only [bestI]
        go_wp2_with fail
        refine bodyPost_ret (results_tmp3 rfl _ _ _) rfl ?_
        exact ⟨by rw [shT, shX, shB, ← Hb.out]; rfl, HB.out⟩
      · have hb0 : ¬ b < 0 := by have := HUp0.out b rfl; omega
        obtain ⟨f0, f1⟩ := HBd.out b
        dsimp only [bestI]
        have HC := Lib.hid (HFr.out b wr HB.out)
        obtain ⟨fv, hfv⟩ : ∃ fv, fv = newF total l b := ⟨_, rfl⟩
        rw [← hfv] at HC f0 f1
        have HFv := Lib.hid hfv
        clear hfv
        go_wp2_with fail
        refine HC.out.mono ?_
        rintro e w2 ⟨rfl, hb2⟩
        have HB2 := Lib.hid (below_keep HB.out hb2)
        clear hb2 HC
        go_wp2_with fail
        refine bodyPost_ret (results_tmp3 rfl _ _ _) rfl ?_
        exact ⟨by rw [shT, shX, shB, ← Hb.out]; simp only [← HFv.out]; rfl, HB2.out⟩
end Go.Proofs.Ythpeahphnegedaa.Esy
