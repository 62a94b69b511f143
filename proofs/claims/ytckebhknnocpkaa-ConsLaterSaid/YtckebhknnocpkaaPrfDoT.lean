/- Profile, the landed: Take. -/
import Derived.Test.YtckebhknnocpkaaPrfDoN
namespace Go.Proofs.Ytckebhknnocpkaa.Prf
set_option maxRecDepth 100000
open Go.RowKit
open Go.Sort
open Kit
open Tre (Lst inI lst_keep lst_take lst_at lst_new lst_none i64_wf cells_int below_drewN')
set_option linter.unusedVariables false
variable {w w' : World}

set_option maxHeartbeats 16000000 in
theorem take_own (W : World) (at' long nodes : Int) (a : Option Addr) (n c : Nat) (p : List St) (hat : Tk at') (hl0 : 0 ≤ long) (hal : Tk (at' + long)) (hnd : Nd nodes) (h : Steps W a n c p) (hp : Pf p) :
    Calls Try.prog 21 #[.slice a n c, .int .i64 at', .int .i64 long, .int .i64 nodes] W fun e W' => ∃ a c q, e = .returned (.slice a q.length c) ∧ Steps W' a q.length c q ∧ (p = [] → q = []) ∧ (∀ s l, p = s :: l → IsP q (takeF p at' long nodes) s.tick) ∧ Below W.heap.size W W' ∧ OwS W' W.heap.size (.slice a q.length c) q := by
  have HL := Lib.hid (And.intro h (And.intro h.len hp))
  have hmx : max long 0 = long := by omega
  have hn1 : n ≤ 1000 := by rw [← h.len]; exact hp.len
  obtain ⟨a0, a1⟩ := hat
  obtain ⟨l0, l1⟩ := hal
  obtain ⟨n0, n1⟩ := hnd
  clear h hp
  by_cases hn0 : n = 0
  · subst hn0
    have hp0 : p = [] := List.length_eq_zero_iff.1 HL.out.2.1
    go_enter Try.func21, Try.ntmps21
    go_wp2_with fail
    go_ret
    exact ⟨none, 0, [], rfl, lst_none _ _ _, (fun _ => rfl), (fun s l e => by rw [hp0] at e; cases e), Below.refl _ _, owns_nil _ _ _⟩
  · have hni : ((n : Int) == 0) = false := beq_false_of_ne (by omega)
    go_enter Try.func21, Try.ntmps21
    go_wp2_with fail
    go_loopw [9, 10, 18] (fun v f i wr => ∃ (k : Nat) (fv : Int), k ≤ n ∧ i = .int .i64 (k : Nat) ∧ f = .int .i64 fv ∧ fv = endF 0 (p.take k) ∧ (-1099511627776 ≤ fv ∧ fv ≤ 1099511627776) ∧ OwC wr W.heap.size v (diffs 0 (p.take k)) ∧ Below W.heap.size W wr) (fun _ _ i _ => n - (intOf i).toNat)
    case atStart => exact ⟨0, 0, Nat.zero_le _, rfl, rfl, rfl, by omega, owns_nil _ _ _, Below.refl _ _⟩
    case round =>
      obtain ⟨k, fv, hk, rfl, rfl, hf, ⟨f0, f1⟩, ho, hb⟩ := hrel
      have HO := Lib.hid (And.intro ho (And.intro hf hb))
      clear ho hb hf
      by_cases hlt : k < n
      · have hkl : k < p.length := by rw [HL.out.2.1]; exact hlt
        obtain ⟨b, o, rfl⟩ := lst_at HL.out.1 (by omega)
        obtain ⟨q0, q1⟩ := step_cells (lst_keep encS_len HL.out.1 HO.out.2.2) hkl
        have hfr := HL.out.2.2.free p[k] (List.getElem_mem hkl)
        have htt : p.take (k + 1) = p.take k ++ [p[k]] := List.take_succ_eq_append_getElem hkl
        generalize p[k] = x at *
        obtain ⟨x0, x1⟩ := x
        obtain ⟨m0, m1⟩ := hfr
        simp only at q0 q1 m0 m1
        have hds : diffs 0 (p.take (k + 1)) = diffs 0 (p.take k) ++ [⟨x0, x1 - fv⟩] := by rw [htt, diffs_snoc, ← HO.out.2.1]
        have hen : endF 0 (p.take (k + 1)) = x1 := by rw [htt, endF_snoc]
        have hdl : (diffs 0 (p.take k)).length + 1 ≤ 100000 := by
          have := HL.out.2.2.len
          rw [diffs_len, List.length_take]
          omega
        have HDs := Lib.hid (And.intro hds (And.intro hen hdl))
        have hb1 := below_alloc wr (.cells #[.int .i64 x0, .int .i64 x1] 57)
        have HA := Lib.hid (And.intro (own_keepC HO.out.1 hb1) (below_keep HO.out.2.2 hb1))
        have HX := Lib.hid (show (wr.alloc (.cells #[.int .i64 x0, .int .i64 x1] 57)).cell? ⟨wr.heap.size, 1, none⟩ = some (.int .i64 x1) by rw [World.cell?_alloc_new]; rfl)
        clear hds hen hdl htt hkl hb1
        have HV := Lib.hid (show some wr.heap.size ≠ u9.ownBlock from fun e => by have := (World.ownsRow.lt HO.out.1 _ e.symm).2; omega)
        go_wp2_with (first | (at_builtin; refine Nest.many_arm ty_ch rfl (.tmp 22) (.tmp 30) rfl (wr.alloc (.cells #[.int .i64 x0, .int .i64 x1] 57)) #[.int .i64 x0, .int .i64 (x1 - fv)] rfl [(⟨x0, x1 - fv⟩ : Ch)] 1 rfl rfl W.heap.size u9 (diffs 0 (p.take k)) rfl HA.out.1 (wr.heap.size + 1) (by simp) rfl HDs.out.2.2 (by omega) HA.out.2.size ?_; intro v9 w9 ho9 hb9 hk9; have HE := Lib.hid (And.intro ho9 (HA.out.2.trans hb9)); have hx9 := hk9 _ _ _ HX.out HV.out; clear ho9 hb9 hk9) | fail)
        go_roundw
        case rel => exact ⟨k + 1, x1, by omega, by go_num, rfl, HDs.out.2.1.symm, ⟨m0, m1⟩, by rw [HDs.out.1]; exact HE.out.1, HE.out.2⟩
        case measure => simp [intOf]; omega
      · obtain rfl : n = k := by omega
        have htk : p.take n = p := List.take_of_length_le (by rw [HL.out.2.1]; exact Nat.le_refl _)
        rw [htk] at HO
        obtain ⟨b, o, rfl⟩ := lst_at HL.out.1 (by omega)
        have hpp : 0 < p.length := by rw [HL.out.2.1]; omega
        obtain ⟨q0, -⟩ := step_cells (lst_keep encS_len HL.out.1 HO.out.2.2) hpp
        obtain ⟨s, l, hsl⟩ : ∃ s l, p = s :: l := by
          cases p with
          | nil => simp at hpp
          | cons s l => exact ⟨s, l, rfl⟩
        have e0 : p[0].tick = s.tick := by simp [hsl]
        rw [e0] at q0
        obtain ⟨st, hst⟩ : ∃ st, st = s.tick := ⟨_, rfl⟩
        rw [← hst] at q0
        have q0' : wr.cell? ⟨b, o, none⟩ = some (.int .i64 st) := by simpa using q0
        have hct : chT p at' long nodes = diffs 0 p ++ [⟨at', -nodes⟩, ⟨at' + long, nodes⟩] := rfl
        have hdl : (diffs 0 p).length + 2 ≤ 100000 := by rw [diffs_len, HL.out.2.1]; omega
        have HS := Lib.hid (And.intro hsl (And.intro hst (And.intro hct hdl)))
        have HV := Lib.hid (show ∀ x, wr.cell? ⟨b, o, none⟩ = some x → some b ≠ u9.ownBlock from fun x hx e => by
          have h1 := (World.ownsRow.lt HO.out.1 _ e.symm).1
          have h2 := row_lt encS_len (by omega) HL.out.1.row (by rw [HL.out.2.1]; omega)
          omega)
        clear hpp q0 e0 hsl hst hct hdl htk
        go_wp2_with (first | (at_builtin; refine Nest.many_arm ty_ch rfl (.tmp 35) (.tmp 46) rfl wr #[.int .i64 at', .int .i64 (-nodes), .int .i64 (at' + long), .int .i64 nodes] rfl [(⟨at', -nodes⟩ : Ch), ⟨at' + long, nodes⟩] 2 rfl rfl W.heap.size u9 (diffs 0 p) rfl HO.out.1 wr.heap.size rfl rfl HS.out.2.2.2 (by omega) HO.out.2.2.size ?_; intro v9 w9 ho9 hb9 hk9; rw [← HS.out.2.2.1] at ho9; have hx9 := hk9 _ _ _ q0' (HV.out _ q0'); have HE := Lib.hid (And.intro ho9 (HO.out.2.2.trans hb9)); clear ho9 hb9 hk9) | fail)
        have HS2 := Lib.hid (steps_own _ _ st _ (chT p at' long nodes) ⟨⟨s.tick, s.free - 0⟩, by rw [HS.out.2.2.1, HS.out.1]; exact List.mem_append_left _ (List.mem_cons_self ..), by rw [HS.out.2.1]; exact Int.le_refl _⟩ HE.out.1 HE.out.2.size (by rw [HS.out.2.2.1, List.length_append, diffs_len, HL.out.2.1]; simp; omega) (fun c hc => by
          rw [HS.out.2.2.1] at hc
          rcases List.mem_append.1 hc with hc | hc
          · have := diffs_mem (K := 1099511627776) (by omega) HL.out.2.2.free c hc
            omega
          · rcases List.mem_cons.1 hc with rfl | hc
            · simp only; omega
            · rw [List.mem_singleton] at hc
              subst hc
              simp only; omega))
        go_wp2_with fail
        refine HS2.out.mono ?_
        rintro e w2 ⟨a2, c2, q, rfl, h1, h2, h3, h4, h5⟩
        have HR := Lib.hid (And.intro h1 (And.intro (isP_congr h2 fun t ht => chT_sum hl0 HL.out.2.2.norm) (And.intro (HE.out.2.trans h4) (Foot.owns_le h5 HE.out.2.size))))
        obtain ⟨m, hm⟩ : ∃ m, m = q.length := ⟨_, rfl⟩
        rw [← hm] at HR ⊢
        have HM := Lib.hid hm
        clear h1 h2 h3 h4 h5 hm HS2
        go_wp2_with fail
        go_ret
        refine ⟨a2, c2, q, by rw [← HM.out]; rfl, by rw [← HM.out]; exact HR.out.1, (fun e => ?_), (fun s' l' e => ?_), HR.out.2.2.1, by rw [← HM.out]; exact HR.out.2.2.2⟩
        · rw [HS.out.1] at e; cases e
        · rw [HS.out.1] at e
          injection e with e1 e2
          subst e1
          rw [← HS.out.2.1]
          exact HR.out.2.1
theorem take_any (W : World) (at' long nodes : Int) (a : Option Addr) (n c : Nat) (p : List St) (hat : Tk at') (hl0 : 0 ≤ long) (hal : Tk (at' + long)) (hnd : Nd nodes) (h : Steps W a n c p) (hp : Pf p) :
    Calls Try.prog 21 #[.slice a n c, .int .i64 at', .int .i64 long, .int .i64 nodes] W fun e W' => ∃ a c q, e = .returned (.slice a q.length c) ∧ Steps W' a q.length c q ∧ (p = [] → q = []) ∧ (∀ s l, p = s :: l → IsP q (takeF p at' long nodes) s.tick) ∧ Below W.heap.size W W' :=
  (take_own W at' long nodes a n c p hat hl0 hal hnd h hp).mono fun _ _ ⟨a, c, q, h1, h2, h3, h4, h5, _⟩ => ⟨a, c, q, h1, h2, h3, h4, h5⟩
end Go.Proofs.Ytckebhknnocpkaa.Prf
