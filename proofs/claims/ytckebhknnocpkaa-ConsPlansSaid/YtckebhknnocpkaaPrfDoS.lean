/- Profile, the landed: steps, out of changes. -/
import Derived.Test.YtckebhknnocpkaaPrfDoC
import Derived.Test.YtckebhknnocpkaaPrfStM
import Derived.Test.YtckebhknnocpkaaOneArm
import Derived.Test.YtckebhknnocpkaaFoot
namespace Go.Proofs.Ytckebhknnocpkaa.Prf
set_option maxRecDepth 100000
open Go.RowKit
open Go.Sort
open Kit
open Tre (Lst inI lst_keep lst_take lst_at lst_new lst_none i64_wf cells_int below_drewN')
set_option linter.unusedVariables false
variable {w w' : World}

def mixC (u : Int) (l : List Ch) (k : Nat) : List Ch := (l.take k).map (clampC u) ++ l.drop k
theorem mixC_len (u : Int) (l : List Ch) (k : Nat) (hk : k ≤ l.length) : (mixC u l k).length = l.length := by
  unfold mixC
  rw [List.length_append, List.length_map, List.length_take, List.length_drop]; omega
theorem mixC_at {u : Int} {l : List Ch} {k : Nat} {x : Ch} (h : l[k]? = some x) : (mixC u l k)[k]? = some x := by
  obtain ⟨hk, e⟩ := List.getElem?_eq_some_iff.1 h
  unfold mixC
  have hl : ((l.take k).map (clampC u)).length = k := by rw [List.length_map, List.length_take]; omega
  rw [List.getElem?_append_right (by omega), hl, Nat.sub_self, List.getElem?_drop, Nat.add_zero, h]
theorem mixC_set {u : Int} {l : List Ch} {k : Nat} {x : Ch} (h : l[k]? = some x) : (mixC u l k).set k (clampC u x) = mixC u l (k + 1) := by
  obtain ⟨hk, e⟩ := List.getElem?_eq_some_iff.1 h
  unfold mixC
  have hl : ((l.take k).map (clampC u)).length = k := by rw [List.length_map, List.length_take]; omega
  rw [List.set_append, if_neg (by omega), hl, Nat.sub_self, List.drop_eq_getElem_cons hk, List.set_cons_zero, List.take_succ_eq_append_getElem hk, e, List.map_append]
  simp
theorem mixC_end (u : Int) (l : List Ch) : mixC u l l.length = l.map (clampC u) := by unfold mixC; simp
theorem ty_step : Nest.Ty encS 2 Try.prog 47 57 (.agg #[.int .i64 0, .int .i64 0]) 16 := ⟨encS_len, by omega, encS_one, Try.underlying47, info_step, rfl⟩
theorem allC_take {l : List Ch} {k : Nat} {x : Ch} (h : l[k]? = some x) : allC (l.take (k + 1)) = allC (l.take k) + x.more := by
  obtain ⟨hk, e⟩ := List.getElem?_eq_some_iff.1 h
  rw [List.take_succ_eq_append_getElem hk, e, allC_append]
  simp [allC]
theorem all_bound {l : List Ch} (h : ∀ c ∈ l, -4398046511104 ≤ c.more ∧ c.more ≤ 4398046511104) (hl : l.length ≤ 2000) (k : Nat) : -8796093022208000 ≤ allC (l.take k) ∧ allC (l.take k) ≤ 8796093022208000 := by
  obtain ⟨h1, h2⟩ := allC_bound (K := 4398046511104) (by omega) (l.take k) fun c hc => h c (List.mem_of_mem_take hc)
  have h3 : (l.take k).length ≤ 2000 := by rw [List.length_take]; omega
  have h4 : ((l.take k).length : Int) * 4398046511104 ≤ 2000 * 4398046511104 := Int.mul_le_mul_of_nonneg_right (by omega) (by omega)
  omega
theorem stp_len {C : List Ch} {k : Nat} {p : List St} (h : Stp C k p) : p.length ≤ k := by
  induction h with
  | zero => exact Nat.le_refl _
  | same _ _ _ ih => omega
  | next _ _ _ ih =>
    unfold mk1
    split
    · omega
    · simp only [List.length_append, List.length_singleton]; omega

set_option maxHeartbeats 32000000 in
theorem steps_own (W : World) (base : Nat) (u : Int) (v : Value) (C : List Ch) (hex : ∃ c ∈ C, c.tick ≤ u) (hown : OwC W base v C) (hbase : base ≤ W.heap.size) (hlen : C.length ≤ 2000) (hM : ∀ c ∈ C, -4398046511104 ≤ c.more ∧ c.more ≤ 4398046511104) :
    Calls Try.prog 23 #[.int .i64 u, v] W fun e W' => ∃ a c p, e = .returned (.slice a p.length c) ∧ Steps W' a p.length c p ∧ IsP p (sumC C) u ∧ p.length ≤ C.length ∧ Below base W W' ∧ OwS W' W.heap.size (.slice a p.length c) p := by
  have hpos : 0 < C.length := by
    obtain ⟨c, hc, _⟩ := hex
    exact List.length_pos_of_mem hc
  obtain ⟨g, cap, rfl, hg, hcl, hcm⟩ := owns_at encCh_len hown hpos
  obtain ⟨n, hn⟩ : ∃ n, n = C.length := ⟨_, rfl⟩
  rw [← hn] at hown hpos hlen ⊢
  have HW := Lib.hid (And.intro hex (And.intro hown (And.intro hbase (And.intro hM (And.intro hg hn)))))
  clear hex hown hbase hM hg hcl hcm hn
  go_enter Try.func23, Try.ntmps23
  go_wp2_with fail
  go_loopw [5, 12] (fun _ i wr => ∃ k : Nat, k ≤ n ∧ i = .int .i64 (k : Nat) ∧ OwC wr base (.slice (some ⟨g, 0, none⟩) n cap) (mixC u C k) ∧ Below base W wr) (fun _ i _ => n - (intOf i).toNat)
  case atStart => exact ⟨0, Nat.zero_le _, rfl, by simpa [mixC] using HW.out.2.1, Below.refl _ _⟩
  case round =>
    obtain ⟨k, hk, rfl, ho, hb⟩ := hrel
    have HO := Lib.hid (And.intro ho hb)
    clear ho hb
    by_cases hlt : k < n
    · have hkl : k < C.length := by rw [← HW.out.2.2.2.2.2]; exact hlt
      have hml : (mixC u C k).length = n := by rw [mixC_len _ _ _ (by omega), HW.out.2.2.2.2.2]
      obtain ⟨x, hx⟩ : ∃ x, C[k]? = some x := ⟨_, List.getElem?_eq_getElem hkl⟩
      have hms := mixC_set (u := u) hx
      obtain ⟨x0, x1⟩ := x
      obtain ⟨m, hm⟩ : ∃ m, m = max x0 u := ⟨_, rfl⟩
      obtain ⟨s1, s2, s3⟩ := owns_put encCh_len HO.out.1 hml (mixC_at hx) (i := 0) (by omega) (fun a => ⟨m, a.more⟩) (.int .i64 m) (fun a => rfl)
      have e : clampC u ⟨x0, x1⟩ = ⟨m, x1⟩ := by
        unfold clampC
        simp only [hm, Ch.mk.injEq, and_true]
        split <;> omega
      rw [e] at hms
      simp only at s3
      rw [hms] at s3
      have s1' : wr.cell? ⟨g, k * 2, none⟩ = some (.int .i64 x0) := s1
      have s2' : wr.frozen? ⟨g, k * 2, none⟩ = false := s2
      have HN := Lib.hid (And.intro s3 (HO.out.2.setCell (p := ⟨g, k * 2, none⟩) HW.out.2.2.2.2.1 (.int .i64 m)))
      rw [hm] at HN
      clear s1 s2 s3 hms e hml hx hkl hm
      go_wp2_with fail
      go_roundw
      case rel => exact ⟨k + 1, by omega, by go_num, HN.out.1, HN.out.2⟩
      case measure => simp [intOf]; omega
    · obtain rfl : k = n := by omega
      have hend : mixC u C k = C.map (clampC u) := by rw [HW.out.2.2.2.2.2]; exact mixC_end u C
      rw [hend] at HO
      have HS := Lib.hid (sorted_any HO.out.1 (by rw [List.length_map, ← HW.out.2.2.2.2.2]; exact hpos) (by rw [List.length_map, ← HW.out.2.2.2.2.2]; omega))
      clear hend
      go_wp2_with fail
      refine HS.out.mono ?_
      rintro e w2 ⟨rfl, D, hD1, hD2, hD3, hD4⟩
      have hDl : D.length = k := by rw [hD1.length_eq, List.length_map, HW.out.2.2.2.2.2]
      have hB2 : Below base W w2 := HO.out.2.trans (Two.below_grown HO.out.1 hD4 (Nat.le_trans HW.out.2.2.1 HO.out.2.size))
      have hDm : ∀ c ∈ D, -4398046511104 ≤ c.more ∧ c.more ≤ 4398046511104 := fun c hc => by
        obtain ⟨x, hx, rfl⟩ := List.mem_map.1 (hD1.mem_iff.1 hc)
        exact HW.out.2.2.2.1 x hx
      have hrow : Chs w2 (some ⟨g, 0, none⟩) k cap D := by
        obtain ⟨a, c, hv, h1⟩ := own_chs hD3
        rw [hDl] at hv h1
        injection hv with e1 e2 e3
        subst e1 e3
        exact h1
      have H2 := Lib.hid (And.intro hrow (And.intro hDl (And.intro hDm (And.intro hD1 (And.intro hD2 hB2)))))
      clear hrow hDl hDm hD1 hD2 hB2 hD3 hD4 HS HO
      go_wp2_with fail
      go_loopw [6, 7, 31] (fun v f i wr => ∃ (q : Nat) (p : List St), q ≤ k ∧ i = .int .i64 (q : Nat) ∧ OwS wr w2.heap.size v p ∧ Stp D q p ∧ f = .int .i64 (allC (D.take q)) ∧ Below w2.heap.size w2 wr) (fun _ _ i _ => k - (intOf i).toNat)
      case atStart => exact ⟨0, [], Nat.zero_le _, rfl, owns_nil _ _ _, Stp.zero, rfl, Below.refl _ _⟩
      case round =>
        obtain ⟨q, p, hq, rfl, ho, hst, rfl, hb⟩ := hrel
        have hbd := all_bound H2.out.2.2.1 (by rw [H2.out.2.1]; exact hlen) q
        obtain ⟨f0, hf0⟩ : ∃ f, f = allC (D.take q) := ⟨_, rfl⟩
        rw [← hf0] at hbd ⊢
        have HO := Lib.hid (And.intro ho (And.intro hst (And.intro hf0 hb)))
        clear ho hst hb hf0
        by_cases hlq : q < k
        · have hql : q < D.length := by rw [H2.out.2.1]; exact hlq
          have hkp := lst_keep encCh_len H2.out.1 HO.out.2.2.2
          obtain ⟨q0, q1⟩ := ch_cells hkp hql
          have hget := List.getElem?_eq_getElem hql
          have hmc := H2.out.2.2.1 D[q] (List.getElem_mem hql)
          generalize D[q] = x at *
          obtain ⟨x0, x1⟩ := x
          simp only at q0 q1 hmc
          rw [Nat.zero_add] at q0 q1
          have hal := allC_take hget
          rw [← HO.out.2.2.1] at hal
          simp only at hal
          have HG := Lib.hid (And.intro hget hal)
          clear hget hal hql
          have HB1 := Lib.hid (below_alloc wr (.cells #[.int .i64 x0, .int .i64 x1] 53))
          have hpl := stp_len HO.out.2.1
          obtain ⟨ao, co, rfl, hcl, hcm, hcn, hcr⟩ := owns_row encS_len HO.out.1
          have HOr := Lib.hid (show Steps wr ao p.length co p from ⟨rfl, hcl, hcm, (fun e => ⟨by have := hcn e; omega, hcn e⟩), hcr⟩)
          have HLn := Lib.hid (show p.length + 1 ≤ 100000 by omega)
          obtain ⟨m, hm⟩ : ∃ m, m = p.length := ⟨_, rfl⟩
          rw [← hm] at HOr HO ⊢
          have hm1 : m ≤ 2000 := by omega
          have HM := Lib.hid hm
          clear hcl hcm hcn hcr hm hpl
          by_cases hk1 : q + 1 < k
          · have hql1 : q + 1 < D.length := by rw [H2.out.2.1]; exact hk1
            obtain ⟨r0, r1⟩ := ch_cells (lst_keep encCh_len hkp HB1.out) hql1
            have hget1 := List.getElem?_eq_getElem hql1
            generalize D[q + 1] = y at *
            obtain ⟨y0, y1⟩ := y
            simp only at r0 r1
            rw [Nat.zero_add] at r0 r1
            have hk1t : decide ((q : Int) + 1 < (k : Int)) = true := decide_eq_true (by omega)
            have HG1 := Lib.hid hget1
            clear hget1 hql1 hkp
            by_cases hxy : y0 = x0
            · have hxb : (y0 == x0) = true := beq_iff_eq.2 hxy
              go_wp2_with fail
              go_quiet (fail)
              go_wp2_with fail
              go_roundw
              case rel => exact ⟨q + 1, p, by omega, by go_num, own_keepS (own_keepS HO.out.1 HB1.out) (below_drewN' _ _), Stp.same HO.out.2.1 HG.out.1 ⟨_, HG1.out, hxy⟩, by rw [HG.out.2], below_keep (below_keep HO.out.2.2.2 HB1.out) (below_drewN' _ _)⟩
              case measure => simp [intOf]; omega
            · have hxb : (y0 == x0) = false := beq_false_of_ne hxy
              have HNs := Lib.hid (show ¬ sameN D (q + 1) x0 by
                rintro ⟨d, hd, hde⟩
                rw [HG1.out] at hd
                injection hd with hd
                subst hd
                exact hxy hde)
              go_wp2_with fail
              go_quiet (fail)
              generalize hw9 : World.drewN _ _ = wq
              have HQ := Lib.hid (show OwS wq w2.heap.size (.slice ao m co) p ∧ Below w2.heap.size w2 wq ∧ Steps wq ao m co p by
                rw [← hw9]
                exact ⟨own_keepS (own_keepS HO.out.1 HB1.out) (below_drewN' _ _), below_keep (below_keep HO.out.2.2.2 HB1.out) (below_drewN' _ _), lst_keep encS_len (lst_keep encS_len HOr.out HB1.out) (below_drewN' _ _)⟩)
              have hb0 : wq.cell? ⟨wr.heap.size, 0, none⟩ = some (.int .i64 x0) := by rw [← hw9]; show (wr.alloc _).cell? _ = _; rw [World.cell?_alloc_new]; rfl
              clear hw9
              have HB2 := Lib.hid (below_alloc wq (.cells #[.int .i64 x0, .int .i64 (f0 + x1)] 57))
              by_cases hm0 : m = 0
              · have HMk := Lib.hid (show mk1 p x0 (f0 + x1) = p ++ [⟨x0, f0 + x1⟩] by
                  unfold mk1
                  rw [if_neg]
                  have e : p = [] := List.length_eq_zero_iff.1 (by rw [← HM.out]; exact hm0)
                  rw [e]
                  intro h; cases h)
                have hmz : (m : Int) = 0 := by omega
                go_wp2_with (first | (at_builtin; refine Nest.one_arm ty_step rfl (.tmp 70) (.tmp 75) rfl wq #[.int .i64 x0, .int .i64 (f0 + x1)] rfl (⟨x0, f0 + x1⟩ : St) rfl w2.heap.size (.slice ao m co) p rfl HQ.out.1 rfl HLn.out (by omega) HQ.out.2.1.size ?_; intro v9 w9 ho9 hb9; have HE := Lib.hid (And.intro ho9 (HQ.out.2.1.trans hb9)); clear ho9 hb9) | fail)
                go_roundw
                case rel => exact ⟨q + 1, p ++ [⟨x0, f0 + x1⟩], by omega, by go_num, HE.out.1, by have h := Stp.next HO.out.2.1 HG.out.1 HNs.out; rw [HG.out.2, HMk.out] at h; exact h, by rw [HG.out.2], HE.out.2⟩
                case measure => simp [intOf]; omega
              · have hmz : ¬ (m : Int) = 0 := by omega
                obtain ⟨m1, rfl⟩ : ∃ m1, m = m1 + 1 := ⟨m - 1, by omega⟩
                have hmz' : ((m1 : Int) + 1 == 0) = false := beq_false_of_ne (by omega)
                obtain ⟨bo, oo, rfl⟩ := lst_at HQ.out.2.2 (by omega)
                have hml : m1 < p.length := by have := HM.out; omega
                have r9 := (step_cells HQ.out.2.2 hml).2
                have hlast : lastF p = some p[m1].free := by
                  unfold lastF
                  rw [List.getLast?_eq_getElem?, ← HM.out, Nat.add_sub_cancel, List.getElem?_eq_getElem hml]; rfl
                generalize p[m1] = s at *
                obtain ⟨s0, s1⟩ := s
                simp only at r9 hlast
                clear hml hm0
                by_cases hsy : s1 = f0 + x1
                · have HMk := Lib.hid (show mk1 p x0 (f0 + x1) = p by unfold mk1; rw [if_pos (by rw [hlast, hsy])])
                  have hnb : (s1 != f0 + x1) = false := by rw [hsy]; simp
                  clear hlast
                  go_wp2_with fail
                  go_roundw
                  case rel => exact ⟨q + 1, p, by omega, by go_num, HQ.out.1, by have h := Stp.next HO.out.2.1 HG.out.1 HNs.out; rw [HG.out.2, HMk.out] at h; exact h, by rw [HG.out.2], HQ.out.2.1⟩
                  case measure => simp [intOf]; omega
                · have HMk := Lib.hid (show mk1 p x0 (f0 + x1) = p ++ [⟨x0, f0 + x1⟩] by unfold mk1; rw [if_neg (by rw [hlast]; intro e; injection e with e; exact hsy e)])
                  have hnb : (s1 != f0 + x1) = true := by simpa using hsy
                  clear hlast
                  go_wp2_with (first | (at_builtin; refine Nest.one_arm ty_step rfl (.tmp 70) (.tmp 75) rfl wq #[.int .i64 x0, .int .i64 (f0 + x1)] rfl (⟨x0, f0 + x1⟩ : St) rfl w2.heap.size (.slice (some ⟨bo, oo, none⟩) (m1 + 1) co) p rfl HQ.out.1 rfl HLn.out (by omega) HQ.out.2.1.size ?_; intro v9 w9 ho9 hb9; have HE := Lib.hid (And.intro ho9 (HQ.out.2.1.trans hb9)); clear ho9 hb9) | fail)
                  go_roundw
                  case rel => exact ⟨q + 1, p ++ [⟨x0, f0 + x1⟩], by omega, by go_num, HE.out.1, by have h := Stp.next HO.out.2.1 HG.out.1 HNs.out; rw [HG.out.2, HMk.out] at h; exact h, by rw [HG.out.2], HE.out.2⟩
                  case measure => simp [intOf]; omega
          · have hk1t : decide ((q : Int) + 1 < (k : Int)) = false := decide_eq_false (by omega)
            have HNs := Lib.hid (show ¬ sameN D (q + 1) x0 by
              rintro ⟨d, hd, hde⟩
              rw [List.getElem?_eq_none (by rw [H2.out.2.1]; omega)] at hd
              cases hd)
            clear hkp
            go_wp2_with fail
            go_quiet (fail)
            generalize hw9 : World.drewN _ _ = wq
            have HQ := Lib.hid (show OwS wq w2.heap.size (.slice ao m co) p ∧ Below w2.heap.size w2 wq ∧ Steps wq ao m co p by
              rw [← hw9]
              exact ⟨own_keepS (own_keepS HO.out.1 HB1.out) (below_drewN' _ _), below_keep (below_keep HO.out.2.2.2 HB1.out) (below_drewN' _ _), lst_keep encS_len (lst_keep encS_len HOr.out HB1.out) (below_drewN' _ _)⟩)
            have hb0 : wq.cell? ⟨wr.heap.size, 0, none⟩ = some (.int .i64 x0) := by rw [← hw9]; show (wr.alloc _).cell? _ = _; rw [World.cell?_alloc_new]; rfl
            clear hw9
            have HB2 := Lib.hid (below_alloc wq (.cells #[.int .i64 x0, .int .i64 (f0 + x1)] 57))
            by_cases hm0 : m = 0
            · have HMk := Lib.hid (show mk1 p x0 (f0 + x1) = p ++ [⟨x0, f0 + x1⟩] by
                unfold mk1
                rw [if_neg]
                have e : p = [] := List.length_eq_zero_iff.1 (by rw [← HM.out]; exact hm0)
                rw [e]
                intro h; cases h)
              have hmz : (m : Int) = 0 := by omega
              go_wp2_with (first | (at_builtin; refine Nest.one_arm ty_step rfl (.tmp 70) (.tmp 75) rfl wq #[.int .i64 x0, .int .i64 (f0 + x1)] rfl (⟨x0, f0 + x1⟩ : St) rfl w2.heap.size (.slice ao m co) p rfl HQ.out.1 rfl HLn.out (by omega) HQ.out.2.1.size ?_; intro v9 w9 ho9 hb9; have HE := Lib.hid (And.intro ho9 (HQ.out.2.1.trans hb9)); clear ho9 hb9) | fail)
              go_roundw
              case rel => exact ⟨q + 1, p ++ [⟨x0, f0 + x1⟩], by omega, by go_num, HE.out.1, by have h := Stp.next HO.out.2.1 HG.out.1 HNs.out; rw [HG.out.2, HMk.out] at h; exact h, by rw [HG.out.2], HE.out.2⟩
              case measure => simp [intOf]; omega
            · have hmz : ¬ (m : Int) = 0 := by omega
              obtain ⟨m1, rfl⟩ : ∃ m1, m = m1 + 1 := ⟨m - 1, by omega⟩
              have hmz' : ((m1 : Int) + 1 == 0) = false := beq_false_of_ne (by omega)
              obtain ⟨bo, oo, rfl⟩ := lst_at HQ.out.2.2 (by omega)
              have hml : m1 < p.length := by have := HM.out; omega
              have r9 := (step_cells HQ.out.2.2 hml).2
              have hlast : lastF p = some p[m1].free := by
                unfold lastF
                rw [List.getLast?_eq_getElem?, ← HM.out, Nat.add_sub_cancel, List.getElem?_eq_getElem hml]; rfl
              generalize p[m1] = s at *
              obtain ⟨s0, s1⟩ := s
              simp only at r9 hlast
              clear hml hm0
              by_cases hsy : s1 = f0 + x1
              · have HMk := Lib.hid (show mk1 p x0 (f0 + x1) = p by unfold mk1; rw [if_pos (by rw [hlast, hsy])])
                have hnb : (s1 != f0 + x1) = false := by rw [hsy]; simp
                clear hlast
                go_wp2_with fail
                go_roundw
                case rel => exact ⟨q + 1, p, by omega, by go_num, HQ.out.1, by have h := Stp.next HO.out.2.1 HG.out.1 HNs.out; rw [HG.out.2, HMk.out] at h; exact h, by rw [HG.out.2], HQ.out.2.1⟩
                case measure => simp [intOf]; omega
              · have HMk := Lib.hid (show mk1 p x0 (f0 + x1) = p ++ [⟨x0, f0 + x1⟩] by unfold mk1; rw [if_neg (by rw [hlast]; intro e; injection e with e; exact hsy e)])
                have hnb : (s1 != f0 + x1) = true := by simpa using hsy
                clear hlast
                go_wp2_with (first | (at_builtin; refine Nest.one_arm ty_step rfl (.tmp 70) (.tmp 75) rfl wq #[.int .i64 x0, .int .i64 (f0 + x1)] rfl (⟨x0, f0 + x1⟩ : St) rfl w2.heap.size (.slice (some ⟨bo, oo, none⟩) (m1 + 1) co) p rfl HQ.out.1 rfl HLn.out (by omega) HQ.out.2.1.size ?_; intro v9 w9 ho9 hb9; have HE := Lib.hid (And.intro ho9 (HQ.out.2.1.trans hb9)); clear ho9 hb9) | fail)
                go_roundw
                case rel => exact ⟨q + 1, p ++ [⟨x0, f0 + x1⟩], by omega, by go_num, HE.out.1, by have h := Stp.next HO.out.2.1 HG.out.1 HNs.out; rw [HG.out.2, HMk.out] at h; exact h, by rw [HG.out.2], HE.out.2⟩
                case measure => simp [intOf]; omega
        · obtain rfl : q = k := by omega
          obtain ⟨ao, co, rfl, hps⟩ := own_steps HO.out.1
          have hP := stp_isP H2.out.2.2.2.2.1 H2.out.2.2.2.1 HW.out.1 (by rw [H2.out.2.1]; exact HO.out.2.1)
          have HR := Lib.hid (And.intro hps (And.intro hP (And.intro (H2.out.2.2.2.2.2.trans (HO.out.2.2.2.mono (Nat.le_trans HW.out.2.2.1 H2.out.2.2.2.2.2.size))) (Foot.owns_le HO.out.1 H2.out.2.2.2.2.2.size))))
          obtain ⟨m, hm⟩ : ∃ m, m = p.length := ⟨_, rfl⟩
          rw [← hm] at HR ⊢
          have HM := Lib.hid hm
          clear hps hP hm
          go_wp2_with fail
          go_ret
          exact ⟨ao, co, p, by rw [← HM.out]; rfl, by rw [← HM.out]; exact HR.out.1, HR.out.2.1.1, by rw [HW.out.2.2.2.2.2, ← HM.out]; exact HR.out.2.1.2, HR.out.2.2.1, by rw [← HM.out]; exact HR.out.2.2.2⟩
theorem steps_any (W : World) (base : Nat) (u : Int) (v : Value) (C : List Ch) (hex : ∃ c ∈ C, c.tick ≤ u) (hown : OwC W base v C) (hbase : base ≤ W.heap.size) (hlen : C.length ≤ 2000) (hM : ∀ c ∈ C, -4398046511104 ≤ c.more ∧ c.more ≤ 4398046511104) :
    Calls Try.prog 23 #[.int .i64 u, v] W fun e W' => ∃ a c p, e = .returned (.slice a p.length c) ∧ Steps W' a p.length c p ∧ IsP p (sumC C) u ∧ p.length ≤ C.length ∧ Below base W W' :=
  (steps_own W base u v C hex hown hbase hlen hM).mono fun _ _ ⟨a, c, p, h1, h2, h3, h4, h5, _⟩ => ⟨a, c, p, h1, h2, h3, h4, h5⟩
end Go.Proofs.Ytckebhknnocpkaa.Prf
