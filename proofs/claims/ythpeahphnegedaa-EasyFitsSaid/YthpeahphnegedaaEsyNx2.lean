/- Easy: the document's Next, as it runs. -/
import Derived.Test.YthpeahphnegedaaEsyNxt
namespace Go.Proofs.Ythpeahphnegedaa.Esy
set_option maxRecDepth 100000
open Go.RowKit
open Go.Sort
open Kit
open Tre (Lst inI lst_keep lst_take lst_at lst_new lst_none below_drewN' run_ld2)
open Prf (Bz newF Nd Tk Busys encZ encZ_len)
open Go.Proofs.Ythpeahphnegedaa.Ord (Aq Asks encQ encQ_len ask_cells info_ask)
set_option linter.unusedVariables false
variable {w w' : World}

def hdI (h : Option (Nat × Int)) : Int := match h with | none => -1 | some (j, _) => (j : Nat)
def hdN (h : Option (Nat × Int)) : Option Int := h.map (·.2)
set_option maxHeartbeats 16000000 in
theorem rnext_any (W : World) (now total : Int) (ab : Option Addr) (n cb : Nat) (l : List Bz) (a2 : Option Addr) (n2 c2 : Nat) (q : List Aq) (a3 : Option Addr) (n3 c3 : Nat) (rf : List Bool)
    (hnow : T9 now) (ht : Nd total) (hB : Busys W ab n cb l) (hm : ∀ b ∈ l, okB b) (hn : n ≤ 100) (hQ : Asks W a2 n2 c2 q) (hqm : ∀ x ∈ q, okQ x) (hn2 : n2 ≤ 100) (hO : Bools W a3 n3 c3 rf) :
    Calls Try.prog 10 #[.int .i64 now, .int .i64 total, .slice ab n cb, .slice a2 n2 c2, .slice a3 n3 c3] W fun e W' => e = .returned (.tuple #[.int .i64 (nextI now total l q rf), .bool (nextB now total l q rf)]) ∧ Below W.heap.size W W' := by
  have HQL := Lib.hid (And.intro hQ (And.intro hQ.len hqm))
  have HFr := Lib.hid (fun t w (hb : Below W.heap.size W w) => rfree_any w total ab n cb l t ht (lst_keep encZ_len hB hb) hm hn)
  have HCo := Lib.hid (fun (k : Nat) (x : Aq) w (hb : Below W.heap.size W w) (hk : k < n2) (hx : q[k]? = some x) => rcounts_any w total a2 n2 c2 q a3 n3 c3 rf k x (lst_keep encQ_len hQ hb) (lst_keep encO_len hO hb) hk hx)
  have HSh := Lib.hid (fun g w (hb : Below W.heap.size W w) (hg : Nd g) => rshadow_any w now total ab n cb l g hnow ht (lst_keep encZ_len hB hb) hm hn hg)
  obtain ⟨hnow0, hnow1⟩ := hnow
  clear hB hm ht hQ hqm hO
  have HNx := Lib.hid (show next now total l q rf = next now total l q rf from rfl)
  go_enter Try.func10, Try.ntmps10
  go_wp2_with fail
  go_loopw [12, 13] (fun hv iv wr => ∃ (k : Nat) (hd : Option (Nat × Int)), k ≤ n2 ∧ iv = .int .i64 (k : Nat) ∧ hv = .int .i64 (hdI hd) ∧ (∀ j g, hd = some (j, g) → j < k ∧ ∃ y, q[j]? = some y ∧ y.nodes = g) ∧ NX now total l q rf (hdN hd) k = next now total l q rf ∧ Below W.heap.size W wr) (fun _ i _ => n2 - (intOf i).toNat)
  case atStart => exact ⟨0, none, Nat.zero_le _, rfl, rfl, (fun j g h => by cases h), nx_next, Below.refl _ _⟩
  case round =>
    obtain ⟨k, hd, hk, rfl, rfl, hhd, hnx, hb⟩ := hrel
    have HB := Lib.hid hb
    have HH := Lib.hid hhd
    have HX := Lib.hid hnx
    clear hb hhd hnx
    by_cases hlt : k < n2
    · have hlti : (k : Int) < (n2 : Int) := by omega
      have hkq : k < q.length := by rw [HQL.out.2.1]; exact hlt
      obtain ⟨x, hx⟩ : ∃ x, q[k]? = some x := ⟨_, List.getElem?_eq_getElem hkq⟩
      have hxe := (List.getElem?_eq_some_iff.1 hx).2
      have hok := HQL.out.2.2 x (List.mem_of_getElem? hx)
      have HKx := Lib.hid hx
      obtain ⟨cv, hcv⟩ : ∃ cv, cv = countsB total rf k x := ⟨_, rfl⟩
      have HC1 := Lib.hid (HCo.out k x wr HB.out hlt hx)
      rw [← hcv] at HC1
      have Hcv := Lib.hid hcv
      obtain ⟨b2, o2, rfl⟩ := lst_at HQL.out.1 (by omega)
      obtain ⟨xn, hxn⟩ : ∃ xn, xn = x.nodes := ⟨_, rfl⟩
      obtain ⟨xw, hxw⟩ : ∃ xw, xw = x.wall := ⟨_, rfl⟩
      obtain ⟨⟨x0, x1⟩, x2, x3⟩ := hok
      rw [← hxn] at x0 x1
      rw [← hxw] at x2 x3
      have HXn := Lib.hid (And.intro hxn hxw)
      have HCl := Lib.hid (fun w (hb : Below W.heap.size W w) => show w.cell? ⟨b2, o2 + k * 2, none⟩ = some (.int .i64 xn) ∧ w.cell? ⟨b2, o2 + k * 2 + 1, none⟩ = some (.int .i64 xw) by
        have := ask_cells (lst_keep encQ_len HQL.out.1 hb) hkq
        rw [hxe, ← hxn, ← hxw] at this
        exact this)
      clear hcv hxe hx hxn hxw
      go_wp2_with fail
      refine HC1.out.mono ?_
      rintro e wc ⟨rfl, hbc⟩
      have HBc := Lib.hid (below_keep HB.out hbc)
      clear hbc HC1
      cases cv
      · have HN := Lib.hid ((nx_skip (h := hdN hd) HKx.out Hcv.out.symm).symm.trans HX.out)
        go_wp2_with fail
        go_roundw
        case rel => exact ⟨k + 1, hd, by omega, by go_num, rfl, (fun j g h => ⟨Nat.lt_succ_of_lt (HH.out j g h).1, (HH.out j g h).2⟩), HN.out, HBc.out⟩
        case measure => first | (simp [intOf]; done) | (simp [intOf]; omega)
      · obtain ⟨fv, hfv⟩ : ∃ fv, fv = newF total l now := ⟨_, rfl⟩
        have HFv := Lib.hid hfv
        have HQ := Lib.hid (HCl.out wc HBc.out)
        clear hfv
        rcases hd with _ | ⟨j, g⟩
        · dsimp only [hdI]
          go_wp2_with fail
          refine Rel.wp_region_rel (G := Rel.Gr) (Rel.tab [.is (.slice (some ⟨b2, o2, none⟩) n2 c2), .is (.int .i64 (k : Nat)), .is (.pointer (some ⟨b2, o2 + k * 2, none⟩)), .is (.pointer (some ⟨b2, o2 + k * 2, none⟩)), .is (.int .i64 xn), .is (.int .i64 total), .is (.slice ab n cb), .is (.int .i64 now), .is (.int .i64 fv), .is (.bool (decide (fv < xn)))]) (fun _ w => Below wc.heap.size wc w) (by kernel_rfl) (by kernel_rfl) (by kernel_rfl) (by kernel_rfl) (fun w => Rel.gr_refl _) (below_drew _) ?_ ?_
          · refine ⟨?_, ?_, ?_, ?_, ?_, ?_, ?_, ?_, ?_, ?_, trivial⟩
            · intro L a w c
              refine .inl ⟨Rel.wanted_free (by kernel_rfl) _, ?_⟩
              exact Rel.wp_mv _ rfl ⟨_, rfl, Rel.gr_refl _, (c.old 3 (v := .slice (some ⟨b2, o2, none⟩) n2 c2) (by kernel_rfl) (by kernel_rfl)), c.inv⟩
            · intro L a w c
              refine .inl ⟨Rel.wanted_free (by kernel_rfl) _, ?_⟩
              exact Rel.wp_mv _ rfl ⟨_, rfl, Rel.gr_refl _, (c.old 13 (v := .int .i64 (k : Nat)) (by kernel_rfl) (by kernel_rfl)), c.inv⟩
            · intro L a w c
              refine .inl ⟨Rel.wanted_free (by kernel_rfl) _, ?_⟩
              exact Rel.wp_ia _ _ _ rfl (c.get 0 32 (by kernel_rfl)) (c.get 1 33 (by kernel_rfl)) (run_iq hlt w) ⟨_, rfl, Rel.gr_refl _, rfl, c.inv⟩
            · intro L a w c
              refine .inl ⟨Rel.wanted_free (by kernel_rfl) _, ?_⟩
              exact Chn.wp_fa _ _ _ rfl (c.get 2 34 (by kernel_rfl)) (by simp [go_sem]) ⟨_, rfl, Rel.gr_refl _, rfl, c.inv⟩
            · intro L a w c
              refine .inl ⟨Rel.wanted_free (by kernel_rfl) _, ?_⟩
              exact Rel.wp_ld _ _ rfl (c.get 3 35 (by kernel_rfl)) (run_ld2 (cell_keep c.inv HQ.out.1)) ⟨_, rfl, Rel.gr_refl _, rfl, c.inv⟩
            · intro L a w c
              refine .inl ⟨Rel.wanted_free (by kernel_rfl) _, ?_⟩
              exact Rel.wp_mv _ rfl ⟨_, rfl, Rel.gr_refl _, (c.old 1 (v := .int .i64 total) (by kernel_rfl) (by kernel_rfl)), c.inv⟩
            · intro L a w c
              refine .inl ⟨Rel.wanted_free (by kernel_rfl) _, ?_⟩
              exact Rel.wp_mv _ rfl ⟨_, rfl, Rel.gr_refl _, (c.old 2 (v := .slice ab n cb) (by kernel_rfl) (by kernel_rfl)), c.inv⟩
            · intro L a w c
              refine .inl ⟨Rel.wanted_free (by kernel_rfl) _, ?_⟩
              exact Rel.wp_mv _ rfl ⟨_, rfl, Rel.gr_refl _, (c.old 0 (v := .int .i64 now) (by kernel_rfl) (by kernel_rfl)), c.inv⟩
            · intro L a w c
              refine .inl ⟨Rel.wanted_free (by kernel_rfl) _, ?_⟩
              refine Rel.wp_cl _ _ _ rfl Try.func19 (by kernel_rfl) ?_
              show Calls _ _ #[Rel.slot a 37, Rel.slot a 38, Rel.slot a 39] w _
              rw [show Rel.slot a 37 = .int .i64 total from (c.get 5 37 (by kernel_rfl)), show Rel.slot a 38 = .slice ab n cb from (c.get 6 38 (by kernel_rfl)), show Rel.slot a 39 = .int .i64 now from (c.get 7 39 (by kernel_rfl))]
              refine (HFr.out now w (below_keep HBc.out c.inv)).mono ?_
              rintro e w' ⟨rfl, hb⟩
              exact ⟨_, rfl, _, rfl, hb, by rw [HFv.out]; rfl, below_keep c.inv hb⟩
            · intro L a w c
              refine .inl ⟨Rel.wanted_free (by kernel_rfl) _, ?_⟩
              exact Rel.wp_bo _ _ _ _ _ rfl (u := .bool (decide (fv < xn))) (c.get 4 36 (by kernel_rfl)) (c.get 8 40 (by kernel_rfl)) (by simp [go_sem]) ⟨_, rfl, Rel.gr_refl _, rfl, c.inv⟩
          intro a wd hbase hroom hdef hJ hV
          have s41 : Rel.slot a 41 = .bool (decide (fv < xn)) := hV 9 _ _ rfl rfl
          rw [Chn.act_puts [32, 33, 34, 35, 36, 37, 38, 39, 40, 41] hbase hroom hdef (by kernel_rfl)]
          clear hbase hroom hdef hV
          simp only [List.foldl_cons, List.foldl_nil]
          generalize Rel.slot a 32 = u32 at *
          generalize Rel.slot a 33 = u33 at *
          generalize Rel.slot a 34 = u34 at *
          generalize Rel.slot a 35 = u35 at *
          generalize Rel.slot a 36 = u36 at *
          generalize Rel.slot a 37 = u37 at *
          generalize Rel.slot a 38 = u38 at *
          generalize Rel.slot a 39 = u39 at *
          generalize Rel.slot a 40 = u40 at *
          rw [s41]
          clear s41
          simp only [Act.put, List.setIfInBounds_toArray, List.set_cons_succ, List.set_cons_zero]
          have HBd := Lib.hid (below_keep HBc.out hJ)
          clear hJ
          by_cases hs : fv < xn
          · have hsd : decide (fv < xn) = true := decide_eq_true hs
            have HN := Lib.hid ((nx_short (h := none) HKx.out Hcv.out.symm (by rw [← HFv.out, ← HXn.out.1]; exact hs)).symm.trans HX.out)
            go_wp2_with fail
            go_roundw
            case rel => exact ⟨k + 1, some (k, xn), by omega, by go_num, rfl, (fun j g h => by injection h with h; injection h with h1 h2; subst h1 h2; exact ⟨Nat.lt_succ_self _, x, HKx.out, HXn.out.1.symm⟩), by rw [← HN.out, ← HXn.out.1]; rfl, HBd.out⟩
            case measure => first | (simp [intOf]; done) | (simp [intOf]; omega)
          · have hsd : decide (fv < xn) = false := decide_eq_false hs
            have HN := Lib.hid ((nx_stop (h := none) HKx.out Hcv.out.symm (by rw [← HFv.out, ← HXn.out.1]; exact hs) rfl).symm.trans HX.out)
            go_wp2_with fail
            refine bodyPost_ret (results_tmp2 rfl _ _ _) rfl ?_
            exact ⟨by rw [nextI, nextB, ← HN.out]; rfl, HBd.out⟩
        · obtain ⟨hjk, y, hy, hyg⟩ := HH.out j g rfl
          have hj0 : ¬ (j : Int) < 0 := by omega
          have hkj : ((k : Int) == (j : Int)) = false := beq_false_of_ne (by omega)
          obtain ⟨hjq, hye⟩ := List.getElem?_eq_some_iff.1 hy
          have hgn := (HQL.out.2.2 y (List.mem_of_getElem? hy)).1
          rw [hyg] at hgn
          have hjn : j < n2 := by omega
          have hjni : (j : Int) < (n2 : Int) := by omega
          have HGl := Lib.hid (fun w (hb : Below W.heap.size W w) => show w.cell? ⟨b2, o2 + j * 2, none⟩ = some (.int .i64 g) by
            have := (ask_cells (lst_keep encQ_len HQL.out.1 hb) hjq).1
            rw [hye, hyg] at this
            exact this)
          have HGn := Lib.hid hgn
          clear hy hyg hye hgn hjq
          dsimp only [hdI]
          go_wp2_with fail
          refine Rel.wp_region_rel (G := Rel.Gr) (Rel.tab [.is (.slice (some ⟨b2, o2, none⟩) n2 c2), .is (.int .i64 (k : Nat)), .is (.pointer (some ⟨b2, o2 + k * 2, none⟩)), .is (.pointer (some ⟨b2, o2 + k * 2, none⟩)), .is (.int .i64 xn), .is (.int .i64 total), .is (.slice ab n cb), .is (.int .i64 now), .is (.int .i64 fv), .is (.bool (decide (fv < xn)))]) (fun _ w => Below wc.heap.size wc w) (by kernel_rfl) (by kernel_rfl) (by kernel_rfl) (by kernel_rfl) (fun w => Rel.gr_refl _) (below_drew _) ?_ ?_
          · refine ⟨?_, ?_, ?_, ?_, ?_, ?_, ?_, ?_, ?_, ?_, trivial⟩
            · intro L a w c
              refine .inl ⟨Rel.wanted_free (by kernel_rfl) _, ?_⟩
              exact Rel.wp_mv _ rfl ⟨_, rfl, Rel.gr_refl _, (c.old 3 (v := .slice (some ⟨b2, o2, none⟩) n2 c2) (by kernel_rfl) (by kernel_rfl)), c.inv⟩
            · intro L a w c
              refine .inl ⟨Rel.wanted_free (by kernel_rfl) _, ?_⟩
              exact Rel.wp_mv _ rfl ⟨_, rfl, Rel.gr_refl _, (c.old 13 (v := .int .i64 (k : Nat)) (by kernel_rfl) (by kernel_rfl)), c.inv⟩
            · intro L a w c
              refine .inl ⟨Rel.wanted_free (by kernel_rfl) _, ?_⟩
              exact Rel.wp_ia _ _ _ rfl (c.get 0 32 (by kernel_rfl)) (c.get 1 33 (by kernel_rfl)) (run_iq hlt w) ⟨_, rfl, Rel.gr_refl _, rfl, c.inv⟩
            · intro L a w c
              refine .inl ⟨Rel.wanted_free (by kernel_rfl) _, ?_⟩
              exact Chn.wp_fa _ _ _ rfl (c.get 2 34 (by kernel_rfl)) (by simp [go_sem]) ⟨_, rfl, Rel.gr_refl _, rfl, c.inv⟩
            · intro L a w c
              refine .inl ⟨Rel.wanted_free (by kernel_rfl) _, ?_⟩
              exact Rel.wp_ld _ _ rfl (c.get 3 35 (by kernel_rfl)) (run_ld2 (cell_keep c.inv HQ.out.1)) ⟨_, rfl, Rel.gr_refl _, rfl, c.inv⟩
            · intro L a w c
              refine .inl ⟨Rel.wanted_free (by kernel_rfl) _, ?_⟩
              exact Rel.wp_mv _ rfl ⟨_, rfl, Rel.gr_refl _, (c.old 1 (v := .int .i64 total) (by kernel_rfl) (by kernel_rfl)), c.inv⟩
            · intro L a w c
              refine .inl ⟨Rel.wanted_free (by kernel_rfl) _, ?_⟩
              exact Rel.wp_mv _ rfl ⟨_, rfl, Rel.gr_refl _, (c.old 2 (v := .slice ab n cb) (by kernel_rfl) (by kernel_rfl)), c.inv⟩
            · intro L a w c
              refine .inl ⟨Rel.wanted_free (by kernel_rfl) _, ?_⟩
              exact Rel.wp_mv _ rfl ⟨_, rfl, Rel.gr_refl _, (c.old 0 (v := .int .i64 now) (by kernel_rfl) (by kernel_rfl)), c.inv⟩
            · intro L a w c
              refine .inl ⟨Rel.wanted_free (by kernel_rfl) _, ?_⟩
              refine Rel.wp_cl _ _ _ rfl Try.func19 (by kernel_rfl) ?_
              show Calls _ _ #[Rel.slot a 37, Rel.slot a 38, Rel.slot a 39] w _
              rw [show Rel.slot a 37 = .int .i64 total from (c.get 5 37 (by kernel_rfl)), show Rel.slot a 38 = .slice ab n cb from (c.get 6 38 (by kernel_rfl)), show Rel.slot a 39 = .int .i64 now from (c.get 7 39 (by kernel_rfl))]
              refine (HFr.out now w (below_keep HBc.out c.inv)).mono ?_
              rintro e w' ⟨rfl, hb⟩
              exact ⟨_, rfl, _, rfl, hb, by rw [HFv.out]; rfl, below_keep c.inv hb⟩
            · intro L a w c
              refine .inl ⟨Rel.wanted_free (by kernel_rfl) _, ?_⟩
              exact Rel.wp_bo _ _ _ _ _ rfl (u := .bool (decide (fv < xn))) (c.get 4 36 (by kernel_rfl)) (c.get 8 40 (by kernel_rfl)) (by simp [go_sem]) ⟨_, rfl, Rel.gr_refl _, rfl, c.inv⟩
          intro a wd hbase hroom hdef hJ hV
          have s41 : Rel.slot a 41 = .bool (decide (fv < xn)) := hV 9 _ _ rfl rfl
          rw [Chn.act_puts [32, 33, 34, 35, 36, 37, 38, 39, 40, 41] hbase hroom hdef (by kernel_rfl)]
          clear hbase hroom hdef hV
          simp only [List.foldl_cons, List.foldl_nil]
          generalize Rel.slot a 32 = u32 at *
          generalize Rel.slot a 33 = u33 at *
          generalize Rel.slot a 34 = u34 at *
          generalize Rel.slot a 35 = u35 at *
          generalize Rel.slot a 36 = u36 at *
          generalize Rel.slot a 37 = u37 at *
          generalize Rel.slot a 38 = u38 at *
          generalize Rel.slot a 39 = u39 at *
          generalize Rel.slot a 40 = u40 at *
          rw [s41]
          clear s41
          simp only [Act.put, List.setIfInBounds_toArray, List.set_cons_succ, List.set_cons_zero]
          have HBd := Lib.hid (below_keep HBc.out hJ)
          clear hJ
          by_cases hs : fv < xn
          · have hsd : decide (fv < xn) = true := decide_eq_true hs
            have HN := Lib.hid ((nx_short (h := some g) HKx.out Hcv.out.symm (by rw [← HFv.out, ← HXn.out.1]; exact hs)).symm.trans HX.out)
            go_wp2_with fail
            go_roundw
            case rel => exact ⟨k + 1, some (j, g), by omega, by go_num, rfl, (fun j g h => ⟨Nat.lt_succ_of_lt (HH.out j g h).1, (HH.out j g h).2⟩), HN.out, HBd.out⟩
            case measure => first | (simp [intOf]; done) | (simp [intOf]; omega)
          · have hsd : decide (fv < xn) = false := decide_eq_false hs
            have hs' : ¬ newF total l now < x.nodes := by rw [← HFv.out, ← HXn.out.1]; exact hs
            have HS := Lib.hid hs'
            have qg := HGl.out wd HBd.out
            have HC2 := Lib.hid (HSh.out g wd HBd.out HGn.out)
            obtain ⟨st, hst⟩ : ∃ st, st = shT now total l g := ⟨_, rfl⟩
            obtain ⟨sx, hsx⟩ : ∃ sx, sx = shX now total l g := ⟨_, rfl⟩
            rw [← hst, ← hsx] at HC2
            have HM := Lib.hid (show mayB now total l (some g) x = decide (now + xw ≤ st ∨ xn ≤ sx) by rw [hst, hsx, HXn.out.1, HXn.out.2]; rfl)
            clear hst hsx hs'
            go_wp2_with fail
            refine HC2.out.mono ?_
            rintro e we ⟨rfl, hbe⟩
            have HBe := Lib.hid (below_keep HBd.out hbe)
            obtain ⟨q0, q1⟩ := HCl.out we HBe.out
            clear hbe HC2 qg
            by_cases h1 : now + xw ≤ st
            · have HN := Lib.hid ((nx_stop (h := some g) HKx.out Hcv.out.symm (by have := HS.out; omega) (by rw [HM.out]; exact decide_eq_true (.inl h1))).symm.trans HX.out)
              go_wp2_with fail
              refine bodyPost_ret (results_tmp2 rfl _ _ _) rfl ?_
              exact ⟨by rw [nextI, nextB, ← HN.out]; rfl, HBe.out⟩
            · by_cases h2 : xn ≤ sx
              · have HN := Lib.hid ((nx_stop (h := some g) HKx.out Hcv.out.symm (by have := HS.out; omega) (by rw [HM.out]; exact decide_eq_true (.inr h2))).symm.trans HX.out)
                have h1d : decide (now + xw ≤ st) = false := decide_eq_false h1
                go_wp2_with fail
                refine bodyPost_ret (results_tmp2 rfl _ _ _) rfl ?_
                exact ⟨by rw [nextI, nextB, ← HN.out]; rfl, HBe.out⟩
              · have HN := Lib.hid ((nx_over (h := some g) HKx.out Hcv.out.symm (by have := HS.out; omega) (by rw [HM.out]; exact decide_eq_false (fun h => h.elim h1 h2))).symm.trans HX.out)
                have h1d : decide (now + xw ≤ st) = false := decide_eq_false h1
                have h2d : decide (xn ≤ sx) = false := decide_eq_false h2
                go_wp2_with fail
                go_roundw
                case rel => exact ⟨k + 1, some (j, g), by omega, by go_num, rfl, (fun j g h => ⟨Nat.lt_succ_of_lt (HH.out j g h).1, (HH.out j g h).2⟩), HN.out, HBe.out⟩
                case measure => first | (simp [intOf]; done) | (simp [intOf]; omega)
    · obtain rfl : k = n2 := by omega
      have hni : ¬ (k : Int) < (k : Int) := by omega
      have HN := Lib.hid ((nx_end (now := now) (total := total) (l := l) (rf := rf) (h := hdN hd) (by rw [HQL.out.2.1]; exact Nat.le_refl _)).symm.trans HX.out)
      go_wp2_with fail
      refine bodyPost_ret (results_tmp2 rfl _ _ _) rfl ?_
      exact ⟨by rw [nextI, nextB, ← HN.out]; rfl, HB.out⟩
end Go.Proofs.Ythpeahphnegedaa.Esy
