/- Tree: the document's Use, as it runs . -/
import Derived.Test.YtpciijihedlheaaTreTwo
namespace Go.Proofs.Ytpciijihedlheaa.Tre
set_option maxRecDepth 100000
open Go.RowKit
open Go.Sort
open Kit
open Mon
set_option linter.unusedVariables false
variable {w w' : World}

/-! ### Use -/

theorem elems_keep {a : Option Addr} {l : List Int} (h : Elems w a l) (hb : Below w.heap.size w w') : Elems w' a l := by
  rcases h with h | ⟨b, off, h1, h2⟩
  · exact .inl h
  · exact .inr ⟨b, off, h1, fun j hj => cell_keep hb (h2 j hj)⟩
theorem amounts_length (l : List Fd) (f : Int) : ∀ al : List Al, (amounts l al f).length ≤ 2 * al.length
  | [] => Nat.zero_le _
  | a :: al => by
    have ih := amounts_length l f al
    unfold amounts at ih ⊢
    rw [List.flatMap_cons, List.length_append, List.length_cons]
    have h : (if (path l a.fund).contains f then [a.lien, a.spent] else []).length ≤ 2 := by split <;> simp
    omega

set_option maxHeartbeats 4000000 in
theorem ruse_any (l : List Fd) (hok : ∀ x ∈ l, x.ok) (a : Option Addr) (n c : Nat) (al : List Al) (hoka : ∀ x ∈ al, x.ok) (a2 : Option Addr) (n2 c2 : Nat) (w : World) (h : Funds w a n c l) (hn : n ≤ 100) (h2 : Allocs w a2 n2 c2 al) (hn2 : n2 ≤ 100) (f : Int) :
    Calls Try.prog 15 #[.slice a n c, .slice a2 n2 c2, .int .i64 f] w fun e w' => e = .returned (.tuple #[.int .i64 (useN l al f), .int .i64 (useE l al f)]) ∧ Below w.heap.size w w' := by
  have HL := Lib.hid (And.intro h (And.intro h2 (And.intro hok hoka)))
  have hll := h.len
  have hl2 := h2.len
  have HLl := Lib.hid (And.intro hll hl2)
  by_cases hf : 0 ≤ f ∧ f < n
  · have hi1 : ¬ f < 0 := by omega
    have hi2 : ¬ (n : Int) ≤ f := by omega
    have HU := Lib.hid (show useN l al f = addN (amounts l al f) ∧ useE l al f = addE (amounts l al f) by
      unfold useN useE
      rw [hll, if_pos hf, if_pos hf]
      exact ⟨rfl, rfl⟩)
    clear h h2 hok hoka hf hll hl2
    go_enter Try.func15, Try.ntmps15
    go_wp2_with fail
    go_loopw [8, 9] (fun v i wr => ∃ k : Nat, k ≤ n2 ∧ i = .int .i64 (k : Nat) ∧ Owns encI 1 3 wr w.heap.size v (amounts l (al.take k) f) ∧ Below w.heap.size w wr) (fun _ i _ => n2 - (intOf i).toNat)
    case atStart => exact ⟨0, Nat.zero_le _, rfl, ⟨rfl, .inr ⟨w.heap.size, 0, _, rfl, Nat.le_refl _, heap_alloc_new w _, Nat.le_refl _, by unfold maxLen; omega, rfl, rfl⟩⟩, below_alloc _ _⟩
    case round =>
      obtain ⟨k, hk, rfl, hown, hb⟩ := hrel
      have HO := Lib.hid (And.intro hown hb)
      clear hown hb
      by_cases hlt : k < n2
      · have hka : k < al.length := by rw [HLl.out.2]; exact hlt
        obtain ⟨b2, o2, rfl⟩ := lst_at HL.out.2.1 (by omega)
        obtain ⟨q0, q4, q5⟩ := alloc_cells (lst_keep encL_len HL.out.2.1 HO.out.2) hka
        obtain ⟨_, p4, p5⟩ := alloc_cells HL.out.2.1 hka
        have hsn := amounts_snoc (l := l) (f := f) (List.getElem?_eq_getElem hka)
        have hxk := HL.out.2.2.2 al[k] (List.getElem_mem hka)
        generalize al[k] = x at *
        have HS := Lib.hid hsn
        have HQ := Lib.hid (And.intro q4 q5)
        have HQ0 := Lib.hid (And.intro p4 p5)
        clear hsn hxk q4 q5 p4 p5
        go_wp2_with fail
        refine (rbelow_any l HL.out.2.2.1 a n c wr (lst_keep encF_len HL.out.1 HO.out.2) hn x.fund f).mono ?_
        rintro e w1 ⟨rfl, hb1⟩
        have HO1 := Lib.hid (And.intro (own_chg' HO.out.1 hb1) (below_keep HO.out.2 hb1))
        have HQ1 := Lib.hid (And.intro (cell_keep hb1 HQ.out.1) (cell_keep hb1 HQ.out.2))
        clear hb1 q0
        cases hc : (path l x.fund).contains f with
        | false =>
          have HC := Lib.hid hc
          clear hc
          go_wp2_with fail
          go_roundw
          case rel => exact ⟨k + 1, by omega, by go_num, by rw [HS.out, HC.out]; simpa using HO1.out.1, HO1.out.2⟩
          case measure => simp [intOf]; omega
        | true =>
          have HS2 := Lib.hid (show amounts l (al.take (k + 1)) f = amounts l (al.take k) f ++ [x.lien] ++ [x.spent] by rw [HS.out, hc, if_pos rfl]; simp)
          clear hc
          have hlx2 : (amounts l (al.take k) f).length ≤ 200 := by
            have h1 := amounts_length l f (al.take k)
            have h2 : (al.take k).length ≤ k := by rw [List.length_take]; exact Nat.min_le_left _ _
            omega
          obtain ⟨lx, hlx⟩ : ∃ y, y = amounts l (al.take k) f := ⟨_, rfl⟩
          rw [← hlx] at HO1 HS2 hlx2
          have HLx := Lib.hid (show lx.length + 1 ≤ 1000 by omega)
          have HLy := Lib.hid (show (lx ++ [x.lien]).length + 1 ≤ 1000 by simp; omega)
          clear hlx hlx2 HO HS HQ HQ1
          obtain ⟨v7, r, hR⟩ := room_any HO1.out.1
          have HR := Lib.hid hR
          have HJ0 := Lib.hid (show ∀ L : Array Bool, L.getD 7 false = false → JU w u8 v7 lx (lx ++ [x.lien]) r L w1 from fun L hL => ⟨HO1.out.2, (fun _ => HO1.out.1), (fun e => by rw [hL] at e; cases e), fun g hg => (World.ownsRow.lt HO1.out.1 g hg).2⟩)
          clear hR HO1
          go_wp2_with fail
          refine Rel.wp_region_ends (G := Gu u8) _ _ (Rel.tab [.is (u8), .is (.slice (some ⟨b2, o2, none⟩) n2 c2), .is (.int .i64 (k : Nat)), .is (.pointer (some ⟨b2, o2 + k * 6, none⟩)), .is (.pointer (some ⟨b2, o2 + k * 6 + 4, none⟩)), .is (.int .i64 x.lien), kLit u8 w.heap.size x.lien, kAp u8 v7 w.heap.size (lx ++ [x.lien]) r, .is (.slice (some ⟨b2, o2, none⟩) n2 c2), .is (.int .i64 (k : Nat)), .is (.pointer (some ⟨b2, o2 + k * 6, none⟩)), .is (.pointer (some ⟨b2, o2 + k * 6 + 5, none⟩)), .is (.int .i64 x.spent), kLit u8 w.heap.size x.spent]) (JU w u8 v7 lx (lx ++ [x.lien]) r) (by kernel_rfl) rfl rfl (by kernel_rfl) (by kernel_rfl) (by kernel_rfl) (by kernel_rfl) (by kernel_rfl) (by kernel_rfl) (ju_go (HJ0.out _ (by kernel_rfl)) (below_drew _)) ?_ ?_
          · refine ⟨?_, ?_, ?_, ?_, ?_, ?_, ?_, ?_, ?_, ?_, ?_, ?_, ?_, ?_, trivial⟩
            · intro L a w c
              refine .inl ⟨Rel.wanted_free (by kernel_rfl) _, ?_⟩
              exact Rel.wp_mv _ rfl ⟨_, rfl, gu_refl _ _, (c.old 8 (v := u8) (by kernel_rfl) (by kernel_rfl)), (ju_set (by decide) c.inv)⟩
            · intro L a w c
              refine .inl ⟨Rel.wanted_free (by kernel_rfl) _, ?_⟩
              exact Rel.wp_mv _ rfl ⟨_, rfl, gu_refl _ _, (c.old 1 (v := .slice (some ⟨b2, o2, none⟩) n2 c2) (by kernel_rfl) (by kernel_rfl)), (ju_set (by decide) c.inv)⟩
            · intro L a w c
              refine .inl ⟨Rel.wanted_free (by kernel_rfl) _, ?_⟩
              exact Rel.wp_mv _ rfl ⟨_, rfl, gu_refl _ _, (c.old 9 (v := .int .i64 (k : Nat)) (by kernel_rfl) (by kernel_rfl)), (ju_set (by decide) c.inv)⟩
            · intro L a w c
              refine .inl ⟨Rel.wanted_free (by kernel_rfl) _, ?_⟩
              exact Rel.wp_ia _ _ _ rfl (c.get 1 34 (by kernel_rfl)) (c.get 2 35 (by kernel_rfl)) (run_ia2 hlt w) ⟨_, rfl, gu_refl _ _, rfl, ju_set (by decide) c.inv⟩
            · intro L a w c
              refine .inl ⟨Rel.wanted_free (by kernel_rfl) _, ?_⟩
              exact Chn.wp_fa _ _ _ rfl (c.get 3 36 (by kernel_rfl)) (by simp [go_sem]) ⟨_, rfl, gu_refl _ _, rfl, (ju_set (by decide) c.inv)⟩
            · intro L a w c
              refine .inl ⟨Rel.wanted_free (by kernel_rfl) _, ?_⟩
              exact Rel.wp_ld _ _ rfl (c.get 4 37 (by kernel_rfl)) (run_ld2 (cell_keep (c.inv.1) HQ0.out.1)) ⟨_, rfl, gu_refl _ _, rfl, (ju_set (by decide) c.inv)⟩
            · intro L a w c
              refine .inl ⟨Rel.wanted_free (by kernel_rfl) _, ?_⟩
              exact Chn.wp_bs1 _ _ rfl (c.get 5 38 (by kernel_rfl)) (run_bs_i _ w) ⟨_, rfl, gu_below _ (below_alloc _ _), lit_new c.inv, ju_set (by decide) (ju_go c.inv (below_alloc _ _))⟩
            · intro L a w c
              refine .inl ⟨Rel.wanted_free (by kernel_rfl) _, ?_⟩
              obtain ⟨b, e, hx, ha⟩ := c.get 6 39 (by kernel_rfl)
              obtain ⟨v9, w9, hr, hg, hk, ho, hb⟩ := ap7_any _ HR.out (c.inv.2.1 (c_free c.free)) (by rw [← e]; exact hx) c.inv.1.size HLx.out
              exact Chn.wp_ap _ _ _ rfl (c.get 0 33 (by kernel_rfl)) e hr ⟨_, rfl, hg, hk, ju_at c.inv c.size (by decide) hb hg ho⟩
            · intro L a w c
              refine .inl ⟨Rel.wanted_free (by kernel_rfl) _, ?_⟩
              exact Rel.wp_mv _ rfl ⟨_, rfl, gu_refl _ _, (c.old 1 (v := .slice (some ⟨b2, o2, none⟩) n2 c2) (by kernel_rfl) (by kernel_rfl)), (ju_set (by decide) c.inv)⟩
            · intro L a w c
              refine .inl ⟨Rel.wanted_free (by kernel_rfl) _, ?_⟩
              exact Rel.wp_mv _ rfl ⟨_, rfl, gu_refl _ _, (c.old 9 (v := .int .i64 (k : Nat)) (by kernel_rfl) (by kernel_rfl)), (ju_set (by decide) c.inv)⟩
            · intro L a w c
              refine .inl ⟨Rel.wanted_free (by kernel_rfl) _, ?_⟩
              exact Rel.wp_ia _ _ _ rfl (c.get 8 41 (by kernel_rfl)) (c.get 9 42 (by kernel_rfl)) (run_ia2 hlt w) ⟨_, rfl, gu_refl _ _, rfl, ju_set (by decide) c.inv⟩
            · intro L a w c
              refine .inl ⟨Rel.wanted_free (by kernel_rfl) _, ?_⟩
              exact Chn.wp_fa _ _ _ rfl (c.get 10 43 (by kernel_rfl)) (by simp [go_sem]) ⟨_, rfl, gu_refl _ _, rfl, (ju_set (by decide) c.inv)⟩
            · intro L a w c
              refine .inl ⟨Rel.wanted_free (by kernel_rfl) _, ?_⟩
              exact Rel.wp_ld _ _ rfl (c.get 11 44 (by kernel_rfl)) (run_ld2 (cell_keep (c.inv.1) HQ0.out.2)) ⟨_, rfl, gu_refl _ _, rfl, (ju_set (by decide) c.inv)⟩
            · intro L a w c
              refine .inl ⟨Rel.wanted_free (by kernel_rfl) _, ?_⟩
              exact Chn.wp_bs1 _ _ rfl (c.get 12 45 (by kernel_rfl)) (run_bs_i _ w) ⟨_, rfl, gu_below _ (below_alloc _ _), lit_new c.inv, ju_set (by decide) (ju_go c.inv (below_alloc _ _))⟩
          intro a w5 hbase hroom hdef hJ hV
          have k40 : (kAp u8 v7 w.heap.size (lx ++ [x.lien]) r : Rel.Kd (Gu u8)).p w5 (Rel.slot a 40) := hV 7 _ _ rfl rfl
          have k46 : (kLit u8 w.heap.size x.spent : Rel.Kd (Gu u8)).p w5 (Rel.slot a 46) := hV 13 _ _ rfl rfl
          rw [Chn.act_puts [33, 34, 35, 36, 37, 38, 39, 40, 41, 42, 43, 44, 45, 46] hbase hroom hdef (by kernel_rfl)]
          clear hbase hroom hdef hV
          simp only [List.foldl_cons, List.foldl_nil]
          generalize Rel.slot a 33 = u33 at *
          generalize Rel.slot a 34 = u34 at *
          generalize Rel.slot a 35 = u35 at *
          generalize Rel.slot a 36 = u36 at *
          generalize Rel.slot a 37 = u37 at *
          generalize Rel.slot a 38 = u38 at *
          generalize Rel.slot a 39 = u39 at *
          generalize Rel.slot a 40 = u40 at *
          generalize Rel.slot a 41 = u41 at *
          generalize Rel.slot a 42 = u42 at *
          generalize Rel.slot a 43 = u43 at *
          generalize Rel.slot a 44 = u44 at *
          generalize Rel.slot a 45 = u45 at *
          generalize Rel.slot a 46 = u46 at *
          simp only [Act.put, List.setIfInBounds_toArray, List.set_cons_succ, List.set_cons_zero]
          have h40 : OwI w5 w.heap.size u40 (lx ++ [x.lien]) := by
            rcases k40 with ⟨hr, rfl⟩ | ⟨_, h, _⟩
            · exact hJ.2.2.1 rfl hr
            · exact h
          have hb5 := hJ.1
          obtain ⟨b46, rfl, h46, _⟩ := k46
          obtain ⟨a', c', e', _, _, _, hrow⟩ := owns_row encI_len h46
          cases e'
          clear h46 hJ k40 HR HJ0
          dsimp only [List.getLast]
          obtain ⟨v9, w9, hr9, ho9, hg9, _⟩ := Two.run_append_apart (P := Try.prog) encI_len Nat.zero_lt_one encI_one (w := w5) 29 29 3 Try.underlying29 (.int .i64 0) 8 info_i rfl w.heap.size u40 (lx ++ [x.lien]) h40 (some ⟨b46, 0, none⟩) 1 1 [x.spent] rfl hrow (fun h => by cases h) (by have := HLy.out; unfold maxLen; omega) (by have := HLy.out; omega) hb5.size
          have hb9 : Below w.heap.size w w9 := hb5.trans (Two.below_grown h40 hg9 hb5.size)
          rw [← HS2.out] at ho9
          refine Chn.wp_ap (.tmp 40) (.tmp 46) 29 rfl rfl rfl hr9 ?_
          refine Rel.wp_as _ rfl ?_
          have HE9 := Lib.hid (And.intro ho9 hb9)
          clear ho9 hb9 hr9 hg9 h40 hrow hb5
          simp only [Act.put, List.setIfInBounds_toArray]
          go_wp2_with fail
          go_roundw
          case rel => exact ⟨k + 1, by omega, by go_num, HE9.out.1, HE9.out.2⟩
          case measure => simp [intOf]; omega
      · obtain rfl : k = n2 := by omega
        obtain ⟨a8, c8, rfl, g1, g2, g3, g4⟩ := owns_row encI_len HO.out.1
        have htk : al.take k = al := List.take_of_length_le (by rw [HLl.out.2]; exact Nat.le_refl _)
        rw [htk] at g1 g4 ⊢
        have hel : Elems wr a8 (amounts l al f) := ints_elems ⟨rfl, g1, g2, fun e => ⟨by have := g3 e; omega, g3 e⟩, g4⟩
        have HE := Lib.hid (And.intro hel (And.intro (show (amounts l al f).length ≤ maxLen from Nat.le_trans g1 g2) HO.out.2))
        obtain ⟨m, hm⟩ : ∃ m, m = (amounts l al f).length := ⟨_, rfl⟩
        rw [← hm]
        have HM := Lib.hid hm
        clear g1 g2 g3 g4 htk hel hm HO
        go_wp2_with fail
        refine (radd_any a8 m c8 (amounts l al f) wr HM.out.symm (by rw [HM.out]; exact HE.out.2.1) HE.out.1).mono ?_
        rintro e w1 ⟨rfl, rfl⟩
        go_wp2_with fail
        go_ret2
        exact ⟨by rw [HU.out.1, HU.out.2]; rfl, HE.out.2.2⟩
  · have hor : f < 0 ∨ (¬ f < 0 ∧ (n : Int) ≤ f) := by omega
    have HU := Lib.hid (show useN l al f = 0 ∧ useE l al f = 4 by
      unfold useN useE
      rw [hll, if_neg hf, if_neg hf]
      exact ⟨rfl, rfl⟩)
    clear h h2 hok hoka hf hll hl2
    rcases hor with ho | ⟨ho, ho2⟩
    all_goals
      go_enter Try.func15, Try.ntmps15
      go_wp2_with fail
      go_ret2
      exact ⟨by rw [HU.out.1, HU.out.2]; rfl, Below.refl _ _⟩
end Go.Proofs.Ytpciijihedlheaa.Tre
