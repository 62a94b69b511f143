/- Entry: the landed Encode. -/
import Derived.Test.YtcoiebeehgeggaaEntBox
import Derived.Test.YtcoiebeehgeggaaOctPutT
import Derived.Test.YtcoiebeehgeggaaOctNew
import Derived.Test.YtcoiebeehgeggaaFoot
import Derived.Test.YtcoiebeehgeggaaRegChn
import Derived.Test.YtcoiebeehgeggaaRegLst
import Derived.Test.YtcoiebeehgeggaaScopeF
namespace Go.Proofs.Ytcoiebeehgeggaa.Ent
set_option maxRecDepth 100000
open Go.RowKit
open Go.Sort
open Kit
open Oct
open Foot
open Tre (Lst inI lst_keep lst_take lst_at lst_new lst_none i64_wf cells_int IntsL int_cell encI encI_len encI_one OwI own_chg' info_i run_ld2)
open Led (Lg encG encG_len encG_one Legs leg_cells)
set_option linter.unusedVariables false
set_option linter.unusedSimpArgs false
variable {w w' : World}

/-- What a call that puts bytes behind others leaves. -/
def OutN (w : World) (B : Nat) (L : List UInt8) (e : Ending) (w' : World) : Prop := ∃ a n c, e = .returned (.slice a n c) ∧ NB w' B a n c L ∧ Below w.heap.size w w'
theorem int_nb {B n c : Nat} {a : Option Addr} {L : List UInt8} (x : Int) (h : NB w B a n c L) (hn : n ≤ 1000000) (hB : B ≤ w.heap.size) : Calls Try.prog 24 #[.slice a n c, .int .i64 x] w (OutN w B (L ++ int8 x)) := by
  refine (int_any a n c x L w h.1 h.2.2.2.1 h.2.2.2.2.1 (by omega)).mono ?_
  rintro e w' ⟨g, cap, rfl, ⟨h1, h2, h3⟩, hb⟩
  obtain ⟨a', n', c', e', h4⟩ := nb_own (B := B) h3 hB
  exact ⟨a', n', c', by rw [e'], h4, hb⟩
theorem text_nb {B n c : Nat} {a : Option Addr} {L : List UInt8} (s : ByteArray) (h : NB w B a n c L) (hn : n ≤ 1000000) (hB : B ≤ w.heap.size) (hs : s.size ≤ 16) :
    Calls Try.prog 14 #[.slice a n c, .string s] w fun e w' => ∃ a' n' c', e = .returned (.tuple #[.slice a' n' c', .int .i64 0]) ∧ NB w' B a' n' c' (L ++ txt s) ∧ n' = n + 2 + s.size ∧ Below w.heap.size w w' := by
  refine (text_any a n c s L w h.1 h.2.2.2.1 h.2.2.2.2.1 (by omega) (by omega)).mono ?_
  rintro e w' ⟨g, cap, rfl, ⟨h1, h2, h3⟩, hb⟩
  obtain ⟨a', n', c', e', h4⟩ := nb_own (B := B) h3 hB
  have hl : (L ++ beB 2 s.size ++ s.data.toList).length = n + 2 + s.size := by
    have h5 : s.data.toList.length = s.size := by rw [Array.length_toList]; rfl
    rw [List.length_append, List.length_append, beB_length, h5, h.1]
  rw [hl] at e'
  injection e' with e1 e2 e3
  subst e1 e2 e3
  exact ⟨_, _, _, rfl, by unfold txt; rw [← List.append_assoc]; exact h4, rfl, hb⟩
set_option maxHeartbeats 4000000 in
theorem numbers_any {B n c n2 c2 : Nat} {a a2 : Option Addr} {L : List UInt8} {xs : List Int} (h : NB w B a n c L) (hx : IntsL w a2 n2 c2 xs) (hn : n ≤ 100000) (hn2 : n2 ≤ 1000) (hB : B ≤ w.heap.size) :
    Calls Try.prog 13 #[.slice a n c, .slice a2 n2 c2] w (OutN w B (L ++ ints xs)) := by
  have HI := Lib.hid (And.intro h hx)
  have HL := Lib.hid (And.intro h.1 hx.len)
  have HB := Lib.hid hB
  clear h hx hB
  go_enter Try.func13, Try.ntmps13
  go_wp2_with fail
  go_loopw [0, 5, 8] (fun bv jv iv wr => ∃ (k : Nat) (a' : Option Addr) (n' c' : Nat), k ≤ n2 ∧ iv = .int .i64 (k : Nat) ∧ bv = .slice a' n' c' ∧ NB wr B a' n' c' (L ++ ints (xs.take k)) ∧ Below w.heap.size w wr) (fun _ _ iv _ => n2 - (intOf iv).toNat)
  case atStart => exact ⟨0, a, n, c, Nat.zero_le _, rfl, rfl, by rw [List.take_zero]; show NB _ _ _ _ _ (L ++ []); rw [List.append_nil]; exact HI.out.1, Below.refl _ _⟩
  case round =>
    obtain ⟨k, a3, n3, c3, hk, rfl, rfl, hnb, hb⟩ := hrel
    have HO := Lib.hid (And.intro hnb hb)
    by_cases hlt : k < n2
    · have hkl : k < xs.length := by rw [HL.out.2]; exact hlt
      obtain ⟨b, o, rfl⟩ := lst_at HI.out.2 (by omega)
      have hic := int_cell (lst_keep encI_len HI.out.2 hb) hkl
      have htk := ints_take (List.getElem?_eq_getElem hkl)
      generalize xs[k] = y at hic htk
      have HT := Lib.hid htk
      have HR := Lib.hid (int_nb (w := wr) y HO.out.1 (by
        have h1 := HO.out.1.1
        rw [List.length_append, ints_len, List.length_take, HL.out.1] at h1
        omega) (Nat.le_trans HB.out HO.out.2.size))
      clear hnb hb htk hkl
      go_wp2_with fail
      refine HR.out.mono ?_
      rintro e w7 ⟨a7, n7, c7, rfl, hl7, hb7⟩
      have HL7 := Lib.hid (And.intro hl7 (below_keep HO.out.2 hb7))
      clear hl7 hb7 hic HR
      go_wp2_with fail
      go_roundw
      case rel => exact ⟨k + 1, a7, n7, c7, by omega, by go_num, rfl, by rw [HT.out, ← List.append_assoc]; exact HL7.out.1, HL7.out.2⟩
      case measure => simp [intOf]; omega
    · obtain rfl : k = n2 := by omega
      have HTk := Lib.hid (show xs.take k = xs from List.take_of_length_le (by rw [HL.out.2]; exact Nat.le_refl _))
      clear hnb hb
      go_wp2_with fail
      go_ret
      exact ⟨a3, n3, c3, rfl, by rw [← HTk.out]; exact HO.out.1, HO.out.2⟩
def kLitI (xs : List Int) : Rel.Kd Rel.Gr := ⟨fun w v => ∃ b, v = .slice (some ⟨b, 0, none⟩) xs.length xs.length ∧ IntsL w (some ⟨b, 0, none⟩) xs.length xs.length xs, fun w w' v hg ⟨b, e, h⟩ => ⟨b, e, lst_keep encI_len h hg⟩⟩
theorem wp_bs2i {P : Program} {o : Oper} {a : Act} {K : Act → World → Prop} {Q : Exit → Act → World → Prop} (t : TypeId) (x y : Operand) (ho : o.op = .buildSlice t 2 #[(0, x), (1, y)]) {vx vy u : Value} {w' : World} (hx : a.eval x = vx) (hy : a.eval y = vy) (hr : (Instr.buildSlice t 2 #[(0, vx), (1, vy)]).run P w = .ok u w') (h : K (a.put o.dst u) w') : o.wp P a w K Q :=
  Chn.wp_bs t 2 _ ho (by simpa [hx, hy] using hr) h
theorem run_bs2i (x y : Int) (w : World) : (Instr.buildSlice 22 2 #[(0, .int .i64 x), (1, .int .i64 y)]).run Try.prog w = .ok (.slice (some ⟨w.heap.size, 0, none⟩) 2 2) (w.alloc (.cells #[.int .i64 x, .int .i64 y] 3)) := by
  simp [go_sem]
theorem lit2i (w : World) (x y : Int) : (kLitI [x, y]).p (w.alloc (.cells #[.int .i64 x, .int .i64 y] 3)) (.slice (some ⟨w.heap.size, 0, none⟩) 2 2) := ⟨w.heap.size, rfl, lst_new encI_len w [x, y] _ _ _ 2 rfl rfl rfl (by decide)⟩
theorem flat_two {l : List Lg} {k : Nat} {g : Lg} (h : l[k]? = some g) : ints (flatG (l.take (k + 1))) = ints (flatG (l.take k)) ++ ints [g.acct, g.amt] := by
  rw [flat_take h, List.append_assoc]
  simp [ints]
set_option maxHeartbeats 16000000 in
theorem lenc_any (W : World) (x : Tv) (hx : x.In W) (hok : x.t.ok) :
    Calls Try.prog 7 #[valV x] W fun e W' => ∃ a n c, e = .returned (.tuple #[.slice a n c, .int .i64 (encE x.t)]) ∧ NB W' W.heap.size a n c (encL x.t) ∧ Below W.heap.size W W' := by
  obtain ⟨⟨sq, tm, kd, ky, nm, ag, lg⟩, a1, n1, c1, a2, n2, c2⟩ := x
  have HC0 := box_cells W ⟨⟨sq, tm, kd, ky, nm, ag, lg⟩, a1, n1, c1, a2, n2, c2⟩
  have hb1 := below_alloc W (.cells #[.int .i64 sq, .int .i64 tm, .int .i64 kd, .string ky, .string nm, .slice a1 n1 c1, .slice a2 n2 c2] 25)
  obtain ⟨g1, g2, g3, g4⟩ := hx
  simp only at g1 g2 g3 g4 HC0 hok ⊢
  have HI := Lib.hid (And.intro g1 (And.intro g2 (And.intro g1.len g2.len)))
  have hs1 : ky.size ≤ 9223372036854775807 := by unfold maxLen at g3; omega
  have hs2 : nm.size ≤ 9223372036854775807 := by unfold maxLen at g4; omega
  have hn1 : n1 ≤ 9223372036854775807 := by have h1 := g1.cap; have h2 := g1.max; unfold maxLen at h2; omega
  have hn2 : n2 ≤ 9223372036854775807 := by have h1 := g2.cap; have h2 := g2.max; unfold maxLen at h2; omega
  have HBx := Lib.hid (And.intro HC0 hb1)
  clear HC0 hb1 g1 g2 g3 g4 hok
  by_cases hfit : ky.size ≤ 16 ∧ nm.size ≤ 16 ∧ n1 ≤ 8 ∧ n2 ≤ 64
  · have HE := Lib.hid (enc_yes (t := ⟨sq, tm, kd, ky, nm, ag, lg⟩) ⟨hfit.1, hfit.2.1, by rw [HI.out.2.2.1]; exact hfit.2.2.1, by rw [HI.out.2.2.2]; exact hfit.2.2.2⟩)
    rw [HE.out.1, HE.out.2]
    have HF := Lib.hid hfit
    have t1 : ¬ (16 : Int) < (ky.size : Int) := by omega
    have t2 : ¬ (16 : Int) < (nm.size : Int) := by omega
    have t3 : ¬ (8 : Int) < (n1 : Int) := by omega
    have t4 : ¬ (64 : Int) < (n2 : Int) := by omega
    clear hfit
    go_enter Try.func7, Try.ntmps7
    go_wp2_with fail
    refine Scp.wp_never ?_
    go_upto_region 4 with fail
    obtain ⟨w1, hw1⟩ : ∃ x, x = W.alloc (.cells #[.int .i64 sq, .int .i64 tm, .int .i64 kd, .string ky, .string nm, .slice a1 n1 c1, .slice a2 n2 c2] 25) := ⟨_, rfl⟩
    rw [← hw1] at HBx ⊢
    have HC := Lib.hid HBx.out.1
    have HB1 := Lib.hid HBx.out.2
    have hq0 := HC.out.1
    have hq1 := HC.out.2.1
    have hq2 := HC.out.2.2.1
    have HR := Lib.hid (numbers_any (w := w1.alloc (.cells #[.int .i64 sq, .int .i64 tm, .int .i64 kd] 3)) (nb_none _ W.heap.size) (lst_new encI_len w1 [sq, tm, kd] _ _ _ 3 rfl rfl rfl (by decide)) (by decide) (by decide) (Nat.le_trans HB1.out.size (below_alloc _ _).size))
    clear hw1 HBx t1 t2 t3 t4 hs1 hs2
    go_wp2_with fail
    refine HR.out.mono ?_
    rintro e w3 ⟨a3, n3, c3, rfl, hl, hb⟩
    have HL3 := Lib.hid (And.intro hl (below_keep (below_alloc w1 _) hb))
    have HN3 := Lib.hid (show n3 = 24 by have h := hl.1; rw [List.length_append, ints_len] at h; simp at h; omega)
    have hq3 := cell_keep HL3.out.2 HC.out.2.2.2.1
    have HR := Lib.hid (text_nb (w := w3) ky hl (by have := HN3.out; omega) (below_keep HB1.out HL3.out.2).size HF.out.1)
    clear hl hb hq0 hq1 hq2
    go_wp2_with fail
    refine HR.out.mono ?_
    rintro e w4 ⟨a4, n4, c4, rfl, hl, hn, hb⟩
    have HL4 := Lib.hid (And.intro hl (below_keep HL3.out.2 hb))
    have HN4 := Lib.hid (show n4 ≤ 42 by have := HN3.out; have := HF.out.1; omega)
    have hq4 := cell_keep HL4.out.2 HC.out.2.2.2.2.1
    have HR := Lib.hid (text_nb (w := w4) nm hl (by have := HN4.out; omega) (below_keep HB1.out HL4.out.2).size HF.out.2.1)
    clear hl hb hn hq3
    go_wp2_with fail
    refine HR.out.mono ?_
    rintro e w5 ⟨a5, n5, c5, rfl, hl, hn, hb⟩
    obtain ⟨H5, hH5⟩ : ∃ y, y = [] ++ ints [sq, tm, kd] ++ txt ky ++ txt nm := ⟨_, rfl⟩
    rw [← hH5] at hl
    have HH5 := Lib.hid hH5
    have HL5 := Lib.hid (And.intro hl (below_keep HL4.out.2 hb))
    have HN5 := Lib.hid (show n5 ≤ 60 by have := HN4.out; have := HF.out.2.1; omega)
    have hq5 := cell_keep HL5.out.2 HC.out.2.2.2.2.2.1
    have HR := Lib.hid (numbers_any (w := w5.alloc (.cells #[.int .i64 (n1 : Nat)] 3)) (nb_keep hl (below_alloc w5 _)) (lst_new encI_len w5 [(n1 : Int)] _ _ _ 1 rfl rfl rfl (by decide)) (by have := HN5.out; omega) (by decide) (Nat.le_trans (below_keep HB1.out HL5.out.2).size (below_alloc w5 _).size))
    clear hl hb hn hq4 hH5
    go_wp2_with fail
    refine HR.out.mono ?_
    rintro e w6 ⟨a6, n6, c6, rfl, hl, hb⟩
    have HL6 := Lib.hid (And.intro hl (below_keep HL5.out.2 (below_keep (below_alloc w5 _) hb)))
    have HN6 := Lib.hid (show n6 ≤ 68 by have h := hl.1; have := HN5.out; have h5 := HL5.out.1.1; rw [List.length_append, ints_len, h5] at h; simp at h; omega)
    have hq6 := cell_keep HL6.out.2 HC.out.2.2.2.2.2.1
    have HR := Lib.hid (numbers_any (w := w6) hl (lst_keep encI_len HI.out.1 (below_keep HB1.out HL6.out.2)) (by have := HN6.out; omega) (by have := HF.out.2.2.1; omega) (below_keep HB1.out HL6.out.2).size)
    clear hl hb hq5
    go_wp2_with fail
    refine HR.out.mono ?_
    rintro e w7 ⟨a7, n7, c7, rfl, hl, hb⟩
    have HL7 := Lib.hid (And.intro hl (below_keep HL6.out.2 hb))
    have HN7 := Lib.hid (show n7 ≤ 132 by have h := hl.1; have := HN6.out; have h5 := HL6.out.1.1; have := HI.out.2.2.1; have := HF.out.2.2.1; rw [List.length_append, ints_len, h5] at h; omega)
    have hq7 := cell_keep HL7.out.2 HC.out.2.2.2.2.2.2
    have HR := Lib.hid (numbers_any (w := w7.alloc (.cells #[.int .i64 (n2 : Nat)] 3)) (nb_keep hl (below_alloc w7 _)) (lst_new encI_len w7 [(n2 : Int)] _ _ _ 1 rfl rfl rfl (by decide)) (by have := HN7.out; omega) (by decide) (Nat.le_trans (below_keep HB1.out HL7.out.2).size (below_alloc w7 _).size))
    clear hl hb hq6
    go_wp2_with fail
    refine HR.out.mono ?_
    rintro e w8 ⟨a8, n8, c8, rfl, hl, hb⟩
    obtain ⟨H8, hH8⟩ : ∃ y, y = H5 ++ ints [(n1 : Int)] ++ ints ag ++ ints [(n2 : Int)] := ⟨_, rfl⟩
    have HN8 := Lib.hid (show n8 ≤ 140 by have h := hl.1; have := HN7.out; have h5 := HL7.out.1.1; rw [List.length_append, ints_len, h5] at h; simp at h; omega)
    rw [← hH8] at hl
    have HH8 := Lib.hid hH8
    have HL8 := Lib.hid (And.intro hl (below_keep HL7.out.2 (below_keep (below_alloc w7 _) hb)))
    have hq8 := cell_keep HL8.out.2 HC.out.2.2.2.2.2.2
    have HH8l := Lib.hid (show H8.length ≤ 140 by have := HN8.out; rw [hl.1]; omega)
    clear hl hb hq7 hH8
    go_wp2_with fail
    go_loopw [4, 5, 68] (fun bv jv iv wr => ∃ (k : Nat) (a : Option Addr) (n c : Nat), k ≤ n2 ∧ iv = .int .i64 (k : Nat) ∧ bv = .slice a n c ∧ NB wr W.heap.size a n c (H8 ++ ints (flatG (lg.take k))) ∧ Below w1.heap.size w1 wr) (fun _ _ iv _ => n2 - (intOf iv).toNat)
    case atStart => exact ⟨0, a8, n8, c8, Nat.zero_le _, rfl, rfl, by rw [List.take_zero]; show NB _ _ _ _ _ (H8 ++ []); rw [List.append_nil]; exact HL8.out.1, HL8.out.2⟩
    case round =>
      obtain ⟨k, a5', n5', c5', hk, rfl, rfl, hnb, hb⟩ := hrel
      obtain ⟨L5, hL5⟩ : ∃ y, y = H8 ++ ints (flatG (lg.take k)) := ⟨_, rfl⟩
      have HBw := Lib.hid (below_keep HB1.out hb)
      have HC6 := Lib.hid (cell_keep hb HC.out.2.2.2.2.2.2)
      have HBr := Lib.hid hb
      rw [← hL5] at hnb
      have HL := Lib.hid hnb
      have HEq := Lib.hid hL5
      have HBd := Lib.hid (show n5' ≤ 5000 by
        have h1 := hnb.1
        have h2 := HH8l.out
        have h3 := HF.out
        rw [hL5] at h1
        simp only [List.length_append, ints_len, flatG_len, List.length_take] at h1
        omega)
      clear hnb hL5 hq8
      by_cases hlt : k < n2
      · have hkl : k < lg.length := by rw [HI.out.2.2.2]; exact hlt
        obtain ⟨b, o, rfl⟩ := lst_at HI.out.2.1 (by omega)
        have hgc := leg_cells (lst_keep encG_len HI.out.2.1 (below_keep HB1.out hb)) hkl
        have htk := flat_two (List.getElem?_eq_getElem hkl)
        generalize lg[k] = y at hgc htk
        obtain ⟨ac, am⟩ := y
        simp only at hgc htk
        have HG := Lib.hid hgc
        have HT := Lib.hid htk
        clear hb hgc htk hkl
        go_wp2_with fail
        refine Rel.wp_region_last (G := Rel.Gr) _ (Rel.tab [.is (.slice a5' n5' c5'), .is (.pointer (some ⟨W.heap.size, 6, none⟩)), .is (.slice (some ⟨b, o, none⟩) n2 c2), .is (.int .i64 (k : Nat)), .is (.pointer (some ⟨b, o + k * 2, none⟩)), .is (.pointer (some ⟨b, o + k * 2, none⟩)), .is (.int .i64 ac), .is (.pointer (some ⟨W.heap.size, 6, none⟩)), .is (.slice (some ⟨b, o, none⟩) n2 c2), .is (.int .i64 (k : Nat)), .is (.pointer (some ⟨b, o + k * 2, none⟩)), .is (.pointer (some ⟨b, o + k * 2 + 1, none⟩)), .is (.int .i64 am), kLitI [ac, am], kN W.heap.size (L5 ++ ints [ac, am])]) (fun _ w => Below wr.heap.size wr w) (by kernel_rfl) rfl (by kernel_rfl) (by kernel_rfl) (by kernel_rfl) (by kernel_rfl) (by kernel_rfl) (below_drew _) ?_ ?_
        · refine ⟨?_, ?_, ?_, ?_, ?_, ?_, ?_, ?_, ?_, ?_, ?_, ?_, ?_, ?_, ?_, trivial⟩
          · intro L a w c
            refine .inl ⟨Rel.wanted_free (by kernel_rfl) _, ?_⟩
            exact Rel.wp_mv _ rfl ⟨_, rfl, Rel.gr_refl _, (c.old 4 (v := .slice a5' n5' c5') (by kernel_rfl) (by kernel_rfl)), c.inv⟩
          · intro L a w c
            refine .inl ⟨Rel.wanted_free (by kernel_rfl) _, ?_⟩
            exact Chn.wp_fa _ _ _ rfl (c.old 1 (v := .pointer (some ⟨W.heap.size, 0, none⟩)) (by kernel_rfl) (by kernel_rfl)) (by simp [go_sem]) ⟨_, rfl, Rel.gr_refl _, rfl, c.inv⟩
          · intro L a w c
            refine .inl ⟨Rel.wanted_free (by kernel_rfl) _, ?_⟩
            exact Rel.wp_ld _ _ rfl (c.get 1 72 (by kernel_rfl)) (run_ldg (cell_keep c.inv HC6.out)) ⟨_, rfl, Rel.gr_refl _, rfl, c.inv⟩
          · intro L a w c
            refine .inl ⟨Rel.wanted_free (by kernel_rfl) _, ?_⟩
            exact Rel.wp_mv _ rfl ⟨_, rfl, Rel.gr_refl _, (c.old 5 (v := .int .i64 (k : Nat)) (by kernel_rfl) (by kernel_rfl)), c.inv⟩
          · intro L a w c
            refine .inl ⟨Rel.wanted_free (by kernel_rfl) _, ?_⟩
            exact Rel.wp_ia _ _ _ rfl (c.get 2 73 (by kernel_rfl)) (c.get 3 74 (by kernel_rfl)) (run_iag hlt w) ⟨_, rfl, Rel.gr_refl _, rfl, c.inv⟩
          · intro L a w c
            refine .inl ⟨Rel.wanted_free (by kernel_rfl) _, ?_⟩
            exact Chn.wp_fa _ _ _ rfl (c.get 4 75 (by kernel_rfl)) (by simp [go_sem]) ⟨_, rfl, Rel.gr_refl _, rfl, c.inv⟩
          · intro L a w c
            refine .inl ⟨Rel.wanted_free (by kernel_rfl) _, ?_⟩
            exact Rel.wp_ld _ _ rfl (c.get 5 76 (by kernel_rfl)) (run_ld2 (cell_keep c.inv HG.out.1)) ⟨_, rfl, Rel.gr_refl _, rfl, c.inv⟩
          · intro L a w c
            refine .inl ⟨Rel.wanted_free (by kernel_rfl) _, ?_⟩
            exact Chn.wp_fa _ _ _ rfl (c.old 1 (v := .pointer (some ⟨W.heap.size, 0, none⟩)) (by kernel_rfl) (by kernel_rfl)) (by simp [go_sem]) ⟨_, rfl, Rel.gr_refl _, rfl, c.inv⟩
          · intro L a w c
            refine .inl ⟨Rel.wanted_free (by kernel_rfl) _, ?_⟩
            exact Rel.wp_ld _ _ rfl (c.get 7 78 (by kernel_rfl)) (run_ldg (cell_keep c.inv HC6.out)) ⟨_, rfl, Rel.gr_refl _, rfl, c.inv⟩
          · intro L a w c
            refine .inl ⟨Rel.wanted_free (by kernel_rfl) _, ?_⟩
            exact Rel.wp_mv _ rfl ⟨_, rfl, Rel.gr_refl _, (c.old 5 (v := .int .i64 (k : Nat)) (by kernel_rfl) (by kernel_rfl)), c.inv⟩
          · intro L a w c
            refine .inl ⟨Rel.wanted_free (by kernel_rfl) _, ?_⟩
            exact Rel.wp_ia _ _ _ rfl (c.get 8 79 (by kernel_rfl)) (c.get 9 80 (by kernel_rfl)) (run_iag hlt w) ⟨_, rfl, Rel.gr_refl _, rfl, c.inv⟩
          · intro L a w c
            refine .inl ⟨Rel.wanted_free (by kernel_rfl) _, ?_⟩
            exact Chn.wp_fa _ _ _ rfl (c.get 10 81 (by kernel_rfl)) (by simp [go_sem]) ⟨_, rfl, Rel.gr_refl _, rfl, c.inv⟩
          · intro L a w c
            refine .inl ⟨Rel.wanted_free (by kernel_rfl) _, ?_⟩
            exact Rel.wp_ld _ _ rfl (c.get 11 82 (by kernel_rfl)) (run_ld2 (cell_keep c.inv HG.out.2)) ⟨_, rfl, Rel.gr_refl _, rfl, c.inv⟩
          · intro L a w c
            refine .inl ⟨Rel.wanted_free (by kernel_rfl) _, ?_⟩
            exact wp_bs2i _ _ _ rfl (c.get 6 77 (by kernel_rfl)) (c.get 12 83 (by kernel_rfl)) (run_bs2i ac am w) ⟨_, rfl, below_alloc _ _, lit2i w ac am, below_keep c.inv (below_alloc _ _)⟩
          · intro L a w c
            refine .inl ⟨Rel.wanted_free (by kernel_rfl) _, ?_⟩
            obtain ⟨b', e', hp⟩ := c.get 13 84 (by kernel_rfl)
            refine Rel.wp_cl _ _ _ rfl Try.func13 (by kernel_rfl) ?_
            show Calls _ _ #[Rel.slot a 71, Rel.slot a 84] w _
            rw [show Rel.slot a 71 = .slice a5' n5' c5' from (c.get 0 71 (by kernel_rfl)), show Rel.slot a 84 = _ from e']
            refine (numbers_any (w := w) (nb_keep HL.out c.inv) hp (by have := HBd.out; omega) (by simp) (Nat.le_trans HBw.out.size c.inv.size)).mono ?_
            rintro e w' ⟨a'', n'', c'', rfl, h1, h2⟩
            exact ⟨_, rfl, _, rfl, h2, ⟨a'', n'', c'', rfl, h1⟩, below_keep c.inv h2⟩
        intro a w9 hbase hroom hdef hJ hV
        have k85 : (kN W.heap.size (L5 ++ ints [ac, am]) : Rel.Kd (Rel.Gr)).p w9 (Rel.slot a 85) := hV 14 _ _ rfl rfl
        rw [Chn.act_puts [71, 72, 73, 74, 75, 76, 77, 78, 79, 80, 81, 82, 83, 84, 85] hbase hroom hdef (by kernel_rfl)]
        clear hbase hroom hdef hV
        simp only [List.foldl_cons, List.foldl_nil]
        generalize Rel.slot a 71 = u71 at *
        generalize Rel.slot a 72 = u72 at *
        generalize Rel.slot a 73 = u73 at *
        generalize Rel.slot a 74 = u74 at *
        generalize Rel.slot a 75 = u75 at *
        generalize Rel.slot a 76 = u76 at *
        generalize Rel.slot a 77 = u77 at *
        generalize Rel.slot a 78 = u78 at *
        generalize Rel.slot a 79 = u79 at *
        generalize Rel.slot a 80 = u80 at *
        generalize Rel.slot a 81 = u81 at *
        generalize Rel.slot a 82 = u82 at *
        generalize Rel.slot a 83 = u83 at *
        generalize Rel.slot a 84 = u84 at *
        generalize Rel.slot a 85 = u85 at *
        simp only [Act.put, List.setIfInBounds_toArray, List.set_cons_succ, List.set_cons_zero]
        obtain ⟨a9, n9, c9, rfl, hl9⟩ := k85
        dsimp only [List.getLast]
        refine Rel.wp_as _ rfl ?_
        have HL9 := Lib.hid (And.intro hl9 (below_keep HBr.out hJ))
        clear hl9 hJ
        go_wp2_with fail
        go_roundw
        case rel => exact ⟨k + 1, a9, n9, c9, by omega, by go_num, rfl, by rw [HT.out, ← List.append_assoc, ← HEq.out]; exact HL9.out.1, HL9.out.2⟩
        case measure => simp [intOf]; omega
      · obtain rfl : k = n2 := by omega
        have HTk := Lib.hid (show lg.take k = lg from List.take_of_length_le (by rw [HI.out.2.2.2]; exact Nat.le_refl _))
        have HFin := Lib.hid (show encT ⟨sq, tm, kd, ky, nm, ag, lg⟩ = L5 by
          rw [HEq.out, HTk.out, HH8.out, HH5.out]
          unfold encT head5 head3
          simp only
          rw [HI.out.2.2.1, HI.out.2.2.2]
          simp [ints])
        clear hb
        go_wp2_with fail
        simp only [Scp.jumps_ret]
        go_ret2
        exact ⟨a5', n5', c5', rfl, by rw [HFin.out]; exact HL.out, HBw.out⟩
  · have HE := Lib.hid (enc_no (t := ⟨sq, tm, kd, ky, nm, ag, lg⟩) (fun h => hfit ⟨h.1, h.2.1, by rw [← HI.out.2.2.1]; exact h.2.2.1, by rw [← HI.out.2.2.2]; exact h.2.2.2⟩))
    rw [HE.out.1, HE.out.2]
    have hor : (16 : Int) < (ky.size : Int) ∨ (¬ (16 : Int) < (ky.size : Int) ∧ (16 : Int) < (nm.size : Int)) ∨ (¬ (16 : Int) < (ky.size : Int) ∧ ¬ (16 : Int) < (nm.size : Int) ∧ (8 : Int) < (n1 : Int)) ∨ (¬ (16 : Int) < (ky.size : Int) ∧ ¬ (16 : Int) < (nm.size : Int) ∧ ¬ (8 : Int) < (n1 : Int) ∧ (64 : Int) < (n2 : Int)) := by omega
    clear hfit
    rcases hor with t1 | ⟨t1, t2⟩ | ⟨t1, t2, t3⟩ | ⟨t1, t2, t3, t4⟩
    all_goals
      go_enter Try.func7, Try.ntmps7
      go_wp2_with fail
      refine Scp.wp_ahead rfl ?_
      go_wp2_with fail
      go_step3
      refine ⟨rfl, ?_⟩
      go_wp2_with fail
      simp only [Scp.jumps_ret]
      go_ret2
      exact ⟨none, 0, 0, rfl, nb_none _ _, HBx.out.2⟩
end Go.Proofs.Ytcoiebeehgeggaa.Ent
