/- Order: OrderLess, over any order that does as it should. -/
import Derived.Test.YtkjkhfkaihncdaaOrdLaw
import Derived.Test.YtkjkhfkaihncdaaPut
import Derived.Test.YtkjkhfkaihncdaaNestE
namespace Go.Proofs.Ytkjkhfkaihncdaa.Ord
set_option maxRecDepth 100000
open Go.RowKit
open Go.Sort
open Kit
open Tre (Lst inI lst_keep lst_take lst_at lst_new lst_none IntsL int_cell encI encI_len encI_one NewI OwI ints_any below_drewN')
open Job (Jb Jv Jobs encJ encJ_len encJ_one job_cell job_keep)
open Drw (Dw)
set_option linter.unusedVariables false
variable {w w' : World}

theorem info_job : (Try.prog.info? 32).map (fun i => (i.zero, i.size, i.bytes)) = some (some (.agg #[.int .i64 0, .int .i64 0, .int .i64 0, .int .i64 0, .int .i64 0, .int .i64 0, .int .i64 0, .int .i64 0, .int .i64 0, .int .i64 0, .int .i64 0, .slice none 0 0]), 12, 112) := by kernel_rfl
theorem own_new_j (w : World) : Owns encJ 12 32 (w.alloc (.cells #[] 32)) w.heap.size (.slice (some ⟨w.heap.size, 0, none⟩) 0 0) [] :=
  ⟨rfl, .inr ⟨w.heap.size, 0, _, rfl, Nat.le_refl _, heap_alloc_new w _, Nat.le_refl _, by unfold maxLen; omega, rfl, rfl⟩⟩
theorem own_jobs {base : Nat} {v : Value} {l : List Jv} (h : Owns encJ 12 32 w base v l) : ∃ a c, v = .slice a l.length c ∧ Jobs w a l.length c l := by
  obtain ⟨a, c, e, h1, h2, h3, h4⟩ := owns_row encJ_len h
  refine ⟨a, c, e, rfl, h1, h2, fun e0 => ?_, h4⟩
  subst e0
  rcases h with ⟨_, h2 | ⟨g, cap, cur, e1, _⟩⟩
  · obtain ⟨hv, h0⟩ := h2
    rw [e] at hv
    injection hv with _ hv1 hv2
    exact ⟨hv1, hv2⟩
  · rw [e] at e1
    injection e1 with e1
    cases e1
abbrev nLes : Nest.At := ⟨8, 52, 13, 57, 98, 98, 7, 51, 12, 56, 3, 47, 99, 99, 98⟩
theorem run_to_o {b o K M cp : Nat} (h1 : K ≤ M) (h2 : M ≤ cp) (w : World) : (Instr.sliceAt 24 (.slice (some ⟨b, o, none⟩) M cp) none (some (.int .i64 (K : Nat))) none).run Try.prog w = .ok (.slice (some ⟨b, o, none⟩) K cp) w := by
  simp [go_sem]
  intro h; omega
theorem run_fr_o {b o K M cp : Nat} (h1 : K ≤ M) (w : World) : (Instr.sliceAt 24 (.slice (some ⟨b, o, none⟩) M cp) (some (.int .i64 (K : Nat))) none none).run Try.prog w = .ok (.slice (some ⟨b, if cp = K then o else o + K, none⟩) (M - K) (cp - K)) w := by
  have h2 : K ≤ M := h1
  by_cases h : cp = K
  · simp [go_sem, h1, h]
  · simp [go_sem, h1, h]
theorem part_to_o {b o c K : Nat} {l : List Int} (hr : Kit.Row encI 1 w (some ⟨b, o, none⟩) l) (hK : K ≤ l.length) (hg : b < w.heap.size) (w' : World) (hb : Below w.heap.size w w') (v : Value) (hv : ∀ b, v.ownBlock = some b → b < w'.heap.size ∧ w.heap.size ≤ b) : Nest.Part encI 1 w' v (.slice (some ⟨b, o, none⟩) K c) (l.take K) := by
  have := Nest.part_old (c := c) encI_len (row_take hr K) (fun e => by cases e) (fun q hq _ => by cases hq; exact hg) hb v hv
  rwa [List.length_take, Nat.min_eq_left hK] at this
theorem part_fr_o {b o cp K : Nat} {l : List Int} (hr : Kit.Row encI 1 w (some ⟨b, o, none⟩) l) (hK : K ≤ l.length) (hc : l.length ≤ cp) (hg : b < w.heap.size) (w' : World) (hb : Below w.heap.size w w') (v : Value) (hv : ∀ b, v.ownBlock = some b → b < w'.heap.size ∧ w.heap.size ≤ b) : Nest.Part encI 1 w' v (.slice (some ⟨b, if cp = K then o else o + K, none⟩) (l.length - K) (cp - K)) (l.drop K) := by
  have h : Kit.Row encI 1 w (some ⟨b, if cp = K then o else o + K, none⟩) (l.drop K) := by
    by_cases e : cp = K
    · exact .inl (List.drop_eq_nil_of_le (by omega))
    · rw [if_neg e]
      have := row_drop hr K
      rwa [Nat.mul_one] at this
  have := Nest.part_old (c := cp - K) encI_len h (fun e => by cases e) (fun q hq _ => by cases hq; exact hg) hb v hv
  rwa [List.length_drop] at this
def kLs (n : Nat) : Rel.Kd Rel.Gt := ⟨fun _ v => ∃ ad c, v = .slice ad n c ∧ n ≤ c ∧ c ≤ maxLen, fun _ _ _ _ h => h⟩
theorem ints_two {L : Array Bool} {s : Nat → Value} {vd : Value} {w0 : World} {P1 P2 P3 : List Int} (h : Nest.JE nLes 4 48 encI 1 3 w0 vd P1 P2 P3 L s w) (f1 : L.getD 8 false = true) (f2 : L.getD 13 false = true) (f3 : L.getD 98 false = false) (g3 : L.getD 3 false = true)
    (k3 : (kLs P3.length).p w (s 47)) : (∃ a c, s 47 = .slice a P3.length c ∧ IntsL w a P3.length c P3) ∧ ∃ a c, s 57 = .slice a ([] ++ P1 ++ P2).length c ∧ IntsL w a ([] ++ P1 ++ P2).length c ([] ++ P1 ++ P2) := by
  have h5 := h.three
  have h2 := h.own
  change Nest.Lit encI 1 w (L.getD 3 false) (L.getD 98 false) (Nest.cur (L.getD 8 false) (L.getD 13 false) (L.getD 98 false) _ (s 52) (s 57) (s 98)) (s 47) P3 at h5
  change Owns encI 1 3 w w0.heap.size (Nest.cur (L.getD 8 false) (L.getD 13 false) (L.getD 98 false) _ (s 52) (s 57) (s 98)) (Nest.lst (L.getD 8 false) (L.getD 13 false) (L.getD 98 false) [] P1 P2 P3) at h2
  rw [f1, f2, f3] at h2 h5
  rw [g3] at h5
  obtain ⟨ad, c, e, hr, hn, -⟩ := h5 rfl rfl
  obtain ⟨ad', c', e', h3, h4⟩ := k3
  refine ⟨⟨ad, c, e, rfl, ?_, ?_, fun e0 => hn e0, hr⟩, own_ints h2⟩
  · rw [e] at e'; injection e' with _ _ e'; omega
  · rw [e] at e'; injection e' with _ _ e'; omega
theorem held_ts {X : List Jv} {m : Nat} {y : Jv} (h : X[m]? = some y) (s : Int) : ts (X.set m { y with t := { y.t with state := s } }) = heldAt (ts X) m s := by
  unfold heldAt ts
  rw [List.getElem?_map, h]
  simp only [Option.map_some, List.map_set]
set_option maxHeartbeats 8000000 in
theorem less_any (hP : Prog) (W : World) (a : Option Addr) (n c : Nat) (l : List Jv) (hJ : Jobs W a n c l) (hin : ∀ x ∈ l, x.In W) (hok : ∀ x ∈ l, x.t.ok) (u : Int) (hu : 0 ≤ u ∧ u ≤ 255) :
    Calls Try.prog 5 #[.slice a n c, .int .u8 u] W fun e W' => e = .returned (.bool true) ∧ Below W.heap.size W W' := by
  obtain ⟨m0, X, hm, hX, hinX, hokX, hm40⟩ := cut_jobs hJ hin hok
  obtain ⟨W1, hW1⟩ : ∃ x, x = W.alloc (.cells #[] 32) := ⟨_, rfl⟩
  have hb1 : Below W.heap.size W W1 := by rw [hW1]; exact below_alloc _ _
  have HW1 := Lib.hid hW1
  have HFew := Lib.hid (few_any a n c m0 hJ.cap hJ.max hm W1)
  have HA1 := Lib.hid (show Owns encJ 12 32 W1 W.heap.size (.slice (some ⟨W.heap.size, 0, none⟩) 0 0) [] by rw [hW1]; exact own_new_j W)
  have HX1 := Lib.hid (lst_keep encJ_len hX hb1)
  have HB1 := Lib.hid hb1
  have HD1 := Lib.hid (show ([] : List Jv).length + m0 ≤ maxLen by unfold maxLen; simp only [List.length_nil]; omega)
  have HD2 := Lib.hid (show (([] : List Jv).length + m0) * 112 ≤ 140737488355328 by simp only [List.length_nil]; omega)
  have HIn := Lib.hid (And.intro hinX hokX)
  have HP := Lib.hid hP
  have HM := Lib.hid (And.intro hm40 hX.len)
  clear hm hX hinX hokX hm40 hJ hin hok hP hb1 hW1
  go_enter Try.func5, Try.ntmps5
  go_wp2_with fail
  rw [← HW1.out]
  refine HFew.out.mono ?_
  rintro e w1 ⟨rfl, rfl⟩
  go_wp2_with (first | (at_builtin; refine Two.append_apart encJ_len (by omega) encJ_one rfl (.tmp 8) (.tmp 10) 22 32 rfl Try.underlying22 (.agg #[.int .i64 0, .int .i64 0, .int .i64 0, .int .i64 0, .int .i64 0, .int .i64 0, .int .i64 0, .int .i64 0, .int .i64 0, .int .i64 0, .int .i64 0, .slice none 0 0]) 112 info_job rfl W.heap.size _ [] rfl HA1.out a m0 c X rfl HM.out.2 HX1.out.row HX1.out.nil HD1.out HD2.out HB1.out.size ?_; intro v9 w9 ho9 hg9 hx9; have HB9 := Lib.hid (HB1.out.trans (Two.below_grown HA1.out hg9 HB1.out.size)); have HO9 := Lib.hid ho9; clear ho9 hg9 hx9) | fail)
  rw [List.nil_append] at HO9
  obtain ⟨a9, c9, rfl, hl9⟩ := own_jobs HO9.out
  rw [HM.out.2] at hl9 HO9 ⊢
  have HOr := Lib.hid (HP.out.order w9 a9 m0 c9 X hl9 (fun x hx => job_keep (HIn.out.1 x hx) HB9.out) HIn.out.2 HM.out.1)
  have HL9 := Lib.hid hl9
  clear hl9
  refine HOr.out.mono ?_
  rintro e w2 ⟨v2, rfl, ⟨a2, c2, rfl, hi2, hq2⟩, hb2⟩
  have HQ2 := Lib.hid hq2
  clear hq2
  have HR := Lib.hid (show (places (ts X)).length ≤ 40 by have := places_len (ts X); unfold ts at this; rw [List.length_map, HM.out.2] at this; exact Nat.le_trans this HM.out.1)
  obtain ⟨r, hr⟩ : ∃ r, r = (places (ts X)).length := ⟨_, rfl⟩
  rw [← hr] at hi2 HR ⊢
  have HRr := Lib.hid hr
  have hr40 : r ≤ 40 := HR.out
  have HB2 := Lib.hid (And.intro (below_keep HB9.out hb2) (And.intro hi2 (And.intro (Nest.own_on HO9.out hb2) hb2)))
  clear hr hi2 hb2 HOr
  rcases Nat.eq_zero_or_pos r with h0 | h0
  · subst h0
    go_wp2_with fail
    refine (awake_any HP.out _).mono ?_
    rintro e w3 ⟨rfl, hb3⟩
    have HB3 := Lib.hid (below_keep HB2.out.1 hb3)
    clear hb3
    go_wp2_with fail
    go_ret
    exact ⟨rfl, HB3.out⟩
  · have hr0 : ((r : Int) == 0) = false := beq_false_of_ne (by omega)
    obtain ⟨t, rfl⟩ : ∃ t : Nat, u = t := ⟨u.toNat, by omega⟩
    have ht : t ≤ 255 := by omega
    obtain ⟨k, hk⟩ : ∃ k, k = t % r := ⟨_, rfl⟩
    have hkr : k < r := by rw [hk]; exact Nat.mod_lt _ h0
    have hmod : (t : Int) % (r : Int) = (k : Int) := by rw [hk]; rfl
    obtain ⟨m, x, hm1, hm2, hm3, hx, hxs⟩ := place_at (l := ts X) (i := k) (by rw [← HRr.out]; exact hkr)
    obtain ⟨y, hy, hyx⟩ := ts_get hx
    have hmn : m < m0 := by have := hm3; unfold ts at this; rw [List.length_map, HM.out.2] at this; exact this
    obtain ⟨g, cp, e9, hg1, hg2, hg3⟩ := owns_at encJ_len HO9.out (by rw [HM.out.2]; omega)
    rw [HM.out.2] at e9
    injection e9 with e1 e2 e3
    subst e1 e3
    obtain ⟨b2, o2, rfl⟩ := lst_at HB2.out.2.1 (by omega)
    have q1 := int_cell HB2.out.2.1 (k := k) (by rw [← HRr.out]; exact hkr)
    rw [hm2] at q1
    obtain ⟨c3, f3, o3⟩ := owns_put encJ_len HB2.out.2.2.1 HM.out.2 hy (i := 7) (by omega) (fun z => { z with t := { z.t with state := 2 } }) (.int .i64 2) (fun z => rfl)
    replace c3 : w2.cell? ⟨g, m * 12 + 7, none⟩ = some (.int .i64 y.t.state) := c3
    have hm4 : (m : Int) < (m0 : Int) := by omega
    have hm5 : ¬ (m : Int) < 0 := by omega
    have hm6 : ¬ (m0 : Int) ≤ (m : Int) := by omega
    have hkri : (k : Int) < (r : Int) := by omega
    have HMk := Lib.hid (And.intro hm1 (And.intro hm2 (And.intro hx (And.intro hy hyx))))
    obtain ⟨st, hst⟩ : ∃ st, st = y.t.state := ⟨_, rfl⟩
    rw [← hst] at c3
    obtain ⟨w3, hw3⟩ : ∃ w3, w3 = w2.setCell ⟨g, m * 12 + 7, none⟩ (.int .i64 2) := ⟨_, rfl⟩
    rw [← hw3] at o3
    have HO3 := Lib.hid o3
    have HG := Lib.hid (And.intro hg1 (And.intro hg2 hg3))
    have HW3 := Lib.hid hw3
    clear hu hk hm1 hm2 hm3 hx hxs hy hyx hst hw3 o3 hg1 hg2 hg3
    go_wp2_with fail
    rw [← HW3.out]
    have hb3 : Below W.heap.size W w3 := by rw [HW3.out]; exact HB2.out.1.setCell (p := ⟨g, m * 12 + 7, none⟩) HG.out.1 _
    obtain ⟨a3, c3, e3, hl3⟩ := own_jobs HO3.out
    rw [List.length_set, HM.out.2] at e3 hl3
    injection e3 with e3 _ e4
    subst e3 e4
    obtain ⟨Y, hY⟩ : ∃ Y, Y = X.set m { y with t := { y.t with state := 2 } } := ⟨_, rfl⟩
    rw [← hY] at hl3
    have hyX : y ∈ X := List.mem_of_getElem? HMk.out.2.2.2.1
    have hYin : ∀ z ∈ Y, z.In w3 := by
      intro z hz
      rw [hY] at hz
      rcases List.mem_or_eq_of_mem_set hz with h | h
      · exact job_keep (HIn.out.1 z h) hb3
      · rw [h]; exact job_keep (HIn.out.1 y hyX) hb3
    have hYok : ∀ z ∈ Y, z.t.ok := by
      intro z hz
      rw [hY] at hz
      rcases List.mem_or_eq_of_mem_set hz with h | h
      · exact HIn.out.2 z h
      · rw [h]
        have := HIn.out.2 y hyX
        unfold Jb.ok at this ⊢
        exact ⟨this.1, this.2.1, this.2.2.1, this.2.2.2.1, this.2.2.2.2.1, this.2.2.2.2.2.1, this.2.2.2.2.2.2.1, (show inI 2 from ⟨by decide, by decide⟩), this.2.2.2.2.2.2.2.2⟩
    have hYt : ts Y = heldAt (ts X) m 2 := by rw [hY]; exact held_ts HMk.out.2.2.2.1 2
    have hlt : g < w9.heap.size := (World.ownsRow.lt HO9.out g rfl).2
    have hb2g : b2 ≠ g := fun e => by have := (HQ2.out _ rfl).1; simp only at this; omega
    have hrow : Kit.Row encI 1 w3 (some ⟨b2, o2, none⟩) (places (ts X)) := by
      rw [HW3.out]
      exact Foot.row_chg encI_len (Foot.set_chg w2 g (m * 12 + 7) (.int .i64 2)) HB2.out.2.1.row hb2g
    have hb2w : b2 < w3.heap.size := by rw [HW3.out, setCell_size]; exact (HQ2.out _ rfl).2
    have hpl : places (ts Y) = [] ++ (places (ts X)).take k ++ (places (ts X)).drop (k + 1) := by
      rw [hYt]
      unfold places
      rw [ord_less (by omega) HMk.out.1, List.map_append, List.map_take, List.map_drop, List.nil_append]
    have hpk : (places (ts X)).length = r := HRr.out.symm
    have h1l : ((places (ts X)).take k).length = k := by rw [List.length_take, hpk]; exact Nat.min_eq_left (by omega)
    have h2l : ((places (ts X)).drop (k + 1)).length = r - (k + 1) := by rw [List.length_drop, hpk]
    have hp1 := part_to_o (c := c2) hrow (K := k) (by omega) hb2w
    have hp2 := part_fr_o (cp := c2) hrow (K := k + 1) (by omega) (by rw [hpk]; exact HB2.out.2.1.cap) hb2w
    rw [hpk] at hp2
    have hp3 : ∀ w, Below w3.heap.size w3 w → Calls Try.prog 11 #[.slice (some ⟨g, 0, none⟩) m0 c9] w fun e w' => ∃ v, e = .returned v ∧ (∃ ad c, v = .slice ad (places (ts Y)).length c ∧ (places (ts Y)).length ≤ c ∧ c ≤ maxLen) ∧ (∀ v', (∀ g, v'.ownBlock = some g → g < w.heap.size ∧ w3.heap.size ≤ g) → Nest.Part encI 1 w' v' v (places (ts Y))) ∧ Below w.heap.size w w' := by
      intro w hb
      refine (HP.out.order w (some ⟨g, 0, none⟩) m0 c9 Y (lst_keep encJ_len hl3 hb) (fun z hz => job_keep (hYin z hz) hb) hYok HM.out.1).mono ?_
      rintro e w' ⟨v, rfl, ⟨ad, cc, rfl, hi, hq⟩, hb'⟩
      refine ⟨_, rfl, ⟨ad, cc, rfl, hi.cap, hi.max⟩, fun v' hv' => ⟨ad, cc, rfl, hi.row, hi.nil, fun q hq' _ => ⟨fun e => ?_, (hq q hq').2⟩⟩, hb'⟩
      have := (hv' _ e).1
      have := (hq q hq').1
      omega
    generalize (places (ts X)).take k = P1 at h1l hp1 hpl
    generalize (places (ts X)).drop (k + 1) = P2 at h2l hp2 hpl
    generalize places (ts Y) = P3 at hp3 hpl
    have HD := Lib.hid (show ([] : List Int).length + P1.length ≤ maxLen ∧ (([] : List Int).length + P1.length) * 8 ≤ 140737488355328 ∧ ([] ++ P1).length + P2.length ≤ maxLen ∧ (([] ++ P1).length + P2.length) * 8 ≤ 140737488355328 from by
      simp only [List.length_append, List.length_nil, h1l, h2l]
      unfold maxLen; omega)
    have HP1 := Lib.hid hp1
    have HP2 := Lib.hid hp2
    have HP3 := Lib.hid hp3
    have HEq := Lib.hid hpl
    have HKr := Lib.hid (And.intro (show k ≤ r by omega) HB2.out.2.1.cap)
    have HKr1 := Lib.hid (show k + 1 ≤ r by omega)
    have HK40 := Lib.hid (show k ≤ 40 by omega)
    have HB3 := Lib.hid hb3
    clear hb3 hl3 hY hyX hYin hYok hYt hlt hb2g hrow hb2w hpl hpk h1l h2l hp1 hp2 hp3 q1 f3 c3
    refine Rel.wp_region_see (G := Rel.Gt) (Rel.tab [.is (.bool true), .is (.bool true), .is (.slice (some ⟨g, 0, none⟩) m0 c9), kLs P3.length, Rel.Kd.any, .is (.slice (some ⟨b2, o2, none⟩) r c2), .is (.int .i64 (k : Nat)), Rel.Kd.any, Rel.Kd.any, .is (.slice (some ⟨b2, o2, none⟩) r c2), .is (.int .i64 (k : Nat)), .is (.int .i64 ((k + 1 : Nat) : Int)), Rel.Kd.any, Rel.Kd.any, .is (.bool true), .is (.bool true), .is (.bool true)]) (Nest.JE nLes 4 48 encI 1 3 w3 undef P1 P2 P3) (by kernel_rfl) (by kernel_rfl) (by kernel_rfl) (by kernel_rfl) (fun w => trivial) (Nest.startE _ _ _ _ _ rfl (below_drew _)) ?_ ?_
    · refine ⟨?_, ?_, ?_, ?_, ?_, ?_, ?_, ?_, ?_, ?_, ?_, ?_, ?_, ?_, ?_, ?_, ?_, trivial⟩
      · intro L a w c j
        refine .inl ⟨Rel.wanted_free (by kernel_rfl) _, ?_⟩
        refine Rel.wp_cl _ _ _ rfl Try.func9 (by kernel_rfl) ?_
        show Calls _ _ #[] w _
        refine (awake_any HP.out w).mono ?_
        rintro e w' ⟨rfl, hb⟩
        exact ⟨_, rfl, _, rfl, trivial, rfl, (Nest.onE (by decide) (by decide) (Nest.go encI_len j (k := 0) (d := 44) (by kernel_rfl) (by kernel_rfl) hb))⟩
      · intro L a w c j
        refine .inl ⟨Rel.wanted_free (by kernel_rfl) _, ?_⟩
        exact Rel.wp_mv _ rfl ⟨_, rfl, trivial, (c.get 0 44 (by kernel_rfl)), (Nest.onE (by decide) (by decide) (Nest.go encI_len j (k := 1) (d := 45) (by kernel_rfl) (by kernel_rfl) (Below.refl _ _)))⟩
      · intro L a w c j
        refine .inl ⟨Rel.wanted_by (j := 1) (b := true) (d := 45) (by kernel_rfl) (c.get 1 45 (by kernel_rfl)), ?_⟩
        exact Rel.wp_mv _ rfl ⟨_, rfl, trivial, (c.old 5 (v := .slice (some ⟨g, 0, none⟩) m0 c9) (by kernel_rfl) (by kernel_rfl)), (Nest.onE (by decide) (by decide) (Nest.go encI_len j (k := 2) (d := 46) (by kernel_rfl) (by kernel_rfl) (Below.refl _ _)))⟩
      · intro L a w c j
        refine .inl ⟨Rel.wanted_by (j := 1) (b := true) (d := 45) (by kernel_rfl) (c.get 1 45 (by kernel_rfl)), ?_⟩
        refine Rel.wp_cl _ _ _ rfl Try.func11 (by kernel_rfl) ?_
        show Calls _ _ #[Rel.slot a 46] w _
        rw [show Rel.slot a 46 = .slice (some ⟨g, 0, none⟩) m0 c9 from (c.get 2 46 (by kernel_rfl))]
        refine (HP3.out w j.below).mono ?_
        rintro e w' ⟨v, rfl, hv, hp, hb⟩
        exact ⟨_, rfl, _, rfl, trivial, hv, Nest.onE (by decide) (by decide) (Nest.mk3 encI_len j (by kernel_rfl) (by kernel_rfl) (by rw [c.room]; exact of_decide_eq_true (by kernel_rfl)) hb hp)⟩
      · intro L a w c j
        refine .inl ⟨Rel.wanted_by (j := 1) (b := true) (d := 45) (by kernel_rfl) (c.get 1 45 (by kernel_rfl)), ?_⟩
        exact Chn.wp_bs0 _ rfl (run_bs0_i w) ⟨_, rfl, trivial, trivial, Nest.empE encI_len j (by kernel_rfl) (by kernel_rfl) (by rw [c.room]; exact of_decide_eq_true (by kernel_rfl)) (by rw [c.size]; exact of_decide_eq_true (by kernel_rfl)) (Rel.free_no c.free) (c.later 8 (by kernel_rfl)) (c.later2 13 8 (by kernel_rfl) (c.later 8 (by kernel_rfl))) (Nest.far_no j (by rw [c.size]; exact of_decide_eq_true (by kernel_rfl)))⟩
      · intro L a w c j
        refine .inl ⟨Rel.wanted_by (j := 1) (b := true) (d := 45) (by kernel_rfl) (c.get 1 45 (by kernel_rfl)), ?_⟩
        exact Rel.wp_mv _ rfl ⟨_, rfl, trivial, (c.old 6 (v := .slice (some ⟨b2, o2, none⟩) r c2) (by kernel_rfl) (by kernel_rfl)), (Nest.onE (by decide) (by decide) (Nest.go encI_len j (k := 5) (d := 49) (by kernel_rfl) (by kernel_rfl) (Below.refl _ _)))⟩
      · intro L a w c j
        refine .inl ⟨Rel.wanted_by (j := 1) (b := true) (d := 45) (by kernel_rfl) (c.get 1 45 (by kernel_rfl)), ?_⟩
        exact Rel.wp_mv _ rfl ⟨_, rfl, trivial, (c.old 7 (v := .int .i64 (k : Nat)) (by kernel_rfl) (by kernel_rfl)), (Nest.onE (by decide) (by decide) (Nest.go encI_len j (k := 6) (d := 50) (by kernel_rfl) (by kernel_rfl) (Below.refl _ _)))⟩
      · intro L a w c j
        refine .inl ⟨Rel.wanted_by (j := 1) (b := true) (d := 45) (by kernel_rfl) (c.get 1 45 (by kernel_rfl)), ?_⟩
        exact Rel.wp_sl _ _ none _ none rfl (c.get 5 49 (by kernel_rfl)) rfl (congrArg some (c.get 6 50 (by kernel_rfl))) rfl (run_to_o HKr.out.1 HKr.out.2 w) ⟨_, rfl, trivial, trivial, Nest.onE (by decide) (by decide) (Nest.mk1 encI_len j (by kernel_rfl) (by kernel_rfl) (by rw [c.room]; exact of_decide_eq_true (by kernel_rfl)) (Below.refl _ _) (fun v hv => HP1.out w j.below v hv))⟩
      · intro L a w c j
        refine .inl ⟨Rel.wanted_by (j := 1) (b := true) (d := 45) (by kernel_rfl) (c.get 1 45 (by kernel_rfl)), ?_⟩
        obtain ⟨v9, w9, hr, hj⟩ := Nest.ap1E tyI j (by decide) (by decide) (c.came 4 (by kernel_rfl)) (by kernel_rfl) (by kernel_rfl) (by rw [c.room]; exact of_decide_eq_true (by kernel_rfl)) (by rw [c.size]; exact of_decide_eq_true (by kernel_rfl)) (Rel.free_no c.free) (c.later 13 (by kernel_rfl)) (Nest.far_no j (by rw [c.size]; exact of_decide_eq_true (by kernel_rfl))) (c.came 7 (by kernel_rfl)) (Nest.far_no j (by rw [c.size]; exact of_decide_eq_true (by kernel_rfl))) HD.out.1 HD.out.2.1 24
        exact Chn.wp_ap _ _ _ rfl rfl rfl hr ⟨_, rfl, trivial, trivial, hj⟩
      · intro L a w c j
        refine .inl ⟨Rel.wanted_by (j := 1) (b := true) (d := 45) (by kernel_rfl) (c.get 1 45 (by kernel_rfl)), ?_⟩
        exact Rel.wp_mv _ rfl ⟨_, rfl, trivial, (c.old 6 (v := .slice (some ⟨b2, o2, none⟩) r c2) (by kernel_rfl) (by kernel_rfl)), (Nest.onE (by decide) (by decide) (Nest.go encI_len j (k := 9) (d := 53) (by kernel_rfl) (by kernel_rfl) (Below.refl _ _)))⟩
      · intro L a w c j
        refine .inl ⟨Rel.wanted_by (j := 1) (b := true) (d := 45) (by kernel_rfl) (c.get 1 45 (by kernel_rfl)), ?_⟩
        exact Rel.wp_mv _ rfl ⟨_, rfl, trivial, (c.old 7 (v := .int .i64 (k : Nat)) (by kernel_rfl) (by kernel_rfl)), (Nest.onE (by decide) (by decide) (Nest.go encI_len j (k := 10) (d := 54) (by kernel_rfl) (by kernel_rfl) (Below.refl _ _)))⟩
      · intro L a w c j
        refine .inl ⟨Rel.wanted_by (j := 1) (b := true) (d := 45) (by kernel_rfl) (c.get 1 45 (by kernel_rfl)), ?_⟩
        exact Rel.wp_bo _ _ _ _ _ rfl (u := .int .i64 ((k + 1 : Nat) : Int)) (c.get 10 54 (by kernel_rfl)) rfl (by simp [go_sem]; exact IntWalk.i64_in ((k : Int) + 1) (by have := HK40.out; omega)) ⟨_, rfl, trivial, rfl, (Nest.onE (by decide) (by decide) (Nest.go encI_len j (k := 11) (d := 55) (by kernel_rfl) (by kernel_rfl) (Below.refl _ _)))⟩
      · intro L a w c j
        refine .inl ⟨Rel.wanted_by (j := 1) (b := true) (d := 45) (by kernel_rfl) (c.get 1 45 (by kernel_rfl)), ?_⟩
        exact Rel.wp_sl _ _ _ none none rfl (c.get 9 53 (by kernel_rfl)) (congrArg some (c.get 11 55 (by kernel_rfl))) rfl rfl (run_fr_o HKr1.out w) ⟨_, rfl, trivial, trivial, Nest.onE (by decide) (by decide) (Nest.mk2 encI_len j (by kernel_rfl) (by kernel_rfl) (by rw [c.room]; exact of_decide_eq_true (by kernel_rfl)) (Below.refl _ _) (fun v hv => HP2.out w j.below v hv))⟩
      · intro L a w c j
        refine .inl ⟨Rel.wanted_by (j := 1) (b := true) (d := 45) (by kernel_rfl) (c.get 1 45 (by kernel_rfl)), ?_⟩
        obtain ⟨v9, w9, hr, hj⟩ := Nest.ap2 tyI j (by kernel_rfl) (by kernel_rfl) (by rw [c.room]; exact of_decide_eq_true (by kernel_rfl)) (by rw [c.size]; exact of_decide_eq_true (by kernel_rfl)) (c.came 8 (by kernel_rfl)) (Rel.free_no c.free) (Nest.far_no j (by rw [c.size]; exact of_decide_eq_true (by kernel_rfl))) (c.came 12 (by kernel_rfl)) (Nest.far_no j (by rw [c.size]; exact of_decide_eq_true (by kernel_rfl))) HD.out.2.2.1 HD.out.2.2.2 24
        exact Chn.wp_ap _ _ _ rfl rfl rfl hr ⟨_, rfl, trivial, trivial, Nest.onE (by decide) (by decide) hj⟩
      · intro L a w c j
        refine .inl ⟨Rel.wanted_by (j := 1) (b := true) (d := 45) (by kernel_rfl) (c.get 1 45 (by kernel_rfl)), ?_⟩
        obtain ⟨⟨x1, y1, e1, l1⟩, ⟨x2, y2, e2, l2⟩⟩ := ints_two j (c.via 13 8 (by kernel_rfl) (c.came 13 (by kernel_rfl))) (c.came 13 (by kernel_rfl)) (Nest.far_no j (by rw [c.size]; exact of_decide_eq_true (by kernel_rfl))) (c.came 3 (by kernel_rfl)) (c.get 3 47 (by kernel_rfl))
        refine Rel.wp_cl _ _ _ rfl Try.func10 (by kernel_rfl) ?_
        show Calls _ _ #[Rel.slot a 47, Rel.slot a 57] w _
        rw [e1, e2]
        refine (ints_any _ _ _ _ _ _ _ _ w l1 l2).mono ?_
        rintro e w' ⟨rfl, hb⟩
        exact ⟨_, rfl, _, rfl, trivial, by rw [decide_eq_true HEq.out]; rfl, (Nest.onE (by decide) (by decide) (Nest.go encI_len j (k := 14) (d := 58) (by kernel_rfl) (by kernel_rfl) hb))⟩
      · intro L a w c j
        refine .inl ⟨Rel.wanted_free (by kernel_rfl) _, ?_⟩
        exact Rel.wp_pk _ _ _ rfl (b := true) (c.get 1 45 (by kernel_rfl)) ⟨_, rfl, trivial, (c.get 14 58 (by kernel_rfl)), (Nest.onE (by decide) (by decide) (Nest.go encI_len j (k := 15) (d := 59) (by kernel_rfl) (by kernel_rfl) (Below.refl _ _)))⟩
      · intro L a w c j
        refine .inl ⟨Rel.wanted_free (by kernel_rfl) _, ?_⟩
        exact Rel.wp_as _ rfl ⟨_, rfl, trivial, (c.get 15 59 (by kernel_rfl)), (Nest.onE (by decide) (by decide) (Nest.go encI_len j (k := 16) (d := 4) (by kernel_rfl) (by kernel_rfl) (Below.refl _ _)))⟩
    intro a w9 hbase hroom hdef hJ hV
    have hE : Below w3.heap.size w3 w9 := hJ.below
    clear hJ
    have s4 : Rel.slot a 4 = .bool true := hV 16 _ _ rfl rfl
    rw [Chn.act_puts [44, 45, 46, 47, 48, 49, 50, 51, 52, 53, 54, 55, 56, 57, 58, 59, 4] hbase hroom hdef (by kernel_rfl)]
    clear hbase hroom hdef hV
    simp only [List.foldl_cons, List.foldl_nil]
    generalize Rel.slot a 44 = u44 at *
    generalize Rel.slot a 45 = u45 at *
    generalize Rel.slot a 46 = u46 at *
    generalize Rel.slot a 47 = u47 at *
    generalize Rel.slot a 48 = u48 at *
    generalize Rel.slot a 49 = u49 at *
    generalize Rel.slot a 50 = u50 at *
    generalize Rel.slot a 51 = u51 at *
    generalize Rel.slot a 52 = u52 at *
    generalize Rel.slot a 53 = u53 at *
    generalize Rel.slot a 54 = u54 at *
    generalize Rel.slot a 55 = u55 at *
    generalize Rel.slot a 56 = u56 at *
    generalize Rel.slot a 57 = u57 at *
    generalize Rel.slot a 58 = u58 at *
    generalize Rel.slot a 59 = u59 at *
    rw [s4]
    clear s4
    simp only [Act.put, List.setIfInBounds_toArray, List.set_cons_succ, List.set_cons_zero]
    have HE := Lib.hid (below_keep HB3.out hE)
    clear hE
    go_wp2_with fail
    go_ret
    exact ⟨rfl, HE.out⟩
end Go.Proofs.Ytkjkhfkaihncdaa.Ord
