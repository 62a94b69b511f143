/- Easy: EasyRefused, over any easy that does as it should. -/
import Derived.Test.YthpeahphnegedaaEsyNxL
import Derived.Test.YthpeahphnegedaaNestE
namespace Go.Proofs.Ythpeahphnegedaa.Esy
set_option maxRecDepth 100000
open Go.RowKit
open Go.Sort
open Kit
open Tre (Lst inI lst_keep lst_take lst_at lst_new lst_none below_drewN' run_ld2)
open Prf (Bz newF Nd Tk Busys encZ encZ_len OwZ own_busys)
open Go.Proofs.Ythpeahphnegedaa.Ord (Aq Asks encQ encQ_len ask_cells info_ask)
set_option linter.unusedVariables false
variable {w w' : World}

theorem info_bool : (Try.prog.info? 4).map (fun i => (i.zero, i.size, i.bytes)) = some (some (.bool false), 1, 1) := by kernel_rfl
theorem run_mko (w : World) (n : Nat) (hn : n ≤ 1000) : (Instr.makeSlice 24 (.int .i64 (n : Nat)) (.int .i64 (n : Nat))).run Try.prog w = .ok (.slice (some ⟨w.heap.size, 0, none⟩) n n) (w.alloc (.cells (madeCells #[.bool false] n) 4)) := by
  obtain ⟨i0, hi, hz0, hz1, hz2⟩ := info_parts info_bool
  have := run_make (P := Try.prog) w 24 4 i0 (.bool false) Try.underlying24 hi hz0 .i64 .i64 n n (by omega) (by omega) (by rw [hz2]; omega) (by omega)
  rw [hz1, Nat.mul_one] at this
  exact this
theorem made_o (n : Nat) : (madeCells #[Value.bool false] n).toList = flat encO (List.replicate n false) := by
  rw [show flat encO (List.replicate n false) = List.replicate n (Value.bool false) by
    induction n with
    | zero => rfl
    | succ n ih =>
      rw [List.replicate_succ, List.replicate_succ, ← ih]; rfl]
  apply List.eq_replicate_iff.2
  refine ⟨by simp [madeCells], fun v hv => ?_⟩
  simp only [madeCells, Array.toList_map, List.mem_map] at hv
  obtain ⟨j, _, rfl⟩ := hv
  simp [Nat.mod_one]
theorem own_o (w : World) (n : Nat) (hn : n ≤ 1000) : Owns encO 1 4 (w.alloc (.cells (madeCells #[.bool false] n) 4)) w.heap.size (.slice (some ⟨w.heap.size, 0, none⟩) n n) (List.replicate n false) := by
  refine ⟨by rw [flat_length encO_len], .inr ⟨_, n, _, by rw [List.length_replicate], Nat.le_refl _, heap_alloc_new w _, by rw [List.length_replicate]; exact Nat.le_refl _, by unfold maxLen; omega, by rw [size_madeCells, Nat.mul_one], ?_⟩⟩
  rw [made_o, List.length_replicate, List.take_of_length_le]
  rw [flat_length encO_len, List.length_replicate]; exact Nat.le_refl _
/-- All may start but the one at place k. -/
theorem one_refused (w : World) {n k : Nat} (hn : n ≤ 1000) (hk : k < n) :
    (w.alloc (.cells (madeCells #[.bool false] n) 4)).cell? ⟨w.heap.size, k, none⟩ = some (.bool false) ∧ (w.alloc (.cells (madeCells #[.bool false] n) 4)).frozen? ⟨w.heap.size, k, none⟩ = false ∧
      Below w.heap.size w ((w.alloc (.cells (madeCells #[.bool false] n) 4)).setCell ⟨w.heap.size, k, none⟩ (.bool true)) ∧
      Bools ((w.alloc (.cells (madeCells #[.bool false] n) 4)).setCell ⟨w.heap.size, k, none⟩ (.bool true)) (some ⟨w.heap.size, 0, none⟩) n n ((List.replicate n false).set k true) := by
  have ha : (List.replicate n false)[k]? = some false := by rw [List.getElem?_replicate, if_pos hk]
  obtain ⟨c1, f1, o1⟩ := owns_put encO_len (own_o w n hn) (List.length_replicate ..) ha (i := 0) (by omega) (fun _ => true) (.bool true) (fun _ => rfl)
  rw [Nat.mul_one, Nat.add_zero] at c1 f1 o1
  refine ⟨c1, f1, ((below_alloc w _).setCell (p := ⟨w.heap.size, k, none⟩) (Nat.le_refl _) _), ?_⟩
  obtain ⟨a, c, e, h1, h2, h3, h4⟩ := owns_row encO_len o1
  rw [List.length_set, List.length_replicate] at e h1
  injection e with e1 e2 e3
  subst e1 e3
  exact ⟨by rw [List.length_set, List.length_replicate], Nat.le_refl _, h2, (fun h => by cases h), h4⟩
abbrev nRef : Nest.At := ⟨6, 55, 11, 60, 98, 98, 5, 54, 10, 59, 97, 97, 99, 99, 98⟩
theorem run_bs0_q (w : World) : (Instr.buildSlice 23 0 #[]).run Try.prog w = .ok (.slice (some ⟨w.heap.size, 0, none⟩) 0 0) (w.alloc (.cells #[] 35)) := by
  simp [go_sem]
theorem run_x0 (u v : Value) (w : World) : (Instr.extract (.tuple #[u, v]) 0).run Try.prog w = .ok u w := by simp [go_sem]
theorem run_x1 (u v : Value) (w : World) : (Instr.extract (.tuple #[u, v]) 1).run Try.prog w = .ok v w := by simp [go_sem]
theorem run_to_q {b o K M cp : Nat} (h1 : K ≤ M) (h2 : M ≤ cp) (w : World) : (Instr.sliceAt 23 (.slice (some ⟨b, o, none⟩) M cp) none (some (.int .i64 (K : Nat))) none).run Try.prog w = .ok (.slice (some ⟨b, o, none⟩) K cp) w := by
  simp [go_sem]
  intro h; omega
theorem run_fr_q {b o K M cp : Nat} (h1 : K ≤ M) (w : World) : (Instr.sliceAt 23 (.slice (some ⟨b, o, none⟩) M cp) (some (.int .i64 (K : Nat))) none none).run Try.prog w = .ok (.slice (some ⟨b, if cp = K then o else o + K * 2, none⟩) (M - K) (cp - K)) w := by
  have h2 : K ≤ M := h1
  by_cases h : cp = K
  · simp [go_sem, h1, h]
  · simp [go_sem, h1, h]
theorem part_to_q {b o c K : Nat} {l : List Aq} (hr : Kit.Row encQ 2 w (some ⟨b, o, none⟩) l) (hK : K ≤ l.length) (hg : b < w.heap.size) (w' : World) (hb : Below w.heap.size w w') (v : Value) (hv : ∀ b, v.ownBlock = some b → b < w'.heap.size ∧ w.heap.size ≤ b) : Nest.Part encQ 2 w' v (.slice (some ⟨b, o, none⟩) K c) (l.take K) := by
  have := Nest.part_old (c := c) encQ_len (row_take hr K) (fun e => by cases e) (fun q hq _ => by cases hq; exact hg) hb v hv
  rwa [List.length_take, Nat.min_eq_left hK] at this
theorem part_fr_q {b o cp K : Nat} {l : List Aq} (hr : Kit.Row encQ 2 w (some ⟨b, o, none⟩) l) (hK : K ≤ l.length) (hc : l.length ≤ cp) (hg : b < w.heap.size) (w' : World) (hb : Below w.heap.size w w') (v : Value) (hv : ∀ b, v.ownBlock = some b → b < w'.heap.size ∧ w.heap.size ≤ b) : Nest.Part encQ 2 w' v (.slice (some ⟨b, if cp = K then o else o + K * 2, none⟩) (l.length - K) (cp - K)) (l.drop K) := by
  have h : Kit.Row encQ 2 w (some ⟨b, if cp = K then o else o + K * 2, none⟩) (l.drop K) := by
    by_cases e : cp = K
    · exact .inl (List.drop_eq_nil_of_le (by omega))
    · rw [if_neg e]
      exact row_drop hr K
  have := Nest.part_old (c := cp - K) encQ_len h (fun e => by cases e) (fun q hq _ => by cases hq; exact hg) hb v hv
  rwa [List.length_drop] at this
theorem tyQ : Nest.Ty encQ 2 Try.prog 23 35 (.agg #[.int .i64 0, .int .i64 0]) 16 := ⟨encQ_len, by decide, encQ_one, Try.underlying23, info_ask, rfl⟩
theorem asks_of {L : Array Bool} {s : Nat → Value} {vd : Value} {w0 : World} {P1 P2 P3 : List Aq} (h : Nest.JE nRef 2 51 encQ 2 35 w0 vd P1 P2 P3 L s w) (f1 : L.getD 6 false = true) (f2 : L.getD 11 false = true) (f3 : L.getD 98 false = false) :
    ∃ a c, s 60 = .slice a ([] ++ P1 ++ P2).length c ∧ Asks w a ([] ++ P1 ++ P2).length c ([] ++ P1 ++ P2) := by
  have h2 := h.own
  change Owns encQ 2 35 w w0.heap.size (Nest.cur (L.getD 6 false) (L.getD 11 false) (L.getD 98 false) _ (s 55) (s 60) (s 98)) (Nest.lst (L.getD 6 false) (L.getD 11 false) (L.getD 98 false) [] P1 P2 P3) at h2
  rw [f1, f2, f3] at h2
  exact own_asks h2
/-- Without one that is refused all have the same turn. -/
theorem without {al : Int} {l : List Bz} {q : List Aq} {k n : Nat} (hk : k < q.length) (hn : q.length = n) :
    ∃ i2 k2, nextI 0 al l ([] ++ q.take k ++ q.drop (k + 1)) [] = i2 ∧ nextB 0 al l ([] ++ q.take k ++ q.drop (k + 1)) [] = k2 ∧
      ((k2 = false ∧ i2 = 0 ∧ nextI 0 al l q ((List.replicate n false).set k true) = 0 ∧ nextB 0 al l q ((List.replicate n false).set k true) = false) ∨
       (k2 = true ∧ ∃ m : Nat, i2 = m ∧ m < k ∧ nextI 0 al l q ((List.replicate n false).set k true) = m ∧ nextB 0 al l q ((List.replicate n false).set k true) = true) ∨
       (k2 = true ∧ ∃ m : Nat, i2 = m ∧ k ≤ m ∧ m ≤ n ∧ nextI 0 al l q ((List.replicate n false).set k true) = (m + 1 : Nat) ∧ nextB 0 al l q ((List.replicate n false).set k true) = true)) := by
  have hq : q.take k ++ q[k] :: q.drop (k + 1) = q := by rw [← List.drop_eq_getElem_cons hk, List.take_append_drop]
  have hlk : (q.take k).length = k := by rw [List.length_take]; omega
  have hr := go_refused (now := 0) (total := al) (l := l) (q.take k) q[k] (q.drop (k + 1)) none n (by rw [hlk]; omega)
  rw [hq, hlk] at hr
  rw [List.nil_append]
  unfold nextI nextB next
  rw [hr]
  rcases ho : go 0 al l none (q.take k ++ q.drop (k + 1)) [] with _ | m
  · exact ⟨_, _, rfl, rfl, .inl ⟨rfl, rfl, rfl, rfl⟩⟩
  · by_cases hm : k ≤ m
    · obtain ⟨x, hx, -⟩ := go_ok ho
      have := (List.getElem?_eq_some_iff.1 hx).1
      rw [List.length_append, List.length_take, List.length_drop] at this
      refine ⟨_, _, rfl, rfl, .inr (.inr ⟨rfl, m, rfl, hm, by omega, ?_, rfl⟩)⟩
      simp only [Option.map_some, if_pos hm]
    · refine ⟨_, _, rfl, rfl, .inr (.inl ⟨rfl, m, rfl, by omega, ?_, rfl⟩)⟩
      simp only [Option.map_some, if_neg hm]
set_option maxHeartbeats 16000000 in
theorem refused_any (hP : Prog) (W : World) (tot8 : Int) (ab : Option Addr) (n cb : Nat) (l : List Bz) (a3 : Option Addr) (n3 c3 : Nat) (q : List Aq) (u : Int) (h0 : 0 ≤ tot8 ∧ tot8 ≤ 255) (h : Busys W ab n cb l) (hq : Asks W a3 n3 c3 q) (hu : 0 ≤ u ∧ u ≤ 255) :
    Calls Try.prog 5 #[.int .u8 tot8, .slice ab n cb, .slice a3 n3 c3, .int .u8 u] W fun e w' => e = .returned (.bool true) ∧ Below W.heap.size W w' := by
  have HP := Lib.hid hP
  have HL := Lib.hid (And.intro h hq)
  obtain ⟨h00, h01⟩ := h0
  have t0 : 0 ≤ tot8 % 40 := Int.emod_nonneg _ (by omega)
  have t1 : tot8 % 40 ≤ 39 := by have := Int.emod_lt_of_pos tot8 (show (0 : Int) < 40 by omega); omega
  have HC0 := Lib.hid (rbusy9_any W ab n cb l h)
  have HM := Lib.hid (busy9_may (l := l))
  obtain ⟨lb, hlb⟩ : ∃ lb, lb = busy9 l := ⟨_, rfl⟩
  rw [← hlb] at HC0 HM
  obtain ⟨nb, hnb⟩ : ∃ nb, nb = lb.length := ⟨_, rfl⟩
  have HNb := Lib.hid hnb
  have hnb40 : nb ≤ 40 := by rw [hnb]; exact HM.out.2
  clear hP h hq hlb hnb
  go_enter Try.func5, Try.ntmps5
  go_wp2_with fail
  refine HC0.out.mono ?_
  rintro e w3 ⟨v3, rfl, ho3, hb3⟩
  obtain ⟨a5, c5, rfl, l5⟩ := own_busys ho3
  rw [← HNb.out] at l5 ⊢
  have H3 := Lib.hid (And.intro hb3 l5)
  have HC1 := Lib.hid (rasks_any w3 a3 n3 c3 q (lst_keep encQ_len HL.out.2 H3.out.1))
  have HMq := Lib.hid (asksH_may (l := q))
  obtain ⟨qb, hqb⟩ : ∃ qb, qb = asksH q := ⟨_, rfl⟩
  rw [← hqb] at HC1 HMq
  obtain ⟨mb, hmb⟩ : ∃ mb, mb = qb.length := ⟨_, rfl⟩
  have HMb := Lib.hid hmb
  have hmb30 : mb ≤ 30 := by have := HMq.out.2; omega
  clear hqb hmb hb3 ho3 l5 HC0
  go_wp2_with fail
  refine HC1.out.mono ?_
  rintro e w4 ⟨v4, rfl, ho4, hb4⟩
  have ho4l := World.ownsRow.lt ho4
  obtain ⟨a6, c6, rfl, l6⟩ := own_asks ho4
  rw [← HMb.out] at l6 ho4 ho4l ⊢
  have H4 := Lib.hid (And.intro (below_keep H3.out.1 hb4) (And.intro (lst_keep encZ_len H3.out.2 hb4) l6))
  have HO4 := Lib.hid ho4l
  obtain ⟨al, hal⟩ : ∃ al, al = tot8 % 40 := ⟨_, rfl⟩
  have HAl := Lib.hid hal
  clear hb4 ho4 l6 HC1 H3 ho4l hal
  rcases Nat.eq_zero_or_pos mb with hm0 | hm0
  · subst hm0
    have HCa := Lib.hid (awake_any HP.out w4)
    go_wp2_with fail
    refine HCa.out.mono ?_
    rintro e w5 ⟨rfl, hb5⟩
    have H5 := Lib.hid (below_keep H4.out.1 hb5)
    clear hb5 HCa
    go_wp2_with fail
    go_ret
    exact ⟨rfl, H5.out⟩
  · have hmz : ((mb : Int) == 0) = false := beq_false_of_ne (by omega)
    obtain ⟨t, rfl⟩ : ∃ t : Nat, u = t := ⟨u.toNat, by omega⟩
    have ht : t ≤ 255 := by omega
    obtain ⟨k, hk⟩ : ∃ k, k = t % mb := ⟨_, rfl⟩
    have hkr : k < mb := by rw [hk]; exact Nat.mod_lt _ hm0
    have hmod : (t : Int) % (mb : Int) = (k : Int) := by rw [hk]; rfl
    have hkri : (k : Int) < (mb : Int) := by omega
    have hmk := run_mko w4 mb (by omega)
    obtain ⟨c7, f7, b7, o7⟩ := one_refused w4 (n := mb) (k := k) (by omega) hkr
    obtain ⟨W5, hW5⟩ : ∃ x, x = w4.alloc (.cells (madeCells #[.bool false] mb) 4) := ⟨_, rfl⟩
    rw [← hW5] at hmk c7 f7 b7 o7
    obtain ⟨w5, hw5⟩ : ∃ x, x = W5.setCell ⟨w4.heap.size, k, none⟩ (.bool true) := ⟨_, rfl⟩
    rw [← hw5] at b7 o7
    have HW5 := Lib.hid hw5
    have H5 := Lib.hid (And.intro (below_keep H4.out.1 b7) (And.intro (lst_keep encZ_len H4.out.2.1 b7) (And.intro (lst_keep encQ_len H4.out.2.2 b7) o7)))
    have hs5 := b7.size
    obtain ⟨b6, o6, rfl⟩ := lst_at H4.out.2.2 (by omega)
    obtain ⟨i2, k2, hi2, hk2, hor⟩ := without (al := al) (l := lb) (q := qb) (k := k) (n := mb) (by rw [← HMb.out]; exact hkr) HMb.out.symm
    obtain ⟨i1, hi1⟩ : ∃ i1, i1 = nextI 0 al lb qb ((List.replicate mb false).set k true) := ⟨_, rfl⟩
    obtain ⟨k1, hk1⟩ : ∃ k1, k1 = nextB 0 al lb qb ((List.replicate mb false).set k true) := ⟨_, rfl⟩
    have HC2 := Lib.hid (HP.out.next w5 0 al a5 nb c5 lb (some ⟨b6, o6, none⟩) mb c6 qb (some ⟨w4.heap.size, 0, none⟩) mb mb _ ⟨by omega, by omega⟩ ⟨by rw [HAl.out]; exact t0, by rw [HAl.out]; omega⟩ H5.out.2.1 (fun b hb => (HM.out.1 b hb).2) (by omega) H5.out.2.2.1 HMq.out.1 (by omega) H5.out.2.2.2)
    rw [← hi1, ← hk1] at HC2 hor
    have HI := Lib.hid (And.intro hi2 hk2)
    have HOr := Lib.hid hor
    have hs5w : w4.heap.size < w5.heap.size := by rw [HW5.out, setCell_size, hW5]; simp
    clear hu hk b7 o7 hw5 hi2 hk2 hor hi1 hk1 hW5
    go_upto_region 8 with fail
    rw [← HW5.out, ← HAl.out]
    clear c7 f7 hmk
    go_wp2_with fail
    refine HC2.out.mono ?_
    rintro e w6 ⟨rfl, hb6⟩
    have H6 := Lib.hid (And.intro (below_keep H5.out.1 hb6) (And.intro (lst_keep encZ_len H5.out.2.1 hb6) (lst_keep encQ_len H5.out.2.2.1 hb6)))
    have hb6w : b6 < w6.heap.size := by have := (HO4.out b6 rfl).2; have := hb6.size; omega
    have hqk : qb.length = mb := HMb.out.symm
    have h1l : (qb.take k).length = k := by rw [List.length_take, hqk]; exact Nat.min_eq_left (by omega)
    have h2l : (qb.drop (k + 1)).length = mb - (k + 1) := by rw [List.length_drop, hqk]
    have hp1 := part_to_q (c := c6) H6.out.2.2.row (K := k) (by omega) hb6w
    have hp2 := part_fr_q (cp := c6) H6.out.2.2.row (K := k + 1) (by omega) (by rw [hqk]; exact H6.out.2.2.cap) hb6w
    rw [hqk] at hp2
    have hok : ∀ x ∈ [] ++ qb.take k ++ qb.drop (k + 1), okQ x := by
      intro x hx
      rw [List.nil_append] at hx
      rcases List.mem_append.1 hx with h | h
      · exact HMq.out.1 x (List.mem_of_mem_take h)
      · exact HMq.out.1 x (List.mem_of_mem_drop h)
    have hln : ([] ++ qb.take k ++ qb.drop (k + 1)).length ≤ 100 := by rw [List.nil_append, List.length_append, h1l, h2l]; omega
    have hnx : ∀ w, Below w6.heap.size w6 w → ∀ a c, Asks w a ([] ++ qb.take k ++ qb.drop (k + 1)).length c ([] ++ qb.take k ++ qb.drop (k + 1)) →
        Calls Try.prog 9 #[.int .i64 0, .int .i64 al, .slice a5 nb c5, .slice a ([] ++ qb.take k ++ qb.drop (k + 1)).length c, .slice none 0 0] w fun e W' => e = .returned (.tuple #[.int .i64 i2, .bool k2]) ∧ Below w.heap.size w W' := by
      intro w hb a c hl
      have := HP.out.next w 0 al a5 nb c5 lb a _ c _ none 0 0 [] ⟨by omega, by omega⟩ ⟨by rw [HAl.out]; exact t0, by rw [HAl.out]; omega⟩ (lst_keep encZ_len H6.out.2.1 hb) (fun b hb => (HM.out.1 b hb).2) (by omega) hl hok hln (lst_none _ _ _)
      rwa [HI.out.1, HI.out.2] at this
    have HLn := Lib.hid hln
    generalize qb.take k = P1 at h1l hp1 hnx HLn hok
    generalize qb.drop (k + 1) = P2 at h2l hp2 hnx HLn hok
    have HD := Lib.hid (show ([] : List Aq).length + P1.length ≤ maxLen ∧ (([] : List Aq).length + P1.length) * 16 ≤ 140737488355328 ∧ ([] ++ P1).length + P2.length ≤ maxLen ∧ (([] ++ P1).length + P2.length) * 16 ≤ 140737488355328 from by
      simp only [List.length_append, List.length_nil, h1l, h2l]
      unfold maxLen; omega)
    have HP1 := Lib.hid hp1
    have HP2 := Lib.hid hp2
    have HNx := Lib.hid hnx
    have HKr := Lib.hid (And.intro (show k ≤ mb by omega) H6.out.2.2.cap)
    have HKr1 := Lib.hid (show k + 1 ≤ mb by omega)
    have HK30 := Lib.hid (show k ≤ 30 by omega)
    clear hb6 hqk h1l h2l hp1 hp2 hok hln hnx HLn hs5 hs5w hb6w HC2 HI
    go_wp2_with fail
    refine Rel.wp_region_see (G := Rel.Gt) (Rel.tab [.is (.int .i64 al), .is (.slice a5 nb c5), Rel.Kd.any, .is (.slice (some ⟨b6, o6, none⟩) mb c6), .is (.int .i64 (k : Nat)), Rel.Kd.any, Rel.Kd.any, .is (.slice (some ⟨b6, o6, none⟩) mb c6), .is (.int .i64 (k : Nat)), .is (.int .i64 ((k + 1 : Nat) : Int)), Rel.Kd.any, Rel.Kd.any, .is (.tuple #[.int .i64 i2, .bool k2]), .is (.tuple #[.int .i64 i2, .bool k2]), .is (.int .i64 i2), .is (.bool k2), .is (.int .i64 i2), .is (.bool k2)]) (Nest.JE nRef 2 51 encQ 2 35 w6 undef P1 P2 []) (by kernel_rfl) (by kernel_rfl) (by kernel_rfl) (by kernel_rfl) (fun w => trivial) (Nest.startE _ _ _ _ _ rfl (below_drew _)) ?_ ?_
    · refine ⟨?_, ?_, ?_, ?_, ?_, ?_, ?_, ?_, ?_, ?_, ?_, ?_, ?_, ?_, ?_, ?_, ?_, ?_, trivial⟩
      · intro L a w c j
        refine .inl ⟨Rel.wanted_free (by kernel_rfl) _, ?_⟩
        exact Rel.wp_mv _ rfl ⟨_, rfl, trivial, (c.old 9 (v := .int .i64 al) (by kernel_rfl) (by kernel_rfl)), (Nest.onE (by decide) (by decide) (Nest.go encQ_len j (k := 0) (d := 49) (by kernel_rfl) (by kernel_rfl) (Below.refl _ _)))⟩
      · intro L a w c j
        refine .inl ⟨Rel.wanted_free (by kernel_rfl) _, ?_⟩
        exact Rel.wp_mv _ rfl ⟨_, rfl, trivial, (c.old 10 (v := .slice a5 nb c5) (by kernel_rfl) (by kernel_rfl)), (Nest.onE (by decide) (by decide) (Nest.go encQ_len j (k := 1) (d := 50) (by kernel_rfl) (by kernel_rfl) (Below.refl _ _)))⟩
      · intro L a w c j
        refine .inl ⟨Rel.wanted_free (by kernel_rfl) _, ?_⟩
        exact Chn.wp_bs0 _ rfl (run_bs0_q w) ⟨_, rfl, trivial, trivial, Nest.empE encQ_len j (by kernel_rfl) (by kernel_rfl) (by rw [c.room]; exact of_decide_eq_true (by kernel_rfl)) (by rw [c.size]; exact of_decide_eq_true (by kernel_rfl)) (Rel.free_no c.free) (c.later 6 (by kernel_rfl)) (c.later2 11 6 (by kernel_rfl) (c.later 6 (by kernel_rfl))) (Nest.far_no j (by rw [c.size]; exact of_decide_eq_true (by kernel_rfl)))⟩
      · intro L a w c j
        refine .inl ⟨Rel.wanted_free (by kernel_rfl) _, ?_⟩
        exact Rel.wp_mv _ rfl ⟨_, rfl, trivial, (c.old 11 (v := .slice (some ⟨b6, o6, none⟩) mb c6) (by kernel_rfl) (by kernel_rfl)), (Nest.onE (by decide) (by decide) (Nest.go encQ_len j (k := 3) (d := 52) (by kernel_rfl) (by kernel_rfl) (Below.refl _ _)))⟩
      · intro L a w c j
        refine .inl ⟨Rel.wanted_free (by kernel_rfl) _, ?_⟩
        exact Rel.wp_mv _ rfl ⟨_, rfl, trivial, (c.old 12 (v := .int .i64 (k : Nat)) (by kernel_rfl) (by kernel_rfl)), (Nest.onE (by decide) (by decide) (Nest.go encQ_len j (k := 4) (d := 53) (by kernel_rfl) (by kernel_rfl) (Below.refl _ _)))⟩
      · intro L a w c j
        refine .inl ⟨Rel.wanted_free (by kernel_rfl) _, ?_⟩
        exact Rel.wp_sl _ _ none _ none rfl (c.get 3 52 (by kernel_rfl)) rfl (congrArg some (c.get 4 53 (by kernel_rfl))) rfl (run_to_q HKr.out.1 HKr.out.2 w) ⟨_, rfl, trivial, trivial, Nest.onE (by decide) (by decide) (Nest.mk1 encQ_len j (by kernel_rfl) (by kernel_rfl) (by rw [c.room]; exact of_decide_eq_true (by kernel_rfl)) (Below.refl _ _) (fun v hv => HP1.out w j.below v hv))⟩
      · intro L a w c j
        refine .inl ⟨Rel.wanted_free (by kernel_rfl) _, ?_⟩
        obtain ⟨v9, w9, hr, hj⟩ := Nest.ap1E tyQ j (by decide) (by decide) (c.came 2 (by kernel_rfl)) (by kernel_rfl) (by kernel_rfl) (by rw [c.room]; exact of_decide_eq_true (by kernel_rfl)) (by rw [c.size]; exact of_decide_eq_true (by kernel_rfl)) (Rel.free_no c.free) (c.later 11 (by kernel_rfl)) (Nest.far_no j (by rw [c.size]; exact of_decide_eq_true (by kernel_rfl))) (c.came 5 (by kernel_rfl)) (Nest.far_no j (by rw [c.size]; exact of_decide_eq_true (by kernel_rfl))) HD.out.1 HD.out.2.1 23
        exact Chn.wp_ap _ _ _ rfl rfl rfl hr ⟨_, rfl, trivial, trivial, hj⟩
      · intro L a w c j
        refine .inl ⟨Rel.wanted_free (by kernel_rfl) _, ?_⟩
        exact Rel.wp_mv _ rfl ⟨_, rfl, trivial, (c.old 11 (v := .slice (some ⟨b6, o6, none⟩) mb c6) (by kernel_rfl) (by kernel_rfl)), (Nest.onE (by decide) (by decide) (Nest.go encQ_len j (k := 7) (d := 56) (by kernel_rfl) (by kernel_rfl) (Below.refl _ _)))⟩
      · intro L a w c j
        refine .inl ⟨Rel.wanted_free (by kernel_rfl) _, ?_⟩
        exact Rel.wp_mv _ rfl ⟨_, rfl, trivial, (c.old 12 (v := .int .i64 (k : Nat)) (by kernel_rfl) (by kernel_rfl)), (Nest.onE (by decide) (by decide) (Nest.go encQ_len j (k := 8) (d := 57) (by kernel_rfl) (by kernel_rfl) (Below.refl _ _)))⟩
      · intro L a w c j
        refine .inl ⟨Rel.wanted_free (by kernel_rfl) _, ?_⟩
        exact Rel.wp_bo _ _ _ _ _ rfl (u := .int .i64 ((k + 1 : Nat) : Int)) (c.get 8 57 (by kernel_rfl)) rfl (by simp [go_sem]; exact IntWalk.i64_in ((k : Int) + 1) (by have := HK30.out; omega)) ⟨_, rfl, trivial, rfl, (Nest.onE (by decide) (by decide) (Nest.go encQ_len j (k := 9) (d := 58) (by kernel_rfl) (by kernel_rfl) (Below.refl _ _)))⟩
      · intro L a w c j
        refine .inl ⟨Rel.wanted_free (by kernel_rfl) _, ?_⟩
        exact Rel.wp_sl _ _ _ none none rfl (c.get 7 56 (by kernel_rfl)) (congrArg some (c.get 9 58 (by kernel_rfl))) rfl rfl (run_fr_q HKr1.out w) ⟨_, rfl, trivial, trivial, Nest.onE (by decide) (by decide) (Nest.mk2 encQ_len j (by kernel_rfl) (by kernel_rfl) (by rw [c.room]; exact of_decide_eq_true (by kernel_rfl)) (Below.refl _ _) (fun v hv => HP2.out w j.below v hv))⟩
      · intro L a w c j
        refine .inl ⟨Rel.wanted_free (by kernel_rfl) _, ?_⟩
        obtain ⟨v9, w9, hr, hj⟩ := Nest.ap2 tyQ j (by kernel_rfl) (by kernel_rfl) (by rw [c.room]; exact of_decide_eq_true (by kernel_rfl)) (by rw [c.size]; exact of_decide_eq_true (by kernel_rfl)) (c.came 6 (by kernel_rfl)) (Rel.free_no c.free) (Nest.far_no j (by rw [c.size]; exact of_decide_eq_true (by kernel_rfl))) (c.came 10 (by kernel_rfl)) (Nest.far_no j (by rw [c.size]; exact of_decide_eq_true (by kernel_rfl))) HD.out.2.2.1 HD.out.2.2.2 23
        exact Chn.wp_ap _ _ _ rfl rfl rfl hr ⟨_, rfl, trivial, trivial, Nest.onE (by decide) (by decide) hj⟩
      · intro L a w c j
        refine .inl ⟨Rel.wanted_free (by kernel_rfl) _, ?_⟩
        obtain ⟨x2, y2, e2, l2⟩ := asks_of j (c.via 11 6 (by kernel_rfl) (c.came 11 (by kernel_rfl))) (c.came 11 (by kernel_rfl)) (Nest.far_no j (by rw [c.size]; exact of_decide_eq_true (by kernel_rfl)))
        refine Rel.wp_cl _ _ _ rfl Try.func9 (by kernel_rfl) ?_
        show Calls _ _ #[.int .i64 0, Rel.slot a 49, Rel.slot a 50, Rel.slot a 60, .slice none 0 0] w _
        rw [c.get 0 49 (by kernel_rfl), c.get 1 50 (by kernel_rfl), e2]
        refine (HNx.out w j.below _ _ l2).mono ?_
        rintro e w' ⟨rfl, hb⟩
        exact ⟨_, rfl, _, rfl, trivial, rfl, (Nest.onE (by decide) (by decide) (Nest.go encQ_len j (k := 12) (d := 61) (by kernel_rfl) (by kernel_rfl) hb))⟩
      · intro L a w c j
        refine .inl ⟨Rel.wanted_free (by kernel_rfl) _, ?_⟩
        exact Rel.wp_mv _ rfl ⟨_, rfl, trivial, (c.get 12 61 (by kernel_rfl)), (Nest.onE (by decide) (by decide) (Nest.go encQ_len j (k := 13) (d := 48) (by kernel_rfl) (by kernel_rfl) (Below.refl _ _)))⟩
      · intro L a w c j
        refine .inl ⟨Rel.wanted_free (by kernel_rfl) _, ?_⟩
        exact Rel.wp_ex _ _ rfl (c.get 13 48 (by kernel_rfl)) (run_x0 _ _ w) ⟨_, rfl, trivial, rfl, (Nest.onE (by decide) (by decide) (Nest.go encQ_len j (k := 14) (d := 62) (by kernel_rfl) (by kernel_rfl) (Below.refl _ _)))⟩
      · intro L a w c j
        refine .inl ⟨Rel.wanted_free (by kernel_rfl) _, ?_⟩
        exact Rel.wp_ex _ _ rfl (c.get 13 48 (by kernel_rfl)) (run_x1 _ _ w) ⟨_, rfl, trivial, rfl, (Nest.onE (by decide) (by decide) (Nest.go encQ_len j (k := 15) (d := 63) (by kernel_rfl) (by kernel_rfl) (Below.refl _ _)))⟩
      · intro L a w c j
        refine .inl ⟨Rel.wanted_free (by kernel_rfl) _, ?_⟩
        exact Rel.wp_as _ rfl ⟨_, rfl, trivial, (c.get 14 62 (by kernel_rfl)), (Nest.onE (by decide) (by decide) (Nest.go encQ_len j (k := 16) (d := 16) (by kernel_rfl) (by kernel_rfl) (Below.refl _ _)))⟩
      · intro L a w c j
        refine .inl ⟨Rel.wanted_free (by kernel_rfl) _, ?_⟩
        exact Rel.wp_as _ rfl ⟨_, rfl, trivial, (c.get 15 63 (by kernel_rfl)), (Nest.onE (by decide) (by decide) (Nest.go encQ_len j (k := 17) (d := 17) (by kernel_rfl) (by kernel_rfl) (Below.refl _ _)))⟩
    intro a w9 hbase hroom hdef hJ hV
    have hE : Below w6.heap.size w6 w9 := hJ.below
    clear hJ
    have s16 : Rel.slot a 16 = .int .i64 i2 := hV 16 _ _ rfl rfl
    have s17 : Rel.slot a 17 = .bool k2 := hV 17 _ _ rfl rfl
    rw [Chn.act_puts [49, 50, 51, 52, 53, 54, 55, 56, 57, 58, 59, 60, 61, 48, 62, 63, 16, 17] hbase hroom hdef (by kernel_rfl)]
    clear hbase hroom hdef hV
    simp only [List.foldl_cons, List.foldl_nil]
    generalize Rel.slot a 49 = u49 at *
    generalize Rel.slot a 50 = u50 at *
    generalize Rel.slot a 51 = u51 at *
    generalize Rel.slot a 52 = u52 at *
    generalize Rel.slot a 53 = u53 at *
    generalize Rel.slot a 54 = u54 at *
    generalize Rel.slot a 55 = u55 at *
    generalize Rel.slot a 56 = u56 at *
    generalize Rel.slot a 57 = u57 at *
    generalize Rel.slot a 58 = u58 at *
    generalize Rel.slot a 59 = u59 at *
    generalize Rel.slot a 60 = u60 at *
    generalize Rel.slot a 61 = u61 at *
    generalize Rel.slot a 48 = u48 at *
    generalize Rel.slot a 62 = u62 at *
    generalize Rel.slot a 63 = u63 at *
    rw [s16]
    clear s16
    rw [s17]
    clear s17
    simp only [Act.put, List.setIfInBounds_toArray, List.set_cons_succ, List.set_cons_zero]
    have HE := Lib.hid (below_keep H6.out.1 hE)
    have HCa := Lib.hid (awake_any HP.out w9)
    clear hE hmz hmod hkri
    rcases HOr.out with ⟨rfl, rfl, rfl, rfl⟩ | ⟨rfl, m, rfl, hm, rfl, rfl⟩ | ⟨rfl, m, rfl, hm, hm2, rfl, rfl⟩
    · by_cases hk0 : (k : Int) ≤ 0
      all_goals
        go_wp2_with fail
        refine HCa.out.mono ?_
        rintro e w10 ⟨rfl, hb10⟩
        have HF := Lib.hid (below_keep HE.out hb10)
        clear hb10
        go_wp2_with fail
        go_ret
        exact ⟨rfl, HF.out⟩
    · have hge : decide ((m : Int) ≥ (k : Int)) = false := decide_eq_false (by omega)
      have hge2 : ¬ (k : Int) ≤ (m : Int) := by omega
      have hne : ((m : Int) == (k : Int)) = false := beq_false_of_ne (by omega)
      have hne2 : ¬ (m : Int) = (k : Int) := by omega
      go_wp2_with fail
      refine HCa.out.mono ?_
      rintro e w10 ⟨rfl, hb10⟩
      have HF := Lib.hid (below_keep HE.out hb10)
      clear hb10
      go_wp2_with fail
      go_ret
      exact ⟨by first | rfl | exact ret_bool (by simp [hne2]), HF.out⟩
    · have hge2 : (k : Int) ≤ (m : Int) := by omega
      have hne2 : ¬ ((m : Int) + 1) = (k : Int) := by omega
      go_wp2_with fail
      refine HCa.out.mono ?_
      rintro e w10 ⟨rfl, hb10⟩
      have HF := Lib.hid (below_keep HE.out hb10)
      clear hb10
      go_wp2_with fail
      go_ret
      exact ⟨by first | rfl | exact ret_bool (by simp [hne2]), HF.out⟩
end Go.Proofs.Ythpeahphnegedaa.Esy
