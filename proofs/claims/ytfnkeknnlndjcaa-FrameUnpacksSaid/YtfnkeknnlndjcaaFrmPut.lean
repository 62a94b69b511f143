/- Frame: the landed Pack. -/
import Derived.Test.YtfnkeknnlndjcaaFrmIt
import Derived.Test.YtfnkeknnlndjcaaRngApp
namespace Go.Proofs.Ytfnkeknnlndjcaa.Frm
open Go.RowKit
open Go.Sort
open Kit
open Oct
open Chk
open Rng
set_option linter.unusedVariables false
attribute [local go_sem] Oper.semAt_some

def FP {cnt : Nat} (g : Nat → Bs) (pre : List { k : Nat // k < cnt }) : Bs := pre.flatMap fun x => g x.1
theorem fp_snoc {cnt : Nat} (g : Nat → Bs) (pre : List { k : Nat // k < cnt }) (x : { k : Nat // k < cnt }) : FP g (pre ++ [x]) = FP g pre ++ g x.1 := by simp [FP]
theorem fp_length {cnt : Nat} {g : Nat → Bs} {m : Nat} (hg : ∀ k, k < cnt → (g k).length = m) : ∀ pre : List { k : Nat // k < cnt }, (FP g pre).length = m * pre.length
  | [] => rfl
  | x :: pre => by
    have := fp_length hg pre
    show (g x.1 ++ FP g pre).length = _
    rw [List.length_append, hg x.1 x.2, this, List.length_cons, Nat.mul_add, Nat.mul_one]; omega
theorem fp_map {cnt : Nat} (g : Nat → Bs) (pre : List { k : Nat // k < cnt }) : FP g pre = (pre.map (·.1)).flatMap g := by
  unfold FP; rw [List.flatMap_map]
theorem packN_flat (d mk : Bs) : ∀ k, (List.range k).flatMap (fun i => chunk d i ++ mk) = packN d mk (24 * k)
  | 0 => rfl
  | k + 1 => by rw [List.range_succ, List.flatMap_append, packN_flat d mk k, packN_sector, List.append_assoc]; simp

/-- A round that appends two lists, in any order of its reading. -/
def phiPut (W w0 : World) (base B : Nat) (rows : List (Option Addr × Bs)) (boxes : List (Nat × TypeId × Value)) (f k1 k2 : Bs) (v : Value) : Nat → List Value → World → Prop
  | 0, _, w => w = W.drew
  | 1, vs, w => ∃ u, vs = [u] ∧ Mid w0 base B rows boxes (f ++ k1) w v u ∧ KeepsOthers W w
  | 2, vs, w => ∃ x u, vs = [x, u] ∧ Mid w0 base B rows boxes (f ++ k1 ++ k2) w v u ∧ KeepsOthers W w
  | _, _, w => Inv9 w0 base B rows boxes (f ++ k1 ++ k2) w ∧ KeepsOthers W w
theorem mid_drew {w0 W : World} {base B : Nat} {rows : List (Option Addr × Bs)} {boxes : List (Nat × TypeId × Value)} {f : Bs} {v u : Value} (h : Mid w0 base B rows boxes f W v u) : Mid w0 base B rows boxes f W.drew v u :=
  ⟨h.box, h.own, h.vnot, h.far, h.row, h.bx, h.low, h.bel.drew⟩
theorem put_bx {W w0 w : World} {base B : Nat} {rows : List (Option Addr × Bs)} {boxes : List (Nat × TypeId × Value)} {f k1 k2 : Bs} {v : Value} {j : Nat} {vs : List Value} (hM : Mid w0 base B rows boxes f W v v) (hj : j ≤ 1) (h : phiPut W w0 base B rows boxes f k1 k2 v j vs w) {b : Nat × TypeId × Value} (hb : b ∈ boxes) : Boxed w b.1 b.2.1 b.2.2 := by
  match j, hj with
  | 0, _ => obtain rfl : w = W.drew := h; exact ((mid_drew hM).bx b hb).2.2
  | 1, _ => obtain ⟨u, _, hm, _⟩ := h; exact (hm.bx b hb).2.2

theorem put_v0 {W w0 w : World} {base B : Nat} {rows : List (Option Addr × Bs)} {boxes : List (Nat × TypeId × Value)} {f k1 k2 : Bs} {v : Value} {j : Nat} {vs : List Value} (hM : Mid w0 base B rows boxes f W v v) (hj : j ≤ 0) (h : phiPut W w0 base B rows boxes f k1 k2 v j vs w) : w.cell? ⟨B, 0, none⟩ = some v := by
  match j, hj with
  | 0, _ => obtain rfl : w = W.drew := h; exact (mid_drew hM).box.cell

theorem run_make_cap (n : Nat) (hn : n ≤ 1000000) (w : World) : (Instr.makeSlice 22 (.int .i64 0) (.int .i64 (n : Nat))).run Try.prog w = .ok (.slice (some ⟨w.heap.size, 0, none⟩) 0 n) (w.alloc (.cells (madeCells #[.int .u8 0] n) 5)) := by
  obtain ⟨i0, hi, hz0, hz1, hz2⟩ := info_parts info8
  have := run_make (P := Try.prog) w 22 5 i0 (.int .u8 0) Try.underlying22 hi hz0 .i64 .i64 0 n (by omega) (by omega) (by rw [hz2]; omega) (by omega)
  rw [hz1, Nat.mul_one] at this
  exact this
theorem own_made_cap (w : World) (base n : Nat) (hb : base ≤ w.heap.size) (hn : n ≤ maxLen) : OwnB (w.alloc (.cells (madeCells #[.int .u8 0] n) 5)) base (.slice (some ⟨w.heap.size, 0, none⟩) 0 n) [] :=
  own_iff.2 ⟨rfl, .inr ⟨_, n, _, rfl, hb, heap_alloc_new w _, Nat.zero_le _, hn, by rw [size_madeCells, Nat.mul_one], by simp [cellsB]⟩⟩

set_option maxHeartbeats 4000000 in
theorem pack_bad (e q : Int) (he : -9223372036854775808 ≤ e ∧ e ≤ 9223372036854775807) (hq : -9223372036854775808 ≤ q ∧ q ≤ 9223372036854775807) (aa : Option Addr) (len cap : Nat) (w : World) (h : ¬ inE e q) :
    Calls Try.prog 6 #[.int .i64 e, .int .i64 q, .slice aa len cap] w fun e w' => e = .returned (.tuple #[.slice none 0 0, .int .i64 1]) ∧ w = w' := by
  have HQ := Lib.hid (And.intro he hq)
  by_cases h0 : 0 ≤ e ∧ e < 4294967296
  · have h1 : ¬ (0 ≤ q ∧ q < 4294967296) := fun h1 => h ⟨h0, h1⟩
    have d0 := Lib.hid (decide_eq_true h0)
    have d1 := Lib.hid (decide_eq_false h1)
    clear h0 h1 h he hq
    go_enter Try.func6, Try.ntmps6
    go_wp2_with fail
    refine (half_any e w HQ.out.1).mono ?_
    rw [d0.out]
    rintro e1 w1 ⟨rfl, rfl⟩
    go_wp2_with fail
    refine (half_any q w HQ.out.2).mono ?_
    rw [d1.out]
    rintro e1 w1 ⟨rfl, rfl⟩
    go_wp2
    go_ret2
    exact ⟨rfl, rfl⟩
  · have d0 := Lib.hid (decide_eq_false h0)
    clear h0 h he hq
    go_enter Try.func6, Try.ntmps6
    go_wp2_with fail
    refine (half_any e w HQ.out.1).mono ?_
    rw [d0.out]
    rintro e1 w1 ⟨rfl, rfl⟩
    go_wp2
    go_ret2
    exact ⟨rfl, rfl⟩

set_option maxRecDepth 100000 in
set_option maxHeartbeats 8000000 in
theorem pack_ok (e q : Nat) (he : e < 4294967296) (hq : q < 4294967296) (aa : Option Addr) (len cap : Nat) (l : Bs) (w : World) (h : Arg w aa len cap l) (hm : len ≤ 1900) :
    Calls Try.prog 6 #[.int .i64 (e : Nat), .int .i64 (q : Nat), .slice aa len cap] w fun e' w' => ∃ v, e' = .returned (.tuple #[v, .int .i64 0]) ∧ OwnB w' w.heap.size v (packB e q l) ∧ Below w.heap.size w w' := by
  have HA := Lib.hid h
  have hcl := h.cap
  have hcm := h.max
  unfold maxLen at hcm
  have H1 := half_any (e : Int) w (by omega)
  rw [show decide (0 ≤ (e : Int) ∧ (e : Int) < 4294967296) = true from decide_eq_true (by omega)] at H1
  have H2 := half_any (q : Int) w (by omega)
  rw [show decide (0 ≤ (q : Int) ∧ (q : Int) < 4294967296) = true from decide_eq_true (by omega)] at H2
  have HH := Lib.hid (And.intro H1 H2)
  clear H1 H2 h
  refine (callsIn_wide (n := 9)).1 ?_
  refine callsIn_of_wp_marks Try.func6 rfl trivial ?_ rfl
  simp only [Try.ntmps6, List.size_toArray, List.length_cons, List.length_nil, Nat.reduceAdd, Nat.reduceSub, Array.replicate_succ, Array.replicate_zero, List.push_toArray, List.append_toArray, List.nil_append, List.cons_append]
  gi_wp2_with fail
  refine ⟨trivial, callsIn_wide.2 (HH.out.1.mono ?_)⟩
  rintro e1 w1 ⟨rfl, rfl⟩
  gi_wp2_with fail
  refine ⟨trivial, callsIn_wide.2 (HH.out.2.mono ?_)⟩
  rintro e1 w1 ⟨rfl, rfl⟩
  gi_wp2_with fail
  refine ⟨trivial, callsIn_wide.2 ((stampOf_any e q he hq w).mono ?_)⟩
  rintro e1 w1 ⟨sb, sc, rfl, hs1, hs2, hs3, hb1⟩
  have HS := Lib.hid (And.intro hs3 hb1)
  unfold maxLen at hs2
  clear hs3 hb1
  gi_wp2_with fail
  obtain ⟨K, hK⟩ : ∃ K, secs len = K := ⟨_, rfl⟩
  refine ⟨trivial, callsIn_wide.2 ((sectors_is len K (by omega) hK _).mono ?_)⟩
  rintro e2 w2 ⟨rfl, hw⟩
  have hsl : secs len ≤ 81 := by unfold secs; omega
  obtain ⟨n32, hn32⟩ : ∃ n, n = 32 * K := ⟨_, rfl⟩
  have hmul : (K : Int) * 32 = (n32 : Nat) := by omega
  have hn7 : n32 ≤ 3000 := by omega
  obtain ⟨B8, hB8⟩ : ∃ x, x = w1.heap.size := ⟨_, rfl⟩
  have hsz2 : w2.heap.size = B8 + 1 := by rw [← hw, hB8]; simp
  have hBel2 : Below w.heap.size w w2 := by rw [← hw]; exact HS.out.2.alloc HS.out.2.size _
  have hwB8 : w.heap.size ≤ B8 := by rw [hB8]; exact HS.out.2.size
  have H2 := Lib.hid (show Boxed w2 B8 tB (.slice (some ⟨sb, 0, none⟩) 8 sc) ∧ RowB w2 (some ⟨sb, 0, none⟩) (mark e q) ∧ sb < B8 ∧ w2.heap.size = B8 + 1 ∧ Below w.heap.size w w2 ∧ w.heap.size ≤ B8 from ⟨by rw [← hw, hB8]; exact Boxed.new _ _ _, by rw [← hw]; exact row_alloc HS.out.1 _, by rw [hB8]; exact Kit.row_lt encB_len (by omega) HS.out.1 (by rw [mark_length]; omega), hsz2, hBel2, hwB8⟩)
  have HK := Lib.hid (And.intro hK hn32)
  rw [← hB8]
  clear hw hB8 hsl hBel2 hwB8 hK hn32 HS
  have hmk := run_make_cap n32 (by omega) w2
  have b9 := Boxed.new (w2.alloc (.cells (madeCells #[.int .u8 0] n32) 5)) tB (.slice (some ⟨w2.heap.size, 0, none⟩) 0 n32)
  rw [World.size_alloc] at b9
  have o9 := own_made_cap w2 w.heap.size n32 (Nat.le_trans H2.out.2.2.2.2.2 (by rw [hsz2]; omega)) (by unfold maxLen; omega)
  have c8 := ((H2.out.1.alloc (.cells (madeCells #[.int .u8 0] n32) 5)).alloc (.cells #[.slice (some ⟨w2.heap.size, 0, none⟩) 0 n32] tB)).cell
  have b8 := (H2.out.1.alloc (.cells (madeCells #[.int .u8 0] n32) 5)).alloc (.cells #[.slice (some ⟨w2.heap.size, 0, none⟩) 0 n32] tB)
  have r8 := row_alloc (row_alloc H2.out.2.1 (.cells (madeCells #[.int .u8 0] n32) 5)) (.cells #[.slice (some ⟨w2.heap.size, 0, none⟩) 0 n32] tB)
  have hB3 := (H2.out.2.2.2.2.1.alloc (H2.out.2.2.2.2.1.size) (.cells (madeCells #[.int .u8 0] n32) 5)).alloc (Nat.le_trans H2.out.2.2.2.2.1.size (by simp)) (.cells #[.slice (some ⟨w2.heap.size, 0, none⟩) 0 n32] tB)
  have H3 := Lib.hid (And.intro b9 (And.intro (owns_alloc o9 (.cells #[.slice (some ⟨w2.heap.size, 0, none⟩) 0 n32] tB)) (And.intro b8 (And.intro r8 hB3))))
  clear b9 o9 hsz2 b8 r8 hB3
  gi_wp2_with fail
  refine ⟨trivial, callsIn_wide.2 ((dataOf_any (.slice (some ⟨sb, 0, none⟩) 8 sc) (mark e q) aa len cap l _ ⟨sb, 0, sc, rfl, hs1, by unfold maxLen; omega, H3.out.2.2.2.1⟩ (mark_length e q) (arg_keep (arg_keep HA.out H2.out.2.2.2.2.1) ((below_alloc w2 (.cells (madeCells #[.int .u8 0] n32) 5)).alloc (by simp) (.cells #[.slice (some ⟨w2.heap.size, 0, none⟩) 0 n32] tB))) hm).mono ?_)⟩
  rintro e3 w4 ⟨gd, cd, rfl, ho4, hb4⟩
  clear hmk c8
  rw [HK.out.1] at ho4 ⊢
  gi_wp2_with fail
  refine ⟨trivial, callsIn_wide.2 ((pieces_any (some ⟨gd, 0, none⟩) (24 * K) cd 24 w4).mono ?_)⟩
  rintro e4 w5 ⟨rfl, rfl⟩
  gi_wp2_with fail
  obtain ⟨ROWS, hROWS⟩ : ∃ R, R = ([(some ⟨gd, 0, none⟩, dataP (mark e q) l), (some ⟨sb, 0, none⟩, mark e q)] : List (Option Addr × Bs)) := ⟨_, rfl⟩
  obtain ⟨BOXES, hBOXES⟩ : ∃ R, R = ([(B8, tB, .slice (some ⟨sb, 0, none⟩) 8 sc), (w4.heap.size, tB, .slice (some ⟨gd, 0, none⟩) (24 * K) cd), (w4.heap.size + 1, 3, .int .i64 24)] : List (Nat × TypeId × Value)) := ⟨_, rfl⟩
  have HMem : Hid ((B8, tB, Value.slice (some ⟨sb, 0, none⟩) 8 sc) ∈ BOXES ∧ ((some ⟨sb, 0, none⟩ : Option Addr), mark e q) ∈ ROWS ∧ ((some ⟨gd, 0, none⟩ : Option Addr), dataP (mark e q) l) ∈ ROWS ∧ (w4.heap.size, tB, Value.slice (some ⟨gd, 0, none⟩) (24 * K) cd) ∈ BOXES ∧ (w4.heap.size + 1, 3, Value.int .i64 24) ∈ BOXES) := Lib.hid (by rw [hROWS, hBOXES]; simp)
  have HM : Hid (Mid w w.heap.size (w2.heap.size + 1) ROWS BOXES []
      ((w4.alloc (.cells #[.slice (some ⟨gd, 0, none⟩) (24 * K) cd] 22)).alloc (.cells #[.int .i64 24] 3)) (.slice (some ⟨w2.heap.size, 0, none⟩) 0 n32) (.slice (some ⟨w2.heap.size, 0, none⟩) 0 n32)) := Lib.hid (by
    have hgd := own_lt ho4
    have h4 := hb4.size
    have hr4 := own_row' ho4
    obtain ⟨p1, p2, p3, p4, p5⟩ := H3.out
    obtain ⟨q1, q2, q3, q4, q5, q6⟩ := H2.out
    simp only [World.size_alloc] at hgd h4
    refine ⟨((boxed_below p1 hb4).alloc _).alloc _, owns_alloc (owns_alloc (own_keep p2 hb4) _) _, (fun i h => by cases h), ?_, ?_, ?_, ⟨by omega, Nat.le_refl _⟩, ((below_keep p5 hb4).alloc (by omega) _).alloc (by simp; omega) _⟩
    · intro r hr q' hq'
      rw [hROWS] at hr
      simp only [List.mem_cons, List.not_mem_nil, or_false] at hr
      rcases hr with rfl | rfl
      · injection hq' with hq'
        subst hq'
        exact ⟨by simp [Value.ownBlock]; omega, by simp; omega⟩
      · injection hq' with hq'
        subst hq'
        exact ⟨by simp [Value.ownBlock]; omega, by simp; omega⟩
    · intro r hr
      rw [hROWS] at hr
      simp only [List.mem_cons, List.not_mem_nil, or_false] at hr
      rcases hr with rfl | rfl
      · exact row_alloc (row_alloc hr4 _) _
      · exact row_alloc (row_alloc (row_keep encB_len p4 hb4) _) _
    · intro b hb
      rw [hBOXES] at hb
      simp only [List.mem_cons, List.not_mem_nil, or_false] at hb
      rcases hb with rfl | rfl | rfl
      · exact ⟨by simp; omega, ne_u8, ((boxed_below p3 hb4).alloc _).alloc _⟩
      · exact ⟨by simp; omega, ne_u8, (Boxed.new _ _ _).alloc _⟩
      · refine ⟨by simp; omega, (by show (3 : Nat) ≠ 5; decide), ?_⟩
        have := Boxed.new (w4.alloc (.cells #[.slice (some ⟨gd, 0, none⟩) (24 * K) cd] 22)) 3 (.int .i64 24)
        rw [World.size_alloc] at this
        exact this)
  have hlc := own_row ho4
  obtain ⟨_, _, he9, hcd, hcdm, _, _⟩ := hlc
  injection he9 with e1 e2 e3
  subst e1 e3
  clear e2
  have hdl := dataP_length (mark e q) l
  rw [HA.out.len, HK.out.1] at hdl
  rw [hdl] at hcd
  have HDL := Lib.hid hdl
  have hsp : 1 ≤ K := by rw [← HK.out.1]; exact secs_pos len
  have hwz : w.heap.size ≤ w4.heap.size := Nat.le_trans H3.out.2.2.2.2.size hb4.size
  have HSt := Lib.hid (And.intro ((HM.out.bx _ HMem.out.2.2.2.1).2.2) ((HM.out.bx _ HMem.out.2.2.2.2).2.2))
  have hfg : ∀ k, k < K → (chunk (dataB e q l) k ++ mark e q).length = 32 := fun k _ => by rw [List.length_append, chunk_length, mark_length]
  have HFG := Lib.hid hfg
  clear ho4 hb4 hdl hROWS hBOXES hfg
  refine wpIn_rangeFunc_ownF rfl (by omega) (gf := 24) (lb := #[.pointer (some ⟨w4.heap.size, 0, none⟩), .pointer (some ⟨w4.heap.size + 1, 0, none⟩)]) rfl trivial (enters_of Try.func24 (by kernel_rfl) rfl)
    (pieces_stops Fence.wide 8 trivial rfl (by omega) w4.heap.size (w4.heap.size + 1) gd 0 (24 * K) cd 24 K _ (by omega) rfl (by omega) hcd hcdm HSt.out) (fun h k => kps_t h k) (fun _ _ _ _ _ hl hc _ => kps_b hl hc) (Below.refl _ _) (fun _ => rfl)
    (fun pre W => Inv9 w w.heap.size (w2.heap.size + 1) ROWS BOXES (FP (fun i => chunk (dataB e q l) i ++ mark e q) pre) W)
    (fun _ _ _ => False)
    (inv_from w w.heap.size (w2.heap.size + 1) _ _ _ (fun pre => FP (fun i => chunk (dataB e q l) i ++ mark e q) pre) (by simp only [World.size_alloc]; omega))
    (fun _ _ _ _ _ hs _ _ => hs)
    ⟨_, HM.out⟩
    (fun x => { tmps := #[.int .i64 e, .int .i64 q, .slice aa len cap, undef, undef, undef,
          .slice none 0 0, .int .i64 0, .pointer (some ⟨B8, 0, none⟩),
          .pointer (some ⟨w2.heap.size + 1, 0, none⟩), .slice (some ⟨gd, 24 * x.1, none⟩) 24 (cd - 24 * x.1), .int .i64 e,
          .bool true, .bool false, .bool false, .int .i64 q, .bool true,
          .bool false, .bool false, .slice aa len cap, .int .i64 len,
          .bool (decide (65535 < (len : Int))), .int .i64 e, .int .i64 q,
          .slice (some ⟨sb, 0, none⟩) 8 sc, .slice aa len cap, .int .i64 len,
          .int .i64 K, .int .i64 n32,
          .slice (some ⟨w2.heap.size, 0, none⟩) 0 n32,
          .slice (some ⟨sb, 0, none⟩) 8 sc, .slice aa len cap,
          .slice (some ⟨gd, 0, none⟩) (24 * K) cd,
          .func (.func 24) #[] #[.pointer (some ⟨w4.heap.size, 0, none⟩), .pointer (some ⟨w4.heap.size + 1, 0, none⟩)],
          .slice (some ⟨gd, 24 * x.1, none⟩) 24 (cd - 24 * x.1), undef, undef, undef, undef, undef, undef], defers := [] }) ?assign ?body ?done ?stop
  case assign =>
    intro l0 x W Kc hKc
    unfold encP
    gi_wp2
    exact hKc
  case body =>
    rintro l0 pre x W ⟨v, hMd⟩ hlen
    refine wpIn_block ?_
    obtain ⟨va, vc, rfl, _⟩ := own_row hMd.own
    have hfl := fp_length HFG.out pre
    have hrp := row_take (row_from (hMd.row _ HMem.out.2.2.1) (24 * x.1)) 24
    rw [Nat.zero_add, piece_chunk e q l (by rw [HA.out.len, HK.out.1]; exact x.2)] at hrp
    have HFS := Lib.hid (fp_snoc (fun i => chunk (dataB e q l) i ++ mark e q) pre x)
    have hcl := chunk_length (dataB e q l) x.1
    obtain ⟨k1, hk1⟩ : ∃ k, k = chunk (dataB e q l) x.1 := ⟨_, rfl⟩
    obtain ⟨f, hf⟩ : ∃ f, f = FP (fun i => chunk (dataB e q l) i ++ mark e q) pre := ⟨_, rfl⟩
    rw [← hk1] at hrp hcl
    rw [← hf] at hMd hfl
    have HMd := Lib.hid hMd
    have HK1 := Lib.hid (And.intro hcl hrp)
    have HF := Lib.hid (show f.length ≤ 32 * 100 by have := HK.out.2; rw [hfl]; omega)
    have HEq := Lib.hid (And.intro hk1 hf)
    clear hMd hfl hrp hcl hk1 hf
    refine Rng.region_in (by kernel_rfl) (by kernel_rfl) (Rng.lets_block (Rng.lets_own _ _ _ _ _)) (Chn.any_chain (fun idx => match idx with | 0 => some (.slice va f.length vc) | 1 => some (.slice (some ⟨gd, 24 * x.1, none⟩) 24 (cd - 24 * x.1)) | 3 => some (.slice (some ⟨sb, 0, none⟩) 8 sc) | _ => none) [2, 4, 5] (phiPut W w w.heap.size (w2.heap.size + 1) ROWS BOXES f k1 (mark e q) (.slice va f.length vc)) (by kernel_rfl) (by kernel_rfl) (by kernel_rfl) (by kernel_rfl) (by decide) (by kernel_rfl) (rfl) ?_ ?_)
    · refine ⟨?_, ?_, ?_, ?_, ?_, ?_, trivial⟩
      · intro a ww jj vs c hj0 hΦ
        have hj : jj ≤ 0 := Nat.le_trans hj0 (of_decide_eq_true (by kernel_rfl))
        refine .inl ⟨Rel.wanted_free (by kernel_rfl) _, ?_⟩
        exact Rel.wp_ld _ _ rfl (c.old 9 (v := .pointer (some ⟨w2.heap.size + 1, 0, none⟩)) (by kernel_rfl) (by kernel_rfl)) (run_ld_sl (put_v0 HMd.out hj hΦ)) ⟨rfl, rfl⟩
      · intro a ww jj vs c hj0 hΦ
        have hj : jj ≤ 0 := Nat.le_trans hj0 (of_decide_eq_true (by kernel_rfl))
        refine .inl ⟨Rel.wanted_free (by kernel_rfl) _, ?_⟩
        exact Rel.wp_mv _ rfl ⟨congrArg (a.put _) (c.old 10 (v := .slice (some ⟨gd, 24 * x.1, none⟩) 24 (cd - 24 * x.1)) (by kernel_rfl) (by kernel_rfl)), rfl⟩
      · refine ⟨0, rfl, ?_⟩
        intro a ww c hΦ
        have h : (phiPut W w w.heap.size (w2.heap.size + 1) ROWS BOXES f k1 (mark e q) (.slice va f.length vc)) 0 [] ww := hΦ
        clear hΦ
        refine ⟨Rel.wanted_free (by kernel_rfl) _, ?_⟩
        obtain rfl : ww = W.drew := h
        obtain ⟨u, wz, hr, hm9, hk9, _⟩ := mid_run (mid_drew HMd.out) 22 (c := cd - 24 * x.1) HK1.out.1 HK1.out.2 (fun h => by cases h) (by have := HF.out; omega)
        exact Chn.wp_ap _ _ _ rfl (c.get 0 35 (by kernel_rfl) rfl) (c.get 1 36 (by kernel_rfl) rfl) hr ⟨_, rfl, u, rfl, hm9, (KeepsOthers.drew W).trans hk9⟩
      · intro a ww jj vs c hj0 hΦ
        have hj : jj ≤ 1 := Nat.le_trans hj0 (of_decide_eq_true (by kernel_rfl))
        refine .inl ⟨Rel.wanted_free (by kernel_rfl) _, ?_⟩
        exact Rel.wp_ld _ _ rfl (c.old 8 (v := .pointer (some ⟨B8, 0, none⟩)) (by kernel_rfl) (by kernel_rfl)) (run_ld_sl (put_bx HMd.out hj hΦ HMem.out.1).cell) ⟨rfl, rfl⟩
      · refine ⟨1, rfl, ?_⟩
        intro a ww c hΦ
        have h : (phiPut W w w.heap.size (w2.heap.size + 1) ROWS BOXES f k1 (mark e q) (.slice va f.length vc)) 1 [Rel.slot a 37] ww := hΦ
        clear hΦ
        refine ⟨Rel.wanted_free (by kernel_rfl) _, ?_⟩
        obtain ⟨u, hu, hm8, hk8⟩ := h
        injection hu with hu _
        obtain ⟨u2, wz, hr, hm9, hk9, _⟩ := mid_run hm8 22 (c := sc) (mark_length e q) (hm8.row _ HMem.out.2.1) (fun h => by cases h) (by rw [List.length_append, HK1.out.1]; have := HF.out; omega)
        exact Chn.wp_ap _ _ _ rfl hu (c.get 3 38 (by kernel_rfl) rfl) hr ⟨_, rfl, _, u2, rfl, hm9, hk8.trans hk9⟩
      · refine ⟨2, rfl, ?_⟩
        intro a ww c hΦ
        have h : (phiPut W w w.heap.size (w2.heap.size + 1) ROWS BOXES f k1 (mark e q) (.slice va f.length vc)) 2 [Rel.slot a 37, Rel.slot a 39] ww := hΦ
        clear hΦ
        refine ⟨Rel.wanted_free (by kernel_rfl) _, ?_⟩
        obtain ⟨x0, u, hu, hm8, hk8⟩ := h
        injection hu with _ hu
        injection hu with hu _
        obtain ⟨ua, uc, hue, _⟩ := own_row hm8.own
        subst hue
        exact Chn.wp_st _ _ _ rfl (c.old 9 (v := .pointer (some ⟨w2.heap.size + 1, 0, none⟩)) (by kernel_rfl) (by kernel_rfl)) hu (run_st_sl hm8.box.cell hm8.box.frozen) ⟨undef, rfl, ⟨_, mid_store hm8⟩, hk8.trans (KeepsOthers.setCell _ _ _)⟩
    intro a w9 hbase hroom hdef hΦ hV
    have h : (phiPut W w w.heap.size (w2.heap.size + 1) ROWS BOXES f k1 (mark e q) (.slice va f.length vc)) 3 [Rel.slot a 37, Rel.slot a 39, undef] w9 := hΦ
    clear hbase hroom hdef hΦ hV
    obtain ⟨⟨v9, hM9⟩, hk9⟩ := (show Inv9 w w.heap.size (w2.heap.size + 1) ROWS BOXES (f ++ k1 ++ mark e q) w9 ∧ KeepsOthers W w9 from h)
    refine ⟨hk9, fun _ => ⟨(hM9.bx _ HMem.out.2.2.2.1).2.2, (hM9.bx _ HMem.out.2.2.2.2).2.2⟩, v9, ?_⟩
    rw [HFS.out, ← HEq.out.1, ← HEq.out.2, ← List.append_assoc]
    exact hM9
  case done =>
    rintro D ys W hD hys ⟨v, hM⟩ hKd
    have hF : FP (fun i => chunk (dataB e q l) i ++ mark e q) ys = packB e q l := by
      rw [fp_map, hys, packN_flat]
      unfold packB
      rw [HA.out.len, HK.out.1]
    rw [hF] at hM
    obtain ⟨va, vc, rfl, _⟩ := own_row hM.own
    have c9 := hM.box.cell
    have HM9 := Lib.hid hM
    clear hM hF
    gi_wp2
    refine ⟨by simp, .inl ⟨_, _, rfl, run_takeDeferred hKd, ?_⟩⟩
    refine ⟨_, results_tmp2 rfl _ _ _, .slice va (packB e q l).length vc, rfl, ownsRow_putObj HM9.out.own _ hKd rfl, HM9.out.bel.trans (belowK_b (w := w) (Nat.le_refl _) W D _ _ (by simp only [World.size_alloc] at hD; omega) hKd rfl rfl)⟩
  case stop =>
    rintro D c pre W _ _ h _
    exact h.elim
end Go.Proofs.Ytfnkeknnlndjcaa.Frm
