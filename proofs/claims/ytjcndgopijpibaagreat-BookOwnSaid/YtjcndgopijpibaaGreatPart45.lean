/- Common to the claims of this seat, part 45: texts that were written one by one, laid behind one another. -/
import Derived.Shelf.SlSortCmp.Insertion1
import Derived.Sort.OwnSortedInts
import Derived.Test.YtjcndgopijpibaaGreatPart12
import Derived.Test.YtjcndgopijpibaaGreatPart14
import Derived.Test.YtjcndgopijpibaaGreatPart15
import Derived.Test.YtjcndgopijpibaaGreatPart43
/- Draw, the landed: its stable sort of places (the library's slices.SortStableFunc, of fewer than 20: one insertion sort). -/
namespace Go.Proofs.YtjcndgopijpibaaGreat.Drw
set_option maxRecDepth 100000
open Go.RowKit
open Go.Sort
open Go.Shelf
open Kit
open Mon
open Foot
open Tre (Al encL encL_len encL_one Allocs Lst inI lst_keep lst_take lst_at lst_new lst_none below_drewN' encI encI_len encI_one OwI own_chg' info_i path)
set_option linter.unusedVariables false
variable {w w' : World}
def ins_ren : Go.Shelf.Ren := ⟨fun | 20 => 175 | n => n, fun | 0 => 0 | 3 => 3 | 4 => 4 | 22 => 31 | 24 => 3 | 25 => 168 | n => n, fun n => n⟩
theorem ins_lays : SlLaysF.n20 Tryz.prog ins_ren := {
  mixed := by kernel_rfl
  f20 := ⟨"slices.insertionSortCmpFunc[int]", by kernel_rfl, Tryz.func175.trans (congrArg some (by kernel_rfl))⟩
  t0 := Tryz.underlying0
  a0 := Tryz.isAgg0
  z0 := Tryz.sizeOf0
  v0 := Tryz.zeroValue0
  t3 := Tryz.underlying3
  a3 := Tryz.isAgg3
  z3 := Tryz.sizeOf3
  v3 := Tryz.zeroValue3
  t4 := Tryz.underlying4
  a4 := Tryz.isAgg4
  z4 := Tryz.sizeOf4
  v4 := Tryz.zeroValue4
  t22 := Tryz.underlying31
  a22 := Tryz.isAgg31
  z22 := Tryz.sizeOf31
  v22 := Tryz.zeroValue31
  a24 := Tryz.isAgg3
  z24 := Tryz.sizeOf3
  t25 := Tryz.underlying168
  a25 := Tryz.isAgg168
  z25 := Tryz.sizeOf168
  v25 := Tryz.zeroValue168 }
abbrev Pl (n : Nat) := { x : Nat // x < n }
def encP {n : Nat} (x : Pl n) : Value := .int .i64 (x.1 : Nat)
theorem flat_i (l : List Int) : flat Tre.encI l = l.map (Value.int .i64) := by
  induction l with
  | nil => rfl
  | cons x l ih =>
    show Tre.encI x ++ flat Tre.encI l = _
    rw [ih]; rfl
def ints (L : List Nat) : List Int := L.map fun (k : Nat) => (k : Int)
theorem ints_len (L : List Nat) : (ints L).length = L.length := by unfold ints; rw [List.length_map]
theorem ints_at {n : Nat} {L : List Nat} {d : Array (Pl n)} (hd : d.toList.map (·.1) = L) : (d.map fun x => (x.1 : Int)).toList = ints L := by
  subst hd
  simp [ints]
section
variable {n : Nat} [Inhabited (Pl n)]
theorem put_map (w : World) (g : Nat) (d : Array (Pl n)) : putRow encP w g 0 d = putRow (Value.int .i64) w g 0 (d.map fun x => (x.1 : Int)) := by
  unfold putRow
  congr 1
  funext c
  unfold putCells
  congr 1
  funext k x
  simp only [Array.size_map]
  by_cases h : 0 ≤ k ∧ k < 0 + d.size
  · rw [if_pos h, if_pos h]
    have hk : k - 0 < d.size := by omega
    rw [getElem!_pos d _ hk, getElem!_pos (d.map fun x => (x.1 : Int)) _ (by simpa using hk)]
    simp [encP]
  · rw [if_neg h, if_neg h]
theorem sortw_chg (w : World) (g m : Nat) (d : Array (Pl n)) (os : Array Obj) : Chg (fun k => some k = some g) w (sortWorld encP w g 0 m d os) := by
  have h := grownBy_sortedI (w := w) (g := g) (n := m) (os := os) (d.map fun x => (x.1 : Int))
  rw [← put_map] at h
  exact grown_chg h
theorem cmp_lays (w : World) (bx b o cc g size : Nat) (al : List Al) (hX : w.cell? ⟨bx, 0, none⟩ = some (.slice (some ⟨b, o, none⟩) n cc)) (hbx : bx ≠ g) (hL : Allocs w (some ⟨b, o, none⟩) n cc al) (hb : b ≠ g) :
    CmpLays1 Tryz.prog 155 #[.pointer (some ⟨bx, 0, none⟩)] (encP (n := n)) (fun x y => cfA al x.1 y.1) g 0 size w := by
  intro m os dk hs x y
  have hc := sortw_chg w g m dk os
  have h1 := cell_chg hc hX (fun e => hbx (by injection e))
  have h2 : Allocs (sortWorld encP w g 0 m dk os) (some ⟨b, o, none⟩) n cc al := ⟨hL.len, hL.cap, hL.max, hL.nil, row_chg encL_len hc hL.row (fun e => hb (by injection e))⟩
  refine (clos_any _ bx b o n cc x.1 y.1 al h1 h2 x.2 y.2).mono ?_
  rintro e w' ⟨rfl, hbw, hdr⟩
  obtain ⟨p, rfl⟩ := regrown_of_below hbw
  refine ⟨rfl, p.d - (sortWorld encP w g 0 m dk os).drawn, p.os, ?_⟩
  have hd : (sortWorld encP w g 0 m dk os).drawn ≤ p.d := hdr
  unfold World.drewN redrawn
  congr 2
  omega
theorem insert_any (w : World) (bx b o cc g cap m base : Nat) (al : List Al) (now : Int) (p : List Int) (hp : p.Pairwise fun x y => y < x) (hn : al.length = n) (hO : OwI w base (.slice (some ⟨g, 0, none⟩) m cap) (ints (pickL al now p al.length))) (hm : (pickL al now p al.length).length = m) (hm2 : m ≤ 1000)
    (hX : w.cell? ⟨bx, 0, none⟩ = some (.slice (some ⟨b, o, none⟩) n cc)) (hbx : bx ≠ g) (hL : Allocs w (some ⟨b, o, none⟩) n cc al) (hb : b ≠ g) :
    Calls Tryz.prog 175 #[.slice (some ⟨g, 0, none⟩) m cap, .int .i64 (0 : Nat), .int .i64 (m : Nat), .func (.func 155) #[] #[.pointer (some ⟨bx, 0, none⟩)]] w
      fun e w' => e = .returned (.tuple #[]) ∧ OwI w' base (.slice (some ⟨g, 0, none⟩) m cap) (ints (order al now p)) ∧ Chg (fun k => some k = some g) w w' := by
  obtain ⟨d, hd⟩ : ∃ d : Array (Pl n), d.toList.map (·.1) = pickL al now p al.length := by
    refine ⟨((pickL al now p al.length).pmap (fun k h => (⟨k, h⟩ : Pl n)) (fun k hk => by have := pick_lt hk; omega)).toArray, ?_⟩
    simp [List.map_pmap]
  have hds : d.size = m := by rw [← hm, ← hd]; simp
  have hlt := World.ownsRow.lt hO g rfl
  have hO' := hO
  rcases hO with ⟨_, ⟨h0, _⟩ | ⟨g', cap', cur, hv, hg, hbk, h1, h2, h3, h4⟩⟩
  · cases h0
  simp only [Value.slice.injEq, Option.some.injEq, Addr.mk.injEq] at hv
  obtain ⟨⟨rfl, -⟩, hmm, rfl⟩ := hv
  have hll : (ints (pickL al now p al.length)).length = m := by rw [ints_len, hm]
  rw [flat_i] at h4
  have h4' : cur.toList.take (ints (pickL al now p al.length)).length = (ints (pickL al now p al.length)).map (Value.int .i64) := by rw [hll]; rw [Nat.mul_one] at h4; rw [hll] at h4; exact h4
  have hH0 := holds_of_blockI hbk h4'
  have hH : Holds encP w g 0 d := by
    intro j hj
    obtain ⟨q1, q2⟩ := hH0 j (by rw [List.size_toArray, hll, ← hds]; exact hj)
    refine ⟨?_, q2⟩
    rw [q1]
    have hj2 : j < (ints (pickL al now p al.length)).toArray.size := by rw [List.size_toArray, hll, ← hds]; exact hj
    rw [getElem!_pos d j hj, getElem!_pos _ j hj2]
    simp only [← ints_at hd, encP]
    simp
  have R : Row1 encP w g 0 d := ⟨fun _ => rfl, hH, hlt.2⟩
  have hcmp := cmp_lays (n := n) w bx b o cc g d.size al hX hbx hL hb
  have hcon := Any.insertionSortCmpFunc_s ins_lays (encP (n := n)) (fun x y => cfA al x.1 y.1) 155 #[.pointer (some ⟨bx, 0, none⟩)] g 0 cap 0 d.size d d w w (enters_of Tryz.func155 (by kernel_rfl) rfl) hcmp R rfl (SW.start hH) (Nat.zero_le _) (Nat.le_refl _) (by omega)
  rw [hds] at hcon
  refine hcon.mono ?_
  rintro e w' ⟨rfl, q, os, rfl⟩
  obtain ⟨g1, g2⟩ := sort_order (fun x : Pl n => x.1) (fun x y h => Subtype.ext h) hp (ltOf fun x y : Pl n => cfA al x.1 y.1) (fun x y => rfl) d hd
  rw [hds] at g1 g2
  have hle : (ints (order al now p)).length = m := by rw [ints_len, ← g2]; simp [g1]
  refine ⟨rfl, ?_, sortw_chg w g q _ os⟩
  have ho := ownsRow_sortedI (n := q) (os := os) (ss := ints (pickL al now p al.length)) (ts := ints (order al now p)) (by rw [hle, hll]) hg hbk (by rw [hll]; rw [hll] at h1; exact h1) h2 h3
  rw [hll] at ho
  unfold Tre.OwI Owns
  rw [flat_i, hle]
  unfold sortWorld
  rw [put_map]
  have he : (insertionSort (ltOf fun x y : Pl n => cfA al x.1 y.1) d 0 m).map (fun x => (x.1 : Int)) = (ints (order al now p)).toArray := by
    rw [← g2]
    apply Array.toList_inj.1
    simp [ints]
  rw [he]
  exact ho
end
theorem insert_none (w : World) (a : Option Addr) (cap : Nat) (fv : Value) :
    Calls Tryz.prog 175 #[.slice a 0 cap, .int .i64 (0 : Nat), .int .i64 (0 : Nat), fv] w fun e w' => e = .returned (.tuple #[]) ∧ w = w' := by
  go_enter Tryz.func175, Tryz.ntmps175
  go_wp2_with fail
  go_loop [8] (fun i => i = .int .i64 1) (fun _ => 0)
  case atStart => rfl
  case round =>
    subst hrel
    go_wp2_with fail
    go_end0
    exact ⟨rfl, rfl⟩
theorem stable_any {R : World → Prop} (w : World) (a : Option Addr) (m cap : Nat) (fv : Value) (hm : m ≤ 19) (HC : Hid (Calls Tryz.prog 175 #[.slice a m cap, .int .i64 (0 : Nat), .int .i64 (m : Nat), fv] w fun e w' => e = .returned (.tuple #[]) ∧ R w')) :
    Calls Tryz.prog 162 #[.slice a m cap, .int .i64 (m : Nat), fv] w fun e w' => e = .returned (.tuple #[]) ∧ R w' := by
  have h20 : ¬ (20 : Int) ≤ (m : Int) := by omega
  have h21 : ¬ (20 : Int) < (m : Int) := by omega
  go_enter Tryz.func162, Tryz.ntmps162
  go_wp2_with fail
  go_loop [7, 8] (fun i j => i = .int .i64 0 ∧ j = .int .i64 20) (fun _ _ => 0)
  case atStart => exact ⟨rfl, rfl⟩
  case round =>
    obtain ⟨rfl, rfl⟩ := hrel
    go_wp2_with fail
    refine HC.out.mono ?_
    rintro e w2 ⟨rfl, hr⟩
    have HR := Lib.hid hr
    clear hr
    go_wp2_with fail
    go_loop [6] (fun i => i = .int .i64 20) (fun _ => 0)
    case atStart => rfl
    case round =>
      subst hrel
      go_wp2_with fail
      go_end0
      exact ⟨rfl, HR.out⟩
theorem sortst_any {R : World → Prop} (w : World) (a : Option Addr) (m cap : Nat) (fv : Value) (hm : m ≤ 19) (HC : Hid (Calls Tryz.prog 175 #[.slice a m cap, .int .i64 (0 : Nat), .int .i64 (m : Nat), fv] w fun e w' => e = .returned (.tuple #[]) ∧ R w')) :
    Calls Tryz.prog 154 #[.slice a m cap, fv] w fun e w' => e = .returned (.tuple #[]) ∧ R w' := by
  have HS := Lib.hid (stable_any w a m cap fv hm HC)
  clear HC
  go_enter Tryz.func154, Tryz.ntmps154
  go_wp2_with fail
  refine HS.out.mono ?_
  rintro e w2 ⟨rfl, hr⟩
  have HR := Lib.hid hr
  clear hr
  go_wp2_with fail
  go_end0
  exact ⟨rfl, HR.out⟩
end Go.Proofs.YtjcndgopijpibaaGreat.Drw
/- Draw, the landed: the places of a path's open allocations, in the order of drawing. -/
namespace Go.Proofs.YtjcndgopijpibaaGreat.Drw
set_option maxRecDepth 100000
open Go.RowKit
open Go.Sort
open Kit
open Mon
open Foot
open Tre (Al encL encL_len encL_one Allocs Lst inI lst_keep lst_take lst_at lst_new lst_none below_drewN' encI_len encI_one OwI own_chg' info_i path IntsL alloc_cells6)
set_option linter.unusedVariables false
variable {w w' : World}
theorem isopen_no (W : World) (x0 x1 x2 x3 x4 x5 now : Int) (h : openA ⟨x0, x1, x2, x3, x4, x5⟩ now = false) :
    Calls Tryz.prog 153 #[.agg #[.int .i64 x0, .int .i64 x1, .int .i64 x2, .int .i64 x3, .int .i64 x4, .int .i64 x5], .int .i64 now] W fun e w' => e = .returned (.bool false) ∧ Below W.heap.size W w' := by
  have hb := Lib.hid (below_alloc W (.cells #[.int .i64 x0, .int .i64 x1, .int .i64 x2, .int .i64 x3, .int .i64 x4, .int .i64 x5] 65))
  have hor : decide (x1 ≤ now) = false ∨ (x1 ≤ now ∧ decide (now < x2) = false) ∨ (x1 ≤ now ∧ now < x2 ∧ decide (0 < x3) = false) := by
    unfold openA at h
    simp only [Bool.and_eq_false_iff, decide_eq_false_iff_not] at h ⊢
    omega
  clear h
  rcases hor with t1 | ⟨t1, t2⟩ | ⟨t1, t2, t3⟩
  all_goals
    go_enter Tryz.func153, Tryz.ntmps153
    go_wp2_with fail
    go_ret
    exact ⟨rfl, hb.out⟩
theorem isopen_yes (W : World) (x0 x1 x2 x3 x4 x5 now : Int) (h : openA ⟨x0, x1, x2, x3, x4, x5⟩ now = true) :
    Calls Tryz.prog 153 #[.agg #[.int .i64 x0, .int .i64 x1, .int .i64 x2, .int .i64 x3, .int .i64 x4, .int .i64 x5], .int .i64 now] W fun e w' => e = .returned (.bool true) ∧ Below W.heap.size W w' := by
  have hb := Lib.hid (below_alloc W (.cells #[.int .i64 x0, .int .i64 x1, .int .i64 x2, .int .i64 x3, .int .i64 x4, .int .i64 x5] 65))
  obtain ⟨t1, t2, t3⟩ : x1 ≤ now ∧ now < x2 ∧ 0 < x3 := by
    unfold openA at h
    simp only [Bool.and_eq_true, decide_eq_true_eq] at h
    omega
  clear h
  go_enter Tryz.func153, Tryz.ntmps153
  go_wp2_with fail
  go_ret
  exact ⟨rfl, hb.out⟩
theorem isopen_any (W : World) (x0 x1 x2 x3 x4 x5 now : Int) :
    Calls Tryz.prog 153 #[.agg #[.int .i64 x0, .int .i64 x1, .int .i64 x2, .int .i64 x3, .int .i64 x4, .int .i64 x5], .int .i64 now] W fun e w' => e = .returned (.bool (openA ⟨x0, x1, x2, x3, x4, x5⟩ now)) ∧ Below W.heap.size W w' := by
  cases h : openA ⟨x0, x1, x2, x3, x4, x5⟩ now with
  | false => exact isopen_no W _ _ _ _ _ _ _ h
  | true => exact isopen_yes W _ _ _ _ _ _ _ h
theorem in_below {W wr : World} {v0 : Value} {T : TypeId} (h : Below (W.heap.size + 1) (W.alloc (.cells #[v0] T)) wr) : Below W.heap.size W wr ∧ wr.cell? ⟨W.heap.size, 0, none⟩ = some v0 := by
  refine ⟨(below_alloc W _).trans (h.mono (Nat.le_succ _)), ?_⟩
  rw [h.cell (p := ⟨W.heap.size, 0, none⟩) (Nat.lt_succ_self _), World.cell?_alloc_new]
  rfl
theorem pick_at {al : List Al} {now : Int} {p : List Int} {k : Nat} {x : Al} (h : al[k]? = some x) : pickA al now p k = (openA x now && p.contains x.fund) := by
  unfold pickA
  rw [h]
theorem ints_snoc (L : List Nat) (k : Nat) : ints (L ++ [k]) = ints L ++ [(k : Int)] := by
  unfold ints
  rw [List.map_append]; rfl
set_option maxHeartbeats 16000000 in
theorem inorder_any (W : World) (a1 a : Option Addr) (n1 c1 n c : Nat) (p : List Int) (al : List Al) (now : Int) (hp : p.Pairwise fun x y => y < x) (hP : IntsL W a1 n1 c1 p) (hA : Allocs W a n c al) (hn : n ≤ 19) :
    Calls Tryz.prog 133 #[.slice a1 n1 c1, .slice a n c, .int .i64 now] W fun e w' => ∃ v, e = .returned v ∧ OwI w' W.heap.size v (ints (order al now p)) ∧ Below W.heap.size W w' := by
  have HL := Lib.hid (And.intro hA (And.intro hA.len (And.intro hP hp)))
  clear hA hP hp
  go_enter Tryz.func133, Tryz.ntmps133
  go_wp2_with fail
  go_loopw [7, 12] (fun v i wr => ∃ k : Nat, k ≤ n ∧ i = .int .i64 (k : Nat) ∧ OwI wr (W.heap.size + 1) v (ints (pickL al now p k)) ∧ Below (W.heap.size + 1) (W.alloc (.cells #[.slice a n c] 24)) wr) (fun _ i _ => n - (intOf i).toNat)
  case atStart => exact ⟨0, Nat.zero_le _, rfl, owns_nil _ _ _, Below.refl _ _⟩
  case round =>
    obtain ⟨k, hk, rfl, hown, hb⟩ := hrel
    have HO := Lib.hid (And.intro hown (And.intro hb (in_below hb)))
    clear hown hb
    by_cases hlt : k < n
    · have hkl : k < al.length := by rw [HL.out.2.1]; exact hlt
      obtain ⟨b, o, rfl⟩ := lst_at HL.out.1 (by omega)
      obtain ⟨q0, q1, q2, q3, q4, q5⟩ := alloc_cells6 (lst_keep encL_len HL.out.1 HO.out.2.2.1) hkl
      have hpk := pick_at (now := now) (p := p) (List.getElem?_eq_getElem hkl)
      generalize al[k] = x at *
      obtain ⟨x0, x1, x2, x3, x4, x5⟩ := x
      simp only at q0 q1 q2 q3 q4 q5 hpk
      have hps := pick_succ al now p k
      have hpl := pick_len al now p k
      obtain ⟨lx, hx⟩ : ∃ lx, lx = pickL al now p k := ⟨_, rfl⟩
      rw [← hx] at HO hps hpl
      have hb1 := below_alloc wr (.cells #[.int .i64 x0, .int .i64 x1, .int .i64 x2, .int .i64 x3, .int .i64 x4, .int .i64 x5] 65)
      have hc0 : (wr.alloc (.cells #[.int .i64 x0, .int .i64 x1, .int .i64 x2, .int .i64 x3, .int .i64 x4, .int .i64 x5] 65)).cell? ⟨wr.heap.size, 0, none⟩ = some (.int .i64 x0) := by rw [World.cell?_alloc_new]; rfl
      have HW1 := Lib.hid (And.intro (own_chg' HO.out.1 hb1) (And.intro (HO.out.2.1.trans (hb1.mono (by have := HO.out.2.1.size; simpa using this))) hc0))
      have HC := Lib.hid (isopen_any (wr.alloc (.cells #[.int .i64 x0, .int .i64 x1, .int .i64 x2, .int .i64 x3, .int .i64 x4, .int .i64 x5] 65)) x0 x1 x2 x3 x4 x5 now)
      clear hx hc0
      cases hop : openA ⟨x0, x1, x2, x3, x4, x5⟩ now with
      | false =>
        have HE := Lib.hid (show pickL al now p (k + 1) = lx by rw [hps, hpk, hop]; simp)
        rw [hop] at HC
        clear hps hpl hpk hb1 hop
        go_wp2_with fail
        refine HC.out.mono ?_
        rintro e w2 ⟨rfl, hb2⟩
        have HW2 := Lib.hid (And.intro (own_chg' HW1.out.1 hb2) (HW1.out.2.1.trans (hb2.mono (by have := HW1.out.2.1.size; simpa using this))))
        clear hb2
        go_wp2_with fail
        go_roundw
        case rel => exact ⟨k + 1, by omega, by go_num, by rw [HE.out]; exact HW2.out.1, HW2.out.2⟩
        case measure => simp [intOf]; omega
      | true =>
        rw [hop] at HC
        cases hct : p.contains x0 with
        | false =>
          have HE := Lib.hid (show pickL al now p (k + 1) = lx by rw [hps, hpk, hop, hct]; simp)
          have HCt := Lib.hid hct
          clear hps hpl hpk hb1 hop hct
          go_wp2_with fail
          refine HC.out.mono ?_
          rintro e w2 ⟨rfl, hb2⟩
          have c0 := cell_keep hb2 HW1.out.2.2
          have HW2 := Lib.hid (And.intro (own_chg' HW1.out.1 hb2) (HW1.out.2.1.trans (hb2.mono (by have := HW1.out.2.1.size; simpa using this))))
          have HPl := Lib.hid (lst_keep encI_len HL.out.2.2.1 (in_below HW2.out.2).1)
          clear hb2
          go_wp2_with fail
          refine (Tre.contains_any p a1 n1 c1 w2 HPl.out x0).mono ?_
          rw [HCt.out]
          rintro e w3 ⟨rfl, rfl⟩
          go_wp2_with fail
          go_roundw
          case rel => exact ⟨k + 1, by omega, by go_num, by rw [HE.out]; exact HW2.out.1, HW2.out.2⟩
          case measure => simp [intOf]; omega
        | true =>
          have HE := Lib.hid (show ints (pickL al now p (k + 1)) = ints lx ++ [(k : Int)] by rw [hps, hpk, hop, hct, ← ints_snoc]; simp)
          have HCt := Lib.hid hct
          have hil := ints_len lx
          obtain ⟨ly, hy⟩ : ∃ ly, ly = ints lx := ⟨_, rfl⟩
          rw [← hy] at HE HW1 hil
          have HD := Lib.hid (show ly.length + 1 ≤ maxLen ∧ (ly.length + 1) * 8 ≤ 140737488355328 by unfold maxLen; omega)
          clear hps hpl hpk hb1 hop hct hy hil
          go_wp2_with fail
          refine HC.out.mono ?_
          rintro e w2 ⟨rfl, hb2⟩
          have c0 := cell_keep hb2 HW1.out.2.2
          have HW2 := Lib.hid (And.intro (own_chg' HW1.out.1 hb2) (HW1.out.2.1.trans (hb2.mono (by have := HW1.out.2.1.size; simpa using this))))
          have HPl := Lib.hid (lst_keep encI_len HL.out.2.2.1 (in_below HW2.out.2).1)
          have hb3 := below_alloc w2 (.cells #[.int .i64 (k : Nat)] 3)
          have HA1 := Lib.hid (And.intro (own_chg' HW2.out.1 hb3) (And.intro (Tre.lit_row w2 (k : Nat)) (HW2.out.2.trans (hb3.mono (by have := HW2.out.2.size; simpa using this)))))
          have HS1 := Lib.hid (show W.heap.size + 1 ≤ (w2.alloc (.cells #[.int .i64 (k : Nat)] 3)).heap.size by have := HA1.out.2.2.size; simpa using this)
          clear hb2 hb3
          go_wp2_with fail
          refine (Tre.contains_any p a1 n1 c1 w2 HPl.out x0).mono ?_
          rw [HCt.out]
          rintro e w3 ⟨rfl, rfl⟩
          go_wp2_with (first | (at_builtin; refine Two.append_apart encI_len Nat.zero_lt_one encI_one rfl (.tmp 26) (.tmp 28) 31 3 rfl Tryz.underlying31 (.int .i64 0) 8 info_i rfl (W.heap.size + 1) _ ly rfl HA1.out.1 (some ⟨w2.heap.size, 0, none⟩) 1 1 [((k : Nat) : Int)] rfl rfl HA1.out.2.1 (fun h => by cases h) HD.out.1 HD.out.2 HS1.out ?_; intro v9 w9 ho9 hg9 hx9; have HB9 := Lib.hid (HA1.out.2.2.trans (Two.below_grown HA1.out.1 hg9 HS1.out)); have HO9 := Lib.hid ho9; clear ho9 hg9 hx9) | fail)
          go_roundw
          case rel => exact ⟨k + 1, by omega, by go_num, by rw [HE.out]; exact HO9.out, HB9.out⟩
          case measure => simp [intOf]; omega
    · obtain rfl : n = k := by omega
      have HO2 : Hid (OwI wr (W.heap.size + 1) _ (ints (pickL al now p al.length)) ∧ Below W.heap.size W wr ∧ wr.cell? ⟨W.heap.size, 0, none⟩ = some (.slice a n c)) := Lib.hid (by rw [HL.out.2.1]; exact ⟨HO.out.1, HO.out.2.2⟩)
      clear HO
      obtain ⟨a10, c10, rfl, s1, s2, s3, s4⟩ := owns_row encI_len HO2.out.1
      obtain ⟨m, hm⟩ : ∃ m, m = (ints (pickL al now p al.length)).length := ⟨_, rfl⟩
      have hm19 : m ≤ 19 := by
        rw [hm, ints_len]
        exact Nat.le_trans (pick_len _ _ _ _) (by rw [HL.out.2.1]; exact hn)
      rw [← hm] at HO2 ⊢
      have HM := Lib.hid hm
      have HM19 := Lib.hid hm19
      clear s1 s2 s3 s4 hm hm19
      by_cases hm0 : m = 0
      · subst hm0
        have HE := Lib.hid (show ints (order al now p) = ints (pickL al now p al.length) by
          have e : pickL al now p al.length = [] := by
            have := HM.out
            rw [ints_len] at this
            exact List.length_eq_zero_iff.1 this.symm
          have e2 : order al now p = [] := by
            rw [List.eq_nil_iff_forall_not_mem]
            intro i hi
            rw [orderA_mem, e] at hi
            cases hi
          rw [e, e2])
        have HS := Lib.hid (sortst_any (R := fun w' => wr = w') wr a10 0 c10 (.func (.func 155) #[] #[.pointer (some ⟨W.heap.size, 0, none⟩)]) (by omega) (Lib.hid (insert_none wr a10 c10 _)))
        go_wp2_with fail
        refine HS.out.mono ?_
        rintro e w2 ⟨rfl, rfl⟩
        go_wp2_with fail
        go_ret
        exact ⟨_, rfl, by rw [HE.out]; exact owns_le HO2.out.1 (Nat.le_succ _), HO2.out.2.1⟩
      · have hpos : 0 < (ints (pickL al now p al.length)).length := by have := HM.out; omega
        obtain ⟨g, cap, hv, hg, -, -⟩ := Kit.owns_at encI_len HO2.out.1 hpos
        rw [← HM.out] at hv
        simp only [Value.slice.injEq, true_and] at hv
        obtain ⟨rfl, rfl⟩ := hv
        have hnp : 0 < n := by
          have h1 := pick_len al now p al.length
          rw [ints_len] at hpos
          have h2 := HL.out.2.1
          omega
        obtain ⟨b, o, rfl⟩ := lst_at HL.out.1 hnp
        have hbW : b < W.heap.size := row_lt encL_len (by omega) HL.out.1.row (by rw [HL.out.2.1]; exact hnp)
        haveI : Inhabited (Pl n) := ⟨⟨0, hnp⟩⟩
        have hins := insert_any (n := n) wr W.heap.size b o c g c10 m (W.heap.size + 1) al now p HL.out.2.2.2 HL.out.2.1 HO2.out.1 (by rw [HM.out, ints_len]) (by have := HM19.out; omega) HO2.out.2.2 (by omega) (lst_keep encL_len HL.out.1 HO2.out.2.1) (by omega)
        have HS := Lib.hid (sortst_any wr (some ⟨g, 0, none⟩) m c10 (.func (.func 155) #[] #[.pointer (some ⟨W.heap.size, 0, none⟩)]) HM19.out (Lib.hid hins))
        have HG := Lib.hid (And.intro hg (And.intro HO2.out.2.1 (show W.heap.size ≤ wr.heap.size from HO2.out.2.1.size)))
        clear hins hg hbW hpos hm0
        go_wp2_with fail
        refine HS.out.mono ?_
        rintro e w2 ⟨rfl, ho, hc⟩
        have HW2 := Lib.hid (And.intro (owns_le ho (Nat.le_succ _)) (HG.out.2.1.trans (chg_below hc (fun k hk => by injection hk with hk; have := HG.out.1; omega) HG.out.2.2)))
        clear ho hc
        go_wp2_with fail
        go_ret
        exact ⟨_, rfl, HW2.out.1, HW2.out.2⟩
end Go.Proofs.YtjcndgopijpibaaGreat.Drw
/- Draw, the landed: Draws. -/
namespace Go.Proofs.YtjcndgopijpibaaGreat.Drw
set_option maxRecDepth 100000
open Go.RowKit
open Go.Sort
open Kit
open Mon
open Foot
open Tre (Al encL encL_len encL_one Allocs Funds Lst inI lst_keep lst_take lst_at lst_new lst_none below_drewN' encI_len encI_one OwI own_chg' info_i path IntsL alloc_cells6 NewI)
set_option linter.unusedVariables false
variable {w w' : World}
def fullD (al : List Al) (L : List Nat) : List Dw := L.map fun (i : Nat) => ⟨(i : Int), availOf al i⟩
theorem fullD_len (al : List Al) (L : List Nat) : (fullD al L).length = L.length := by unfold fullD; rw [List.length_map]
theorem fullD_snoc (al : List Al) (L : List Nat) (i : Nat) : fullD al (L ++ [i]) = fullD al L ++ [⟨(i : Int), availOf al i⟩] := by
  unfold fullD
  rw [List.map_append]; rfl
theorem full_charge (al : List Al) : ∀ (L : List Nat) (a : Int), 0 ≤ a → (∀ i ∈ L, 0 < availOf al i) → ∃ Z, chargeTo (fullD al L) a = some (takeD al L a ++ Z, restD al L a) ∧ (∀ x ∈ takeD al L a, x.amt ≠ 0) ∧ ∀ x ∈ Z, x.amt = 0
  | [], a, _, _ => ⟨[], rfl, (fun x hx => by cases hx), (fun x hx => by cases hx)⟩
  | i :: r, a, h0, hp => by
    have hi := hp i (List.mem_cons_self ..)
    have hr : ∀ j ∈ r, 0 < availOf al j := fun j hj => hp j (List.mem_cons_of_mem _ hj)
    obtain ⟨Z, h1, h2, h3⟩ := full_charge al r (a - min (availOf al i) a) (by omega) hr
    have e1 : chargeTo (fullD al (i :: r)) a = some (⟨(i : Int), min (availOf al i) a⟩ :: (takeD al r (a - min (availOf al i) a) ++ Z), restD al r (a - min (availOf al i) a)) := by
      show chargeTo (⟨(i : Int), availOf al i⟩ :: fullD al r) a = _
      rw [chargeTo, if_neg (by simp only; omega), h1]
    by_cases ha : a ≤ 0
    · have hm : min (availOf al i) a = 0 := by omega
      have e2 : takeD al (i :: r) a = [] := by rw [takeD, if_pos ha]
      have e3 : restD al (i :: r) a = a := by rw [restD, if_pos ha]
      have e4 : takeD al r (a - min (availOf al i) a) = [] := by
        cases r with
        | nil => rfl
        | cons j r => rw [takeD, if_pos (by omega)]
      have e5 : restD al r (a - min (availOf al i) a) = a := by
        rw [hm, Int.sub_zero]
        cases r with
        | nil => rfl
        | cons j r => rw [restD, if_pos ha]
      refine ⟨⟨(i : Int), min (availOf al i) a⟩ :: Z, (by rw [e1, e2, e3, e4, e5]; rfl), (fun x hx => by rw [e2] at hx; cases hx), fun x hx => ?_⟩
      rcases List.mem_cons.1 hx with rfl | hx
      · exact hm
      · exact h3 x hx
    · have e2 : takeD al (i :: r) a = ⟨(i : Int), min (availOf al i) a⟩ :: takeD al r (a - min (availOf al i) a) := by rw [takeD, if_neg ha]
      have e3 : restD al (i :: r) a = restD al r (a - min (availOf al i) a) := by rw [restD, if_neg ha]
      refine ⟨Z, by rw [e1, e2, e3]; rfl, fun x hx => ?_, h3⟩
      rw [e2] at hx
      rcases List.mem_cons.1 hx with rfl | hx
      · simp only; omega
      · exact h2 x hx
theorem order_avail {al : List Al} {now : Int} {p : List Int} {i : Nat} (h : i ∈ order al now p) : 0 < availOf al i ∧ i < al.length := by
  rw [orderA_mem] at h
  unfold pickL at h
  obtain ⟨h1, h2⟩ := List.mem_filter.1 h
  have hl := List.mem_range.1 h1
  refine ⟨?_, hl⟩
  unfold pickA at h2
  unfold availOf
  rw [List.getElem?_eq_getElem hl] at h2 ⊢
  simp only [Bool.and_eq_true] at h2
  have h3 := h2.1
  unfold openA at h3
  simp only [Bool.and_eq_true, decide_eq_true_eq] at h3
  exact h3.1.1
theorem full_ok {al : List Al} {L : List Nat} (hok : ∀ x ∈ al, x.ok) (hL : ∀ i ∈ L, i < al.length) (hn : al.length ≤ 100) : ∀ x ∈ fullD al L, x.ok := by
  intro x hx
  unfold fullD at hx
  obtain ⟨i, hi, rfl⟩ := List.mem_map.1 hx
  have hl := hL i hi
  refine ⟨⟨by simp only; omega, by simp only; omega⟩, ?_⟩
  unfold availOf
  rw [List.getElem?_eq_getElem hl]
  exact (hok _ (List.getElem_mem hl)).2.2.2.1
theorem orderA_len (al : List Al) (now : Int) (p : List Int) (hp : p.Pairwise fun x y => y < x) : (order al now p).length ≤ al.length := by
  obtain ⟨h1, h2⟩ := sort_order (α := Nat) (al := al) (now := now) id (fun _ _ h => h) hp (fun x y => decide (cfA al x y < 0)) (fun _ _ => rfl) (pickL al now p al.length).toArray (by simp)
  rw [← h2, List.length_map, Array.length_toList, h1, List.size_toArray]
  exact pick_len al now p al.length
theorem draws_charge {fl : List Tre.Fd} {al : List Al} {f am now : Int} (hpt : ¬ path fl f = []) : drawsE fl al f am now = chargeE (fullD al (order al now (path fl f))) am ∧ ∃ Z, chargeL (fullD al (order al now (path fl f))) am = drawsL fl al f am now ++ Z ∧ (∀ x ∈ drawsL fl al f am now, x.amt ≠ 0) ∧ ∀ x ∈ Z, x.amt = 0 := by
  by_cases h0 : am < 0
  · have e1 : drawsE fl al f am now = 1 := by unfold drawsE; rw [if_neg hpt, if_pos h0]
    have e2 := chargeE_arg (l := fullD al (order al now (path fl f))) h0
    refine ⟨by rw [e1, e2], [], ?_, ?_, fun x hx => by cases hx⟩
    · rw [chargeL_no (by rw [e2]; decide)]
      unfold drawsL
      rw [e1]; rfl
    · intro x hx
      unfold drawsL at hx
      rw [e1] at hx
      cases hx
  · obtain ⟨Z, h1, h2, h3⟩ := full_charge al (order al now (path fl f)) am (by omega) (fun i hi => (order_avail hi).1)
    have e2 := chargeE_some (by omega) h1
    have e1 : drawsE fl al f am now = if 0 < restD al (order al now (path fl f)) am then 7 else 0 := by unfold drawsE; rw [if_neg hpt, if_neg h0]
    refine ⟨by rw [e1, e2], ?_⟩
    by_cases hr : 0 < restD al (order al now (path fl f)) am
    · rw [if_pos hr] at e1 e2
      refine ⟨[], ?_, ?_, fun x hx => by cases hx⟩
      · rw [chargeL_no (by rw [e2]; decide)]
        unfold drawsL
        rw [e1]; rfl
      · intro x hx
        unfold drawsL at hx
        rw [e1] at hx
        cases hx
    · rw [if_neg hr] at e1 e2
      have e3 : drawsL fl al f am now = takeD al (order al now (path fl f)) am := by unfold drawsL; rw [e1]; rfl
      exact ⟨Z, by rw [chargeL_some (by omega) h1 hr, e3], by rw [e3]; exact h2, h3⟩
theorem newI_lst {base : Nat} {v : Value} {l : List Int} (h : NewI w base v l) : ∃ a c, v = .slice a l.length c ∧ IntsL w a l.length c l := by
  obtain ⟨a, c, h1, h2, -⟩ := h
  exact ⟨a, c, h1, h2⟩
theorem ints_get {L : List Nat} {k : Nat} (h : k < (ints L).length) : ∃ i, L[k]? = some i ∧ (ints L)[k] = (i : Int) ∧ i ∈ L := by
  have hl : k < L.length := by rwa [ints_len] at h
  exact ⟨L[k], List.getElem?_eq_getElem hl, by simp [ints], List.getElem_mem hl⟩
set_option maxHeartbeats 16000000 in
theorem draws_own (W : World) (fl : List Tre.Fd) (al : List Al) (a a2 : Option Addr) (n c n2 c2 : Nat) (f am now : Int) (hF : Funds W a n c fl) (hA : Allocs W a2 n2 c2 al) (hokf : ∀ x ∈ fl, x.ok) (hoka : ∀ x ∈ al, x.ok) (hn : n ≤ 20) (hn2 : n2 ≤ 19) (ham : inI am) :
    Calls Tryz.prog 109 #[.slice a n c, .slice a2 n2 c2, .int .i64 f, .int .i64 am, .int .i64 now] W fun e W' => ∃ v, e = .returned (.tuple #[v, .int .i64 (drawsE fl al f am now)]) ∧ Owns encD 2 63 W' W.heap.size v (drawsL fl al f am now) ∧ Below W.heap.size W W' := by
  have HP := Lib.hid (Tre.path_any fl hokf a n c W hF (by omega) f)
  have HL := Lib.hid (And.intro hA (And.intro hA.len (And.intro hoka ham)))
  clear hF hA hokf hoka ham
  go_enter Tryz.func109, Tryz.ntmps109
  go_wp2_with fail
  refine HP.out.mono ?_
  rintro e w2 ⟨v2, rfl, hv2, hb2⟩
  obtain ⟨ap, cp, rfl, hpl⟩ := newI_lst hv2
  obtain ⟨np, hnp⟩ : ∃ np, np = (path fl f).length := ⟨_, rfl⟩
  rw [← hnp] at hpl
  rw [← hnp]
  have HNp := Lib.hid (And.intro hnp (And.intro hpl hb2))
  clear hv2 hpl hnp hb2 HP
  by_cases hp0 : np = 0
  · subst hp0
    have HE := Lib.hid (show drawsE fl al f am now = 4 ∧ drawsL fl al f am now = [] by
      have e1 : path fl f = [] := List.length_eq_zero_iff.1 HNp.out.1.symm
      have e2 : drawsE fl al f am now = 4 := by unfold drawsE; rw [if_pos e1]
      refine ⟨e2, ?_⟩
      unfold drawsL
      rw [e2]; rfl)
    go_wp2_with fail
    go_ret2
    exact ⟨_, by rw [HE.out.1]; rfl, by rw [HE.out.2]; exact owns_nil _ _ _, HNp.out.2.2⟩
  · have hpne : ((np : Int) == 0) = false := beq_false_of_ne (by omega)
    have HDr := Lib.hid (draws_charge (al := al) (am := am) (now := now) (f := f) (fl := fl) (by intro e; rw [e] at HNp; have := HNp.out.1; simp at this; omega))
    have HI := Lib.hid (inorder_any w2 ap a2 np cp n2 c2 (path fl f) al now (path_down fl f) HNp.out.2.1 (lst_keep encL_len HL.out.1 HNp.out.2.2) hn2)
    have HOl := Lib.hid (orderA_len al now (path fl f) (path_down fl f))
    clear hp0
    go_wp2_with fail
    refine HI.out.mono ?_
    rintro e w3 ⟨v3, rfl, ho3, hb3⟩
    obtain ⟨L, hLe⟩ : ∃ L, L = order al now (path fl f) := ⟨_, rfl⟩
    have hav : ∀ i ∈ L, 0 < availOf al i ∧ i < al.length := by rw [hLe]; exact fun i hi => order_avail hi
    rw [← hLe] at ho3 HDr HOl
    obtain ⟨ai, ci, rfl, g1, g2, g3, g4⟩ := owns_row encI_len ho3
    have hil : IntsL w3 ai (ints L).length ci (ints L) := ⟨rfl, g1, g2, (fun e => ⟨by have := g3 e; omega, g3 e⟩), g4⟩
    obtain ⟨m, hm⟩ : ∃ m, m = (ints L).length := ⟨_, rfl⟩
    rw [← hm] at hil ⊢
    have hm19 : m ≤ 19 := by rw [hm, ints_len]; have := HOl.out; have := HL.out.2.1; omega
    have HIl := Lib.hid (And.intro hil (And.intro hm (And.intro hav (below_keep HNp.out.2.2 hb3))))
    have HM := Lib.hid hm19
    clear hLe hav ho3 g1 g2 g3 g4 hil hm hb3 HI hm19
    go_wp2_with fail
    go_loopw [13, 29] (fun v i wr => ∃ k : Nat, k ≤ m ∧ i = .int .i64 (k : Nat) ∧ Owns encD 2 63 wr w3.heap.size v (fullD al (L.take k)) ∧ Below w3.heap.size w3 wr) (fun _ i _ => m - (intOf i).toNat)
    case atStart => exact ⟨0, Nat.zero_le _, rfl, owns_nil _ _ _, Below.refl _ _⟩
    case round =>
      obtain ⟨k, hk, rfl, hown, hb⟩ := hrel
      have HO := Lib.hid (And.intro hown hb)
      clear hown hb
      have hm19 := HM.out
      by_cases hlt : k < m
      · have hki : k < (ints L).length := by rw [← HIl.out.2.1]; exact hlt
        obtain ⟨i, hi1, hi2, hi3⟩ := ints_get hki
        obtain ⟨b, o, rfl⟩ := lst_at HIl.out.1 (by omega)
        have q := Tre.int_cell (lst_keep encI_len HIl.out.1 HO.out.2) hki
        rw [hi2] at q
        obtain ⟨hav, hil⟩ := HIl.out.2.2.1 i hi3
        have hin : i < n2 := by rw [← HL.out.2.1]; exact hil
        obtain ⟨b2, o2, rfl⟩ := lst_at HL.out.1 (by omega)
        obtain ⟨-, -, -, p3, -, -⟩ := alloc_cells6 (lst_keep encL_len HL.out.1 (below_keep HIl.out.2.2.2 HO.out.2)) hil
        have hao : al[i].avail = availOf al i := by unfold availOf; rw [List.getElem?_eq_getElem hil]
        rw [hao] at p3
        have hfs : fullD al (L.take (k + 1)) = fullD al (L.take k) ++ [⟨(i : Int), availOf al i⟩] := by
          rw [← fullD_snoc]
          congr 1
          rw [List.take_add_one, hi1]; rfl
        obtain ⟨y, hy⟩ : ∃ y, y = availOf al i := ⟨_, rfl⟩
        rw [← hy] at p3 hfs
        have hlk : (fullD al (L.take k)).length ≤ 19 := by rw [fullD_len, List.length_take]; omega
        obtain ⟨lx, hx⟩ : ∃ lx, lx = fullD al (L.take k) := ⟨_, rfl⟩
        rw [← hx] at HO hfs hlk
        have HFs := Lib.hid hfs
        have hb1 := below_alloc wr (.cells #[.int .i64 (i : Nat), .int .i64 y] 63)
        have HA1 := Lib.hid (And.intro (Nest.own_on HO.out.1 hb1) (And.intro (draw_row wr (i : Nat) y) (below_keep HO.out.2 hb1)))
        have HD := Lib.hid (show lx.length + 1 ≤ maxLen ∧ (lx.length + 1) * 16 ≤ 140737488355328 by unfold maxLen; omega)
        have h02 := Lib.hid (show 0 < 2 by omega)
        clear hi1 hi2 hi3 hki hav hil hao hy hx hfs hlk hb1
        go_wp2_with (first | (at_builtin; refine Two.append_apart encD_len h02.out encD_one rfl (.tmp 33) (.tmp 41) 56 63 rfl Tryz.underlying56 (.agg #[.int .i64 0, .int .i64 0]) 16 info_draw rfl w3.heap.size _ lx rfl HA1.out.1 (some ⟨wr.heap.size, 0, none⟩) 1 1 [⟨((i : Nat) : Int), y⟩] rfl rfl HA1.out.2.1 (fun h => by cases h) HD.out.1 HD.out.2 HA1.out.2.2.size ?_; intro v9 w9 ho9 hg9 hx9; have HB9 := Lib.hid (HA1.out.2.2.trans (Two.below_grown HA1.out.1 hg9 HA1.out.2.2.size)); have HO9 := Lib.hid ho9; clear ho9 hg9 hx9) | fail)
        go_roundw
        case rel => exact ⟨k + 1, by omega, by go_num, by rw [HFs.out]; exact HO9.out, HB9.out⟩
        case measure => simp [intOf]; omega
      · obtain rfl : m = k := by omega
        have hmL : L.length = m := by rw [HIl.out.2.1, ints_len]
        have htk : L.take m = L := List.take_of_length_le (by omega)
        rw [htk] at HO
        have hfl : (fullD al L).length = m := by rw [fullD_len, hmL]
        obtain ⟨ad, cd, hvd, hld⟩ := out_lst encD_len (show OutD wr w3.heap.size _ (fullD al L) from .inl HO.out.1)
        rw [hfl] at hvd hld
        subst hvd
        have HC := Lib.hid (charge_own ad m cd (fullD al L) am wr hld (by have := HM.out; omega) (full_ok HL.out.2.2.1 (fun i hi => (HIl.out.2.2.1 i hi).2) (by have := HL.out.2.1; omega)) HL.out.2.2.2)
        have HB := Lib.hid (below_keep HIl.out.2.2.2 HO.out.2)
        clear hmL htk hfl hld HO
        go_wp2_with fail
        refine HC.out.mono ?_
        rintro e w4 ⟨v4, rfl, ho4, hb4⟩
        obtain ⟨Z, hZ1, hZ2, hZ3⟩ := HDr.out.2
        rw [hZ1] at ho4
        have HDl := Lib.hid (del_own w4 wr.heap.size v4 _ Z ho4 hb4.size hZ2 hZ3)
        have HB4 := Lib.hid (And.intro (below_keep HB.out hb4) HB.out.size)
        clear ho4 hb4 hZ1 hZ2 hZ3 HC
        go_wp2_with fail
        refine HDl.out.mono ?_
        rintro e w5 ⟨v5, rfl, ho5, hb5⟩
        have HW5 := Lib.hid (And.intro (Foot.owns_le ho5 HB4.out.2) (HB4.out.1.trans (hb5.mono HB4.out.2)))
        clear ho5 hb5
        go_wp2_with fail
        go_ret2
        exact ⟨_, by rw [HDr.out.1]; rfl, HW5.out.1, HW5.out.2⟩
end Go.Proofs.YtjcndgopijpibaaGreat.Drw
