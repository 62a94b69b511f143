/- Common to the claims of this seat, part 19: texts that were written one by one, laid behind one another. -/
import Derived.Laws.BitsAllLaws
import Derived.LoopTactic
import Derived.Test.YtjcndgopijpibaaGreatPart3
import Derived.Test.YtjcndgopijpibaaGreatPart7
import Derived.Test.YtjcndgopijpibaaGreatPart8
import Derived.Test.YtjcndgopijpibaaGreatPart11
/- Common: a region that draws its order whose last two operations wait for all others: the others by what the slots hold (XRegRel), then these two, one behind the other. -/
namespace Go.Proofs.YtjcndgopijpibaaGreat.Rel
open Go.RowKit
open Chn (needsB needsB_came)
variable {P : Program} {Q : Exit → Act → World → Prop} {G : World → World → Prop} {a0 : Act}
theorem wp_region_two {id : Nat} {w : World} {l : List Oper} (pre : List Oper) (o o' : Oper) (V : Nat → Kd G) (J : Array Bool → World → Prop) (hm : P.follows .mixedOrders = true) (hl : l = pre ++ [o, o']) (hfree : (l.all fun o => o.guard.isNone) = true) (hap : apartB pre = true) (hor : orderB 0 l = true)
    (hw1 : ((List.range pre.length).all fun j => needsB l pre.length j) = true) (hw2 : ((List.range (pre.length + 1)).all fun j => waits o' j) = true) (hsz : (pre.all fun o => match o.dst with | some d => decide (d < a0.tmps.size) | none => true) = true)
    (h0 : J (Array.replicate pre.length false) w.drew) (hsteps : Steps P pre.toArray Q V J a0 0 pre)
    (hdone : ∀ a w, (∀ s, unwritten pre.toArray s = true → slot a s = slot a0 s) → a.tmps.size = a0.tmps.size → a.defers = a0.defers → J (Array.replicate pre.length true) w → (∀ (j : Nat) (o : Oper) (d : Tmp), pre[j]? = some o → o.dst = some d → (V j).p w (slot a d)) → o.wp P a w (fun a' w' => o'.wp P a' w' (fun a'' w'' => Q .normal a'' w'') Q) Q) :
    (Code.region id l.toArray true).wp P Q a0 w := by
  obtain ⟨n, hn⟩ : ∃ n, n = pre.length := ⟨_, rfl⟩
  have hlen : l.length = n + 2 := by rw [hl, List.length_append, ← hn]; rfl
  have hat : ∀ i, i < n → l[i]? = pre[i]? := fun i hi => by
    rw [hl, List.getElem?_append_left (by omega)]
  have hatn : l[n]? = some o := by
    rw [hl, List.getElem?_append_right (by omega), ← hn, Nat.sub_self]; rfl
  have hatm : l[n + 1]? = some o' := by
    rw [hl, List.getElem?_append_right (by omega), ← hn, Nat.add_sub_cancel_left]; rfl
  have hsz' : ∀ (i : Nat) (o : Oper) (d : Tmp), pre.toArray[i]? = some o → o.dst = some d → d < a0.tmps.size := by
    intro i o d ho hd
    have := List.all_eq_true.1 hsz o (List.mem_of_getElem? (by simpa using ho))
    rw [hd] at this
    simpa using this
  have hguard : ∀ (i : Nat) (x : Oper), l[i]? = some x → x.guard = none := fun i x hx => by
    have := List.all_eq_true.1 hfree x (List.mem_of_getElem? hx)
    simpa using this
  have hord : ∀ (i : Nat) (x : Oper), l[i]? = some x → ∀ j, waits x j = true → j < i := fun i x hx j hj => by
    unfold waits at hj
    obtain ⟨e, he, hb⟩ := List.any_eq_true.1 hj
    simp only [Bool.and_eq_true, beq_iff_eq] at hb
    have := order_at l 0 hor i x hx e (by simpa using he) hb.2
    omega
  rw [← hn] at hw1 hw2 h0 hdone
  have hw1 := List.all_eq_true.1 hw1
  have hw2 := List.all_eq_true.1 hw2
  refine Reg.wp_region_inv (fun L a w => (L.size = n + 2 ∧ L.getD n true = false ∧ L.getD (n + 1) true = false ∧ Inv pre.toArray V J a0 L.pop.pop a w) ∨ (L.size = n + 2 ∧ (∀ j, j < n + 1 → L.getD j false = true) ∧ L.getD (n + 1) true = false ∧ o'.wp P a w (fun a'' w'' => Q .normal a'' w'') Q) ∨ ((∀ j, j < n + 2 → L.getD j false = true) ∧ Q .normal a w)) hm ?_ ?_ ?_
  · left
    have e : (Array.replicate l.toArray.size false).pop.pop = Array.replicate n false := by simp [hlen]
    refine ⟨by simp [hlen], by simp [hlen], by simp [hlen], by rw [e]; simp [hn], fun _ _ => rfl, rfl, rfl, ?_, fun j o d _ _ hl' => ?_, fun j o i _ hl' _ => ?_⟩
    · rw [e]; exact h0
    · rw [e] at hl'
      by_cases hj : j < n <;> simp [hj] at hl'
    · rw [e] at hl'
      by_cases hj : j < n <;> simp [hj] at hl'
  · intro L a' w' hI hready
    have hcon : L.size = n + 2 → L.getD (n + 1) true = false → False := by
      intro h1 h2
      have hall : ∀ j, j < n + 2 → L.getD j false = true := by
        intro j
        induction j using Nat.strongRecOn with
        | _ j ih =>
          intro hj
          have ho : l[j]? = some (l[j]'(by omega)) := List.getElem?_eq_getElem (by omega)
          refine Reg.none_ready (ops := l.toArray) (by simp [h1, hlen]) hready (o := l[j]'(by omega)) (by simp) fun e he hb => ?_
          have hlt := order_at l 0 hor j _ ho e he hb
          exact ih e.on (by omega) (by omega)
      have hn' := hall (n + 1) (by omega)
      have hsz : n + 1 < L.size := by omega
      simp [hsz] at h2 hn'
      rw [h2] at hn'; cases hn'
    rcases hI with ⟨h1, _, h2, _⟩ | ⟨h1, _, h2, _⟩ | ⟨_, hq⟩
    · exact (hcon h1 h2).elim
    · exact (hcon h1 h2).elim
    · exact hq
  · intro L a' w' i hI hi
    obtain ⟨hun, x, hx, hdep⟩ := mem_ready.1 hi
    have hx' : l[i]? = some x := by simpa using hx
    have hg := hguard i x hx'
    have hil : i < n + 2 := by rw [← hlen]; exact (List.getElem?_eq_some_iff.1 hx').1
    have hcame : ∀ j, waits x j = true → L.getD j false = true := by
      intro j hj
      unfold waits at hj
      obtain ⟨e, he, hb⟩ := List.any_eq_true.1 hj
      simp only [Bool.and_eq_true, beq_iff_eq] at hb
      have := hdep e (by simpa using he) hb.2
      rw [hb.1] at this
      exact this
    have hcon : ∀ j, L.getD j false = true → L.getD j true = false → False := fun j h h' => by
      by_cases hj : j < L.size
      · simp [hj] at h h'
        rw [h] at h'; cases h'
      · simp [hj] at h
    have hset : ∀ j, L.getD j false = true → (L.setIfInBounds i true).getD j false = true := fun j hj => by
      by_cases e : i = j
      · subst e
        exact (hcon i hj hun).elim
      · rw [Array.getD_eq_getD_getElem?, Array.getElem?_setIfInBounds, if_neg e, ← Array.getD_eq_getD_getElem?]
        exact hj
    have hset1 : i < L.size → (L.setIfInBounds i true).getD i false = true := fun h => by simp [h]
    have hback : ∀ (j : Nat) (b : Bool), j ≠ i → (L.setIfInBounds i true).getD j b = L.getD j b := fun j b hj => by
      rw [Array.getD_eq_getD_getElem?, Array.getElem?_setIfInBounds, if_neg (fun e => hj e.symm), ← Array.getD_eq_getD_getElem?]
    unfold wpOp
    simp only [hx]
    rw [if_pos (wanted_none hg _)]
    rcases hI with ⟨h1, h2, h3, hI⟩ | ⟨h1, h2, h3, hq⟩ | ⟨h2, _⟩
    · have hp1 : L.pop.size = n + 1 := pop_size h1
      have pp : ∀ (j : Nat) (b : Bool), j < n → L.pop.pop.getD j b = L.getD j b := fun j b hj => by
        rw [pop_getD hp1 hj, pop_getD h1 (by omega)]
      by_cases hin : i = n
      · subst hin
        rw [hatn] at hx'
        injection hx' with hx'
        subst hx'
        obtain ⟨gs, g2, g3, g4, g5, g6, g7⟩ := hI
        have hall : ∀ j, j < i → L.getD j false = true := fun j hj => by
          have := needsB_came (l := l) (L := L.setIfInBounds i true) (fun j y k hy hj hk => by
            by_cases hji : j = i
            · subst hji
              rw [hatn] at hy
              injection hy with hy
              subst hy
              exact hset k (hcame k hk)
            · have hjl : j < i + 2 := by rw [← hlen]; exact (List.getElem?_eq_some_iff.1 hy).1
              rw [hback j false hji] at hj
              by_cases hjm : j = i + 1
              · subst hjm
                exact (hcon _ hj h3).elim
              · have hji2 : j < i := by omega
                have hkj := hord j y hy k hk
                have := g7 j y k (by have := hat j hji2; rw [hy] at this; simpa using this.symm) (by rw [pp j false hji2]; exact hj) hk
                rw [pp k false (by omega)] at this
                exact hset k this) (by rw [hn]; rw [hn] at hw1; exact hw1 j (List.mem_range.2 (by omega))) (hset1 (by omega))
          rw [hback j false (by omega)] at this
          exact this
        have hpop : L.pop.pop = Array.replicate i true := by
          apply Array.ext
          · simp [h1]
          · intro j hj1 hj2
            have hj : j < i := by simpa using hj2
            have := hall j hj
            have hjL : j < L.size := by omega
            simp [hjL] at this
            simp [this]
        rw [hpop] at g5
        refine .inl (Oper.wp_mono (fun a'' w'' hq => .inr (.inl ⟨by simp [h1], fun j hj => ?_, by rw [hback _ _ (by omega)]; exact h3, hq⟩)) (hdone a' w' g2 g3 g4 g5 fun j y d hj hd => g6 j y d (by simpa using hj) hd ?_))
        · by_cases e : j = i
          · subst e; exact hset1 (by omega)
          · exact hset j (hall j (by omega))
        · have hjn : j < i := by rw [hn]; exact (List.getElem?_eq_some_iff.1 hj).1
          rw [pp j false hjn]
          exact hall j hjn
      · by_cases him : i = n + 1
        · subst him
          rw [hatm] at hx'
          injection hx' with hx'
          subst hx'
          exact (hcon n (hcame n (hw2 n (List.mem_range.2 (by omega)))) h2).elim
        · have hin' : i < n := by omega
          have hxd : pre.toArray[i]? = some x := by
            have := hat i hin'
            rw [hx'] at this
            simpa using this.symm
          have hs := rel_step (by simpa using hap) hsz' hsteps hI (by rw [pp i true hin']; exact hun) hxd hg fun j hj => by rw [pp j false (Nat.lt_trans (hord i x hx' j hj) hin')]; exact hcame j hj
          refine .inl (Oper.wp_mono (fun a'' w'' hq => .inl ⟨by simp [h1], by rw [hback _ _ (by omega)]; exact h2, by rw [hback _ _ (by omega)]; exact h3, by rw [pop_set h1 (by omega), pop_set hp1 hin']; exact hq⟩) hs)
    · have hi1 : i = n + 1 := by
        rcases Nat.lt_or_ge i (n + 1) with h | h
        · exact (hcon i (h2 i h) hun).elim
        · omega
      subst hi1
      rw [hatm] at hx'
      injection hx' with hx'
      subst hx'
      refine .inl (Oper.wp_mono (fun a'' w'' hq => .inr (.inr ⟨fun j hj => ?_, hq⟩)) hq)
      by_cases e : j = n + 1
      · subst e; exact hset1 (by omega)
      · exact hset j (h2 j (by omega))
    · exact (hcon i (h2 i hil) hun).elim
theorem wp_region_ends {id : Nat} {w : World} {l : List Oper} (o o' : Oper) (V : Nat → Kd G) (J : Array Bool → World → Prop) (hm : P.follows .mixedOrders = true) (h1 : l.dropLast.getLast? = some o) (h2 : l.getLast? = some o') (hfree : (l.all fun o => o.guard.isNone) = true) (hap : apartB l.dropLast.dropLast = true) (hor : orderB 0 l = true)
    (hw1 : ((List.range l.dropLast.dropLast.length).all fun j => needsB l l.dropLast.dropLast.length j) = true) (hw2 : ((List.range (l.dropLast.dropLast.length + 1)).all fun j => waits o' j) = true) (hsz : (l.dropLast.dropLast.all fun o => match o.dst with | some d => decide (d < a0.tmps.size) | none => true) = true)
    (h0 : J (Array.replicate l.dropLast.dropLast.length false) w.drew) (hsteps : Steps P l.dropLast.dropLast.toArray Q V J a0 0 l.dropLast.dropLast)
    (hdone : ∀ a w, (∀ s, unwritten l.dropLast.dropLast.toArray s = true → slot a s = slot a0 s) → a.tmps.size = a0.tmps.size → a.defers = a0.defers → J (Array.replicate l.dropLast.dropLast.length true) w → (∀ (j : Nat) (o : Oper) (d : Tmp), l.dropLast.dropLast[j]? = some o → o.dst = some d → (V j).p w (slot a d)) → o.wp P a w (fun a' w' => o'.wp P a' w' (fun a'' w'' => Q .normal a'' w'') Q) Q) :
    (Code.region id l.toArray true).wp P Q a0 w := by
  have cut : ∀ {m : List Oper} {y : Oper}, m.getLast? = some y → m = m.dropLast ++ [y] := by
    intro m y e
    rcases List.eq_nil_or_concat m with h | ⟨l', b, h⟩
    · rw [h] at e; cases e
    · rw [h] at e ⊢
      simp at e
      subst e
      simp
  have e1 := cut h1
  have e2 := cut h2
  have e3 : l = l.dropLast.dropLast ++ [o, o'] := by
    have e4 := e2
    rw [e1] at e4
    simpa using e4
  exact wp_region_two l.dropLast.dropLast o o' V J hm e3 hfree hap hor hw1 hw2 hsz h0 hsteps hdone
end Go.Proofs.YtjcndgopijpibaaGreat.Rel
/- Book, the landed: what is left of allocations that are good no more. -/
namespace Go.Proofs.YtjcndgopijpibaaGreat.Bok
set_option maxRecDepth 100000
open Go.RowKit
open Go.Sort
open Kit
open Foot
open Tre (Lst inI lst_keep lst_at lst_new lst_none encF encF_len encL_len IntsL goodB)
open Led (Lg encG encG_len encG_one)
open Snp (Sn Sv encK encK_len encK_one)
set_option linter.unusedVariables false
variable {w w' W0 W : World} {B : Nat}
def kPair (l : List Lg) : Rel.Kd Rel.Gr := ⟨fun w u => ∃ g, u = .slice (some ⟨g, 0, none⟩) 2 2 ∧ Kit.Row encG 2 w (some ⟨g, 0, none⟩) l, fun _ _ _ h ⟨g, e, hr⟩ => ⟨g, e, row_keep encG_len hr h⟩⟩
set_option maxHeartbeats 8000000 in
theorem expire_any (y : Sv) (hc : Cal W0 W B y) (hn : y.allocs.length ≤ 16) (hok : ∀ x ∈ y.allocs, x.ok) (sq tm kd : Int) (ky nm : ByteArray) (aa ga : Option Addr) (na cp gn gc : Nat) :
    Calls Tryz.prog 78 #[.pointer (some ⟨B, 0, none⟩), .agg #[.int .i64 sq, .int .i64 tm, .int .i64 kd, .string ky, .string nm, .slice aa na cp, .slice ga gn gc]] W (LegP W0 B (if expL y.t tm = [] then 4 else 0) y.t (expL y.t tm)) := by
  obtain ⟨E, hE⟩ : ∃ E : Int, E = if expL y.t tm = [] then 4 else 0 := ⟨_, rfl⟩
  rw [← hE]
  have HEE := Lib.hid hE
  clear hE
  have hba := below_alloc W (.cells #[.int .i64 sq, .int .i64 tm, .int .i64 kd, .string ky, .string nm, .slice aa na cp, .slice ga gn gc] 34)
  have htb := tx_box W sq tm kd ky nm aa ga na cp gn gc
  obtain ⟨w1, hwa⟩ : ∃ z, z = W.alloc (.cells #[.int .i64 sq, .int .i64 tm, .int .i64 kd, .string ky, .string nm, .slice aa na cp, .slice ga gn gc] 34) := ⟨_, rfl⟩
  rw [← hwa] at htb hba
  have HWa := Lib.hid hwa
  have hca := hc.keep hba
  have hin := own_lst encL_len hca.bo.o.l
  have hlen := hin.len
  have k1 : w1.cell? ⟨W.heap.size, 1, none⟩ = some (.int .i64 tm) := Arr.blk_cell htb 1
  have p4 : w1.cell? ⟨B, 4, none⟩ = some (.slice y.l.a y.l.n y.l.c) := Arr.blk_cell hca.bo.b 4
  have HK1 := Lib.hid k1
  obtain ⟨n, hnn⟩ : ∃ n, n = y.l.n := ⟨_, rfl⟩
  rw [← hnn] at hin hlen p4
  have hn16 : n ≤ 16 := by omega
  have HA := Lib.hid (And.intro hin (And.intro hca (And.intro hlen hok)))
  clear hba htb hwa hca hc hin hok hlen hn hnn k1
  go_enter Tryz.func78, Tryz.ntmps78
  go_upto_region 2 with fail
  rw [← HWa.out]
  go_wp2_with fail
  go_loopw [6, 14] (fun v i wr => ∃ k : Nat, k ≤ n ∧ i = .int .i64 (k : Nat) ∧ Owns encG 2 49 wr w1.heap.size v (expFrom tm 0 (y.allocs.take k)) ∧ Below w1.heap.size w1 wr) (fun _ i _ => n - (intOf i).toNat)
  case atStart => exact ⟨0, Nat.zero_le _, rfl, owns_nil _ _ _, Below.refl _ _⟩
  case round =>
    obtain ⟨k, hk, rfl, hown, hb⟩ := hrel
    have HO := Lib.hid (And.intro hown hb)
    clear hown hb
    by_cases hlt : k < n
    · obtain ⟨x, hx⟩ : ∃ zz, y.allocs[k]? = some zz := ⟨_, List.getElem?_eq_getElem (by rw [HA.out.2.2.1]; exact hlt)⟩
      obtain ⟨b, o, hya⟩ := lst_at HA.out.1 (by omega)
      have hal := lst_keep encL_len HA.out.1 HO.out.2
      rw [hya] at hal ⊢
      have hkl := (List.getElem?_eq_some_iff.1 hx).1
      obtain ⟨c0, c1, c2, c3, c4, c5⟩ := Tre.alloc_cells6 hal hkl
      rw [(List.getElem?_eq_some_iff.1 hx).2] at c0 c1 c2 c3 c4 c5
      have hst := exp_next (now := tm) hx
      have hxo := HA.out.2.2.2 x (List.mem_of_getElem? hx)
      have hsl := exp_len tm (y.allocs.take k) 0
      rw [List.length_take] at hsl
      obtain ⟨lx, hlx⟩ : ∃ zz, zz = expFrom tm 0 (y.allocs.take k) := ⟨_, rfl⟩
      rw [← hlx] at hst HO hsl
      obtain ⟨x0, x1, x2, x3, x4, x5⟩ := x
      have hav := hxo.2.2.2.1
      simp only at c0 c1 c2 c3 c4 c5 hst hav
      have HS := Lib.hid hst
      have hl9 : lx.length ≤ 32 := by omega
      have HHa := Lib.hid (And.intro hav hya)
      clear hst hsl hlx hx hkl hal hya hxo hav
      have hb1 := below_alloc wr (.cells #[.int .i64 x0, .int .i64 x1, .int .i64 x2, .int .i64 x3, .int .i64 x4, .int .i64 x5] 65)
      have hbb : Arr.Blk (wr.alloc (.cells #[.int .i64 x0, .int .i64 x1, .int .i64 x2, .int .i64 x3, .int .i64 x4, .int .i64 x5] 65)) wr.heap.size 65 [.int .i64 x0, .int .i64 x1, .int .i64 x2, .int .i64 x3, .int .i64 x4, .int .i64 x5] := Arr.blk_new _ _ _ _ rfl
      obtain ⟨wb, hwb⟩ : ∃ z, z = wr.alloc (.cells #[.int .i64 x0, .int .i64 x1, .int .i64 x2, .int .i64 x3, .int .i64 x4, .int .i64 x5] 65) := ⟨_, rfl⟩
      rw [← hwb] at hb1 hbb
      have HWb := Lib.hid hwb
      have HB1 := Lib.hid (And.intro (Nest.own_on HO.out.1 hb1) (And.intro (below_keep HO.out.2 hb1) (show w1.heap.size ≤ wb.heap.size from (below_keep HO.out.2 hb1).size)))
      have b2 : wb.cell? ⟨wr.heap.size, 2, none⟩ = some (.int .i64 x2) := Arr.blk_cell hbb 2
      have b3 : wb.cell? ⟨wr.heap.size, 3, none⟩ = some (.int .i64 x3) := Arr.blk_cell hbb 3
      have kt : wb.cell? ⟨W.heap.size, 1, none⟩ = some (.int .i64 tm) := cell_keep HB1.out.2.1 HK1.out
      have HQ := Lib.hid b3
      clear hb1 hbb hwb
      go_upto_region 5 with fail
      rw [← HWb.out]
      clear c0 c1 c2 c3 c4 c5
      by_cases h1 : x2 ≤ tm
      · by_cases h0 : 0 < x3
        · have HS2 := Lib.hid (show expFrom tm 0 (y.allocs.take (k + 1)) = lx ++ pair (1 + 3 * (k : Int)) 0 x3 by rw [HS.out, if_pos ⟨h0, h1⟩])
          have HK := Lib.hid (show 0 ≤ ((k : Nat) : Int) ∧ ((k : Nat) : Int) ≤ 100 by omega)
          have HX := Lib.hid (show 0 ≤ x3 ∧ x3 ≤ 9223372036854775807 from ⟨by omega, HHa.out.1.2⟩)
          obtain ⟨ao, co, rfl, hcl, hcm, hcn, hcr⟩ := owns_row encG_len HB1.out.1
          obtain ⟨mo, hmo⟩ : ∃ m, m = lx.length := ⟨_, rfl⟩
          rw [← hmo] at HB1 ⊢
          have HLn := Lib.hid (show lx.length + 2 ≤ maxLen ∧ (lx.length + 2) * 16 ≤ 140737488355328 by unfold maxLen; omega)
          clear hcl hcm hcn hcr hmo
          go_upto_region 6 with fail
          clear b2 b3 kt
          refine Rel.wp_region_ends (G := Rel.Gr) _ _ (Rel.tab [.is (.slice ao mo co), .is (.int .i64 (k : Nat)), .is (.int .i64 (1 + 3 * (k : Int))), .is (.pointer (some ⟨wr.heap.size, 3, none⟩)), .is (.int .i64 x3), kPair (pair (1 + 3 * (k : Int)) 0 x3)]) (fun _ w => Below wb.heap.size wb w) (by kernel_rfl) rfl rfl (by kernel_rfl) (by kernel_rfl) (by kernel_rfl) (by kernel_rfl) (by kernel_rfl) (by kernel_rfl) (below_drew _) ?_ ?_
          · refine ⟨?_, ?_, ?_, ?_, ?_, ?_, trivial⟩
            · intro L a w c
              refine .inl ⟨Rel.wanted_free (by kernel_rfl) _, ?_⟩
              exact Rel.wp_mv _ rfl ⟨_, rfl, Rel.gr_refl _, (c.old 6 (v := .slice ao mo co) (by kernel_rfl) (by kernel_rfl)), c.inv⟩
            · intro L a w c
              refine .inl ⟨Rel.wanted_free (by kernel_rfl) _, ?_⟩
              exact Rel.wp_mv _ rfl ⟨_, rfl, Rel.gr_refl _, (c.old 7 (v := .int .i64 (k : Nat)) (by kernel_rfl) (by kernel_rfl)), c.inv⟩
            · intro L a w c
              refine .inl ⟨Rel.wanted_free (by kernel_rfl) _, ?_⟩
              refine Rel.wp_cl _ _ _ rfl Tryz.func92 (by kernel_rfl) ?_
              show Calls _ _ #[Rel.slot a 30] w _
              rw [show Rel.slot a 30 = .int .i64 (k : Nat) from (c.get 1 30 (by kernel_rfl))]
              refine (available_any w ((k : Nat) : Int) HK.out.1 HK.out.2).mono ?_
              rintro e w' ⟨rfl, h3⟩
              subst h3
              exact ⟨_, rfl, _, rfl, Below.refl _ _, rfl, c.inv⟩
            · intro L a w c
              refine .inl ⟨Rel.wanted_free (by kernel_rfl) _, ?_⟩
              exact Chn.wp_fa _ _ _ rfl (c.old 8 (v := .pointer (some ⟨wr.heap.size, 0, none⟩)) (by kernel_rfl) (by kernel_rfl)) (by simp [go_sem]) ⟨_, rfl, Rel.gr_refl _, rfl, c.inv⟩
            · intro L a w c
              refine .inl ⟨Rel.wanted_free (by kernel_rfl) _, ?_⟩
              exact Rel.wp_ld _ _ rfl (c.get 3 32 (by kernel_rfl)) (run_ldI (cell_keep c.inv HQ.out)) ⟨_, rfl, Rel.gr_refl _, rfl, c.inv⟩
            · intro L a w c
              refine .inl ⟨Rel.wanted_free (by kernel_rfl) _, ?_⟩
              refine Rel.wp_cl _ _ _ rfl Tryz.func91 (by kernel_rfl) ?_
              show Calls _ _ #[Rel.slot a 31, .int .i64 0, Rel.slot a 33] w _
              rw [show Rel.slot a 31 = .int .i64 (1 + 3 * (k : Int)) from (c.get 2 31 (by kernel_rfl)), show Rel.slot a 33 = .int .i64 x3 from (c.get 4 33 (by kernel_rfl))]
              refine (move_any w (1 + 3 * (k : Int)) 0 x3 HX.out.1 HX.out.2).mono ?_
              rintro e w' ⟨rfl, ho, hb⟩
              exact ⟨_, rfl, _, rfl, hb, ⟨_, rfl, (own_lst encG_len ho).row⟩, below_keep c.inv hb⟩
          intro a w5 hbase hroom hdef hJ hV
          have s29 : Rel.slot a 29 = .slice ao mo co := hV 0 _ _ rfl rfl
          have k34 : (kPair (pair (1 + 3 * (k : Int)) 0 x3) : Rel.Kd (Rel.Gr)).p w5 (Rel.slot a 34) := hV 5 _ _ rfl rfl
          rw [Chn.act_puts [29, 30, 31, 32, 33, 34] hbase hroom hdef (by kernel_rfl)]
          clear hbase hroom hdef hV
          simp only [List.foldl_cons, List.foldl_nil]
          rw [s29]
          clear s29
          generalize Rel.slot a 30 = u30 at *
          generalize Rel.slot a 31 = u31 at *
          generalize Rel.slot a 32 = u32 at *
          generalize Rel.slot a 33 = u33 at *
          generalize Rel.slot a 34 = u34 at *
          simp only [Act.put, List.setIfInBounds_toArray, List.set_cons_succ, List.set_cons_zero]
          obtain ⟨g9, rfl, hrow⟩ := k34
          have HA9 := Lib.hid (show Owns encG 2 49 w5 w1.heap.size (.slice ao mo co) lx ∧ Below w1.heap.size w1 w5 from ⟨Nest.own_on HB1.out.1 hJ, below_keep HB1.out.2.1 hJ⟩)
          clear hJ
          dsimp only [List.getLast]
          obtain ⟨v9, w9, hr9, ho9, hg9, _⟩ := Two.run_append_apart (P := Tryz.prog) encG_len (by omega) encG_one (w := w5) 32 32 49 Tryz.underlying32 (.agg #[.int .i64 0, .int .i64 0]) 16 Led.info_leg rfl w1.heap.size (.slice ao mo co) lx HA9.out.1 (some ⟨g9, 0, none⟩) 2 2 (pair (1 + 3 * (k : Int)) 0 x3) rfl hrow (fun h => by cases h) HLn.out.1 HLn.out.2 HA9.out.2.size
          have HE9 := Lib.hid (And.intro ho9 (HA9.out.2.trans (Two.below_grown HA9.out.1 hg9 HA9.out.2.size)))
          refine Chn.wp_ap (.tmp 29) (.tmp 34) 32 rfl rfl rfl hr9 ?_
          refine Rel.wp_as _ rfl ?_
          clear hr9 ho9 hg9 hrow
          go_wp2_with fail
          go_roundw
          case rel => exact ⟨k + 1, by omega, by go_num, by rw [HS2.out]; exact HE9.out.1, HE9.out.2⟩
          case measure => simp [intOf]; omega
        · have HS2 := Lib.hid (show expFrom tm 0 (y.allocs.take (k + 1)) = lx by rw [HS.out, if_neg (fun h => h0 h.1), List.append_nil])
          have d1 : decide (x2 ≤ tm) = true := decide_eq_true h1
          have d0 : decide (0 < x3) = false := decide_eq_false h0
          go_wp2_with fail
          go_roundw
          case rel => exact ⟨k + 1, by omega, by go_num, by rw [HS2.out]; exact HB1.out.1, HB1.out.2.1⟩
          case measure => simp [intOf]; omega
      · have HS2 := Lib.hid (show expFrom tm 0 (y.allocs.take (k + 1)) = lx by rw [HS.out, if_neg (fun h => h1 h.2), List.append_nil])
        have d1 : decide (x2 ≤ tm) = false := decide_eq_false h1
        go_wp2_with fail
        go_roundw
        case rel => exact ⟨k + 1, by omega, by go_num, by rw [HS2.out]; exact HB1.out.1, HB1.out.2.1⟩
        case measure => simp [intOf]; omega
    · obtain rfl : k = n := by omega
      have htk : y.allocs.take k = y.allocs := List.take_of_length_le (by rw [HA.out.2.2.1]; exact Nat.le_refl _)
      rw [htk] at HO
      obtain ⟨ao, co, rfl, hcl, hcm, hcn, hcr⟩ := owns_row encG_len HO.out.1
      have HEx := Lib.hid (show expFrom tm 0 y.allocs = expL y.t tm from rfl)
      have hli : (expFrom tm 0 y.allocs).length = 0 ∨ ¬ (expFrom tm 0 y.allocs).length = 0 := by omega
      have HCl := Lib.hid (HA.out.2.1.keep (HO.out.2))
      rcases hli with hz | hz
      · have HE2 := Lib.hid (show expL y.t tm = [] from List.length_eq_zero_iff.1 hz)
        rw [hz]
        clear hcl hcm hcn hcr htk hz
        go_wp2_with fail
        go_ret2
        exact ⟨y, none, 0, 0, by rw [HEE.out, if_pos HE2.out]; rfl, (fun h => by rw [HEE.out, if_pos HE2.out] at h; exact absurd h (by decide)), HCl.out.below⟩
      · have HE2 := Lib.hid (show ¬ expL y.t tm = [] from fun e => hz (by rw [show expFrom tm 0 y.allocs = [] from e]; rfl))
        have HOw := Lib.hid (owns_down (HA.out.2.1.below.size) HO.out.1)
        obtain ⟨m, hm⟩ : ∃ m, m = (expFrom tm 0 y.allocs).length := ⟨_, rfl⟩
        rw [← hm] at hz HOw ⊢
        have hzi : ¬ (m : Int) = 0 := by omega
        clear hcl hcm hcn hcr htk hm hz
        go_wp2_with fail
        go_ret2
        exact ⟨y, ao, m, co, by rw [HEE.out, if_neg HE2.out]; rfl, (fun _ => ⟨rfl, HCl.out.bo, HOw.out⟩), HCl.out.below⟩
end Go.Proofs.YtjcndgopijpibaaGreat.Bok
/- Pool: small facts of powers and bits. -/
namespace Go.Proofs.YtjcndgopijpibaaGreat.Poo
set_option maxRecDepth 100000
set_option linter.unusedVariables false
theorem and_one (x : Int) : Go.bits .and .i64 x 1 = x % 2 := by
  unfold Go.bits
  have h1 : BitVec.ofInt IntKind.i64.bits 1 = 1#64 := rfl
  have h2 : ((BitVec.ofInt 64 x &&& 1#64).toNat : Int) = x % 2 := by
    rw [BitVec.toNat_and, BitVec.toNat_ofInt, show (1#64 : BitVec 64).toNat = 1 from rfl, Nat.and_one_is_mod]
    omega
  show IntKind.i64.wrap _ = _
  rw [h1]
  show IntKind.i64.wrap (((BitVec.ofInt 64 x &&& 1#64).toNat : Nat) : Int) = _
  rw [h2]
  have : 0 ≤ x % 2 ∧ x % 2 < 2 := by omega
  generalize x % 2 = y at this
  simp [IntKind.wrap_i64]
  omega
theorem two_pow {k : Nat} (h : k < 32) : ∃ P : Nat, P = 2 ^ k ∧ (2 : Int) ^ k = (P : Nat) ∧ 1 ≤ P ∧ P ≤ 2147483648 :=
  ⟨2 ^ k, rfl, by rw [Int.natCast_pow]; rfl, Nat.pow_pos (by decide), Nat.pow_le_pow_right (n := 2) (by decide) (show k ≤ 31 by omega)⟩
theorem two_le {k : Nat} (h : k ≤ 32) : 1 ≤ 2 ^ k ∧ 2 ^ k ≤ 4294967296 := ⟨Nat.pow_pos (by decide), Nat.pow_le_pow_right (n := 2) (by decide) h⟩
end Go.Proofs.YtjcndgopijpibaaGreat.Poo
/- Pool: bits of numbers of 64 bits. -/
namespace Go.Proofs.YtjcndgopijpibaaGreat.Poo
open Go
set_option linter.unusedVariables false
theorem of64 (a : Nat) (h : a < 18446744073709551616) : (BitVec.ofInt 64 (a : Int)).toNat = a := by
  rw [BitVec.ofInt_natCast, BitVec.toNat_ofNat]; exact Nat.mod_eq_of_lt h
theorem wrap_nat {n : Nat} (h : n < 4294967296) : IntKind.i64.wrap (n : Int) = (n : Int) := by
  simp [IntKind.wrap_i64]
  omega
theorem or64 {a b : Nat} (ha : a < 4294967296) (hb : b < 4294967296) : bits .or .i64 (a : Int) (b : Int) = ((a ||| b : Nat) : Int) := by
  have hx : a ||| b < 2 ^ 32 := Nat.or_lt_two_pow (by omega) (by omega)
  show IntKind.i64.wrap ((BitVec.ofInt 64 (a : Int) ||| BitVec.ofInt 64 (b : Int)).toNat : Int) = _
  rw [BitVec.toNat_or, of64 a (by omega), of64 b (by omega), wrap_nat (by omega)]
end Go.Proofs.YtjcndgopijpibaaGreat.Poo
/- Pool: the landed program's has, Count, All. -/
namespace Go.Proofs.YtjcndgopijpibaaGreat.Poo
set_option maxRecDepth 100000
open Go.RowKit
open Go.Sort
open Kit
open Tre (inI)
set_option linter.unusedVariables false
theorem or_add {V k : Nat} (h : V < 2 ^ k) : V ||| 2 ^ k = V + 2 ^ k := by
  have := Nat.two_pow_add_eq_or_of_lt h 1
  rw [Nat.mul_one] at this
  rw [Nat.or_comm, ← this, Nat.add_comm]
theorem has_any (W : World) (m : Int) {k : Nat} (hk : k < 32) : Calls Tryz.prog 130 #[.int .i64 m, .int .i64 (k : Nat)] W fun e W' => e = .returned (.bool ((lo m).testBit k)) ∧ W = W' := by
  have hb : (Go.bits .and .i64 (m / 2 ^ k) 1 == 1) = (lo m).testBit k := by
    rw [and_one, lo_bit m hk]; rfl
  have HB := Lib.hid hb
  clear hb
  go_enter Tryz.func130, Tryz.ntmps130
  go_wp2_with fail
  go_ret
  exact ⟨by rw [← HB.out]; rfl, rfl⟩
theorem count_any (W : World) (m : Int) : Calls Tryz.prog 107 #[.int .i64 m] W fun e W' => e = .returned (.int .i64 (cnt (lo m) : Nat)) ∧ W = W' := by
  go_enter Tryz.func107, Tryz.ntmps107
  go_wp2_with fail
  go_loop [3, 4, 5] (fun v xv iv => ∃ k : Nat, k ≤ 32 ∧ iv = .int .i64 (k : Nat) ∧ v = .int .i64 (cntTo (lo m) k : Nat)) (fun _ _ iv => 32 - (intOf iv).toNat)
  case atStart => exact ⟨0, by omega, rfl, rfl⟩
  case round =>
    obtain ⟨k, hk, rfl, rfl⟩ := hrel
    obtain ⟨c, hc⟩ : ∃ c, c = cntTo (lo m) k := ⟨_, rfl⟩
    have hcl := cnt_le (lo m) k
    rw [← hc] at hcl ⊢
    by_cases hlt : k < 32
    · have HH := Lib.hid (has_any W m hlt)
      have hn : cntTo (lo m) (k + 1) = c + (if (lo m).testBit k then 1 else 0) := by rw [cntTo, hc]
      have HN := Lib.hid hn
      clear hn hc
      go_wp2_with fail
      refine HH.out.mono ?_
      rintro e w1 ⟨rfl, rfl⟩
      cases hb : (lo m).testBit k with
      | true =>
        rw [hb] at HN
        clear hb HH
        go_wp2_with fail
        go_round
        case rel => exact ⟨k + 1, by omega, by go_num, by rw [HN.out]; go_num⟩
        case measure => simp [intOf]; omega
      | false =>
        rw [hb] at HN
        clear hb HH
        go_wp2_with fail
        go_round
        case rel => exact ⟨k + 1, by omega, by go_num, by rw [HN.out]; rfl⟩
        case measure => simp [intOf]; omega
    · obtain rfl : k = 32 := by omega
      have HC := Lib.hid hc
      clear hc
      go_wp2_with fail
      go_ret
      exact ⟨by rw [HC.out]; rfl, rfl⟩
theorem all_any (W : World) (n : Int) (hn : inI n) : Calls Tryz.prog 106 #[.int .i64 n] W fun e W' => e = .returned (.int .i64 (allN n : Nat)) ∧ W = W' := by
  have hn1 := hn.1
  have hn2 := hn.2
  clear hn
  by_cases hm : 32 < n
  · go_enter Tryz.func106, Tryz.ntmps106
    go_wp2_with fail
    go_loop [3, 4, 7] (fun v xv iv => ∃ k V : Nat, k ≤ 32 ∧ k ≤ n.toNat ∧ iv = .int .i64 (k : Nat) ∧ v = .int .i64 (V : Nat) ∧ V + 1 = 2 ^ k) (fun _ _ iv => 32 - (intOf iv).toNat)
    case atStart => exact ⟨0, 0, by omega, by omega, rfl, rfl, rfl⟩
    case round =>
      obtain ⟨k, V, hk, hkn, rfl, rfl, hV⟩ := hrel
      have hV2 := two_le hk
      rw [← hV] at hV2
      have HV := Lib.hid hV
      have hVb : V ≤ 4294967295 := by omega
      have hlt2 : V < 2 ^ k := by omega
      clear hV hV2
      by_cases hlt : k < 32
      · obtain ⟨P, hP, hP2, hP3, hP4⟩ := two_pow (show k < 32 by omega)
        have HN := Lib.hid (show V + P + 1 = 2 ^ (k + 1) by rw [Nat.pow_succ, ← hP]; have := HV.out; omega)
        have hor : Go.bits .or .i64 (V : Int) (P : Int) = ((V + P : Nat) : Int) := by
          rw [or64 (by omega) (by omega), hP, or_add hlt2]
        clear hP hlt2
        go_wp2_with fail
        go_round
        case rel => exact ⟨k + 1, V + P, by omega, by omega, by go_num, by go_num, HN.out⟩
        case measure => simp [intOf]; omega
      · have HF := Lib.hid (show V = allN n by
          unfold allN
          rw [show min 32 n.toNat = k by omega]
          have := HV.out
          omega)
        clear hlt2
        go_wp2_with fail
        go_ret
        exact ⟨by rw [HF.out]; rfl, rfl⟩
  · go_enter Tryz.func106, Tryz.ntmps106
    go_wp2_with fail
    go_loop [3, 4, 7] (fun v xv iv => ∃ k V : Nat, k ≤ 32 ∧ k ≤ n.toNat ∧ iv = .int .i64 (k : Nat) ∧ v = .int .i64 (V : Nat) ∧ V + 1 = 2 ^ k) (fun _ _ iv => 32 - (intOf iv).toNat)
    case atStart => exact ⟨0, 0, by omega, by omega, rfl, rfl, rfl⟩
    case round =>
      obtain ⟨k, V, hk, hkn, rfl, rfl, hV⟩ := hrel
      have hV2 := two_le hk
      rw [← hV] at hV2
      have HV := Lib.hid hV
      have hVb : V ≤ 4294967295 := by omega
      have hlt2 : V < 2 ^ k := by omega
      clear hV hV2
      by_cases hlt : (k : Int) < n
      · obtain ⟨P, hP, hP2, hP3, hP4⟩ := two_pow (show k < 32 by omega)
        have HN := Lib.hid (show V + P + 1 = 2 ^ (k + 1) by rw [Nat.pow_succ, ← hP]; have := HV.out; omega)
        have hor : Go.bits .or .i64 (V : Int) (P : Int) = ((V + P : Nat) : Int) := by
          rw [or64 (by omega) (by omega), hP, or_add hlt2]
        clear hP hlt2
        go_wp2_with fail
        go_round
        case rel => exact ⟨k + 1, V + P, by omega, by omega, by go_num, by go_num, HN.out⟩
        case measure => simp [intOf]; omega
      · have HF := Lib.hid (show V = allN n by
          unfold allN
          rw [show min 32 n.toNat = k by omega]
          have := HV.out
          omega)
        clear hlt2
        go_wp2_with fail
        go_ret
        exact ⟨by rw [HF.out]; rfl, rfl⟩
end Go.Proofs.YtjcndgopijpibaaGreat.Poo
