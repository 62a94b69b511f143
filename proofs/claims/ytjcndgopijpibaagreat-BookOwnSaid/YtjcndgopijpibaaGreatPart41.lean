/- Common to the claims of this seat, part 41: texts that were written one by one, laid behind one another. -/
import Derived.Test.YtjcndgopijpibaaGreatPart6
import Derived.Test.YtjcndgopijpibaaGreatPart8
import Derived.Test.YtjcndgopijpibaaGreatPart22
import Derived.Test.YtjcndgopijpibaaGreatPart35
import Derived.Test.YtjcndgopijpibaaGreatPart37
/- Job, the landed: the nodes of all that run. -/
namespace Go.Proofs.YtjcndgopijpibaaGreat.Job
set_option maxRecDepth 100000
open Go.RowKit
open Go.Sort
open Kit
open Foot (owns_le)
open Tre (Lst inI lst_keep lst_take lst_at lst_new lst_none run_ld2)
open Go.Proofs.YtjcndgopijpibaaGreat.Ord (ts)
set_option linter.unusedVariables false
variable {w w' : World}
theorem runL_len (l : List Jv) : (runL l).length ≤ l.length := List.length_filter_le _ _
def maskR (l : List Jv) : Int := l.foldl (fun a x => orW a x.t.mask) 0
theorem maskR_eq (l : List Jv) : maskR (runL l) = maskL (ts l) := by
  unfold maskR maskL runL ts
  generalize (0 : Int) = a
  induction l generalizing a with
  | nil => rfl
  | cons x l ih =>
    rw [List.filter_cons, List.map_cons, List.foldl_cons]
    unfold maskS
    cases hr : runB x.t with
    | true => rw [if_pos rfl, if_pos rfl, List.foldl_cons]; exact ih _
    | false => rw [if_neg Bool.false_ne_true, if_neg Bool.false_ne_true]; exact ih _
theorem take_snoc {α : Type} {l : List α} {k : Nat} {x : α} (h : l[k]? = some x) : l.take (k + 1) = l.take k ++ [x] := by
  obtain ⟨hk, e⟩ := List.getElem?_eq_some_iff.1 h
  rw [List.take_succ_eq_append_getElem hk, e]
theorem maskR_take {l : List Jv} {k : Nat} {x : Jv} (h : l[k]? = some x) : maskR (l.take (k + 1)) = bits BinOp.or IntKind.i64 (maskR (l.take k)) x.t.mask := by
  unfold maskR
  rw [take_snoc h, List.foldl_append]; rfl
set_option maxHeartbeats 8000000 in
theorem mask_any (W : World) (a1 : Option Addr) (n c1 : Nat) (l : List Jv) (h : Jobs W a1 n c1 l) (hn : n ≤ 100) :
    Calls Tryz.prog 108 #[.slice a1 n c1] W fun e W' => e = .returned (.int .i64 (maskL (ts l))) ∧ Below W.heap.size W W' := by
  have HC := Lib.hid (And.intro (running_any W a1 n c1 l h hn) (show (runL l).length ≤ 100 by have := runL_len l; have := h.len; omega))
  have HF := Lib.hid (maskR_eq l)
  clear h
  go_enter Tryz.func108, Tryz.ntmps108
  go_wp2_with fail
  refine HC.out.1.mono ?_
  rintro e w0 ⟨v, rfl, hown, hb⟩
  obtain ⟨R, hR⟩ : ∃ R, R = runL l := ⟨_, rfl⟩
  rw [← hR] at hown HC HF
  clear hR
  obtain ⟨ar, cr, rfl, hJ⟩ := own_jobs hown
  obtain ⟨m, hm⟩ : ∃ m, m = R.length := ⟨_, rfl⟩
  rw [← hm] at hJ ⊢
  have hm1 : m ≤ 100 := by rw [hm]; exact HC.out.2
  have HL := Lib.hid (And.intro hJ (And.intro hm hb))
  clear hJ hm hb hown HC
  go_wp2_with fail
  go_loopw [3, 9] (fun v i wr => ∃ k : Nat, k ≤ m ∧ i = .int .i64 (k : Nat) ∧ v = .int .i64 (maskR (R.take k)) ∧ Below w0.heap.size w0 wr) (fun _ i _ => m - (intOf i).toNat)
  case atStart => exact ⟨0, Nat.zero_le _, rfl, rfl, Below.refl _ _⟩
  case round =>
    obtain ⟨k, hk, rfl, rfl, hb⟩ := hrel
    have HO := Lib.hid hb
    clear hb
    by_cases hlt : k < m
    · have hlti : (k : Int) < (m : Int) := by omega
      have hkl : k < R.length := by rw [← HL.out.2.1]; exact hlt
      obtain ⟨x, hx⟩ : ∃ x, R[k]? = some x := ⟨_, List.getElem?_eq_getElem hkl⟩
      obtain ⟨b, o, rfl⟩ := lst_at HL.out.1 (by omega)
      have HRx := Lib.hid (job_range (lst_keep encJ_len HL.out.1 HO.out) hx)
      have HN := Lib.hid (maskR_take hx)
      obtain ⟨z, hz⟩ : ∃ z, z = maskR (R.take k) := ⟨_, rfl⟩
      rw [← hz] at HN ⊢
      clear hx hkl hz
      obtain ⟨w1, rfl⟩ : ∃ z, z = wr := ⟨_, rfl⟩
      go_upto_region 5 with (first | (refine wpList_load_mid rfl 58 (.tmp 11) rfl b (o + k * 12) rfl (encJ x) _ HRx.out Tryz.underlying58 rfl info_job12 ?_) | (refine Arr.wpList_store_blk rfl 58 (.tmp 5) (.tmp 12) rfl w1.heap.size (encJ x) rfl rfl zeroJ 58 (Arr.blk_new _ _ _ zeroJ rfl) info_job12 rfl (one12L' x) w1.heap.size (Nat.le_refl _) ?_; intro w2 hblk hbel; have HW2 := Lib.hid (And.intro hblk ((below_alloc w1 (.cells zeroJ.toArray 58)).trans hbel)); clear hbel hblk) | fail)
      have q9 : w2.cell? ⟨w1.heap.size, 9, none⟩ = some (.int .i64 x.t.mask) := Arr.blk_cell HW2.out.1 9
      obtain ⟨mk, hmk⟩ : ∃ mk, mk = x.t.mask := ⟨_, rfl⟩
      rw [← hmk] at q9 HN
      have HB2 := Lib.hid (below_keep HO.out HW2.out.2)
      generalize Value.agg (encJ x).toArray = u13
      clear hmk HW2 HRx HO
      go_wp2_with fail
      go_roundw
      case rel => exact ⟨k + 1, by omega, by go_num, by rw [HN.out], HB2.out⟩
      case measure => simp [intOf]; omega
    · obtain rfl : k = m := by omega
      have hni : ¬ (k : Int) < (k : Int) := by omega
      have HA := Lib.hid (show maskR (R.take k) = maskL (ts l) by rw [← HF.out, List.take_of_length_le (by rw [HL.out.2.1]; exact Nat.le_refl _)])
      rw [HA.out]
      go_wp2_with fail
      go_ret
      exact ⟨rfl, below_keep HL.out.2.2 HO.out⟩
end Go.Proofs.YtjcndgopijpibaaGreat.Job
/- Book, the landed: a state copied. -/
namespace Go.Proofs.YtjcndgopijpibaaGreat.Bok
set_option maxRecDepth 100000
open Go.RowKit
open Go.Sort
open Kit
open Foot
open Tre (Lst inI lst_keep lst_at lst_new lst_none encF encF_len encL_len IntsL goodB)
open Led (Lg encG encG_len)
open Job (Jb Jv Jobs encJ encJ_len encJ_one findI)
open Drw (Dw Draws encD encD_len encD_one)
open Go.Proofs.YtjcndgopijpibaaGreat.Ord (ts)
open Snp (Sn Sv encK encK_len encK_one)
set_option linter.unusedVariables false
variable {w w' W0 W : World} {B : Nat}
theorem run_ld_jc {w : World} {a : Addr} {b : Option Addr} {n c : Nat} (h : w.cell? a = some (.slice b n c)) : (Instr.loadAt 26 (.pointer (some a))).run Tryz.prog w = .ok (.slice b n c) w := by
  simp [go_sem, h]
theorem run_ld_dc {w : World} {a : Addr} {b : Option Addr} {n c : Nat} (h : w.cell? a = some (.slice b n c)) : (Instr.loadAt 56 (.pointer (some a))).run Tryz.prog w = .ok (.slice b n c) w := by
  simp [go_sem, h]
theorem run_st_dc {w : World} {a : Addr} {u : Value} {b : Option Addr} {n c : Nat} (h : w.cell? a = some u) (hf : w.frozen? a = false) : (Instr.storeAt 56 (.pointer (some a)) (.slice b n c)).run Tryz.prog w = .ok () (w.setCell a (.slice b n c)) := by
  simp [go_sem, h, hf]
theorem run_ij0 {b n c k : Nat} (h : k < n) (w : World) : (Instr.indexAt 26 (.slice (some ⟨b, 0, none⟩) n c) (.int .i64 (k : Nat))).run Tryz.prog w = .ok (.pointer (some ⟨b, k * 12, none⟩)) w := by
  simp [go_sem, h]
structure Cb (W w : World) (y : Sv) : Prop where
  b : Arr.Blk w W.heap.size 29 (Snp.encV y)
  r : Arr.Blk w (W.heap.size + 1) 29 [.int .i64 0, .int .i64 0, .int .i64 0, .slice none 0 0, .slice none 0 0, .slice none 0 0, .slice none 0 0, .slice none 0 0]
  below : Below W.heap.size W w
theorem Cb.keep {y : Sv} (h : Cb W w y) (hb : Below w.heap.size w w') : Cb W w' y := ⟨Arr.blk_below h.b hb (Arr.blk_lt h.b), Arr.blk_below h.r hb (Arr.blk_lt h.r), below_keep h.below hb⟩
theorem Cb.st {y y' : Sv} (h : Cb W w y) (i : Nat) (v : Value) (he : (Snp.encV y).set i v = Snp.encV y') : Cb W (w.setCell ⟨W.heap.size, i, none⟩ v) y' :=
  ⟨by rw [← he]; exact Arr.blk_set h.b i v, Arr.blk_set_far h.r (by omega) i v, Arr.below_set h.below (Nat.le_refl _) i v⟩
theorem Cb.own {α : Type} {enc : α → List Value} {size base : Nat} {T : TypeId} {v : Value} {l : List α} {y : Sv} (h : Cb W w y) (ho : Owns enc size T w base v l) (hne : T ≠ 29) (i : Nat) (u : Value) : Owns enc size T (w.setCell ⟨W.heap.size, i, none⟩ u) base v l := own_st h.b ho hne i u
structure Cj (W w : World) (x : Sv) (y : Sv) (k : Nat) : Prop where
  cb : Cb W w y
  f : Owns encF 3 81 w W.heap.size y.f.v x.funds
  l : Owns Tre.encL 6 65 w W.heap.size y.l.v x.allocs
  r : Owns Rte.encR 3 83 w W.heap.size y.r.v x.rates
  j : Owns encJ 12 58 w W.heap.size y.j.v y.jobs
  len : y.jobs.length = x.jobs.length
  rest : ∀ i, k ≤ i → y.jobs[i]? = x.jobs[i]?
  t : y.jobs.map (·.t) = x.jobs.map (·.t)
  d : ∀ (i : Nat) (z : Jv), i < k → y.jobs[i]? = some z → Owns encD 2 63 w W.heap.size (.slice z.a z.n z.c) z.t.draws
  ds : ∀ (i j : Nat) (p q : Jv), i < k → j < k → y.jobs[i]? = some p → y.jobs[j]? = some q → i ≠ j → ∀ b, (Value.slice p.a p.n p.c).ownBlock = some b → (Value.slice q.a q.n q.c).ownBlock ≠ some b
  s : y.seq = x.seq ∧ y.world = x.world ∧ y.next = x.next ∧ y.funds = x.funds ∧ y.allocs = x.allocs ∧ y.rates = x.rates ∧ y.keys = x.keys ∧ y.k = x.k
theorem Cj.keep {x y : Sv} {k : Nat} (h : Cj W w x y k) (hb : Below w.heap.size w w') : Cj W w' x y k :=
  ⟨h.cb.keep hb, Nest.own_on h.f hb, Nest.own_on h.l hb, Nest.own_on h.r hb, Nest.own_on h.j hb, h.len, h.rest, h.t, fun i z hi hz => Nest.own_on (h.d i z hi hz) hb, h.ds, h.s⟩
theorem set_self {α : Type} {l : List α} {k : Nat} {x : α} (h : l[k]? = some x) : l.set k x = l := by
  obtain ⟨hk, e⟩ := List.getElem?_eq_some_iff.1 h
  rw [← e]
  exact List.set_getElem_self hk
theorem Cj.step {x y : Sv} {k g n cap : Nat} {z : Jv} {wr : World} (h : Cj W wr x y k) (hb : Below wr.heap.size wr w) (hj : y.j = ⟨some ⟨g, 0, none⟩, n, cap⟩) (hz : y.jobs[k]? = some z) {da : Option Addr} {dn dc : Nat} (hd : Owns encD 2 63 w wr.heap.size (.slice da dn dc) z.t.draws) :
    w.cell? ⟨g, k * 12 + 11, none⟩ = some (.slice z.a z.n z.c) ∧ w.frozen? ⟨g, k * 12 + 11, none⟩ = false ∧ Cj W (w.setCell ⟨g, k * 12 + 11, none⟩ (.slice da dn dc)) x { y with jobs := y.jobs.set k ⟨z.t, da, dn, dc⟩ } (k + 1) := by
  have h1 := h.keep hb
  have hkl := (List.getElem?_eq_some_iff.1 hz).1
  have hown : Owns encJ 12 58 w W.heap.size (.slice (some ⟨g, 0, none⟩) n cap) y.jobs := by
    have := h1.j
    rw [hj] at this
    exact this
  have hlen : y.jobs.length = n := (own_lst encJ_len hown).len
  obtain ⟨hc, hfr, ho⟩ := owns_put encJ_len hown hlen hz (i := 11) (by omega) (fun a => ⟨a.t, da, dn, dc⟩) (.slice da dn dc) (fun a => rfl)
  obtain ⟨cur, hcur⟩ := own_type hown (g := g) rfl
  have hge := (World.ownsRow.lt hown g rfl).1
  have hC := set_chg w g (k * 12 + 11) (.slice da dn dc)
  have hT : ∀ {T : TypeId}, 58 ≠ T → Typed (fun q => q = g) w T := fun hne => typed_one hcur hne
  have hWlt := Arr.blk_lt h.cb.b
  have hdw : Owns encD 2 63 w W.heap.size (.slice da dn dc) z.t.draws := owns_le hd (by omega)
  refine ⟨hc, hfr, ⟨⟨blk_typed h1.cb.b hC (hT (by decide)), blk_typed h1.cb.r hC (hT (by decide)), Arr.below_set h1.cb.below hge _ _⟩, own_typed h1.f hC (hT (by decide)), own_typed h1.l hC (hT (by decide)), own_typed h1.r hC (hT (by decide)), ?_, by show (y.jobs.set k _).length = _; rw [List.length_set]; exact h.len, fun i hi => ?_, ?_, fun i q hi hq => ?_, fun i j p q hi hj' hp hq hne b hb' => ?_, h.s⟩⟩
  · show Owns encJ 12 58 _ W.heap.size (.slice y.j.a y.j.n y.j.c) (y.jobs.set k ⟨z.t, da, dn, dc⟩)
    rw [hj]; exact ho
  · show (y.jobs.set k _)[i]? = _
    rw [List.getElem?_set_ne (by omega)]
    exact h.rest i (by omega)
  · show (y.jobs.set k ⟨z.t, da, dn, dc⟩).map (·.t) = _
    rw [List.map_set, ← h.t]
    have : (y.jobs.map (·.t))[k]? = some z.t := by rw [List.getElem?_map, hz]; rfl
    exact set_self this
  · have hq' : (y.jobs.set k ⟨z.t, da, dn, dc⟩)[i]? = some q := hq
    by_cases hik : k = i
    · subst hik
      rw [List.getElem?_set_self hkl] at hq'
      injection hq' with hq'
      subst hq'
      exact own_typed hdw hC (hT (by decide))
    · rw [List.getElem?_set_ne hik] at hq'
      exact own_typed (h1.d i q (by omega) hq') hC (hT (by decide))
  · have hp' : (y.jobs.set k ⟨z.t, da, dn, dc⟩)[i]? = some p := hp
    have hq' : (y.jobs.set k ⟨z.t, da, dn, dc⟩)[j]? = some q := hq
    by_cases hik : k = i
    · subst hik
      rw [List.getElem?_set_self hkl] at hp'
      injection hp' with hp'
      subst hp'
      rw [List.getElem?_set_ne hne] at hq'
      intro e
      have l1 := (World.ownsRow.lt hd b hb').1
      have l2 := (World.ownsRow.lt (h.d j q (by omega) hq') b e).2
      omega
    · rw [List.getElem?_set_ne hik] at hp'
      by_cases hjk : k = j
      · subst hjk
        rw [List.getElem?_set_self hkl] at hq'
        injection hq' with hq'
        subst hq'
        intro e
        have l1 := (World.ownsRow.lt hd b e).1
        have l2 := (World.ownsRow.lt (h.d i p (by omega) hp') b hb').2
        omega
      · rw [List.getElem?_set_ne hjk] at hq'
        exact h.ds i j p q (by omega) (by omega) hp' hq' hne b hb'
def phiC (wr : World) (g k : Nat) (DL : List Dw) : Nat → List Value → World → Prop
  | 0, _, w => w = wr.drew
  | 1, [u], w => (∃ a n c, u = .slice a n c ∧ Owns encD 2 63 w wr.heap.size (.slice a n c) DL) ∧ Below wr.heap.size wr w
  | 2, [_, _], w => ∃ a n c w3, Owns encD 2 63 w3 wr.heap.size (.slice a n c) DL ∧ Below wr.heap.size wr w3 ∧ w = w3.setCell ⟨g, k * 12 + 11, none⟩ (.slice a n c)
  | _, _, _ => False
theorem phiC_cell {wr : World} {g k j : Nat} {DL : List Dw} {vs : List Value} {b o : Nat} {u : Value} (hj : j ≤ 1) (h : phiC wr g k DL j vs w) (hc : wr.cell? ⟨b, o, none⟩ = some u) : w.cell? ⟨b, o, none⟩ = some u := by
  match j, vs, hj, h with
  | 0, _, _, h => rw [show w = wr.drew from h]; exact cell_keep (below_drew wr) hc
  | 1, [p], _, h => exact cell_keep h.2 hc
  | 1, [], _, h => exact h.elim
  | 1, _ :: _ :: _, _, h => exact h.elim
end Go.Proofs.YtjcndgopijpibaaGreat.Bok
/- Book, the landed: a state copied, whole. -/
namespace Go.Proofs.YtjcndgopijpibaaGreat.Bok
set_option maxRecDepth 100000
open Go.RowKit
open Go.Sort
open Kit
open Foot
open Tre (Lst inI lst_keep lst_at lst_new lst_none encF encF_len encL_len IntsL goodB)
open Led (Lg encG encG_len)
open Job (Jb Jv Jobs encJ encJ_len encJ_one findI)
open Drw (Dw Draws encD encD_len encD_one)
open Go.Proofs.YtjcndgopijpibaaGreat.Ord (ts)
open Snp (Sn Sv encK encK_len encK_one)
set_option linter.unusedVariables false
variable {w w' W0 W : World} {B : Nat}
def CopP (W : World) (x : Sv) (e : Ending) (W' : World) : Prop := ∃ y : Sv, e = .returned (Snp.valV y) ∧ y.t = x.t ∧ OwV W' W.heap.size y ∧ Dist y ∧ Below W.heap.size W W'
set_option maxHeartbeats 16000000 in
theorem copied_any (W : World) (x : Sv) (hx : x.In W) (hm : x.funds.length ≤ 8 ∧ x.allocs.length ≤ 16 ∧ x.rates.length ≤ 16 ∧ x.jobs.length ≤ 16 ∧ x.keys.length ≤ 8 ∧ ∀ z ∈ x.jobs, z.t.draws.length ≤ 16) :
    Calls Tryz.prog 33 #[Snp.valV x] W (CopP W x) := by
  have hba : Below W.heap.size W ((W.alloc (.cells #[.int .i64 x.seq, .int .i64 x.world, .int .i64 x.next, .slice x.f.a x.f.n x.f.c, .slice x.l.a x.l.n x.l.c, .slice x.r.a x.r.n x.r.c, .slice x.j.a x.j.n x.j.c, .slice x.k.a x.k.n x.k.c] 29)).alloc (.cells #[.int .i64 0, .int .i64 0, .int .i64 0, .slice none 0 0, .slice none 0 0, .slice none 0 0, .slice none 0 0, .slice none 0 0] 29)) := below_keep (below_alloc _ _) (below_alloc _ _)
  have hcb : Cb W ((W.alloc (.cells #[.int .i64 x.seq, .int .i64 x.world, .int .i64 x.next, .slice x.f.a x.f.n x.f.c, .slice x.l.a x.l.n x.l.c, .slice x.r.a x.r.n x.r.c, .slice x.j.a x.j.n x.j.c, .slice x.k.a x.k.n x.k.c] 29)).alloc (.cells #[.int .i64 0, .int .i64 0, .int .i64 0, .slice none 0 0, .slice none 0 0, .slice none 0 0, .slice none 0 0, .slice none 0 0] 29)) x := ⟨Arr.blk_alloc (Arr.blk_new _ _ _ (Snp.encV x) rfl) _, Arr.blk_new _ _ _ _ (by simp), hba⟩
  obtain ⟨wa, hwa⟩ : ∃ z, z = (W.alloc (.cells #[.int .i64 x.seq, .int .i64 x.world, .int .i64 x.next, .slice x.f.a x.f.n x.f.c, .slice x.l.a x.l.n x.l.c, .slice x.r.a x.r.n x.r.c, .slice x.j.a x.j.n x.j.c, .slice x.k.a x.k.n x.k.c] 29)).alloc (.cells #[.int .i64 0, .int .i64 0, .int .i64 0, .slice none 0 0, .slice none 0 0, .slice none 0 0, .slice none 0 0, .slice none 0 0] 29) := ⟨_, rfl⟩
  rw [← hwa] at hcb
  have HWa := Lib.hid hwa
  have HC0 := Lib.hid hcb
  have HX := Lib.hid (And.intro hx hm)
  have p3 : wa.cell? ⟨W.heap.size, 3, none⟩ = some (.slice x.f.a x.f.n x.f.c) := Arr.blk_cell hcb.b 3
  clear hba hcb hwa hx hm
  go_enter Tryz.func33, Tryz.ntmps33
  go_upto_region 1 with fail
  rw [show (W.alloc (.cells #[.int .i64 x.seq, .int .i64 x.world, .int .i64 x.next, .slice x.f.a x.f.n x.f.c, .slice x.l.a x.l.n x.l.c, .slice x.r.a x.r.n x.r.c, .slice x.j.a x.j.n x.j.c, .slice x.k.a x.k.n x.k.c] 29)).alloc (.cells #[.int .i64 0, .int .i64 0, .int .i64 0, .slice none 0 0, .slice none 0 0, .slice none 0 0, .slice none 0 0, .slice none 0 0] 29) = wa from HWa.out.symm]
  have hl1 := (Snp.in_keep HX.out.1 HC0.out.below).funds
  have HCl1 := Lib.hid (clone_f wa x.f.a x.f.n x.f.c x.funds hl1 (by have := hl1.len; have := HX.out.2.1; omega))
  clear hl1
  go_wp2_with fail
  refine HCl1.out.mono ?_
  rintro e w1 ⟨v1, rfl, ho1, hb1⟩
  obtain ⟨a1, c1, rfl, -, -, -, -⟩ := owns_row encF_len ho1
  obtain ⟨n1, hn1⟩ : ∃ q, q = x.funds.length := ⟨_, rfl⟩
  rw [← hn1] at ho1 ⊢
  have hk1 := HC0.out.keep hb1
  have r1 : w1.cell? ⟨W.heap.size, 3, none⟩ = some (.slice x.f.a x.f.n x.f.c) := Arr.blk_cell hk1.b 3
  have s1 : w1.frozen? ⟨W.heap.size, 3, none⟩ = false := Arr.blk_frozen hk1.b 3
  obtain ⟨u1, hu1⟩ : ∃ z, z = w1.setCell ⟨W.heap.size, 3, none⟩ (.slice a1 n1 c1) := ⟨_, rfl⟩
  have HC1 := Lib.hid (show Cb W u1 ({ x with f := ⟨a1, n1, c1⟩ } : Sv) by rw [hu1]; exact hk1.st 3 (.slice a1 n1 c1) rfl)
  have HO1 := Lib.hid (show Owns encF 3 81 u1 W.heap.size (.slice a1 n1 c1) x.funds by rw [hu1]; exact hk1.own (owns_le ho1 HC0.out.below.size) (by decide) 3 _)
  have HU1 := Lib.hid (And.intro hu1 hn1)
  clear ho1 hb1 hk1 hu1 hn1 HCl1
  have p41 : u1.cell? ⟨W.heap.size, 4, none⟩ = some (.slice x.l.a x.l.n x.l.c) := Arr.blk_cell HC1.out.b 4
  go_upto_region 2 with fail
  rw [← HU1.out.1]
  clear p3 r1 s1
  have hl2 := (Snp.in_keep HX.out.1 HC1.out.below).allocs
  have HCl2 := Lib.hid (clone_l u1 x.l.a x.l.n x.l.c x.allocs hl2 (by have := hl2.len; have := HX.out.2.2.1; omega))
  clear hl2
  go_wp2_with fail
  refine HCl2.out.mono ?_
  rintro e w2 ⟨v2, rfl, ho2, hb2⟩
  obtain ⟨a2, c2, rfl, -, -, -, -⟩ := owns_row encL_len ho2
  obtain ⟨n2, hn2⟩ : ∃ q, q = x.allocs.length := ⟨_, rfl⟩
  rw [← hn2] at ho2 ⊢
  have hk2 := HC1.out.keep hb2
  have r2 : w2.cell? ⟨W.heap.size, 4, none⟩ = some (.slice x.l.a x.l.n x.l.c) := Arr.blk_cell hk2.b 4
  have s2 : w2.frozen? ⟨W.heap.size, 4, none⟩ = false := Arr.blk_frozen hk2.b 4
  obtain ⟨u2, hu2⟩ : ∃ z, z = w2.setCell ⟨W.heap.size, 4, none⟩ (.slice a2 n2 c2) := ⟨_, rfl⟩
  have HC2 := Lib.hid (show Cb W u2 ({ x with f := ⟨a1, n1, c1⟩, l := ⟨a2, n2, c2⟩ } : Sv) by rw [hu2]; exact hk2.st 4 (.slice a2 n2 c2) rfl)
  have HO2 := Lib.hid (show Owns encF 3 81 u2 W.heap.size (.slice a1 n1 c1) x.funds ∧ Owns Tre.encL 6 65 u2 W.heap.size (.slice a2 n2 c2) x.allocs by rw [hu2]; exact ⟨hk2.own (Nest.own_on HO1.out hb2) (by decide) 4 _, hk2.own (owns_le ho2 HC1.out.below.size) (by decide) 4 _⟩)
  have HU2 := Lib.hid (And.intro hu2 hn2)
  clear ho2 hb2 hk2 hu2 hn2 HCl2
  have p52 : u2.cell? ⟨W.heap.size, 5, none⟩ = some (.slice x.r.a x.r.n x.r.c) := Arr.blk_cell HC2.out.b 5
  go_upto_region 3 with fail
  rw [← HU2.out.1]
  clear p41 r2 s2
  have hl3 := (Snp.in_keep HX.out.1 HC2.out.below).rates
  have HCl3 := Lib.hid (clone_r u2 x.r.a x.r.n x.r.c x.rates hl3 (by have := hl3.len; have := HX.out.2.2.2.1; omega))
  clear hl3
  go_wp2_with fail
  refine HCl3.out.mono ?_
  rintro e w3 ⟨v3, rfl, ho3, hb3⟩
  obtain ⟨a3, c3, rfl, -, -, -, -⟩ := owns_row Rte.encR_len ho3
  obtain ⟨n3, hn3⟩ : ∃ q, q = x.rates.length := ⟨_, rfl⟩
  rw [← hn3] at ho3 ⊢
  have hk3 := HC2.out.keep hb3
  have r3 : w3.cell? ⟨W.heap.size, 5, none⟩ = some (.slice x.r.a x.r.n x.r.c) := Arr.blk_cell hk3.b 5
  have s3 : w3.frozen? ⟨W.heap.size, 5, none⟩ = false := Arr.blk_frozen hk3.b 5
  obtain ⟨u3, hu3⟩ : ∃ z, z = w3.setCell ⟨W.heap.size, 5, none⟩ (.slice a3 n3 c3) := ⟨_, rfl⟩
  have HC3 := Lib.hid (show Cb W u3 ({ x with f := ⟨a1, n1, c1⟩, l := ⟨a2, n2, c2⟩, r := ⟨a3, n3, c3⟩ } : Sv) by rw [hu3]; exact hk3.st 5 (.slice a3 n3 c3) rfl)
  have HO3 := Lib.hid (show Owns encF 3 81 u3 W.heap.size (.slice a1 n1 c1) x.funds ∧ Owns Tre.encL 6 65 u3 W.heap.size (.slice a2 n2 c2) x.allocs ∧ Owns Rte.encR 3 83 u3 W.heap.size (.slice a3 n3 c3) x.rates by rw [hu3]; exact ⟨hk3.own (Nest.own_on HO2.out.1 hb3) (by decide) 5 _, hk3.own (Nest.own_on HO2.out.2 hb3) (by decide) 5 _, hk3.own (owns_le ho3 HC2.out.below.size) (by decide) 5 _⟩)
  have HU3 := Lib.hid (And.intro hu3 hn3)
  clear ho3 hb3 hk3 hu3 hn3 HCl3
  have p63 : u3.cell? ⟨W.heap.size, 6, none⟩ = some (.slice x.j.a x.j.n x.j.c) := Arr.blk_cell HC3.out.b 6
  go_upto_region 4 with fail
  rw [← HU3.out.1]
  clear p52 r3 s3
  have hl4 := (Snp.in_keep HX.out.1 HC3.out.below).jobs
  have HCl4 := Lib.hid (clone_j u3 x.j.a x.j.n x.j.c x.jobs hl4 (by have := hl4.len; have := HX.out.2.2.2.2.1; omega))
  clear hl4
  go_wp2_with fail
  refine HCl4.out.mono ?_
  rintro e w4 ⟨v4, rfl, ho4, hb4⟩
  obtain ⟨a4, c4, rfl, -, -, -, -⟩ := owns_row encJ_len ho4
  obtain ⟨n4, hn4⟩ : ∃ q, q = x.jobs.length := ⟨_, rfl⟩
  rw [← hn4] at ho4 ⊢
  have hk4 := HC3.out.keep hb4
  have r4 : w4.cell? ⟨W.heap.size, 6, none⟩ = some (.slice x.j.a x.j.n x.j.c) := Arr.blk_cell hk4.b 6
  have s4 : w4.frozen? ⟨W.heap.size, 6, none⟩ = false := Arr.blk_frozen hk4.b 6
  obtain ⟨u4, hu4⟩ : ∃ z, z = w4.setCell ⟨W.heap.size, 6, none⟩ (.slice a4 n4 c4) := ⟨_, rfl⟩
  have HC4 := Lib.hid (show Cb W u4 ({ x with f := ⟨a1, n1, c1⟩, l := ⟨a2, n2, c2⟩, r := ⟨a3, n3, c3⟩, j := ⟨a4, n4, c4⟩ } : Sv) by rw [hu4]; exact hk4.st 6 (.slice a4 n4 c4) rfl)
  have HO4 := Lib.hid (show Owns encF 3 81 u4 W.heap.size (.slice a1 n1 c1) x.funds ∧ Owns Tre.encL 6 65 u4 W.heap.size (.slice a2 n2 c2) x.allocs ∧ Owns Rte.encR 3 83 u4 W.heap.size (.slice a3 n3 c3) x.rates ∧ Owns encJ 12 58 u4 W.heap.size (.slice a4 n4 c4) x.jobs by rw [hu4]; exact ⟨hk4.own (Nest.own_on HO3.out.1 hb4) (by decide) 6 _, hk4.own (Nest.own_on HO3.out.2.1 hb4) (by decide) 6 _, hk4.own (Nest.own_on HO3.out.2.2 hb4) (by decide) 6 _, hk4.own (owns_le ho4 HC3.out.below.size) (by decide) 6 _⟩)
  have HU4 := Lib.hid (And.intro hu4 hn4)
  clear ho4 hb4 hk4 hu4 hn4 HCl4
  have p64 : u4.cell? ⟨W.heap.size, 6, none⟩ = some (.slice a4 n4 c4) := Arr.blk_cell HC4.out.b 6
  go_upto_region 5 with fail
  rw [← HU4.out.1]
  clear p63 r4 s4
  have hj0 : n4 = x.jobs.length := HU4.out.2
  have h16 : n4 ≤ 16 := by rw [hj0]; exact HX.out.2.2.2.2.1
  have HN4 := Lib.hid hj0
  have HJ0 := Lib.hid (show Cj W u4 x ({ x with f := ⟨a1, n1, c1⟩, l := ⟨a2, n2, c2⟩, r := ⟨a3, n3, c3⟩, j := ⟨a4, n4, c4⟩ } : Sv) 0 from ⟨HC4.out, HO4.out.1, HO4.out.2.1, HO4.out.2.2.1, HO4.out.2.2.2, rfl, fun i _ => rfl, rfl, fun i z hi => absurd hi (Nat.not_lt_zero i), fun i j p q hi => absurd hi (Nat.not_lt_zero i), ⟨rfl, rfl, rfl, rfl, rfl, rfl, rfl, rfl⟩⟩)
  clear hj0
  go_wp2_with fail
  go_loopw [23] (fun i wr => ∃ (k : Nat) (y : Sv), k ≤ n4 ∧ i = .int .i64 (k : Nat) ∧ Cj W wr x y k ∧ y.j = ⟨a4, n4, c4⟩) (fun i _ => n4 - (intOf i).toNat)
  case atStart => exact ⟨0, ({ x with f := ⟨a1, n1, c1⟩, l := ⟨a2, n2, c2⟩, r := ⟨a3, n3, c3⟩, j := ⟨a4, n4, c4⟩ } : Sv), Nat.zero_le _, rfl, HJ0.out, rfl⟩
  case round =>
    obtain ⟨k, y, hk, rfl, hcj, hyj⟩ := hrel
    have HJ := Lib.hid (And.intro hcj hyj)
    clear hcj hyj
    by_cases hlt : k < n4
    · have hlti : (k : Int) < (n4 : Int) := by omega
      have hkl : k < y.jobs.length := by rw [HJ.out.1.len, ← HN4.out]; exact hlt
      obtain ⟨z, hz⟩ : ∃ z, y.jobs[k]? = some z := ⟨_, List.getElem?_eq_getElem hkl⟩
      have hzx : x.jobs[k]? = some z := by rw [← HJ.out.1.rest k (Nat.le_refl _)]; exact hz
      obtain ⟨g, cap, hv, hg, hcap, hmx⟩ := owns_at encJ_len HJ.out.1.j (by omega)
      rw [HJ.out.2] at hv
      injection hv with e1 e2 e3
      subst e1 e3
      obtain ⟨za, hza⟩ : ∃ q, q = z.a := ⟨_, rfl⟩
      obtain ⟨zn, hzn⟩ : ∃ q, q = z.n := ⟨_, rfl⟩
      obtain ⟨zc, hzc⟩ : ∃ q, q = z.c := ⟨_, rfl⟩
      obtain ⟨DL, hDL⟩ : ∃ q, q = z.t.draws := ⟨_, rfl⟩
      have hJl : Jobs wr (some ⟨g, 0, none⟩) n4 c4 y.jobs := by
        have := own_lst encJ_len HJ.out.1.j
        rw [HJ.out.2] at this
        exact this
      have c11 : wr.cell? ⟨g, k * 12 + 11, none⟩ = some (.slice za zn zc) := at_zero hJl hz (by omega) (by rw [hza, hzn, hzc]; rfl)
      have hzd : Draws wr za zn zc DL := by
        rw [hza, hzn, hzc, hDL]
        exact lst_keep encD_len (HX.out.1.draws z (List.mem_of_getElem? hzx)) HJ.out.1.cb.below
      have hd16 : DL.length ≤ 16 := by rw [hDL]; exact HX.out.2.2.2.2.2.2 z (List.mem_of_getElem? hzx)
      have HCl := Lib.hid (fun (w : World) (hb : Below wr.heap.size wr w) => clone_d w za zn zc DL (lst_keep encD_len hzd hb) (by have := hzd.len; omega))
      have HQ := Lib.hid (show wr.cell? ⟨W.heap.size, 6, none⟩ = some (.slice (some ⟨g, 0, none⟩) n4 c4) ∧ wr.cell? ⟨g, k * 12 + 11, none⟩ = some (.slice za zn zc) from ⟨by
        rw [Arr.blk_cell HJ.out.1.cb.b 6]
        show some (Value.slice y.j.a y.j.n y.j.c) = _
        rw [HJ.out.2], c11⟩)
      have HK := Lib.hid hlt
      have HZ := Lib.hid (And.intro hz (And.intro hza (And.intro hzn (And.intro hzc hDL))))
      clear hkl hz hzx e2 hg hcap hmx hza hzn hzc hDL hJl c11 hzd hd16
      go_upto_region 8 with fail
      refine Chn.wp_region_chain (fun idx => match idx with | 0 => some (.pointer (some ⟨W.heap.size, 6, none⟩)) | 1 => some (.slice (some ⟨g, 0, none⟩) n4 c4) | 2 => some (.int .i64 (k : Nat)) | 3 => some (.pointer (some ⟨W.heap.size, 6, none⟩)) | 4 => some (.slice (some ⟨g, 0, none⟩) n4 c4) | 5 => some (.int .i64 (k : Nat)) | 6 => some (.pointer (some ⟨g, k * 12, none⟩)) | 7 => some (.pointer (some ⟨g, k * 12 + 11, none⟩)) | 8 => some (.slice za zn zc) | 10 => some (.pointer (some ⟨g, k * 12, none⟩)) | 11 => some (.pointer (some ⟨g, k * 12 + 11, none⟩)) | _ => none) [9, 12] (phiC wr g k DL) (by kernel_rfl) (by kernel_rfl) (by kernel_rfl) (by kernel_rfl) (by kernel_rfl) (by decide) (by kernel_rfl) (rfl) ?_ ?_
      · refine ⟨?_, ?_, ?_, ?_, ?_, ?_, ?_, ?_, ?_, ?_, ?_, ?_, ?_, trivial⟩
        · intro a ww jj vs c hj0 hΦ
          have hj : jj ≤ 1 := Nat.le_trans hj0 (of_decide_eq_true (by kernel_rfl))
          refine .inl ⟨Rel.wanted_free (by kernel_rfl) _, ?_⟩
          exact Chn.wp_fa _ _ _ rfl (c.old 1 (v := .pointer (some ⟨W.heap.size, 0, none⟩)) (by kernel_rfl) (by kernel_rfl)) (by simp [go_sem]) ⟨rfl, rfl⟩
        · intro a ww jj vs c hj0 hΦ
          have hj : jj ≤ 1 := Nat.le_trans hj0 (of_decide_eq_true (by kernel_rfl))
          refine .inl ⟨Rel.wanted_free (by kernel_rfl) _, ?_⟩
          exact Rel.wp_ld _ _ rfl (c.get 0 26 (by kernel_rfl) rfl) (run_ld_jc (phiC_cell (by omega) hΦ HQ.out.1)) ⟨rfl, rfl⟩
        · intro a ww jj vs c hj0 hΦ
          have hj : jj ≤ 1 := Nat.le_trans hj0 (of_decide_eq_true (by kernel_rfl))
          refine .inl ⟨Rel.wanted_free (by kernel_rfl) _, ?_⟩
          exact Rel.wp_mv _ rfl ⟨congrArg (a.put _) (c.old 3 (v := .int .i64 (k : Nat)) (by kernel_rfl) (by kernel_rfl)), rfl⟩
        · intro a ww jj vs c hj0 hΦ
          have hj : jj ≤ 0 := Nat.le_trans hj0 (of_decide_eq_true (by kernel_rfl))
          refine .inl ⟨Rel.wanted_free (by kernel_rfl) _, ?_⟩
          exact Chn.wp_fa _ _ _ rfl (c.old 1 (v := .pointer (some ⟨W.heap.size, 0, none⟩)) (by kernel_rfl) (by kernel_rfl)) (by simp [go_sem]) ⟨rfl, rfl⟩
        · intro a ww jj vs c hj0 hΦ
          have hj : jj ≤ 0 := Nat.le_trans hj0 (of_decide_eq_true (by kernel_rfl))
          refine .inl ⟨Rel.wanted_free (by kernel_rfl) _, ?_⟩
          exact Rel.wp_ld _ _ rfl (c.get 3 29 (by kernel_rfl) rfl) (run_ld_jc (phiC_cell (by omega) hΦ HQ.out.1)) ⟨rfl, rfl⟩
        · intro a ww jj vs c hj0 hΦ
          have hj : jj ≤ 0 := Nat.le_trans hj0 (of_decide_eq_true (by kernel_rfl))
          refine .inl ⟨Rel.wanted_free (by kernel_rfl) _, ?_⟩
          exact Rel.wp_mv _ rfl ⟨congrArg (a.put _) (c.old 3 (v := .int .i64 (k : Nat)) (by kernel_rfl) (by kernel_rfl)), rfl⟩
        · intro a ww jj vs c hj0 hΦ
          have hj : jj ≤ 0 := Nat.le_trans hj0 (of_decide_eq_true (by kernel_rfl))
          refine .inl ⟨Rel.wanted_free (by kernel_rfl) _, ?_⟩
          exact Rel.wp_ia _ _ _ rfl (c.get 4 30 (by kernel_rfl) rfl) (c.get 5 31 (by kernel_rfl) rfl) (run_ij0 HK.out ww) ⟨rfl, rfl⟩
        · intro a ww jj vs c hj0 hΦ
          have hj : jj ≤ 0 := Nat.le_trans hj0 (of_decide_eq_true (by kernel_rfl))
          refine .inl ⟨Rel.wanted_free (by kernel_rfl) _, ?_⟩
          exact Chn.wp_fa _ _ _ rfl (c.get 6 32 (by kernel_rfl) rfl) (by simp [go_sem]) ⟨rfl, rfl⟩
        · intro a ww jj vs c hj0 hΦ
          have hj : jj ≤ 0 := Nat.le_trans hj0 (of_decide_eq_true (by kernel_rfl))
          refine .inl ⟨Rel.wanted_free (by kernel_rfl) _, ?_⟩
          exact Rel.wp_ld _ _ rfl (c.get 7 33 (by kernel_rfl) rfl) (run_ld_dc (phiC_cell (by omega) hΦ HQ.out.2)) ⟨rfl, rfl⟩
        · refine ⟨0, rfl, ?_⟩
          intro a ww c hΦ
          have h : (phiC wr g k DL) 0 [] ww := hΦ
          clear hΦ
          refine ⟨Rel.wanted_free (by kernel_rfl) _, ?_⟩
          have hw : ww = wr.drew := h
          subst hw
          refine Rel.wp_cl _ _ _ rfl Tryz.func59 (by kernel_rfl) ?_
          show Calls _ _ #[Rel.slot a 34] wr.drew _
          rw [show Rel.slot a 34 = Value.slice za zn zc from (c.get 8 34 (by kernel_rfl) rfl)]
          refine (HCl.out wr.drew (below_drew wr)).mono ?_
          rintro e w' ⟨v, rfl, ho, hb⟩
          obtain ⟨va, vc, rfl, -, -, -, -⟩ := owns_row encD_len ho
          exact ⟨_, rfl, _, rfl, ⟨va, _, vc, rfl, owns_le ho (below_drew wr).size⟩, below_keep (below_drew wr) hb⟩
        · intro a ww jj vs c hj0 hΦ
          have hj : jj ≤ 1 := Nat.le_trans hj0 (of_decide_eq_true (by kernel_rfl))
          refine .inl ⟨Rel.wanted_free (by kernel_rfl) _, ?_⟩
          exact Rel.wp_ia _ _ _ rfl (c.get 1 27 (by kernel_rfl) rfl) (c.get 2 28 (by kernel_rfl) rfl) (run_ij0 HK.out ww) ⟨rfl, rfl⟩
        · intro a ww jj vs c hj0 hΦ
          have hj : jj ≤ 1 := Nat.le_trans hj0 (of_decide_eq_true (by kernel_rfl))
          refine .inl ⟨Rel.wanted_free (by kernel_rfl) _, ?_⟩
          exact Chn.wp_fa _ _ _ rfl (c.get 10 36 (by kernel_rfl) rfl) (by simp [go_sem]) ⟨rfl, rfl⟩
        · refine ⟨1, rfl, ?_⟩
          intro a ww c hΦ
          have h : (phiC wr g k DL) 1 [Rel.slot a 35] ww := hΦ
          clear hΦ
          refine ⟨Rel.wanted_free (by kernel_rfl) _, ?_⟩
          obtain ⟨⟨va, vn, vc, hx, ho⟩, hb⟩ := h
          obtain ⟨r1, r2, -⟩ := HJ.out.1.step hb HJ.out.2 HZ.out.1 (by rw [HZ.out.2.2.2.2] at ho; exact ho)
          exact Chn.wp_st _ _ _ rfl (c.get 11 37 (by kernel_rfl) rfl) hx (run_st_dc r1 r2) ⟨undef, rfl, va, vn, vc, ww, ho, hb, rfl⟩
      intro a w9 hbase hroom hdef hΦ hV
      have h : (phiC wr g k DL) 2 [Rel.slot a 35, undef] w9 := hΦ
      rw [Chn.act_puts [26, 27, 28, 29, 30, 31, 32, 33, 34, 35, 36, 37] hbase hroom hdef (by kernel_rfl)]
      clear hbase hroom hdef hΦ hV
      simp only [List.foldl_cons, List.foldl_nil]
      generalize Rel.slot a 26 = u26 at *
      generalize Rel.slot a 27 = u27 at *
      generalize Rel.slot a 28 = u28 at *
      generalize Rel.slot a 29 = u29 at *
      generalize Rel.slot a 30 = u30 at *
      generalize Rel.slot a 31 = u31 at *
      generalize Rel.slot a 32 = u32 at *
      generalize Rel.slot a 33 = u33 at *
      generalize Rel.slot a 34 = u34 at *
      generalize Rel.slot a 35 = u35 at *
      generalize Rel.slot a 36 = u36 at *
      generalize Rel.slot a 37 = u37 at *
      obtain ⟨da, dn, dc, w3, hod, hb3, hw9⟩ := h
      obtain ⟨-, -, hst⟩ := HJ.out.1.step hb3 HJ.out.2 HZ.out.1 (by rw [HZ.out.2.2.2.2] at hod; exact hod)
      rw [← hw9] at hst
      have HS := Lib.hid hst
      clear hod hb3 hw9 hst
      go_wp2_with fail
      go_roundw
      case rel => exact ⟨k + 1, _, by omega, by go_num, HS.out, HJ.out.2⟩
      case measure => simp [intOf]; omega
    · obtain rfl : k = n4 := by omega
      have hni : ¬ (k : Int) < (k : Int) := by omega
      have hl7 := (Snp.in_keep HX.out.1 HJ.out.1.cb.below).keys
      have HCk := Lib.hid (clone_k wr x.k.a x.k.n x.k.c x.keys hl7 (by have := hl7.len; have := HX.out.2.2.2.2.2.1; omega))
      have hyk := HJ.out.1.s.2.2.2.2.2.2.2
      have p7 : wr.cell? ⟨W.heap.size, 7, none⟩ = some (.slice x.k.a x.k.n x.k.c) := by
        rw [Arr.blk_cell HJ.out.1.cb.b 7]
        show some (Value.slice y.k.a y.k.n y.k.c) = _
        rw [hyk]
      clear hl7 hyk
      go_wp2_with fail
      refine HCk.out.mono ?_
      rintro e w7 ⟨v7, rfl, ho7, hb7⟩
      obtain ⟨a7, c7, rfl, -, -, -, -⟩ := owns_row encK_len ho7
      obtain ⟨n7, hn7⟩ : ∃ q, q = x.keys.length := ⟨_, rfl⟩
      rw [← hn7] at ho7 ⊢
      have h7 := HJ.out.1.keep hb7
      obtain ⟨y7, hy7⟩ : ∃ q, q = ({ y with k := ⟨a7, n7, c7⟩ } : Sv) := ⟨_, rfl⟩
      have hc7 : Cb W (w7.setCell ⟨W.heap.size, 7, none⟩ (.slice a7 n7 c7)) y7 := by rw [hy7]; exact h7.cb.st 7 (.slice a7 n7 c7) rfl
      have r7 : w7.cell? ⟨W.heap.size, 7, none⟩ = some (.slice y.k.a y.k.n y.k.c) := Arr.blk_cell h7.cb.b 7
      have s7 : w7.frozen? ⟨W.heap.size, 7, none⟩ = false := Arr.blk_frozen h7.cb.b 7
      obtain ⟨u7, hu7⟩ : ∃ z, z = w7.setCell ⟨W.heap.size, 7, none⟩ (.slice a7 n7 c7) := ⟨_, rfl⟩
      have hf7 := h7.cb.own h7.f (by decide) 7 (.slice a7 n7 c7)
      have hl7 := h7.cb.own h7.l (by decide) 7 (.slice a7 n7 c7)
      have hr7 := h7.cb.own h7.r (by decide) 7 (.slice a7 n7 c7)
      have hj7 := h7.cb.own h7.j (by decide) 7 (.slice a7 n7 c7)
      have hk7 := h7.cb.own (owns_le ho7 HJ.out.1.cb.below.size) (by decide) 7 (.slice a7 n7 c7)
      have hd7 : ∀ q ∈ y.jobs, Owns encD 2 63 (w7.setCell ⟨W.heap.size, 7, none⟩ (.slice a7 n7 c7)) W.heap.size (.slice q.a q.n q.c) q.t.draws := fun q hq => by
        obtain ⟨i, hi⟩ := List.getElem?_of_mem hq
        have hil := (List.getElem?_eq_some_iff.1 hi).1
        exact h7.cb.own (h7.d i q (by rw [HN4.out, ← h7.len]; exact hil) hi) (by decide) 7 _
      rw [← hu7] at hc7 hf7 hl7 hr7 hj7 hk7 hd7
      obtain ⟨e1, e2, e3, e4, e5, e6, e7, -⟩ := h7.s
      have HF := Lib.hid (show Cb W u7 y7 ∧ OwV u7 W.heap.size y7 ∧ y7.t = x.t ∧ Dist y7 from ⟨hc7, by
        rw [hy7]
        refine ⟨?_, ?_, ?_, hj7, ?_, hd7⟩
        · show Owns encF 3 81 u7 W.heap.size y.f.v y.funds
          rw [e4]; exact hf7
        · show Owns Tre.encL 6 65 u7 W.heap.size y.l.v y.allocs
          rw [e5]; exact hl7
        · show Owns Rte.encR 3 83 u7 W.heap.size y.r.v y.rates
          rw [e6]; exact hr7
        · show Owns encK 1 9 u7 W.heap.size (.slice a7 n7 c7) y.keys
          rw [e7]; exact hk7, by
        rw [hy7]
        show (⟨y.seq, y.world, y.next, y.funds, y.allocs, y.rates, y.jobs.map (·.t), y.keys⟩ : Sn) = ⟨x.seq, x.world, x.next, x.funds, x.allocs, x.rates, x.jobs.map (·.t), x.keys⟩
        rw [e1, e2, e3, e4, e5, e6, e7, h7.t], by
        rw [hy7]
        intro i j p q hi hj hne b hb
        have hil := (List.getElem?_eq_some_iff.1 hi).1
        have hjl := (List.getElem?_eq_some_iff.1 hj).1
        exact h7.ds i j p q (by rw [HN4.out, ← h7.len]; exact hil) (by rw [HN4.out, ← h7.len]; exact hjl) hi hj hne b hb⟩)
      have HU7 := Lib.hid hu7
      clear ho7 hb7 h7 hc7 hf7 hl7 hr7 hj7 hk7 hd7 e1 e2 e3 e4 e5 e6 e7 hy7 hu7 hn7 HCk
      go_upto_region 11 with fail
      rw [← HU7.out]
      clear p7 r7 s7
      go_wp2_with (first | (refine Arr.wpList_load_blk rfl 29 (.tmp 1) rfl W.heap.size rfl (Snp.encV y7) 29 HF.out.1.b _ Tryz.underlying29 rfl info_st ?_) | (refine wpList_store_own rfl 29 (.tmp 2) (.tmp 43) rfl (W.heap.size + 1) (Snp.encV y7) rfl rfl [.int .i64 0, .int .i64 0, .int .i64 0, .slice none 0 0, .slice none 0 0, .slice none 0 0, .slice none 0 0, .slice none 0 0] 29 HF.out.1.r info_st rfl rfl ?_; intro wz hblk hCz hsz) | fail)
      refine bodyPost_ret (results_cell_blk rfl _ _ (W.heap.size + 1) 29 (Snp.encV y7) _ rfl hblk Tryz.underlying29 rfl info_st) rfl ?_
      have hne : ∀ {T : TypeId}, 29 ≠ T → Typed (fun q => q = W.heap.size + 1) u7 T := fun h => typed_one HF.out.1.r h
      exact ⟨y7, rfl, HF.out.2.2.1, ⟨own_typed HF.out.2.1.f hCz (hne (by decide)), own_typed HF.out.2.1.l hCz (hne (by decide)), own_typed HF.out.2.1.r hCz (hne (by decide)), own_typed HF.out.2.1.j hCz (hne (by decide)), own_typed HF.out.2.1.k hCz (hne (by decide)), fun q hq => own_typed (HF.out.2.1.d q hq) hCz (hne (by decide))⟩, HF.out.2.2.2, HF.out.1.below.trans (chg_below hCz (fun q hq => by omega) HF.out.1.below.size)⟩
end Go.Proofs.YtjcndgopijpibaaGreat.Bok
