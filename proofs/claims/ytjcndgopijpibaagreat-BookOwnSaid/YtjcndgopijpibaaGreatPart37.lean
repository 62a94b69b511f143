/- Common to the claims of this seat, part 37: texts that were written one by one, laid behind one another. -/
import Derived.Laws.CopyRow
import Derived.Test.YtjcndgopijpibaaGreatPart6
import Derived.Test.YtjcndgopijpibaaGreatPart15
import Derived.Test.YtjcndgopijpibaaGreatPart16
import Derived.Test.YtjcndgopijpibaaGreatPart17
import Derived.Test.YtjcndgopijpibaaGreatPart18
import Derived.Test.YtjcndgopijpibaaGreatPart19
import Derived.Test.YtjcndgopijpibaaGreatPart35
import Derived.Test.YtjcndgopijpibaaGreatPart36
/- Book, the landed: TxRefund. -/
namespace Go.Proofs.YtjcndgopijpibaaGreat.Bok
set_option maxRecDepth 100000
open Go.RowKit
open Go.Sort
open Kit
open Foot
open Tre (Lst inI lst_keep lst_at lst_new lst_none encF encF_len encL_len IntsL goodB)
open Led (Lg encG encG_len)
open Job (Jb Jv Jobs encJ encJ_len encJ_one findI)
open Drw (Dw Draws encD encD_len encD_one)
open Go.Proofs.YtjcndgopijpibaaGreat.Ord (ts)
open Snp (Sn Sv encK encK_len encK_one)
set_option linter.unusedVariables false
variable {w w' W0 W : World} {B : Nat}
def Dist (y : Sv) : Prop := ∀ (i j : Nat) (p q : Jv), y.jobs[i]? = some p → y.jobs[j]? = some q → i ≠ j → ∀ k, (Value.slice p.a p.n p.c).ownBlock = some k → (Value.slice q.a q.n q.c).ownBlock ≠ some k
theorem flat_set {l : List Jv} {n : Nat} {z z' : Jv} (hz : l[n]? = some z) (he : encJ z' = encJ z) : flat encJ (l.set n z') = flat encJ l := by
  obtain ⟨hn, e⟩ := List.getElem?_eq_some_iff.1 hz
  have h1 : l.set n z' = l.take n ++ z' :: l.drop (n + 1) := List.set_eq_take_append_cons_drop .. |>.trans (by rw [if_pos hn])
  have h2 : l = l.take n ++ z :: l.drop (n + 1) := by
    conv => lhs; rw [← List.take_append_drop n l, List.drop_eq_getElem_cons hn, e]
  rw [h1]
  conv => rhs; rw [h2]
  rw [flat_append, flat_append]
  show _ ++ (encJ z' ++ _) = _ ++ (encJ z ++ _)
  rw [he]
theorem Bo.setD {base n : Nat} {y : Sv} {z : Jv} {d' : List Dw} (h : Bo w base B y) (hD : Dist y) (hz : y.jobs[n]? = some z) (hd : Owns encD 2 63 w' base (.slice z.a z.n z.c) d') (hC : Chg (fun k => some k = (Value.slice z.a z.n z.c).ownBlock) w w') :
    Bo w' base B { y with jobs := y.jobs.set n { z with t := { z.t with draws := d' } } } := by
  have hown := h.o.d z (List.mem_of_getElem? hz)
  have hT : ∀ {T : TypeId}, 63 ≠ T → Typed (fun k => some k = (Value.slice z.a z.n z.c).ownBlock) w T := fun hne => typed_own hown hne
  refine ⟨blk_typed h.b hC (hT (by decide)), ⟨own_typed h.o.f hC (hT (by decide)), own_typed h.o.l hC (hT (by decide)), own_typed h.o.r hC (hT (by decide)), ?_, own_typed h.o.k hC (hT (by decide)), fun x hx => ?_⟩, h.ge⟩
  · have hj := own_typed h.o.j hC (hT (by decide))
    show Owns encJ 12 58 w' base y.j.v (y.jobs.set n { z with t := { z.t with draws := d' } })
    unfold Owns
    rw [flat_set (z' := { z with t := { z.t with draws := d' } }) hz rfl, List.length_set]
    exact hj
  · obtain ⟨i, hi⟩ := List.getElem?_of_mem hx
    by_cases hin : n = i
    · subst hin
      rw [List.getElem?_set_self (List.getElem?_eq_some_iff.1 hz).1] at hi
      injection hi with hi
      subst hi
      exact hd
    · rw [List.getElem?_set_ne hin] at hi
      refine own_chg hC (h.o.d x (List.mem_of_getElem? hi)) fun q hq e => ?_
      exact hD n i z x hz hi hin q e.symm hq
theorem Bo.setDJ {base g n nn cap : Nat} {y : Sv} {z : Jv} (h : Bo w base B y) (hD : Dist y) (hj : y.j = ⟨some ⟨g, 0, none⟩, nn, cap⟩) (hz : y.jobs[n]? = some z) (hC : Chg (fun k => some k = (Value.slice z.a z.n z.c).ownBlock) w w') (da : Option Addr) (dn dc : Nat) (d : List Dw) (hd : Owns encD 2 63 w' base (.slice da dn dc) d) :
    w'.cell? ⟨g, n * 12 + 11, none⟩ = some (.slice z.a z.n z.c) ∧ w'.frozen? ⟨g, n * 12 + 11, none⟩ = false ∧ Bo (w'.setCell ⟨g, n * 12 + 11, none⟩ (.slice da dn dc)) base B { y with jobs := y.jobs.set n (withD z da dn dc d) } ∧ (base ≤ w.heap.size → Below base w (w'.setCell ⟨g, n * 12 + 11, none⟩ (.slice da dn dc))) := by
  have hown := h.o.d z (List.mem_of_getElem? hz)
  have hT : ∀ {T : TypeId}, 63 ≠ T → Typed (fun k => some k = (Value.slice z.a z.n z.c).ownBlock) w T := fun hne => typed_own hown hne
  have hjw : Owns encJ 12 58 w' base (.slice (some ⟨g, 0, none⟩) nn cap) y.jobs := by
    have := own_typed h.o.j hC (hT (by decide))
    rw [hj] at this
    exact this
  have hlen : y.jobs.length = nn := (own_lst encJ_len hjw).len
  obtain ⟨hc, hfr, ho⟩ := owns_put encJ_len hjw hlen hz (i := 11) (by omega) (fun a => withD a da dn dc d) (.slice da dn dc) (fun a => rfl)
  obtain ⟨cur, hcur⟩ := own_type hjw (g := g) rfl
  have hge := (World.ownsRow.lt hjw g rfl).1
  have hC2 := set_chg w' g (n * 12 + 11) (.slice da dn dc)
  have hT2 : ∀ {T : TypeId}, 58 ≠ T → Typed (fun q => q = g) w' T := fun hne => typed_one hcur hne
  refine ⟨hc, hfr, ⟨blk_typed (blk_typed h.b hC (hT (by decide))) hC2 (hT2 (by decide)), ⟨own_typed (own_typed h.o.f hC (hT (by decide))) hC2 (hT2 (by decide)), own_typed (own_typed h.o.l hC (hT (by decide))) hC2 (hT2 (by decide)), own_typed (own_typed h.o.r hC (hT (by decide))) hC2 (hT2 (by decide)), ?_, own_typed (own_typed h.o.k hC (hT (by decide))) hC2 (hT2 (by decide)), fun x hx => ?_⟩, h.ge⟩, fun hb => ?_⟩
  · show Owns encJ 12 58 _ base (.slice y.j.a y.j.n y.j.c) (y.jobs.set n (withD z da dn dc d))
    rw [hj]; exact ho
  · obtain ⟨i, hi⟩ := List.getElem?_of_mem hx
    by_cases hin : n = i
    · subst hin
      rw [List.getElem?_set_self (List.getElem?_eq_some_iff.1 hz).1] at hi
      injection hi with hi
      subst hi
      exact own_typed hd hC2 (hT2 (by decide))
    · rw [List.getElem?_set_ne hin] at hi
      refine own_typed (own_chg hC (h.o.d x (List.mem_of_getElem? hi)) fun q hq e => ?_) hC2 (hT2 (by decide))
      exact hD n i z x hz hi hin q e.symm hq
  · exact Arr.below_set (chg_below hC (fun q hq => (World.ownsRow.lt hown q hq.symm).1) hb) hge _ _
theorem swap_step {R ds : List Dw} {k : Nat} (hk : k < ds.length) (hl : R.length = ds.length) : (R.take k ++ ds.drop k)[k]? = some ds[k] ∧ (R.take k ++ ds.drop k).set k R[k] = R.take (k + 1) ++ ds.drop (k + 1) := by
  have ht : (R.take k).length = k := by rw [List.length_take]; omega
  refine ⟨?_, ?_⟩
  · rw [List.getElem?_append_right (by omega), ht, Nat.sub_self, List.getElem?_drop, Nat.add_zero, List.getElem?_eq_getElem hk]
  · rw [List.set_append_right _ _ (by omega), ht, Nat.sub_self, List.drop_eq_getElem_cons hk, List.set_cons_zero, List.take_succ_eq_append_getElem (by omega), List.append_assoc]
    rfl
def restD (ch ds : List Dw) : List Dw := List.zipWith (fun c d => ⟨c.alloc, wrap64 (d.amt - c.amt)⟩) ch ds
theorem run_ld_d {w : World} {a : Addr} {b : Option Addr} {n c : Nat} (h : w.cell? a = some (.slice b n c)) : (Instr.loadAt 56 (.pointer (some a))).run Tryz.prog w = .ok (.slice b n c) w := by
  simp [go_sem, h]
theorem run_ia_d {b n c k : Nat} (h : k < n) (w : World) : (Instr.indexAt 56 (.slice (some ⟨b, 0, none⟩) n c) (.int .i64 (k : Nat))).run Tryz.prog w = .ok (.pointer (some ⟨b, k * 2, none⟩)) w := by
  simp [go_sem, h]
theorem run_stI {w : World} {a : Addr} {u : Value} {i : Int} (h : w.cell? a = some u) (hf : w.frozen? a = false) : (Instr.storeAt 3 (.pointer (some a)) (.int .i64 i)).run Tryz.prog w = .ok () (w.setCell a (.int .i64 i)) := by
  simp [go_sem, h, hf]
def phiS (wb : World) (b o : Nat) (v : Value) : Nat → List Value → World → Prop
  | 0, _, w => w = wb.drew
  | 1, _, w => w = wb.drew.setCell ⟨b, o, none⟩ v
  | _, _, _ => False
theorem phiS_cell {wb : World} {b o j : Nat} {v : Value} {vs : List Value} {q r : Nat} {u : Value} (hj : j ≤ 0) (h : phiS wb b o v j vs w) (hc : wb.cell? ⟨q, r, none⟩ = some u) : w.cell? ⟨q, r, none⟩ = some u := by
  obtain rfl : j = 0 := by omega
  rw [show w = wb.drew from h]
  exact cell_keep (below_drew wb) hc
def kDr (base : Nat) (E : Int) (l : List Dw) : Rel.Kd Rel.Gr := ⟨fun w u => ∃ a n c, u = .tuple #[.slice a n c, .int .i64 E] ∧ Owns encD 2 63 w base (.slice a n c) l, fun _ _ _ h ⟨a, n, c, e, ho⟩ => ⟨a, n, c, e, Nest.own_on ho h⟩⟩
def kDl (base : Nat) (l : List Dw) : Rel.Kd Rel.Gr := ⟨fun w u => ∃ a n c, u = .slice a n c ∧ Owns encD 2 63 w base (.slice a n c) l, fun _ _ _ h ⟨a, n, c, e, ho⟩ => ⟨a, n, c, e, Nest.own_on ho h⟩⟩
end Go.Proofs.YtjcndgopijpibaaGreat.Bok
/- Book, the landed: what a state must have to be worked on. -/
namespace Go.Proofs.YtjcndgopijpibaaGreat.Bok
set_option maxRecDepth 100000
open Go.RowKit
open Go.Sort
open Kit
open Foot
open Tre (Lst inI lst_keep lst_at lst_new lst_none encF encF_len encL_len IntsL goodB)
open Led (Lg encG encG_len)
open Job (Jb Jv Jobs encJ encJ_len encJ_one findI)
open Drw (Dw Draws encD encD_len encD_one)
open Go.Proofs.YtjcndgopijpibaaGreat.Ord (ts)
open Snp (Sn Sv encK encK_len encK_one)
set_option linter.unusedVariables false
variable {w w' W0 W : World} {B : Nat}
structure Fit (y : Sv) : Prop where
  nf : y.funds.length ≤ 8
  nl : y.allocs.length ≤ 16
  nr : y.rates.length ≤ 16
  nj : y.jobs.length ≤ 16
  kf : ∀ x ∈ y.funds, x.ok
  kl : ∀ x ∈ y.allocs, x.ok
  nx : inI (y.next + 1)
  wd : inI y.world
  dr : ∀ x ∈ y.jobs, x.t.draws.length ≤ 16 ∧ ∀ d ∈ x.t.draws, Drw.Near d
  ds : Dist y
theorem fit_of {y : Sv} (hm : MayS y.t) (hok : y.t.ok) (hd : Dist y) : Fit y := by
  obtain ⟨⟨m1, m2, m3, m4, m5⟩, ⟨m6, m7, m8, m9⟩, m10⟩ := hm
  obtain ⟨k1, k2, k3, k4, k5, k6, k7, k8⟩ := hok
  have e : y.t.jobs.length = y.jobs.length := List.length_map _
  refine ⟨m1, m2, m3, by omega, k4, k5, ?_, k2, fun x hx => ?_, hd⟩
  · have h8 : 0 ≤ y.next := m8
    have h9 : y.next ≤ 1152921504606846976 := m9
    exact ⟨by omega, by omega⟩
  · have hxt : x.t ∈ y.t.jobs := List.mem_map.2 ⟨x, hx, rfl⟩
    obtain ⟨a1, a2⟩ := m10 x.t hxt
    have a3 := k7 x.t hxt
    exact ⟨a1.2.2.2.2, fun d hd => ⟨a2 d hd, (a3.2.2.2.2.2.2.2.2.2.2.2 d hd).2⟩⟩
end Go.Proofs.YtjcndgopijpibaaGreat.Bok
/- Book, the landed: what a kind does: the bank, and what is over. -/
namespace Go.Proofs.YtjcndgopijpibaaGreat.Bok
set_option maxRecDepth 100000
open Go.RowKit
open Go.Sort
open Kit
open Foot
open Tre (Lst inI lst_keep lst_at lst_new lst_none encF encF_len encL_len IntsL goodB)
open Led (Lg encG encG_len)
open Job (Jb Jv Jobs encJ encJ_len encJ_one findI)
open Drw (Dw Draws encD encD_len encD_one)
open Go.Proofs.YtjcndgopijpibaaGreat.Ord (ts)
open Snp (Sn Sv encK encK_len encK_one)
set_option linter.unusedVariables false
variable {w w' W0 W : World} {B : Nat}
set_option maxHeartbeats 4000000 in
theorem do1_any (y : Sv) (hc : Cal W0 W B y) (hf : Fit y) (sq tm : Int) (ky nm : ByteArray) (hnm : nm.size ≤ maxLen) (aa ga : Option Addr) (cp gn gc : Nat) (p0 p1 : Int) (legs : List Lg) (hp : ∀ x ∈ ([p0, p1] : List Int), inI x) (hA : IntsL W aa 2 cp [p0, p1]) :
    Calls Tryz.prog 35 #[.pointer (some ⟨B, 0, none⟩), .agg #[.int .i64 sq, .int .i64 tm, .int .i64 1, .string ky, .string nm, .slice aa 2 cp, .slice ga gn gc]] W (LegP W0 B (kindE y.t ⟨sq, tm, 1, ky, nm, [p0, p1], legs⟩) (kindS y.t ⟨sq, tm, 1, ky, nm, [p0, p1], legs⟩) (kindL y.t ⟨sq, tm, 1, ky, nm, [p0, p1], legs⟩)) := by
  have hE : kindE y.t ⟨sq, tm, 1, ky, nm, [p0, p1], legs⟩ = bankE y.t 1 nm [p0, p1] ∧ kindS y.t ⟨sq, tm, 1, ky, nm, [p0, p1], legs⟩ = bankS y.t 1 nm [p0, p1] ∧ kindL y.t ⟨sq, tm, 1, ky, nm, [p0, p1], legs⟩ = bankL y.t 1 [p0, p1] := ⟨rfl, rfl, rfl⟩
  rw [hE.1, hE.2.1, hE.2.2]
  clear hE
  have hba := below_alloc W (.cells #[.int .i64 sq, .int .i64 tm, .int .i64 1, .string ky, .string nm, .slice aa 2 cp, .slice ga gn gc] 34)
  have htb := tx_box W sq tm 1 ky nm aa ga 2 cp gn gc
  obtain ⟨wa, hwa⟩ : ∃ z, z = W.alloc (.cells #[.int .i64 sq, .int .i64 tm, .int .i64 1, .string ky, .string nm, .slice aa 2 cp, .slice ga gn gc] 34) := ⟨_, rfl⟩
  rw [← hwa] at htb hba
  have HWa := Lib.hid hwa
  have hA2 := lst_keep Tre.encI_len hA hba
  have hca := hc.keep hba
  have HTb := Lib.hid htb
  have k2 : wa.cell? ⟨W.heap.size, 2, none⟩ = some (.int .i64 1) := Arr.blk_cell htb 2
  have HCall := Lib.hid (addFund_any y hca hf.nf hf.kf sq tm 1 ky nm aa ga cp gn gc hnm p0 p1 ⟨hp p0 (by simp), hp p1 (by simp)⟩ hA2)
  clear hA hA2 hca htb hba hwa hc hf hp
  go_enter Tryz.func35, Tryz.ntmps35
  go_upto_region 1 with fail
  rw [← HWa.out]
  go_wp2_with (first | (refine Arr.wpList_load_blk rfl 34 (.tmp 3) rfl W.heap.size rfl [.int .i64 sq, .int .i64 tm, .int .i64 1, .string ky, .string nm, .slice aa 2 cp, .slice ga gn gc] 34 HTb.out _ Tryz.underlying34 rfl info_tx ?_) | fail)
  refine HCall.out.mono ?_
  rintro e w2 ⟨y', rfl, h1, h2⟩
  have H2 := Lib.hid (And.intro h1 h2)
  clear h1 h2 HCall
  go_wp2_with fail
  go_ret2
  exact ⟨y', none, 0, 0, rfl, (fun h => ⟨(H2.out.1 h).1, (H2.out.1 h).2, owns_nil _ _ _⟩), H2.out.2⟩
set_option maxHeartbeats 4000000 in
theorem do2_any (y : Sv) (hc : Cal W0 W B y) (hf : Fit y) (sq tm : Int) (ky nm : ByteArray) (hnm : nm.size ≤ maxLen) (aa ga : Option Addr) (cp gn gc : Nat) (p0 p1 p2 p3 : Int) (legs : List Lg) (hp : ∀ x ∈ ([p0, p1, p2, p3] : List Int), inI x) (hA : IntsL W aa 4 cp [p0, p1, p2, p3]) :
    Calls Tryz.prog 35 #[.pointer (some ⟨B, 0, none⟩), .agg #[.int .i64 sq, .int .i64 tm, .int .i64 2, .string ky, .string nm, .slice aa 4 cp, .slice ga gn gc]] W (LegP W0 B (kindE y.t ⟨sq, tm, 2, ky, nm, [p0, p1, p2, p3], legs⟩) (kindS y.t ⟨sq, tm, 2, ky, nm, [p0, p1, p2, p3], legs⟩) (kindL y.t ⟨sq, tm, 2, ky, nm, [p0, p1, p2, p3], legs⟩)) := by
  have hE : kindE y.t ⟨sq, tm, 2, ky, nm, [p0, p1, p2, p3], legs⟩ = bankE y.t 2 nm [p0, p1, p2, p3] ∧ kindS y.t ⟨sq, tm, 2, ky, nm, [p0, p1, p2, p3], legs⟩ = bankS y.t 2 nm [p0, p1, p2, p3] ∧ kindL y.t ⟨sq, tm, 2, ky, nm, [p0, p1, p2, p3], legs⟩ = bankL y.t 2 [p0, p1, p2, p3] := ⟨rfl, rfl, rfl⟩
  rw [hE.1, hE.2.1, hE.2.2]
  clear hE
  have hba := below_alloc W (.cells #[.int .i64 sq, .int .i64 tm, .int .i64 2, .string ky, .string nm, .slice aa 4 cp, .slice ga gn gc] 34)
  have htb := tx_box W sq tm 2 ky nm aa ga 4 cp gn gc
  obtain ⟨wa, hwa⟩ : ∃ z, z = W.alloc (.cells #[.int .i64 sq, .int .i64 tm, .int .i64 2, .string ky, .string nm, .slice aa 4 cp, .slice ga gn gc] 34) := ⟨_, rfl⟩
  rw [← hwa] at htb hba
  have HWa := Lib.hid hwa
  have hA2 := lst_keep Tre.encI_len hA hba
  have hca := hc.keep hba
  have HTb := Lib.hid htb
  have k2 : wa.cell? ⟨W.heap.size, 2, none⟩ = some (.int .i64 2) := Arr.blk_cell htb 2
  have HCall := Lib.hid (addAlloc_any y hca hf.nl sq tm 2 ky nm aa ga cp gn gc p0 p1 p2 p3 (hp p3 (by simp)) hA2)
  clear hA hA2 hca htb hba hwa hc hf hp
  go_enter Tryz.func35, Tryz.ntmps35
  go_upto_region 1 with fail
  rw [← HWa.out]
  go_wp2_with (first | (refine Arr.wpList_load_blk rfl 34 (.tmp 3) rfl W.heap.size rfl [.int .i64 sq, .int .i64 tm, .int .i64 2, .string ky, .string nm, .slice aa 4 cp, .slice ga gn gc] 34 HTb.out _ Tryz.underlying34 rfl info_tx ?_) | fail)
  refine HCall.out.mono ?_
  rintro e w2 ⟨y', va, vn, vc, rfl, h1, h2⟩
  have H2 := Lib.hid (And.intro h1 h2)
  clear h1 h2 HCall
  go_wp2_with fail
  go_ret2
  exact ⟨y', va, vn, vc, rfl, H2.out.1, H2.out.2⟩
set_option maxHeartbeats 4000000 in
theorem do3_any (y : Sv) (hc : Cal W0 W B y) (hf : Fit y) (sq tm : Int) (ky nm : ByteArray) (hnm : nm.size ≤ maxLen) (aa ga : Option Addr) (cp gn gc : Nat) (p0 p1 : Int) (legs : List Lg) (hp : ∀ x ∈ ([p0, p1] : List Int), inI x) (hA : IntsL W aa 2 cp [p0, p1]) :
    Calls Tryz.prog 35 #[.pointer (some ⟨B, 0, none⟩), .agg #[.int .i64 sq, .int .i64 tm, .int .i64 3, .string ky, .string nm, .slice aa 2 cp, .slice ga gn gc]] W (LegP W0 B (kindE y.t ⟨sq, tm, 3, ky, nm, [p0, p1], legs⟩) (kindS y.t ⟨sq, tm, 3, ky, nm, [p0, p1], legs⟩) (kindL y.t ⟨sq, tm, 3, ky, nm, [p0, p1], legs⟩)) := by
  have hE : kindE y.t ⟨sq, tm, 3, ky, nm, [p0, p1], legs⟩ = bankE y.t 3 nm [p0, p1] ∧ kindS y.t ⟨sq, tm, 3, ky, nm, [p0, p1], legs⟩ = bankS y.t 3 nm [p0, p1] ∧ kindL y.t ⟨sq, tm, 3, ky, nm, [p0, p1], legs⟩ = bankL y.t 3 [p0, p1] := ⟨rfl, rfl, rfl⟩
  rw [hE.1, hE.2.1, hE.2.2]
  clear hE
  have hba := below_alloc W (.cells #[.int .i64 sq, .int .i64 tm, .int .i64 3, .string ky, .string nm, .slice aa 2 cp, .slice ga gn gc] 34)
  have htb := tx_box W sq tm 3 ky nm aa ga 2 cp gn gc
  obtain ⟨wa, hwa⟩ : ∃ z, z = W.alloc (.cells #[.int .i64 sq, .int .i64 tm, .int .i64 3, .string ky, .string nm, .slice aa 2 cp, .slice ga gn gc] 34) := ⟨_, rfl⟩
  rw [← hwa] at htb hba
  have HWa := Lib.hid hwa
  have hA2 := lst_keep Tre.encI_len hA hba
  have hca := hc.keep hba
  have HTb := Lib.hid htb
  have k2 : wa.cell? ⟨W.heap.size, 2, none⟩ = some (.int .i64 3) := Arr.blk_cell htb 2
  have HCall := Lib.hid (deposit_any y hca hf.nl sq tm 3 ky nm aa ga cp gn gc p0 p1 ⟨hp p0 (by simp), hp p1 (by simp)⟩ hA2)
  clear hA hA2 hca htb hba hwa hc hf hp
  go_enter Tryz.func35, Tryz.ntmps35
  go_upto_region 1 with fail
  rw [← HWa.out]
  go_wp2_with (first | (refine Arr.wpList_load_blk rfl 34 (.tmp 3) rfl W.heap.size rfl [.int .i64 sq, .int .i64 tm, .int .i64 3, .string ky, .string nm, .slice aa 2 cp, .slice ga gn gc] 34 HTb.out _ Tryz.underlying34 rfl info_tx ?_) | fail)
  refine HCall.out.mono ?_
  rintro e w2 ⟨y', va, vn, vc, rfl, h1, h2⟩
  have H2 := Lib.hid (And.intro h1 h2)
  clear h1 h2 HCall
  go_wp2_with fail
  go_ret2
  exact ⟨y', va, vn, vc, rfl, H2.out.1, H2.out.2⟩
set_option maxHeartbeats 4000000 in
theorem do4_any (y : Sv) (hc : Cal W0 W B y) (hf : Fit y) (sq tm : Int) (ky nm : ByteArray) (hnm : nm.size ≤ maxLen) (aa ga : Option Addr) (cp gn gc : Nat) (p0 p1 : Int) (legs : List Lg) (hp : ∀ x ∈ ([p0, p1] : List Int), inI x) (hA : IntsL W aa 2 cp [p0, p1]) :
    Calls Tryz.prog 35 #[.pointer (some ⟨B, 0, none⟩), .agg #[.int .i64 sq, .int .i64 tm, .int .i64 4, .string ky, .string nm, .slice aa 2 cp, .slice ga gn gc]] W (LegP W0 B (kindE y.t ⟨sq, tm, 4, ky, nm, [p0, p1], legs⟩) (kindS y.t ⟨sq, tm, 4, ky, nm, [p0, p1], legs⟩) (kindL y.t ⟨sq, tm, 4, ky, nm, [p0, p1], legs⟩)) := by
  have hE : kindE y.t ⟨sq, tm, 4, ky, nm, [p0, p1], legs⟩ = bankE y.t 4 nm [p0, p1] ∧ kindS y.t ⟨sq, tm, 4, ky, nm, [p0, p1], legs⟩ = bankS y.t 4 nm [p0, p1] ∧ kindL y.t ⟨sq, tm, 4, ky, nm, [p0, p1], legs⟩ = bankL y.t 4 [p0, p1] := ⟨rfl, rfl, rfl⟩
  rw [hE.1, hE.2.1, hE.2.2]
  clear hE
  have hba := below_alloc W (.cells #[.int .i64 sq, .int .i64 tm, .int .i64 4, .string ky, .string nm, .slice aa 2 cp, .slice ga gn gc] 34)
  have htb := tx_box W sq tm 4 ky nm aa ga 2 cp gn gc
  obtain ⟨wa, hwa⟩ : ∃ z, z = W.alloc (.cells #[.int .i64 sq, .int .i64 tm, .int .i64 4, .string ky, .string nm, .slice aa 2 cp, .slice ga gn gc] 34) := ⟨_, rfl⟩
  rw [← hwa] at htb hba
  have HWa := Lib.hid hwa
  have hA2 := lst_keep Tre.encI_len hA hba
  have hca := hc.keep hba
  have HTb := Lib.hid htb
  have k2 : wa.cell? ⟨W.heap.size, 2, none⟩ = some (.int .i64 4) := Arr.blk_cell htb 2
  have HCall := Lib.hid (withdraw_any y hca hf.nl sq tm 4 ky nm aa ga cp gn gc p0 p1 ⟨hp p0 (by simp), hp p1 (by simp)⟩ hA2)
  clear hA hA2 hca htb hba hwa hc hf hp
  go_enter Tryz.func35, Tryz.ntmps35
  go_upto_region 1 with fail
  rw [← HWa.out]
  go_wp2_with (first | (refine Arr.wpList_load_blk rfl 34 (.tmp 3) rfl W.heap.size rfl [.int .i64 sq, .int .i64 tm, .int .i64 4, .string ky, .string nm, .slice aa 2 cp, .slice ga gn gc] 34 HTb.out _ Tryz.underlying34 rfl info_tx ?_) | fail)
  refine HCall.out.mono ?_
  rintro e w2 ⟨y', va, vn, vc, rfl, h1, h2⟩
  have H2 := Lib.hid (And.intro h1 h2)
  clear h1 h2 HCall
  go_wp2_with fail
  go_ret2
  exact ⟨y', va, vn, vc, rfl, H2.out.1, H2.out.2⟩
set_option maxHeartbeats 4000000 in
theorem do5_any (y : Sv) (hc : Cal W0 W B y) (hf : Fit y) (sq tm : Int) (ky nm : ByteArray) (hnm : nm.size ≤ maxLen) (aa ga : Option Addr) (cp gn gc : Nat) (p0 p1 p2 : Int) (legs : List Lg) (hp : ∀ x ∈ ([p0, p1, p2] : List Int), inI x) (hA : IntsL W aa 3 cp [p0, p1, p2]) :
    Calls Tryz.prog 35 #[.pointer (some ⟨B, 0, none⟩), .agg #[.int .i64 sq, .int .i64 tm, .int .i64 5, .string ky, .string nm, .slice aa 3 cp, .slice ga gn gc]] W (LegP W0 B (kindE y.t ⟨sq, tm, 5, ky, nm, [p0, p1, p2], legs⟩) (kindS y.t ⟨sq, tm, 5, ky, nm, [p0, p1, p2], legs⟩) (kindL y.t ⟨sq, tm, 5, ky, nm, [p0, p1, p2], legs⟩)) := by
  have hE : kindE y.t ⟨sq, tm, 5, ky, nm, [p0, p1, p2], legs⟩ = bankE y.t 5 nm [p0, p1, p2] ∧ kindS y.t ⟨sq, tm, 5, ky, nm, [p0, p1, p2], legs⟩ = bankS y.t 5 nm [p0, p1, p2] ∧ kindL y.t ⟨sq, tm, 5, ky, nm, [p0, p1, p2], legs⟩ = bankL y.t 5 [p0, p1, p2] := ⟨rfl, rfl, rfl⟩
  rw [hE.1, hE.2.1, hE.2.2]
  clear hE
  have hba := below_alloc W (.cells #[.int .i64 sq, .int .i64 tm, .int .i64 5, .string ky, .string nm, .slice aa 3 cp, .slice ga gn gc] 34)
  have htb := tx_box W sq tm 5 ky nm aa ga 3 cp gn gc
  obtain ⟨wa, hwa⟩ : ∃ z, z = W.alloc (.cells #[.int .i64 sq, .int .i64 tm, .int .i64 5, .string ky, .string nm, .slice aa 3 cp, .slice ga gn gc] 34) := ⟨_, rfl⟩
  rw [← hwa] at htb hba
  have HWa := Lib.hid hwa
  have hA2 := lst_keep Tre.encI_len hA hba
  have hca := hc.keep hba
  have HTb := Lib.hid htb
  have k2 : wa.cell? ⟨W.heap.size, 2, none⟩ = some (.int .i64 5) := Arr.blk_cell htb 2
  have HCall := Lib.hid (transfer_any y hca hf.nl sq tm 5 ky nm aa ga cp gn gc p0 p1 p2 (hp p2 (by simp)) hA2)
  clear hA hA2 hca htb hba hwa hc hf hp
  go_enter Tryz.func35, Tryz.ntmps35
  go_upto_region 1 with fail
  rw [← HWa.out]
  go_wp2_with (first | (refine Arr.wpList_load_blk rfl 34 (.tmp 3) rfl W.heap.size rfl [.int .i64 sq, .int .i64 tm, .int .i64 5, .string ky, .string nm, .slice aa 3 cp, .slice ga gn gc] 34 HTb.out _ Tryz.underlying34 rfl info_tx ?_) | fail)
  refine HCall.out.mono ?_
  rintro e w2 ⟨y', va, vn, vc, rfl, h1, h2⟩
  have H2 := Lib.hid (And.intro h1 h2)
  clear h1 h2 HCall
  go_wp2_with fail
  go_ret2
  exact ⟨y', va, vn, vc, rfl, H2.out.1, H2.out.2⟩
set_option maxHeartbeats 4000000 in
theorem do6_any (y : Sv) (hc : Cal W0 W B y) (hf : Fit y) (sq tm : Int) (ky nm : ByteArray) (hnm : nm.size ≤ maxLen) (aa ga : Option Addr) (cp gn gc : Nat) (p0 p1 p2 : Int) (legs : List Lg) (hp : ∀ x ∈ ([p0, p1, p2] : List Int), inI x) (hA : IntsL W aa 3 cp [p0, p1, p2]) :
    Calls Tryz.prog 35 #[.pointer (some ⟨B, 0, none⟩), .agg #[.int .i64 sq, .int .i64 tm, .int .i64 6, .string ky, .string nm, .slice aa 3 cp, .slice ga gn gc]] W (LegP W0 B (kindE y.t ⟨sq, tm, 6, ky, nm, [p0, p1, p2], legs⟩) (kindS y.t ⟨sq, tm, 6, ky, nm, [p0, p1, p2], legs⟩) (kindL y.t ⟨sq, tm, 6, ky, nm, [p0, p1, p2], legs⟩)) := by
  have hE : kindE y.t ⟨sq, tm, 6, ky, nm, [p0, p1, p2], legs⟩ = bankE y.t 6 nm [p0, p1, p2] ∧ kindS y.t ⟨sq, tm, 6, ky, nm, [p0, p1, p2], legs⟩ = bankS y.t 6 nm [p0, p1, p2] ∧ kindL y.t ⟨sq, tm, 6, ky, nm, [p0, p1, p2], legs⟩ = bankL y.t 6 [p0, p1, p2] := ⟨rfl, rfl, rfl⟩
  rw [hE.1, hE.2.1, hE.2.2]
  clear hE
  have hba := below_alloc W (.cells #[.int .i64 sq, .int .i64 tm, .int .i64 6, .string ky, .string nm, .slice aa 3 cp, .slice ga gn gc] 34)
  have htb := tx_box W sq tm 6 ky nm aa ga 3 cp gn gc
  obtain ⟨wa, hwa⟩ : ∃ z, z = W.alloc (.cells #[.int .i64 sq, .int .i64 tm, .int .i64 6, .string ky, .string nm, .slice aa 3 cp, .slice ga gn gc] 34) := ⟨_, rfl⟩
  rw [← hwa] at htb hba
  have HWa := Lib.hid hwa
  have hA2 := lst_keep Tre.encI_len hA hba
  have hca := hc.keep hba
  have HTb := Lib.hid htb
  have k2 : wa.cell? ⟨W.heap.size, 2, none⟩ = some (.int .i64 6) := Arr.blk_cell htb 2
  have HCall := Lib.hid (addRate_any y hca hf.nr sq tm 6 ky nm aa ga cp gn gc p0 p1 p2 ⟨hp p0 (by simp), hp p1 (by simp), hp p2 (by simp)⟩ hA2)
  clear hA hA2 hca htb hba hwa hc hf hp
  go_enter Tryz.func35, Tryz.ntmps35
  go_upto_region 1 with fail
  rw [← HWa.out]
  go_wp2_with (first | (refine Arr.wpList_load_blk rfl 34 (.tmp 3) rfl W.heap.size rfl [.int .i64 sq, .int .i64 tm, .int .i64 6, .string ky, .string nm, .slice aa 3 cp, .slice ga gn gc] 34 HTb.out _ Tryz.underlying34 rfl info_tx ?_) | fail)
  refine HCall.out.mono ?_
  rintro e w2 ⟨y', rfl, h1, h2⟩
  have H2 := Lib.hid (And.intro h1 h2)
  clear h1 h2 HCall
  go_wp2_with fail
  go_ret2
  exact ⟨y', none, 0, 0, rfl, (fun h => ⟨(H2.out.1 h).1, (H2.out.1 h).2, owns_nil _ _ _⟩), H2.out.2⟩
set_option maxHeartbeats 4000000 in
theorem do15_any (y : Sv) (hc : Cal W0 W B y) (hf : Fit y) (sq tm : Int) (ky nm : ByteArray) (hnm : nm.size ≤ maxLen) (aa ga : Option Addr) (cp gn gc : Nat) (legs : List Lg) (hp : ∀ x ∈ ([] : List Int), inI x) (hA : IntsL W aa 0 cp []) :
    Calls Tryz.prog 35 #[.pointer (some ⟨B, 0, none⟩), .agg #[.int .i64 sq, .int .i64 tm, .int .i64 15, .string ky, .string nm, .slice aa 0 cp, .slice ga gn gc]] W (LegP W0 B (kindE y.t ⟨sq, tm, 15, ky, nm, [], legs⟩) (kindS y.t ⟨sq, tm, 15, ky, nm, [], legs⟩) (kindL y.t ⟨sq, tm, 15, ky, nm, [], legs⟩)) := by
  have hE : kindE y.t ⟨sq, tm, 15, ky, nm, [], legs⟩ = (if expL y.t tm = [] then 4 else 0) ∧ kindS y.t ⟨sq, tm, 15, ky, nm, [], legs⟩ = y.t ∧ kindL y.t ⟨sq, tm, 15, ky, nm, [], legs⟩ = expL y.t tm := ⟨rfl, rfl, rfl⟩
  rw [hE.1, hE.2.1, hE.2.2]
  clear hE
  obtain ⟨E, hE⟩ : ∃ E : Int, E = if expL y.t tm = [] then 4 else 0 := ⟨_, rfl⟩
  rw [← hE]
  have hba := below_alloc W (.cells #[.int .i64 sq, .int .i64 tm, .int .i64 15, .string ky, .string nm, .slice aa 0 cp, .slice ga gn gc] 34)
  have htb := tx_box W sq tm 15 ky nm aa ga 0 cp gn gc
  obtain ⟨wa, hwa⟩ : ∃ z, z = W.alloc (.cells #[.int .i64 sq, .int .i64 tm, .int .i64 15, .string ky, .string nm, .slice aa 0 cp, .slice ga gn gc] 34) := ⟨_, rfl⟩
  rw [← hwa] at htb hba
  have HWa := Lib.hid hwa
  have hA2 := lst_keep Tre.encI_len hA hba
  have hca := hc.keep hba
  have HTb := Lib.hid htb
  have k2 : wa.cell? ⟨W.heap.size, 2, none⟩ = some (.int .i64 15) := Arr.blk_cell htb 2
  have HCall := Lib.hid (expire_any y hca hf.nl hf.kl sq tm 15 ky nm aa ga 0 cp gn gc)
  rw [← hE] at HCall
  clear hE
  clear hA hA2 hca htb hba hwa hc hf hp
  go_enter Tryz.func35, Tryz.ntmps35
  go_upto_region 1 with fail
  rw [← HWa.out]
  go_wp2_with (first | (refine Arr.wpList_load_blk rfl 34 (.tmp 3) rfl W.heap.size rfl [.int .i64 sq, .int .i64 tm, .int .i64 15, .string ky, .string nm, .slice aa 0 cp, .slice ga gn gc] 34 HTb.out _ Tryz.underlying34 rfl info_tx ?_) | fail)
  refine HCall.out.mono ?_
  rintro e w2 ⟨y', va, vn, vc, rfl, h1, h2⟩
  have H2 := Lib.hid (And.intro h1 h2)
  clear h1 h2 HCall
  go_wp2_with fail
  go_ret2
  exact ⟨y', va, vn, vc, rfl, H2.out.1, H2.out.2⟩
end Go.Proofs.YtjcndgopijpibaaGreat.Bok
/- Book, the landed: one job goes (the library's slices.Delete). -/
namespace Go.Proofs.YtjcndgopijpibaaGreat.Bok
set_option maxRecDepth 100000
open Go.RowKit
open Go.Sort
open Kit
open Foot
open Tre (Lst inI lst_keep lst_at lst_new lst_none encF encF_len encL_len IntsL goodB)
open Led (Lg encG encG_len)
open Job (Jb Jv Jobs encJ encJ_len encJ_one findI)
open Drw (Dw Draws encD encD_len encD_one)
open Go.Proofs.YtjcndgopijpibaaGreat.Ord (ts)
open Snp (Sn Sv encK encK_len encK_one)
set_option linter.unusedVariables false
variable {w w' W0 W : World} {B : Nat}
theorem run_clear_j {w : World} (ty : TypeId) {g o c : Nat} {cs : List Value} (hB : Arr.Blk w g 58 cs) (hfit : o + 12 ≤ cs.length) : (Builtin.clear_ #[26] ty #[.slice (some ⟨g, o, none⟩) 1 c]).run Tryz.prog w = .ok (.tuple #[]) (w.setRow g (cs.take o ++ zeroJ12 ++ cs.drop (o + 12)).toArray) := by
  have hst := run_storeCells_at Tryz.prog g o 58 zeroJ12 0 cs.toArray w hB (by simpa [zeroJ12] using hfit) (by intro v hv; simp [zeroJ12] at hv; rcases hv with rfl | rfl <;> rfl)
  simp only [Nat.add_zero, show zeroJ12.length = 12 from rfl] at hst
  have hz : (Builtin.zeroCells (Value.agg #[.int .i64 0, .int .i64 0, .int .i64 0, .int .i64 0, .int .i64 0, .int .i64 0, .int .i64 0, .int .i64 0, .int .i64 0, .int .i64 0, .int .i64 0, .slice none 0 0]).cells 1).toList = zeroJ12 := by kernel_rfl
  simp [Builtin.clear_, run_underlying Tryz.underlying26, Tryz.zeroValue58, hz, hst]
theorem del_blk {base g n m cp K : Nat} {l : List Jv} (hmn : m + 1 = n) (h : Owns encJ 12 58 w base (.slice (some ⟨g, 0, none⟩) n cp) l) (hK : K < n) (ty t2 : TypeId) : ∃ w1 w2,
    (Builtin.append_ #[26, 26] ty #[.slice (some ⟨g, 0, none⟩) K cp, .slice (some ⟨g, if cp = K + 1 then 0 else 0 + (K + 1) * 12, none⟩) (n - (K + 1)) (cp - (K + 1))]).run Tryz.prog w = .ok (.slice (some ⟨g, 0, none⟩) m cp) w1 ∧
    (Builtin.clear_ #[26] t2 #[.slice (some ⟨g, m * 12, none⟩) (n - m) (cp - m)]).run Tryz.prog w1 = .ok (.tuple #[]) w2 ∧ Owns encJ 12 58 w2 base (.slice (some ⟨g, 0, none⟩) m cp) (l.eraseIdx K) ∧ Chg (fun k => k = g) w w2 := by
  obtain ⟨cs, hB, hl, hc, hm, h3, h4, hg⟩ := blk_of_own encJ_len h
  have hnm : n - m = 1 := by omega
  rw [hnm]
  have hd : (flat encJ (l.drop (K + 1))).length = (n - (K + 1)) * 12 := by rw [flat_length encJ_len, List.length_drop, hl]
  have ht : (flat encJ (l.take K)).length = K * 12 := by rw [flat_length encJ_len, List.length_take, hl, Nat.min_eq_left (by omega)]
  have hflat : flat encJ l = flat encJ (l.take (K + 1)) ++ flat encJ (l.drop (K + 1)) := by rw [← flat_append, List.take_append_drop]
  have ht1 : (flat encJ (l.take (K + 1))).length = (K + 1) * 12 := by rw [flat_length encJ_len, List.length_take, hl, Nat.min_eq_left (by omega)]
  have hnews : ∀ j u, (flat encJ (l.drop (K + 1)))[j]? = some u → w.cell? ((⟨g, if cp = K + 1 then 0 else 0 + (K + 1) * 12, none⟩ : Addr).add j) = some u := by
    intro j u hj
    have hjl := (List.getElem?_eq_some_iff.1 hj).1
    rw [hd] at hjl
    rw [if_neg (by omega), Kit.add_plain, Nat.zero_add, Arr.blk_cell hB]
    have e1 : (cs.take (n * 12))[(K + 1) * 12 + j]? = some u := by
      rw [h4, hflat, List.getElem?_append_right (by rw [ht1]; omega), ht1, Nat.add_sub_cancel_left]; exact hj
    rw [List.getElem?_take] at e1
    split at e1
    · exact e1
    · cases e1
  obtain ⟨i0, hi, hz0, hz1, hz2⟩ := info_parts tyJ.info
  have hone : ∀ u ∈ flat encJ (l.drop (K + 1)), u.oneCell' = true := fun u hu => by
    obtain ⟨x, _, hux⟩ := List.mem_flatMap.1 hu
    exact encJ_one x u hux
  have hr := run_append_room (P := Tryz.prog) w 26 ty 58 i0 tyJ.und hi g K cp cs.toArray hB ⟨g, if cp = K + 1 then 0 else 0 + (K + 1) * 12, none⟩ (n - (K + 1)) (cp - (K + 1)) (flat encJ (l.drop (K + 1))) (by rw [hd, hz1]) hnews hone (by omega) (by rw [hd, hz1]; simp; omega)
  rw [hz1, hd, show K + (n - (K + 1)) = m by omega] at hr
  simp only at hr
  obtain ⟨cs1, hcs1⟩ : ∃ z, z = cs.take (K * 12) ++ flat encJ (l.drop (K + 1)) ++ cs.drop (K * 12 + (n - (K + 1)) * 12) := ⟨_, rfl⟩
  rw [← hcs1] at hr
  have hB1 : Arr.Blk (w.setRow g cs1.toArray) g 58 cs1 := Arr.blk_row hB cs1
  have hl1 : cs1.length = cp * 12 := by
    rw [hcs1]
    simp only [List.length_append, List.length_take, List.length_drop, hd, h3]
    omega
  have hr2 := run_clear_j (w := w.setRow g cs1.toArray) t2 (o := m * 12) (c := cp - m) hB1 (by rw [hl1]; omega)
  obtain ⟨cs2, hcs2⟩ : ∃ z, z = cs1.take (m * 12) ++ zeroJ12 ++ cs1.drop (m * 12 + 12) := ⟨_, rfl⟩
  rw [← hcs2] at hr2
  have hB2 : Arr.Blk ((w.setRow g cs1.toArray).setRow g cs2.toArray) g 58 cs2 := Arr.blk_row hB1 cs2
  have hl2 : cs2.length = cp * 12 := by
    rw [hcs2]
    simp only [List.length_append, List.length_take, List.length_drop, hl1, show zeroJ12.length = 12 from rfl]
    omega
  have hel : (l.eraseIdx K).length = m := by rw [List.length_eraseIdx, hl, if_pos hK]; omega
  have hflat2 : flat encJ (l.eraseIdx K) = cs.take (K * 12) ++ flat encJ (l.drop (K + 1)) := by
    rw [List.eraseIdx_eq_take_drop_succ, flat_append]
    congr 1
    have e1 : (cs.take (n * 12)).take (K * 12) = (flat encJ l).take (K * 12) := by rw [h4]
    rw [List.take_take, Nat.min_eq_left (by omega)] at e1
    rw [e1]
    have e2 : flat encJ l = flat encJ (l.take K) ++ flat encJ (l.drop K) := by rw [← flat_append, List.take_append_drop]
    rw [e2, ← ht, List.take_left]
  refine ⟨_, _, hr, hr2, ?_, chg_row (F := fun k => k = g) (chg_row (F := fun k => k = g) (chg_refl _ w) (.inl rfl) _) (.inl rfl) _⟩
  have := own_of_blk (base := base) (l := l.eraseIdx K) (cp := cp) encJ_len hB2 (by rw [hel]; omega) hm hl2 (by
    rw [hel, hflat2, hcs2, List.append_assoc, List.take_append_of_le_length (by rw [List.length_take, hl1]; omega), List.take_take, Nat.min_self, hcs1, List.take_append_of_le_length (by simp only [List.length_append, List.length_take, hd, h3]; omega)]
    refine List.take_of_length_le ?_
    simp only [List.length_append, List.length_take, hd, h3]
    omega) hg
  rw [hel] at this
  exact this
set_option maxHeartbeats 8000000 in
theorem delete_any (W : World) (base g n m cp K : Nat) (l : List Jv) (q : Int) (hmn : m + 1 = n) (hO : Owns encJ 12 58 W base (.slice (some ⟨g, 0, none⟩) n cp) l) (hK : K < n) (hn : n ≤ 100) (hq : q = ((K + 1 : Nat) : Int)) :
    Calls Tryz.prog 97 #[.slice (some ⟨g, 0, none⟩) n cp, .int .i64 (K : Nat), .int .i64 q] W fun e w' => e = .returned (.slice (some ⟨g, 0, none⟩) m cp) ∧ Owns encJ 12 58 w' base (.slice (some ⟨g, 0, none⟩) m cp) (l.eraseIdx K) ∧ Chg (fun k => k = g) W w' := by
  subst hq
  obtain ⟨cs, -, -, hc, hm, -, -, -⟩ := blk_of_own encJ_len hO
  have hgl := (World.ownsRow.lt hO g rfl).2
  have HO := Lib.hid (And.intro hO (And.intro hgl (And.intro hmn hK)))
  have HK := Lib.hid (show K ≤ n ∧ n ≤ cp ∧ K + 1 ≤ n by omega)
  have hne : ((K : Int) == ((K + 1 : Nat) : Int)) = false := beq_false_of_ne (by omega)
  have hne2 : ¬ (K : Int) = ((K + 1 : Nat) : Int) := by omega
  have hcm : cp ≤ 9223372036854775807 := by unfold maxLen at hm; omega
  have hKi : ((K + 1 : Nat) : Int) ≤ (n : Int) := by omega
  have hni : (n : Int) ≤ (cp : Int) := by omega
  have hcne : ¬ cp = m := by omega
  have hmn2 : (m : Int) ≤ (n : Int) := by omega
  clear hO hm cs hgl hmn
  go_enter Tryz.func97, Tryz.ntmps97
  go_upto_region 5 with fail
  refine Rel.wp_region_ends (G := Rel.Gr) _ _ (Rel.tab [.is (.slice (some ⟨g, 0, none⟩) n cp), .is (.int .i64 (K : Nat)), .is (.slice (some ⟨g, 0, none⟩) K cp), .is (.slice (some ⟨g, 0, none⟩) n cp), .is (.int .i64 ((K + 1 : Nat) : Int)), .is (.slice (some ⟨g, if cp = K + 1 then 0 else 0 + (K + 1) * 12, none⟩) (n - (K + 1)) (cp - (K + 1)))]) (fun _ w => Below W.heap.size W w) (by kernel_rfl) rfl rfl (by kernel_rfl) (by kernel_rfl) (by kernel_rfl) (by kernel_rfl) (by kernel_rfl) (by kernel_rfl) (below_drew _) ?_ ?_
  · refine ⟨?_, ?_, ?_, ?_, ?_, ?_, trivial⟩
    · intro L a w c
      refine .inl ⟨Rel.wanted_free (by kernel_rfl) _, ?_⟩
      exact Rel.wp_mv _ rfl ⟨_, rfl, Rel.gr_refl _, (c.old 0 (v := .slice (some ⟨g, 0, none⟩) n cp) (by kernel_rfl) (by kernel_rfl)), c.inv⟩
    · intro L a w c
      refine .inl ⟨Rel.wanted_free (by kernel_rfl) _, ?_⟩
      exact Rel.wp_mv _ rfl ⟨_, rfl, Rel.gr_refl _, (c.old 1 (v := .int .i64 (K : Nat)) (by kernel_rfl) (by kernel_rfl)), c.inv⟩
    · intro L a w c
      refine .inl ⟨Rel.wanted_free (by kernel_rfl) _, ?_⟩
      exact Rel.wp_sl _ _ none _ none rfl (c.get 0 20 (by kernel_rfl)) rfl (congrArg some (c.get 1 21 (by kernel_rfl))) rfl (run_to_j HK.out.1 HK.out.2.1 w) ⟨_, rfl, Rel.gr_refl _, rfl, c.inv⟩
    · intro L a w c
      refine .inl ⟨Rel.wanted_free (by kernel_rfl) _, ?_⟩
      exact Rel.wp_mv _ rfl ⟨_, rfl, Rel.gr_refl _, (c.old 0 (v := .slice (some ⟨g, 0, none⟩) n cp) (by kernel_rfl) (by kernel_rfl)), c.inv⟩
    · intro L a w c
      refine .inl ⟨Rel.wanted_free (by kernel_rfl) _, ?_⟩
      exact Rel.wp_mv _ rfl ⟨_, rfl, Rel.gr_refl _, (c.old 2 (v := .int .i64 ((K + 1 : Nat) : Int)) (by kernel_rfl) (by kernel_rfl)), c.inv⟩
    · intro L a w c
      refine .inl ⟨Rel.wanted_free (by kernel_rfl) _, ?_⟩
      exact Rel.wp_sl _ _ _ none none rfl (c.get 3 23 (by kernel_rfl)) (congrArg some (c.get 4 24 (by kernel_rfl))) rfl rfl (run_fr_j HK.out.2.2 w) ⟨_, rfl, Rel.gr_refl _, rfl, c.inv⟩
  intro a w5 hbase hroom hdef hJ hV
  have s22 : Rel.slot a 22 = .slice (some ⟨g, 0, none⟩) K cp := hV 2 _ _ rfl rfl
  have s25 : Rel.slot a 25 = .slice (some ⟨g, if cp = K + 1 then 0 else 0 + (K + 1) * 12, none⟩) (n - (K + 1)) (cp - (K + 1)) := hV 5 _ _ rfl rfl
  rw [Chn.act_puts [20, 21, 22, 23, 24, 25] hbase hroom hdef (by kernel_rfl)]
  clear hbase hroom hdef hV
  simp only [List.foldl_cons, List.foldl_nil]
  generalize Rel.slot a 20 = u20 at *
  generalize Rel.slot a 21 = u21 at *
  rw [s22]
  clear s22
  generalize Rel.slot a 23 = u23 at *
  generalize Rel.slot a 24 = u24 at *
  rw [s25]
  clear s25
  simp only [Act.put, List.setIfInBounds_toArray, List.set_cons_succ, List.set_cons_zero]
  dsimp only [List.getLast]
  obtain ⟨wx, wy, hr1, hr2, ho2, hC2⟩ := del_blk HO.out.2.2.1 (Nest.own_on HO.out.1 hJ) HO.out.2.2.2 26 0
  have HE := Lib.hid (And.intro ho2 (chg_trans (new_chg hJ (fun k => k = g)) hC2 (fun x hx => .inl hx)))
  refine Chn.wp_ap (.tmp 22) (.tmp 25) 26 rfl rfl rfl hr1 ?_
  refine Rel.wp_as _ rfl ?_
  clear hr1 ho2 hC2 hJ
  generalize (if cp = K + 1 then 0 else 0 + (K + 1) * 12) = o2 at *
  go_wp2_with fail
  go_ret
  exact ⟨rfl, HE.out.1, HE.out.2⟩
theorem Bo.delJ {base g n m cp K : Nat} {y : Sv} (h : Bo w base B y) (hj : y.j = ⟨some ⟨g, 0, none⟩, n, cp⟩) (ho : Owns encJ 12 58 w' base (.slice (some ⟨g, 0, none⟩) m cp) (y.jobs.eraseIdx K)) (hC : Chg (fun k => k = g) w w') :
    Arr.Blk w' B 29 (Snp.encV y) ∧ Bo (w'.setCell ⟨B, 6, none⟩ (.slice (some ⟨g, 0, none⟩) m cp)) base B { y with jobs := y.jobs.eraseIdx K, j := ⟨some ⟨g, 0, none⟩, m, cp⟩ } ∧ (base ≤ w.heap.size → Below base w (w'.setCell ⟨B, 6, none⟩ (.slice (some ⟨g, 0, none⟩) m cp))) := by
  have hown : Owns encJ 12 58 w base (.slice (some ⟨g, 0, none⟩) n cp) y.jobs := by
    have := h.o.j
    rw [hj] at this
    exact this
  obtain ⟨cur, hcur⟩ := own_type hown (g := g) rfl
  have hge := (World.ownsRow.lt hown g rfl).1
  have hT : ∀ {T : TypeId}, 58 ≠ T → Typed (fun q => q = g) w T := fun hne => typed_one hcur hne
  have b3 : Arr.Blk w' B 29 (Snp.encV y) := blk_typed h.b hC (hT (by decide))
  refine ⟨b3, ⟨Arr.blk_set b3 6 _, ⟨own_st b3 (own_typed h.o.f hC (hT (by decide))) (by decide) 6 _, own_st b3 (own_typed h.o.l hC (hT (by decide))) (by decide) 6 _, own_st b3 (own_typed h.o.r hC (hT (by decide))) (by decide) 6 _, own_st b3 ho (by decide) 6 _, own_st b3 (own_typed h.o.k hC (hT (by decide))) (by decide) 6 _, fun x hx => own_st b3 (own_typed (h.o.d x (List.mem_of_mem_eraseIdx hx)) hC (hT (by decide))) (by decide) 6 _⟩, h.ge⟩, fun hb => ?_⟩
  exact Arr.below_set (chg_below hC (fun k hk => by rw [hk]; exact hge) hb) h.ge 6 _
theorem del_t {y : Sv} {K : Nat} {p : Snp.Pl} : ({ y with jobs := y.jobs.eraseIdx K, j := p } : Sv).t = { y.t with jobs := y.t.jobs.eraseIdx K } := by
  show (⟨y.seq, y.world, y.next, y.funds, y.allocs, y.rates, (y.jobs.eraseIdx K).map (·.t), y.keys⟩ : Sn) = _
  have e : (y.jobs.eraseIdx K).map (·.t) = (y.jobs.map (·.t)).eraseIdx K := by
    rw [List.eraseIdx_eq_take_drop_succ, List.eraseIdx_eq_take_drop_succ, List.map_append, List.map_take, List.map_drop]
  rw [e]
end Go.Proofs.YtjcndgopijpibaaGreat.Bok
