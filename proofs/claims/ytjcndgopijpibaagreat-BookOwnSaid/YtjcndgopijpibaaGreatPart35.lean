/- Common to the claims of this seat, part 35: texts that were written one by one, laid behind one another. -/
import Derived.Shelf.Abstract
import Derived.Test.YtjcndgopijpibaaGreatPart3
import Derived.Test.YtjcndgopijpibaaGreatPart10
import Derived.Test.YtjcndgopijpibaaGreatPart11
import Derived.Test.YtjcndgopijpibaaGreatPart12
/- Job, the landed: those of which it is so, those that run, and where one is. -/
namespace Go.Proofs.YtjcndgopijpibaaGreat.Job
set_option maxRecDepth 100000
open Go.RowKit
open Go.Sort
open Kit
open Tre (Lst inI lst_keep lst_take lst_at lst_new lst_none run_ld2)
open Go.Proofs.YtjcndgopijpibaaGreat.Ord (ts)
set_option linter.unusedVariables false
variable {w w' : World}
set_option maxHeartbeats 8000000 in
theorem those_any (W : World) (a1 : Option Addr) (n c1 : Nat) (l : List Jv) (h : Jobs W a1 n c1 l) (hn : n ≤ 100) (f : Nat) (cb : Array Value) (p : Jv → Bool)
    (eg : ∀ args w, (callFunc f args).run Tryz.prog w = .ok (.enter f args) w)
    (hcl : ∀ (w : World) (x : Jv), Below W.heap.size W w → x ∈ l → Calls Tryz.prog f (#[.agg (encJ x).toArray] ++ cb) w fun e w' => e = .returned (.bool (p x)) ∧ Below w.heap.size w w') :
    Calls Tryz.prog 151 #[.slice a1 n c1, .func (.func f) #[] cb] W fun e W' => ∃ v, e = .returned v ∧ OwJ W' W.heap.size v (l.filter p) ∧ Below W.heap.size W W' := by
  have hm1 : n ≤ 9223372036854775807 := by omega
  have HL := Lib.hid (And.intro h h.len)
  have HC := Lib.hid hcl
  clear h hcl
  go_enter Tryz.func151, Tryz.ntmps151
  go_wp2_with fail
  go_loopw [5, 10] (fun v i wr => ∃ k : Nat, k ≤ n ∧ i = .int .i64 (k : Nat) ∧ OwJ wr W.heap.size v ((l.take k).filter p) ∧ Below W.heap.size W wr) (fun _ i _ => n - (intOf i).toNat)
  case atStart => exact ⟨0, Nat.zero_le _, rfl, owns_nil _ _ _, Below.refl _ _⟩
  case round =>
    obtain ⟨k, hk, rfl, hown, hb⟩ := hrel
    have HO := Lib.hid (And.intro hown hb)
    clear hown hb
    by_cases hlt : k < n
    · have hlti : (k : Int) < (n : Int) := by omega
      have hkl : k < l.length := by rw [HL.out.2]; exact hlt
      obtain ⟨x, hx⟩ : ∃ x, l[k]? = some x := ⟨_, List.getElem?_eq_getElem hkl⟩
      obtain ⟨b, o, rfl⟩ := lst_at HL.out.1 (by omega)
      have HRx := Lib.hid (job_range (lst_keep encJ_len HL.out.1 HO.out.2) hx)
      have HN := Lib.hid (filter_take p hx)
      have HM := Lib.hid (List.mem_of_getElem? hx)
      have hlo : ((l.take k).filter p).length ≤ 100 := by have := List.length_filter_le p (l.take k); rw [List.length_take] at this; omega
      obtain ⟨out, hout⟩ : ∃ v, v = (l.take k).filter p := ⟨_, rfl⟩
      rw [← hout] at HN HO hlo
      have HDL := Lib.hid (show out.length + 1 ≤ maxLen ∧ (out.length + 1) * 112 ≤ 140737488355328 by unfold maxLen; omega)
      clear hout hx hkl hlo
      obtain ⟨w1, rfl⟩ : ∃ z, z = wr := ⟨_, rfl⟩
      go_upto_region 5 with (first | (refine wpList_load_mid rfl 58 (.tmp 12) rfl b (o + k * 12) rfl (encJ x) _ HRx.out Tryz.underlying58 rfl info_job12 ?_) | (refine Arr.wpList_store_blk rfl 58 (.tmp 7) (.tmp 13) rfl w1.heap.size (encJ x) rfl rfl zeroJ 58 (Arr.blk_new _ _ _ zeroJ rfl) info_job12 rfl (one12L' x) w1.heap.size (Nat.le_refl _) ?_; intro w2 hblk hbel; have HW2 := Lib.hid (And.intro hblk ((below_alloc w1 (.cells zeroJ.toArray 58)).trans hbel)); clear hbel hblk) | fail)
      have HB2 := Lib.hid (And.intro (Nest.own_on HO.out.1 HW2.out.2) (below_keep HO.out.2 HW2.out.2))
      have HCx := Lib.hid (HC.out w2 x HB2.out.2 HM.out)
      go_wp2_with (first | (refine Arr.wpList_load_blk rfl 58 (.tmp 7) rfl w1.heap.size rfl (encJ x) 58 HW2.out.1 _ Tryz.underlying58 rfl info_job12 ?_) | fail)
      refine HCx.out.mono ?_
      rintro e w3 ⟨rfl, hb3⟩
      have hE2 := Arr.blk_below HW2.out.1 hb3 (Arr.blk_lt HW2.out.1)
      have HB3 := Lib.hid (And.intro (Nest.own_on HB2.out.1 hb3) (below_keep HB2.out.2 hb3))
      clear hb3 HCx HB2 HW2 HO HRx HM
      cases hp : p x with
      | true =>
        have HE := Lib.hid (show (l.take (k + 1)).filter p = out ++ [x] by rw [HN.out, if_pos hp])
        clear hp HN
        generalize Value.agg (encJ x).toArray = u13
        obtain ⟨⟨y0, y1, y2, y3, y4, y5, y6, y7, y8, y9, y10, yd⟩, ya, yn, yc⟩ := x
        have p0 := Arr.blk_cell hE2 0
        have p1 := Arr.blk_cell hE2 1
        have p2 := Arr.blk_cell hE2 2
        have p3 := Arr.blk_cell hE2 3
        have p4 := Arr.blk_cell hE2 4
        have p5 := Arr.blk_cell hE2 5
        have p6 := Arr.blk_cell hE2 6
        have p7 := Arr.blk_cell hE2 7
        have p8 := Arr.blk_cell hE2 8
        have p9 := Arr.blk_cell hE2 9
        have p10 := Arr.blk_cell hE2 10
        have p11 := Arr.blk_cell hE2 11
        simp only [encJ, List.getElem?_cons_zero, List.getElem?_cons_succ] at p0 p1 p2 p3 p4 p5 p6 p7 p8 p9 p10 p11
        have HA1 := Lib.hid (owns_alloc HB3.out.1 (.cells #[.int .i64 y0, .int .i64 y1, .int .i64 y2, .int .i64 y3, .int .i64 y4, .int .i64 y5, .int .i64 y6, .int .i64 y7, .int .i64 y8, .int .i64 y9, .int .i64 y10, .slice ya yn yc] 58))
        have HA2 := Lib.hid (lst_new encJ_len w3 [(⟨⟨y0, y1, y2, y3, y4, y5, y6, y7, y8, y9, y10, yd⟩, ya, yn, yc⟩ : Jv)] #[.int .i64 y0, .int .i64 y1, .int .i64 y2, .int .i64 y3, .int .i64 y4, .int .i64 y5, .int .i64 y6, .int .i64 y7, .int .i64 y8, .int .i64 y9, .int .i64 y10, .slice ya yn yc] 58 _ 1 rfl rfl rfl (by omega)).row
        have HA3 := Lib.hid (HB3.out.2.alloc HB3.out.2.size (.cells #[.int .i64 y0, .int .i64 y1, .int .i64 y2, .int .i64 y3, .int .i64 y4, .int .i64 y5, .int .i64 y6, .int .i64 y7, .int .i64 y8, .int .i64 y9, .int .i64 y10, .slice ya yn yc] 58))
        clear hE2
        go_wp2_with (first | (at_builtin; refine Two.append_apart encJ_len (by omega) encJ_one rfl (.tmp 17) (.tmp 19) 26 58 rfl Tryz.underlying26 (.agg zeroJ.toArray) 112 info_jobs rfl W.heap.size _ out rfl HA1.out (some ⟨w3.heap.size, 0, none⟩) 1 1 [(⟨⟨y0, y1, y2, y3, y4, y5, y6, y7, y8, y9, y10, yd⟩, ya, yn, yc⟩ : Jv)] rfl rfl HA2.out (fun h => by cases h) HDL.out.1 HDL.out.2 HA3.out.size ?_; intro v8 w8 ho8 hg8 hx8; have HO8 := Lib.hid (And.intro ho8 (HA3.out.trans (Two.below_grown HA1.out hg8 HA3.out.size))); clear ho8 hg8 hx8) | fail)
        go_roundw
        case rel => exact ⟨k + 1, by omega, by go_num, by rw [HE.out]; exact HO8.out.1, HO8.out.2⟩
        case measure => simp [intOf]; omega
      | false =>
        have HE := Lib.hid (show (l.take (k + 1)).filter p = out by rw [HN.out, if_neg (by rw [hp]; exact Bool.false_ne_true)])
        clear hp HN hE2
        go_wp2_with fail
        go_roundw
        case rel => exact ⟨k + 1, by omega, by go_num, by rw [HE.out]; exact HB3.out.1, HB3.out.2⟩
        case measure => simp [intOf]; omega
    · obtain rfl : k = n := by omega
      have hni : ¬ (k : Int) < (k : Int) := by omega
      have HT := Lib.hid (show (l.take k).filter p = l.filter p by rw [List.take_of_length_le (by rw [HL.out.2]; exact Nat.le_refl _)])
      go_wp2_with fail
      go_ret
      exact ⟨_, rfl, by rw [← HT.out]; exact HO.out.1, HO.out.2⟩
def runL (l : List Jv) : List Jv := l.filter fun x => runB x.t
theorem running_any (W : World) (a1 : Option Addr) (n c1 : Nat) (l : List Jv) (h : Jobs W a1 n c1 l) (hn : n ≤ 100) :
    Calls Tryz.prog 131 #[.slice a1 n c1] W fun e W' => ∃ v, e = .returned v ∧ OwJ W' W.heap.size v (runL l) ∧ Below W.heap.size W W' := by
  have HC := Lib.hid (those_any W a1 n c1 l h hn 152 #[] (fun x => runB x.t) (enters_of Tryz.func152 (by kernel_rfl) rfl) (fun w x _ _ => isrun_any x w))
  clear h
  go_enter Tryz.func131, Tryz.ntmps131
  go_wp2_with fail
  refine HC.out.mono ?_
  rintro e w1 ⟨v, rfl, h1, h2⟩
  have HR := Lib.hid (And.intro h1 h2)
  clear h1 h2
  go_wp2_with fail
  go_ret
  exact ⟨_, rfl, HR.out.1, HR.out.2⟩
set_option maxHeartbeats 4000000 in
theorem index_any (W : World) (a : Option Addr) (n c1 : Nat) (l : List Jv) (id : Int) (bx : Nat) (h : Jobs W a n c1 l) (hX : W.cell? ⟨bx, 0, none⟩ = some (.int .i64 id)) :
    Calls Tryz.prog 145 #[.slice a n c1, .func (.func 146) #[] #[.pointer (some ⟨bx, 0, none⟩)]] W fun e W' => e = .returned (.int .i64 (findI (ts l) id)) ∧ Below W.heap.size W W' := by
  have hm1 : n ≤ 9223372036854775807 := by have := h.cap; have := h.max; unfold maxLen at this; omega
  have HL := Lib.hid (And.intro h h.len)
  have HX := Lib.hid hX
  have HF := Lib.hid (show findI (ts l) id = fndI (firstId id (ts l)) from rfl)
  clear h hX
  go_enter Tryz.func145, Tryz.ntmps145
  go_wp2_with fail
  go_loopw [8] (fun i wr => ∃ k : Nat, k ≤ n ∧ i = .int .i64 (k : Nat) ∧ (firstId id ((ts l).drop k)).map (· + k) = firstId id (ts l) ∧ Below W.heap.size W wr) (fun i _ => n - (intOf i).toNat)
  case atStart => exact ⟨0, Nat.zero_le _, rfl, by simp, Below.refl _ _⟩
  case round =>
    obtain ⟨k, hk, rfl, hf, hb⟩ := hrel
    have HB := Lib.hid (And.intro hb hf)
    clear hb hf
    by_cases hlt : k < n
    · have hlti : (k : Int) < (n : Int) := by omega
      have hkl : k < l.length := by rw [HL.out.2]; exact hlt
      obtain ⟨x, hx⟩ : ∃ x, l[k]? = some x := ⟨_, List.getElem?_eq_getElem hkl⟩
      obtain ⟨b, o, rfl⟩ := lst_at HL.out.1 (by omega)
      have HRx := Lib.hid (job_range (lst_keep encJ_len HL.out.1 HB.out.1) hx)
      have hst := findF_step (id := id) (ts_get hx)
      rw [HB.out.2] at hst
      have HS := Lib.hid hst
      have HCx := Lib.hid (isid_any x id bx wr (cell_keep HB.out.1 HX.out))
      clear hst hx hkl
      go_wp2_with (first | (refine wpList_load_mid rfl 58 (.tmp 14) rfl b (o + k * 12) rfl (encJ x) _ HRx.out Tryz.underlying58 rfl info_job12 ?_) | fail)
      refine HCx.out.mono ?_
      rintro e w3 ⟨rfl, hb3⟩
      have HB3 := Lib.hid (below_keep HB.out.1 hb3)
      clear hb3 HCx
      by_cases he : x.t.id = id
      · have HA := Lib.hid (show findI (ts l) id = (k : Nat) by rw [HF.out, HS.out, if_pos he]; rfl)
        have heb : (x.t.id == id) = true := by rw [he]; exact beq_self_eq_true _
        rw [heb]
        clear he heb
        go_wp2_with fail
        go_ret
        exact ⟨by rw [HA.out]; try rfl, HB3.out⟩
      · have HN := Lib.hid (show (firstId id ((ts l).drop (k + 1))).map (· + (k + 1)) = firstId id (ts l) by rw [HS.out, if_neg he])
        have heb : (x.t.id == id) = false := beq_false_of_ne he
        rw [heb]
        clear he heb
        go_wp2_with fail
        go_roundw
        case rel => exact ⟨k + 1, by omega, by go_num, HN.out, HB3.out⟩
        case measure => simp [intOf]; omega
    · obtain rfl : k = n := by omega
      have hni : ¬ (k : Int) < (k : Int) := by omega
      have HA := Lib.hid (show findI (ts l) id = -1 by
        rw [HF.out, ← HB.out.2, List.drop_eq_nil_of_le (by rw [ts_len, HL.out.2]; exact Nat.le_refl _)]; rfl)
      go_wp2_with fail
      go_ret
      exact ⟨by rw [HA.out]; try rfl, HB.out.1⟩
theorem find_any (W : World) (a : Option Addr) (n c1 : Nat) (l : List Jv) (id : Int) (h : Jobs W a n c1 l) :
    Calls Tryz.prog 123 #[.slice a n c1, .int .i64 id] W fun e W' => e = .returned (.int .i64 (findI (ts l) id)) ∧ Below W.heap.size W W' := by
  have hb := below_alloc W (.cells #[.int .i64 id] 3)
  have HC := Lib.hid (index_any (W.alloc (.cells #[.int .i64 id] 3)) a n c1 l id W.heap.size (lst_keep encJ_len h hb) (by simp))
  have HB := Lib.hid hb
  clear h hb
  go_enter Tryz.func123, Tryz.ntmps123
  go_wp2_with fail
  refine HC.out.mono ?_
  rintro e w1 ⟨rfl, h1⟩
  have HR := Lib.hid (below_keep HB.out h1)
  clear h1
  go_wp2_with fail
  go_ret
  exact ⟨rfl, HR.out⟩
end Go.Proofs.YtjcndgopijpibaaGreat.Job
/- Book, the landed: a job in the list of the state's box; where one is, and from one state to another one. -/
namespace Go.Proofs.YtjcndgopijpibaaGreat.Bok
set_option maxRecDepth 100000
open Go.RowKit
open Go.Sort
open Kit
open Foot
open Tre (Lst inI lst_keep lst_at lst_new lst_none encF encF_len encL_len IntsL goodB)
open Led (Lg encG encG_len)
open Job (Jb Jv Jobs encJ encJ_len encJ_one findI)
open Drw (Dw Draws encD encD_len encD_one)
open Go.Proofs.YtjcndgopijpibaaGreat.Ord (ts)
open Snp (Sn Sv encK encK_len encK_one)
set_option linter.unusedVariables false
variable {w w' W0 W : World} {B : Nat}
theorem Bo.at_j {base : Nat} {y : Sv} (h : Bo w base B y) (hj : 1 ≤ y.jobs.length) : ∃ g cap, y.j = ⟨some ⟨g, 0, none⟩, y.jobs.length, cap⟩ ∧ base ≤ g := by
  obtain ⟨g, cap, hv, hg, hc, hm⟩ := owns_at encJ_len h.o.j hj
  injection hv with e1 e2 e3
  refine ⟨g, cap, ?_, hg⟩
  rw [← e1, ← e2, ← e3]
theorem Bo.setJ {base g n cap k i : Nat} {y : Sv} {z : Jv} (h : Bo w base B y) (hj : y.j = ⟨some ⟨g, 0, none⟩, n, cap⟩) (hz : y.jobs[k]? = some z) (hi : i < 12) (f : Jv → Jv) (u : Value) (hf : ∀ a, encJ (f a) = (encJ a).set i u) (hd : Owns encD 2 63 w base (.slice (f z).a (f z).n (f z).c) (f z).t.draws) :
    w.cell? ⟨g, k * 12 + i, none⟩ = (encJ z)[i]? ∧ w.frozen? ⟨g, k * 12 + i, none⟩ = false ∧ Bo (w.setCell ⟨g, k * 12 + i, none⟩ u) base B { y with jobs := y.jobs.set k (f z) } ∧ Below base w (w.setCell ⟨g, k * 12 + i, none⟩ u) := by
  have hown : Owns encJ 12 58 w base (.slice (some ⟨g, 0, none⟩) n cap) y.jobs := by
    have := h.o.j
    rw [hj] at this
    exact this
  have hlen : y.jobs.length = n := (own_lst encJ_len hown).len
  obtain ⟨hc, hfr, ho⟩ := owns_put encJ_len hown hlen hz hi f u hf
  obtain ⟨cur, hcur⟩ := own_type hown (g := g) rfl
  have hge := (World.ownsRow.lt hown g rfl).1
  have hC := set_chg w g (k * 12 + i) u
  have hT : ∀ {T : TypeId}, 58 ≠ T → Typed (fun q => q = g) w T := fun hne => typed_one hcur hne
  refine ⟨hc, hfr, ⟨blk_typed h.b hC (hT (by decide)), ⟨own_typed h.o.f hC (hT (by decide)), own_typed h.o.l hC (hT (by decide)), own_typed h.o.r hC (hT (by decide)), ?_, own_typed h.o.k hC (hT (by decide)), fun x hx => ?_⟩, h.ge⟩, Arr.below_set (Below.refl base w) hge _ u⟩
  · show Owns encJ 12 58 _ base (.slice y.j.a y.j.n y.j.c) (y.jobs.set k (f z))
    rw [hj]; exact ho
  · rcases List.mem_or_eq_of_mem_set hx with hx | rfl
    · exact own_typed (h.o.d x hx) hC (hT (by decide))
    · exact own_typed hd hC (hT (by decide))
theorem set_t {y : Sv} {k : Nat} {z : Jv} : ({ y with jobs := y.jobs.set k z } : Sv).t = { y.t with jobs := y.t.jobs.set k z.t } := by
  show (⟨y.seq, y.world, y.next, y.funds, y.allocs, y.rates, (y.jobs.set k z).map (·.t), y.keys⟩ : Sn) = _
  rw [List.map_set]
set_option maxHeartbeats 4000000 in
theorem jobIn_any (W : World) (B : Nat) (a : Option Addr) (n c : Nat) (l : List Jv) (hJ : Jobs W a n c l) (hq : W.cell? ⟨B, 6, none⟩ = some (.slice a n c)) (id : Int) (sa : Option Addr) (sn sc : Nat) (sts : List Int) (hS : IntsL W sa sn sc sts) (p E : Int)
    (h : (findI (ts l) id < 0 ∧ p = -1 ∧ E = 4) ∨ ∃ (k : Nat) (z : Jv), findI (ts l) id = (k : Int) ∧ l[k]? = some z ∧ ((sts.contains z.t.state = true ∧ p = (k : Int) ∧ E = 0) ∨ (sts.contains z.t.state = false ∧ p = -1 ∧ E = 9))) :
    Calls Tryz.prog 99 #[.pointer (some ⟨B, 0, none⟩), .int .i64 id, .slice sa sn sc] W fun e w' => e = .returned (.tuple #[.int .i64 p, .int .i64 E]) ∧ Below W.heap.size W w' := by
  have HF := Lib.hid (Job.find_any W a n c l id hJ)
  have HJ := Lib.hid (And.intro hJ (And.intro hq hS))
  rcases h with ⟨h1, rfl, rfl⟩ | ⟨k, z, h1, hz, h2⟩
  · clear hJ hS
    obtain ⟨f, hf⟩ : ∃ f, f = findI (ts l) id := ⟨_, rfl⟩
    rw [← hf] at HF h1
    clear hf
    go_enter Tryz.func99, Tryz.ntmps99
    go_wp2_with fail
    refine HF.out.mono ?_
    rintro e w3 ⟨rfl, hb3⟩
    have HB := Lib.hid hb3
    clear hb3
    go_wp2_with fail
    go_ret2
    exact ⟨rfl, HB.out⟩
  · rw [h1] at HF
    have hkl := (List.getElem?_eq_some_iff.1 hz).1
    have hkn : k < n := by rw [← hJ.len]; exact hkl
    obtain ⟨b, o, rfl⟩ := lst_at hJ (by omega)
    have HZ := Lib.hid (And.intro hkl (And.intro hz h2))
    clear hJ hS h1 hz h2 hkl
    go_enter Tryz.func99, Tryz.ntmps99
    go_wp2_with fail
    refine HF.out.mono ?_
    rintro e w3 ⟨rfl, hb3⟩
    have c7 := Job.job_cell (lst_keep encJ_len HJ.out.1 hb3) HZ.out.1 7 (by omega)
    rw [(List.getElem?_eq_some_iff.1 HZ.out.2.1).2] at c7
    have c7' : w3.cell? ⟨b, o + k * 12 + 7, none⟩ = some (.int .i64 z.t.state) := c7
    have hq3 := cell_keep hb3 HJ.out.2.1
    have HS := Lib.hid (Tre.contains_any sts sa sn sc w3 (lst_keep Tre.encI_len HJ.out.2.2 hb3) z.t.state)
    have HB := Lib.hid hb3
    clear hb3 c7 hq
    rcases HZ.out.2.2 with ⟨h2, rfl, rfl⟩ | ⟨h2, rfl, rfl⟩
    · rw [h2] at HS
      clear h2
      go_wp2_with fail
      refine HS.out.mono ?_
      rintro e w4 ⟨rfl, h4⟩
      subst h4
      go_wp2_with fail
      go_ret2
      exact ⟨rfl, HB.out⟩
    · rw [h2] at HS
      clear h2
      go_wp2_with fail
      refine HS.out.mono ?_
      rintro e w4 ⟨rfl, h4⟩
      subst h4
      go_wp2_with fail
      go_ret2
      exact ⟨rfl, HB.out⟩
end Go.Proofs.YtjcndgopijpibaaGreat.Bok
/- Book, the landed: a job from one state to another one: TxHold, TxFree. -/
namespace Go.Proofs.YtjcndgopijpibaaGreat.Bok
set_option maxRecDepth 100000
open Go.RowKit
open Go.Sort
open Kit
open Foot
open Tre (Lst inI lst_keep lst_at lst_new lst_none encF encF_len encL_len IntsL goodB)
open Led (Lg encG encG_len)
open Job (Jb Jv Jobs encJ encJ_len encJ_one findI)
open Drw (Dw Draws encD encD_len encD_one)
open Go.Proofs.YtjcndgopijpibaaGreat.Ord (ts)
open Snp (Sn Sv encK encK_len encK_one)
set_option linter.unusedVariables false
variable {w w' W0 W : World} {B : Nat}
def Jin (l : List Jv) (id : Int) (sts : List Int) (p E : Int) : Prop :=
  (findI (ts l) id < 0 ∧ p = -1 ∧ E = 4) ∨ ∃ (k : Nat) (z : Jv), findI (ts l) id = (k : Int) ∧ l[k]? = some z ∧ ((sts.contains z.t.state = true ∧ p = (k : Int) ∧ E = 0) ∨ (sts.contains z.t.state = false ∧ p = -1 ∧ E = 9))
theorem jobs_cases (y : Sv) (k now : Int) (a sts : List Int) (hm : ∀ st, mayK k st = sts.contains st) :
    (∃ p, Jin y.jobs (ag a 0) sts p (jobsE y.t k now a) ∧ (jobsE y.t k now a = 4 ∨ jobsE y.t k now a = 9)) ∨ ∃ (n : Nat) (z : Jv), Jin y.jobs (ag a 0) sts (n : Int) 0 ∧ findI (ts y.jobs) (ag a 0) = (n : Int) ∧ y.jobs[n]? = some z ∧ mayK k z.t.state = true ∧ atJ y.t a = z.t ∧ jobsE y.t k now a = jobE y.t k now a z.t := by
  by_cases hf : findI (ts y.jobs) (ag a 0) < 0
  · have e : jobsE y.t k now a = 4 := by unfold jobsE; rw [if_pos (show findI y.t.jobs (ag a 0) < 0 from hf)]
    exact .inl ⟨-1, .inl ⟨hf, rfl, e⟩, .inl e⟩
  · obtain ⟨n, j, h1, h2, -⟩ := find_at hf
    have h2' : (y.jobs.map (·.t))[n]? = some j := h2
    rw [List.getElem?_map] at h2'
    obtain ⟨z, hz, rfl⟩ := Option.map_eq_some_iff.1 h2'
    have hat : atJ y.t a = z.t := atJ_of h1 h2
    by_cases hk : mayK k z.t.state = true
    · have hs : sts.contains z.t.state = true := by rw [← hm]; exact hk
      exact .inr ⟨n, z, .inr ⟨n, z, h1, hz, .inl ⟨hs, rfl, rfl⟩⟩, h1, hz, hk, hat, by unfold jobsE; rw [if_neg (show ¬ findI y.t.jobs (ag a 0) < 0 from hf), hat, if_pos hk]⟩
    · have hs : sts.contains z.t.state = false := by rw [← hm]; simpa using hk
      have e : jobsE y.t k now a = 9 := by unfold jobsE; rw [if_neg (show ¬ findI y.t.jobs (ag a 0) < 0 from hf), hat, if_neg hk]
      exact .inl ⟨-1, .inr ⟨n, z, h1, hz, .inr ⟨hs, rfl, e⟩⟩, .inr e⟩
theorem jobsS_at {y : Sv} {k now : Int} {a : List Int} {n : Nat} {z : Jv} (hk : k ≠ 10) (h1 : findI (ts y.jobs) (ag a 0) = (n : Int)) (h2 : atJ y.t a = z.t) : jobsS y.t k now a = { y.t with jobs := y.t.jobs.set n (jobJ y.t k now a z.t) } := by
  unfold jobsS
  rw [if_neg hk, h2, show findI y.t.jobs (ag a 0) = (n : Int) from h1, Int.toNat_natCast]
def TurnP (W0 : World) (B : Nat) (y : Sv) (p E ts2 : Int) (e : Ending) (W' : World) : Prop :=
  ∃ y', e = .returned (.int .i64 E) ∧ (E = 0 → ∃ (k : Nat) (z : Jv), p = (k : Int) ∧ y.jobs[k]? = some z ∧ y'.t = { y.t with jobs := y.t.jobs.set k { z.t with state := ts2 } } ∧ Bo W' W0.heap.size B y') ∧ Below W0.heap.size W0 W'
set_option maxHeartbeats 8000000 in
theorem turn_any (y : Sv) (hc : Cal W0 W B y) (id fr ts2 p E : Int) (h : Jin y.jobs id [fr] p E) :
    Calls Tryz.prog 98 #[.pointer (some ⟨B, 0, none⟩), .int .i64 id, .int .i64 fr, .int .i64 ts2] W (TurnP W0 B y p E ts2) := by
  have hba := below_alloc W (.cells #[.int .i64 fr] 3)
  have hca := hc.keep hba
  have hS : IntsL (W.alloc (.cells #[.int .i64 fr] 3)) (some ⟨W.heap.size, 0, none⟩) 1 1 [fr] := lst_new Tre.encI_len W [fr] _ _ _ 1 rfl rfl rfl (by omega)
  have HJ := Lib.hid (jobIn_any (W.alloc (.cells #[.int .i64 fr] 3)) B y.j.a y.j.n y.j.c y.jobs (own_lst encJ_len hca.bo.o.j) (Arr.blk_cell hca.bo.b 6) id (some ⟨W.heap.size, 0, none⟩) 1 1 [fr] hS p E h)
  have HC := Lib.hid (And.intro hca h)
  clear hba hca hS hc h
  go_enter Tryz.func98, Tryz.ntmps98
  go_wp2_with fail
  refine HJ.out.mono ?_
  rintro e w3 ⟨rfl, hb3⟩
  have H3 := Lib.hid (HC.out.1.keep hb3)
  clear hb3
  have hcase : (E = 4 ∨ E = 9) ∨ (E = 0 ∧ ∃ (k : Nat) (z : Jv), y.jobs[k]? = some z ∧ p = (k : Int)) := by
    rcases HC.out.2 with ⟨_, _, h⟩ | ⟨k, z, _, hz, ⟨_, h1, h2⟩ | ⟨_, _, h2⟩⟩
    · exact .inl (.inl h)
    · exact .inr ⟨h2, k, z, hz, h1⟩
    · exact .inl (.inr h2)
  rcases hcase with (rfl | rfl) | ⟨rfl, k, z, hz, rfl⟩
  · go_wp2_with fail
    go_ret
    exact ⟨y, rfl, (fun h => absurd h (by decide)), H3.out.below⟩
  · go_wp2_with fail
    go_ret
    exact ⟨y, rfl, (fun h => absurd h (by decide)), H3.out.below⟩
  · have hkl := (List.getElem?_eq_some_iff.1 hz).1
    obtain ⟨g, cap, hj, hge⟩ := H3.out.bo.at_j (by omega)
    obtain ⟨n, hn⟩ : ∃ n, n = y.jobs.length := ⟨_, rfl⟩
    rw [← hn] at hj hkl
    obtain ⟨q1, q2, hbo, hbl⟩ := H3.out.bo.setJ hj hz (i := 7) (by omega) (fun a => { a with t := { a.t with state := ts2 } }) (.int .i64 ts2) (fun a => rfl) (H3.out.bo.o.d z (List.mem_of_getElem? hz))
    have p6 : w3.cell? ⟨B, 6, none⟩ = some (.slice (some ⟨g, 0, none⟩) n cap) := by
      rw [Arr.blk_cell H3.out.bo.b 6]
      show some (Value.slice y.j.a y.j.n y.j.c) = _
      rw [hj]
    have c7 : w3.cell? ⟨g, k * 12 + 7, none⟩ = some (.int .i64 z.t.state) := q1
    have HR := Lib.hid (And.intro hbo (And.intro (H3.out.below.trans hbl) hz))
    clear hn hj q1 hbo hbl hz hge
    go_wp2_with fail
    go_ret
    exact ⟨_, rfl, (fun _ => ⟨k, z, rfl, HR.out.2.2, set_t, HR.out.1⟩), HR.out.2.1⟩
set_option maxHeartbeats 4000000 in
theorem hold_any (y : Sv) (hc : Cal W0 W B y) (sq tm kd : Int) (ky nm : ByteArray) (aa ga : Option Addr) (cp gn gc : Nat) (now p0 : Int) (hA : IntsL W aa 1 cp [p0]) :
    Calls Tryz.prog 71 #[.pointer (some ⟨B, 0, none⟩), .agg #[.int .i64 sq, .int .i64 tm, .int .i64 kd, .string ky, .string nm, .slice aa 1 cp, .slice ga gn gc]] W (ErrP W0 B (jobsE y.t 8 now [p0]) (jobsS y.t 8 now [p0])) := by
  obtain ⟨ba, oa, rfl⟩ := lst_at hA (by omega)
  obtain ⟨E, hE⟩ : ∃ E, E = jobsE y.t 8 now [p0] := ⟨_, rfl⟩
  obtain ⟨S, hS⟩ : ∃ S, S = jobsS y.t 8 now [p0] := ⟨_, rfl⟩
  rw [← hE, ← hS]
  have hj := jobs_cases y 8 now [p0] [1] (fun st => by show decide (st = 1) = _; by_cases h : st = 1 <;> simp [h])
  rw [← hE] at hj
  have hj2 : ∃ p, Jin y.jobs p0 [1] p E ∧ (E = 0 → ∀ (n : Nat) (z : Jv), p = (n : Int) → y.jobs[n]? = some z → S = { y.t with jobs := y.t.jobs.set n { z.t with state := 2 } }) := by
    rcases hj with ⟨p, h1, h2⟩ | ⟨n, z, h1, h2, h3, h4, h5, h6⟩
    · exact ⟨p, h1, fun h => by omega⟩
    · have h60 : E = 0 := h6
      refine ⟨n, by rw [h60]; exact h1, fun _ n' z' e1 e2 => ?_⟩
      have e3 : n' = n := by omega
      subst e3
      rw [h3] at e2
      injection e2 with e2
      subst e2
      rw [hS, jobsS_at (by decide) h2 h5]
      rfl
  obtain ⟨p, hp1, hp2⟩ := hj2
  have HP := Lib.hid hp2
  have hba := below_alloc W (.cells #[.int .i64 sq, .int .i64 tm, .int .i64 kd, .string ky, .string nm, .slice (some ⟨ba, oa, none⟩) 1 cp, .slice ga gn gc] 34)
  have htb := tx_box W sq tm kd ky nm (some ⟨ba, oa, none⟩) ga 1 cp gn gc
  obtain ⟨wa, hwa⟩ : ∃ z, z = W.alloc (.cells #[.int .i64 sq, .int .i64 tm, .int .i64 kd, .string ky, .string nm, .slice (some ⟨ba, oa, none⟩) 1 cp, .slice ga gn gc] 34) := ⟨_, rfl⟩
  rw [← hwa] at htb hba
  have HWa := Lib.hid hwa
  have hA2 := lst_keep Tre.encI_len hA hba
  have k5 : wa.cell? ⟨W.heap.size, 5, none⟩ = some (.slice (some ⟨ba, oa, none⟩) 1 cp) := Arr.blk_cell htb 5
  have hca := hc.keep hba
  have HBo := Lib.hid hca
  have hgeW := Lib.hid hca.below.size
  have q0 : wa.cell? ⟨ba, oa, none⟩ = some (.int .i64 p0) := Tre.int_cell hA2 (k := 0) (by simp)
  have HT := Lib.hid (turn_any y hca p0 1 2 p E hp1)
  clear hj hE hS hp1 hp2 hA hA2 hca htb hba hwa hc
  go_enter Tryz.func71, Tryz.ntmps71
  go_upto_region 1 with fail
  rw [← HWa.out]
  go_wp2_with fail
  refine HT.out.mono ?_
  rintro e w3 ⟨y', rfl, h1, h2⟩
  have H3 := Lib.hid (And.intro h1 h2)
  clear h1 h2
  go_wp2_with fail
  go_ret
  refine ⟨y', rfl, fun h => ?_, H3.out.2⟩
  obtain ⟨n, z, e1, e2, e3, e4⟩ := H3.out.1 h
  exact ⟨by rw [HP.out h n z e1 e2]; exact e3, e4⟩
set_option maxHeartbeats 4000000 in
theorem free_any (y : Sv) (hc : Cal W0 W B y) (sq tm kd : Int) (ky nm : ByteArray) (aa ga : Option Addr) (cp gn gc : Nat) (now p0 : Int) (hA : IntsL W aa 1 cp [p0]) :
    Calls Tryz.prog 72 #[.pointer (some ⟨B, 0, none⟩), .agg #[.int .i64 sq, .int .i64 tm, .int .i64 kd, .string ky, .string nm, .slice aa 1 cp, .slice ga gn gc]] W (ErrP W0 B (jobsE y.t 9 now [p0]) (jobsS y.t 9 now [p0])) := by
  obtain ⟨ba, oa, rfl⟩ := lst_at hA (by omega)
  obtain ⟨E, hE⟩ : ∃ E, E = jobsE y.t 9 now [p0] := ⟨_, rfl⟩
  obtain ⟨S, hS⟩ : ∃ S, S = jobsS y.t 9 now [p0] := ⟨_, rfl⟩
  rw [← hE, ← hS]
  have hj := jobs_cases y 9 now [p0] [2] (fun st => by show decide (st = 2) = _; by_cases h : st = 2 <;> simp [h])
  rw [← hE] at hj
  have hj2 : ∃ p, Jin y.jobs p0 [2] p E ∧ (E = 0 → ∀ (n : Nat) (z : Jv), p = (n : Int) → y.jobs[n]? = some z → S = { y.t with jobs := y.t.jobs.set n { z.t with state := 1 } }) := by
    rcases hj with ⟨p, h1, h2⟩ | ⟨n, z, h1, h2, h3, h4, h5, h6⟩
    · exact ⟨p, h1, fun h => by omega⟩
    · have h60 : E = 0 := h6
      refine ⟨n, by rw [h60]; exact h1, fun _ n' z' e1 e2 => ?_⟩
      have e3 : n' = n := by omega
      subst e3
      rw [h3] at e2
      injection e2 with e2
      subst e2
      rw [hS, jobsS_at (by decide) h2 h5]
      rfl
  obtain ⟨p, hp1, hp2⟩ := hj2
  have HP := Lib.hid hp2
  have hba := below_alloc W (.cells #[.int .i64 sq, .int .i64 tm, .int .i64 kd, .string ky, .string nm, .slice (some ⟨ba, oa, none⟩) 1 cp, .slice ga gn gc] 34)
  have htb := tx_box W sq tm kd ky nm (some ⟨ba, oa, none⟩) ga 1 cp gn gc
  obtain ⟨wa, hwa⟩ : ∃ z, z = W.alloc (.cells #[.int .i64 sq, .int .i64 tm, .int .i64 kd, .string ky, .string nm, .slice (some ⟨ba, oa, none⟩) 1 cp, .slice ga gn gc] 34) := ⟨_, rfl⟩
  rw [← hwa] at htb hba
  have HWa := Lib.hid hwa
  have hA2 := lst_keep Tre.encI_len hA hba
  have k5 : wa.cell? ⟨W.heap.size, 5, none⟩ = some (.slice (some ⟨ba, oa, none⟩) 1 cp) := Arr.blk_cell htb 5
  have hca := hc.keep hba
  have HBo := Lib.hid hca
  have hgeW := Lib.hid hca.below.size
  have q0 : wa.cell? ⟨ba, oa, none⟩ = some (.int .i64 p0) := Tre.int_cell hA2 (k := 0) (by simp)
  have HT := Lib.hid (turn_any y hca p0 2 1 p E hp1)
  clear hj hE hS hp1 hp2 hA hA2 hca htb hba hwa hc
  go_enter Tryz.func72, Tryz.ntmps72
  go_upto_region 1 with fail
  rw [← HWa.out]
  go_wp2_with fail
  refine HT.out.mono ?_
  rintro e w3 ⟨y', rfl, h1, h2⟩
  have H3 := Lib.hid (And.intro h1 h2)
  clear h1 h2
  go_wp2_with fail
  go_ret
  refine ⟨y', rfl, fun h => ?_, H3.out.2⟩
  obtain ⟨n, z, e1, e2, e3, e4⟩ := H3.out.1 h
  exact ⟨by rw [HP.out h n z e1 e2]; exact e3, e4⟩
end Go.Proofs.YtjcndgopijpibaaGreat.Bok
/- Book, the landed: four fields of a job written, the last one its draws. -/
namespace Go.Proofs.YtjcndgopijpibaaGreat.Bok
set_option maxRecDepth 100000
open Go.RowKit
open Go.Sort
open Kit
open Foot
open Tre (Lst inI lst_keep lst_at lst_new lst_none encF encF_len encL_len IntsL goodB)
open Led (Lg encG encG_len)
open Job (Jb Jv Jobs encJ encJ_len encJ_one findI)
open Drw (Dw Draws encD encD_len encD_one)
open Go.Proofs.YtjcndgopijpibaaGreat.Ord (ts)
open Snp (Sn Sv encK encK_len encK_one)
set_option linter.unusedVariables false
variable {w w' W0 W : World} {B : Nat}
def withD (x : Jv) (a : Option Addr) (n c : Nat) (d : List Dw) : Jv := ⟨{ x.t with draws := d }, a, n, c⟩
def Same (f : Jv → Jv) : Prop := ∀ x, (f x).a = x.a ∧ (f x).n = x.n ∧ (f x).c = x.c ∧ (f x).t.draws = x.t.draws
theorem same_own {base : Nat} {f : Jv → Jv} {z : Jv} (hs : Same f) (h : Owns encD 2 63 w base (.slice z.a z.n z.c) z.t.draws) : Owns encD 2 63 w base (.slice (f z).a (f z).n (f z).c) (f z).t.draws := by
  obtain ⟨e1, e2, e3, e4⟩ := hs z
  rw [e1, e2, e3, e4]; exact h
theorem Bo.four {base g n cap k i1 i2 i3 : Nat} {y : Sv} {z : Jv} (h : Bo w base B y) (hj : y.j = ⟨some ⟨g, 0, none⟩, n, cap⟩) (hz : y.jobs[k]? = some z) (h1 : i1 < 12) (h2 : i2 < 12) (h3 : i3 < 12) (f1 f2 f3 : Jv → Jv) (u1 u2 u3 : Value)
    (e1 : ∀ a, encJ (f1 a) = (encJ a).set i1 u1) (e2 : ∀ a, encJ (f2 a) = (encJ a).set i2 u2) (e3 : ∀ a, encJ (f3 a) = (encJ a).set i3 u3) (s1 : Same f1) (s2 : Same f2) (s3 : Same f3) (da : Option Addr) (dn dc : Nat) (d : List Dw) (hd : Owns encD 2 63 w base (.slice da dn dc) d) :
    (w.cell? ⟨g, k * 12 + i1, none⟩ = (encJ z)[i1]? ∧ w.frozen? ⟨g, k * 12 + i1, none⟩ = false) ∧
    ((w.setCell ⟨g, k * 12 + i1, none⟩ u1).cell? ⟨g, k * 12 + i2, none⟩ = (encJ (f1 z))[i2]? ∧ (w.setCell ⟨g, k * 12 + i1, none⟩ u1).frozen? ⟨g, k * 12 + i2, none⟩ = false) ∧
    (((w.setCell ⟨g, k * 12 + i1, none⟩ u1).setCell ⟨g, k * 12 + i2, none⟩ u2).cell? ⟨g, k * 12 + i3, none⟩ = (encJ (f2 (f1 z)))[i3]? ∧ ((w.setCell ⟨g, k * 12 + i1, none⟩ u1).setCell ⟨g, k * 12 + i2, none⟩ u2).frozen? ⟨g, k * 12 + i3, none⟩ = false) ∧
    ((((w.setCell ⟨g, k * 12 + i1, none⟩ u1).setCell ⟨g, k * 12 + i2, none⟩ u2).setCell ⟨g, k * 12 + i3, none⟩ u3).cell? ⟨g, k * 12 + 11, none⟩ = some (.slice z.a z.n z.c) ∧ (((w.setCell ⟨g, k * 12 + i1, none⟩ u1).setCell ⟨g, k * 12 + i2, none⟩ u2).setCell ⟨g, k * 12 + i3, none⟩ u3).frozen? ⟨g, k * 12 + 11, none⟩ = false) ∧
    Bo ((((w.setCell ⟨g, k * 12 + i1, none⟩ u1).setCell ⟨g, k * 12 + i2, none⟩ u2).setCell ⟨g, k * 12 + i3, none⟩ u3).setCell ⟨g, k * 12 + 11, none⟩ (.slice da dn dc)) base B { y with jobs := y.jobs.set k (withD (f3 (f2 (f1 z))) da dn dc d) } ∧
    Below base w ((((w.setCell ⟨g, k * 12 + i1, none⟩ u1).setCell ⟨g, k * 12 + i2, none⟩ u2).setCell ⟨g, k * 12 + i3, none⟩ u3).setCell ⟨g, k * 12 + 11, none⟩ (.slice da dn dc)) := by
  have hkl := (List.getElem?_eq_some_iff.1 hz).1
  have hown : Owns encJ 12 58 w base (.slice (some ⟨g, 0, none⟩) n cap) y.jobs := by
    have := h.o.j
    rw [hj] at this
    exact this
  obtain ⟨cur, hcur⟩ := own_type hown (g := g) rfl
  have hT : Typed (fun q => q = g) w 63 := typed_one hcur (by decide)
  have hC : Chg (fun q => q = g) w (((w.setCell ⟨g, k * 12 + i1, none⟩ u1).setCell ⟨g, k * 12 + i2, none⟩ u2).setCell ⟨g, k * 12 + i3, none⟩ u3) := chg_set (F := fun q => q = g) (chg_set (F := fun q => q = g) (set_chg w g (k * 12 + i1) u1) (.inl rfl) _ _) (.inl rfl) _ _
  have hd3 := own_typed hd hC hT
  obtain ⟨a1, a2, b1, l1⟩ := h.setJ hj hz h1 f1 u1 e1 (same_own s1 (h.o.d z (List.mem_of_getElem? hz)))
  have hz1 : (y.jobs.set k (f1 z))[k]? = some (f1 z) := List.getElem?_set_self hkl
  obtain ⟨c1, c2, b2, l2⟩ := b1.setJ hj hz1 h2 f2 u2 e2 (same_own s2 (b1.o.d (f1 z) (List.mem_of_getElem? hz1)))
  have hz2 : ((y.jobs.set k (f1 z)).set k (f2 (f1 z)))[k]? = some (f2 (f1 z)) := List.getElem?_set_self (by rw [List.length_set]; exact hkl)
  obtain ⟨d1, d2, b3, l3⟩ := b2.setJ hj hz2 h3 f3 u3 e3 (same_own s3 (b2.o.d (f2 (f1 z)) (List.mem_of_getElem? hz2)))
  have hz3 : (((y.jobs.set k (f1 z)).set k (f2 (f1 z))).set k (f3 (f2 (f1 z))))[k]? = some (f3 (f2 (f1 z))) := List.getElem?_set_self (by rw [List.length_set, List.length_set]; exact hkl)
  obtain ⟨g1, g2, b4, l4⟩ := b3.setJ hj hz3 (i := 11) (by omega) (fun a => withD a da dn dc d) (.slice da dn dc) (fun a => rfl) hd3
  rw [List.set_set, List.set_set, List.set_set] at b4
  have hs : (f3 (f2 (f1 z))).a = z.a ∧ (f3 (f2 (f1 z))).n = z.n ∧ (f3 (f2 (f1 z))).c = z.c := ⟨by rw [(s3 _).1, (s2 _).1, (s1 _).1], by rw [(s3 _).2.1, (s2 _).2.1, (s1 _).2.1], by rw [(s3 _).2.2.1, (s2 _).2.2.1, (s1 _).2.2.1]⟩
  refine ⟨⟨a1, a2⟩, ⟨c1, c2⟩, ⟨d1, d2⟩, ⟨?_, g2⟩, b4, ((l1.trans l2).trans l3).trans l4⟩
  rw [g1]
  show some (Value.slice (f3 (f2 (f1 z))).a (f3 (f2 (f1 z))).n (f3 (f2 (f1 z))).c) = _
  rw [hs.1, hs.2.1, hs.2.2]
theorem Bo.far4 {α : Type} {enc : α → List Value} {size : Nat} {T : TypeId} {base b g n cap i1 i2 i3 i4 : Nat} {y : Sv} {v : Value} {l : List α} (h : Bo w base B y) (hj : y.j = ⟨some ⟨g, 0, none⟩, n, cap⟩) (hne : 58 ≠ T) (ho : Owns enc size T w b v l) (u1 u2 u3 u4 : Value) :
    Owns enc size T ((((w.setCell ⟨g, i1, none⟩ u1).setCell ⟨g, i2, none⟩ u2).setCell ⟨g, i3, none⟩ u3).setCell ⟨g, i4, none⟩ u4) b v l := by
  have hown : Owns encJ 12 58 w base (.slice (some ⟨g, 0, none⟩) n cap) y.jobs := by
    have := h.o.j
    rw [hj] at this
    exact this
  obtain ⟨cur, hcur⟩ := own_type hown (g := g) rfl
  have hC : Chg (fun q => q = g) w ((((w.setCell ⟨g, i1, none⟩ u1).setCell ⟨g, i2, none⟩ u2).setCell ⟨g, i3, none⟩ u3).setCell ⟨g, i4, none⟩ u4) := chg_set (F := fun q => q = g) (chg_set (F := fun q => q = g) (chg_set (F := fun q => q = g) (set_chg w g i1 u1) (.inl rfl) _ _) (.inl rfl) _ _) (.inl rfl) _ _
  exact own_typed ho hC (typed_one hcur hne)
theorem at_zero {g k i : Nat} {l : List Jv} {nn cap : Nat} {z : Jv} {u : Value} (h : Jobs w (some ⟨g, 0, none⟩) nn cap l) (hz : l[k]? = some z) (hi : i < 12) (hu : (encJ z)[i]? = some u) : w.cell? ⟨g, k * 12 + i, none⟩ = some u := by
  have := Job.job_cell h (List.getElem?_eq_some_iff.1 hz).1 i hi
  rw [(List.getElem?_eq_some_iff.1 hz).2, hu, Nat.zero_add] at this
  exact this
end Go.Proofs.YtjcndgopijpibaaGreat.Bok
