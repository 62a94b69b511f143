/- Common to the claims of this seat, part 2: texts that were written one by one, laid behind one another. -/
import Derived.Test.YtjcndgopijpibaaGreatPart1
/- Jobs in memory; an argument's list opened. -/
namespace Go.Proofs.YtjcndgopijpibaaGreat.Job
set_option maxRecDepth 100000
open Go.RowKit
open Go.Sort
open Kit
open Tre (Lst inI lst_keep lst_take lst_at lst_new lst_none i64_wf cells_int)
open Drw (Dw encD encD_len Draws opens_draws draws_arg)
set_option linter.unusedVariables false
variable {w w' : World}
structure Jb where
  id : Int
  fund : Int
  nodes : Int
  wall : Int
  qos : Int
  prio : Int
  price : Int
  state : Int
  start : Int
  mask : Int
  used : Int
  draws : List Dw
def Jb.ok (t : Jb) : Prop := inI t.id ∧ inI t.fund ∧ inI t.nodes ∧ inI t.wall ∧ inI t.qos ∧ inI t.prio ∧ inI t.price ∧ inI t.state ∧ inI t.start ∧ inI t.mask ∧ inI t.used ∧ ∀ d ∈ t.draws, d.ok
structure Jv where
  t : Jb
  a : Option Addr
  n : Nat
  c : Nat
def encJ (x : Jv) : List Value := [.int .i64 x.t.id, .int .i64 x.t.fund, .int .i64 x.t.nodes, .int .i64 x.t.wall, .int .i64 x.t.qos, .int .i64 x.t.prio, .int .i64 x.t.price, .int .i64 x.t.state, .int .i64 x.t.start, .int .i64 x.t.mask, .int .i64 x.t.used, .slice x.a x.n x.c]
abbrev valJ (x : Jv) : Value := .agg #[.int .i64 x.t.id, .int .i64 x.t.fund, .int .i64 x.t.nodes, .int .i64 x.t.wall, .int .i64 x.t.qos, .int .i64 x.t.prio, .int .i64 x.t.price, .int .i64 x.t.state, .int .i64 x.t.start, .int .i64 x.t.mask, .int .i64 x.t.used, .slice x.a x.n x.c]
theorem encJ_len (x : Jv) : (encJ x).length = 12 := rfl
theorem encJ_one (x : Jv) : ∀ u ∈ encJ x, u.oneCell' = true := by
  intro u hu
  simp [encJ] at hu
  rcases hu with rfl | rfl | rfl | rfl | rfl | rfl | rfl | rfl | rfl | rfl | rfl | rfl <;> rfl
def Jv.In (x : Jv) (w : World) : Prop := Draws w x.a x.n x.c x.t.draws
theorem job_keep {x : Jv} (h : x.In w) (hb : Below w.heap.size w w') : x.In w' := lst_keep encD_len h hb
def RJb (w : World) (cs : List Value) (x : Jv) : Prop := cs = encJ x ∧ x.In w ∧ x.t.ok
abbrev Jobs := Lst encJ 12
theorem job_cell {b o n c k : Nat} {l : List Jv} (h : Jobs w (some ⟨b, o, none⟩) n c l) (hk : k < l.length) (i : Nat) (hi : i < 12) : w.cell? ⟨b, o + k * 12 + i, none⟩ = (encJ l[k])[i]? := by
  have := row_cell h.row hk rfl (i := i) hi
  exact this
theorem cells_job : Tryz.prog.cellsOf 58 = 12 := by kernel_rfl
theorem cells_draws : Tryz.prog.cellsOf 56 = 1 := by kernel_rfl
theorem opens_job : Opn.Opens Tryz.prog w 58 (RJb w) := by
  refine Opn.opens_struct Tryz.underlying58 fun cs hlen hf => ?_
  rw [cells_job] at hlen
  match cs, hlen with
  | [d0, d1, d2, d3, d4, d5, d6, d7, d8, d9, d10, d11], _ =>
    obtain ⟨k0, h0, w0⟩ := hf 0 _ rfl _ _ (Opn.opens_int Tryz.underlying3)
    obtain ⟨k1, h1, w1⟩ := hf 1 _ rfl _ _ (Opn.opens_int Tryz.underlying3)
    obtain ⟨k2, h2, w2⟩ := hf 2 _ rfl _ _ (Opn.opens_int Tryz.underlying3)
    obtain ⟨k3, h3, w3⟩ := hf 3 _ rfl _ _ (Opn.opens_int Tryz.underlying3)
    obtain ⟨k4, h4, w4⟩ := hf 4 _ rfl _ _ (Opn.opens_int Tryz.underlying3)
    obtain ⟨k5, h5, w5⟩ := hf 5 _ rfl _ _ (Opn.opens_int Tryz.underlying3)
    obtain ⟨k6, h6, w6⟩ := hf 6 _ rfl _ _ (Opn.opens_int Tryz.underlying3)
    obtain ⟨k7, h7, w7⟩ := hf 7 _ rfl _ _ (Opn.opens_int Tryz.underlying3)
    obtain ⟨k8, h8, w8⟩ := hf 8 _ rfl _ _ (Opn.opens_int Tryz.underlying3)
    obtain ⟨k9, h9, w9⟩ := hf 9 _ rfl _ _ (Opn.opens_int Tryz.underlying3)
    obtain ⟨k10, h10, w10⟩ := hf 10 _ rfl _ _ (Opn.opens_int Tryz.underlying3)
    obtain ⟨k11, h11⟩ := hf 11 _ rfl _ _ opens_draws
    simp [cells_int, cells_draws] at h0 h1 h2 h3 h4 h5 h6 h7 h8 h9 h10 h11
    obtain ⟨a5, n5, c5, e5, -⟩ := id h11
    injection e5 with e5
    subst h0 h1 h2 h3 h4 h5 h6 h7 h8 h9 h10 e5
    obtain ⟨g5, o5⟩ := draws_arg h11
    exact ⟨⟨⟨k0, k1, k2, k3, k4, k5, k6, k7, k8, k9, k10, k11⟩, a5, n5, c5⟩, rfl, g5, i64_wf w0, i64_wf w1, i64_wf w2, i64_wf w3, i64_wf w4, i64_wf w5, i64_wf w6, i64_wf w7, i64_wf w8, i64_wf w9, i64_wf w10, o5⟩
theorem opens_jobs : Opn.Opens Tryz.prog w 26 (Opn.RSlice (RJb w) 12 w) := Opn.opens_slice Tryz.underlying26 cells_job (by omega) opens_job
theorem jobs_arg {a : Option Addr} {len cap : Nat} {l : List Jv} (h : Opn.RSlice (RJb w) 12 w [.slice a len cap] l) : Jobs w a len cap l ∧ (∀ x ∈ l, x.In w) ∧ ∀ x ∈ l, x.t.ok := by
  obtain ⟨a', len', cap', he, hl, hc, hm, hn, hcs⟩ := h
  simp at he
  obtain ⟨rfl, rfl, rfl⟩ := he
  exact ⟨⟨hl, hc, hm, hn, Kit.row_of_cells (fun _ _ h => h.1) hcs⟩, Kit.all_of_cells (fun _ _ h => h.2.1) hcs, Kit.all_of_cells (fun _ _ h => h.2.2) hcs⟩
end Go.Proofs.YtjcndgopijpibaaGreat.Job
/- Snap: a state's plain data. -/
namespace Go.Proofs.YtjcndgopijpibaaGreat.Snp
open Tre (inI Al)
open Rte (Rt)
open Drw (Dw)
open Job (Jb)
set_option linter.unusedVariables false
structure Sn where
  seq : Int
  world : Int
  next : Int
  funds : List Tre.Fd
  allocs : List Al
  rates : List Rt
  jobs : List Jb
  keys : List ByteArray
def Sn.ok (s : Sn) : Prop := inI s.seq ∧ inI s.world ∧ inI s.next ∧ (∀ x ∈ s.funds, x.ok) ∧ (∀ x ∈ s.allocs, x.ok) ∧ (∀ x ∈ s.rates, x.ok) ∧ (∀ x ∈ s.jobs, x.ok) ∧ ∀ x ∈ s.keys, x.size ≤ maxLen
def zeroS : Sn := ⟨0, 0, 0, [], [], [], [], []⟩
end Go.Proofs.YtjcndgopijpibaaGreat.Snp
/- Legs in memory; an argument's list opened. -/
namespace Go.Proofs.YtjcndgopijpibaaGreat.Led
set_option maxRecDepth 100000
open Go.RowKit
open Go.Sort
open Kit
open Tre
set_option linter.unusedVariables false
variable {w w' : World}
structure Lg where
  acct : Int
  amt : Int
def encG (g : Lg) : List Value := [.int .i64 g.acct, .int .i64 g.amt]
theorem encG_len (g : Lg) : (encG g).length = 2 := rfl
theorem encG_one (x : Lg) : ∀ u ∈ encG x, u.oneCell' = true := by
  intro u hu
  simp [encG] at hu
  rcases hu with rfl | rfl <;> rfl
def Lg.ok (g : Lg) : Prop := inI g.acct ∧ inI g.amt
abbrev Legs := Lst encG 2
theorem leg_cells {b o n c k : Nat} {l : List Lg} (h : Legs w (some ⟨b, o, none⟩) n c l) (hk : k < l.length) :
    w.cell? ⟨b, o + k * 2, none⟩ = some (.int .i64 l[k].acct) ∧ w.cell? ⟨b, o + k * 2 + 1, none⟩ = some (.int .i64 l[k].amt) :=
  ⟨row_cell h.row hk rfl (i := 0) (by omega), row_cell h.row hk rfl (i := 1) (by omega)⟩
def RLg (cs : List Value) (x : Lg) : Prop := cs = encG x ∧ x.ok
theorem cells_leg : Tryz.prog.cellsOf 49 = 2 := by kernel_rfl
theorem opens_leg : Opn.Opens Tryz.prog w 49 RLg := by
  refine Opn.opens_struct Tryz.underlying49 fun cs hlen hf => ?_
  rw [cells_leg] at hlen
  match cs, hlen with
  | [c0, c1], _ =>
    obtain ⟨k0, h0, w0⟩ := hf 0 _ rfl _ _ (Opn.opens_int Tryz.underlying3)
    obtain ⟨k1, h1, w1⟩ := hf 1 _ rfl _ _ (Opn.opens_int Tryz.underlying3)
    simp [cells_int] at h0 h1
    subst h0 h1
    exact ⟨⟨k0, k1⟩, rfl, i64_wf w0, i64_wf w1⟩
theorem opens_legs : Opn.Opens Tryz.prog w 32 (Opn.RSlice RLg 2 w) := Opn.opens_slice Tryz.underlying32 cells_leg (by omega) opens_leg
theorem legs_arg {a : Option Addr} {len cap : Nat} {l : List Lg} (h : Opn.RSlice RLg 2 w [.slice a len cap] l) : Legs w a len cap l ∧ ∀ x ∈ l, x.ok := by
  obtain ⟨a', len', cap', he, hl, hc, hm, hn, hcs⟩ := h
  simp at he
  obtain ⟨rfl, rfl, rfl⟩ := he
  exact ⟨⟨hl, hc, hm, hn, Kit.row_of_cells (fun _ _ h => h.1) hcs⟩, Kit.all_of_cells (fun _ _ h => h.2) hcs⟩
theorem info_leg : (Tryz.prog.info? 49).map (fun i => (i.zero, i.size, i.bytes)) = some (some (.agg #[.int .i64 0, .int .i64 0]), 2, 16) := by kernel_rfl
end Go.Proofs.YtjcndgopijpibaaGreat.Led
/- Entry: a transaction's plain data. -/
namespace Go.Proofs.YtjcndgopijpibaaGreat.Ent
open Tre (inI)
open Led (Lg)
set_option linter.unusedVariables false
structure Tx where
  seq : Int
  time : Int
  kind : Int
  key : ByteArray
  name : ByteArray
  args : List Int
  legs : List Lg
def Tx.ok (t : Tx) : Prop := inI t.seq ∧ inI t.time ∧ inI t.kind ∧ (∀ x ∈ t.args, inI x) ∧ ∀ g ∈ t.legs, inI g.acct ∧ inI g.amt
def zeroT : Tx := ⟨0, 0, 0, ⟨#[]⟩, ⟨#[]⟩, [], []⟩
end Go.Proofs.YtjcndgopijpibaaGreat.Ent
/- Money, plain: sums and products of whole numbers, cut off where one of them, or what has come together, lies outside -2^60 .. 2^60. Imports nothing of the program. -/
namespace Go.Proofs.YtjcndgopijpibaaGreat.Mon
def fitsB (n : Int) : Bool := decide (-1152921504606846976 ≤ n ∧ n ≤ 1152921504606846976)
theorem fitsB_iff {n : Int} : fitsB n = true ↔ (-1152921504606846976 ≤ n ∧ n ≤ 1152921504606846976) := by
  unfold fitsB; exact decide_eq_true_iff
theorem fitsB_no {n : Int} : fitsB n = false ↔ ¬ (-1152921504606846976 ≤ n ∧ n ≤ 1152921504606846976) := by
  unfold fitsB; exact decide_eq_false_iff_not
def foldF (f : Int → Int → Int) : Int → List Int → Option Int
  | s, [] => some s
  | s, x :: r => if fitsB x = true ∧ fitsB (f s x) = true then foldF f (f s x) r else none
def addF (l : List Int) : Option Int := foldF (fun a b => a + b) 0 l
def mulF (l : List Int) : Option Int := foldF (fun a b => a * b) 1 l
def outN (o : Option Int) : Int := o.getD 0
def outE (o : Option Int) : Int := if o.isSome then 0 else 2
def addN (l : List Int) : Int := outN (addF l)
def addE (l : List Int) : Int := outE (addF l)
def mulN (l : List Int) : Int := outN (mulF l)
def mulE (l : List Int) : Int := outE (mulF l)
def Rest (f : Int → Int → Int) (t : Option Int) (l : List Int) (s : Int) (k : Nat) : Prop := foldF f s (l.drop k) = t
theorem drop_at {l : List Int} {k : Nat} (h : k < l.length) : l.drop k = l.getD k 0 :: l.drop (k + 1) := by
  rw [List.drop_eq_getElem_cons h]
  simp [List.getD, List.getElem?_eq_getElem h]
theorem rest_step {f : Int → Int → Int} {t : Option Int} {l : List Int} {s : Int} {k : Nat} (h : Rest f t l s k) (hk : k < l.length) (h1 : fitsB (l.getD k 0) = true) (h2 : fitsB (f s (l.getD k 0)) = true) :
    Rest f t l (f s (l.getD k 0)) (k + 1) := by
  unfold Rest at h ⊢
  rw [drop_at hk, foldF, if_pos ⟨h1, h2⟩] at h
  exact h
theorem rest_no1 {f : Int → Int → Int} {t : Option Int} {l : List Int} {s : Int} {k : Nat} (h : Rest f t l s k) (hk : k < l.length) (h1 : fitsB (l.getD k 0) = false) : t = none := by
  unfold Rest at h
  rw [drop_at hk, foldF, if_neg (by simp only [h1]; simp)] at h
  exact h.symm
theorem rest_no2 {f : Int → Int → Int} {t : Option Int} {l : List Int} {s : Int} {k : Nat} (h : Rest f t l s k) (hk : k < l.length) (h2 : fitsB (f s (l.getD k 0)) = false) : t = none := by
  unfold Rest at h
  rw [drop_at hk, foldF, if_neg (by simp only [h2]; simp)] at h
  exact h.symm
theorem rest_end {f : Int → Int → Int} {t : Option Int} {l : List Int} {s : Int} {k : Nat} (h : Rest f t l s k) (hk : l.length ≤ k) : t = some s := by
  unfold Rest at h
  rw [List.drop_of_length_le hk, foldF] at h
  exact h.symm
theorem none_N {t : Option Int} (h : t = none) : outN t = 0 := by rw [h]; rfl
theorem none_E {t : Option Int} (h : t = none) : outE t = 2 := by rw [h]; rfl
theorem some_N {t : Option Int} {s : Int} (h : t = some s) : outN t = s := by rw [h]; rfl
theorem some_E {t : Option Int} {s : Int} (h : t = some s) : outE t = 0 := by rw [h]; rfl
def abs (n : Int) : Int := (n.natAbs : Int)
theorem abs_neg {n : Int} (h : n < 0) : abs n = -n := by unfold abs; omega
theorem abs_pos {n : Int} (h : ¬ n < 0) : abs n = n := by unfold abs; omega
theorem abs_ge (n : Int) : 0 ≤ abs n := by unfold abs; omega
theorem fitsB_abs (n : Int) : fitsB n = decide (abs n ≤ 1152921504606846976) := by
  unfold fitsB abs
  rw [Bool.eq_iff_iff]; simp only [decide_eq_true_iff]; omega
theorem abs_mul (a b : Int) : abs (a * b) = abs a * abs b := by
  unfold abs; rw [Int.natAbs_mul]; simp
theorem quot_iff (a b : Int) (hb : ¬ b = 0) : (abs a ≤ 1152921504606846976 / abs b) ↔ fitsB (a * b) = true := by
  rw [fitsB_abs, decide_eq_true_iff, abs_mul]
  have hp : 0 < abs b := by unfold abs; omega
  exact Int.le_ediv_iff_mul_le hp
theorem fits_zero (a : Int) : fitsB (a * 0) = true := by rw [Int.mul_zero]; decide
end Go.Proofs.YtjcndgopijpibaaGreat.Mon
/- Tree: funds and allocations as plain data: paths, which funds may be, what is used, which limit does not hold. -/
namespace Go.Proofs.YtjcndgopijpibaaGreat.Tre
open Mon
set_option linter.unusedVariables false
def up (l : List Fd) : Nat → Nat → List Nat
  | 0, _ => []
  | n + 1, f => match l[f]? with
    | none => []
    | some x => f :: (if 0 ≤ x.par ∧ x.par < (f : Int) then up l n x.par.toNat else [])
def pathN (l : List Fd) (f : Nat) : List Nat := up l (f + 1) f
def path (l : List Fd) (f : Int) : List Int := if 0 ≤ f then (pathN l f.toNat).map (fun (k : Nat) => (k : Int)) else []
theorem up_fuel (l : List Fd) : ∀ (n f : Nat), f < n → up l n f = pathN l f := by
  intro n
  induction n using Nat.strongRecOn with
  | _ n ih =>
    intro f hf
    obtain ⟨m, rfl⟩ : ∃ m, n = m + 1 := ⟨n - 1, by omega⟩
    unfold pathN
    simp only [up]
    cases hx : l[f]? with
    | none => rfl
    | some x =>
      simp only
      by_cases hp : 0 ≤ x.par ∧ x.par < (f : Int)
      · rw [if_pos hp, if_pos hp]
        have h1 : x.par.toNat < f := by omega
        congr 1
        rcases Nat.lt_or_ge f m with h | h
        · rw [ih m (by omega) _ (by omega), ih f (by omega) _ h1]
        · obtain rfl : m = f := by omega
          rfl
      · rw [if_neg hp, if_neg hp]
theorem pathN_none {l : List Fd} {f : Nat} (h : l.length ≤ f) : pathN l f = [] := by
  unfold pathN; simp only [up]; rw [List.getElem?_eq_none h]
theorem pathN_some {l : List Fd} {f : Nat} {x : Fd} (h : l[f]? = some x) : pathN l f = f :: (if 0 ≤ x.par ∧ x.par < (f : Int) then pathN l x.par.toNat else []) := by
  conv => lhs; unfold pathN
  simp only [up, h]
  by_cases hp : 0 ≤ x.par ∧ x.par < (f : Int)
  · rw [if_pos hp, if_pos hp, up_fuel l f _ (by omega)]
  · rw [if_neg hp, if_neg hp]
theorem path_neg {l : List Fd} {f : Int} (h : f < 0) : path l f = [] := by unfold path; rw [if_neg (by omega)]
theorem path_nat (l : List Fd) (f : Nat) : path l (f : Int) = (pathN l f).map (fun (k : Nat) => (k : Int)) := by unfold path; rw [if_pos (by omega), Int.toNat_natCast]
theorem path_far {l : List Fd} {f : Int} (h : f < 0 ∨ (l.length : Int) ≤ f) : path l f = [] := by
  rcases h with h | h
  · exact path_neg h
  · obtain ⟨n, rfl⟩ : ∃ n : Nat, f = n := ⟨f.toNat, by omega⟩
    rw [path_nat, pathN_none (by omega)]; rfl
theorem path_at {l : List Fd} {f : Nat} {x : Fd} (h : l[f]? = some x) : path l (f : Int) = (f : Int) :: (if x.par < (f : Int) then path l x.par else []) := by
  rw [path_nat, pathN_some h, List.map_cons]
  congr 1
  by_cases h1 : x.par < (f : Int)
  · rw [if_pos h1]
    by_cases h0 : 0 ≤ x.par
    · rw [if_pos ⟨h0, h1⟩]
      unfold path
      rw [if_pos h0]
    · rw [if_neg (fun h => h0 h.1), path_neg (by omega)]; rfl
  · rw [if_neg h1, if_neg (fun h => h1 h.2)]; rfl
theorem pathN_lt (l : List Fd) : ∀ (f k : Nat), k ∈ pathN l f → k ≤ f ∧ k < l.length := by
  intro f
  induction f using Nat.strongRecOn with
  | _ f ih =>
    intro k h
    cases hx : l[f]? with
    | none => rw [pathN_none (List.getElem?_eq_none_iff.1 hx)] at h; cases h
    | some x =>
      rw [pathN_some hx] at h
      rcases List.mem_cons.1 h with rfl | h
      · exact ⟨Nat.le_refl _, (List.getElem?_eq_some_iff.1 hx).1⟩
      · by_cases hp : 0 ≤ x.par ∧ x.par < (f : Int)
        · rw [if_pos hp] at h
          obtain ⟨h1, h2⟩ := ih _ (by omega) k h
          exact ⟨by omega, h2⟩
        · rw [if_neg hp] at h; cases h
def okAt (l : List Fd) (i : Nat) (x : Fd) : Bool :=
  decide (1 ≤ x.name.size) && decide (x.name.size ≤ 16) && decide (-1 ≤ x.par) && decide (x.par < (i : Int)) && decide (0 ≤ x.lim) && decide (x.lim ≤ 1152921504606846976) && (l.take i).all fun y => decide (y.name ≠ x.name)
def okTo (l : List Fd) (n : Nat) : Bool := (List.range n).all fun i => match l[i]? with | some x => okAt l i x | none => true
def goodB (l : List Fd) : Bool := decide (l.length ≤ 8) && okTo l l.length
theorem okTo_succ (l : List Fd) {n : Nat} {x : Fd} (h : l[n]? = some x) : okTo l (n + 1) = (okTo l n && okAt l n x) := by
  unfold okTo
  rw [List.range_succ, List.all_append]
  simp [h]
theorem okTo_at {l : List Fd} {n i : Nat} {x : Fd} (h : okTo l n = true) (hi : i < n) (hx : l[i]? = some x) : okAt l i x = true := by
  have := List.all_eq_true.1 h i (List.mem_range.2 hi)
  rw [hx] at this
  exact this
def amounts (l : List Fd) (al : List Al) (f : Int) : List Int := al.flatMap fun a => if (path l a.fund).contains f then [a.lien, a.spent] else []
def useN (l : List Fd) (al : List Al) (f : Int) : Int := if 0 ≤ f ∧ f < l.length then addN (amounts l al f) else 0
def useE (l : List Fd) (al : List Al) (f : Int) : Int := if 0 ≤ f ∧ f < l.length then addE (amounts l al f) else 4
def overAt (l : List Fd) (al : List Al) (i : Nat) (x : Fd) : Bool := decide (0 < x.lim) && (decide (useE l al i ≠ 0) || decide (x.lim < useN l al i))
def overFrom (l : List Fd) (al : List Al) : Nat → Nat → Int
  | 0, _ => -1
  | n + 1, i => match l[i]? with
    | some x => if overAt l al i x then (i : Int) else overFrom l al n (i + 1)
    | none => -1
def over (l : List Fd) (al : List Al) : Int := overFrom l al l.length 0
theorem amounts_snoc {l : List Fd} {al : List Al} {f : Int} {k : Nat} {a : Al} (h : al[k]? = some a) : amounts l (al.take (k + 1)) f = amounts l (al.take k) f ++ (if (path l a.fund).contains f then [a.lien, a.spent] else []) := by
  have hk := (List.getElem?_eq_some_iff.1 h).1
  have he : al[k] = a := (List.getElem?_eq_some_iff.1 h).2
  unfold amounts
  rw [List.take_succ_eq_append_getElem hk, List.flatMap_append, he]
  simp
theorem foldF_small : ∀ (l : List Int) (s : Int), (∀ x ∈ l, 0 ≤ x) → 0 ≤ s → s + l.sum ≤ 1152921504606846976 → foldF (fun a b => a + b) s l = some (s + l.sum)
  | [], s, _, _, _ => by simp [foldF]
  | x :: l, s, h, hs, hm => by
    have hx := h x (by simp)
    have hl : 0 ≤ l.sum := by
      clear hm
      induction l with
      | nil => simp
      | cons y l ih =>
        rw [List.sum_cons]
        have := h y (by simp)
        have := ih fun z hz => h z (by rcases List.mem_cons.1 hz with rfl | hz <;> simp [*])
        omega
    rw [List.sum_cons] at hm ⊢
    have h1 : fitsB x = true := by rw [fitsB_iff]; omega
    have h2 : fitsB (s + x) = true := by rw [fitsB_iff]; omega
    simp only [foldF, h1, h2]
    simp
    rw [foldF_small l (s + x) (fun z hz => h z (by simp [hz])) (by omega) (by omega)]
    congr 1
    omega
theorem add_small {l : List Int} (h : ∀ x ∈ l, 0 ≤ x) (hm : l.sum ≤ 1152921504606846976) : addN l = l.sum ∧ addE l = 0 := by
  have := foldF_small l 0 h (Int.le_refl _) (by omega)
  rw [Int.zero_add] at this
  exact ⟨some_N this, some_E this⟩
end Go.Proofs.YtjcndgopijpibaaGreat.Tre
/- Rate: rates as plain data: which may be, and what a class costs at a tick. -/
namespace Go.Proofs.YtjcndgopijpibaaGreat.Rte
set_option linter.unusedVariables false
def okR (r : Rt) : Bool := decide (0 ≤ r.qos) && decide (r.qos ≤ 7) && decide (0 ≤ r.from') && decide (r.from' ≤ 1099511627776) && decide (0 ≤ r.price) && decide (r.price ≤ 1099511627776)
def goodR (l : List Rt) : Bool := decide (l.length ≤ 16) && l.all okR
def fitR (q t : Int) (r : Rt) : Bool := decide (r.qos = q) && decide (r.from' ≤ t)
def beats (b : Option Rt) (r : Rt) : Bool := match b with | none => true | some b => decide (b.from' ≤ r.from')
def better (q t : Int) (b : Option Rt) (r : Rt) : Option Rt := if fitR q t r && beats b r then some r else b
def best (q t : Int) (l : List Rt) : Option Rt := l.foldl (better q t) none
theorem best_snoc (q t : Int) (l : List Rt) (r : Rt) : best q t (l ++ [r]) = better q t (best q t l) r := by
  unfold best
  rw [List.foldl_append]; rfl
end Go.Proofs.YtjcndgopijpibaaGreat.Rte
/- Ledger: accounts and legs as plain data: what is posted, and why not; that it comes to nothing; that it goes back. -/
namespace Go.Proofs.YtjcndgopijpibaaGreat.Led
open Mon
open Tre (Al)
set_option linter.unusedVariables false
def three (a : Al) : List Int := [a.avail, a.lien, a.spent]
def flatN (w : Int) (al : List Al) : List Int := w :: al.flatMap three
theorem flat_len (w : Int) : ∀ al : List Al, (flatN w al).length = 1 + 3 * al.length
  | [] => rfl
  | a :: al => by
    have ih := flat_len w al
    unfold flatN at ih ⊢
    simp only [List.length_cons, List.flatMap_cons, List.length_append, three, List.length_nil] at ih ⊢
    omega
theorem flat_snoc (w : Int) (al : List Al) (a : Al) : flatN w (al ++ [a]) = flatN w al ++ [a.avail] ++ [a.lien] ++ [a.spent] := by
  unfold flatN
  rw [List.flatMap_append]
  simp [three]
theorem flat_at0 (w : Int) (al : List Al) : (flatN w al)[0]? = some w := rfl
theorem flat_at : ∀ (al : List Al) (i : Nat) (a : Al) (w : Int), al[i]? = some a → (flatN w al)[1 + 3 * i]? = some a.avail ∧ (flatN w al)[2 + 3 * i]? = some a.lien ∧ (flatN w al)[3 + 3 * i]? = some a.spent
  | [], i, a, w, h => by simp at h
  | x :: al, 0, a, w, h => by
    simp at h; subst h
    exact ⟨rfl, rfl, rfl⟩
  | x :: al, i + 1, a, w, h => by
    rw [List.getElem?_cons_succ] at h
    obtain ⟨h1, h2, h3⟩ := flat_at al i a x.spent h
    have e : flatN w (x :: al) = w :: x.avail :: x.lien :: flatN x.spent al := rfl
    rw [e]
    refine ⟨?_, ?_, ?_⟩
    · rw [show 1 + 3 * (i + 1) = (1 + 3 * i) + 1 + 1 + 1 by omega]; simpa using h1
    · rw [show 2 + 3 * (i + 1) = (2 + 3 * i) + 1 + 1 + 1 by omega]; simpa using h2
    · rw [show 3 + 3 * (i + 1) = (3 + 3 * i) + 1 + 1 + 1 by omega]; simpa using h3
theorem fold_iff : ∀ (l : List Int) (s t : Int), foldF (fun a b => a + b) s l = some t ↔ (∀ x ∈ l, fitsB x = true) ∧ (∀ k, k < l.length → fitsB (s + (l.take (k + 1)).sum) = true) ∧ t = s + l.sum
  | [], s, t => by
    simp [foldF]
    exact eq_comm
  | x :: l, s, t => by
    rw [foldF]
    constructor
    · intro h
      split at h
      · rename_i hc
        obtain ⟨h1, h2, h3⟩ := (fold_iff l (s + x) t).1 h
        refine ⟨fun y hy => ?_, fun k hk => ?_, ?_⟩
        · rcases List.mem_cons.1 hy with rfl | hy
          · exact hc.1
          · exact h1 y hy
        · cases k with
          | zero => simpa using hc.2
          | succ k =>
            have := h2 k (by simpa using hk)
            rw [List.take_succ_cons, List.sum_cons, ← Int.add_assoc]; exact this
        · rw [h3, List.sum_cons, Int.add_assoc]
      · cases h
    · rintro ⟨h1, h2, h3⟩
      have hc : fitsB x = true ∧ fitsB (s + x) = true := ⟨h1 x (by simp), by simpa using h2 0 (by simp)⟩
      rw [if_pos hc]
      refine (fold_iff l (s + x) t).2 ⟨fun y hy => h1 y (by simp [hy]), fun k hk => ?_, ?_⟩
      · have := h2 (k + 1) (by simpa using hk)
        rw [List.take_succ_cons, List.sum_cons, ← Int.add_assoc] at this
        exact this
      · rw [h3, List.sum_cons, Int.add_assoc]
theorem addE_iff {l : List Int} : addE l = 0 ↔ (∀ x ∈ l, fitsB x = true) ∧ ∀ k, k < l.length → fitsB (l.take (k + 1)).sum = true := by
  unfold addE addF
  have hi := fold_iff l 0
  cases h : foldF (fun a b => a + b) 0 l with
  | none =>
    constructor
    · intro h; cases h
    · rintro ⟨h1, h2⟩
      have := (hi (0 + l.sum)).2 ⟨h1, fun k hk => by rw [Int.zero_add]; exact h2 k hk, rfl⟩
      rw [h] at this; cases this
  | some t =>
    obtain ⟨h1, h2, _⟩ := (hi t).1 h
    exact ⟨fun _ => ⟨h1, fun k hk => by have := h2 k hk; rwa [Int.zero_add] at this⟩, fun _ => rfl⟩
theorem addN_sum {l : List Int} (h : addE l = 0) : addN l = l.sum := by
  unfold addE at h
  unfold addN
  unfold addF at h ⊢
  cases hf : foldF (fun a b => a + b) 0 l with
  | none => rw [hf] at h; cases h
  | some t =>
    obtain ⟨_, _, h3⟩ := (fold_iff l 0 t).1 hf
    rw [Int.zero_add] at h3
    exact h3
theorem addE_two (l : List Int) : addE l = 0 ∨ addE l = 2 := by
  unfold addE outE
  split
  · exact .inl rfl
  · exact .inr rfl
theorem addN_err {l : List Int} (h : ¬ addE l = 0) : addN l = 0 := by
  unfold addE outE at h
  unfold addN
  cases hf : addF l with
  | none => rfl
  | some t => rw [hf] at h; exact absurd rfl h
def scanE (n : Nat) : List Lg → Int
  | [] => 0
  | g :: l => if g.acct < 0 ∨ (n : Int) ≤ g.acct then 4 else if g.amt = 0 then 3 else scanE n l
def amts (legs : List Lg) : List Int := legs.map (·.amt)
def named (legs : List Lg) (k : Nat) : Bool := legs.any fun g => g.acct == (k : Int)
def of (legs : List Lg) (k : Nat) : List Int := (legs.filter fun g => g.acct == (k : Int)).map (·.amt)
def mine (fl : List Int) (legs : List Lg) (k : Nat) : List Int := fl.getD k 0 :: of legs k
def bad (k : Nat) (n : Int) : Bool := (k == 0 && decide (0 < n)) || (decide (0 < k) && decide (n < 0))
def acctE (fl : List Int) (legs : List Lg) (k : Nat) : Int := if named legs k then (if addE (mine fl legs k) ≠ 0 then addE (mine fl legs k) else if bad k (addN (mine fl legs k)) then 7 else 0) else 0
def acctN (fl : List Int) (legs : List Lg) (k : Nat) : Int := if named legs k then addN (mine fl legs k) else fl.getD k 0
def accsE (fl : List Int) (legs : List Lg) : Nat → Nat → Int
  | 0, _ => 0
  | n + 1, k => if acctE fl legs k ≠ 0 then acctE fl legs k else accsE fl legs n (k + 1)
def preE (n : Nat) (legs : List Lg) : Int :=
  if scanE n legs ≠ 0 then scanE n legs else if legs.length < 1 ∨ 64 < legs.length then 3 else if addE (amts legs) ≠ 0 then addE (amts legs) else if addN (amts legs) ≠ 0 then 3 else 0
def postE (w : Int) (al : List Al) (legs : List Lg) : Int :=
  if preE (1 + 3 * al.length) legs ≠ 0 then preE (1 + 3 * al.length) legs else accsE (flatN w al) legs (1 + 3 * al.length) 0
def postF (w : Int) (al : List Al) (legs : List Lg) : List Int := (List.range (1 + 3 * al.length)).map (acctN (flatN w al) legs)
def setOne (F : List Int) (a : Al) (i : Nat) : Al := { a with avail := F.getD (1 + 3 * i) 0, lien := F.getD (2 + 3 * i) 0, spent := F.getD (3 + 3 * i) 0 }
def setFrom (F : List Int) : Nat → List Al → List Al
  | _, [] => []
  | i, a :: al => setOne F a i :: setFrom F (i + 1) al
def setA (F : List Int) (al : List Al) : List Al := setFrom F 0 al
def postW (w : Int) (al : List Al) (legs : List Lg) : Int := if postE w al legs = 0 then (postF w al legs).getD 0 0 else 0
def postA (w : Int) (al : List Al) (legs : List Lg) : List Al := if postE w al legs = 0 then setA (postF w al legs) al else []
theorem postW_ok {w : Int} {al : List Al} {legs : List Lg} (h : postE w al legs = 0) : postW w al legs = (postF w al legs).getD 0 0 := by unfold postW; rw [if_pos h]
theorem postA_ok {w : Int} {al : List Al} {legs : List Lg} (h : postE w al legs = 0) : postA w al legs = setA (postF w al legs) al := by unfold postA; rw [if_pos h]
theorem postW_no {w : Int} {al : List Al} {legs : List Lg} (h : ¬ postE w al legs = 0) : postW w al legs = 0 := by unfold postW; rw [if_neg h]
theorem postA_no {w : Int} {al : List Al} {legs : List Lg} (h : ¬ postE w al legs = 0) : postA w al legs = [] := by unfold postA; rw [if_neg h]
theorem setFrom_len (F : List Int) : ∀ (al : List Al) (i : Nat), (setFrom F i al).length = al.length
  | [], _ => rfl
  | a :: al, i => by simp [setFrom, setFrom_len F al (i + 1)]
theorem setA_len (F : List Int) (al : List Al) : (setA F al).length = al.length := setFrom_len F al 0
theorem setFrom_at (F : List Int) : ∀ (al : List Al) (i j : Nat) (a : Al), al[j]? = some a → (setFrom F i al)[j]? = some (setOne F a (i + j))
  | [], i, j, a, h => by simp at h
  | x :: al, i, 0, a, h => by
    simp at h; subst h; rfl
  | x :: al, i, j + 1, a, h => by
    rw [List.getElem?_cons_succ] at h
    have := setFrom_at F al (i + 1) j a h
    rw [setFrom, List.getElem?_cons_succ, this, show i + 1 + j = i + (j + 1) by omega]
theorem setA_at {F : List Int} {al : List Al} {j : Nat} {a : Al} (h : al[j]? = some a) : (setA F al)[j]? = some (setOne F a j) := by
  have := setFrom_at F al 0 j a h
  rwa [Nat.zero_add] at this
theorem postF_len (w : Int) (al : List Al) (legs : List Lg) : (postF w al legs).length = 1 + 3 * al.length := by simp [postF]
theorem postF_at (w : Int) (al : List Al) (legs : List Lg) {k : Nat} (h : k < 1 + 3 * al.length) : (postF w al legs)[k]? = some (acctN (flatN w al) legs k) := by
  simp [postF, h]
theorem list_ext {l k : List Int} (hl : l.length = k.length) (h : ∀ (i : Nat) (x : Int), l[i]? = some x → k[i]? = some x) : l = k := by
  apply List.ext_getElem?
  intro i
  cases hx : l[i]? with
  | some x => exact (h i x hx).symm
  | none =>
    rw [List.getElem?_eq_none_iff] at hx
    rw [List.getElem?_eq_none (by omega)]
theorem getD_at {l : List Int} {i : Nat} {x : Int} (h : l[i]? = some x) : l.getD i 0 = x := by simp [List.getD, h]
theorem flat_cases {al : List Al} {w : Int} {k : Nat} (h : k < 1 + 3 * al.length) : k = 0 ∨ ∃ i a, i < al.length ∧ al[i]? = some a ∧ (k = 1 + 3 * i ∨ k = 2 + 3 * i ∨ k = 3 + 3 * i) := by
  rcases Nat.eq_zero_or_pos k with h0 | h0
  · exact .inl h0
  · refine .inr ⟨(k - 1) / 3, _, by omega, List.getElem?_eq_getElem (by omega), by omega⟩
theorem flat_setA {F : List Int} {al : List Al} (hF : F.length = 1 + 3 * al.length) : flatN (F.getD 0 0) (setA F al) = F := by
  symm
  apply list_ext
  · rw [hF, flat_len, setA_len]
  · intro k x hx
    have hk := (List.getElem?_eq_some_iff.1 hx).1
    rcases flat_cases (w := 0) (show k < 1 + 3 * al.length by omega) with rfl | ⟨i, a, hi, ha, hc⟩
    · rw [flat_at0, getD_at hx]
    · obtain ⟨g1, g2, g3⟩ := flat_at (setA F al) i (setOne F a i) (F.getD 0 0) (setA_at ha)
      rcases hc with rfl | rfl | rfl
      · rw [g1]; exact congrArg some (getD_at hx)
      · rw [g2]; exact congrArg some (getD_at hx)
      · rw [g3]; exact congrArg some (getD_at hx)
theorem setA_flat {w : Int} {al : List Al} : setA (flatN w al) al = al := by
  apply List.ext_getElem?
  intro j
  cases ha : al[j]? with
  | none =>
    rw [List.getElem?_eq_none_iff] at ha
    rw [List.getElem?_eq_none (by rw [setA_len]; exact ha)]
  | some a =>
    rw [setA_at ha]
    obtain ⟨g1, g2, g3⟩ := flat_at al j a w ha
    unfold setOne
    rw [getD_at g1, getD_at g2, getD_at g3]
theorem scan_iff {n : Nat} : ∀ {legs : List Lg}, scanE n legs = 0 ↔ ∀ g ∈ legs, 0 ≤ g.acct ∧ g.acct < (n : Int) ∧ g.amt ≠ 0
  | [] => by simp [scanE]
  | g :: l => by
    have ih := @scan_iff n l
    rw [scanE]
    by_cases h1 : g.acct < 0 ∨ (n : Int) ≤ g.acct
    · rw [if_pos h1]
      constructor
      · intro h; cases h
      · intro h
        obtain ⟨h2, h3, _⟩ := h g (by simp)
        omega
    · rw [if_neg h1]
      by_cases h2 : g.amt = 0
      · rw [if_pos h2]
        constructor
        · intro h; cases h
        · intro h; exact absurd h2 (h g (by simp)).2.2
      · rw [if_neg h2, ih]
        constructor
        · intro h x hx
          rcases List.mem_cons.1 hx with rfl | hx
          · exact ⟨by omega, by omega, h2⟩
          · exact h x hx
        · intro h x hx
          exact h x (by simp [hx])
theorem accs_iff {fl : List Int} {legs : List Lg} : ∀ {n k : Nat}, accsE fl legs n k = 0 ↔ ∀ j, k ≤ j → j < k + n → acctE fl legs j = 0
  | 0, k => by
    simp only [accsE]
    exact ⟨fun _ j h1 h2 => by omega, fun _ => trivial⟩
  | n + 1, k => by
    have ih := @accs_iff fl legs n (k + 1)
    rw [accsE]
    by_cases h : acctE fl legs k = 0
    · rw [if_neg (by simpa using h), ih]
      constructor
      · intro h2 j h3 h4
        by_cases hj : j = k
        · rw [hj]; exact h
        · exact h2 j (by omega) (by omega)
      · intro h2 j h3 h4
        exact h2 j (by omega) (by omega)
    · rw [if_pos h]
      constructor
      · intro h2; exact absurd h2 h
      · intro h2; exact absurd (h2 k (by omega) (by omega)) h
theorem pre_iff {n : Nat} {legs : List Lg} : preE n legs = 0 ↔ (∀ g ∈ legs, 0 ≤ g.acct ∧ g.acct < (n : Int) ∧ g.amt ≠ 0) ∧ 1 ≤ legs.length ∧ legs.length ≤ 64 ∧ addE (amts legs) = 0 ∧ (amts legs).sum = 0 := by
  unfold preE
  by_cases h1 : scanE n legs = 0
  · rw [if_neg (by simpa using h1)]
    have h1' := scan_iff.1 h1
    by_cases h2 : legs.length < 1 ∨ 64 < legs.length
    · rw [if_pos h2]
      exact ⟨(fun h => by cases h), fun h => by omega⟩
    · rw [if_neg h2]
      by_cases h3 : addE (amts legs) = 0
      · rw [if_neg (by simpa using h3)]
        have h4 := addN_sum h3
        by_cases h5 : addN (amts legs) = 0
        · rw [if_neg (by simpa using h5)]
          exact ⟨fun _ => ⟨h1', by omega, by omega, h3, by rw [← h4]; exact h5⟩, fun _ => rfl⟩
        · rw [if_pos h5]
          exact ⟨(fun h => by cases h), fun h => absurd (h4.trans h.2.2.2.2) h5⟩
      · rw [if_pos h3]
        exact ⟨fun h => absurd h h3, fun h => absurd h.2.2.2.1 h3⟩
  · rw [if_pos h1]
    exact ⟨fun h => absurd h h1, fun h => absurd (scan_iff.2 h.1) h1⟩
theorem post_iff {w : Int} {al : List Al} {legs : List Lg} : postE w al legs = 0 ↔ preE (1 + 3 * al.length) legs = 0 ∧ ∀ k, k < 1 + 3 * al.length → acctE (flatN w al) legs k = 0 := by
  unfold postE
  by_cases h : preE (1 + 3 * al.length) legs = 0
  · rw [if_neg (by simpa using h), accs_iff]
    exact ⟨fun h2 => ⟨h, fun k hk => h2 k (Nat.zero_le _) (by omega)⟩, fun h2 k _ hk => h2.2 k (by omega)⟩
  · rw [if_pos h]
    exact ⟨fun h2 => absurd h2 h, fun h2 => absurd h2.1 h⟩
theorem of_nil {legs : List Lg} {k : Nat} (h : named legs k = false) : of legs k = [] := by
  unfold of
  unfold named at h
  rw [List.filter_eq_nil_iff.2 (fun g hg => by
    have := List.any_eq_false.1 h g hg
    simpa using this)]
  rfl
theorem acct_sum {fl : List Int} {legs : List Lg} {k : Nat} (h : acctE fl legs k = 0) : acctN fl legs k = fl.getD k 0 + (of legs k).sum := by
  unfold acctE at h
  unfold acctN
  by_cases hn : named legs k = true
  · rw [if_pos hn] at h ⊢
    by_cases he : addE (mine fl legs k) = 0
    · rw [addN_sum he]; rfl
    · rw [if_pos he] at h; exact absurd h he
  · rw [if_neg hn, of_nil (by simpa using hn)]; simp
theorem sum_range_of : ∀ (legs : List Lg) (n : Nat), (∀ g ∈ legs, 0 ≤ g.acct ∧ g.acct < (n : Int)) → ((List.range n).map fun k => (of legs k).sum).sum = (amts legs).sum
  | [], n, _ => by
    have : ∀ n : Nat, ((List.range n).map fun k => (of [] k).sum).sum = 0 := by
      intro n
      induction n with
      | zero => rfl
      | succ n ih => rw [List.range_succ, List.map_append, List.sum_append, ih]; rfl
    exact this n
  | g :: l, n, h => by
    have ih := sum_range_of l n fun x hx => h x (by simp [hx])
    obtain ⟨h1, h2⟩ := h g (by simp)
    have key : ∀ m : Nat, ((List.range m).map fun k => (of (g :: l) k).sum).sum = ((List.range m).map fun k => (of l k).sum).sum + if g.acct < (m : Int) then g.amt else 0 := by
      intro m
      induction m with
      | zero =>
        rw [if_neg (by omega)]; rfl
      | succ m ihm =>
        rw [List.range_succ, List.map_append, List.sum_append, List.map_append, List.sum_append, ihm]
        have e : (of (g :: l) m).sum = (if g.acct = (m : Int) then g.amt else 0) + (of l m).sum := by
          unfold of
          rw [List.filter_cons]
          by_cases hg : g.acct = (m : Int)
          · rw [if_pos (by simpa using hg), if_pos hg]; simp
          · rw [if_neg (by simpa using hg), if_neg hg]; simp
        simp only [List.map_cons, List.map_nil, List.sum_cons, List.sum_nil]
        rw [e]
        by_cases ha : g.acct < (m : Int)
        · rw [if_pos ha, if_neg (by omega), if_pos (by omega)]; omega
        · by_cases hb : g.acct = (m : Int)
          · rw [if_neg ha, if_pos hb, if_pos (by omega)]; omega
          · rw [if_neg ha, if_neg hb, if_neg (by omega)]; omega
    rw [key n, ih, if_pos h2]
    show _ = (g.amt :: amts l).sum
    rw [List.sum_cons]; omega
theorem sum_range_getD : ∀ (l : List Int), ((List.range l.length).map fun k => l.getD k 0).sum = l.sum := by
  intro l
  have : ((List.range l.length).map fun k => l.getD k 0) = l := by
    apply List.ext_getElem?
    intro i
    by_cases h : i < l.length
    · simp [h, List.getD]
    · rw [List.getElem?_eq_none (by simpa using h), List.getElem?_eq_none (by omega)]
  rw [this]
theorem sum_map_add {α : Type} (f g : α → Int) : ∀ l : List α, (l.map fun x => f x + g x).sum = (l.map f).sum + (l.map g).sum
  | [] => rfl
  | x :: l => by
    simp only [List.map_cons, List.sum_cons]
    rw [sum_map_add f g l]; omega
theorem post_zero {w : Int} {al : List Al} {legs : List Lg} (h : postE w al legs = 0) : (postF w al legs).sum = (flatN w al).sum := by
  obtain ⟨h1, h2⟩ := post_iff.1 h
  obtain ⟨h3, _, _, _, h7⟩ := pre_iff.1 h1
  have e : postF w al legs = (List.range (1 + 3 * al.length)).map fun k => (flatN w al).getD k 0 + (of legs k).sum := by
    unfold postF
    apply List.map_congr_left
    intro k hk
    exact acct_sum (h2 k (List.mem_range.1 hk))
  rw [e, sum_map_add, ← flat_len w al, sum_range_getD, sum_range_of _ _ (fun g hg => ⟨(h3 g hg).1, by rw [flat_len]; exact (h3 g hg).2.1⟩), h7]
  omega
theorem post_acct {w : Int} {al : List Al} {legs : List Lg} (h : postE w al legs = 0) {k : Nat} (hk : k < 1 + 3 * al.length) :
    (named legs k = false → acctN (flatN w al) legs k = (flatN w al).getD k 0) ∧ (named legs k = true → bad k (acctN (flatN w al) legs k) = false) := by
  have h2 := (post_iff.1 h).2 k hk
  constructor
  · intro hn
    unfold acctN
    rw [hn]; rfl
  · intro hn
    unfold acctE at h2
    unfold acctN
    rw [hn] at h2 ⊢
    simp only [if_true] at h2 ⊢
    by_cases he : addE (mine (flatN w al) legs k) = 0
    · rw [if_neg (by simpa using he)] at h2
      cases hb : bad k (addN (mine (flatN w al) legs k)) with
      | false => rfl
      | true => rw [hb] at h2; cases h2
    · rw [if_pos he] at h2
      exact absurd h2 he
end Go.Proofs.YtjcndgopijpibaaGreat.Led
/- Ledger: legs that were posted, and then turned, leave all as it was. -/
namespace Go.Proofs.YtjcndgopijpibaaGreat.Led
open Mon
open Tre (Al)
set_option linter.unusedVariables false
end Go.Proofs.YtjcndgopijpibaaGreat.Led
