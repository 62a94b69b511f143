/- Common to the claims of this seat, part 42: texts that were written one by one, laid behind one another. -/
import Derived.Test.YtjcndgopijpibaaGreatPart6
import Derived.Test.YtjcndgopijpibaaGreatPart24
import Derived.Test.YtjcndgopijpibaaGreatPart35
import Derived.Test.YtjcndgopijpibaaGreatPart41
/- Book, the landed: the end of behind: worlds and structs. -/
namespace Go.Proofs.YtjcndgopijpibaaGreat.Bok
set_option maxRecDepth 100000
open Go.RowKit
open Go.Sort
open Kit
open Foot
open Tre (Lst inI lst_keep lst_at lst_new lst_none encF encF_len encL_len IntsL goodB)
open Led (Lg encG encG_len)
open Job (Jb Jv Jobs encJ encJ_len encJ_one findI)
open Drw (Dw Draws encD encD_len encD_one)
open Go.Proofs.YtjcndgopijpibaaGreat.Ord (ts)
open Snp (Sn Sv encK encK_len encK_one)
set_option linter.unusedVariables false
variable {w w' W0 W : World} {B : Nat}
theorem run_stIs {w : World} {a : Addr} {u : Value} {b : Option Addr} {n c : Nat} (h : w.cell? a = some u) (hf : w.frozen? a = false) : (Instr.storeAt 31 (.pointer (some a)) (.slice b n c)).run Tryz.prog w = .ok () (w.setCell a (.slice b n c)) := by
  simp [go_sem, h, hf]
theorem run_stGs {w : World} {a : Addr} {u : Value} {b : Option Addr} {n c : Nat} (h : w.cell? a = some u) (hf : w.frozen? a = false) : (Instr.storeAt 32 (.pointer (some a)) (.slice b n c)).run Tryz.prog w = .ok () (w.setCell a (.slice b n c)) := by
  simp [go_sem, h, hf]
theorem run_ld_tx {w : World} {B : Nat} {cs : List Value} (h : Arr.Blk w B 34 cs) (hl : cs.length = 7) : (Instr.loadAt 34 (.pointer (some ⟨B, 0, none⟩))).run Tryz.prog w = .ok (.agg cs.toArray) w := by
  have hi : (Tryz.prog.info? 34).map (·.size) = some cs.toArray.size := by rw [info_tx]; simp [hl]
  simp only [Instr.loadAt, Instr.sureAddr, Sem.run_bind, Sem.run_pure, Result.andThen_ok]
  exact run_loadVar_row w B 34 34 cs.toArray (0, 0) _ h Tryz.underlying34 rfl hi
theorem run_st_tx {w : World} {B : Nat} {cs old : List Value} (h : Arr.Blk w B 34 old) (hl : cs.length = 7) (ho : old.length = 7) (h1 : cs.all (·.oneCell') = true) : (Instr.storeAt 34 (.pointer (some ⟨B, 0, none⟩)) (.agg cs.toArray)).run Tryz.prog w = .ok () (w.setRow B cs.toArray) := by
  have hi : (Tryz.prog.info? 34).map (·.size) = some cs.toArray.size := by rw [info_tx]; simp [hl]
  simp only [Instr.storeAt, Instr.sureAddr, Sem.run_bind, Sem.run_pure, Result.andThen_ok]
  exact run_storeVar_row w B 34 34 old.toArray cs.toArray h hi (by simp [hl, ho]) (by simpa using h1)
theorem many_le (k : Int) : many k ≤ 6 := by
  unfold many
  repeat' split
  all_goals omega
def phiX (w8 : World) (b : Nat) (args : List Int) (q : Int) (gv : Value) : Nat → List Value → World → Prop
  | 0, _, w => w = w8.drew
  | 1, [u], w => (∃ a n c, u = .slice a n c ∧ Owns Tre.encI 1 3 w w8.heap.size (.slice a n c) args) ∧ Below w8.heap.size w8 w
  | 2, [u, _], w => ∃ w3, (∃ a n c, u = .slice a n c ∧ Owns Tre.encI 1 3 w3 w8.heap.size (.slice a n c) args) ∧ Below w8.heap.size w8 w3 ∧ w = w3.setCell ⟨b, 0, none⟩ (.int .i64 q)
  | 3, _, w => ∃ w3 a n c, Owns Tre.encI 1 3 w3 w8.heap.size (.slice a n c) args ∧ Below w8.heap.size w8 w3 ∧ w = (w3.setCell ⟨b, 0, none⟩ (.int .i64 q)).setCell ⟨b, 5, none⟩ (.slice a n c)
  | 4, _, w => ∃ w3 a n c, Owns Tre.encI 1 3 w3 w8.heap.size (.slice a n c) args ∧ Below w8.heap.size w8 w3 ∧ w = ((w3.setCell ⟨b, 0, none⟩ (.int .i64 q)).setCell ⟨b, 5, none⟩ (.slice a n c)).setCell ⟨b, 6, none⟩ gv
  | _, _, _ => False
theorem phiX_cell {w8 : World} {b j : Nat} {args : List Int} {q : Int} {gv : Value} {vs : List Value} {b2 o : Nat} {u : Value} (hj : j ≤ 1) (h : phiX w8 b args q gv j vs w) (hc : w8.cell? ⟨b2, o, none⟩ = some u) : w.cell? ⟨b2, o, none⟩ = some u := by
  match j, vs, hj, h with
  | 0, _, _, h => rw [show w = w8.drew from h]; exact cell_keep (below_drew w8) hc
  | 1, [p], _, h => exact cell_keep h.2 hc
  | 1, [], _, h => exact h.elim
  | 1, _ :: _ :: _, _, h => exact h.elim
def phiZ (w9 : World) (b1 b2 : Nat) (c1 c2 : List Value) : Nat → List Value → World → Prop
  | 0, _, w => w = w9.drew
  | 1, _, w => w = w9.drew.setRow b1 c1.toArray
  | 2, _, w => w = (w9.drew.setRow b1 c1.toArray).setRow b2 c2.toArray
  | 3, [_, _, u], w => u = .int .i64 0 ∧ w = (w9.drew.setRow b1 c1.toArray).setRow b2 c2.toArray
  | _, _, _ => False
theorem phiZ_blk {w9 : World} {b1 b2 j b : Nat} {c1 c2 vs cs : List Value} {T : TypeId} (hj : j ≤ 1) (hne : b ≠ b1) (h : phiZ w9 b1 b2 c1 c2 j vs w) (hB : Arr.Blk w9 b T cs) : Arr.Blk w b T cs := by
  have h0 := Arr.blk_below hB (below_drew w9) (Arr.blk_lt hB)
  match j, hj, h with
  | 0, _, h => rw [show w = w9.drew from h]; exact h0
  | 1, _, h => rw [show w = w9.drew.setRow b1 c1.toArray from h]; exact Arr.blk_row_far h0 hne _
structure Fin (w : World) (base B : Nat) (y : Sv) : Prop where
  blk : Arr.Blk w B 29 (Snp.encV y)
  f : Owns encF 3 81 w base y.f.v y.funds
  l : Owns Tre.encL 6 65 w base y.l.v y.allocs
  r : Owns Rte.encR 3 83 w base y.r.v y.rates
  j : Owns encJ 12 58 w base y.j.v y.jobs
  k : NewL encK 1 9 w base y.k.a y.k.n y.k.c y.keys
  d : ∀ x ∈ y.jobs, Owns encD 2 63 w base (.slice x.a x.n x.c) x.t.draws
theorem Fin.keep {base : Nat} {y : Sv} (h : Fin w base B y) (hb : Below w.heap.size w w') : Fin w' base B y :=
  ⟨Arr.blk_below h.blk hb (Arr.blk_lt h.blk), Nest.own_on h.f hb, Nest.own_on h.l hb, Nest.own_on h.r hb, Nest.own_on h.j hb, newL_keep encK_len h.k hb, fun x hx => Nest.own_on (h.d x hx) hb⟩
theorem newL_typ {α : Type} {enc : α → List Value} {size base : Nat} {T : TypeId} {a : Option Addr} {n c : Nat} {l : List α} {F : Nat → Prop} (hs : ∀ x, (enc x).length = size) (h : NewL enc size T w base a n c l) (hC : Chg F w w') (hT : Typed F w T) : NewL enc size T w' base a n c l := by
  have key : ∀ q, a = some q → ¬ F q.block := fun q hq hF => by
    obtain ⟨h1, h2, cur, h3⟩ := h.new q hq
    obtain ⟨t, cur2, h4, h5⟩ := hT q.block hF
    rw [h3] at h4
    injection h4 with h4
    injection h4 with h6 h7
    exact h5 h7.symm
  refine ⟨⟨h.lst.len, h.lst.cap, h.lst.max, h.lst.nil, ?_⟩, fun q hq => ?_⟩
  · rcases h.lst.row with e | ⟨b, o, e, h2⟩
    · exact .inl e
    · subst e
      exact row_chg hs hC (.inr ⟨b, o, rfl, h2⟩) (key _ rfl)
  · obtain ⟨h1, h2, cur, h3⟩ := h.new q hq
    exact ⟨h1, Nat.lt_of_lt_of_le h2 hC.size, cur, by rw [hC.block _ h2 (key q hq)]; exact h3⟩
theorem Fin.far {base b : Nat} {y : Sv} {T : TypeId} {cs : List Value} (h : Fin w base B y) (hC : Chg (fun k => k = b) w w') (hB : Arr.Blk w b T cs) (hne : B ≠ b) (h1 : T ≠ 81) (h2 : T ≠ 65) (h3 : T ≠ 83) (h4 : T ≠ 58) (h5 : T ≠ 9) (h6 : T ≠ 63) : Fin w' base B y :=
  ⟨blk_chg hC h.blk hne, own_typed h.f hC (typed_one hB h1), own_typed h.l hC (typed_one hB h2), own_typed h.r hC (typed_one hB h3), own_typed h.j hC (typed_one hB h4), newL_typ encK_len h.k hC (typed_one hB h5), fun x hx => own_typed (h.d x hx) hC (typed_one hB h6)⟩
theorem Fin.st {base : Nat} {y y' : Sv} (h : Fin w base B y) (i : Nat) (v : Value) (he : (Snp.encV y).set i v = Snp.encV y') (e : y'.f = y.f ∧ y'.l = y.l ∧ y'.r = y.r ∧ y'.j = y.j ∧ y'.k = y.k ∧ y'.funds = y.funds ∧ y'.allocs = y.allocs ∧ y'.rates = y.rates ∧ y'.jobs = y.jobs ∧ y'.keys = y.keys) : Fin (w.setCell ⟨B, i, none⟩ v) base B y' := by
  obtain ⟨e1, e2, e3, e4, e5, e6, e7, e8, e9, e10⟩ := e
  have hC := set_chg w B i v
  refine ⟨by rw [← he]; exact Arr.blk_set h.blk i v, ?_, ?_, ?_, ?_, ?_, ?_⟩
  · rw [e1, e6]; exact own_typed h.f hC (typed_one h.blk (by decide))
  · rw [e2, e7]; exact own_typed h.l hC (typed_one h.blk (by decide))
  · rw [e3, e8]; exact own_typed h.r hC (typed_one h.blk (by decide))
  · rw [e4, e9]; exact own_typed h.j hC (typed_one h.blk (by decide))
  · rw [e5, e10]; exact newL_typ encK_len h.k hC (typed_one h.blk (by decide))
  · rw [e9]; exact fun x hx => own_typed (h.d x hx) hC (typed_one h.blk (by decide))
theorem fin_key {base : Nat} {y : Sv} {a : Option Addr} {n c : Nat} {ks : List ByteArray} (h : Bo w base B y) (hC : Chg (fun k => some k = y.k.v.ownBlock) w w') (hk : NewL encK 1 9 w' base a n c ks) : Arr.Blk w' B 29 (Snp.encV y) ∧ Fin (w'.setCell ⟨B, 7, none⟩ (.slice a n c)) base B { y with keys := ks, k := ⟨a, n, c⟩ } := by
  have hT : ∀ {T : TypeId}, 9 ≠ T → Typed (fun k => some k = y.k.v.ownBlock) w T := fun hne => typed_own h.o.k hne
  have b3 := blk_typed h.b hC (hT (by decide))
  have hC2 := set_chg w' B 7 (.slice a n c)
  exact ⟨b3, Arr.blk_set b3 7 _, own_typed (own_typed h.o.f hC (hT (by decide))) hC2 (typed_one b3 (by decide)), own_typed (own_typed h.o.l hC (hT (by decide))) hC2 (typed_one b3 (by decide)), own_typed (own_typed h.o.r hC (hT (by decide))) hC2 (typed_one b3 (by decide)), own_typed (own_typed h.o.j hC (hT (by decide))) hC2 (typed_one b3 (by decide)), newL_typ encK_len hk hC2 (typed_one b3 (by decide)), fun x hx => own_typed (own_typed (h.o.d x hx) hC (hT (by decide))) hC2 (typed_one b3 (by decide))⟩
theorem fin_new {base b0 : Nat} {y : Sv} (h : Fin w base B y) (hb : b0 ≤ base) : NewS w b0 y := by
  have le : ∀ {α : Type} {enc : α → List Value} {size : Nat} {T : TypeId} {a : Option Addr} {n c : Nat} {l : List α}, NewL enc size T w base a n c l → NewL enc size T w b0 a n c l := fun h => ⟨h.lst, fun q hq => by obtain ⟨h1, h2⟩ := h.new q hq; exact ⟨Nat.le_trans hb h1, h2⟩⟩
  have f := le (newL_own encF_len h.f)
  have l := le (newL_own encL_len h.l)
  have r := le (newL_own Rte.encR_len h.r)
  have j := le (newL_own encJ_len h.j)
  have k := le h.k
  exact ⟨⟨f.lst, l.lst, r.lst, j.lst, k.lst, fun x hx => own_lst encD_len (h.d x hx)⟩, f, r, k, l, j, fun x hx => le (newL_own encD_len (h.d x hx))⟩
end Go.Proofs.YtjcndgopijpibaaGreat.Bok
/- Book, the landed: are legs the same (the library's slices.Equal)? -/
namespace Go.Proofs.YtjcndgopijpibaaGreat.Bok
set_option maxRecDepth 100000
open Go.RowKit
open Go.Sort
open Kit
open Foot
open Tre (Lst inI lst_keep lst_at lst_new lst_none encF encF_len encL_len IntsL goodB)
open Led (Lg encG encG_len)
open Job (Jb Jv Jobs encJ encJ_len encJ_one findI)
open Drw (Dw Draws encD encD_len encD_one)
open Go.Proofs.YtjcndgopijpibaaGreat.Ord (ts)
open Snp (Sn Sv encK encK_len encK_one)
set_option linter.unusedVariables false
variable {w w' W0 W : World} {B : Nat}
theorem run_ig {b o n c k : Nat} (h : k < n) (w : World) : (Instr.indexAt 32 (.slice (some ⟨b, o, none⟩) n c) (.int .i64 (k : Nat))).run Tryz.prog w = .ok (.pointer (some ⟨b, o + k * 2, none⟩)) w := by
  simp [go_sem, h]
theorem run_ldG {w : World} {b o : Nat} {x y : Int} (h0 : w.cell? ⟨b, o, none⟩ = some (.int .i64 x)) (h1 : w.cell? ⟨b, o + 1, none⟩ = some (.int .i64 y)) : (Instr.loadAt 49 (.pointer (some ⟨b, o, none⟩))).run Tryz.prog w = .ok (.agg #[.int .i64 x, .int .i64 y]) w := by
  simp [go_sem, h0, h1]
theorem run_neG {x0 x1 y0 y1 : Int} {r : Bool} (h : ((x0 == y0) && (x1 == y1)) = !r) (x y : Operand) (w : World) : (do eqGuard .neq 49 x y (.agg #[.int .i64 x0, .int .i64 x1]) (.agg #[.int .i64 y0, .int .i64 y1]); binOp .neq 49 (.agg #[.int .i64 x0, .int .i64 x1]) (.agg #[.int .i64 y0, .int .i64 y1]) : Sem Value).run Tryz.prog w = .ok (.bool r) w := by
  simp [go_sem]
  cases r <;> simp_all
set_option maxHeartbeats 8000000 in
theorem equal_any (W : World) (a1 a2 : Option Addr) (n1 c1 n2 c2 : Nat) (l m : List Lg) (h1 : Led.Legs W a1 n1 c1 l) (h2 : Led.Legs W a2 n2 c2 m) (b : Bool) (hb : b = true ↔ l = m) :
    Calls Tryz.prog 31 #[.slice a1 n1 c1, .slice a2 n2 c2] W fun e w' => e = .returned (.bool b) ∧ Below W.heap.size W w' := by
  have hm1 : n1 ≤ 9223372036854775807 := by have := h1.cap; have := h1.max; unfold maxLen at this; omega
  by_cases hn : n1 = n2
  rotate_left
  · have hbf : b = false := by
      cases b with
      | false => rfl
      | true =>
        have := hb.1 rfl
        subst this
        exact absurd (h1.len.symm.trans h2.len) hn
    subst hbf
    have hne : ((n1 : Int) == (n2 : Int)) = false := beq_false_of_ne (by omega)
    clear h1 h2 hb hn
    go_enter Tryz.func31, Tryz.ntmps31
    go_wp2_with fail
    go_ret
    exact ⟨rfl, Below.refl _ _⟩
  · subst hn
    obtain ⟨n, hnn⟩ : ∃ q, q = n1 := ⟨_, rfl⟩
    rw [← hnn] at h1 h2 hm1 ⊢
    clear hnn
    have HL := Lib.hid (And.intro h1 (And.intro h2 (And.intro h1.len (And.intro h2.len hb))))
    clear h1 h2 hb
    go_enter Tryz.func31, Tryz.ntmps31
    go_wp2_with fail
    go_loopw [13] (fun i wr => ∃ k : Nat, k ≤ n ∧ i = .int .i64 (k : Nat) ∧ l.take k = m.take k ∧ Below W.heap.size W wr) (fun i _ => n - (intOf i).toNat)
    case atStart => exact ⟨0, Nat.zero_le _, rfl, rfl, Below.refl _ _⟩
    case round =>
      obtain ⟨k, hk, rfl, htk, hbl⟩ := hrel
      have HO := Lib.hid (And.intro htk hbl)
      clear htk hbl
      by_cases hlt : k < n
      · have hlti : (k : Int) < (n : Int) := by omega
        have hkl : k < l.length := by rw [HL.out.2.2.1]; exact hlt
        have hkm : k < m.length := by rw [HL.out.2.2.2.1]; exact hlt
        obtain ⟨b1, o1, rfl⟩ := lst_at HL.out.1 (by omega)
        obtain ⟨b2, o2, rfl⟩ := lst_at HL.out.2.1 (by omega)
        obtain ⟨p0, p1⟩ := Led.leg_cells (lst_keep encG_len HL.out.1 HO.out.2) hkl
        obtain ⟨q0, q1⟩ := Led.leg_cells (lst_keep encG_len HL.out.2.1 HO.out.2) hkm
        have HTk := Lib.hid (And.intro (List.take_succ_eq_append_getElem hkl) (List.take_succ_eq_append_getElem hkm))
        have HGe := Lib.hid (show l = m → l[k] = m[k] from fun e => by subst e; rfl)
        generalize l[k] = x at *
        generalize m[k] = y at *
        obtain ⟨x0, x1⟩ := x
        obtain ⟨y0, y1⟩ := y
        simp only at p0 p1 q0 q1
        have HQ := Lib.hid (And.intro p0 (And.intro p1 (And.intro q0 q1)))
        have HK := Lib.hid hlt
        clear p0 p1 q0 q1 hkl hkm
        by_cases he : x0 = y0 ∧ x1 = y1
        · obtain ⟨rfl, rfl⟩ := he
          have HR := Lib.hid (show ((x0 == x0) && (x1 == x1)) = !false by simp)
          go_upto_region 6 with fail
          refine Rel.wp_region_rel (G := Rel.Gr) (Rel.tab [.is (.slice (some ⟨b1, o1, none⟩) n c1), .is (.int .i64 (k : Nat)), .is (.pointer (some ⟨b1, o1 + k * 2, none⟩)), .is (.agg #[.int .i64 x0, .int .i64 x1]), .is (.slice (some ⟨b2, o2, none⟩) n c2), .is (.int .i64 (k : Nat)), .is (.pointer (some ⟨b2, o2 + k * 2, none⟩)), .is (.agg #[.int .i64 x0, .int .i64 x1]), .is (.bool false)]) (fun _ w => Below wr.heap.size wr w) (by kernel_rfl) (by kernel_rfl) (by kernel_rfl) (by kernel_rfl) (fun w => Rel.gr_refl _) (below_drew _) ?_ ?_
          · refine ⟨?_, ?_, ?_, ?_, ?_, ?_, ?_, ?_, ?_, trivial⟩
            · intro L a w c
              refine .inl ⟨Rel.wanted_free (by kernel_rfl) _, ?_⟩
              exact Rel.wp_mv _ rfl ⟨_, rfl, Rel.gr_refl _, (c.old 0 (v := .slice (some ⟨b1, o1, none⟩) n c1) (by kernel_rfl) (by kernel_rfl)), c.inv⟩
            · intro L a w c
              refine .inl ⟨Rel.wanted_free (by kernel_rfl) _, ?_⟩
              exact Rel.wp_mv _ rfl ⟨_, rfl, Rel.gr_refl _, (c.old 5 (v := .int .i64 (k : Nat)) (by kernel_rfl) (by kernel_rfl)), c.inv⟩
            · intro L a w c
              refine .inl ⟨Rel.wanted_free (by kernel_rfl) _, ?_⟩
              exact Rel.wp_ia _ _ _ rfl (c.get 0 16 (by kernel_rfl)) (c.get 1 17 (by kernel_rfl)) (run_ig HK.out w) ⟨_, rfl, Rel.gr_refl _, rfl, c.inv⟩
            · intro L a w c
              refine .inl ⟨Rel.wanted_free (by kernel_rfl) _, ?_⟩
              exact Rel.wp_ld _ _ rfl (c.get 2 18 (by kernel_rfl)) (run_ldG (cell_keep c.inv HQ.out.1) (cell_keep c.inv HQ.out.2.1)) ⟨_, rfl, Rel.gr_refl _, rfl, c.inv⟩
            · intro L a w c
              refine .inl ⟨Rel.wanted_free (by kernel_rfl) _, ?_⟩
              exact Rel.wp_mv _ rfl ⟨_, rfl, Rel.gr_refl _, (c.old 1 (v := .slice (some ⟨b2, o2, none⟩) n c2) (by kernel_rfl) (by kernel_rfl)), c.inv⟩
            · intro L a w c
              refine .inl ⟨Rel.wanted_free (by kernel_rfl) _, ?_⟩
              exact Rel.wp_mv _ rfl ⟨_, rfl, Rel.gr_refl _, (c.old 5 (v := .int .i64 (k : Nat)) (by kernel_rfl) (by kernel_rfl)), c.inv⟩
            · intro L a w c
              refine .inl ⟨Rel.wanted_free (by kernel_rfl) _, ?_⟩
              exact Rel.wp_ia _ _ _ rfl (c.get 4 20 (by kernel_rfl)) (c.get 5 21 (by kernel_rfl)) (run_ig HK.out w) ⟨_, rfl, Rel.gr_refl _, rfl, c.inv⟩
            · intro L a w c
              refine .inl ⟨Rel.wanted_free (by kernel_rfl) _, ?_⟩
              exact Rel.wp_ld _ _ rfl (c.get 6 22 (by kernel_rfl)) (run_ldG (cell_keep c.inv HQ.out.2.2.1) (cell_keep c.inv HQ.out.2.2.2)) ⟨_, rfl, Rel.gr_refl _, rfl, c.inv⟩
            · intro L a w c
              refine .inl ⟨Rel.wanted_free (by kernel_rfl) _, ?_⟩
              exact Rel.wp_bo _ _ _ _ _ rfl (u := .bool false) (c.get 3 19 (by kernel_rfl)) (c.get 7 23 (by kernel_rfl)) (run_neG HR.out _ _ w) ⟨_, rfl, Rel.gr_refl _, rfl, c.inv⟩
          intro a w5 hbase hroom hdef hJ hV
          have s24 : Rel.slot a 24 = .bool false := hV 8 _ _ rfl rfl
          rw [Chn.act_puts [16, 17, 18, 19, 20, 21, 22, 23, 24] hbase hroom hdef (by kernel_rfl)]
          clear hbase hroom hdef hV
          simp only [List.foldl_cons, List.foldl_nil]
          generalize Rel.slot a 16 = u16 at *
          generalize Rel.slot a 17 = u17 at *
          generalize Rel.slot a 18 = u18 at *
          generalize Rel.slot a 19 = u19 at *
          generalize Rel.slot a 20 = u20 at *
          generalize Rel.slot a 21 = u21 at *
          generalize Rel.slot a 22 = u22 at *
          generalize Rel.slot a 23 = u23 at *
          rw [s24]
          clear s24
          simp only [Act.put, List.setIfInBounds_toArray, List.set_cons_succ, List.set_cons_zero]
          have HJ := Lib.hid (below_keep HO.out.2 hJ)
          clear hJ
          go_wp2_with fail
          go_roundw
          case rel => exact ⟨k + 1, by omega, by go_num, by rw [HTk.out.1, HTk.out.2, HO.out.1], HJ.out⟩
          case measure => simp [intOf]; omega
        · have HR := Lib.hid (show ((x0 == y0) && (x1 == y1)) = !true by
            show _ = false
            rw [Bool.and_eq_false_iff]
            by_cases h : x0 = y0
            · exact .inr (beq_false_of_ne (fun e => he ⟨h, e⟩))
            · exact .inl (beq_false_of_ne h))
          have hbf : b = false := by
            cases b with
            | false => rfl
            | true =>
              have e := HGe.out (HL.out.2.2.2.2.1 rfl)
              injection e with e1 e2
              exact absurd ⟨e1, e2⟩ he
          subst hbf
          clear he
          go_upto_region 6 with fail
          refine Rel.wp_region_rel (G := Rel.Gr) (Rel.tab [.is (.slice (some ⟨b1, o1, none⟩) n c1), .is (.int .i64 (k : Nat)), .is (.pointer (some ⟨b1, o1 + k * 2, none⟩)), .is (.agg #[.int .i64 x0, .int .i64 x1]), .is (.slice (some ⟨b2, o2, none⟩) n c2), .is (.int .i64 (k : Nat)), .is (.pointer (some ⟨b2, o2 + k * 2, none⟩)), .is (.agg #[.int .i64 y0, .int .i64 y1]), .is (.bool true)]) (fun _ w => Below wr.heap.size wr w) (by kernel_rfl) (by kernel_rfl) (by kernel_rfl) (by kernel_rfl) (fun w => Rel.gr_refl _) (below_drew _) ?_ ?_
          · refine ⟨?_, ?_, ?_, ?_, ?_, ?_, ?_, ?_, ?_, trivial⟩
            · intro L a w c
              refine .inl ⟨Rel.wanted_free (by kernel_rfl) _, ?_⟩
              exact Rel.wp_mv _ rfl ⟨_, rfl, Rel.gr_refl _, (c.old 0 (v := .slice (some ⟨b1, o1, none⟩) n c1) (by kernel_rfl) (by kernel_rfl)), c.inv⟩
            · intro L a w c
              refine .inl ⟨Rel.wanted_free (by kernel_rfl) _, ?_⟩
              exact Rel.wp_mv _ rfl ⟨_, rfl, Rel.gr_refl _, (c.old 5 (v := .int .i64 (k : Nat)) (by kernel_rfl) (by kernel_rfl)), c.inv⟩
            · intro L a w c
              refine .inl ⟨Rel.wanted_free (by kernel_rfl) _, ?_⟩
              exact Rel.wp_ia _ _ _ rfl (c.get 0 16 (by kernel_rfl)) (c.get 1 17 (by kernel_rfl)) (run_ig HK.out w) ⟨_, rfl, Rel.gr_refl _, rfl, c.inv⟩
            · intro L a w c
              refine .inl ⟨Rel.wanted_free (by kernel_rfl) _, ?_⟩
              exact Rel.wp_ld _ _ rfl (c.get 2 18 (by kernel_rfl)) (run_ldG (cell_keep c.inv HQ.out.1) (cell_keep c.inv HQ.out.2.1)) ⟨_, rfl, Rel.gr_refl _, rfl, c.inv⟩
            · intro L a w c
              refine .inl ⟨Rel.wanted_free (by kernel_rfl) _, ?_⟩
              exact Rel.wp_mv _ rfl ⟨_, rfl, Rel.gr_refl _, (c.old 1 (v := .slice (some ⟨b2, o2, none⟩) n c2) (by kernel_rfl) (by kernel_rfl)), c.inv⟩
            · intro L a w c
              refine .inl ⟨Rel.wanted_free (by kernel_rfl) _, ?_⟩
              exact Rel.wp_mv _ rfl ⟨_, rfl, Rel.gr_refl _, (c.old 5 (v := .int .i64 (k : Nat)) (by kernel_rfl) (by kernel_rfl)), c.inv⟩
            · intro L a w c
              refine .inl ⟨Rel.wanted_free (by kernel_rfl) _, ?_⟩
              exact Rel.wp_ia _ _ _ rfl (c.get 4 20 (by kernel_rfl)) (c.get 5 21 (by kernel_rfl)) (run_ig HK.out w) ⟨_, rfl, Rel.gr_refl _, rfl, c.inv⟩
            · intro L a w c
              refine .inl ⟨Rel.wanted_free (by kernel_rfl) _, ?_⟩
              exact Rel.wp_ld _ _ rfl (c.get 6 22 (by kernel_rfl)) (run_ldG (cell_keep c.inv HQ.out.2.2.1) (cell_keep c.inv HQ.out.2.2.2)) ⟨_, rfl, Rel.gr_refl _, rfl, c.inv⟩
            · intro L a w c
              refine .inl ⟨Rel.wanted_free (by kernel_rfl) _, ?_⟩
              exact Rel.wp_bo _ _ _ _ _ rfl (u := .bool true) (c.get 3 19 (by kernel_rfl)) (c.get 7 23 (by kernel_rfl)) (run_neG HR.out _ _ w) ⟨_, rfl, Rel.gr_refl _, rfl, c.inv⟩
          intro a w5 hbase hroom hdef hJ hV
          have s24 : Rel.slot a 24 = .bool true := hV 8 _ _ rfl rfl
          rw [Chn.act_puts [16, 17, 18, 19, 20, 21, 22, 23, 24] hbase hroom hdef (by kernel_rfl)]
          clear hbase hroom hdef hV
          simp only [List.foldl_cons, List.foldl_nil]
          generalize Rel.slot a 16 = u16 at *
          generalize Rel.slot a 17 = u17 at *
          generalize Rel.slot a 18 = u18 at *
          generalize Rel.slot a 19 = u19 at *
          generalize Rel.slot a 20 = u20 at *
          generalize Rel.slot a 21 = u21 at *
          generalize Rel.slot a 22 = u22 at *
          generalize Rel.slot a 23 = u23 at *
          rw [s24]
          clear s24
          simp only [Act.put, List.setIfInBounds_toArray, List.set_cons_succ, List.set_cons_zero]
          have HJ := Lib.hid (below_keep HO.out.2 hJ)
          clear hJ
          go_wp2_with fail
          go_ret
          exact ⟨rfl, HJ.out⟩
      · obtain rfl : k = n := by omega
        have hni : ¬ (k : Int) < (k : Int) := by omega
        have hbt : b = true := HL.out.2.2.2.2.2 (by
          have := HO.out.1
          rwa [List.take_of_length_le (by rw [HL.out.2.2.1]; exact Nat.le_refl _), List.take_of_length_le (by rw [HL.out.2.2.2.1]; exact Nat.le_refl _)] at this)
        subst hbt
        go_wp2_with fail
        go_ret
        exact ⟨rfl, HO.out.2⟩
end Go.Proofs.YtjcndgopijpibaaGreat.Bok
