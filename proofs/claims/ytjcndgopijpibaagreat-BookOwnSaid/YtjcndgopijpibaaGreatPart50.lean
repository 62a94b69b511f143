/- Common to the claims of this seat, part 50: texts that were written one by one, laid behind one another. -/
import Derived.Test.YtjcndgopijpibaaGreatPart25
import Derived.Test.YtjcndgopijpibaaGreatPart41
import Derived.Test.YtjcndgopijpibaaGreatPart42
import Derived.Test.YtjcndgopijpibaaGreatPart47
import Derived.Test.YtjcndgopijpibaaGreatPart49
/- Book, the landed: the state behind a transaction: its boxes. -/
namespace Go.Proofs.YtjcndgopijpibaaGreat.Bok
set_option maxRecDepth 100000
open Go.RowKit
open Go.Sort
open Kit
open Foot
open Tre (Lst inI lst_keep lst_at lst_new lst_none encF encF_len encL_len IntsL goodB)
open Led (Lg encG encG_len)
open Job (Jb Jv Jobs encJ encJ_len encJ_one findI)
open Drw (Dw Draws encD encD_len encD_one)
open Go.Proofs.YtjcndgopijpibaaGreat.Ord (ts)
open Snp (Sn Sv encK encK_len encK_one)
set_option linter.unusedVariables false
variable {w w' W0 W : World} {B : Nat}
def zS : List Value := [.int .i64 0, .int .i64 0, .int .i64 0, .slice none 0 0, .slice none 0 0, .slice none 0 0, .slice none 0 0, .slice none 0 0]
def zT : List Value := [.int .i64 0, .int .i64 0, .int .i64 0, .string ⟨#[]⟩, .string ⟨#[]⟩, .slice none 0 0, .slice none 0 0]
structure Bh (W w : World) (cs ct : List Value) : Prop where
  bx : Arr.Blk w W.heap.size 29 cs
  bt : Arr.Blk w (W.heap.size + 1) 34 ct
  r1 : Arr.Blk w (W.heap.size + 1 + 1) 29 zS
  r2 : Arr.Blk w (W.heap.size + 1 + 1 + 1) 34 zT
  below : Below W.heap.size W w
theorem Bh.keep {cs ct : List Value} {b : Nat} (h : Bh W w cs ct) (hb : Below b w w') (hl : W.heap.size + 3 < b) : Bh W w' cs ct :=
  ⟨Arr.blk_below h.bx hb (by omega), Arr.blk_below h.bt hb (by omega), Arr.blk_below h.r1 hb (by omega), Arr.blk_below h.r2 hb (by omega), h.below.trans (hb.mono (by omega))⟩
theorem results_two {P : Program} {fn : Func} {p q u : Tmp} {ty ty2 : TypeId} (h : fn.results = #[.cell p ty, .cell q ty2, .tmp u]) (tmps : Array Value) (w : World) (g g2 : Nat) (t t2 : TypeId) (cs cs2 : List Value) (d d2 : TypeDesc)
    (hp : tmps.getD p undef = .pointer (some ⟨g, 0, none⟩)) (hq : tmps.getD q undef = .pointer (some ⟨g2, 0, none⟩)) (hg : Arr.Blk w g t cs) (hg2 : Arr.Blk w g2 t2 cs2) (hu : P.underlying ty = some d) (hu2 : P.underlying ty2 = some d2) (hd : (match d with | .struct _ | .array _ _ => true | _ => false) = true) (hd2 : (match d2 with | .struct _ | .array _ _ => true | _ => false) = true) (hi : (P.info? ty).map (·.size) = some cs.length) (hi2 : (P.info? ty2).map (·.size) = some cs2.length) :
    (results fn tmps).run P w = .ok (.tuple #[.agg cs.toArray, .agg cs2.toArray, tmps.getD u undef]) w := by
  have e : (results fn tmps).run P w = ((asAddr (tmps.getD p undef)).run P w).andThen fun a w₁ => ((loadVar ty a).run P w₁).andThen fun x w₂ => ((asAddr (tmps.getD q undef)).run P w₂).andThen fun a2 w₃ => ((loadVar ty2 a2).run P w₃).andThen fun x2 w₄ => .ok (.tuple #[x, x2, tmps.getD u undef]) w₄ := by
    simp only [results, h]
    simp [Sem.run_bind, Result.andThen]
  rw [e, hp, hq]
  simp [asAddr, Result.andThen, run_loadVar_row w g t ty cs.toArray (0, 0) d hg hu hd (by simpa using hi), run_loadVar_row w g2 t2 ty2 cs2.toArray (0, 0) d2 hg2 hu2 hd2 (by simpa using hi2)]
theorem results_two3 {P : Program} {fn : Func} {p q u : Tmp} {ty ty2 : TypeId} (h : fn.results = #[.cell p ty, .cell q ty2, .tmp u]) (tmps : Array Value) (w : World) (g g2 : Nat) (t t2 : TypeId) (cs cs2 : List Value) (r : Value) (d d2 : TypeDesc)
    (hp : tmps.getD p undef = .pointer (some ⟨g, 0, none⟩)) (hq : tmps.getD q undef = .pointer (some ⟨g2, 0, none⟩)) (hr : tmps.getD u undef = r) (hg : Arr.Blk w g t cs) (hg2 : Arr.Blk w g2 t2 cs2) (hu : P.underlying ty = some d) (hu2 : P.underlying ty2 = some d2) (hd : (match d with | .struct _ | .array _ _ => true | _ => false) = true) (hd2 : (match d2 with | .struct _ | .array _ _ => true | _ => false) = true) (hi : (P.info? ty).map (·.size) = some cs.length) (hi2 : (P.info? ty2).map (·.size) = some cs2.length) :
    (results fn tmps).run P w = .ok (.tuple #[.agg cs.toArray, .agg cs2.toArray, r]) w := by
  rw [← hr]
  exact results_two h tmps w g g2 t t2 cs cs2 d d2 hp hq hg hg2 hu hu2 hd hd2 hi hi2
def BehP (W : World) (x : Sv) (t : Ent.Tv) (e : Ending) (W' : World) : Prop :=
  ∃ (y : Sv) (u : Ent.Tv), e = .returned (.tuple #[Snp.valV y, Ent.valV u, .int .i64 (doE x.t t.t)]) ∧ (y.t = doS x.t t.t ∧ NewS W' W.heap.size y) ∧ (u.t = doT x.t t.t ∧ NewT W' W.heap.size u) ∧ Below W.heap.size W W'
def zSv : Sv := ⟨0, 0, 0, [], [], [], [], [], Snp.Pl.nil, Snp.Pl.nil, Snp.Pl.nil, Snp.Pl.nil, Snp.Pl.nil⟩
def zTv : Ent.Tv := ⟨Ent.zeroT, none, 0, 0, none, 0, 0⟩
theorem newL_none {α : Type} (enc : α → List Value) (size : Nat) (T : TypeId) (w : World) (base : Nat) : NewL enc size T w base none 0 0 ([] : List α) := ⟨lst_none enc size w, fun q h => by cases h⟩
theorem zS_new (w : World) (base : Nat) : NewS w base zSv :=
  ⟨⟨lst_none _ _ _, lst_none _ _ _, lst_none _ _ _, lst_none _ _ _, lst_none _ _ _, fun y hy => by cases hy⟩, newL_none _ _ _ _ _, newL_none _ _ _ _ _, newL_none _ _ _ _ _, newL_none _ _ _ _ _, newL_none _ _ _ _ _, fun y hy => by cases hy⟩
theorem zT_new (w : World) (base : Nat) : NewT w base zTv := ⟨⟨lst_none _ _ _, lst_none _ _ _, by decide, by decide⟩, newL_none _ _ _ _ _, newL_none _ _ _ _ _⟩
theorem OwV.farS {base b : Nat} {y : Sv} {cs : List Value} (h : OwV w base y) (hC : Chg (fun k => k = b) w w') (hB : Arr.Blk w b 29 cs) : OwV w' base y :=
  ⟨own_typed h.f hC (typed_one hB (by decide)), own_typed h.l hC (typed_one hB (by decide)), own_typed h.r hC (typed_one hB (by decide)), own_typed h.j hC (typed_one hB (by decide)), own_typed h.k hC (typed_one hB (by decide)), fun x hx => own_typed (h.d x hx) hC (typed_one hB (by decide))⟩
theorem boxed3 {W w8 w3 : World} {base : Nat} {y : Sv} {cs ct : List Value} {u0 u5 u6 : Value} (hf : Fin w8 base B y) (hh : Bh W w8 cs ct) (hb : Below w8.heap.size w8 w3) (hlt : W.heap.size + 3 < w8.heap.size) (hne : B ≠ W.heap.size + 1) :
    Fin (((w3.setCell ⟨W.heap.size + 1, 0, none⟩ u0).setCell ⟨W.heap.size + 1, 5, none⟩ u5).setCell ⟨W.heap.size + 1, 6, none⟩ u6) base B y ∧ Bh W (((w3.setCell ⟨W.heap.size + 1, 0, none⟩ u0).setCell ⟨W.heap.size + 1, 5, none⟩ u5).setCell ⟨W.heap.size + 1, 6, none⟩ u6) cs (((ct.set 0 u0).set 5 u5).set 6 u6) ∧ Chg (fun k => k = W.heap.size + 1) w3 (((w3.setCell ⟨W.heap.size + 1, 0, none⟩ u0).setCell ⟨W.heap.size + 1, 5, none⟩ u5).setCell ⟨W.heap.size + 1, 6, none⟩ u6) := by
  have h3 := hf.keep hb
  have k3 := hh.keep hb hlt
  have c1 := set_chg w3 (W.heap.size + 1) 0 u0
  have c2 := chg_trans c1 (set_chg _ (W.heap.size + 1) 5 u5) (fun x hx => .inl hx)
  have c3 := chg_trans c2 (set_chg _ (W.heap.size + 1) 6 u6) (fun x hx => .inl hx)
  refine ⟨h3.far c3 k3.bt hne (by decide) (by decide) (by decide) (by decide) (by decide) (by decide), ⟨blk_chg c3 k3.bx (by omega), Arr.blk_set (Arr.blk_set (Arr.blk_set k3.bt 0 u0) 5 u5) 6 u6, blk_chg c3 k3.r1 (by omega), blk_chg c3 k3.r2 (by omega), Arr.below_set (Arr.below_set (Arr.below_set k3.below (by omega) _ _) (by omega) _ _) (by omega) _ _⟩, c3⟩
theorem boxedZ {W w9 : World} {base b1 b2 : Nat} {y : Sv} {cs ct c1 c2 : List Value} {v1 v2 : Value} {l1 : List Lg} {l2 : List Int} (hf : Fin w9 base B y) (hh : Bh W w9 cs ct) (h4 : W.heap.size + 4 ≤ B) (hl : Owns encG 2 49 w9 b1 v1 l1) (ha : Owns Tre.encI 1 3 w9 b2 v2 l2) :
    Fin ((w9.drew.setRow (W.heap.size + 1 + 1) c1.toArray).setRow (W.heap.size + 1 + 1 + 1) c2.toArray) base B y ∧ Arr.Blk ((w9.drew.setRow (W.heap.size + 1 + 1) c1.toArray).setRow (W.heap.size + 1 + 1 + 1) c2.toArray) (W.heap.size + 1 + 1) 29 c1 ∧ Arr.Blk ((w9.drew.setRow (W.heap.size + 1 + 1) c1.toArray).setRow (W.heap.size + 1 + 1 + 1) c2.toArray) (W.heap.size + 1 + 1 + 1) 34 c2 ∧ Below W.heap.size W ((w9.drew.setRow (W.heap.size + 1 + 1) c1.toArray).setRow (W.heap.size + 1 + 1 + 1) c2.toArray) ∧ Owns encG 2 49 ((w9.drew.setRow (W.heap.size + 1 + 1) c1.toArray).setRow (W.heap.size + 1 + 1 + 1) c2.toArray) b1 v1 l1 ∧ Owns Tre.encI 1 3 ((w9.drew.setRow (W.heap.size + 1 + 1) c1.toArray).setRow (W.heap.size + 1 + 1 + 1) c2.toArray) b2 v2 l2 := by
  have hd := below_drew w9
  have f0 := hf.keep hd
  have r1 := Arr.blk_below hh.r1 hd (Arr.blk_lt hh.r1)
  have r2 := Arr.blk_below hh.r2 hd (Arr.blk_lt hh.r2)
  have C1 : Chg (fun k => k = W.heap.size + 1 + 1) w9.drew (w9.drew.setRow (W.heap.size + 1 + 1) c1.toArray) := chg_row (F := fun k => k = W.heap.size + 1 + 1) (chg_refl _ _) (.inl rfl) _
  have C2 : Chg (fun k => k = W.heap.size + 1 + 1 + 1) (w9.drew.setRow (W.heap.size + 1 + 1) c1.toArray) ((w9.drew.setRow (W.heap.size + 1 + 1) c1.toArray).setRow (W.heap.size + 1 + 1 + 1) c2.toArray) := chg_row (F := fun k => k = W.heap.size + 1 + 1 + 1) (chg_refl _ _) (.inl rfl) _
  have r2' := blk_chg C1 r2 (show ¬ W.heap.size + 1 + 1 + 1 = W.heap.size + 1 + 1 by omega)
  have q1 := Arr.blk_row r1 c1
  have f1 := f0.far C1 r1 (by omega) (by decide) (by decide) (by decide) (by decide) (by decide) (by decide)
  have f2 := f1.far C2 r2' (by omega) (by decide) (by decide) (by decide) (by decide) (by decide) (by decide)
  refine ⟨f2, blk_chg C2 q1 (by omega), Arr.blk_row r2' c2, Arr.below_row (Arr.below_row (hh.below.trans (hd.mono hh.below.size)) (by omega) _) (by omega) _, ?_, ?_⟩
  · exact own_typed (own_typed (Nest.own_on hl hd) C1 (typed_one r1 (by decide))) C2 (typed_one r2' (by decide))
  · exact own_typed (own_typed (Nest.own_on ha hd) C1 (typed_one r1 (by decide))) C2 (typed_one r2' (by decide))
end Go.Proofs.YtjcndgopijpibaaGreat.Bok
