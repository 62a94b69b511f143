/- Snap: the document's Encode. -/
import Derived.Test.YtpmpigglekgfnaaSnpNum
import Derived.Test.YtpmpigglekgfnaaSnpEnL
import Derived.Test.YtpmpigglekgfnaaOctRefT
import Derived.Test.YtpmpigglekgfnaaRegTwo
import Derived.Test.YtpmpigglekgfnaaRegChn
import Derived.Test.YtpmpigglekgfnaaNest
namespace Go.Proofs.Ytpmpigglekgfnaa.Snp
set_option maxRecDepth 100000
open Go.RowKit
open Go.Sort
open Kit
open Oct
open Foot
open Tre (Lst inI lst_keep lst_at lst_new lst_none IntsL int_cell encI encI_len below_drewN' Funds Allocs Al encF encF_len encL_len fund_cells alloc_cells6)
open Rte (Rt Rates encR encR_len rate_cells)
open Job (Jb Jv Jobs encJ encJ_len job_cell job_keep)
open Drw (Dw Draws encD encD_len draw_cells)
open Ent (NB nb_keep nb_own nb_new int8 txt ints ints_len int8_len txt_len)
set_option linter.unusedVariables false
variable {w w' : World}

/-- More numbers, from a list that is made for it. -/
theorem nums_new {B : Nat} {W1 : World} {v : Value} {l : List UInt8} (hB : Below B W1 w) (hBs : B ≤ w.heap.size) (hO : OwnB w B v l) (xs : List Int) (A : Array Value) (hA : A.toList = flat encI xs) (m : Nat) (hm : xs.length = m) (hm2 : m ≤ 20) (hl : l.length ≤ 100000) :
    Calls Try.prog 17 #[v, .slice (some ⟨w.heap.size, 0, none⟩) m m] (w.alloc (.cells A 3)) fun e W' => ∃ v', e = .returned v' ∧ OwnB W' B v' (l ++ ints xs) ∧ Below B W1 W' ∧ Chg (fun k => some k = v.ownBlock) w W' := by
  have hlt : ∀ g, v.ownBlock = some g → B ≤ g ∧ g < w.heap.size := fun g hg => World.ownsRow.lt hO g hg
  refine (rnums_any B v l _ m m xs (w.alloc (.cells A 3)) (Kit.owns_alloc hO _) (lst_new encI_len w xs A _ _ m rfl hA hm (by omega)) (fun q hq e => ?_) (Nat.le_trans hBs (below_alloc w _).size) hm2 hl).mono ?_
  · injection hq with hq
    subst hq
    have := (hlt _ e).2
    simp at this
  · rintro e W' ⟨v', rfl, h1, h2, h3⟩
    have hC : Chg (fun k => some k = v.ownBlock) w W' := chg_trans (new_chg (below_alloc w _) _) h2 fun x hx => .inl hx
    exact ⟨v', rfl, h1, hB.trans (chg_below hC (fun k hk => (hlt k hk.symm).1) hBs), hC⟩
/-- More numbers, from a list that lies apart by its type. -/
theorem nums_lit {B : Nat} {W1 : World} {v u : Value} {l : List UInt8} (hB : Below B W1 w) (hBs : B ≤ w.heap.size) (hO : OwnB w B v l) {xs : List Int} (hu : (kLit xs).p w u) (hm2 : xs.length ≤ 20) (hl : l.length ≤ 100000) :
    Calls Try.prog 17 #[v, u] w fun e W' => ∃ v', e = .returned v' ∧ OwnB W' B v' (l ++ ints xs) ∧ Below B W1 W' ∧ Chg (fun k => some k = v.ownBlock) w W' := by
  obtain ⟨b, rfl, hb⟩ := hu
  have hlt : ∀ g, v.ownBlock = some g → B ≤ g ∧ g < w.heap.size := fun g hg => World.ownsRow.lt hO g hg
  refine (rnums_any B v l _ xs.length xs.length xs w hO (lit_ints hb rfl (by omega)) (fun q hq e => ?_) hBs hm2 hl).mono ?_
  · injection hq with hq
    subst hq
    obtain ⟨cur, h⟩ := own_type hO e
    exact type_ne hb h (by decide) rfl
  · rintro e W' ⟨v', rfl, h1, h2, h3⟩
    exact ⟨v', rfl, h1, hB.trans (chg_below h2 (fun k hk => (hlt k hk.symm).1) hBs), h2⟩
set_option maxHeartbeats 8000000 in
/-- Too many of something. -/
theorem renc_many (W : World) (x : Sv) (hx : x.In W) (h5 : ¬ (x.f.n ≤ 8 ∧ x.l.n ≤ 16 ∧ x.r.n ≤ 16 ∧ x.j.n ≤ 16 ∧ x.k.n ≤ 8)) :
    Calls Try.prog 8 #[valV x] W fun e W' => ∃ a n c, e = .returned (.tuple #[.slice a n c, .int .i64 (encE x.t)]) ∧ NB W' W.heap.size a n c (encL x.t) ∧ Below W.heap.size W W' := by
  obtain ⟨W1, hW1⟩ : ∃ y, y = W.alloc (.cells (encV x).toArray 28) := ⟨_, rfl⟩
  have hb1 : Below W.heap.size W W1 := by rw [hW1]; exact below_alloc _ _
  have hbx : Arr.Blk W1 W.heap.size 28 (encV x) := by rw [hW1]; exact Arr.blk_new W _ _ _ rfl
  have hx1 := in_keep hx hb1
  have HBx := Lib.hid (And.intro (box_cells hbx) (And.intro hb1 (Arr.blk_lt hbx)))
  obtain ⟨sq, wd, nx, fs, ls, rs, js, ks, ⟨af, nf, cf⟩, ⟨al, nl, cl⟩, ⟨ar, nr, cr⟩, ⟨aj, nj, cj⟩, ⟨ak, nk, ck⟩⟩ := x
  obtain ⟨g1, g2, g3, g4, g5, g6⟩ := hx1
  simp only at g1 g2 g3 g4 g5 g6 HBx h5 hW1 ⊢
  have HW1 := Lib.hid hW1
  have HN := Lib.hid (And.intro g1.len (And.intro g2.len (And.intro g3.len (And.intro g4.len g5.len))))
  have hm1 : nf ≤ 9223372036854775807 := by have h1 := g1.cap; have h2 := g1.max; unfold maxLen at h2; omega
  have hm2 : nl ≤ 9223372036854775807 := by have h1 := g2.cap; have h2 := g2.max; unfold maxLen at h2; omega
  have hm3 : nr ≤ 9223372036854775807 := by have h1 := g3.cap; have h2 := g3.max; unfold maxLen at h2; omega
  have hm4 : nj ≤ 9223372036854775807 := by have h1 := g4.cap; have h2 := g4.max; unfold maxLen at h2; omega
  have hm5 : nk ≤ 9223372036854775807 := by have h1 := g5.cap; have h2 := g5.max; unfold maxLen at h2; omega
  clear g1 g2 g3 g4 g5 g6 hb1 hbx hx hW1
  have hbad : ¬ Fits ⟨sq, wd, nx, fs, ls, rs, js.map (·.t), ks⟩ := by
    rintro ⟨⟨e1, e2, e3, e4, e5⟩, _⟩
    simp only [List.length_map] at e1 e2 e3 e4 e5
    have := HN.out
    omega
  have HBad := Lib.hid hbad
  obtain ⟨q0, q1, q2, q3, q4, q5, q6, q7⟩ := HBx.out.1
  have HB1 := Lib.hid HBx.out.2.1
  have hor : (8 < nf) ∨ (¬ 8 < nf ∧ 16 < nl) ∨ (¬ 8 < nf ∧ ¬ 16 < nl ∧ 16 < nr) ∨ (¬ 8 < nf ∧ ¬ 16 < nl ∧ ¬ 16 < nr ∧ 16 < nj) ∨ (¬ 8 < nf ∧ ¬ 16 < nl ∧ ¬ 16 < nr ∧ ¬ 16 < nj ∧ 8 < nk) := by omega
  clear h5 hbad HBx HN
  rcases hor with t1 | ⟨t1, t2⟩ | ⟨t1, t2, t3⟩ | ⟨t1, t2, t3, t4⟩ | ⟨t1, t2, t3, t4, t5⟩
  all_goals
    go_enter Try.func8, Try.ntmps8
    go_upto_region 1 with fail
    rw [show W.alloc (.cells #[.int .i64 sq, .int .i64 wd, .int .i64 nx, .slice af nf cf, .slice al nl cl, .slice ar nr cr, .slice aj nj cj, .slice ak nk ck] 28) = W1 from HW1.out.symm]
    go_wp2_with fail
    go_ret2
    exact enc_bad HBad.out HB1.out
end Go.Proofs.Ytpmpigglekgfnaa.Snp
