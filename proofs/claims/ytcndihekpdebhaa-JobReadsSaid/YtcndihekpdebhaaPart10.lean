/- Common to the claims of this seat, part 10: texts that were written one by one, laid behind one another. -/
import Derived.Test.YtcndihekpdebhaaPart1
import Derived.Test.YtcndihekpdebhaaPart2
import Derived.Test.YtcndihekpdebhaaPart3
import Derived.Test.YtcndihekpdebhaaPart4
import Derived.Test.YtcndihekpdebhaaPart5
import Derived.Test.YtcndihekpdebhaaPart6
import Derived.Test.YtcndihekpdebhaaPart8
import Derived.Test.YtcndihekpdebhaaPart9
/- The library's stable sort at structs: its blocks, each by insertion, stably; its merge, at this program's numbers. -/
namespace Go.Proofs.Ytcndihekpdebhaa.Sts
set_option maxRecDepth 1000000
open Go.Shelf Go.RowKit Go.Lib Go.Sort
open Stb (Stb ins_congr)
set_option linter.unusedVariables false
variable {α : Type} [Inhabited α]

theorem sym_job {lt : α → α → Bool} (hS : SWO lt) (enc : α → List Value) (cf : α → α → Int) (g : Nat) (cb : Array Value) (blk off cap : Nat) (d0 : Array α) (w0 : World)
    (eg : ∀ args w, (callFunc g args).run Try.prog w = .ok (.enter g args) w) (hcmp : CmpLays Try.prog g cb enc 12 cf blk off d0.size w0) (R : RowK enc 12 w0 blk off d0) (hsz : d0.size < 4611686018427387904)
    (n a m b : Nat) (d : Array α) (w : World) (h1 : b - a ≤ n) (h2 : d0.size = d.size) (h3 : SWK enc 12 w0 blk off d w) (h4 : a < m) (h5 : m < b) (h6 : b ≤ d.size) (h7 : SortedIn lt a m d) (h8 : SortedIn lt m b d) (h9 : Stb (ltOf cf) lt a m b d) :
    Calls Try.prog 54 #[.slice (some ⟨blk, off, none⟩) d.size cap, .int .i64 a, .int .i64 m, .int .i64 b, .func (.func g) #[] cb] w fun e w' => e = .returned (.tuple #[]) ∧ ∃ d', SWK enc 12 w0 blk off d' w' ∧ PermIn a b d d' ∧ SortedIn lt a b d' :=
  sym_any lay 12 Try.isAgg40 Try.sizeOf40 hS enc cf g cb blk off cap d0 w0 eg hcmp R hsz n a m b d w h1 h2 h3 h4 h5 h6 h7 h8 h9

/-! ### The library's insertion sort is the shelf's -/

def ins_ren : Go.Shelf.Ren := ⟨fun | 20 => 53 | n => n, fun | 0 => 0 | 3 => 3 | 4 => 4 | 22 => 22 | 24 => 40 | 25 => 57 | n => n, fun n => n⟩
theorem ins_lays : SlLaysF0.n20 Try.prog ins_ren := {
  mixed := by kernel_rfl
  f20 := ⟨"slices.insertionSortCmpFunc[prebend/api.Job]", by kernel_rfl, Try.func53.trans (congrArg some (by kernel_rfl))⟩
  t0 := Try.underlying0
  a0 := Try.isAgg0
  z0 := Try.sizeOf0
  v0 := Try.zeroValue0
  t3 := Try.underlying3
  a3 := Try.isAgg3
  z3 := Try.sizeOf3
  v3 := Try.zeroValue3
  t4 := Try.underlying4
  a4 := Try.isAgg4
  z4 := Try.sizeOf4
  v4 := Try.zeroValue4
  t22 := Try.underlying22
  a22 := Try.isAgg22
  z22 := Try.sizeOf22
  v22 := Try.zeroValue22
  t25 := Try.underlying57
  a25 := Try.isAgg57
  z25 := Try.sizeOf57
  v25 := Try.zeroValue57 }
/-- A block sorted. -/
theorem ins_any {lt : α → α → Bool} (hS : SWO lt) (enc : α → List Value) (cf : α → α → Int) (g : Nat) (cb : Array Value) (blk off cap a b : Nat) (d0 d : Array α) (w0 w : World)
    (eg : ∀ args w, (callFunc g args).run Try.prog w = .ok (.enter g args) w) (hcmp : CmpLays Try.prog g cb enc 12 cf blk off d0.size w0) (R : RowK enc 12 w0 blk off d0) (hs : d0.size = d.size) (S : SWK enc 12 w0 blk off d w)
    (hab : a ≤ b) (hb : b ≤ d.size) (hsz : d.size < 4611686018427387904) (h : ∀ p q, a ≤ p → p < q → q < b → ltOf cf d[q]! d[p]! = lt d[q]! d[p]!) :
    Calls Try.prog 53 #[.slice (some ⟨blk, off, none⟩) d.size cap, .int .i64 a, .int .i64 b, .func (.func g) #[] cb] w fun e w' => e = .returned (.tuple #[]) ∧ ∃ d', SWK enc 12 w0 blk off d' w' ∧ PermIn a b d d' ∧ SortedIn lt a b d' := by
  have hq := insertionSort_holds hS d a b hab hb
  have hC : CmpLays Try.prog g cb enc 12 cf blk off d.size w := by
    intro m os dk hdk x y
    obtain ⟨n0, os0, rfl⟩ := S
    rw [sortWorldK_on enc 12 w0 blk off n0 m d dk os0 os R.hblk hdk]
    exact hcmp _ _ dk (by omega) x y
  refine (AnyQ.insertionSortCmpFunc ins_lays 12 Try.isAgg40 Try.sizeOf40 enc R.hk R.h1 cf g cb blk off cap a b d w eg hC (S.holds R.hblk R.hH hs.symm) (S.lt R.hblk) hab hb hsz).mono ?_
  rintro e w' ⟨rfl, n, os, rfl⟩
  rw [ins_congr _ lt d a b hb h]
  exact ⟨rfl, _, S.on R.hblk n _ os hq.1.1, hq.1, hq.2⟩
end Go.Proofs.Ytcndihekpdebhaa.Sts
/- The library's slices.SortStableFunc at structs, of up to forty: sorted, stably. -/
namespace Go.Proofs.Ytcndihekpdebhaa.Sts
set_option maxRecDepth 1000000
open Go.Shelf Go.RowKit Go.Lib Go.Sort
set_option linter.unusedVariables false
open Stb (Stb stb_perm stb_permR sorted_perm sorted_perm')
variable {α : Type} [Inhabited α]

def Sorted (enc : α → List Value) (lt : α → α → Bool) (w0 : World) (blk off : Nat) (d0 : Array α) (e : Ending) (w' : World) : Prop := e = .returned (.tuple #[]) ∧ ∃ d', SWK enc 12 w0 blk off d' w' ∧ PermIn 0 d0.size d0 d' ∧ SortedIn lt 0 d0.size d'
variable {lt : α → α → Bool} (hS : SWO lt) (enc : α → List Value) (cf : α → α → Int) (g : Nat) (cb : Array Value) (blk off cap : Nat) (d0 : Array α) (w0 : World)
    (eg : ∀ args w, (callFunc g args).run Try.prog w = .ok (.enter g args) w) (hcmp : CmpLays Try.prog g cb enc 12 cf blk off d0.size w0) (R : RowK enc 12 w0 blk off d0)
    (h0 : ∀ p q, p < q → q < d0.size → ltOf cf d0[q]! d0[p]! = lt d0[q]! d0[p]!)
include hS eg hcmp R h0

set_option maxHeartbeats 4000000 in
theorem below20 (hn : d0.size < 20) : Calls Try.prog 43 #[.slice (some ⟨blk, off, none⟩) d0.size cap, .int .i64 d0.size, .func (.func g) #[] cb] w0 (Sorted enc lt w0 blk off d0) := by
  have HI := Lib.hid (ins_any hS enc cf g cb blk off cap 0 d0.size d0 d0 w0 w0 eg hcmp R rfl (SWK.start R.hH) (Nat.zero_le _) (Nat.le_refl _) (by omega) (fun p q _ h1 h2 => h0 p q h1 h2))
  obtain ⟨n, hn0⟩ : ∃ n, n = d0.size := ⟨_, rfl⟩
  rw [← hn0] at hn HI ⊢
  have HN := Lib.hid hn0
  clear hn0 h0 hcmp R hS eg
  have h20 : ¬ (20 : Int) ≤ (n : Int) := by omega
  have h21 : ¬ (20 : Int) < (n : Int) := by omega
  go_enter Try.func43, Try.ntmps43
  go_wp2_with fail
  refine wp_loop_rounds 1 ?_
  rw [rounds_succ]
  go_wp2_with fail
  refine HI.out.mono ?_
  rintro e w2 ⟨rfl, d1, q1, q2, q3⟩
  have HZ := Lib.hid (And.intro q1 (And.intro q2 q3))
  clear q1 q2 q3
  go_wp2_with fail
  refine wp_loop_rounds 1 ?_
  rw [rounds_succ]
  go_wp2_with fail
  go_end0
  exact ⟨rfl, d1, HZ.out.1, by rw [← HN.out]; exact HZ.out.2.1, by rw [← HN.out]; exact HZ.out.2.2⟩

set_option maxHeartbeats 4000000 in
theorem at20 (hn : d0.size = 20) : Calls Try.prog 43 #[.slice (some ⟨blk, off, none⟩) d0.size cap, .int .i64 d0.size, .func (.func g) #[] cb] w0 (Sorted enc lt w0 blk off d0) := by
  have HI := Lib.hid (ins_any hS enc cf g cb blk off cap 0 20 d0 d0 w0 w0 eg hcmp R rfl (SWK.start R.hH) (by omega) (by omega) (by omega) (fun p q _ h1 h2 => h0 p q h1 (by omega)))
  have HI2 := Lib.hid (fun (w2 : World) (d1 : Array α) (hs1 : d0.size = d1.size) (S1 : SWK enc 12 w0 blk off d1 w2) => ins_any hS enc cf g cb blk off cap 20 20 d0 d1 w0 w2 eg hcmp R hs1 S1 (by omega) (by omega) (by omega) (fun p q h1 h2 h3 => by omega))
  have HN := Lib.hid hn
  rw [hn] at HI ⊢
  clear h0 hcmp R hS eg hn
  go_enter Try.func43, Try.ntmps43
  go_wp2_with fail
  refine wp_loop_rounds 2 ?_
  rw [rounds_succ]
  go_wp2_with fail
  refine HI.out.mono ?_
  rintro e w2 ⟨rfl, d1, q1, q2, q3⟩
  have hs1 : d1.size = 20 := by rw [q2.1, HN.out]
  have HC := HI2.out w2 d1 (by rw [hs1, HN.out]) q1
  rw [hs1] at HC
  have HC2 := Lib.hid HC
  have HZ := Lib.hid (And.intro q2 q3)
  clear q1 q2 q3 hs1 HC
  go_wp2_with fail
  rw [rounds_succ]
  go_wp2_with fail
  refine HC2.out.mono ?_
  rintro e w3 ⟨rfl, d2, q1, q2, q3⟩
  have HY := Lib.hid (And.intro q1 q2)
  clear q1 q2 q3
  go_wp2_with fail
  refine wp_loop_rounds 1 ?_
  rw [rounds_succ]
  go_wp2_with fail
  go_end0
  refine ⟨rfl, d2, HY.out.1, ?_, ?_⟩
  · rw [HN.out]
    exact permIn_trans _ _ _ _ _ HZ.out.1 (permIn_mono _ _ 20 20 0 20 (by omega) (by omega) (by rw [HZ.out.1.1, HN.out]; omega) HY.out.2)
  · rw [HN.out]
    exact sorted_perm' HY.out.2 HZ.out.2

set_option maxHeartbeats 8000000 in
theorem below40 (hn : 20 < d0.size) (hn2 : d0.size < 40) : Calls Try.prog 43 #[.slice (some ⟨blk, off, none⟩) d0.size cap, .int .i64 d0.size, .func (.func g) #[] cb] w0 (Sorted enc lt w0 blk off d0) := by
  have HI := Lib.hid (ins_any hS enc cf g cb blk off cap 0 20 d0 d0 w0 w0 eg hcmp R rfl (SWK.start R.hH) (by omega) (by omega) (by omega) (fun p q _ h1 h2 => h0 p q h1 (by omega)))
  obtain ⟨n, hn0⟩ : ∃ n, n = d0.size := ⟨_, rfl⟩
  have HI2 := Lib.hid (fun (w2 : World) (d1 : Array α) (hp : PermIn 0 20 d0 d1) (S1 : SWK enc 12 w0 blk off d1 w2) => by
    have := ins_any hS enc cf g cb blk off cap 20 n d0 d1 w0 w2 eg hcmp R hp.1.symm S1 (by omega) (by rw [hp.1]; omega) (by rw [hp.1]; omega) (fun p q h1 h2 h3 => by rw [hp.2.1 p (by omega), hp.2.1 q (by omega)]; exact h0 p q h2 (by omega))
    rwa [hp.1, ← hn0] at this)
  have HM := Lib.hid (fun (w3 : World) (d1 d2 : Array α) (hp1 : PermIn 0 20 d0 d1) (hs1 : SortedIn lt 0 20 d1) (hp2 : PermIn 20 n d1 d2) (hs2 : SortedIn lt 20 n d2) (S2 : SWK enc 12 w0 blk off d2 w3) => by
    have e2 : d2.size = d0.size := by rw [hp2.1, hp1.1]
    have := sym_job hS enc cf g cb blk off cap d0 w0 eg hcmp R (by omega) n 0 20 n d2 w3 (by omega) e2.symm S2 (by omega) (by omega) (by omega) (sorted_perm' hp2 hs1) hs2 (stb_permR (by rw [hp1.1]; omega) hp2 (stb_perm (by omega) hp1 (by omega) (fun i j h1 h2 h3 h4 => h0 i j (by omega) (by omega))))
    rwa [e2, ← hn0] at this)
  rw [← hn0] at hn hn2 HI ⊢
  have HN := Lib.hid hn0
  clear hn0 h0 hcmp R hS eg
  have h20 : (20 : Int) ≤ (n : Int) := by omega
  have h40 : ¬ (40 : Int) ≤ (n : Int) := by omega
  have h21 : (20 : Int) < (n : Int) := by omega
  have h41 : ¬ (40 : Int) < (n : Int) := by omega
  go_enter Try.func43, Try.ntmps43
  go_wp2_with fail
  refine wp_loop_rounds 2 ?_
  rw [rounds_succ]
  go_wp2_with fail
  refine HI.out.mono ?_
  rintro e w2 ⟨rfl, d1, q1, q2, q3⟩
  have HC2 := Lib.hid (HI2.out w2 d1 q2 q1)
  have HZ := Lib.hid (And.intro q2 q3)
  clear q1 q2 q3
  go_wp2_with fail
  rw [rounds_succ]
  go_wp2_with fail
  refine HC2.out.mono ?_
  rintro e w3 ⟨rfl, d2, q1, q2, q3⟩
  have HC3 := Lib.hid (HM.out w3 d1 d2 HZ.out.1 HZ.out.2 q2 q3 q1)
  have HY := Lib.hid q2
  clear q1 q2 q3
  go_wp2_with fail
  refine wp_loop_rounds 2 ?_
  rw [rounds_succ]
  go_wp2_with fail
  refine wp_loop_rounds 1 ?_
  rw [rounds_succ]
  go_wp2_with fail
  refine HC3.out.mono ?_
  rintro e w4 ⟨rfl, d3, q1, q2, q3⟩
  have HX := Lib.hid (And.intro q1 (And.intro q2 q3))
  clear q1 q2 q3
  go_wp2_with fail
  rw [rounds_succ]
  go_wp2_with fail
  go_end0
  refine ⟨rfl, d3, HX.out.1, ?_, by rw [← HN.out]; exact HX.out.2.2⟩
  have e1 : d1.size = n := by rw [HZ.out.1.1, HN.out]
  rw [← HN.out]
  exact permIn_trans _ _ _ _ _ (permIn_mono _ _ 0 20 0 n (by omega) (by omega) (by rw [← HN.out]; omega) HZ.out.1) (permIn_trans _ _ _ _ _ (permIn_mono _ _ 20 n 0 n (by omega) (by omega) (by omega) HY.out) HX.out.2.1)

set_option maxHeartbeats 8000000 in
theorem at40 (hn : d0.size = 40) : Calls Try.prog 43 #[.slice (some ⟨blk, off, none⟩) d0.size cap, .int .i64 d0.size, .func (.func g) #[] cb] w0 (Sorted enc lt w0 blk off d0) := by
  have HI := Lib.hid (ins_any hS enc cf g cb blk off cap 0 20 d0 d0 w0 w0 eg hcmp R rfl (SWK.start R.hH) (by omega) (by omega) (by omega) (fun p q _ h1 h2 => h0 p q h1 (by omega)))
  have HI2 := Lib.hid (fun (w2 : World) (d1 : Array α) (hp : PermIn 0 20 d0 d1) (S1 : SWK enc 12 w0 blk off d1 w2) => by
    have := ins_any hS enc cf g cb blk off cap 20 40 d0 d1 w0 w2 eg hcmp R hp.1.symm S1 (by omega) (by rw [hp.1]; omega) (by rw [hp.1]; omega) (fun p q h1 h2 h3 => by rw [hp.2.1 p (by omega), hp.2.1 q (by omega)]; exact h0 p q h2 (by omega))
    rwa [hp.1, hn] at this)
  have HI3 := Lib.hid (fun (w2 : World) (d1 : Array α) (hs1 : d1.size = d0.size) (S1 : SWK enc 12 w0 blk off d1 w2) => by
    have := ins_any hS enc cf g cb blk off cap 40 40 d0 d1 w0 w2 eg hcmp R hs1.symm S1 (by omega) (by omega) (by omega) (fun p q h1 h2 h3 => by omega)
    rwa [hs1, hn] at this)
  have HM := Lib.hid (fun (w3 : World) (d1 d2 d3 : Array α) (hp1 : PermIn 0 20 d0 d1) (hs1 : SortedIn lt 0 20 d1) (hp2 : PermIn 20 40 d1 d2) (hs2 : SortedIn lt 20 40 d2) (hp3 : PermIn 40 40 d2 d3) (S2 : SWK enc 12 w0 blk off d3 w3) => by
    have e2 : d3.size = d0.size := by rw [hp3.1, hp2.1, hp1.1]
    have e3 : ∀ i, d3[i]! = d2[i]! := fun i => hp3.2.1 i (by omega)
    have q1 : SortedIn lt 0 20 d3 := fun i j h1 h2 h3 => by rw [e3, e3]; exact sorted_perm' hp2 hs1 i j h1 h2 h3
    have q2 : SortedIn lt 20 40 d3 := fun i j h1 h2 h3 => by rw [e3, e3]; exact hs2 i j h1 h2 h3
    have q3 : Stb (ltOf cf) lt 0 20 40 d2 := stb_permR (by rw [hp1.1]; omega) hp2 (stb_perm (by omega) hp1 (by omega) (fun i j h1 h2 h3 h4 => h0 i j (by omega) (by omega)))
    have q4 : Stb (ltOf cf) lt 0 20 40 d3 := fun i j h1 h2 h3 h4 => by rw [e3, e3]; exact q3 i j h1 h2 h3 h4
    have := sym_job hS enc cf g cb blk off cap d0 w0 eg hcmp R (by omega) 40 0 20 40 d3 w3 (by omega) e2.symm S2 (by omega) (by omega) (by omega) q1 q2 q4
    rwa [e2, hn] at this)
  have HN := Lib.hid hn
  rw [hn] at HI ⊢
  clear h0 hcmp R hS eg hn
  go_enter Try.func43, Try.ntmps43
  go_wp2_with fail
  refine wp_loop_rounds 3 ?_
  rw [rounds_succ]
  go_wp2_with fail
  refine HI.out.mono ?_
  rintro e w2 ⟨rfl, d1, q1, q2, q3⟩
  have HC2 := Lib.hid (HI2.out w2 d1 q2 q1)
  have HZ := Lib.hid (And.intro q2 q3)
  clear q1 q2 q3
  go_wp2_with fail
  rw [rounds_succ]
  go_wp2_with fail
  refine HC2.out.mono ?_
  rintro e w3 ⟨rfl, d2, q1, q2, q3⟩
  have HC3 := Lib.hid (HI3.out w3 d2 (by rw [q2.1, HZ.out.1.1]) q1)
  have HY := Lib.hid (And.intro q2 q3)
  clear q1 q2 q3
  go_wp2_with fail
  rw [rounds_succ]
  go_wp2_with fail
  refine HC3.out.mono ?_
  rintro e w4 ⟨rfl, d3, q1, q2, q3⟩
  have HC4 := Lib.hid (HM.out w4 d1 d2 d3 HZ.out.1 HZ.out.2 HY.out.1 HY.out.2 q2 q1)
  have HX := Lib.hid q2
  clear q1 q2 q3
  go_wp2_with fail
  refine wp_loop_rounds 2 ?_
  rw [rounds_succ]
  go_wp2_with fail
  refine wp_loop_rounds 2 ?_
  rw [rounds_succ]
  go_wp2_with fail
  refine HC4.out.mono ?_
  rintro e w5 ⟨rfl, d4, q1, q2, q3⟩
  have HV := Lib.hid (And.intro q1 (And.intro q2 q3))
  clear q1 q2 q3
  go_wp2_with fail
  rw [rounds_succ]
  go_wp2_with fail
  rw [rounds_succ]
  go_wp2_with fail
  go_end0
  refine ⟨rfl, d4, HV.out.1, ?_, by rw [HN.out]; exact HV.out.2.2⟩
  have e1 : d1.size = 40 := by rw [HZ.out.1.1, HN.out]
  have e2 : d2.size = 40 := by rw [HY.out.1.1, e1]
  rw [HN.out]
  exact permIn_trans _ _ _ _ _ (permIn_mono _ _ 0 20 0 40 (by omega) (by omega) (by rw [HN.out]; omega) HZ.out.1) (permIn_trans _ _ _ _ _ (permIn_mono _ _ 20 40 0 40 (by omega) (by omega) (by omega) HY.out.1) (permIn_trans _ _ _ _ _ (permIn_mono _ _ 40 40 0 40 (by omega) (by omega) (by omega) HX.out) HV.out.2.1))

/-- slices.SortStableFunc of up to forty. -/
theorem stable_any (hn : d0.size ≤ 40) : Calls Try.prog 32 #[.slice (some ⟨blk, off, none⟩) d0.size cap, .func (.func g) #[] cb] w0 (Sorted enc lt w0 blk off d0) := by
  have HS : Hid (Calls Try.prog 43 #[.slice (some ⟨blk, off, none⟩) d0.size cap, .int .i64 d0.size, .func (.func g) #[] cb] w0 (Sorted enc lt w0 blk off d0)) := by
    refine Lib.hid ?_
    rcases Nat.lt_or_ge d0.size 20 with h | h
    · exact below20 hS enc cf g cb blk off cap d0 w0 eg hcmp R h0 h
    · rcases Nat.eq_or_lt_of_le h with h | h
      · exact at20 hS enc cf g cb blk off cap d0 w0 eg hcmp R h0 h.symm
      · rcases Nat.eq_or_lt_of_le hn with h2 | h2
        · exact at40 hS enc cf g cb blk off cap d0 w0 eg hcmp R h0 h2
        · exact below40 hS enc cf g cb blk off cap d0 w0 eg hcmp R h0 h h2
  clear h0 hcmp R hS eg
  go_enter Try.func32, Try.ntmps32
  go_wp2_with fail
  refine HS.out.mono ?_
  rintro e w2 ⟨rfl, d1, q1, q2, q3⟩
  have HZ := Lib.hid (And.intro q1 (And.intro q2 q3))
  clear q1 q2 q3
  go_wp2_with fail
  go_end0
  exact ⟨rfl, d1, HZ.out⟩
omit hS eg hcmp R h0 in
/-- .. of none. -/
theorem stable_none (w : World) (a : Option Addr) (cap : Nat) (fv : Value) : Calls Try.prog 32 #[.slice a 0 cap, fv] w fun e w' => e = .returned (.tuple #[]) ∧ w = w' := by
  have HI : Hid (Calls Try.prog 53 #[.slice a 0 cap, .int .i64 (0 : Nat), .int .i64 (0 : Nat), fv] w fun e w' => e = .returned (.tuple #[]) ∧ w = w') := by
    refine Lib.hid ?_
    go_enter Try.func53, Try.ntmps53
    go_wp2_with fail
    refine wp_loop_rounds 1 ?_
    rw [rounds_succ]
    go_wp2_with fail
    go_end0
    exact ⟨rfl, rfl⟩
  have HS : Hid (Calls Try.prog 43 #[.slice a 0 cap, .int .i64 (0 : Nat), fv] w fun e w' => e = .returned (.tuple #[]) ∧ w = w') := by
    refine Lib.hid ?_
    go_enter Try.func43, Try.ntmps43
    go_wp2_with fail
    refine wp_loop_rounds 1 ?_
    rw [rounds_succ]
    go_wp2_with fail
    refine HI.out.mono ?_
    rintro e w2 ⟨rfl, rfl⟩
    go_wp2_with fail
    refine wp_loop_rounds 1 ?_
    rw [rounds_succ]
    go_wp2_with fail
    go_end0
    exact ⟨rfl, rfl⟩
  clear HI
  go_enter Try.func32, Try.ntmps32
  go_wp2_with fail
  refine HS.out.mono ?_
  rintro e w2 ⟨rfl, rfl⟩
  go_wp2_with fail
  go_end0
  exact ⟨rfl, rfl⟩
end Go.Proofs.Ytcndihekpdebhaa.Sts
/- A list of structs, the call's own, sorted by the library's slices.SortStableFunc. -/
namespace Go.Proofs.Ytcndihekpdebhaa.Sts
set_option maxRecDepth 1000000
open Go.RowKit
open Go.Sort
open Go.Shelf
open Kit
set_option linter.unusedVariables false
variable {w w' : World}

abbrev Pl (n : Nat) := { x : Nat // x < n }
theorem flat_map {β γ : Type} (encb : β → List Value) (J : γ → β) (D : List γ) : flat encb (D.map J) = flat (fun x => encb (J x)) D := by
  induction D with
  | nil => rfl
  | cons x D ih =>
    show encb (J x) ++ flat encb (D.map J) = encb (J x) ++ flat (fun x => encb (J x)) D
    rw [ih]
theorem owns_map {β γ : Type} {encb : β → List Value} {J : γ → β} {k : Nat} {T : TypeId} {base : Nat} {v : Value} {D : List γ} : Owns encb k T w base v (D.map J) ↔ Owns (fun x => encb (J x)) k T w base v D := by
  unfold Owns
  rw [flat_map, List.length_map]
theorem ext_all {α : Type} {X : Array α} {m : Nat} (h : X.size = m) : X.extract 0 m = X := by
  subst h
  exact Array.extract_size
section
variable {n : Nat} [Inhabited (Pl n)]
/-- Places that rise, sorted: the same ones, none ahead of one before it. -/
theorem sort_places {β : Type} {encb : β → List Value} (hk : ∀ y, (encb y).length = 12) (h1 : ∀ y, ∀ v ∈ encb y, v.oneCell' = true) (J : Pl n → β) {lt : Pl n → Pl n → Bool} (hS : SWO lt) (cf : Pl n → Pl n → Int) (f : Nat) (w : World) (base : Nat) (v : Value) (D : List (Pl n))
    (eg : ∀ args w, (callFunc f args).run Try.prog w = .ok (.enter f args) w)
    (hcmp : ∀ (W : World) (x y : Pl n), Calls Try.prog f #[.agg (encb (J x)).toArray, .agg (encb (J y)).toArray] W fun e w' => e = .returned (.int .i64 (cf x y)) ∧ Below W.heap.size W w' ∧ W.drawn ≤ w'.drawn)
    (hcl : ∀ x y : Pl n, x.1 < y.1 → ltOf cf y x = lt y x) (hup : (D.map (·.1)).Pairwise (· < ·)) (hm40 : D.length ≤ 40) (hO : Owns encb 12 40 w base v (D.map J)) :
    Calls Try.prog 32 #[v, .func (.func f) #[] #[]] w fun e w' => e = .returned (.tuple #[]) ∧ ∃ D' : List (Pl n), D'.Perm D ∧ D'.Pairwise (fun x y => lt y x = false) ∧ Owns encb 12 40 w' base v (D'.map J) ∧ w.grownBy w' v.ownBlock := by
  have hO' := owns_map.1 hO
  obtain ⟨enc, henc⟩ : ∃ enc : Pl n → List Value, enc = fun x => encb (J x) := ⟨_, rfl⟩
  rw [← henc] at hO'
  have hke : ∀ x, (enc x).length = 12 := fun x => by rw [henc]; exact hk _
  have h1e : ∀ x, ∀ v ∈ enc x, v.oneCell' = true := fun x => by rw [henc]; exact h1 _
  obtain ⟨q0, ⟨h0, h0b⟩ | ⟨b, cap, cur, rfl, hbase, hb, h2, h3, h4, h5⟩⟩ := hO'
  · have hD : D = [] := List.length_eq_zero_iff.1 (by simpa using h0b)
    subst hD
    subst h0
    refine (stable_none w none 0 _).mono ?_
    rintro e w' ⟨rfl, rfl⟩
    exact ⟨rfl, [], .nil, .nil, hO, World.grownBy.refl _ _⟩
  have hlt : b < w.heap.size := (Array.getElem?_eq_some_iff.1 hb).1
  have hH : HoldsK enc 12 w b 0 D.toArray := Stk.holdsK_of hke hb h5
  have R : RowK enc 12 w b 0 D.toArray := ⟨hke, h1e, hH, hlt⟩
  have hC : CmpLays Try.prog f #[] enc 12 cf b 0 D.toArray.size w := by
    intro m os dk hs x y
    rw [Array.append_empty]
    have := hcmp (sortWorldK enc 12 w b 0 m dk os) x y
    rw [henc]
    rw [henc] at this
    refine this.mono ?_
    rintro ex w' ⟨rfl, hbw, hdr⟩
    obtain ⟨p, rfl⟩ := regrown_of_below hbw
    refine ⟨rfl, p.d - (sortWorldK (fun x => encb (J x)) 12 w b 0 m dk os).drawn, p.os, ?_⟩
    have hd : (sortWorldK (fun x => encb (J x)) 12 w b 0 m dk os).drawn ≤ p.d := hdr
    unfold World.drewN redrawn
    congr 2
    omega
  have hds : D.toArray.size = D.length := by simp
  have hc0 : ∀ p q, p < q → q < D.toArray.size → ltOf cf D.toArray[q]! D.toArray[p]! = lt D.toArray[q]! D.toArray[p]! := fun p q hpq hq => by
    refine hcl _ _ ?_
    have hp : p < D.toArray.size := by omega
    have h := List.pairwise_iff_getElem.1 hup p q (by simpa using hp) (by simpa using hq) hpq
    rw [getElem!_pos D.toArray p hp, getElem!_pos D.toArray q hq]
    simpa using h
  have hcon := stable_any hS enc cf f #[] b 0 cap D.toArray w eg hC R hc0 (by omega)
  rw [hds] at hcon
  refine hcon.mono ?_
  rintro ex w' ⟨rfl, d', ⟨q, os, rfl⟩, hp, hs⟩
  rw [hds] at hp hs
  have hds' : d'.size = D.length := by rw [hp.1, hds]
  have hperm : d'.toList.Perm D := by
    have := hp.2.2
    rw [ext_all hds', ext_all hds] at this
    exact this
  refine ⟨rfl, d'.toList, hperm, ?_, ?_, Stk.grownBy_sorted _⟩
  · rw [List.pairwise_iff_getElem]
    intro i j hi hj hij
    have hi' : i < d'.size := by simpa using hi
    have hj' : j < d'.size := by simpa using hj
    have := hs i j (Nat.zero_le _) hij (by omega)
    rw [getElem!_pos d' i hi', getElem!_pos d' j hj'] at this
    simpa using this
  · rw [owns_map, ← henc]
    exact Stk.owns_sorted hke hds' hbase hb h2 h3 h4
end
end Go.Proofs.Ytcndihekpdebhaa.Sts
/- Job, the landed: Due. -/
namespace Go.Proofs.Ytcndihekpdebhaa.Job
set_option maxRecDepth 100000
open Go.RowKit
open Go.Sort
open Kit
open Cmp
open Foot (owns_le)
open Tre (Lst inI lst_keep lst_take lst_at lst_new lst_none run_ld2 encI_len encI_one OwI info_i NewI newI_own)
open Go.Proofs.Ytcndihekpdebhaa.Ord (ts ltP ltP_swo sorted_ord)
set_option linter.unusedVariables false
variable {w w' : World}

theorem cfD_lt (x y : Jb) : cfD x y < 0 ↔ endJ x < endJ y ∨ (endJ x = endJ y ∧ x.id < y.id) := or_lt _ _ _ _
def isDue (now : Int) (x : Jv) : Bool := decide (endJ x.t ≤ now)
def dueS (now : Int) (l : List Jv) : List Jv := (runL l).filter (isDue now)
def dts (now : Int) (l : List Jv) : List Jb := (ts l).map (dueT now)
theorem dts_len (now : Int) (l : List Jv) : (dts now l).length = l.length := by unfold dts; rw [List.length_map, ts_len]
theorem dueS_eq (now : Int) (l : List Jv) : dueS now l = l.filter fun x => isDue now x && runB x.t := by
  unfold dueS runL
  rw [List.filter_filter]
theorem q_due (now : Int) (l : List Jv) : ∀ k, k ≤ l.length → ((Ord.qL (dts now l) k).map fun m => l[m]?) = ((l.take k).filter fun x => isDue now x && runB x.t).map some
  | 0, _ => by simp [Ord.qL]
  | k + 1, hk => by
    obtain ⟨x, hx⟩ : ∃ x, l[k]? = some x := ⟨_, List.getElem?_eq_getElem (by omega)⟩
    have ih := q_due now l k (by omega)
    have hq : Ord.isQ (dts now l) k = (isDue now x && runB x.t) := by
      unfold dts
      rw [due_isQ (ts_get hx), Bool.and_comm]; rfl
    rw [filter_take _ hx]
    cases hb : (isDue now x && runB x.t) with
    | true =>
      rw [hb] at hq
      rw [Ord.qL_go hq, List.map_append, ih, if_pos rfl, List.map_append]
      simp [hx]
    | false =>
      rw [hb] at hq
      rw [Ord.qL_no hq, ih, if_neg Bool.false_ne_true]
/-- The places of those that are due, as elements of a type of their own. -/
theorem places_due (now : Int) (l : List Jv) : ∃ D : List (Sts.Pl l.length), D.map (·.1) = Ord.qL (dts now l) l.length ∧ D.map (fun x => l[x.1]) = dueS now l := by
  have h1 : ∀ k ∈ Ord.qL (dts now l) l.length, k < l.length := fun k hk => (Ord.qL_mem.1 hk).1
  refine ⟨(Ord.qL (dts now l) l.length).pmap (fun k h => (⟨k, h⟩ : Sts.Pl l.length)) h1, by simp [List.map_pmap], ?_⟩
  have h2 := q_due now l l.length (Nat.le_refl _)
  rw [List.take_length, ← dueS_eq] at h2
  have h3 : (((Ord.qL (dts now l) l.length).pmap (fun k h => (⟨k, h⟩ : Sts.Pl l.length)) h1).map fun x => l[x.1]).map some = (dueS now l).map some := by
    rw [← h2, List.map_map]
    apply List.ext_getElem
    · simp
    · intro i hi hj
      simp
  exact (List.map_inj_right fun _ _ h => Option.some.inj h).1 h3
theorem due_ids (now : Int) (l : List Jv) {D : List (Sts.Pl l.length)} (h : D.map (·.1) = Ord.ord (dts now l)) : (D.map fun x => l[x.1]).map (fun x => x.t.id) = dueL now (ts l) := by
  unfold dueL dueP
  have h' : Ord.ord ((ts l).map (dueT now)) = D.map (·.1) := h.symm
  rw [h', List.map_map, List.map_map]
  refine List.map_congr_left fun x _ => ?_
  show l[x.1].t.id = idAt (ts l) x.1
  unfold idAt
  rw [ts_get (List.getElem?_eq_getElem x.2)]
/-- The list of those that are due, sorted. -/
theorem sorted_due (w : World) (base : Nat) (v : Value) (now : Int) (l : List Jv) (hl : l.length ≤ 40) (hok : ∀ x ∈ l, okT x.t) (hO : OwJ w base v (dueS now l)) :
    Calls Try.prog 32 #[v, .func (.func 33) #[] #[]] w fun e w' => e = .returned (.tuple #[]) ∧ ∃ R : List Jv, R.map (fun x => x.t.id) = dueL now (ts l) ∧ R.length ≤ 40 ∧ OwJ w' base v R ∧ w.grownBy w' v.ownBlock := by
  obtain ⟨D, hD1, hD2⟩ := places_due now l
  rw [← hD2] at hO
  rcases Nat.eq_zero_or_pos l.length with hz | hz
  · have hl0 : l = [] := List.length_eq_zero_iff.1 hz
    subst hl0
    have hD0 : D = [] := by
      rw [List.eq_nil_iff_forall_not_mem]
      intro x _
      exact absurd x.2 (Nat.not_lt_zero _)
    subst hD0
    obtain ⟨a, c, rfl, -, -, -, -⟩ := owns_row encJ_len hO
    refine (Sts.stable_none w a c _).mono ?_
    rintro e w' ⟨rfl, rfl⟩
    exact ⟨rfl, [], rfl, by simp, hO, World.grownBy.refl _ _⟩
  haveI : Inhabited (Sts.Pl l.length) := ⟨⟨0, hz⟩⟩
  have hlen : D.length ≤ 40 := by
    have := Ord.qL_len (dts now l) l.length
    rw [← hD1, List.length_map] at this
    omega
  refine (Sts.sort_places encJ_len encJ_one (fun x : Sts.Pl l.length => l[x.1]) (lt := ltP (dts now l)) (ltP_swo (by rw [dts_len]; exact Nat.le_refl _)) (fun x y => cfD l[x.1].t l[y.1].t) 33 w base v D (enters_of Try.func33 (by kernel_rfl) rfl)
    (fun W x y => cmpj_any _ _ W (hok _ (List.getElem_mem _)) (hok _ (List.getElem_mem _))) ?_ (by rw [hD1]; exact Ord.qL_up _ _) hlen hO).mono ?_
  · intro x y hxy
    unfold ltOf ltP
    rw [decide_eq_decide, cfD_lt]
    unfold dts
    rw [due_lt (ts_get (List.getElem?_eq_getElem y.2)) (ts_get (List.getElem?_eq_getElem x.2))]
    constructor
    · rintro (h | ⟨h1, h2⟩)
      · exact .inl h
      · exact .inr ⟨h1, .inl h2⟩
    · rintro (h | ⟨h1, h2 | ⟨h2, h3⟩⟩)
      · exact .inl h
      · exact .inr ⟨h1, h2⟩
      · omega
  · rintro e w' ⟨rfl, D', h1, h2, h3, h4⟩
    have hp : (D'.map (·.1)).Perm (Ord.qL (dts now l) l.length) := by rw [← hD1]; exact h1.map _
    have ho := sorted_ord (l := dts now l) (dts_len now l).symm hp h2
    exact ⟨rfl, _, due_ids now l ho, by rw [List.length_map, h1.length_eq]; exact hlen, h3, h4⟩

theorem tyI' : Nest.Ty Tre.encI 1 Try.prog 34 3 (.int .i64 0) 8 where
  hs := encI_len
  hz := by omega
  one := encI_one
  und := Try.underlying34
  info := info_i
  zero := rfl
set_option maxHeartbeats 16000000 in
theorem due_any (W : World) (a1 : Option Addr) (n c1 : Nat) (l : List Jv) (now : Int) (h : Jobs W a1 n c1 l) (hn : n ≤ 40) (hok : ∀ x ∈ l, okT x.t) :
    Calls Try.prog 19 #[.slice a1 n c1, .int .i64 now] W fun e W' => ∃ v, e = .returned v ∧ OwI W' W.heap.size v (dueL now (ts l)) ∧ Below W.heap.size W W' := by
  have hb1 := below_alloc W (.cells #[.int .i64 now] 3)
  obtain ⟨W1, hW1⟩ : ∃ z, z = W.alloc (.cells #[.int .i64 now] 3) := ⟨_, rfl⟩
  rw [← hW1] at hb1
  have hc1 : W1.cell? ⟨W.heap.size, 0, none⟩ = some (.int .i64 now) := by rw [hW1]; simp
  have HRun := Lib.hid (running_any W1 a1 n c1 l (lst_keep encJ_len h hb1) (by omega))
  have HL := Lib.hid (And.intro h.len (And.intro hok (And.intro hb1 hc1)))
  have HW1 := Lib.hid hW1
  clear h hok hb1 hc1 hW1
  go_enter Try.func19, Try.ntmps19
  go_wp2_with fail
  rw [← HW1.out]
  refine HRun.out.mono ?_
  rintro e w2 ⟨v1, rfl, ho1, hb2⟩
  obtain ⟨a2, c2, rfl, hJ2⟩ := own_jobs ho1
  obtain ⟨m2, hm2⟩ : ∃ m, m = (runL l).length := ⟨_, rfl⟩
  rw [← hm2] at hJ2 ⊢
  have HTh := Lib.hid (those_any w2 a2 m2 c2 (runL l) hJ2 (by rw [hm2]; have := runL_len l; have := HL.out.1; omega) 31 #[.pointer (some ⟨W.heap.size, 0, none⟩)] (isDue now) (enters_of Try.func31 (by kernel_rfl) rfl)
    (fun w x hb hx => isdue_any x now W.heap.size w (HL.out.2.1 x (runL_mem hx)) (cell_keep hb (cell_keep hb2 HL.out.2.2.2))))
  have HB2 := Lib.hid (below_keep HL.out.2.2.1 hb2)
  clear ho1 hb2 hJ2 hm2 HRun
  go_wp2_with fail
  refine HTh.out.mono ?_
  rintro e w3 ⟨v3, rfl, ho3, hb3⟩
  have HSo := Lib.hid (sorted_due w3 w2.heap.size v3 now l (by have := HL.out.1; omega) HL.out.2.1 ho3)
  have HB3 := Lib.hid (And.intro (below_keep HB2.out hb3) (And.intro ho3 hb3))
  clear ho3 hb3 HTh
  go_wp2_with fail
  refine HSo.out.mono ?_
  rintro e w4 ⟨rfl, R, hR, hRl, ho4, hg4⟩
  have hb4 := HB3.out.2.2.trans (Two.below_grown HB3.out.2.1 hg4 HB3.out.2.2.size)
  have HB4 := Lib.hid (below_keep HB2.out hb4)
  have HR := Lib.hid hR
  obtain ⟨a4, c4, rfl, hJ4⟩ := own_jobs ho4
  obtain ⟨m, hm⟩ : ∃ m, m = R.length := ⟨_, rfl⟩
  rw [← hm] at hJ4 ⊢
  have hm40 : m ≤ 40 := by rw [hm]; exact hRl
  have HJ4 := Lib.hid (And.intro hJ4 hm)
  clear hb4 hR ho4 hg4 hJ4 hm hRl HSo HB3 HB2
  go_wp2_with fail
  go_loopw [6, 17] (fun v i wr => ∃ k : Nat, k ≤ m ∧ i = .int .i64 (k : Nat) ∧ OwI wr w4.heap.size v ((R.take k).map fun x => x.t.id) ∧ Below w4.heap.size w4 wr) (fun _ i _ => m - (intOf i).toNat)
  case atStart => exact ⟨0, Nat.zero_le _, rfl, owns_nil _ _ _, Below.refl _ _⟩
  case round =>
    obtain ⟨k, hk, rfl, hown, hb⟩ := hrel
    have HO := Lib.hid (And.intro hown hb)
    clear hown hb
    by_cases hlt : k < m
    · have hlti : (k : Int) < (m : Int) := by omega
      have hkl : k < R.length := by rw [← HJ4.out.2]; exact hlt
      obtain ⟨x, hx⟩ : ∃ x, R[k]? = some x := ⟨_, List.getElem?_eq_getElem hkl⟩
      obtain ⟨b, o, rfl⟩ := lst_at HJ4.out.1 (by omega)
      have HRx := Lib.hid (job_range (lst_keep encJ_len HJ4.out.1 HO.out.2) hx)
      have hN : (R.take (k + 1)).map (fun x => x.t.id) = (R.take k).map (fun x => x.t.id) ++ [x.t.id] := by rw [take_snoc hx, List.map_append]; rfl
      have hlx : ((R.take k).map fun x => x.t.id).length ≤ 40 := by rw [List.length_map, List.length_take]; omega
      obtain ⟨lx, hlx'⟩ : ∃ lx, lx = (R.take k).map fun x => x.t.id := ⟨_, rfl⟩
      rw [← hlx'] at HO hN hlx
      have HD := Lib.hid (show lx.length + 1 ≤ 100000 by omega)
      obtain ⟨w1, rfl⟩ : ∃ z, z = wr := ⟨_, rfl⟩
      clear hx hkl hlx hlx'
      go_upto_region 7 with (first | (refine wpList_load_mid rfl 40 (.tmp 19) rfl b (o + k * 12) rfl (encJ x) _ HRx.out Try.underlying40 rfl info_job12 ?_) | (refine Arr.wpList_store_blk rfl 40 (.tmp 8) (.tmp 20) rfl w1.heap.size (encJ x) rfl rfl zeroJ 40 (Arr.blk_new _ _ _ zeroJ rfl) info_job12 rfl (one12L' x) w1.heap.size (Nat.le_refl _) ?_; intro w5 hblk hbel; have HW5 := Lib.hid (And.intro hblk ((below_alloc w1 (.cells zeroJ.toArray 40)).trans hbel)); clear hbel hblk) | fail)
      have q0 : w5.cell? ⟨w1.heap.size, 0, none⟩ = some (.int .i64 x.t.id) := Arr.blk_cell HW5.out.1 0
      obtain ⟨xi, hxi⟩ : ∃ z, z = x.t.id := ⟨_, rfl⟩
      rw [← hxi] at q0 hN
      have HN := Lib.hid hN
      have HO5 := Lib.hid (And.intro (Nest.own_on HO.out.1 HW5.out.2) (below_keep HO.out.2 HW5.out.2))
      generalize Value.agg (encJ x).toArray = u20
      clear hN hxi HW5 HRx HO
      go_wp2_with (first | (at_builtin; refine Nest.one_arm tyI' rfl (.tmp 21) (.tmp 24) rfl w5 _ rfl xi rfl w4.heap.size _ lx rfl HO5.out.1 rfl HD.out (by omega) HO5.out.2.size ?_; intro v9 w9 ho hbb; have H9 := Lib.hid (And.intro ho (HO5.out.2.trans hbb)); clear ho hbb) | fail)
      go_roundw
      case rel => exact ⟨k + 1, by omega, by go_num, by rw [HN.out]; exact H9.out.1, H9.out.2⟩
      case measure => simp [intOf]; omega
    · obtain rfl : k = m := by omega
      have hni : ¬ (k : Int) < (k : Int) := by omega
      have HT := Lib.hid (show (R.take k).map (fun x => x.t.id) = dueL now (ts l) by rw [← HR.out, List.take_of_length_le (by rw [HJ4.out.2]; exact Nat.le_refl _)])
      go_wp2_with fail
      go_ret
      exact ⟨_, rfl, by rw [← HT.out]; exact owns_le HO.out.1 HB4.out.size, below_keep HB4.out HO.out.2⟩
end Go.Proofs.Ytcndihekpdebhaa.Job
/- Job, the landed: may a job be? -/
namespace Go.Proofs.Ytcndihekpdebhaa.Job
set_option maxRecDepth 100000
open Go.RowKit
open Go.Sort
open Kit
open Tre (Lst inI lst_keep lst_take lst_at lst_new lst_none run_ld2)
open Drw (Dw Draws draw_cells encD encD_len)
set_option linter.unusedVariables false
variable {w w' : World}

def hasB (j : Jb) : Bool :=
  if j.state = 1 ∨ j.state = 2 then (j.start == 0) && (j.mask == 0) && (j.used == 0) && decide (j.draws.length = 0)
  else if j.state = 3 then wi j.start 0 1099511627776 && nodesB j && (j.used == 0) && drawsOk j.draws
  else if j.state = 4 then wi j.start 0 1099511627776 && (j.mask == 0) && wi j.used 0 j.wall && drawsOk j.draws
  else false
theorem wi_iff (n lo hi : Int) : wi n lo hi = true ↔ lo ≤ n ∧ n ≤ hi := by
  unfold wi
  rw [Bool.and_eq_true, decide_eq_true_iff, decide_eq_true_iff]
theorem good_eq (j : Jb) : (wantsB j && hasB j) = goodJ j := by
  rw [Bool.eq_iff_iff, Bool.and_eq_true]
  unfold goodJ
  rw [Bool.and_eq_true, decide_eq_true_iff]
  have h1 : wantsB j = true ↔ 1 ≤ j.id ∧ 0 ≤ j.fund ∧ j.fund ≤ 7 ∧ 1 ≤ j.nodes ∧ j.nodes ≤ 32 ∧ 1 ≤ j.wall ∧ j.wall ≤ 1048576 ∧ 0 ≤ j.qos ∧ j.qos ≤ 7 ∧ 0 ≤ j.prio ∧ j.prio ≤ 1048576 ∧ 0 ≤ j.price ∧ j.price ≤ 1099511627776 := by
    unfold wantsB
    simp only [Bool.and_eq_true, wi_iff, decide_eq_true_iff, and_assoc]
  rw [h1]
  refine and_congr_right fun _ => ?_
  unfold hasB
  by_cases h12 : j.state = 1 ∨ j.state = 2
  · rw [if_pos h12, if_pos h12]
    simp only [Bool.and_eq_true, beq_iff_eq, decide_eq_true_iff, and_assoc]
  · rw [if_neg h12, if_neg h12, Bool.and_eq_true, Bool.and_eq_true, decide_eq_true_iff]
    by_cases h3 : j.state = 3
    · rw [if_pos h3, if_pos h3]
      unfold nodesB ofN
      simp only [Bool.and_eq_true, beq_iff_eq, decide_eq_true_iff, wi_iff]
      constructor
      · rintro ⟨⟨⟨h, ⟨h4, h5⟩, h6⟩, h7⟩, h8⟩
        exact ⟨⟨h, h8⟩, h4, h5, h6, h7⟩
      · rintro ⟨⟨h, h8⟩, h4, h5, h6, h7⟩
        exact ⟨⟨⟨h, ⟨h4, h5⟩, h6⟩, h7⟩, h8⟩
    · rw [if_neg h3, if_neg h3]
      by_cases h4 : j.state = 4
      · rw [if_pos h4]
        simp only [Bool.and_eq_true, beq_iff_eq, decide_eq_true_iff, wi_iff]
        constructor
        · rintro ⟨⟨⟨h, h5⟩, h6⟩, h7⟩
          exact ⟨⟨h, h7⟩, h4, h5, h6⟩
        · rintro ⟨⟨h, h7⟩, -, h5, h6⟩
          exact ⟨⟨⟨h, h5⟩, h6⟩, h7⟩
      · rw [if_neg h4]
        simp only [decide_eq_true_iff]
        constructor
        · intro h; cases h
        · rintro ⟨-, h, -⟩; exact absurd h h4
set_option maxHeartbeats 16000000 in
theorem has_any (x : Jv) (W : World) (hin : x.In W) : Calls Try.prog 37 #[.agg (encJ x).toArray] W fun e w' => e = .returned (.bool (hasB x.t)) ∧ Below W.heap.size W w' := by
  have HN := Lib.hid (fun w => nodes_any x w)
  obtain ⟨w9, hw9⟩ : ∃ z, z = W.alloc (.cells (encJ x).toArray 40) := ⟨_, rfl⟩
  obtain ⟨B1, hB1⟩ : ∃ z, z = W.heap.size := ⟨_, rfl⟩
  have hk : Arr.Blk w9 B1 40 (encJ x) := by rw [hw9, hB1]; exact blk_boxJ W x
  have hb : Below W.heap.size W w9 := by rw [hw9]; exact below_alloc W _
  have HB := Lib.hid hb
  have hlen := hin.len
  have hDr : Draws w9 x.a x.n x.c x.t.draws := lst_keep encD_len hin hb
  obtain ⟨⟨x0, x1, x2, x3, x4, x5, x6, x7, x8, x9, x10, xd⟩, xa, xn, xc⟩ := x
  simp only at hDr hlen
  have p0 := Arr.blk_cell hk 0
  have p1 := Arr.blk_cell hk 1
  have p2 := Arr.blk_cell hk 2
  have p3 := Arr.blk_cell hk 3
  have p4 := Arr.blk_cell hk 4
  have p5 := Arr.blk_cell hk 5
  have p6 := Arr.blk_cell hk 6
  have p7 := Arr.blk_cell hk 7
  have p8 := Arr.blk_cell hk 8
  have p9 := Arr.blk_cell hk 9
  have p10 := Arr.blk_cell hk 10
  have p11 := Arr.blk_cell hk 11
  simp only [encJ, List.getElem?_cons_zero, List.getElem?_cons_succ] at p0 p1 p2 p3 p4 p5 p6 p7 p8 p9 p10 p11
  have HK := Lib.hid hk
  have HDr := Lib.hid (fun w (hbw : Below w9.heap.size w9 w) => drawn_any w xa xn xc xd (lst_keep encD_len hDr hbw))
  have HLen := Lib.hid hlen
  have HEq := Lib.hid (show hasB (⟨x0, x1, x2, x3, x4, x5, x6, x7, x8, x9, x10, xd⟩ : Jb) = (if x7 = 1 ∨ x7 = 2 then (x8 == 0) && (x9 == 0) && (x10 == 0) && decide (xd.length = 0) else if x7 = 3 then wi x8 0 1099511627776 && nodesB (⟨x0, x1, x2, x3, x4, x5, x6, x7, x8, x9, x10, xd⟩ : Jb) && (x10 == 0) && drawsOk xd else if x7 = 4 then wi x8 0 1099511627776 && (x9 == 0) && wi x10 0 x3 && drawsOk xd else false) from rfl)
  unfold encJ at hw9
  have HW := Lib.hid (And.intro hw9 hB1)
  obtain ⟨dr, hdr⟩ : ∃ z, z = drawsOk xd := ⟨_, rfl⟩
  obtain ⟨nd, hnd⟩ : ∃ z, z = nodesB (⟨x0, x1, x2, x3, x4, x5, x6, x7, x8, x9, x10, xd⟩ : Jb) := ⟨_, rfl⟩
  rw [← hdr] at HDr HEq
  simp only at HN
  rw [← hnd] at HN HEq
  clear hw9 hB1 hk hb hin hlen hDr hdr hnd
  unfold encJ at HN ⊢
  by_cases h12 : x7 = 1 ∨ x7 = 2
  · have HEq2 := Lib.hid (show hasB (⟨x0, x1, x2, x3, x4, x5, x6, x7, x8, x9, x10, xd⟩ : Jb) = ((x8 == 0) && (x9 == 0) && (x10 == 0) && decide (xd.length = 0)) by rw [HEq.out, if_pos h12])
    have hz : decide (xd.length = 0) = ((xn : Int) == 0) := by rw [Bool.eq_iff_iff, decide_eq_true_iff, beq_iff_eq, HLen.out]; omega
    rw [hz] at HEq2
    clear hz HEq HN HDr
    rcases h12 with rfl | rfl
    all_goals
      by_cases c8 : x8 = 0
      · subst c8
        by_cases c9 : x9 = 0
        · subst c9
          by_cases c10 : x10 = 0
          · subst c10
            by_cases cn : xn = 0
            · subst cn
              have HE := Lib.hid (HEq2.out.trans (show _ = true from rfl))
              go_enter Try.func37, Try.ntmps37
              go_wp2_with fail
              rw [← HW.out.1, ← HW.out.2]
              go_wp2_with fail
              go_ret
              exact ⟨by rw [HE.out]; rfl, by first | exact HB.out | (rw [HW.out.2]; exact HB.out)⟩
            · have cb : ((xn : Int) == 0) = false := beq_false_of_ne (by omega)
              have HE := Lib.hid (HEq2.out.trans (show _ = false by rw [cb]; rfl))
              go_enter Try.func37, Try.ntmps37
              go_wp2_with fail
              rw [← HW.out.1, ← HW.out.2]
              go_wp2_with fail
              go_ret
              exact ⟨by rw [HE.out]; rfl, by first | exact HB.out | (rw [HW.out.2]; exact HB.out)⟩
          · have cb : (x10 == 0) = false := beq_false_of_ne c10
            have HE := Lib.hid (HEq2.out.trans (show _ = false by rw [cb]; simp))
            go_enter Try.func37, Try.ntmps37
            go_wp2_with fail
            rw [← HW.out.1, ← HW.out.2]
            go_wp2_with fail
            go_ret
            exact ⟨by rw [HE.out]; rfl, by first | exact HB.out | (rw [HW.out.2]; exact HB.out)⟩
        · have cb : (x9 == 0) = false := beq_false_of_ne c9
          have HE := Lib.hid (HEq2.out.trans (show _ = false by rw [cb]; simp))
          go_enter Try.func37, Try.ntmps37
          go_wp2_with fail
          rw [← HW.out.1, ← HW.out.2]
          go_wp2_with fail
          go_ret
          exact ⟨by rw [HE.out]; rfl, by first | exact HB.out | (rw [HW.out.2]; exact HB.out)⟩
      · have cb : (x8 == 0) = false := beq_false_of_ne c8
        have HE := Lib.hid (HEq2.out.trans (show _ = false by rw [cb]; simp))
        go_enter Try.func37, Try.ntmps37
        go_wp2_with fail
        rw [← HW.out.1, ← HW.out.2]
        go_wp2_with fail
        go_ret
        exact ⟨by rw [HE.out]; rfl, by first | exact HB.out | (rw [HW.out.2]; exact HB.out)⟩
  · have n1 : ¬ x7 = 1 := fun h => h12 (.inl h)
    have n2 : ¬ x7 = 2 := fun h => h12 (.inr h)
    by_cases c3 : x7 = 3
    · have HEq2 := Lib.hid (show hasB (⟨x0, x1, x2, x3, x4, x5, x6, x7, x8, x9, x10, xd⟩ : Jb) = (wi x8 0 1099511627776 && nd && (x10 == 0) && dr) by rw [HEq.out, if_neg h12, if_pos c3])
      clear HEq h12
      subst c3
      clear n1 n2
      cases h1 : wi x8 0 1099511627776 with
      | false =>
        have HE := Lib.hid (HEq2.out.trans (show _ = false by rw [h1]; simp))
        have H1 := Lib.hid h1
        clear h1
        go_enter Try.func37, Try.ntmps37
        go_wp2_with fail
        rw [← HW.out.1, ← HW.out.2]
        go_wp2_with fail
        refine (within_any _ _ _ _).mono ?_
        rintro e w1 h1
        obtain ⟨rfl, h0⟩ := h1
        replace h0 := h0.symm
        subst h0
        rw [H1.out]
        go_wp2_with fail
        go_ret
        exact ⟨by rw [HE.out]; rfl, by first | exact HB.out | (rw [HW.out.2]; exact HB.out)⟩
      | true =>
        have H1 := Lib.hid h1
        rw [h1] at HEq2
        clear h1
        cases nd with
        | false =>
          have HE := Lib.hid (HEq2.out.trans (show _ = false by simp))
          go_enter Try.func37, Try.ntmps37
          go_wp2_with fail
          rw [← HW.out.1, ← HW.out.2]
          go_wp2_with fail
          refine (within_any _ _ _ _).mono ?_
          rintro e w1 h1
          obtain ⟨rfl, h0⟩ := h1
          replace h0 := h0.symm
          subst h0
          rw [H1.out]
          go_wp2_with fail
          refine (HN.out _).mono ?_
          rintro e w8 ⟨rfl, hb8⟩
          have HB8 := Lib.hid (And.intro hb8 (below_keep HB.out hb8))
          have r10 := cell_keep hb8 p10
          have r11 := cell_keep hb8 p11
          clear hb8 p0 p1 p2 p3 p4 p5 p6 p7 p8 p9 p10 p11
          go_wp2_with fail
          go_ret
          exact ⟨by rw [HE.out]; rfl, by first | exact HB8.out.2 | (rw [HW.out.2]; exact HB8.out.2)⟩
        | true =>
          by_cases c10 : x10 = 0
          · subst c10
            have HE := Lib.hid (HEq2.out.trans (show _ = dr by simp))
            go_enter Try.func37, Try.ntmps37
            go_wp2_with fail
            rw [← HW.out.1, ← HW.out.2]
            go_wp2_with fail
            refine (within_any _ _ _ _).mono ?_
            rintro e w1 h1
            obtain ⟨rfl, h0⟩ := h1
            replace h0 := h0.symm
            subst h0
            rw [H1.out]
            go_wp2_with fail
            refine (HN.out _).mono ?_
            rintro e w8 ⟨rfl, hb8⟩
            have HB8 := Lib.hid (And.intro hb8 (below_keep HB.out hb8))
            have r10 := cell_keep hb8 p10
            have r11 := cell_keep hb8 p11
            clear hb8 p0 p1 p2 p3 p4 p5 p6 p7 p8 p9 p10 p11
            go_wp2_with fail
            refine (HDr.out _ HB8.out.1).mono ?_
            rintro e w7 ⟨rfl, hb7⟩
            have HB7 := Lib.hid (below_keep HB8.out.2 hb7)
            clear hb7
            go_wp2_with fail
            go_ret
            exact ⟨by rw [HE.out]; rfl, by first | exact HB7.out | (rw [HW.out.2]; exact HB7.out)⟩
          · have cb : (x10 == 0) = false := beq_false_of_ne c10
            have HE := Lib.hid (HEq2.out.trans (show _ = false by rw [cb]; simp))
            go_enter Try.func37, Try.ntmps37
            go_wp2_with fail
            rw [← HW.out.1, ← HW.out.2]
            go_wp2_with fail
            refine (within_any _ _ _ _).mono ?_
            rintro e w1 h1
            obtain ⟨rfl, h0⟩ := h1
            replace h0 := h0.symm
            subst h0
            rw [H1.out]
            go_wp2_with fail
            refine (HN.out _).mono ?_
            rintro e w8 ⟨rfl, hb8⟩
            have HB8 := Lib.hid (And.intro hb8 (below_keep HB.out hb8))
            have r10 := cell_keep hb8 p10
            have r11 := cell_keep hb8 p11
            clear hb8 p0 p1 p2 p3 p4 p5 p6 p7 p8 p9 p10 p11
            go_wp2_with fail
            go_ret
            exact ⟨by rw [HE.out]; rfl, by first | exact HB8.out.2 | (rw [HW.out.2]; exact HB8.out.2)⟩
    · by_cases c4 : x7 = 4
      · have HEq2 := Lib.hid (show hasB (⟨x0, x1, x2, x3, x4, x5, x6, x7, x8, x9, x10, xd⟩ : Jb) = (wi x8 0 1099511627776 && (x9 == 0) && wi x10 0 x3 && dr) by rw [HEq.out, if_neg h12, if_neg c3, if_pos c4])
        clear HEq h12 c3
        subst c4
        clear n1 n2 HN
        cases h1 : wi x8 0 1099511627776 with
        | false =>
          have HE := Lib.hid (HEq2.out.trans (show _ = false by rw [h1]; simp))
          have H1 := Lib.hid h1
          clear h1
          go_enter Try.func37, Try.ntmps37
          go_wp2_with fail
          rw [← HW.out.1, ← HW.out.2]
          go_wp2_with fail
          refine (within_any _ _ _ _).mono ?_
          rintro e w1 h1
          obtain ⟨rfl, h0⟩ := h1
          replace h0 := h0.symm
          subst h0
          rw [H1.out]
          go_wp2_with fail
          go_ret
          exact ⟨by rw [HE.out]; rfl, by first | exact HB.out | (rw [HW.out.2]; exact HB.out)⟩
        | true =>
          have H1 := Lib.hid h1
          rw [h1] at HEq2
          clear h1
          by_cases c9 : x9 = 0
          · subst c9
            cases h2 : wi x10 0 x3 with
            | false =>
              have HE := Lib.hid (HEq2.out.trans (show _ = false by rw [h2]; simp))
              have H2 := Lib.hid h2
              clear h2
              go_enter Try.func37, Try.ntmps37
              go_wp2_with fail
              rw [← HW.out.1, ← HW.out.2]
              go_wp2_with fail
              refine (within_any _ _ _ _).mono ?_
              rintro e w1 h1
              obtain ⟨rfl, h0⟩ := h1
              replace h0 := h0.symm
              subst h0
              rw [H1.out]
              go_wp2_with fail
              refine (within_any _ _ _ _).mono ?_
              rintro e w1 h1
              obtain ⟨rfl, h0⟩ := h1
              replace h0 := h0.symm
              subst h0
              rw [H2.out]
              go_wp2_with fail
              go_ret
              exact ⟨by rw [HE.out]; rfl, by first | exact HB.out | (rw [HW.out.2]; exact HB.out)⟩
            | true =>
              have HE := Lib.hid (HEq2.out.trans (show _ = dr by rw [h2]; simp))
              have H2 := Lib.hid h2
              clear h2
              go_enter Try.func37, Try.ntmps37
              go_wp2_with fail
              rw [← HW.out.1, ← HW.out.2]
              go_wp2_with fail
              refine (within_any _ _ _ _).mono ?_
              rintro e w1 h1
              obtain ⟨rfl, h0⟩ := h1
              replace h0 := h0.symm
              subst h0
              rw [H1.out]
              go_wp2_with fail
              refine (within_any _ _ _ _).mono ?_
              rintro e w1 h1
              obtain ⟨rfl, h0⟩ := h1
              replace h0 := h0.symm
              subst h0
              rw [H2.out]
              go_wp2_with fail
              refine (HDr.out _ (Below.refl _ _)).mono ?_
              rintro e w7 ⟨rfl, hb7⟩
              have HB7 := Lib.hid (below_keep HB.out hb7)
              clear hb7
              go_wp2_with fail
              go_ret
              exact ⟨by rw [HE.out]; rfl, by first | exact HB7.out | (rw [HW.out.2]; exact HB7.out)⟩
          · have cb : (x9 == 0) = false := beq_false_of_ne c9
            have HE := Lib.hid (HEq2.out.trans (show _ = false by rw [cb]; simp))
            go_enter Try.func37, Try.ntmps37
            go_wp2_with fail
            rw [← HW.out.1, ← HW.out.2]
            go_wp2_with fail
            refine (within_any _ _ _ _).mono ?_
            rintro e w1 h1
            obtain ⟨rfl, h0⟩ := h1
            replace h0 := h0.symm
            subst h0
            rw [H1.out]
            go_wp2_with fail
            go_ret
            exact ⟨by rw [HE.out]; rfl, by first | exact HB.out | (rw [HW.out.2]; exact HB.out)⟩
      · have HE := Lib.hid (show hasB (⟨x0, x1, x2, x3, x4, x5, x6, x7, x8, x9, x10, xd⟩ : Jb) = false by rw [HEq.out, if_neg h12, if_neg c3, if_neg c4])
        clear HEq h12 HN HDr
        go_enter Try.func37, Try.ntmps37
        go_wp2_with fail
        rw [← HW.out.1, ← HW.out.2]
        go_wp2_with fail
        go_ret
        exact ⟨by rw [HE.out]; rfl, by first | exact HB.out | (rw [HW.out.2]; exact HB.out)⟩
set_option maxHeartbeats 4000000 in
theorem good_any (x : Jv) (W : World) (hin : x.In W) : Calls Try.prog 21 #[.agg (encJ x).toArray] W fun e w' => e = .returned (.bool (goodJ x.t)) ∧ Below W.heap.size W w' := by
  obtain ⟨w9, hw9⟩ : ∃ z, z = W.alloc (.cells (encJ x).toArray 40) := ⟨_, rfl⟩
  obtain ⟨B1, hB1⟩ : ∃ z, z = W.heap.size := ⟨_, rfl⟩
  have hk : Arr.Blk w9 B1 40 (encJ x) := by rw [hw9, hB1]; exact blk_boxJ W x
  have hb : Below W.heap.size W w9 := by rw [hw9]; exact below_alloc W _
  have HB := Lib.hid (And.intro hb (And.intro hk (lst_keep encD_len hin hb)))
  have HWa := Lib.hid (fun w => wants_any x w)
  have HHa := Lib.hid (fun w (hw : Draws w x.a x.n x.c x.t.draws) => has_any x w hw)
  have HE := Lib.hid (good_eq x.t)
  have HW := Lib.hid (And.intro hw9 hB1)
  obtain ⟨wb, hwb⟩ : ∃ z, z = wantsB x.t := ⟨_, rfl⟩
  rw [← hwb] at HWa HE
  clear hw9 hB1 hk hb hin hwb
  go_enter Try.func21, Try.ntmps21
  go_upto_region 1 with fail
  rw [← HW.out.1, ← HW.out.2]
  go_wp2_with (first | (refine Arr.wpList_load_blk rfl 40 (.tmp 1) rfl B1 rfl (encJ x) 40 HB.out.2.1 _ Try.underlying40 rfl info_job12 ?_) | fail)
  refine (HWa.out _).mono ?_
  rintro e w8 ⟨rfl, hb8⟩
  have HB8 := Lib.hid (And.intro (below_keep HB.out.1 hb8) (And.intro (Arr.blk_below HB.out.2.1 hb8 (Arr.blk_lt HB.out.2.1)) (lst_keep encD_len HB.out.2.2 hb8)))
  clear hb8 HWa
  cases wb with
  | false =>
    have HE2 := Lib.hid (HE.out.symm.trans (show _ = false from rfl))
    clear HHa
    go_wp2_with fail
    go_ret
    exact ⟨by rw [HE2.out]; rfl, by first | exact HB8.out.1 | (rw [HW.out.2]; exact HB8.out.1)⟩
  | true =>
    have HE2 := Lib.hid (HE.out.symm.trans (show _ = hasB x.t from rfl))
    obtain ⟨⟨x0, x1, x2, x3, x4, x5, x6, x7, x8, x9, x10, xd⟩, xa, xn, xc⟩ := x
    have hk := HB8.out.2.1
    have p0 := Arr.blk_cell hk 0
    have p1 := Arr.blk_cell hk 1
    have p2 := Arr.blk_cell hk 2
    have p3 := Arr.blk_cell hk 3
    have p4 := Arr.blk_cell hk 4
    have p5 := Arr.blk_cell hk 5
    have p6 := Arr.blk_cell hk 6
    have p7 := Arr.blk_cell hk 7
    have p8 := Arr.blk_cell hk 8
    have p9 := Arr.blk_cell hk 9
    have p10 := Arr.blk_cell hk 10
    have p11 := Arr.blk_cell hk 11
    simp only [encJ, List.getElem?_cons_zero, List.getElem?_cons_succ] at p0 p1 p2 p3 p4 p5 p6 p7 p8 p9 p10 p11
    clear hk
    go_wp2_with fail
    refine (HHa.out _ HB8.out.2.2).mono ?_
    rintro e w7 ⟨rfl, hb7⟩
    have HB7 := Lib.hid (below_keep HB8.out.1 hb7)
    clear hb7
    go_wp2_with fail
    go_ret
    exact ⟨by rw [HE2.out]; rfl, by first | exact HB7.out | (rw [HW.out.2]; exact HB7.out)⟩

/-- What the landed jobs do. -/
theorem job_prog : Prog where
  find W a n c l id h _ := find_any W a n c l id h
  good W x h _ := good_any x W h
  mask W a n c l h hn := mask_any W a n c l h hn
  busy W a n c l h hn hok := (busy_any W a n c l h hn hok).mono fun e w' ⟨v, he, ho, hb⟩ => by
    obtain ⟨a', c', rfl, hz⟩ := Prf.own_busys ho
    exact ⟨a', c', he, hz, hb⟩
  boxes W a n c l h hn hok := (boxes_any W a n c l h hn hok).mono fun e w' ⟨v, he, ho, hb⟩ => by
    obtain ⟨a', c', rfl, hz⟩ := own_boxes ho
    exact ⟨a', c', he, hz, hb⟩
  due W a n c l now h hn hok := (due_any W a n c l now h hn hok).mono fun e w' ⟨v, he, ho, hb⟩ => ⟨v, he, Tre.newI_own ho, hb⟩
end Go.Proofs.Ytcndihekpdebhaa.Job
