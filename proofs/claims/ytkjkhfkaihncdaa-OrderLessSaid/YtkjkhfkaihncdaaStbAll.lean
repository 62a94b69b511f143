/- The library's slices.SortStableFunc at ints, of up to forty: sorted, stably. -/
import Derived.Test.YtkjkhfkaihncdaaStbIns
namespace Go.Proofs.Ytkjkhfkaihncdaa.Stb
set_option maxRecDepth 100000
open Go.Shelf Go.RowKit Go.Lib Go.Sort
set_option linter.unusedVariables false
variable {α : Type} [Inhabited α]

def Sorted (enc : α → Value) (lt : α → α → Bool) (w0 : World) (blk off : Nat) (d0 : Array α) (e : Ending) (w' : World) : Prop := e = .returned (.tuple #[]) ∧ ∃ d', SW enc w0 blk off d' w' ∧ PermIn 0 d0.size d0 d' ∧ SortedIn lt 0 d0.size d'
variable {lt : α → α → Bool} (hS : SWO lt) (enc : α → Value) (cf : α → α → Int) (g : Nat) (cb : Array Value) (blk off cap : Nat) (d0 : Array α) (w0 : World)
    (eg : ∀ args w, (callFunc g args).run Try.prog w = .ok (.enter g args) w) (hcmp : CmpLays1 Try.prog g cb enc cf blk off d0.size w0) (R : Row1 enc w0 blk off d0)
    (h0 : ∀ p q, p < q → q < d0.size → ltOf cf d0[q]! d0[p]! = lt d0[q]! d0[p]!)
include hS eg hcmp R h0

set_option maxHeartbeats 4000000 in
theorem below20 (hn : d0.size < 20) : Calls Try.prog 17 #[.slice (some ⟨blk, off, none⟩) d0.size cap, .int .i64 d0.size, .func (.func g) #[] cb] w0 (Sorted enc lt w0 blk off d0) := by
  have HI := Lib.hid (ins_any hS enc cf g cb blk off cap 0 d0.size d0 d0 w0 w0 eg hcmp R rfl (SW.start R.hH) (Nat.zero_le _) (Nat.le_refl _) (by omega) (fun p q _ h1 h2 => h0 p q h1 h2))
  obtain ⟨n, hn0⟩ : ∃ n, n = d0.size := ⟨_, rfl⟩
  rw [← hn0] at hn HI ⊢
  have HN := Lib.hid hn0
  clear hn0 h0 hcmp R hS eg
  have h20 : ¬ (20 : Int) ≤ (n : Int) := by omega
  have h21 : ¬ (20 : Int) < (n : Int) := by omega
  go_enter Try.func17, Try.ntmps17
  go_wp2_with fail
  refine wp_loop_rounds 1 ?_
  rw [rounds_succ]
  go_wp2_with fail
  refine HI.out.mono ?_
  rintro e w2 ⟨rfl, d1, q1, q2, q3⟩
  have HZ := Lib.hid (And.intro q1 (And.intro q2 q3))
  clear q1 q2 q3
  go_wp2_with fail
  refine wp_loop_rounds 1 ?_
  rw [rounds_succ]
  go_wp2_with fail
  go_end0
  exact ⟨rfl, d1, HZ.out.1, by rw [← HN.out]; exact HZ.out.2.1, by rw [← HN.out]; exact HZ.out.2.2⟩

set_option maxHeartbeats 4000000 in
theorem at20 (hn : d0.size = 20) : Calls Try.prog 17 #[.slice (some ⟨blk, off, none⟩) d0.size cap, .int .i64 d0.size, .func (.func g) #[] cb] w0 (Sorted enc lt w0 blk off d0) := by
  have HI := Lib.hid (ins_any hS enc cf g cb blk off cap 0 20 d0 d0 w0 w0 eg hcmp R rfl (SW.start R.hH) (by omega) (by omega) (by omega) (fun p q _ h1 h2 => h0 p q h1 (by omega)))
  have HI2 := Lib.hid (fun (w2 : World) (d1 : Array α) (hs1 : d0.size = d1.size) (S1 : SW enc w0 blk off d1 w2) => ins_any hS enc cf g cb blk off cap 20 20 d0 d1 w0 w2 eg hcmp R hs1 S1 (by omega) (by omega) (by omega) (fun p q h1 h2 h3 => by omega))
  have HN := Lib.hid hn
  rw [hn] at HI ⊢
  clear h0 hcmp R hS eg hn
  go_enter Try.func17, Try.ntmps17
  go_wp2_with fail
  refine wp_loop_rounds 2 ?_
  rw [rounds_succ]
  go_wp2_with fail
  refine HI.out.mono ?_
  rintro e w2 ⟨rfl, d1, q1, q2, q3⟩
  have hs1 : d1.size = 20 := by rw [q2.1, HN.out]
  have HC := HI2.out w2 d1 (by rw [hs1, HN.out]) q1
  rw [hs1] at HC
  have HC2 := Lib.hid HC
  have HZ := Lib.hid (And.intro q2 q3)
  clear q1 q2 q3 hs1 HC
  go_wp2_with fail
  rw [rounds_succ]
  go_wp2_with fail
  refine HC2.out.mono ?_
  rintro e w3 ⟨rfl, d2, q1, q2, q3⟩
  have HY := Lib.hid (And.intro q1 q2)
  clear q1 q2 q3
  go_wp2_with fail
  refine wp_loop_rounds 1 ?_
  rw [rounds_succ]
  go_wp2_with fail
  go_end0
  refine ⟨rfl, d2, HY.out.1, ?_, ?_⟩
  · rw [HN.out]
    exact permIn_trans _ _ _ _ _ HZ.out.1 (permIn_mono _ _ 20 20 0 20 (by omega) (by omega) (by rw [HZ.out.1.1, HN.out]; omega) HY.out.2)
  · rw [HN.out]
    exact sorted_perm' HY.out.2 HZ.out.2

set_option maxHeartbeats 8000000 in
theorem below40 (hn : 20 < d0.size) (hn2 : d0.size < 40) : Calls Try.prog 17 #[.slice (some ⟨blk, off, none⟩) d0.size cap, .int .i64 d0.size, .func (.func g) #[] cb] w0 (Sorted enc lt w0 blk off d0) := by
  have HI := Lib.hid (ins_any hS enc cf g cb blk off cap 0 20 d0 d0 w0 w0 eg hcmp R rfl (SW.start R.hH) (by omega) (by omega) (by omega) (fun p q _ h1 h2 => h0 p q h1 (by omega)))
  obtain ⟨n, hn0⟩ : ∃ n, n = d0.size := ⟨_, rfl⟩
  have HI2 := Lib.hid (fun (w2 : World) (d1 : Array α) (hp : PermIn 0 20 d0 d1) (S1 : SW enc w0 blk off d1 w2) => by
    have := ins_any hS enc cf g cb blk off cap 20 n d0 d1 w0 w2 eg hcmp R hp.1.symm S1 (by omega) (by rw [hp.1]; omega) (by rw [hp.1]; omega) (fun p q h1 h2 h3 => by rw [hp.2.1 p (by omega), hp.2.1 q (by omega)]; exact h0 p q h2 (by omega))
    rwa [hp.1, ← hn0] at this)
  have HM := Lib.hid (fun (w3 : World) (d1 d2 : Array α) (hp1 : PermIn 0 20 d0 d1) (hs1 : SortedIn lt 0 20 d1) (hp2 : PermIn 20 n d1 d2) (hs2 : SortedIn lt 20 n d2) (S2 : SW enc w0 blk off d2 w3) => by
    have e2 : d2.size = d0.size := by rw [hp2.1, hp1.1]
    have := sym_any hS enc cf g cb blk off cap d0 w0 eg hcmp R (by omega) n 0 20 n d2 w3 (by omega) e2.symm S2 (by omega) (by omega) (by omega) (sorted_perm' hp2 hs1) hs2 (stb_permR (by rw [hp1.1]; omega) hp2 (stb_perm (by omega) hp1 (by omega) (fun i j h1 h2 h3 h4 => h0 i j (by omega) (by omega))))
    rwa [e2, ← hn0] at this)
  rw [← hn0] at hn hn2 HI ⊢
  have HN := Lib.hid hn0
  clear hn0 h0 hcmp R hS eg
  have h20 : (20 : Int) ≤ (n : Int) := by omega
  have h40 : ¬ (40 : Int) ≤ (n : Int) := by omega
  have h21 : (20 : Int) < (n : Int) := by omega
  have h41 : ¬ (40 : Int) < (n : Int) := by omega
  go_enter Try.func17, Try.ntmps17
  go_wp2_with fail
  refine wp_loop_rounds 2 ?_
  rw [rounds_succ]
  go_wp2_with fail
  refine HI.out.mono ?_
  rintro e w2 ⟨rfl, d1, q1, q2, q3⟩
  have HC2 := Lib.hid (HI2.out w2 d1 q2 q1)
  have HZ := Lib.hid (And.intro q2 q3)
  clear q1 q2 q3
  go_wp2_with fail
  rw [rounds_succ]
  go_wp2_with fail
  refine HC2.out.mono ?_
  rintro e w3 ⟨rfl, d2, q1, q2, q3⟩
  have HC3 := Lib.hid (HM.out w3 d1 d2 HZ.out.1 HZ.out.2 q2 q3 q1)
  have HY := Lib.hid q2
  clear q1 q2 q3
  go_wp2_with fail
  refine wp_loop_rounds 2 ?_
  rw [rounds_succ]
  go_wp2_with fail
  refine wp_loop_rounds 1 ?_
  rw [rounds_succ]
  go_wp2_with fail
  refine HC3.out.mono ?_
  rintro e w4 ⟨rfl, d3, q1, q2, q3⟩
  have HX := Lib.hid (And.intro q1 (And.intro q2 q3))
  clear q1 q2 q3
  go_wp2_with fail
  rw [rounds_succ]
  go_wp2_with fail
  go_end0
  refine ⟨rfl, d3, HX.out.1, ?_, by rw [← HN.out]; exact HX.out.2.2⟩
  have e1 : d1.size = n := by rw [HZ.out.1.1, HN.out]
  rw [← HN.out]
  exact permIn_trans _ _ _ _ _ (permIn_mono _ _ 0 20 0 n (by omega) (by omega) (by rw [← HN.out]; omega) HZ.out.1) (permIn_trans _ _ _ _ _ (permIn_mono _ _ 20 n 0 n (by omega) (by omega) (by omega) HY.out) HX.out.2.1)

set_option maxHeartbeats 8000000 in
theorem at40 (hn : d0.size = 40) : Calls Try.prog 17 #[.slice (some ⟨blk, off, none⟩) d0.size cap, .int .i64 d0.size, .func (.func g) #[] cb] w0 (Sorted enc lt w0 blk off d0) := by
  have HI := Lib.hid (ins_any hS enc cf g cb blk off cap 0 20 d0 d0 w0 w0 eg hcmp R rfl (SW.start R.hH) (by omega) (by omega) (by omega) (fun p q _ h1 h2 => h0 p q h1 (by omega)))
  have HI2 := Lib.hid (fun (w2 : World) (d1 : Array α) (hp : PermIn 0 20 d0 d1) (S1 : SW enc w0 blk off d1 w2) => by
    have := ins_any hS enc cf g cb blk off cap 20 40 d0 d1 w0 w2 eg hcmp R hp.1.symm S1 (by omega) (by rw [hp.1]; omega) (by rw [hp.1]; omega) (fun p q h1 h2 h3 => by rw [hp.2.1 p (by omega), hp.2.1 q (by omega)]; exact h0 p q h2 (by omega))
    rwa [hp.1, hn] at this)
  have HI3 := Lib.hid (fun (w2 : World) (d1 : Array α) (hs1 : d1.size = d0.size) (S1 : SW enc w0 blk off d1 w2) => by
    have := ins_any hS enc cf g cb blk off cap 40 40 d0 d1 w0 w2 eg hcmp R hs1.symm S1 (by omega) (by omega) (by omega) (fun p q h1 h2 h3 => by omega)
    rwa [hs1, hn] at this)
  have HM := Lib.hid (fun (w3 : World) (d1 d2 d3 : Array α) (hp1 : PermIn 0 20 d0 d1) (hs1 : SortedIn lt 0 20 d1) (hp2 : PermIn 20 40 d1 d2) (hs2 : SortedIn lt 20 40 d2) (hp3 : PermIn 40 40 d2 d3) (S2 : SW enc w0 blk off d3 w3) => by
    have e2 : d3.size = d0.size := by rw [hp3.1, hp2.1, hp1.1]
    have e3 : ∀ i, d3[i]! = d2[i]! := fun i => hp3.2.1 i (by omega)
    have q1 : SortedIn lt 0 20 d3 := fun i j h1 h2 h3 => by rw [e3, e3]; exact sorted_perm' hp2 hs1 i j h1 h2 h3
    have q2 : SortedIn lt 20 40 d3 := fun i j h1 h2 h3 => by rw [e3, e3]; exact hs2 i j h1 h2 h3
    have q3 : Stb (ltOf cf) lt 0 20 40 d2 := stb_permR (by rw [hp1.1]; omega) hp2 (stb_perm (by omega) hp1 (by omega) (fun i j h1 h2 h3 h4 => h0 i j (by omega) (by omega)))
    have q4 : Stb (ltOf cf) lt 0 20 40 d3 := fun i j h1 h2 h3 h4 => by rw [e3, e3]; exact q3 i j h1 h2 h3 h4
    have := sym_any hS enc cf g cb blk off cap d0 w0 eg hcmp R (by omega) 40 0 20 40 d3 w3 (by omega) e2.symm S2 (by omega) (by omega) (by omega) q1 q2 q4
    rwa [e2, hn] at this)
  have HN := Lib.hid hn
  rw [hn] at HI ⊢
  clear h0 hcmp R hS eg hn
  go_enter Try.func17, Try.ntmps17
  go_wp2_with fail
  refine wp_loop_rounds 3 ?_
  rw [rounds_succ]
  go_wp2_with fail
  refine HI.out.mono ?_
  rintro e w2 ⟨rfl, d1, q1, q2, q3⟩
  have HC2 := Lib.hid (HI2.out w2 d1 q2 q1)
  have HZ := Lib.hid (And.intro q2 q3)
  clear q1 q2 q3
  go_wp2_with fail
  rw [rounds_succ]
  go_wp2_with fail
  refine HC2.out.mono ?_
  rintro e w3 ⟨rfl, d2, q1, q2, q3⟩
  have HC3 := Lib.hid (HI3.out w3 d2 (by rw [q2.1, HZ.out.1.1]) q1)
  have HY := Lib.hid (And.intro q2 q3)
  clear q1 q2 q3
  go_wp2_with fail
  rw [rounds_succ]
  go_wp2_with fail
  refine HC3.out.mono ?_
  rintro e w4 ⟨rfl, d3, q1, q2, q3⟩
  have HC4 := Lib.hid (HM.out w4 d1 d2 d3 HZ.out.1 HZ.out.2 HY.out.1 HY.out.2 q2 q1)
  have HX := Lib.hid q2
  clear q1 q2 q3
  go_wp2_with fail
  refine wp_loop_rounds 2 ?_
  rw [rounds_succ]
  go_wp2_with fail
  refine wp_loop_rounds 2 ?_
  rw [rounds_succ]
  go_wp2_with fail
  refine HC4.out.mono ?_
  rintro e w5 ⟨rfl, d4, q1, q2, q3⟩
  have HV := Lib.hid (And.intro q1 (And.intro q2 q3))
  clear q1 q2 q3
  go_wp2_with fail
  rw [rounds_succ]
  go_wp2_with fail
  rw [rounds_succ]
  go_wp2_with fail
  go_end0
  refine ⟨rfl, d4, HV.out.1, ?_, by rw [HN.out]; exact HV.out.2.2⟩
  have e1 : d1.size = 40 := by rw [HZ.out.1.1, HN.out]
  have e2 : d2.size = 40 := by rw [HY.out.1.1, e1]
  rw [HN.out]
  exact permIn_trans _ _ _ _ _ (permIn_mono _ _ 0 20 0 40 (by omega) (by omega) (by rw [HN.out]; omega) HZ.out.1) (permIn_trans _ _ _ _ _ (permIn_mono _ _ 20 40 0 40 (by omega) (by omega) (by omega) HY.out.1) (permIn_trans _ _ _ _ _ (permIn_mono _ _ 40 40 0 40 (by omega) (by omega) (by omega) HX.out) HV.out.2.1))

/-- slices.SortStableFunc of up to forty. -/
theorem stable_any (hn : d0.size ≤ 40) : Calls Try.prog 13 #[.slice (some ⟨blk, off, none⟩) d0.size cap, .func (.func g) #[] cb] w0 (Sorted enc lt w0 blk off d0) := by
  have HS : Hid (Calls Try.prog 17 #[.slice (some ⟨blk, off, none⟩) d0.size cap, .int .i64 d0.size, .func (.func g) #[] cb] w0 (Sorted enc lt w0 blk off d0)) := by
    refine Lib.hid ?_
    rcases Nat.lt_or_ge d0.size 20 with h | h
    · exact below20 hS enc cf g cb blk off cap d0 w0 eg hcmp R h0 h
    · rcases Nat.eq_or_lt_of_le h with h | h
      · exact at20 hS enc cf g cb blk off cap d0 w0 eg hcmp R h0 h.symm
      · rcases Nat.eq_or_lt_of_le hn with h2 | h2
        · exact at40 hS enc cf g cb blk off cap d0 w0 eg hcmp R h0 h2
        · exact below40 hS enc cf g cb blk off cap d0 w0 eg hcmp R h0 h h2
  clear h0 hcmp R hS eg
  go_enter Try.func13, Try.ntmps13
  go_wp2_with fail
  refine HS.out.mono ?_
  rintro e w2 ⟨rfl, d1, q1, q2, q3⟩
  have HZ := Lib.hid (And.intro q1 (And.intro q2 q3))
  clear q1 q2 q3
  go_wp2_with fail
  go_end0
  exact ⟨rfl, d1, HZ.out⟩
omit hS eg hcmp R h0 in
/-- .. of none. -/
theorem stable_none (w : World) (a : Option Addr) (cap : Nat) (fv : Value) : Calls Try.prog 13 #[.slice a 0 cap, fv] w fun e w' => e = .returned (.tuple #[]) ∧ w = w' := by
  have HI : Hid (Calls Try.prog 19 #[.slice a 0 cap, .int .i64 (0 : Nat), .int .i64 (0 : Nat), fv] w fun e w' => e = .returned (.tuple #[]) ∧ w = w') := by
    refine Lib.hid ?_
    go_enter Try.func19, Try.ntmps19
    go_wp2_with fail
    refine wp_loop_rounds 1 ?_
    rw [rounds_succ]
    go_wp2_with fail
    go_end0
    exact ⟨rfl, rfl⟩
  have HS : Hid (Calls Try.prog 17 #[.slice a 0 cap, .int .i64 (0 : Nat), fv] w fun e w' => e = .returned (.tuple #[]) ∧ w = w') := by
    refine Lib.hid ?_
    go_enter Try.func17, Try.ntmps17
    go_wp2_with fail
    refine wp_loop_rounds 1 ?_
    rw [rounds_succ]
    go_wp2_with fail
    refine HI.out.mono ?_
    rintro e w2 ⟨rfl, rfl⟩
    go_wp2_with fail
    refine wp_loop_rounds 1 ?_
    rw [rounds_succ]
    go_wp2_with fail
    go_end0
    exact ⟨rfl, rfl⟩
  clear HI
  go_enter Try.func13, Try.ntmps13
  go_wp2_with fail
  refine HS.out.mono ?_
  rintro e w2 ⟨rfl, rfl⟩
  go_wp2_with fail
  go_end0
  exact ⟨rfl, rfl⟩
end Go.Proofs.Ytkjkhfkaihncdaa.Stb
