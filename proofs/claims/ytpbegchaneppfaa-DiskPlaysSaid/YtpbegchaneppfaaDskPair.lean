/- Disk: the program's disk, by what it does, beside the document's: they stay alike whatever is done to both. -/
import Derived.Test.YtpbegchaneppfaaDskS
import Derived.Deep.MidRow
namespace Go.Proofs.Ytpbegchaneppfaa.Dsk
open Go.RowKit
open Go.Sort
open Kit
open Oct
open Foot
set_option linter.unusedVariables false

/-- Bytes that were read: in a block of their own. -/
def RdB (w : World) (base : Nat) (v : Value) (l : List UInt8) : Prop := ∃ a cap, v = .slice a l.length cap ∧ l.length ≤ cap ∧ cap ≤ maxLen ∧ (a = none → cap = 0) ∧ RowB w a l ∧ ∀ q, a = some q → q = ⟨q.block, 0, none⟩ ∧ base ≤ q.block ∧ q.block < w.heap.size
theorem rd_row {w : World} {base : Nat} {v : Value} {l : List UInt8} (h : RdB w base v l) : ∃ a cap, v = .slice a l.length cap ∧ l.length ≤ cap ∧ cap ≤ maxLen ∧ (a = none → cap = 0) ∧ RowB w a l := by
  obtain ⟨a, cap, h1, h2, h3, h4, h5, _⟩ := h
  exact ⟨a, cap, h1, h2, h3, h4, h5⟩

/-- What the program's disk is to do, whatever it is in memory. -/
structure Prog (D : World → (Nat → Prop) → Nat → DS → Prop) : Prop where
  mono : ∀ {w : World} {F G : Nat → Prop} {p : Nat} {s : DS}, D w F p s → (∀ k, F k → G k) → D w G p s
  chg : ∀ {w w' : World} {F G : Nat → Prop} {p : Nat} {s : DS}, D w F p s → Chg G w w' → (∀ k, F k → ¬ G k) → D w' F p s
  ok : ∀ {w : World} {F : Nat → Prop} {p : Nat} {s : DS}, D w F p s → s.Ok
  new : ∀ (n : Int) (w : World), -9223372036854775808 ≤ n → n ≤ 9223372036854775807 →
    Calls Try.prog 8 #[.int .i64 n] w fun e w' => ∃ p, e = .returned (.pointer (some ⟨p, 0, none⟩)) ∧ D w' (More (fun _ => False) w w') p (DS.new n) ∧ Below w.heap.size w w'
  size : ∀ {w : World} {F : Nat → Prop} {p : Nat} {s : DS}, D w F p s → Calls Try.prog 21 #[.pointer (some ⟨p, 0, none⟩)] w fun e w' => e = .returned (.int .i64 s.good.length) ∧ Below w.heap.size w w'
  cached : ∀ {w : World} {F : Nat → Prop} {p : Nat} {s : DS}, D w F p s → Calls Try.prog 16 #[.pointer (some ⟨p, 0, none⟩)] w fun e w' => e = .returned (.int .i64 s.order.length) ∧ Below w.heap.size w w'
  write : ∀ {w : World} {F : Nat → Prop} {p : Nat} {s : DS}, D w F p s → (∀ k, F k → k < w.heap.size) → ∀ (i : Int) (aa : Option Addr) (len cc : Nat) (l : Sec), -9223372036854775808 ≤ i ∧ i ≤ 9223372036854775807 → l.length = len → len ≤ cc → cc ≤ maxLen → (aa = none → len = 0 ∧ cc = 0) → RowB w aa l → (∀ q, aa = some q → ¬ F q.block) →
    Calls Try.prog 13 #[.pointer (some ⟨p, 0, none⟩), .int .i64 i, .slice aa len cc] w fun e w' => e = .returned (.int .i64 (s.write i l).1) ∧ D w' (More F w w') p (s.write i l).2 ∧ Chg F w w'
  read : ∀ {w : World} {F : Nat → Prop} {p : Nat} {s : DS}, D w F p s → ∀ (i : Int), -9223372036854775808 ≤ i ∧ i ≤ 9223372036854775807 →
    Calls Try.prog 17 #[.pointer (some ⟨p, 0, none⟩), .int .i64 i] w fun e w' => ∃ v, e = .returned (.tuple #[v, .int .i64 (s.read i).2]) ∧ RdB w' w.heap.size v (s.read i).1 ∧ Below w.heap.size w w'
  flush : ∀ {w : World} {F : Nat → Prop} {p : Nat} {s : DS}, D w F p s → (∀ k, F k → k < w.heap.size) →
    Calls Try.prog 15 #[.pointer (some ⟨p, 0, none⟩)] w fun e w' => e = .returned (.int .i64 s.flush.1) ∧ D w' (More F w w') p s.flush.2 ∧ Chg F w w'
  fuse : ∀ {w : World} {F : Nat → Prop} {p : Nat} {s : DS}, D w F p s → (∀ k, F k → k < w.heap.size) → ∀ (n : Int), -9223372036854775808 ≤ n ∧ n ≤ 9223372036854775807 →
    Calls Try.prog 19 #[.pointer (some ⟨p, 0, none⟩), .int .i64 n] w fun e w' => e = .returned (.tuple #[]) ∧ D w' (More F w w') p { s with fuse := nf n } ∧ Chg F w w'
  crash : ∀ {w : World} {F : Nat → Prop} {p : Nat} {s : DS}, D w F p s → (∀ k, F k → k < w.heap.size) → ∀ (keep torn cut : Int), -9223372036854775808 ≤ keep ∧ keep ≤ 9223372036854775807 → -9223372036854775808 ≤ torn ∧ torn ≤ 9223372036854775807 → -9223372036854775808 ≤ cut ∧ cut ≤ 9223372036854775807 →
    Calls Try.prog 18 #[.pointer (some ⟨p, 0, none⟩), .int .i64 keep, .int .i64 torn, .int .i64 cut] w fun e w' => e = .returned (.tuple #[]) ∧ D w' (More F w w') p (s.crash keep torn cut) ∧ Chg F w w'

variable {D : World → (Nat → Prop) → Nat → DS → Prop}

/-- Both disks, each with its own blocks, all of them from B on. -/
structure Pair (D : World → (Nat → Prop) → Nat → DS → Prop) (B : Nat) (w : World) (FD FR : Nat → Prop) (pd pr : Nat) (s t : DS) (c : Nat) : Prop where
  d : D w FD pd s
  r : RefS w FR pr t c
  dlt : ∀ k, FD k → B ≤ k ∧ k < w.heap.size
  rlt : ∀ k, FR k → B ≤ k ∧ k < w.heap.size
  apart : ∀ k, FD k → ¬ FR k
def Both (D : World → (Nat → Prop) → Nat → DS → Prop) (B : Nat) (w : World) (pd pr : Nat) (s : DS) (c : Nat) : Prop := ∃ FD FR, Pair D B w FD FR pd pr s s c

/-- The one does something. -/
theorem pair_d (hD : Prog D) {B : Nat} {w w' : World} {FD FR : Nat → Prop} {pd pr c : Nat} {s t s' : DS} (h : Pair D B w FD FR pd pr s t c) (h1 : D w' (More FD w w') pd s') (hC : Chg FD w w') (hB : B ≤ w.heap.size) : Pair D B w' (More FD w w') FR pd pr s' t c :=
  ⟨h1, refs_chg h.r hC (fun k hk hd => h.apart k hd hk), fun k hk => ⟨more_ge (fun k hk => (h.dlt k hk).1) hB hk, more_lt (fun k hk => (h.dlt k hk).2) hC.size hk⟩, fun k hk => ⟨(h.rlt k hk).1, Nat.lt_of_lt_of_le (h.rlt k hk).2 hC.size⟩, fun k hk => more_apart (fun k hk => (h.rlt k hk).2) h.apart hk⟩
theorem pair_r (hD : Prog D) {B : Nat} {w w' : World} {FD FR : Nat → Prop} {pd pr c c' : Nat} {s t t' : DS} (h : Pair D B w FD FR pd pr s t c) (h1 : RefS w' (More FR w w') pr t' c') (hC : Chg FR w w') (hB : B ≤ w.heap.size) : Pair D B w' FD (More FR w w') pd pr s t' c' :=
  ⟨hD.chg h.d hC h.apart, h1, fun k hk => ⟨(h.dlt k hk).1, Nat.lt_of_lt_of_le (h.dlt k hk).2 hC.size⟩, fun k hk => ⟨more_ge (fun k hk => (h.rlt k hk).1) hB hk, more_lt (fun k hk => (h.rlt k hk).2) hC.size hk⟩, fun k hk hr => more_apart (fun k hk => (h.dlt k hk).2) (fun k hr hd => h.apart k hd hr) hr hk⟩
theorem pair_keep (hD : Prog D) {B : Nat} {w w' : World} {FD FR : Nat → Prop} {pd pr c : Nat} {s t : DS} (h : Pair D B w FD FR pd pr s t c) (hb : Below w.heap.size w w') : Pair D B w' FD FR pd pr s t c :=
  ⟨hD.chg h.d (new_chg hb (fun _ => False)) (fun _ _ => id), refs_chg h.r (new_chg hb (fun _ => False)) (fun _ _ => id), fun k hk => ⟨(h.dlt k hk).1, Nat.lt_of_lt_of_le (h.dlt k hk).2 hb.size⟩, fun k hk => ⟨(h.rlt k hk).1, Nat.lt_of_lt_of_le (h.rlt k hk).2 hb.size⟩, h.apart⟩
theorem pair_below_d {B : Nat} {w w' : World} {FD FR : Nat → Prop} {pd pr c : Nat} {s t : DS} (h : Pair D B w FD FR pd pr s t c) (hC : Chg FD w w') (hB : B ≤ w.heap.size) : Below B w w' := chg_below hC (fun k hk => (h.dlt k hk).1) hB
theorem pair_below_r {B : Nat} {w w' : World} {FD FR : Nat → Prop} {pd pr c : Nat} {s t : DS} (h : Pair D B w FD FR pd pr s t c) (hC : Chg FR w w') (hB : B ≤ w.heap.size) : Below B w w' := chg_below hC (fun k hk => (h.rlt k hk).1) hB

/-- An act. -/
def act (s : DS) (x : Ac) : DS := match x.d.toNat % 8 with
  | 0 => s.flush.2
  | 1 => s.crash x.keep x.at' x.cut
  | 2 => { s with fuse := nf x.keep }
  | _ => (s.write x.at' (madeB x)).2

theorem rem8 (d : UInt8) : ((d.toNat : Int) % 8) = ((d.toNat % 8 : Nat) : Int) := by rw [Int.natCast_emod]; rfl

/-! ### A write to both, in one drawn region -/

theorem run_ld_act {w : World} {b : Nat} {x : Ac} (h : w.rangeAt b 0 (encAc x)) : (Instr.loadAt 29 (.pointer (some ⟨b, 0, none⟩))).run Try.prog w = .ok (.agg (encAc x).toArray) w :=
  run_loadAt_mid w b 0 _ _ _ h Try.underlying29 rfl (by kernel_rfl)
theorem range_chg {F : Nat → Prop} {w w' : World} {b : Nat} {cs : List Value} (hC : Chg F w w') (h : w.rangeAt b 0 cs) (hb : ¬ F b) : w'.rangeAt b 0 cs := fun j v hv => cell_chg hC (h j v hv) hb

/-- A slice made, apart from F. -/
def kMd (F : Nat → Prop) (l : Sec) : Rel.Kd (Chg F) := ⟨fun w v => ∃ g, v = .slice (some ⟨g, 0, none⟩) l.length l.length ∧ RowB w (some ⟨g, 0, none⟩) l ∧ ¬ F g, fun w w' v hG ⟨g, h1, h2, h3⟩ => ⟨g, h1, row_chg encB_len hG h2 h3, h3⟩⟩
theorem kmd_of {F : Nat → Prop} {w w' : World} {g n : Nat} {l : Sec} (hn : n = l.length) (h : OwnB w' w.heap.size (.slice (some ⟨g, 0, none⟩) n n) l) (hF : ∀ k, F k → k < w.heap.size) : (kMd F l).p w' (.slice (some ⟨g, 0, none⟩) n n) := by
  subst hn
  refine ⟨g, rfl, own_row' h, fun hg => ?_⟩
  have := hF g hg
  rcases h.2 with ⟨h1, _⟩ | ⟨g', cap, cur, h1, h2, _⟩
  · cases h1
  · injection h1 with h1
    injection h1 with h1
    injection h1 with h1
    omega

/-- Between the two: which of them has been written. -/
def JD (D : World → (Nat → Prop) → Nat → DS → Prop) (B : Nat) (W : World) (FD FR : Nat → Prop) (pd pr : Nat) (s s' : DS) (c : Nat) (L : Array Bool) (w : World) : Prop :=
  Chg (fun k => FD k ∨ FR k) W w ∧ Below B W w ∧ ∃ FD' FR', (L.getD 5 false = false → FD' = FD) ∧ (L.getD 11 false = false → FR' = FR) ∧ Pair D B w FD' FR' pd pr (cond (L.getD 5 false) s' s) (cond (L.getD 11 false) s' s) (cond (L.getD 11 false) (c + 1) c)
theorem set_far {L : Array Bool} {i k : Nat} (h : k ≠ i) : (L.setIfInBounds k true).getD i false = L.getD i false := by simp [h]
theorem set_it {L : Array Bool} {i : Nat} (h : L.getD i true = false) : (L.setIfInBounds i true).getD i false = true := by
  obtain ⟨hi, _⟩ := Reg.getD_false h
  simp [hi]
theorem free_it {L : Array Bool} {i : Nat} (h : L.getD i true = false) : L.getD i false = false := by
  obtain ⟨hi, he⟩ := Reg.getD_false h
  simp [hi, he]
variable {B c pd pr : Nat} {W : World} {FD FR : Nat → Prop} {s s' : DS} {L : Array Bool} {w w' : World}
theorem jd_set (h : JD D B W FD FR pd pr s s' c L w) {k : Nat} (hk : k ≠ 5 ∧ k ≠ 11) : JD D B W FD FR pd pr s s' c (L.setIfInBounds k true) w := by
  unfold JD at h ⊢
  rw [set_far hk.1, set_far hk.2]; exact h
theorem jd_start {n : Nat} (h : Pair D B W FD FR pd pr s s c) (hB : B ≤ W.heap.size) (hD : Prog D) : JD D B W FD FR pd pr s s' c (Array.replicate n false) W.drew := by
  have e : ∀ m, (Array.replicate n false).getD m false = false := by
    intro m
    by_cases hm : m < n <;> simp [hm]
  refine ⟨chg_drew (chg_refl _ _), (below_drew W).mono hB, FD, FR, fun _ => rfl, fun _ => rfl, ?_⟩
  rw [e, e]
  exact pair_keep hD h (below_drew W)
theorem jd_lt (h : JD D B W FD FR pd pr s s' c L w) (hF : ∀ k, FD k ∨ FR k → k < W.heap.size) : ∀ k, FD k ∨ FR k → k < w.heap.size := fun k hk => Nat.lt_of_lt_of_le (hF k hk) h.1.size
theorem jd_keep (hD : Prog D) (h : JD D B W FD FR pd pr s s' c L w) (hb : Below w.heap.size w w') (hB : B ≤ W.heap.size) : JD D B W FD FR pd pr s s' c L w' := by
  obtain ⟨h1, h2, FD', FR', e5, e11, hP⟩ := h
  exact ⟨chg_trans h1 (new_chg hb (fun _ => False)) (fun _ h => h.elim), h2.trans (hb.mono (Nat.le_trans hB h1.size)), FD', FR', e5, e11, pair_keep hD hP hb⟩
theorem jd_first (h : JD D B W FD FR pd pr s s' c L w) (hf : L.getD 5 true = false) : D w FD pd s ∧ ∀ k, FD k → k < w.heap.size := by
  obtain ⟨h1, h2, FD', FR', e5, e11, hP⟩ := h
  have := e5 (free_it hf)
  subst this
  rw [free_it hf] at hP
  exact ⟨hP.d, fun k hk => (hP.dlt k hk).2⟩
theorem jd_first' (hD : Prog D) (h : JD D B W FD FR pd pr s s' c L w) (hf : L.getD 5 true = false) (h1 : D w' (More FD w w') pd s') (hC : Chg FD w w') (hB : B ≤ W.heap.size) : JD D B W FD FR pd pr s s' c (L.setIfInBounds 5 true) w' := by
  obtain ⟨h3, h2, FD', FR', e5, e11, hP⟩ := h
  have := e5 (free_it hf)
  subst this
  have hB' := Nat.le_trans hB h3.size
  refine ⟨chg_trans h3 hC (fun x hx => .inl (.inl hx)), h2.trans (pair_below_d hP hC hB'), More FD' w w', FR', fun h => (by rw [set_it hf] at h; cases h), fun h => e11 (by rwa [set_far (by decide)] at h), ?_⟩
  rw [set_it hf, set_far (by decide)]
  exact pair_d hD hP h1 hC hB'
theorem jd_next (h : JD D B W FD FR pd pr s s' c L w) (hf : L.getD 11 true = false) : RefS w FR pr s c ∧ ∀ k, FR k → k < w.heap.size := by
  obtain ⟨h1, h2, FD', FR', e5, e11, hP⟩ := h
  have := e11 (free_it hf)
  subst this
  rw [free_it hf] at hP
  exact ⟨hP.r, fun k hk => (hP.rlt k hk).2⟩
theorem jd_next' (hD : Prog D) (h : JD D B W FD FR pd pr s s' c L w) (hf : L.getD 11 true = false) (h1 : RefS w' (More FR w w') pr s' (c + 1)) (hC : Chg FR w w') (hB : B ≤ W.heap.size) : JD D B W FD FR pd pr s s' c (L.setIfInBounds 11 true) w' := by
  obtain ⟨h3, h2, FD', FR', e5, e11, hP⟩ := h
  have := e11 (free_it hf)
  subst this
  have hB' := Nat.le_trans hB h3.size
  refine ⟨chg_trans h3 hC (fun x hx => .inl (.inr hx)), h2.trans (pair_below_r hP hC hB'), FD', More FR' w w', fun h => e5 (by rwa [set_far (by decide)] at h), fun h => (by rw [set_it hf] at h; cases h), ?_⟩
  rw [set_it hf, set_far (by decide)]
  exact pair_r hD hP h1 hC hB'
theorem jd_end {n : Nat} (h : JD D B W FD FR pd pr s s' c (Array.replicate n true) w) (hn : 11 < n) : Both D B w pd pr s' (c + 1) ∧ Below B W w := by
  obtain ⟨h1, h2, FD', FR', _, _, hP⟩ := h
  have e : ∀ m, m < n → (Array.replicate n true).getD m false = true := fun m hm => by simp [hm]
  rw [e 5 (by omega), e 11 hn] at hP
  exact ⟨⟨FD', FR', hP⟩, h2⟩
theorem madeB_small (x : Ac) : (madeB x).length ≤ 64 := by
  unfold madeB
  split
  · rw [List.length_replicate]; omega
  · rw [List.length_set, secB_len]; omega

set_option maxHeartbeats 4000000 in
theorem does_any (hD : Prog D) {B pd pr c : Nat} {w : World} {s : DS} (x : Ac) (hx : x.wf) (h : Both D B w pd pr s c) (hB : B ≤ w.heap.size) (hc : c < 1000000) :
    Calls Try.prog 10 #[.pointer (some ⟨pd, 0, none⟩), .pointer (some ⟨pr, 0, none⟩), .agg #[.int .u8 (x.d.toNat : Int), .int .i64 x.at', .int .u8 (x.c.toNat : Int), .int .i64 x.keep, .int .i64 x.cut]] w fun e w' => e = .returned (.bool true) ∧ Both D B w' pd pr (act s x) (c + 1) ∧ Below B w w' := by
  obtain ⟨FD, FR, hP⟩ := h
  obtain ⟨d, t, cc, kp, cut⟩ := x
  obtain ⟨ht, hk, hu⟩ := hx
  simp only at ht hk hu ⊢
  have hd := d.toNat_lt
  have hw0 : Below w.heap.size w (w.alloc (.cells #[.int .u8 (d.toNat : Int), .int .i64 t, .int .u8 (cc.toNat : Int), .int .i64 kp, .int .i64 cut] 29)) := below_alloc w _
  have hc1 : ∀ i, (w.alloc (.cells #[.int .u8 (d.toNat : Int), .int .i64 t, .int .u8 (cc.toNat : Int), .int .i64 kp, .int .i64 cut] 29)).cell? ⟨w.heap.size, i, none⟩ = (#[Value.int .u8 (d.toNat : Int), .int .i64 t, .int .u8 (cc.toNat : Int), .int .i64 kp, .int .i64 cut] : Array Value)[i]? := fun i => World.cell?_alloc_new w _ _ i
  have HCell := Lib.hid hc1
  have hP1 := pair_keep hD hP hw0
  have hnd : ¬ FD w.heap.size := fun h => by have := (hP.dlt _ h).2; omega
  have hnr : ¬ FR w.heap.size := fun h => by have := (hP.rlt _ h).2; omega
  have hB1 : B ≤ (w.alloc (.cells #[.int .u8 (d.toNat : Int), .int .i64 t, .int .u8 (cc.toNat : Int), .int .i64 kp, .int .i64 cut] 29)).heap.size := by simp; omega
  have HB0 := Lib.hid (hw0.mono hB)
  have HP := Lib.hid hP1
  have HBs := Lib.hid hB1
  clear hP hw0 hP1 hc1 hB1
  by_cases h0 : d.toNat % 8 = 0
  · have hact : act s ⟨d, t, cc, kp, cut⟩ = s.flush.2 := by unfold act; simp only [h0]
    have HAct := Lib.hid hact
    have hq : (d.toNat : Int) % 8 = 0 := by omega
    clear hact h0
    go_enter Try.func10, Try.ntmps10
    go_wp2_with fail
    refine (hD.flush HP.out.d (fun k hk => (HP.out.dlt k hk).2)).mono ?_
    rintro e w1 ⟨rfl, hd1, hC1⟩
    have HP1 := Lib.hid (pair_d hD HP.out hd1 hC1 HBs.out)
    have HB1 := Lib.hid (HB0.out.trans (pair_below_d HP.out hC1 HBs.out))
    have HS1 := Lib.hid hC1.size
    clear hd1 hC1
    go_wp2_with fail
    refine (refs_flush HP1.out.r (by omega)).mono ?_
    rintro e w2 ⟨rfl, hr2, hC2, hz2⟩
    have HP2 := Lib.hid (pair_r (c' := c + 1) hD HP1.out (refs_mono hr2 (fun _ => more_old) (by omega)) hC2 (Nat.le_trans HBs.out HS1.out))
    have HB2 := Lib.hid (HB1.out.trans (pair_below_r HP1.out hC2 (Nat.le_trans HBs.out HS1.out)))
    clear hr2 hC2 hz2
    go_wp2
    go_ret
    exact ⟨ret_bool (by simp), by rw [HAct.out]; exact ⟨_, _, HP2.out⟩, HB2.out⟩
  by_cases h1 : d.toNat % 8 = 1
  · have hact : act s ⟨d, t, cc, kp, cut⟩ = s.crash kp t cut := by unfold act; simp only [h1]
    have HAct := Lib.hid hact
    have hq : (d.toNat : Int) % 8 = 1 := by omega
    clear hact h0 h1
    go_enter Try.func10, Try.ntmps10
    go_wp2_with fail
    refine (hD.crash HP.out.d (fun k hk => (HP.out.dlt k hk).2) kp t cut hk ht hu).mono ?_
    rintro e w1 ⟨rfl, hd1, hC1⟩
    have y1 := cell_chg hC1 (HCell.out 1) hnd
    have y3 := cell_chg hC1 (HCell.out 3) hnd
    have y4 := cell_chg hC1 (HCell.out 4) hnd
    have HP1 := Lib.hid (pair_d hD HP.out hd1 hC1 HBs.out)
    have HB1 := Lib.hid (HB0.out.trans (pair_below_d HP.out hC1 HBs.out))
    have HS1 := Lib.hid hC1.size
    clear hd1 hC1
    go_wp2_with fail
    refine (refs_crash HP1.out.r (fun k hk => (HP1.out.rlt k hk).2) (by omega) kp t cut hk ht hu).mono ?_
    rintro e w2 ⟨rfl, hr2, hC2⟩
    have HP2 := Lib.hid (pair_r (c' := c + 1) hD HP1.out (refs_mono hr2 (fun _ => id) (by omega)) hC2 (Nat.le_trans HBs.out HS1.out))
    have HB2 := Lib.hid (HB1.out.trans (pair_below_r HP1.out hC2 (Nat.le_trans HBs.out HS1.out)))
    clear hr2 hC2 y1 y3 y4
    go_wp2
    go_ret
    exact ⟨rfl, by rw [HAct.out]; exact ⟨_, _, HP2.out⟩, HB2.out⟩
  by_cases h2 : d.toNat % 8 = 2
  · have hact : act s ⟨d, t, cc, kp, cut⟩ = { s with fuse := nf kp } := by unfold act; simp only [h2]
    have HAct := Lib.hid hact
    have hq : (d.toNat : Int) % 8 = 2 := by omega
    clear hact h0 h1 h2
    go_enter Try.func10, Try.ntmps10
    go_wp2_with fail
    refine (hD.fuse HP.out.d (fun k hk => (HP.out.dlt k hk).2) kp hk).mono ?_
    rintro e w1 ⟨rfl, hd1, hC1⟩
    have y3 := cell_chg hC1 (HCell.out 3) hnd
    have hP1 := pair_d hD HP.out hd1 hC1 HBs.out
    have HB1 := Lib.hid (HB0.out.trans (pair_below_d HP.out hC1 HBs.out))
    have HS1 := Lib.hid hC1.size
    obtain ⟨⟨u, z2⟩, f2, hr2, hC2⟩ := refs_fuse hP1.r kp hk
    have HP2 := Lib.hid (pair_r (c' := c + 1) hD hP1 (refs_mono hr2 (fun _ => more_old) (by omega)) hC2 (Nat.le_trans HBs.out HS1.out))
    have HB2 := Lib.hid (HB1.out.trans (pair_below_r hP1 hC2 (Nat.le_trans HBs.out HS1.out)))
    clear hd1 hC1 hP1 hr2 hC2
    go_wp2
    go_ret
    exact ⟨rfl, by rw [HAct.out]; exact ⟨_, _, HP2.out⟩, HB2.out⟩
  · have hact : act s ⟨d, t, cc, kp, cut⟩ = (s.write t (madeB ⟨d, t, cc, kp, cut⟩)).2 := by
      unfold act
      split
      · rename_i h; exact absurd h h0
      · rename_i h; exact absurd h h1
      · rename_i h; exact absurd h h2
      · rfl
    have HAct := Lib.hid hact
    have hq0 : (((d.toNat : Int) % 8) == 0) = false := by rw [beq_eq_false_iff_ne]; omega
    have hq1 : (((d.toNat : Int) % 8) == 1) = false := by rw [beq_eq_false_iff_ne]; omega
    have hq2 : (((d.toNat : Int) % 8) == 2) = false := by rw [beq_eq_false_iff_ne]; omega
    have HM := Lib.hid (fun w => made_any ⟨d, t, cc, kp, cut⟩ w)
    have HL := Lib.hid (show (madeB ⟨d, t, cc, kp, cut⟩).length ≤ maxLen from Nat.le_trans (madeB_small _) (by unfold maxLen; omega))
    have HN := Lib.hid (show ¬ (FD w.heap.size ∨ FR w.heap.size) from fun h => h.elim hnd hnr)
    have HF := Lib.hid (show ∀ k, FD k ∨ FR k → k < (w.alloc (.cells #[.int .u8 (d.toNat : Int), .int .i64 t, .int .u8 (cc.toNat : Int), .int .i64 kp, .int .i64 cut] 29)).heap.size from fun k hk => hk.elim (fun h => (HP.out.dlt k h).2) (fun h => (HP.out.rlt k h).2))
    have HCl := Lib.hid (show (w.alloc (.cells #[.int .u8 (d.toNat : Int), .int .i64 t, .int .u8 (cc.toNat : Int), .int .i64 kp, .int .i64 cut] 29)).rangeAt w.heap.size 0 (encAc ⟨d, t, cc, kp, cut⟩) from fun j v hv => by rw [Nat.zero_add, HCell.out j]; simpa [encAc] using hv)
    clear hact h0 h1 h2 HCell hnd hnr
    go_enter Try.func10, Try.ntmps10
    go_wp2_with fail
    generalize madeB ⟨d, t, cc, kp, cut⟩ = l at *
    generalize (w.alloc (.cells #[.int .u8 (d.toNat : Int), .int .i64 t, .int .u8 (cc.toNat : Int), .int .i64 kp, .int .i64 cut] 29)) = W at *
    generalize w.heap.size = b at *
    refine Rel.wp_region_rel (G := Chg (fun k => FD k ∨ FR k)) (Rel.tab [.is (.pointer (some ⟨pd, 0, none⟩)), .is (.pointer (some ⟨b, 1, none⟩)), .is (.int .i64 t), .is (.agg #[.int .u8 (d.toNat : Int), .int .i64 t, .int .u8 (cc.toNat : Int), .int .i64 kp, .int .i64 cut]), kMd (fun k => FD k ∨ FR k) l, .is (.int .i64 (s.write t l).1), .is (.pointer (some ⟨pr, 0, none⟩)), .is (.pointer (some ⟨b, 1, none⟩)), .is (.int .i64 t), .is (.agg #[.int .u8 (d.toNat : Int), .int .i64 t, .int .u8 (cc.toNat : Int), .int .i64 kp, .int .i64 cut]), kMd (fun k => FD k ∨ FR k) l, .is (.int .i64 (s.write t l).1), .is (.bool true), .is (.bool true)]) (JD D B W FD FR pd pr s (s.write t l).2 c) (by kernel_rfl) (by kernel_rfl) (by kernel_rfl) (by kernel_rfl) (fun w => chg_refl _ _) (jd_start HP.out HBs.out hD) ?_ ?_
    · refine ⟨?_, ?_, ?_, ?_, ?_, ?_, ?_, ?_, ?_, ?_, ?_, ?_, ?_, ?_, trivial⟩
      · intro L a w c
        refine .inl ⟨Rel.wanted_free (by kernel_rfl) _, ?_⟩
        exact Rel.wp_mv _ rfl ⟨_, rfl, chg_refl _ _, (c.old 0 (v := .pointer (some ⟨pd, 0, none⟩)) (by kernel_rfl) (by kernel_rfl)), (jd_set c.inv (by decide))⟩
      · intro L a w c
        refine .inl ⟨Rel.wanted_free (by kernel_rfl) _, ?_⟩
        exact Chn.wp_fa _ _ _ rfl (c.old 5 (v := .pointer (some ⟨b, 0, none⟩)) (by kernel_rfl) (by kernel_rfl)) (by simp [go_sem]) ⟨_, rfl, chg_refl _ _, rfl, jd_set c.inv (by decide)⟩
      · intro L a w c
        refine .inl ⟨Rel.wanted_free (by kernel_rfl) _, ?_⟩
        exact Rel.wp_ld _ _ rfl (c.get 1 47 (by kernel_rfl)) (run_ld_i (range_chg c.inv.1 HCl.out HN.out 1 _ rfl)) ⟨_, rfl, chg_refl _ _, rfl, jd_set c.inv (by decide)⟩
      · intro L a w c
        refine .inl ⟨Rel.wanted_free (by kernel_rfl) _, ?_⟩
        exact Rel.wp_ld _ _ rfl (c.old 5 (v := .pointer (some ⟨b, 0, none⟩)) (by kernel_rfl) (by kernel_rfl)) (run_ld_act (range_chg c.inv.1 HCl.out HN.out)) ⟨_, rfl, chg_refl _ _, rfl, jd_set c.inv (by decide)⟩
      · intro L a w c
        refine .inl ⟨Rel.wanted_free (by kernel_rfl) _, ?_⟩
        refine Rel.wp_cl _ _ _ rfl Try.func14 (by kernel_rfl) ?_
        show Calls _ _ #[Rel.slot a 49] w _
        rw [show Rel.slot a 49 = .agg #[.int .u8 (d.toNat : Int), .int .i64 t, .int .u8 (cc.toNat : Int), .int .i64 kp, .int .i64 cut] from (c.get 3 49 (by kernel_rfl))]
        refine (HM.out w).mono ?_
        rintro e w' ⟨g, n, rfl, hn, ho, hb⟩
        exact ⟨_, rfl, _, rfl, new_chg hb _, kmd_of hn ho (jd_lt c.inv HF.out), jd_set (jd_keep hD c.inv hb HBs.out) (by decide)⟩
      · intro L a w c
        refine .inl ⟨Rel.wanted_free (by kernel_rfl) _, ?_⟩
        obtain ⟨g, eg, hrow, hnf⟩ := c.get 4 50 (by kernel_rfl)
        refine Rel.wp_cl _ _ _ rfl Try.func13 (by kernel_rfl) ?_
        show Calls _ _ #[Rel.slot a 46, Rel.slot a 48, Rel.slot a 50] w _
        rw [show Rel.slot a 46 = .pointer (some ⟨pd, 0, none⟩) from (c.get 0 46 (by kernel_rfl)), show Rel.slot a 48 = .int .i64 t from (c.get 2 48 (by kernel_rfl)), show Rel.slot a 50 = _ from eg]
        refine (hD.write (jd_first c.inv c.free).1 (jd_first c.inv c.free).2 t (some ⟨g, 0, none⟩) _ _ l ht rfl (Nat.le_refl _) HL.out (fun h => by cases h) hrow (fun q hq h => by injection hq with hq; subst hq; exact hnf (.inl h))).mono ?_
        rintro e w' ⟨rfl, h1, hC⟩
        exact ⟨_, rfl, _, rfl, chg_mono hC (fun k _ h => .inl h), rfl, jd_first' hD c.inv c.free h1 hC HBs.out⟩
      · intro L a w c
        refine .inl ⟨Rel.wanted_free (by kernel_rfl) _, ?_⟩
        exact Rel.wp_mv _ rfl ⟨_, rfl, chg_refl _ _, (c.old 1 (v := .pointer (some ⟨pr, 0, none⟩)) (by kernel_rfl) (by kernel_rfl)), (jd_set c.inv (by decide))⟩
      · intro L a w c
        refine .inl ⟨Rel.wanted_free (by kernel_rfl) _, ?_⟩
        exact Chn.wp_fa _ _ _ rfl (c.old 5 (v := .pointer (some ⟨b, 0, none⟩)) (by kernel_rfl) (by kernel_rfl)) (by simp [go_sem]) ⟨_, rfl, chg_refl _ _, rfl, jd_set c.inv (by decide)⟩
      · intro L a w c
        refine .inl ⟨Rel.wanted_free (by kernel_rfl) _, ?_⟩
        exact Rel.wp_ld _ _ rfl (c.get 7 53 (by kernel_rfl)) (run_ld_i (range_chg c.inv.1 HCl.out HN.out 1 _ rfl)) ⟨_, rfl, chg_refl _ _, rfl, jd_set c.inv (by decide)⟩
      · intro L a w c
        refine .inl ⟨Rel.wanted_free (by kernel_rfl) _, ?_⟩
        exact Rel.wp_ld _ _ rfl (c.old 5 (v := .pointer (some ⟨b, 0, none⟩)) (by kernel_rfl) (by kernel_rfl)) (run_ld_act (range_chg c.inv.1 HCl.out HN.out)) ⟨_, rfl, chg_refl _ _, rfl, jd_set c.inv (by decide)⟩
      · intro L a w c
        refine .inl ⟨Rel.wanted_free (by kernel_rfl) _, ?_⟩
        refine Rel.wp_cl _ _ _ rfl Try.func14 (by kernel_rfl) ?_
        show Calls _ _ #[Rel.slot a 55] w _
        rw [show Rel.slot a 55 = .agg #[.int .u8 (d.toNat : Int), .int .i64 t, .int .u8 (cc.toNat : Int), .int .i64 kp, .int .i64 cut] from (c.get 9 55 (by kernel_rfl))]
        refine (HM.out w).mono ?_
        rintro e w' ⟨g, n, rfl, hn, ho, hb⟩
        exact ⟨_, rfl, _, rfl, new_chg hb _, kmd_of hn ho (jd_lt c.inv HF.out), jd_set (jd_keep hD c.inv hb HBs.out) (by decide)⟩
      · intro L a w c
        refine .inl ⟨Rel.wanted_free (by kernel_rfl) _, ?_⟩
        obtain ⟨g, eg, hrow, hnf⟩ := c.get 10 56 (by kernel_rfl)
        refine Rel.wp_cl _ _ _ rfl Try.func24 (by kernel_rfl) ?_
        show Calls _ _ #[Rel.slot a 52, Rel.slot a 54, Rel.slot a 56] w _
        rw [show Rel.slot a 52 = .pointer (some ⟨pr, 0, none⟩) from (c.get 6 52 (by kernel_rfl)), show Rel.slot a 54 = .int .i64 t from (c.get 8 54 (by kernel_rfl)), show Rel.slot a 56 = _ from eg]
        refine (refs_write (jd_next c.inv c.free).1 (jd_next c.inv c.free).2 hc t (some ⟨g, 0, none⟩) _ _ l rfl (by have := HL.out; unfold maxLen at this; omega) (fun h => by cases h) hrow (fun q hq h => by injection hq with hq; subst hq; exact hnf (.inr h))).mono ?_
        rintro e w' ⟨rfl, h1, hC⟩
        exact ⟨_, rfl, _, rfl, chg_mono hC (fun k _ h => .inr h), rfl, jd_next' hD c.inv c.free h1 hC HBs.out⟩
      · intro L a w c
        refine .inl ⟨Rel.wanted_free (by kernel_rfl) _, ?_⟩
        exact Rel.wp_bo _ _ _ _ _ rfl (u := .bool true) (c.get 5 51 (by kernel_rfl)) (c.get 11 57 (by kernel_rfl)) (by simp [go_sem]) ⟨_, rfl, chg_refl _ _, rfl, (jd_set c.inv (by decide))⟩
      · intro L a w c
        refine .inl ⟨Rel.wanted_free (by kernel_rfl) _, ?_⟩
        exact Rel.wp_as _ rfl ⟨_, rfl, chg_refl _ _, (c.get 12 58 (by kernel_rfl)), (jd_set c.inv (by decide))⟩
    · intro a w hbase hroom hdef hJ hV
      have e6 := hV 13 _ _ rfl rfl
      obtain ⟨tm, df⟩ := a
      simp only at hdef
      subst hdef
      go_wp2
      refine bodyPost_ret (results_tmp rfl _ _ _) rfl ?_
      exact ⟨congrArg _ e6, by rw [HAct.out]; exact (jd_end hJ (by decide)).1, HB0.out.trans (jd_end hJ (by decide)).2⟩

end Go.Proofs.Ytpbegchaneppfaa.Dsk
