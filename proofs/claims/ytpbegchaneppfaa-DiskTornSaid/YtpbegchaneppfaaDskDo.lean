/- Disk: the landed disk: Flush, Crash; all that a disk is to do, done; and no disk at all. -/
import Derived.Test.YtpbegchaneppfaaDskSet
import Derived.Laws.Bits128
namespace Go.Proofs.Ytpbegchaneppfaa.Dsk
open Go.RowKit
open Go.Sort
open Kit
open Oct
open Foot
set_option linter.unusedVariables false
variable {w w' : World} {F G : Nat → Prop} {p cl cc : Nat} {al ac : Option Addr} {fu : Bool} {left : Int} {s : DS}

/-! ### Flush -/

theorem dflush1_any (k : Nat) (w : World) : Calls Try.prog 31 (#[.int .i64 (k : Nat)] ++ #[]) w fun e w' => e = .returned (.int .i64 (32 : Nat)) ∧ w' = w := by
  show Calls Try.prog 31 #[.int .i64 (k : Nat)] w _
  go_enter Try.func31, Try.ntmps31
  go_wp2
  go_ret
  exact ⟨rfl, rfl⟩
set_option maxHeartbeats 1000000 in
theorem dflush_any (h : Dk w F p s) (hF : ∀ k, F k → k < w.heap.size) :
    Calls Try.prog 15 #[.pointer (some ⟨p, 0, none⟩)] w fun e w' => e = .returned (.int .i64 s.flush.1) ∧ Dk w' F p s.flush.2 ∧ Chg F w w' := by
  have hok := dk_ok h
  have HP := Lib.hid (dpasses_any h)
  have HF := Lib.hid hF
  by_cases h0 : s.fuse = 0
  · have hw : s.flush = (10, s) := by unfold DS.flush; rw [if_pos h0]
    have hb : ({ s with fuse := burnt s.fuse } : DS) = s := by
      have : burnt s.fuse = s.fuse := by rw [h0]; rfl
      rw [this]
    rw [hw]
    have HB := Lib.hid hb
    have HZ := Lib.hid (decide_eq_true h0)
    clear hw hb h0 h hok hF
    go_enter Try.func15, Try.ntmps15
    go_wp2_with (first
      | (go_at_call 28; refine HP.out.mono ?_; rw [HZ.out, HB.out]; rintro e w1 ⟨rfl, hd, hC, hz⟩; have HD := Lib.hid (And.intro hd hC); clear hd hC hz)
      | fail)
    go_ret
    exact ⟨rfl, HD.out⟩
  · have hw : s.flush = (0, { s with good := s.now, order := [], fuse := burnt s.fuse }) := by unfold DS.flush; rw [if_neg h0]
    have hok2 := flush_ok hok
    rw [hw] at hok2 ⊢
    have HZ := Lib.hid (decide_eq_false h0)
    have HO := Lib.hid (And.intro hok hok2)
    clear hw h0 h hok hok2 hF
    go_enter Try.func15, Try.ntmps15
    go_wp2_with (first
      | (go_at_call 28; refine HP.out.mono ?_; rw [HZ.out]; rintro e w1 ⟨rfl, hd, hC, hz⟩; have HD := Lib.hid (And.intro hd (And.intro hC hz)); clear hd hC hz)
      | fail)
    obtain ⟨al, ac, cl, cc, fu, left, r⟩ := HD.out.1
    refine (dsettle_any (fun _ => 32) (fun _ => Nat.le_refl _) (dkm_of r) r.ok (fun k hk => by rw [HD.out.2.2]; exact HF.out k hk) 31 #[] _ rfl (by kernel_rfl) (fun k wx _ _ => dflush1_any k wx)).mono ?_
    rintro e w2 ⟨rfl, hr, hC⟩
    have hfl := settleF_flush HO.out.1
    have hr2 : DkM w2 F p (settleF (fun _ => 32) s.now s.order s.order.length s.good) [] al none cl 0 fu left := hr
    rw [hfl] at hr2
    have HE : Hid (Dk w2 F p { s with good := s.now, order := [], fuse := burnt s.fuse } ∧ Chg F w w2) := Lib.hid ⟨⟨al, none, cl, 0, fu, left, dkm_at (s := { s with good := s.now, order := [], fuse := burnt s.fuse }) hr2 HO.out.2 r.fuse r.left0⟩, chg_trans HD.out.2.1 hC fun _ h => .inl h⟩
    clear r hr hr2 hC hfl
    go_wp2
    go_ret
    exact ⟨rfl, HE.out⟩

/-! ### Crash -/

theorem i64_and1 (n : Int) : bits .and .i64 n 1 = n % 2 := by
  have h1 : (BitVec.ofInt 64 1).toNat = 2 ^ 1 - 1 := by decide
  have key : (BitVec.ofInt 64 n &&& BitVec.ofInt 64 1).toNat = (n % ((2 ^ 64 : Nat) : Int)).toNat % 2 ^ 1 := by
    rw [BitVec.toNat_and, BitVec.toNat_ofInt, h1, Nat.and_two_pow_sub_one_eq_mod]
  show IntKind.i64.wrap ((BitVec.ofInt 64 n &&& BitVec.ofInt 64 1).toNat : Nat) = n % 2
  rw [key, IntKind.wrap_i64]
  omega
theorem bit_shr {keep : Int} {n : Nat} (hn : n < 62) : (bits .and .i64 (keep / 2 ^ n) 1 == 1) = bitOf keep n := by
  rw [i64_and1]
  have e : keep = keep % 18446744073709551616 + (keep / 18446744073709551616 * 2 ^ (64 - n)) * 2 ^ n := by
    have h1 : (2 : Int) ^ (64 - n) * 2 ^ n = 18446744073709551616 := by rw [← Int.pow_add, show 64 - n + n = 64 by omega]; decide
    rw [Int.mul_assoc, h1]
    omega
  have hp : (2 : Int) ^ n ≠ 0 := by
    have : (0 : Int) < 2 ^ n := Int.pow_pos (by decide)
    omega
  have h2 : keep / 2 ^ n = keep % 18446744073709551616 / 2 ^ n + keep / 18446744073709551616 * 2 ^ (64 - n) := by
    have := Int.add_mul_ediv_right (keep % 18446744073709551616) (keep / 18446744073709551616 * 2 ^ (64 - n)) hp
    rw [← e] at this
    exact this
  have h3 : (2 : Int) ^ (64 - n) = 2 * 2 ^ (63 - n) := by rw [show 64 - n = (63 - n) + 1 by omega, Int.pow_succ, Int.mul_comm]
  rw [h3, ← Int.mul_assoc, Int.mul_comm _ (2 : Int), Int.mul_assoc] at h2
  have hr : keep % 18446744073709551616 = ((keep % 18446744073709551616).toNat : Int) := by omega
  have h4 : keep % 18446744073709551616 / 2 ^ n = (((keep % 18446744073709551616).toNat / 2 ^ n : Nat) : Int) := by
    rw [Int.natCast_ediv, Int.natCast_pow, ← hr]; rfl
  rw [h4] at h2
  generalize keep / 18446744073709551616 * 2 ^ (63 - n) = c at h2
  unfold bitOf
  rw [Nat.testBit_eq_decide_div_mod_eq, Bool.eq_iff_iff, beq_iff_eq, decide_eq_true_iff, h2]
  omega
theorem many_at {keep torn cut : Int} {k : Nat} (h : (k : Int) = torn) : (many keep torn cut k : Int) = if cut < 0 then 0 else if cut ≤ 32 then cut else 32 := by
  unfold many; rw [if_pos h]
  split
  · split <;> (try split) <;> omega
  · split <;> (try split) <;> omega
theorem many_bit {keep torn cut : Int} {k : Nat} (h : (k : Int) ≠ torn) (h2 : k < 62) : (many keep torn cut k : Int) = cond (bitOf keep k) 32 0 := by
  unfold many; rw [if_neg h]
  cases bitOf keep k <;> simp [h2]
theorem many_high {keep torn cut : Int} {k : Nat} (h : (k : Int) ≠ torn) (h2 : ¬ k < 62) : (many keep torn cut k : Int) = 0 := by
  unfold many; rw [if_neg h, if_neg (fun h3 => h2 h3.1)]; rfl

set_option maxHeartbeats 1000000 in
theorem dcrash1_any (k : Nat) (hk : k < 9223372036854775807) {w : World} {keep torn cut : Int} {bk bt bc : Nat} (h1 : w.cell? ⟨bt, 0, none⟩ = some (.int .i64 torn)) (h2 : w.cell? ⟨bc, 0, none⟩ = some (.int .i64 cut)) (h3 : w.cell? ⟨bk, 0, none⟩ = some (.int .i64 keep)) :
    Calls Try.prog 32 (#[.int .i64 (k : Nat)] ++ #[.pointer (some ⟨bt, 0, none⟩), .pointer (some ⟨bc, 0, none⟩), .pointer (some ⟨bk, 0, none⟩)]) w fun e w' => e = .returned (.int .i64 (many keep torn cut k : Nat)) ∧ w' = w := by
  show Calls Try.prog 32 #[.int .i64 (k : Nat), .pointer (some ⟨bt, 0, none⟩), .pointer (some ⟨bc, 0, none⟩), .pointer (some ⟨bk, 0, none⟩)] w _
  by_cases ht : (k : Int) = torn
  · have hm := many_at (keep := keep) (cut := cut) ht
    have htb : ((k : Int) == torn) = true := beq_iff_eq.2 ht
    generalize many keep torn cut k = M at *
    have HM := Lib.hid hm
    clear hm ht
    by_cases c1 : cut < 0
    · have e : Hid ((M : Int) = 0) := Lib.hid (by rw [HM.out, if_pos c1])
      go_enter Try.func32, Try.ntmps32
      go_wp2
      go_ret
      exact ⟨ret_int e.out.symm, rfl⟩
    · by_cases c2 : cut ≤ 32
      · have e : Hid ((M : Int) = cut) := Lib.hid (by rw [HM.out, if_neg c1, if_pos c2])
        go_enter Try.func32, Try.ntmps32
        go_wp2
        go_ret
        exact ⟨ret_int e.out.symm, rfl⟩
      · have e : Hid ((M : Int) = 32) := Lib.hid (by rw [HM.out, if_neg c1, if_neg c2])
        go_enter Try.func32, Try.ntmps32
        go_wp2
        go_ret
        exact ⟨ret_int e.out.symm, rfl⟩
  · have htb : ((k : Int) == torn) = false := beq_eq_false_iff_ne.2 ht
    by_cases h62 : k < 62
    · have hm := many_bit (keep := keep) (cut := cut) ht h62
      have hb := bit_shr (keep := keep) h62
      generalize many keep torn cut k = M at *
      have hlt : (k : Int) < 62 := by omega
      generalize bitOf keep k = B at *
      cases B with
      | true =>
        have e : Hid ((M : Int) = 32) := Lib.hid hm
        clear hm ht
        go_enter Try.func32, Try.ntmps32
        go_wp2
        go_ret
        exact ⟨ret_int e.out.symm, rfl⟩
      | false =>
        have e : Hid ((M : Int) = 0) := Lib.hid hm
        clear hm ht
        go_enter Try.func32, Try.ntmps32
        go_wp2
        go_ret
        exact ⟨ret_int e.out.symm, rfl⟩
    · have e : Hid ((many keep torn cut k : Int) = 0) := Lib.hid (many_high ht h62)
      generalize many keep torn cut k = M at *
      have hlt : ¬ (k : Int) < 62 := by omega
      clear ht
      go_enter Try.func32, Try.ntmps32
      go_wp2
      go_ret
      exact ⟨ret_int e.out.symm, rfl⟩

set_option maxHeartbeats 1000000 in
theorem dcrash_any (h : Dk w F p s) (hF : ∀ k, F k → k < w.heap.size) (keep torn cut : Int) :
    Calls Try.prog 18 #[.pointer (some ⟨p, 0, none⟩), .int .i64 keep, .int .i64 torn, .int .i64 cut] w fun e w' => e = .returned (.tuple #[]) ∧ Dk w' F p (s.crash keep torn cut) ∧ Chg F w w' := by
  obtain ⟨wb, hwb⟩ : ∃ wb, wb = ((w.alloc (.cells #[.int .i64 keep] 3)).alloc (.cells #[.int .i64 torn] 3)).alloc (.cells #[.int .i64 cut] 3) := ⟨_, rfl⟩
  have hb : Below w.heap.size w wb := by rw [hwb]; exact ((below_alloc w _).alloc (by simp) _).alloc (by simp; omega) _
  have k1 : wb.cell? ⟨w.heap.size, 0, none⟩ = some (.int .i64 keep) := by rw [hwb]; exact cell_alloc (cell_alloc (World.cell?_alloc_new w _ _ 0))
  have k2 : wb.cell? ⟨w.heap.size + 1, 0, none⟩ = some (.int .i64 torn) := by
    rw [hwb]
    have := World.cell?_alloc_new (w.alloc (.cells #[.int .i64 keep] 3)) #[.int .i64 torn] 3 0
    rw [show (w.alloc (.cells #[.int .i64 keep] 3)).heap.size = w.heap.size + 1 by simp] at this
    exact cell_alloc this
  have k3 : wb.cell? ⟨w.heap.size + 2, 0, none⟩ = some (.int .i64 cut) := by
    rw [hwb]
    have := World.cell?_alloc_new ((w.alloc (.cells #[.int .i64 keep] 3)).alloc (.cells #[.int .i64 torn] 3)) #[.int .i64 cut] 3 0
    rw [show ((w.alloc (.cells #[.int .i64 keep] 3)).alloc (.cells #[.int .i64 torn] 3)).heap.size = w.heap.size + 2 by simp] at this
    exact this
  have hC : Chg F w wb := new_chg hb F
  obtain ⟨al, ac, cl, cc, fu, left, r⟩ := dk_keep h hb
  have hnF : ∀ j, ¬ F (w.heap.size + j) := fun j hj => by have := hF _ hj; omega
  have hset := dsettle_any (many keep torn cut) (many_le keep torn cut) (dkm_of r) r.ok (fun k hk => Nat.lt_of_lt_of_le (hF k hk) hb.size) 32 #[.pointer (some ⟨w.heap.size + 1, 0, none⟩), .pointer (some ⟨w.heap.size + 2, 0, none⟩), .pointer (some ⟨w.heap.size, 0, none⟩)] _ rfl (by kernel_rfl)
    (fun k wx hk hx => dcrash1_any k (by have := order_le r.ok; omega) (cell_chg hx k2 (hnF 1)) (cell_chg hx k3 (hnF 2)) (cell_chg hx k1 (hnF 0)))
  rw [← settle_is] at hset
  have hok := crash_ok r.ok keep torn cut
  have hcr : s.crash keep torn cut = { good := settle keep torn cut s.now s.order s.order.length s.good, now := settle keep torn cut s.now s.order s.order.length s.good, order := [], fuse := -1 } := rfl
  rw [hcr] at hok ⊢
  have hfl := r.fuse
  have hl0 := r.left0
  generalize settle keep torn cut s.now s.order s.order.length s.good = g at *
  have HS := Lib.hid hset
  have HO := Lib.hid (And.intro hok (And.intro hfl hl0))
  have HC := Lib.hid hC
  have hmf : ∀ (fn : Fn) (first cap : Array Value) (w : World), (Instr.makeFunc fn first cap).run Try.prog w = .ok (.func fn first cap) w := fun _ _ _ _ => rfl
  clear r hset hok hfl hl0 hC hb k1 k2 k3 hnF h hcr
  go_enter Try.func18, Try.ntmps18
  go_wp2_with fail
  rw [← hwb]
  refine HS.out.mono ?_
  rintro e w2 ⟨rfl, hr, hC2⟩
  have hd : Dk w2 F p { good := g, now := g, order := [], fuse := cond fu left (-1) } := ⟨al, none, cl, 0, fu, left, dkm_at (s := { good := g, now := g, order := [], fuse := cond fu left (-1) }) hr (fuse_ok HO.out.1 _) rfl HO.out.2.2⟩
  have HD := Lib.hid (dfuse_any hd (-1) (by omega))
  have HC2 := Lib.hid (chg_trans HC.out hC2 fun _ h => .inl h)
  clear hr hC2 hd hwb
  go_wp2_with (first | (go_at_call 19; refine HD.out.mono ?_; rintro e w3 ⟨rfl, hd, hC3, _⟩; have HE := Lib.hid (And.intro hd (chg_trans HC2.out hC3 fun _ h => .inl h)); clear hd hC3) | fail)
  go_end0
  exact ⟨rfl, HE.out⟩

/-! ### All that a disk is to do -/

theorem disk_prog : Prog Dk where
  mono := dk_mono
  chg := dk_chg
  ok := dk_ok
  new := dnew_any
  size := fun h => (dsize_any h).mono fun e w' ⟨he, hw⟩ => ⟨he, by subst hw; exact Below.refl _ _⟩
  cached := fun h => (dcached_any h).mono fun e w' ⟨he, hw⟩ => ⟨he, by subst hw; exact Below.refl _ _⟩
  write := fun h hF i aa len cc l hi hl hlc hcm hn hE hA => dwrite_any h hF i aa len cc l hi hl hlc hcm hn hE hA
  read := fun h i hi => dread_any h i hi
  flush := fun h hF => (dflush_any h hF).mono fun e w' ⟨he, hd, hC⟩ => ⟨he, dk_mono hd fun _ => more_old, hC⟩
  fuse := fun h hF n hn => (dfuse_any h n hn).mono fun e w' ⟨he, hd, hC, _⟩ => ⟨he, dk_mono hd fun _ => more_old, hC⟩
  crash := fun h hF keep torn cut _ _ _ => (dcrash_any h hF keep torn cut).mono fun e w' ⟨he, hd, hC⟩ => ⟨he, dk_mono hd fun _ => more_old, hC⟩

/-! ### No disk -/

theorem nsize_any (w : World) : Calls Try.prog 21 #[.pointer none] w fun e w' => e = .returned (.int .i64 0) ∧ w' = w := by
  go_enter Try.func21, Try.ntmps21
  go_wp2
  go_ret
  exact ⟨rfl, rfl⟩
theorem ncached_any (w : World) : Calls Try.prog 16 #[.pointer none] w fun e w' => e = .returned (.int .i64 0) ∧ w' = w := by
  go_enter Try.func16, Try.ntmps16
  go_wp2
  go_ret
  exact ⟨rfl, rfl⟩
theorem nflush_any (w : World) : Calls Try.prog 15 #[.pointer none] w fun e w' => e = .returned (.int .i64 1) ∧ w' = w := by
  go_enter Try.func15, Try.ntmps15
  go_wp2
  go_ret
  exact ⟨rfl, rfl⟩
theorem nfuse_any (n : Int) (w : World) : Calls Try.prog 19 #[.pointer none, .int .i64 n] w fun e w' => e = .returned (.tuple #[]) ∧ w' = w := by
  go_enter Try.func19, Try.ntmps19
  go_wp2
  refine bodyPost_ret (results_none rfl _ _ _) rfl ?_
  exact ⟨rfl, rfl⟩
theorem ncrash_any (keep torn cut : Int) (w : World) : Calls Try.prog 18 #[.pointer none, .int .i64 keep, .int .i64 torn, .int .i64 cut] w fun e w' => e = .returned (.tuple #[]) ∧ Below w.heap.size w w' := by
  have HB := Lib.hid (((below_alloc w (.cells #[.int .i64 keep] 3)).alloc (by simp) (.cells #[.int .i64 torn] 3)).alloc (by simp; omega) (.cells #[.int .i64 cut] 3))
  go_enter Try.func18, Try.ntmps18
  go_wp2
  refine bodyPost_ret (results_none rfl _ _ _) rfl ?_
  exact ⟨rfl, HB.out⟩
theorem nhas_any (i : Int) (w : World) : Calls Try.prog 27 #[.pointer none, .int .i64 i] w fun e w' => e = .returned (.bool false) ∧ w' = w := by
  have HS := Lib.hid (nsize_any w)
  by_cases h0 : 0 ≤ i
  · go_enter Try.func27, Try.ntmps27
    go_wp2_with (first | (go_at_call 21; refine HS.out.mono ?_; rintro e w1 ⟨rfl, rfl⟩) | fail)
    go_ret
    exact ⟨by first | rfl | exact ret_bool (decide_eq_false (by omega)), rfl⟩
  · go_enter Try.func27, Try.ntmps27
    go_wp2_with (first | (go_at_call 21; refine HS.out.mono ?_; rintro e w1 ⟨rfl, rfl⟩) | fail)
    go_ret
    exact ⟨by first | rfl | exact ret_bool (decide_eq_false (by omega)), rfl⟩
theorem nread_any (i : Int) (w : World) : Calls Try.prog 17 #[.pointer none, .int .i64 i] w fun e w' => e = .returned (.tuple #[.slice none 0 0, .int .i64 1]) ∧ w' = w := by
  have HS := Lib.hid (nhas_any i w)
  go_enter Try.func17, Try.ntmps17
  go_wp2_with (first | (go_at_call 27; refine HS.out.mono ?_; rintro e w1 ⟨rfl, rfl⟩) | fail)
  go_ret2
  exact ⟨rfl, rfl⟩
theorem nwrite_any (i : Int) (aa : Option Addr) (len cap : Nat) (w : World) : Calls Try.prog 13 #[.pointer none, .int .i64 i, .slice aa len cap] w fun e w' => e = .returned (.int .i64 1) ∧ w' = w := by
  have HS := Lib.hid (nhas_any i w)
  go_enter Try.func13, Try.ntmps13
  go_wp2_with (first | (go_at_call 27; refine HS.out.mono ?_; rintro e w1 ⟨rfl, rfl⟩) | fail)
  go_ret
  exact ⟨rfl, rfl⟩

end Go.Proofs.Ytpbegchaneppfaa.Dsk
