/- Common to the claims of this seat, part 3: texts that were written one by one, laid behind one another. -/
import Derived.Deep.MidRow
import Derived.Laws.CopyOwn
import Derived.Laws.Bits128
import Derived.Test.YtdgfoldobofgoaaChecked
import Derived.ProofKit
import Derived.WalkKit
import Derived.BigFrame
import Derived.BigQuiet
import Derived.Deep.DeepCutAuto
import Derived.WalkLawsBesides
import Derived.LoopTactic
import Derived.Lib.Hide
import Derived.Laws.BitsAllLaws
import Derived.Laws.IdiomStrings
import Derived.Test.YtdgfoldobofgoaaPart2
/- Journal: the landed save and Format: a checkpoint is written, and flushed. -/
namespace Go.Proofs.Ytdgfoldobofgoaa.Jrn
set_option maxRecDepth 100000
open Go.RowKit
open Go.Sort
open Kit
open Oct
open Chk
open Frm
open Foot
open Dsk (Sec DS mix mix_at mix_length mix_whole mix_none RdB)
set_option linter.unusedVariables false
variable {D : World → (Nat → Prop) → Nat → DS → Prop}
variable {w w' : World} {F G : Nat → Prop} {p pj : Nat} {s t : DS} {j : JS}

/-- What save does: the error, and the disk behind it. -/
inductive SaveR (s : DS) (slot place epoch seq : Nat) (b : Bs) : Nat → DS → Prop
  | big (h : 4294967295 < epoch) : SaveR s slot place epoch seq b 2 s
  | full (h : epoch ≤ 4294967295) (h2 : slot < secs b.length) : SaveR s slot place epoch seq b 5 s
  | done (s' : DS) (h : epoch ≤ 4294967295) (h2 : secs b.length ≤ slot) (hs : Sure s s' (over s.now (place * slot) (secsB epoch seq b))) : SaveR s slot place epoch seq b 0 s'
  | down (s' : DS) (h : epoch ≤ 4294967295) (h2 : secs b.length ≤ slot) (hs : Half s s' (place * slot) (secsB epoch seq b)) : SaveR s slot place epoch seq b 10 s'
theorem put_half {a : Nat} {cs : List Sec} (h : Put s t a cs) (hl : a + cs.length ≤ s.now.length) (hf : t.fuse = 0) : Half s t a cs :=
  ⟨h.good, by rw [h.now, over_length hl], fun i => .inr (by rw [h.now]), h.ok, fun e => by have := h.fuse e; omega⟩
theorem flush_is (s : DS) : (s.fuse = 0 ∧ s.flush = (10, s)) ∨ (s.fuse ≠ 0 ∧ s.flush.1 = 0 ∧ s.flush.2.good = s.now ∧ s.flush.2.now = s.now ∧ s.flush.2.fuse = Dsk.burnt s.fuse) := by
  by_cases hf : s.fuse = 0
  · left; refine ⟨hf, ?_⟩; unfold DS.flush; rw [if_pos hf]
  · right; refine ⟨hf, ?_⟩; unfold DS.flush; rw [if_neg hf]; exact ⟨rfl, rfl, rfl, rfl⟩
theorem put_sure {a : Nat} {cs : List Sec} (h : Put s t a cs) (h1 : t.flush.2.good = t.now) (h2 : t.flush.2.now = t.now) (h3 : t.flush.2.fuse = Dsk.burnt t.fuse) (ok : t.flush.2.Ok) : Sure s t.flush.2 (over s.now a cs) :=
  ⟨by rw [h1, h.now], by rw [h2, h.now], ok, fun e => by rw [h3, h.fuse e]; rfl⟩
theorem secsI_is {n : Nat} (h : n ≤ 65535) : secsI (n : Int) = secs n := by unfold secsI; rw [if_neg (by omega), Int.toNat_natCast]
theorem packA_is {e q : Nat} (he : e < 4294967296) (hq : q < 4294967296) (l : Bs) : packA (e : Int) (q : Int) l = (packB e q l, 0) := by
  unfold packA
  rw [if_pos ⟨⟨by omega, by omega⟩, by omega, by omega⟩, Int.toNat_natCast, Int.toNat_natCast]

set_option maxHeartbeats 8000000 in
theorem jsave_any (hD : Dsk.Prog D) (hP : Frm.Prog) (h : D w F p s) (hF : ∀ k, F k → k < w.heap.size) (slot place epoch seq : Nat) (h1 : 1 ≤ slot) (h2 : 2 * slot < s.good.length) (hp : place ≤ 1) (he : epoch ≤ 4294967296) (hq : seq < 4294967296)
    (aa : Option Addr) (len cap : Nat) (b : Bs) (hA : Arg w aa len cap b) (hl : len ≤ 3000) :
    Calls Try.prog 24 #[.agg #[.int .i64 (place : Nat), .int .i64 (epoch : Nat), .int .i64 (seq : Nat), .slice aa len cap], .pointer (some ⟨p, 0, none⟩), .int .i64 (slot : Nat)] w fun e w' => ∃ n s', e = .returned (.int .i64 (n : Nat)) ∧ SaveR s slot place epoch seq b n s' ∧ D w' (More F w w') p s' ∧ Chg F w w' := by
  have hok := hD.ok h
  have hsm := hok.small
  have hnl := hok.len
  have hlb := hA.len
  have hb1 := below_alloc w (.cells #[.int .i64 (place : Nat), .int .i64 (epoch : Nat), .int .i64 (seq : Nat), .slice aa len cap] 53)
  have hblk := Arr.blk_new w _ 53 [.int .i64 (place : Nat), .int .i64 (epoch : Nat), .int .i64 (seq : Nat), .slice aa len cap] rfl
  obtain ⟨w1, hw1⟩ : ∃ x, x = w.alloc (.cells #[.int .i64 (place : Nat), .int .i64 (epoch : Nat), .int .i64 (seq : Nat), .slice aa len cap] 53) := ⟨_, rfl⟩
  replace hblk : Arr.Blk w1 w.heap.size 53 [.int .i64 (place : Nat), .int .i64 (epoch : Nat), .int .i64 (seq : Nat), .slice aa len cap] := by rw [hw1]; exact hblk
  rw [← hw1] at hb1
  have HW1 := Lib.hid hw1
  have HD := Lib.hid (And.intro h (And.intro hF (And.intro hok (And.intro hA (And.intro hblk hb1)))))
  have c0 := Arr.blk_cell hblk 0
  have c1 := Arr.blk_cell hblk 1
  have c2 := Arr.blk_cell hblk 2
  have c3 := Arr.blk_cell hblk 3
  simp only [List.getElem?_cons_zero, List.getElem?_cons_succ] at c0 c1 c2 c3
  have HC := Lib.hid (And.intro c0 (And.intro c1 (And.intro c2 c3)))
  have hend : ∀ (wx : World), Below w.heap.size w wx → D wx F p s → D wx (More F w wx) p s ∧ Chg F w wx := fun wx hb hd => ⟨hD.mono hd fun k hk => .inl hk, new_chg hb F⟩
  have HEnd := Lib.hid hend
  clear h hF hok hA hblk hb1 hw1 hend
  have hli : ¬ (len : Int) > 65535 := by omega
  have HNl := Lib.hid (And.intro hnl hlb)
  clear hnl hlb
  by_cases hbig : 4294967295 < epoch
  · have hbi : (4294967295 : Int) < epoch := by omega
    have HB := Lib.hid hbig
    clear hbig
    go_enter Try.func24, Try.ntmps24
    go_upto_region 1 with fail
    rw [← HW1.out]
    go_wp2_with fail
    go_ret
    obtain ⟨h8, h9⟩ := HEnd.out w1 HD.out.2.2.2.2.2 (d_keep hD HD.out.1 HD.out.2.2.2.2.2)
    first | exact ⟨2, s, rfl, .big HB.out, h8, h9⟩ | exact ⟨2, rfl, s, .big HB.out, h8, h9⟩
  · have hbi : ¬ (4294967295 : Int) < epoch := by omega
    have he2 : epoch ≤ 4294967295 := by omega
    have HB := Lib.hid he2
    clear hbig he2 he
    go_enter Try.func24, Try.ntmps24
    go_upto_region 1 with fail
    rw [← HW1.out]
    go_wp2_with fail
    refine (hP.sectors (len : Nat) w1 ⟨by omega, by omega⟩).mono ?_
    rintro e w2 ⟨rfl, hb⟩
    rw [secsI_is (by omega)]
    have hB2 := below_keep HD.out.2.2.2.2.2 hb
    have d1 := cell_keep hb c1
    have d2 := cell_keep hb c2
    have d3 := cell_keep hb c3
    have HB2 := Lib.hid (And.intro hB2 hb)
    have hs2 : secs len ≤ 3000 := by unfold secs; omega
    obtain ⟨K, hK⟩ : ∃ K, K = secs len := ⟨_, rfl⟩
    rw [← hK] at hs2 ⊢
    have HK := Lib.hid (show K = secs b.length by rw [hK, HNl.out.2])
    clear hB2 hb hK c0 c1 c2 c3
    by_cases hfull : slot < K
    · have hfi : (slot : Int) < K := by omega
      have HFu := Lib.hid hfull
      clear hfull
      go_wp2_with fail
      go_ret
      obtain ⟨h8, h9⟩ := HEnd.out w2 HB2.out.1 (d_keep hD (d_keep hD HD.out.1 HD.out.2.2.2.2.2) HB2.out.2)
      first | exact ⟨5, s, rfl, .full HB.out (by rw [← HK.out]; exact HFu.out), h8, h9⟩ | exact ⟨5, rfl, s, .full HB.out (by rw [← HK.out]; exact HFu.out), h8, h9⟩
    · have hfi : ¬ (slot : Int) < K := by omega
      have HFu := Lib.hid (show K ≤ slot by omega)
      clear hfull
      go_wp2_with fail
      refine (hP.pack (epoch : Nat) (seq : Nat) aa len cap b w2 ⟨by omega, by have := HB.out; omega⟩ ⟨by omega, by omega⟩ (arg_keep HD.out.2.2.2.1 HB2.out.1) hl).mono ?_
      rintro e w3 ⟨v3, rfl, hn3, hb3⟩
      rw [packA_is (by have := HB.out; omega) hq] at hn3 ⊢
      replace hn3 : NewB w3 w2.heap.size v3 (packB epoch seq b) := hn3
      obtain ⟨a3, m3, rfl, r1, r2, r3, r4, hq3⟩ := hn3
      have hA3 : Arg w3 a3 (packB epoch seq b).length m3 (packB epoch seq b) := ⟨rfl, r1, r2, r3, r4⟩
      have e0 := cell_keep HB2.out.2 HC.out.1
      have d0 := cell_keep hb3 e0
      obtain ⟨A0, hA0⟩ : ∃ x, x = place * slot := ⟨_, rfl⟩
      have hi0 : (place : Int) * (slot : Int) = (A0 : Nat) := by rw [hA0]; exact (Int.natCast_mul _ _).symm
      have hA0s : A0 ≤ slot := by
        have := Nat.mul_le_mul_right slot hp
        omega
      have hA3' : Arg w3 a3 (packB epoch seq b).length m3 (secsB epoch seq b).flatten := by rw [secsB_flat]; exact hA3
      have H3 := Lib.hid (And.intro hA3' (And.intro (below_keep HB2.out.1 hb3) (And.intro (show ∀ q, a3 = some q → ¬ F q.block ∧ q.block < w3.heap.size from fun q hq => ⟨fun hf => by have := HD.out.2.1 _ hf; have := (hq3 q hq).1; have := HB2.out.1.size; omega, (hq3 q hq).2⟩) (And.intro hA0 (d_keep hD (d_keep hD (d_keep hD HD.out.1 HD.out.2.2.2.2.2) HB2.out.2) hb3)))))
      obtain ⟨n3, hn3l⟩ : ∃ n, n = (packB epoch seq b).length := ⟨_, rfl⟩
      rw [← hn3l] at H3 ⊢
      clear r1 r2 r3 r4 hA3 hA3' hq3 hb3 e0 hA0 d1 d2 d3 hn3l
      go_wp2_with fail
      refine (jwrite_any hD H3.out.2.2.2.2 (fun k hk => Nat.lt_of_lt_of_le (HD.out.2.1 k hk) H3.out.2.1.size) A0 (secsB epoch seq b) secsB_32 (by rw [secsB_length, ← HK.out]; have := HFu.out; omega) a3 n3 m3 H3.out.1 H3.out.2.2.1).mono ?_
      rintro e w4 ⟨bo, t, rfl, hres, hd4, hC4⟩
      have hC04 : Chg F w w4 := chg_trans (new_chg H3.out.2.1 F) hC4 fun x hx => .inl hx
      have hsec : secs b.length ≤ slot := by rw [← HK.out]; exact HFu.out
      rcases hres with ⟨rfl, hput⟩ | ⟨rfl, hhalf⟩
      · have H4 := Lib.hid (And.intro hput (And.intro hd4 (And.intro hC04 hsec)))
        have hlt4 : ∀ k, More F w3 w4 k → k < w4.heap.size := fun k hk => more_lt (fun k hk => Nat.lt_of_lt_of_le (HD.out.2.1 k hk) H3.out.2.1.size) hC4.size hk
        have HL4 := Lib.hid (And.intro hlt4 hC4)
        clear hput hd4 hC4 hC04 hsec hlt4 hi0
        go_wp2_with fail
        refine (hD.flush H4.out.2.1 HL4.out.1).mono ?_
        rintro e w5 ⟨rfl, hd5, hC5⟩
        have hC05 : Chg F w w5 := chg_trans H4.out.2.2.1 hC5 fun x hx => hx.elim .inl fun h => .inr (Nat.le_trans H3.out.2.1.size h.1)
        have hmo : ∀ k, More (More F w3 w4) w4 w5 k → More F w w5 k := fun k hk => by
          rcases hk with (hk | hk) | hk
          · exact .inl hk
          · exact .inr ⟨Nat.le_trans H3.out.2.1.size hk.1, Nat.lt_of_lt_of_le hk.2 hC5.size⟩
          · exact .inr ⟨Nat.le_trans H4.out.2.2.1.size hk.1, hk.2⟩
        have hd5' := hD.mono hd5 hmo
        rcases flush_is t with ⟨hf, he⟩ | ⟨hf, g1, g2, g3, g4⟩
        · rw [he] at hd5' ⊢
          have H5 := Lib.hid (And.intro hd5' (And.intro hC05 hf))
          clear hd5 hd5' hC5 hC05 hmo hf he
          go_wp2_with fail
          go_ret
          first | exact ⟨10, t, rfl, .down t HB.out H4.out.2.2.2 (by rw [← H3.out.2.2.2.1]; exact put_half H4.out.1 (by rw [secsB_length, ← HK.out, HNl.out.1]; have := HFu.out; omega) H5.out.2.2), H5.out.1, H5.out.2.1⟩ | exact ⟨10, rfl, t, .down t HB.out H4.out.2.2.2 (by rw [← H3.out.2.2.2.1]; exact put_half H4.out.1 (by rw [secsB_length, ← HK.out, HNl.out.1]; have := HFu.out; omega) H5.out.2.2), H5.out.1, H5.out.2.1⟩
        · rw [g1]
          have H5 := Lib.hid (And.intro hd5' (And.intro hC05 (And.intro g2 (And.intro g3 (And.intro g4 (hD.ok hd5))))))
          clear hd5 hd5' hC5 hC05 hmo hf g1 g2 g3 g4
          go_wp2_with fail
          go_ret
          first | exact ⟨0, _, rfl, .done _ HB.out H4.out.2.2.2 (by rw [← H3.out.2.2.2.1]; exact put_sure H4.out.1 H5.out.2.2.1 H5.out.2.2.2.1 H5.out.2.2.2.2.1 H5.out.2.2.2.2.2), H5.out.1, H5.out.2.1⟩ | exact ⟨0, rfl, _, .done _ HB.out H4.out.2.2.2 (by rw [← H3.out.2.2.2.1]; exact put_sure H4.out.1 H5.out.2.2.1 H5.out.2.2.2.1 H5.out.2.2.2.2.1 H5.out.2.2.2.2.2), H5.out.1, H5.out.2.1⟩
      · have H4 := Lib.hid (And.intro hhalf (And.intro (show D w4 (More F w w4) p t from hD.mono hd4 fun k hk => hk.imp id fun h => ⟨Nat.le_trans H3.out.2.1.size h.1, h.2⟩) (And.intro hC04 hsec)))
        clear hhalf hd4 hC4 hC04 hsec hi0
        go_wp2_with fail
        go_ret
        first | exact ⟨10, t, rfl, .down t HB.out H4.out.2.2.2 (by rw [← H3.out.2.2.2.1]; exact H4.out.1), H4.out.2.1, H4.out.2.2.1⟩ | exact ⟨10, rfl, t, .down t HB.out H4.out.2.2.2 (by rw [← H3.out.2.2.2.1]; exact H4.out.1), H4.out.2.1, H4.out.2.2.1⟩

/-! ### The landed Format -/

theorem save_format {slot : Int} {n : Nat} {s' : DS} {b : Bs} (hpo : partOk s.good.length slot) (hb : b.length ≤ 65535) (h : SaveR s slot.toNat 0 1 0 b n s') : FormatR s slot b n s' := by
  have hz : 0 * slot.toNat = 0 := Nat.zero_mul _
  have hs := hpo.1
  cases h with
  | big h => omega
  | full h h2 => exact .full hpo hb (by omega)
  | done s' h h2 hs => rw [hz] at hs; exact .done s' hpo hb (by omega) hs
  | down s' h h2 hs => rw [hz] at hs; exact .down s' hpo hb (by omega) hs
set_option maxHeartbeats 4000000 in
theorem jformat_any (hD : Dsk.Prog D) (hP : Frm.Prog) (h : D w F p s) (hF : ∀ k, F k → k < w.heap.size) (slot : Int) (hs : inI slot) (aa : Option Addr) (len cap : Nat) (b : Bs) (hA : Arg w aa len cap b) (hl : len ≤ 3000) :
    Calls Try.prog 8 #[.pointer (some ⟨p, 0, none⟩), .int .i64 slot, .slice aa len cap] w fun e w' => ∃ n s', e = .returned (.int .i64 (n : Nat)) ∧ FormatR s slot b n s' ∧ D w' (More F w w') p s' ∧ Chg F w w' := by
  have HD := Lib.hid (And.intro h (And.intro hF (And.intro hA (show b.length ≤ 65535 by rw [hA.len]; omega))))
  have HPl := Lib.hid (places_any hD h slot hs)
  clear h hF hA
  by_cases hpo : partOk s.good.length slot
  · have HX := Lib.hid (And.intro hpo (decide_eq_true hpo))
    obtain ⟨sl, hsl⟩ : ∃ x, x = slot.toNat := ⟨_, rfl⟩
    have hsli : slot = (sl : Nat) := by have := hpo.1; omega
    have HS := Lib.hid (And.intro hsl (And.intro (show 1 ≤ sl by have := hpo.1; omega) (show 2 * sl < s.good.length by have := hpo.2; omega)))
    clear hpo hsl hs
    go_enter Try.func8, Try.ntmps8
    subst hsli
    go_wp2_with fail
    refine HPl.out.mono ?_
    rw [HX.out.2]
    rintro e w1 ⟨rfl, hb⟩
    have HB := Lib.hid hb
    clear hb
    go_wp2_with fail
    refine (jsave_any hD hP (d_keep hD HD.out.1 HB.out) (fun k hk => Nat.lt_of_lt_of_le (HD.out.2.1 k hk) HB.out.size) sl 0 1 0 HS.out.2.1 HS.out.2.2 (by omega) (by omega) (by omega) aa len cap b (arg_keep HD.out.2.2.1 HB.out) hl).mono ?_
    rintro e w2 ⟨n, s', rfl, hr, hd, hC⟩
    have hr' := save_format (slot := (sl : Nat)) HX.out.1 HD.out.2.2.2 (by rw [Int.toNat_natCast]; exact hr)
    have H2 := Lib.hid (And.intro hr' (And.intro (show D w2 (More F w w2) p s' from hD.mono hd fun k hk => hk.imp id fun h => ⟨Nat.le_trans HB.out.size h.1, h.2⟩) (chg_trans (new_chg HB.out F) hC fun x hx => .inl hx)))
    clear hr hr' hd hC
    go_wp2_with fail
    go_ret
    first | exact ⟨n, s', rfl, H2.out.1, H2.out.2.1, H2.out.2.2⟩ | exact ⟨n, rfl, s', H2.out.1, H2.out.2.1, H2.out.2.2⟩
  · have HX := Lib.hid (And.intro hpo (decide_eq_false hpo))
    clear hpo hs
    go_enter Try.func8, Try.ntmps8
    go_wp2_with fail
    refine HPl.out.mono ?_
    rw [HX.out.2]
    rintro e w1 ⟨rfl, hb⟩
    have HB := Lib.hid (And.intro (hD.mono (d_keep hD HD.out.1 hb) fun k (hk : F k) => (.inl hk : More F w w1 k)) (new_chg hb F))
    clear hb
    go_wp2_with fail
    go_ret
    first | exact ⟨1, s, rfl, .arg HX.out.1, HB.out.1, HB.out.2⟩ | exact ⟨1, rfl, s, .arg HX.out.1, HB.out.1, HB.out.2⟩
/-- A slot for which there is no room; no disk. -/
theorem jformat_arg (hD : Dsk.Prog D) (h : D w F p s) (slot : Int) (hs : inI slot) (aa : Option Addr) (len cap : Nat) (hpo : ¬ partOk s.good.length slot) :
    Calls Try.prog 8 #[.pointer (some ⟨p, 0, none⟩), .int .i64 slot, .slice aa len cap] w fun e w' => e = .returned (.int .i64 1) ∧ Below w.heap.size w w' := by
  have HPl := Lib.hid (places_any hD h slot hs)
  rw [decide_eq_false hpo] at HPl
  clear h hpo
  go_enter Try.func8, Try.ntmps8
  go_wp2_with fail
  refine HPl.out.mono ?_
  rintro e w1 ⟨rfl, hb⟩
  have HB := Lib.hid hb
  clear hb
  go_wp2_with fail
  go_ret
  exact ⟨rfl, HB.out⟩
/-- No disk has a size. -/
def NilSize : Prop := ∀ w : World, Calls Try.prog 22 #[.pointer none] w fun e w' => e = .returned (.int .i64 0) ∧ Below w.heap.size w w'
theorem places_nil (hN : NilSize) (slot : Int) (hs : inI slot) (w : World) : Calls Try.prog 23 #[.pointer none, .int .i64 slot] w fun e w' => e = .returned (.bool false) ∧ Below w.heap.size w w' := by
  by_cases h1 : 1 ≤ slot
  · have h2 : ¬ slot ≤ 0 := by omega
    go_enter Try.func23, Try.ntmps23
    go_wp2_with fail
    refine (hN w).mono ?_
    rintro e w1 ⟨rfl, hb⟩
    have HB := Lib.hid hb
    clear hb
    go_wp2_with fail
    go_ret
    exact ⟨by first | rfl | exact ret_bool (decide_eq_false (by omega)), HB.out⟩
  · go_enter Try.func23, Try.ntmps23
    go_wp2_with fail
    go_ret
    exact ⟨by first | rfl | exact ret_bool (decide_eq_false (by omega)), Below.refl _ _⟩
theorem jformat_nil (hN : NilSize) (slot : Int) (hs : inI slot) (aa : Option Addr) (len cap : Nat) (w : World) :
    Calls Try.prog 8 #[.pointer none, .int .i64 slot, .slice aa len cap] w fun e w' => e = .returned (.int .i64 1) ∧ Below w.heap.size w w' := by
  go_enter Try.func8, Try.ntmps8
  go_wp2_with fail
  refine (places_nil hN slot hs w).mono ?_
  rintro e w1 ⟨rfl, hb⟩
  have HB := Lib.hid hb
  clear hb
  go_wp2_with fail
  go_ret
  exact ⟨rfl, HB.out⟩
end Go.Proofs.Ytdgfoldobofgoaa.Jrn
/- Journal: the landed Open. -/
namespace Go.Proofs.Ytdgfoldobofgoaa.Jrn
set_option maxRecDepth 100000
open Go.RowKit
open Go.Sort
open Kit
open Oct
open Chk
open Frm
open Foot
open Dsk (Sec DS mix mix_at mix_length mix_whole mix_none RdB)
set_option linter.unusedVariables false
variable {D : World → (Nat → Prop) → Nat → DS → Prop}
variable {w w' : World} {F G : Nat → Prop} {p pj : Nat} {s t : DS} {j : JS}

theorem results_tmp4 {fn : Func} {t u v x : Tmp} (h : fn.results = #[.tmp t, .tmp u, .tmp v, .tmp x]) (tmps : Array Value) (P : Program) (w : World) :
    (results fn tmps).run P w = .ok (.tuple #[tmps.getD t undef, tmps.getD u undef, tmps.getD v undef, tmps.getD x undef]) w := by
  simp [results, h]
theorem run_ld_n {w : World} {a : Addr} {n : Nat} (h : w.cell? a = some (.int .i64 (n : Nat))) : (Instr.loadAt 3 (.pointer (some a))).run Try.prog w = .ok (.int .i64 (n : Nat)) w := by
  simp [go_sem, h]
theorem run_ld_svo {w : World} {a : Addr} {x : Option Addr} {n c : Nat} (h : w.cell? a = some (.slice x n c)) : (Instr.loadAt 27 (.pointer (some a))).run Try.prog w = .ok (.slice x n c) w := by
  simp [go_sem, h]
theorem run_ex2 (u v : Value) (i : Nat) (x : Value) (h : #[u, v][i]? = some x) (w : World) : (Instr.extract (.tuple #[u, v]) i).run Try.prog w = .ok x w := by
  match i, h with
  | 0, h => simp at h; subst h; simp [go_sem]
  | 1, h => simp at h; subst h; simp [go_sem]
theorem newL_le {base base' : Nat} {v : Value} {ls : List Bs} (h : NewL w base v ls) (hb : base' ≤ base) : NewL w base' v ls :=
  list_chg h (chg_refl (fun _ => False) w) (fun _ _ => id) fun k hk => ⟨Nat.le_trans hb hk.1, hk.2⟩
theorem newL_keep {base : Nat} {v : Value} {ls : List Bs} (h : NewL w base v ls) (hb : Below w.heap.size w w') : NewL w' base v ls :=
  list_chg h (new_chg hb (fun _ => False)) (fun _ _ => id) fun k hk => ⟨hk.1, Nat.lt_of_lt_of_le hk.2 hb.size⟩
def kNew (base : Nat) (l : Bs) : Rel.Kd Rel.Gr := ⟨fun w u => NewB w base u l, fun _ _ _ h hn => new_keep hn h⟩
def kLst (base : Nat) (R : List Bs) : Rel.Kd Rel.Gr := ⟨fun w u => NewL w base u R, fun _ _ _ h hn => newL_keep hn h⟩
def kRec (base : Nat) (R : List Bs) : Rel.Kd Rel.Gr := ⟨fun w u => ∃ v, u = .tuple #[v, .int .i64 (span R : Nat)] ∧ NewL w base v R, fun _ _ _ h ⟨v, e, hn⟩ => ⟨v, e, newL_keep hn h⟩⟩
theorem recs_fit (E : Nat) : ∀ (f q : Nat) (L : List Sec), (∀ x ∈ L, x.length = 32) → span (recs E f q L) ≤ L.length ∧ (recs E f q L).length ≤ span (recs E f q L)
  | 0, q, L, h => ⟨Nat.zero_le _, Nat.zero_le _⟩
  | f + 1, q, L, h => by
    unfold recs
    split
    · rename_i e q' b k hu
      split
      · obtain ⟨_, _, _, h4, h5, _⟩ := unpack_some hu
        rw [flat_length32 L h] at h5
        obtain ⟨ih, ih2⟩ := recs_fit E f (q + 1) (L.drop k) fun x hx => h x (List.mem_of_mem_drop hx)
        rw [List.length_drop] at ih
        have hs : span (b :: recs E f (q + 1) (L.drop k)) = secs b.length + span (recs E f (q + 1) (L.drop k)) := by simp [span]
        have := secs_pos b.length
        rw [hs, List.length_cons]
        omega
      · exact ⟨Nat.zero_le _, Nat.zero_le _⟩
    · exact ⟨Nat.zero_le _, Nat.zero_le _⟩
theorem part_all {c : List Sec} {a : Nat} : part c a c.length = c.drop a := by
  unfold part
  rw [List.take_of_length_le (by rw [List.length_drop]; exact Nat.le_refl _)]

theorem below_drewN (w : World) (n : Nat) : Below w.heap.size w (w.drewN n) := ⟨rfl, rfl, rfl, Nat.le_refl _, fun _ _ => rfl⟩

set_option maxHeartbeats 8000000 in
theorem jopen_any (hD : Dsk.Prog D) (hP : Frm.Prog) (h : D w F p s) (hF : ∀ k, F k → k < w.heap.size) (h100 : s.good.length ≤ 100) (slot : Int) (hs : inI slot) :
    Calls Try.prog 10 #[.pointer (some ⟨p, 0, none⟩), .int .i64 slot] w fun e w' => ∃ n r, OpenR s slot n r ∧ OpenE Jr w p n r e w' ∧ Below w.heap.size w w' := by
  have hok := hD.ok h
  have HD := Lib.hid (And.intro h (And.intro hok (And.intro hF h100)))
  have HPl := Lib.hid (places_any hD h slot hs)
  clear h hok hF h100
  by_cases hpo : partOk s.good.length slot
  · have HX := Lib.hid (And.intro hpo (decide_eq_true hpo))
    obtain ⟨sl, hsl⟩ : ∃ x, x = slot.toNat := ⟨_, rfl⟩
    have hsli : slot = (sl : Nat) := by have := hpo.1; omega
    have HS := Lib.hid (And.intro (show 1 ≤ sl by have := hpo.1; omega) (show 2 * sl < s.good.length by have := hpo.2; omega))
    have hsl2 : sl ≤ 100 := by have := HS.out.2; have := HD.out.2.2.2; omega
    clear hpo hsl hs
    go_enter Try.func10, Try.ntmps10
    subst hsli
    go_wp2_with fail
    refine HPl.out.mono ?_
    rw [HX.out.2]
    rintro e w1 ⟨rfl, hb⟩
    have HB := Lib.hid hb
    clear hb
    go_wp2_with fail
    refine (jpick_any hD hP (d_keep hD HD.out.1 HB.out) sl HS.out.1 HS.out.2 HD.out.2.2.2).mono ?_
    rintro e w2 ⟨hp, hb⟩
    rcases eq_opt (pick s.now sl) with ha | ⟨⟨P, E, Q, b⟩, ha⟩
    · rw [ha] at hp
      obtain rfl : e = _ := hp
      have HA := Lib.hid (And.intro ha (below_keep HB.out hb))
      clear ha hb
      go_wp2_with (first | (refine wpList_store_own rfl 53 (.tmp 8) (.tmp 20) rfl w2.heap.size zero4 rfl rfl zero4 53 (Arr.blk_new w2 _ _ zero4 rfl) info_ck rfl rfl ?_; intro w4 hblk hC hsz; have HC4 := Lib.hid (And.intro hC hsz); clear hblk hC hsz) | fail)
      refine bodyPost_ret (results_tmp4 rfl _ _ _) rfl ?_
      refine ⟨15, none, .lost HX.out.1 (by rw [Int.toNat_natCast]; exact HA.out.1), ⟨_, _, rfl, new_nil _ _, ⟨none, 0, [], rfl, Nat.le_refl _, Nat.zero_le _, (fun _ => ⟨rfl, rfl⟩), .inl rfl, (fun s hs => by cases hs), rfl⟩⟩, (below_keep HA.out.2 (below_alloc w2 (.cells zero4.toArray 53))).trans (chg_below HC4.out.1 (fun y hy => by have := HA.out.2.size; omega) (Nat.le_trans HA.out.2.size (by simp)))⟩
    · rw [ha] at hp
      obtain ⟨v, rfl, hn⟩ := hp
      obtain ⟨a3, c3, rfl, r1, r2, r3, r4, r5⟩ := hn
      obtain ⟨hp2, hE, hQ, hb6⟩ := pick_place ha
      have HN := Lib.hid (show NewB w2 w1.heap.size (.slice a3 b.length c3) b from ⟨a3, c3, rfl, r1, r2, r3, r4, r5⟩)
      have HA := Lib.hid (And.intro ha (And.intro (below_keep HB.out hb) (d_keep hD (d_keep hD HD.out.1 HB.out) hb)))
      have hB1 := HB.out.size
      have HB1 := Lib.hid hB1
      obtain ⟨nb, hnb⟩ : ∃ x, x = b.length := ⟨_, rfl⟩
      rw [← hnb] at HN ⊢
      have HNb := Lib.hid hnb
      obtain ⟨B, hB⟩ : ∃ x, x = w2.heap.size := ⟨_, rfl⟩
      have HBw := Lib.hid hB
      clear ha hb r1 r2 r3 r4 r5 hb6 hB1 hnb hB HPl
      go_upto_region 4 with (first | (refine wpList_store_own rfl 53 (.tmp 8) (.tmp 20) rfl w2.heap.size [.int .i64 (P : Nat), .int .i64 (E : Nat), .int .i64 (Q : Nat), .slice a3 nb c3] rfl rfl zero4 53 (Arr.blk_new w2 _ _ zero4 rfl) info_ck rfl rfl ?_; intro w3 hblk hC hsz; have HC3 := Lib.hid (And.intro hblk (And.intro hC hsz)); clear hblk hC hsz) | fail)
      rw [← HBw.out]
      have hbl3 : Below w2.heap.size w2 w3 := (below_alloc w2 (.cells zero4.toArray 53)).trans (chg_below HC3.out.2.1 (fun y hy => by omega) (by simp))
      have hblk3 := HC3.out.1
      rw [← HBw.out] at hblk3
      have q1 := Arr.blk_cell hblk3 1
      have q2 := Arr.blk_cell hblk3 2
      have q3 := Arr.blk_cell hblk3 3
      simp only [List.getElem?_cons_zero, List.getElem?_cons_succ] at q1 q2 q3
      have HCc := Lib.hid (And.intro q1 (And.intro q2 q3))
      have HD3 := Lib.hid (d_keep hD HA.out.2.2 hbl3)
      have HN3 := Lib.hid (new_keep HN.out hbl3)
      have HB3 := Lib.hid (below_keep HA.out.2.1 hbl3)
      obtain ⟨lg, hlg⟩ : ∃ x, x = 2 * sl := ⟨_, rfl⟩
      have hlgi : (2 : Int) * (sl : Int) = (lg : Nat) := by omega
      obtain ⟨LG, hLG⟩ : ∃ x, x = (part s.now lg s.good.length).flatten := ⟨_, rfl⟩
      obtain ⟨R, hR⟩ : ∃ x, x = listed s.now sl E Q := ⟨_, rfl⟩
      have hnl := HD.out.2.1.len
      have hL : part s.now lg s.good.length = s.now.drop (2 * sl) := by rw [← hnl, part_all, hlg]
      have h32 : ∀ c ∈ s.now.drop (2 * sl), c.length = 32 := fun c hc => HD.out.2.1.now32 c (List.mem_of_mem_drop hc)
      have hdl : (s.now.drop (2 * sl)).length = s.now.length - 2 * sl := List.length_drop
      have hsl3 := HS.out.2
      have hn100 := HD.out.2.2.2
      have hfit := recs_fit E (s.now.length + 1) Q _ h32
      have hRr : R = recs E (s.now.length + 1) Q (s.now.drop (2 * sl)) := hR
      rw [← hRr, hdl] at hfit
      have HRec := Lib.hid (fun (ga : Option Addr) (gc : Nat) (wx : World) (hAg : Arg wx ga LG.length gc LG) => jrecs_any hP (s.now.drop (2 * sl)) h32 (by omega) (by omega) ga LG.length gc wx (by rw [← hL, ← hLG]; exact hAg) E Q (s.now.length + 1) hE hQ (by omega))
      rw [← hRr] at HRec
      have HLg := Lib.hid (And.intro (show lg ≤ s.good.length by omega) (And.intro hLG (And.intro hR hlg)))
      have hR1 : span R ≤ 100 := by omega
      have hR2 : R.length ≤ 100 := by omega
      clear hbl3 hblk3 q1 q2 q3 hLG hR hnl hL h32 hdl hsl3 hn100 hRr hfit hlg
      go_wp2_with fail
      refine Rel.wp_region_rel (G := Rel.Gr) (Rel.tab [.is (.pointer (some ⟨p, 0, none⟩)), .is (.int .i64 (lg : Nat)), .is (.pointer (some ⟨p, 0, none⟩)), .is (.int .i64 (s.good.length : Nat)), kNew w3.heap.size LG, .is (.pointer (some ⟨B, 1, none⟩)), .is (.int .i64 (E : Nat)), .is (.pointer (some ⟨B, 2, none⟩)), .is (.int .i64 (Q : Nat)), kRec w3.heap.size R, kRec w3.heap.size R, kLst w3.heap.size R, .is (.int .i64 (span R : Nat)), kLst w3.heap.size R, .is (.int .i64 (span R : Nat))]) (fun _ w => Below w3.heap.size w3 w) (by kernel_rfl) (by kernel_rfl) (by kernel_rfl) (by kernel_rfl) (fun w => Rel.gr_refl _) (below_drew _) ?_ ?_
      · refine ⟨?_, ?_, ?_, ?_, ?_, ?_, ?_, ?_, ?_, ?_, ?_, ?_, ?_, ?_, ?_, trivial⟩
        · intro L a w c
          refine .inl ⟨Rel.wanted_free (by kernel_rfl) _, ?_⟩
          exact Rel.wp_mv _ rfl ⟨_, rfl, Rel.gr_refl _, (c.old 0 (v := .pointer (some ⟨p, 0, none⟩)) (by kernel_rfl) (by kernel_rfl)), c.inv⟩
        · intro L a w c
          refine .inl ⟨Rel.wanted_free (by kernel_rfl) _, ?_⟩
          exact Rel.wp_mv _ rfl ⟨_, rfl, Rel.gr_refl _, (c.old 10 (v := .int .i64 (lg : Nat)) (by kernel_rfl) (by kernel_rfl)), c.inv⟩
        · intro L a w c
          refine .inl ⟨Rel.wanted_free (by kernel_rfl) _, ?_⟩
          exact Rel.wp_mv _ rfl ⟨_, rfl, Rel.gr_refl _, (c.old 0 (v := .pointer (some ⟨p, 0, none⟩)) (by kernel_rfl) (by kernel_rfl)), c.inv⟩
        · intro L a w c
          refine .inl ⟨Rel.wanted_free (by kernel_rfl) _, ?_⟩
          refine Rel.wp_cl _ _ _ rfl Try.func22 (by kernel_rfl) ?_
          show Calls _ _ #[Rel.slot a 29] w _
          rw [show Rel.slot a 29 = .pointer (some ⟨p, 0, none⟩) from (c.get 2 29 (by kernel_rfl))]
          refine (hD.size (d_keep hD HD3.out c.inv)).mono ?_
          rintro e w' ⟨rfl, hb⟩
          exact ⟨_, rfl, _, rfl, hb, rfl, below_keep c.inv hb⟩
        · intro L a w c
          refine .inl ⟨Rel.wanted_free (by kernel_rfl) _, ?_⟩
          refine Rel.wp_cl _ _ _ rfl Try.func27 (by kernel_rfl) ?_
          show Calls _ _ #[Rel.slot a 27, Rel.slot a 28, Rel.slot a 30] w _
          rw [show Rel.slot a 27 = .pointer (some ⟨p, 0, none⟩) from (c.get 0 27 (by kernel_rfl)), show Rel.slot a 28 = .int .i64 (lg : Nat) from (c.get 1 28 (by kernel_rfl)), show Rel.slot a 30 = .int .i64 (s.good.length : Nat) from (c.get 3 30 (by kernel_rfl))]
          refine (jread_any hD (d_keep hD HD3.out c.inv) lg s.good.length HLg.out.1 (Nat.le_refl _)).mono ?_
          rintro e w' ⟨v, rfl, hn, hb⟩
          exact ⟨_, rfl, _, rfl, hb, new_le (by rw [HLg.out.2.1]; exact hn) c.inv.size, below_keep c.inv hb⟩
        · intro L a w c
          refine .inl ⟨Rel.wanted_free (by kernel_rfl) _, ?_⟩
          exact Chn.wp_fa _ _ _ rfl (c.old 8 (v := .pointer (some ⟨B, 0, none⟩)) (by kernel_rfl) (by kernel_rfl)) (by simp [go_sem]) ⟨_, rfl, Rel.gr_refl _, rfl, c.inv⟩
        · intro L a w c
          refine .inl ⟨Rel.wanted_free (by kernel_rfl) _, ?_⟩
          exact Rel.wp_ld _ _ rfl (c.get 5 32 (by kernel_rfl)) (run_ld_n (cell_keep c.inv HCc.out.1)) ⟨_, rfl, Rel.gr_refl _, rfl, c.inv⟩
        · intro L a w c
          refine .inl ⟨Rel.wanted_free (by kernel_rfl) _, ?_⟩
          exact Chn.wp_fa _ _ _ rfl (c.old 8 (v := .pointer (some ⟨B, 0, none⟩)) (by kernel_rfl) (by kernel_rfl)) (by simp [go_sem]) ⟨_, rfl, Rel.gr_refl _, rfl, c.inv⟩
        · intro L a w c
          refine .inl ⟨Rel.wanted_free (by kernel_rfl) _, ?_⟩
          exact Rel.wp_ld _ _ rfl (c.get 7 34 (by kernel_rfl)) (run_ld_n (cell_keep c.inv HCc.out.2.1)) ⟨_, rfl, Rel.gr_refl _, rfl, c.inv⟩
        · intro L a w c
          refine .inl ⟨Rel.wanted_free (by kernel_rfl) _, ?_⟩
          obtain ⟨ga, gc, eg, hAg⟩ := arg_new (c.get 4 31 (by kernel_rfl))
          refine Rel.wp_cl _ _ _ rfl Try.func26 (by kernel_rfl) ?_
          show Calls _ _ #[Rel.slot a 31, Rel.slot a 33, Rel.slot a 35] w _
          rw [show Rel.slot a 31 = _ from eg, show Rel.slot a 33 = .int .i64 (E : Nat) from (c.get 6 33 (by kernel_rfl)), show Rel.slot a 35 = .int .i64 (Q : Nat) from (c.get 8 35 (by kernel_rfl))]
          refine (HRec.out ga gc w hAg).mono ?_
          rintro e w' ⟨v, rfl, hn, hb⟩
          exact ⟨_, rfl, _, rfl, hb, ⟨v, rfl, newL_le hn c.inv.size⟩, below_keep c.inv hb⟩
        · intro L a w c
          refine .inl ⟨Rel.wanted_free (by kernel_rfl) _, ?_⟩
          exact Rel.wp_mv _ rfl ⟨_, rfl, Rel.gr_refl _, (c.get 9 36 (by kernel_rfl)), c.inv⟩
        · intro L a w c
          refine .inl ⟨Rel.wanted_free (by kernel_rfl) _, ?_⟩
          obtain ⟨v', e', h'⟩ := c.get 10 26 (by kernel_rfl)
          exact Rel.wp_ex _ _ rfl e' (run_ex2 _ _ 0 _ rfl w) ⟨_, rfl, Rel.gr_refl _, h', c.inv⟩
        · intro L a w c
          refine .inl ⟨Rel.wanted_free (by kernel_rfl) _, ?_⟩
          obtain ⟨v', e', h'⟩ := c.get 10 26 (by kernel_rfl)
          exact Rel.wp_ex _ _ rfl e' (run_ex2 _ _ 1 _ rfl w) ⟨_, rfl, Rel.gr_refl _, rfl, c.inv⟩
        · intro L a w c
          refine .inl ⟨Rel.wanted_free (by kernel_rfl) _, ?_⟩
          exact Rel.wp_as _ rfl ⟨_, rfl, Rel.gr_refl _, (c.get 11 37 (by kernel_rfl)), c.inv⟩
        · intro L a w c
          refine .inl ⟨Rel.wanted_free (by kernel_rfl) _, ?_⟩
          exact Rel.wp_as _ rfl ⟨_, rfl, Rel.gr_refl _, (c.get 12 38 (by kernel_rfl)), c.inv⟩
      intro a w9 hbase hroom hdef hJ hV
      have s11 : Rel.slot a 11 = .int .i64 (span R : Nat) := hV 14 _ _ rfl rfl
      have k6 : (kLst w3.heap.size R : Rel.Kd (Rel.Gr)).p w9 (Rel.slot a 6) := hV 13 _ _ rfl rfl
      rw [Chn.act_puts [27, 28, 29, 30, 31, 32, 33, 34, 35, 36, 26, 37, 38, 6, 11] hbase hroom hdef (by kernel_rfl)]
      clear hbase hroom hdef hV
      simp only [List.foldl_cons, List.foldl_nil]
      generalize Rel.slot a 27 = u27 at *
      generalize Rel.slot a 28 = u28 at *
      generalize Rel.slot a 29 = u29 at *
      generalize Rel.slot a 30 = u30 at *
      generalize Rel.slot a 31 = u31 at *
      generalize Rel.slot a 32 = u32 at *
      generalize Rel.slot a 33 = u33 at *
      generalize Rel.slot a 34 = u34 at *
      generalize Rel.slot a 35 = u35 at *
      generalize Rel.slot a 36 = u36 at *
      generalize Rel.slot a 26 = u26 at *
      generalize Rel.slot a 37 = u37 at *
      generalize Rel.slot a 38 = u38 at *
      generalize Rel.slot a 6 = u6 at *
      rw [s11]
      clear s11
      simp only [Act.put, List.setIfInBounds_toArray, List.set_cons_succ, List.set_cons_zero]
      obtain ⟨al, cl, ss, rfl, m1, m2, m3, m4, m5, m6, m7, m8⟩ := k6
      obtain ⟨n6, hn6⟩ : ∃ n, n = ss.length := ⟨_, rfl⟩
      rw [← hn6] at m1 m3 ⊢
      have hn6R : n6 = R.length := by rw [hn6, ← m6, List.length_map]
      have hn6b : n6 ≤ 100 := by omega
      have q1 := cell_keep hJ HCc.out.1
      have q2 := cell_keep hJ HCc.out.2.1
      have q3 := cell_keep hJ HCc.out.2.2
      have HQ3 := Lib.hid q3
      have HL9 := Lib.hid (show ListF w9 (fun k => w3.heap.size ≤ k ∧ k < w9.heap.size) (.slice al n6 cl) R from ⟨al, cl, ss, by rw [hn6], by rw [← hn6]; exact m1, m2, by rw [← hn6]; exact m3, m4, m5, m6, m7, m8⟩)
      have HR9 := Lib.hid (And.intro hn6R hJ)
      clear m1 m2 m3 m4 m5 m6 m7 m8 hn6 hn6R hJ q3
      go_wp2_with fail
      obtain ⟨w10, hw10⟩ : ∃ x, x = w9.alloc (.cells #[.pointer (some ⟨p, 0, none⟩), .int .i64 (sl : Nat), .int .i64 (E : Nat), .int .i64 ((Q : Int) + (n6 : Int)), .int .i64 ((lg : Int) + (span R : Int)), .bool false, .bool false] 61) := ⟨_, rfl⟩
      rw [← hw10]
      have hb10 : Below w9.heap.size w9 w10 := by rw [hw10]; exact below_alloc _ _
      have hlt10 : w9.heap.size < w10.heap.size := by rw [hw10]; simp
      have hblk : Arr.Blk w10 w9.heap.size 61 [.pointer (some ⟨p, 0, none⟩), .int .i64 (sl : Nat), .int .i64 (E : Nat), .int .i64 ((Q + n6 : Nat) : Int), .int .i64 ((lg + span R : Nat) : Int), .bool false, .bool false] := by
        rw [hw10]
        exact Arr.blk_new w9 _ _ [.pointer (some ⟨p, 0, none⟩), .int .i64 (sl : Nat), .int .i64 (E : Nat), .int .i64 ((Q + n6 : Nat) : Int), .int .i64 ((lg + span R : Nat) : Int), .bool false, .bool false] rfl
      have HC10 := Lib.hid (cell_keep hb10 HQ3.out)
      have H10 := Lib.hid (And.intro hb10 (And.intro hlt10 hblk))
      clear hb10 hlt10 hblk hw10 q1 q2
      have c10 := HC10.out
      go_quiet (fail)
      go_wp2_with fail
      refine bodyPost_ret (results_tmp4 rfl _ _ _) rfl ?_
      have hdone := OpenR.done (s := s) (slot := (sl : Nat)) P E Q b HX.out.1 (by rw [Int.toNat_natCast]; exact HA.out.1)
      rw [Int.toNat_natCast, ← HLg.out.2.2.1] at hdone
      have hb39 : Below w3.heap.size w3 w9 := HR9.out.2
      have hb310 := below_keep hb39 H10.out.1
      have hb311 := below_keep hb310 (below_drewN w10 nq)
      have hb911 := below_keep H10.out.1 (below_drewN w10 nq)
      have hw3 := HB3.out
      have hsz3 := hw3.size
      have hsz9 := hb39.size
      have hsz11 := (below_drewN w10 nq).size
      have hlt := H10.out.2.1
      have hsz1 := HB1.out
      refine ⟨0, _, hdone, ⟨w9.heap.size, (fun k => k = w9.heap.size), _, _, rfl, ⟨?_, rfl⟩, fun k hk => by subst hk; omega, ⟨a3, c3, by rw [← HNb.out]; rfl, ?_, ?_⟩, list_chg HL9.out (new_chg hb911 (fun _ => False)) (fun _ _ => id) fun k hk => ⟨by omega, by omega, by omega⟩⟩, below_keep hw3 hb311⟩
      · have := blk_chg (new_chg (below_drewN w10 nq) (fun _ => False)) H10.out.2.2 id
        rw [HR9.out.1, HLg.out.2.2.2] at this
        exact this
      · have := new_keep HN3.out hb311
        obtain ⟨a', c', he, g1, g2, g3, g4, _⟩ := this
        injection he with e1 e2 e3
        subst e1 e3
        exact ⟨rfl, g1, g2, g3, g4⟩
      · intro q hq
        obtain ⟨a', c', he, _, _, _, _, g5⟩ := HN3.out
        injection he with e1 e2 e3
        subst e1
        obtain ⟨k1, k2⟩ := g5 q hq
        exact ⟨by omega, by omega, by omega⟩
  · have HX := Lib.hid (And.intro hpo (decide_eq_false hpo))
    clear hpo hs
    go_enter Try.func10, Try.ntmps10
    go_wp2_with fail
    refine HPl.out.mono ?_
    rw [HX.out.2]
    rintro e w1 ⟨rfl, hb⟩
    have HB := Lib.hid hb
    clear hb
    go_wp2_with fail
    refine bodyPost_ret (results_tmp4 rfl _ _ _) rfl ?_
    exact ⟨1, none, .arg HX.out.1, ⟨_, _, rfl, new_nil _ _, ⟨none, 0, [], rfl, Nat.le_refl _, Nat.zero_le _, (fun _ => ⟨rfl, rfl⟩), .inl rfl, (fun s hs => by cases hs), rfl⟩⟩, HB.out⟩
end Go.Proofs.Ytdgfoldobofgoaa.Jrn
/- Common: a region that draws its order whose last operation waits for all others (a store behind what it stores): the others by what the slots hold (XRegRel), then the last one alone. -/
namespace Go.Proofs.Ytdgfoldobofgoaa.Rel
open Go.RowKit

variable {P : Program} {Q : Exit → Act → World → Prop} {G : World → World → Prop} {a0 : Act}

theorem pop_size {L : Array Bool} {n : Nat} (h : L.size = n + 1) : L.pop.size = n := by simp [h]
theorem pop_at {L : Array Bool} {n i : Nat} (h : L.size = n + 1) (hi : i < n) : L.pop[i]? = L[i]? := by
  rw [Array.getElem?_pop, if_pos (by omega)]
theorem pop_getD {L : Array Bool} {n i : Nat} (h : L.size = n + 1) (hi : i < n) (b : Bool) : L.pop.getD i b = L.getD i b := by
  rw [Array.getD_eq_getD_getElem?, Array.getD_eq_getD_getElem?, pop_at h hi]
theorem pop_set {L : Array Bool} {n i : Nat} (h : L.size = n + 1) (hi : i < n) : (L.setIfInBounds i true).pop = L.pop.setIfInBounds i true := by
  apply Array.ext_getElem?
  intro j
  rw [Array.getElem?_pop, Array.getElem?_setIfInBounds, Array.getElem?_setIfInBounds, Array.getElem?_pop]
  simp only [Array.size_setIfInBounds, Array.size_pop]
  by_cases hij : i = j
  · subst hij
    rw [if_pos (by omega), if_pos rfl, if_pos rfl, if_pos (by omega), if_pos (by omega)]
  · rw [if_neg hij, if_neg hij]
/-- One operation of the law, by its invariant. -/
theorem rel_step {ops : Array Oper} {V : Nat → Kd G} {J : Array Bool → World → Prop} (hap : apartB ops.toList = true) (hsz : ∀ (i : Nat) (o : Oper) (d : Tmp), ops[i]? = some o → o.dst = some d → d < a0.tmps.size)
    (hsteps : Steps P ops Q V J a0 0 ops.toList) {L : Array Bool} {a : Act} {w : World} {i : Nat} {o : Oper} (hI : Inv ops V J a0 L a w) (hun : L.getD i true = false) (ho : ops[i]? = some o) (hg : o.guard = none) (hcame : ∀ j, waits o j = true → L.getD j false = true) :
    o.wp P a w (fun a' w' => Inv ops V J a0 (L.setIfInBounds i true) a' w') Q := by
  have hI' := hI
  obtain ⟨h1, h2, h3, h4, h5, h6, h7⟩ := hI
  have hs := steps_at ops.toList 0 hsteps i o (by simpa using ho)
  rw [Nat.zero_add] at hs
  replace hs := hs L a w ⟨h1, hun, h2, h3, h5, fun j o' d hj hd hw => h6 j o' d hj hd (hcame j hw), hcame, h7⟩
  rcases hs with ⟨hw, hs⟩ | ⟨hw, hv, hJ⟩
  · exact Oper.wp_mono (fun a'' w'' ⟨v, ha, hG, hv, hJ⟩ => by subst ha; exact inv_step hap hsz ho hun hcame hI' hG hv hJ) hs
  · rw [wanted_none hg] at hw; cases hw

/-- THE LAW. -/
theorem wp_region_last {id : Nat} {w : World} {l : List Oper} (o : Oper) (V : Nat → Kd G) (J : Array Bool → World → Prop) (hm : P.follows .mixedOrders = true) (hlast : l.getLast? = some o) (hfree : (l.all fun o => o.guard.isNone) = true) (hap : apartB l.dropLast = true) (hor : orderB 0 l = true)
    (hwait : ((List.range l.dropLast.length).all fun j => waits o j) = true) (hsz : (l.dropLast.all fun o => match o.dst with | some d => decide (d < a0.tmps.size) | none => true) = true)
    (h0 : J (Array.replicate l.dropLast.length false) w.drew) (hsteps : Steps P l.dropLast.toArray Q V J a0 0 l.dropLast)
    (hdone : ∀ a w, (∀ s, unwritten l.dropLast.toArray s = true → slot a s = slot a0 s) → a.tmps.size = a0.tmps.size → a.defers = a0.defers → J (Array.replicate l.dropLast.length true) w → (∀ (j : Nat) (o : Oper) (d : Tmp), l.dropLast[j]? = some o → o.dst = some d → (V j).p w (slot a d)) → o.wp P a w (fun a' w' => Q .normal a' w') Q) :
    (Code.region id l.toArray true).wp P Q a0 w := by
  obtain ⟨n, hn⟩ : ∃ n, n = l.dropLast.length := ⟨_, rfl⟩
  have hl : l = l.dropLast ++ [o] := by
    rcases List.eq_nil_or_concat l with e | ⟨l', b, e⟩
    · rw [e] at hlast; cases hlast
    · rw [e] at hlast ⊢
      simp at hlast
      subst hlast
      simp
  have hlen : l.length = n + 1 := by rw [hl, List.length_append, List.length_singleton, ← hn]
  have hat : ∀ i, i < n → l[i]? = l.dropLast[i]? := fun i hi => by
    conv => lhs; rw [hl]
    rw [List.getElem?_append_left (by omega)]
  have hatn : l[n]? = some o := by
    conv => lhs; rw [hl]
    rw [List.getElem?_append_right (by omega), ← hn, Nat.sub_self]; rfl
  have hsz' : ∀ (i : Nat) (o : Oper) (d : Tmp), l.dropLast.toArray[i]? = some o → o.dst = some d → d < a0.tmps.size := by
    intro i o d ho hd
    have := List.all_eq_true.1 hsz o (List.mem_of_getElem? (by simpa using ho))
    rw [hd] at this
    simpa using this
  have hguard : ∀ (i : Nat) (x : Oper), l[i]? = some x → x.guard = none := fun i x hx => by
    have := List.all_eq_true.1 hfree x (List.mem_of_getElem? hx)
    simpa using this
  rw [← hn] at hwait h0 hdone
  have hw := List.all_eq_true.1 hwait
  refine Reg.wp_region_inv (fun L a w => (L.size = n + 1 ∧ L.getD n true = false ∧ Inv l.dropLast.toArray V J a0 L.pop a w) ∨ (L = Array.replicate (n + 1) true ∧ Q .normal a w)) hm ?_ ?_ ?_
  · left
    refine ⟨by simp [hlen], by simp [hlen], by simp [hlen], fun _ _ => rfl, rfl, rfl, ?_, fun j o d _ _ hl' => ?_, fun j o i _ hl' _ => ?_⟩
    · have e : (Array.replicate l.toArray.size false).pop = Array.replicate n false := by simp [hlen]
      rw [e]; exact h0
    · have e : (Array.replicate l.toArray.size false).pop = Array.replicate n false := by simp [hlen]
      rw [e] at hl'
      by_cases hj : j < n <;> simp [hj] at hl'
    · have e : (Array.replicate l.toArray.size false).pop = Array.replicate n false := by simp [hlen]
      rw [e] at hl'
      by_cases hj : j < n <;> simp [hj] at hl'
  · intro L a' w' hI hready
    rcases hI with ⟨h1, h2, hI⟩ | ⟨_, hq⟩
    · exfalso
      have hall : ∀ j, j < n → L.getD j false = true := by
        intro j
        induction j using Nat.strongRecOn with
        | _ j ih =>
          intro hj
          have ho : l[j]? = some (l[j]'(by omega)) := List.getElem?_eq_getElem (by omega)
          refine Reg.none_ready (ops := l.toArray) (by simp [h1, hlen]) hready (o := l[j]'(by omega)) (by simp) fun e he hb => ?_
          have hlt := order_at l 0 hor j _ ho e he hb
          exact ih e.on (by omega) (by omega)
      have hn' : L.getD n false = true := by
        refine Reg.none_ready (ops := l.toArray) (by simp [h1, hlen]) hready (o := o) (by simpa using hatn) fun e he hb => ?_
        have hlt := order_at l 0 hor n _ hatn e he hb
        exact hall e.on (by omega)
      have hsz : n < L.size := by omega
      simp [hsz] at h2 hn'
      rw [h2] at hn'; cases hn'
    · exact hq
  · intro L a' w' i hI hi
    obtain ⟨hun, x, hx, hdep⟩ := mem_ready.1 hi
    have hx' : l[i]? = some x := by simpa using hx
    have hg := hguard i x hx'
    have hil : i < n + 1 := by rw [← hlen]; exact (List.getElem?_eq_some_iff.1 hx').1
    rcases hI with ⟨h1, h2, hI⟩ | ⟨hL, _⟩
    · have hcame : ∀ j, waits x j = true → L.getD j false = true := by
        intro j hj
        unfold waits at hj
        obtain ⟨e, he, hb⟩ := List.any_eq_true.1 hj
        simp only [Bool.and_eq_true, beq_iff_eq] at hb
        have := hdep e (by simpa using he) hb.2
        rw [hb.1] at this
        exact this
      unfold wpOp
      simp only [hx]
      rw [if_pos (wanted_none hg _)]
      by_cases hin : i = n
      · subst hin
        rw [hatn] at hx'
        injection hx' with hx'
        subst hx'
        have hall : ∀ j, j < i → L.getD j false = true := fun j hj => hcame j (hw j (List.mem_range.2 hj))
        have hpop : L.pop = Array.replicate i true := by
          apply Array.ext
          · simp [h1]
          · intro j hj1 hj2
            have hj : j < i := by simpa using hj2
            have := hall j hj
            have hjL : j < L.size := by omega
            simp [hjL] at this
            simp [this]
        have hset : L.setIfInBounds i true = Array.replicate (i + 1) true := by
          apply Array.ext
          · simp [h1]
          · intro j hj1 hj2
            have hj : j < i + 1 := by simpa using hj2
            rw [Array.getElem_setIfInBounds (by simpa using hj1)]
            by_cases e : i = j
            · simp [e]
            · have := hall j (by omega)
              have hjL : j < L.size := by omega
              simp [hjL] at this
              simp [e, this]
        rw [hpop] at hI
        obtain ⟨_, g2, g3, g4, g5, g6, _⟩ := hI
        refine .inl (Oper.wp_mono (fun a'' w'' hq => .inr ⟨hset, hq⟩) (hdone a' w' g2 g3 g4 g5 fun j y d hj hd => g6 j y d (by simpa using hj) hd ?_))
        have hjn : j < i := by rw [hn]; exact (List.getElem?_eq_some_iff.1 hj).1
        simp [hjn]
      · have hin' : i < n := by omega
        have hxd : l.dropLast.toArray[i]? = some x := by
          have := hat i hin'
          rw [hx'] at this
          simpa using this.symm
        have hw' : ∀ j, waits x j = true → j < n := fun j hj => by
          unfold waits at hj
          obtain ⟨e, he, hb⟩ := List.any_eq_true.1 hj
          simp only [Bool.and_eq_true, beq_iff_eq] at hb
          have := order_at l 0 hor i x hx' e (by simpa using he) hb.2
          omega
        have hs := rel_step (by simpa using hap) hsz' hsteps hI (by rw [pop_getD h1 hin']; exact hun) hxd hg fun j hj => by rw [pop_getD h1 (hw' j hj)]; exact hcame j hj
        refine .inl (Oper.wp_mono (fun a'' w'' hq => .inl ⟨by simp [h1], ?_, by rw [pop_set h1 hin']; exact hq⟩) hs)
        have hne : i ≠ n := hin
        simp [hne]
        simpa using h2
    · subst hL
      simp [hil] at hun

section
variable {o : Oper} {a : Act} {w : World} {K : Act → World → Prop}
theorem wp_al (t : TypeId) (ho : o.op = .alloc t) {u : Value} {w' : World} (hr : (Instr.alloc t true (.tuple #[])).run P w = .ok u w') (h : K (a.put o.dst u) w') : o.wp P a w K Q := by
  unfold Oper.wp execOp
  simp only [ho, Sem.run_bind, hr]
  exact h
theorem wp_bd4 (t : TypeId) (x y z u : Operand) (ho : o.op = .build t #[(0, x), (1, y), (2, z), (3, u)]) {vx vy vz vu r : Value} {w' : World} (hx : a.eval x = vx) (hy : a.eval y = vy) (hz : a.eval z = vz) (hu : a.eval u = vu) (hr : (Instr.build t #[(0, vx), (1, vy), (2, vz), (3, vu)]).run P w = .ok r w') (h : K (a.put o.dst r) w') : o.wp P a w K Q := by
  subst hx hy hz hu
  unfold Oper.wp execOp
  have hm : (#[(0, x), (1, y), (2, z), (3, u)] : Array (Nat × Operand)).map (fun (i, x) => (i, a.eval x)) = #[(0, a.eval x), (1, a.eval y), (2, a.eval z), (3, a.eval u)] := by simp
  simp only [ho, Sem.run_bind, hm, hr]
  exact h
end
end Go.Proofs.Ytdgfoldobofgoaa.Rel
/- Journal: the landed Checkpoint. -/
namespace Go.Proofs.Ytdgfoldobofgoaa.Jrn
set_option maxRecDepth 100000
open Go.RowKit
open Go.Sort
open Kit
open Oct
open Chk
open Frm
open Foot
open Dsk (Sec DS mix mix_at mix_length mix_whole mix_none RdB)
set_option linter.unusedVariables false
variable {D : World → (Nat → Prop) → Nat → DS → Prop}
variable {w w' : World} {F G : Nat → Prop} {p pj : Nat} {s t : DS} {j : JS}

theorem run_alloc_ck (w : World) : (Instr.alloc 53 true (.tuple #[])).run Try.prog w = .ok (.pointer (some ⟨w.heap.size, 0, none⟩)) (w.alloc (.cells zero4.toArray 53)) := by
  simp [go_sem]
  rfl
theorem run_build_ck (x y z : Int) (a : Option Addr) (n c : Nat) (w : World) : (Instr.build 53 #[(0, .int .i64 x), (1, .int .i64 y), (2, .int .i64 z), (3, .slice a n c)]).run Try.prog w = .ok (.agg #[.int .i64 x, .int .i64 y, .int .i64 z, .slice a n c]) w := by
  simp [go_sem]
theorem run_ld_dp {w : World} {a : Addr} {q : Addr} (h : w.cell? a = some (.pointer (some q))) : (Instr.loadAt 23 (.pointer (some a))).run Try.prog w = .ok (.pointer (some q)) w := by
  simp [go_sem, h]
theorem run_ld_ck {w : World} {B : Nat} {cs : List Value} (h : Arr.Blk w B 53 cs) (hl : cs.length = 4) : (Instr.loadAt 53 (.pointer (some ⟨B, 0, none⟩))).run Try.prog w = .ok (.agg cs.toArray) w := by
  have hi : (Try.prog.info? 53).map (·.size) = some cs.toArray.size := by rw [info_ck]; simp [hl]
  simp only [Instr.loadAt, Instr.sureAddr, Sem.run_bind, Sem.run_pure, Result.andThen_ok]
  exact run_loadVar_row w B 53 53 cs.toArray (0, 0) _ h Try.underlying53 rfl hi
theorem run_st_n {w : World} {a : Addr} {n : Nat} {old : Value} (h : w.cell? a = some old) (hf : w.frozen? a = false) : (Instr.storeAt 3 (.pointer (some a)) (.int .i64 (n : Nat))).run Try.prog w = .ok () (w.setCell a (.int .i64 (n : Nat))) := by
  simp [go_sem, h, hf]
theorem run_st_b {w : World} {a : Addr} {b : Bool} {old : Value} (h : w.cell? a = some old) (hf : w.frozen? a = false) : (Instr.storeAt 4 (.pointer (some a)) (.bool b)).run Try.prog w = .ok () (w.setCell a (.bool b)) := by
  simp [go_sem, h, hf]
def kZero (base : Nat) : Rel.Kd Rel.Gr := ⟨fun w u => ∃ B, u = .pointer (some ⟨B, 0, none⟩) ∧ base ≤ B ∧ Arr.Blk w B 53 zero4, fun _ _ _ h ⟨B, e, h1, h2⟩ => ⟨B, e, h1, blk_chg (new_chg h (fun _ => False)) h2 id⟩⟩
/-- What save leaves, seen from a world ahead of it. -/
def PostSv (D : World → (Nat → Prop) → Nat → DS → Prop) (F : Nat → Prop) (p : Nat) (s : DS) (sl pl e1 sq : Nat) (b : Bs) (w6 : World) (v : Value) (ww : World) : Prop :=
  ∃ n s', v = .int .i64 (n : Nat) ∧ SaveR s sl pl e1 sq b n s' ∧ D ww (More F w6 ww) p s' ∧ Chg F w6 ww
def phiCk (w6 : World) (R : Value → World → Prop) : Nat → List Value → World → Prop
  | 0, _, ww => ww = w6.drew
  | 1, vs, ww => ∃ v, vs = [v] ∧ R v ww
  | _, vs, ww => ∃ v, vs = [v, v] ∧ R v ww
theorem phi_first {w6 ww : World} {R : Value → World → Prop} {jj : Nat} {vs : List Value} (hj : jj ≤ 0) (h : phiCk w6 R jj vs ww) : ww = w6.drew := by
  obtain rfl : jj = 0 := by omega
  exact h
def phiSt (w9 : World) (pj e1 nx : Nat) : Nat → List Value → World → Prop
  | 0, _, ww => ww = w9.drew
  | 1, _, ww => ww = w9.drew.setCell ⟨pj, 2, none⟩ (.int .i64 (e1 : Nat))
  | 2, _, ww => ww = (w9.drew.setCell ⟨pj, 2, none⟩ (.int .i64 (e1 : Nat))).setCell ⟨pj, 4, none⟩ (.int .i64 (nx : Nat))
  | _, _, ww => ww = ((w9.drew.setCell ⟨pj, 2, none⟩ (.int .i64 (e1 : Nat))).setCell ⟨pj, 4, none⟩ (.int .i64 (nx : Nat))).setCell ⟨pj, 5, none⟩ (.bool true)
theorem st_first {w9 ww : World} {pj e1 nx : Nat} {jj : Nat} {vs : List Value} (hj : jj ≤ 0) (h : phiSt w9 pj e1 nx jj vs ww) : ww = w9.drew := by
  obtain rfl : jj = 0 := by omega
  exact h

set_option maxHeartbeats 8000000 in
theorem jckpt_any (hD : Dsk.Prog D) (hP : Frm.Prog) (h : D w F p s) (hj : Jr w G pj p j) (hF : ∀ k, F k → k < w.heap.size) (hG : ∀ k, G k → k < w.heap.size) (hap : ∀ k, F k → ¬ G k) (h100 : s.good.length ≤ 100) (hok : JOk j s.good.length) (hsee : Seen j s)
    (aa : Option Addr) (len cap : Nat) (b : Bs) (hA : Arg w aa len cap b) (hl : len ≤ 3000) :
    Calls Try.prog 15 #[.pointer (some ⟨pj, 0, none⟩), .slice aa len cap] w fun e w' => ∃ n j' s', e = .returned (.int .i64 (n : Nat)) ∧ CkR j s b n j' s' ∧ D w' (More F w w') p s' ∧ Jr w' G pj p j' ∧ Chg (fun k => F k ∨ G k) w w' := by
  obtain ⟨w0, hw0⟩ : ∃ x, x = w := ⟨_, rfl⟩
  rw [← hw0] at h hj hF hG hA ⊢
  clear hw0
  have hc := jr_cells hj
  have c6 := hc.c6
  have HD := Lib.hid (And.intro h (And.intro hj (And.intro hF (And.intro hG (And.intro hap (And.intro hA hok))))))
  have HJ := Lib.hid hc
  clear h hF hG hap hA hj hc
  cases hdn : j.down with
  | true =>
    rw [hdn] at c6
    have HDn := Lib.hid hdn
    clear hdn
    go_enter Try.func15, Try.ntmps15
    go_wp2_with fail
    go_ret
    have hX : D w0 (More F w0 w0) p s ∧ Jr w0 G pj p j ∧ Chg (fun k => F k ∨ G k) w0 w0 := ⟨hD.mono HD.out.1 fun k hk => .inl hk, HD.out.2.1, chg_refl _ _⟩
    first | exact ⟨10, j, s, rfl, .dead HDn.out, hX.1, hX.2.1, hX.2.2⟩ | exact ⟨10, rfl, j, s, .dead HDn.out, hX.1, hX.2.1, hX.2.2⟩
  | false =>
    rw [hdn] at c6
    obtain ⟨E0, Q0, b0, hpk⟩ := hsee hdn
    have hplace := hok.place
    obtain ⟨sl, hsl⟩ : ∃ x, x = j.slot := ⟨_, rfl⟩
    obtain ⟨pl, hpl⟩ : ∃ x, x = 1 - j.place := ⟨_, rfl⟩
    obtain ⟨lE, hlE⟩ : ∃ x, x = lastE s.now := ⟨_, rfl⟩
    obtain ⟨sq, hsq⟩ : ∃ x, x = j.seq := ⟨_, rfl⟩
    have HJs := Lib.hid (show w0.cell? ⟨pj, 1, none⟩ = some (.int .i64 (sl : Nat)) by rw [hsl]; exact HJ.out.c1)
    have HJq := Lib.hid (show w0.cell? ⟨pj, 3, none⟩ = some (.int .i64 (sq : Nat)) by rw [hsq]; exact HJ.out.c3)
    have HPl := Lib.hid (show otherN (pick s.now sl) = pl by
      rw [hsl, hpk, hpl]
      show (if j.place = 0 then 1 else 0) = 1 - j.place
      split <;> omega)
    have HlE := Lib.hid hlE.symm
    have HS := Lib.hid (show 1 ≤ sl ∧ 2 * sl < s.good.length ∧ s.good.length ≤ 100 by rw [hsl]; exact ⟨hok.slot.1, hok.slot.2, h100⟩)
    have hlEb : lE < 4294967296 := by rw [hlE]; exact last_lt _
    have hslb : sl ≤ 100 := by have := HS.out; omega
    have HEq := Lib.hid (And.intro hsl (And.intro hpl (And.intro hlE (And.intro hsq hdn))))
    have HQb := Lib.hid (show sq < 4294967296 ∧ pl ≤ 1 by rw [hsq, hpl]; exact ⟨hok.seq, by omega⟩)
    clear hsl hpl hlE hsq hpk hplace hsee hok hdn h100
    go_enter Try.func15, Try.ntmps15
    go_wp2_with fail
    refine Rel.wp_region_last (G := Rel.Gr) _ (Rel.tab [.is (.pointer (some ⟨pj, 0, none⟩)), .is (.pointer (some ⟨pj, 0, none⟩)), .is (.pointer (some ⟨pj, 0, none⟩)), .is (.pointer (some ⟨p, 0, none⟩)), .is (.pointer (some ⟨pj, 0, none⟩)), .is (.pointer (some ⟨pj, 0, none⟩)), .is (.pointer (some ⟨pj, 1, none⟩)), .is (.int .i64 (sl : Nat)), .is (.int .i64 (pl : Nat)), .is (.pointer (some ⟨pj, 0, none⟩)), .is (.pointer (some ⟨pj, 0, none⟩)), .is (.pointer (some ⟨pj, 0, none⟩)), .is (.pointer (some ⟨p, 0, none⟩)), .is (.int .i64 (lE : Nat)), .is (.int .i64 ((lE + 1 : Nat) : Int)), .is (.pointer (some ⟨pj, 0, none⟩)), .is (.pointer (some ⟨pj, 0, none⟩)), .is (.pointer (some ⟨pj, 3, none⟩)), .is (.int .i64 (sq : Nat)), .is (.slice aa len cap), .is (.agg #[.int .i64 (pl : Nat), .int .i64 ((lE + 1 : Nat) : Int), .int .i64 (sq : Nat), .slice aa len cap]), kZero w0.heap.size]) (fun _ w => Below w0.heap.size w0 w) (by kernel_rfl) rfl (by kernel_rfl) (by kernel_rfl) (by kernel_rfl) (by kernel_rfl) (by kernel_rfl) (below_drew _) ?_ ?_
    · refine ⟨?_, ?_, ?_, ?_, ?_, ?_, ?_, ?_, ?_, ?_, ?_, ?_, ?_, ?_, ?_, ?_, ?_, ?_, ?_, ?_, ?_, ?_, trivial⟩
      · intro L a w c
        refine .inl ⟨Rel.wanted_free (by kernel_rfl) _, ?_⟩
        exact Rel.wp_mv _ rfl ⟨_, rfl, Rel.gr_refl _, (c.old 0 (v := .pointer (some ⟨pj, 0, none⟩)) (by kernel_rfl) (by kernel_rfl)), c.inv⟩
      · intro L a w c
        refine .inl ⟨Rel.wanted_free (by kernel_rfl) _, ?_⟩
        exact Chn.wp_nc _ rfl (c.get 0 13 (by kernel_rfl)) ⟨_, rfl, Rel.gr_refl _, rfl, c.inv⟩
      · intro L a w c
        refine .inl ⟨Rel.wanted_free (by kernel_rfl) _, ?_⟩
        exact Chn.wp_fa _ _ _ rfl (c.get 1 14 (by kernel_rfl)) (by simp [go_sem]) ⟨_, rfl, Rel.gr_refl _, rfl, c.inv⟩
      · intro L a w c
        refine .inl ⟨Rel.wanted_free (by kernel_rfl) _, ?_⟩
        exact Rel.wp_ld _ _ rfl (c.get 2 15 (by kernel_rfl)) (run_ld_dp (cell_keep c.inv HJ.out.c0)) ⟨_, rfl, Rel.gr_refl _, rfl, c.inv⟩
      · intro L a w c
        refine .inl ⟨Rel.wanted_free (by kernel_rfl) _, ?_⟩
        exact Rel.wp_mv _ rfl ⟨_, rfl, Rel.gr_refl _, (c.old 0 (v := .pointer (some ⟨pj, 0, none⟩)) (by kernel_rfl) (by kernel_rfl)), c.inv⟩
      · intro L a w c
        refine .inl ⟨Rel.wanted_free (by kernel_rfl) _, ?_⟩
        exact Chn.wp_nc _ rfl (c.get 4 17 (by kernel_rfl)) ⟨_, rfl, Rel.gr_refl _, rfl, c.inv⟩
      · intro L a w c
        refine .inl ⟨Rel.wanted_free (by kernel_rfl) _, ?_⟩
        exact Chn.wp_fa _ _ _ rfl (c.get 5 18 (by kernel_rfl)) (by simp [go_sem]) ⟨_, rfl, Rel.gr_refl _, rfl, c.inv⟩
      · intro L a w c
        refine .inl ⟨Rel.wanted_free (by kernel_rfl) _, ?_⟩
        exact Rel.wp_ld _ _ rfl (c.get 6 19 (by kernel_rfl)) (run_ld_n (cell_keep c.inv HJs.out)) ⟨_, rfl, Rel.gr_refl _, rfl, c.inv⟩
      · intro L a w c
        refine .inl ⟨Rel.wanted_free (by kernel_rfl) _, ?_⟩
        refine Rel.wp_cl _ _ _ rfl Try.func32 (by kernel_rfl) ?_
        show Calls _ _ #[Rel.slot a 16, Rel.slot a 20] w _
        rw [show Rel.slot a 16 = .pointer (some ⟨p, 0, none⟩) from (c.get 3 16 (by kernel_rfl)), show Rel.slot a 20 = .int .i64 (sl : Nat) from (c.get 7 20 (by kernel_rfl))]
        refine (jother_any hD hP (d_keep hD HD.out.1 c.inv) sl HS.out.1 HS.out.2.1 HS.out.2.2).mono ?_
        rintro e w' ⟨rfl, hb⟩
        exact ⟨_, rfl, _, rfl, hb, by rw [HPl.out]; rfl, below_keep c.inv hb⟩
      · intro L a w c
        refine .inl ⟨Rel.wanted_free (by kernel_rfl) _, ?_⟩
        exact Rel.wp_mv _ rfl ⟨_, rfl, Rel.gr_refl _, (c.old 0 (v := .pointer (some ⟨pj, 0, none⟩)) (by kernel_rfl) (by kernel_rfl)), c.inv⟩
      · intro L a w c
        refine .inl ⟨Rel.wanted_free (by kernel_rfl) _, ?_⟩
        exact Chn.wp_nc _ rfl (c.get 9 22 (by kernel_rfl)) ⟨_, rfl, Rel.gr_refl _, rfl, c.inv⟩
      · intro L a w c
        refine .inl ⟨Rel.wanted_free (by kernel_rfl) _, ?_⟩
        exact Chn.wp_fa _ _ _ rfl (c.get 10 23 (by kernel_rfl)) (by simp [go_sem]) ⟨_, rfl, Rel.gr_refl _, rfl, c.inv⟩
      · intro L a w c
        refine .inl ⟨Rel.wanted_free (by kernel_rfl) _, ?_⟩
        exact Rel.wp_ld _ _ rfl (c.get 11 24 (by kernel_rfl)) (run_ld_dp (cell_keep c.inv HJ.out.c0)) ⟨_, rfl, Rel.gr_refl _, rfl, c.inv⟩
      · intro L a w c
        refine .inl ⟨Rel.wanted_free (by kernel_rfl) _, ?_⟩
        refine Rel.wp_cl _ _ _ rfl Try.func33 (by kernel_rfl) ?_
        show Calls _ _ #[Rel.slot a 25] w _
        rw [show Rel.slot a 25 = .pointer (some ⟨p, 0, none⟩) from (c.get 12 25 (by kernel_rfl))]
        refine (jlast_any hD (d_keep hD HD.out.1 c.inv)).mono ?_
        rintro e w' ⟨rfl, hb⟩
        exact ⟨_, rfl, _, rfl, hb, by rw [HlE.out]; rfl, below_keep c.inv hb⟩
      · intro L a w c
        refine .inl ⟨Rel.wanted_free (by kernel_rfl) _, ?_⟩
        exact Rel.wp_bo _ _ _ _ _ rfl (u := .int .i64 ((lE + 1 : Nat) : Int)) (c.get 13 26 (by kernel_rfl)) rfl (by simp [go_sem, IntKind.wrap_i64]; omega) ⟨_, rfl, Rel.gr_refl _, rfl, c.inv⟩
      · intro L a w c
        refine .inl ⟨Rel.wanted_free (by kernel_rfl) _, ?_⟩
        exact Rel.wp_mv _ rfl ⟨_, rfl, Rel.gr_refl _, (c.old 0 (v := .pointer (some ⟨pj, 0, none⟩)) (by kernel_rfl) (by kernel_rfl)), c.inv⟩
      · intro L a w c
        refine .inl ⟨Rel.wanted_free (by kernel_rfl) _, ?_⟩
        exact Chn.wp_nc _ rfl (c.get 15 28 (by kernel_rfl)) ⟨_, rfl, Rel.gr_refl _, rfl, c.inv⟩
      · intro L a w c
        refine .inl ⟨Rel.wanted_free (by kernel_rfl) _, ?_⟩
        exact Chn.wp_fa _ _ _ rfl (c.get 16 29 (by kernel_rfl)) (by simp [go_sem]) ⟨_, rfl, Rel.gr_refl _, rfl, c.inv⟩
      · intro L a w c
        refine .inl ⟨Rel.wanted_free (by kernel_rfl) _, ?_⟩
        exact Rel.wp_ld _ _ rfl (c.get 17 30 (by kernel_rfl)) (run_ld_n (cell_keep c.inv HJq.out)) ⟨_, rfl, Rel.gr_refl _, rfl, c.inv⟩
      · intro L a w c
        refine .inl ⟨Rel.wanted_free (by kernel_rfl) _, ?_⟩
        exact Rel.wp_mv _ rfl ⟨_, rfl, Rel.gr_refl _, (c.old 1 (v := .slice aa len cap) (by kernel_rfl) (by kernel_rfl)), c.inv⟩
      · intro L a w c
        refine .inl ⟨Rel.wanted_free (by kernel_rfl) _, ?_⟩
        exact Rel.wp_bd4 _ _ _ _ _ rfl (Rel.eval_tmp (c.get 8 21 (by kernel_rfl))) (Rel.eval_tmp (c.get 14 27 (by kernel_rfl))) (Rel.eval_tmp (c.get 18 31 (by kernel_rfl))) (Rel.eval_tmp (c.get 19 32 (by kernel_rfl))) (run_build_ck _ _ _ _ _ _ w) ⟨_, rfl, Rel.gr_refl _, rfl, c.inv⟩
      · intro L a w c
        refine .inl ⟨Rel.wanted_free (by kernel_rfl) _, ?_⟩
        exact Rel.wp_al _ rfl (run_alloc_ck w) ⟨_, rfl, below_alloc _ _, ⟨_, rfl, c.inv.size, Arr.blk_new w _ _ zero4 rfl⟩, below_keep c.inv (below_alloc _ _)⟩
    intro a w5 hbase hroom hdef hJ hV
    have s33 : Rel.slot a 33 = .agg #[.int .i64 (pl : Nat), .int .i64 ((lE + 1 : Nat) : Int), .int .i64 (sq : Nat), .slice aa len cap] := hV 20 _ _ rfl rfl
    have k5 : (kZero w0.heap.size : Rel.Kd (Rel.Gr)).p w5 (Rel.slot a 5) := hV 21 _ _ rfl rfl
    rw [Chn.act_puts [13, 14, 15, 16, 17, 18, 19, 20, 21, 22, 23, 24, 25, 26, 27, 28, 29, 30, 31, 32, 33, 5] hbase hroom hdef (by kernel_rfl)]
    clear hbase hroom hdef hV
    simp only [List.foldl_cons, List.foldl_nil]
    generalize Rel.slot a 13 = u13 at *
    generalize Rel.slot a 14 = u14 at *
    generalize Rel.slot a 15 = u15 at *
    generalize Rel.slot a 16 = u16 at *
    generalize Rel.slot a 17 = u17 at *
    generalize Rel.slot a 18 = u18 at *
    generalize Rel.slot a 19 = u19 at *
    generalize Rel.slot a 20 = u20 at *
    generalize Rel.slot a 21 = u21 at *
    generalize Rel.slot a 22 = u22 at *
    generalize Rel.slot a 23 = u23 at *
    generalize Rel.slot a 24 = u24 at *
    generalize Rel.slot a 25 = u25 at *
    generalize Rel.slot a 26 = u26 at *
    generalize Rel.slot a 27 = u27 at *
    generalize Rel.slot a 28 = u28 at *
    generalize Rel.slot a 29 = u29 at *
    generalize Rel.slot a 30 = u30 at *
    generalize Rel.slot a 31 = u31 at *
    generalize Rel.slot a 32 = u32 at *
    rw [s33]
    clear s33
    generalize Rel.slot a 5 = u5 at *
    simp only [Act.put, List.setIfInBounds_toArray, List.set_cons_succ, List.set_cons_zero]
    obtain ⟨B, rfl, hB, hblk⟩ := k5
    dsimp only [List.getLast]
    have hblk' := Arr.blk_row hblk [.int .i64 (pl : Nat), .int .i64 ((lE + 1 : Nat) : Int), .int .i64 (sq : Nat), .slice aa len cap]
    have hC' := chg_row (F := fun k => k = B) (chg_refl _ w5) (.inl rfl) #[.int .i64 (pl : Nat), .int .i64 ((lE + 1 : Nat) : Int), .int .i64 (sq : Nat), .slice aa len cap]
    refine wp_store_row 53 (.tmp 5) (.tmp 33) rfl B #[.int .i64 (pl : Nat), .int .i64 ((lE + 1 : Nat) : Int), .int .i64 (sq : Nat), .slice aa len cap] rfl rfl 53 zero4.toArray hblk info_ck rfl (by simp [Value.oneCell']) ?_
    obtain ⟨w6, hw6⟩ : ∃ x, x = w5.setRow B #[.int .i64 (pl : Nat), .int .i64 ((lE + 1 : Nat) : Int), .int .i64 (sq : Nat), .slice aa len cap] := ⟨_, rfl⟩
    rw [← hw6] at hC' ⊢
    replace hblk' : Arr.Blk w6 B 53 [.int .i64 (pl : Nat), .int .i64 ((lE + 1 : Nat) : Int), .int .i64 (sq : Nat), .slice aa len cap] := by rw [hw6]; exact hblk'
    have hb06 : Below w0.heap.size w0 w6 := hJ.trans (chg_below hC' (fun y hy => by omega) hJ.size)
    have hc6 := jr_cells (jr_keep HD.out.2.1 hb06)
    have H6 := Lib.hid (And.intro hblk' (And.intro hb06 (And.intro (d_keep hD HD.out.1 hb06) (jr_keep HD.out.2.1 hb06))))
    have HJ6 := Lib.hid hc6
    have HJs6 := Lib.hid (cell_keep hb06 HJs.out)
    have HSv := Lib.hid (fun (wx : World) (hb : Below w6.heap.size w6 wx) => (jsave_any hD hP (d_keep hD (d_keep hD HD.out.1 hb06) hb) (fun k hk => Nat.lt_of_lt_of_le (HD.out.2.2.1 k hk) (below_keep hb06 hb).size) sl pl (lE + 1) sq HS.out.1 HS.out.2.1 HQb.out.2 (by omega) HQb.out.1 aa len cap b (arg_keep HD.out.2.2.2.2.2.1 (below_keep hb06 hb)) hl).mono (R' := fun e w' => ∃ v, e = .returned v ∧ PostSv D F p s sl pl (lE + 1) sq b w6 v w') (by
      rintro e w' ⟨n, s', rfl, hr, hd, hC⟩
      exact ⟨_, rfl, n, s', rfl, hr, hD.mono hd fun k hk => hk.imp id fun h => ⟨Nat.le_trans hb.size h.1, h.2⟩, chg_trans (new_chg hb F) hC fun x hx => .inl hx⟩))
    have HB0 := Lib.hid hB
    clear hJ hblk hblk' hC' hw6 hb06 hc6 hB c6
    go_wp2_with fail
    refine Chn.wp_region_chain (fun idx => match idx with | 0 => some (.agg #[.int .i64 (pl : Nat), .int .i64 ((lE + 1 : Nat) : Int), .int .i64 (sq : Nat), .slice aa len cap]) | 1 => some (.pointer (some ⟨pj, 0, none⟩)) | 2 => some (.pointer (some ⟨pj, 0, none⟩)) | 3 => some (.pointer (some ⟨pj, 0, none⟩)) | 4 => some (.pointer (some ⟨p, 0, none⟩)) | 5 => some (.pointer (some ⟨pj, 0, none⟩)) | 6 => some (.pointer (some ⟨pj, 0, none⟩)) | 7 => some (.pointer (some ⟨pj, 1, none⟩)) | 8 => some (.int .i64 (sl : Nat)) | _ => none) [9, 10] (phiCk w6 (PostSv D F p s sl pl (lE + 1) sq b w6)) (by kernel_rfl) (by kernel_rfl) (by kernel_rfl) (by kernel_rfl) (by kernel_rfl) (by decide) (by kernel_rfl) (rfl) ?_ ?_
    · refine ⟨?_, ?_, ?_, ?_, ?_, ?_, ?_, ?_, ?_, ?_, ?_, trivial⟩
      · intro a ww jj vs c hj0 hΦ
        have hj : jj ≤ 0 := Nat.le_trans hj0 (of_decide_eq_true (by kernel_rfl))
        refine .inl ⟨Rel.wanted_free (by kernel_rfl) _, ?_⟩
        exact Rel.wp_ld _ _ rfl (c.old 5 (v := .pointer (some ⟨B, 0, none⟩)) (by kernel_rfl) (by kernel_rfl)) (by rw [phi_first hj hΦ]; exact run_ld_ck (blk_chg (new_chg (below_drew w6) (fun _ => False)) H6.out.1 id) rfl) ⟨rfl, rfl⟩
      · intro a ww jj vs c hj0 hΦ
        have hj : jj ≤ 0 := Nat.le_trans hj0 (of_decide_eq_true (by kernel_rfl))
        refine .inl ⟨Rel.wanted_free (by kernel_rfl) _, ?_⟩
        exact Rel.wp_mv _ rfl ⟨congrArg (a.put _) (c.old 0 (v := .pointer (some ⟨pj, 0, none⟩)) (by kernel_rfl) (by kernel_rfl)), rfl⟩
      · intro a ww jj vs c hj0 hΦ
        have hj : jj ≤ 0 := Nat.le_trans hj0 (of_decide_eq_true (by kernel_rfl))
        refine .inl ⟨Rel.wanted_free (by kernel_rfl) _, ?_⟩
        exact Chn.wp_nc _ rfl (c.get 1 35 (by kernel_rfl) rfl) ⟨rfl, rfl⟩
      · intro a ww jj vs c hj0 hΦ
        have hj : jj ≤ 0 := Nat.le_trans hj0 (of_decide_eq_true (by kernel_rfl))
        refine .inl ⟨Rel.wanted_free (by kernel_rfl) _, ?_⟩
        exact Chn.wp_fa _ _ _ rfl (c.get 2 36 (by kernel_rfl) rfl) (by simp [go_sem]) ⟨rfl, rfl⟩
      · intro a ww jj vs c hj0 hΦ
        have hj : jj ≤ 0 := Nat.le_trans hj0 (of_decide_eq_true (by kernel_rfl))
        refine .inl ⟨Rel.wanted_free (by kernel_rfl) _, ?_⟩
        exact Rel.wp_ld _ _ rfl (c.get 3 37 (by kernel_rfl) rfl) (by rw [phi_first hj hΦ]; exact run_ld_dp (cell_keep (below_drew w6) HJ6.out.c0)) ⟨rfl, rfl⟩
      · intro a ww jj vs c hj0 hΦ
        have hj : jj ≤ 0 := Nat.le_trans hj0 (of_decide_eq_true (by kernel_rfl))
        refine .inl ⟨Rel.wanted_free (by kernel_rfl) _, ?_⟩
        exact Rel.wp_mv _ rfl ⟨congrArg (a.put _) (c.old 0 (v := .pointer (some ⟨pj, 0, none⟩)) (by kernel_rfl) (by kernel_rfl)), rfl⟩
      · intro a ww jj vs c hj0 hΦ
        have hj : jj ≤ 0 := Nat.le_trans hj0 (of_decide_eq_true (by kernel_rfl))
        refine .inl ⟨Rel.wanted_free (by kernel_rfl) _, ?_⟩
        exact Chn.wp_nc _ rfl (c.get 5 39 (by kernel_rfl) rfl) ⟨rfl, rfl⟩
      · intro a ww jj vs c hj0 hΦ
        have hj : jj ≤ 0 := Nat.le_trans hj0 (of_decide_eq_true (by kernel_rfl))
        refine .inl ⟨Rel.wanted_free (by kernel_rfl) _, ?_⟩
        exact Chn.wp_fa _ _ _ rfl (c.get 6 40 (by kernel_rfl) rfl) (by simp [go_sem]) ⟨rfl, rfl⟩
      · intro a ww jj vs c hj0 hΦ
        have hj : jj ≤ 0 := Nat.le_trans hj0 (of_decide_eq_true (by kernel_rfl))
        refine .inl ⟨Rel.wanted_free (by kernel_rfl) _, ?_⟩
        exact Rel.wp_ld _ _ rfl (c.get 7 41 (by kernel_rfl) rfl) (by rw [phi_first hj hΦ]; exact run_ld_n (cell_keep (below_drew w6) HJs6.out)) ⟨rfl, rfl⟩
      · refine ⟨0, rfl, ?_⟩
        intro a ww c hΦ
        have h : (phiCk w6 (PostSv D F p s sl pl (lE + 1) sq b w6)) 0 [] ww := hΦ
        clear hΦ
        refine ⟨Rel.wanted_free (by kernel_rfl) _, ?_⟩
        have hw : ww = w6.drew := h
        subst hw
        refine Rel.wp_cl _ [.tmp 34, .tmp 38, .tmp 42] _ rfl Try.func24 (by kernel_rfl) ?_
        show Calls _ _ #[Rel.slot a 34, Rel.slot a 38, Rel.slot a 42] w6.drew _
        rw [c.get 0 34 (by kernel_rfl) rfl, c.get 4 38 (by kernel_rfl) rfl, c.get 8 42 (by kernel_rfl) rfl]
        refine (HSv.out w6.drew (below_drew w6)).mono ?_
        rintro e9 w9 ⟨v, rfl, hv⟩
        exact ⟨_, rfl, _, rfl, v, rfl, hv⟩
      · refine ⟨1, rfl, ?_⟩
        intro a ww c hΦ
        have h : (phiCk w6 (PostSv D F p s sl pl (lE + 1) sq b w6)) 1 [Rel.slot a 43] ww := hΦ
        clear hΦ
        refine ⟨Rel.wanted_free (by kernel_rfl) _, ?_⟩
        obtain ⟨v, hv, hR⟩ := h
        injection hv with hv _
        exact Rel.wp_as _ rfl ⟨_, rfl, (show phiCk w6 _ 2 [Rel.slot a 43, Rel.slot a 43] ww from ⟨v, by rw [hv], hR⟩)⟩
    intro a w9 hbase hroom hdef hΦ hV
    have h : (phiCk w6 (PostSv D F p s sl pl (lE + 1) sq b w6)) 2 [Rel.slot a 43, Rel.slot a 6] w9 := hΦ
    rw [Chn.act_puts [34, 35, 36, 37, 38, 39, 40, 41, 42, 43, 6] hbase hroom hdef (by kernel_rfl)]
    clear hbase hroom hdef hΦ hV
    simp only [List.foldl_cons, List.foldl_nil]
    generalize Rel.slot a 34 = u34 at *
    generalize Rel.slot a 35 = u35 at *
    generalize Rel.slot a 36 = u36 at *
    generalize Rel.slot a 37 = u37 at *
    generalize Rel.slot a 38 = u38 at *
    generalize Rel.slot a 39 = u39 at *
    generalize Rel.slot a 40 = u40 at *
    generalize Rel.slot a 41 = u41 at *
    generalize Rel.slot a 42 = u42 at *
    generalize Rel.slot a 43 = u43 at *
    generalize Rel.slot a 6 = u6 at *
    obtain ⟨v, hv, n, s', rfl, hr, hd, hC⟩ := h
    simp only [List.cons.injEq, and_true] at hv
    obtain ⟨hv1, hv2⟩ := hv
    subst hv1 hv2
    have hjr9 : Jr w9 G pj p j := jr_chg H6.out.2.2.2 hC fun k hg hf => HD.out.2.2.2.2.1 k hf hg
    have hc9 := jr_cells hjr9
    have hBF : ¬ F B := fun hf => by have := HD.out.2.2.1 B hf; have := HB0.out; omega
    have hblk9 := blk_chg hC H6.out.1 hBF
    have hC09 : Chg F w0 w9 := chg_trans (new_chg H6.out.2.1 F) hC fun x hx => .inl hx
    have hdm : D w9 (More F w0 w9) p s' := hD.mono hd fun k hk => hk.imp id fun h => ⟨Nat.le_trans H6.out.2.1.size h.1, h.2⟩
    have hnM : ¬ More F w0 w9 pj := fun hm => hm.elim (fun hf => HD.out.2.2.2.2.1 pj hf HD.out.2.1.2) fun h => by have := HD.out.2.2.2.1 pj HD.out.2.1.2; omega
    have H9 := Lib.hid (And.intro hjr9 (And.intro hblk9 (And.intro hC09 (And.intro hdm hnM))))
    have q6 := hc9.c6
    have f6 := Arr.blk_frozen hjr9.1 6
    rw [HEq.out.2.2.2.2] at q6
    -- what a store into the journal's own cells leaves
    have hset : ∀ (bl : List Value) (jn : JS) (wz : World), encJ p jn = bl → Arr.Blk wz pj 61 bl → Chg (fun k => k = pj) w9 wz → D wz (More F w0 wz) p s' ∧ Jr wz G pj p jn ∧ Chg (fun k => F k ∨ G k) w0 wz := fun bl jn wz he hb hz =>
      ⟨hD.mono (hD.chg H9.out.2.2.2.1 hz fun k hk e => H9.out.2.2.2.2 (e ▸ hk)) fun k hk => more_up hz.size hk, ⟨by rw [he]; exact hb, HD.out.2.1.2⟩, chg_trans (chg_mono H9.out.2.2.1 fun k _ hk => .inl hk) hz fun x hx => .inl (.inr (by rw [hx]; exact HD.out.2.1.2))⟩
    have HSet := Lib.hid hset
    clear hset hd hC hjr9 hc9 hBF hblk9 hC09 hdm hnM HSv
    cases hr with
    | big hb =>
      have hb2 : lE = 4294967295 := by omega
      have H2 := Lib.hid hb2
      clear hb hb2
      go_wp2_with fail
      go_ret
      obtain ⟨x1, x2, x3⟩ := HSet.out _ j _ rfl (by have := Arr.blk_set H9.out.1.1 6 (.bool false); rw [show (encJ p j).set 6 (.bool false) = encJ p j by unfold encJ; rw [HEq.out.2.2.2.2]; rfl] at this; exact this) (set_chg w9 pj 6 (.bool false))
      have hk : CkR j s b 2 j s := .big HEq.out.2.2.2.2 (.inr (by rw [← HEq.out.2.2.1]; have := H2.out; omega))
      first | exact ⟨2, j, s, rfl, hk, x1, x2, x3⟩ | exact ⟨2, rfl, j, s, hk, x1, x2, x3⟩
    | full hb hb2 =>
      have H2 := Lib.hid (And.intro hb hb2)
      clear hb hb2
      go_wp2_with fail
      go_ret
      obtain ⟨x1, x2, x3⟩ := HSet.out _ j _ rfl (by have := Arr.blk_set H9.out.1.1 6 (.bool false); rw [show (encJ p j).set 6 (.bool false) = encJ p j by unfold encJ; rw [HEq.out.2.2.2.2]; rfl] at this; exact this) (set_chg w9 pj 6 (.bool false))
      have hlb : b.length ≤ 3000 := by have := HD.out.2.2.2.2.2.1.len; omega
      have hk : CkR j s b 5 j s := .full HEq.out.2.2.2.2 (by have := H2.out.1; rw [← HEq.out.2.2.1]; omega) (by rw [← HEq.out.1]; exact H2.out.2)
      first | exact ⟨5, j, s, rfl, hk, x1, x2, x3⟩ | exact ⟨5, rfl, j, s, hk, x1, x2, x3⟩
    | down s' hb hb2 hs =>
      have H2 := Lib.hid (And.intro hb (And.intro hb2 hs))
      clear hb hb2 hs
      go_wp2_with fail
      go_ret
      obtain ⟨x1, x2, x3⟩ := HSet.out _ { j with down := true } _ rfl (by have := Arr.blk_set H9.out.1.1 6 (.bool true); exact this) (set_chg w9 pj 6 (.bool true))
      have hlb : b.length ≤ 3000 := by have := HD.out.2.2.2.2.2.1.len; omega
      have hk : CkR j s b 10 { j with down := true } s' := .down s' HEq.out.2.2.2.2 (by have := H2.out.1; rw [← HEq.out.2.2.1]; omega) (by rw [← HEq.out.1]; exact H2.out.2.1) (by rw [← HEq.out.1, ← HEq.out.2.1, ← HEq.out.2.2.1, ← HEq.out.2.2.2.1]; exact H2.out.2.2)
      first | exact ⟨10, { j with down := true }, s', rfl, hk, x1, x2, x3⟩ | exact ⟨10, rfl, { j with down := true }, s', hk, x1, x2, x3⟩
    | done s' hb hb2 hs =>
      have H2 := Lib.hid (And.intro hb (And.intro hb2 hs))
      have q1 := Arr.blk_cell H9.out.2.1 1
      simp only [List.getElem?_cons_zero, List.getElem?_cons_succ] at q1
      have HB9 := Lib.hid q1
      have HJs9 := Lib.hid (show w9.cell? ⟨pj, 1, none⟩ = some (.int .i64 (sl : Nat)) by rw [HEq.out.1]; exact (jr_cells H9.out.1).c1)
      have b0 : Arr.Blk w9.drew pj 61 (encJ p j) := H9.out.1.1
      have b1 := Arr.blk_set b0 2 (.int .i64 ((lE + 1 : Nat) : Int))
      have b2 := Arr.blk_set b1 4 (.int .i64 ((2 * sl : Nat) : Int))
      have b3 := Arr.blk_set b2 5 (.bool true)
      have HSt := Lib.hid (And.intro (And.intro (Arr.blk_cell b0 2) (Arr.blk_frozen b0 2)) (And.intro (And.intro (Arr.blk_cell b1 4) (Arr.blk_frozen b1 4)) (And.intro (Arr.blk_cell b2 5) (Arr.blk_frozen b2 5))))
      have hz : Chg (fun k => k = pj) w9 (((w9.drew.setCell ⟨pj, 2, none⟩ (.int .i64 ((lE + 1 : Nat) : Int))).setCell ⟨pj, 4, none⟩ (.int .i64 ((2 * sl : Nat) : Int))).setCell ⟨pj, 5, none⟩ (.bool true)) :=
        chg_set (F := fun k => k = pj) (chg_set (F := fun k => k = pj) (chg_set (F := fun k => k = pj) (chg_drew (chg_refl _ w9)) (.inl rfl) 2 _) (.inl rfl) 4 _) (.inl rfl) 5 _
      have HX := Lib.hid (HSet.out _ { j with epoch := lE + 1, place := 1 - j.place, next := 2 * j.slot, opened := true } _ rfl (by have := b3; rw [show (((encJ p j).set 2 (.int .i64 ((lE + 1 : Nat) : Int))).set 4 (.int .i64 ((2 * sl : Nat) : Int))).set 5 (.bool true) = encJ p { j with epoch := lE + 1, place := 1 - j.place, next := 2 * j.slot, opened := true } by unfold encJ; rw [HEq.out.1]; rfl] at this; exact this) hz)
      clear hb hb2 hs q1 b0 b1 b2 b3 hz q6 f6
      go_wp2_with fail
      refine Chn.wp_region_chain (fun idx => match idx with | 0 => some (.pointer (some ⟨pj, 0, none⟩)) | 1 => some (.pointer (some ⟨pj, 0, none⟩)) | 2 => some (.pointer (some ⟨pj, 0, none⟩)) | 3 => some (.pointer (some ⟨B, 1, none⟩)) | 4 => some (.int .i64 ((lE + 1 : Nat) : Int)) | 5 => some (.pointer (some ⟨pj, 0, none⟩)) | 6 => some (.pointer (some ⟨pj, 0, none⟩)) | 7 => some (.pointer (some ⟨pj, 1, none⟩)) | 8 => some (.int .i64 (sl : Nat)) | 9 => some (.int .i64 ((2 * sl : Nat) : Int)) | 10 => some (.pointer (some ⟨pj, 0, none⟩)) | 11 => some (.pointer (some ⟨pj, 2, none⟩)) | 13 => some (.pointer (some ⟨pj, 0, none⟩)) | 14 => some (.pointer (some ⟨pj, 4, none⟩)) | 16 => some (.pointer (some ⟨pj, 0, none⟩)) | 17 => some (.pointer (some ⟨pj, 5, none⟩)) | _ => none) [12, 15, 18] (phiSt w9 pj (lE + 1) (2 * sl)) (by kernel_rfl) (by kernel_rfl) (by kernel_rfl) (by kernel_rfl) (by kernel_rfl) (by decide) (by kernel_rfl) (rfl) ?_ ?_
      · refine ⟨?_, ?_, ?_, ?_, ?_, ?_, ?_, ?_, ?_, ?_, ?_, ?_, ?_, ?_, ?_, ?_, ?_, ?_, ?_, trivial⟩
        · intro a ww jj vs c hj0 hΦ
          have hj : jj ≤ 0 := Nat.le_trans hj0 (of_decide_eq_true (by kernel_rfl))
          refine .inl ⟨Rel.wanted_free (by kernel_rfl) _, ?_⟩
          exact Rel.wp_mv _ rfl ⟨congrArg (a.put _) (c.old 0 (v := .pointer (some ⟨pj, 0, none⟩)) (by kernel_rfl) (by kernel_rfl)), rfl⟩
        · intro a ww jj vs c hj0 hΦ
          have hj : jj ≤ 1 := Nat.le_trans hj0 (of_decide_eq_true (by kernel_rfl))
          refine .inl ⟨Rel.wanted_free (by kernel_rfl) _, ?_⟩
          exact Rel.wp_mv _ rfl ⟨congrArg (a.put _) (c.old 0 (v := .pointer (some ⟨pj, 0, none⟩)) (by kernel_rfl) (by kernel_rfl)), rfl⟩
        · intro a ww jj vs c hj0 hΦ
          have hj : jj ≤ 2 := Nat.le_trans hj0 (of_decide_eq_true (by kernel_rfl))
          refine .inl ⟨Rel.wanted_free (by kernel_rfl) _, ?_⟩
          exact Rel.wp_mv _ rfl ⟨congrArg (a.put _) (c.old 0 (v := .pointer (some ⟨pj, 0, none⟩)) (by kernel_rfl) (by kernel_rfl)), rfl⟩
        · intro a ww jj vs c hj0 hΦ
          have hj : jj ≤ 0 := Nat.le_trans hj0 (of_decide_eq_true (by kernel_rfl))
          refine .inl ⟨Rel.wanted_free (by kernel_rfl) _, ?_⟩
          exact Chn.wp_fa _ _ _ rfl (c.old 5 (v := .pointer (some ⟨B, 0, none⟩)) (by kernel_rfl) (by kernel_rfl)) (by simp [go_sem]) ⟨rfl, rfl⟩
        · intro a ww jj vs c hj0 hΦ
          have hj : jj ≤ 0 := Nat.le_trans hj0 (of_decide_eq_true (by kernel_rfl))
          refine .inl ⟨Rel.wanted_free (by kernel_rfl) _, ?_⟩
          exact Rel.wp_ld _ _ rfl (c.get 3 55 (by kernel_rfl) rfl) (by rw [st_first hj hΦ]; exact run_ld_n (cell_keep (below_drew w9) HB9.out)) ⟨rfl, rfl⟩
        · intro a ww jj vs c hj0 hΦ
          have hj : jj ≤ 1 := Nat.le_trans hj0 (of_decide_eq_true (by kernel_rfl))
          refine .inl ⟨Rel.wanted_free (by kernel_rfl) _, ?_⟩
          exact Rel.wp_mv _ rfl ⟨congrArg (a.put _) (c.old 0 (v := .pointer (some ⟨pj, 0, none⟩)) (by kernel_rfl) (by kernel_rfl)), rfl⟩
        · intro a ww jj vs c hj0 hΦ
          have hj : jj ≤ 1 := Nat.le_trans hj0 (of_decide_eq_true (by kernel_rfl))
          refine .inl ⟨Rel.wanted_free (by kernel_rfl) _, ?_⟩
          exact Chn.wp_nc _ rfl (c.get 5 57 (by kernel_rfl) rfl) ⟨rfl, rfl⟩
        · intro a ww jj vs c hj0 hΦ
          have hj : jj ≤ 1 := Nat.le_trans hj0 (of_decide_eq_true (by kernel_rfl))
          refine .inl ⟨Rel.wanted_free (by kernel_rfl) _, ?_⟩
          exact Chn.wp_fa _ _ _ rfl (c.get 6 58 (by kernel_rfl) rfl) (by simp [go_sem]) ⟨rfl, rfl⟩
        · intro a ww jj vs c hj0 hΦ
          have hj : jj ≤ 0 := Nat.le_trans hj0 (of_decide_eq_true (by kernel_rfl))
          refine .inl ⟨Rel.wanted_free (by kernel_rfl) _, ?_⟩
          exact Rel.wp_ld _ _ rfl (c.get 7 59 (by kernel_rfl) rfl) (by rw [st_first hj hΦ]; exact run_ld_n (cell_keep (below_drew w9) HJs9.out)) ⟨rfl, rfl⟩
        · intro a ww jj vs c hj0 hΦ
          have hj : jj ≤ 1 := Nat.le_trans hj0 (of_decide_eq_true (by kernel_rfl))
          refine .inl ⟨Rel.wanted_free (by kernel_rfl) _, ?_⟩
          exact Rel.wp_bo _ _ _ _ _ rfl rfl (c.get 8 60 (by kernel_rfl) rfl) (by simp [go_sem, IntKind.wrap_i64]; omega) ⟨rfl, rfl⟩
        · intro a ww jj vs c hj0 hΦ
          have hj : jj ≤ 0 := Nat.le_trans hj0 (of_decide_eq_true (by kernel_rfl))
          refine .inl ⟨Rel.wanted_free (by kernel_rfl) _, ?_⟩
          exact Chn.wp_nc _ rfl (c.get 0 52 (by kernel_rfl) rfl) ⟨rfl, rfl⟩
        · intro a ww jj vs c hj0 hΦ
          have hj : jj ≤ 0 := Nat.le_trans hj0 (of_decide_eq_true (by kernel_rfl))
          refine .inl ⟨Rel.wanted_free (by kernel_rfl) _, ?_⟩
          exact Chn.wp_fa _ _ _ rfl (c.get 10 62 (by kernel_rfl) rfl) (by simp [go_sem]) ⟨rfl, rfl⟩
        · refine ⟨0, rfl, ?_⟩
          intro a ww c hΦ
          have h : (phiSt w9 pj (lE + 1) (2 * sl)) 0 [] ww := hΦ
          clear hΦ
          refine ⟨Rel.wanted_free (by kernel_rfl) _, ?_⟩
          have hw : ww = w9.drew := h
          subst hw
          exact Chn.wp_st _ _ _ rfl (c.get 11 63 (by kernel_rfl) rfl) (c.get 4 56 (by kernel_rfl) rfl) (run_st_n (w := w9.drew) HSt.out.1.1 HSt.out.1.2) ⟨undef, rfl, rfl⟩
        · intro a ww jj vs c hj0 hΦ
          have hj : jj ≤ 1 := Nat.le_trans hj0 (of_decide_eq_true (by kernel_rfl))
          refine .inl ⟨Rel.wanted_free (by kernel_rfl) _, ?_⟩
          exact Chn.wp_nc _ rfl (c.get 1 53 (by kernel_rfl) rfl) ⟨rfl, rfl⟩
        · intro a ww jj vs c hj0 hΦ
          have hj : jj ≤ 1 := Nat.le_trans hj0 (of_decide_eq_true (by kernel_rfl))
          refine .inl ⟨Rel.wanted_free (by kernel_rfl) _, ?_⟩
          exact Chn.wp_fa _ _ _ rfl (c.get 13 64 (by kernel_rfl) rfl) (by simp [go_sem]) ⟨rfl, rfl⟩
        · refine ⟨1, rfl, ?_⟩
          intro a ww c hΦ
          have h : (phiSt w9 pj (lE + 1) (2 * sl)) 1 [undef] ww := hΦ
          clear hΦ
          refine ⟨Rel.wanted_free (by kernel_rfl) _, ?_⟩
          have hw : ww = _ := h
          subst hw
          exact Chn.wp_st _ _ _ rfl (c.get 14 65 (by kernel_rfl) rfl) (c.get 9 61 (by kernel_rfl) rfl) (run_st_n HSt.out.2.1.1 HSt.out.2.1.2) ⟨undef, rfl, rfl⟩
        · intro a ww jj vs c hj0 hΦ
          have hj : jj ≤ 2 := Nat.le_trans hj0 (of_decide_eq_true (by kernel_rfl))
          refine .inl ⟨Rel.wanted_free (by kernel_rfl) _, ?_⟩
          exact Chn.wp_nc _ rfl (c.get 2 54 (by kernel_rfl) rfl) ⟨rfl, rfl⟩
        · intro a ww jj vs c hj0 hΦ
          have hj : jj ≤ 2 := Nat.le_trans hj0 (of_decide_eq_true (by kernel_rfl))
          refine .inl ⟨Rel.wanted_free (by kernel_rfl) _, ?_⟩
          exact Chn.wp_fa _ _ _ rfl (c.get 16 66 (by kernel_rfl) rfl) (by simp [go_sem]) ⟨rfl, rfl⟩
        · refine ⟨2, rfl, ?_⟩
          intro a ww c hΦ
          have h : (phiSt w9 pj (lE + 1) (2 * sl)) 2 [undef, undef] ww := hΦ
          clear hΦ
          refine ⟨Rel.wanted_free (by kernel_rfl) _, ?_⟩
          have hw : ww = _ := h
          subst hw
          exact Chn.wp_st _ _ _ rfl (c.get 17 67 (by kernel_rfl) rfl) rfl (run_st_b HSt.out.2.2.1 HSt.out.2.2.2) ⟨undef, rfl, rfl⟩
      intro a w10 hbase hroom hdef hΦ hV
      have h : (phiSt w9 pj (lE + 1) (2 * sl)) 3 [undef, undef, undef] w10 := hΦ
      rw [Chn.act_puts [52, 53, 54, 55, 56, 57, 58, 59, 60, 61, 62, 63, 64, 65, 66, 67] hbase hroom hdef (by kernel_rfl)]
      clear hbase hroom hdef hΦ hV
      simp only [List.foldl_cons, List.foldl_nil]
      generalize Rel.slot a 52 = u52 at *
      generalize Rel.slot a 53 = u53 at *
      generalize Rel.slot a 54 = u54 at *
      generalize Rel.slot a 55 = u55 at *
      generalize Rel.slot a 56 = u56 at *
      generalize Rel.slot a 57 = u57 at *
      generalize Rel.slot a 58 = u58 at *
      generalize Rel.slot a 59 = u59 at *
      generalize Rel.slot a 60 = u60 at *
      generalize Rel.slot a 61 = u61 at *
      generalize Rel.slot a 62 = u62 at *
      generalize Rel.slot a 63 = u63 at *
      generalize Rel.slot a 64 = u64 at *
      generalize Rel.slot a 65 = u65 at *
      generalize Rel.slot a 66 = u66 at *
      generalize Rel.slot a 67 = u67 at *
      have hw10 : w10 = _ := h
      subst hw10
      clear h
      go_wp2_with fail
      go_ret
      have hlb : b.length ≤ 3000 := by have := HD.out.2.2.2.2.2.1.len; omega
      have hk := CkR.done (j := j) (s := s) (b := b) s' HEq.out.2.2.2.2 (by have := H2.out.1; rw [← HEq.out.2.2.1]; omega) (by rw [← HEq.out.1]; exact H2.out.2.1) (by rw [← HEq.out.1, ← HEq.out.2.1, ← HEq.out.2.2.1, ← HEq.out.2.2.2.1]; exact H2.out.2.2)
      rw [← HEq.out.2.2.1] at hk
      first | exact ⟨0, _, s', rfl, hk, HX.out.1, HX.out.2.1, HX.out.2.2⟩ | exact ⟨0, rfl, _, s', hk, HX.out.1, HX.out.2.1, HX.out.2.2⟩
end Go.Proofs.Ytdgfoldobofgoaa.Jrn
/- Journal: the landed Room, Append, Commit; the landed journal keeps all its contracts. -/
namespace Go.Proofs.Ytdgfoldobofgoaa.Jrn
set_option maxRecDepth 100000
open Go.RowKit
open Go.Sort
open Kit
open Oct
open Chk
open Frm
open Foot
open Dsk (Sec DS mix mix_at mix_length mix_whole mix_none RdB)
set_option linter.unusedVariables false
variable {D : World → (Nat → Prop) → Nat → DS → Prop}
variable {w w' : World} {F G : Nat → Prop} {p pj : Nat} {s t : DS} {j : JS}

/-! ### Room -/

set_option maxHeartbeats 4000000 in
theorem jroom_any (hD : Dsk.Prog D) (h : D w F p s) (hj : Jr w G pj p j) (hok : JOk j s.good.length) : Calls Try.prog 21 #[.pointer (some ⟨pj, 0, none⟩)] w fun e w' => e = .returned (.int .i64 ((s.good.length - j.next : Nat) : Int)) ∧ Below w.heap.size w w' := by
  have hsm := (hD.ok h).small
  obtain ⟨w0, hw0⟩ : ∃ x, x = w := ⟨_, rfl⟩
  rw [← hw0] at h hj ⊢
  have HD := Lib.hid h
  have HJ := Lib.hid (jr_cells hj)
  obtain ⟨n, hn⟩ : ∃ n, n = s.good.length := ⟨_, rfl⟩
  obtain ⟨nx, hnx⟩ : ∃ n, n = j.next := ⟨_, rfl⟩
  have HNx := Lib.hid (show w0.cell? ⟨pj, 4, none⟩ = some (.int .i64 (nx : Nat)) by rw [hnx]; exact HJ.out.c4)
  have hle : nx ≤ n := by rw [hnx, hn]; exact hok.next.2
  have hn10 : n ≤ 1024 := by omega
  rw [← hn, ← hnx]
  have HN := Lib.hid hn
  clear h hj hok hsm hn hnx hw0
  go_enter Try.func21, Try.ntmps21
  go_wp2_with fail
  refine Rel.wp_region_rel (G := Rel.Gr) (Rel.tab [.is (.pointer (some ⟨pj, 0, none⟩)), .is (.pointer (some ⟨pj, 0, none⟩)), .is (.pointer (some ⟨pj, 0, none⟩)), .is (.pointer (some ⟨p, 0, none⟩)), .is (.int .i64 (n : Nat)), .is (.pointer (some ⟨pj, 0, none⟩)), .is (.pointer (some ⟨pj, 0, none⟩)), .is (.pointer (some ⟨pj, 4, none⟩)), .is (.int .i64 (nx : Nat)), .is (.int .i64 ((n - nx : Nat) : Int)), .is (.int .i64 ((n - nx : Nat) : Int))]) (fun _ w => Below w0.heap.size w0 w) (by kernel_rfl) (by kernel_rfl) (by kernel_rfl) (by kernel_rfl) (fun w => Rel.gr_refl _) (below_drew _) ?_ ?_
  · refine ⟨?_, ?_, ?_, ?_, ?_, ?_, ?_, ?_, ?_, ?_, ?_, trivial⟩
    · intro L a w c
      refine .inl ⟨Rel.wanted_free (by kernel_rfl) _, ?_⟩
      exact Rel.wp_mv _ rfl ⟨_, rfl, Rel.gr_refl _, (c.old 0 (v := .pointer (some ⟨pj, 0, none⟩)) (by kernel_rfl) (by kernel_rfl)), c.inv⟩
    · intro L a w c
      refine .inl ⟨Rel.wanted_free (by kernel_rfl) _, ?_⟩
      exact Chn.wp_nc _ rfl (c.get 0 5 (by kernel_rfl)) ⟨_, rfl, Rel.gr_refl _, rfl, c.inv⟩
    · intro L a w c
      refine .inl ⟨Rel.wanted_free (by kernel_rfl) _, ?_⟩
      exact Chn.wp_fa _ _ _ rfl (c.get 1 6 (by kernel_rfl)) (by simp [go_sem]) ⟨_, rfl, Rel.gr_refl _, rfl, c.inv⟩
    · intro L a w c
      refine .inl ⟨Rel.wanted_free (by kernel_rfl) _, ?_⟩
      exact Rel.wp_ld _ _ rfl (c.get 2 7 (by kernel_rfl)) (run_ld_dp (cell_keep c.inv HJ.out.c0)) ⟨_, rfl, Rel.gr_refl _, rfl, c.inv⟩
    · intro L a w c
      refine .inl ⟨Rel.wanted_free (by kernel_rfl) _, ?_⟩
      refine Rel.wp_cl _ _ _ rfl Try.func22 (by kernel_rfl) ?_
      show Calls _ _ #[Rel.slot a 8] w _
      rw [show Rel.slot a 8 = .pointer (some ⟨p, 0, none⟩) from (c.get 3 8 (by kernel_rfl))]
      refine (hD.size (d_keep hD HD.out c.inv)).mono ?_
      rintro e w' ⟨rfl, hb⟩
      exact ⟨_, rfl, _, rfl, hb, by rw [HN.out]; rfl, below_keep c.inv hb⟩
    · intro L a w c
      refine .inl ⟨Rel.wanted_free (by kernel_rfl) _, ?_⟩
      exact Rel.wp_mv _ rfl ⟨_, rfl, Rel.gr_refl _, (c.old 0 (v := .pointer (some ⟨pj, 0, none⟩)) (by kernel_rfl) (by kernel_rfl)), c.inv⟩
    · intro L a w c
      refine .inl ⟨Rel.wanted_free (by kernel_rfl) _, ?_⟩
      exact Chn.wp_nc _ rfl (c.get 5 10 (by kernel_rfl)) ⟨_, rfl, Rel.gr_refl _, rfl, c.inv⟩
    · intro L a w c
      refine .inl ⟨Rel.wanted_free (by kernel_rfl) _, ?_⟩
      exact Chn.wp_fa _ _ _ rfl (c.get 6 11 (by kernel_rfl)) (by simp [go_sem]) ⟨_, rfl, Rel.gr_refl _, rfl, c.inv⟩
    · intro L a w c
      refine .inl ⟨Rel.wanted_free (by kernel_rfl) _, ?_⟩
      exact Rel.wp_ld _ _ rfl (c.get 7 12 (by kernel_rfl)) (run_ld_n (cell_keep c.inv HNx.out)) ⟨_, rfl, Rel.gr_refl _, rfl, c.inv⟩
    · intro L a w c
      refine .inl ⟨Rel.wanted_free (by kernel_rfl) _, ?_⟩
      exact Rel.wp_bo _ _ _ _ _ rfl (u := .int .i64 ((n - nx : Nat) : Int)) (c.get 4 9 (by kernel_rfl)) (c.get 8 13 (by kernel_rfl)) (by simp [go_sem, IntKind.wrap_i64]; omega) ⟨_, rfl, Rel.gr_refl _, rfl, c.inv⟩
    · intro L a w c
      refine .inl ⟨Rel.wanted_free (by kernel_rfl) _, ?_⟩
      exact Rel.wp_as _ rfl ⟨_, rfl, Rel.gr_refl _, (c.get 9 14 (by kernel_rfl)), c.inv⟩
  intro a w5 hbase hroom hdef hJ hV
  have s2 : Rel.slot a 2 = .int .i64 ((n - nx : Nat) : Int) := hV 10 _ _ rfl rfl
  rw [Chn.act_puts [5, 6, 7, 8, 9, 10, 11, 12, 13, 14, 2] hbase hroom hdef (by kernel_rfl)]
  clear hbase hroom hdef hV
  simp only [List.foldl_cons, List.foldl_nil]
  generalize Rel.slot a 5 = u5 at *
  generalize Rel.slot a 6 = u6 at *
  generalize Rel.slot a 7 = u7 at *
  generalize Rel.slot a 8 = u8 at *
  generalize Rel.slot a 9 = u9 at *
  generalize Rel.slot a 10 = u10 at *
  generalize Rel.slot a 11 = u11 at *
  generalize Rel.slot a 12 = u12 at *
  generalize Rel.slot a 13 = u13 at *
  generalize Rel.slot a 14 = u14 at *
  rw [s2]
  clear s2
  simp only [Act.put, List.setIfInBounds_toArray, List.set_cons_succ, List.set_cons_zero]
  have HB := Lib.hid hJ
  clear hJ
  go_wp2_with fail
  go_ret
  exact ⟨rfl, HB.out⟩

/-! ### Commit -/

set_option maxHeartbeats 4000000 in
theorem jcommit_any (hD : Dsk.Prog D) (h : D w F p s) (hj : Jr w G pj p j) (hF : ∀ k, F k → k < w.heap.size) (hG : ∀ k, G k → k < w.heap.size) (hap : ∀ k, F k → ¬ G k) :
    Calls Try.prog 14 #[.pointer (some ⟨pj, 0, none⟩)] w fun e w' => ∃ n j' s', e = .returned (.int .i64 (n : Nat)) ∧ CoR j s n j' s' ∧ D w' (More F w w') p s' ∧ Jr w' G pj p j' ∧ Chg (fun k => F k ∨ G k) w w' := by
  have HD := Lib.hid (And.intro h (And.intro hj (And.intro hF (And.intro hG hap))))
  have HX : Hid (D w (More F w w) p s ∧ Jr w G pj p j ∧ Chg (fun k => F k ∨ G k) w w) := Lib.hid ⟨hD.mono h fun k hk => .inl hk, hj, chg_refl _ _⟩
  have c0 := (jr_cells hj).c0
  have HRd := Lib.hid (jready_any hj)
  clear h hj hF hG hap
  cases hdn : j.down with
  | true =>
    have HDn := Lib.hid hdn
    have hrn : readyN j = 10 := by unfold readyN; rw [hdn]; rfl
    rw [hrn] at HRd
    clear hdn hrn
    go_enter Try.func14, Try.ntmps14
    go_wp2_with fail
    refine HRd.out.mono ?_
    rintro e w1 ⟨rfl, rfl⟩
    go_wp2_with fail
    go_ret
    first | exact ⟨10, j, s, rfl, .dead HDn.out, HX.out.1, HX.out.2.1, HX.out.2.2⟩ | exact ⟨10, rfl, j, s, .dead HDn.out, HX.out.1, HX.out.2.1, HX.out.2.2⟩
  | false =>
    cases hop : j.opened with
    | false =>
      have HDn := Lib.hid (And.intro hdn hop)
      have hrn : readyN j = 9 := by unfold readyN; rw [hdn, hop]; rfl
      rw [hrn] at HRd
      clear hdn hrn hop
      go_enter Try.func14, Try.ntmps14
      go_wp2_with fail
      refine HRd.out.mono ?_
      rintro e w1 ⟨rfl, rfl⟩
      go_wp2_with fail
      go_ret
      first | exact ⟨9, j, s, rfl, .closed HDn.out.1 HDn.out.2, HX.out.1, HX.out.2.1, HX.out.2.2⟩ | exact ⟨9, rfl, j, s, .closed HDn.out.1 HDn.out.2, HX.out.1, HX.out.2.1, HX.out.2.2⟩
    | true =>
      have HDn := Lib.hid (And.intro hdn hop)
      have hrn : readyN j = 0 := by unfold readyN; rw [hdn, hop]; rfl
      rw [hrn] at HRd
      clear hdn hrn hop
      go_enter Try.func14, Try.ntmps14
      go_wp2_with fail
      refine HRd.out.mono ?_
      rintro e w1 ⟨rfl, rfl⟩
      go_wp2_with fail
      refine (hD.flush HD.out.1 HD.out.2.2.1).mono ?_
      rintro e w2 ⟨rfl, hd, hC⟩
      have hjr := jr_chg HD.out.2.1 hC fun k hg hf => HD.out.2.2.2.2 k hf hg
      rcases flush_is s with ⟨hf, he⟩ | ⟨hf, g1, g2, g3, g4⟩
      · rw [he] at hd ⊢
        have q6 := (jr_cells hjr).c6
        rw [HDn.out.1] at q6
        have f6 := Arr.blk_frozen hjr.1 6
        have hb6 := Arr.blk_set hjr.1 6 (.bool true)
        have hz := set_chg w2 pj 6 (.bool true)
        have hnM : ¬ More F w w2 pj := fun hm => hm.elim (fun hf => HD.out.2.2.2.2 pj hf HD.out.2.1.2) fun h => by have := HD.out.2.2.2.1 pj HD.out.2.1.2; omega
        have H2 := Lib.hid (And.intro (hD.mono (hD.chg hd hz fun k hk e => hnM (e ▸ hk)) fun k hk => more_up hz.size hk) (And.intro (show Jr (w2.setCell ⟨pj, 6, none⟩ (.bool true)) G pj p { j with down := true } from ⟨hb6, HD.out.2.1.2⟩) (chg_trans (chg_mono hC fun k _ hk => (.inl hk : F k ∨ G k)) hz fun x hx => .inl (.inr (by rw [hx]; exact HD.out.2.1.2)))))
        have HE := Lib.hid (show s.fuse ≠ -1 by omega)
        have HOk := Lib.hid (hD.ok HD.out.1)
        clear hd hC hjr hf he hb6 hz hnM
        go_wp2_with fail
        go_ret
        have hk : CoR j s 10 { j with down := true } s := .down s HDn.out.1 HDn.out.2 ⟨rfl, rfl, HOk.out⟩ HE.out
        first | exact ⟨10, _, s, rfl, hk, H2.out.1, H2.out.2.1, H2.out.2.2⟩ | exact ⟨10, rfl, _, s, hk, H2.out.1, H2.out.2.1, H2.out.2.2⟩
      · rw [g1]
        have H2 := Lib.hid (And.intro hd (And.intro hjr (chg_mono hC fun k _ hk => (.inl hk : F k ∨ G k))))
        have hsu : Sure s s.flush.2 s.now := ⟨g2, g3, hD.ok hd, fun e => by rw [g4, e]; rfl⟩
        have HS := Lib.hid hsu
        clear hd hC hjr hf g1 g2 g3 g4 hsu
        go_wp2_with fail
        go_ret
        have hk : CoR j s 0 j s.flush.2 := .done _ HDn.out.1 HDn.out.2 HS.out
        first | exact ⟨0, j, _, rfl, hk, H2.out.1, H2.out.2.1, H2.out.2.2⟩ | exact ⟨0, rfl, j, _, hk, H2.out.1, H2.out.2.1, H2.out.2.2⟩

/-! ### Append -/

def kPk (base : Nat) (l : Bs) : Rel.Kd Rel.Gr := ⟨fun w u => ∃ v, u = .tuple #[v, .int .i64 0] ∧ NewB w base v l, fun _ _ _ h ⟨v, e, hn⟩ => ⟨v, e, new_keep hn h⟩⟩
def PostWr (D : World → (Nat → Prop) → Nat → DS → Prop) (F : Nat → Prop) (p : Nat) (s : DS) (nx : Nat) (cs : List Sec) (w6 : World) (v : Value) (ww : World) : Prop :=
  ∃ bo t, v = .bool bo ∧ (bo = true ∧ Put s t nx cs ∨ bo = false ∧ Half s t nx cs) ∧ D ww (More F w6 ww) p t ∧ Chg F w6 ww
def phiAp (w6 : World) (R : Value → World → Prop) : Nat → List Value → World → Prop
  | 0, _, ww => ww = w6.drew
  | 1, vs, ww => ∃ v, vs = [v] ∧ R v ww
  | _, vs, ww => ∃ b : Bool, vs = [.bool b, .bool (!b)] ∧ R (.bool b) ww
theorem ap_first {w6 ww : World} {R : Value → World → Prop} {jj : Nat} {vs : List Value} (hj : jj ≤ 0) (h : phiAp w6 R jj vs ww) : ww = w6.drew := by
  obtain rfl : jj = 0 := by omega
  exact h

set_option maxHeartbeats 8000000 in
theorem jappend_any (hD : Dsk.Prog D) (hP : Frm.Prog) (h : D w F p s) (hj : Jr w G pj p j) (hF : ∀ k, F k → k < w.heap.size) (hG : ∀ k, G k → k < w.heap.size) (hap : ∀ k, F k → ¬ G k) (hok : JOk j s.good.length)
    (aa : Option Addr) (len cap : Nat) (b : Bs) (hA : Arg w aa len cap b) (hl : len ≤ 3000) :
    Calls Try.prog 16 #[.pointer (some ⟨pj, 0, none⟩), .slice aa len cap] w fun e w' => ∃ n j' s', e = .returned (.int .i64 (n : Nat)) ∧ ApR j s b n j' s' ∧ D w' (More F w w') p s' ∧ Jr w' G pj p j' ∧ Chg (fun k => F k ∨ G k) w w' := by
  have HD := Lib.hid (And.intro h (And.intro hj (And.intro hF (And.intro hG (And.intro hap (And.intro hA hok))))))
  have HX := Lib.hid (show ∀ wx, Below w.heap.size w wx → D wx (More F w wx) p s ∧ Jr wx G pj p j ∧ Chg (fun k => F k ∨ G k) w wx from fun wx hb => ⟨hD.mono (d_keep hD h hb) fun k hk => .inl hk, jr_keep hj hb, new_chg hb _⟩)
  have HJ := Lib.hid (jr_cells hj)
  have HRd := Lib.hid (jready_any hj)
  clear h hj hF hG hap hA hok
  cases hdn : j.down with
  | true =>
    have HDn := Lib.hid hdn
    have hrn : readyN j = 10 := by unfold readyN; rw [hdn]; rfl
    rw [hrn] at HRd
    clear hdn hrn
    go_enter Try.func16, Try.ntmps16
    go_wp2_with fail
    refine HRd.out.mono ?_
    rintro e w1 ⟨rfl, rfl⟩
    go_wp2_with fail
    go_ret
    obtain ⟨x1, x2, x3⟩ := HX.out w (Below.refl _ _)
    first | exact ⟨10, j, s, rfl, .dead HDn.out, x1, x2, x3⟩ | exact ⟨10, rfl, j, s, .dead HDn.out, x1, x2, x3⟩
  | false =>
    cases hop : j.opened with
    | false =>
      have HDn := Lib.hid (And.intro hdn hop)
      have hrn : readyN j = 9 := by unfold readyN; rw [hdn, hop]; rfl
      rw [hrn] at HRd
      clear hdn hrn hop
      go_enter Try.func16, Try.ntmps16
      go_wp2_with fail
      refine HRd.out.mono ?_
      rintro e w1 ⟨rfl, rfl⟩
      go_wp2_with fail
      go_ret
      obtain ⟨x1, x2, x3⟩ := HX.out w (Below.refl _ _)
      first | exact ⟨9, j, s, rfl, .closed HDn.out.1 HDn.out.2, x1, x2, x3⟩ | exact ⟨9, rfl, j, s, .closed HDn.out.1 HDn.out.2, x1, x2, x3⟩
    | true =>
      have HDn := Lib.hid (And.intro hdn hop)
      have hrn : readyN j = 0 := by unfold readyN; rw [hdn, hop]; rfl
      rw [hrn] at HRd
      have hlb := HD.out.2.2.2.2.2.1.len
      have HLb := Lib.hid hlb
      have hsm := (hD.ok HD.out.1).small
      obtain ⟨ep, hep0⟩ : ∃ x, x = j.epoch := ⟨_, rfl⟩
      obtain ⟨sq, hsq0⟩ : ∃ x, x = j.seq := ⟨_, rfl⟩
      obtain ⟨nx, hnx0⟩ : ∃ x, x = j.next := ⟨_, rfl⟩
      obtain ⟨n, hn0⟩ : ∃ x, x = s.good.length := ⟨_, rfl⟩
      have hep : ep < 4294967296 := by rw [hep0]; exact HD.out.2.2.2.2.2.2.epoch
      have hsq : sq < 4294967296 := by rw [hsq0]; exact HD.out.2.2.2.2.2.2.seq
      have hnx : nx ≤ n := by rw [hnx0, hn0]; exact HD.out.2.2.2.2.2.2.next.2
      have hn10 : n ≤ 1024 := by omega
      have q2 := HJ.out.c2
      have q3 := HJ.out.c3
      have q4 := HJ.out.c4
      rw [← hep0] at q2
      rw [← hsq0] at q3
      rw [← hnx0] at q4
      have HEq := Lib.hid (And.intro hep0 (And.intro hsq0 (And.intro hnx0 hn0)))
      have HC := Lib.hid (And.intro q2 (And.intro q3 q4))
      have hli : ¬ (len : Int) > 65535 := by omega
      clear hdn hrn hop hep0 hsq0 hnx0 hn0 hlb hsm q2 q4
      go_enter Try.func16, Try.ntmps16
      go_wp2_with fail
      refine HRd.out.mono ?_
      rintro e w1 ⟨rfl, rfl⟩
      by_cases hbig : sq = 4294967295
      · have hbi : (sq : Int) = 4294967295 := by omega
        have HB := Lib.hid hbig
        clear hbig
        go_wp2_with fail
        go_ret
        obtain ⟨x1, x2, x3⟩ := HX.out w (Below.refl _ _)
        have hk : ApR j s b 2 j s := .big HDn.out.1 HDn.out.2 (.inr (by rw [← HEq.out.2.1, HB.out]; exact Nat.le_refl _))
        first | exact ⟨2, j, s, rfl, hk, x1, x2, x3⟩ | exact ⟨2, rfl, j, s, hk, x1, x2, x3⟩
      · have hbi : ((sq : Int) == 4294967295) = false := beq_false_of_ne (by omega)
        have HB := Lib.hid (show ¬ (65535 < b.length ∨ 4294967295 ≤ j.seq) by rw [HLb.out, ← HEq.out.2.1]; omega)
        have hsq2 : sq < 4294967295 := by omega
        clear hbig
        go_wp2_with fail
        refine (hP.sectors (len : Nat) w ⟨by omega, by omega⟩).mono ?_
        rintro e w2 ⟨rfl, hb2⟩
        rw [secsI_is (by omega)]
        obtain ⟨K, hK⟩ : ∃ K, K = secs len := ⟨_, rfl⟩
        have hK2 : K ≤ 200 := by rw [hK]; unfold secs; omega
        rw [← hK]
        have HK := Lib.hid (show K = secs b.length by rw [hK, HLb.out])
        have HB2 := Lib.hid hb2
        clear hb2 hK q3
        go_wp2_with fail
        refine (jroom_any hD (d_keep hD HD.out.1 HB2.out) (jr_keep HD.out.2.1 HB2.out) HD.out.2.2.2.2.2.2).mono ?_
        rintro e w4 ⟨rfl, hb4⟩
        rw [← HEq.out.2.2.2, ← HEq.out.2.2.1]
        have hB4 := below_keep HB2.out hb4
        have HB4 := Lib.hid hB4
        have HC4 := Lib.hid (And.intro (cell_keep hB4 HC.out.1) (cell_keep hB4 HC.out.2.1))
        have HA4 := Lib.hid (arg_keep HD.out.2.2.2.2.2.1 hB4)
        clear hb4 hB4
        obtain ⟨R, hR⟩ : ∃ R, R = n - nx := ⟨_, rfl⟩
        rw [← hR]
        by_cases hfull : R < K
        · have hfi : (R : Int) < K := by omega
          have HFu := Lib.hid (show s.good.length < j.next + secs b.length by rw [← HEq.out.2.2.2, ← HEq.out.2.2.1, ← HK.out]; omega)
          clear hfull hR
          go_wp2_with fail
          go_ret
          obtain ⟨x1, x2, x3⟩ := HX.out w4 HB4.out
          have hk : ApR j s b 5 j s := .full HDn.out.1 HDn.out.2 HB.out HFu.out
          first | exact ⟨5, j, s, rfl, hk, x1, x2, x3⟩ | exact ⟨5, rfl, j, s, hk, x1, x2, x3⟩
        · have hfi : ¬ (R : Int) < K := by omega
          have HFu := Lib.hid (show j.next + secs b.length ≤ s.good.length by rw [← HEq.out.2.2.2, ← HEq.out.2.2.1, ← HK.out]; omega)
          have hnK : nx + K ≤ n := by omega
          clear hfull hR
          go_wp2_with fail
          refine Rel.wp_region_rel (G := Rel.Gr) (Rel.tab [.is (.pointer (some ⟨pj, 0, none⟩)), .is (.pointer (some ⟨pj, 0, none⟩)), .is (.pointer (some ⟨pj, 2, none⟩)), .is (.int .i64 (ep : Nat)), .is (.pointer (some ⟨pj, 0, none⟩)), .is (.pointer (some ⟨pj, 0, none⟩)), .is (.pointer (some ⟨pj, 3, none⟩)), .is (.int .i64 (sq : Nat)), .is (.int .i64 ((sq + 1 : Nat) : Int)), .is (.slice aa len cap), kPk w4.heap.size (packB ep (sq + 1) b), kPk w4.heap.size (packB ep (sq + 1) b), kNew w4.heap.size (packB ep (sq + 1) b), .is (.int .i64 0), kNew w4.heap.size (packB ep (sq + 1) b), .is (.int .i64 0)]) (fun _ w => Below w4.heap.size w4 w) (by kernel_rfl) (by kernel_rfl) (by kernel_rfl) (by kernel_rfl) (fun w => Rel.gr_refl _) (below_drew _) ?_ ?_
          · refine ⟨?_, ?_, ?_, ?_, ?_, ?_, ?_, ?_, ?_, ?_, ?_, ?_, ?_, ?_, ?_, ?_, trivial⟩
            · intro L a w c
              refine .inl ⟨Rel.wanted_free (by kernel_rfl) _, ?_⟩
              exact Rel.wp_mv _ rfl ⟨_, rfl, Rel.gr_refl _, (c.old 0 (v := .pointer (some ⟨pj, 0, none⟩)) (by kernel_rfl) (by kernel_rfl)), c.inv⟩
            · intro L a w c
              refine .inl ⟨Rel.wanted_free (by kernel_rfl) _, ?_⟩
              exact Chn.wp_nc _ rfl (c.get 0 32 (by kernel_rfl)) ⟨_, rfl, Rel.gr_refl _, rfl, c.inv⟩
            · intro L a w c
              refine .inl ⟨Rel.wanted_free (by kernel_rfl) _, ?_⟩
              exact Chn.wp_fa _ _ _ rfl (c.get 1 33 (by kernel_rfl)) (by simp [go_sem]) ⟨_, rfl, Rel.gr_refl _, rfl, c.inv⟩
            · intro L a w c
              refine .inl ⟨Rel.wanted_free (by kernel_rfl) _, ?_⟩
              exact Rel.wp_ld _ _ rfl (c.get 2 34 (by kernel_rfl)) (run_ld_n (cell_keep c.inv HC4.out.1)) ⟨_, rfl, Rel.gr_refl _, rfl, c.inv⟩
            · intro L a w c
              refine .inl ⟨Rel.wanted_free (by kernel_rfl) _, ?_⟩
              exact Rel.wp_mv _ rfl ⟨_, rfl, Rel.gr_refl _, (c.old 0 (v := .pointer (some ⟨pj, 0, none⟩)) (by kernel_rfl) (by kernel_rfl)), c.inv⟩
            · intro L a w c
              refine .inl ⟨Rel.wanted_free (by kernel_rfl) _, ?_⟩
              exact Chn.wp_nc _ rfl (c.get 4 36 (by kernel_rfl)) ⟨_, rfl, Rel.gr_refl _, rfl, c.inv⟩
            · intro L a w c
              refine .inl ⟨Rel.wanted_free (by kernel_rfl) _, ?_⟩
              exact Chn.wp_fa _ _ _ rfl (c.get 5 37 (by kernel_rfl)) (by simp [go_sem]) ⟨_, rfl, Rel.gr_refl _, rfl, c.inv⟩
            · intro L a w c
              refine .inl ⟨Rel.wanted_free (by kernel_rfl) _, ?_⟩
              exact Rel.wp_ld _ _ rfl (c.get 6 38 (by kernel_rfl)) (run_ld_n (cell_keep c.inv HC4.out.2)) ⟨_, rfl, Rel.gr_refl _, rfl, c.inv⟩
            · intro L a w c
              refine .inl ⟨Rel.wanted_free (by kernel_rfl) _, ?_⟩
              exact Rel.wp_bo _ _ _ _ _ rfl (u := .int .i64 ((sq + 1 : Nat) : Int)) (c.get 7 39 (by kernel_rfl)) rfl (by simp [go_sem, IntKind.wrap_i64]; omega) ⟨_, rfl, Rel.gr_refl _, rfl, c.inv⟩
            · intro L a w c
              refine .inl ⟨Rel.wanted_free (by kernel_rfl) _, ?_⟩
              exact Rel.wp_mv _ rfl ⟨_, rfl, Rel.gr_refl _, (c.old 1 (v := .slice aa len cap) (by kernel_rfl) (by kernel_rfl)), c.inv⟩
            · intro L a w c
              refine .inl ⟨Rel.wanted_free (by kernel_rfl) _, ?_⟩
              refine Rel.wp_cl _ _ _ rfl Try.func35 (by kernel_rfl) ?_
              show Calls _ _ #[Rel.slot a 35, Rel.slot a 40, Rel.slot a 41] w _
              rw [show Rel.slot a 35 = .int .i64 (ep : Nat) from (c.get 3 35 (by kernel_rfl)), show Rel.slot a 40 = .int .i64 ((sq + 1 : Nat) : Int) from (c.get 8 40 (by kernel_rfl)), show Rel.slot a 41 = .slice aa len cap from (c.get 9 41 (by kernel_rfl))]
              refine (hP.pack ((ep : Nat) : Int) ((sq + 1 : Nat) : Int) aa len cap b w ⟨by omega, by omega⟩ ⟨by omega, by omega⟩ (arg_keep HA4.out c.inv) hl).mono ?_
              rintro e w' ⟨v, rfl, hn, hb⟩
              rw [packA_is hep (by omega)] at hn ⊢
              exact ⟨_, rfl, _, rfl, hb, ⟨v, rfl, new_le hn c.inv.size⟩, below_keep c.inv hb⟩
            · intro L a w c
              refine .inl ⟨Rel.wanted_free (by kernel_rfl) _, ?_⟩
              exact Rel.wp_mv _ rfl ⟨_, rfl, Rel.gr_refl _, (c.get 10 42 (by kernel_rfl)), c.inv⟩
            · intro L a w c
              refine .inl ⟨Rel.wanted_free (by kernel_rfl) _, ?_⟩
              obtain ⟨v', e', h'⟩ := c.get 11 31 (by kernel_rfl)
              exact Rel.wp_ex _ _ rfl e' (run_ex2 _ _ 0 _ rfl w) ⟨_, rfl, Rel.gr_refl _, h', c.inv⟩
            · intro L a w c
              refine .inl ⟨Rel.wanted_free (by kernel_rfl) _, ?_⟩
              obtain ⟨v', e', h'⟩ := c.get 11 31 (by kernel_rfl)
              exact Rel.wp_ex _ _ rfl e' (run_ex2 _ _ 1 _ rfl w) ⟨_, rfl, Rel.gr_refl _, rfl, c.inv⟩
            · intro L a w c
              refine .inl ⟨Rel.wanted_free (by kernel_rfl) _, ?_⟩
              exact Rel.wp_as _ rfl ⟨_, rfl, Rel.gr_refl _, (c.get 12 43 (by kernel_rfl)), c.inv⟩
            · intro L a w c
              refine .inl ⟨Rel.wanted_free (by kernel_rfl) _, ?_⟩
              exact Rel.wp_as _ rfl ⟨_, rfl, Rel.gr_refl _, (c.get 13 44 (by kernel_rfl)), c.inv⟩
          intro a w5 hbase hroom hdef hJ hV
          have s8 : Rel.slot a 8 = .int .i64 0 := hV 15 _ _ rfl rfl
          have k7 : (kNew w4.heap.size (packB ep (sq + 1) b) : Rel.Kd (Rel.Gr)).p w5 (Rel.slot a 7) := hV 14 _ _ rfl rfl
          rw [Chn.act_puts [32, 33, 34, 35, 36, 37, 38, 39, 40, 41, 42, 31, 43, 44, 7, 8] hbase hroom hdef (by kernel_rfl)]
          clear hbase hroom hdef hV
          simp only [List.foldl_cons, List.foldl_nil]
          generalize Rel.slot a 32 = u32 at *
          generalize Rel.slot a 33 = u33 at *
          generalize Rel.slot a 34 = u34 at *
          generalize Rel.slot a 35 = u35 at *
          generalize Rel.slot a 36 = u36 at *
          generalize Rel.slot a 37 = u37 at *
          generalize Rel.slot a 38 = u38 at *
          generalize Rel.slot a 39 = u39 at *
          generalize Rel.slot a 40 = u40 at *
          generalize Rel.slot a 41 = u41 at *
          generalize Rel.slot a 42 = u42 at *
          generalize Rel.slot a 31 = u31 at *
          generalize Rel.slot a 43 = u43 at *
          generalize Rel.slot a 44 = u44 at *
          generalize Rel.slot a 7 = u7 at *
          rw [s8]
          clear s8
          simp only [Act.put, List.setIfInBounds_toArray, List.set_cons_succ, List.set_cons_zero]
          obtain ⟨a3, c3, rfl, r1, r2, r3, r4, r5⟩ := k7
          have hA3 : Arg w5 a3 (packB ep (sq + 1) b).length c3 (secsB ep (sq + 1) b).flatten := by rw [secsB_flat]; exact ⟨rfl, r1, r2, r3, r4⟩
          have hB5 := below_keep HB4.out hJ
          have HW5 := Lib.hid (And.intro hB5 (And.intro hA3 (show ∀ q, a3 = some q → ¬ F q.block ∧ q.block < w5.heap.size from fun q hq => ⟨fun hf => by have := HD.out.2.2.1 _ hf; have := (r5 q hq).1; have := HB4.out.size; omega, (r5 q hq).2⟩)))
          obtain ⟨n3, hn3⟩ : ∃ n, n = (packB ep (sq + 1) b).length := ⟨_, rfl⟩
          rw [← hn3] at HW5 ⊢
          have HC5 := Lib.hid (And.intro (cell_keep hB5 HJ.out.c0) (cell_keep hB5 HC.out.2.2))
          have HWr := Lib.hid (fun (wx : World) (hb : Below w5.heap.size w5 wx) => (jwrite_any hD (d_keep hD (d_keep hD HD.out.1 HW5.out.1) hb) (fun k hk => Nat.lt_of_lt_of_le (HD.out.2.2.1 k hk) (below_keep HW5.out.1 hb).size) nx (secsB ep (sq + 1) b) secsB_32 (by rw [secsB_length, ← HK.out, ← HEq.out.2.2.2]; exact hnK) a3 n3 c3 (arg_keep HW5.out.2.1 hb) (fun q hq => ⟨(HW5.out.2.2 q hq).1, Nat.lt_of_lt_of_le (HW5.out.2.2 q hq).2 hb.size⟩)).mono (R' := fun e w' => ∃ v, e = .returned v ∧ PostWr D F p s nx (secsB ep (sq + 1) b) w5 v w') (by
            rintro e w' ⟨bo, t, rfl, hr, hd, hC⟩
            exact ⟨_, rfl, bo, t, rfl, hr, hD.mono hd fun k hk => hk.imp id fun h => ⟨Nat.le_trans hb.size h.1, h.2⟩, chg_trans (new_chg hb F) hC fun x hx => .inl hx⟩))
          clear hJ r1 r2 r3 r4 r5 hA3 hB5 hn3 hnK
          go_wp2_with fail
          refine Chn.wp_region_chain (fun idx => match idx with | 0 => some (.pointer (some ⟨pj, 0, none⟩)) | 1 => some (.pointer (some ⟨pj, 0, none⟩)) | 2 => some (.pointer (some ⟨pj, 0, none⟩)) | 3 => some (.pointer (some ⟨p, 0, none⟩)) | 4 => some (.pointer (some ⟨pj, 0, none⟩)) | 5 => some (.pointer (some ⟨pj, 0, none⟩)) | 6 => some (.pointer (some ⟨pj, 4, none⟩)) | 7 => some (.int .i64 (nx : Nat)) | 8 => some (.slice a3 n3 c3) | _ => none) [9, 10] (phiAp w5 (PostWr D F p s nx (secsB ep (sq + 1) b) w5)) (by kernel_rfl) (by kernel_rfl) (by kernel_rfl) (by kernel_rfl) (by kernel_rfl) (by decide) (by kernel_rfl) (rfl) ?_ ?_
          · refine ⟨?_, ?_, ?_, ?_, ?_, ?_, ?_, ?_, ?_, ?_, ?_, trivial⟩
            · intro a ww jj vs c hj0 hΦ
              have hj : jj ≤ 0 := Nat.le_trans hj0 (of_decide_eq_true (by kernel_rfl))
              refine .inl ⟨Rel.wanted_free (by kernel_rfl) _, ?_⟩
              exact Rel.wp_mv _ rfl ⟨congrArg (a.put _) (c.old 0 (v := .pointer (some ⟨pj, 0, none⟩)) (by kernel_rfl) (by kernel_rfl)), rfl⟩
            · intro a ww jj vs c hj0 hΦ
              have hj : jj ≤ 0 := Nat.le_trans hj0 (of_decide_eq_true (by kernel_rfl))
              refine .inl ⟨Rel.wanted_free (by kernel_rfl) _, ?_⟩
              exact Chn.wp_nc _ rfl (c.get 0 45 (by kernel_rfl) rfl) ⟨rfl, rfl⟩
            · intro a ww jj vs c hj0 hΦ
              have hj : jj ≤ 0 := Nat.le_trans hj0 (of_decide_eq_true (by kernel_rfl))
              refine .inl ⟨Rel.wanted_free (by kernel_rfl) _, ?_⟩
              exact Chn.wp_fa _ _ _ rfl (c.get 1 46 (by kernel_rfl) rfl) (by simp [go_sem]) ⟨rfl, rfl⟩
            · intro a ww jj vs c hj0 hΦ
              have hj : jj ≤ 0 := Nat.le_trans hj0 (of_decide_eq_true (by kernel_rfl))
              refine .inl ⟨Rel.wanted_free (by kernel_rfl) _, ?_⟩
              exact Rel.wp_ld _ _ rfl (c.get 2 47 (by kernel_rfl) rfl) (by rw [ap_first hj hΦ]; exact run_ld_dp (cell_keep (below_drew w5) HC5.out.1)) ⟨rfl, rfl⟩
            · intro a ww jj vs c hj0 hΦ
              have hj : jj ≤ 0 := Nat.le_trans hj0 (of_decide_eq_true (by kernel_rfl))
              refine .inl ⟨Rel.wanted_free (by kernel_rfl) _, ?_⟩
              exact Rel.wp_mv _ rfl ⟨congrArg (a.put _) (c.old 0 (v := .pointer (some ⟨pj, 0, none⟩)) (by kernel_rfl) (by kernel_rfl)), rfl⟩
            · intro a ww jj vs c hj0 hΦ
              have hj : jj ≤ 0 := Nat.le_trans hj0 (of_decide_eq_true (by kernel_rfl))
              refine .inl ⟨Rel.wanted_free (by kernel_rfl) _, ?_⟩
              exact Chn.wp_nc _ rfl (c.get 4 49 (by kernel_rfl) rfl) ⟨rfl, rfl⟩
            · intro a ww jj vs c hj0 hΦ
              have hj : jj ≤ 0 := Nat.le_trans hj0 (of_decide_eq_true (by kernel_rfl))
              refine .inl ⟨Rel.wanted_free (by kernel_rfl) _, ?_⟩
              exact Chn.wp_fa _ _ _ rfl (c.get 5 50 (by kernel_rfl) rfl) (by simp [go_sem]) ⟨rfl, rfl⟩
            · intro a ww jj vs c hj0 hΦ
              have hj : jj ≤ 0 := Nat.le_trans hj0 (of_decide_eq_true (by kernel_rfl))
              refine .inl ⟨Rel.wanted_free (by kernel_rfl) _, ?_⟩
              exact Rel.wp_ld _ _ rfl (c.get 6 51 (by kernel_rfl) rfl) (by rw [ap_first hj hΦ]; exact run_ld_n (cell_keep (below_drew w5) HC5.out.2)) ⟨rfl, rfl⟩
            · intro a ww jj vs c hj0 hΦ
              have hj : jj ≤ 0 := Nat.le_trans hj0 (of_decide_eq_true (by kernel_rfl))
              refine .inl ⟨Rel.wanted_free (by kernel_rfl) _, ?_⟩
              exact Rel.wp_mv _ rfl ⟨congrArg (a.put _) (c.old 7 (v := .slice a3 n3 c3) (by kernel_rfl) (by kernel_rfl)), rfl⟩
            · refine ⟨0, rfl, ?_⟩
              intro a ww c hΦ
              have h : (phiAp w5 (PostWr D F p s nx (secsB ep (sq + 1) b) w5)) 0 [] ww := hΦ
              clear hΦ
              refine ⟨Rel.wanted_free (by kernel_rfl) _, ?_⟩
              have hw : ww = w5.drew := h
              subst hw
              refine Rel.wp_cl _ [.tmp 48, .tmp 52, .tmp 53] _ rfl Try.func36 (by kernel_rfl) ?_
              show Calls _ _ #[Rel.slot a 48, Rel.slot a 52, Rel.slot a 53] w5.drew _
              rw [c.get 3 48 (by kernel_rfl) rfl, c.get 7 52 (by kernel_rfl) rfl, c.get 8 53 (by kernel_rfl) rfl]
              refine (HWr.out w5.drew (below_drew w5)).mono ?_
              rintro e9 w9 ⟨v, rfl, hv⟩
              exact ⟨_, rfl, _, rfl, v, rfl, hv⟩
            · refine ⟨1, rfl, ?_⟩
              intro a ww c hΦ
              have h : (phiAp w5 (PostWr D F p s nx (secsB ep (sq + 1) b) w5)) 1 [Rel.slot a 54] ww := hΦ
              clear hΦ
              refine ⟨Rel.wanted_free (by kernel_rfl) _, ?_⟩
              obtain ⟨v, hv, hR⟩ := h
              injection hv with hv _
              obtain ⟨bo, t, rfl, hr⟩ := hR
              exact Chn.wp_uo (u := .bool (!bo)) _ _ _ rfl hv (by simp [go_sem]) ⟨_, rfl, (show phiAp w5 _ 2 [Rel.slot a 54, .bool (!bo)] ww from ⟨bo, by rw [hv], ⟨bo, t, rfl, hr⟩⟩)⟩
          intro a w9 hbase hroom hdef hΦ hV
          have h : (phiAp w5 (PostWr D F p s nx (secsB ep (sq + 1) b) w5)) 2 [Rel.slot a 54, Rel.slot a 55] w9 := hΦ
          rw [Chn.act_puts [45, 46, 47, 48, 49, 50, 51, 52, 53, 54, 55] hbase hroom hdef (by kernel_rfl)]
          clear hbase hroom hdef hΦ hV
          simp only [List.foldl_cons, List.foldl_nil]
          generalize Rel.slot a 45 = u45 at *
          generalize Rel.slot a 46 = u46 at *
          generalize Rel.slot a 47 = u47 at *
          generalize Rel.slot a 48 = u48 at *
          generalize Rel.slot a 49 = u49 at *
          generalize Rel.slot a 50 = u50 at *
          generalize Rel.slot a 51 = u51 at *
          generalize Rel.slot a 52 = u52 at *
          generalize Rel.slot a 53 = u53 at *
          generalize Rel.slot a 54 = u54 at *
          generalize Rel.slot a 55 = u55 at *
          simp only [Act.put, List.setIfInBounds_toArray, List.set_cons_succ, List.set_cons_zero]
          obtain ⟨bo, hv, bo', t, hbo, hr, hd, hC⟩ := h
          simp only [List.cons.injEq, and_true] at hv
          obtain ⟨hv1, hv2⟩ := hv
          injection hbo with hbo
          subst hv1 hbo
          have hv2' := hv2
          clear hv2
          have hjr9 : Jr w9 G pj p j := jr_chg (jr_keep HD.out.2.1 HW5.out.1) hC fun k hg hf => HD.out.2.2.2.2.1 k hf hg
          have hC09 : Chg F w w9 := chg_trans (new_chg HW5.out.1 F) hC fun x hx => .inl hx
          have hdm : D w9 (More F w w9) p t := hD.mono hd fun k hk => hk.imp id fun h => ⟨Nat.le_trans HW5.out.1.size h.1, h.2⟩
          have hnM : ¬ More F w w9 pj := fun hm => hm.elim (fun hf => HD.out.2.2.2.2.1 pj hf HD.out.2.1.2) fun h => by have := HD.out.2.2.2.1 pj HD.out.2.1.2; omega
          have hset : ∀ (bl : List Value) (jn : JS) (wz : World), encJ p jn = bl → Arr.Blk wz pj 61 bl → Chg (fun k => k = pj) w9 wz → D wz (More F w wz) p t ∧ Jr wz G pj p jn ∧ Chg (fun k => F k ∨ G k) w wz := fun bl jn wz he hb hz =>
            ⟨hD.mono (hD.chg hdm hz fun k hk e => hnM (e ▸ hk)) fun k hk => more_up hz.size hk, ⟨by rw [he]; exact hb, HD.out.2.1.2⟩, chg_trans (chg_mono hC09 fun k _ hk => .inl hk) hz fun x hx => .inl (.inr (by rw [hx]; exact HD.out.2.1.2))⟩
          have HSet := Lib.hid hset
          have H9 := Lib.hid hjr9
          have hc9 := jr_cells hjr9
          rcases hr with ⟨rfl, hput⟩ | ⟨rfl, hhalf⟩
          all_goals
            first
              | obtain rfl : u55 = .bool false := hv2'
              | obtain rfl : u55 = .bool true := hv2'
          · have q3 := hc9.c3
            have q4 := hc9.c4
            rw [← HEq.out.2.1] at q3
            rw [← HEq.out.2.2.1] at q4
            have f3 := Arr.blk_frozen hjr9.1 3
            have b3 := Arr.blk_set hjr9.1 3 (.int .i64 ((sq : Int) + 1))
            have g4 := Arr.blk_cell b3 4
            have f4 := Arr.blk_frozen b3 4
            have hz := chg_set (set_chg w9 pj 3 (.int .i64 ((sq : Int) + 1))) (.inl rfl) 4 (.int .i64 ((nx : Int) + K))
            have HX9 := Lib.hid (hset _ { j with seq := j.seq + 1, next := j.next + secs b.length } _ rfl (by have := Arr.blk_set b3 4 (.int .i64 ((nx : Int) + K)); rw [show ((encJ p j).set 3 (.int .i64 ((sq : Int) + 1))).set 4 (.int .i64 ((nx : Int) + K)) = encJ p { j with seq := j.seq + 1, next := j.next + secs b.length } by unfold encJ; rw [HEq.out.2.1, HEq.out.2.2.1, HK.out]; rfl] at this; exact this) hz)
            have HPu := Lib.hid hput
            have g4' : (w9.setCell ⟨pj, 3, none⟩ (.int .i64 ((sq : Int) + 1))).cell? ⟨pj, 4, none⟩ = some (.int .i64 (nx : Nat)) := by rw [g4, HEq.out.2.2.1]; rfl
            have HG := Lib.hid (And.intro g4' f4)
            clear hd hC hjr9 hC09 hdm hnM hset hc9 b3 g4 f4 hz hput g4' q4
            go_upto_region 14 with fail
            obtain ⟨w10, hw10⟩ : ∃ x, x = w9.setCell ⟨pj, 3, none⟩ (.int .i64 ((sq : Int) + 1)) := ⟨_, rfl⟩
            rw [← hw10]
            rw [← hw10] at HG HX9
            have g4 := HG.out.1
            have f4 := HG.out.2
            clear hw10 q3 f3
            go_wp2_with fail
            go_ret
            have hk := ApR.done (j := j) (s := s) (b := b) t HDn.out.1 HDn.out.2 HB.out HFu.out (by rw [← HEq.out.1, ← HEq.out.2.1, ← HEq.out.2.2.1]; exact HPu.out)
            first | exact ⟨0, _, t, rfl, hk, HX9.out.1, HX9.out.2.1, HX9.out.2.2⟩ | exact ⟨0, rfl, _, t, hk, HX9.out.1, HX9.out.2.1, HX9.out.2.2⟩
          · have q6 := hc9.c6
            rw [HDn.out.1] at q6
            have f6 := Arr.blk_frozen hjr9.1 6
            have HX9 := Lib.hid (hset _ { j with down := true } _ rfl (by have := Arr.blk_set hjr9.1 6 (.bool true); exact this) (set_chg w9 pj 6 (.bool true)))
            have HPu := Lib.hid hhalf
            clear hd hC hjr9 hC09 hdm hnM hset hc9 hhalf
            go_wp2_with fail
            go_ret
            have hk : ApR j s b 10 { j with down := true } t := .down t HDn.out.1 HDn.out.2 HB.out HFu.out (by rw [← HEq.out.1, ← HEq.out.2.1, ← HEq.out.2.2.1]; exact HPu.out)
            first | exact ⟨10, _, t, rfl, hk, HX9.out.1, HX9.out.2.1, HX9.out.2.2⟩ | exact ⟨10, rfl, _, t, hk, HX9.out.1, HX9.out.2.1, HX9.out.2.2⟩

/-! ### No journal -/

theorem jcommit_nil (w : World) : Calls Try.prog 14 #[.pointer none] w fun e w' => e = .returned (.int .i64 1) ∧ Below w.heap.size w w' := by
  go_enter Try.func14, Try.ntmps14
  go_wp2_with fail
  refine (jready_nil w).mono ?_
  rintro e w1 ⟨rfl, rfl⟩
  go_wp2_with fail
  go_ret
  exact ⟨rfl, Below.refl _ _⟩
theorem jappend_nil (aa : Option Addr) (len cap : Nat) (w : World) : Calls Try.prog 16 #[.pointer none, .slice aa len cap] w fun e w' => e = .returned (.int .i64 1) ∧ Below w.heap.size w w' := by
  go_enter Try.func16, Try.ntmps16
  go_wp2_with fail
  refine (jready_nil w).mono ?_
  rintro e w1 ⟨rfl, rfl⟩
  go_wp2_with fail
  go_ret
  exact ⟨rfl, Below.refl _ _⟩
theorem jckpt_nil (aa : Option Addr) (len cap : Nat) (w : World) : Calls Try.prog 15 #[.pointer none, .slice aa len cap] w fun e w' => e = .returned (.int .i64 1) ∧ Below w.heap.size w w' := by
  go_enter Try.func15, Try.ntmps15
  go_wp2_with fail
  go_ret
  exact ⟨rfl, Below.refl _ _⟩

/-- THE LANDED JOURNAL KEEPS ALL ITS CONTRACTS, over any disk that does as it should. -/
theorem journal_prog (hD : Dsk.Prog D) (hP : Frm.Prog) (hN : NilSize) : JProg D Jr where
  chg := jr_chg
  format := fun h hF h100 slot aa len cap b hs hA hl _ => jformat_any hD hP h hF slot hs aa len cap b hA hl
  formatArg := fun h slot aa len cap b hs _ hpo => jformat_arg hD h slot hs aa len cap hpo
  formatNil := fun slot aa len cap b w hs _ => jformat_nil hN slot hs aa len cap w
  opens := fun h hF h100 slot hs => jopen_any hD hP h hF h100 slot hs
  checkpoint := fun h hj hF hG hap h100 hok hsee aa len cap b hA hl _ => jckpt_any hD hP h hj hF hG hap h100 hok hsee aa len cap b hA hl
  append := fun h hj hF hG hap h100 hok aa len cap b hA hl _ => jappend_any hD hP h hj hF hG hap hok aa len cap b hA hl
  commit := fun h hj hF hG hap _ _ => jcommit_any hD h hj hF hG hap
  seq := jseq_any
  epoch := jepoch_any
  room := fun h hj _ hok => jroom_any hD h hj hok
  checkpointNil := fun aa len cap b w _ => jckpt_nil aa len cap w
  appendNil := fun aa len cap b w _ => jappend_nil aa len cap w
  commitNil := jcommit_nil
  seqNil := jseq_nil
  epochNil := jepoch_nil
  roomNil := jroom_nil
end Go.Proofs.Ytdgfoldobofgoaa.Jrn
/- Disk: the landed disk, as it lies in memory; its small calls. -/
namespace Go.Proofs.Ytdgfoldobofgoaa.Dsk
open Go.RowKit
open Go.Sort
open Kit
open Oct
open Foot
set_option linter.unusedVariables false

/-! ### Sectors, and cached sectors, as cells -/

def pad (l : Sec) : Sec := (l ++ List.replicate 32 0).take 32
theorem pad_len (l : Sec) : (pad l).length = 32 := by unfold pad; rw [List.length_take, List.length_append, List.length_replicate]; omega
theorem pad_is {l : Sec} (h : l.length = 32) : pad l = l := by unfold pad; rw [List.take_append_of_le_length (by omega), List.take_of_length_le (by omega)]
def encS (l : Sec) : List Value := cellsB (pad l)
theorem encS_len (l : Sec) : (encS l).length = 32 := by unfold encS; rw [cellsB_length, pad_len]
theorem encS_one (l : Sec) : ∀ u ∈ encS l, u.oneCell' = true := cellsB_one _
theorem encS_is {l : Sec} (h : l.length = 32) : encS l = cellsB l := by unfold encS; rw [pad_is h]
def encC (x : Nat × Sec) : List Value := .int .i64 (x.1 : Int) :: encS x.2
theorem encC_len (x : Nat × Sec) : (encC x).length = 33 := by unfold encC; rw [List.length_cons, encS_len]
theorem encC_one (x : Nat × Sec) : ∀ u ∈ encC x, u.oneCell' = true := by
  intro u hu
  rcases List.mem_cons.1 hu with rfl | hu
  · rfl
  · exact encS_one _ u hu
theorem info_sec : (Try.prog.info? 73).map (fun i => (i.zero, i.size, i.bytes)) = some (some (.agg (encS []).toArray), 32, 32) := by kernel_rfl
theorem info_cd : (Try.prog.info? 75).map (fun i => (i.zero, i.size, i.bytes)) = some (some (.agg (encC (0, [])).toArray), 33, 40) := by kernel_rfl
theorem ne_dk_sec : (50 : TypeId) ≠ 73 := by decide
theorem ne_dk_cd : (50 : TypeId) ≠ 75 := by decide
theorem ne_sec_cd : (73 : TypeId) ≠ 75 := by decide

/-! ### The disk in memory -/

def cacheOf (s : DS) : List (Nat × Sec) := s.order.map fun i => (i, s.now.getD i [])
theorem cacheOf_len (s : DS) : (cacheOf s).length = s.order.length := List.length_map ..
theorem cacheOf_at (s : DS) {k : Nat} (h : k < (cacheOf s).length) (h' : k < s.order.length) : (cacheOf s)[k] = (s.order[k], s.now.getD s.order[k] []) := by simp [cacheOf]

structure DkAt (w : World) (F : Nat → Prop) (p : Nat) (s : DS) (al ac : Option Addr) (cl cc : Nat) (fused : Bool) (left : Int) : Prop where
  blk : Arr.Blk w p 50 [.slice al s.good.length cl, .slice ac s.order.length cc, .bool fused, .int .i64 left]
  own : F p
  lown : Owns encS 32 73 w 0 (.slice al s.good.length cl) s.good
  lfoot : ∀ k, (Value.slice al s.good.length cl).ownBlock = some k → F k
  cown : Owns encC 33 75 w 0 (.slice ac s.order.length cc) (cacheOf s)
  cfoot : ∀ k, (Value.slice ac s.order.length cc).ownBlock = some k → F k
  ok : s.Ok
  fuse : s.fuse = cond fused left (-1)
  left0 : 0 ≤ left ∧ left ≤ 9223372036854775807
def Dk (w : World) (F : Nat → Prop) (p : Nat) (s : DS) : Prop := ∃ al ac cl cc fused left, DkAt w F p s al ac cl cc fused left

theorem dkat_mono {w : World} {F G : Nat → Prop} {p : Nat} {s : DS} {al ac : Option Addr} {cl cc : Nat} {fused : Bool} {left : Int} (r : DkAt w F p s al ac cl cc fused left) (hf : ∀ k, F k → G k) : DkAt w G p s al ac cl cc fused left :=
  ⟨r.blk, hf _ r.own, r.lown, fun k hk => hf k (r.lfoot k hk), r.cown, fun k hk => hf k (r.cfoot k hk), r.ok, r.fuse, r.left0⟩
theorem dkat_chg {w w' : World} {F G : Nat → Prop} {p : Nat} {s : DS} {al ac : Option Addr} {cl cc : Nat} {fused : Bool} {left : Int} (r : DkAt w F p s al ac cl cc fused left) (hc : Chg G w w') (ha : ∀ k, F k → ¬ G k) : DkAt w' F p s al ac cl cc fused left :=
  ⟨blk_chg hc r.blk (ha _ r.own), r.own, own_chg hc r.lown (fun g hg => ha g (r.lfoot g hg)), r.lfoot, own_chg hc r.cown (fun g hg => ha g (r.cfoot g hg)), r.cfoot, r.ok, r.fuse, r.left0⟩
theorem dk_mono {w : World} {F G : Nat → Prop} {p : Nat} {s : DS} (h : Dk w F p s) (hf : ∀ k, F k → G k) : Dk w G p s := by
  obtain ⟨al, ac, cl, cc, fu, left, r⟩ := h
  exact ⟨al, ac, cl, cc, fu, left, dkat_mono r hf⟩
theorem dk_chg {w w' : World} {F G : Nat → Prop} {p : Nat} {s : DS} (h : Dk w F p s) (hc : Chg G w w') (ha : ∀ k, F k → ¬ G k) : Dk w' F p s := by
  obtain ⟨al, ac, cl, cc, fu, left, r⟩ := h
  exact ⟨al, ac, cl, cc, fu, left, dkat_chg r hc ha⟩
theorem dk_ok {w : World} {F : Nat → Prop} {p : Nat} {s : DS} (h : Dk w F p s) : s.Ok := by obtain ⟨_, _, _, _, _, _, r⟩ := h; exact r.ok
theorem dk_keep {w w' : World} {F : Nat → Prop} {p : Nat} {s : DS} (h : Dk w F p s) (hb : Below w.heap.size w w') : Dk w' F p s := dk_chg h (new_chg hb (fun _ => False)) (fun _ _ => id)

/-! ### What a store into the disk's own cells leaves -/

theorem lown_dk {w : World} {v u : Value} {l : List Sec} {p i : Nat} {cs : List Value} (h : Owns encS 32 73 w 0 v l) (hp : Arr.Blk w p 50 cs) : Owns encS 32 73 (w.setCell ⟨p, i, none⟩ u) 0 v l :=
  own_typed h (set_chg w p i u) (typed_one hp ne_dk_sec)
theorem cown_dk {w : World} {v u : Value} {l : List (Nat × Sec)} {p i : Nat} {cs : List Value} (h : Owns encC 33 75 w 0 v l) (hp : Arr.Blk w p 50 cs) : Owns encC 33 75 (w.setCell ⟨p, i, none⟩ u) 0 v l :=
  own_typed h (set_chg w p i u) (typed_one hp ne_dk_cd)

/-! ### Small calls -/

theorem dsize_any {w : World} {F : Nat → Prop} {p : Nat} {s : DS} (h : Dk w F p s) : Calls Try.prog 22 #[.pointer (some ⟨p, 0, none⟩)] w fun e w' => e = .returned (.int .i64 s.good.length) ∧ w' = w := by
  obtain ⟨al, ac, cl, cc, fu, left, r⟩ := h
  have c0 := Arr.blk_cell r.blk 0
  simp only [List.getElem?_cons_zero] at c0
  clear r
  go_enter Try.func22, Try.ntmps22
  go_wp2
  go_ret
  exact ⟨rfl, rfl⟩
theorem dhas_any {w : World} {F : Nat → Prop} {p : Nat} {s : DS} (h : Dk w F p s) (i : Int) : Calls Try.prog 49 #[.pointer (some ⟨p, 0, none⟩), .int .i64 i] w fun e w' => e = .returned (.bool (decide (inR i s.good.length))) ∧ w' = w := by
  have HS := Lib.hid (dsize_any h)
  clear h
  by_cases h0 : 0 ≤ i
  · by_cases h1 : i < s.good.length
    · have hd : Hid (decide (inR i s.good.length) = true) := Lib.hid (decide_eq_true ⟨h0, h1⟩)
      go_enter Try.func49, Try.ntmps49
      go_wp2_with (first | (go_at_call 22; refine HS.out.mono ?_; rintro e w1 ⟨rfl, rfl⟩) | fail)
      go_ret
      exact ⟨by rw [hd.out]; first | rfl | exact ret_bool (decide_eq_false (by omega)), rfl⟩
    · have hd : Hid (decide (inR i s.good.length) = false) := Lib.hid (decide_eq_false (fun h => h1 h.2))
      go_enter Try.func49, Try.ntmps49
      go_wp2_with (first | (go_at_call 22; refine HS.out.mono ?_; rintro e w1 ⟨rfl, rfl⟩) | fail)
      go_ret
      exact ⟨by rw [hd.out]; first | rfl | exact ret_bool (decide_eq_false (by omega)), rfl⟩
  · have hd : Hid (decide (inR i s.good.length) = false) := Lib.hid (decide_eq_false (fun h => h0 h.1))
    go_enter Try.func49, Try.ntmps49
    go_wp2_with (first | (go_at_call 22; refine HS.out.mono ?_; rintro e w1 ⟨rfl, rfl⟩) | fail)
    go_ret
    exact ⟨by rw [hd.out]; first | rfl | exact ret_bool (decide_eq_false (by omega)), rfl⟩

/-- The fuse lets one more through, or not. -/
theorem dpasses_any {w : World} {F : Nat → Prop} {p : Nat} {s : DS} (h : Dk w F p s) :
    Calls Try.prog 39 #[.pointer (some ⟨p, 0, none⟩)] w fun e w' => e = .returned (.bool (!decide (s.fuse = 0))) ∧ Dk w' F p { s with fuse := burnt s.fuse } ∧ Chg F w w' ∧ w'.heap.size = w.heap.size := by
  obtain ⟨al, ac, cl, cc, fu, left, r⟩ := h
  have c2 := Arr.blk_cell r.blk 2
  have c3 := Arr.blk_cell r.blk 3
  have f3 := Arr.blk_frozen r.blk 3
  simp only [List.getElem?_cons_zero, List.getElem?_cons_succ] at c2 c3
  have hf := r.fuse
  have h0 := r.left0
  cases fu with
  | false =>
    have hf1 : s.fuse = -1 := hf
    have e1 : decide (s.fuse = 0) = false := decide_eq_false (by omega)
    have e2 : burnt s.fuse = s.fuse := by unfold burnt; rw [if_neg (by omega)]
    rw [e1, e2]
    have HR := Lib.hid r
    clear r
    go_enter Try.func39, Try.ntmps39
    go_wp2
    go_ret
    exact ⟨rfl, ⟨al, ac, cl, cc, false, left, HR.out⟩, chg_refl F w, rfl⟩
  | true =>
    have hf1 : s.fuse = left := hf
    by_cases hz : left = 0
    · subst hz
      have e1 : decide (s.fuse = 0) = true := decide_eq_true hf1
      have e2 : burnt s.fuse = s.fuse := by unfold burnt; rw [if_neg (by omega)]
      rw [e1, e2]
      have HR := Lib.hid r
      clear r hf hf1
      go_enter Try.func39, Try.ntmps39
      go_wp2
      go_ret
      exact ⟨rfl, ⟨al, ac, cl, cc, true, 0, HR.out⟩, chg_refl F w, rfl⟩
    · have e1 : decide (s.fuse = 0) = false := decide_eq_false (by omega)
      have e2 : burnt s.fuse = left - 1 := by unfold burnt; rw [if_pos (by omega), hf1]
      have hzb : (left == 0) = false := by rw [beq_eq_false_iff_ne]; exact hz
      rw [e1, e2]
      have hr : DkAt (w.setCell ⟨p, 3, none⟩ (.int .i64 (left - 1))) F p { s with fuse := left - 1 } al ac cl cc true (left - 1) :=
        ⟨Arr.blk_set r.blk 3 _, r.own, lown_dk r.lown r.blk, r.lfoot, cown_dk r.cown r.blk, r.cfoot, fuse_ok r.ok _, rfl, by omega, by omega⟩
      have HR := Lib.hid (And.intro hr (chg_set (chg_refl F w) (.inl r.own) 3 (.int .i64 (left - 1))))
      clear r hr hf hf1 e2
      go_enter Try.func39, Try.ntmps39
      go_wp2
      go_ret
      exact ⟨rfl, ⟨al, ac, cl, cc, true, left - 1, HR.out.1⟩, HR.out.2, setCell_size _ _ _⟩
theorem dfuse_any {w : World} {F : Nat → Prop} {p : Nat} {s : DS} (h : Dk w F p s) (n : Int) (hn : -9223372036854775808 ≤ n ∧ n ≤ 9223372036854775807) :
    Calls Try.prog 13 #[.pointer (some ⟨p, 0, none⟩), .int .i64 n] w fun e w' => e = .returned (.tuple #[]) ∧ Dk w' F p { s with fuse := nf n } ∧ Chg F w w' ∧ w'.heap.size = w.heap.size := by
  obtain ⟨al, ac, cl, cc, fu, left, r⟩ := h
  have c2 := Arr.blk_cell r.blk 2
  have c3 := Arr.blk_cell r.blk 3
  have f2 := Arr.blk_frozen r.blk 2
  have f3 := Arr.blk_frozen r.blk 3
  simp only [List.getElem?_cons_zero, List.getElem?_cons_succ] at c2 c3
  have step : ∀ (b : Bool) (m : Int), nf n = cond b m (-1) → 0 ≤ m ∧ m ≤ 9223372036854775807 →
      DkAt ((w.setCell ⟨p, 2, none⟩ (.bool b)).setCell ⟨p, 3, none⟩ (.int .i64 m)) F p { s with fuse := nf n } al ac cl cc b m ∧ Chg F w ((w.setCell ⟨p, 2, none⟩ (.bool b)).setCell ⟨p, 3, none⟩ (.int .i64 m)) := by
    intro b m hb hm
    have b1 := Arr.blk_set r.blk 2 (.bool b)
    exact ⟨⟨Arr.blk_set b1 3 (.int .i64 m), r.own, lown_dk (lown_dk r.lown r.blk) b1, r.lfoot, cown_dk (cown_dk r.cown r.blk) b1, r.cfoot, fuse_ok r.ok _, hb, hm⟩, chg_set (chg_set (chg_refl F w) (.inl r.own) 2 _) (.inl r.own) 3 _⟩
  by_cases hz : 0 ≤ n
  · have hm : (if n < 0 then (0 : Int) else n) = n := if_neg (by omega)
    have HS := Lib.hid (step true n (by unfold nf; rw [if_neg (by omega)]; rfl) ⟨hz, hn.2⟩)
    clear r step
    go_enter Try.func13, Try.ntmps13
    go_wp2
    go_end0
    exact ⟨rfl, ⟨al, ac, cl, cc, true, n, HS.out.1⟩, HS.out.2, by rw [setCell_size, setCell_size]⟩
  · have HS := Lib.hid (step false 0 (by unfold nf; rw [if_pos (by omega)]; rfl) ⟨by omega, by omega⟩)
    clear r step
    go_enter Try.func13, Try.ntmps13
    go_wp2
    go_end0
    exact ⟨rfl, ⟨al, ac, cl, cc, false, 0, HS.out.1⟩, HS.out.2, by rw [setCell_size, setCell_size]⟩

end Go.Proofs.Ytdgfoldobofgoaa.Dsk
/- Disk: the landed disk: New, and where in its cache a sector is. -/
namespace Go.Proofs.Ytdgfoldobofgoaa.Dsk
open Go.RowKit
open Go.Sort
open Kit
open Oct
open Foot
set_option linter.unusedVariables false

/-! ### New -/

theorem encS_zero : encS (List.replicate 32 0) = List.replicate 32 (Value.int .u8 0) := by kernel_rfl
theorem encS_nil : encS [] = List.replicate 32 (Value.int .u8 0) := by kernel_rfl
theorem flat_zeros : ∀ m : Nat, flat encS (List.replicate m (List.replicate 32 0)) = List.replicate (m * 32) (Value.int .u8 0)
  | 0 => rfl
  | m + 1 => by
    rw [List.replicate_succ]
    show encS _ ++ flat encS _ = _
    rw [flat_zeros m, encS_zero, List.replicate_append_replicate, Nat.add_mul, Nat.one_mul, Nat.add_comm]
theorem rep_at (n j : Nat) (v : Value) (h : 0 < n) : (List.replicate n v).toArray[j % (List.replicate n v).toArray.size]! = v := by
  have hj : j % (List.replicate n v).toArray.size < (List.replicate n v).toArray.size := Nat.mod_lt _ (by simpa using h)
  rw [getElem!_pos (List.replicate n v).toArray _ hj]
  simp
theorem made_secs (m : Nat) : (madeCells (encS []).toArray (m * 32)).toList = flat encS (List.replicate m (List.replicate 32 0)) := by
  rw [flat_zeros, encS_nil]
  apply List.eq_replicate_iff.2
  refine ⟨by simp [madeCells], fun v hv => ?_⟩
  simp only [madeCells, Array.toList_map, List.mem_map] at hv
  obtain ⟨j, _, rfl⟩ := hv
  exact rep_at _ _ _ (by decide)
theorem run_mksec (w : World) (z : Int) (m : Nat) (hz : z = (m : Int)) (hm : m ≤ 1024) : (Instr.makeSlice 47 (.int .i64 z) (.int .i64 z)).run Try.prog w = .ok (.slice (some ⟨w.heap.size, 0, none⟩) m m) (w.alloc (.cells (madeCells (encS []).toArray (m * 32)) 73)) := by
  subst hz
  obtain ⟨i0, hi, hz0, hz1, hz2⟩ := info_parts info_sec
  have := run_make (P := Try.prog) w 47 73 i0 (.agg (encS []).toArray) Try.underlying47 hi hz0 .i64 .i64 m m (by omega) (by omega) (by rw [hz2]; omega) (by omega)
  rw [hz1, Int.toNat_natCast] at this
  exact this
theorem own_secs (w : World) (m : Nat) (hm : m ≤ 1024) : Owns encS 32 73 (w.alloc (.cells (madeCells (encS []).toArray (m * 32)) 73)) 0 (.slice (some ⟨w.heap.size, 0, none⟩) m m) (List.replicate m (List.replicate 32 0)) := by
  refine ⟨by rw [flat_length encS_len], .inr ⟨_, m, _, by rw [List.length_replicate], Nat.zero_le _, heap_alloc_new w _, by rw [List.length_replicate]; exact Nat.le_refl _, by unfold maxLen; omega, size_madeCells _ _, ?_⟩⟩
  rw [made_secs, List.length_replicate, List.take_of_length_le]
  rw [flat_length encS_len, List.length_replicate]; exact Nat.le_refl _
abbrev newDk (w : World) (m : Nat) : World := (w.alloc (.cells (madeCells (encS []).toArray (m * 32)) 73)).alloc (.cells #[.slice (some ⟨w.heap.size, 0, none⟩) m m, .slice none 0 0, .bool false, .int .i64 0] 50)
theorem newDk_is (w : World) (n : Int) (m : Nat) (hm : m = if n < 1024 then n.toNat else 1024) : Dk (newDk w m) (More (fun _ => False) w (newDk w m)) (w.heap.size + 1) (DS.new n) ∧ Below w.heap.size w (newDk w m) := by
  have hm4 : m ≤ 1024 := by rw [hm]; split <;> omega
  have hg : (DS.new n).good = List.replicate m (List.replicate 32 0) := by rw [hm]; rfl
  have hl : (DS.new n).good.length = m := by rw [hg, List.length_replicate]
  have hb : Below w.heap.size w (newDk w m) := ((below_alloc w _).alloc (by simp) _)
  refine ⟨⟨some ⟨w.heap.size, 0, none⟩, none, m, 0, false, 0, ?_, ?_, ?_, ?_, owns_nil _ _ _, (fun k hk => by cases hk), new_ok n, rfl, by omega⟩, hb⟩
  · rw [hl]
    exact Arr.blk_new _ _ _ _ (by simp)
  · exact .inr ⟨by omega, by simp⟩
  · rw [hl, hg]
    exact owns_alloc (own_secs w m hm4) _
  · intro k hk
    injection hk with hk
    subst hk
    exact .inr ⟨Nat.le_refl _, by simp; omega⟩

theorem dnew_any (n : Int) (w : World) (h1 : -9223372036854775808 ≤ n) (h2 : n ≤ 9223372036854775807) :
    Calls Try.prog 7 #[.int .i64 n] w fun e w' => ∃ p, e = .returned (.pointer (some ⟨p, 0, none⟩)) ∧ Dk w' (More (fun _ => False) w w') p (DS.new n) ∧ Below w.heap.size w w' := by
  by_cases h0 : n < 0
  · have hmk := run_mksec w 0 0 rfl (by omega)
    have HN := Lib.hid (newDk_is w n 0 (by split <;> omega))
    go_enter Try.func7, Try.ntmps7
    go_wp2
    go_ret
    exact ⟨_, rfl, HN.out⟩
  · by_cases h3 : n ≤ 1024
    · obtain ⟨m, rfl⟩ : ∃ m : Nat, n = m := ⟨n.toNat, by omega⟩
      have hmk := run_mksec w m m rfl (by omega)
      have HN := Lib.hid (newDk_is w m m (by split <;> omega))
      go_enter Try.func7, Try.ntmps7
      go_wp2
      go_ret
      exact ⟨_, rfl, HN.out⟩
    · have hmk := run_mksec w 1024 1024 rfl (by omega)
      have HN := Lib.hid (newDk_is w n 1024 (by split <;> omega))
      go_enter Try.func7, Try.ntmps7
      go_wp2
      go_ret
      exact ⟨_, rfl, HN.out⟩

/-! ### Where a sector is cached -/

theorem dfind1_any {w : World} (x : Nat × Sec) (i : Int) (bx : Nat) (hb : w.cell? ⟨bx, 0, none⟩ = some (.int .i64 i)) :
    Calls Try.prog 62 #[.agg (encC x).toArray, .pointer (some ⟨bx, 0, none⟩)] w fun e w' => e = .returned (.bool ((x.1 : Int) == i)) ∧ Below w.heap.size w w' := by
  have c0 : (w.alloc (.cells (encC x).toArray 75)).cell? ⟨w.heap.size, 0, none⟩ = some (.int .i64 (x.1 : Int)) := by
    rw [World.cell?_alloc_new]
    rfl
  have c1 := cell_alloc hb (o := .cells (encC x).toArray 75)
  have HB := Lib.hid (below_alloc w (.cells (encC x).toArray 75))
  generalize (encC x).toArray = C at *
  go_enter Try.func62, Try.ntmps62
  go_wp2
  go_ret
  exact ⟨rfl, HB.out⟩
/-- Place j of the list l, or none. -/
def Found (l : List (Nat × Sec)) (i : Int) (j : Int) : Prop := (j = -1 ∧ ∀ x ∈ l, (x.1 : Int) ≠ i) ∨ ∃ k : Nat, ∃ h : k < l.length, j = k ∧ (l[k].1 : Int) = i
theorem run_ld_cd {w : World} {b o : Nat} {x : Nat × Sec} (h : w.rangeAt b o (encC x)) : (Instr.loadAt 75 (.pointer (some ⟨b, o, none⟩))).run Try.prog w = .ok (.agg (encC x).toArray) w :=
  run_loadAt_mid w b o _ _ _ h Try.underlying75 rfl (by rw [encC_len]; kernel_rfl)
theorem run_ld_sec {w : World} {b o : Nat} {l : Sec} (h : w.rangeAt b o (encS l)) : (Instr.loadAt 73 (.pointer (some ⟨b, o, none⟩))).run Try.prog w = .ok (.agg (encS l).toArray) w :=
  run_loadAt_mid w b o _ _ _ h Try.underlying73 rfl (by rw [encS_len]; kernel_rfl)
theorem row_range {α : Type} {enc : α → List Value} {size : Nat} (hs : ∀ x, (enc x).length = size) {w : World} {b o k : Nat} {l : List α} {x : α} (h : Kit.Row enc size w (some ⟨b, o, none⟩) l) (hk : k < l.length) (hx : l[k] = x) : w.rangeAt b (o + k * size) (enc x) := by
  intro j v hv
  have hj : j < size := by rw [← hs x]; exact (List.getElem?_eq_some_iff.1 hv).1
  rw [row_cell h hk hx hj]
  exact hv

set_option maxHeartbeats 1000000 in
theorem dindex_any {w : World} (aa : Option Addr) (len cap : Nat) (l : List (Nat × Sec)) (hl : l.length = len) (hm : len ≤ 9223372036854775807) (hE : Kit.Row encC 33 w aa l) (i : Int) (bx : Nat) (hb : w.cell? ⟨bx, 0, none⟩ = some (.int .i64 i)) :
    Calls Try.prog 61 #[.slice aa len cap, .func (.func 62) #[] #[.pointer (some ⟨bx, 0, none⟩)]] w fun e w' => ∃ j, e = .returned (.int .i64 j) ∧ Found l i j ∧ Below w.heap.size w w' := by
  subst hl
  have HE := Lib.hid hE
  have HB := Lib.hid hb
  clear hE hb
  go_enter Try.func61, Try.ntmps61
  go_wp2_with fail
  go_loopw [5, 8] (fun _ iv wx => ∃ k : Nat, k ≤ l.length ∧ iv = .int .i64 k ∧ Below w.heap.size w wx ∧ ∀ x ∈ l.take k, (x.1 : Int) ≠ i) (fun _ iv _ => l.length - (intOf iv).toNat)
  case atStart => exact ⟨0, Nat.zero_le _, rfl, Below.refl _ _, by simp⟩
  case round =>
    obtain ⟨k, hk, rfl, hbl, hno⟩ := hrel
    have HBl := Lib.hid hbl
    have HNo := Lib.hid hno
    by_cases hlt : k < l.length
    · obtain ⟨b, o, rfl⟩ := Kit.row_some HE.out (by omega)
      have hr := row_keep encC_len HE.out hbl
      have hrg := row_range encC_len hr hlt rfl
      have htk : l.take (k + 1) = l.take k ++ [l[k]] := List.take_succ_eq_append_getElem hlt
      have hmem : l[k] ∈ l := List.getElem_mem hlt
      have hfnd : (l[k].1 : Int) = i → Found l i k := fun h => .inr ⟨k, hlt, rfl, h⟩
      generalize l[k] = x at *
      have HTk := Lib.hid htk
      have HRg := Lib.hid hrg
      have HSz : Hid ((Try.prog.info? 75).map (·.size) = some (encC x).length) := Lib.hid (by rw [encC_len]; kernel_rfl)
      have HFd := Lib.hid hfnd
      have hC := dfind1_any x i bx (cell_keep hbl HB.out)
      have HC := Lib.hid hC
      clear hno hbl hr htk hfnd hC hmem hrg
      cases hq : ((x.1 : Int) == i) with
      | true =>
        have hqe := Lib.hid (beq_iff_eq.1 hq)
        have HQ := Lib.hid hq
        clear hq
        go_wp2_with (first | (refine wpList_load_mid rfl 75 (.tmp 14) rfl b (o + k * 33) rfl (encC x) _ HRg.out Try.underlying75 rfl HSz.out ?_) | (go_at_call 62; refine HC.out.mono ?_; rw [HQ.out]; rintro e w2 ⟨rfl, hb2⟩; have HB2 := Lib.hid (below_keep HBl.out hb2); clear hb2) | fail)
        go_ret
        exact ⟨_, rfl, HFd.out hqe.out, HB2.out⟩
      | false =>
        have hqe := Lib.hid (beq_eq_false_iff_ne.1 hq)
        have HQ := Lib.hid hq
        clear hq
        go_wp2_with (first | (refine wpList_load_mid rfl 75 (.tmp 14) rfl b (o + k * 33) rfl (encC x) _ HRg.out Try.underlying75 rfl HSz.out ?_) | (go_at_call 62; refine HC.out.mono ?_; rw [HQ.out]; rintro e w2 ⟨rfl, hb2⟩; have HB2 := Lib.hid (below_keep HBl.out hb2); clear hb2) | fail)
        go_roundw
        case rel =>
          refine ⟨k + 1, by omega, by go_num, HB2.out, ?_⟩
          rw [HTk.out]
          intro y hy
          rcases List.mem_append.1 hy with hy | hy
          · exact HNo.out y hy
          · simp at hy; subst hy; exact hqe.out
        case measure => simp [intOf]; omega
    · obtain rfl : k = l.length := by omega
      have HF : Hid (Found l i (-1)) := Lib.hid (.inl ⟨rfl, by rw [List.take_length] at hno; exact hno⟩)
      clear hno hbl
      go_wp2
      go_ret
      exact ⟨_, rfl, HF.out, HBl.out⟩

theorem dfind_any {w : World} {F : Nat → Prop} {p : Nat} {s : DS} (h : Dk w F p s) (i : Int) :
    Calls Try.prog 50 #[.pointer (some ⟨p, 0, none⟩), .int .i64 i] w fun e w' => ∃ j, e = .returned (.int .i64 j) ∧ Found (cacheOf s) i j ∧ Below w.heap.size w w' := by
  obtain ⟨al, ac, cl, cc, fu, left, r⟩ := h
  have c1 := Arr.blk_cell (blk_chg (new_chg (below_alloc w (.cells #[.int .i64 i] 3)) (fun _ => False)) r.blk id) 1
  simp only [List.getElem?_cons_zero, List.getElem?_cons_succ] at c1
  obtain ⟨a', c', hv, _, hcm, _, hrow⟩ := owns_row encC_len r.cown
  injection hv with hv1 hv2 hv3
  subst hv1
  have hok := r.ok
  have hol : s.order.length ≤ 9223372036854775807 := by rw [hv2]; unfold maxLen at hcm; omega
  have HI := Lib.hid (dindex_any ac s.order.length cc (cacheOf s) (cacheOf_len s) hol (row_keep encC_len hrow (below_alloc w (.cells #[.int .i64 i] 3))) i w.heap.size (World.cell?_alloc_new w _ _ 0))
  have hmf : ∀ (fn : Fn) (first cap : Array Value) (w : World), (Instr.makeFunc fn first cap).run Try.prog w = .ok (.func fn first cap) w := fun _ _ _ _ => rfl
  have HB := Lib.hid (below_alloc w (.cells #[.int .i64 i] 3))
  clear r hv2 hv3 hrow hok
  go_enter Try.func50, Try.ntmps50
  go_wp2_with (first | (go_at_call 61; refine HI.out.mono ?_; rintro e w2 ⟨j, rfl, hj, hb2⟩; have HJ := Lib.hid hj; have HB2 := Lib.hid (below_keep HB.out hb2); clear hj hb2) | fail)
  go_ret
  exact ⟨j, rfl, HJ.out, HB2.out⟩

end Go.Proofs.Ytdgfoldobofgoaa.Dsk
/- Disk: the landed disk: a write. -/
namespace Go.Proofs.Ytdgfoldobofgoaa.Dsk
open Go.RowKit
open Go.Sort
open Kit
open Oct
open Foot
set_option linter.unusedVariables false

/-! ### Cells that are laid over some of a list's -/

theorem splice_at {α : Type} {L cs : List α} {off : Nat} (h : off + cs.length ≤ L.length) (j : Nat) : (splice L off cs)[j]? = if j < off then L[j]? else if j < off + cs.length then cs[j - off]? else L[j]? := by
  unfold splice
  have h1 : (L.take off).length = off := by rw [List.length_take]; omega
  by_cases h2 : j < off
  · rw [if_pos h2, List.getElem?_append_left (by omega), List.getElem?_take_of_lt h2]
  · rw [if_neg h2, List.getElem?_append_right (by omega), h1]
    by_cases h3 : j < off + cs.length
    · rw [if_pos h3, List.getElem?_append_left (by omega)]
    · rw [if_neg h3, List.getElem?_append_right (by omega), List.getElem?_drop]
      congr 1; omega
/-- One element of a list of the call's own is changed in part. -/
theorem owns_splice {α : Type} {enc : α → List Value} {size : Nat} (hs : ∀ x, (enc x).length = size) (hz : 0 < size) {e : TypeId} {w : World} {base g n cap : Nat} {l : List α} (h : Owns enc size e w base (.slice (some ⟨g, 0, none⟩) n cap) l)
    {k : Nat} (hk : k < l.length) (o : Nat) (cs : List Value) (x' : α) (hfit : o + cs.length ≤ size) (hx : enc x' = splice (enc l[k]) o cs) :
    ∃ cur, w.heap[g]? = some (.cells cur e (0, 0)) ∧ k * size + o + cs.length ≤ cur.size ∧ Owns enc size e (w.setRow g (splice cur.toList (k * size + o) cs).toArray) base (.slice (some ⟨g, 0, none⟩) n cap) (l.set k x') := by
  obtain ⟨h1, h2⟩ := h
  rcases h2 with ⟨h2, _⟩ | ⟨g', cap', cur, h2, hb, hg, hn, hm, hc, ht⟩
  · cases h2
  injection h2 with h2 h3 h4
  injection h2 with h2
  injection h2 with h2
  subst h2 h3 h4
  have hfl := flat_length hs l
  have hmul : (k + 1) * size ≤ l.length * size := Nat.mul_le_mul_right _ (by omega)
  rw [Nat.add_mul, Nat.one_mul] at hmul
  have hcap : l.length * size ≤ cap * size := Nat.mul_le_mul_right _ hn
  have hcl : cur.toList.length = cap * size := by simpa using hc
  have hin : k * size + o + cs.length ≤ cur.toList.length := by omega
  refine ⟨cur, hg, by rw [hc]; omega, by rw [flat_length hs], .inr ⟨g, cap, _, by rw [List.length_set], hb, setRow_heap w g _ _ _ _ hg, by rw [List.length_set]; exact hn, hm, ?_, ?_⟩⟩
  · show (splice cur.toList _ cs).length = _
    rw [length_splice _ _ _ hin, hcl]
  · rw [List.length_set]
    apply List.ext_getElem?
    intro j
    by_cases hj : j < l.length * size
    · rw [List.getElem?_take_of_lt hj]
      show (splice cur.toList _ cs)[j]? = _
      rw [splice_at hin]
      have hq : j / size < l.length := by rw [Nat.div_lt_iff_lt_mul hz]; exact hj
      have hr := Nat.mod_lt j hz
      have hjq : j / size * size + j % size = j := by rw [Nat.mul_comm]; exact Nat.div_add_mod j size
      have hset := flat_at hs (l.set k x') (j / size) (by rw [List.length_set]; exact hq) (j % size) hr
      have hold := flat_at hs l (j / size) hq (j % size) hr
      rw [hjq] at hset hold
      have hcur : cur.toList[j]? = (flat enc l)[j]? := by rw [← ht, List.getElem?_take_of_lt hj]
      rw [hset]
      by_cases hkq : k = j / size
      · subst hkq
        rw [List.getElem_set_self, hx, splice_at (by rw [hs]; exact hfit)]
        rw [hold] at hcur
        rw [hcur]
        generalize j / size * size = m at *
        by_cases ha : j < m + o
        · rw [if_pos ha, if_pos (show j % size < o by omega)]
        · rw [if_neg ha, if_neg (show ¬ j % size < o by omega)]
          by_cases hb : j < m + o + cs.length
          · rw [if_pos hb, if_pos (show j % size < o + cs.length by omega)]
            congr 1; omega
          · rw [if_neg hb, if_neg (show ¬ j % size < o + cs.length by omega)]
      · rw [List.getElem_set_ne hkq]
        rw [hold] at hcur
        rw [← hcur]
        have hne : j < k * size ∨ k * size + size ≤ j := by
          rcases Nat.lt_or_gt_of_ne hkq with h5 | h5
          · have : (k + 1) * size ≤ j / size * size := Nat.mul_le_mul_right _ h5
            rw [Nat.add_mul, Nat.one_mul] at this
            omega
          · have : (j / size + 1) * size ≤ k * size := Nat.mul_le_mul_right _ h5
            rw [Nat.add_mul, Nat.one_mul] at this
            omega
        by_cases ha : j < k * size + o
        · rw [if_pos ha]
        · rw [if_neg ha, if_neg (by omega)]
    · rw [List.getElem?_eq_none (by rw [List.length_take]; omega), List.getElem?_eq_none (by rw [flat_length hs, List.length_set]; omega)]

/-- 'copy' onto bytes in a block: the world behind it by name. -/
theorem wpList_copy_hid {P : Program} {w : World} {ops : Array Oper} {rest : List Oper} {o : Oper} {a : Act} {Q : Exit → Act → World → Prop} (hgd : o.guard = none) (d s : Operand) (dT sT : TypeId)
    (ho : o.op = .call { callee := .builtin .copy, args := #[d, s], argTypes := #[dT, sT] }) (elem : TypeId) (hu : P.underlying dT = some (.slice elem)) (hsz : (P.info? elem).map (·.size) = some 1)
    (g off dLen dCap : Nat) (ad : Addr) (sLen sCap : Nat) (hd : a.eval d = .slice (some ⟨g, off, none⟩) dLen dCap) (hs : a.eval s = .slice (some ad) sLen sCap)
    (cur : Array Value) (t : TypeId) (hg : w.heap[g]? = some (.cells cur t (0, 0))) (cs : List Value) (hn : cs.length = Nat.min sLen dLen)
    (hsrc : ∀ j v, cs[j]? = some v → w.cell? (ad.add j) = some v) (hfit : off + cs.length ≤ cur.size) (h1 : ∀ v ∈ cs, v.oneCell' = true)
    (h : ∀ w', Hid (w' = w.setRow g (splice cur.toList off cs).toArray) → wpList P ops Q rest (a.put o.dst (goInt cs.length)) w') : wpList P ops Q (o :: rest) a w :=
  wpList_copy_own hgd d s dT sT ho elem hu hsz g off dLen dCap ad sLen sCap hd hs cur t hg cs hn hsrc hfit h1 (h _ rfl)
theorem size_u8 : (Try.prog.info? 5).map (·.size) = some 1 := by kernel_rfl

/-! ### The disk in memory, whatever is cached -/

structure DkM (w : World) (F : Nat → Prop) (p : Nat) (good : List Sec) (cache : List (Nat × Sec)) (al ac : Option Addr) (cl cc : Nat) (fused : Bool) (left : Int) : Prop where
  blk : Arr.Blk w p 50 [.slice al good.length cl, .slice ac cache.length cc, .bool fused, .int .i64 left]
  own : F p
  lown : Owns encS 32 73 w 0 (.slice al good.length cl) good
  lfoot : ∀ k, (Value.slice al good.length cl).ownBlock = some k → F k
  cown : Owns encC 33 75 w 0 (.slice ac cache.length cc) cache
  cfoot : ∀ k, (Value.slice ac cache.length cc).ownBlock = some k → F k
variable {w w' : World} {F G : Nat → Prop} {p cl cc : Nat} {good : List Sec} {cache : List (Nat × Sec)} {al ac : Option Addr} {fu : Bool} {left : Int} {s : DS}
theorem dkm_of (r : DkAt w F p s al ac cl cc fu left) : DkM w F p s.good (cacheOf s) al ac cl cc fu left := by
  obtain ⟨h1, h2, h3, h4, h5, h6, _, _, _⟩ := r
  rw [← cacheOf_len s] at h1 h5 h6
  exact ⟨h1, h2, h3, h4, h5, h6⟩
theorem dkm_at (h : DkM w F p s.good (cacheOf s) al ac cl cc fu left) (ok : s.Ok) (hf : s.fuse = cond fu left (-1)) (h0 : 0 ≤ left ∧ left ≤ 9223372036854775807) : DkAt w F p s al ac cl cc fu left := by
  obtain ⟨h1, h2, h3, h4, h5, h6⟩ := h
  rw [cacheOf_len s] at h1 h5 h6
  exact ⟨h1, h2, h3, h4, h5, h6, ok, hf, h0⟩
theorem dkm_mono (r : DkM w F p good cache al ac cl cc fu left) (hf : ∀ k, F k → G k) : DkM w G p good cache al ac cl cc fu left :=
  ⟨r.blk, hf _ r.own, r.lown, fun k hk => hf k (r.lfoot k hk), r.cown, fun k hk => hf k (r.cfoot k hk)⟩
theorem dkm_chg (r : DkM w F p good cache al ac cl cc fu left) (hc : Chg G w w') (ha : ∀ k, F k → ¬ G k) : DkM w' F p good cache al ac cl cc fu left :=
  ⟨blk_chg hc r.blk (ha _ r.own), r.own, own_chg hc r.lown (fun g hg => ha g (r.lfoot g hg)), r.lfoot, own_chg hc r.cown (fun g hg => ha g (r.cfoot g hg)), r.cfoot⟩
theorem dkm_keep (r : DkM w F p good cache al ac cl cc fu left) (hb : Below w.heap.size w w') : DkM w' F p good cache al ac cl cc fu left := dkm_chg r (new_chg hb (fun _ => False)) (fun _ _ => id)
theorem row_chgF (w : World) (b : Nat) (ds : Array Value) : Chg (fun k => k = b) w (w.setRow b ds) := chg_row (F := fun k => k = b) (chg_refl _ w) (.inl rfl) ds
theorem encC_splice {q : Nat} {old l : Sec} (hl : l.length = 32) : encC (q, l) = splice (encC (q, old)) 1 (cellsB l) := by
  unfold splice
  rw [cellsB_length, hl, List.drop_of_length_le (by rw [encC_len]; exact Nat.le_refl _), List.append_nil]
  show _ :: encS l = [_] ++ cellsB l
  rw [encS_is hl]; rfl
/-- Cached sector k is l. -/
theorem dkm_copy (r : DkM w F p good cache al ac cl cc fu left) {k q : Nat} (hk : k < cache.length) (hq : cache[k].1 = q) {l : Sec} (hl : l.length = 32) :
    ∃ b cur, ac = some ⟨b, 0, none⟩ ∧ F b ∧ w.heap[b]? = some (.cells cur 75 (0, 0)) ∧ k * 33 + 1 + 32 ≤ cur.size ∧
      ∀ w', w' = w.setRow b (splice cur.toList (k * 33 + 1) (cellsB l)).toArray → DkM w' F p good (cache.set k (q, l)) al ac cl cc fu left ∧ Chg F w w' := by
  obtain ⟨b, rfl, _, _, _⟩ := own_at encC_len r.cown (by omega)
  have hF := r.cfoot b rfl
  have hxe : encC (q, l) = splice (encC cache[k]) 1 (cellsB l) := by
    generalize cache[k] = y at hq
    subst hq
    exact encC_splice hl
  obtain ⟨cur, hcur, hsz, ho⟩ := owns_splice encC_len (by omega) r.cown hk 1 (cellsB l) (q, l) (by rw [cellsB_length, hl]; exact Nat.le_refl _) hxe
  rw [cellsB_length, hl] at hsz
  refine ⟨b, cur, rfl, hF, hcur, hsz, fun w' hw' => ?_⟩
  subst hw'
  have hc := row_chgF w b (splice cur.toList (k * 33 + 1) (cellsB l)).toArray
  refine ⟨⟨?_, r.own, own_typed r.lown hc (typed_one hcur (Ne.symm ne_sec_cd)), r.lfoot, ?_, ?_⟩, chg_row (chg_refl F w) (.inl hF) _⟩
  · rw [List.length_set]
    exact blk_chg hc r.blk fun e => by
      have := r.blk
      unfold Arr.Blk at this
      rw [e, hcur] at this
      injection this with this
      injection this with _ h2 _
      exact ne_dk_cd h2.symm
  · rw [List.length_set]; exact ho
  · rw [List.length_set]; exact r.cfoot
/-- One more is cached. -/
theorem dkm_append {wa w9 : World} {v9 : Value} {x : Nat × Sec} (r : DkM wa F p good cache al ac cl cc fu left) (hF : ∀ k, F k → k < wa.heap.size) (ho : Owns encC 33 75 w9 0 v9 (cache ++ [x])) (hg : wa.grownBy w9 (Value.slice ac cache.length cc).ownBlock) (hw : v9.ownBlock = (Value.slice ac cache.length cc).ownBlock ∨ v9.ownBlock = some wa.heap.size) :
    ∃ b9 c9, v9 = .slice (some ⟨b9, 0, none⟩) (cache.length + 1) c9 ∧ (w9.cell? ⟨p, 1, none⟩ = some (.slice ac cache.length cc) ∧ w9.frozen? ⟨p, 1, none⟩ = false) ∧
      DkM (w9.setCell ⟨p, 1, none⟩ (.slice (some ⟨b9, 0, none⟩) (cache.length + 1) c9)) (More F wa w9) p good (cache ++ [x]) al (some ⟨b9, 0, none⟩) cl c9 fu left ∧ Chg F wa (w9.setCell ⟨p, 1, none⟩ (.slice (some ⟨b9, 0, none⟩) (cache.length + 1) c9)) := by
  obtain ⟨a9, c9, rfl, _, _, _, _⟩ := owns_row encC_len ho
  obtain ⟨b9, rfl, _, _, _⟩ := own_at encC_len ho (by simp)
  have hl : (cache ++ [x]).length = cache.length + 1 := by simp
  rw [hl] at ho hw
  have c3 := grown_chg hg
  have b3 := blk_typed r.blk c3 (typed_own r.cown (Ne.symm ne_dk_cd))
  have l3 := own_typed r.lown c3 (typed_own r.cown (Ne.symm ne_sec_cd))
  have hC : Chg F wa w9 := chg_trans (chg_refl F wa) c3 fun k hk => .inl (r.cfoot k hk.symm)
  have b4 := Arr.blk_set b3 1 (.slice (some ⟨b9, 0, none⟩) (cache.length + 1) c9)
  refine ⟨b9, c9, by rw [hl], ⟨Arr.blk_cell b3 1, Arr.blk_frozen b3 1⟩, ⟨?_, more_old r.own, lown_dk l3 b3, fun k hk => more_old (r.lfoot k hk), ?_, ?_⟩, chg_set hC (.inl r.own) _ _⟩
  · rw [hl]; exact b4
  · rw [hl]; exact cown_dk ho b3
  · intro k hk
    rcases hw with hw | hw
    · exact more_old (r.cfoot k (by rw [← hw]; exact hk))
    · rw [show (Value.slice (some ⟨b9, 0, none⟩) (cache.length + 1) c9).ownBlock = some b9 from rfl] at hw
      injection hw with hw
      injection hk with hk
      subst hk
      have hlt : b9 < w9.heap.size := (World.ownsRow.lt ho b9 rfl).2
      replace hw : b9 = wa.heap.size := hw
      have := hg.size
      show More F wa w9 b9
      exact more_new (by omega) hlt

/-! ### What is cached, in words of a disk -/

theorem cacheOf_in (ok : s.Ok) {k q : Nat} (hk : k < s.order.length) (hq : s.order[k] = q) (l : Sec) (f : Int) : cacheOf { s with now := s.now.set q l, fuse := f } = (cacheOf s).set k (q, l) := by
  subst hq
  have hqn : s.order[k] < s.now.length := by rw [ok.len]; exact ok.ordLt _ (List.getElem_mem hk)
  apply List.ext_getElem
  · rw [List.length_set, cacheOf_len, cacheOf_len]
  · intro j h1 h2
    rw [cacheOf_len] at h1
    have h1' : j < s.order.length := h1
    rw [cacheOf_at _ (by rw [cacheOf_len]; exact h1) h1, List.getElem_set]
    by_cases hj : k = j
    · subst hj
      rw [if_pos rfl]
      show (s.order[k], (s.now.set s.order[k] l).getD s.order[k] []) = _
      rw [List.getD, List.getElem?_set_self hqn]; rfl
    · rw [if_neg hj, cacheOf_at _ (by rw [cacheOf_len]; exact h1') h1']
      show (s.order[j], (s.now.set s.order[k] l).getD s.order[j] []) = _
      have hne : s.order[k] ≠ s.order[j] := fun e => hj ((List.getElem_inj ok.nodup).1 e)
      rw [List.getD, List.getElem?_set_ne hne]; rfl
theorem cacheOf_new (ok : s.Ok) {q : Nat} (hq : q < s.good.length) (hn : q ∉ s.order) (l : Sec) (f : Int) : cacheOf { s with now := s.now.set q l, order := s.order ++ [q], fuse := f } = cacheOf s ++ [(q, l)] := by
  have hqn : q < s.now.length := by rw [ok.len]; exact hq
  unfold cacheOf
  simp only [List.map_append, List.map_cons, List.map_nil]
  congr 1
  · apply List.map_congr_left
    intro j hj
    have hne : q ≠ j := fun e => hn (e ▸ hj)
    rw [List.getD, List.getElem?_set_ne hne]; rfl
  · rw [List.getD, List.getElem?_set_self hqn]; rfl
theorem found_none {q : Nat} (h : ∀ x ∈ cacheOf s, (x.1 : Int) ≠ (q : Int)) : q ∉ s.order := fun hm => h (q, s.now.getD q []) (List.mem_map.2 ⟨q, hm, rfl⟩) rfl
theorem found_some {q k : Nat} (hk : k < (cacheOf s).length) (h : (((cacheOf s)[k].1 : Nat) : Int) = (q : Int)) : ∃ h' : k < s.order.length, s.order[k] = q := by
  have h' : k < s.order.length := by rw [← cacheOf_len s]; exact hk
  refine ⟨h', ?_⟩
  rw [cacheOf_at s hk h'] at h
  exact Int.natCast_inj.1 h
theorem nodup_le : ∀ (n : Nat) (l : List Nat), l.Nodup → (∀ i ∈ l, i < n) → l.length ≤ n
  | 0, l, _, h => by
    cases l with
    | nil => exact Nat.le_refl _
    | cons x l => exact absurd (h x (by simp)) (by omega)
  | n + 1, l, hd, h => by
    have h1 := nodup_le n (l.erase n) (hd.erase n) fun i hi => by
      obtain ⟨h2, h3⟩ := (hd.mem_erase_iff).1 hi
      have := h i h3; omega
    rw [List.length_erase] at h1
    split at h1 <;> omega
theorem order_le (ok : s.Ok) : s.order.length ≤ 1024 := by
  have h1 := ok.small
  have h2 : s.order.length ≤ s.good.length := nodup_le _ s.order ok.nodup ok.ordLt
  omega

/-! ### Write -/

theorem row_chg' {ad : Addr} {l : List UInt8} (hr : RowB w (some ad) l) (hA : ¬ F ad.block) (hF : ∀ k, F k → k < w.heap.size) (hC : Chg F w w') : RowB w' (some ad) l := by
  rcases hr with e | ⟨b, o, e, h⟩
  · exact .inl e
  · injection e with e
    subst e
    exact row_chg encB_len hC (.inr ⟨b, o, rfl, h⟩) hA


set_option maxHeartbeats 2000000 in
theorem dwrite_any (h : Dk w F p s) (hF : ∀ k, F k → k < w.heap.size) (i : Int) (aa : Option Addr) (len cp : Nat) (l : Sec) (hi : -9223372036854775808 ≤ i ∧ i ≤ 9223372036854775807) (hl : l.length = len) (hlc : len ≤ cp) (hcm : cp ≤ maxLen) (hn : aa = none → len = 0 ∧ cp = 0) (hE : RowB w aa l) (hA : ∀ q, aa = some q → ¬ F q.block) :
    Calls Try.prog 45 #[.pointer (some ⟨p, 0, none⟩), .int .i64 i, .slice aa len cp] w fun e w' => e = .returned (.int .i64 (s.write i l).1) ∧ Dk w' (More F w w') p (s.write i l).2 ∧ Chg F w w' := by
  have hH := dhas_any h i
  have hmx : len ≤ 9223372036854775807 := by unfold maxLen at hcm; omega
  by_cases h1 : inR i s.good.length
  · rw [decide_eq_true h1] at hH
    have HH := Lib.hid hH
    clear hH
    by_cases h2 : l.length = 32
    · have hlen : len = 32 := by rw [← hl]; exact h2
      subst hlen
      have HP := Lib.hid (dpasses_any h)
      by_cases h0 : s.fuse = 0
      · have hw : s.write i l = (10, s) := by
          unfold DS.write
          rw [if_neg (by simp only [Decidable.not_not]; exact ⟨h1, h2⟩), if_pos h0]
        have HW := Lib.hid hw
        have hb : ({ s with fuse := burnt s.fuse } : DS) = s := by
          have : burnt s.fuse = s.fuse := by rw [h0]; rfl
          rw [this]
        have HB := Lib.hid hb
        have HZ := Lib.hid (decide_eq_true h0)
        clear hw hb h1 h0 h
        go_enter Try.func45, Try.ntmps45
        go_wp2_with (first
          | (go_at_call 49; refine HH.out.mono ?_; rintro e w0 ⟨rfl, h0⟩; replace h0 := h0.symm; subst h0)
          | (go_at_call 39; refine HP.out.mono ?_; rw [HZ.out, HB.out]; rintro e w1 ⟨rfl, hd, hC, hz⟩; have HD := Lib.hid (And.intro hd hC); clear hd hC hz)
          | fail)
        go_ret
        exact ⟨by rw [HW.out]; rfl, by rw [HW.out]; exact dk_mono HD.out.1 (fun _ => more_old), HD.out.2⟩
      · have hd0 := decide_eq_false h0
        have HZ := Lib.hid hd0
        obtain ⟨q, rfl⟩ : ∃ q : Nat, i = q := ⟨i.toNat, by have := h1.1; omega⟩
        have hqg : q < s.good.length := by have := h1.2; omega
        have hok := dk_ok h
        obtain ⟨S2, hS2⟩ : ∃ S2 : DS, S2 = { s with now := s.now.set q l, order := if q ∈ s.order then s.order else s.order ++ [q], fuse := burnt s.fuse } := ⟨_, rfl⟩
        have hwr : s.write q l = (0, S2) := by
          unfold DS.write
          rw [if_neg (by simp only [Decidable.not_not]; exact ⟨h1, h2⟩), if_neg h0, Int.toNat_natCast, hS2]
        have HS2 := Lib.hid hS2
        have hok2 := write_ok hok q l
        rw [hwr] at hok2 ⊢
        obtain ⟨ad, rfl⟩ : ∃ ad, aa = some ad := by
          cases aa with
          | none => have := (hn rfl).1; omega
          | some ad => exact ⟨ad, rfl⟩
        have HO := Lib.hid (And.intro hok hok2)
        have HR := Lib.hid (And.intro hE (hA ad rfl))
        have HF := Lib.hid hF
        have HQ := Lib.hid hqg
        have HL := Lib.hid (And.intro h2 (order_le hok))
        clear hok hok2 hE hA hF hqg hwr hn h1 h0 hd0 h hS2
        go_enter Try.func45, Try.ntmps45
        go_wp2_with (first
          | (go_at_call 49; refine HH.out.mono ?_; rintro e w0 ⟨rfl, h0⟩; replace h0 := h0.symm; subst h0)
          | (go_at_call 39; refine HP.out.mono ?_; rw [HZ.out]; rintro e w1 ⟨rfl, hd, hC, hz⟩; have HD := Lib.hid (And.intro hd (And.intro hC hz)); clear hd hC hz)
          | fail)
        refine (dfind_any HD.out.1 q).mono ?_
        rintro e w2 ⟨j, rfl, hj, hb2⟩
        have hj' : Found (cacheOf s) q j := hj
        have hd2 := dk_keep HD.out.1 hb2
        obtain ⟨al, ac, cl, cc, fu, left, r⟩ := hd2
        have rm := dkm_of r
        have hC2 : Chg F w w2 := chg_trans HD.out.2.1 (new_chg hb2 F) fun _ h => .inl h
        have hfl : burnt s.fuse = cond fu left (-1) := r.fuse
        have hl0 := r.left0
        have HC2 := Lib.hid (And.intro hC2 (And.intro hfl hl0))
        have HX := Lib.hid r.ok
        rw [show (cacheOf { s with fuse := burnt s.fuse }) = cacheOf s from rfl, show ({ s with fuse := burnt s.fuse } : DS).good = s.good from rfl] at rm
        have hrow2 : RowB w2 (some ad) l := by
          rcases HR.out.1 with e | ⟨b, o, e, h⟩
          · exact .inl e
          · injection e with e
            subst e
            exact row_chg encB_len hC2 (.inr ⟨b, o, rfl, h⟩) HR.out.2
        clear r hj hb2 hC2 hfl hl0
        rcases hj' with ⟨rfl, hno⟩ | ⟨k, hk, rfl, hkq⟩
        · have hnm := found_none hno
          have c1 := Arr.blk_cell rm.blk 1
          simp only [List.getElem?_cons_zero, List.getElem?_cons_succ] at c1
          have hown := owns_alloc rm.cown (.cells (encC (q, [])).toArray 75)
          have ra := dkm_keep rm (below_alloc w2 (.cells (encC (q, [])).toArray 75))
          have hb2 := below_alloc w2 (.cells (encC (q, [])).toArray 75)
          have hFa : ∀ k, F k → k < (w2.alloc (.cells (encC (q, [])).toArray 75)).heap.size := fun k hk => Nat.lt_of_lt_of_le (HF.out k hk) (Nat.le_trans HC2.out.1.size hb2.size)
          have hrowa := row_keep encB_len hrow2 hb2
          have hCa : Chg F w (w2.alloc (.cells (encC (q, [])).toArray 75)) := chg_trans HC2.out.1 (new_chg hb2 F) fun _ h => .inl h
          have hcl := cacheOf_len s
          have hcl4 : (cacheOf s).length ≤ 1024 := by rw [hcl]; exact HL.out.2
          have HNm := Lib.hid hnm
          have HA := Lib.hid (And.intro hown (And.intro ra (And.intro hFa (And.intro hrowa hCa))))
          have HCl := Lib.hid (And.intro hcl hcl4)
          have c1a := cell_alloc c1 (o := .cells (encC (q, [])).toArray 75)
          clear hno hnm hown ra hFa hrowa hCa hb2 rm hrow2 hcl hcl4
          go_wp2_with (first
            | (at_builtin; refine Two.append_apart encC_len (by omega) encC_one rfl (.tmp 34) (.tmp 37) 48 75 rfl Try.underlying48 (.agg (encC (0, [])).toArray) 40 info_cd (by simp [Value.cells, encC_len]) 0 (.slice ac (cacheOf s).length cc) (cacheOf s) rfl HA.out.1 (some ⟨w2.heap.size, 0, none⟩) 1 1 [(q, [])] rfl rfl (Kit.row_new encC_len w2 [(q, [])] _ _ _ rfl rfl) (fun h => by cases h) (by have := HCl.out.2; unfold maxLen; omega) (by have := HCl.out.2; omega) (Nat.zero_le _) ?_; intro v9 w9 ho9 hg9 hw9
               obtain ⟨b9, c9, rfl, ⟨p1, f1⟩, r9, hC9⟩ := dkm_append HA.out.2.1 HA.out.2.2.1 ho9 hg9 hw9
               have hrow9 := row_chg' HA.out.2.2.2.1 (HR.out.2) (HA.out.2.2.1) hC9
               obtain ⟨b, cur, hbe, hFb, hcur, hsz, hcp⟩ := dkm_copy r9 (k := (cacheOf s).length) (q := q) (by simp) (by simp) HL.out.1
               obtain rfl : b9 = b := by injection hbe with hbe; injection hbe
               have hCw := chg_trans HA.out.2.2.2.2 hC9 fun _ h => .inl h
               have HCp := Lib.hid (And.intro hcp (And.intro hcur (And.intro hsz (And.intro hbe hCw))))
               have HRw := Lib.hid (row_cells hrow9 ad rfl)
               clear ho9 hg9 hw9 r9 hC9 hrow9 hcp hcur hsz hbe hFb hCw)
            | (refine wpList_copy_hid rfl (.tmp 48) (.tmp 49) 27 27 rfl 5 Try.underlying27 size_u8 b9 ((cacheOf s).length * 33 + 1) 32 32 ad 32 cp rfl rfl cur 75 HCp.out.2.1 (cellsB l) (by rw [cellsB_length, HL.out.1]; rfl) HRw.out (by rw [cellsB_length, HL.out.1]; exact HCp.out.2.2.1) (cellsB_one l) ?_; intro w10 hw10; have H10 := Lib.hid (HCp.out.1 w10 hw10.out); clear hw10)
            | fail)
          go_ret
          have h10 := H10.out
          have hs2 := HS2.out
          rw [if_neg HNm.out] at hs2
          have hset : (cacheOf s ++ [(q, [])]).set (cacheOf s).length (q, l) = cacheOf s ++ [(q, l)] := by simp
          rw [hset, ← cacheOf_new HO.out.1 HQ.out HNm.out l (burnt s.fuse), ← hs2] at h10
          rw [show s.good = S2.good by rw [hs2]] at h10
          have hCa := HA.out.2.2.2.2
          have hCw := HCp.out.2.2.2.2
          have hsz : w9.heap.size ≤ w10.heap.size := by have := h10.2.size; rw [setCell_size] at this; exact this
          have hC : Chg F w w10 := chg_trans hCw h10.2 fun x hx => hx.imp id fun h => Nat.le_trans hCa.size h.1
          refine ⟨rfl, ⟨al, _, cl, c9, fu, left, dkm_at (dkm_mono h10.1 fun x hx => hx.imp id fun h => ⟨Nat.le_trans hCa.size h.1, Nat.lt_of_lt_of_le h.2 hsz⟩) HO.out.2 (by rw [hs2]; exact HC2.out.2.1) HC2.out.2.2⟩, hC⟩
        · obtain ⟨hko, hkq'⟩ := found_some hk hkq
          obtain ⟨b, cur, rfl, hFb, hcur, hsz, hcp⟩ := dkm_copy rm hk (Int.natCast_inj.1 hkq) HL.out.1
          have c1 := Arr.blk_cell rm.blk 1
          simp only [List.getElem?_cons_zero, List.getElem?_cons_succ] at c1
          rw [cacheOf_len] at c1
          have hklt : (k : Int) < s.order.length := by omega
          have HCp := Lib.hid (And.intro hcp (And.intro hcur hsz))
          have HRw := Lib.hid (row_cells hrow2 ad rfl)
          have HKq := Lib.hid (And.intro hkq' hko)
          have hmem : q ∈ s.order := by rw [← hkq']; exact List.getElem_mem hko
          have HMem := Lib.hid hmem
          clear hrow2 hcp hcur hsz rm hkq hkq' hk hmem
          go_wp2_with (first
            | (refine wpList_copy_hid rfl (.tmp 48) (.tmp 49) 27 27 rfl 5 Try.underlying27 size_u8 b (k * 33 + 1) 32 32 ad 32 cp rfl rfl cur 75 HCp.out.2.1 (cellsB l) (by rw [cellsB_length, HL.out.1]; rfl) HRw.out (by rw [cellsB_length, HL.out.1]; exact HCp.out.2.2) (cellsB_one l) ?_; intro w9 hw9; have H9 := Lib.hid (HCp.out.1 w9 hw9.out); clear hw9)
            | fail)
          go_ret
          refine ⟨rfl, ⟨al, some ⟨b, 0, none⟩, cl, cc, fu, left, ?_⟩, chg_trans HC2.out.1 H9.out.2 fun _ h => .inl h⟩
          have h9 := H9.out.1
          have hs2 := HS2.out
          rw [if_pos HMem.out] at hs2
          rw [← cacheOf_in HO.out.1 HKq.out.2 HKq.out.1 l (burnt s.fuse), ← hs2] at h9
          rw [show s.good = S2.good by rw [hs2]] at h9
          exact dkm_at (dkm_mono h9 fun _ => more_old) HO.out.2 (by rw [hs2]; exact HC2.out.2.1) HC2.out.2.2
    · have hw : s.write i l = (1, s) := by
        unfold DS.write
        rw [if_pos (show ¬ (inR i s.good.length ∧ l.length = 32) from fun h => h2 h.2)]
      have HW := Lib.hid hw
      have HD := Lib.hid h
      have hne : ((len : Int) == 32) = false := by rw [beq_eq_false_iff_ne]; omega
      clear hw h h1
      go_enter Try.func45, Try.ntmps45
      go_wp2_with (first
        | (go_at_call 49; refine HH.out.mono ?_; rintro e w0 ⟨rfl, h0⟩; replace h0 := h0.symm; subst h0)
        | fail)
      go_ret
      exact ⟨by rw [HW.out]; rfl, by rw [HW.out]; exact dk_mono HD.out (fun _ => more_old), chg_refl F w⟩
  · have hw : s.write i l = (1, s) := by
      unfold DS.write
      rw [if_pos (show ¬ (inR i s.good.length ∧ l.length = 32) from fun h => h1 h.1)]
    rw [decide_eq_false h1] at hH
    have HH := Lib.hid hH
    have HW := Lib.hid hw
    have HD := Lib.hid h
    clear hw h h1 hH
    go_enter Try.func45, Try.ntmps45
    go_wp2_with (first
      | (go_at_call 49; refine HH.out.mono ?_; rintro e w0 ⟨rfl, h0⟩; replace h0 := h0.symm; subst h0)
      | fail)
    go_ret
    exact ⟨by rw [HW.out]; rfl, by rw [HW.out]; exact dk_mono HD.out (fun _ => more_old), chg_refl F w⟩

end Go.Proofs.Ytdgfoldobofgoaa.Dsk
/- Disk: the landed disk: a read. -/
namespace Go.Proofs.Ytdgfoldobofgoaa.Dsk
open Go.RowKit
open Go.Sort
open Kit
open Oct
open Foot
set_option linter.unusedVariables false
variable {w w' : World} {F G : Nat → Prop} {p cl cc : Nat} {good : List Sec} {cache : List (Nat × Sec)} {al ac : Option Addr} {fu : Bool} {left : Int} {s : DS}

theorem row_blk {x : Nat} {t : TypeId} {l : Sec} (h : Arr.Blk w x t (cellsB l)) : RowB w (some ⟨x, 0, none⟩) l := by
  refine .inr ⟨x, 0, rfl, fun j hj i hi => ?_⟩
  have : i = 0 := by omega
  subst this
  rw [Nat.mul_one, Nat.zero_add, Nat.add_zero, Arr.blk_cell h]
  simp [encB, cellsB, List.getElem?_eq_getElem hj]
/-- What was read of a block of its own. -/
theorem rd_blk {x : Nat} {t : TypeId} {l : Sec} {base : Nat} (h : Arr.Blk w x t (encS l)) (hl : l.length = 32) (hb : base ≤ x) : RdB w base (.slice (some ⟨x, 0, none⟩) 32 32) l := by
  rw [encS_is hl] at h
  refine ⟨_, 32, by rw [hl], by omega, by unfold maxLen; omega, (fun e => by cases e), row_blk h, fun q hq => ?_⟩
  injection hq with hq
  subst hq
  exact ⟨rfl, hb, Arr.blk_lt h⟩
theorem size_sec (l : Sec) : (Try.prog.info? 73).map (·.size) = some (encS l).length := by rw [encS_len]; kernel_rfl
theorem encS_all (l : Sec) : (encS l).all (·.oneCell') = true := List.all_eq_true.2 (encS_one l)
theorem cd_range {b o k : Nat} {l : List (Nat × Sec)} (h : Kit.Row encC 33 w (some ⟨b, o, none⟩) l) (hk : k < l.length) {x : Nat × Sec} (hx : l[k] = x) : w.rangeAt b (o + k * 33 + 1) (encS x.2) := by
  intro j v hv
  have hj : j < 32 := by rw [← encS_len x.2]; exact (List.getElem?_eq_some_iff.1 hv).1
  have := row_range encC_len h hk hx (j + 1) v (by show (Value.int .i64 _ :: encS x.2)[j + 1]? = _; rw [List.getElem?_cons_succ]; exact hv)
  rw [show o + k * 33 + 1 + j = o + k * 33 + (j + 1) by omega]
  exact this

set_option maxHeartbeats 2000000 in
theorem dread_any (h : Dk w F p s) (i : Int) (hi : -9223372036854775808 ≤ i ∧ i ≤ 9223372036854775807) :
    Calls Try.prog 38 #[.pointer (some ⟨p, 0, none⟩), .int .i64 i] w fun e w' => ∃ v, e = .returned (.tuple #[v, .int .i64 (s.read i).2]) ∧ RdB w' w.heap.size v (s.read i).1 ∧ Below w.heap.size w w' := by
  have hH := dhas_any h i
  by_cases h1 : inR i s.good.length
  · rw [decide_eq_true h1] at hH
    have HH := Lib.hid hH
    clear hH
    obtain ⟨q, rfl⟩ : ∃ q : Nat, i = q := ⟨i.toNat, by have := h1.1; omega⟩
    have hqg : q < s.good.length := by have := h1.2; omega
    have hrd : s.read q = (s.now.getD q [], 0) := by unfold DS.read; rw [if_pos h1]; rfl
    rw [hrd]
    obtain ⟨al, ac, cl, cc, fu, left, r⟩ := h
    have hok := r.ok
    have hnq : q < s.now.length := by rw [hok.len]; exact hqg
    have hn32 : (s.now.getD q []).length = 32 := hok.now32 _ (getD_mem hnq)
    have hg32 : s.good[q].length = 32 := hok.good32 _ (List.getElem_mem hqg)
    have hrest : q ∉ s.order → s.now.getD q [] = s.good[q] := fun hn => by
      rw [List.getD, hok.rest q hn, List.getElem?_eq_getElem hqg]; rfl
    have hol := order_le hok
    have c0 := Arr.blk_cell r.blk 0
    simp only [List.getElem?_cons_zero] at c0
    obtain ⟨gl, rfl, _, _, hrowl⟩ := own_at encS_len r.lown (by omega)
    have hrg := row_range encS_len hrowl hqg rfl
    rw [Nat.zero_add] at hrg
    have hlt : (q : Int) < s.good.length := by omega
    generalize s.good[q] = old at *
    obtain ⟨new, hnew⟩ : ∃ n, n = s.now.getD q [] := ⟨_, rfl⟩
    rw [← hnew] at hn32 hrest ⊢
    have HR := Lib.hid r
    have HRg := Lib.hid hrg
    have HNew := Lib.hid (And.intro hnew (And.intro hn32 (And.intro hg32 (And.intro hrest hol))))
    have hba := below_alloc w (.cells (encS []).toArray 73)
    have hblk : Arr.Blk (w.alloc (.cells (encS []).toArray 73)) w.heap.size 73 (encS []) := Arr.blk_new _ _ _ _ rfl
    have HBk := Lib.hid hblk
    have HBa := Lib.hid hba
    clear r hok hnq hn32 hg32 hrest hol hrowl hrg hnew h1 hrd hba hblk
    go_enter Try.func38, Try.ntmps38
    go_wp2_with (first
      | (go_at_call 49; refine HH.out.mono ?_; rintro e w0 ⟨rfl, h0⟩; replace h0 := h0.symm; subst h0)
      | (refine wpList_load_mid rfl 73 (.tmp 17) rfl gl (q * 32) rfl (encS old) _ HRg.out Try.underlying73 rfl (size_sec old) ?_)
      | (refine Arr.wpList_store_blk rfl 73 (.tmp 6) (.tmp 18) rfl w.heap.size (encS old) rfl rfl (encS []) 73 HBk.out (size_sec old) (by rw [encS_len, encS_len]) (encS_all old) w.heap.size (Nat.le_refl _) ?_; intro w3 hB3 hb3; have H3 := Lib.hid (And.intro hB3 (HBa.out.trans hb3)); clear hB3 hb3)
      | fail)
    refine (dfind_any ⟨_, _, _, _, _, _, dkat_chg HR.out (new_chg H3.out.2 (fun _ => False)) (fun _ _ => id)⟩ q).mono ?_
    rintro e w4 ⟨j, rfl, hj, hb4⟩
    have hb04 := below_keep H3.out.2 hb4
    have r4 := dkat_chg HR.out (new_chg hb04 (fun _ => False)) (fun _ _ => id)
    have hB4 := Arr.blk_below H3.out.1 hb4 (Arr.blk_lt H3.out.1)
    have H4 := Lib.hid (And.intro hB4 hb04)
    rcases hj with ⟨rfl, hno⟩ | ⟨k, hk, rfl, hkq⟩
    · have hnm := found_none hno
      have HE := Lib.hid (HNew.out.2.2.2.1 hnm)
      clear hnm hno hb4 hb04 r4 hB4
      go_wp2
      go_ret2
      refine ⟨_, rfl, ?_, H4.out.2⟩
      show RdB _ _ _ new
      rw [HE.out]
      exact rd_blk H4.out.1 HNew.out.2.2.1 (Nat.le_refl _)
    · obtain ⟨hko, hkq'⟩ := found_some hk hkq
      have c1 := Arr.blk_cell r4.blk 1
      simp only [List.getElem?_cons_zero, List.getElem?_cons_succ] at c1
      obtain ⟨b, rfl, _, _, hrowc⟩ := own_at encC_len r4.cown (by omega)
      have hrg := cd_range hrowc hk (cacheOf_at s hk hko)
      rw [Nat.zero_add] at hrg
      have hdat : s.now.getD s.order[k] [] = new := by rw [hkq', HNew.out.1]
      simp only at hrg
      rw [hdat] at hrg
      have HRk := Lib.hid hrg
      have hklt : (k : Int) < s.order.length := by omega
      clear hb4 hb04 r4 hB4 hkq hk hko hkq' hrowc hrg hdat
      go_wp2_with (first
        | (refine wpList_load_mid rfl 73 (.tmp 30) rfl b (k * 33 + 1) rfl (encS new) _ HRk.out Try.underlying73 rfl (size_sec new) ?_)
        | (refine Arr.wpList_store_blk rfl 73 (.tmp 6) (.tmp 31) rfl w.heap.size (encS new) rfl rfl (encS old) 73 H4.out.1 (size_sec new) (by rw [encS_len, encS_len]) (encS_all new) w.heap.size (Nat.le_refl _) ?_; intro w5 hB5 hb5; have H5 := Lib.hid (And.intro hB5 (H4.out.2.trans hb5)); clear hB5 hb5)
        | fail)
      go_ret2
      exact ⟨_, rfl, rd_blk H5.out.1 HNew.out.2.1 (Nat.le_refl _), H5.out.2⟩
  · rw [decide_eq_false h1] at hH
    have HH := Lib.hid hH
    have hrd : s.read i = ([], 1) := by unfold DS.read; rw [if_neg h1]
    rw [hrd]
    clear hH h h1 hrd
    go_enter Try.func38, Try.ntmps38
    go_wp2_with (first
      | (go_at_call 49; refine HH.out.mono ?_; rintro e w0 ⟨rfl, h0⟩; replace h0 := h0.symm; subst h0)
      | fail)
    go_ret2
    exact ⟨_, rfl, ⟨none, 0, rfl, Nat.le_refl _, by unfold maxLen; omega, fun _ => rfl, .inl rfl, fun q hq => by cases hq⟩, Below.refl _ _⟩

end Go.Proofs.Ytdgfoldobofgoaa.Dsk
/- Common: drawn regions: calls of function values, and of copy. -/
namespace Go.Proofs.Ytdgfoldobofgoaa.Rel
open Go.RowKit
variable {P : Program} {Q : Exit → Act → World → Prop} {o : Oper} {a : Act} {w : World} {K : Act → World → Prop}
/-- A function value (a closure: what it has captured stands behind its arguments). -/
theorem wp_fv (x : Operand) (xs : List Operand) (ts : Array TypeId) (ho : o.op = .call { callee := .value x, args := xs.toArray, argTypes := ts }) {f : FuncId} {caps : Array Value} (hx : a.eval x = .func (.func f) #[] caps) {fn : Func} (hf : P.funcs[f]? = some fn) (hk : (fn.body.isSome && !(fn.name == "runtime.NumGoroutine")) = true)
    (hc : Calls P f ((xs.map a.eval).toArray ++ caps) w fun e w' => ∃ v, e = .returned v ∧ K (a.put o.dst v) w') : o.wp P a w K Q := by
  unfold Oper.wp execOp
  simp only [ho]
  simp [resolve, Deferred.ofValue, invoke, hx]
  have hr : (callFunc f ((xs.map a.eval).toArray ++ caps)).run P w = .ok (.enter f ((xs.map a.eval).toArray ++ caps)) w := by
    simp only [Bool.and_eq_true, Bool.not_eq_true', Option.isSome_iff_exists] at hk
    obtain ⟨⟨c, hb⟩, hn⟩ := hk
    have hn' : ¬ fn.name = "runtime.NumGoroutine" := by simpa using hn
    simp [callFunc, hf, hb, hn']
  rw [hr]
  refine hc.mono fun e w' ⟨v, he, hK⟩ => ?_
  subst he
  exact hK
theorem wp_cp (d s : Operand) (t t' : TypeId) (ho : o.op = .call { callee := .builtin .copy, args := #[d, s], argTypes := #[t, t'] }) {v u v' : Value} {w' : World} (hd : a.eval d = v) (hs : a.eval s = u)
    (hr : (Builtin.copy_ #[t, t'] o.type #[v, u]).run P w = .ok v' w') (h : K (a.put o.dst v') w') : o.wp P a w K Q := by
  unfold Oper.wp execOp
  simp only [ho, resolve, invoke, builtin, Sem.run_bind, Sem.run_pure, Result.andThen_ok, List.map_toArray, List.map_cons, List.map_nil, hd, hs, hr]
  exact h
end Go.Proofs.Ytdgfoldobofgoaa.Rel
/- Disk: the landed disk: what is cached becomes for good, or in part; Flush and Crash. -/
namespace Go.Proofs.Ytdgfoldobofgoaa.Dsk
open Go.RowKit
open Go.Sort
open Kit
open Oct
open Foot
set_option linter.unusedVariables false

/-! ### In words of a disk -/

/-- The first n cached sectors are settled, each by as many bytes as m tells. -/
def settleF (m : Nat → Nat) (now : List Sec) (order : List Nat) : Nat → List Sec → List Sec
  | 0, g => g
  | n + 1, g => let g' := settleF m now order n g; let i := order.getD n 0; g'.set i (mix (m n) (g'.getD i []) (now.getD i []))
theorem settle_is (keep torn cut : Int) (now : List Sec) (order : List Nat) (g : List Sec) : ∀ n, settle keep torn cut now order n g = settleF (many keep torn cut) now order n g
  | 0 => rfl
  | n + 1 => by simp only [settle, settleF]; rw [settle_is keep torn cut now order g n]
variable {m : Nat → Nat}
theorem settleF_length (now : List Sec) (order : List Nat) (n : Nat) (g : List Sec) : (settleF m now order n g).length = g.length := by
  induction n with
  | zero => rfl
  | succ n ih => simp only [settleF]; rw [List.length_set, ih]
theorem settleF_32 (hm : ∀ n, m n ≤ 32) (now : List Sec) (order : List Nat) (g : List Sec) (hn : ∀ l ∈ now, l.length = 32) (hg : ∀ l ∈ g, l.length = 32) (hl : now.length = g.length) (ho : ∀ i ∈ order, i < g.length) :
    ∀ n, n ≤ order.length → ∀ l ∈ settleF m now order n g, l.length = 32
  | 0, _ => hg
  | n + 1, h => by
    intro l hmem
    simp only [settleF] at hmem
    have ih := settleF_32 hm now order g hn hg hl ho n (by omega)
    have hi : order.getD n 0 < g.length := ho _ (getD_mem (by omega))
    rcases List.mem_or_eq_of_mem_set hmem with hmem | rfl
    · exact ih l hmem
    · refine mix_length ?_ ?_ (hm n)
      · exact ih _ (getD_mem (by rw [settleF_length]; exact hi))
      · exact hn _ (getD_mem (by omega))
theorem settleF_all (now : List Sec) (order : List Nat) (g : List Sec) (hn : ∀ l ∈ now, l.length = 32) (hg : ∀ l ∈ g, l.length = 32) (hl : now.length = g.length) (ho : ∀ i ∈ order, i < g.length) :
    ∀ n, n ≤ order.length → ∀ i, (settleF (fun _ => 32) now order n g)[i]? = if i ∈ order.take n then now[i]? else g[i]?
  | 0, _, i => by simp [settleF]
  | n + 1, h, i => by
    have ih := settleF_all now order g hn hg hl ho n (by omega)
    have h32 := settleF_32 (m := fun _ => 32) (fun _ => Nat.le_refl _) now order g hn hg hl ho n (by omega)
    have hi : order.getD n 0 < g.length := ho _ (getD_mem (by omega))
    have hgl := settleF_length (m := fun _ => 32) now order n g
    have htk : order.take (n + 1) = order.take n ++ [order.getD n 0] := by rw [List.take_succ_eq_append_getElem (by omega), getD_at (by omega)]
    simp only [settleF]
    rw [htk]
    generalize order.getD n 0 = q at *
    rw [mix_whole (h32 _ (getD_mem (by omega))) (hn _ (getD_mem (by omega)))]
    by_cases hq : q = i
    · subst hq
      rw [List.getElem?_set_self (by omega), if_pos (by simp), getD_at (by omega), List.getElem?_eq_getElem (by omega)]
    · rw [List.getElem?_set_ne hq, ih i]
      have : (i ∈ order.take n ++ [q]) ↔ i ∈ order.take n := by simp [Ne.symm hq]
      by_cases hm : i ∈ order.take n
      · rw [if_pos hm, if_pos (this.2 hm)]
      · rw [if_neg hm, if_neg (fun h => hm (this.1 h))]
theorem settleF_flush {s : DS} (ok : s.Ok) : settleF (fun _ => 32) s.now s.order s.order.length s.good = s.now := by
  apply List.ext_getElem?
  intro i
  rw [settleF_all s.now s.order s.good ok.now32 ok.good32 ok.len ok.ordLt _ (Nat.le_refl _), List.take_length]
  by_cases h : i ∈ s.order
  · rw [if_pos h]
  · rw [if_neg h, ok.rest i h]

/-! ### In memory -/

variable {w w' : World} {F G : Nat → Prop} {p cl cc : Nat} {good : List Sec} {cache : List (Nat × Sec)} {al ac : Option Addr} {fu : Bool} {left : Int} {s : DS}
theorem cellsB_take (l : Sec) (m : Nat) : cellsB (l.take m) = (cellsB l).take m := by simp [cellsB]
theorem cellsB_drop (l : Sec) (m : Nat) : cellsB (l.drop m) = (cellsB l).drop m := by simp [cellsB]
theorem encS_mix {m : Nat} {old new : Sec} (h1 : old.length = 32) (h2 : new.length = 32) (hm : m ≤ 32) : encS (mix m old new) = splice (encS old) 0 ((encS new).take m) := by
  have hl : ((encS new).take m).length = m := by rw [List.length_take, encS_len]; omega
  unfold splice
  rw [hl, encS_is (mix_length h1 h2 hm), encS_is h1, encS_is h2]
  unfold mix
  rw [cellsB_append, cellsB_take, cellsB_drop, List.take_zero, List.nil_append, Nat.zero_add]
/-- The first m bytes of sector q become for good as they were written. -/
theorem dkm_settle (r : DkM w F p good cache al ac cl cc fu left) {q m : Nat} (hq : q < good.length) {new : Sec} (h1 : (good.getD q []).length = 32) (h2 : new.length = 32) (hm : m ≤ 32) :
    ∃ b cur, al = some ⟨b, 0, none⟩ ∧ b ≠ p ∧ F b ∧ w.heap[b]? = some (.cells cur 73 (0, 0)) ∧ q * 32 + 0 + m ≤ cur.size ∧
      ∀ w', w' = w.setRow b (splice cur.toList (q * 32 + 0) ((encS new).take m)).toArray → DkM w' F p (good.set q (mix m (good.getD q []) new)) cache al ac cl cc fu left ∧ Chg F w w' := by
  obtain ⟨b, rfl, _, _, _⟩ := own_at encS_len r.lown (by omega)
  have hF := r.lfoot b rfl
  rw [getD_at hq] at h1 ⊢
  have hcl : ((encS new).take m).length = m := by rw [List.length_take, encS_len]; omega
  obtain ⟨cur, hcur, hsz, ho⟩ := owns_splice encS_len (by omega) r.lown hq 0 ((encS new).take m) (mix m good[q] new) (by rw [hcl]; omega) (encS_mix h1 h2 hm)
  rw [hcl] at hsz
  have hbp : b ≠ p := fun e => by
    have := r.blk
    unfold Arr.Blk at this
    rw [← e, hcur] at this
    injection this with this
    injection this with _ h2 _
    exact ne_dk_sec h2.symm
  refine ⟨b, cur, rfl, hbp, hF, hcur, hsz, fun w' hw' => ?_⟩
  subst hw'
  have hc := row_chgF w b (splice cur.toList (q * 32 + 0) ((encS new).take m)).toArray
  refine ⟨⟨?_, r.own, ?_, ?_, own_typed r.cown hc (typed_one hcur ne_sec_cd), r.cfoot⟩, chg_row (chg_refl F w) (.inl hF) _⟩
  · rw [List.length_set]
    exact blk_chg hc r.blk (Ne.symm hbp)
  · rw [List.length_set]; exact ho
  · rw [List.length_set]; exact r.lfoot
theorem run_ld_secs {w : World} {a : Addr} {ag : Option Addr} {n c : Nat} (h : w.cell? a = some (.slice ag n c)) : (Instr.loadAt 47 (.pointer (some a))).run Try.prog w = .ok (.slice ag n c) w := by
  simp [go_sem, h]
theorem run_ia_secs (b q n c : Nat) (h : q < n) (w : World) : (Instr.indexAt 47 (.slice (some ⟨b, 0, none⟩) n c) (.int .i64 (q : Nat))).run Try.prog w = .ok (.pointer (some ⟨b, q * 32, none⟩)) w := by
  simp [go_sem]
  omega
theorem run_sl_arr (b o : Nat) (w : World) : (Instr.sliceAt 73 (.pointer (some ⟨b, o, none⟩)) none none none).run Try.prog w = .ok (.slice (some ⟨b, o, none⟩) 32 32) w := by
  simp [go_sem]
theorem run_sl_to (b o m : Nat) (h : m ≤ 32) (w : World) : (Instr.sliceAt 73 (.pointer (some ⟨b, o, none⟩)) none (some (.int .i64 (m : Nat))) none).run Try.prog w = .ok (.slice (some ⟨b, o, none⟩) m 32) w := by
  obtain ⟨i0, hi, _⟩ := info_parts info8
  simp [Instr.sliceAt, Instr.sliceBounds, Instr.sliceBound, Instr.sureAddr, asIntOf, run_underlying Try.underlying73, sizeOf, typeInfo, h, hi, Addr.add]

theorem run_copy_splice {P : Program} (w : World) (dT sT ty elem : TypeId) (g o dLen dCap : Nat) (a : Addr) (sLen sCap : Nat) (cur : Array Value) (t : TypeId) (cs : List Value)
    (hu : P.underlying dT = some (.slice elem)) (hs : (P.info? elem).map (·.size) = some 1)
    (hg : w.heap[g]? = some (.cells cur t (0, 0))) (hn : cs.length = Nat.min sLen dLen)
    (hsrc : ∀ j v, cs[j]? = some v → w.cell? (a.add j) = some v) (hfit : o + cs.length ≤ cur.size) (h1 : ∀ v ∈ cs, v.oneCell' = true) :
    (Builtin.copy_ #[dT, sT] ty #[.slice (some ⟨g, o, none⟩) dLen dCap, .slice (some a) sLen sCap]).run P w = .ok (goInt cs.length) (w.setRow g (splice cur.toList o cs).toArray) := by
  rw [run_copy_row P w dT sT ty elem g o dLen dCap a sLen sCap cur t cs hu hs hg hn hsrc hfit h1, List.append_assoc]; rfl

/-- In the region that settles one: only the copy, its last operation, changes anything. -/
def JS (b : Nat) (W X : World) (L : Array Bool) (w : World) : Prop := Chg (fun k => k = b) W w ∧ cond (L.getD 13 false) (w = X) (w = W.drew)
variable {b : Nat} {W X : World} {L : Array Bool}
theorem js_set (h : JS b W X L w) {k : Nat} (hk : k ≠ 13) : JS b W X (L.setIfInBounds k true) w := by
  unfold JS at h ⊢
  rw [set_far hk]; exact h
theorem js_start (b : Nat) (W X : World) {n : Nat} : JS b W X (Array.replicate n false) W.drew := by
  have e : (Array.replicate n false).getD 13 false = false := by
    by_cases hm : 13 < n <;> simp [hm]
  refine ⟨chg_drew (chg_refl _ _), ?_⟩
  rw [e]; rfl
theorem js_first (h : JS b W X L w) (hf : L.getD 13 true = false) : w = W.drew := by
  have := h.2
  rw [free_it hf] at this
  exact this
theorem js_last (h : JS b W X L w) (hf : L.getD 13 true = false) (hC : Chg (fun k => k = b) W X) (hw : w' = X) : JS b W X (L.setIfInBounds 13 true) w' := by
  subst hw
  refine ⟨hC, ?_⟩
  rw [set_it hf]; rfl
theorem js_end {n : Nat} (h : JS b W X (Array.replicate n true) w) (hn : 13 < n) : w = X := by
  have e : (Array.replicate n true).getD 13 false = true := by simp [hn]
  have := h.2
  rw [e] at this
  exact this

set_option maxRecDepth 100000 in
set_option maxHeartbeats 4000000 in
theorem dsettle_any (m : Nat → Nat) (hm : ∀ n, m n ≤ 32) (r : DkM w F p s.good (cacheOf s) al ac cl cc fu left) (ok : s.Ok) (hF : ∀ k, F k → k < w.heap.size) (f : FuncId) (caps : Array Value) (fn : Func) (hf : Try.prog.funcs[f]? = some fn) (hk : (fn.body.isSome && !(fn.name == "runtime.NumGoroutine")) = true)
    (hcall : ∀ (k : Nat) (wx : World), k < s.order.length → Chg F w wx → Calls Try.prog f (#[.int .i64 (k : Nat)] ++ caps) wx fun e w' => e = .returned (.int .i64 (m k : Nat)) ∧ w' = wx) :
    Calls Try.prog 28 #[.pointer (some ⟨p, 0, none⟩), .func (.func f) #[] caps] w fun e w' => e = .returned (.tuple #[]) ∧ DkM w' F p (settleF m s.now s.order s.order.length s.good) [] al none cl 0 fu left ∧ Chg F w w' := by
  have c1 := Arr.blk_cell r.blk 1
  simp only [List.getElem?_cons_zero, List.getElem?_cons_succ] at c1
  have hcl := cacheOf_len s
  have HR := Lib.hid r
  have HFn := Lib.hid (And.intro hf hk)
  have HCall := Lib.hid hcall
  have HF := Lib.hid hF
  have HOk := Lib.hid ok
  have HM := Lib.hid hm
  have HCl := Lib.hid hcl
  have hol := order_le ok
  clear r hf hk hcall hF ok hm
  rw [hcl] at c1
  generalize s.order.length = n at *
  clear hcl
  go_enter Try.func28, Try.ntmps28
  go_wp2_with fail
  go_loopw [11] (fun iv wx => ∃ k : Nat, k ≤ n ∧ iv = .int .i64 k ∧ DkM wx F p (settleF m s.now s.order k s.good) (cacheOf s) al ac cl cc fu left ∧ Chg F w wx) (fun iv _ => n - (intOf iv).toNat)
  case atStart => exact ⟨0, Nat.zero_le _, rfl, HR.out, chg_refl F w⟩
  case round =>
    obtain ⟨k, hk, rfl, hr, hC⟩ := hrel
    have HRr := Lib.hid hr
    have HCr := Lib.hid hC
    clear hr hC
    by_cases hlt : k < n
    · obtain ⟨b, rfl, _, _, hrow⟩ := own_at encC_len HRr.out.cown (by rw [HCl.out]; omega)
      have hkc : k < (cacheOf s).length := by rw [HCl.out]; exact hlt
      have hko : k < s.order.length := by rw [← cacheOf_len s]; exact hkc
      have hrg := row_range encC_len hrow hkc (cacheOf_at s hkc hko)
      rw [Nat.zero_add] at hrg
      have hqg : s.order[k] < s.good.length := HOk.out.ordLt _ (List.getElem_mem hko)
      have hstep : settleF m s.now s.order (k + 1) s.good = (settleF m s.now s.order k s.good).set s.order[k] (mix (m k) ((settleF m s.now s.order k s.good).getD s.order[k] []) (s.now.getD s.order[k] [])) := by
        simp only [settleF]; rw [getD_at hko]
      have hg32 := settleF_32 HM.out s.now s.order s.good HOk.out.now32 HOk.out.good32 HOk.out.len HOk.out.ordLt k (Nat.le_of_lt hko)
      have hgl := settleF_length (m := m) s.now s.order k s.good
      have hn32 : (s.now.getD s.order[k] []).length = 32 := HOk.out.now32 _ (getD_mem (by rw [HOk.out.len]; exact hqg))
      rw [← hgl] at hqg
      have ho32 : ((settleF m s.now s.order k s.good).getD s.order[k] []).length = 32 := hg32 _ (getD_mem hqg)
      have hmk := HM.out k
      have hcall := fun wx => HCall.out k wx hlt
      have HRr' := HRr
      clear HRr
      generalize settleF m s.now s.order k s.good = g at *
      generalize s.order[k] = q at *
      generalize s.now.getD q [] = new at *
      generalize m k = mk at *
      have HRg := Lib.hid hrg
      have HSz : Hid ((Try.prog.info? 75).map (·.size) = some (encC (q, new)).length) := Lib.hid (by rw [encC_len]; kernel_rfl)
      have HAll : Hid ((encC (q, new)).all (·.oneCell') = true) := Lib.hid (List.all_eq_true.2 (encC_one (q, new)))
      have hba := below_alloc wr (.cells (encC (0, [])).toArray 75)
      have HBk : Hid (Arr.Blk (wr.alloc (.cells (encC (0, [])).toArray 75)) wr.heap.size 75 (encC (0, []))) := Lib.hid (Arr.blk_new _ _ _ _ rfl)
      have HBa := Lib.hid hba
      have HStep := Lib.hid hstep
      have HSt := Lib.hid (And.intro hqg (And.intro ho32 (And.intro hn32 hmk)))
      have HCa := Lib.hid hcall
      have HMk := Lib.hid hmk
      clear hrow hrg hba hstep hg32 hgl hqg ho32 hn32 hmk hcall hko hkc
      go_wp2_with (first
        | (refine wpList_load_mid rfl 75 (.tmp 14) rfl b (k * 33) rfl (encC (q, new)) _ HRg.out Try.underlying75 rfl HSz.out ?_)
        | (refine Arr.wpList_store_blk rfl 75 (.tmp 5) (.tmp 15) rfl wr.heap.size (encC (q, new)) rfl rfl (encC (0, [])) 75 HBk.out HSz.out (by rw [encC_len, encC_len]) HAll.out wr.heap.size (Nat.le_refl _) ?_; intro w3 hB3 hb3; have H3 := Lib.hid (And.intro hB3 (HBa.out.trans hb3)); clear hB3 hb3)
        | fail)
      have hs3 : wr.heap.size ≤ w3.heap.size := H3.out.2.size
      have hC3 : Chg F w w3 := chg_trans HCr.out (new_chg H3.out.2 F) fun _ h => .inl h
      have r3 := dkm_keep HRr'.out H3.out.2
      have r3d := dkm_keep r3 (below_drew w3)
      obtain ⟨gl, cur, rfl, hbp, hFb, hcur, hsz, hst⟩ := dkm_settle r3d HSt.out.1 HSt.out.2.1 HSt.out.2.2.1 HSt.out.2.2.2
      have hglw : gl < wr.heap.size := Nat.lt_of_lt_of_le (HF.out _ hFb) HCr.out.size
      have k0 := Arr.blk_cell r3.blk 0
      have k1 := Arr.blk_cell H3.out.1 0
      simp only [List.getElem?_cons_zero] at k0
      have HCe : Hid (w3.cell? ⟨p, 0, none⟩ = some (.slice (some ⟨gl, 0, none⟩) g.length cl) ∧ w3.cell? ⟨wr.heap.size, 0, none⟩ = some (.int .i64 (q : Nat))) := Lib.hid ⟨k0, k1⟩
      have HNe : Hid (¬ (p = gl) ∧ ¬ (wr.heap.size = gl)) := Lib.hid ⟨fun e => hbp e.symm, fun e => by omega⟩
      have HLq : Hid (q < g.length) := Lib.hid HSt.out.1
      have HCf := Lib.hid (fun (wz : World) (hz : Chg (fun k => k = gl) w3 wz) => HCa.out wz (chg_trans hC3 hz fun x hx => .inl (by subst hx; exact hFb)))
      have hrun := run_copy_splice (P := Try.prog) w3.drew 27 27 3 5 gl (q * 32 + 0) 32 32 ⟨wr.heap.size, 1, none⟩ mk 32 cur 73 ((encS new).take mk) Try.underlying27 size_u8 hcur
        (by rw [List.length_take, encS_len])
        (fun j v hv => by
          have hj : j < mk := by have := (List.getElem?_eq_some_iff.1 hv).1; rw [List.length_take] at this; omega
          rw [List.getElem?_take_of_lt hj] at hv
          rw [add_plain]
          have := Arr.blk_cell (blk_chg (new_chg (below_drew w3) (fun _ => False)) H3.out.1 id) (1 + j)
          rw [this, Nat.add_comm]
          exact hv)
        (by have := HSt.out.2.2.2; rw [List.length_take, encS_len]; omega) (fun v hv => encS_one new v (List.mem_of_mem_take hv))
      have HCp := Lib.hid (And.intro hrun (And.intro (chg_row (F := fun k => k = gl) (chg_drew (chg_refl _ w3)) (.inl rfl) (splice cur.toList (q * 32 + 0) ((encS new).take mk)).toArray) (hst _ rfl)))
      have HC3 := Lib.hid hC3
      clear hs3 hC3 r3 r3d hbp hFb hcur hsz hst hglw k0 k1 hrun
      generalize hgn : g.length = gn at *
      refine Rel.wp_region_rel (G := fun _ _ => True) (Rel.tab [.is (.pointer (some ⟨p, 0, none⟩)), .is (.pointer (some ⟨p, 0, none⟩)), .is (.pointer (some ⟨p, 0, none⟩)), .is (.slice (some ⟨gl, 0, none⟩) gn cl), .is (.pointer (some ⟨wr.heap.size, 0, none⟩)), .is (.int .i64 (q : Nat)), .is (.pointer (some ⟨gl, q * 32, none⟩)), .is (.slice (some ⟨gl, q * 32, none⟩) 32 32), .is (.pointer (some ⟨wr.heap.size, 1, none⟩)), .is (.func (.func f) #[] caps), .is (.int .i64 (k : Nat)), .is (.int .i64 (mk : Nat)), .is (.slice (some ⟨wr.heap.size, 1, none⟩) mk 32), Rel.Kd.any]) (JS gl w3 (w3.drew.setRow gl (splice cur.toList (q * 32 + 0) ((encS new).take mk)).toArray)) (by kernel_rfl) (by kernel_rfl) (by kernel_rfl) (by kernel_rfl) (fun w => trivial) (js_start _ _ _) ?_ ?_
      · refine ⟨?_, ?_, ?_, ?_, ?_, ?_, ?_, ?_, ?_, ?_, ?_, ?_, ?_, ?_, trivial⟩
        · intro L a w c
          refine .inl ⟨Rel.wanted_free (by kernel_rfl) _, ?_⟩
          exact Rel.wp_mv _ rfl ⟨_, rfl, trivial, (c.old 0 (v := .pointer (some ⟨p, 0, none⟩)) (by kernel_rfl) (by kernel_rfl)), (js_set c.inv (by decide))⟩
        · intro L a w c
          refine .inl ⟨Rel.wanted_free (by kernel_rfl) _, ?_⟩
          exact Chn.wp_nc _ rfl (c.get 0 16 (by kernel_rfl)) ⟨_, rfl, trivial, rfl, (js_set c.inv (by decide))⟩
        · intro L a w c
          refine .inl ⟨Rel.wanted_free (by kernel_rfl) _, ?_⟩
          exact Chn.wp_fa _ _ _ rfl (c.get 1 17 (by kernel_rfl)) (by simp [go_sem]) ⟨_, rfl, trivial, rfl, (js_set c.inv (by decide))⟩
        · intro L a w c
          refine .inl ⟨Rel.wanted_free (by kernel_rfl) _, ?_⟩
          exact Rel.wp_ld _ _ rfl (c.get 2 18 (by kernel_rfl)) (run_ld_secs (cell_chg c.inv.1 HCe.out.1 HNe.out.1)) ⟨_, rfl, trivial, rfl, (js_set c.inv (by decide))⟩
        · intro L a w c
          refine .inl ⟨Rel.wanted_free (by kernel_rfl) _, ?_⟩
          exact Chn.wp_fa _ _ _ rfl (c.old 5 (v := .pointer (some ⟨wr.heap.size, 0, none⟩)) (by kernel_rfl) (by kernel_rfl)) (by simp [go_sem]) ⟨_, rfl, trivial, rfl, (js_set c.inv (by decide))⟩
        · intro L a w c
          refine .inl ⟨Rel.wanted_free (by kernel_rfl) _, ?_⟩
          exact Rel.wp_ld _ _ rfl (c.get 4 20 (by kernel_rfl)) (run_ld_i (cell_chg c.inv.1 HCe.out.2 HNe.out.2)) ⟨_, rfl, trivial, rfl, (js_set c.inv (by decide))⟩
        · intro L a w c
          refine .inl ⟨Rel.wanted_free (by kernel_rfl) _, ?_⟩
          exact Rel.wp_ia _ _ _ rfl (c.get 3 19 (by kernel_rfl)) (c.get 5 21 (by kernel_rfl)) (run_ia_secs gl q gn cl HLq.out w) ⟨_, rfl, trivial, rfl, js_set c.inv (by decide)⟩
        · intro L a w c
          refine .inl ⟨Rel.wanted_free (by kernel_rfl) _, ?_⟩
          exact Rel.wp_sl _ _ _ _ _ rfl (c.get 6 22 (by kernel_rfl)) rfl rfl rfl (run_sl_arr gl (q * 32) w) ⟨_, rfl, trivial, rfl, js_set c.inv (by decide)⟩
        · intro L a w c
          refine .inl ⟨Rel.wanted_free (by kernel_rfl) _, ?_⟩
          exact Chn.wp_fa _ _ _ rfl (c.old 5 (v := .pointer (some ⟨wr.heap.size, 0, none⟩)) (by kernel_rfl) (by kernel_rfl)) (by simp [go_sem]) ⟨_, rfl, trivial, rfl, (js_set c.inv (by decide))⟩
        · intro L a w c
          refine .inl ⟨Rel.wanted_free (by kernel_rfl) _, ?_⟩
          exact Rel.wp_mv _ rfl ⟨_, rfl, trivial, (c.old 1 (v := .func (.func f) #[] caps) (by kernel_rfl) (by kernel_rfl)), (js_set c.inv (by decide))⟩
        · intro L a w c
          refine .inl ⟨Rel.wanted_free (by kernel_rfl) _, ?_⟩
          exact Rel.wp_mv _ rfl ⟨_, rfl, trivial, (c.old 4 (v := .int .i64 (k : Nat)) (by kernel_rfl) (by kernel_rfl)), (js_set c.inv (by decide))⟩
        · intro L a w c
          refine .inl ⟨Rel.wanted_free (by kernel_rfl) _, ?_⟩
          refine Rel.wp_fv _ [.tmp 26] _ rfl (c.get 9 25 (by kernel_rfl)) HFn.out.1 HFn.out.2 ?_
          show Calls _ _ (#[Rel.slot a 26] ++ caps) w _
          rw [show Rel.slot a 26 = .int .i64 (k : Nat) from c.get 10 26 (by kernel_rfl)]
          refine (HCf.out w c.inv.1).mono ?_
          rintro e w' ⟨rfl, hw'⟩
          subst hw'
          exact ⟨_, rfl, _, rfl, trivial, rfl, js_set c.inv (by decide)⟩
        · intro L a w c
          refine .inl ⟨Rel.wanted_free (by kernel_rfl) _, ?_⟩
          exact Rel.wp_sl _ _ _ _ _ rfl (c.get 8 24 (by kernel_rfl)) rfl (congrArg some (c.get 11 27 (by kernel_rfl))) rfl (run_sl_to wr.heap.size 1 mk HMk.out w) ⟨_, rfl, trivial, rfl, js_set c.inv (by decide)⟩
        · intro L a w c
          refine .inl ⟨Rel.wanted_free (by kernel_rfl) _, ?_⟩
          have hw := js_first c.inv c.free
          subst hw
          exact Rel.wp_cp _ _ _ _ rfl (c.get 7 23 (by kernel_rfl)) (c.get 12 28 (by kernel_rfl)) HCp.out.1 ⟨_, rfl, trivial, trivial, js_last c.inv c.free HCp.out.2.1 rfl⟩
      intro a w9 hbase hroom hdef hJ hV
      rw [Chn.act_puts [16, 17, 18, 19, 20, 21, 22, 23, 24, 25, 26, 27, 28, 29] hbase hroom hdef (by kernel_rfl)]
      clear hbase hroom hdef hV
      simp only [List.foldl_cons, List.foldl_nil]
      generalize Rel.slot a 16 = u16 at *
      generalize Rel.slot a 17 = u17 at *
      generalize Rel.slot a 18 = u18 at *
      generalize Rel.slot a 19 = u19 at *
      generalize Rel.slot a 20 = u20 at *
      generalize Rel.slot a 21 = u21 at *
      generalize Rel.slot a 22 = u22 at *
      generalize Rel.slot a 23 = u23 at *
      generalize Rel.slot a 24 = u24 at *
      generalize Rel.slot a 25 = u25 at *
      generalize Rel.slot a 26 = u26 at *
      generalize Rel.slot a 27 = u27 at *
      generalize Rel.slot a 28 = u28 at *
      generalize Rel.slot a 29 = u29 at *
      simp only [Act.put, List.setIfInBounds_toArray, List.set_cons_succ, List.set_cons_zero]
      have hw9 := js_end hJ (by decide)
      have HX := Lib.hid (hw9 ▸ HCp.out.2.2)
      clear hJ hw9
      go_wp2_with fail
      go_roundw
      case rel => exact ⟨k + 1, by omega, by go_num, by rw [HStep.out]; exact HX.out.1, chg_trans (chg_drew HC3.out) HX.out.2 fun _ h => .inl h⟩
      case measure => simp [intOf]; omega
    · obtain rfl : k = n := by omega
      have hb := HRr.out.blk
      have q1 := Arr.blk_cell hb 1
      have q2 := Arr.blk_frozen hb 1
      simp only [List.getElem?_cons_zero, List.getElem?_cons_succ] at q1
      have HE : Hid (DkM (wr.setCell ⟨p, 1, none⟩ (.slice none 0 0)) F p (settleF m s.now s.order k s.good) [] al none cl 0 fu left ∧ Chg F w (wr.setCell ⟨p, 1, none⟩ (.slice none 0 0))) :=
        Lib.hid ⟨⟨Arr.blk_set hb 1 _, HRr.out.own, lown_dk HRr.out.lown hb, HRr.out.lfoot, owns_nil _ _ _, fun k hk => by cases hk⟩, chg_set HCr.out (.inl HRr.out.own) 1 _⟩
      clear hb
      go_wp2
      go_end0
      exact ⟨rfl, HE.out⟩

end Go.Proofs.Ytdgfoldobofgoaa.Dsk
/- Disk: the landed disk: Flush, Crash; all that a disk is to do, done; and no disk at all. -/
namespace Go.Proofs.Ytdgfoldobofgoaa.Dsk
open Go.RowKit
open Go.Sort
open Kit
open Oct
open Foot
set_option linter.unusedVariables false
variable {w w' : World} {F G : Nat → Prop} {p cl cc : Nat} {al ac : Option Addr} {fu : Bool} {left : Int} {s : DS}

/-! ### Flush -/

theorem dflush1_any (k : Nat) (w : World) : Calls Try.prog 40 (#[.int .i64 (k : Nat)] ++ #[]) w fun e w' => e = .returned (.int .i64 (32 : Nat)) ∧ w' = w := by
  show Calls Try.prog 40 #[.int .i64 (k : Nat)] w _
  go_enter Try.func40, Try.ntmps40
  go_wp2
  go_ret
  exact ⟨rfl, rfl⟩
set_option maxHeartbeats 1000000 in
theorem dflush_any (h : Dk w F p s) (hF : ∀ k, F k → k < w.heap.size) :
    Calls Try.prog 31 #[.pointer (some ⟨p, 0, none⟩)] w fun e w' => e = .returned (.int .i64 s.flush.1) ∧ Dk w' F p s.flush.2 ∧ Chg F w w' := by
  have hok := dk_ok h
  have HP := Lib.hid (dpasses_any h)
  have HF := Lib.hid hF
  by_cases h0 : s.fuse = 0
  · have hw : s.flush = (10, s) := by unfold DS.flush; rw [if_pos h0]
    have hb : ({ s with fuse := burnt s.fuse } : DS) = s := by
      have : burnt s.fuse = s.fuse := by rw [h0]; rfl
      rw [this]
    rw [hw]
    have HB := Lib.hid hb
    have HZ := Lib.hid (decide_eq_true h0)
    clear hw hb h0 h hok hF
    go_enter Try.func31, Try.ntmps31
    go_wp2_with (first
      | (go_at_call 39; refine HP.out.mono ?_; rw [HZ.out, HB.out]; rintro e w1 ⟨rfl, hd, hC, hz⟩; have HD := Lib.hid (And.intro hd hC); clear hd hC hz)
      | fail)
    go_ret
    exact ⟨rfl, HD.out⟩
  · have hw : s.flush = (0, { s with good := s.now, order := [], fuse := burnt s.fuse }) := by unfold DS.flush; rw [if_neg h0]
    have hok2 := flush_ok hok
    rw [hw] at hok2 ⊢
    have HZ := Lib.hid (decide_eq_false h0)
    have HO := Lib.hid (And.intro hok hok2)
    clear hw h0 h hok hok2 hF
    go_enter Try.func31, Try.ntmps31
    go_wp2_with (first
      | (go_at_call 39; refine HP.out.mono ?_; rw [HZ.out]; rintro e w1 ⟨rfl, hd, hC, hz⟩; have HD := Lib.hid (And.intro hd (And.intro hC hz)); clear hd hC hz)
      | fail)
    obtain ⟨al, ac, cl, cc, fu, left, r⟩ := HD.out.1
    refine (dsettle_any (fun _ => 32) (fun _ => Nat.le_refl _) (dkm_of r) r.ok (fun k hk => by rw [HD.out.2.2]; exact HF.out k hk) 40 #[] _ rfl (by kernel_rfl) (fun k wx _ _ => dflush1_any k wx)).mono ?_
    rintro e w2 ⟨rfl, hr, hC⟩
    have hfl := settleF_flush HO.out.1
    have hr2 : DkM w2 F p (settleF (fun _ => 32) s.now s.order s.order.length s.good) [] al none cl 0 fu left := hr
    rw [hfl] at hr2
    have HE : Hid (Dk w2 F p { s with good := s.now, order := [], fuse := burnt s.fuse } ∧ Chg F w w2) := Lib.hid ⟨⟨al, none, cl, 0, fu, left, dkm_at (s := { s with good := s.now, order := [], fuse := burnt s.fuse }) hr2 HO.out.2 r.fuse r.left0⟩, chg_trans HD.out.2.1 hC fun _ h => .inl h⟩
    clear r hr hr2 hC hfl
    go_wp2
    go_ret
    exact ⟨rfl, HE.out⟩

/-! ### Crash -/

theorem i64_and1 (n : Int) : bits .and .i64 n 1 = n % 2 := by
  have h1 : (BitVec.ofInt 64 1).toNat = 2 ^ 1 - 1 := by decide
  have key : (BitVec.ofInt 64 n &&& BitVec.ofInt 64 1).toNat = (n % ((2 ^ 64 : Nat) : Int)).toNat % 2 ^ 1 := by
    rw [BitVec.toNat_and, BitVec.toNat_ofInt, h1, Nat.and_two_pow_sub_one_eq_mod]
  show IntKind.i64.wrap ((BitVec.ofInt 64 n &&& BitVec.ofInt 64 1).toNat : Nat) = n % 2
  rw [key, IntKind.wrap_i64]
  omega
theorem bit_shr {keep : Int} {n : Nat} (hn : n < 62) : (bits .and .i64 (keep / 2 ^ n) 1 == 1) = bitOf keep n := by
  rw [i64_and1]
  have e : keep = keep % 18446744073709551616 + (keep / 18446744073709551616 * 2 ^ (64 - n)) * 2 ^ n := by
    have h1 : (2 : Int) ^ (64 - n) * 2 ^ n = 18446744073709551616 := by rw [← Int.pow_add, show 64 - n + n = 64 by omega]; decide
    rw [Int.mul_assoc, h1]
    omega
  have hp : (2 : Int) ^ n ≠ 0 := by
    have : (0 : Int) < 2 ^ n := Int.pow_pos (by decide)
    omega
  have h2 : keep / 2 ^ n = keep % 18446744073709551616 / 2 ^ n + keep / 18446744073709551616 * 2 ^ (64 - n) := by
    have := Int.add_mul_ediv_right (keep % 18446744073709551616) (keep / 18446744073709551616 * 2 ^ (64 - n)) hp
    rw [← e] at this
    exact this
  have h3 : (2 : Int) ^ (64 - n) = 2 * 2 ^ (63 - n) := by rw [show 64 - n = (63 - n) + 1 by omega, Int.pow_succ, Int.mul_comm]
  rw [h3, ← Int.mul_assoc, Int.mul_comm _ (2 : Int), Int.mul_assoc] at h2
  have hr : keep % 18446744073709551616 = ((keep % 18446744073709551616).toNat : Int) := by omega
  have h4 : keep % 18446744073709551616 / 2 ^ n = (((keep % 18446744073709551616).toNat / 2 ^ n : Nat) : Int) := by
    rw [Int.natCast_ediv, Int.natCast_pow, ← hr]; rfl
  rw [h4] at h2
  generalize keep / 18446744073709551616 * 2 ^ (63 - n) = c at h2
  unfold bitOf
  rw [Nat.testBit_eq_decide_div_mod_eq, Bool.eq_iff_iff, beq_iff_eq, decide_eq_true_iff, h2]
  omega
theorem many_at {keep torn cut : Int} {k : Nat} (h : (k : Int) = torn) : (many keep torn cut k : Int) = if cut < 0 then 0 else if cut ≤ 32 then cut else 32 := by
  unfold many; rw [if_pos h]
  split
  · split <;> (try split) <;> omega
  · split <;> (try split) <;> omega
theorem many_bit {keep torn cut : Int} {k : Nat} (h : (k : Int) ≠ torn) (h2 : k < 62) : (many keep torn cut k : Int) = cond (bitOf keep k) 32 0 := by
  unfold many; rw [if_neg h]
  cases bitOf keep k <;> simp [h2]
theorem many_high {keep torn cut : Int} {k : Nat} (h : (k : Int) ≠ torn) (h2 : ¬ k < 62) : (many keep torn cut k : Int) = 0 := by
  unfold many; rw [if_neg h, if_neg (fun h3 => h2 h3.1)]; rfl

set_option maxHeartbeats 1000000 in
theorem dcrash1_any (k : Nat) (hk : k < 9223372036854775807) {w : World} {keep torn cut : Int} {bk bt bc : Nat} (h1 : w.cell? ⟨bt, 0, none⟩ = some (.int .i64 torn)) (h2 : w.cell? ⟨bc, 0, none⟩ = some (.int .i64 cut)) (h3 : w.cell? ⟨bk, 0, none⟩ = some (.int .i64 keep)) :
    Calls Try.prog 29 (#[.int .i64 (k : Nat)] ++ #[.pointer (some ⟨bt, 0, none⟩), .pointer (some ⟨bc, 0, none⟩), .pointer (some ⟨bk, 0, none⟩)]) w fun e w' => e = .returned (.int .i64 (many keep torn cut k : Nat)) ∧ w' = w := by
  show Calls Try.prog 29 #[.int .i64 (k : Nat), .pointer (some ⟨bt, 0, none⟩), .pointer (some ⟨bc, 0, none⟩), .pointer (some ⟨bk, 0, none⟩)] w _
  by_cases ht : (k : Int) = torn
  · have hm := many_at (keep := keep) (cut := cut) ht
    have htb : ((k : Int) == torn) = true := beq_iff_eq.2 ht
    generalize many keep torn cut k = M at *
    have HM := Lib.hid hm
    clear hm ht
    by_cases c1 : cut < 0
    · have e : Hid ((M : Int) = 0) := Lib.hid (by rw [HM.out, if_pos c1])
      go_enter Try.func29, Try.ntmps29
      go_wp2
      go_ret
      exact ⟨ret_int e.out.symm, rfl⟩
    · by_cases c2 : cut ≤ 32
      · have e : Hid ((M : Int) = cut) := Lib.hid (by rw [HM.out, if_neg c1, if_pos c2])
        go_enter Try.func29, Try.ntmps29
        go_wp2
        go_ret
        exact ⟨ret_int e.out.symm, rfl⟩
      · have e : Hid ((M : Int) = 32) := Lib.hid (by rw [HM.out, if_neg c1, if_neg c2])
        go_enter Try.func29, Try.ntmps29
        go_wp2
        go_ret
        exact ⟨ret_int e.out.symm, rfl⟩
  · have htb : ((k : Int) == torn) = false := beq_eq_false_iff_ne.2 ht
    by_cases h62 : k < 62
    · have hm := many_bit (keep := keep) (cut := cut) ht h62
      have hb := bit_shr (keep := keep) h62
      generalize many keep torn cut k = M at *
      have hlt : (k : Int) < 62 := by omega
      generalize bitOf keep k = B at *
      cases B with
      | true =>
        have e : Hid ((M : Int) = 32) := Lib.hid hm
        clear hm ht
        go_enter Try.func29, Try.ntmps29
        go_wp2
        go_ret
        exact ⟨ret_int e.out.symm, rfl⟩
      | false =>
        have e : Hid ((M : Int) = 0) := Lib.hid hm
        clear hm ht
        go_enter Try.func29, Try.ntmps29
        go_wp2
        go_ret
        exact ⟨ret_int e.out.symm, rfl⟩
    · have e : Hid ((many keep torn cut k : Int) = 0) := Lib.hid (many_high ht h62)
      generalize many keep torn cut k = M at *
      have hlt : ¬ (k : Int) < 62 := by omega
      clear ht
      go_enter Try.func29, Try.ntmps29
      go_wp2
      go_ret
      exact ⟨ret_int e.out.symm, rfl⟩

set_option maxHeartbeats 1000000 in
theorem dcrash_any (h : Dk w F p s) (hF : ∀ k, F k → k < w.heap.size) (keep torn cut : Int) :
    Calls Try.prog 11 #[.pointer (some ⟨p, 0, none⟩), .int .i64 keep, .int .i64 torn, .int .i64 cut] w fun e w' => e = .returned (.tuple #[]) ∧ Dk w' F p (s.crash keep torn cut) ∧ Chg F w w' := by
  obtain ⟨wb, hwb⟩ : ∃ wb, wb = ((w.alloc (.cells #[.int .i64 keep] 3)).alloc (.cells #[.int .i64 torn] 3)).alloc (.cells #[.int .i64 cut] 3) := ⟨_, rfl⟩
  have hb : Below w.heap.size w wb := by rw [hwb]; exact ((below_alloc w _).alloc (by simp) _).alloc (by simp; omega) _
  have k1 : wb.cell? ⟨w.heap.size, 0, none⟩ = some (.int .i64 keep) := by rw [hwb]; exact cell_alloc (cell_alloc (World.cell?_alloc_new w _ _ 0))
  have k2 : wb.cell? ⟨w.heap.size + 1, 0, none⟩ = some (.int .i64 torn) := by
    rw [hwb]
    have := World.cell?_alloc_new (w.alloc (.cells #[.int .i64 keep] 3)) #[.int .i64 torn] 3 0
    rw [show (w.alloc (.cells #[.int .i64 keep] 3)).heap.size = w.heap.size + 1 by simp] at this
    exact cell_alloc this
  have k3 : wb.cell? ⟨w.heap.size + 2, 0, none⟩ = some (.int .i64 cut) := by
    rw [hwb]
    have := World.cell?_alloc_new ((w.alloc (.cells #[.int .i64 keep] 3)).alloc (.cells #[.int .i64 torn] 3)) #[.int .i64 cut] 3 0
    rw [show ((w.alloc (.cells #[.int .i64 keep] 3)).alloc (.cells #[.int .i64 torn] 3)).heap.size = w.heap.size + 2 by simp] at this
    exact this
  have hC : Chg F w wb := new_chg hb F
  obtain ⟨al, ac, cl, cc, fu, left, r⟩ := dk_keep h hb
  have hnF : ∀ j, ¬ F (w.heap.size + j) := fun j hj => by have := hF _ hj; omega
  have hset := dsettle_any (many keep torn cut) (many_le keep torn cut) (dkm_of r) r.ok (fun k hk => Nat.lt_of_lt_of_le (hF k hk) hb.size) 29 #[.pointer (some ⟨w.heap.size + 1, 0, none⟩), .pointer (some ⟨w.heap.size + 2, 0, none⟩), .pointer (some ⟨w.heap.size, 0, none⟩)] _ rfl (by kernel_rfl)
    (fun k wx hk hx => dcrash1_any k (by have := order_le r.ok; omega) (cell_chg hx k2 (hnF 1)) (cell_chg hx k3 (hnF 2)) (cell_chg hx k1 (hnF 0)))
  rw [← settle_is] at hset
  have hok := crash_ok r.ok keep torn cut
  have hcr : s.crash keep torn cut = { good := settle keep torn cut s.now s.order s.order.length s.good, now := settle keep torn cut s.now s.order s.order.length s.good, order := [], fuse := -1 } := rfl
  rw [hcr] at hok ⊢
  have hfl := r.fuse
  have hl0 := r.left0
  generalize settle keep torn cut s.now s.order s.order.length s.good = g at *
  have HS := Lib.hid hset
  have HO := Lib.hid (And.intro hok (And.intro hfl hl0))
  have HC := Lib.hid hC
  have hmf : ∀ (fn : Fn) (first cap : Array Value) (w : World), (Instr.makeFunc fn first cap).run Try.prog w = .ok (.func fn first cap) w := fun _ _ _ _ => rfl
  clear r hset hok hfl hl0 hC hb k1 k2 k3 hnF h hcr
  go_enter Try.func11, Try.ntmps11
  go_wp2_with fail
  rw [← hwb]
  refine HS.out.mono ?_
  rintro e w2 ⟨rfl, hr, hC2⟩
  have hd : Dk w2 F p { good := g, now := g, order := [], fuse := cond fu left (-1) } := ⟨al, none, cl, 0, fu, left, dkm_at (s := { good := g, now := g, order := [], fuse := cond fu left (-1) }) hr (fuse_ok HO.out.1 _) rfl HO.out.2.2⟩
  have HD := Lib.hid (dfuse_any hd (-1) (by omega))
  have HC2 := Lib.hid (chg_trans HC.out hC2 fun _ h => .inl h)
  clear hr hC2 hd hwb
  go_wp2_with (first | (go_at_call 13; refine HD.out.mono ?_; rintro e w3 ⟨rfl, hd, hC3, _⟩; have HE := Lib.hid (And.intro hd (chg_trans HC2.out hC3 fun _ h => .inl h)); clear hd hC3) | fail)
  go_end0
  exact ⟨rfl, HE.out⟩

/-! ### All that a disk is to do -/

theorem disk_prog : Prog Dk where
  mono := dk_mono
  chg := dk_chg
  ok := dk_ok
  new := dnew_any
  size := fun h => (dsize_any h).mono fun e w' ⟨he, hw⟩ => ⟨he, by subst hw; exact Below.refl _ _⟩
  write := fun h hF i aa len cc l hi hl hlc hcm hn hE hA => dwrite_any h hF i aa len cc l hi hl hlc hcm hn hE hA
  read := fun h i hi => dread_any h i hi
  flush := fun h hF => (dflush_any h hF).mono fun e w' ⟨he, hd, hC⟩ => ⟨he, dk_mono hd fun _ => more_old, hC⟩
  fuse := fun h hF n hn => (dfuse_any h n hn).mono fun e w' ⟨he, hd, hC, _⟩ => ⟨he, dk_mono hd fun _ => more_old, hC⟩
  crash := fun h hF keep torn cut _ _ _ => (dcrash_any h hF keep torn cut).mono fun e w' ⟨he, hd, hC⟩ => ⟨he, dk_mono hd fun _ => more_old, hC⟩

/-! ### No disk -/

theorem nsize_any (w : World) : Calls Try.prog 22 #[.pointer none] w fun e w' => e = .returned (.int .i64 0) ∧ w' = w := by
  go_enter Try.func22, Try.ntmps22
  go_wp2
  go_ret
  exact ⟨rfl, rfl⟩

end Go.Proofs.Ytdgfoldobofgoaa.Dsk
/- Frame: the landed way of a record, as plain data: its data with what fills the last sector; sectors read a piece at a time. -/
namespace Go.Proofs.Ytdgfoldobofgoaa.Frm
open Oct
open Chk
set_option linter.unusedVariables false

/-- What a record's sectors have, but for their stamps. -/
def rawD (st b : Bs) : Bs := beB 2 b.length ++ beB 4 (crc 0xffffffff#32 (st ++ beB 2 b.length ++ b)).toNat ++ b
theorem rawD_length (st b : Bs) : (rawD st b).length = b.length + 6 := by simp [rawD, beB_length]; omega
theorem rawD_mark (e q : Nat) (b : Bs) : rawD (mark e q) b = dataB e q b := rfl
def dataP (st b : Bs) : Bs := rawD st b ++ List.replicate (24 * secs b.length - (b.length + 6)) 0
theorem dataP_length (st b : Bs) : (dataP st b).length = 24 * secs b.length := by
  have := secs_room b.length
  rw [dataP, List.length_append, rawD_length, List.length_replicate]; omega
theorem dataP_at (st b : Bs) (i : Nat) : (dataP st b).getD i 0 = (rawD st b).getD i 0 := by
  unfold dataP
  by_cases h : i < (rawD st b).length
  · rw [getD_left h]
  · rw [getD_past (by omega : (rawD st b).length ≤ i), List.getD, List.getElem?_append_right (by omega)]
    cases hx : (List.replicate (24 * secs b.length - (b.length + 6)) (0 : UInt8))[i - (rawD st b).length]? with
    | none => rfl
    | some x =>
      have := List.mem_of_getElem? hx
      rw [List.mem_replicate] at this
      rw [this.2]; rfl
theorem getD_ext {l k : Bs} (hl : l.length = k.length) (h : ∀ i, i < l.length → l.getD i 0 = k.getD i 0) : l = k := by
  apply List.ext_getElem hl
  intro i h1 h2
  have := h i h1
  simpa [List.getD, h1, h2] using this
theorem getD_drop (l : Bs) (a i : Nat) : (l.drop a).getD i 0 = l.getD (a + i) 0 := by simp [List.getD, List.getElem?_drop]
theorem getD_take {l : Bs} {a i : Nat} (h : i < a) : (l.take a).getD i 0 = l.getD i 0 := by simp [List.getD, List.getElem?_take_of_lt h]
/-- A piece of the data. -/
theorem piece_chunk (e q : Nat) (b : Bs) {k : Nat} (hk : k < secs b.length) : ((dataP (mark e q) b).drop (24 * k)).take 24 = chunk (dataB e q b) k := by
  have hl := dataP_length (mark e q) b
  apply getD_ext
  · rw [List.length_take, List.length_drop, hl, chunk_length]; omega
  · intro i hi
    rw [List.length_take, List.length_drop, hl] at hi
    rw [getD_take (by omega), getD_drop, dataP_at, rawD_mark]
    unfold chunk
    simp [List.getD, show i < 24 by omega]

/-- What sectors have, but for their stamps; the stamp of each. -/
def dataL (s : Bs) (K : Nat) : Bs := (List.range (24 * K)).map fun i => s.getD (i / 24 * 32 + i % 24) 0
theorem dataL_length (s : Bs) (K : Nat) : (dataL s K).length = 24 * K := by simp [dataL]
theorem dataL_at (s : Bs) {K i : Nat} (h : i < 24 * K) : (dataL s K).getD i 0 = s.getD (i / 24 * 32 + i % 24) 0 := by
  simp [dataL, List.getD, h]
def stampL (s : Bs) (i : Nat) : Bs := (s.drop (32 * i + 24)).take 8
theorem stampL_length {s : Bs} {i : Nat} (h : 32 * (i + 1) ≤ s.length) : (stampL s i).length = 8 := by
  rw [stampL, List.length_take, List.length_drop]; omega
theorem stampL_at (s : Bs) {i r : Nat} (h : r < 8) : (stampL s i).getD r 0 = s.getD (32 * i + 24 + r) 0 := by
  rw [stampL, getD_take h, getD_drop]
/-- One sector more. -/
theorem dataL_succ {s : Bs} {k : Nat} (h : 32 * (k + 1) ≤ s.length) : dataL s k ++ (s.drop (32 * k)).take 24 = dataL s (k + 1) := by
  have hl := dataL_length s k
  apply getD_ext
  · rw [List.length_append, hl, dataL_length, List.length_take, List.length_drop]; omega
  · intro i hi
    rw [List.length_append, hl, List.length_take, List.length_drop] at hi
    rw [dataL_at s (by omega)]
    by_cases h1 : i < 24 * k
    · rw [getD_left (by omega), dataL_at s h1]
    · rw [List.getD, List.getElem?_append_right (by omega), hl, ← List.getD, getD_take (by omega), getD_drop]
      congr 1; omega
theorem body_data (s : Bs) {n K : Nat} (h : n + 6 ≤ 24 * K) : bodyB s n = ((dataL s K).drop 6).take n := by
  apply getD_ext
  · rw [bodyB_length, List.length_take, List.length_drop, dataL_length]; omega
  · intro i hi
    rw [bodyB_length] at hi
    rw [getD_take hi, getD_drop, dataL_at s (by omega)]
    simp [bodyB, List.getD, hi]
/-- The first stamp is the mark of the numbers in it. -/
theorem mark_stamp {s : Bs} (h : 32 ≤ s.length) : mark (numK s 24 4) (numK s 28 4) = stampL s 0 := by
  apply getD_ext
  · rw [mark_length, stampL_length (by omega)]
  · intro i hi
    rw [mark_length] at hi
    rw [stampL_at s hi, Nat.mul_zero, Nat.zero_add]
    have b4 : ∀ (o r : Nat), r < 4 → (beB 4 (numK s o 4)).getD r 0 = s.getD (o + r) 0 := by
      intro o r hr
      rw [getD_is (beB_at 4 _ r hr)]
      apply UInt8.toNat.inj
      rw [u8_of]
      simp only [numK]
      obtain ⟨x0, hx0⟩ : ∃ x, x = s.getD (o + 0) 0 := ⟨_, rfl⟩
      obtain ⟨x1, hx1⟩ : ∃ x, x = s.getD (o + 1) 0 := ⟨_, rfl⟩
      obtain ⟨x2, hx2⟩ : ∃ x, x = s.getD (o + 2) 0 := ⟨_, rfl⟩
      obtain ⟨x3, hx3⟩ : ∃ x, x = s.getD (o + 3) 0 := ⟨_, rfl⟩
      have h0 := x0.toNat_lt
      have h1 := x1.toNat_lt
      have h2 := x2.toNat_lt
      have h3 := x3.toNat_lt
      rw [← hx0, ← hx1, ← hx2, ← hx3]
      obtain rfl | rfl | rfl | rfl : r = 0 ∨ r = 1 ∨ r = 2 ∨ r = 3 := by omega
      · rw [← hx0, show (256 : Nat) ^ (4 - 1 - 0) = 16777216 from rfl]; clear hx0 hx1 hx2 hx3; omega
      · rw [← hx1, show (256 : Nat) ^ (4 - 1 - 1) = 65536 from rfl]; clear hx0 hx1 hx2 hx3; omega
      · rw [← hx2, show (256 : Nat) ^ (4 - 1 - 2) = 256 from rfl]; clear hx0 hx1 hx2 hx3; omega
      · rw [← hx3, show (256 : Nat) ^ (4 - 1 - 3) = 1 from rfl]; clear hx0 hx1 hx2 hx3; omega
    unfold mark
    by_cases h4 : i < 4
    · rw [getD_left (by rw [beB_length]; exact h4), b4 24 i h4]
    · rw [List.getD, List.getElem?_append_right (by rw [beB_length]; omega), beB_length, ← List.getD, b4 28 (i - 4) (by omega)]
      congr 1; omega
/-- The landed way to see whether sectors are a record's. -/
theorem pack_iff {s b : Bs} {e q : Nat} (hl : 32 * secs b.length ≤ s.length) : packB e q b = s.take (32 * secs b.length) ↔ (∀ i, i < secs b.length → stampL s i = mark e q) ∧ dataL s (secs b.length) = dataP (mark e q) b := by
  have hpl := packB_length e q b
  constructor
  · intro h
    have hg : ∀ i, i < 32 * secs b.length → (packB e q b).getD i 0 = s.getD i 0 := fun i hi => by rw [h, getD_take hi]
    refine ⟨fun i hi => getD_ext (by rw [stampL_length (by omega), mark_length]) fun r hr => ?_, getD_ext (by rw [dataL_length, dataP_length]) fun i hi => ?_⟩
    · rw [stampL_length (by omega)] at hr
      rw [stampL_at s hr, ← hg _ (by omega)]
      have := packN_stamp (d := dataB e q b) (mark_length e q) hi hr
      unfold packB
      rw [List.getD, this, List.getD]
    · rw [dataL_length] at hi
      rw [dataL_at s hi, dataP_at, rawD_mark, ← hg _ (by omega)]
      have := packN_data (d := dataB e q b) (mark_length e q) (k := secs b.length) (q := i / 24) (r := i % 24) (by omega) (by omega)
      unfold packB
      rw [show i / 24 * 32 + i % 24 = 32 * (i / 24) + i % 24 by omega, getD_is this, show 24 * (i / 24) + i % 24 = i by omega]
  · rintro ⟨h1, h2⟩
    apply getD_ext
    · rw [hpl, List.length_take]; omega
    · intro i hi
      rw [hpl] at hi
      rw [getD_take hi]
      have hq : i / 32 < secs b.length := by omega
      by_cases hr : i % 32 < 24
      · have := packN_data (d := dataB e q b) (mark_length e q) hq hr
        unfold packB
        rw [show i = 32 * (i / 32) + i % 32 by omega, getD_is this]
        have h3 := dataP_at (mark e q) b (24 * (i / 32) + i % 32)
        rw [← h2, rawD_mark, dataL_at s (by omega)] at h3
        rw [← h3]
        congr 1; omega
      · have := packN_stamp (d := dataB e q b) (mark_length e q) hq (r := i % 32 - 24) (by omega)
        unfold packB
        rw [show i = 32 * (i / 32) + 24 + (i % 32 - 24) by omega, List.getD, this, ← List.getD, ← h1 _ hq, stampL_at s (by omega)]
/-- What the landed way finds. -/
theorem unpack_land {s : Bs} (h32 : ¬ s.length < 32) (hk : ¬ s.length < 32 * secs (two s)) : unpackB s = if (∀ i, i < secs (two s) → stampL s i = stampL s 0) ∧ dataL s (secs (two s)) = dataP (stampL s 0) (bodyB s (two s)) then some (numK s 24 4, numK s 28 4, bodyB s (two s), secs (two s)) else none := by
  have hp := pack_iff (s := s) (b := bodyB s (two s)) (e := numK s 24 4) (q := numK s 28 4) (by rw [bodyB_length]; omega)
  rw [bodyB_length, mark_stamp (by omega)] at hp
  unfold unpackB
  rw [if_neg h32, if_neg hk]
  by_cases h : packB (numK s 24 4) (numK s 28 4) (bodyB s (two s)) = s.take (32 * secs (two s))
  · rw [if_pos h, if_pos (hp.1 h)]
  · rw [if_neg h, if_neg fun h' => h (hp.2 h')]
end Go.Proofs.Ytdgfoldobofgoaa.Frm
/- Octet: what bytes come to. -/
namespace Go.Proofs.Ytdgfoldobofgoaa.Oct
open Go.RowKit
open Go.Sort
open Kit
set_option linter.unusedVariables false

theorem or_low (x y : Nat) (hy : y < 256) : bits BinOp.or IntKind.u64 (IntKind.u64.wrap ((x : Int) * 256)) (y : Int) = (((x * 256 + y) % 18446744073709551616 : Nat) : Int) := by
  have e : IntKind.u64.wrap ((x : Int) * 256) = ((x * 256 % 18446744073709551616 : Nat) : Int) := by rw [IntKind.wrap_u64]; omega
  rw [e, bits_or_u64_nat _ _ (by omega) (by omega), nat_join 8 _ _ (by omega) hy]
  omega

set_option maxHeartbeats 1000000 in
theorem number_any (a : Option Addr) (len cap : Nat) (l : List UInt8) (w : World) (hl : l.length = len) (hm : len ≤ maxLen) (hE : RowB w a l) :
    Calls Try.prog 68 #[.slice a len cap] w fun e w' => e = .returned (.int .u64 (numB l : Nat)) ∧ w = w' := by
  unfold maxLen at hm
  have HL := Lib.hid hl
  have HE := Lib.hid hE
  clear hl hE
  go_enter Try.func68, Try.ntmps68
  go_wp2
  go_loop [3, 8] (fun n i => ∃ k : Nat, k ≤ len ∧ i = .int .i64 k ∧ n = .int .u64 (numF 0 (l.take k) : Nat)) (fun _ i => len - (intOf i).toNat)
  case atStart => exact ⟨0, Nat.zero_le _, rfl, rfl⟩
  case round =>
    obtain ⟨k, hk, rfl, rfl⟩ := hrel
    by_cases hlt : k < len
    · have hkl : k < l.length := by rw [HL.out]; exact hlt
      obtain ⟨b, off, HA⟩ := row_some HE.out (by omega)
      have ha := HA.out
      subst ha
      have c0 := row_cell HE.out hkl rfl (i := 0) (by omega)
      have hb := (l[k]).toNat_lt
      have HS : Hid (numF 0 (l.take (k + 1)) = (numF 0 (l.take k) * 256 + (l[k]).toNat) % 18446744073709551616) := by
        exact Lib.hid (by rw [List.take_succ_eq_append_getElem hkl, numF_snoc])
      have hn := numF_lt 0 (by decide) (l.take k)
      simp only [encB, Nat.mul_one, Nat.add_zero, List.getElem?_cons_zero] at c0
      generalize hx : numF 0 (l.take k) = x at *
      generalize hy : l[k].toNat = y at *
      go_wp2
      go_round
      case rel => exact ⟨k + 1, by omega, by go_num, by rw [HS.out, or_low x y hb]⟩
      case measure => simp [intOf]; omega
    · obtain rfl : k = len := by omega
      go_wp2
      go_ret
      have e : l.take k = l := by rw [← HL.out, List.take_length]
      refine ⟨?_, rfl⟩
      rw [e]; rfl

set_option maxHeartbeats 1000000 in
theorem spoil_any (p : Nat) (v0 v1 : Value) (w : World) (h0 : w.cell? ⟨p, 0, none⟩ = some v0) (h1 : w.cell? ⟨p, 1, none⟩ = some v1) (f0 : w.frozen? ⟨p, 0, none⟩ = false) (f1 : w.frozen? ⟨p, 1, none⟩ = false) :
    Calls Try.prog 71 #[.pointer (some ⟨p, 0, none⟩)] w fun e w' => e = .returned (.tuple #[]) ∧ w' = (w.setCell ⟨p, 1, none⟩ (.bool true)).setCell ⟨p, 0, none⟩ (.slice none 0 0) := by
  go_enter Try.func71, Try.ntmps71
  go_wp2
  go_end0
  exact ⟨rfl, rfl⟩

end Go.Proofs.Ytdgfoldobofgoaa.Oct
/- Octet: what a Reader holds. -/
namespace Go.Proofs.Ytdgfoldobofgoaa.Oct
open Go.RowKit
open Go.Sort
open Kit
set_option linter.unusedVariables false

/-- A Reader's state: what is left to read; none: it is bad. -/
abbrev RS := Option (List UInt8)

/-- The Reader at p, all of it from block B on. -/
def Rdr (B : Nat) (w : World) (p : Nat) (s : RS) : Prop :=
  ∃ a cap, w.cell? ⟨p, 0, none⟩ = some (.slice a (s.getD []).length cap) ∧ w.cell? ⟨p, 1, none⟩ = some (.bool s.isNone) ∧ w.frozen? ⟨p, 0, none⟩ = false ∧ w.frozen? ⟨p, 1, none⟩ = false ∧
    (s.getD []).length ≤ cap ∧ cap ≤ maxLen ∧ (a = none → cap = 0) ∧ RowB w a (s.getD []) ∧ B ≤ p ∧ (∀ q, a = some q → B ≤ q.block ∧ q.block ≠ p ∧ q.block < w.heap.size)

theorem rdr_lt {B : Nat} {w : World} {p : Nat} {s : RS} (h : Rdr B w p s) : p < w.heap.size := by
  obtain ⟨a, cap, h0, _⟩ := h
  exact World.block_lt_of_cell? w _ h0
theorem rdr_ge {B : Nat} {w : World} {p : Nat} {s : RS} (h : Rdr B w p s) : B ≤ p := by
  obtain ⟨a, cap, _, _, _, _, _, _, _, _, h6, _⟩ := h
  exact h6
theorem rdr_far {B : Nat} {w w' : World} {p g : Nat} {s : RS} (h : Rdr B w p s) (hg : w.grownBy w' (some g)) (hne : g < B) : Rdr B w' p s := by
  have hp := rdr_lt h
  obtain ⟨a, cap, h0, h1, f0, f1, h2, h3, h4, h5, h6, h7⟩ := h
  have hk := hg.block p hp (by intro e; injection e; omega)
  refine ⟨a, cap, hg.cell h0 (by simp; omega), hg.cell h1 (by simp; omega), (frozen_of_block hk).trans f0, (frozen_of_block hk).trans f1, h2, h3, h4, row_far h5 hg ?_, h6, fun q hq => ?_⟩
  · intro q hq e
    have := (h7 q hq).1
    injection e; omega
  · have := h7 q hq
    exact ⟨this.1, this.2.1, Nat.lt_of_lt_of_le this.2.2 hg.size⟩
theorem rdr_keep {B : Nat} {w w' : World} {p : Nat} {s : RS} (h : Rdr B w p s) (hb : Below w.heap.size w w') : Rdr B w' p s := by
  have hp := rdr_lt h
  obtain ⟨a, cap, h0, h1, f0, f1, h2, h3, h4, h5, h6, h7⟩ := h
  exact ⟨a, cap, cell_keep hb h0, cell_keep hb h1, ((bcell hb).2 p 0 hp).trans f0, ((bcell hb).2 p 1 hp).trans f1, h2, h3, h4, row_keep encB_len h5 hb, h6, fun q hq => ⟨(h7 q hq).1, (h7 q hq).2.1, Nat.lt_of_lt_of_le (h7 q hq).2.2 hb.size⟩⟩

/-- Both fields of a Reader set. -/
theorem rdr_set {B : Nat} {w : World} {p : Nat} {s : RS} (h : Rdr B w p s) (v1 : Value) (v0 : Value) :
    ((w.setCell ⟨p, 1, none⟩ v1).setCell ⟨p, 0, none⟩ v0).cell? ⟨p, 0, none⟩ = some v0 ∧ ((w.setCell ⟨p, 1, none⟩ v1).setCell ⟨p, 0, none⟩ v0).cell? ⟨p, 1, none⟩ = some v1 := by
  obtain ⟨a, cap, h0, h1, _⟩ := h
  exact ⟨same_cell (set_off (by decide) h0) _, set_off (by decide) (same_cell h1 _)⟩

theorem rdr_bad {B : Nat} {w : World} {p : Nat} {s : RS} (h : Rdr B w p s) :
    Rdr B ((w.setCell ⟨p, 1, none⟩ (.bool true)).setCell ⟨p, 0, none⟩ (.slice none 0 0)) p none ∧ w.grownBy ((w.setCell ⟨p, 1, none⟩ (.bool true)).setCell ⟨p, 0, none⟩ (.slice none 0 0)) (some p) := by
  have hs := rdr_set h (.bool true) (.slice none 0 0)
  obtain ⟨a, cap, h0, h1, f0, f1, h2, h3, h4, h5, h6, h7⟩ := h
  refine ⟨⟨none, 0, hs.1, hs.2, ?_, ?_, Nat.le_refl _, by unfold maxLen; omega, fun _ => rfl, .inl rfl, h6, fun q hq => by cases hq⟩, grown_trans (grown_setCell _ _ _ _) (grown_setCell _ _ _ _)⟩
  · simp [go_sem, f0]
  · simp [go_sem, f1]

theorem spoil_rdr {B : Nat} {p : Nat} {s : RS} {w : World} (h : Rdr B w p s) :
    Calls Try.prog 71 #[.pointer (some ⟨p, 0, none⟩)] w fun e w' => e = .returned (.tuple #[]) ∧ Rdr B w' p none ∧ w.grownBy w' (some p) := by
  have hb := rdr_bad h
  obtain ⟨a, cap, h0, h1, f0, f1, _⟩ := h
  refine (spoil_any p _ _ w h0 h1 f0 f1).mono fun e w' he => ?_
  obtain ⟨rfl, rfl⟩ := he
  exact ⟨rfl, hb⟩

set_option maxHeartbeats 1000000 in
theorem spoil_nil (w : World) :
    Calls Try.prog 71 #[.pointer none] w fun e w' => e = .returned (.tuple #[]) ∧ w = w' := by
  go_enter Try.func71, Try.ntmps71
  go_wp2
  go_end0
  exact ⟨rfl, rfl⟩

/-! ### take -/

/-- A Reader whose rest is set. -/
theorem rdr_rest {B : Nat} {w : World} {p n : Nat} {l : List UInt8} {a a' : Option Addr} {cap cap' : Nat} (h0 : w.cell? ⟨p, 0, none⟩ = some (.slice a l.length cap)) (h1 : w.cell? ⟨p, 1, none⟩ = some (.bool false))
    (f0 : w.frozen? ⟨p, 0, none⟩ = false) (f1 : w.frozen? ⟨p, 1, none⟩ = false) (h6 : B ≤ p) (hc : l.length - n ≤ cap') (hm : cap' ≤ maxLen) (hz : a' = none → cap' = 0) (hr : RowB w a' (l.drop n))
    (hq : ∀ q, a' = some q → B ≤ q.block ∧ q.block ≠ p ∧ q.block < w.heap.size) : Rdr B (w.setCell ⟨p, 0, none⟩ (.slice a' (l.length - n) cap')) p (some (l.drop n)) := by
  refine ⟨a', cap', ?_, set_off (by decide) h1, ?_, ?_, ?_, hm, hz, row_setCell hr fun q hq' => (hq q hq').2.1, h6, fun q hq' => ⟨(hq q hq').1, (hq q hq').2.1, ?_⟩⟩
  · rw [same_cell h0]; simp
  · simp [go_sem, f0]
  · simp [go_sem, f1]
  · simpa using hc
  · rw [setCell_size]; exact (hq q hq').2.2

theorem take_end1 {B : Nat} {p n : Nat} {l : List UInt8} {w : World} {a : Option Addr} {cap : Nat} (h0 : w.cell? ⟨p, 0, none⟩ = some (.slice a l.length cap)) (h1 : w.cell? ⟨p, 1, none⟩ = some (.bool false))
    (f0 : w.frozen? ⟨p, 0, none⟩ = false) (f1 : w.frozen? ⟨p, 1, none⟩ = false) (h2 : l.length ≤ cap) (h3 : cap ≤ 2 ^ 63 - 1) (h4 : a = none → cap = 0) (h5 : RowB w a l) (h6 : B ≤ p) (h7 : ∀ q, a = some q → B ≤ q.block ∧ q.block ≠ p ∧ q.block < w.heap.size)
    (hn : n ≤ l.length) (hc : cap = n) (w' : World) (hw : w' = w.setCell ⟨p, 0, none⟩ (.slice a (l.length - n) 0)) :
    n ≤ n ∧ n ≤ maxLen ∧ (a = none → n = 0) ∧ RowB w' a (l.take n) ∧ Rdr B w' p (some (l.drop n)) ∧ w.grownBy w' (some p) := by
  subst hw hc
  have e : l.drop cap = [] := List.drop_eq_nil_iff.2 (by omega)
  exact ⟨by omega, h3, h4, row_setCell (row_take h5 cap) fun q hq => (h7 q hq).2.1, rdr_rest h0 h1 f0 f1 h6 (by omega) (by unfold maxLen; omega) (fun _ => rfl) (by rw [e]; exact .inl rfl) h7, grown_setCell _ _ _ _⟩

theorem take_end2 {B : Nat} {p n : Nat} {l : List UInt8} {w : World} {a : Option Addr} {cap : Nat} (h0 : w.cell? ⟨p, 0, none⟩ = some (.slice a l.length cap)) (h1 : w.cell? ⟨p, 1, none⟩ = some (.bool false))
    (f0 : w.frozen? ⟨p, 0, none⟩ = false) (f1 : w.frozen? ⟨p, 1, none⟩ = false) (h2 : l.length ≤ cap) (h3 : cap ≤ 2 ^ 63 - 1) (h4 : a = none → cap = 0) (h5 : RowB w a l) (h6 : B ≤ p) (h7 : ∀ q, a = some q → B ≤ q.block ∧ q.block ≠ p ∧ q.block < w.heap.size)
    (_hn : n ≤ l.length) (hc : ¬ cap = n) (w' : World) (hw : w' = w.setCell ⟨p, 0, none⟩ (.slice (Option.map (fun x => x.add n) a) (l.length - n) (cap - n))) :
    n ≤ cap ∧ cap ≤ maxLen ∧ (a = none → cap = 0) ∧ RowB w' a (l.take n) ∧ Rdr B w' p (some (l.drop n)) ∧ w.grownBy w' (some p) := by
  subst hw
  refine ⟨by omega, h3, h4, row_setCell (row_take h5 n) fun q hq => (h7 q hq).2.1, rdr_rest h0 h1 f0 f1 h6 (by omega) (by unfold maxLen; omega) ?_ ?_ ?_, grown_setCell _ _ _ _⟩
  · intro he
    rw [Option.map_eq_none_iff] at he
    have := h4 he
    omega
  · have h5' := h5
    rcases h5' with rfl | ⟨b, off, rfl, _⟩
    · exact .inl (by simp)
    · have := row_drop h5 n
      rw [Nat.mul_one] at this
      simp only [Option.map_some, add_plain]
      exact this
  · intro q hq
    obtain ⟨q', hq', rfl⟩ := Option.map_eq_some_iff.1 hq
    have e : (q'.add n).block = q'.block := by unfold Addr.add; split <;> rfl
    rw [e]; exact h7 q' hq'

set_option maxHeartbeats 1000000 in
theorem take_bad {B : Nat} {p : Nat} {s : RS} {w : World} (n : Nat) (h : Rdr B w p s) (hn : ∀ l, s = some l → l.length < n) :
    Calls Try.prog 69 #[.pointer (some ⟨p, 0, none⟩), .int .i64 n] w fun e w' => e = .returned (.slice none 0 0) ∧ Rdr B w' p none ∧ w.grownBy w' (some p) := by
  have hc := spoil_rdr h
  have HC := Lib.hid hc
  obtain ⟨a, cap, h0, h1, _⟩ := h
  clear hc
  cases s with
  | none =>
    simp only [Option.getD_none, Option.isNone_none, List.length_nil] at h0 h1
    go_enter Try.func69, Try.ntmps69
    go_wp2_with fail
    refine HC.out.mono ?_
    rintro e w1 ⟨rfl, h2, h3⟩
    go_wp2
    go_ret
    exact ⟨rfl, h2, h3⟩
  | some l =>
    have hl := hn l rfl
    simp only [Option.getD_some, Option.isNone_some] at h0 h1
    go_enter Try.func69, Try.ntmps69
    go_wp2_with fail
    refine HC.out.mono ?_
    rintro e w1 ⟨rfl, h2, h3⟩
    go_wp2
    go_ret
    exact ⟨rfl, h2, h3⟩

set_option maxHeartbeats 1000000 in
theorem take_nil (w : World) (n : Nat) :
    Calls Try.prog 69 #[.pointer none, .int .i64 n] w fun e w' => e = .returned (.slice none 0 0) ∧ w = w' := by
  go_enter Try.func69, Try.ntmps69
  go_wp2_with fail
  refine (spoil_nil w).mono ?_
  rintro e w1 ⟨rfl, rfl⟩
  go_wp2
  go_ret
  exact ⟨rfl, rfl⟩

set_option maxHeartbeats 1000000 in
theorem take_ok {B : Nat} {p : Nat} {l : List UInt8} {w : World} (n : Nat) (h : Rdr B w p (some l)) (hn : n ≤ l.length) :
    Calls Try.prog 69 #[.pointer (some ⟨p, 0, none⟩), .int .i64 n] w fun e w' => ∃ a c, e = .returned (.slice a n c) ∧ n ≤ c ∧ c ≤ maxLen ∧ (a = none → c = 0) ∧ RowB w' a (l.take n) ∧ Rdr B w' p (some (l.drop n)) ∧ w.grownBy w' (some p) := by
  obtain ⟨a, cap, h0, h1, f0, f1, h2, h3, h4, h5, h6, h7⟩ := h
  simp only [Option.getD_some, Option.isNone_some] at h0 h1 h2 h5
  unfold maxLen at h3
  go_enter Try.func69, Try.ntmps69
  go_wp2
  case inl =>
    go_ret
    exact ⟨_, _, rfl, take_end1 h0 h1 f0 f1 h2 h3 h4 h5 h6 h7 hn (by omega) _ rfl⟩
  case inr =>
    go_ret
    exact ⟨_, _, rfl, take_end2 h0 h1 f0 f1 h2 h3 h4 h5 h6 h7 hn (by omega) _ rfl⟩

/-! ### Int, Text -/

def toI64 (n : Nat) : Int := if n < 9223372036854775808 then (n : Int) else (n : Int) - 18446744073709551616
def rInt : RS → Int × RS
  | some l => if 8 ≤ l.length then (toI64 (numB (l.take 8)), some (l.drop 8)) else (0, none)
  | none => (0, none)
def rText (most : Int) : RS → ByteArray × RS
  | some l => if 2 ≤ l.length ∧ ((numB (l.take 2) : Nat) : Int) ≤ most ∧ numB (l.take 2) ≤ l.length - 2 then (⟨((l.drop 2).take (numB (l.take 2))).toArray⟩, some ((l.drop 2).drop (numB (l.take 2)))) else (⟨#[]⟩, none)
  | none => (⟨#[]⟩, none)

theorem wrap_i64 (n : Nat) (h : n < 18446744073709551616) : wrap64 (n : Int) = toI64 n := by
  unfold toI64 wrap64
  split <;> omega
theorem number_nil (w : World) : Calls Try.prog 68 #[.slice none 0 0] w fun e w' => e = .returned (.int .u64 0) ∧ w = w' :=
  number_any none 0 0 [] w rfl (by unfold maxLen; omega) (.inl rfl)

set_option maxHeartbeats 1000000 in
theorem int_rdr {B : Nat} {p : Nat} {s : RS} {w : World} (h : Rdr B w p s) :
    Calls Try.prog 60 #[.pointer (some ⟨p, 0, none⟩)] w fun e w' => e = .returned (.int .i64 (rInt s).1) ∧ Rdr B w' p (rInt s).2 ∧ w.grownBy w' (some p) := by
  by_cases hok : ∃ l, s = some l ∧ 8 ≤ l.length
  · obtain ⟨l, rfl, hl⟩ := hok
    have e : rInt (some l) = (toI64 (numB (l.take 8)), some (l.drop 8)) := by simp only [rInt]; rw [if_pos hl]
    have hlt := numB_lt (l.take 8)
    have HE := Lib.hid e
    clear e
    go_enter Try.func60, Try.ntmps60
    go_wp2_with fail
    refine (take_ok 8 h hl).mono ?_
    rintro e w1 ⟨a, c, rfl, h1, h2, h3, h4, h5, h6⟩
    go_wp2_with fail
    refine (number_any a 8 c (l.take 8) w1 (by rw [List.length_take]; omega) (by unfold maxLen; omega) h4).mono ?_
    rintro e w2 ⟨rfl, rfl⟩
    go_wp2
    go_ret
    rw [HE.out]
    exact ⟨by rw [← wrap_i64 _ hlt]; rfl, h5, h6⟩
  · have e : rInt s = (0, none) := by
      cases s with
      | none => rfl
      | some l => simp only [rInt]; exact if_neg (fun hl => hok ⟨l, rfl, hl⟩)
    have HE := Lib.hid e
    clear e
    go_enter Try.func60, Try.ntmps60
    go_wp2_with fail
    refine (take_bad 8 h (fun l hl => by rcases Nat.lt_or_ge l.length 8 with h8 | h8; exact h8; exact absurd ⟨l, hl, h8⟩ hok)).mono ?_
    rintro e w1 ⟨rfl, h5, h6⟩
    go_wp2_with fail
    refine (number_nil w1).mono ?_
    rintro e w2 ⟨rfl, rfl⟩
    go_wp2
    go_ret
    rw [HE.out]
    exact ⟨rfl, h5, h6⟩

set_option maxHeartbeats 1000000 in
theorem int_nil (w : World) :
    Calls Try.prog 60 #[.pointer none] w fun e w' => e = .returned (.int .i64 0) ∧ w = w' := by
  go_enter Try.func60, Try.ntmps60
  go_wp2_with fail
  refine (take_nil w 8).mono ?_
  rintro e w1 ⟨rfl, rfl⟩
  go_wp2_with fail
  refine (number_nil w).mono ?_
  rintro e w2 ⟨rfl, rfl⟩
  go_wp2
  go_ret
  exact ⟨rfl, rfl⟩

end Go.Proofs.Ytdgfoldobofgoaa.Oct
