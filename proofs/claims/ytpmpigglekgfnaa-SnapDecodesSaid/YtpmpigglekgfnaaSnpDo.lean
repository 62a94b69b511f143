/- Texts that were written one by one, laid behind one another. -/
import Derived.Test.YtpmpigglekgfnaaSnpMem
import Derived.Test.YtpmpigglekgfnaaOctPutT
import Derived.Test.YtpmpigglekgfnaaOctNew
import Derived.Test.YtpmpigglekgfnaaFoot
import Derived.Test.YtpmpigglekgfnaaSnpEnL
import Derived.Test.YtpmpigglekgfnaaRegSee
import Derived.Test.YtpmpigglekgfnaaOctRdS
import Derived.Test.YtpmpigglekgfnaaResC
import Derived.Test.YtpmpigglekgfnaaOneArm
/- Snap: the landed numbers and texts, put behind bytes of one's own. -/
namespace Go.Proofs.Ytpmpigglekgfnaa.Snp
set_option maxRecDepth 100000
open Go.RowKit
open Go.Sort
open Kit
open Oct
open Foot
open Tre (Lst inI lst_keep lst_take lst_at lst_new lst_none i64_wf cells_int IntsL int_cell encI encI_len encI_one info_i)
open Ent (NB nb_keep nb_own nb_new int8 txt ints ints_len int8_len txt_len)
set_option linter.unusedVariables false
set_option linter.unusedSimpArgs false
variable {w w' : World}

/-- Where bytes lie that others were put behind: in place, or in new memory. -/
def Moved (w : World) (v v' : Value) : Prop := v'.ownBlock = v.ownBlock ∨ ∃ g, v'.ownBlock = some g ∧ w.heap.size ≤ g
/-- What a call leaves that puts bytes behind one's own. -/
def OutA (w : World) (base : Nat) (v : Value) (L : List UInt8) (e : Ending) (w' : World) : Prop := ∃ a n c, e = .returned (.slice a n c) ∧ OwnB w' base (.slice a n c) L ∧ Chg (fun k => some k = v.ownBlock) w w' ∧ Moved w v (.slice a n c)
theorem moved_trans {w1 : World} {u v x : Value} (h : Moved w u v) (hs : w.heap.size ≤ w1.heap.size) (k : Moved w1 v x) : Moved w u x := by
  rcases k with k | ⟨g, k1, k2⟩
  · unfold Moved
    rw [k]; exact h
  · exact .inr ⟨g, k1, Nat.le_trans hs k2⟩
theorem moved_chg {w1 w2 : World} {u v : Value} (h : Moved w u v) (hC : Chg (fun k => some k = u.ownBlock) w w1) (k : Chg (fun k => some k = v.ownBlock) w1 w2) : Chg (fun k => some k = u.ownBlock) w w2 :=
  chg_trans hC k fun x hx => by
    rcases h with h | ⟨g, h1, h2⟩
    · exact .inl (hx.trans h)
    · rw [h1] at hx
      injection hx with hx
      exact .inr (by omega)
theorem own_at {base n c : Nat} {a : Option Addr} {L : List UInt8} (h : OwnB w base (.slice a n c) L) : L.length = n := by
  obtain ⟨a', c', e, _⟩ := own_row h
  injection e with _ e2 _
  exact e2.symm
theorem nums_take {l : List Int} {k : Nat} {x : Int} (h : l[k]? = some x) : ints (l.take (k + 1)) = ints (l.take k) ++ int8 x := by
  rw [List.take_add_one, h]
  simp [ints]
theorem own_sl {base : Nat} {v : Value} {L : List UInt8} (h : OwnB w base v L) : ∃ a n c, v = .slice a n c := by
  obtain ⟨a, c, e, _⟩ := own_row h
  exact ⟨a, _, c, e⟩
theorem ints_chg {F : Nat → Prop} {a : Option Addr} {n c : Nat} {xs : List Int} (hC : Chg F w w') (h : IntsL w a n c xs) (hF : ∀ q, a = some q → ¬ F q.block) : IntsL w' a n c xs := by
  obtain ⟨h1, h2, h3, h4, h5⟩ := h
  refine ⟨h1, h2, h3, h4, ?_⟩
  rcases h5 with e | ⟨b, o, e, hr⟩
  · exact .inl e
  · subst e
    exact row_chg encI_len hC (.inr ⟨b, o, rfl, hr⟩) (hF _ rfl)
set_option maxHeartbeats 4000000 in
theorem numbers_any {base n c n2 c2 : Nat} {a a2 : Option Addr} {L : List UInt8} {xs : List Int} (h : OwnB w base (.slice a n c) L) (hx : IntsL w a2 n2 c2 xs) (hq : ∀ q, a2 = some q → some q.block ≠ (Value.slice a n c).ownBlock ∧ q.block < w.heap.size) (hn : L.length ≤ 100000) (hn2 : n2 ≤ 1000) (hB : base ≤ w.heap.size) :
    Calls Try.prog 14 #[.slice a n c, .slice a2 n2 c2] w (OutA w base (.slice a n c) (L ++ ints xs)) := by
  have HI := Lib.hid (And.intro h hx)
  have HL := Lib.hid (And.intro hn hx.len)
  have HQ := Lib.hid hq
  have HB := Lib.hid hB
  clear h hx hB hn hq
  go_enter Try.func14, Try.ntmps14
  go_wp2_with fail
  go_loopw [0, 6, 9] (fun bv jv iv wr => ∃ (k : Nat) (a' : Option Addr) (n' c' : Nat), k ≤ n2 ∧ iv = .int .i64 (k : Nat) ∧ bv = .slice a' n' c' ∧ OwnB wr base (.slice a' n' c') (L ++ ints (xs.take k)) ∧ Chg (fun k => some k = (Value.slice a n c).ownBlock) w wr ∧ Moved w (.slice a n c) (.slice a' n' c')) (fun _ _ iv _ => n2 - (intOf iv).toNat)
  case atStart => exact ⟨0, a, n, c, Nat.zero_le _, rfl, rfl, by rw [List.take_zero]; show OwnB _ _ _ (L ++ []); rw [List.append_nil]; exact HI.out.1, chg_refl _ _, .inl rfl⟩
  case round =>
    obtain ⟨k, a3, n3, c3, hk, rfl, rfl, ho, hC, hM⟩ := hrel
    have HO := Lib.hid (And.intro ho (And.intro hC hM))
    clear ho hC hM
    by_cases hlt : k < n2
    · have hkl : k < xs.length := by rw [HL.out.2]; exact hlt
      obtain ⟨b, o, rfl⟩ := lst_at HI.out.2 (by omega)
      have hic := int_cell (ints_chg HO.out.2.1 HI.out.2 fun q hq => (HQ.out q hq).1) hkl
      have htk := nums_take (List.getElem?_eq_getElem hkl)
      generalize xs[k] = y at hic htk
      have HT := Lib.hid htk
      have HLn := Lib.hid (show (L ++ ints (xs.take k)).length ≤ 200000 by
        rw [List.length_append, ints_len, List.length_take]
        have := HL.out.1
        omega)
      have HR := Lib.hid (int_any none 0 0 y [] wr rfl (fun _ => ⟨rfl, rfl⟩) (.inl rfl) (by decide))
      clear htk hkl
      go_wp2_with fail
      refine HR.out.mono ?_
      rintro e w7 ⟨g, cap, rfl, ho7, hb7⟩
      have e8 : ([] ++ beB 8 (toU64 y)).length = 8 := by rw [List.nil_append, beB_length]
      rw [e8]
      have HO7 := Lib.hid (And.intro (own_keep HO.out.1 hb7) (And.intro (own_row' ho7.2.2) hb7))
      have HBs := Lib.hid (show base ≤ w7.heap.size from Nat.le_trans HB.out (Nat.le_trans HO.out.2.1.size hb7.size))
      have HLt := Lib.hid (show (L ++ ints (xs.take k)).length + 8 ≤ 140737488355328 by have := HLn.out; omega)
      clear ho7 hb7 hic HR e8
      go_wp2_with (first | (at_builtin; refine append_b2 rfl (.tmp 13) (.tmp 15) rfl base (.slice a3 n3 c3) _ rfl HO7.out.1 (some ⟨g, 0, none⟩) 8 cap _ rfl (by rw [List.nil_append, beB_length]) HO7.out.2.1 (fun h => by cases h) HLt.out HBs.out ?_; intro v9 w9 ho9 hg9 hw9; obtain ⟨a9, n9, c9, rfl⟩ := own_sl ho9; have H9 := Lib.hid (And.intro ho9 (And.intro hg9 hw9)); clear ho9 hg9 hw9) | fail)
      go_roundw
      case rel =>
        have hC7 : Chg (fun k => some k = (Value.slice a n c).ownBlock) w w7 := chg_trans HO.out.2.1 (new_chg HO7.out.2.2 (fun _ => False)) fun _ => False.elim
        refine ⟨k + 1, a9, n9, c9, by omega, by go_num, rfl, ?_, moved_chg HO.out.2.2 hC7 (grown_chg H9.out.2.1), moved_trans HO.out.2.2 hC7.size ?_⟩
        · rw [HT.out, ← List.append_assoc]; exact H9.out.1
        · exact H9.out.2.2.imp id fun h => ⟨_, h, Nat.le_refl _⟩
      case measure => simp [intOf]; omega
    · obtain rfl : k = n2 := by omega
      have HTk := Lib.hid (show xs.take k = xs from List.take_of_length_le (by rw [HL.out.2]; exact Nat.le_refl _))
      go_wp2_with fail
      go_ret
      exact ⟨a3, n3, c3, rfl, by rw [← HTk.out]; exact HO.out.1, HO.out.2⟩
set_option maxHeartbeats 4000000 in
theorem text_put {base n c : Nat} {a : Option Addr} {L : List UInt8} {s : ByteArray} (h : OwnB w base (.slice a n c) L) (hs : s.size ≤ 16) (hn : L.length ≤ 100000) (hB : base ≤ w.heap.size) :
    Calls Try.prog 15 #[.slice a n c, .string s] w (OutA w base (.slice a n c) (L ++ txt s)) := by
  have HI := Lib.hid h
  have HL := Lib.hid hn
  have HS := Lib.hid hs
  have HB := Lib.hid hB
  have HR := Lib.hid (text_any none 0 0 s [] w rfl (fun _ => ⟨rfl, rfl⟩) (.inl rfl) (by decide) (show s.size ≤ 65535 by omega))
  clear h hB hn hs
  go_enter Try.func15, Try.ntmps15
  go_wp2_with fail
  refine HR.out.mono ?_
  rintro e w7 ⟨g, cap, rfl, ho7, hb7⟩
  obtain ⟨m, hm⟩ : ∃ m, m = 0 + 2 + s.size := ⟨_, rfl⟩
  rw [← hm]
  have e8 : ([] ++ beB 2 s.size ++ s.data.toList).length = m := by
    have h5 : s.data.toList.length = s.size := by rw [Array.length_toList]; rfl
    rw [List.nil_append, List.length_append, beB_length, h5, hm]
  have HE := Lib.hid e8
  have HM := Lib.hid (show m ≤ 18 by have := HS.out; omega)
  have HO7 := Lib.hid (And.intro (own_keep HI.out hb7) (And.intro (own_row' ho7.2.2) hb7))
  have HBs := Lib.hid (show base ≤ w7.heap.size from Nat.le_trans HB.out hb7.size)
  have HLt := Lib.hid (show L.length + m ≤ 140737488355328 by have := HL.out; have := HM.out; omega)
  clear ho7 hb7 HR e8 hm
  go_wp2_with (first | (at_builtin; refine append_b2 rfl (.tmp 12) (.tmp 13) rfl base (.slice a n c) _ rfl HO7.out.1 (some ⟨g, 0, none⟩) m cap _ rfl HE.out HO7.out.2.1 (fun h => by cases h) HLt.out HBs.out ?_; intro v9 w9 ho9 hg9 hw9; obtain ⟨a9, n9, c9, rfl⟩ := own_sl ho9; have H9 := Lib.hid (And.intro ho9 (And.intro hg9 hw9)); clear ho9 hg9 hw9) | fail)
  go_ret
  refine ⟨a9, n9, c9, rfl, ?_, chg_trans (new_chg HO7.out.2.2 _) (grown_chg H9.out.2.1) fun x hx => .inl hx, ?_⟩
  · have := H9.out.1
    rwa [List.nil_append] at this
  · exact H9.out.2.2.imp id fun h => ⟨_, h, HO7.out.2.2.size⟩
end Go.Proofs.Ytpmpigglekgfnaa.Snp
/- Snap: the landed job, put behind bytes of one's own; may a state be? -/
namespace Go.Proofs.Ytpmpigglekgfnaa.Snp
set_option maxRecDepth 100000
open Go.RowKit
open Go.Sort
open Kit
open Oct
open Foot
open Tre (Lst inI lst_keep lst_at lst_new lst_none IntsL int_cell encI encI_len below_drewN' Funds Allocs Al encF encF_len encL_len fund_cells alloc_cells6)
open Rte (Rt Rates encR encR_len rate_cells)
open Job (Jb Jv Jobs encJ encJ_len job_cell job_keep valJ)
open Drw (Dw Draws encD encD_len draw_cells)
open Ent (NB nb_keep nb_own nb_new int8 txt ints ints_len int8_len txt_len)
set_option linter.unusedVariables false
variable {w w' : World}

/-- What a call that puts bytes on leaves, in words of At. -/
def OutP (W1 w : World) (B : Nat) (v : Value) (L : List UInt8) (e : Ending) (w' : World) : Prop := ∃ a n c, e = .returned (.slice a n c) ∧ OwnB w' B (.slice a n c) L ∧ Below B W1 w' ∧ Chg (fun k => some k = v.ownBlock) w w'
/-- More numbers, from a list that is made for it. -/
theorem put_new {B n c : Nat} {W1 : World} {a : Option Addr} {l : List UInt8} (hB : Below B W1 w) (hBs : B ≤ w.heap.size) (hO : OwnB w B (.slice a n c) l) (xs : List Int) (A : Array Value) (hA : A.toList = flat encI xs) (m : Nat) (hm : xs.length = m) (hm2 : m ≤ 20) (hl : l.length ≤ 100000) :
    Calls Try.prog 14 #[.slice a n c, .slice (some ⟨w.heap.size, 0, none⟩) m m] (w.alloc (.cells A 3)) (OutP W1 w B (.slice a n c) (l ++ ints xs)) := by
  have hlt : ∀ g, (Value.slice a n c).ownBlock = some g → B ≤ g ∧ g < w.heap.size := fun g hg => World.ownsRow.lt hO g hg
  refine (numbers_any (Kit.owns_alloc hO _) (lst_new encI_len w xs A _ _ m rfl hA hm (by omega)) (fun q hq => ?_) hl (by omega) (Nat.le_trans hBs (below_alloc w _).size)).mono ?_
  · injection hq with hq
    subst hq
    exact ⟨fun e => by have := (hlt _ e.symm).2; simp at this, by simp⟩
  · rintro e W' ⟨a', n', c', rfl, h1, h2, -⟩
    have hC : Chg (fun k => some k = (Value.slice a n c).ownBlock) w W' := chg_trans (new_chg (below_alloc w _) _) h2 fun x hx => .inl hx
    exact ⟨a', n', c', rfl, h1, hB.trans (chg_below hC (fun k hk => (hlt k hk.symm).1) hBs), hC⟩
/-- The same from a list that lies apart by its type. -/
theorem put_lit {B n c : Nat} {W1 : World} {a : Option Addr} {u : Value} {l : List UInt8} (hB : Below B W1 w) (hBs : B ≤ w.heap.size) (hO : OwnB w B (.slice a n c) l) {xs : List Int} (hu : (kLit xs).p w u) (hm2 : xs.length ≤ 20) (hl : l.length ≤ 100000) :
    Calls Try.prog 14 #[.slice a n c, u] w (OutP W1 w B (.slice a n c) (l ++ ints xs)) := by
  obtain ⟨b, rfl, hb⟩ := hu
  have hlt : ∀ g, (Value.slice a n c).ownBlock = some g → B ≤ g ∧ g < w.heap.size := fun g hg => World.ownsRow.lt hO g hg
  refine (numbers_any hO (lit_ints hb rfl (by omega)) (fun q hq => ?_) hl (by omega) hBs).mono ?_
  · injection hq with hq
    subst hq
    refine ⟨fun e => ?_, Arr.blk_lt hb⟩
    obtain ⟨cur, h⟩ := own_type hO e.symm
    exact type_ne hb h (by decide) rfl
  · rintro e W' ⟨a', n', c', rfl, h1, h2, -⟩
    exact ⟨a', n', c', rfl, h1, hB.trans (chg_below h2 (fun k hk => (hlt k hk.symm).1) hBs), h2⟩
theorem put_txt {B n c : Nat} {W1 : World} {a : Option Addr} {l : List UInt8} {s : ByteArray} (hB : Below B W1 w) (hBs : B ≤ w.heap.size) (hO : OwnB w B (.slice a n c) l) (hs : s.size ≤ 16) (hl : l.length ≤ 100000) :
    Calls Try.prog 15 #[.slice a n c, .string s] w (OutP W1 w B (.slice a n c) (l ++ txt s)) := by
  have hlt : ∀ g, (Value.slice a n c).ownBlock = some g → B ≤ g ∧ g < w.heap.size := fun g hg => World.ownsRow.lt hO g hg
  refine (text_put hO hs hl hBs).mono ?_
  rintro e W' ⟨a', n', c', rfl, h1, h2, -⟩
  exact ⟨a', n', c', rfl, h1, hB.trans (chg_below h2 (fun k hk => (hlt k hk.symm).1) hBs), h2⟩
/-- A box of another type stays. -/
theorem box_far {B b n c : Nat} {a : Option Addr} {E : List UInt8} {T : TypeId} {cs : List Value} (h : Arr.Blk w b T cs) (hO : OwnB w B (.slice a n c) E) (hC : Chg (fun k => some k = (Value.slice a n c).ownBlock) w w') (hT : 5 ≠ T) : Arr.Blk w' b T cs := blk_typed h hC (typed_own hO hT)
set_option maxHeartbeats 16000000 in
theorem job_any {W1 : World} {n c : Nat} {a : Option Addr} {E : List UInt8} {y : Jv} (hy : y.In W1) (h16 : y.t.draws.length ≤ 16) (h : At W1 9000 E w (.slice a n c)) :
    Calls Try.prog 16 #[.slice a n c, valJ y] w fun e w' => ∃ a' n' c', e = .returned (.slice a' n' c') ∧ OwnB w' W1.heap.size (.slice a' n' c') (E ++ cJb.enc y.t) ∧ Below W1.heap.size W1 w' := by
  obtain ⟨wb, hwb⟩ : ∃ x, x = w.alloc (.cells (encJ y).toArray 55) := ⟨_, rfl⟩
  have hb1 : Below w.heap.size w wb := by rw [hwb]; exact below_alloc _ _
  have hbl : Arr.Blk wb w.heap.size 55 (encJ y) := by rw [hwb]; exact Arr.blk_new w _ _ _ rfl
  obtain ⟨BJ, hBJ⟩ : ∃ b, b = w.heap.size := ⟨_, rfl⟩
  obtain ⟨⟨j0, j1, j2, j3, j4, j5, j6, j7, j8, j9, j10, ds⟩, ad, nd, cd⟩ := y
  simp only [encJ] at hbl hwb
  simp only at h16
  have hdl : Draws W1 ad nd cd ds := hy
  have hDr := Lib.hid hdl
  have hlen := hdl.len
  rw [hlen] at h16
  have HN := Lib.hid (And.intro hlen h16)
  have HAt := Lib.hid h
  have HWb := Lib.hid hwb
  have HBb := Lib.hid (below_keep h.below hb1)
  have ho1 := Nest.own_on h.own hb1
  have HC9 := Lib.hid (put_new (B := W1.heap.size) (W1 := W1) HBb.out HBb.out.size ho1 [j0, j1, j2, j3, j4, j5, j6, j7, j8, j9, j10, (nd : Int)] #[.int .i64 j0, .int .i64 j1, .int .i64 j2, .int .i64 j3, .int .i64 j4, .int .i64 j5, .int .i64 j6, .int .i64 j7, .int .i64 j8, .int .i64 j9, .int .i64 j10, .int .i64 (nd : Nat)] rfl 12 rfl (by omega) (by have := h.len; omega))
  have HO1 := Lib.hid ho1
  rw [← hBJ] at hbl
  have HBl := Lib.hid hbl
  clear h hy hdl ho1 hlen hwb
  go_enter Try.func16, Try.ntmps16
  go_upto_region 1 with fail
  rw [show w.alloc (.cells #[.int .i64 j0, .int .i64 j1, .int .i64 j2, .int .i64 j3, .int .i64 j4, .int .i64 j5, .int .i64 j6, .int .i64 j7, .int .i64 j8, .int .i64 j9, .int .i64 j10, .slice ad nd cd] 55) = wb from HWb.out.symm, ← hBJ]
  have p0 := Arr.blk_cell hbl 0
  have p1 := Arr.blk_cell hbl 1
  have p2 := Arr.blk_cell hbl 2
  have p3 := Arr.blk_cell hbl 3
  have p4 := Arr.blk_cell hbl 4
  have p5 := Arr.blk_cell hbl 5
  have p6 := Arr.blk_cell hbl 6
  have p7 := Arr.blk_cell hbl 7
  have p8 := Arr.blk_cell hbl 8
  have p9 := Arr.blk_cell hbl 9
  have p10 := Arr.blk_cell hbl 10
  have p11 := Arr.blk_cell hbl 11
  simp only [List.getElem?_cons_zero, List.getElem?_cons_succ] at p0 p1 p2 p3 p4 p5 p6 p7 p8 p9 p10 p11
  clear hbl hb1 hBJ HWb
  go_wp2_with fail
  refine HC9.out.mono ?_
  rintro e w2 ⟨a2, n2, c2, rfl, ho2, hb2, hC2⟩
  have hbl2 := box_far HBl.out HO1.out hC2 (by decide)
  have q11 := Arr.blk_cell hbl2 11
  simp only [List.getElem?_cons_zero, List.getElem?_cons_succ] at q11
  obtain ⟨En, hEn⟩ : ∃ En, En = E ++ ints [j0, j1, j2, j3, j4, j5, j6, j7, j8, j9, j10, (nd : Int)] := ⟨_, rfl⟩
  rw [← hEn] at ho2
  have H2 := Lib.hid (show At W1 9100 En w2 (.slice a2 n2 c2) from ⟨ho2, hb2, by
    have h1 := HAt.out.len
    rw [hEn, List.length_append, ints_len]
    simp only [List.length_cons, List.length_nil]
    omega⟩)
  have HEn := Lib.hid hEn
  clear ho2 hb2 hC2 hEn hbl2 HC9 p0 p1 p2 p3 p4 p5 p6 p7 p8 p9 p10 p11
  go_wp2_with fail
  go_loopw [0, 38] (fun bv iv wr => ∃ (q : Nat) (a' : Option Addr) (n' c' : Nat), q ≤ nd ∧ iv = .int .i64 (q : Nat) ∧ bv = .slice a' n' c' ∧ At W1 (9100 + 16 * q) (En ++ (ds.take q).flatMap cDw.enc) wr (.slice a' n' c')) (fun _ iv _ => nd - (intOf iv).toNat)
  case atStart => exact ⟨0, a2, n2, c2, Nat.zero_le _, rfl, rfl, by rw [List.take_zero]; show At _ _ (En ++ []) _ _; rw [List.append_nil]; exact H2.out⟩
  case round =>
    obtain ⟨q, a3, n3, c3, hq, rfl, rfl, hat⟩ := hrel
    by_cases hqn : q < nd
    · obtain ⟨⟨z0, z1⟩, hdw⟩ : ∃ x, ds[q]? = some x := ⟨_, List.getElem?_eq_getElem (by rw [HN.out.1]; exact hqn)⟩
      obtain ⟨bd, od, rfl⟩ := lst_at hDr.out (by omega)
      obtain ⟨d0, d1⟩ := draw_at (lst_keep encD_len hDr.out hat.below) hdw
      simp only at d0 d1
      have HTq := Lib.hid (take_next hdw cDw.enc)
      obtain ⟨Eq, hEq⟩ : ∃ Eq, Eq = En ++ (ds.take q).flatMap cDw.enc := ⟨_, rfl⟩
      rw [← hEq] at hat
      have HEq := Lib.hid hEq
      have HA2 := Lib.hid hat
      clear hat hEq hdw q11
      go_upto_region 5 with fail
      have hba := below_alloc wr (.cells #[.int .i64 z0, .int .i64 z1] 60)
      have hblk := Arr.blk_new wr wr.heap.size 60 [.int .i64 z0, .int .i64 z1] rfl
      have hoa := Kit.owns_alloc HA2.out.own (.cells #[.int .i64 z0, .int .i64 z1] 60)
      obtain ⟨w5, hw5⟩ : ∃ x, x = wr.alloc (.cells #[.int .i64 z0, .int .i64 z1] 60) := ⟨_, rfl⟩
      rw [show wr.alloc (.cells [Value.int .i64 z0, .int .i64 z1].toArray 60) = w5 from hw5.symm] at hblk
      rw [← hw5] at hba hoa ⊢
      obtain ⟨B5, hB5⟩ : ∃ B5, B5 = wr.heap.size := ⟨_, rfl⟩
      rw [← hB5] at hblk ⊢
      have r0 := Arr.blk_cell hblk 0
      have r1 := Arr.blk_cell hblk 1
      simp only [List.getElem?_cons_zero, List.getElem?_cons_succ] at r0 r1
      have hb5 := below_keep HA2.out.below hba
      have HC5 := Lib.hid (put_new (B := W1.heap.size) (W1 := W1) hb5 hb5.size hoa [z0, z1] #[.int .i64 z0, .int .i64 z1] rfl 2 rfl (by omega) (by have := HA2.out.len; have := HN.out.2; omega))
      clear hba hblk hoa hw5 hB5 hb5 d0 d1
      go_wp2_with fail
      refine HC5.out.mono ?_
      rintro e w10 ⟨a10, n10, c10, rfl, ho10, hb10, -⟩
      have H10 := Lib.hid (show At W1 (9100 + 16 * (q + 1)) (En ++ (ds.take (q + 1)).flatMap cDw.enc) w10 (.slice a10 n10 c10) from ⟨by rw [HTq.out, dw_enc, ← List.append_assoc, ← HEq.out]; exact ho10, hb10, by
        have h1 := HA2.out.len
        rw [HTq.out, ← List.append_assoc, ← HEq.out, dw_enc, List.length_append, ints_len]
        simp only [List.length_cons, List.length_nil]
        omega⟩)
      clear ho10 hb10 HC5 r0 r1
      go_wp2_with fail
      go_roundw
      case rel => exact ⟨q + 1, a10, n10, c10, by omega, by go_num, rfl, H10.out⟩
      case measure => simp [intOf]; omega
    · obtain rfl : q = nd := by omega
      have HT := Lib.hid (show ds.take q = ds from List.take_of_length_le (by rw [HN.out.1]; exact Nat.le_refl _))
      rw [HT.out] at hat
      have HF := Lib.hid (And.intro hat.own hat.below)
      clear hat q11
      go_wp2_with fail
      go_ret
      refine ⟨a3, n3, c3, rfl, ?_, HF.out.2⟩
      have h := HF.out.1
      rw [HEn.out] at h
      rw [jb_enc, ← List.append_assoc]
      simp only [eleven, List.cons_append, List.nil_append, HN.out.1]
      exact h
end Go.Proofs.Ytpmpigglekgfnaa.Snp
/- Snap: may a state be? (the landed mayBe). -/
namespace Go.Proofs.Ytpmpigglekgfnaa.Snp
set_option maxRecDepth 100000
open Go.RowKit
open Go.Sort
open Kit
open Oct
open Foot
open Tre (Lst inI lst_keep lst_at lst_new lst_none IntsL int_cell encI encI_len below_drewN' Funds Allocs Al encF encF_len encL_len fund_cells alloc_cells6)
open Rte (Rt Rates encR encR_len rate_cells)
open Job (Jb Jv Jobs encJ encJ_len job_cell job_keep valJ)
open Drw (Dw Draws encD encD_len draw_cells)
set_option linter.unusedVariables false
variable {w w' : World}

theorem may_no {W : World} {t : Sn} (h : ¬ Fits t) (hb : Below W.heap.size W w) : Ending.returned (.bool false) = .returned (.bool (decide (Fits t))) ∧ Below W.heap.size W w := ⟨by rw [decide_eq_false h], hb⟩
theorem may_yes {W : World} {t : Sn} (h : Fits t) (hb : Below W.heap.size W w) : Ending.returned (.bool true) = .returned (.bool (decide (Fits t))) ∧ Below W.heap.size W w := ⟨by rw [decide_eq_true h], hb⟩
set_option maxHeartbeats 8000000 in
/-- Too many of something. -/
theorem may_many (W : World) (x : Sv) (hx : x.In W) (h5 : ¬ (x.f.n ≤ 8 ∧ x.l.n ≤ 16 ∧ x.r.n ≤ 16 ∧ x.j.n ≤ 16 ∧ x.k.n ≤ 8)) :
    Calls Try.prog 13 #[valV x] W fun e W' => e = .returned (.bool (decide (Fits x.t))) ∧ Below W.heap.size W W' := by
  obtain ⟨W1, hW1⟩ : ∃ y, y = W.alloc (.cells (encV x).toArray 28) := ⟨_, rfl⟩
  have hb1 : Below W.heap.size W W1 := by rw [hW1]; exact below_alloc _ _
  have hbx : Arr.Blk W1 W.heap.size 28 (encV x) := by rw [hW1]; exact Arr.blk_new W _ _ _ rfl
  have hx1 := in_keep hx hb1
  have HBx := Lib.hid (And.intro (box_cells hbx) (And.intro hb1 (Arr.blk_lt hbx)))
  obtain ⟨sq, wd, nx, fs, ls, rs, js, ks, ⟨af, nf, cf⟩, ⟨al, nl, cl⟩, ⟨ar, nr, cr⟩, ⟨aj, nj, cj⟩, ⟨ak, nk, ck⟩⟩ := x
  obtain ⟨g1, g2, g3, g4, g5, g6⟩ := hx1
  simp only at g1 g2 g3 g4 g5 g6 HBx h5 hW1 ⊢
  have HW1 := Lib.hid hW1
  have HN := Lib.hid (And.intro g1.len (And.intro g2.len (And.intro g3.len (And.intro g4.len g5.len))))
  have hm1 : nf ≤ 9223372036854775807 := by have h1 := g1.cap; have h2 := g1.max; unfold maxLen at h2; omega
  have hm2 : nl ≤ 9223372036854775807 := by have h1 := g2.cap; have h2 := g2.max; unfold maxLen at h2; omega
  have hm3 : nr ≤ 9223372036854775807 := by have h1 := g3.cap; have h2 := g3.max; unfold maxLen at h2; omega
  have hm4 : nj ≤ 9223372036854775807 := by have h1 := g4.cap; have h2 := g4.max; unfold maxLen at h2; omega
  have hm5 : nk ≤ 9223372036854775807 := by have h1 := g5.cap; have h2 := g5.max; unfold maxLen at h2; omega
  clear g1 g2 g3 g4 g5 g6 hb1 hbx hx hW1
  have hbad : ¬ Fits ⟨sq, wd, nx, fs, ls, rs, js.map (·.t), ks⟩ := by
    rintro ⟨⟨e1, e2, e3, e4, e5⟩, _⟩
    simp only [List.length_map] at e1 e2 e3 e4 e5
    have := HN.out
    omega
  have HBad := Lib.hid hbad
  obtain ⟨q0, q1, q2, q3, q4, q5, q6, q7⟩ := HBx.out.1
  have HB1 := Lib.hid HBx.out.2.1
  have hor : (8 < nf) ∨ (¬ 8 < nf ∧ 16 < nl) ∨ (¬ 8 < nf ∧ ¬ 16 < nl ∧ 16 < nr) ∨ (¬ 8 < nf ∧ ¬ 16 < nl ∧ ¬ 16 < nr ∧ 16 < nj) ∨ (¬ 8 < nf ∧ ¬ 16 < nl ∧ ¬ 16 < nr ∧ ¬ 16 < nj ∧ 8 < nk) := by omega
  clear h5 hbad HBx HN
  rcases hor with t1 | ⟨t1, t2⟩ | ⟨t1, t2, t3⟩ | ⟨t1, t2, t3, t4⟩ | ⟨t1, t2, t3, t4, t5⟩
  all_goals
    go_enter Try.func13, Try.ntmps13
    go_upto_region 1 with fail
    rw [show W.alloc (.cells #[.int .i64 sq, .int .i64 wd, .int .i64 nx, .slice af nf cf, .slice al nl cl, .slice ar nr cr, .slice aj nj cj, .slice ak nk ck] 28) = W1 from HW1.out.symm]
    go_wp2_with fail
    go_ret
    exact may_no HBad.out HB1.out
set_option maxHeartbeats 16000000 in
theorem may_few (W : World) (x : Sv) (hx : x.In W) (hok : x.t.ok) (h5 : x.f.n ≤ 8 ∧ x.l.n ≤ 16 ∧ x.r.n ≤ 16 ∧ x.j.n ≤ 16 ∧ x.k.n ≤ 8) :
    Calls Try.prog 13 #[valV x] W fun e W' => e = .returned (.bool (decide (Fits x.t))) ∧ Below W.heap.size W W' := by
  obtain ⟨W1, hW1⟩ : ∃ y, y = W.alloc (.cells (encV x).toArray 28) := ⟨_, rfl⟩
  have hb1 : Below W.heap.size W W1 := by rw [hW1]; exact below_alloc _ _
  have hbx : Arr.Blk W1 W.heap.size 28 (encV x) := by rw [hW1]; exact Arr.blk_new W _ _ _ rfl
  have hx1 := in_keep hx hb1
  have HBx := Lib.hid (And.intro (box_cells hbx) (And.intro hb1 (Arr.blk_lt hbx)))
  obtain ⟨t, ht⟩ : ∃ t : Sn, t = x.t := ⟨_, rfl⟩
  rw [← ht] at hok ⊢
  obtain ⟨sq, wd, nx, fs, ls, rs, js, ks, ⟨af, nf, cf⟩, ⟨al, nl, cl⟩, ⟨ar, nr, cr⟩, ⟨aj, nj, cj⟩, ⟨ak, nk, ck⟩⟩ := x
  obtain ⟨g1, g2, g3, g4, g5, g6⟩ := hx1
  simp only at g1 g2 g3 g4 g5 g6 HBx h5 hW1 ⊢
  have HW1 := Lib.hid hW1
  have HB := Lib.hid (And.intro hb1 (show W.heap.size + 1 ≤ W1.heap.size by have := HBx.out.2.2; omega))
  have HCs := Lib.hid (fun w (hb : Below W1.heap.size W1 w) => (show _ ∧ _ ∧ _ ∧ _ ∧ _ ∧ _ ∧ _ ∧ _ from ⟨cell_keep hb HBx.out.1.1, cell_keep hb HBx.out.1.2.1, cell_keep hb HBx.out.1.2.2.1, cell_keep hb HBx.out.1.2.2.2.1, cell_keep hb HBx.out.1.2.2.2.2.1, cell_keep hb HBx.out.1.2.2.2.2.2.1, cell_keep hb HBx.out.1.2.2.2.2.2.2.1, cell_keep hb HBx.out.1.2.2.2.2.2.2.2⟩))
  have HI := Lib.hid (And.intro g1 (And.intro g2 (And.intro g3 (And.intro g4 (And.intro g5 g6)))))
  have HN := Lib.hid (And.intro g1.len (And.intro g2.len (And.intro g3.len (And.intro g4.len g5.len))))
  have HOk := Lib.hid hok
  have HTt := Lib.hid (show t = ⟨sq, wd, nx, fs, ls, rs, js.map (·.t), ks⟩ from ht)
  clear g1 g2 g3 g4 g5 g6 hb1 hbx hx hW1 hok ht
  obtain ⟨k1, k2, k3, k4, k5⟩ := h5
  obtain ⟨q0, q1, q2, q3, q4, q5, q6, q7⟩ := HBx.out.1
  have t1 : ¬ (8 : Int) < (nf : Int) := by omega
  have t2 : ¬ (16 : Int) < (nl : Int) := by omega
  have t3 : ¬ (16 : Int) < (nr : Int) := by omega
  have t4 : ¬ (16 : Int) < (nj : Int) := by omega
  have t5 : ¬ (8 : Int) < (nk : Int) := by omega
  clear HBx
  go_enter Try.func13, Try.ntmps13
  go_upto_region 1 with fail
  rw [show W.alloc (.cells #[.int .i64 sq, .int .i64 wd, .int .i64 nx, .slice af nf cf, .slice al nl cl, .slice ar nr cr, .slice aj nj cj, .slice ak nk ck] 28) = W1 from HW1.out.symm]
  go_upto_block 0 with fail
  go_cut [2] (fun bv wx => Below W1.heap.size W1 wx ∧ ∀ x ∈ fs, x.name.size ≤ 16)
  case first =>
    go_wp2_with fail
    go_loopw [38] (fun iv wr => ∃ k : Nat, k ≤ nf ∧ iv = .int .i64 (k : Nat) ∧ Below W1.heap.size W1 wr ∧ ∀ x ∈ fs.take k, x.name.size ≤ 16) (fun iv _ => nf - (intOf iv).toNat)
    case atStart => exact ⟨0, Nat.zero_le _, rfl, Below.refl _ _, all_none⟩
    case round =>
      obtain ⟨k, hk, rfl, hat, hall⟩ := hrel
      have HAl := Lib.hid hall
      clear hall q0 q1 q2 q3 q4 q5 q6 q7
      by_cases hlt : k < nf
      · obtain ⟨⟨nm, pr, lm⟩, hfd⟩ : ∃ x, fs[k]? = some x := ⟨_, List.getElem?_eq_getElem (by rw [HN.out.1]; exact hlt)⟩
        obtain ⟨b, o, rfl⟩ := lst_at HI.out.1 (by omega)
        obtain ⟨c1, c2, c3⟩ := fund_at (lst_keep encF_len HI.out.1 hat) hfd
        simp only at c1 c2 c3
        have hsz : nm.size ≤ 9223372036854775807 := by
          have h := (HOk.out.2.2.2.1 ⟨nm, pr, lm⟩ (by rw [HTt.out]; exact List.mem_of_getElem? hfd)).1
          unfold maxLen at h
          simp only at h
          omega
        have HA := Lib.hid (below_keep hat (below_alloc wr (.cells #[.string nm, .int .i64 pr, .int .i64 lm] 47)))
        by_cases hbig : 16 < nm.size
        · have HBad := Lib.hid (show ¬ Fits t from fun hf => by
            have := hf.2.1 ⟨nm, pr, lm⟩ (by rw [HTt.out]; exact List.mem_of_getElem? hfd)
            simp only at this
            omega)
          have hbi : (16 : Int) < (nm.size : Int) := by omega
          clear hat hfd
          go_wp2_with fail
          go_ret
          exact may_no HBad.out (below_keep HB.out.1 HA.out)
        · have hbi : ¬ (16 : Int) < (nm.size : Int) := by omega
          have HAn := Lib.hid (all_next hfd HAl.out (show nm.size ≤ 16 by omega))
          clear hat hfd hbig
          go_wp2_with fail
          go_roundw
          case rel => exact ⟨k + 1, by omega, by go_num, HA.out, HAn.out⟩
          case measure => simp [intOf]; omega
      · obtain rfl : k = nf := by omega
        have HT := Lib.hid (show fs.take k = fs from List.take_of_length_le (by rw [HN.out.1]; exact Nat.le_refl _))
        have HA := Lib.hid hat
        clear hat
        go_wp2_with fail
        go_meet
        case rel => exact ⟨HA.out, by have h := HAl.out; rwa [HT.out] at h⟩
  case rest =>
  obtain ⟨hcut, hall⟩ := hcut
  have HF1 := Lib.hid hall
  have HA1 := Lib.hid hcut
  clear hall hcut q0 q1 q2 q3 q4 q5 q6 q7
  have q6 := (HCs.out _ HA1.out).2.2.2.2.2.2.1
  go_upto_block 2 with fail
  go_cut [2] (fun bv wx => Below W1.heap.size W1 wx ∧ ∀ x ∈ js, x.t.draws.length ≤ 16)
  case first =>
    go_wp2_with fail
    go_loopw [50] (fun iv wr => ∃ k : Nat, k ≤ nj ∧ iv = .int .i64 (k : Nat) ∧ Below W1.heap.size W1 wr ∧ ∀ x ∈ js.take k, x.t.draws.length ≤ 16) (fun iv _ => nj - (intOf iv).toNat)
    case atStart => exact ⟨0, Nat.zero_le _, rfl, HA1.out, all_none⟩
    case round =>
      obtain ⟨k, hk, rfl, hat, hall⟩ := hrel
      have HAl := Lib.hid hall
      clear hall q6
      by_cases hlt : k < nj
      · obtain ⟨y, hjb⟩ : ∃ x, js[k]? = some x := ⟨_, List.getElem?_eq_getElem (by rw [HN.out.2.2.2.1]; exact hlt)⟩
        obtain ⟨b, o, rfl⟩ := lst_at HI.out.2.2.2.1 (by omega)
        have hyi := HI.out.2.2.2.2.2 y (List.mem_of_getElem? hjb)
        have hall12 := job_all (lst_keep encJ_len HI.out.2.2.2.1 hat) hjb
        have HJb := Lib.hid hjb
        obtain ⟨⟨j0, j1, j2, j3, j4, j5, j6, j7, j8, j9, j10, ds⟩, ad, nd, cd⟩ := y
        simp only at hall12
        obtain ⟨c0, c1, c2, c3, c4, c5, c6, c7, c8, c9, c10, c11⟩ := hall12
        have hyl : Draws W1 ad nd cd ds := hyi
        have HDl := Lib.hid hyl.len
        have hm : nd ≤ 9223372036854775807 := by have h1 := hyl.cap; have h2 := hyl.max; unfold maxLen at h2; omega
        have HA := Lib.hid (below_keep hat (below_alloc wr (.cells #[.int .i64 j0, .int .i64 j1, .int .i64 j2, .int .i64 j3, .int .i64 j4, .int .i64 j5, .int .i64 j6, .int .i64 j7, .int .i64 j8, .int .i64 j9, .int .i64 j10, .slice ad nd cd] 55)))
        by_cases hbig : 16 < nd
        · have HBad := Lib.hid (show ¬ Fits t from fun hf => by
            have := hf.2.2.1 ⟨j0, j1, j2, j3, j4, j5, j6, j7, j8, j9, j10, ds⟩ (by rw [HTt.out]; exact List.mem_map.2 ⟨_, List.mem_of_getElem? HJb.out, rfl⟩)
            simp only at this
            have := HDl.out
            omega)
          have hbi : (16 : Int) < (nd : Int) := by omega
          clear hat hjb hyi hyl
          go_wp2_with fail
          go_ret
          exact may_no HBad.out (below_keep HB.out.1 HA.out)
        · have hbi : ¬ (16 : Int) < (nd : Int) := by omega
          have HAn := Lib.hid (all_next hjb HAl.out (show ds.length ≤ 16 by have := HDl.out; omega))
          clear hat hjb hbig hyi hyl
          go_wp2_with fail
          go_roundw
          case rel => exact ⟨k + 1, by omega, by go_num, HA.out, HAn.out⟩
          case measure => simp [intOf]; omega
      · obtain rfl : k = nj := by omega
        have HT := Lib.hid (show js.take k = js from List.take_of_length_le (by rw [HN.out.2.2.2.1]; exact Nat.le_refl _))
        have HA := Lib.hid hat
        clear hat
        go_wp2_with fail
        go_meet
        case rel => exact ⟨HA.out, by have h := HAl.out; rwa [HT.out] at h⟩
  case rest =>
  obtain ⟨hcut, hall⟩ := hcut
  have HF2 := Lib.hid hall
  have HA2 := Lib.hid hcut
  clear hall hcut q6
  have q7 := (HCs.out _ HA2.out).2.2.2.2.2.2.2
  go_wp2_with fail
  go_loopw [62] (fun iv wr => ∃ k : Nat, k ≤ nk ∧ iv = .int .i64 (k : Nat) ∧ Below W1.heap.size W1 wr ∧ ∀ x ∈ ks.take k, x.size ≤ 16) (fun iv _ => nk - (intOf iv).toNat)
  case atStart => exact ⟨0, Nat.zero_le _, rfl, HA2.out, all_none⟩
  case round =>
    obtain ⟨k, hk, rfl, hat, hall⟩ := hrel
    have HAl := Lib.hid hall
    clear hall q7
    by_cases hlt : k < nk
    · obtain ⟨y, hkx⟩ : ∃ x, ks[k]? = some x := ⟨_, List.getElem?_eq_getElem (by rw [HN.out.2.2.2.2]; exact hlt)⟩
      obtain ⟨b, o, rfl⟩ := lst_at HI.out.2.2.2.2.1 (by omega)
      have hkl : k < ks.length := by rw [HN.out.2.2.2.2]; exact hlt
      have c1 := key_cell (lst_keep encK_len HI.out.2.2.2.2.1 hat) hkl
      have hkx2 : ks[k] = y := by rw [List.getElem?_eq_getElem hkl] at hkx; injection hkx
      rw [hkx2] at c1
      have hsz : y.size ≤ 9223372036854775807 := by
        have h := HOk.out.2.2.2.2.2.2.2 y (by rw [HTt.out]; exact List.mem_of_getElem? hkx)
        unfold maxLen at h
        omega
      have HA := Lib.hid hat
      by_cases hbig : 16 < y.size
      · have HBad := Lib.hid (show ¬ Fits t from fun hf => by
          have := hf.2.2.2 y (by rw [HTt.out]; exact List.mem_of_getElem? hkx)
          omega)
        have hbi : (16 : Int) < (y.size : Int) := by omega
        clear hat hkx hkx2 hkl
        go_wp2_with fail
        go_ret
        exact may_no HBad.out (below_keep HB.out.1 HA.out)
      · have hbi : ¬ (16 : Int) < (y.size : Int) := by omega
        have HAn := Lib.hid (all_next hkx HAl.out (show y.size ≤ 16 by omega))
        clear hat hkx hbig hkx2 hkl
        go_wp2_with fail
        go_roundw
        case rel => exact ⟨k + 1, by omega, by go_num, HA.out, HAn.out⟩
        case measure => simp [intOf]; omega
    · obtain rfl : k = nk := by omega
      have HT := Lib.hid (show ks.take k = ks from List.take_of_length_le (by rw [HN.out.2.2.2.2]; exact Nat.le_refl _))
      have HA := Lib.hid hat
      have HFi := Lib.hid (show Fits t by
        rw [HTt.out]
        have hn := HN.out
        refine ⟨⟨by simp only; omega, by simp only; omega, by simp only; omega, by simp only [List.length_map]; omega, by simp only; omega⟩, HF1.out, fun x hx => ?_, ?_⟩
        · obtain ⟨y, hy, rfl⟩ := List.mem_map.1 hx
          exact HF2.out y hy
        · have h := HAl.out
          rwa [HT.out] at h)
      clear hat
      go_wp2_with fail
      go_ret
      exact may_yes HFi.out (below_keep HB.out.1 HA.out)
theorem mayBe_any (W : World) (x : Sv) (hx : x.In W) (hok : x.t.ok) :
    Calls Try.prog 13 #[valV x] W fun e W' => e = .returned (.bool (decide (Fits x.t))) ∧ Below W.heap.size W W' := by
  by_cases h : x.f.n ≤ 8 ∧ x.l.n ≤ 16 ∧ x.r.n ≤ 16 ∧ x.j.n ≤ 16 ∧ x.k.n ≤ 8
  · exact may_few W x hx hok h
  · exact may_many W x hx h
end Go.Proofs.Ytpmpigglekgfnaa.Snp
/- Snap: a fund's name, then its two numbers, put behind bytes of one's own, in whatever order a region takes. -/
namespace Go.Proofs.Ytpmpigglekgfnaa.Snp
set_option maxRecDepth 100000
open Go.RowKit
open Go.Sort
open Kit
open Oct
open Foot
open Rel (slot)
open Tre (IntsL encI encI_len)
open Ent (txt ints)
set_option linter.unusedVariables false
variable {w w' : World}

/-- The text's call comes third, the list eighth, the numbers' call ninth. -/
structure JT (W1 : World) (v0 : Value) (E X : List UInt8) (xs : List Int) (BF : Nat) (cs : List Value) (L : Array Bool) (s : Nat → Value) (w : World) : Prop where
  below : Below W1.heap.size W1 w
  box : Arr.Blk w BF 47 cs
  old : L.getD 3 false = false → OwnB w W1.heap.size v0 E
  new : L.getD 3 false = true → L.getD 9 false = false → OwnB w W1.heap.size (s 39) (E ++ X)
  lit : L.getD 8 false = true → (kLit xs).p w (s 44)
  fin : L.getD 9 false = true → OwnB w W1.heap.size (s 45) (E ++ X ++ ints xs)
  keep : L.getD 10 false = false → s 4 = v0
  asg : L.getD 10 false = true → s 4 = s 45
variable {W1 : World} {v0 u : Value} {E X : List UInt8} {xs : List Int} {BF : Nat} {cs : List Value} {L : Array Bool} {a : Act}
theorem jt_start {s : Nat → Value} (hb : Below W1.heap.size W1 w) (hbx : Arr.Blk w BF 47 cs) (ho : OwnB w W1.heap.size v0 E) (hs : s 4 = v0) {k : Nat} : JT W1 v0 E X xs BF cs (Array.replicate k false) s w.drew := by
  have hf : ∀ i, (Array.replicate k false).getD i false = false := fun i => by
    by_cases hi : i < k <;> simp [hi]
  have hd := below_drew w
  refine ⟨below_keep hb hd, Arr.blk_below hbx hd (Arr.blk_lt hbx), fun _ => Nest.own_on ho hd, fun h => ?_, fun h => ?_, fun h => ?_, fun _ => hs, fun h => ?_⟩
  all_goals rw [hf] at h; cases h
def farL (k : Nat) (l : List Nat) : Bool := l.all fun i => k != i
theorem jt_go {k d : Nat} {v : Value} (h : JT W1 v0 E X xs BF cs L (slot a) w) (hk : farL k [3, 8, 9, 10] = true) (hd : farL d [4, 39, 44, 45] = true) : JT W1 v0 E X xs BF cs (L.setIfInBounds k true) (slot (a.put (some d) v)) w := by
  simp only [farL, List.all_cons, List.all_nil, Bool.and_true, Bool.and_eq_true, bne_iff_ne, ne_eq] at hk hd
  obtain ⟨k3, k8, k9, k10⟩ := hk
  obtain ⟨d4, d39, d44, d45⟩ := hd
  obtain ⟨h1, h2, h3, h4, h5, h6, h7, h8⟩ := h
  refine ⟨h1, h2, ?_, ?_, ?_, ?_, ?_, ?_⟩
  all_goals simp only [Rel.set_ne k3, Rel.set_ne k8, Rel.set_ne k9, Rel.set_ne k10, Rel.slot_put_ne d4, Rel.slot_put_ne d39, Rel.slot_put_ne d44, Rel.slot_put_ne d45]
  all_goals assumption
theorem jt_text {ax : Option Addr} {nx cx : Nat} (h : JT W1 (.slice ax nx cx) E X xs BF cs L (slot a) w) (k3 : L.getD 3 false = false) (k9 : L.getD 9 false = false) (hs : 3 < L.size) (ht : 39 < a.tmps.size) (ho : OwnB w' W1.heap.size u (E ++ X)) (hb : Below W1.heap.size W1 w') (hC : Chg (fun k => some k = (Value.slice ax nx cx).ownBlock) w w') :
    JT W1 (.slice ax nx cx) E X xs BF cs (L.setIfInBounds 3 true) (slot (a.put (some 39) u)) w' := by
  obtain ⟨h1, h2, h3, h4, h5, h6, h7, h8⟩ := h
  have hl := Rel.set_eq rfl hs
  have hown := h3 k3
  refine ⟨hb, blk_typed h2 hC (typed_own hown (by decide)), ?_, ?_, ?_, ?_, ?_, ?_⟩
  all_goals simp only [hl, Rel.set_ne (show 3 ≠ 8 by decide), Rel.set_ne (show 3 ≠ 9 by decide), Rel.set_ne (show 3 ≠ 10 by decide), Rel.slot_put_ne (show 39 ≠ 4 by decide), Rel.slot_put_ne (show 39 ≠ 44 by decide), Rel.slot_put_ne (show 39 ≠ 45 by decide), Rel.slot_put ht]
  · intro e; cases e
  · exact fun _ _ => ho
  · intro e
    obtain ⟨b, e1, e2⟩ := h5 e
    exact ⟨b, e1, blk_typed e2 hC (typed_own hown (by decide))⟩
  · intro e; rw [k9] at e; cases e
  · exact h7
  · exact h8
theorem jt_lit (h : JT W1 v0 E X xs BF cs L (slot a) w) (hs : 8 < L.size) (ht : 44 < a.tmps.size) (hb : Below w.heap.size w w') (hl : (kLit xs).p w' u) : JT W1 v0 E X xs BF cs (L.setIfInBounds 8 true) (slot (a.put (some 44) u)) w' := by
  obtain ⟨h1, h2, h3, h4, h5, h6, h7, h8⟩ := h
  have hl8 := Rel.set_eq rfl hs
  refine ⟨below_keep h1 hb, Arr.blk_below h2 hb (Arr.blk_lt h2), ?_, ?_, ?_, ?_, ?_, ?_⟩
  all_goals simp only [hl8, Rel.set_ne (show 8 ≠ 3 by decide), Rel.set_ne (show 8 ≠ 9 by decide), Rel.set_ne (show 8 ≠ 10 by decide), Rel.slot_put_ne (show 44 ≠ 4 by decide), Rel.slot_put_ne (show 44 ≠ 39 by decide), Rel.slot_put_ne (show 44 ≠ 45 by decide), Rel.slot_put ht]
  · exact fun e => Nest.own_on (h3 e) hb
  · exact fun e e2 => Nest.own_on (h4 e e2) hb
  · exact fun _ => hl
  · exact fun e => Nest.own_on (h6 e) hb
  · exact h7
  · exact h8
theorem jt_nums (h : JT W1 v0 E X xs BF cs L (slot a) w) (k3 : L.getD 3 false = true) (k9 : L.getD 9 false = false) (hs : 9 < L.size) (ht : 45 < a.tmps.size) (ho : OwnB w' W1.heap.size u (E ++ X ++ ints xs)) (hb : Below W1.heap.size W1 w') (hC : Chg (fun k => some k = (slot a 39).ownBlock) w w') (k10 : L.getD 10 false = false) :
    JT W1 v0 E X xs BF cs (L.setIfInBounds 9 true) (slot (a.put (some 45) u)) w' := by
  obtain ⟨h1, h2, h3, h4, h5, h6, h7, h8⟩ := h
  have hl9 := Rel.set_eq rfl hs
  have hown := h4 k3 k9
  refine ⟨hb, blk_typed h2 hC (typed_own hown (by decide)), ?_, ?_, ?_, ?_, ?_, ?_⟩
  all_goals simp only [hl9, Rel.set_ne (show 9 ≠ 3 by decide), Rel.set_ne (show 9 ≠ 8 by decide), Rel.set_ne (show 9 ≠ 10 by decide), Rel.slot_put_ne (show 45 ≠ 4 by decide), Rel.slot_put_ne (show 45 ≠ 39 by decide), Rel.slot_put_ne (show 45 ≠ 44 by decide), Rel.slot_put ht]
  · intro e; rw [k3] at e; cases e
  · intro _ e; cases e
  · intro e
    obtain ⟨b, e1, e2⟩ := h5 e
    exact ⟨b, e1, blk_typed e2 hC (typed_own hown (by decide))⟩
  · exact fun _ => ho
  · exact h7
  · intro e; rw [k10] at e; cases e
theorem jt_asg (h : JT W1 v0 E X xs BF cs L (slot a) w) (hs : 10 < L.size) (ht : 4 < a.tmps.size) : JT W1 v0 E X xs BF cs (L.setIfInBounds 10 true) (slot (a.put (some 4) (slot a 45))) w := by
  obtain ⟨h1, h2, h3, h4, h5, h6, h7, h8⟩ := h
  have hl10 := Rel.set_eq rfl hs
  refine ⟨h1, h2, ?_, ?_, ?_, ?_, ?_, ?_⟩
  all_goals simp only [hl10, Rel.set_ne (show 10 ≠ 3 by decide), Rel.set_ne (show 10 ≠ 8 by decide), Rel.set_ne (show 10 ≠ 9 by decide), Rel.slot_put_ne (show 4 ≠ 39 by decide), Rel.slot_put_ne (show 4 ≠ 44 by decide), Rel.slot_put_ne (show 4 ≠ 45 by decide), Rel.slot_put ht]
  · exact h3
  · exact h4
  · exact h5
  · exact h6
  · intro e; cases e
  · simp
theorem jt_end {k : Nat} (h : JT W1 v0 E X xs BF cs (Array.replicate k true) (slot a) w) (h9 : 10 < k) : Below W1.heap.size W1 w ∧ OwnB w W1.heap.size (slot a 4) (E ++ X ++ ints xs) := by
  have e9 : (Array.replicate k true).getD 9 false = true := by simp [show 9 < k by omega]
  have e10 : (Array.replicate k true).getD 10 false = true := by simp [h9]
  rw [h.asg e10]
  exact ⟨h.below, h.fin e9⟩
end Go.Proofs.Ytpmpigglekgfnaa.Snp
/- Snap: the landed Encode. -/
namespace Go.Proofs.Ytpmpigglekgfnaa.Snp
set_option maxRecDepth 100000
open Go.RowKit
open Go.Sort
open Kit
open Oct
open Foot
open Tre (Lst inI lst_keep lst_at lst_new lst_none IntsL int_cell encI encI_len below_drewN' Funds Allocs Al encF encF_len encL_len fund_cells alloc_cells6)
open Rte (Rt Rates encR encR_len rate_cells)
open Job (Jb Jv Jobs encJ encJ_len job_cell job_keep valJ)
open Drw (Dw Draws encD encD_len draw_cells)
open Ent (NB nb_keep nb_own nb_new int8 txt ints ints_len int8_len txt_len)
set_option linter.unusedVariables false
variable {w w' : World}

theorem info_stE : (Try.prog.info? 28).map (·.size) = some 8 := by kernel_rfl
theorem info_jbE : (Try.prog.info? 55).map (·.size) = some 12 := by kernel_rfl
set_option maxHeartbeats 32000000 in
theorem lenc_any (W : World) (x : Sv) (hx : x.In W) (hok : x.t.ok) :
    Calls Try.prog 7 #[valV x] W fun e W' => ∃ a n c, e = .returned (.tuple #[.slice a n c, .int .i64 (encE x.t)]) ∧ NB W' W.heap.size a n c (encL x.t) ∧ Below W.heap.size W W' := by
  obtain ⟨W0, hW0⟩ : ∃ y, y = W.alloc (.cells (encV x).toArray 28) := ⟨_, rfl⟩
  have hb0 : Below W.heap.size W W0 := by rw [hW0]; exact below_alloc _ _
  have hbx : Arr.Blk W0 W.heap.size 28 (encV x) := by rw [hW0]; exact Arr.blk_new W _ _ _ rfl
  have hx0 := in_keep hx hb0
  obtain ⟨t, ht⟩ : ∃ t : Sn, t = x.t := ⟨_, rfl⟩
  have HM := Lib.hid (mayBe_any W0 x hx0 hok)
  have HI0 := Lib.hid (And.intro hx0 hbx)
  rw [← ht] at HM hok ⊢
  obtain ⟨sq, wd, nx, fs, ls, rs, js, ks, ⟨af, nf, cf⟩, ⟨al, nl, cl⟩, ⟨ar, nr, cr⟩, ⟨aj, nj, cj⟩, ⟨ak, nk, ck⟩⟩ := x
  simp only [encV] at hbx hW0
  simp only [valV] at HM
  have HW0 := Lib.hid hW0
  have HBx := Lib.hid hbx
  have HB0 := Lib.hid hb0
  have HOk := Lib.hid hok
  have HTt := Lib.hid (show t = ⟨sq, wd, nx, fs, ls, rs, js.map (·.t), ks⟩ from ht)
  clear hx hx0 hb0 hbx hW0 hok ht
  by_cases hfit : Fits t
  · rw [decide_eq_true hfit] at HM
    have HFit := Lib.hid hfit
    clear hfit
    go_enter Try.func7, Try.ntmps7
    go_upto_region 1 with fail
    rw [show W.alloc (.cells #[.int .i64 sq, .int .i64 wd, .int .i64 nx, .slice af nf cf, .slice al nl cl, .slice ar nr cr, .slice aj nj cj, .slice ak nk ck] 28) = W0 from HW0.out.symm]
    go_wp2_with (first | (refine Arr.wpList_load_blk rfl 28 (.tmp 1) rfl W.heap.size rfl [.int .i64 sq, .int .i64 wd, .int .i64 nx, .slice af nf cf, .slice al nl cl, .slice ar nr cr, .slice aj nj cj, .slice ak nk ck] 28 HBx.out _ Try.underlying28 rfl info_stE ?_) | fail)
    refine HM.out.mono ?_
    rintro e W1 ⟨rfl, hb⟩
    have hb1 := below_keep HB0.out hb
    have hx1 := in_keep HI0.out.1 hb
    have hbx1 := Arr.blk_below HBx.out hb (Arr.blk_lt HBx.out)
    have HBx := Lib.hid (box_cells (x := ⟨sq, wd, nx, fs, ls, rs, js, ks, ⟨af, nf, cf⟩, ⟨al, nl, cl⟩, ⟨ar, nr, cr⟩, ⟨aj, nj, cj⟩, ⟨ak, nk, ck⟩⟩) hbx1)
    simp only at HBx
    obtain ⟨g1, g2, g3, g4, g5, g6⟩ := hx1
    simp only at g1 g2 g3 g4 g5 g6
    have HB := Lib.hid hb1
    have HCs := Lib.hid (fun w (hb : Below W1.heap.size W1 w) => (show _ ∧ _ ∧ _ ∧ _ ∧ _ ∧ _ ∧ _ ∧ _ from ⟨cell_keep hb HBx.out.1, cell_keep hb HBx.out.2.1, cell_keep hb HBx.out.2.2.1, cell_keep hb HBx.out.2.2.2.1, cell_keep hb HBx.out.2.2.2.2.1, cell_keep hb HBx.out.2.2.2.2.2.1, cell_keep hb HBx.out.2.2.2.2.2.2.1, cell_keep hb HBx.out.2.2.2.2.2.2.2⟩))
    have HI := Lib.hid (And.intro g1 (And.intro g2 (And.intro g3 (And.intro g4 (And.intro g5 g6)))))
    have HN := Lib.hid (And.intro g1.len (And.intro g2.len (And.intro g3.len (And.intro g4.len g5.len))))
    have h5 : nf ≤ 8 ∧ nl ≤ 16 ∧ nr ≤ 16 ∧ nj ≤ 16 ∧ nk ≤ 8 := by
      have hf := HFit.out.1
      rw [HTt.out] at hf
      simp only [List.length_map] at hf
      have hn := HN.out
      omega
    obtain ⟨k1, k2, k3, k4, k5⟩ := h5
    obtain ⟨q0, q1, q2, q3, q4, q5, q6, q7⟩ := HBx.out
    clear g1 g2 g3 g4 g5 g6 hb hb1 hbx1
    have HC3 := Lib.hid (put_new (B := W1.heap.size) (W1 := W1) (w := W1) (a := none) (n := 0) (c := 0) (Below.refl _ _) (Nat.le_refl _) (owns_nil _ _ _) [sq, wd, nx, (nf : Int)] #[.int .i64 sq, .int .i64 wd, .int .i64 nx, .int .i64 (nf : Nat)] rfl 4 rfl (by omega) (by simp))
    go_wp2_with fail
    refine HC3.out.mono ?_
    rintro e w2 ⟨a2, n2, c2, rfl, ho2, hb2, -⟩
    obtain ⟨E0, hE0⟩ : ∃ E0, E0 = [] ++ ints [sq, wd, nx, (nf : Int)] := ⟨_, rfl⟩
    rw [← hE0] at ho2
    have H2 := Lib.hid (show At W1 32 E0 w2 (.slice a2 n2 c2) from ⟨ho2, hb2, by rw [hE0, List.nil_append, ints_len]; simp⟩)
    have HE0 := Lib.hid hE0
    have q3 := (HCs.out _ hb2).2.2.2.1
    clear ho2 hb2 hE0 HC3 q0 q1 q2 q4 q5 q6 q7
    go_upto_block 0 with fail
    go_cut [4] (fun bv wx => ∃ a n c, bv = .slice a n c ∧ At W1 400 (E0 ++ fs.flatMap cFd.enc) wx bv)
    case first =>
      go_wp2_with fail
      go_loopw [4, 32] (fun bv iv wr => ∃ (k : Nat) (a : Option Addr) (n c : Nat), k ≤ nf ∧ iv = .int .i64 (k : Nat) ∧ bv = .slice a n c ∧ At W1 (40 + 40 * k) (E0 ++ (fs.take k).flatMap cFd.enc) wr bv) (fun _ iv _ => nf - (intOf iv).toNat)
      case atStart => exact ⟨0, a2, n2, c2, Nat.zero_le _, rfl, rfl, by rw [List.take_zero]; show At _ _ (E0 ++ []) _ _; rw [List.append_nil]; exact ⟨H2.out.own, H2.out.below, by have := H2.out.len; omega⟩⟩
      case round =>
        obtain ⟨k, a5, n5, c5, hk, rfl, rfl, hat⟩ := hrel
        clear q3
        by_cases hlt : k < nf
        · obtain ⟨⟨nm, pr, lm⟩, hfd⟩ : ∃ x, fs[k]? = some x := ⟨_, List.getElem?_eq_getElem (by rw [HN.out.1]; exact hlt)⟩
          obtain ⟨b, o, rfl⟩ := lst_at HI.out.1 (by omega)
          obtain ⟨c1, c2, c3⟩ := fund_at (lst_keep encF_len HI.out.1 hat.below) hfd
          simp only at c1 c2 c3
          have HTk := Lib.hid (take_next hfd cFd.enc)
          have hn16 : nm.size ≤ 16 := HFit.out.2.1 ⟨nm, pr, lm⟩ (by rw [HTt.out]; exact List.mem_of_getElem? hfd)
          obtain ⟨E, hE⟩ : ∃ E, E = E0 ++ (fs.take k).flatMap cFd.enc := ⟨_, rfl⟩
          rw [← hE] at hat
          have HE := Lib.hid hE
          have HA := Lib.hid hat
          have HT := Lib.hid (And.intro hn16 (show E.length ≤ 100000 by have := hat.len; omega))
          have HT2 := Lib.hid (show (E ++ txt nm).length ≤ 100000 by rw [List.length_append, txt_len]; have := hat.len; omega)
          clear hat hE hfd hn16
          go_upto_region 7 with fail
          have hba := below_alloc wr (.cells #[.string nm, .int .i64 pr, .int .i64 lm] 47)
          have hbl := Arr.blk_new wr wr.heap.size 47 [.string nm, .int .i64 pr, .int .i64 lm] rfl
          have hoa := Kit.owns_alloc HA.out.own (.cells #[.string nm, .int .i64 pr, .int .i64 lm] 47)
          obtain ⟨w5, hw5⟩ : ∃ x, x = wr.alloc (.cells #[.string nm, .int .i64 pr, .int .i64 lm] 47) := ⟨_, rfl⟩
          rw [show wr.alloc (.cells [Value.string nm, .int .i64 pr, .int .i64 lm].toArray 47) = w5 from hw5.symm] at hbl
          rw [← hw5] at hba hoa ⊢
          obtain ⟨B5, hB5⟩ : ∃ B5, B5 = wr.heap.size := ⟨_, rfl⟩
          rw [← hB5] at hbl ⊢
          have HS5 := Lib.hid (And.intro (below_keep HA.out.below hba) (And.intro hbl hoa))
          clear hba hbl hoa hw5 hB5 c1 c2 c3
          refine Rel.wp_region_see (G := Rel.Gt) (Rel.tab [.is (.slice a5 n5 c5), .is (.pointer (some ⟨B5, 0, none⟩)), .is (.string nm), Rel.Kd.any, .is (.pointer (some ⟨B5, 1, none⟩)), .is (.int .i64 pr), .is (.pointer (some ⟨B5, 2, none⟩)), .is (.int .i64 lm), Rel.Kd.any, Rel.Kd.any, Rel.Kd.any]) (JT W1 (.slice a5 n5 c5) E (txt nm) [pr, lm] B5 [.string nm, .int .i64 pr, .int .i64 lm]) (by kernel_rfl) (by kernel_rfl) (by kernel_rfl) (by kernel_rfl) (fun w => trivial) (jt_start HS5.out.1 HS5.out.2.1 HS5.out.2.2 rfl) ?_ ?_
          · refine ⟨?_, ?_, ?_, ?_, ?_, ?_, ?_, ?_, ?_, ?_, ?_, trivial⟩
            · intro L a w c j
              refine .inl ⟨Rel.wanted_free (by kernel_rfl) _, ?_⟩
              exact Rel.wp_mv _ rfl ⟨_, rfl, trivial, j.keep (c.later 10 (by kernel_rfl)), (jt_go j (k := 0) (d := 36) (by kernel_rfl) (by kernel_rfl))⟩
            · intro L a w c j
              refine .inl ⟨Rel.wanted_free (by kernel_rfl) _, ?_⟩
              exact Chn.wp_fa _ _ _ rfl (c.old 6 (v := .pointer (some ⟨B5, 0, none⟩)) (by kernel_rfl) (by kernel_rfl)) (by simp [go_sem]) ⟨_, rfl, trivial, rfl, (jt_go j (k := 1) (d := 37) (by kernel_rfl) (by kernel_rfl))⟩
            · intro L a w c j
              refine .inl ⟨Rel.wanted_free (by kernel_rfl) _, ?_⟩
              exact Rel.wp_ld _ _ rfl (c.get 1 37 (by kernel_rfl)) (run_ld_s ((Arr.blk_cell j.box 0).trans rfl)) ⟨_, rfl, trivial, rfl, (jt_go j (k := 2) (d := 38) (by kernel_rfl) (by kernel_rfl))⟩
            · intro L a w c j
              refine .inl ⟨Rel.wanted_free (by kernel_rfl) _, ?_⟩
              refine Rel.wp_cl _ _ _ rfl Try.func15 (by kernel_rfl) ?_
              show Calls _ _ #[Rel.slot a 36, Rel.slot a 38] w _
              rw [show Rel.slot a 36 = .slice a5 n5 c5 from (c.get 0 36 (by kernel_rfl)), show Rel.slot a 38 = .string nm from (c.get 2 38 (by kernel_rfl))]
              refine (put_txt (W1 := W1) j.below j.below.size (j.old (Rel.free_no c.free)) HT.out.1 HT.out.2).mono ?_
              rintro e w' ⟨a', n', c', rfl, h1, h2, h3⟩
              exact ⟨_, rfl, _, rfl, trivial, trivial, jt_text j (Rel.free_no c.free) (c.later 9 (by kernel_rfl)) (by rw [c.size]; exact of_decide_eq_true (by kernel_rfl)) (by rw [c.room]; exact of_decide_eq_true (by kernel_rfl)) h1 h2 h3⟩
            · intro L a w c j
              refine .inl ⟨Rel.wanted_free (by kernel_rfl) _, ?_⟩
              exact Chn.wp_fa _ _ _ rfl (c.old 6 (v := .pointer (some ⟨B5, 0, none⟩)) (by kernel_rfl) (by kernel_rfl)) (by simp [go_sem]) ⟨_, rfl, trivial, rfl, (jt_go j (k := 4) (d := 40) (by kernel_rfl) (by kernel_rfl))⟩
            · intro L a w c j
              refine .inl ⟨Rel.wanted_free (by kernel_rfl) _, ?_⟩
              exact Rel.wp_ld _ _ rfl (c.get 4 40 (by kernel_rfl)) (run_ld2 ((Arr.blk_cell j.box 1).trans rfl)) ⟨_, rfl, trivial, rfl, (jt_go j (k := 5) (d := 41) (by kernel_rfl) (by kernel_rfl))⟩
            · intro L a w c j
              refine .inl ⟨Rel.wanted_free (by kernel_rfl) _, ?_⟩
              exact Chn.wp_fa _ _ _ rfl (c.old 6 (v := .pointer (some ⟨B5, 0, none⟩)) (by kernel_rfl) (by kernel_rfl)) (by simp [go_sem]) ⟨_, rfl, trivial, rfl, (jt_go j (k := 6) (d := 42) (by kernel_rfl) (by kernel_rfl))⟩
            · intro L a w c j
              refine .inl ⟨Rel.wanted_free (by kernel_rfl) _, ?_⟩
              exact Rel.wp_ld _ _ rfl (c.get 6 42 (by kernel_rfl)) (run_ld2 ((Arr.blk_cell j.box 2).trans rfl)) ⟨_, rfl, trivial, rfl, (jt_go j (k := 7) (d := 43) (by kernel_rfl) (by kernel_rfl))⟩
            · intro L a w c j
              refine .inl ⟨Rel.wanted_free (by kernel_rfl) _, ?_⟩
              exact wp_bs2 _ _ _ rfl (c.get 5 41 (by kernel_rfl)) (c.get 7 43 (by kernel_rfl)) (run_bs2 pr lm w) ⟨_, rfl, trivial, trivial, jt_lit j (by rw [c.size]; exact of_decide_eq_true (by kernel_rfl)) (by rw [c.room]; exact of_decide_eq_true (by kernel_rfl)) (below_alloc _ _) (lit_of w [pr, lm] _ rfl)⟩
            · intro L a w c j
              refine .inl ⟨Rel.wanted_free (by kernel_rfl) _, ?_⟩
              refine Rel.wp_cl _ _ _ rfl Try.func14 (by kernel_rfl) ?_
              show Calls _ _ #[Rel.slot a 39, Rel.slot a 44] w _
              have ho := j.new (c.came 3 (by kernel_rfl)) (Rel.free_no c.free)
              obtain ⟨a7, n7, c7, e7⟩ := own_sl ho
              have hu := j.lit (c.came 8 (by kernel_rfl))
              rw [e7] at ho ⊢
              refine (put_lit (W1 := W1) j.below j.below.size ho hu (by simp) HT2.out).mono ?_
              rintro e w' ⟨a', n', c', rfl, h1, h2, h3⟩
              exact ⟨_, rfl, _, rfl, trivial, trivial, jt_nums j (c.came 3 (by kernel_rfl)) (Rel.free_no c.free) (by rw [c.size]; exact of_decide_eq_true (by kernel_rfl)) (by rw [c.room]; exact of_decide_eq_true (by kernel_rfl)) h1 h2 (by rw [e7]; exact h3) (c.later 10 (by kernel_rfl))⟩
            · intro L a w c j
              refine .inl ⟨Rel.wanted_free (by kernel_rfl) _, ?_⟩
              exact Rel.wp_as _ rfl ⟨_, rfl, trivial, trivial, jt_asg j (by rw [c.size]; exact of_decide_eq_true (by kernel_rfl)) (by rw [c.room]; exact of_decide_eq_true (by kernel_rfl))⟩
          intro a w9 hbase hroom hdef hJ hV
          have hE := jt_end hJ (of_decide_eq_true (by kernel_rfl))
          change Below W1.heap.size W1 w9 ∧ OwnB w9 W1.heap.size (Rel.slot a 4) (E ++ txt nm ++ ints [pr, lm]) at hE
          clear hJ
          have k4 : (Rel.Kd.any : Rel.Kd (Rel.Gt)).p w9 (Rel.slot a 4) := hV 10 _ _ rfl rfl
          rw [Chn.act_puts [36, 37, 38, 39, 40, 41, 42, 43, 44, 45, 4] hbase hroom hdef (by kernel_rfl)]
          clear hbase hroom hdef hV
          simp only [List.foldl_cons, List.foldl_nil]
          generalize Rel.slot a 36 = u36 at *
          generalize Rel.slot a 37 = u37 at *
          generalize Rel.slot a 38 = u38 at *
          generalize Rel.slot a 39 = u39 at *
          generalize Rel.slot a 40 = u40 at *
          generalize Rel.slot a 41 = u41 at *
          generalize Rel.slot a 42 = u42 at *
          generalize Rel.slot a 43 = u43 at *
          generalize Rel.slot a 44 = u44 at *
          generalize Rel.slot a 45 = u45 at *
          generalize Rel.slot a 4 = u4 at *
          simp only [Act.put, List.setIfInBounds_toArray, List.set_cons_succ, List.set_cons_zero]
          obtain ⟨a9, n9, c9, rfl⟩ := own_sl hE.2
          have H10 := Lib.hid (show At W1 (40 + 40 * (k + 1)) (E0 ++ (fs.take (k + 1)).flatMap cFd.enc) w9 (.slice a9 n9 c9) from ⟨by rw [HTk.out, fd_enc, ← List.append_assoc, ← HE.out, ← List.append_assoc]; exact hE.2, hE.1, by
            have h1 := HA.out.len
            have h2 := HT.out.1
            rw [HTk.out, ← List.append_assoc, ← HE.out, fd_enc, List.length_append, List.length_append, txt_len, ints_len]
            simp only [List.length_cons, List.length_nil]
            omega⟩)
          clear hE
          go_wp2_with fail
          go_roundw
          case rel => exact ⟨k + 1, a9, n9, c9, by omega, by go_num, rfl, H10.out⟩
          case measure => simp [intOf]; omega
        · obtain rfl : k = nf := by omega
          have HT := Lib.hid (show fs.take k = fs from List.take_of_length_le (by rw [HN.out.1]; exact Nat.le_refl _))
          rw [HT.out] at hat
          have HA := Lib.hid hat
          clear hat
          go_wp2_with fail
          go_meet
          case rel => exact ⟨a5, n5, c5, rfl, HA.out.own, HA.out.below, by have := HA.out.len; omega⟩
    case rest =>
    obtain ⟨a3, n3, c3, rfl, hcut⟩ := hcut
    have HA3 := Lib.hid hcut
    have q4 := (HCs.out _ hcut.below).2.2.2.2.1
    have HC4 := Lib.hid (put_new (B := W1.heap.size) (W1 := W1) hcut.below hcut.below.size hcut.own [(nl : Int)] #[.int .i64 (nl : Nat)] rfl 1 rfl (by omega) (by have := hcut.len; omega))
    clear hcut q3
    go_wp2_with fail
    refine HC4.out.mono ?_
    rintro e w4 ⟨a4, n4, c4, rfl, ho4, hb4, -⟩
    obtain ⟨E2, hE2⟩ : ∃ E2, E2 = E0 ++ fs.flatMap cFd.enc ++ ints [(nl : Int)] := ⟨_, rfl⟩
    rw [← hE2] at ho4
    have H4 := Lib.hid (show At W1 500 E2 w4 (.slice a4 n4 c4) from ⟨ho4, hb4, by rw [hE2, List.length_append, ints_len]; have := HA3.out.len; simp only [List.length_cons, List.length_nil]; omega⟩)
    have HE2 := Lib.hid hE2
    have q4 := (HCs.out _ hb4).2.2.2.2.1
    clear ho4 hb4 hE2 HC4 H2 HA3
    go_upto_block 2 with fail
    go_cut [4] (fun bv wx => ∃ a n c, bv = .slice a n c ∧ At W1 1400 (E2 ++ ls.flatMap cAl.enc) wx bv)
    case first =>
      go_wp2_with fail
      go_loopw [4, 56] (fun bv iv wr => ∃ (k : Nat) (a : Option Addr) (n c : Nat), k ≤ nl ∧ iv = .int .i64 (k : Nat) ∧ bv = .slice a n c ∧ At W1 (500 + 50 * k) (E2 ++ (ls.take k).flatMap cAl.enc) wr bv) (fun _ iv _ => nl - (intOf iv).toNat)
      case atStart => exact ⟨0, a4, n4, c4, Nat.zero_le _, rfl, rfl, by rw [List.take_zero]; show At _ _ (E2 ++ []) _ _; rw [List.append_nil]; exact ⟨H4.out.own, H4.out.below, by have := H4.out.len; omega⟩⟩
      case round =>
        obtain ⟨k, a5, n5, c5, hk, rfl, rfl, hat⟩ := hrel
        clear q4
        by_cases hlt : k < nl
        · obtain ⟨⟨y0, y1, y2, y3, y4, y5⟩, hal⟩ : ∃ x, ls[k]? = some x := ⟨_, List.getElem?_eq_getElem (by rw [HN.out.2.1]; exact hlt)⟩
          obtain ⟨b, o, rfl⟩ := lst_at HI.out.2.1 (by omega)
          obtain ⟨c0, c1, c2, c3, c4, c5'⟩ := alloc_at (lst_keep encL_len HI.out.2.1 hat.below) hal
          simp only at c0 c1 c2 c3 c4 c5'
          have HTk := Lib.hid (take_next hal cAl.enc)
          obtain ⟨E, hE⟩ : ∃ E, E = E2 ++ (ls.take k).flatMap cAl.enc := ⟨_, rfl⟩
          rw [← hE] at hat
          have HE := Lib.hid hE
          have HA := Lib.hid hat
          clear hat hE hal
          go_upto_region 13 with fail
          have hba := below_alloc wr (.cells #[.int .i64 y0, .int .i64 y1, .int .i64 y2, .int .i64 y3, .int .i64 y4, .int .i64 y5] 50)
          have hbl := Arr.blk_new wr wr.heap.size 50 [.int .i64 y0, .int .i64 y1, .int .i64 y2, .int .i64 y3, .int .i64 y4, .int .i64 y5] rfl
          have hoa := Kit.owns_alloc HA.out.own (.cells #[.int .i64 y0, .int .i64 y1, .int .i64 y2, .int .i64 y3, .int .i64 y4, .int .i64 y5] 50)
          obtain ⟨w5, hw5⟩ : ∃ x, x = wr.alloc (.cells #[.int .i64 y0, .int .i64 y1, .int .i64 y2, .int .i64 y3, .int .i64 y4, .int .i64 y5] 50) := ⟨_, rfl⟩
          rw [show wr.alloc (.cells [Value.int .i64 y0, .int .i64 y1, .int .i64 y2, .int .i64 y3, .int .i64 y4, .int .i64 y5].toArray 50) = w5 from hw5.symm] at hbl
          rw [← hw5] at hba hoa ⊢
          obtain ⟨B5, hB5⟩ : ∃ B5, B5 = wr.heap.size := ⟨_, rfl⟩
          rw [← hB5] at hbl ⊢
          have p0 := Arr.blk_cell hbl 0
          have p1 := Arr.blk_cell hbl 1
          have p2 := Arr.blk_cell hbl 2
          have p3 := Arr.blk_cell hbl 3
          have p4 := Arr.blk_cell hbl 4
          have p5 := Arr.blk_cell hbl 5
          simp only [List.getElem?_cons_zero, List.getElem?_cons_succ] at p0 p1 p2 p3 p4 p5
          have hb5 := below_keep HA.out.below hba
          have HC5 := Lib.hid (put_new (B := W1.heap.size) (W1 := W1) hb5 hb5.size hoa [y0, y1, y2, y3, y4, y5] #[.int .i64 y0, .int .i64 y1, .int .i64 y2, .int .i64 y3, .int .i64 y4, .int .i64 y5] rfl 6 rfl (by omega) (by have := HA.out.len; omega))
          clear hba hbl hoa hw5 hB5 hb5 c0 c1 c2 c3 c4 c5'
          go_wp2_with fail
          refine HC5.out.mono ?_
          rintro e w10 ⟨a10, n10, c10, rfl, ho10, hb10, -⟩
          have H10 := Lib.hid (show At W1 (500 + 50 * (k + 1)) (E2 ++ (ls.take (k + 1)).flatMap cAl.enc) w10 (.slice a10 n10 c10) from ⟨by rw [HTk.out, al_enc, ← List.append_assoc, ← HE.out]; exact ho10, hb10, by
            have h1 := HA.out.len
            rw [HTk.out, ← List.append_assoc, ← HE.out, al_enc, List.length_append, ints_len]
            simp only [List.length_cons, List.length_nil]
            omega⟩)
          clear ho10 hb10 HC5 p0 p1 p2 p3 p4 p5
          go_wp2_with fail
          go_roundw
          case rel => exact ⟨k + 1, a10, n10, c10, by omega, by go_num, rfl, H10.out⟩
          case measure => simp [intOf]; omega
        · obtain rfl : k = nl := by omega
          have HT := Lib.hid (show ls.take k = ls from List.take_of_length_le (by rw [HN.out.2.1]; exact Nat.le_refl _))
          rw [HT.out] at hat
          have HA := Lib.hid hat
          clear hat
          go_wp2_with fail
          go_meet
          case rel => exact ⟨a5, n5, c5, rfl, HA.out.own, HA.out.below, by have := HA.out.len; omega⟩
    case rest =>
    obtain ⟨a3, n3, c3, rfl, hcut⟩ := hcut
    have HA3 := Lib.hid hcut
    have q5 := (HCs.out _ hcut.below).2.2.2.2.2.1
    have HC4 := Lib.hid (put_new (B := W1.heap.size) (W1 := W1) hcut.below hcut.below.size hcut.own [(nr : Int)] #[.int .i64 (nr : Nat)] rfl 1 rfl (by omega) (by have := hcut.len; omega))
    clear hcut q4
    go_wp2_with fail
    refine HC4.out.mono ?_
    rintro e w6 ⟨a6, n6, c6, rfl, ho4, hb4, -⟩
    obtain ⟨E3, hE3⟩ : ∃ E3, E3 = E2 ++ ls.flatMap cAl.enc ++ ints [(nr : Int)] := ⟨_, rfl⟩
    rw [← hE3] at ho4
    have H6 := Lib.hid (show At W1 1500 E3 w6 (.slice a6 n6 c6) from ⟨ho4, hb4, by rw [hE3, List.length_append, ints_len]; have := HA3.out.len; simp only [List.length_cons, List.length_nil]; omega⟩)
    have HE3 := Lib.hid hE3
    have q5 := (HCs.out _ hb4).2.2.2.2.2.1
    clear ho4 hb4 hE3 HC4 H4 HA3
    go_upto_block 4 with fail
    go_cut [4] (fun bv wx => ∃ a n c, bv = .slice a n c ∧ At W1 1900 (E3 ++ rs.flatMap cRt.enc) wx bv)
    case first =>
      go_wp2_with fail
      go_loopw [4, 85] (fun bv iv wr => ∃ (k : Nat) (a : Option Addr) (n c : Nat), k ≤ nr ∧ iv = .int .i64 (k : Nat) ∧ bv = .slice a n c ∧ At W1 (1500 + 24 * k) (E3 ++ (rs.take k).flatMap cRt.enc) wr bv) (fun _ iv _ => nr - (intOf iv).toNat)
      case atStart => exact ⟨0, a6, n6, c6, Nat.zero_le _, rfl, rfl, by rw [List.take_zero]; show At _ _ (E3 ++ []) _ _; rw [List.append_nil]; exact ⟨H6.out.own, H6.out.below, by have := H6.out.len; omega⟩⟩
      case round =>
        obtain ⟨k, a5, n5, c5, hk, rfl, rfl, hat⟩ := hrel
        clear q5
        by_cases hlt : k < nr
        · obtain ⟨⟨y0, y1, y2⟩, hal⟩ : ∃ x, rs[k]? = some x := ⟨_, List.getElem?_eq_getElem (by rw [HN.out.2.2.1]; exact hlt)⟩
          obtain ⟨b, o, rfl⟩ := lst_at HI.out.2.2.1 (by omega)
          obtain ⟨c0, c1, c2⟩ := rate_at (lst_keep encR_len HI.out.2.2.1 hat.below) hal
          simp only at c0 c1 c2
          have HTk := Lib.hid (take_next hal cRt.enc)
          obtain ⟨E, hE⟩ : ∃ E, E = E3 ++ (rs.take k).flatMap cRt.enc := ⟨_, rfl⟩
          rw [← hE] at hat
          have HE := Lib.hid hE
          have HA := Lib.hid hat
          clear hat hE hal
          go_upto_region 19 with fail
          have hba := below_alloc wr (.cells #[.int .i64 y0, .int .i64 y1, .int .i64 y2] 52)
          have hbl := Arr.blk_new wr wr.heap.size 52 [.int .i64 y0, .int .i64 y1, .int .i64 y2] rfl
          have hoa := Kit.owns_alloc HA.out.own (.cells #[.int .i64 y0, .int .i64 y1, .int .i64 y2] 52)
          obtain ⟨w5, hw5⟩ : ∃ x, x = wr.alloc (.cells #[.int .i64 y0, .int .i64 y1, .int .i64 y2] 52) := ⟨_, rfl⟩
          rw [show wr.alloc (.cells [Value.int .i64 y0, .int .i64 y1, .int .i64 y2].toArray 52) = w5 from hw5.symm] at hbl
          rw [← hw5] at hba hoa ⊢
          obtain ⟨B5, hB5⟩ : ∃ B5, B5 = wr.heap.size := ⟨_, rfl⟩
          rw [← hB5] at hbl ⊢
          have p0 := Arr.blk_cell hbl 0
          have p1 := Arr.blk_cell hbl 1
          have p2 := Arr.blk_cell hbl 2
          simp only [List.getElem?_cons_zero, List.getElem?_cons_succ] at p0 p1 p2
          have hb5 := below_keep HA.out.below hba
          have HC5 := Lib.hid (put_new (B := W1.heap.size) (W1 := W1) hb5 hb5.size hoa [y0, y1, y2] #[.int .i64 y0, .int .i64 y1, .int .i64 y2] rfl 3 rfl (by omega) (by have := HA.out.len; omega))
          clear hba hbl hoa hw5 hB5 hb5 c0 c1 c2
          go_wp2_with fail
          refine HC5.out.mono ?_
          rintro e w10 ⟨a10, n10, c10, rfl, ho10, hb10, -⟩
          have H10 := Lib.hid (show At W1 (1500 + 24 * (k + 1)) (E3 ++ (rs.take (k + 1)).flatMap cRt.enc) w10 (.slice a10 n10 c10) from ⟨by rw [HTk.out, rt_enc, ← List.append_assoc, ← HE.out]; exact ho10, hb10, by
            have h1 := HA.out.len
            rw [HTk.out, ← List.append_assoc, ← HE.out, rt_enc, List.length_append, ints_len]
            simp only [List.length_cons, List.length_nil]
            omega⟩)
          clear ho10 hb10 HC5 p0 p1 p2
          go_wp2_with fail
          go_roundw
          case rel => exact ⟨k + 1, a10, n10, c10, by omega, by go_num, rfl, H10.out⟩
          case measure => simp [intOf]; omega
        · obtain rfl : k = nr := by omega
          have HT := Lib.hid (show rs.take k = rs from List.take_of_length_le (by rw [HN.out.2.2.1]; exact Nat.le_refl _))
          rw [HT.out] at hat
          have HA := Lib.hid hat
          clear hat
          go_wp2_with fail
          go_meet
          case rel => exact ⟨a5, n5, c5, rfl, HA.out.own, HA.out.below, by have := HA.out.len; omega⟩
    case rest =>
    obtain ⟨a3, n3, c3, rfl, hcut⟩ := hcut
    have HA3 := Lib.hid hcut
    have q6 := (HCs.out _ hcut.below).2.2.2.2.2.2.1
    have HC4 := Lib.hid (put_new (B := W1.heap.size) (W1 := W1) hcut.below hcut.below.size hcut.own [(nj : Int)] #[.int .i64 (nj : Nat)] rfl 1 rfl (by omega) (by have := hcut.len; omega))
    clear hcut q5
    go_wp2_with fail
    refine HC4.out.mono ?_
    rintro e w8 ⟨a8, n8, c8, rfl, ho4, hb4, -⟩
    obtain ⟨E4, hE4⟩ : ∃ E4, E4 = E3 ++ rs.flatMap cRt.enc ++ ints [(nj : Int)] := ⟨_, rfl⟩
    rw [← hE4] at ho4
    have H8 := Lib.hid (show At W1 2000 E4 w8 (.slice a8 n8 c8) from ⟨ho4, hb4, by rw [hE4, List.length_append, ints_len]; have := HA3.out.len; simp only [List.length_cons, List.length_nil]; omega⟩)
    have HE4 := Lib.hid hE4
    have q6 := (HCs.out _ hb4).2.2.2.2.2.2.1
    clear ho4 hb4 hE4 HC4 H6 HA3
    go_upto_block 6 with fail
    go_cut [4] (fun bv wx => ∃ a n c, bv = .slice a n c ∧ At W1 8960 (E4 ++ js.flatMap fun y => cJb.enc y.t) wx bv)
    case first =>
      go_wp2_with fail
      go_loopw [4, 108] (fun bv iv wr => ∃ (k : Nat) (a : Option Addr) (n c : Nat), k ≤ nj ∧ iv = .int .i64 (k : Nat) ∧ bv = .slice a n c ∧ At W1 (2010 + 430 * k) (E4 ++ (js.take k).flatMap fun y => cJb.enc y.t) wr bv) (fun _ iv _ => nj - (intOf iv).toNat)
      case atStart => exact ⟨0, a8, n8, c8, Nat.zero_le _, rfl, rfl, by rw [List.take_zero]; show At _ _ (E4 ++ []) _ _; rw [List.append_nil]; exact ⟨H8.out.own, H8.out.below, by have := H8.out.len; omega⟩⟩
      case round =>
        obtain ⟨k, a5, n5, c5, hk, rfl, rfl, hat⟩ := hrel
        clear q6
        by_cases hlt : k < nj
        · obtain ⟨y, hjb⟩ : ∃ x, js[k]? = some x := ⟨_, List.getElem?_eq_getElem (by rw [HN.out.2.2.2.1]; exact hlt)⟩
          obtain ⟨b, o, rfl⟩ := lst_at HI.out.2.2.2.1 (by omega)
          have hyi := HI.out.2.2.2.2.2 y (List.mem_of_getElem? hjb)
          have hall12 := job_all (lst_keep encJ_len HI.out.2.2.2.1 hat.below) hjb
          have HTk := Lib.hid (take_next hjb fun y => cJb.enc y.t)
          have h16 : y.t.draws.length ≤ 16 := HFit.out.2.2.1 y.t (by rw [HTt.out]; exact List.mem_map.2 ⟨_, List.mem_of_getElem? hjb, rfl⟩)
          obtain ⟨E, hE⟩ : ∃ E, E = E4 ++ (js.take k).flatMap fun y => cJb.enc y.t := ⟨_, rfl⟩
          rw [← hE] at hat
          have HE := Lib.hid hE
          have HA := Lib.hid hat
          have hba := below_alloc wr (.cells (encJ y).toArray 55)
          have hbl := Arr.blk_new wr wr.heap.size 55 (encJ y) rfl
          have hb5 := below_keep hat.below hba
          have hoa := Kit.owns_alloc hat.own (.cells (encJ y).toArray 55)
          have HJ := Lib.hid (job_any (W1 := W1) hyi h16 (show At W1 9000 E (wr.alloc (.cells (encJ y).toArray 55)) (.slice a5 n5 c5) from ⟨hoa, hb5, by have := hat.len; omega⟩))
          have HYl := Lib.hid (show (cJb.enc y.t).length ≤ 430 by
            rw [jb_enc, List.length_append, ints_len]
            have h2 : ∀ l : List Dw, (l.flatMap cDw.enc).length = 16 * l.length := fun l => by
              induction l with
              | nil => rfl
              | cons d l ih => rw [List.flatMap_cons, List.length_append, ih, dw_enc, ints_len, List.length_cons]; simp only [List.length_cons, List.length_nil]; omega
            rw [h2]
            simp only [eleven, List.length_append, List.length_cons, List.length_nil]
            omega)
          obtain ⟨⟨j0, j1, j2, j3, j4, j5, j6, j7, j8, j9, j10, ds⟩, ad, nd, cd⟩ := y
          simp only [encJ] at hall12 hbl HJ hba
          obtain ⟨c0, c1, c2, c3, c4, c5', c6, c7, c8, c9, c10, c11⟩ := hall12
          have HBl := Lib.hid hbl
          clear hat hE hjb hyi hba hbl hb5 hoa h16
          go_upto_region 25 with fail
          obtain ⟨w5, hw5⟩ : ∃ x, x = wr.alloc (.cells #[.int .i64 j0, .int .i64 j1, .int .i64 j2, .int .i64 j3, .int .i64 j4, .int .i64 j5, .int .i64 j6, .int .i64 j7, .int .i64 j8, .int .i64 j9, .int .i64 j10, .slice ad nd cd] 55) := ⟨_, rfl⟩
          rw [show wr.alloc (.cells [Value.int .i64 j0, .int .i64 j1, .int .i64 j2, .int .i64 j3, .int .i64 j4, .int .i64 j5, .int .i64 j6, .int .i64 j7, .int .i64 j8, .int .i64 j9, .int .i64 j10, .slice ad nd cd].toArray 55) = w5 from hw5.symm] at HBl HJ
          rw [← hw5]
          obtain ⟨B5, hB5⟩ : ∃ B5, B5 = wr.heap.size := ⟨_, rfl⟩
          rw [← hB5] at HBl ⊢
          clear hw5 hB5 c0 c1 c2 c3 c4 c5' c6 c7 c8 c9 c10 c11
          go_wp2_with (first | (refine Arr.wpList_load_blk rfl 55 (.tmp 12) rfl B5 rfl [.int .i64 j0, .int .i64 j1, .int .i64 j2, .int .i64 j3, .int .i64 j4, .int .i64 j5, .int .i64 j6, .int .i64 j7, .int .i64 j8, .int .i64 j9, .int .i64 j10, .slice ad nd cd] 55 HBl.out _ Try.underlying55 rfl info_jbE ?_) | fail)
          refine HJ.out.mono ?_
          rintro e w10 ⟨a10, n10, c10, rfl, ho10, hb10⟩
          have H10 := Lib.hid (show At W1 (2010 + 430 * (k + 1)) (E4 ++ (js.take (k + 1)).flatMap fun y => cJb.enc y.t) w10 (.slice a10 n10 c10) from ⟨by rw [HTk.out, ← List.append_assoc, ← HE.out]; exact ho10, hb10, by
            have h1 := HA.out.len
            have h2 := HYl.out
            rw [HTk.out, ← List.append_assoc, ← HE.out, List.length_append]
            omega⟩)
          clear ho10 hb10 HJ
          go_wp2_with fail
          go_roundw
          case rel => exact ⟨k + 1, a10, n10, c10, by omega, by go_num, rfl, H10.out⟩
          case measure => simp [intOf]; omega
        · obtain rfl : k = nj := by omega
          have HT := Lib.hid (show js.take k = js from List.take_of_length_le (by rw [HN.out.2.2.2.1]; exact Nat.le_refl _))
          rw [HT.out] at hat
          have HA := Lib.hid hat
          clear hat
          go_wp2_with fail
          go_meet
          case rel => exact ⟨a5, n5, c5, rfl, HA.out.own, HA.out.below, by have := HA.out.len; omega⟩
    case rest =>
    obtain ⟨a3, n3, c3, rfl, hcut⟩ := hcut
    have HA3 := Lib.hid hcut
    have q7 := (HCs.out _ hcut.below).2.2.2.2.2.2.2
    have HC4 := Lib.hid (put_new (B := W1.heap.size) (W1 := W1) hcut.below hcut.below.size hcut.own [(nk : Int)] #[.int .i64 (nk : Nat)] rfl 1 rfl (by omega) (by have := hcut.len; omega))
    clear hcut q6
    go_wp2_with fail
    refine HC4.out.mono ?_
    rintro e wk ⟨ak2, nk2, ck2, rfl, ho4, hb4, -⟩
    obtain ⟨E5, hE5⟩ : ∃ E5, E5 = E4 ++ (js.flatMap fun y => cJb.enc y.t) ++ ints [(nk : Int)] := ⟨_, rfl⟩
    rw [← hE5] at ho4
    have H10 := Lib.hid (show At W1 9010 E5 wk (.slice ak2 nk2 ck2) from ⟨ho4, hb4, by rw [hE5, List.length_append, ints_len]; have := HA3.out.len; simp only [List.length_cons, List.length_nil]; omega⟩)
    have HE5 := Lib.hid hE5
    have q7 := (HCs.out _ hb4).2.2.2.2.2.2.2
    clear ho4 hb4 hE5 HC4 H8 HA3
    go_wp2_with fail
    go_loopw [4, 125] (fun bv iv wr => ∃ (k : Nat) (a : Option Addr) (n c : Nat), k ≤ nk ∧ iv = .int .i64 (k : Nat) ∧ bv = .slice a n c ∧ At W1 (9010 + 20 * k) (E5 ++ (ks.take k).flatMap cTxt.enc) wr bv) (fun _ iv _ => nk - (intOf iv).toNat)
    case atStart => exact ⟨0, ak2, nk2, ck2, Nat.zero_le _, rfl, rfl, by rw [List.take_zero]; show At _ _ (E5 ++ []) _ _; rw [List.append_nil]; exact H10.out⟩
    case round =>
      obtain ⟨k, a5, n5, c5, hk, rfl, rfl, hat⟩ := hrel
      clear q7
      by_cases hlt : k < nk
      · obtain ⟨y, hkx⟩ : ∃ x, ks[k]? = some x := ⟨_, List.getElem?_eq_getElem (by rw [HN.out.2.2.2.2]; exact hlt)⟩
        obtain ⟨b, o, rfl⟩ := lst_at HI.out.2.2.2.2.1 (by omega)
        have hkl : k < ks.length := by rw [HN.out.2.2.2.2]; exact hlt
        have c1 := key_cell (lst_keep encK_len HI.out.2.2.2.2.1 hat.below) hkl
        have hkx2 : ks[k] = y := by rw [List.getElem?_eq_getElem hkl] at hkx; injection hkx
        rw [hkx2] at c1
        have HTk := Lib.hid (take_next hkx cTxt.enc)
        have hn16 : y.size ≤ 16 := HFit.out.2.2.2 y (by rw [HTt.out]; exact List.mem_of_getElem? hkx)
        obtain ⟨E, hE⟩ : ∃ E, E = E5 ++ (ks.take k).flatMap cTxt.enc := ⟨_, rfl⟩
        rw [← hE] at hat
        have HE := Lib.hid hE
        have HA := Lib.hid hat
        have HT := Lib.hid hn16
        have HC5 := Lib.hid (put_txt (B := W1.heap.size) (W1 := W1) hat.below hat.below.size hat.own hn16 (by have := hat.len; omega))
        clear hat hE hkx hkx2 hkl hn16
        go_wp2_with fail
        refine HC5.out.mono ?_
        rintro e w10 ⟨a10, n10, c10, rfl, ho10, hb10, -⟩
        have H11 := Lib.hid (show At W1 (9010 + 20 * (k + 1)) (E5 ++ (ks.take (k + 1)).flatMap cTxt.enc) w10 (.slice a10 n10 c10) from ⟨by rw [HTk.out, ← List.append_assoc, ← HE.out]; exact ho10, hb10, by
          have h1 := HA.out.len
          have h2 := HT.out
          rw [HTk.out, ← List.append_assoc, ← HE.out, List.length_append, show cTxt.enc y = txt y from rfl, txt_len]
          omega⟩)
        clear ho10 hb10 HC5
        go_wp2_with fail
        go_roundw
        case rel => exact ⟨k + 1, a10, n10, c10, by omega, by go_num, rfl, H11.out⟩
        case measure => simp [intOf]; omega
      · obtain rfl : k = nk := by omega
        have HT := Lib.hid (show ks.take k = ks from List.take_of_length_le (by rw [HN.out.2.2.2.2]; exact Nat.le_refl _))
        rw [HT.out] at hat
        have HA := Lib.hid hat
        have HFin := Lib.hid (show encT t = E5 ++ ks.flatMap cTxt.enc by
          rw [HE5.out, HE4.out, HE3.out, HE2.out, HE0.out, HTt.out]
          have hn := HN.out
          show int8 sq ++ (int8 wd ++ (int8 nx ++ ((int8 _ ++ fs.flatMap cFd.enc) ++ ((int8 _ ++ ls.flatMap cAl.enc) ++ ((int8 _ ++ rs.flatMap cRt.enc) ++ ((int8 _ ++ (js.map (·.t)).flatMap cJb.enc) ++ (int8 _ ++ ks.flatMap cTxt.enc))))))) = _
          rw [List.length_map, hn.1, hn.2.1, hn.2.2.1, hn.2.2.2.1, hn.2.2.2.2, List.flatMap_map]
          unfold ints
          simp only [List.flatMap_cons, List.flatMap_nil, List.append_nil, List.nil_append, List.append_assoc])
        clear hat
        go_wp2_with fail
        go_ret2
        obtain ⟨a9, n9, c9, e9, hnb⟩ := nb_own (B := W.heap.size) HA.out.own HB.out.size
        injection e9 with e1 e2 e3
        subst e1 e2 e3
        exact ⟨a5, n5, c5, by rw [(enc_yes HFit.out).1]; rfl, by rw [(enc_yes HFit.out).2, HFin.out]; exact hnb, below_keep HB.out HA.out.below⟩
  · rw [decide_eq_false hfit] at HM
    have HBad := Lib.hid hfit
    clear hfit
    go_enter Try.func7, Try.ntmps7
    go_upto_region 1 with fail
    rw [show W.alloc (.cells #[.int .i64 sq, .int .i64 wd, .int .i64 nx, .slice af nf cf, .slice al nl cl, .slice ar nr cr, .slice aj nj cj, .slice ak nk ck] 28) = W0 from HW0.out.symm]
    go_wp2_with (first | (refine Arr.wpList_load_blk rfl 28 (.tmp 1) rfl W.heap.size rfl [.int .i64 sq, .int .i64 wd, .int .i64 nx, .slice af nf cf, .slice al nl cl, .slice ar nr cr, .slice aj nj cj, .slice ak nk ck] 28 HBx.out _ Try.underlying28 rfl info_stE ?_) | fail)
    refine HM.out.mono ?_
    rintro e W1 ⟨rfl, hb⟩
    have HB := Lib.hid (below_keep HB0.out hb)
    clear hb
    go_wp2_with fail
    go_ret2
    exact enc_bad HBad.out HB.out
end Go.Proofs.Ytpmpigglekgfnaa.Snp
/- Snap: the landed reader in memory; numbers read into places. -/
namespace Go.Proofs.Ytpmpigglekgfnaa.Snp
set_option maxRecDepth 100000
open Go.RowKit
open Go.Sort
open Kit
open Oct
open Foot
set_option linter.unusedVariables false
variable {w w' : World}

/-- A reader at q, all of it in these blocks; without a Reader all is spoilt. -/
def RdP (S : Nat → Prop) (w : World) (q : Nat) (s : RS) (po : Option Addr) : Prop :=
  Arr.Blk w q 65 [.pointer po] ∧ S q ∧ ((∃ p, po = some ⟨p, 0, none⟩ ∧ p ≠ q ∧ RdrS S w p s) ∨ (po = none ∧ s = none))
variable {S : Nat → Prop} {q : Nat} {s s2 : RS} {po : Option Addr}
theorem rdp_cell (h : RdP S w q s po) : w.cell? ⟨q, 0, none⟩ = some (.pointer po) := Arr.blk_cell h.1 0
theorem rdp_frozen (h : RdP S w q s po) : w.frozen? ⟨q, 0, none⟩ = false := Arr.blk_frozen h.1 0
theorem rdp_lt (h : RdP S w q s po) : q < w.heap.size := Arr.blk_lt h.1
theorem rdp_chg {F : Nat → Prop} (h : RdP S w q s po) (hC : Chg F w w') (hF : ∀ k, F k → ¬ S k) : RdP S w' q s po := by
  obtain ⟨h1, h2, h3⟩ := h
  refine ⟨blk_chg hC h1 fun hf => hF _ hf h2, h2, ?_⟩
  rcases h3 with ⟨p, e, hp, hr⟩ | h3
  · exact .inl ⟨p, e, hp, rdrs_chg hr hC hF⟩
  · exact .inr h3
theorem rdp_below (h : RdP S w q s po) (hb : Below w.heap.size w w') : RdP S w' q s po := rdp_chg (F := fun _ => False) h (new_chg hb _) fun _ => False.elim
theorem rdp_after {p : Nat} (h : RdP S w q s (some ⟨p, 0, none⟩)) (hp : p ≠ q) (hr : RdrS S w' p s2) (hg : w.grownBy w' (some p)) : RdP S w' q s2 (some ⟨p, 0, none⟩) ∧ Chg S w w' := by
  have hC : Chg (fun k => some k = some p) w w' := grown_chg hg
  have hs := rdrs_in hr
  refine ⟨⟨blk_chg hC h.1 fun e => ?_, h.2.1, .inl ⟨p, rfl, hp, hr⟩⟩, chg_mono hC fun k _ e => ?_⟩
  · injection e with e; exact hp e.symm
  · injection e with e; subst e; exact hs
theorem int_rl {n : Int} (h : RdP S w q s po) (hr : rInt s = (n, s2)) : Calls Try.prog 39 #[.pointer po] w fun e w' => e = .returned (.int .i64 n) ∧ RdP S w' q s2 po ∧ Chg S w w' := by
  rcases id h.2.2 with ⟨p, rfl, hp, hrd⟩ | ⟨rfl, rfl⟩
  · refine (int_rdr hrd).mono ?_
    rw [hr]
    exact fun e w' h1 => ⟨h1.1, rdp_after h hp h1.2.1 h1.2.2⟩
  · have e : n = 0 ∧ s2 = none := by
      have : rInt none = (0, none) := rfl
      rw [this] at hr
      injection hr with h1 h2
      exact ⟨h1.symm, h2.symm⟩
    obtain ⟨rfl, rfl⟩ := e
    refine (int_nil w).mono ?_
    rintro e w' ⟨rfl, rfl⟩
    exact ⟨rfl, h, chg_refl _ _⟩
theorem text_rl {n : ByteArray} (h : RdP S w q s po) (hr : rText 16 s = (n, s2)) : Calls Try.prog 42 #[.pointer po, .int .i64 16] w fun e w' => e = .returned (.string n) ∧ RdP S w' q s2 po ∧ Chg S w w' := by
  rcases id h.2.2 with ⟨p, rfl, hp, hrd⟩ | ⟨rfl, rfl⟩
  · refine (text_rdr 16 hrd).mono ?_
    rw [hr]
    exact fun e w' h1 => ⟨h1.1, rdp_after h hp h1.2.1 h1.2.2⟩
  · have e : n = ⟨#[]⟩ ∧ s2 = none := by
      have : rText 16 none = (⟨#[]⟩, none) := rfl
      rw [this] at hr
      injection hr with h1 h2
      exact ⟨h1.symm, h2.symm⟩
    obtain ⟨rfl, rfl⟩ := e
    refine (text_nil 16 w).mono ?_
    rintro e w' ⟨rfl, rfl⟩
    exact ⟨rfl, h, chg_refl _ _⟩
theorem end_rl (h : RdP S w q s po) : Calls Try.prog 31 #[.pointer po] w fun e w' => e = .returned (.bool (decide (s = some []))) ∧ w = w' := by
  rcases id h.2.2 with ⟨p, rfl, hp, hrd⟩ | ⟨rfl, rfl⟩
  · exact end_rdr hrd
  · refine (end_nil w).mono ?_
    rintro e w' ⟨rfl, rfl⟩
    exact ⟨rfl, rfl⟩
theorem rdp_drop (h : RdP S w q s po) : RdP S (w.setCell ⟨q, 0, none⟩ (.pointer none)) q none none ∧ Chg S w (w.setCell ⟨q, 0, none⟩ (.pointer none)) :=
  ⟨⟨Arr.blk_set h.1 0 _, h.2.1, .inr ⟨rfl, rfl⟩⟩, chg_set (chg_refl _ _) (.inl h.2.1) 0 _⟩

/-! ### Numbers into places -/

def putI : List Value → Nat → List Int → List Value
  | cs, _, [] => cs
  | cs, o, x :: xs => putI (cs.set o (.int .i64 x)) (o + 1) xs
theorem putI_snoc : ∀ (xs : List Int) (cs : List Value) (o : Nat) (x : Int), putI cs o (xs ++ [x]) = (putI cs o xs).set (o + xs.length) (.int .i64 x)
  | [], cs, o, x => rfl
  | y :: xs, cs, o, x => by
    show putI (cs.set o (.int .i64 y)) (o + 1) (xs ++ [x]) = _
    rw [putI_snoc xs]
    show (putI _ _ xs).set (o + 1 + xs.length) _ = (putI _ _ xs).set (o + (xs.length + 1)) _
    rw [show o + 1 + xs.length = o + (xs.length + 1) by omega]
theorem putI_len : ∀ (xs : List Int) (cs : List Value) (o : Nat), (putI cs o xs).length = cs.length
  | [], cs, o => rfl
  | y :: xs, cs, o => by
    show (putI (cs.set o (.int .i64 y)) (o + 1) xs).length = _
    rw [putI_len xs, List.length_set]
set_option maxHeartbeats 8000000 in
theorem fill_any {X g og o m : Nat} {T : TypeId} {cs : List Value} {xs : List Int} (h : RdP S w q s po) (hp : ∀ k, k < m → w.cell? ⟨g, og + k, none⟩ = some (.pointer (some ⟨X, o + k, none⟩))) (hx : Arr.Blk w X T cs) (hg : ¬ S g) (hX : ¬ S X) (hXg : g ≠ X) (hm : m ≤ 1000) (ho : o + m ≤ cs.length) (hr : rep cInt m s = (xs, s2)) :
    Calls Try.prog 20 #[.pointer (some ⟨q, 0, none⟩), .slice (some ⟨g, og, none⟩) m m] w fun e w' => e = .returned (.tuple #[]) ∧ RdP S w' q s2 po ∧ Arr.Blk w' X T (putI cs o xs) ∧ Chg (fun k => S k ∨ k = X) w w' := by
  have HP := Lib.hid hp
  have HG := Lib.hid (And.intro hg (And.intro hX (And.intro hXg ho)))
  have HR := Lib.hid hr
  have H0 := Lib.hid (And.intro h hx)
  clear hp hg hX hXg ho hr h hx
  go_enter Try.func20, Try.ntmps20
  go_wp2_with fail
  go_loopw [8] (fun iv wr => ∃ (k : Nat), k ≤ m ∧ iv = .int .i64 (k : Nat) ∧ RdP S wr q (rep cInt k s).2 po ∧ Arr.Blk wr X T (putI cs o (rep cInt k s).1) ∧ Chg (fun k => S k ∨ k = X) w wr) (fun iv _ => m - (intOf iv).toNat)
  case atStart => exact ⟨0, Nat.zero_le _, rfl, H0.out.1, H0.out.2, chg_refl _ _⟩
  case round =>
    obtain ⟨k, hk, rfl, hrd, hbl, hC⟩ := hrel
    by_cases hlt : k < m
    · rcases hx : rInt (rep cInt k s).2 with ⟨x0, t1⟩
      have hnx := rep_next (A := cInt) (n := k) (s := s) (l := (rep cInt k s).1) (s1 := (rep cInt k s).2) rfl hx
      have hlen := rep_len cInt k s
      have c0 := cell_chg hC (HP.out k hlt) (fun e => by rcases e with e | e; exact HG.out.1 e; exact HG.out.2.2.1 e)
      obtain ⟨ys, hys⟩ : ∃ y, y = (rep cInt k s).1 := ⟨_, rfl⟩
      obtain ⟨t0, ht0⟩ : ∃ y, y = (rep cInt k s).2 := ⟨_, rfl⟩
      rw [← hys] at hbl hnx hlen
      rw [← ht0] at hrd hx
      have c1 := rdp_cell hrd
      have HI := Lib.hid (And.intro (int_rl hrd hx) (And.intro hbl hC))
      have HN := Lib.hid (And.intro hnx hlen)
      clear hrd hx hnx hbl hC hlen hys ht0
      go_wp2_with fail
      refine HI.out.1.mono ?_
      rintro e w7 ⟨rfl, hrd, hC7⟩
      have hb7 := blk_chg hC7 HI.out.2.1 HG.out.2.1
      obtain ⟨u, hu⟩ : ∃ u, (putI cs o ys)[o + k]? = some u := ⟨_, List.getElem?_eq_getElem (by rw [putI_len]; have := HG.out.2.2.2; omega)⟩
      have c2 := (Arr.blk_cell hb7 (o + k)).trans hu
      have f2 := Arr.blk_frozen hb7 (o + k)
      have H7 := Lib.hid (And.intro (rdp_chg hrd (set_chg w7 X (o + k) (.int .i64 x0)) (fun k e => by subst e; exact HG.out.2.1)) (And.intro (Arr.blk_set hb7 (o + k) (.int .i64 x0)) (chg_set (chg_trans HI.out.2.2 hC7 fun x hx => .inl (.inl hx)) (.inl (.inr rfl)) (o + k) (.int .i64 x0))))
      clear hrd hC7 hb7 hu c0 c1
      go_wp2_with fail
      go_roundw
      case rel =>
        refine ⟨k + 1, by omega, by go_num, ?_, ?_, H7.out.2.2⟩
        · rw [HN.out.1]; exact H7.out.1
        · rw [HN.out.1]
          show Arr.Blk _ _ _ (putI cs o (ys ++ [x0]))
          rw [putI_snoc, HN.out.2]; exact H7.out.2.1
      case measure => simp [intOf]; omega
    · obtain rfl : k = m := by omega
      rw [HR.out] at hrd hbl
      have HE := Lib.hid (And.intro hrd (And.intro hbl hC))
      clear hrd hbl hC
      go_wp2_with fail
      go_end0
      exact ⟨rfl, HE.out⟩
set_option maxHeartbeats 4000000 in
theorem name_any {x : ByteArray} (h : RdP S w q s po) (hr : rText 16 s = (x, s2)) :
    Calls Try.prog 30 #[.pointer (some ⟨q, 0, none⟩)] w fun e w' => e = .returned (.string x) ∧ RdP S w' q s2 po ∧ Chg S w w' := by
  have c1 := rdp_cell h
  have HT := Lib.hid (text_rl h hr)
  clear h hr
  go_enter Try.func30, Try.ntmps30
  go_wp2_with fail
  refine HT.out.mono ?_
  rintro e w7 ⟨rfl, h7⟩
  have H7 := Lib.hid h7
  clear h7 c1
  go_wp2_with fail
  go_ret
  exact ⟨rfl, H7.out⟩
end Go.Proofs.Ytpmpigglekgfnaa.Snp
/- Snap: an allocation, a rate, a draw, a fund, read by the landed reader. -/
namespace Go.Proofs.Ytpmpigglekgfnaa.Snp
set_option maxRecDepth 100000
open Go.RowKit
open Go.Sort
open Kit
open Oct
open Foot
open Tre (Al)
open Rte (Rt)
open Drw (Dw)
set_option linter.unusedVariables false
variable {w w' : World} {S : Nat → Prop} {q : Nat} {s s2 : RS} {po : Option Addr}

theorem results_cell_blk {P : Program} {fn : Func} {p : Tmp} {ty : TypeId} (h : fn.results = #[.cell p ty]) (tmps : Array Value) (w : World) (g : Nat) (t : TypeId) (cs : List Value) (d : TypeDesc)
    (hp : tmps.getD p undef = .pointer (some ⟨g, 0, none⟩)) (hg : Arr.Blk w g t cs) (hu : P.underlying ty = some d) (hd : (match d with | .struct _ | .array _ _ => true | _ => false) = true) (hi : (P.info? ty).map (·.size) = some cs.length) :
    (results fn tmps).run P w = .ok (.agg cs.toArray) w := results_cell_row h tmps w g t cs.toArray (0, 0) d hp hg hu hd (by simpa using hi)
theorem info_alS : (Try.prog.info? 50).map (·.size) = some 6 := by kernel_rfl
theorem info_rtS : (Try.prog.info? 52).map (·.size) = some 3 := by kernel_rfl
theorem info_dwS : (Try.prog.info? 60).map (·.size) = some 2 := by kernel_rfl
theorem info_fdS : (Try.prog.info? 47).map (·.size) = some 3 := by kernel_rfl
theorem rep_one {s s1 : RS} {x : Int} (h : rInt s = (x, s1)) : rep cInt 1 s = ([x], s1) := rep_next (A := cInt) (n := 0) rfl h
theorem rep_more {s s1 s2 : RS} {n : Nat} {l : List Int} {x : Int} (h : rep cInt n s = (l, s1)) (hx : rInt s1 = (x, s2)) : rep cInt (n + 1) s = (l ++ [x], s2) := rep_next (A := cInt) h hx
theorem places6 (X k : Nat) (h : k < 6) : ([.pointer (some ⟨X, 0, none⟩), .pointer (some ⟨X, 1, none⟩), .pointer (some ⟨X, 2, none⟩), .pointer (some ⟨X, 3, none⟩), .pointer (some ⟨X, 4, none⟩), .pointer (some ⟨X, 5, none⟩)] : List Value)[0 + k]? = some (.pointer (some ⟨X, 0 + k, none⟩)) := by
  match k, h with
  | 0, _ => rfl
  | 1, _ => rfl
  | 2, _ => rfl
  | 3, _ => rfl
  | 4, _ => rfl
  | 5, _ => rfl
theorem places3 (X k : Nat) (h : k < 3) : ([.pointer (some ⟨X, 0, none⟩), .pointer (some ⟨X, 1, none⟩), .pointer (some ⟨X, 2, none⟩)] : List Value)[0 + k]? = some (.pointer (some ⟨X, 0 + k, none⟩)) := by
  match k, h with
  | 0, _ => rfl
  | 1, _ => rfl
  | 2, _ => rfl
theorem places2 (X k : Nat) (h : k < 2) : ([.pointer (some ⟨X, 0, none⟩), .pointer (some ⟨X, 1, none⟩)] : List Value)[0 + k]? = some (.pointer (some ⟨X, 0 + k, none⟩)) := by
  match k, h with
  | 0, _ => rfl
  | 1, _ => rfl
theorem places12 (X k : Nat) (h : k < 2) : ([.pointer (some ⟨X, 1, none⟩), .pointer (some ⟨X, 2, none⟩)] : List Value)[0 + k]? = some (.pointer (some ⟨X, 1 + k, none⟩)) := by
  match k, h with
  | 0, _ => rfl
  | 1, _ => rfl
set_option maxHeartbeats 8000000 in
theorem alloc_any {x : Al} (h : RdP S w q s po) (hS : ∀ k, S k → k < w.heap.size) (hr : cAl.dec s = (x, s2)) :
    Calls Try.prog 24 #[.pointer (some ⟨q, 0, none⟩)] w fun e w' => e = .returned (.agg #[.int .i64 x.fund, .int .i64 x.from', .int .i64 x.till, .int .i64 x.avail, .int .i64 x.lien, .int .i64 x.spent]) ∧ RdP S w' q s2 po ∧ Chg S w w' := by
  rcases h1 : rInt s with ⟨x0, s1⟩
  rcases h2 : rInt s1 with ⟨x1, s3⟩
  rcases h3 : rInt s3 with ⟨x2, s4⟩
  rcases h4 : rInt s4 with ⟨x3, s5⟩
  rcases h5 : rInt s5 with ⟨x4, s6⟩
  rcases h6 : rInt s6 with ⟨x5, s7⟩
  have e := hr.symm.trans (al_of h1 h2 h3 h4 h5 h6)
  have hrp : rep cInt 6 s = ([x0, x1, x2, x3, x4, x5], s7) := rep_more (rep_more (rep_more (rep_more (rep_more (rep_one h1) h2) h3) h4) h5) h6
  injection e with e1 e2
  subst e1 e2
  simp only
  clear hr h1 h2 h3 h4 h5 h6
  have HRp := Lib.hid (And.intro hrp hS)
  obtain ⟨w2, hw2⟩ : ∃ y, y = (w.alloc (.cells #[.int .i64 0, .int .i64 0, .int .i64 0, .int .i64 0, .int .i64 0, .int .i64 0] 50)).alloc (.cells #[.int .i64 0, .int .i64 0, .int .i64 0, .int .i64 0, .int .i64 0, .int .i64 0] 50) := ⟨_, rfl⟩
  obtain ⟨X, hX⟩ : ∃ y, y = w.heap.size + 1 := ⟨_, rfl⟩
  have hb1 := below_alloc w (.cells [.int .i64 0, .int .i64 0, .int .i64 0, .int .i64 0, .int .i64 0, .int .i64 0].toArray 50)
  have hr1 := Arr.blk_new w w.heap.size 50 [.int .i64 0, .int .i64 0, .int .i64 0, .int .i64 0, .int .i64 0, .int .i64 0] rfl
  have hb2 := below_alloc (w.alloc (.cells [.int .i64 0, .int .i64 0, .int .i64 0, .int .i64 0, .int .i64 0, .int .i64 0].toArray 50)) (.cells [.int .i64 0, .int .i64 0, .int .i64 0, .int .i64 0, .int .i64 0, .int .i64 0].toArray 50)
  have hx2 := Arr.blk_new (w.alloc (.cells [.int .i64 0, .int .i64 0, .int .i64 0, .int .i64 0, .int .i64 0, .int .i64 0].toArray 50)) X 50 [.int .i64 0, .int .i64 0, .int .i64 0, .int .i64 0, .int .i64 0, .int .i64 0] (by rw [hX]; simp)
  have hr2 := Arr.blk_below hr1 hb2 (Arr.blk_lt hr1)
  have hb02 := below_keep hb1 hb2
  have hz2 : w2.heap.size = X + 1 := by rw [hw2, hX]; simp
  rw [show (w.alloc (.cells [.int .i64 0, .int .i64 0, .int .i64 0, .int .i64 0, .int .i64 0, .int .i64 0].toArray 50)).alloc (.cells [.int .i64 0, .int .i64 0, .int .i64 0, .int .i64 0, .int .i64 0, .int .i64 0].toArray 50) = w2 from hw2.symm] at hx2 hr2 hb02
  have hrd2 := rdp_below h hb02
  have hb3 := below_alloc w2 (.cells [.pointer (some ⟨X, 0, none⟩), .pointer (some ⟨X, 1, none⟩), .pointer (some ⟨X, 2, none⟩), .pointer (some ⟨X, 3, none⟩), .pointer (some ⟨X, 4, none⟩), .pointer (some ⟨X, 5, none⟩)].toArray 67)
  have hg3 := Arr.blk_new w2 w2.heap.size 67 [.pointer (some ⟨X, 0, none⟩), .pointer (some ⟨X, 1, none⟩), .pointer (some ⟨X, 2, none⟩), .pointer (some ⟨X, 3, none⟩), .pointer (some ⟨X, 4, none⟩), .pointer (some ⟨X, 5, none⟩)] rfl
  have HF := Lib.hid (fill_any (w := w2.alloc (.cells [.pointer (some ⟨X, 0, none⟩), .pointer (some ⟨X, 1, none⟩), .pointer (some ⟨X, 2, none⟩), .pointer (some ⟨X, 3, none⟩), .pointer (some ⟨X, 4, none⟩), .pointer (some ⟨X, 5, none⟩)].toArray 67)) (X := X) (g := w2.heap.size) (og := 0) (o := 0) (m := 6) (T := 50) (cs := [.int .i64 0, .int .i64 0, .int .i64 0, .int .i64 0, .int .i64 0, .int .i64 0]) (rdp_below hrd2 hb3) (fun k hk => (Arr.blk_cell hg3 (0 + k)).trans (places6 X k hk)) (Arr.blk_below hx2 hb3 (Arr.blk_lt hx2)) (fun e => by have := hS _ e; have := hb02.size; omega) (fun e => by have := hS _ e; omega) (by omega) (by omega) (by simp) hrp)
  have HR2 := Lib.hid (And.intro hr2 (And.intro hb02 hb3))
  have HXs := Lib.hid (And.intro hX hz2)
  have HW2 := Lib.hid hw2
  clear hb1 hr1 hb2 hx2 hr2 hb02 hrd2 hb3 hg3 hrp hS h hw2 hX hz2
  go_enter Try.func24, Try.ntmps24
  go_upto_region 2 with fail
  rw [show (w.alloc (.cells #[.int .i64 0, .int .i64 0, .int .i64 0, .int .i64 0, .int .i64 0, .int .i64 0] 50)).alloc (.cells #[.int .i64 0, .int .i64 0, .int .i64 0, .int .i64 0, .int .i64 0, .int .i64 0] 50) = w2 from HW2.out.symm, ← HXs.out.1]
  go_wp2_with fail
  refine HF.out.mono ?_
  rintro e w4 ⟨rfl, hrd, hbl, hC⟩
  simp only [putI, List.set_cons_zero, List.set_cons_succ] at hbl
  have hr4 := blk_chg hC (Arr.blk_below HR2.out.1 HR2.out.2.2 (Arr.blk_lt HR2.out.1)) (fun e => by
    rcases e with e | e
    · have := HRp.out.2 _ e; omega
    · have := HXs.out.1; omega)
  have hC4 : Chg S w w4 := chg_trans (new_chg (below_keep HR2.out.2.1 HR2.out.2.2) S) hC fun k hk => by
    rcases hk with hk | hk
    · exact .inl hk
    · exact .inr (by have := HXs.out.1; omega)
  have H4 := Lib.hid (And.intro hrd (And.intro hbl (And.intro hr4 hC4)))
  clear hrd hbl hC hr4 hC4 HF HR2
  go_wp2_with (first | (refine Arr.wpList_load_blk rfl 50 (.tmp 3) rfl X rfl [.int .i64 x0, .int .i64 x1, .int .i64 x2, .int .i64 x3, .int .i64 x4, .int .i64 x5] 50 H4.out.2.1 _ Try.underlying50 rfl info_alS ?_) | (refine wpList_store_own rfl 50 (.tmp 2) (.tmp 13) rfl w.heap.size [.int .i64 x0, .int .i64 x1, .int .i64 x2, .int .i64 x3, .int .i64 x4, .int .i64 x5] rfl rfl [.int .i64 0, .int .i64 0, .int .i64 0, .int .i64 0, .int .i64 0, .int .i64 0] 50 H4.out.2.2.1 info_alS rfl rfl ?_; intro wz hblk hCz hsz) | fail)
  refine bodyPost_ret (results_cell_blk rfl _ _ w.heap.size 50 [.int .i64 x0, .int .i64 x1, .int .i64 x2, .int .i64 x3, .int .i64 x4, .int .i64 x5] _ rfl hblk Try.underlying50 rfl info_alS) rfl ?_
  have hS0 : ∀ k, k = w.heap.size → ¬ S k := fun k e hk => by have := HRp.out.2 _ hk; omega
  exact ⟨rfl, rdp_chg H4.out.1 hCz hS0, chg_trans H4.out.2.2.2 hCz fun k hk => .inr (Nat.le_of_eq hk.symm)⟩
set_option maxHeartbeats 8000000 in
theorem rate_any {x : Rt} (h : RdP S w q s po) (hS : ∀ k, S k → k < w.heap.size) (hr : cRt.dec s = (x, s2)) :
    Calls Try.prog 26 #[.pointer (some ⟨q, 0, none⟩)] w fun e w' => e = .returned (.agg #[.int .i64 x.qos, .int .i64 x.from', .int .i64 x.price]) ∧ RdP S w' q s2 po ∧ Chg S w w' := by
  rcases h1 : rInt s with ⟨x0, s1⟩
  rcases h2 : rInt s1 with ⟨x1, s3⟩
  rcases h3 : rInt s3 with ⟨x2, s4⟩
  have e := hr.symm.trans (rt_of h1 h2 h3)
  have hrp : rep cInt 3 s = ([x0, x1, x2], s4) := rep_more (rep_more (rep_one h1) h2) h3
  injection e with e1 e2
  subst e1 e2
  simp only
  clear hr h1 h2 h3
  have HRp := Lib.hid (And.intro hrp hS)
  obtain ⟨w2, hw2⟩ : ∃ y, y = (w.alloc (.cells #[.int .i64 0, .int .i64 0, .int .i64 0] 52)).alloc (.cells #[.int .i64 0, .int .i64 0, .int .i64 0] 52) := ⟨_, rfl⟩
  obtain ⟨X, hX⟩ : ∃ y, y = w.heap.size + 1 := ⟨_, rfl⟩
  have hb1 := below_alloc w (.cells [.int .i64 0, .int .i64 0, .int .i64 0].toArray 52)
  have hr1 := Arr.blk_new w w.heap.size 52 [.int .i64 0, .int .i64 0, .int .i64 0] rfl
  have hb2 := below_alloc (w.alloc (.cells [.int .i64 0, .int .i64 0, .int .i64 0].toArray 52)) (.cells [.int .i64 0, .int .i64 0, .int .i64 0].toArray 52)
  have hx2 := Arr.blk_new (w.alloc (.cells [.int .i64 0, .int .i64 0, .int .i64 0].toArray 52)) X 52 [.int .i64 0, .int .i64 0, .int .i64 0] (by rw [hX]; simp)
  have hr2 := Arr.blk_below hr1 hb2 (Arr.blk_lt hr1)
  have hb02 := below_keep hb1 hb2
  have hz2 : w2.heap.size = X + 1 := by rw [hw2, hX]; simp
  rw [show (w.alloc (.cells [.int .i64 0, .int .i64 0, .int .i64 0].toArray 52)).alloc (.cells [.int .i64 0, .int .i64 0, .int .i64 0].toArray 52) = w2 from hw2.symm] at hx2 hr2 hb02
  have hrd2 := rdp_below h hb02
  have hb3 := below_alloc w2 (.cells [.pointer (some ⟨X, 0, none⟩), .pointer (some ⟨X, 1, none⟩), .pointer (some ⟨X, 2, none⟩)].toArray 67)
  have hg3 := Arr.blk_new w2 w2.heap.size 67 [.pointer (some ⟨X, 0, none⟩), .pointer (some ⟨X, 1, none⟩), .pointer (some ⟨X, 2, none⟩)] rfl
  have HF := Lib.hid (fill_any (w := w2.alloc (.cells [.pointer (some ⟨X, 0, none⟩), .pointer (some ⟨X, 1, none⟩), .pointer (some ⟨X, 2, none⟩)].toArray 67)) (X := X) (g := w2.heap.size) (og := 0) (o := 0) (m := 3) (T := 52) (cs := [.int .i64 0, .int .i64 0, .int .i64 0]) (rdp_below hrd2 hb3) (fun k hk => (Arr.blk_cell hg3 (0 + k)).trans (places3 X k hk)) (Arr.blk_below hx2 hb3 (Arr.blk_lt hx2)) (fun e => by have := hS _ e; have := hb02.size; omega) (fun e => by have := hS _ e; omega) (by omega) (by omega) (by simp) hrp)
  have HR2 := Lib.hid (And.intro hr2 (And.intro hb02 hb3))
  have HXs := Lib.hid (And.intro hX hz2)
  have HW2 := Lib.hid hw2
  clear hb1 hr1 hb2 hx2 hr2 hb02 hrd2 hb3 hg3 hrp hS h hw2 hX hz2
  go_enter Try.func26, Try.ntmps26
  go_upto_region 2 with fail
  rw [show (w.alloc (.cells #[.int .i64 0, .int .i64 0, .int .i64 0] 52)).alloc (.cells #[.int .i64 0, .int .i64 0, .int .i64 0] 52) = w2 from HW2.out.symm, ← HXs.out.1]
  go_wp2_with fail
  refine HF.out.mono ?_
  rintro e w4 ⟨rfl, hrd, hbl, hC⟩
  simp only [putI, List.set_cons_zero, List.set_cons_succ] at hbl
  have hr4 := blk_chg hC (Arr.blk_below HR2.out.1 HR2.out.2.2 (Arr.blk_lt HR2.out.1)) (fun e => by
    rcases e with e | e
    · have := HRp.out.2 _ e; omega
    · have := HXs.out.1; omega)
  have hC4 : Chg S w w4 := chg_trans (new_chg (below_keep HR2.out.2.1 HR2.out.2.2) S) hC fun k hk => by
    rcases hk with hk | hk
    · exact .inl hk
    · exact .inr (by have := HXs.out.1; omega)
  have H4 := Lib.hid (And.intro hrd (And.intro hbl (And.intro hr4 hC4)))
  clear hrd hbl hC hr4 hC4 HF HR2
  go_wp2_with (first | (refine Arr.wpList_load_blk rfl 52 (.tmp 3) rfl X rfl [.int .i64 x0, .int .i64 x1, .int .i64 x2] 52 H4.out.2.1 _ Try.underlying52 rfl info_rtS ?_) | (refine wpList_store_own rfl 52 (.tmp 2) (.tmp 10) rfl w.heap.size [.int .i64 x0, .int .i64 x1, .int .i64 x2] rfl rfl [.int .i64 0, .int .i64 0, .int .i64 0] 52 H4.out.2.2.1 info_rtS rfl rfl ?_; intro wz hblk hCz hsz) | fail)
  refine bodyPost_ret (results_cell_blk rfl _ _ w.heap.size 52 [.int .i64 x0, .int .i64 x1, .int .i64 x2] _ rfl hblk Try.underlying52 rfl info_rtS) rfl ?_
  have hS0 : ∀ k, k = w.heap.size → ¬ S k := fun k e hk => by have := HRp.out.2 _ hk; omega
  exact ⟨rfl, rdp_chg H4.out.1 hCz hS0, chg_trans H4.out.2.2.2 hCz fun k hk => .inr (Nat.le_of_eq hk.symm)⟩
set_option maxHeartbeats 8000000 in
theorem draw_any {x : Dw} (h : RdP S w q s po) (hS : ∀ k, S k → k < w.heap.size) (hr : cDw.dec s = (x, s2)) :
    Calls Try.prog 41 #[.pointer (some ⟨q, 0, none⟩)] w fun e w' => e = .returned (.agg #[.int .i64 x.alloc, .int .i64 x.amt]) ∧ RdP S w' q s2 po ∧ Chg S w w' := by
  rcases h1 : rInt s with ⟨x0, s1⟩
  rcases h2 : rInt s1 with ⟨x1, s3⟩
  have e := hr.symm.trans (dw_of h1 h2)
  have hrp : rep cInt 2 s = ([x0, x1], s3) := rep_more (rep_one h1) h2
  injection e with e1 e2
  subst e1 e2
  simp only
  clear hr h1 h2
  have HRp := Lib.hid (And.intro hrp hS)
  obtain ⟨w2, hw2⟩ : ∃ y, y = (w.alloc (.cells #[.int .i64 0, .int .i64 0] 60)).alloc (.cells #[.int .i64 0, .int .i64 0] 60) := ⟨_, rfl⟩
  obtain ⟨X, hX⟩ : ∃ y, y = w.heap.size + 1 := ⟨_, rfl⟩
  have hb1 := below_alloc w (.cells [.int .i64 0, .int .i64 0].toArray 60)
  have hr1 := Arr.blk_new w w.heap.size 60 [.int .i64 0, .int .i64 0] rfl
  have hb2 := below_alloc (w.alloc (.cells [.int .i64 0, .int .i64 0].toArray 60)) (.cells [.int .i64 0, .int .i64 0].toArray 60)
  have hx2 := Arr.blk_new (w.alloc (.cells [.int .i64 0, .int .i64 0].toArray 60)) X 60 [.int .i64 0, .int .i64 0] (by rw [hX]; simp)
  have hr2 := Arr.blk_below hr1 hb2 (Arr.blk_lt hr1)
  have hb02 := below_keep hb1 hb2
  have hz2 : w2.heap.size = X + 1 := by rw [hw2, hX]; simp
  rw [show (w.alloc (.cells [.int .i64 0, .int .i64 0].toArray 60)).alloc (.cells [.int .i64 0, .int .i64 0].toArray 60) = w2 from hw2.symm] at hx2 hr2 hb02
  have hrd2 := rdp_below h hb02
  have hb3 := below_alloc w2 (.cells [.pointer (some ⟨X, 0, none⟩), .pointer (some ⟨X, 1, none⟩)].toArray 67)
  have hg3 := Arr.blk_new w2 w2.heap.size 67 [.pointer (some ⟨X, 0, none⟩), .pointer (some ⟨X, 1, none⟩)] rfl
  have HF := Lib.hid (fill_any (w := w2.alloc (.cells [.pointer (some ⟨X, 0, none⟩), .pointer (some ⟨X, 1, none⟩)].toArray 67)) (X := X) (g := w2.heap.size) (og := 0) (o := 0) (m := 2) (T := 60) (cs := [.int .i64 0, .int .i64 0]) (rdp_below hrd2 hb3) (fun k hk => (Arr.blk_cell hg3 (0 + k)).trans (places2 X k hk)) (Arr.blk_below hx2 hb3 (Arr.blk_lt hx2)) (fun e => by have := hS _ e; have := hb02.size; omega) (fun e => by have := hS _ e; omega) (by omega) (by omega) (by simp) hrp)
  have HR2 := Lib.hid (And.intro hr2 (And.intro hb02 hb3))
  have HXs := Lib.hid (And.intro hX hz2)
  have HW2 := Lib.hid hw2
  clear hb1 hr1 hb2 hx2 hr2 hb02 hrd2 hb3 hg3 hrp hS h hw2 hX hz2
  go_enter Try.func41, Try.ntmps41
  go_upto_region 2 with fail
  rw [show (w.alloc (.cells #[.int .i64 0, .int .i64 0] 60)).alloc (.cells #[.int .i64 0, .int .i64 0] 60) = w2 from HW2.out.symm, ← HXs.out.1]
  go_wp2_with fail
  refine HF.out.mono ?_
  rintro e w4 ⟨rfl, hrd, hbl, hC⟩
  simp only [putI, List.set_cons_zero, List.set_cons_succ] at hbl
  have hr4 := blk_chg hC (Arr.blk_below HR2.out.1 HR2.out.2.2 (Arr.blk_lt HR2.out.1)) (fun e => by
    rcases e with e | e
    · have := HRp.out.2 _ e; omega
    · have := HXs.out.1; omega)
  have hC4 : Chg S w w4 := chg_trans (new_chg (below_keep HR2.out.2.1 HR2.out.2.2) S) hC fun k hk => by
    rcases hk with hk | hk
    · exact .inl hk
    · exact .inr (by have := HXs.out.1; omega)
  have H4 := Lib.hid (And.intro hrd (And.intro hbl (And.intro hr4 hC4)))
  clear hrd hbl hC hr4 hC4 HF HR2
  go_wp2_with (first | (refine Arr.wpList_load_blk rfl 60 (.tmp 3) rfl X rfl [.int .i64 x0, .int .i64 x1] 60 H4.out.2.1 _ Try.underlying60 rfl info_dwS ?_) | (refine wpList_store_own rfl 60 (.tmp 2) (.tmp 9) rfl w.heap.size [.int .i64 x0, .int .i64 x1] rfl rfl [.int .i64 0, .int .i64 0] 60 H4.out.2.2.1 info_dwS rfl rfl ?_; intro wz hblk hCz hsz) | fail)
  refine bodyPost_ret (results_cell_blk rfl _ _ w.heap.size 60 [.int .i64 x0, .int .i64 x1] _ rfl hblk Try.underlying60 rfl info_dwS) rfl ?_
  have hS0 : ∀ k, k = w.heap.size → ¬ S k := fun k e hk => by have := HRp.out.2 _ hk; omega
  exact ⟨rfl, rdp_chg H4.out.1 hCz hS0, chg_trans H4.out.2.2.2 hCz fun k hk => .inr (Nat.le_of_eq hk.symm)⟩
end Go.Proofs.Ytpmpigglekgfnaa.Snp
/- Snap: a fund read by the landed reader; lists of what it reads. -/
namespace Go.Proofs.Ytpmpigglekgfnaa.Snp
set_option maxRecDepth 100000
open Go.RowKit
open Go.Sort
open Kit
open Oct
open Foot
open Tre (Al encF encF_len)
open Rte (Rt encR encR_len encR_one)
open Drw (Dw encD encD_len encD_one)
set_option linter.unusedVariables false
variable {w w' : World} {S : Nat → Prop} {q : Nat} {s s2 : RS} {po : Option Addr}

set_option maxHeartbeats 8000000 in
theorem fund_any {x : Tre.Fd} (h : RdP S w q s po) (hS : ∀ k, S k → k < w.heap.size) (hr : cFd.dec s = (x, s2)) :
    Calls Try.prog 22 #[.pointer (some ⟨q, 0, none⟩)] w fun e w' => e = .returned (.agg #[.string x.name, .int .i64 x.par, .int .i64 x.lim]) ∧ RdP S w' q s2 po ∧ Chg S w w' := by
  rcases h1 : rText 16 s with ⟨nm, s1⟩
  rcases h2 : rInt s1 with ⟨x1, s3⟩
  rcases h3 : rInt s3 with ⟨x2, s4⟩
  have e := hr.symm.trans (fd_of h1 h2 h3)
  have hrp : rep cInt 2 s1 = ([x1, x2], s4) := rep_more (rep_one h2) h3
  injection e with e1 e2
  subst e1 e2
  simp only
  clear hr h2 h3
  obtain ⟨w1, hw1⟩ : ∃ y, y = w.alloc (.cells #[.string ⟨#[]⟩, .int .i64 0, .int .i64 0] 47) := ⟨_, rfl⟩
  have hb1 := below_alloc w (.cells [.string ⟨#[]⟩, .int .i64 0, .int .i64 0].toArray 47)
  have hr1 := Arr.blk_new w w.heap.size 47 [.string ⟨#[]⟩, .int .i64 0, .int .i64 0] rfl
  rw [show w.alloc (.cells [Value.string ⟨#[]⟩, .int .i64 0, .int .i64 0].toArray 47) = w1 from hw1.symm] at hb1 hr1
  have HN := Lib.hid (name_any (rdp_below h hb1) h1)
  have HR1 := Lib.hid (And.intro hr1 hb1)
  have HRp := Lib.hid (And.intro hrp hS)
  have HW1 := Lib.hid hw1
  clear hb1 hr1 hrp hS h h1 hw1
  go_enter Try.func22, Try.ntmps22
  go_upto_region 1 with fail
  rw [show w.alloc (.cells #[.string ⟨#[]⟩, .int .i64 0, .int .i64 0] 47) = w1 from HW1.out.symm]
  go_wp2_with fail
  refine HN.out.mono ?_
  rintro e w2 ⟨rfl, hrd, hC2⟩
  have hC02 : Chg S w w2 := chg_trans (new_chg HR1.out.2 S) hC2 fun k hk => .inl hk
  have hr2 := blk_chg hC2 HR1.out.1 fun e => by have := HRp.out.2 _ e; omega
  obtain ⟨X, hX⟩ : ∃ y, y = w2.heap.size := ⟨_, rfl⟩
  have hXw : w.heap.size < X := by rw [hX]; exact Arr.blk_lt hr2
  obtain ⟨w3, hw3⟩ : ∃ y, y = w2.alloc (.cells #[.string nm, .int .i64 0, .int .i64 0] 47) := ⟨_, rfl⟩
  have hb3 := below_alloc w2 (.cells [.string nm, .int .i64 0, .int .i64 0].toArray 47)
  have hx3 := Arr.blk_new w2 X 47 [.string nm, .int .i64 0, .int .i64 0] hX
  rw [show w2.alloc (.cells [Value.string nm, .int .i64 0, .int .i64 0].toArray 47) = w3 from hw3.symm] at hb3 hx3
  have hz3 : w3.heap.size = X + 1 := by rw [hw3, hX]; simp
  have hb4 := below_alloc w3 (.cells [.pointer (some ⟨X, 1, none⟩), .pointer (some ⟨X, 2, none⟩)].toArray 67)
  have hg4 := Arr.blk_new w3 w3.heap.size 67 [.pointer (some ⟨X, 1, none⟩), .pointer (some ⟨X, 2, none⟩)] rfl
  have HF := Lib.hid (fill_any (w := w3.alloc (.cells [.pointer (some ⟨X, 1, none⟩), .pointer (some ⟨X, 2, none⟩)].toArray 67)) (X := X) (g := w3.heap.size) (og := 0) (o := 1) (m := 2) (T := 47) (cs := [.string nm, .int .i64 0, .int .i64 0]) (rdp_below (rdp_below hrd hb3) hb4) (fun k hk => (Arr.blk_cell hg4 (0 + k)).trans (places12 X k hk)) (Arr.blk_below hx3 hb4 (Arr.blk_lt hx3)) (fun e => by have := HRp.out.2 _ e; omega) (fun e => by have := HRp.out.2 _ e; omega) (by omega) (by omega) (by simp) HRp.out.1)
  have hb24 := below_keep hb3 hb4
  have HR2 := Lib.hid (And.intro (Arr.blk_below hr2 hb24 (Arr.blk_lt hr2)) (And.intro hC02 hb24))
  have HXs := Lib.hid (And.intro hX (And.intro hXw hz3))
  have HW3 := Lib.hid hw3
  clear hrd hC2 hC02 hr2 hX hXw hb3 hx3 hz3 hb4 hg4 hb24 hw3
  go_upto_region 2 with fail
  rw [show w2.alloc (.cells #[.string nm, .int .i64 0, .int .i64 0] 47) = w3 from HW3.out.symm, ← HXs.out.1]
  go_wp2_with fail
  refine HF.out.mono ?_
  rintro e w4 ⟨rfl, hrd, hbl, hC⟩
  simp only [putI, List.set_cons_zero, List.set_cons_succ] at hbl
  have hr4 := blk_chg hC HR2.out.1 (fun e => by
    rcases e with e | e
    · have := HRp.out.2 _ e; omega
    · have := HXs.out.2.1; omega)
  have hC4 : Chg S w w4 := chg_trans (chg_trans HR2.out.2.1 (new_chg HR2.out.2.2 S) fun k hk => .inl hk) hC fun k hk => by
    rcases hk with hk | hk
    · exact .inl hk
    · exact .inr (by have := HXs.out.2.1; omega)
  have H4 := Lib.hid (And.intro hrd (And.intro hbl (And.intro hr4 hC4)))
  clear hrd hbl hC hr4 hC4 HF HR2
  go_wp2_with (first | (refine Arr.wpList_load_blk rfl 47 (.tmp 3) rfl X rfl [.string nm, .int .i64 x1, .int .i64 x2] 47 H4.out.2.1 _ Try.underlying47 rfl info_fdS ?_) | (refine wpList_store_own rfl 47 (.tmp 2) (.tmp 12) rfl w.heap.size [.string nm, .int .i64 x1, .int .i64 x2] rfl rfl [.string ⟨#[]⟩, .int .i64 0, .int .i64 0] 47 H4.out.2.2.1 info_fdS rfl rfl ?_; intro wz hblk hCz hsz) | fail)
  refine bodyPost_ret (results_cell_blk rfl _ _ w.heap.size 47 [.string nm, .int .i64 x1, .int .i64 x2] _ rfl hblk Try.underlying47 rfl info_fdS) rfl ?_
  have hS0 : ∀ k, k = w.heap.size → ¬ S k := fun k e hk => by have := HRp.out.2 _ hk; omega
  exact ⟨rfl, rdp_chg H4.out.1 hCz hS0, chg_trans H4.out.2.2.2 hCz fun k hk => .inr (Nat.le_of_eq hk.symm)⟩

/-! ### Lists -/

theorem encF_oneU (x : Tre.Fd) : ∀ u ∈ encF x, u.oneCell' = true := by
  intro u hu
  simp [encF] at hu
  rcases hu with rfl | rfl | rfl <;> rfl
theorem tyFu : Nest.Ty encF 3 Try.prog 22 47 (.agg #[.string ⟨#[]⟩, .int .i64 0, .int .i64 0]) 32 := ⟨encF_len, by decide, encF_oneU, Try.underlying22, by kernel_rfl, rfl⟩
theorem tyAu : Nest.Ty Tre.encL 6 Try.prog 23 50 (.agg #[.int .i64 0, .int .i64 0, .int .i64 0, .int .i64 0, .int .i64 0, .int .i64 0]) 48 := ⟨Tre.encL_len, by decide, Tre.encL_one, Try.underlying23, by kernel_rfl, rfl⟩
theorem tyRu : Nest.Ty encR 3 Try.prog 24 52 (.agg #[.int .i64 0, .int .i64 0, .int .i64 0]) 24 := ⟨encR_len, by decide, encR_one, Try.underlying24, by kernel_rfl, rfl⟩
theorem tyDu : Nest.Ty encD 2 Try.prog 53 60 (.agg #[.int .i64 0, .int .i64 0]) 16 := ⟨encD_len, by decide, encD_one, Try.underlying53, by kernel_rfl, rfl⟩
theorem tyKu : Nest.Ty encK 1 Try.prog 26 9 (.string ⟨#[]⟩) 16 := ⟨encK_len, by decide, encK_one, Try.underlying26, by kernel_rfl, rfl⟩
/-- What a list's call leaves. -/
def OutLs {α : Type} (S : Nat → Prop) (w : World) (q : Nat) (s2 : RS) (enc : α → List Value) (size : Nat) (T : TypeId) (xs : List α) (e : Ending) (w' : World) : Prop :=
  ∃ a n c, e = .returned (.slice a n c) ∧ Owns enc size T w' w.heap.size (.slice a n c) xs ∧ (∃ po, RdP S w' q s2 po) ∧ Chg S w w'
theorem lst_bad {α : Type} {A : Cod α} {most : Nat} {hm : most ≤ 1000} {s s1 : RS} {n : Int} (h : rInt s = (n, s1)) (hn : n < 0 ∨ (most : Int) < n) : (cLst A most hm).dec s = ([], none) := lst_of (many_bad h hn) rfl
theorem own_any {α : Type} {enc : α → List Value} {size : Nat} {T : TypeId} {base : Nat} {v : Value} {l : List α} (hs : ∀ x, (enc x).length = size) (h : Owns enc size T w base v l) : ∃ a n c, v = .slice a n c := by
  obtain ⟨a, c, e, _⟩ := owns_row hs h
  exact ⟨a, _, c, e⟩
set_option maxHeartbeats 8000000 in
theorem funds_any {xs : List Tre.Fd} (h : RdP S w q s po) (hS : ∀ k, S k → k < w.heap.size) (hr : (cLst cFd 8 (by omega)).dec s = (xs, s2)) :
    Calls Try.prog 21 #[.pointer (some ⟨q, 0, none⟩), .int .i64 8, .func (.func 22) #[.pointer (some ⟨q, 0, none⟩)] #[]] w (OutLs S w q s2 encF 3 47 xs) := by
  rcases h1 : rInt s with ⟨N, s1⟩
  have c1 := rdp_cell h
  have f1 := rdp_frozen h
  have HI := Lib.hid (int_rl h h1)
  have HS := Lib.hid hS
  have hor : N < 0 ∨ (¬ N < 0 ∧ (8 : Int) < N) ∨ (¬ N < 0 ∧ ¬ (8 : Int) < N) := by omega
  rcases hor with t1 | ⟨t1, t2⟩ | ⟨t1, t2⟩
  · have e := hr.symm.trans (lst_bad (A := cFd) (most := 8) h1 (.inl t1))
    injection e with e1 e2
    subst e1 e2
    clear hr h1 h hS
    go_enter Try.func21, Try.ntmps21
    go_wp2_with fail
    refine HI.out.mono ?_
    rintro e w1 ⟨rfl, hrd, hC1⟩
    have c2 := rdp_cell hrd
    have f2 := rdp_frozen hrd
    have HD := Lib.hid (And.intro (rdp_drop hrd) hC1)
    clear hrd hC1 c1 f1 HI
    go_wp2_with fail
    go_ret
    exact ⟨none, 0, 0, rfl, owns_nil _ _ _, ⟨none, HD.out.1.1⟩, chg_trans HD.out.2 HD.out.1.2 fun k hk => .inl hk⟩
  · have e := hr.symm.trans (lst_bad (A := cFd) (most := 8) h1 (.inr t2))
    injection e with e1 e2
    subst e1 e2
    clear hr h1 h hS
    go_enter Try.func21, Try.ntmps21
    go_wp2_with fail
    refine HI.out.mono ?_
    rintro e w1 ⟨rfl, hrd, hC1⟩
    have c2 := rdp_cell hrd
    have f2 := rdp_frozen hrd
    have HD := Lib.hid (And.intro (rdp_drop hrd) hC1)
    clear hrd hC1 c1 f1 HI
    go_wp2_with fail
    go_ret
    exact ⟨none, 0, 0, rfl, owns_nil _ _ _, ⟨none, HD.out.1.1⟩, chg_trans HD.out.2 HD.out.1.2 fun k hk => .inl hk⟩
  · obtain ⟨m, rfl⟩ : ∃ m : Nat, N = (m : Int) := ⟨N.toNat, by omega⟩
    have hm8 : m ≤ 8 := by omega
    have hr2 : rep cFd m s1 = (xs, s2) := by
      have e := lst_of (A := cFd) (most := 8) (hm := by omega) (many_ok h1 hm8) (show rep cFd m s1 = ((rep cFd m s1).1, (rep cFd m s1).2) from rfl)
      rw [hr] at e
      exact e.symm
    have HR := Lib.hid hr2
    clear hr hr2 h1 h hS
    go_enter Try.func21, Try.ntmps21
    go_wp2_with fail
    refine HI.out.mono ?_
    rintro e w1 ⟨rfl, hrd, hC1⟩
    have H1 := Lib.hid (And.intro hrd hC1)
    clear hrd hC1 c1 f1 HI
    go_wp2_with fail
    go_loopw [8, 25] (fun bv iv wr => ∃ (k : Nat) (a : Option Addr) (n c : Nat) (pq : Option Addr), k ≤ m ∧ iv = .int .i64 (k : Nat) ∧ bv = .slice a n c ∧ Owns encF 3 47 wr w.heap.size (.slice a n c) (rep cFd k s1).1 ∧ RdP S wr q (rep cFd k s1).2 pq ∧ Chg S w wr) (fun _ iv _ => m - (intOf iv).toNat)
    case atStart => exact ⟨0, none, 0, 0, po, Nat.zero_le _, rfl, rfl, owns_nil _ _ _, H1.out.1, H1.out.2⟩
    case round =>
      obtain ⟨k, a, n, c, pq, hk, rfl, rfl, ho, hrd, hC⟩ := hrel
      by_cases hlt : k < m
      · rcases hx : (cFd).dec (rep cFd k s1).2 with ⟨x, t1'⟩
        have hnx := rep_next (A := cFd) (n := k) (s := s1) (l := (rep cFd k s1).1) (s1 := (rep cFd k s1).2) rfl hx
        have hln := rep_len cFd k s1
        have HN := Lib.hid (And.intro hnx (show (rep cFd k s1).1.length + 1 ≤ 100000 by omega))
        have HC := Lib.hid (fund_any hrd (fun k hk => Nat.lt_of_lt_of_le (HS.out k hk) hC.size) hx)
        have HO := Lib.hid (And.intro ho hC)
        clear hx hnx hln hrd ho hC
        go_wp2_with fail
        refine HC.out.mono ?_
        rintro e w7 ⟨rfl, hrd, hC7⟩
        have hC07 : Chg S w w7 := chg_trans HO.out.2 hC7 fun k hk => .inl hk
        have ho7 := own_chg hC7 HO.out.1 fun g hg e => by have h1 := HS.out g e; have h2 := (World.ownsRow.lt HO.out.1 g hg).1; omega
        have H7 := Lib.hid (And.intro ho7 (And.intro hrd hC07))
        clear hrd hC7 hC07 ho7
        go_wp2_with (first | (at_builtin; refine Nest.one_arm tyFu rfl (.tmp 27) (.tmp 30) rfl w7 _ rfl x rfl w.heap.size _ _ rfl H7.out.1 rfl HN.out.2 (by decide) H7.out.2.2.size ?_; intro v9 w9 ho9 hb9; obtain ⟨a9, n9, c9, rfl⟩ := own_any encF_len ho9; have H9 := Lib.hid (And.intro ho9 hb9); clear ho9 hb9) | fail)
        go_roundw
        case rel =>
          have hCb := below_chg H9.out.2
          refine ⟨k + 1, a9, n9, c9, pq, by omega, by go_num, rfl, ?_, ?_, chg_trans H7.out.2.2 hCb fun k hk => .inr hk⟩
          · rw [HN.out.1]; exact H9.out.1
          · rw [HN.out.1]; exact rdp_chg H7.out.2.1 hCb fun k hk hs => by have := HS.out k hs; omega
        case measure => simp [intOf]; omega
      · obtain rfl : k = m := by omega
        rw [HR.out] at ho hrd
        have HE := Lib.hid (And.intro ho (And.intro hrd hC))
        clear ho hrd hC
        go_wp2_with fail
        go_ret
        exact ⟨a, n, c, rfl, HE.out.1, ⟨pq, HE.out.2.1⟩, HE.out.2.2⟩
set_option maxHeartbeats 8000000 in
theorem allocs_any {xs : List Al} (h : RdP S w q s po) (hS : ∀ k, S k → k < w.heap.size) (hr : (cLst cAl 16 (by omega)).dec s = (xs, s2)) :
    Calls Try.prog 23 #[.pointer (some ⟨q, 0, none⟩), .int .i64 16, .func (.func 24) #[.pointer (some ⟨q, 0, none⟩)] #[]] w (OutLs S w q s2 Tre.encL 6 50 xs) := by
  rcases h1 : rInt s with ⟨N, s1⟩
  have c1 := rdp_cell h
  have f1 := rdp_frozen h
  have HI := Lib.hid (int_rl h h1)
  have HS := Lib.hid hS
  have hor : N < 0 ∨ (¬ N < 0 ∧ (16 : Int) < N) ∨ (¬ N < 0 ∧ ¬ (16 : Int) < N) := by omega
  rcases hor with t1 | ⟨t1, t2⟩ | ⟨t1, t2⟩
  · have e := hr.symm.trans (lst_bad (A := cAl) (most := 16) h1 (.inl t1))
    injection e with e1 e2
    subst e1 e2
    clear hr h1 h hS
    go_enter Try.func23, Try.ntmps23
    go_wp2_with fail
    refine HI.out.mono ?_
    rintro e w1 ⟨rfl, hrd, hC1⟩
    have c2 := rdp_cell hrd
    have f2 := rdp_frozen hrd
    have HD := Lib.hid (And.intro (rdp_drop hrd) hC1)
    clear hrd hC1 c1 f1 HI
    go_wp2_with fail
    go_ret
    exact ⟨none, 0, 0, rfl, owns_nil _ _ _, ⟨none, HD.out.1.1⟩, chg_trans HD.out.2 HD.out.1.2 fun k hk => .inl hk⟩
  · have e := hr.symm.trans (lst_bad (A := cAl) (most := 16) h1 (.inr t2))
    injection e with e1 e2
    subst e1 e2
    clear hr h1 h hS
    go_enter Try.func23, Try.ntmps23
    go_wp2_with fail
    refine HI.out.mono ?_
    rintro e w1 ⟨rfl, hrd, hC1⟩
    have c2 := rdp_cell hrd
    have f2 := rdp_frozen hrd
    have HD := Lib.hid (And.intro (rdp_drop hrd) hC1)
    clear hrd hC1 c1 f1 HI
    go_wp2_with fail
    go_ret
    exact ⟨none, 0, 0, rfl, owns_nil _ _ _, ⟨none, HD.out.1.1⟩, chg_trans HD.out.2 HD.out.1.2 fun k hk => .inl hk⟩
  · obtain ⟨m, rfl⟩ : ∃ m : Nat, N = (m : Int) := ⟨N.toNat, by omega⟩
    have hm8 : m ≤ 16 := by omega
    have hr2 : rep cAl m s1 = (xs, s2) := by
      have e := lst_of (A := cAl) (most := 16) (hm := by omega) (many_ok h1 hm8) (show rep cAl m s1 = ((rep cAl m s1).1, (rep cAl m s1).2) from rfl)
      rw [hr] at e
      exact e.symm
    have HR := Lib.hid hr2
    clear hr hr2 h1 h hS
    go_enter Try.func23, Try.ntmps23
    go_wp2_with fail
    refine HI.out.mono ?_
    rintro e w1 ⟨rfl, hrd, hC1⟩
    have H1 := Lib.hid (And.intro hrd hC1)
    clear hrd hC1 c1 f1 HI
    go_wp2_with fail
    go_loopw [8, 25] (fun bv iv wr => ∃ (k : Nat) (a : Option Addr) (n c : Nat) (pq : Option Addr), k ≤ m ∧ iv = .int .i64 (k : Nat) ∧ bv = .slice a n c ∧ Owns Tre.encL 6 50 wr w.heap.size (.slice a n c) (rep cAl k s1).1 ∧ RdP S wr q (rep cAl k s1).2 pq ∧ Chg S w wr) (fun _ iv _ => m - (intOf iv).toNat)
    case atStart => exact ⟨0, none, 0, 0, po, Nat.zero_le _, rfl, rfl, owns_nil _ _ _, H1.out.1, H1.out.2⟩
    case round =>
      obtain ⟨k, a, n, c, pq, hk, rfl, rfl, ho, hrd, hC⟩ := hrel
      by_cases hlt : k < m
      · rcases hx : (cAl).dec (rep cAl k s1).2 with ⟨x, t1'⟩
        have hnx := rep_next (A := cAl) (n := k) (s := s1) (l := (rep cAl k s1).1) (s1 := (rep cAl k s1).2) rfl hx
        have hln := rep_len cAl k s1
        have HN := Lib.hid (And.intro hnx (show (rep cAl k s1).1.length + 1 ≤ 100000 by omega))
        have HC := Lib.hid (alloc_any hrd (fun k hk => Nat.lt_of_lt_of_le (HS.out k hk) hC.size) hx)
        have HO := Lib.hid (And.intro ho hC)
        clear hx hnx hln hrd ho hC
        go_wp2_with fail
        refine HC.out.mono ?_
        rintro e w7 ⟨rfl, hrd, hC7⟩
        have hC07 : Chg S w w7 := chg_trans HO.out.2 hC7 fun k hk => .inl hk
        have ho7 := own_chg hC7 HO.out.1 fun g hg e => by have h1 := HS.out g e; have h2 := (World.ownsRow.lt HO.out.1 g hg).1; omega
        have H7 := Lib.hid (And.intro ho7 (And.intro hrd hC07))
        clear hrd hC7 hC07 ho7
        go_wp2_with (first | (at_builtin; refine Nest.one_arm tyAu rfl (.tmp 27) (.tmp 30) rfl w7 _ rfl x rfl w.heap.size _ _ rfl H7.out.1 rfl HN.out.2 (by decide) H7.out.2.2.size ?_; intro v9 w9 ho9 hb9; obtain ⟨a9, n9, c9, rfl⟩ := own_any Tre.encL_len ho9; have H9 := Lib.hid (And.intro ho9 hb9); clear ho9 hb9) | fail)
        go_roundw
        case rel =>
          have hCb := below_chg H9.out.2
          refine ⟨k + 1, a9, n9, c9, pq, by omega, by go_num, rfl, ?_, ?_, chg_trans H7.out.2.2 hCb fun k hk => .inr hk⟩
          · rw [HN.out.1]; exact H9.out.1
          · rw [HN.out.1]; exact rdp_chg H7.out.2.1 hCb fun k hk hs => by have := HS.out k hs; omega
        case measure => simp [intOf]; omega
      · obtain rfl : k = m := by omega
        rw [HR.out] at ho hrd
        have HE := Lib.hid (And.intro ho (And.intro hrd hC))
        clear ho hrd hC
        go_wp2_with fail
        go_ret
        exact ⟨a, n, c, rfl, HE.out.1, ⟨pq, HE.out.2.1⟩, HE.out.2.2⟩
set_option maxHeartbeats 8000000 in
theorem rates_any {xs : List Rt} (h : RdP S w q s po) (hS : ∀ k, S k → k < w.heap.size) (hr : (cLst cRt 16 (by omega)).dec s = (xs, s2)) :
    Calls Try.prog 25 #[.pointer (some ⟨q, 0, none⟩), .int .i64 16, .func (.func 26) #[.pointer (some ⟨q, 0, none⟩)] #[]] w (OutLs S w q s2 encR 3 52 xs) := by
  rcases h1 : rInt s with ⟨N, s1⟩
  have c1 := rdp_cell h
  have f1 := rdp_frozen h
  have HI := Lib.hid (int_rl h h1)
  have HS := Lib.hid hS
  have hor : N < 0 ∨ (¬ N < 0 ∧ (16 : Int) < N) ∨ (¬ N < 0 ∧ ¬ (16 : Int) < N) := by omega
  rcases hor with t1 | ⟨t1, t2⟩ | ⟨t1, t2⟩
  · have e := hr.symm.trans (lst_bad (A := cRt) (most := 16) h1 (.inl t1))
    injection e with e1 e2
    subst e1 e2
    clear hr h1 h hS
    go_enter Try.func25, Try.ntmps25
    go_wp2_with fail
    refine HI.out.mono ?_
    rintro e w1 ⟨rfl, hrd, hC1⟩
    have c2 := rdp_cell hrd
    have f2 := rdp_frozen hrd
    have HD := Lib.hid (And.intro (rdp_drop hrd) hC1)
    clear hrd hC1 c1 f1 HI
    go_wp2_with fail
    go_ret
    exact ⟨none, 0, 0, rfl, owns_nil _ _ _, ⟨none, HD.out.1.1⟩, chg_trans HD.out.2 HD.out.1.2 fun k hk => .inl hk⟩
  · have e := hr.symm.trans (lst_bad (A := cRt) (most := 16) h1 (.inr t2))
    injection e with e1 e2
    subst e1 e2
    clear hr h1 h hS
    go_enter Try.func25, Try.ntmps25
    go_wp2_with fail
    refine HI.out.mono ?_
    rintro e w1 ⟨rfl, hrd, hC1⟩
    have c2 := rdp_cell hrd
    have f2 := rdp_frozen hrd
    have HD := Lib.hid (And.intro (rdp_drop hrd) hC1)
    clear hrd hC1 c1 f1 HI
    go_wp2_with fail
    go_ret
    exact ⟨none, 0, 0, rfl, owns_nil _ _ _, ⟨none, HD.out.1.1⟩, chg_trans HD.out.2 HD.out.1.2 fun k hk => .inl hk⟩
  · obtain ⟨m, rfl⟩ : ∃ m : Nat, N = (m : Int) := ⟨N.toNat, by omega⟩
    have hm8 : m ≤ 16 := by omega
    have hr2 : rep cRt m s1 = (xs, s2) := by
      have e := lst_of (A := cRt) (most := 16) (hm := by omega) (many_ok h1 hm8) (show rep cRt m s1 = ((rep cRt m s1).1, (rep cRt m s1).2) from rfl)
      rw [hr] at e
      exact e.symm
    have HR := Lib.hid hr2
    clear hr hr2 h1 h hS
    go_enter Try.func25, Try.ntmps25
    go_wp2_with fail
    refine HI.out.mono ?_
    rintro e w1 ⟨rfl, hrd, hC1⟩
    have H1 := Lib.hid (And.intro hrd hC1)
    clear hrd hC1 c1 f1 HI
    go_wp2_with fail
    go_loopw [8, 25] (fun bv iv wr => ∃ (k : Nat) (a : Option Addr) (n c : Nat) (pq : Option Addr), k ≤ m ∧ iv = .int .i64 (k : Nat) ∧ bv = .slice a n c ∧ Owns encR 3 52 wr w.heap.size (.slice a n c) (rep cRt k s1).1 ∧ RdP S wr q (rep cRt k s1).2 pq ∧ Chg S w wr) (fun _ iv _ => m - (intOf iv).toNat)
    case atStart => exact ⟨0, none, 0, 0, po, Nat.zero_le _, rfl, rfl, owns_nil _ _ _, H1.out.1, H1.out.2⟩
    case round =>
      obtain ⟨k, a, n, c, pq, hk, rfl, rfl, ho, hrd, hC⟩ := hrel
      by_cases hlt : k < m
      · rcases hx : (cRt).dec (rep cRt k s1).2 with ⟨x, t1'⟩
        have hnx := rep_next (A := cRt) (n := k) (s := s1) (l := (rep cRt k s1).1) (s1 := (rep cRt k s1).2) rfl hx
        have hln := rep_len cRt k s1
        have HN := Lib.hid (And.intro hnx (show (rep cRt k s1).1.length + 1 ≤ 100000 by omega))
        have HC := Lib.hid (rate_any hrd (fun k hk => Nat.lt_of_lt_of_le (HS.out k hk) hC.size) hx)
        have HO := Lib.hid (And.intro ho hC)
        clear hx hnx hln hrd ho hC
        go_wp2_with fail
        refine HC.out.mono ?_
        rintro e w7 ⟨rfl, hrd, hC7⟩
        have hC07 : Chg S w w7 := chg_trans HO.out.2 hC7 fun k hk => .inl hk
        have ho7 := own_chg hC7 HO.out.1 fun g hg e => by have h1 := HS.out g e; have h2 := (World.ownsRow.lt HO.out.1 g hg).1; omega
        have H7 := Lib.hid (And.intro ho7 (And.intro hrd hC07))
        clear hrd hC7 hC07 ho7
        go_wp2_with (first | (at_builtin; refine Nest.one_arm tyRu rfl (.tmp 27) (.tmp 30) rfl w7 _ rfl x rfl w.heap.size _ _ rfl H7.out.1 rfl HN.out.2 (by decide) H7.out.2.2.size ?_; intro v9 w9 ho9 hb9; obtain ⟨a9, n9, c9, rfl⟩ := own_any encR_len ho9; have H9 := Lib.hid (And.intro ho9 hb9); clear ho9 hb9) | fail)
        go_roundw
        case rel =>
          have hCb := below_chg H9.out.2
          refine ⟨k + 1, a9, n9, c9, pq, by omega, by go_num, rfl, ?_, ?_, chg_trans H7.out.2.2 hCb fun k hk => .inr hk⟩
          · rw [HN.out.1]; exact H9.out.1
          · rw [HN.out.1]; exact rdp_chg H7.out.2.1 hCb fun k hk hs => by have := HS.out k hs; omega
        case measure => simp [intOf]; omega
      · obtain rfl : k = m := by omega
        rw [HR.out] at ho hrd
        have HE := Lib.hid (And.intro ho (And.intro hrd hC))
        clear ho hrd hC
        go_wp2_with fail
        go_ret
        exact ⟨a, n, c, rfl, HE.out.1, ⟨pq, HE.out.2.1⟩, HE.out.2.2⟩
set_option maxHeartbeats 8000000 in
theorem draws_any {xs : List Dw} (h : RdP S w q s po) (hS : ∀ k, S k → k < w.heap.size) (hr : (cLst cDw 16 (by omega)).dec s = (xs, s2)) :
    Calls Try.prog 40 #[.pointer (some ⟨q, 0, none⟩), .int .i64 16, .func (.func 41) #[.pointer (some ⟨q, 0, none⟩)] #[]] w (OutLs S w q s2 encD 2 60 xs) := by
  rcases h1 : rInt s with ⟨N, s1⟩
  have c1 := rdp_cell h
  have f1 := rdp_frozen h
  have HI := Lib.hid (int_rl h h1)
  have HS := Lib.hid hS
  have hor : N < 0 ∨ (¬ N < 0 ∧ (16 : Int) < N) ∨ (¬ N < 0 ∧ ¬ (16 : Int) < N) := by omega
  rcases hor with t1 | ⟨t1, t2⟩ | ⟨t1, t2⟩
  · have e := hr.symm.trans (lst_bad (A := cDw) (most := 16) h1 (.inl t1))
    injection e with e1 e2
    subst e1 e2
    clear hr h1 h hS
    go_enter Try.func40, Try.ntmps40
    go_wp2_with fail
    refine HI.out.mono ?_
    rintro e w1 ⟨rfl, hrd, hC1⟩
    have c2 := rdp_cell hrd
    have f2 := rdp_frozen hrd
    have HD := Lib.hid (And.intro (rdp_drop hrd) hC1)
    clear hrd hC1 c1 f1 HI
    go_wp2_with fail
    go_ret
    exact ⟨none, 0, 0, rfl, owns_nil _ _ _, ⟨none, HD.out.1.1⟩, chg_trans HD.out.2 HD.out.1.2 fun k hk => .inl hk⟩
  · have e := hr.symm.trans (lst_bad (A := cDw) (most := 16) h1 (.inr t2))
    injection e with e1 e2
    subst e1 e2
    clear hr h1 h hS
    go_enter Try.func40, Try.ntmps40
    go_wp2_with fail
    refine HI.out.mono ?_
    rintro e w1 ⟨rfl, hrd, hC1⟩
    have c2 := rdp_cell hrd
    have f2 := rdp_frozen hrd
    have HD := Lib.hid (And.intro (rdp_drop hrd) hC1)
    clear hrd hC1 c1 f1 HI
    go_wp2_with fail
    go_ret
    exact ⟨none, 0, 0, rfl, owns_nil _ _ _, ⟨none, HD.out.1.1⟩, chg_trans HD.out.2 HD.out.1.2 fun k hk => .inl hk⟩
  · obtain ⟨m, rfl⟩ : ∃ m : Nat, N = (m : Int) := ⟨N.toNat, by omega⟩
    have hm8 : m ≤ 16 := by omega
    have hr2 : rep cDw m s1 = (xs, s2) := by
      have e := lst_of (A := cDw) (most := 16) (hm := by omega) (many_ok h1 hm8) (show rep cDw m s1 = ((rep cDw m s1).1, (rep cDw m s1).2) from rfl)
      rw [hr] at e
      exact e.symm
    have HR := Lib.hid hr2
    clear hr hr2 h1 h hS
    go_enter Try.func40, Try.ntmps40
    go_wp2_with fail
    refine HI.out.mono ?_
    rintro e w1 ⟨rfl, hrd, hC1⟩
    have H1 := Lib.hid (And.intro hrd hC1)
    clear hrd hC1 c1 f1 HI
    go_wp2_with fail
    go_loopw [8, 25] (fun bv iv wr => ∃ (k : Nat) (a : Option Addr) (n c : Nat) (pq : Option Addr), k ≤ m ∧ iv = .int .i64 (k : Nat) ∧ bv = .slice a n c ∧ Owns encD 2 60 wr w.heap.size (.slice a n c) (rep cDw k s1).1 ∧ RdP S wr q (rep cDw k s1).2 pq ∧ Chg S w wr) (fun _ iv _ => m - (intOf iv).toNat)
    case atStart => exact ⟨0, none, 0, 0, po, Nat.zero_le _, rfl, rfl, owns_nil _ _ _, H1.out.1, H1.out.2⟩
    case round =>
      obtain ⟨k, a, n, c, pq, hk, rfl, rfl, ho, hrd, hC⟩ := hrel
      by_cases hlt : k < m
      · rcases hx : (cDw).dec (rep cDw k s1).2 with ⟨x, t1'⟩
        have hnx := rep_next (A := cDw) (n := k) (s := s1) (l := (rep cDw k s1).1) (s1 := (rep cDw k s1).2) rfl hx
        have hln := rep_len cDw k s1
        have HN := Lib.hid (And.intro hnx (show (rep cDw k s1).1.length + 1 ≤ 100000 by omega))
        have HC := Lib.hid (draw_any hrd (fun k hk => Nat.lt_of_lt_of_le (HS.out k hk) hC.size) hx)
        have HO := Lib.hid (And.intro ho hC)
        clear hx hnx hln hrd ho hC
        go_wp2_with fail
        refine HC.out.mono ?_
        rintro e w7 ⟨rfl, hrd, hC7⟩
        have hC07 : Chg S w w7 := chg_trans HO.out.2 hC7 fun k hk => .inl hk
        have ho7 := own_chg hC7 HO.out.1 fun g hg e => by have h1 := HS.out g e; have h2 := (World.ownsRow.lt HO.out.1 g hg).1; omega
        have H7 := Lib.hid (And.intro ho7 (And.intro hrd hC07))
        clear hrd hC7 hC07 ho7
        go_wp2_with (first | (at_builtin; refine Nest.one_arm tyDu rfl (.tmp 27) (.tmp 30) rfl w7 _ rfl x rfl w.heap.size _ _ rfl H7.out.1 rfl HN.out.2 (by decide) H7.out.2.2.size ?_; intro v9 w9 ho9 hb9; obtain ⟨a9, n9, c9, rfl⟩ := own_any encD_len ho9; have H9 := Lib.hid (And.intro ho9 hb9); clear ho9 hb9) | fail)
        go_roundw
        case rel =>
          have hCb := below_chg H9.out.2
          refine ⟨k + 1, a9, n9, c9, pq, by omega, by go_num, rfl, ?_, ?_, chg_trans H7.out.2.2 hCb fun k hk => .inr hk⟩
          · rw [HN.out.1]; exact H9.out.1
          · rw [HN.out.1]; exact rdp_chg H7.out.2.1 hCb fun k hk hs => by have := HS.out k hs; omega
        case measure => simp [intOf]; omega
      · obtain rfl : k = m := by omega
        rw [HR.out] at ho hrd
        have HE := Lib.hid (And.intro ho (And.intro hrd hC))
        clear ho hrd hC
        go_wp2_with fail
        go_ret
        exact ⟨a, n, c, rfl, HE.out.1, ⟨pq, HE.out.2.1⟩, HE.out.2.2⟩
theorem key_any {x : ByteArray} (h : RdP S w q s po) (hS : ∀ k, S k → k < w.heap.size) (hr : cTxt.dec s = (x, s2)) :
    Calls Try.prog 30 #[.pointer (some ⟨q, 0, none⟩)] w fun e w' => e = .returned (.string x) ∧ RdP S w' q s2 po ∧ Chg S w w' := name_any h hr
set_option maxHeartbeats 8000000 in
theorem keys_any {xs : List ByteArray} (h : RdP S w q s po) (hS : ∀ k, S k → k < w.heap.size) (hr : (cLst cTxt 8 (by omega)).dec s = (xs, s2)) :
    Calls Try.prog 29 #[.pointer (some ⟨q, 0, none⟩), .int .i64 8, .func (.func 30) #[.pointer (some ⟨q, 0, none⟩)] #[]] w (OutLs S w q s2 encK 1 9 xs) := by
  rcases h1 : rInt s with ⟨N, s1⟩
  have c1 := rdp_cell h
  have f1 := rdp_frozen h
  have HI := Lib.hid (int_rl h h1)
  have HS := Lib.hid hS
  have hor : N < 0 ∨ (¬ N < 0 ∧ (8 : Int) < N) ∨ (¬ N < 0 ∧ ¬ (8 : Int) < N) := by omega
  rcases hor with t1 | ⟨t1, t2⟩ | ⟨t1, t2⟩
  · have e := hr.symm.trans (lst_bad (A := cTxt) (most := 8) h1 (.inl t1))
    injection e with e1 e2
    subst e1 e2
    clear hr h1 h hS
    go_enter Try.func29, Try.ntmps29
    go_wp2_with fail
    refine HI.out.mono ?_
    rintro e w1 ⟨rfl, hrd, hC1⟩
    have c2 := rdp_cell hrd
    have f2 := rdp_frozen hrd
    have HD := Lib.hid (And.intro (rdp_drop hrd) hC1)
    clear hrd hC1 c1 f1 HI
    go_wp2_with fail
    go_ret
    exact ⟨none, 0, 0, rfl, owns_nil _ _ _, ⟨none, HD.out.1.1⟩, chg_trans HD.out.2 HD.out.1.2 fun k hk => .inl hk⟩
  · have e := hr.symm.trans (lst_bad (A := cTxt) (most := 8) h1 (.inr t2))
    injection e with e1 e2
    subst e1 e2
    clear hr h1 h hS
    go_enter Try.func29, Try.ntmps29
    go_wp2_with fail
    refine HI.out.mono ?_
    rintro e w1 ⟨rfl, hrd, hC1⟩
    have c2 := rdp_cell hrd
    have f2 := rdp_frozen hrd
    have HD := Lib.hid (And.intro (rdp_drop hrd) hC1)
    clear hrd hC1 c1 f1 HI
    go_wp2_with fail
    go_ret
    exact ⟨none, 0, 0, rfl, owns_nil _ _ _, ⟨none, HD.out.1.1⟩, chg_trans HD.out.2 HD.out.1.2 fun k hk => .inl hk⟩
  · obtain ⟨m, rfl⟩ : ∃ m : Nat, N = (m : Int) := ⟨N.toNat, by omega⟩
    have hm8 : m ≤ 8 := by omega
    have hr2 : rep cTxt m s1 = (xs, s2) := by
      have e := lst_of (A := cTxt) (most := 8) (hm := by omega) (many_ok h1 hm8) (show rep cTxt m s1 = ((rep cTxt m s1).1, (rep cTxt m s1).2) from rfl)
      rw [hr] at e
      exact e.symm
    have HR := Lib.hid hr2
    clear hr hr2 h1 h hS
    go_enter Try.func29, Try.ntmps29
    go_wp2_with fail
    refine HI.out.mono ?_
    rintro e w1 ⟨rfl, hrd, hC1⟩
    have H1 := Lib.hid (And.intro hrd hC1)
    clear hrd hC1 c1 f1 HI
    go_wp2_with fail
    go_loopw [8, 25] (fun bv iv wr => ∃ (k : Nat) (a : Option Addr) (n c : Nat) (pq : Option Addr), k ≤ m ∧ iv = .int .i64 (k : Nat) ∧ bv = .slice a n c ∧ Owns encK 1 9 wr w.heap.size (.slice a n c) (rep cTxt k s1).1 ∧ RdP S wr q (rep cTxt k s1).2 pq ∧ Chg S w wr) (fun _ iv _ => m - (intOf iv).toNat)
    case atStart => exact ⟨0, none, 0, 0, po, Nat.zero_le _, rfl, rfl, owns_nil _ _ _, H1.out.1, H1.out.2⟩
    case round =>
      obtain ⟨k, a, n, c, pq, hk, rfl, rfl, ho, hrd, hC⟩ := hrel
      by_cases hlt : k < m
      · rcases hx : (cTxt).dec (rep cTxt k s1).2 with ⟨x, t1'⟩
        have hnx := rep_next (A := cTxt) (n := k) (s := s1) (l := (rep cTxt k s1).1) (s1 := (rep cTxt k s1).2) rfl hx
        have hln := rep_len cTxt k s1
        have HN := Lib.hid (And.intro hnx (show (rep cTxt k s1).1.length + 1 ≤ 100000 by omega))
        have HC := Lib.hid (key_any hrd (fun k hk => Nat.lt_of_lt_of_le (HS.out k hk) hC.size) hx)
        have HO := Lib.hid (And.intro ho hC)
        clear hx hnx hln hrd ho hC
        go_wp2_with fail
        refine HC.out.mono ?_
        rintro e w7 ⟨rfl, hrd, hC7⟩
        have hC07 : Chg S w w7 := chg_trans HO.out.2 hC7 fun k hk => .inl hk
        have ho7 := own_chg hC7 HO.out.1 fun g hg e => by have h1 := HS.out g e; have h2 := (World.ownsRow.lt HO.out.1 g hg).1; omega
        have H7 := Lib.hid (And.intro ho7 (And.intro hrd hC07))
        clear hrd hC7 hC07 ho7
        go_wp2_with (first | (at_builtin; refine Nest.one_arm tyKu rfl (.tmp 27) (.tmp 30) rfl w7 _ rfl x rfl w.heap.size _ _ rfl H7.out.1 rfl HN.out.2 (by decide) H7.out.2.2.size ?_; intro v9 w9 ho9 hb9; obtain ⟨a9, n9, c9, rfl⟩ := own_any encK_len ho9; have H9 := Lib.hid (And.intro ho9 hb9); clear ho9 hb9) | fail)
        go_roundw
        case rel =>
          have hCb := below_chg H9.out.2
          refine ⟨k + 1, a9, n9, c9, pq, by omega, by go_num, rfl, ?_, ?_, chg_trans H7.out.2.2 hCb fun k hk => .inr hk⟩
          · rw [HN.out.1]; exact H9.out.1
          · rw [HN.out.1]; exact rdp_chg H7.out.2.1 hCb fun k hk hs => by have := HS.out k hs; omega
        case measure => simp [intOf]; omega
      · obtain rfl : k = m := by omega
        rw [HR.out] at ho hrd
        have HE := Lib.hid (And.intro ho (And.intro hrd hC))
        clear ho hrd hC
        go_wp2_with fail
        go_ret
        exact ⟨a, n, c, rfl, HE.out.1, ⟨pq, HE.out.2.1⟩, HE.out.2.2⟩
end Go.Proofs.Ytpmpigglekgfnaa.Snp
/- Snap: a job read by the landed reader; a list of them. -/
namespace Go.Proofs.Ytpmpigglekgfnaa.Snp
set_option maxRecDepth 100000
open Go.RowKit
open Go.Sort
open Kit
open Oct
open Foot
open Job (Jb Jv Jobs encJ encJ_len encJ_one valJ)
open Drw (Dw encD encD_len encD_one)
set_option linter.unusedVariables false
variable {w w' : World} {S : Nat → Prop} {q : Nat} {s s2 : RS} {po : Option Addr}

theorem info_jbV : (Try.prog.info? 55).map (·.size) = some 12 := by kernel_rfl
theorem info_jbW : (Try.prog.info? 55).map (fun i => (i.zero, i.size, i.bytes)) = some (some (.agg #[.int .i64 0, .int .i64 0, .int .i64 0, .int .i64 0, .int .i64 0, .int .i64 0, .int .i64 0, .int .i64 0, .int .i64 0, .int .i64 0, .int .i64 0, .slice none 0 0]), 12, 112) := by kernel_rfl
theorem places11 (X k : Nat) (h : k < 11) : ([.pointer (some ⟨X, 0, none⟩), .pointer (some ⟨X, 1, none⟩), .pointer (some ⟨X, 2, none⟩), .pointer (some ⟨X, 3, none⟩), .pointer (some ⟨X, 4, none⟩), .pointer (some ⟨X, 5, none⟩), .pointer (some ⟨X, 6, none⟩), .pointer (some ⟨X, 7, none⟩), .pointer (some ⟨X, 8, none⟩), .pointer (some ⟨X, 9, none⟩), .pointer (some ⟨X, 10, none⟩)] : List Value)[0 + k]? = some (.pointer (some ⟨X, 0 + k, none⟩)) := by
  match k, h with
  | 0, _ => rfl
  | 1, _ => rfl
  | 2, _ => rfl
  | 3, _ => rfl
  | 4, _ => rfl
  | 5, _ => rfl
  | 6, _ => rfl
  | 7, _ => rfl
  | 8, _ => rfl
  | 9, _ => rfl
  | 10, _ => rfl
/-- What a job's call leaves. -/
def OutJ (S : Nat → Prop) (w : World) (q : Nat) (s2 : RS) (t : Jb) (e : Ending) (w' : World) : Prop :=
  ∃ a n c, e = .returned (valJ ⟨t, a, n, c⟩) ∧ Owns encD 2 60 w' w.heap.size (.slice a n c) t.draws ∧ (∃ po, RdP S w' q s2 po) ∧ Chg S w w'
set_option maxHeartbeats 16000000 in
theorem jread_any {t : Jb} (h : RdP S w q s po) (hS : ∀ k, S k → k < w.heap.size) (hr : cJb.dec s = (t, s2)) :
    Calls Try.prog 28 #[.pointer (some ⟨q, 0, none⟩)] w (OutJ S w q s2 t) := by
  rcases h1 : rInt s with ⟨x0, s3⟩
  rcases h2 : rInt s3 with ⟨x1, s4⟩
  rcases h3 : rInt s4 with ⟨x2, s5⟩
  rcases h4 : rInt s5 with ⟨x3, s6⟩
  rcases h5 : rInt s6 with ⟨x4, s7⟩
  rcases h6 : rInt s7 with ⟨x5, s8⟩
  rcases h7 : rInt s8 with ⟨x6, s9⟩
  rcases h8 : rInt s9 with ⟨x7, s10⟩
  rcases h9 : rInt s10 with ⟨x8, s11⟩
  rcases h10 : rInt s11 with ⟨x9, s12⟩
  rcases h11 : rInt s12 with ⟨xa, s13⟩
  rcases h12 : (cLst cDw 16 (by omega)).dec s13 with ⟨ds, s14⟩
  have hrp : rep cInt 11 s = ([x0, x1, x2, x3, x4, x5, x6, x7, x8, x9, xa], s13) := rep_more (rep_more (rep_more (rep_more (rep_more (rep_more (rep_more (rep_more (rep_more (rep_more (rep_one h1) h2) h3) h4) h5) h6) h7) h8) h9) h10) h11
  have e := hr.symm.trans (jb_of hrp h12)
  injection e with e1 e2
  replace e1 : t = ⟨x0, x1, x2, x3, x4, x5, x6, x7, x8, x9, xa, ds⟩ := e1
  subst e1 e2
  clear hr h1 h2 h3 h4 h5 h6 h7 h8 h9 h10 h11
  have H12 := Lib.hid h12
  have HRp := Lib.hid (And.intro hrp hS)
  obtain ⟨w2, hw2⟩ : ∃ y, y = (w.alloc (.cells #[.int .i64 0, .int .i64 0, .int .i64 0, .int .i64 0, .int .i64 0, .int .i64 0, .int .i64 0, .int .i64 0, .int .i64 0, .int .i64 0, .int .i64 0, .slice none 0 0] 55)).alloc (.cells #[.int .i64 0, .int .i64 0, .int .i64 0, .int .i64 0, .int .i64 0, .int .i64 0, .int .i64 0, .int .i64 0, .int .i64 0, .int .i64 0, .int .i64 0, .slice none 0 0] 55) := ⟨_, rfl⟩
  obtain ⟨X, hX⟩ : ∃ y, y = w.heap.size + 1 := ⟨_, rfl⟩
  have hb1 := below_alloc w (.cells [.int .i64 0, .int .i64 0, .int .i64 0, .int .i64 0, .int .i64 0, .int .i64 0, .int .i64 0, .int .i64 0, .int .i64 0, .int .i64 0, .int .i64 0, .slice none 0 0].toArray 55)
  have hr1 := Arr.blk_new w w.heap.size 55 [.int .i64 0, .int .i64 0, .int .i64 0, .int .i64 0, .int .i64 0, .int .i64 0, .int .i64 0, .int .i64 0, .int .i64 0, .int .i64 0, .int .i64 0, .slice none 0 0] rfl
  have hb2 := below_alloc (w.alloc (.cells [.int .i64 0, .int .i64 0, .int .i64 0, .int .i64 0, .int .i64 0, .int .i64 0, .int .i64 0, .int .i64 0, .int .i64 0, .int .i64 0, .int .i64 0, .slice none 0 0].toArray 55)) (.cells [.int .i64 0, .int .i64 0, .int .i64 0, .int .i64 0, .int .i64 0, .int .i64 0, .int .i64 0, .int .i64 0, .int .i64 0, .int .i64 0, .int .i64 0, .slice none 0 0].toArray 55)
  have hx2 := Arr.blk_new (w.alloc (.cells [.int .i64 0, .int .i64 0, .int .i64 0, .int .i64 0, .int .i64 0, .int .i64 0, .int .i64 0, .int .i64 0, .int .i64 0, .int .i64 0, .int .i64 0, .slice none 0 0].toArray 55)) X 55 [.int .i64 0, .int .i64 0, .int .i64 0, .int .i64 0, .int .i64 0, .int .i64 0, .int .i64 0, .int .i64 0, .int .i64 0, .int .i64 0, .int .i64 0, .slice none 0 0] (by rw [hX]; simp)
  have hr2 := Arr.blk_below hr1 hb2 (Arr.blk_lt hr1)
  have hb02 := below_keep hb1 hb2
  have hz2 : w2.heap.size = X + 1 := by rw [hw2, hX]; simp
  rw [show (w.alloc (.cells [Value.int .i64 0, .int .i64 0, .int .i64 0, .int .i64 0, .int .i64 0, .int .i64 0, .int .i64 0, .int .i64 0, .int .i64 0, .int .i64 0, .int .i64 0, .slice none 0 0].toArray 55)).alloc (.cells [Value.int .i64 0, .int .i64 0, .int .i64 0, .int .i64 0, .int .i64 0, .int .i64 0, .int .i64 0, .int .i64 0, .int .i64 0, .int .i64 0, .int .i64 0, .slice none 0 0].toArray 55) = w2 from hw2.symm] at hx2 hr2 hb02
  have hrd2 := rdp_below h hb02
  have hb3 := below_alloc w2 (.cells [.pointer (some ⟨X, 0, none⟩), .pointer (some ⟨X, 1, none⟩), .pointer (some ⟨X, 2, none⟩), .pointer (some ⟨X, 3, none⟩), .pointer (some ⟨X, 4, none⟩), .pointer (some ⟨X, 5, none⟩), .pointer (some ⟨X, 6, none⟩), .pointer (some ⟨X, 7, none⟩), .pointer (some ⟨X, 8, none⟩), .pointer (some ⟨X, 9, none⟩), .pointer (some ⟨X, 10, none⟩)].toArray 67)
  have hg3 := Arr.blk_new w2 w2.heap.size 67 [.pointer (some ⟨X, 0, none⟩), .pointer (some ⟨X, 1, none⟩), .pointer (some ⟨X, 2, none⟩), .pointer (some ⟨X, 3, none⟩), .pointer (some ⟨X, 4, none⟩), .pointer (some ⟨X, 5, none⟩), .pointer (some ⟨X, 6, none⟩), .pointer (some ⟨X, 7, none⟩), .pointer (some ⟨X, 8, none⟩), .pointer (some ⟨X, 9, none⟩), .pointer (some ⟨X, 10, none⟩)] rfl
  have HF := Lib.hid (fill_any (w := w2.alloc (.cells [.pointer (some ⟨X, 0, none⟩), .pointer (some ⟨X, 1, none⟩), .pointer (some ⟨X, 2, none⟩), .pointer (some ⟨X, 3, none⟩), .pointer (some ⟨X, 4, none⟩), .pointer (some ⟨X, 5, none⟩), .pointer (some ⟨X, 6, none⟩), .pointer (some ⟨X, 7, none⟩), .pointer (some ⟨X, 8, none⟩), .pointer (some ⟨X, 9, none⟩), .pointer (some ⟨X, 10, none⟩)].toArray 67)) (X := X) (g := w2.heap.size) (og := 0) (o := 0) (m := 11) (T := 55) (cs := [.int .i64 0, .int .i64 0, .int .i64 0, .int .i64 0, .int .i64 0, .int .i64 0, .int .i64 0, .int .i64 0, .int .i64 0, .int .i64 0, .int .i64 0, .slice none 0 0]) (rdp_below hrd2 hb3) (fun k hk => (Arr.blk_cell hg3 (0 + k)).trans (places11 X k hk)) (Arr.blk_below hx2 hb3 (Arr.blk_lt hx2)) (fun e => by have := hS _ e; have := hb02.size; omega) (fun e => by have := hS _ e; omega) (by omega) (by omega) (by simp) hrp)
  have HR2 := Lib.hid (And.intro hr2 (And.intro hb02 hb3))
  have HXs := Lib.hid (And.intro hX hz2)
  have HW2 := Lib.hid hw2
  have hmf : ∀ (fn : Fn) (first cap : Array Value) (w : World), (Instr.makeFunc fn first cap).run Try.prog w = .ok (.func fn first cap) w := fun _ _ _ _ => rfl
  clear hb1 hr1 hb2 hx2 hr2 hb02 hrd2 hb3 hg3 hrp hS h hw2 hX hz2 h12
  go_enter Try.func28, Try.ntmps28
  go_upto_region 2 with fail
  rw [show (w.alloc (.cells #[.int .i64 0, .int .i64 0, .int .i64 0, .int .i64 0, .int .i64 0, .int .i64 0, .int .i64 0, .int .i64 0, .int .i64 0, .int .i64 0, .int .i64 0, .slice none 0 0] 55)).alloc (.cells #[.int .i64 0, .int .i64 0, .int .i64 0, .int .i64 0, .int .i64 0, .int .i64 0, .int .i64 0, .int .i64 0, .int .i64 0, .int .i64 0, .int .i64 0, .slice none 0 0] 55) = w2 from HW2.out.symm, ← HXs.out.1]
  go_wp2_with fail
  refine HF.out.mono ?_
  rintro e w4 ⟨rfl, hrd, hbl, hC⟩
  simp only [putI, List.set_cons_zero, List.set_cons_succ] at hbl
  have hr4 := blk_chg hC (Arr.blk_below HR2.out.1 HR2.out.2.2 (Arr.blk_lt HR2.out.1)) (fun e => by
    rcases e with e | e
    · have := HRp.out.2 _ e; omega
    · have := HXs.out.1; omega)
  have hC4 : Chg S w w4 := chg_trans (new_chg (below_keep HR2.out.2.1 HR2.out.2.2) S) hC fun k hk => by
    rcases hk with hk | hk
    · exact .inl hk
    · exact .inr (by have := HXs.out.1; omega)
  have HD := Lib.hid (draws_any hrd (fun k hk => Nat.lt_of_lt_of_le (HRp.out.2 k hk) hC4.size) H12.out)
  have H4 := Lib.hid (And.intro hbl (And.intro hr4 hC4))
  clear hrd hbl hC hr4 hC4 HF HR2
  go_wp2_with fail
  refine HD.out.mono ?_
  rintro e w5 ⟨ad, nd, cd, rfl, ho5, ⟨po5, hrd5⟩, hC5⟩
  have hX4 : X < w4.heap.size := Arr.blk_lt H4.out.1
  have hbl5 := blk_chg hC5 H4.out.1 fun e => by have h1 := HRp.out.2 _ e; have := HXs.out.1; omega
  have hr5 := blk_chg hC5 H4.out.2.1 fun e => by have h1 := HRp.out.2 _ e; omega
  have c11 := Arr.blk_cell hbl5 11
  have f11 := Arr.blk_frozen hbl5 11
  simp only [List.getElem?_cons_zero, List.getElem?_cons_succ] at c11
  have hCX := set_chg w5 X 11 (.slice ad nd cd)
  have hb6 := Arr.blk_set hbl5 11 (.slice ad nd cd)
  simp only [List.set_cons_zero, List.set_cons_succ] at hb6
  have hC06 : Chg S w (w5.setCell ⟨X, 11, none⟩ (.slice ad nd cd)) := chg_trans (chg_trans H4.out.2.2 hC5 fun k hk => .inl hk) hCX fun k hk => .inr (by have := HXs.out.1; omega)
  have H6 := Lib.hid (And.intro hb6 (And.intro (blk_chg hCX hr5 fun e => by have := HXs.out.1; omega) (And.intro (own_set_far (b := X) ho5 (fun g hg => by have := (World.ownsRow.lt ho5 g hg).1; omega) 11 (.slice ad nd cd)) (And.intro (rdp_chg hrd5 hCX fun k hk hs => by have := HRp.out.2 _ hs; have := HXs.out.1; omega) hC06))))
  have HX4 := Lib.hid (show w.heap.size < w4.heap.size by have := HXs.out.1; omega)
  clear ho5 hrd5 hC5 hbl5 hr5 hCX hb6 hC06 HD hX4
  go_upto_region 4 with fail
  obtain ⟨w6, hw6⟩ : ∃ y, y = w5.setCell ⟨X, 11, none⟩ (.slice ad nd cd) := ⟨_, rfl⟩
  rw [← hw6] at H6 ⊢
  clear hw6 c11 f11
  go_wp2_with (first | (refine Arr.wpList_load_blk rfl 55 (.tmp 3) rfl X rfl [.int .i64 x0, .int .i64 x1, .int .i64 x2, .int .i64 x3, .int .i64 x4, .int .i64 x5, .int .i64 x6, .int .i64 x7, .int .i64 x8, .int .i64 x9, .int .i64 xa, .slice ad nd cd] 55 H6.out.1 _ Try.underlying55 rfl info_jbV ?_) | (refine wpList_store_own rfl 55 (.tmp 2) (.tmp 23) rfl w.heap.size [.int .i64 x0, .int .i64 x1, .int .i64 x2, .int .i64 x3, .int .i64 x4, .int .i64 x5, .int .i64 x6, .int .i64 x7, .int .i64 x8, .int .i64 x9, .int .i64 xa, .slice ad nd cd] rfl rfl [.int .i64 0, .int .i64 0, .int .i64 0, .int .i64 0, .int .i64 0, .int .i64 0, .int .i64 0, .int .i64 0, .int .i64 0, .int .i64 0, .int .i64 0, .slice none 0 0] 55 H6.out.2.1 info_jbV rfl rfl ?_; intro wz hblk hCz hsz) | fail)
  refine bodyPost_ret (results_cell_blk rfl _ _ w.heap.size 55 [.int .i64 x0, .int .i64 x1, .int .i64 x2, .int .i64 x3, .int .i64 x4, .int .i64 x5, .int .i64 x6, .int .i64 x7, .int .i64 x8, .int .i64 x9, .int .i64 xa, .slice ad nd cd] _ rfl hblk Try.underlying55 rfl info_jbV) rfl ?_
  have hS0 : ∀ k, k = w.heap.size → ¬ S k := fun k e hk => by have := HRp.out.2 _ hk; omega
  refine ⟨ad, nd, cd, rfl, own_chg hCz (owns_le H6.out.2.2.1 (Nat.le_of_lt HX4.out)) (fun g hg e => ?_), ⟨po5, rdp_chg H6.out.2.2.2.1 hCz hS0⟩, chg_trans H6.out.2.2.2.2 hCz fun k hk => .inr (Nat.le_of_eq hk.symm)⟩
  have h1 := (World.ownsRow.lt H6.out.2.2.1 g hg).1
  have h2 := HX4.out
  omega
/-- What a list of jobs leaves. -/
def OutJs (S : Nat → Prop) (w : World) (q : Nat) (s2 : RS) (xs : List Jb) (e : Ending) (w' : World) : Prop :=
  ∃ a n c, ∃ js : List Jv, e = .returned (.slice a n c) ∧ js.map (·.t) = xs ∧ Owns encJ 12 55 w' w.heap.size (.slice a n c) js ∧ (∀ y ∈ js, Owns encD 2 60 w' w.heap.size (.slice y.a y.n y.c) y.t.draws) ∧ (∃ po, RdP S w' q s2 po) ∧ Chg S w w'
theorem js_none (w : World) (b : Nat) : ∀ y ∈ ([] : List Jv), Owns encD 2 60 w b (.slice y.a y.n y.c) y.t.draws := fun y hy => by cases hy
theorem lst_badJ {s s1 : RS} {n : Int} (h : rInt s = (n, s1)) (hn : n < 0 ∨ (16 : Int) < n) : (cLst cJb 16 (by omega)).dec s = ([], none) := lst_of (many_bad h hn) rfl
set_option maxHeartbeats 16000000 in
theorem jobs_any {xs : List Jb} (h : RdP S w q s po) (hS : ∀ k, S k → k < w.heap.size) (hr : (cLst cJb 16 (by omega)).dec s = (xs, s2)) :
    Calls Try.prog 27 #[.pointer (some ⟨q, 0, none⟩), .int .i64 16, .func (.func 28) #[.pointer (some ⟨q, 0, none⟩)] #[]] w (OutJs S w q s2 xs) := by
  rcases h1 : rInt s with ⟨N, s1⟩
  have c1 := rdp_cell h
  have f1 := rdp_frozen h
  have HI := Lib.hid (int_rl h h1)
  have HS := Lib.hid hS
  have hor : (N < 0 ∨ (¬ N < 0 ∧ (16 : Int) < N)) ∨ (¬ N < 0 ∧ ¬ (16 : Int) < N) := by omega
  rcases hor with hbad | ⟨t1, t2⟩
  · have e := hr.symm.trans (lst_badJ h1 (by omega))
    injection e with e1 e2
    subst e1 e2
    clear hr h1 h hS
    rcases hbad with t1 | ⟨t1, t2⟩
    all_goals
      go_enter Try.func27, Try.ntmps27
      go_wp2_with fail
      refine HI.out.mono ?_
      rintro e w1 ⟨rfl, hrd, hC1⟩
      have c2 := rdp_cell hrd
      have f2 := rdp_frozen hrd
      have HD := Lib.hid (And.intro (rdp_drop hrd) hC1)
      clear hrd hC1 c1 f1 HI
      go_wp2_with fail
      go_ret
      exact ⟨none, 0, 0, [], rfl, rfl, owns_nil _ _ _, js_none _ _, ⟨none, HD.out.1.1⟩, chg_trans HD.out.2 HD.out.1.2 fun k hk => .inl hk⟩
  · obtain ⟨m, rfl⟩ : ∃ m : Nat, N = (m : Int) := ⟨N.toNat, by omega⟩
    have hm8 : m ≤ 16 := by omega
    have hr2 : rep cJb m s1 = (xs, s2) := by
      have e := lst_of (A := cJb) (most := 16) (hm := by omega) (many_ok h1 hm8) (show rep cJb m s1 = ((rep cJb m s1).1, (rep cJb m s1).2) from rfl)
      rw [hr] at e
      exact e.symm
    have HR := Lib.hid hr2
    clear hr hr2 h1 h hS
    go_enter Try.func27, Try.ntmps27
    go_wp2_with fail
    refine HI.out.mono ?_
    rintro e w1 ⟨rfl, hrd, hC1⟩
    have H1 := Lib.hid (And.intro hrd hC1)
    clear hrd hC1 c1 f1 HI
    go_wp2_with fail
    go_loopw [8, 25] (fun bv iv wr => ∃ (k : Nat) (a : Option Addr) (n c : Nat) (pq : Option Addr) (js : List Jv), k ≤ m ∧ iv = .int .i64 (k : Nat) ∧ bv = .slice a n c ∧ js.map (·.t) = (rep cJb k s1).1 ∧ Owns encJ 12 55 wr w.heap.size (.slice a n c) js ∧ (∀ y ∈ js, Owns encD 2 60 wr w.heap.size (.slice y.a y.n y.c) y.t.draws) ∧ RdP S wr q (rep cJb k s1).2 pq ∧ Chg S w wr) (fun _ iv _ => m - (intOf iv).toNat)
    case atStart => exact ⟨0, none, 0, 0, po, [], Nat.zero_le _, rfl, rfl, rfl, owns_nil _ _ _, js_none _ _, H1.out.1, H1.out.2⟩
    case round =>
      obtain ⟨k, a, n, c, pq, js, hk, rfl, rfl, hjs, ho, hdr, hrd, hC⟩ := hrel
      by_cases hlt : k < m
      · rcases hx : cJb.dec (rep cJb k s1).2 with ⟨x, t1'⟩
        have hnx := rep_next (A := cJb) (n := k) (s := s1) (l := (rep cJb k s1).1) (s1 := (rep cJb k s1).2) rfl hx
        have hln : js.length = k := by
          have h := congrArg List.length hjs
          rw [List.length_map, rep_len] at h
          exact h
        have HN := Lib.hid (And.intro hnx (And.intro hjs (show js.length + 1 ≤ 100 by omega)))
        have HC := Lib.hid (jread_any hrd (fun k hk => Nat.lt_of_lt_of_le (HS.out k hk) hC.size) hx)
        have HO := Lib.hid (And.intro ho (And.intro hC hdr))
        clear hx hnx hln hrd ho hC hjs hdr
        go_wp2_with fail
        refine HC.out.mono ?_
        rintro e w7 ⟨ad, nd, cd, rfl, hod, ⟨po7, hrd⟩, hC7⟩
        have hC07 : Chg S w w7 := chg_trans HO.out.2.1 hC7 fun k hk => .inl hk
        have hfar : ∀ {α : Type} {enc : α → List Value} {size : Nat} {T : TypeId} {v : Value} {l : List α}, Owns enc size T wr w.heap.size v l → ∀ g, v.ownBlock = some g → ¬ S g := fun h g hg e => by have h1 := HS.out g e; have h2 := (World.ownsRow.lt h g hg).1; omega
        have ho7 := own_chg hC7 HO.out.1 (hfar HO.out.1)
        have hdr7 : ∀ y ∈ js ++ [⟨x, ad, nd, cd⟩], Owns encD 2 60 w7 w.heap.size (.slice y.a y.n y.c) y.t.draws := fun y hy => by
          rcases List.mem_append.1 hy with hy | hy
          · exact own_chg hC7 (HO.out.2.2 y hy) (hfar (HO.out.2.2 y hy))
          · rw [List.mem_singleton] at hy
            subst hy
            exact owns_le hod HO.out.2.1.size
        obtain ⟨j0, j1, j2, j3, j4, j5, j6, j7, j8, j9, j10, ds⟩ := x
        have hba := below_alloc w7 (.cells #[.int .i64 j0, .int .i64 j1, .int .i64 j2, .int .i64 j3, .int .i64 j4, .int .i64 j5, .int .i64 j6, .int .i64 j7, .int .i64 j8, .int .i64 j9, .int .i64 j10, .slice ad nd cd] 55)
        have hrow := row_new encJ_len w7 [(⟨⟨j0, j1, j2, j3, j4, j5, j6, j7, j8, j9, j10, ds⟩, ad, nd, cd⟩ : Jv)] #[.int .i64 j0, .int .i64 j1, .int .i64 j2, .int .i64 j3, .int .i64 j4, .int .i64 j5, .int .i64 j6, .int .i64 j7, .int .i64 j8, .int .i64 j9, .int .i64 j10, .slice ad nd cd] 55 _ rfl rfl
        have H7 := Lib.hid (And.intro (Nest.own_on ho7 hba) (And.intro hrow (show w.heap.size ≤ (w7.alloc (.cells #[.int .i64 j0, .int .i64 j1, .int .i64 j2, .int .i64 j3, .int .i64 j4, .int .i64 j5, .int .i64 j6, .int .i64 j7, .int .i64 j8, .int .i64 j9, .int .i64 j10, .slice ad nd cd] 55)).heap.size from Nat.le_trans hC07.size hba.size)))
        have HL1 := Lib.hid (show js.length + 1 ≤ maxLen by have := HN.out.2.2; unfold maxLen; omega)
        have HL2 := Lib.hid (show (js.length + 1) * 112 ≤ 140737488355328 by have := HN.out.2.2; omega)
        have H8 := Lib.hid (And.intro hba (And.intro hrd (And.intro hC07 hdr7)))
        clear hrd hC7 hC07 ho7 hdr7 hod hfar hba hrow
        go_wp2_with (first | (at_builtin; refine Two.append_apart encJ_len (by decide) encJ_one rfl (.tmp 27) (.tmp 30) 25 55 rfl Try.underlying25 (.agg #[.int .i64 0, .int .i64 0, .int .i64 0, .int .i64 0, .int .i64 0, .int .i64 0, .int .i64 0, .int .i64 0, .int .i64 0, .int .i64 0, .int .i64 0, .slice none 0 0]) 112 info_jbW rfl w.heap.size (.slice a n c) js rfl H7.out.1 (some ⟨w7.heap.size, 0, none⟩) 1 1 [(⟨⟨j0, j1, j2, j3, j4, j5, j6, j7, j8, j9, j10, ds⟩, ad, nd, cd⟩ : Jv)] rfl rfl H7.out.2.1 (fun h => by cases h) HL1.out HL2.out H7.out.2.2 ?_; intro v9 w9 ho9 hg9 _; obtain ⟨a9, n9, c9, rfl⟩ := own_any encJ_len ho9; have H9 := Lib.hid (And.intro ho9 (And.intro (grown_chg hg9) (typed_own (e := 60) H7.out.1 (by decide)))); clear ho9 hg9) | fail)
        go_roundw
        case rel =>
          have hlo : ∀ k, some k = (Value.slice a n c).ownBlock → w.heap.size ≤ k := fun k hk => (World.ownsRow.lt HO.out.1 k hk.symm).1
          refine ⟨k + 1, a9, n9, c9, po7, js ++ [⟨⟨j0, j1, j2, j3, j4, j5, j6, j7, j8, j9, j10, ds⟩, ad, nd, cd⟩], by omega, by go_num, rfl, ?_, H9.out.1, ?_, ?_, chg_trans (chg_trans H8.out.2.2.1 (new_chg H8.out.1 S) fun k hk => .inl hk) H9.out.2.1 fun k hk => .inr (hlo k hk)⟩
          · rw [HN.out.1, List.map_append, HN.out.2.1]; rfl
          · exact fun y hy => own_typed (Nest.own_on (H8.out.2.2.2 y hy) H8.out.1) H9.out.2.1 H9.out.2.2
          · rw [HN.out.1]
            exact rdp_chg (rdp_below H8.out.2.1 H8.out.1) H9.out.2.1 fun k hk hs => by have := HS.out k hs; have := hlo k hk; omega
        case measure => simp [intOf]; omega
      · obtain rfl : k = m := by omega
        rw [HR.out] at hjs hrd
        have HE := Lib.hid (And.intro hjs (And.intro ho (And.intro hdr (And.intro hrd hC))))
        clear ho hrd hC hdr hjs
        go_wp2_with fail
        go_ret
        exact ⟨a, n, c, js, rfl, HE.out.1, HE.out.2.1, HE.out.2.2.1, ⟨pq, HE.out.2.2.2.1⟩, HE.out.2.2.2.2⟩
end Go.Proofs.Ytpmpigglekgfnaa.Snp
/- Snap: the landed Decode; what the program does. -/
namespace Go.Proofs.Ytpmpigglekgfnaa.Snp
set_option maxRecDepth 100000
open Go.RowKit
open Go.Sort
open Kit
open Oct
open Foot
open Tre (Lst lst_none Al encF encF_len)
open Rte (Rt encR encR_len)
open Job (Jb Jv Jobs encJ encJ_len)
open Drw (Dw encD encD_len)
set_option linter.unusedVariables false
variable {w w' : World}

theorem info_stD : (Try.prog.info? 28).map (·.size) = some 8 := by kernel_rfl
def zero8L : List Value := [.int .i64 0, .int .i64 0, .int .i64 0, .slice none 0 0, .slice none 0 0, .slice none 0 0, .slice none 0 0, .slice none 0 0]
theorem lst_own {α : Type} {enc : α → List Value} {size : Nat} {T : TypeId} {base : Nat} {a : Option Addr} {n c : Nat} {l : List α} (hs : ∀ x, (enc x).length = size) (h : Owns enc size T w base (.slice a n c) l) : Lst enc size w a n c l := by
  obtain ⟨a', c', e, h1, h2, h3, h4⟩ := owns_row hs h
  injection e with e1 e2 e3
  subst e1 e2 e3
  exact ⟨rfl, h1, h2, fun e => ⟨by have := h3 e; omega, h3 e⟩, h4⟩
theorem rdrs_mono {S T : Nat → Prop} {p : Nat} {s : RS} (h : RdrS S w p s) (hST : ∀ k, S k → T k) : RdrS T w p s := by
  obtain ⟨a, cap, h0, h1, f0, f1, h2, h3, h4, h5, h6, h7⟩ := h
  exact ⟨a, cap, h0, h1, f0, f1, h2, h3, h4, h5, hST _ h6, fun q hq => ⟨hST _ (h7 q hq).1, (h7 q hq).2⟩⟩
/-- The result's cells, the state's, the reader. -/
structure Dc (W w : World) (C D B q : Nat) (s : RS) (cs : List Value) : Prop where
  below : Below W.heap.size W w
  res : Arr.Blk w W.heap.size 28 zero8L
  box : Arr.Blk w B 28 cs
  rd : ∃ po, RdP (fun k => C ≤ k ∧ k < D) w q s po
  eB : B = W.heap.size + 1
  eC : C = W.heap.size + 2
  le : D ≤ w.heap.size
variable {W : World} {C D B q : Nat} {s s2 : RS} {cs : List Value}
theorem dc_rd (h : Dc W w C D B q s cs) (hr : ∃ po, RdP (fun k => C ≤ k ∧ k < D) w' q s2 po) (hC : Chg (fun k => C ≤ k ∧ k < D) w w') : Dc W w' C D B q s2 cs := by
  have eB := h.eB
  have eC := h.eC
  exact ⟨h.below.trans (chg_below hC (fun k hk => by omega) h.below.size), blk_chg hC h.res (by omega), blk_chg hC h.box (by omega), hr, eB, eC, Nat.le_trans h.le hC.size⟩
theorem dc_set (h : Dc W w C D B q s cs) (i : Nat) (v : Value) : Dc W (w.setCell ⟨B, i, none⟩ v) C D B q s (cs.set i v) := by
  have eB := h.eB
  have eC := h.eC
  have hC := set_chg w B i v
  obtain ⟨po, hr⟩ := h.rd
  exact ⟨h.below.trans (chg_below hC (fun k hk => by omega) h.below.size), blk_chg hC h.res (by omega), Arr.blk_set h.box i v, ⟨po, rdp_chg hr hC fun k hk hs => by omega⟩, eB, eC, by rw [setCell_size]; exact h.le⟩
theorem dc_lo (h : Dc W w C D B q s cs) : ∀ k, (C ≤ k ∧ k < D) → k < w.heap.size := fun k hk => Nat.lt_of_lt_of_le hk.2 h.le
/-- A list of one's own stays: what the reader does, and what is stored into the state. -/
theorem own_rl {α : Type} {enc : α → List Value} {size : Nat} {T : TypeId} {base : Nat} {v : Value} {l : List α} (ho : Owns enc size T w base v l) (hD : D ≤ base) (hC : Chg (fun k => C ≤ k ∧ k < D) w w') : Owns enc size T w' base v l := own_chg hC ho fun g hg e => by have := (World.ownsRow.lt ho g hg).1; omega
theorem own_bx {α : Type} {enc : α → List Value} {size : Nat} {T : TypeId} {base : Nat} {v : Value} {l : List α} (ho : Owns enc size T w base v l) (hB : B < base) (i : Nat) (u : Value) : Owns enc size T (w.setCell ⟨B, i, none⟩ u) base v l := own_set_far (b := B) ho (fun g hg => by have := (World.ownsRow.lt ho g hg).1; omega) i u
theorem dec_bad {l : List UInt8} (hd : decT l = none) (hb : Below W.heap.size W w) : ∃ x : Sv, Ending.returned (.tuple #[.agg zero8L.toArray, .int .i64 3]) = .returned (.tuple #[valV x, .int .i64 (decE l)]) ∧ x.t = decV l ∧ x.In w ∧ Below W.heap.size W w :=
  ⟨⟨0, 0, 0, [], [], [], [], [], Pl.nil, Pl.nil, Pl.nil, Pl.nil, Pl.nil⟩, by rw [(dec_no hd).2]; rfl, by rw [(dec_no hd).1]; rfl, ⟨lst_none _ _ _, lst_none _ _ _, lst_none _ _ _, lst_none _ _ _, lst_none _ _ _, fun y hy => by cases hy⟩, hb⟩
set_option maxHeartbeats 32000000 in
theorem ldec_any (W : World) (ab : Option Addr) (n c : Nat) (l : List UInt8) (hl : l.length = n) (hc : n ≤ c) (hm : c ≤ maxLen) (hz : ab = none → n = 0 ∧ c = 0) (hE : RowB W ab l) (hn : n ≤ 140737488351232) :
    Calls Try.prog 10 #[.slice ab n c] W fun e W' => ∃ x : Sv, e = .returned (.tuple #[valV x, .int .i64 (decE l)]) ∧ x.t = decV l ∧ x.In W' ∧ Below W.heap.size W W' := by
  rcases h1 : rInt (some l) with ⟨sq, s1⟩
  rcases h2 : rInt s1 with ⟨wd, s2⟩
  rcases h3 : rInt s2 with ⟨nx, s3⟩
  rcases h4 : (cLst cFd 8 (by omega)).dec s3 with ⟨fs, s4⟩
  rcases h5 : (cLst cAl 16 (by omega)).dec s4 with ⟨ls, s5⟩
  rcases h6 : (cLst cRt 16 (by omega)).dec s5 with ⟨rs, s6⟩
  rcases h7 : (cLst cJb 16 (by omega)).dec s6 with ⟨jt, s7⟩
  rcases h8 : (cLst cTxt 8 (by omega)).dec s7 with ⟨ks, s8⟩
  have HD := Lib.hid (sn_of h1 h2 h3 h4 h5 h6 h7 h8)
  have hrp : rep cInt 3 (some l) = ([sq, wd, nx], s3) := rep_more (rep_more (rep_one h1) h2) h3
  have HE := Lib.hid (And.intro hrp (And.intro h4 (And.intro h5 (And.intro h6 (And.intro h7 h8)))))
  have HB0 := Lib.hid (And.intro hl (And.intro hz hE))
  clear h1 h2 h3 h4 h5 h6 h7 h8 hl hz hE hrp
  have hb1 := below_alloc W (.cells zero8L.toArray 28)
  have hr1 := Arr.blk_new W W.heap.size 28 zero8L rfl
  have hb2 := below_alloc (W.alloc (.cells zero8L.toArray 28)) (.cells zero8L.toArray 28)
  have z1 : (W.alloc (.cells zero8L.toArray 28)).heap.size = W.heap.size + 1 := by simp
  have HSt := Lib.hid (And.intro (below_keep hb1 hb2) (And.intro (Arr.blk_below hr1 hb2 (Arr.blk_lt hr1)) (And.intro (Arr.blk_new (W.alloc (.cells zero8L.toArray 28)) (W.heap.size + 1) 28 zero8L z1.symm) (show ((W.alloc (.cells zero8L.toArray 28)).alloc (.cells zero8L.toArray 28)).heap.size = W.heap.size + 2 by simp))))
  have hmf : ∀ (fn : Fn) (first cap : Array Value) (w : World), (Instr.makeFunc fn first cap).run Try.prog w = .ok (.func fn first cap) w := fun _ _ _ _ => rfl
  clear hb1 hr1 hb2 z1
  go_enter Try.func10, Try.ntmps10
  go_upto_region 2 with fail
  obtain ⟨w1, hw1⟩ : ∃ z, z = (W.alloc (.cells #[.int .i64 0, .int .i64 0, .int .i64 0, .slice none 0 0, .slice none 0 0, .slice none 0 0, .slice none 0 0, .slice none 0 0] 28)).alloc (.cells #[.int .i64 0, .int .i64 0, .int .i64 0, .slice none 0 0, .slice none 0 0, .slice none 0 0, .slice none 0 0, .slice none 0 0] 28) := ⟨_, rfl⟩
  rw [← hw1]
  rw [show (W.alloc (.cells zero8L.toArray 28)).alloc (.cells zero8L.toArray 28) = w1 from hw1.symm] at HSt
  obtain ⟨B, hBe⟩ : ∃ B, B = W.heap.size + 1 := ⟨_, rfl⟩
  rw [← hBe] at HSt ⊢
  have HBe := Lib.hid hBe
  clear hw1 hBe
  have HR := Lib.hid (new_any ab n c l w1 HB0.out.1 HB0.out.2.1 (row_keep encB_len HB0.out.2.2 HSt.out.1) (by omega))
  go_wp2_with fail
  refine HR.out.mono ?_
  rintro e w2 ⟨p, rfl, hr, hb⟩
  have hrs := rdrs_fix hr
  have hp := rdr_lt hr
  have ha := below_alloc w2 (.cells [.pointer (some ⟨p, 0, none⟩)].toArray 65)
  have hq := Arr.blk_new w2 w2.heap.size 65 [.pointer (some ⟨p, 0, none⟩)] rfl
  have hba := below_keep hb ha
  have hdc : Dc W (w2.alloc (.cells [.pointer (some ⟨p, 0, none⟩)].toArray 65)) (W.heap.size + 2) (w2.heap.size + 1) B w2.heap.size (some l) zero8L := by
    refine ⟨below_keep HSt.out.1 hba, Arr.blk_below HSt.out.2.1 hba (Arr.blk_lt HSt.out.2.1), Arr.blk_below HSt.out.2.2.1 hba (Arr.blk_lt HSt.out.2.2.1), ⟨some ⟨p, 0, none⟩, hq, ⟨?_, Nat.lt_succ_self _⟩, .inl ⟨p, rfl, Nat.ne_of_lt hp, ?_⟩⟩, HBe.out, rfl, by simp⟩
    · have := hb.size; have := HSt.out.2.2.2; omega
    · refine rdrs_mono (rdr_keep hrs ha) fun k hk => ⟨?_, by omega⟩
      have := HSt.out.2.2.2
      omega
  obtain ⟨q, hqe⟩ : ∃ q, q = w2.heap.size := ⟨_, rfl⟩
  obtain ⟨w3, hw3⟩ : ∃ z, z = w2.alloc (.cells #[.pointer (some ⟨p, 0, none⟩)] 65) := ⟨_, rfl⟩
  rw [show w2.alloc (.cells [Value.pointer (some ⟨p, 0, none⟩)].toArray 65) = w3 from hw3.symm, ← hqe] at hdc
  obtain ⟨C, hCe⟩ : ∃ z, z = W.heap.size + 2 := ⟨_, rfl⟩
  obtain ⟨D, hDe⟩ : ∃ z, z = q + 1 := ⟨_, rfl⟩
  rw [← hCe, ← hDe] at hdc
  have hD3 : D = w3.heap.size := by rw [hDe, hqe, hw3]; simp
  have HD3 := Lib.hid (And.intro hdc hD3)
  have HW3 := Lib.hid (And.intro hw3 hqe)
  clear hr hb hrs hp ha hq hba hdc hw3 hqe hCe hDe hD3 HR HSt
  go_upto_region 3 with fail
  rw [show w2.alloc (.cells #[.pointer (some ⟨p, 0, none⟩)] 65) = w3 from HW3.out.1.symm, ← HW3.out.2]
  obtain ⟨po3, hrd3⟩ := HD3.out.1.rd
  have hb4 := below_alloc w3 (.cells [.pointer (some ⟨B, 0, none⟩), .pointer (some ⟨B, 1, none⟩), .pointer (some ⟨B, 2, none⟩)].toArray 67)
  have hg4 := Arr.blk_new w3 w3.heap.size 67 [.pointer (some ⟨B, 0, none⟩), .pointer (some ⟨B, 1, none⟩), .pointer (some ⟨B, 2, none⟩)] rfl
  have hBC : B < C := by have := HD3.out.1.eB; have := HD3.out.1.eC; omega
  have HF := Lib.hid (fill_any (w := w3.alloc (.cells [.pointer (some ⟨B, 0, none⟩), .pointer (some ⟨B, 1, none⟩), .pointer (some ⟨B, 2, none⟩)].toArray 67)) (X := B) (g := w3.heap.size) (og := 0) (o := 0) (m := 3) (T := 28) (cs := zero8L) (rdp_below hrd3 hb4) (fun k hk => (Arr.blk_cell hg4 (0 + k)).trans (places3 B k hk)) (Arr.blk_below HD3.out.1.box hb4 (Arr.blk_lt HD3.out.1.box)) (by have := HD3.out.2; omega) (by omega) (by have := Arr.blk_lt HD3.out.1.box; omega) (by omega) (by decide) HE.out.1)
  have HB4 := Lib.hid hb4
  clear hrd3 hb4 hg4 HW3
  go_wp2_with fail
  refine HF.out.mono ?_
  rintro e w4 ⟨rfl, hrd, hbl, hC⟩
  simp only [putI, zero8L, List.set_cons_zero, List.set_cons_succ] at hbl
  have hdc : Dc W w4 C D B q s3 [.int .i64 sq, .int .i64 wd, .int .i64 nx, .slice none 0 0, .slice none 0 0, .slice none 0 0, .slice none 0 0, .slice none 0 0] := by
    have h := HD3.out.1
    have eB := h.eB
    have eC := h.eC
    have hC4 : Chg (fun k => (C ≤ k ∧ k < D) ∨ k = B) w3 w4 := chg_trans (new_chg HB4.out _) hC fun k hk => .inl hk
    exact ⟨h.below.trans (chg_below hC4 (fun k hk => by omega) h.below.size), blk_chg hC4 h.res (by omega), hbl, ⟨po3, hrd⟩, eB, eC, Nat.le_trans h.le hC4.size⟩
  have H4 := Lib.hid hdc
  have HBC := Lib.hid (show B < D by have := HD3.out.2; have := Arr.blk_lt HD3.out.1.box; omega)
  clear hrd hbl hC hdc HF HB4 HD3
  obtain ⟨po4, hrd4⟩ := H4.out.rd
  have HL := Lib.hid (funds_any hrd4 (dc_lo H4.out) HE.out.2.1)
  clear hrd4
  go_wp2_with fail
  refine HL.out.mono ?_
  rintro e w5 ⟨af, nf, cf, rfl, ho5, hrd5, hC5⟩
  have hd5 := dc_rd H4.out hrd5 hC5
  have q3 := (Arr.blk_cell hd5.box 3)
  have f3 := Arr.blk_frozen hd5.box 3
  simp only [List.getElem?_cons_zero, List.getElem?_cons_succ] at q3
  have hd5' := dc_set hd5 3 (.slice af nf cf)
  simp only [List.set_cons_zero, List.set_cons_succ] at hd5'
  have H5 := Lib.hid (And.intro hd5' (owns_le (base' := D) (own_bx ho5 (Nat.lt_of_lt_of_le HBC.out H4.out.le) 3 (.slice af nf cf)) H4.out.le))
  clear hrd5 hC5 ho5 hd5 hd5' HL
  go_upto_region 5 with fail
  obtain ⟨w6, hw6⟩ : ∃ z, z = w5.setCell ⟨B, 3, none⟩ (.slice af nf cf) := ⟨_, rfl⟩
  rw [← hw6] at H5 ⊢
  clear hw6 q3 f3 H4
  obtain ⟨po6, hrd6⟩ := H5.out.1.rd
  have HL := Lib.hid (allocs_any hrd6 (dc_lo H5.out.1) HE.out.2.2.1)
  clear hrd6
  go_wp2_with fail
  refine HL.out.mono ?_
  rintro e w7 ⟨al, nl, cl, rfl, ho7, hrd7, hC7⟩
  have hd7 := dc_rd H5.out.1 hrd7 hC7
  have q4 := (Arr.blk_cell hd7.box 4)
  have f4 := Arr.blk_frozen hd7.box 4
  simp only [List.getElem?_cons_zero, List.getElem?_cons_succ] at q4
  have hd7' := dc_set hd7 4 (.slice al nl cl)
  simp only [List.set_cons_zero, List.set_cons_succ] at hd7'
  have H7 := Lib.hid (And.intro hd7' (And.intro (own_bx (own_rl H5.out.2 (Nat.le_refl _) hC7) HBC.out 4 (.slice al nl cl)) (owns_le (base' := D) (own_bx ho7 (Nat.lt_of_lt_of_le HBC.out H5.out.1.le) 4 (.slice al nl cl)) H5.out.1.le)))
  clear hrd7 hC7 ho7 hd7 hd7' HL
  go_upto_region 6 with fail
  obtain ⟨w8, hw8⟩ : ∃ z, z = w7.setCell ⟨B, 4, none⟩ (.slice al nl cl) := ⟨_, rfl⟩
  rw [← hw8] at H7 ⊢
  clear hw8 q4 f4 H5
  obtain ⟨po8, hrd8⟩ := H7.out.1.rd
  have HL := Lib.hid (rates_any hrd8 (dc_lo H7.out.1) HE.out.2.2.2.1)
  clear hrd8
  go_wp2_with fail
  refine HL.out.mono ?_
  rintro e w9 ⟨ar, nr, cr, rfl, ho9, hrd9, hC9⟩
  have hd9 := dc_rd H7.out.1 hrd9 hC9
  have q5 := (Arr.blk_cell hd9.box 5)
  have f5 := Arr.blk_frozen hd9.box 5
  simp only [List.getElem?_cons_zero, List.getElem?_cons_succ] at q5
  have hd9' := dc_set hd9 5 (.slice ar nr cr)
  simp only [List.set_cons_zero, List.set_cons_succ] at hd9'
  have H9 := Lib.hid (And.intro hd9' (And.intro (own_bx (own_rl H7.out.2.1 (Nat.le_refl _) hC9) HBC.out 5 (.slice ar nr cr)) (And.intro (own_bx (own_rl H7.out.2.2 (Nat.le_refl _) hC9) HBC.out 5 (.slice ar nr cr)) (owns_le (base' := D) (own_bx ho9 (Nat.lt_of_lt_of_le HBC.out H7.out.1.le) 5 (.slice ar nr cr)) H7.out.1.le))))
  clear hrd9 hC9 ho9 hd9 hd9' HL
  go_upto_region 7 with fail
  obtain ⟨wa, hwa⟩ : ∃ z, z = w9.setCell ⟨B, 5, none⟩ (.slice ar nr cr) := ⟨_, rfl⟩
  rw [← hwa] at H9 ⊢
  clear hwa q5 f5 H7
  obtain ⟨poa, hrda⟩ := H9.out.1.rd
  have HL := Lib.hid (jobs_any hrda (dc_lo H9.out.1) HE.out.2.2.2.2.1)
  clear hrda
  go_wp2_with fail
  refine HL.out.mono ?_
  rintro e wb ⟨aj, nj, cj, js, rfl, hjs, hob, hdr, hrdb, hCb⟩
  have hdb := dc_rd H9.out.1 hrdb hCb
  have q6 := (Arr.blk_cell hdb.box 6)
  have f6 := Arr.blk_frozen hdb.box 6
  simp only [List.getElem?_cons_zero, List.getElem?_cons_succ] at q6
  have hdb' := dc_set hdb 6 (.slice aj nj cj)
  simp only [List.set_cons_zero, List.set_cons_succ] at hdb'
  have Hb := Lib.hid (And.intro hdb' (And.intro (own_bx (own_rl H9.out.2.1 (Nat.le_refl _) hCb) HBC.out 6 (.slice aj nj cj)) (And.intro (own_bx (own_rl H9.out.2.2.1 (Nat.le_refl _) hCb) HBC.out 6 (.slice aj nj cj)) (And.intro (own_bx (own_rl H9.out.2.2.2 (Nat.le_refl _) hCb) HBC.out 6 (.slice aj nj cj)) (And.intro (owns_le (base' := D) (own_bx hob (Nat.lt_of_lt_of_le HBC.out H9.out.1.le) 6 (.slice aj nj cj)) H9.out.1.le) (fun y hy => owns_le (base' := D) (own_bx (hdr y hy) (Nat.lt_of_lt_of_le HBC.out H9.out.1.le) 6 (.slice aj nj cj)) H9.out.1.le : ∀ y ∈ js, Owns encD 2 60 (wb.setCell ⟨B, 6, none⟩ (.slice aj nj cj)) D (.slice y.a y.n y.c) y.t.draws))))))
  have HJs := Lib.hid hjs
  clear hrdb hCb hob hdr hdb hdb' HL hjs
  go_upto_region 8 with fail
  obtain ⟨wc, hwc⟩ : ∃ z, z = wb.setCell ⟨B, 6, none⟩ (.slice aj nj cj) := ⟨_, rfl⟩
  rw [← hwc] at Hb ⊢
  clear hwc q6 f6 H9
  obtain ⟨poc, hrdc⟩ := Hb.out.1.rd
  have HL := Lib.hid (keys_any hrdc (dc_lo Hb.out.1) HE.out.2.2.2.2.2)
  clear hrdc
  go_wp2_with fail
  refine HL.out.mono ?_
  rintro e wd' ⟨ak, nk, ck, rfl, hod, hrdd, hCd⟩
  have hdd := dc_rd Hb.out.1 hrdd hCd
  have q7 := (Arr.blk_cell hdd.box 7)
  have f7 := Arr.blk_frozen hdd.box 7
  simp only [List.getElem?_cons_zero, List.getElem?_cons_succ] at q7
  have hdd' := dc_set hdd 7 (.slice ak nk ck)
  simp only [List.set_cons_zero, List.set_cons_succ] at hdd'
  have Hd := Lib.hid (And.intro hdd' (And.intro (own_bx (own_rl Hb.out.2.1 (Nat.le_refl _) hCd) HBC.out 7 (.slice ak nk ck)) (And.intro (own_bx (own_rl Hb.out.2.2.1 (Nat.le_refl _) hCd) HBC.out 7 (.slice ak nk ck)) (And.intro (own_bx (own_rl Hb.out.2.2.2.1 (Nat.le_refl _) hCd) HBC.out 7 (.slice ak nk ck)) (And.intro (own_bx (own_rl Hb.out.2.2.2.2.1 (Nat.le_refl _) hCd) HBC.out 7 (.slice ak nk ck)) (And.intro (fun y hy => own_bx (own_rl (Hb.out.2.2.2.2.2 y hy) (Nat.le_refl _) hCd) HBC.out 7 (.slice ak nk ck) : ∀ y ∈ js, Owns encD 2 60 (wd'.setCell ⟨B, 7, none⟩ (.slice ak nk ck)) D (.slice y.a y.n y.c) y.t.draws) (owns_le (base' := D) (own_bx hod (Nat.lt_of_lt_of_le HBC.out Hb.out.1.le) 7 (.slice ak nk ck)) Hb.out.1.le)))))))
  clear hrdd hCd hod hdd hdd' HL
  go_upto_region 9 with fail
  obtain ⟨we, hwe⟩ : ∃ z, z = wd'.setCell ⟨B, 7, none⟩ (.slice ak nk ck) := ⟨_, rfl⟩
  rw [← hwe] at Hd ⊢
  clear hwe q7 f7 Hb
  obtain ⟨poe, hrde⟩ := Hd.out.1.rd
  have c0 := rdp_cell hrde
  have HEn := Lib.hid (end_rl hrde)
  clear hrde
  go_wp2_with fail
  refine HEn.out.mono ?_
  rintro e wz0 ⟨rfl, h0⟩
  replace h0 := h0.symm
  subst h0
  by_cases hs8 : s8 = some []
  · have HFin := Lib.hid (show decT l = some ⟨sq, wd, nx, fs, ls, rs, jt, ks⟩ by rw [HD.out, if_pos hs8])
    have hdt : decide (s8 = some []) = true := decide_eq_true hs8
    clear hs8 HEn c0
    go_wp2_with (first | (refine Arr.wpList_load_blk rfl 28 (.tmp 4) rfl B rfl [.int .i64 sq, .int .i64 wd, .int .i64 nx, .slice af nf cf, .slice al nl cl, .slice ar nr cr, .slice aj nj cj, .slice ak nk ck] 28 Hd.out.1.box _ Try.underlying28 rfl info_stD ?_) | (refine wpList_store_own rfl 28 (.tmp 2) (.tmp 48) rfl W.heap.size [.int .i64 sq, .int .i64 wd, .int .i64 nx, .slice af nf cf, .slice al nl cl, .slice ar nr cr, .slice aj nj cj, .slice ak nk ck] rfl rfl zero8L 28 Hd.out.1.res info_stD rfl rfl ?_; intro wz hblk hC hsz) | fail)
    refine bodyPost_ret (results_cell_row2 rfl _ _ W.heap.size 28 [.int .i64 sq, .int .i64 wd, .int .i64 nx, .slice af nf cf, .slice al nl cl, .slice ar nr cr, .slice aj nj cj, .slice ak nk ck] _ rfl hblk Try.underlying28 rfl info_stD) rfl ?_
    have hbf := Hd.out.1.below.trans (chg_below hC (fun y hy => Nat.le_of_eq hy.symm) Hd.out.1.below.size)
    have hWD : W.heap.size < D := by have := HBC.out; have := Hd.out.1.eB; omega
    have keep : ∀ {α : Type} {enc : α → List Value} {size : Nat} {T : TypeId} {v : Value} {xs : List α}, Owns enc size T wz0 D v xs → Owns enc size T wz D v xs := fun ho => own_chg hC ho fun g hg e => by have h1 := (World.ownsRow.lt ho g hg).1; replace e : g = W.heap.size := e; omega
    have hin : Sv.In ⟨sq, wd, nx, fs, ls, rs, js, ks, ⟨af, nf, cf⟩, ⟨al, nl, cl⟩, ⟨ar, nr, cr⟩, ⟨aj, nj, cj⟩, ⟨ak, nk, ck⟩⟩ wz :=
      ⟨lst_own encF_len (keep Hd.out.2.1), lst_own Tre.encL_len (keep Hd.out.2.2.1), lst_own encR_len (keep Hd.out.2.2.2.1), lst_own encJ_len (keep Hd.out.2.2.2.2.1), lst_own encK_len (keep Hd.out.2.2.2.2.2.2), fun y hy => lst_own encD_len (keep (Hd.out.2.2.2.2.2.1 y hy))⟩
    exact ⟨⟨sq, wd, nx, fs, ls, rs, js, ks, ⟨af, nf, cf⟩, ⟨al, nl, cl⟩, ⟨ar, nr, cr⟩, ⟨aj, nj, cj⟩, ⟨ak, nk, ck⟩⟩, by rw [(dec_ok HFin.out).2]; rfl, by rw [(dec_ok HFin.out).1, ← HJs.out], hin, hbf⟩
  · have HDd := Lib.hid (show decT l = none by rw [HD.out, if_neg hs8])
    have hdt : decide (s8 = some []) = false := decide_eq_false hs8
    clear hs8 HEn c0
    go_wp2_with (first | (refine wpList_store_own rfl 28 (.tmp 2) (.tmp 47) rfl W.heap.size zero8L rfl rfl zero8L 28 Hd.out.1.res info_stD rfl rfl ?_; intro wz hblk hC hsz) | fail)
    refine bodyPost_ret (results_cell_row2 rfl _ _ W.heap.size 28 zero8L _ rfl hblk Try.underlying28 rfl info_stD) rfl ?_
    have hbf := Hd.out.1.below.trans (chg_below hC (fun y hy => Nat.le_of_eq hy.symm) Hd.out.1.below.size)
    obtain ⟨x, e1, e2, e3, e4⟩ := dec_bad HDd.out hbf
    exact ⟨x, e1, e2, e3, e4⟩
theorem snap_prog : Prog := ⟨lenc_any, ldec_any⟩
end Go.Proofs.Ytpmpigglekgfnaa.Snp
