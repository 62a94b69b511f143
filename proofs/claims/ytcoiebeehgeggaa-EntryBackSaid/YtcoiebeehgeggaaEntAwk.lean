/- Entry: the fixed fact. -/
import Derived.Test.YtcoiebeehgeggaaEntSame
import Derived.Test.YtcoiebeehgeggaaEntEnc
import Derived.Test.YtcoiebeehgeggaaArrs
namespace Go.Proofs.Ytcoiebeehgeggaa.Ent
set_option maxRecDepth 100000
open Go.RowKit
open Go.Sort
open Kit
open Oct
open Tre (Lst inI lst_keep lst_take lst_at lst_new lst_none i64_wf cells_int IntsL int_cell encI encI_len encI_one OwI own_chg' info_i run_ld2 below_drewN')
open Led (Lg encG encG_len encG_one Legs leg_cells)
set_option linter.unusedVariables false
variable {w w' : World}

theorem info_tx : (Try.prog.info? 25).map (·.size) = some 7 := by kernel_rfl
def t0 : Tx := ⟨1, 2, 3, ⟨#[107]⟩, ⟨#[110]⟩, [4, -5], [⟨0, -7⟩, ⟨1, 7⟩]⟩
theorem t0_fits : Fits t0 := by unfold Fits t0; decide
theorem t0_ok : t0.ok := by
  unfold Tx.ok t0
  refine ⟨⟨by decide, by decide⟩, ⟨by decide, by decide⟩, ⟨by decide, by decide⟩, fun x hx => ?_, fun g hg => ?_⟩
  · simp at hx
    rcases hx with rfl | rfl
    · constructor <;> decide
    · constructor <;> decide
  · simp at hg
    rcases hg with rfl | rfl
    · exact ⟨by constructor <;> decide, by constructor <;> decide⟩
    · exact ⟨by constructor <;> decide, by constructor <;> decide⟩
theorem t0_small : t0.key.size ≤ maxLen ∧ t0.name.size ≤ maxLen := by unfold maxLen t0; decide
theorem t0_len : (encT t0).length = 94 := by
  unfold encT head5 head3
  simp only [List.length_append, int8_len, txt_len, ints_len, flatG_len]
  rfl
/-- A transaction in a block of its own. -/
theorem blk_box (w : World) (x : Tv) : Arr.Blk (w.alloc (.cells #[.int .i64 x.t.seq, .int .i64 x.t.time, .int .i64 x.t.kind, .string x.t.key, .string x.t.name, .slice x.a1 x.n1 x.c1, .slice x.a2 x.n2 x.c2] 25)) w.heap.size 25 (encV x) := Arr.blk_new w _ _ _ rfl
theorem run_less (a : Option Addr) (n c : Nat) (h : 1 ≤ n) (hc : n ≤ c) (w : World) : (Instr.sliceAt 26 (.slice a n c) none (some (.int .i64 ((n : Int) - 1))) none).run Try.prog w = .ok (.slice a (n - 1) c) w := by
  have e : ((n : Int) - 1) = ((n - 1 : Nat) : Int) := by omega
  rw [e]
  simp [go_sem]
  omega
theorem nb_take {B : Nat} {a : Option Addr} {n c : Nat} {L : List UInt8} (h : NB w B a n c L) (m : Nat) (hm : m ≤ n) : (L.take m).length = m ∧ m ≤ c ∧ (a = none → m = 0 ∧ c = 0) ∧ RowB w a (L.take m) :=
  ⟨by rw [List.length_take, h.1]; omega, by have := h.2.1; omega, fun e => ⟨by have := (h.2.2.2.1 e).1; omega, (h.2.2.2.1 e).2⟩, row_take h.2.2.2.2.1 m⟩

set_option maxHeartbeats 16000000 in
theorem awake_any (hP : Prog) (W : World) : Calls Try.prog 9 #[] W fun e W' => e = .returned (.bool true) ∧ Below W.heap.size W W' := by
  have HP := Lib.hid hP
  clear hP
  go_enter Try.func9, Try.ntmps9
  go_wp2_with fail
  obtain ⟨wa, hwa⟩ : ∃ x, x = W.alloc (.cells #[.int .i64 4, .int .i64 (-5)] 3) := ⟨_, rfl⟩
  obtain ⟨wb, hwb⟩ : ∃ x, x = wa.alloc (.cells #[.int .i64 0, .int .i64 (-7), .int .i64 1, .int .i64 7] 44) := ⟨_, rfl⟩
  have hza : wa.heap.size = W.heap.size + 1 := by rw [hwa]; simp
  have hzb : wb.heap.size = W.heap.size + 1 + 1 := by rw [hwb]; simp [hza]
  have hba : Below W.heap.size W wa := by rw [hwa]; exact below_alloc _ _
  have hbb : Below wa.heap.size wa wb := by rw [hwb]; exact below_alloc _ _
  have hia : IntsL wa (some ⟨W.heap.size, 0, none⟩) 2 2 [4, -5] := by rw [hwa]; exact lst_new encI_len W [4, -5] _ _ _ 2 rfl rfl rfl (by omega)
  have hib : Legs wb (some ⟨W.heap.size + 1, 0, none⟩) 2 2 [⟨0, -7⟩, ⟨1, 7⟩] := by rw [hwb, ← hza]; exact lst_new encG_len wa [⟨0, -7⟩, ⟨1, 7⟩] _ _ _ 2 rfl rfl rfl (by omega)
  have hin : (⟨t0, some ⟨W.heap.size, 0, none⟩, 2, 2, some ⟨W.heap.size + 1, 0, none⟩, 2, 2⟩ : Tv).In wb := ⟨lst_keep encI_len hia hbb, hib, t0_small.1, t0_small.2⟩
  have hbk := blk_box wb ⟨t0, some ⟨W.heap.size, 0, none⟩, 2, 2, some ⟨W.heap.size + 1, 0, none⟩, 2, 2⟩
  have hbc := below_alloc wb (.cells #[.int .i64 1, .int .i64 2, .int .i64 3, .string ⟨#[107]⟩, .string ⟨#[110]⟩, .slice (some ⟨W.heap.size, 0, none⟩) 2 2, .slice (some ⟨W.heap.size + 1, 0, none⟩) 2 2] 25)
  rw [← hwa, ← hwb]
  obtain ⟨w1, hw1⟩ : ∃ x, x = wb.alloc (.cells #[.int .i64 1, .int .i64 2, .int .i64 3, .string ⟨#[107]⟩, .string ⟨#[110]⟩, .slice (some ⟨W.heap.size, 0, none⟩) 2 2, .slice (some ⟨W.heap.size + 1, 0, none⟩) 2 2] 25) := ⟨_, rfl⟩
  rw [← hw1] at hbc ⊢
  have hbk1 : Arr.Blk w1 wb.heap.size 25 (encV ⟨t0, some ⟨W.heap.size, 0, none⟩, 2, 2, some ⟨W.heap.size + 1, 0, none⟩, 2, 2⟩) := by rw [hw1]; exact hbk
  rw [hzb] at hbk1
  have H1 := Lib.hid (And.intro (below_keep (below_keep hba hbb) hbc) (And.intro (in_keep hin hbc) hbk1))
  clear hwa hwb hza hzb hba hbb hia hib hin hbk hbc hw1 hbk1
  have HEn := Lib.hid (HP.out.encode w1 _ H1.out.2.1 t0_ok)
  refine HEn.out.mono ?_
  rintro e w2 ⟨a2, n2, c2, rfl, hl2, hb2⟩
  rw [show encE t0 = 0 from (enc_yes t0_fits).1]
  rw [show encL t0 = encT t0 from (enc_yes t0_fits).2] at hl2
  obtain rfl : n2 = 94 := by rw [← hl2.1]; exact t0_len
  have H2 := Lib.hid (And.intro hl2 (And.intro (below_keep H1.out.1 hb2) (And.intro (in_keep H1.out.2.1 hb2) (Arr.blk_below H1.out.2.2 hb2 (Arr.blk_lt H1.out.2.2)))))
  have HD2 := Lib.hid (HP.out.decode w2 a2 94 c2 (encT t0) t0_len hl2.2.1 hl2.2.2.1 hl2.2.2.2.1 hl2.2.2.2.2.1 (by omega))
  have HD3 := Lib.hid (fun w3 (hb : Below w2.heap.size w2 w3) => HP.out.decode w3 a2 93 c2 ((encT t0).take 93) (nb_take (nb_keep hl2 hb) 93 (by omega)).1 (nb_take (nb_keep hl2 hb) 93 (by omega)).2.1 hl2.2.2.1 (nb_take (nb_keep hl2 hb) 93 (by omega)).2.2.1 (nb_take (nb_keep hl2 hb) 93 (by omega)).2.2.2 (by omega))
  have hcc := hl2.2.1
  clear hl2 hb2 HEn
  go_wp2_with fail
  refine HD2.out.mono ?_
  rintro e w3 ⟨u, rfl, hu, hui, hb3⟩
  rw [(dec_ok (dec_enc t0_fits t0_ok)).2] at hu
  rw [(dec_ok (dec_enc t0_fits t0_ok)).1]
  obtain ⟨ut, ua, un, uc, ua2, un2, uc2⟩ := u
  simp only at hu
  subst hu
  have hbk3 := blk_box w3 ⟨t0, ua, un, uc, ua2, un2, uc2⟩
  have hb4 := below_alloc w3 (.cells #[.int .i64 t0.seq, .int .i64 t0.time, .int .i64 t0.kind, .string t0.key, .string t0.name, .slice ua un uc, .slice ua2 un2 uc2] 25)
  simp only at hbk3 hb4 ⊢
  have H3 := Lib.hid (And.intro (below_keep hb3 hb4) (And.intro (in_keep hui hb4) hbk3))
  have HD4 := Lib.hid (HD3.out _ (below_keep hb3 hb4))
  clear hui hb3 hbk3 hb4
  go_wp2_with fail
  refine HD4.out.mono ?_
  rintro e w5 ⟨v, rfl, hv, hvi, hb5⟩
  have hdl : decT ((encT t0).take 93) = none := by
    have h := dec_less t0_fits t0_ok
    rw [t0_len] at h
    exact h
  rw [(dec_no hdl).2] at hv
  rw [(dec_no hdl).1]
  obtain ⟨vt, va, vn, vc, va2, vn2, vc2⟩ := v
  simp only at hv
  subst hv
  have hb6 := below_alloc w5 (.cells #[.int .i64 zeroT.seq, .int .i64 zeroT.time, .int .i64 zeroT.kind, .string zeroT.key, .string zeroT.name, .slice va vn vc, .slice va2 vn2 vc2] 25)
  have hb56 := below_keep hb5 hb6
  have hbl := Arr.blk_below H3.out.2.2 hb56 (Arr.blk_lt H3.out.2.2)
  have hbm := Arr.blk_below H2.out.2.2.2 (below_keep H3.out.1 hb56) (Arr.blk_lt H2.out.2.2.2)
  have H5 := Lib.hid (And.intro (below_keep H2.out.2.1 (below_keep H3.out.1 hb56)) (And.intro (in_keep H3.out.2.1 hb56) (in_keep H2.out.2.2.1 (below_keep H3.out.1 hb56))))
  have p0 := Arr.blk_cell hbl 0
  have p1 := Arr.blk_cell hbl 1
  have p2 := Arr.blk_cell hbl 2
  have p3 := Arr.blk_cell hbl 3
  have p4 := Arr.blk_cell hbl 4
  have p5 := Arr.blk_cell hbl 5
  have p6 := Arr.blk_cell hbl 6
  have q0 := Arr.blk_cell hbm 0
  have q1 := Arr.blk_cell hbm 1
  have q2 := Arr.blk_cell hbm 2
  have q3 := Arr.blk_cell hbm 3
  have q4 := Arr.blk_cell hbm 4
  have q5 := Arr.blk_cell hbm 5
  have q6 := Arr.blk_cell hbm 6
  have HSa := Lib.hid (rsame_any _ _ _ H5.out.2.1 H5.out.2.2)
  unfold encV at p0 p1 p2 p3 p4 p5 p6 q0 q1 q2 q3 q4 q5 q6
  simp only [List.getElem?_cons_zero, List.getElem?_cons_succ] at p0 p1 p2 p3 p4 p5 p6 q0 q1 q2 q3 q4 q5 q6 ⊢
  clear hvi hb5 hb6 hb56 hbl hbm hdl
  go_wp2_with fail
  refine HSa.out.mono ?_
  rintro e w7 ⟨b, rfl, hbt, hb7⟩
  obtain rfl : b = true := hbt.2 (by first | trivial | rfl)
  have HB7 := Lib.hid (below_keep H5.out.1 hb7)
  clear hbt hb7
  go_wp2_with fail
  go_ret
  exact ⟨rfl, HB7.out⟩
end Go.Proofs.Ytcoiebeehgeggaa.Ent
