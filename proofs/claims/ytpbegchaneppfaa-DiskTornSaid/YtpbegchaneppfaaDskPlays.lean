/- Disk: DiskPlays, over any disk that does as it should. -/
import Derived.Test.YtpbegchaneppfaaDskLaw
namespace Go.Proofs.Ytpbegchaneppfaa.Dsk
open Go.RowKit
open Go.Sort
open Kit
open Oct
open Foot
set_option linter.unusedVariables false
variable {D : World → (Nat → Prop) → Nat → DS → Prop}

theorem act_range {w : World} {b o k : Nat} {l : List Ac} (h : Kit.Row encAc 5 w (some ⟨b, o, none⟩) l) (hk : k < l.length) : w.rangeAt b (o + k * 5) (encAc l[k]) := fun j v hv => by
  have hj : j < 5 := by have := (List.getElem?_eq_some_iff.1 hv).1; rw [encAc_len] at this; exact this
  rw [row_cell h hk rfl hj]; exact hv
theorem act_cells {w : World} {b o k : Nat} {l : List Ac} (h : Kit.Row encAc 5 w (some ⟨b, o, none⟩) l) (hk : k < l.length) :
    w.cell? ⟨b, o + k * 5, none⟩ = some (.int .u8 (l[k].d.toNat : Int)) ∧ w.cell? ⟨b, o + k * 5 + 1, none⟩ = some (.int .i64 l[k].at') ∧ w.cell? ⟨b, o + k * 5 + 2, none⟩ = some (.int .u8 (l[k].c.toNat : Int)) ∧ w.cell? ⟨b, o + k * 5 + 3, none⟩ = some (.int .i64 l[k].keep) ∧ w.cell? ⟨b, o + k * 5 + 4, none⟩ = some (.int .i64 l[k].cut) :=
  ⟨row_cell h hk rfl (i := 0) (by omega), row_cell h hk rfl (i := 1) (by omega), row_cell h hk rfl (i := 2) (by omega), row_cell h hk rfl (i := 3) (by omega), row_cell h hk rfl (i := 4) (by omega)⟩
theorem row_some {w : World} {a : Option Addr} {k : Nat} {l : List Ac} (h : Kit.Row encAc 5 w a l) (hk : k < l.length) : ∃ b o, a = some ⟨b, o, none⟩ := by
  rcases h with h | ⟨b, o, h, _⟩
  · rw [h] at hk; simp at hk
  · exact ⟨b, o, h⟩
theorem both_keep (hD : Prog D) {B pd pr c : Nat} {w w' : World} {s : DS} (h : Both D B w pd pr s c) (hb : Below w.heap.size w w') : Both D B w' pd pr s c := by
  obtain ⟨FD, FR, hP⟩ := h
  exact ⟨FD, FR, pair_keep hD hP hb⟩

set_option maxRecDepth 100000 in
set_option maxHeartbeats 4000000 in
theorem plays_any (hD : Prog D) (a0 : Int) (h0 : -9223372036854775808 ≤ a0 ∧ a0 ≤ 9223372036854775807) (aa : Option Addr) (len cap : Nat) (l : List Ac) (hl : l.length = len) (hc : cap ≤ maxLen) (hlc : len ≤ cap) (hn : aa = none → len = 0 ∧ cap = 0) (W : World) (hE : Kit.Row encAc 5 W aa l) (hx : ∀ x ∈ l, x.wf) :
    Calls Try.prog 3 #[.int .i64 a0, .slice aa len cap] W fun e w' => e = .returned (.bool true) ∧ Below W.heap.size W w' := by
  subst hl
  have hmax : l.length ≤ 9223372036854775807 := by unfold maxLen at hc; omega
  have HE := Lib.hid hE
  have HX := Lib.hid hx
  have HN := Lib.hid hn
  clear hE hx hc hlc hn
  go_enter Try.func3, Try.ntmps3
  go_upto_region 2 with fail
  go_cut [15] (fun m wx => (∃ B, m = .bool B) ∧ wx = W)
  case first =>
    go_wp2_with fail
    all_goals go_meet
    all_goals
      case rel => exact ⟨⟨_, rfl⟩, rfl⟩
  case rest =>
  obtain ⟨⟨T, rfl⟩, rfl⟩ := hcut
  go_upto_if 15 with fail
  go_cut [5] (fun n wx => ∃ N : Int, n = .int .i64 N ∧ (-9223372036854775808 ≤ N ∧ N ≤ 9223372036854775807) ∧ wx = wc)
  case first =>
    cases T
    all_goals
      go_wp2_with fail
      go_meet
      case rel => exact ⟨_, rfl, by omega, rfl⟩
  case rest =>
    obtain ⟨N, rfl, hN, rfl⟩ := hcut
    go_wp2_with fail
    refine (hD.new N _ hN.1 hN.2).mono ?_
    rintro e w1 ⟨pd, rfl, hd, hb⟩
    have H1 := Lib.hid (And.intro hd hb)
    clear hd hb
    go_wp2_with fail
    refine (refs_new N w1 hN.1 hN.2).mono ?_
    rintro e w2 ⟨pr, rfl, hr, hb⟩
    have hB := H1.out.2.trans (hb.mono H1.out.2.size)
    have hboth : Both D wc.heap.size w2 pd pr (DS.new N) 0 := ⟨_, _, hD.chg H1.out.1 (new_chg hb (fun _ => False)) (fun _ _ => id), hr, fun k hk => hk.elim (fun h => h.elim) fun h => ⟨h.1, Nat.lt_of_lt_of_le h.2 hb.size⟩, fun k hk => hk.elim (fun h => h.elim) fun h => ⟨Nat.le_trans H1.out.2.size h.1, h.2⟩, fun k hk hr => hk.elim (fun h => h.elim) fun h => hr.elim (fun h => h.elim) fun h' => by omega⟩
    have H2 := Lib.hid (And.intro hboth hB)
    clear hboth hB hr hb H1
    go_wp2_with fail
    go_loopw [8] (fun i wx => ∃ (k : Nat) (s : DS), k ≤ l.length ∧ k ≤ 50 ∧ i = .int .i64 k ∧ Both D wc.heap.size wx pd pr s k ∧ Below wc.heap.size wc wx) (fun i _ => l.length - (intOf i).toNat)
    case atStart => exact ⟨0, _, Nat.zero_le _, by omega, rfl, H2.out.1, H2.out.2⟩
    case round =>
      obtain ⟨k, s, hk, hk50, rfl, hboth, hb⟩ := hrel
      have HR := Lib.hid (And.intro hboth hb)
      clear hboth hb
      by_cases hlt : k < l.length ∧ k < 50
      · obtain ⟨hkl, hk5⟩ := hlt
        have hE := row_keep encAc_len HE.out HR.out.2
        obtain ⟨ab, ao, rfl⟩ := row_some hE hkl
        obtain ⟨q0, q1, q2, q3, q4⟩ := act_cells hE hkl
        have hxk := HX.out l[k] (List.getElem_mem hkl)
        generalize l[k] = x at *
        have HXk := Lib.hid hxk
        have c50 : (k : Int) < 50 := by omega
        clear hE hxk
        go_wp2_with fail
        refine (does_any hD x HXk.out HR.out.1 HR.out.2.size (by omega)).mono ?_
        rintro e w3 ⟨rfl, hboth, hb⟩
        obtain ⟨ag, cg, hcell⟩ : ∃ ag cg, w3.cell? ⟨pr, 0, none⟩ = some (.slice ag (act s x).good.length cg) := by
          obtain ⟨FD, FR, hP⟩ := hboth
          exact refs_size hP.r
        generalize act s x = s' at *
        have HR3 := Lib.hid (And.intro hboth (HR.out.2.trans hb))
        clear hboth hb q0 q1 q2 q3 q4
        by_cases h50 : s'.good.length < 50
        · have g50 : (s'.good.length : Int) < 50 := by omega
          go_wp2_with fail
          refine (alike_any hD HR3.out.1 (by omega)).mono ?_
          rintro e w4 ⟨rfl, hb⟩
          have HR4 := Lib.hid (And.intro (both_keep hD HR3.out.1 hb) (below_keep HR3.out.2 hb))
          clear hb hcell
          go_wp2_with fail
          go_roundw
          case rel => exact ⟨k + 1, s', by omega, by omega, by go_num, HR4.out.1, HR4.out.2⟩
          case measure => simp [intOf]; omega
        · have g50 : ¬ (s'.good.length : Int) < 50 := by omega
          go_wp2_with fail
          go_roundw
          case rel => exact ⟨k + 1, s', by omega, by omega, by go_num, HR3.out.1, HR3.out.2⟩
          case measure => simp [intOf]; omega
      · have hor : ¬ (k : Int) < l.length ∨ ((k : Int) < l.length ∧ ¬ (k : Int) < 50) := by omega
        clear hlt
        rcases hor with ho | ⟨ho, ho2⟩
        all_goals
          go_wp2_with fail
          refine (awake_any hD wr).mono ?_
          rintro e w3 ⟨rfl, hb⟩
          have HR3 := Lib.hid (And.intro (both_keep hD HR.out.1 hb) (below_keep HR.out.2 hb))
          clear hb
          go_wp2_with fail
          refine (alike_any hD HR3.out.1 (by omega)).mono ?_
          rintro e w4 ⟨rfl, hb⟩
          have HB4 := Lib.hid (below_keep HR3.out.2 hb)
          clear hb
          go_wp2
          go_ret
          exact ⟨rfl, HB4.out⟩
end Go.Proofs.Ytpbegchaneppfaa.Dsk
