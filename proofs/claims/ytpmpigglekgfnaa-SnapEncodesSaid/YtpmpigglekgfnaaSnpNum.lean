/- Snap: the document's nums. -/
import Derived.Test.YtpmpigglekgfnaaSnpMem
import Derived.Test.YtpmpigglekgfnaaFoot
namespace Go.Proofs.Ytpmpigglekgfnaa.Snp
set_option maxRecDepth 100000
open Go.RowKit
open Go.Sort
open Kit
open Oct
open Foot
open Tre (Lst inI lst_keep lst_at IntsL int_cell encI encI_len below_drewN')
open Ent (int8 ints ints_len int8_len)
set_option linter.unusedVariables false
variable {w w' : World}

theorem lst_chg {α : Type} {enc : α → List Value} {size : Nat} (hs : ∀ x, (enc x).length = size) {F : Nat → Prop} {a : Option Addr} {n c : Nat} {l : List α} (h : Lst enc size w a n c l) (hC : Chg F w w') (hf : ∀ p, a = some p → ¬ F p.block) : Lst enc size w' a n c l := by
  refine ⟨h.len, h.cap, h.max, h.nil, ?_⟩
  rcases h.row with e | ⟨b, o, e, hc⟩
  · exact .inl e
  · subst e
    exact row_chg hs hC h.row (hf _ rfl)
theorem ints_next {l : List Int} {k : Nat} {x : Int} (h : l[k]? = some x) : ints (l.take (k + 1)) = ints (l.take k) ++ int8 x := by
  obtain ⟨hk, e⟩ := List.getElem?_eq_some_iff.1 h
  rw [List.take_succ_eq_append_getElem hk, e]
  unfold ints
  rw [List.flatMap_append, List.flatMap_cons, List.flatMap_nil, List.append_nil]
/-- An append to the call's own bytes, as the blocks see it. -/
theorem chg_app {v u u' : Value} {w1 w2 : World} (h : Chg (fun k => some k = v.ownBlock) w w1) (hu : ∀ g, u.ownBlock = some g → some g = v.ownBlock ∨ w.heap.size ≤ g) (hg : w1.grownBy w2 u.ownBlock) (hx : u'.ownBlock = u.ownBlock ∨ u'.ownBlock = some w1.heap.size) :
    Chg (fun k => some k = v.ownBlock) w w2 ∧ ∀ g, u'.ownBlock = some g → some g = v.ownBlock ∨ w.heap.size ≤ g := by
  refine ⟨chg_grown h hg fun k hk => hu k hk, fun g hg' => ?_⟩
  rcases hx with e | e
  · exact hu g (e ▸ hg')
  · rw [e] at hg'
    injection hg' with hg'
    exact .inr (by have := h.size; omega)
set_option maxHeartbeats 8000000 in
theorem rnums_any (base : Nat) (v : Value) (l : List UInt8) (a : Option Addr) (n c : Nat) (xs : List Int) (W : World) (hO : OwnB W base v l) (hI : IntsL W a n c xs) (hap : ∀ q, a = some q → v.ownBlock ≠ some q.block) (hb : base ≤ W.heap.size) (hn : n ≤ 20) (hl : l.length ≤ 100000) :
    Calls Try.prog 17 #[v, .slice a n c] W fun e W' => ∃ v', e = .returned v' ∧ OwnB W' base v' (l ++ ints xs) ∧ Chg (fun k => some k = v.ownBlock) W W' ∧ ∀ g, v'.ownBlock = some g → some g = v.ownBlock ∨ W.heap.size ≤ g := by
  have HI := Lib.hid (And.intro hI hap)
  have HO := Lib.hid hO
  have HB := Lib.hid hb
  have HL := Lib.hid hI.len
  clear hI hap hO hb
  go_enter Try.func17, Try.ntmps17
  go_wp2_with fail
  go_loopw [0, 5] (fun u i wr => ∃ k : Nat, k ≤ n ∧ i = .int .i64 (k : Nat) ∧ OwnB wr base u (l ++ ints (xs.take k)) ∧ Chg (fun k => some k = v.ownBlock) W wr ∧ ∀ g, u.ownBlock = some g → some g = v.ownBlock ∨ W.heap.size ≤ g) (fun _ i _ => n - (intOf i).toNat)
  case atStart => exact ⟨0, Nat.zero_le _, rfl, by rw [List.take_zero]; show OwnB W base v (l ++ []); rw [List.append_nil]; exact HO.out, chg_refl _ _, fun g hg => .inl hg.symm⟩
  case round =>
    obtain ⟨k, hk, rfl, hown, hC, hu⟩ := hrel
    by_cases hlt : k < n
    · have hkx : k < xs.length := by rw [HL.out]; exact hlt
      obtain ⟨x, hx⟩ : ∃ x, xs[k]? = some x := ⟨_, List.getElem?_eq_getElem hkx⟩
      have HN := Lib.hid (ints_next hx)
      obtain ⟨L0, hL0⟩ : ∃ L0, L0 = l ++ ints (xs.take k) := ⟨_, rfl⟩
      have hlen : L0.length ≤ 100000 + 8 * 20 := by rw [hL0, List.length_append, ints_len, List.length_take]; omega
      rw [← hL0] at hown
      have HL0 := Lib.hid hL0
      have HO1 := Lib.hid (And.intro hown (And.intro hC hu))
      have hcell : ∀ wx, Chg (fun k => some k = v.ownBlock) W wx → ∀ b o, a = some ⟨b, o, none⟩ → wx.cell? ⟨b, o + k, none⟩ = some (.int .i64 x) := by
        intro wx hC b o e
        have h := lst_chg encI_len HI.out.1 hC (fun p hp e => HI.out.2 p hp e.symm)
        subst e
        have := int_cell h hkx
        rw [List.getElem?_eq_getElem hkx] at hx
        injection hx with hx
        rw [this, hx]
      have HCe := Lib.hid hcell
      obtain ⟨b, o, rfl⟩ := lst_at HI.out.1 (by omega)
      have hlt64 := toU64_lt x
      clear hown hC hu hcell hL0 hx hkx
      go_wp2_with fail
      go_loopw [0, 6] (fun u i wi => ∃ (j : Nat) (L : List UInt8), j ≤ 8 ∧ L ++ beB j (toU64 x) = L0 ++ beB 8 (toU64 x) ∧ i = .int .i64 ((j : Int) - 1) ∧ OwnB wi base u L ∧ Chg (fun k => some k = v.ownBlock) W wi ∧ ∀ g, u.ownBlock = some g → some g = v.ownBlock ∨ W.heap.size ≤ g) (fun _ i _ => (intOf i + 1).toNat)
      case atStart => exact ⟨8, L0, Nat.le_refl _, rfl, rfl, HO1.out.1, HO1.out.2.1, HO1.out.2.2⟩
      case round =>
        obtain ⟨j, L, hj, hL, rfl, hown, hC, hu⟩ := hrel
        have hLl : L.length + j = L0.length + 8 := by have := congrArg List.length hL; simpa [beB_length] using this
        cases j with
        | zero =>
          have HLe := Lib.hid (show L = l ++ ints (xs.take (k + 1)) by rw [HN.out, ← List.append_assoc, ← HL0.out]; simpa [beB, int8] using hL)
          have HR := Lib.hid (And.intro hown (And.intro hC hu))
          clear hL hown hC hu
          go_wp2_with fail
          go_roundw
          case rel => exact ⟨k + 1, by omega, by go_num, by rw [← HLe.out]; exact HR.out.1, HR.out.2.1, HR.out.2.2⟩
          case measure => simp [intOf]; omega
        | succ j =>
          have HR := Lib.hid (And.intro hown (And.intro hC hu))
          have q1 := HCe.out _ hC b o rfl
          clear hown hC hu
          go_wp2_with (first | (at_builtin; refine append_b2 rfl _ _ rfl base _ L rfl (owns_alloc HR.out.1 _) (some ⟨wr.heap.size, 0, none⟩) 1 1 [UInt8.ofNat (toU64 x / 2 ^ (8 * j))] rfl rfl (row_one wr (byte_w x j)) (fun h => by cases h) (by omega) (Nat.le_trans HB.out (Nat.le_trans HR.out.2.1.size (below_alloc wr _).size)) ?_; intro v9 w9 ho9 hg9 hx9; have H9 := Lib.hid (And.intro ho9 (chg_app (chg_alloc HR.out.2.1 _) HR.out.2.2 hg9 hx9)); clear ho9 hg9 hx9) | fail)
          have HL9 := Lib.hid (show (L ++ [UInt8.ofNat (toU64 x / 2 ^ (8 * j))]) ++ beB j (toU64 x) = L0 ++ beB 8 (toU64 x) by rw [← hL, be_shift]; simp)
          clear hL
          go_roundw
          case rel => exact ⟨j, L ++ [UInt8.ofNat (toU64 x / 2 ^ (8 * j))], by omega, HL9.out, by go_num, H9.out.1, H9.out.2.1, H9.out.2.2⟩
          case measure => simp [intOf]
    · obtain rfl : k = n := by omega
      have HE := Lib.hid (show xs.take k = xs from List.take_of_length_le (by rw [HL.out]; exact Nat.le_refl _))
      have HR := Lib.hid (And.intro hown (And.intro hC hu))
      clear hown hC hu
      go_wp2_with fail
      go_ret
      exact ⟨_, rfl, by have h := HR.out.1; rwa [HE.out] at h, HR.out.2⟩
end Go.Proofs.Ytpmpigglekgfnaa.Snp
