/- Profile: the document's ticks, as it runs. -/
import Derived.Test.YtagecoofaoaodaaPrfMem
import Derived.Test.YtagecoofaoaodaaPut
import Derived.Lib.QuietBelow
namespace Go.Proofs.Ytagecoofaoaodaa.Prf
set_option maxRecDepth 100000
open Go.RowKit
open Go.Sort
open Kit
open Tre (Lst inI lst_keep lst_take lst_at lst_new lst_none below_drewN' encI encI_len encI_one OwI IntsL int_cell own_chg' owns_lit lit_row info_i)
set_option linter.unusedVariables false
variable {w w' : World}

/-- The least of a list that is above z. -/
def loS (z : Int) (b : Option Int) (x : Int) : Option Int := if z < x ∧ (∀ y, b = some y → x < y) then some x else b
def lo (z : Int) (l : List Int) : Option Int := l.foldl (loS z) none
def nx (b : Option Int) : Int := match b with | none => -1 | some x => x
theorem lo_snoc (z x : Int) (l : List Int) : lo z (l ++ [x]) = loS z (lo z l) x := by
  unfold lo
  rw [List.foldl_append]; rfl
theorem lo_spec (z : Int) (l : List Int) : (lo z l = none → ∀ x ∈ l, x ≤ z) ∧ ∀ y, lo z l = some y → y ∈ l ∧ z < y ∧ ∀ x ∈ l, z < x → y ≤ x := by
  induction h : l.reverse generalizing l with
  | nil =>
    obtain rfl : l = [] := by simpa using h
    exact ⟨(fun _ x hx => by cases hx), fun y hy => by cases hy⟩
  | cons a r ih =>
    obtain rfl : l = r.reverse ++ [a] := by
      have := congrArg List.reverse h
      simpa using this
    obtain ⟨h1, h2⟩ := ih r.reverse (by simp)
    rw [lo_snoc]
    unfold loS
    by_cases hc : z < a ∧ ∀ y, lo z r.reverse = some y → a < y
    · rw [if_pos hc]
      refine ⟨(fun e => by cases e), fun y hy => ?_⟩
      injection hy with hy
      subst hy
      refine ⟨List.mem_append_right _ (List.mem_singleton.2 rfl), hc.1, fun x hx hz => ?_⟩
      rcases List.mem_append.1 hx with hx | hx
      · cases hlo : lo z r.reverse with
        | none => have := h1 hlo x hx; omega
        | some y => have h3 := hc.2 y hlo; have h4 := (h2 y hlo).2.2 x hx hz; omega
      · rw [List.mem_singleton.1 hx]; exact Int.le_refl _
    · rw [if_neg hc]
      refine ⟨fun e x hx => ?_, fun y hy => ?_⟩
      · rcases List.mem_append.1 hx with hx | hx
        · exact h1 e x hx
        · rw [List.mem_singleton.1 hx]
          by_cases hza : z < a
          · exact absurd ⟨hza, fun y hy => by rw [e] at hy; cases hy⟩ hc
          · omega
      · obtain ⟨k1, k2, k3⟩ := h2 y hy
        refine ⟨List.mem_append_left _ k1, k2, fun x hx hz => ?_⟩
        rcases List.mem_append.1 hx with hx | hx
        · exact k3 x hx hz
        · rw [List.mem_singleton.1 hx] at hz ⊢
          by_cases hay : a < y
          · exact absurd ⟨hz, fun y' hy' => by rw [hy] at hy'; injection hy' with hy'; omega⟩ hc
          · omega
theorem lo_take {z : Int} {l : List Int} {k : Nat} (h : k < l.length) : lo z (l.take (k + 1)) = loS z (lo z (l.take k)) l[k] := by
  rw [List.take_succ_eq_append_getElem h, lo_snoc]
theorem loS_no {z x : Int} {b : Option Int} (h : ¬ z < x) : loS z b x = b := by unfold loS; rw [if_neg fun k => h k.1]
theorem loS_first {z x : Int} (h : z < x) : loS z none x = some x := by unfold loS; rw [if_pos ⟨h, fun y hy => by cases hy⟩]
theorem loS_less {z x y : Int} (h : z < x) (hy : x < y) : loS z (some y) x = some x := by unfold loS; rw [if_pos ⟨h, fun y' h' => by injection h' with h'; omega⟩]
theorem loS_not {z x y : Int} (hy : ¬ x < y) : loS z (some y) x = some y := by unfold loS; rw [if_neg fun k => hy (k.2 y rfl)]
/-- The ticks so far. -/
structure Tks (u : Int) (more D : List Int) (z : Int) : Prop where
  up : (D ++ [z]).Pairwise (· < ·)
  head : (D ++ [z]).head? = some u
  mem : ∀ x, x ∈ D ++ [z] ↔ x = u ∨ (x ∈ more ∧ u < x ∧ x ≤ z)
  low : u ≤ z
theorem tks_start (u : Int) (more : List Int) : Tks u more [] u := ⟨List.pairwise_singleton _ _, rfl, fun x => by simp; omega, Int.le_refl _⟩
theorem tks_next {u z y : Int} {more D : List Int} (h : Tks u more D z) (hy : lo z more = some y) : Tks u more (D ++ [z]) y := by
  obtain ⟨h1, h2, h3⟩ := (lo_spec z more).2 y hy
  have hlow := h.low
  refine ⟨?_, ?_, fun x => ?_, by omega⟩
  · rw [List.pairwise_append]
    refine ⟨h.up, List.pairwise_singleton _ _, fun x hx y' hy' => ?_⟩
    rw [List.mem_singleton.1 hy']
    rcases (h.mem x).1 hx with e | ⟨_, _, e⟩ <;> omega
  · rw [List.head?_append, h.head]; rfl
  · rw [List.mem_append, h.mem, List.mem_singleton]
    constructor
    · rintro ((rfl | ⟨k1, k2, k3⟩) | rfl)
      · exact .inl rfl
      · exact .inr ⟨k1, k2, by omega⟩
      · exact .inr ⟨h1, by omega, Int.le_refl _⟩
    · rintro (rfl | ⟨k1, k2, k3⟩)
      · exact .inl (.inl rfl)
      · by_cases hxz : x ≤ z
        · exact .inl (.inr ⟨k1, k2, hxz⟩)
        · right
          have := h3 x k1 (by omega)
          omega
theorem tks_end {u z : Int} {more D : List Int} (h : Tks u more D z) (hn : lo z more = none) : IsT u more (D ++ [z]) := by
  have hl := (lo_spec z more).1 hn
  refine ⟨h.up, h.head, fun x => ?_⟩
  rw [h.mem]
  constructor
  · rintro (k | ⟨k1, k2, _⟩)
    · exact .inl k
    · exact .inr ⟨k1, k2⟩
  · rintro (k | ⟨k1, k2⟩)
    · exact .inl k
    · exact .inr ⟨k1, k2, hl x k1⟩
theorem tks_len {u z : Int} {more D : List Int} (h : Tks u more D z) : D.length ≤ more.length := by
  have h2 : IsT u (more.filter fun x => decide (x ≤ z)) (D ++ [z]) := ⟨h.up, h.head, fun x => by
    rw [h.mem, List.mem_filter]
    simp only [decide_eq_true_eq]
    constructor
    · rintro (k | ⟨k1, k2, k3⟩)
      · exact .inl k
      · exact .inr ⟨⟨k1, k3⟩, k2⟩
    · rintro (k | ⟨⟨k1, k3⟩, k2⟩)
      · exact .inl k
      · exact .inr ⟨k1, k2, k3⟩⟩
  have h3 := isT_len h2
  rw [List.length_append, List.length_singleton] at h3
  have h4 := List.length_filter_le (fun x => decide (x ≤ z)) more
  omega
set_option maxHeartbeats 16000000 in
theorem rticks_any (W : World) (u : Int) (a : Option Addr) (n c : Nat) (more : List Int) (h : IntsL W a n c more) (hn : n ≤ 1500) (hu : 0 ≤ u) :
    Calls Try.prog 20 #[.int .i64 u, .slice a n c] W fun e W' => ∃ v ts, e = .returned v ∧ OwI W' W.heap.size v ts ∧ IsT u more ts ∧ Below W.heap.size W W' := by
  have HL := Lib.hid (And.intro h h.len)
  have HU := Lib.hid hu
  clear h hu
  have HS := Lib.hid (And.intro (owns_lit W u W.heap.size (Nat.le_refl _)) (below_alloc W (.cells #[.int .i64 u] 3)))
  go_enter Try.func20, Try.ntmps20
  go_wp2_with fail
  go_loopw [5, 6, 7] (fun v _ _ wr => ∃ (D : List Int) (z : Int), Tks u more D z ∧ OwI wr W.heap.size v (D ++ [z]) ∧ Below W.heap.size W wr ∧ ∃ a c, v = .slice a (D.length + 1) c) (fun v _ _ _ => n + 2 - (match v with | .slice _ m _ => m | _ => 0))
  case atStart => exact ⟨[], u, tks_start u more, HS.out.1, HS.out.2, _, _, rfl⟩
  case round =>
    obtain ⟨D, z, htk, hown, hb, ao, co, rfl⟩ := hrel
    have HO := Lib.hid (And.intro htk (And.intro hown hb))
    have HDl := Lib.hid (show D.length ≤ n by have := tks_len htk; rw [HL.out.2] at this; exact this)
    clear htk hown hb
    obtain ⟨wo, rfl⟩ : ∃ z, z = wr := ⟨_, rfl⟩
    obtain ⟨g, cap, hv, -, -, -⟩ := owns_at encI_len HO.out.2.1 (by simp)
    have hdl : (D ++ [z]).length = D.length + 1 := by simp
    rw [hdl] at hv
    simp only [Value.slice.injEq, true_and] at hv
    obtain ⟨rfl, rfl⟩ := hv
    obtain ⟨ao', co', hv2, hc2, hm2, hn2, hr2⟩ := owns_row encI_len HO.out.2.1
    rw [hdl] at hv2 hc2
    simp only [Value.slice.injEq, true_and] at hv2
    obtain ⟨rfl, rfl⟩ := hv2
    have HOl := Lib.hid (show IntsL wo (some ⟨g, 0, none⟩) (D.length + 1) co (D ++ [z]) from ⟨hdl, hc2, hm2, (fun h => by cases h), hr2⟩)
    have HLast := Lib.hid (show ∀ h : D.length < (D ++ [z]).length, (D ++ [z])[D.length] = z by intro h; simp)
    have hz0 : 0 ≤ z := by have := HU.out; have := HO.out.1.low; omega
    have HZ := Lib.hid hz0
    obtain ⟨d, hd⟩ : ∃ d, d = D.length := ⟨_, rfl⟩
    rw [← hd] at HOl HDl ⊢
    have HDd := Lib.hid hd
    have hd1 : d ≤ 1500 := by have := HDl.out; omega
    clear hd hc2 hm2 hn2 hr2 hdl hz0
    go_wp2_with fail
    go_loopw [6, 7] (fun bv i wr => ∃ k : Nat, k ≤ n ∧ i = .int .i64 (k : Nat) ∧ bv = .int .i64 (nx (lo z (more.take k))) ∧ Below wo.heap.size wo wr) (fun _ i _ => n - (intOf i).toNat)
    case atStart => exact ⟨0, Nat.zero_le _, rfl, rfl, Below.refl _ _⟩
    case round =>
      obtain ⟨k, hk, rfl, rfl, hb⟩ := hrel
      have HB := Lib.hid hb
      clear hb
      by_cases hlt : k < n
      · have hkl : k < more.length := by rw [HL.out.2]; exact hlt
        obtain ⟨b, o, rfl⟩ := lst_at HL.out.1 (by omega)
        have q := int_cell (lst_keep encI_len HL.out.1 (below_keep HO.out.2.2 HB.out)) hkl
        have hdk : D.length < (D ++ [z]).length := by simp
        have r := int_cell (lst_keep encI_len HOl.out HB.out) hdk
        rw [HLast.out hdk, ← HDd.out, Nat.zero_add] at r
        have hnx := lo_take (z := z) hkl
        have hsp := (lo_spec z (more.take k)).2
        generalize more[k] = x at *
        generalize lo z (more.take k) = bo at *
        have HNx := Lib.hid hnx
        clear hnx hdk
        by_cases hzx : z < x
        · have hzx2 : decide (z < x) = true := decide_eq_true hzx
          cases bo with
          | none =>
            have HE := Lib.hid (show nx (lo z (more.take (k + 1))) = x by rw [HNx.out, loS_first hzx]; rfl)
            clear hsp
            simp only [nx]
            go_wp2_with fail
            go_quiet (fail)
            go_wp2_with fail
            go_roundw
            case rel => exact ⟨k + 1, by omega, by go_num, congrArg (Value.int .i64) HE.out.symm, below_keep HB.out (below_drewN' _ _)⟩
            case measure => simp [intOf]; omega
          | some y =>
            have hy0 : decide (y < 0) = false := decide_eq_false (by have h1 := (hsp y rfl).2.1; have h2 := HZ.out; omega)
            clear hsp
            simp only [nx]
            by_cases hxy : x < y
            · have hxy2 : decide (x < y) = true := decide_eq_true hxy
              have HE := Lib.hid (show nx (lo z (more.take (k + 1))) = x by rw [HNx.out, loS_less hzx hxy]; rfl)
              go_wp2_with fail
              go_quiet (fail)
              go_wp2_with fail
              go_roundw
              case rel => exact ⟨k + 1, by omega, by go_num, congrArg (Value.int .i64) HE.out.symm, below_keep HB.out (below_drewN' _ _)⟩
              case measure => simp [intOf]; omega
            · have hxy2 : decide (x < y) = false := decide_eq_false hxy
              have HE := Lib.hid (show nx (lo z (more.take (k + 1))) = y by rw [HNx.out, loS_not hxy]; rfl)
              go_wp2_with fail
              go_quiet (fail)
              go_wp2_with fail
              go_roundw
              case rel => exact ⟨k + 1, by omega, by go_num, congrArg (Value.int .i64) HE.out.symm, below_keep HB.out (below_drewN' _ _)⟩
              case measure => simp [intOf]; omega
        · have hzx2 : decide (z < x) = false := decide_eq_false hzx
          have HE := Lib.hid (show nx (lo z (more.take (k + 1))) = nx bo by rw [HNx.out, loS_no hzx])
          clear hsp
          generalize nx bo = yb at *
          go_wp2_with fail
          go_quiet (fail)
          go_wp2_with fail
          go_roundw
          case rel => exact ⟨k + 1, by omega, by go_num, congrArg (Value.int .i64) HE.out.symm, below_keep HB.out (below_drewN' _ _)⟩
          case measure => simp [intOf]; omega
      · obtain rfl : n = k := by omega
        have htk : more.take n = more := List.take_of_length_le (by rw [HL.out.2]; exact Nat.le_refl _)
        rw [htk]
        have HO2 := Lib.hid (show OwI wr W.heap.size (.slice (some ⟨g, 0, none⟩) (d + 1) co) (D ++ [z]) ∧ Below W.heap.size W wr from ⟨by rw [HDd.out]; exact own_chg' HO.out.2.1 HB.out, below_keep HO.out.2.2 HB.out⟩)
        cases hlo : lo z more with
        | none =>
          have HT := Lib.hid (tks_end HO.out.1 hlo)
          clear hlo htk
          simp only [nx]
          go_wp2_with fail
          go_ret
          exact ⟨_, _, rfl, HO2.out.1, HT.out, HO2.out.2⟩
        | some y =>
          have HT := Lib.hid (tks_next HO.out.1 hlo)
          have hy0 : ¬ y < 0 := by have h1 := ((lo_spec z more).2 y hlo).2.1; have h2 := HZ.out; omega
          have hdl : (D ++ [z]).length = d + 1 := by rw [HDd.out]; simp
          obtain ⟨lx, hx⟩ : ∃ lx, lx = D ++ [z] := ⟨_, rfl⟩
          rw [← hx] at HO2 hdl
          have HX := Lib.hid (And.intro hx hdl)
          have HA1 := Lib.hid (And.intro (own_chg' HO2.out.1 (below_alloc wr (.cells #[.int .i64 y] 3))) (And.intro (lit_row wr y) (below_keep HO2.out.2 (below_alloc wr (.cells #[.int .i64 y] 3)))))
          have HD := Lib.hid (show lx.length + 1 ≤ maxLen ∧ (lx.length + 1) * 8 ≤ 140737488355328 by unfold maxLen; omega)
          clear hlo htk hx hdl
          simp only [nx]
          go_wp2_with (first | (at_builtin; refine Two.append_apart encI_len Nat.zero_lt_one encI_one rfl (.tmp 46) (.tmp 48) 48 3 rfl Try.underlying48 (.int .i64 0) 8 info_i rfl W.heap.size _ lx rfl HA1.out.1 (some ⟨wr.heap.size, 0, none⟩) 1 1 [y] rfl rfl HA1.out.2.1 (fun h => by cases h) HD.out.1 HD.out.2 HA1.out.2.2.size ?_; intro v9 w9 ho9 hg9 hx9; obtain ⟨ax, cx, e9, -, -, -, -⟩ := owns_row encI_len ho9; have hl9 : (lx ++ [y]).length = d + 2 := (by have h8 := HX.out.2; simp only [List.length_append, List.length_singleton]; omega); rw [hl9] at e9; subst e9; have HB9 := Lib.hid (HA1.out.2.2.trans (Two.below_grown HA1.out.1 hg9 HA1.out.2.2.size)); have HO9 := Lib.hid ho9; clear ho9 hg9 hx9 hl9) | fail)
          go_roundw
          case rel => exact ⟨D ++ [z], y, HT.out, by rw [← HX.out.1]; exact HO9.out, HB9.out, ax, cx, by congr 1; rw [← HX.out.1, HX.out.2]⟩
          case measure => simp; have := HDl.out; omega
end Go.Proofs.Ytagecoofaoaodaa.Prf
