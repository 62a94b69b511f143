/- Order, the landed: Order. -/
import Derived.Test.YtkjkhfkaihncdaaOrdSrD
import Derived.Test.YtkjkhfkaihncdaaOrdMem
import Derived.Test.YtkjkhfkaihncdaaOrdIns
import Derived.Test.YtkjkhfkaihncdaaOneArm
import Derived.Test.YtkjkhfkaihncdaaPut
namespace Go.Proofs.Ytkjkhfkaihncdaa.Ord
set_option maxRecDepth 100000
open Go.RowKit
open Go.Sort
open Kit
open Foot
open Stb (ints ints_len)
open Tre (Lst inI lst_keep lst_take lst_at lst_new lst_none encI encI_len encI_one OwI own_chg' info_i NewI newI_own)
open Job (Jb Jv Jobs encJ encJ_len encJ_one job_cell)
set_option linter.unusedVariables false
variable {w w' : World}

theorem in_below {W wr : World} {v0 : Value} {T : TypeId} (h : Below (W.heap.size + 1) (W.alloc (.cells #[v0] T)) wr) : Below W.heap.size W wr ∧ wr.cell? ⟨W.heap.size, 0, none⟩ = some v0 := by
  refine ⟨(below_alloc W _).trans (h.mono (Nat.le_succ _)), ?_⟩
  rw [h.cell (p := ⟨W.heap.size, 0, none⟩) (Nat.lt_succ_self _), World.cell?_alloc_new]
  rfl
theorem ints_snoc (L : List Nat) (k : Nat) : ints (L ++ [k]) = ints L ++ [(k : Int)] := by
  unfold ints
  rw [List.map_append]; rfl
theorem one12M (x : Jv) : (encJ x).all (·.oneCell') = true := by
  rw [List.all_eq_true]
  exact encJ_one x

set_option maxHeartbeats 16000000 in
theorem order_any (W : World) (a : Option Addr) (n c : Nat) (l : List Jv) (hA : Jobs W a n c l) (hn : n ≤ 40) :
    Calls Try.prog 11 #[.slice a n c] W fun e w' => ∃ v, e = .returned v ∧ OwI w' W.heap.size v (places (ts l)) ∧ Below W.heap.size W w' := by
  have HL := Lib.hid (And.intro hA hA.len)
  clear hA
  go_enter Try.func11, Try.ntmps11
  go_wp2_with fail
  go_loopw [3, 8] (fun v i wr => ∃ k : Nat, k ≤ n ∧ i = .int .i64 (k : Nat) ∧ OwI wr (W.heap.size + 1) v (ints (qL (ts l) k)) ∧ Below (W.heap.size + 1) (W.alloc (.cells #[.slice a n c] 22)) wr) (fun _ i _ => n - (intOf i).toNat)
  case atStart => exact ⟨0, Nat.zero_le _, rfl, owns_nil _ _ _, Below.refl _ _⟩
  case round =>
    obtain ⟨k, hk, rfl, hown, hb⟩ := hrel
    have HO := Lib.hid (And.intro hown (And.intro hb (in_below hb)))
    clear hown hb
    by_cases hlt : k < n
    · have hkl : k < l.length := by rw [HL.out.2]; exact hlt
      obtain ⟨b, o, rfl⟩ := lst_at HL.out.1 (by omega)
      obtain ⟨x, hx⟩ : ∃ x, l[k]? = some x := ⟨_, List.getElem?_eq_getElem hkl⟩
      have HRx := Lib.hid (job_range (lst_keep encJ_len HL.out.1 HO.out.2.2.1) hx)
      have hq : isQ (ts l) k = (x.t.state == 1) := isQ_get (by unfold ts; rw [List.getElem?_map, hx]; rfl)
      obtain ⟨w1, rfl⟩ : ∃ z, z = wr := ⟨_, rfl⟩
      clear hx hkl
      go_upto_region 5 with (first | (refine wpList_load_mid rfl 32 (.tmp 11) rfl b (o + k * 12) rfl (encJ x) _ HRx.out Try.underlying32 rfl info_job12 ?_) | (refine Arr.wpList_store_blk rfl 32 (.tmp 5) (.tmp 12) rfl w1.heap.size (encJ x) rfl rfl zero12 32 (Arr.blk_new _ _ _ zero12 rfl) info_job12 rfl (one12M x) w1.heap.size (Nat.le_refl _) ?_; intro w2 hblk hbel; have HB1 := Lib.hid ((below_alloc w1 (.cells zero12.toArray 32)).trans hbel); have p7 := Arr.blk_cell hblk 7; clear hbel hblk) | fail)
      have q7 : w2.cell? ⟨w1.heap.size, 7, none⟩ = some (.int .i64 x.t.state) := p7
      obtain ⟨st, hst⟩ : ∃ st, st = x.t.state := ⟨_, rfl⟩
      rw [← hst] at q7 hq
      clear hst p7
      have HW1 := Lib.hid (And.intro (own_chg' HO.out.1 HB1.out) (HO.out.2.1.trans (HB1.out.mono (by have := HO.out.2.1.size; simpa using this))))
      by_cases hs1 : st = 1
      · subst hs1
        have HE := Lib.hid (show ints (qL (ts l) (k + 1)) = ints (qL (ts l) k) ++ [(k : Int)] by rw [qL_go hq, ints_snoc])
        have hlen := qL_len (ts l) k
        rw [← ints_len] at hlen
        obtain ⟨ly, hy⟩ : ∃ ly, ly = ints (qL (ts l) k) := ⟨_, rfl⟩
        rw [← hy] at HE HW1 hlen
        have HD := Lib.hid (show ly.length + 1 ≤ 100000 by omega)
        have HSz := Lib.hid (show W.heap.size + 1 ≤ w2.heap.size by have := HW1.out.2.size; simpa using this)
        clear hy hlen hq
        go_wp2_with (first | (at_builtin; refine Nest.one_arm tyI rfl (.tmp 16) (.tmp 18) rfl w2 _ rfl (k : Int) rfl (W.heap.size + 1) _ ly rfl HW1.out.1 rfl HD.out (by omega) HSz.out ?_; intro v9 w9 ho hbb; have H9 := Lib.hid (And.intro ho (HW1.out.2.trans hbb)); clear ho hbb) | fail)
        go_roundw
        case rel => exact ⟨k + 1, by omega, by go_num, by rw [HE.out]; exact H9.out.1, H9.out.2⟩
        case measure => simp [intOf]; omega
      · have HE := Lib.hid (show qL (ts l) (k + 1) = qL (ts l) k from qL_no (by rw [hq]; exact beq_false_of_ne hs1))
        clear hq
        go_wp2_with fail
        go_roundw
        case rel => exact ⟨k + 1, by omega, by go_num, by rw [HE.out]; exact HW1.out.1, HW1.out.2⟩
        case measure => simp [intOf]; omega
    · obtain rfl : k = n := by omega
      have HM40 := Lib.hid (show (qL (ts l) k).length ≤ 40 from Nat.le_trans (qL_len _ _) hn)
      obtain ⟨a10, c10, rfl, s1, s2, s3, s4⟩ := owns_row encI_len HO.out.1
      obtain ⟨m, hm⟩ : ∃ m, m = (ints (qL (ts l) k)).length := ⟨_, rfl⟩
      have hm40 : m ≤ 40 := by rw [hm, ints_len]; exact HM40.out
      rw [← hm] at HO ⊢
      have HM := Lib.hid (And.intro hm hm40)
      clear s1 s2 s3 s4 hm hm40
      by_cases hm0 : m = 0
      · subst hm0
        have HE := Lib.hid (show places (ts l) = ints (qL (ts l) k) by
          have e : qL (ts l) k = [] := by
            have := HM.out.1
            rw [ints_len] at this
            exact List.length_eq_zero_iff.1 this.symm
          have e2 : ord (ts l) = [] := by
            rw [List.eq_nil_iff_forall_not_mem]
            intro i hi
            have h1 := (ord_mem (ts l) (ts l).length i).1 hi
            have h2 : i ∈ qL (ts l) k := qL_mem.2 ⟨by have := h1.1; unfold ts at this; rw [List.length_map, HL.out.2] at this; exact this, h1.2⟩
            rw [e] at h2
            cases h2
          unfold places
          rw [e, e2]; rfl)
        have HS := Lib.hid (Stb.stable_none wr a10 c10 (.func (.func 14) #[] #[.pointer (some ⟨W.heap.size, 0, none⟩)]))
        go_wp2_with fail
        refine HS.out.mono ?_
        rintro e w2 ⟨rfl, rfl⟩
        go_wp2_with fail
        go_ret
        exact ⟨_, rfl, by rw [HE.out]; exact owns_le HO.out.1 (Nat.le_succ _), HO.out.2.2.1⟩
      · have hpos : 0 < (ints (qL (ts l) k)).length := by have := HM.out.1; omega
        obtain ⟨g, cap, hv, hg, -, -⟩ := Kit.owns_at encI_len HO.out.1 hpos
        rw [← HM.out.1] at hv
        simp only [Value.slice.injEq, true_and] at hv
        obtain ⟨rfl, rfl⟩ := hv
        have hkp : 0 < k := by
          have h1 := qL_len (ts l) k
          rw [ints_len] at hpos
          omega
        obtain ⟨b, o, rfl⟩ := lst_at HL.out.1 hkp
        have hbW : b < W.heap.size := row_lt encJ_len (by omega) HL.out.1.row (by rw [HL.out.2]; exact hkp)
        have hsr := sortq_any wr W.heap.size b o k c g c10 m (W.heap.size + 1) l hkp HO.out.1 (by rw [HM.out.1, ints_len]) HM.out.2 HO.out.2.2.2 (by omega) (lst_keep encJ_len HL.out.1 HO.out.2.2.1) (by omega)
        have HS := Lib.hid hsr
        have HG := Lib.hid (And.intro hg (And.intro HO.out.2.2.1 (show W.heap.size ≤ wr.heap.size from HO.out.2.2.1.size)))
        clear hsr hg hbW hpos hm0
        go_wp2_with fail
        refine HS.out.mono ?_
        rintro e w2 ⟨rfl, ho, hc⟩
        have HW2 := Lib.hid (And.intro (owns_le ho (Nat.le_succ _)) (HG.out.2.1.trans (chg_below hc (fun k hk => by injection hk with hk; have := HG.out.1; omega) HG.out.2.2)))
        clear ho hc
        go_wp2_with fail
        go_ret
        exact ⟨_, rfl, HW2.out.1, HW2.out.2⟩
end Go.Proofs.Ytkjkhfkaihncdaa.Ord
