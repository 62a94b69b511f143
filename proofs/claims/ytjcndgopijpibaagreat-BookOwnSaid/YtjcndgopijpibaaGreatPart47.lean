/- Common to the claims of this seat, part 47: texts that were written one by one, laid behind one another. -/
import Derived.Test.YtjcndgopijpibaaGreatPart35
import Derived.Test.YtjcndgopijpibaaGreatPart36
import Derived.Test.YtjcndgopijpibaaGreatPart37
import Derived.Test.YtjcndgopijpibaaGreatPart39
import Derived.Test.YtjcndgopijpibaaGreatPart40
import Derived.Test.YtjcndgopijpibaaGreatPart46
/- Book, the landed: what a kind does: of jobs. -/
namespace Go.Proofs.YtjcndgopijpibaaGreat.Bok
set_option maxRecDepth 100000
open Go.RowKit
open Go.Sort
open Kit
open Foot
open Tre (Lst inI lst_keep lst_at lst_new lst_none encF encF_len encL_len IntsL goodB)
open Led (Lg encG encG_len)
open Job (Jb Jv Jobs encJ encJ_len encJ_one findI)
open Drw (Dw Draws encD encD_len encD_one)
open Go.Proofs.YtjcndgopijpibaaGreat.Ord (ts)
open Snp (Sn Sv encK encK_len encK_one)
set_option linter.unusedVariables false
variable {w w' W0 W : World} {B : Nat}
set_option maxHeartbeats 4000000 in
theorem do7_any (y : Sv) (hc : Cal W0 W B y) (hf : Fit y) (sq tm : Int) (ky nm : ByteArray) (hnm : nm.size ≤ maxLen) (aa ga : Option Addr) (cp gn gc : Nat) (p0 p1 p2 p3 p4 p5 : Int) (legs : List Lg) (hp : ∀ x ∈ ([p0, p1, p2, p3, p4, p5] : List Int), inI x) (hA : IntsL W aa 6 cp [p0, p1, p2, p3, p4, p5]) :
    Calls Tryz.prog 35 #[.pointer (some ⟨B, 0, none⟩), .agg #[.int .i64 sq, .int .i64 tm, .int .i64 7, .string ky, .string nm, .slice aa 6 cp, .slice ga gn gc]] W (LegP W0 B (kindE y.t ⟨sq, tm, 7, ky, nm, [p0, p1, p2, p3, p4, p5], legs⟩) (kindS y.t ⟨sq, tm, 7, ky, nm, [p0, p1, p2, p3, p4, p5], legs⟩) (kindL y.t ⟨sq, tm, 7, ky, nm, [p0, p1, p2, p3, p4, p5], legs⟩)) := by
  have hE : kindE y.t ⟨sq, tm, 7, ky, nm, [p0, p1, p2, p3, p4, p5], legs⟩ = submitE y.t [p0, p1, p2, p3, p4, p5] ∧ kindS y.t ⟨sq, tm, 7, ky, nm, [p0, p1, p2, p3, p4, p5], legs⟩ = submitS y.t [p0, p1, p2, p3, p4, p5] ∧ kindL y.t ⟨sq, tm, 7, ky, nm, [p0, p1, p2, p3, p4, p5], legs⟩ = ([] : List Lg) := ⟨rfl, rfl, rfl⟩
  rw [hE.1, hE.2.1, hE.2.2]
  clear hE
  have hba := below_alloc W (.cells #[.int .i64 sq, .int .i64 tm, .int .i64 7, .string ky, .string nm, .slice aa 6 cp, .slice ga gn gc] 34)
  have htb := tx_box W sq tm 7 ky nm aa ga 6 cp gn gc
  obtain ⟨wa, hwa⟩ : ∃ z, z = W.alloc (.cells #[.int .i64 sq, .int .i64 tm, .int .i64 7, .string ky, .string nm, .slice aa 6 cp, .slice ga gn gc] 34) := ⟨_, rfl⟩
  rw [← hwa] at htb hba
  have HWa := Lib.hid hwa
  have hA2 := lst_keep Tre.encI_len hA hba
  have hca := hc.keep hba
  have HTb := Lib.hid htb
  have k2 : wa.cell? ⟨W.heap.size, 2, none⟩ = some (.int .i64 7) := Arr.blk_cell htb 2
  have HCall := Lib.hid (submit_any y hca hf.nj hf.nx sq tm 7 ky nm aa ga cp gn gc p0 p1 p2 p3 p4 p5 hA2)
  clear hA hA2 hca htb hba hwa hc hf hp
  go_enter Tryz.func35, Tryz.ntmps35
  go_upto_region 1 with fail
  rw [← HWa.out]
  go_wp2_with (first | (refine Arr.wpList_load_blk rfl 34 (.tmp 3) rfl W.heap.size rfl [.int .i64 sq, .int .i64 tm, .int .i64 7, .string ky, .string nm, .slice aa 6 cp, .slice ga gn gc] 34 HTb.out _ Tryz.underlying34 rfl info_tx ?_) | fail)
  refine HCall.out.mono ?_
  rintro e w2 ⟨y', rfl, h1, h2⟩
  have H2 := Lib.hid (And.intro h1 h2)
  clear h1 h2 HCall
  go_wp2_with fail
  go_ret2
  exact ⟨y', none, 0, 0, rfl, (fun h => ⟨(H2.out.1 h).1, (H2.out.1 h).2, owns_nil _ _ _⟩), H2.out.2⟩
set_option maxHeartbeats 4000000 in
theorem do8_any (y : Sv) (hc : Cal W0 W B y) (hf : Fit y) (sq tm : Int) (ky nm : ByteArray) (hnm : nm.size ≤ maxLen) (aa ga : Option Addr) (cp gn gc : Nat) (p0 : Int) (legs : List Lg) (hp : ∀ x ∈ ([p0] : List Int), inI x) (hA : IntsL W aa 1 cp [p0]) :
    Calls Tryz.prog 35 #[.pointer (some ⟨B, 0, none⟩), .agg #[.int .i64 sq, .int .i64 tm, .int .i64 8, .string ky, .string nm, .slice aa 1 cp, .slice ga gn gc]] W (LegP W0 B (kindE y.t ⟨sq, tm, 8, ky, nm, [p0], legs⟩) (kindS y.t ⟨sq, tm, 8, ky, nm, [p0], legs⟩) (kindL y.t ⟨sq, tm, 8, ky, nm, [p0], legs⟩)) := by
  have hE : kindE y.t ⟨sq, tm, 8, ky, nm, [p0], legs⟩ = jobsE y.t 8 tm [p0] ∧ kindS y.t ⟨sq, tm, 8, ky, nm, [p0], legs⟩ = jobsS y.t 8 tm [p0] ∧ kindL y.t ⟨sq, tm, 8, ky, nm, [p0], legs⟩ = jobsL y.t 8 tm [p0] := ⟨rfl, rfl, rfl⟩
  rw [hE.1, hE.2.1, hE.2.2]
  clear hE
  have hba := below_alloc W (.cells #[.int .i64 sq, .int .i64 tm, .int .i64 8, .string ky, .string nm, .slice aa 1 cp, .slice ga gn gc] 34)
  have htb := tx_box W sq tm 8 ky nm aa ga 1 cp gn gc
  obtain ⟨wa, hwa⟩ : ∃ z, z = W.alloc (.cells #[.int .i64 sq, .int .i64 tm, .int .i64 8, .string ky, .string nm, .slice aa 1 cp, .slice ga gn gc] 34) := ⟨_, rfl⟩
  rw [← hwa] at htb hba
  have HWa := Lib.hid hwa
  have hA2 := lst_keep Tre.encI_len hA hba
  have hca := hc.keep hba
  have HTb := Lib.hid htb
  have k2 : wa.cell? ⟨W.heap.size, 2, none⟩ = some (.int .i64 8) := Arr.blk_cell htb 2
  have HCall := Lib.hid (hold_any y hca sq tm 8 ky nm aa ga cp gn gc tm p0 hA2)
  clear hA hA2 hca htb hba hwa hc hf hp
  go_enter Tryz.func35, Tryz.ntmps35
  go_upto_region 1 with fail
  rw [← HWa.out]
  go_wp2_with (first | (refine Arr.wpList_load_blk rfl 34 (.tmp 3) rfl W.heap.size rfl [.int .i64 sq, .int .i64 tm, .int .i64 8, .string ky, .string nm, .slice aa 1 cp, .slice ga gn gc] 34 HTb.out _ Tryz.underlying34 rfl info_tx ?_) | fail)
  refine HCall.out.mono ?_
  rintro e w2 ⟨y', rfl, h1, h2⟩
  have H2 := Lib.hid (And.intro h1 h2)
  clear h1 h2 HCall
  go_wp2_with fail
  go_ret2
  exact ⟨y', none, 0, 0, rfl, (fun h => ⟨(H2.out.1 h).1, (H2.out.1 h).2, owns_nil _ _ _⟩), H2.out.2⟩
set_option maxHeartbeats 4000000 in
theorem do9_any (y : Sv) (hc : Cal W0 W B y) (hf : Fit y) (sq tm : Int) (ky nm : ByteArray) (hnm : nm.size ≤ maxLen) (aa ga : Option Addr) (cp gn gc : Nat) (p0 : Int) (legs : List Lg) (hp : ∀ x ∈ ([p0] : List Int), inI x) (hA : IntsL W aa 1 cp [p0]) :
    Calls Tryz.prog 35 #[.pointer (some ⟨B, 0, none⟩), .agg #[.int .i64 sq, .int .i64 tm, .int .i64 9, .string ky, .string nm, .slice aa 1 cp, .slice ga gn gc]] W (LegP W0 B (kindE y.t ⟨sq, tm, 9, ky, nm, [p0], legs⟩) (kindS y.t ⟨sq, tm, 9, ky, nm, [p0], legs⟩) (kindL y.t ⟨sq, tm, 9, ky, nm, [p0], legs⟩)) := by
  have hE : kindE y.t ⟨sq, tm, 9, ky, nm, [p0], legs⟩ = jobsE y.t 9 tm [p0] ∧ kindS y.t ⟨sq, tm, 9, ky, nm, [p0], legs⟩ = jobsS y.t 9 tm [p0] ∧ kindL y.t ⟨sq, tm, 9, ky, nm, [p0], legs⟩ = jobsL y.t 9 tm [p0] := ⟨rfl, rfl, rfl⟩
  rw [hE.1, hE.2.1, hE.2.2]
  clear hE
  have hba := below_alloc W (.cells #[.int .i64 sq, .int .i64 tm, .int .i64 9, .string ky, .string nm, .slice aa 1 cp, .slice ga gn gc] 34)
  have htb := tx_box W sq tm 9 ky nm aa ga 1 cp gn gc
  obtain ⟨wa, hwa⟩ : ∃ z, z = W.alloc (.cells #[.int .i64 sq, .int .i64 tm, .int .i64 9, .string ky, .string nm, .slice aa 1 cp, .slice ga gn gc] 34) := ⟨_, rfl⟩
  rw [← hwa] at htb hba
  have HWa := Lib.hid hwa
  have hA2 := lst_keep Tre.encI_len hA hba
  have hca := hc.keep hba
  have HTb := Lib.hid htb
  have k2 : wa.cell? ⟨W.heap.size, 2, none⟩ = some (.int .i64 9) := Arr.blk_cell htb 2
  have HCall := Lib.hid (free_any y hca sq tm 9 ky nm aa ga cp gn gc tm p0 hA2)
  clear hA hA2 hca htb hba hwa hc hf hp
  go_enter Tryz.func35, Tryz.ntmps35
  go_upto_region 1 with fail
  rw [← HWa.out]
  go_wp2_with (first | (refine Arr.wpList_load_blk rfl 34 (.tmp 3) rfl W.heap.size rfl [.int .i64 sq, .int .i64 tm, .int .i64 9, .string ky, .string nm, .slice aa 1 cp, .slice ga gn gc] 34 HTb.out _ Tryz.underlying34 rfl info_tx ?_) | fail)
  refine HCall.out.mono ?_
  rintro e w2 ⟨y', rfl, h1, h2⟩
  have H2 := Lib.hid (And.intro h1 h2)
  clear h1 h2 HCall
  go_wp2_with fail
  go_ret2
  exact ⟨y', none, 0, 0, rfl, (fun h => ⟨(H2.out.1 h).1, (H2.out.1 h).2, owns_nil _ _ _⟩), H2.out.2⟩
set_option maxHeartbeats 4000000 in
theorem do10_any (y : Sv) (hc : Cal W0 W B y) (hf : Fit y) (sq tm : Int) (ky nm : ByteArray) (hnm : nm.size ≤ maxLen) (aa ga : Option Addr) (cp gn gc : Nat) (p0 : Int) (legs : List Lg) (hp : ∀ x ∈ ([p0] : List Int), inI x) (hA : IntsL W aa 1 cp [p0]) :
    Calls Tryz.prog 35 #[.pointer (some ⟨B, 0, none⟩), .agg #[.int .i64 sq, .int .i64 tm, .int .i64 10, .string ky, .string nm, .slice aa 1 cp, .slice ga gn gc]] W (LegP W0 B (kindE y.t ⟨sq, tm, 10, ky, nm, [p0], legs⟩) (kindS y.t ⟨sq, tm, 10, ky, nm, [p0], legs⟩) (kindL y.t ⟨sq, tm, 10, ky, nm, [p0], legs⟩)) := by
  have hE : kindE y.t ⟨sq, tm, 10, ky, nm, [p0], legs⟩ = jobsE y.t 10 tm [p0] ∧ kindS y.t ⟨sq, tm, 10, ky, nm, [p0], legs⟩ = jobsS y.t 10 tm [p0] ∧ kindL y.t ⟨sq, tm, 10, ky, nm, [p0], legs⟩ = jobsL y.t 10 tm [p0] := ⟨rfl, rfl, rfl⟩
  rw [hE.1, hE.2.1, hE.2.2]
  clear hE
  have hba := below_alloc W (.cells #[.int .i64 sq, .int .i64 tm, .int .i64 10, .string ky, .string nm, .slice aa 1 cp, .slice ga gn gc] 34)
  have htb := tx_box W sq tm 10 ky nm aa ga 1 cp gn gc
  obtain ⟨wa, hwa⟩ : ∃ z, z = W.alloc (.cells #[.int .i64 sq, .int .i64 tm, .int .i64 10, .string ky, .string nm, .slice aa 1 cp, .slice ga gn gc] 34) := ⟨_, rfl⟩
  rw [← hwa] at htb hba
  have HWa := Lib.hid hwa
  have hA2 := lst_keep Tre.encI_len hA hba
  have hca := hc.keep hba
  have HTb := Lib.hid htb
  have k2 : wa.cell? ⟨W.heap.size, 2, none⟩ = some (.int .i64 10) := Arr.blk_cell htb 2
  have HCall := Lib.hid (cancel_any y hca hf.nj sq tm 10 ky nm aa ga cp gn gc tm p0 hA2)
  clear hA hA2 hca htb hba hwa hc hf hp
  go_enter Tryz.func35, Tryz.ntmps35
  go_upto_region 1 with fail
  rw [← HWa.out]
  go_wp2_with (first | (refine Arr.wpList_load_blk rfl 34 (.tmp 3) rfl W.heap.size rfl [.int .i64 sq, .int .i64 tm, .int .i64 10, .string ky, .string nm, .slice aa 1 cp, .slice ga gn gc] 34 HTb.out _ Tryz.underlying34 rfl info_tx ?_) | fail)
  refine HCall.out.mono ?_
  rintro e w2 ⟨y', rfl, h1, h2⟩
  have H2 := Lib.hid (And.intro h1 h2)
  clear h1 h2 HCall
  go_wp2_with fail
  go_ret2
  exact ⟨y', none, 0, 0, rfl, (fun h => ⟨(H2.out.1 h).1, (H2.out.1 h).2, owns_nil _ _ _⟩), H2.out.2⟩
set_option maxHeartbeats 4000000 in
theorem do11_any (y : Sv) (hc : Cal W0 W B y) (hf : Fit y) (sq tm : Int) (ky nm : ByteArray) (hnm : nm.size ≤ maxLen) (aa ga : Option Addr) (cp gn gc : Nat) (p0 : Int) (legs : List Lg) (hp : ∀ x ∈ ([p0] : List Int), inI x) (hA : IntsL W aa 1 cp [p0]) :
    Calls Tryz.prog 35 #[.pointer (some ⟨B, 0, none⟩), .agg #[.int .i64 sq, .int .i64 tm, .int .i64 11, .string ky, .string nm, .slice aa 1 cp, .slice ga gn gc]] W (LegP W0 B (kindE y.t ⟨sq, tm, 11, ky, nm, [p0], legs⟩) (kindS y.t ⟨sq, tm, 11, ky, nm, [p0], legs⟩) (kindL y.t ⟨sq, tm, 11, ky, nm, [p0], legs⟩)) := by
  have hE : kindE y.t ⟨sq, tm, 11, ky, nm, [p0], legs⟩ = jobsE y.t 11 tm [p0] ∧ kindS y.t ⟨sq, tm, 11, ky, nm, [p0], legs⟩ = jobsS y.t 11 tm [p0] ∧ kindL y.t ⟨sq, tm, 11, ky, nm, [p0], legs⟩ = jobsL y.t 11 tm [p0] := ⟨rfl, rfl, rfl⟩
  rw [hE.1, hE.2.1, hE.2.2]
  clear hE
  have hba := below_alloc W (.cells #[.int .i64 sq, .int .i64 tm, .int .i64 11, .string ky, .string nm, .slice aa 1 cp, .slice ga gn gc] 34)
  have htb := tx_box W sq tm 11 ky nm aa ga 1 cp gn gc
  obtain ⟨wa, hwa⟩ : ∃ z, z = W.alloc (.cells #[.int .i64 sq, .int .i64 tm, .int .i64 11, .string ky, .string nm, .slice aa 1 cp, .slice ga gn gc] 34) := ⟨_, rfl⟩
  rw [← hwa] at htb hba
  have HWa := Lib.hid hwa
  have hA2 := lst_keep Tre.encI_len hA hba
  have hca := hc.keep hba
  have HTb := Lib.hid htb
  have k2 : wa.cell? ⟨W.heap.size, 2, none⟩ = some (.int .i64 11) := Arr.blk_cell htb 2
  have HCall := Lib.hid (requeue_any y hca hf.nj hf.dr sq tm 11 ky nm aa ga cp gn gc p0 hA2)
  clear hA hA2 hca htb hba hwa hc hf hp
  go_enter Tryz.func35, Tryz.ntmps35
  go_upto_region 1 with fail
  rw [← HWa.out]
  go_wp2_with (first | (refine Arr.wpList_load_blk rfl 34 (.tmp 3) rfl W.heap.size rfl [.int .i64 sq, .int .i64 tm, .int .i64 11, .string ky, .string nm, .slice aa 1 cp, .slice ga gn gc] 34 HTb.out _ Tryz.underlying34 rfl info_tx ?_) | fail)
  refine HCall.out.mono ?_
  rintro e w2 ⟨y', va, vn, vc, rfl, h1, h2⟩
  have H2 := Lib.hid (And.intro h1 h2)
  clear h1 h2 HCall
  go_wp2_with fail
  go_ret2
  exact ⟨y', va, vn, vc, rfl, H2.out.1, H2.out.2⟩
set_option maxHeartbeats 4000000 in
theorem do12_any (y : Sv) (hc : Cal W0 W B y) (hf : Fit y) (sq tm : Int) (ky nm : ByteArray) (hnm : nm.size ≤ maxLen) (aa ga : Option Addr) (cp gn gc : Nat) (p0 p1 : Int) (legs : List Lg) (hp : ∀ x ∈ ([p0, p1] : List Int), inI x) (hA : IntsL W aa 2 cp [p0, p1]) :
    Calls Tryz.prog 35 #[.pointer (some ⟨B, 0, none⟩), .agg #[.int .i64 sq, .int .i64 tm, .int .i64 12, .string ky, .string nm, .slice aa 2 cp, .slice ga gn gc]] W (LegP W0 B (kindE y.t ⟨sq, tm, 12, ky, nm, [p0, p1], legs⟩) (kindS y.t ⟨sq, tm, 12, ky, nm, [p0, p1], legs⟩) (kindL y.t ⟨sq, tm, 12, ky, nm, [p0, p1], legs⟩)) := by
  have hE : kindE y.t ⟨sq, tm, 12, ky, nm, [p0, p1], legs⟩ = jobsE y.t 12 tm [p0, p1] ∧ kindS y.t ⟨sq, tm, 12, ky, nm, [p0, p1], legs⟩ = jobsS y.t 12 tm [p0, p1] ∧ kindL y.t ⟨sq, tm, 12, ky, nm, [p0, p1], legs⟩ = jobsL y.t 12 tm [p0, p1] := ⟨rfl, rfl, rfl⟩
  rw [hE.1, hE.2.1, hE.2.2]
  clear hE
  have hba := below_alloc W (.cells #[.int .i64 sq, .int .i64 tm, .int .i64 12, .string ky, .string nm, .slice aa 2 cp, .slice ga gn gc] 34)
  have htb := tx_box W sq tm 12 ky nm aa ga 2 cp gn gc
  obtain ⟨wa, hwa⟩ : ∃ z, z = W.alloc (.cells #[.int .i64 sq, .int .i64 tm, .int .i64 12, .string ky, .string nm, .slice aa 2 cp, .slice ga gn gc] 34) := ⟨_, rfl⟩
  rw [← hwa] at htb hba
  have HWa := Lib.hid hwa
  have hA2 := lst_keep Tre.encI_len hA hba
  have hca := hc.keep hba
  have HTb := Lib.hid htb
  have k2 : wa.cell? ⟨W.heap.size, 2, none⟩ = some (.int .i64 12) := Arr.blk_cell htb 2
  have HCall := Lib.hid (end_any y hca hf.nj hf.dr sq tm 12 ky nm aa ga cp gn gc p0 p1 hA2)
  clear hA hA2 hca htb hba hwa hc hf hp
  go_enter Tryz.func35, Tryz.ntmps35
  go_upto_region 1 with fail
  rw [← HWa.out]
  go_wp2_with (first | (refine Arr.wpList_load_blk rfl 34 (.tmp 3) rfl W.heap.size rfl [.int .i64 sq, .int .i64 tm, .int .i64 12, .string ky, .string nm, .slice aa 2 cp, .slice ga gn gc] 34 HTb.out _ Tryz.underlying34 rfl info_tx ?_) | fail)
  refine HCall.out.mono ?_
  rintro e w2 ⟨y', va, vn, vc, rfl, h1, h2⟩
  have H2 := Lib.hid (And.intro h1 h2)
  clear h1 h2 HCall
  go_wp2_with fail
  go_ret2
  exact ⟨y', va, vn, vc, rfl, H2.out.1, H2.out.2⟩
set_option maxHeartbeats 4000000 in
theorem do13_any (y : Sv) (hc : Cal W0 W B y) (hf : Fit y) (sq tm : Int) (ky nm : ByteArray) (hnm : nm.size ≤ maxLen) (aa ga : Option Addr) (cp gn gc : Nat) (p0 p1 : Int) (legs : List Lg) (hp : ∀ x ∈ ([p0, p1] : List Int), inI x) (hA : IntsL W aa 2 cp [p0, p1]) :
    Calls Tryz.prog 35 #[.pointer (some ⟨B, 0, none⟩), .agg #[.int .i64 sq, .int .i64 tm, .int .i64 13, .string ky, .string nm, .slice aa 2 cp, .slice ga gn gc]] W (LegP W0 B (kindE y.t ⟨sq, tm, 13, ky, nm, [p0, p1], legs⟩) (kindS y.t ⟨sq, tm, 13, ky, nm, [p0, p1], legs⟩) (kindL y.t ⟨sq, tm, 13, ky, nm, [p0, p1], legs⟩)) := by
  have hE : kindE y.t ⟨sq, tm, 13, ky, nm, [p0, p1], legs⟩ = jobsE y.t 13 tm [p0, p1] ∧ kindS y.t ⟨sq, tm, 13, ky, nm, [p0, p1], legs⟩ = jobsS y.t 13 tm [p0, p1] ∧ kindL y.t ⟨sq, tm, 13, ky, nm, [p0, p1], legs⟩ = jobsL y.t 13 tm [p0, p1] := ⟨rfl, rfl, rfl⟩
  rw [hE.1, hE.2.1, hE.2.2]
  clear hE
  have hba := below_alloc W (.cells #[.int .i64 sq, .int .i64 tm, .int .i64 13, .string ky, .string nm, .slice aa 2 cp, .slice ga gn gc] 34)
  have htb := tx_box W sq tm 13 ky nm aa ga 2 cp gn gc
  obtain ⟨wa, hwa⟩ : ∃ z, z = W.alloc (.cells #[.int .i64 sq, .int .i64 tm, .int .i64 13, .string ky, .string nm, .slice aa 2 cp, .slice ga gn gc] 34) := ⟨_, rfl⟩
  rw [← hwa] at htb hba
  have HWa := Lib.hid hwa
  have hA2 := lst_keep Tre.encI_len hA hba
  have hca := hc.keep hba
  have HTb := Lib.hid htb
  have k2 : wa.cell? ⟨W.heap.size, 2, none⟩ = some (.int .i64 13) := Arr.blk_cell htb 2
  have HCall := Lib.hid (refund_any y hca hf.ds hf.nj hf.dr sq tm 13 ky nm aa ga cp gn gc p0 p1 (hp p1 (by simp)) hA2)
  clear hA hA2 hca htb hba hwa hc hf hp
  go_enter Tryz.func35, Tryz.ntmps35
  go_upto_region 1 with fail
  rw [← HWa.out]
  go_wp2_with (first | (refine Arr.wpList_load_blk rfl 34 (.tmp 3) rfl W.heap.size rfl [.int .i64 sq, .int .i64 tm, .int .i64 13, .string ky, .string nm, .slice aa 2 cp, .slice ga gn gc] 34 HTb.out _ Tryz.underlying34 rfl info_tx ?_) | fail)
  refine HCall.out.mono ?_
  rintro e w2 ⟨y', va, vn, vc, rfl, h1, h2⟩
  have H2 := Lib.hid (And.intro h1 h2)
  clear h1 h2 HCall
  go_wp2_with fail
  go_ret2
  exact ⟨y', va, vn, vc, rfl, H2.out.1, H2.out.2⟩
set_option maxHeartbeats 4000000 in
theorem do14_any (y : Sv) (hc : Cal W0 W B y) (hf : Fit y) (sq tm : Int) (ky nm : ByteArray) (hnm : nm.size ≤ maxLen) (aa ga : Option Addr) (cp gn gc : Nat) (p0 p1 : Int) (legs : List Lg) (hp : ∀ x ∈ ([p0, p1] : List Int), inI x) (hA : IntsL W aa 2 cp [p0, p1]) :
    Calls Tryz.prog 35 #[.pointer (some ⟨B, 0, none⟩), .agg #[.int .i64 sq, .int .i64 tm, .int .i64 14, .string ky, .string nm, .slice aa 2 cp, .slice ga gn gc]] W (LegP W0 B (kindE y.t ⟨sq, tm, 14, ky, nm, [p0, p1], legs⟩) (kindS y.t ⟨sq, tm, 14, ky, nm, [p0, p1], legs⟩) (kindL y.t ⟨sq, tm, 14, ky, nm, [p0, p1], legs⟩)) := by
  have hE : kindE y.t ⟨sq, tm, 14, ky, nm, [p0, p1], legs⟩ = jobsE y.t 14 tm [p0, p1] ∧ kindS y.t ⟨sq, tm, 14, ky, nm, [p0, p1], legs⟩ = jobsS y.t 14 tm [p0, p1] ∧ kindL y.t ⟨sq, tm, 14, ky, nm, [p0, p1], legs⟩ = jobsL y.t 14 tm [p0, p1] := ⟨rfl, rfl, rfl⟩
  rw [hE.1, hE.2.1, hE.2.2]
  clear hE
  have hba := below_alloc W (.cells #[.int .i64 sq, .int .i64 tm, .int .i64 14, .string ky, .string nm, .slice aa 2 cp, .slice ga gn gc] 34)
  have htb := tx_box W sq tm 14 ky nm aa ga 2 cp gn gc
  obtain ⟨wa, hwa⟩ : ∃ z, z = W.alloc (.cells #[.int .i64 sq, .int .i64 tm, .int .i64 14, .string ky, .string nm, .slice aa 2 cp, .slice ga gn gc] 34) := ⟨_, rfl⟩
  rw [← hwa] at htb hba
  have HWa := Lib.hid hwa
  have hA2 := lst_keep Tre.encI_len hA hba
  have hca := hc.keep hba
  have HTb := Lib.hid htb
  have k2 : wa.cell? ⟨W.heap.size, 2, none⟩ = some (.int .i64 14) := Arr.blk_cell htb 2
  have HCall := Lib.hid (start_any y hca hf.nj ⟨hf.kf, hf.kl, hf.nf, hf.nl⟩ sq tm 14 ky nm aa ga cp gn gc p0 p1 hA2)
  clear hA hA2 hca htb hba hwa hc hf hp
  go_enter Tryz.func35, Tryz.ntmps35
  go_upto_region 1 with fail
  rw [← HWa.out]
  go_wp2_with (first | (refine Arr.wpList_load_blk rfl 34 (.tmp 3) rfl W.heap.size rfl [.int .i64 sq, .int .i64 tm, .int .i64 14, .string ky, .string nm, .slice aa 2 cp, .slice ga gn gc] 34 HTb.out _ Tryz.underlying34 rfl info_tx ?_) | fail)
  refine HCall.out.mono ?_
  rintro e w2 ⟨y', va, vn, vc, rfl, h1, h2⟩
  have H2 := Lib.hid (And.intro h1 h2)
  clear h1 h2 HCall
  go_wp2_with fail
  go_ret2
  exact ⟨y', va, vn, vc, rfl, H2.out.1, H2.out.2⟩
end Go.Proofs.YtjcndgopijpibaaGreat.Bok
/- Book, the landed: what a transaction does. -/
namespace Go.Proofs.YtjcndgopijpibaaGreat.Bok
set_option maxRecDepth 100000
open Go.RowKit
open Go.Sort
open Kit
open Foot
open Tre (Lst inI lst_keep lst_at lst_new lst_none encF encF_len encL_len IntsL goodB)
open Led (Lg encG encG_len)
open Job (Jb Jv Jobs encJ encJ_len encJ_one findI)
open Drw (Dw Draws encD encD_len encD_one)
open Go.Proofs.YtjcndgopijpibaaGreat.Ord (ts)
open Snp (Sn Sv encK encK_len encK_one)
set_option linter.unusedVariables false
variable {w w' W0 W : World} {B : Nat}
theorem do_any (y : Sv) (hc : Cal W0 W B y) (hf : Fit y) (sq tm kd : Int) (ky nm : ByteArray) (aa ga : Option Addr) (na cp gn gc : Nat) (args : List Int) (legs : List Lg) (hF : formB ⟨sq, tm, kd, ky, nm, args, legs⟩ = false) (hp : ∀ x ∈ args, inI x) (hA : IntsL W aa na cp args) :
    Calls Tryz.prog 35 #[.pointer (some ⟨B, 0, none⟩), .agg #[.int .i64 sq, .int .i64 tm, .int .i64 kd, .string ky, .string nm, .slice aa na cp, .slice ga gn gc]] W (LegP W0 B (kindE y.t ⟨sq, tm, kd, ky, nm, args, legs⟩) (kindS y.t ⟨sq, tm, kd, ky, nm, args, legs⟩) (kindL y.t ⟨sq, tm, kd, ky, nm, args, legs⟩)) := by
  obtain ⟨-, f2, f3, -, f5⟩ := form_parts hF
  have hnm : nm.size ≤ maxLen := by have h5 : nm.size ≤ 16 := f5; unfold maxLen; omega
  have f2' : 0 ≤ many kd := f2
  have f3' : many kd = (args.length : Int) := f3
  have hlen := hA.len
  clear hF f2 f3 f5
  rcases many_each kd with h | h
  · rcases h with rfl | rfl | rfl | rfl | rfl | rfl | rfl | rfl | rfl | rfl | rfl | rfl | rfl | rfl | rfl
    · have hl : args.length = 2 := by
        have e : many 1 = 2 := by decide
        omega
      match args, hl with
      | [p0, p1], _ =>
        obtain rfl : na = 2 := by rw [← hlen]; rfl
        exact do1_any y hc hf sq tm ky nm hnm aa ga cp gn gc p0 p1 legs hp hA
    · have hl : args.length = 4 := by
        have e : many 2 = 4 := by decide
        omega
      match args, hl with
      | [p0, p1, p2, p3], _ =>
        obtain rfl : na = 4 := by rw [← hlen]; rfl
        exact do2_any y hc hf sq tm ky nm hnm aa ga cp gn gc p0 p1 p2 p3 legs hp hA
    · have hl : args.length = 2 := by
        have e : many 3 = 2 := by decide
        omega
      match args, hl with
      | [p0, p1], _ =>
        obtain rfl : na = 2 := by rw [← hlen]; rfl
        exact do3_any y hc hf sq tm ky nm hnm aa ga cp gn gc p0 p1 legs hp hA
    · have hl : args.length = 2 := by
        have e : many 4 = 2 := by decide
        omega
      match args, hl with
      | [p0, p1], _ =>
        obtain rfl : na = 2 := by rw [← hlen]; rfl
        exact do4_any y hc hf sq tm ky nm hnm aa ga cp gn gc p0 p1 legs hp hA
    · have hl : args.length = 3 := by
        have e : many 5 = 3 := by decide
        omega
      match args, hl with
      | [p0, p1, p2], _ =>
        obtain rfl : na = 3 := by rw [← hlen]; rfl
        exact do5_any y hc hf sq tm ky nm hnm aa ga cp gn gc p0 p1 p2 legs hp hA
    · have hl : args.length = 3 := by
        have e : many 6 = 3 := by decide
        omega
      match args, hl with
      | [p0, p1, p2], _ =>
        obtain rfl : na = 3 := by rw [← hlen]; rfl
        exact do6_any y hc hf sq tm ky nm hnm aa ga cp gn gc p0 p1 p2 legs hp hA
    · have hl : args.length = 6 := by
        have e : many 7 = 6 := by decide
        omega
      match args, hl with
      | [p0, p1, p2, p3, p4, p5], _ =>
        obtain rfl : na = 6 := by rw [← hlen]; rfl
        exact do7_any y hc hf sq tm ky nm hnm aa ga cp gn gc p0 p1 p2 p3 p4 p5 legs hp hA
    · have hl : args.length = 1 := by
        have e : many 8 = 1 := by decide
        omega
      match args, hl with
      | [p0], _ =>
        obtain rfl : na = 1 := by rw [← hlen]; rfl
        exact do8_any y hc hf sq tm ky nm hnm aa ga cp gn gc p0 legs hp hA
    · have hl : args.length = 1 := by
        have e : many 9 = 1 := by decide
        omega
      match args, hl with
      | [p0], _ =>
        obtain rfl : na = 1 := by rw [← hlen]; rfl
        exact do9_any y hc hf sq tm ky nm hnm aa ga cp gn gc p0 legs hp hA
    · have hl : args.length = 1 := by
        have e : many 10 = 1 := by decide
        omega
      match args, hl with
      | [p0], _ =>
        obtain rfl : na = 1 := by rw [← hlen]; rfl
        exact do10_any y hc hf sq tm ky nm hnm aa ga cp gn gc p0 legs hp hA
    · have hl : args.length = 1 := by
        have e : many 11 = 1 := by decide
        omega
      match args, hl with
      | [p0], _ =>
        obtain rfl : na = 1 := by rw [← hlen]; rfl
        exact do11_any y hc hf sq tm ky nm hnm aa ga cp gn gc p0 legs hp hA
    · have hl : args.length = 2 := by
        have e : many 12 = 2 := by decide
        omega
      match args, hl with
      | [p0, p1], _ =>
        obtain rfl : na = 2 := by rw [← hlen]; rfl
        exact do12_any y hc hf sq tm ky nm hnm aa ga cp gn gc p0 p1 legs hp hA
    · have hl : args.length = 2 := by
        have e : many 13 = 2 := by decide
        omega
      match args, hl with
      | [p0, p1], _ =>
        obtain rfl : na = 2 := by rw [← hlen]; rfl
        exact do13_any y hc hf sq tm ky nm hnm aa ga cp gn gc p0 p1 legs hp hA
    · have hl : args.length = 2 := by
        have e : many 14 = 2 := by decide
        omega
      match args, hl with
      | [p0, p1], _ =>
        obtain rfl : na = 2 := by rw [← hlen]; rfl
        exact do14_any y hc hf sq tm ky nm hnm aa ga cp gn gc p0 p1 legs hp hA
    · have hl : args.length = 0 := by
        have e : many 15 = 0 := by decide
        omega
      match args, hl with
      | [], _ =>
        obtain rfl : na = 0 := by rw [← hlen]; rfl
        exact do15_any y hc hf sq tm ky nm hnm aa ga cp gn gc legs hp hA
  · exfalso
    have : many kd = -1 := by
      obtain ⟨⟨h1, h2, h3, h4, h5⟩, ⟨h6, h7, h8, h9, h10⟩, ⟨h11, h12, h13, h14, h15⟩⟩ := h
      unfold many
      simp [h1, h2, h3, h4, h5, h6, h7, h8, h9, h10, h11, h12, h13, h14, h15]
    omega
end Go.Proofs.YtjcndgopijpibaaGreat.Bok
