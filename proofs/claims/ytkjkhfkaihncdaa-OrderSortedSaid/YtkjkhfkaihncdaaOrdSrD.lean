/- Order, the landed: its sort of the places of jobs that are queued. -/
import Derived.Test.YtkjkhfkaihncdaaStbPl
import Derived.Test.YtkjkhfkaihncdaaOrdCmp
namespace Go.Proofs.Ytkjkhfkaihncdaa.Ord
set_option maxRecDepth 100000
open Go.RowKit
open Go.Sort
open Go.Shelf
open Kit
open Foot
open Stb (Pl encP ints ints_len sort_places)
open Tre (Lst inI lst_keep lst_take lst_at lst_new lst_none encI encI_len encI_one OwI)
open Job (Jb Jv Jobs encJ encJ_len encJ_one job_cell)
set_option linter.unusedVariables false
variable {w w' : World}

/-- The places of those of the first k that are queued, as they stand. -/
def qL (l : List Jb) (k : Nat) : List Nat := (List.range k).filter (isQ l)
theorem qL_go {l : List Jb} {k : Nat} (h : isQ l k = true) : qL l (k + 1) = qL l k ++ [k] := by
  unfold qL
  rw [List.range_succ, List.filter_append]
  simp [h]
theorem qL_no {l : List Jb} {k : Nat} (h : isQ l k = false) : qL l (k + 1) = qL l k := by
  unfold qL
  rw [List.range_succ, List.filter_append]
  simp [h]
theorem qL_mem {l : List Jb} {k m : Nat} : m ∈ qL l k ↔ m < k ∧ isQ l m = true := by
  unfold qL
  rw [List.mem_filter, List.mem_range]
theorem qL_up (l : List Jb) (k : Nat) : (qL l k).Pairwise (· < ·) := by
  unfold qL
  exact List.Pairwise.filter _ List.pairwise_lt_range
theorem qL_len (l : List Jb) (k : Nat) : (qL l k).length ≤ k := by
  unfold qL
  exact Nat.le_trans (List.length_filter_le _ _) (by rw [List.length_range]; exact Nat.le_refl _)
def ltP (l : List Jb) {n : Nat} (x y : Pl n) : Bool := decide (lt l x.1 y.1)
theorem ltP_swo {l : List Jb} {n : Nat} (hn : n ≤ l.length) : SWO (ltP l (n := n)) := by
  refine ⟨fun x => decide_eq_false lt_irrefl, fun x y z h1 h2 => decide_eq_true (lt_trans (of_decide_eq_true h1) (of_decide_eq_true h2)), fun x y z h1 h2 => decide_eq_false fun h => ?_⟩
  have g1 := of_decide_eq_false h1
  have g2 := of_decide_eq_false h2
  by_cases e : x.1 = y.1
  · rw [← e] at g2; exact g2 h
  · exact g2 (lt_trans (lt_total (by have := x.2; omega) (by have := y.2; omega) e g1) h)
/-- What is sorted is the queue. -/
theorem sorted_ord {l : List Jb} {n : Nat} (hn : n = l.length) {d : List (Pl n)} (hp : (d.map (·.1)).Perm (qL l n)) (hs : d.Pairwise (fun x y => ltP l y x = false)) : d.map (·.1) = ord l := by
  have hnd : (d.map (·.1)).Nodup := by
    rw [hp.nodup_iff]
    exact (qL_up l n).imp fun h => Nat.ne_of_lt h
  refine sorted_one (l := l) ?_ (ord_sorted l l.length) fun m => ?_
  · rw [List.pairwise_map]
    have hnd2 : d.Pairwise (fun x y => x.1 ≠ y.1) := by
      unfold List.Nodup at hnd
      rwa [List.pairwise_map] at hnd
    refine (hs.and hnd2).imp fun {x y} h => ?_
    exact lt_total (by have := y.2; omega) (by have := x.2; omega) (fun e => h.2 e.symm) (of_decide_eq_false h.1)
  · rw [hp.mem_iff, qL_mem]
    unfold ord
    rw [ord_mem, hn]
section
variable {n : Nat} [Inhabited (Pl n)]
theorem cmp_laysJ (w : World) (bx b o cc g m : Nat) (l : List Jv) (hX : w.cell? ⟨bx, 0, none⟩ = some (.slice (some ⟨b, o, none⟩) n cc)) (hbx : bx ≠ g) (hL : Jobs w (some ⟨b, o, none⟩) n cc l) (hb : b ≠ g) :
    CmpLays1 Try.prog 14 #[.pointer (some ⟨bx, 0, none⟩)] (encP (n := n)) (fun x y => cfJ l x.1 y.1) g 0 m w := by
  intro q os dk hs x y
  have hc := Stb.sortw_chg w g q dk os
  have h1 := cell_chg hc hX (fun e => hbx (by injection e))
  have h2 : Jobs (sortWorld encP w g 0 q dk os) (some ⟨b, o, none⟩) n cc l := ⟨hL.len, hL.cap, hL.max, hL.nil, row_chg encJ_len hc hL.row (fun e => hb (by injection e))⟩
  refine (clos_any _ bx b o n cc x.1 y.1 l h1 h2 x.2 y.2).mono ?_
  rintro e w' ⟨rfl, hbw, hdr⟩
  obtain ⟨p, rfl⟩ := regrown_of_below hbw
  refine ⟨rfl, p.d - (sortWorld encP w g 0 q dk os).drawn, p.os, ?_⟩
  have hd : (sortWorld encP w g 0 q dk os).drawn ≤ p.d := hdr
  unfold World.drewN redrawn
  congr 2
  omega
end
/-- The places, sorted. -/
theorem sortq_any (w : World) (bx b o n cc g cap m base : Nat) (l : List Jv) (hn : 0 < n) (hO : OwI w base (.slice (some ⟨g, 0, none⟩) m cap) (ints (qL (ts l) n))) (hm : (qL (ts l) n).length = m) (hm2 : m ≤ 40)
    (hX : w.cell? ⟨bx, 0, none⟩ = some (.slice (some ⟨b, o, none⟩) n cc)) (hbx : bx ≠ g) (hL : Jobs w (some ⟨b, o, none⟩) n cc l) (hb : b ≠ g) :
    Calls Try.prog 13 #[.slice (some ⟨g, 0, none⟩) m cap, .func (.func 14) #[] #[.pointer (some ⟨bx, 0, none⟩)]] w
      fun e w' => e = .returned (.tuple #[]) ∧ OwI w' base (.slice (some ⟨g, 0, none⟩) m cap) (places (ts l)) ∧ Chg (fun k => some k = some g) w w' := by
  haveI : Inhabited (Pl n) := ⟨⟨0, hn⟩⟩
  have hln : l.length = n := hL.len
  have hlt : (ts l).length = n := by unfold ts; rw [List.length_map, hln]
  refine (sort_places (n := n) (lt := ltP (ts l)) (ltP_swo (by omega)) (fun x y => cfJ l x.1 y.1) 14 #[.pointer (some ⟨bx, 0, none⟩)] w g m cap base (qL (ts l) n) (enters_of Try.func14 (by kernel_rfl) rfl) (cmp_laysJ w bx b o cc g m l hX hbx hL hb) ?_ (fun k hk => (qL_mem.1 hk).1) (qL_up _ _) hm hm2 hO).mono ?_
  · intro x y hxy
    unfold ltOf ltP
    rw [decide_eq_decide]
    exact cfJ_lt (by have := y.2; omega) (by have := x.2; omega) hxy
  · rintro e w' ⟨rfl, d, h1, h2, h3, h4⟩
    rw [sorted_ord hlt.symm h1 h2] at h3
    exact ⟨rfl, h3, h4⟩
end Go.Proofs.Ytkjkhfkaihncdaa.Ord
