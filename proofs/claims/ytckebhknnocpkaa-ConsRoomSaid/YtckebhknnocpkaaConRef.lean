/- Cons: the document's free, fits and Asks, as they run. -/
import Derived.Test.YtckebhknnocpkaaConMath
import Derived.Test.YtckebhknnocpkaaEsyArg
import Derived.Test.YtckebhknnocpkaaEsyCnt
import Derived.Test.YtckebhknnocpkaaRegTwo
namespace Go.Proofs.Ytckebhknnocpkaa.Cns
set_option maxRecDepth 100000
open Go.RowKit
open Go.Sort
open Kit
open Tre (Lst inI lst_keep lst_take lst_at lst_new lst_none i64_wf below_drewN' run_ld2)
open Prf (Bz busyN newF Nd Tk Busys encZ_len busy_cells held held_may rheld_any)
open Esy (T9 okB okQ OwQ own_asks own_keepQ asksH asksH_may rasks_any)
open Go.Proofs.Ytckebhknnocpkaa.Ord (Aq Asks encQ encQ_len ask_cells info_ask)
set_option linter.unusedVariables false
variable {w w' : World}

def encO3 (o : Ta) : List Value := [.int .i64 o.from_, .int .i64 o.to_, .int .i64 o.nodes]
theorem encO3_len (o : Ta) : (encO3 o).length = 3 := rfl
theorem encO3_one (x : Ta) : ∀ u ∈ encO3 x, u.oneCell' = true := by
  intro u hu
  simp [encO3] at hu
  rcases hu with rfl | rfl | rfl <;> rfl
abbrev Tas := Lst encO3 3
theorem ta_cells {b o n c k : Nat} {l : List Ta} (h : Tas w (some ⟨b, o, none⟩) n c l) (hk : k < l.length) :
    w.cell? ⟨b, o + k * 3, none⟩ = some (.int .i64 l[k].from_) ∧ w.cell? ⟨b, o + k * 3 + 1, none⟩ = some (.int .i64 l[k].to_) ∧ w.cell? ⟨b, o + k * 3 + 2, none⟩ = some (.int .i64 l[k].nodes) :=
  ⟨row_cell h.row hk rfl (i := 0) (by omega), row_cell h.row hk rfl (i := 1) (by omega), row_cell h.row hk rfl (i := 2) (by omega)⟩
theorem info_one : (Try.prog.info? 44).map (fun i => (i.zero, i.size, i.bytes)) = some (some (.agg #[.int .i64 0, .int .i64 0, .int .i64 0]), 3, 24) := by kernel_rfl
abbrev OwT (w : World) (base : Nat) (v : Value) (l : List Ta) : Prop := Owns encO3 3 44 w base v l
theorem own_tas {base : Nat} {v : Value} {l : List Ta} (h : OwT w base v l) : ∃ a c, v = .slice a l.length c ∧ Tas w a l.length c l := by
  obtain ⟨a, c, hv, hc, hm, hn, hrow⟩ := owns_row encO3_len h
  exact ⟨a, c, hv, rfl, hc, hm, fun e => ⟨by have := hn e; omega, hn e⟩, hrow⟩
/-- What is taken, not too much of it. -/
def okT (o : Ta) : Prop := (0 ≤ o.from_ ∧ o.from_ ≤ 1125899906842624) ∧ (0 ≤ o.to_ ∧ o.to_ ≤ 1125899906842624) ∧ Nd o.nodes
theorem taken_take {l : List Ta} {k : Nat} {x : Ta} (t : Int) (h : l[k]? = some x) : takenN (l.take (k + 1)) t = takenN (l.take k) t + (if x.from_ ≤ t ∧ t < x.to_ then x.nodes else 0) := by
  obtain ⟨hk, e⟩ := List.getElem?_eq_some_iff.1 h
  rw [List.take_succ_eq_append_getElem hk, e, takenN_snoc]
theorem taken_bound {l : List Ta} (h : ∀ o ∈ l, okT o) (k : Nat) (hk : k ≤ 1000) (t : Int) : 0 ≤ takenN (l.take k) t ∧ takenN (l.take k) t ≤ 1048576000 := by
  obtain ⟨h1, h2⟩ := takenN_bound (K := 1048576) (by omega) (t := t) (l := l.take k) fun b hb => (h b (List.mem_of_mem_take hb)).2.2
  refine ⟨h1, Int.le_trans h2 ?_⟩
  have : (l.take k).length ≤ 1000 := by rw [List.length_take]; omega
  have h3 : ((l.take k).length : Int) * 1048576 ≤ 1000 * 1048576 := Int.mul_le_mul_of_nonneg_right (by omega) (by omega)
  omega
set_option maxHeartbeats 8000000 in
theorem rfree_any (W : World) (total : Int) (a1 : Option Addr) (nb c1 : Nat) (lb : List Ta) (t : Int) (ht : Nd total) (h : Tas W a1 nb c1 lb) (hm : ∀ b ∈ lb, okT b) (hn : nb ≤ 300) :
    Calls Try.prog 22 #[.int .i64 total, .slice a1 nb c1, .int .i64 t] W fun e w' => e = .returned (.int .i64 (freeT total lb t)) ∧ Below W.heap.size W w' := by
  have HL := Lib.hid (And.intro h (And.intro h.len hm))
  obtain ⟨h00, h01⟩ := ht
  have HBd := Lib.hid (fun k (hk : k ≤ 1000) => taken_bound (l := lb) hm k hk t)
  clear h hm
  go_enter Try.func22, Try.ntmps22
  go_wp2_with fail
  go_loopw [0, 7] (fun v i wr => ∃ k : Nat, k ≤ nb ∧ i = .int .i64 (k : Nat) ∧ v = .int .i64 (total - takenN (lb.take k) t) ∧ Below W.heap.size W wr) (fun _ i _ => nb - (intOf i).toNat)
  case atStart => exact ⟨0, Nat.zero_le _, rfl, by simp [takenN], Below.refl _ _⟩
  case round =>
    obtain ⟨k, hk, rfl, rfl, hb⟩ := hrel
    have HB := Lib.hid hb
    clear hb
    by_cases hlt : k < nb
    · have hlti : (k : Int) < (nb : Int) := by omega
      have hkl : k < lb.length := by rw [HL.out.2.1]; exact hlt
      obtain ⟨b1, o1, rfl⟩ := lst_at HL.out.1 (by omega)
      obtain ⟨q0, q1, q2⟩ := ta_cells (lst_keep encO3_len HL.out.1 HB.out) hkl
      have hmt := taken_take t (List.getElem?_eq_getElem hkl)
      have hma := (HL.out.2.2 _ (List.getElem_mem hkl)).2.2
      obtain ⟨g0, g1⟩ := HBd.out k (by omega)
      generalize lb[k] = xy at *
      obtain ⟨x, x2, y⟩ := xy
      simp only at q0 q1 q2 hmt hma
      obtain ⟨y0, y1⟩ := hma
      have hor : (x ≤ t ∧ t < x2) ∨ (x ≤ t ∧ ¬ t < x2) ∨ ¬ x ≤ t := by omega
      rcases hor with ⟨t1, t2⟩ | ⟨t1, t2⟩ | t1
      · have HMt := Lib.hid (show total - takenN (lb.take (k + 1)) t = total - takenN (lb.take k) t - y by rw [hmt, if_pos ⟨t1, t2⟩]; omega)
        clear hmt
        obtain ⟨z, hz⟩ : ∃ z, z = takenN (lb.take k) t := ⟨_, rfl⟩
        rw [← hz] at HMt g0 g1 ⊢
        clear hz
        go_wp2_with fail
        go_roundw
        case rel => exact ⟨k + 1, by omega, by go_num, by rw [HMt.out], HB.out⟩
        case measure => simp [intOf]; omega
      all_goals
        have HMt := Lib.hid (show total - takenN (lb.take (k + 1)) t = total - takenN (lb.take k) t by rw [hmt, if_neg (by omega)]; omega)
        clear hmt
        obtain ⟨z, hz⟩ : ∃ z, z = takenN (lb.take k) t := ⟨_, rfl⟩
        rw [← hz] at HMt g0 g1 ⊢
        clear hz
        go_wp2_with fail
        go_roundw
        case rel => exact ⟨k + 1, by omega, by go_num, by rw [HMt.out], HB.out⟩
        case measure => simp [intOf]; omega
    · obtain rfl : k = nb := by omega
      have hni : ¬ (k : Int) < (k : Int) := by omega
      have htk : lb.take k = lb := List.take_of_length_le (by rw [HL.out.2.1]; exact Nat.le_refl _)
      rw [htk]
      clear htk
      go_wp2_with fail
      go_ret
      exact ⟨rfl, HB.out⟩
/-! ### fits -/

def fit1 (total : Int) (l : List Ta) (nodes long m : Int) (o : Ta) : Bool := ! (decide (m < o.from_) && decide (o.from_ < m + long) && decide (freeT total l o.from_ < nodes))
theorem all_take {α : Type} (p : α → Bool) {l : List α} {k : Nat} {x : α} (h : l[k]? = some x) : (l.take (k + 1)).all p = ((l.take k).all p && p x) := by
  obtain ⟨hk, e⟩ := List.getElem?_eq_some_iff.1 h
  rw [List.take_succ_eq_append_getElem hk, e, List.all_append]; simp
theorem free_bound {total t : Int} {l : List Ta} (ht : Nd total) (hm : ∀ b ∈ l, okT b) (hn : l.length ≤ 300) : -1048576000 ≤ freeT total l t ∧ freeT total l t ≤ 1048576 := by
  obtain ⟨h0, h1⟩ := ht
  have := taken_bound hm l.length (by omega) t
  rw [List.take_of_length_le (Nat.le_refl _)] at this
  unfold freeT
  omega
set_option maxHeartbeats 16000000 in
theorem rfits_any (W : World) (total : Int) (a1 : Option Addr) (nb c1 : Nat) (lb : List Ta) (m long nodes : Int) (ht : Nd total) (h : Tas W a1 nb c1 lb) (hm : ∀ b ∈ lb, okT b) (hn : nb ≤ 300) (hm0 : 0 ≤ m ∧ m ≤ 1125899906842624) (hl0 : 0 ≤ long ∧ long ≤ 1048576) (hnd : Nd nodes) :
    Calls Try.prog 17 #[.int .i64 total, .slice a1 nb c1, .int .i64 m, .int .i64 long, .int .i64 nodes] W fun e w' => e = .returned (.bool (fitsD total lb nodes long m)) ∧ Below W.heap.size W w' := by
  have HL := Lib.hid (And.intro h (And.intro h.len hm))
  have HFr := Lib.hid (fun t w (hb : Below W.heap.size W w) => rfree_any w total a1 nb c1 lb t ht (lst_keep encO3_len h hb) hm hn)
  have HBd := Lib.hid (fun t => free_bound (t := t) ht hm (by rw [h.len]; exact hn))
  have HD := Lib.hid (show fitsD total lb nodes long m = (decide (nodes ≤ freeT total lb m) && lb.all (fit1 total lb nodes long m)) from rfl)
  obtain ⟨ht0, ht1⟩ := ht
  obtain ⟨m0, m1⟩ := hm0
  obtain ⟨l0, l1⟩ := hl0
  obtain ⟨d0, d1⟩ := hnd
  clear h hm
  have HC0 := Lib.hid (HFr.out m W (Below.refl _ _))
  obtain ⟨fv, hfv⟩ : ∃ fv, fv = freeT total lb m := ⟨_, rfl⟩
  rw [← hfv] at HC0 HD
  clear hfv
  by_cases hs : fv < nodes
  · have HA := Lib.hid (show fitsD total lb nodes long m = false by rw [HD.out, decide_eq_false (by omega)]; rfl)
    go_enter Try.func17, Try.ntmps17
    go_wp2_with fail
    refine HC0.out.mono ?_
    rintro e w1 ⟨rfl, hb1⟩
    have HB1 := Lib.hid hb1
    clear hb1 HC0
    go_wp2_with fail
    go_ret
    exact ⟨by rw [HA.out]; rfl, HB1.out⟩
  · have HA := Lib.hid (show fitsD total lb nodes long m = lb.all (fit1 total lb nodes long m) by rw [HD.out, decide_eq_true (by omega)]; rfl)
    go_enter Try.func17, Try.ntmps17
    go_wp2_with fail
    refine HC0.out.mono ?_
    rintro e w1 ⟨rfl, hb1⟩
    have HB1 := Lib.hid hb1
    clear hb1 HC0
    go_wp2_with fail
    go_loopw [11] (fun i wr => ∃ k : Nat, k ≤ nb ∧ i = .int .i64 (k : Nat) ∧ (lb.take k).all (fit1 total lb nodes long m) = true ∧ Below W.heap.size W wr) (fun i _ => nb - (intOf i).toNat)
    case atStart => exact ⟨0, Nat.zero_le _, rfl, rfl, HB1.out⟩
    case round =>
      obtain ⟨k, hk, rfl, hall, hb⟩ := hrel
      have HB := Lib.hid (And.intro hb hall)
      clear hb hall
      by_cases hlt : k < nb
      · have hlti : (k : Int) < (nb : Int) := by omega
        have hkl : k < lb.length := by rw [HL.out.2.1]; exact hlt
        obtain ⟨b1, o1, rfl⟩ := lst_at HL.out.1 (by omega)
        obtain ⟨q0, -, -⟩ := ta_cells (lst_keep encO3_len HL.out.1 HB.out.1) hkl
        have hat := all_take (fit1 total lb nodes long m) (List.getElem?_eq_getElem hkl)
        rw [HB.out.2, Bool.true_and] at hat
        have hbad : fit1 total lb nodes long m lb[k] = false → lb.all (fit1 total lb nodes long m) = false := fun he => by
          rw [Bool.eq_false_iff]
          intro hh
          rw [List.all_eq_true.1 hh _ (List.getElem_mem hkl)] at he
          cases he
        have HHl := Lib.hid (fun w (hb : Below W.heap.size W w) => (ta_cells (lst_keep encO3_len HL.out.1 hb) hkl).1)
        have hcl : (∀ w, Below W.heap.size W w → w.cell? ⟨b1, o1 + k * 3, none⟩ = some (.int .i64 lb[k].from_)) := HHl.out
        have hfr : fit1 total lb nodes long m lb[k] = ! (decide (m < lb[k].from_) && decide (lb[k].from_ < m + long) && decide (freeT total lb lb[k].from_ < nodes)) := rfl
        generalize lb[k].from_ = x at *
        obtain ⟨fx, hfx⟩ : ∃ fx, fx = freeT total lb x := ⟨_, rfl⟩
        have HC1 := Lib.hid (HFr.out x)
        rw [← hfx] at hfr HC1
        have HFit := Lib.hid (And.intro hat (And.intro hbad hfr))
        have HCl := Lib.hid hcl
        clear hfx hat hbad hfr hcl HHl
        by_cases t1 : m < x
        · by_cases t2 : x < m + long
          · go_wp2_with fail
            refine (HC1.out wr HB.out.1).mono ?_
            rintro e w2 ⟨rfl, hb2⟩
            have HB2 := Lib.hid (below_keep HB.out.1 hb2)
            clear hb2 q0
            by_cases t3 : fx < nodes
            · have HF := Lib.hid (show fitsD total lb nodes long m = false by rw [HA.out]; refine HFit.out.2.1 ?_; rw [HFit.out.2.2, decide_eq_true t1, decide_eq_true t2, decide_eq_true t3]; rfl)
              go_wp2_with fail
              go_ret
              exact ⟨by rw [HF.out]; rfl, HB2.out⟩
            · have HF := Lib.hid (show (lb.take (k + 1)).all (fit1 total lb nodes long m) = true by rw [HFit.out.1, HFit.out.2.2, decide_eq_true t1, decide_eq_true t2, decide_eq_false t3]; rfl)
              go_wp2_with fail
              go_roundw
              case rel => exact ⟨k + 1, by omega, by go_num, HF.out, HB2.out⟩
              case measure => simp [intOf]; omega
          · have HF := Lib.hid (show (lb.take (k + 1)).all (fit1 total lb nodes long m) = true by rw [HFit.out.1, HFit.out.2.2, decide_eq_false t2]; simp)
            go_wp2_with fail
            go_roundw
            case rel => exact ⟨k + 1, by omega, by go_num, HF.out, HB.out.1⟩
            case measure => simp [intOf]; omega
        · have HF := Lib.hid (show (lb.take (k + 1)).all (fit1 total lb nodes long m) = true by rw [HFit.out.1, HFit.out.2.2, decide_eq_false t1]; simp)
          go_wp2_with fail
          go_roundw
          case rel => exact ⟨k + 1, by omega, by go_num, HF.out, HB.out.1⟩
          case measure => simp [intOf]; omega
      · obtain rfl : k = nb := by omega
        have hni : ¬ (k : Int) < (k : Int) := by omega
        have HF := Lib.hid (show fitsD total lb nodes long m = true by rw [HA.out, ← HB.out.2, List.take_of_length_le (by rw [HL.out.2.1]; exact Nat.le_refl _)])
        go_wp2_with fail
        go_ret
        exact ⟨by rw [HF.out]; rfl, HB.out.1⟩
/-! ### Asks -/

def hW (x : Aq) : Aq := ⟨x.nodes, held x.wall 1048576⟩
def mixW (l : List Aq) (k : Nat) : List Aq := (l.take k).map hW ++ l.drop k
theorem mixW_len (l : List Aq) (k : Nat) (hk : k ≤ l.length) : (mixW l k).length = l.length := by
  unfold mixW
  rw [List.length_append, List.length_map, List.length_take, List.length_drop]; omega
theorem mixW_at {l : List Aq} {k : Nat} {x : Aq} (h : l[k]? = some x) : (mixW l k)[k]? = some x := by
  obtain ⟨hk, e⟩ := List.getElem?_eq_some_iff.1 h
  unfold mixW
  have hl : ((l.take k).map hW).length = k := by rw [List.length_map, List.length_take]; omega
  rw [List.getElem?_append_right (by omega), hl, Nat.sub_self, List.getElem?_drop, Nat.add_zero, h]
theorem mixW_set {l : List Aq} {k : Nat} {x : Aq} (h : l[k]? = some x) : (mixW l k).set k (hW x) = mixW l (k + 1) := by
  obtain ⟨hk, e⟩ := List.getElem?_eq_some_iff.1 h
  unfold mixW
  have hl : ((l.take k).map hW).length = k := by rw [List.length_map, List.length_take]; omega
  rw [List.set_append, if_neg (by omega), hl, Nat.sub_self, List.drop_eq_getElem_cons hk, List.set_cons_zero, List.take_succ_eq_append_getElem hk, e, List.map_append]
  simp
theorem mixW_end (l : List Aq) : mixW l l.length = l.map hW := by unfold mixW; simp
def asksW (l : List Aq) : List Aq := (asksH l).map hW
theorem asksW_may {l : List Aq} : (∀ b ∈ asksW l, Nd b.nodes ∧ 0 ≤ b.wall ∧ b.wall ≤ 1048576) ∧ (asksW l).length ≤ 30 := by
  obtain ⟨h1, h2⟩ := asksH_may (l := l)
  refine ⟨fun b hb => ?_, by unfold asksW; rw [List.length_map]; exact h2⟩
  obtain ⟨x, hx, rfl⟩ := List.mem_map.1 hb
  exact ⟨(h1 x hx).1, held_may (by omega)⟩
set_option maxHeartbeats 8000000 in
theorem rasksW_any (W : World) (ab : Option Addr) (n cb : Nat) (l : List Aq) (h : Asks W ab n cb l) :
    Calls Try.prog 8 #[.slice ab n cb] W fun e W' => ∃ v, e = .returned v ∧ OwQ W' W.heap.size v (asksW l) ∧ Below W.heap.size W W' := by
  have HC0 := Lib.hid (rasks_any W ab n cb l h)
  clear h
  go_enter Try.func8, Try.ntmps8
  go_wp2_with fail
  refine HC0.out.mono ?_
  rintro e w1 ⟨v1, rfl, ho1, hb1⟩
  obtain ⟨a1, c1, rfl, -⟩ := own_asks ho1
  have HB9 := Lib.hid (show asksW l = (asksH l).map hW from rfl)
  obtain ⟨lb, hlb⟩ : ∃ lb, lb = asksH l := ⟨_, rfl⟩
  have hmay := (asksH_may (l := l)).2
  rw [← hlb] at ho1 hmay HB9 ⊢
  obtain ⟨nb, hnb⟩ : ∃ nb, nb = lb.length := ⟨_, rfl⟩
  rw [← hnb] at ho1 hmay ⊢
  have H1 := Lib.hid (And.intro hb1 ho1)
  have HNb := Lib.hid hnb
  clear hb1 ho1 hnb hlb HC0
  go_wp2_with fail
  go_loopw [4] (fun i wr => ∃ k : Nat, k ≤ nb ∧ i = .int .i64 (k : Nat) ∧ OwQ wr W.heap.size (.slice a1 nb c1) (mixW lb k) ∧ Below W.heap.size W wr) (fun i _ => nb - (intOf i).toNat)
  case atStart => exact ⟨0, Nat.zero_le _, rfl, by simpa [mixW] using H1.out.2, H1.out.1⟩
  case round =>
    obtain ⟨k, hk, rfl, ho, hb⟩ := hrel
    have HO := Lib.hid (And.intro ho hb)
    clear ho hb
    by_cases hlt : k < nb
    · have hlti : (k : Int) < (nb : Int) := by omega
      have hkl : k < lb.length := by rw [← HNb.out]; exact hlt
      have hml : (mixW lb k).length = nb := by rw [mixW_len _ _ (by omega), HNb.out]
      obtain ⟨g, c9, hv, hg, -, -⟩ := owns_at encQ_len HO.out.1 (by omega)
      rw [hml] at hv
      injection hv with e1 e2 e3
      subst e1 e3
      clear e2
      obtain ⟨x, hx⟩ : ∃ x, lb[k]? = some x := ⟨_, List.getElem?_eq_getElem hkl⟩
      obtain ⟨s1, -, -⟩ := owns_put encQ_len HO.out.1 hml (mixW_at hx) (i := 1) (by omega) (fun a => ⟨a.nodes, x.wall⟩) (.int .i64 x.wall) (fun a => rfl)
      have s1' : wr.cell? ⟨g, k * 2 + 1, none⟩ = some (.int .i64 x.wall) := s1
      have hms := mixW_set hx
      unfold hW at hms
      have HX := Lib.hid (And.intro hml (And.intro (mixW_at hx) (And.intro hms hg)))
      clear hms s1 hml hg hx
      go_wp2_with fail
      refine (rheld_any x.wall 1048576 wr).mono ?_
      rintro e w2 ⟨rfl, hb2⟩
      have ho2 := own_keepQ HO.out.1 hb2
      obtain ⟨s1, s2, s3⟩ := owns_put encQ_len ho2 HX.out.1 HX.out.2.1 (i := 1) (by omega) (fun a => ⟨a.nodes, held x.wall 1048576⟩) (.int .i64 (held x.wall 1048576)) (fun a => rfl)
      rw [HX.out.2.2.1] at s3
      have s1' : w2.cell? ⟨g, k * 2 + 1, none⟩ = some (.int .i64 x.wall) := s1
      have s2' : w2.frozen? ⟨g, k * 2 + 1, none⟩ = false := s2
      have HN := Lib.hid (And.intro s3 ((below_keep HO.out.2 hb2).setCell (p := ⟨g, k * 2 + 1, none⟩) HX.out.2.2.2 (.int .i64 (held x.wall 1048576))))
      generalize held x.wall 1048576 = z at *
      generalize x.wall = xt at *
      clear s1 s2 s3 ho2 hb2
      go_wp2_with fail
      go_roundw
      case rel => exact ⟨k + 1, by omega, by go_num, HN.out.1, HN.out.2⟩
      case measure => simp [intOf]; omega
    · obtain rfl : k = nb := by omega
      have hni : ¬ (k : Int) < (k : Int) := by omega
      have hend : mixW lb k = lb.map hW := by rw [HNb.out]; exact mixW_end lb
      rw [hend, ← HB9.out] at HO
      clear hend
      go_wp2_with fail
      go_ret
      exact ⟨_, rfl, HO.out.1, HO.out.2⟩
end Go.Proofs.Ytckebhknnocpkaa.Cns
