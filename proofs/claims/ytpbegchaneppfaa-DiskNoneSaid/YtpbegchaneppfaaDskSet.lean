/- Disk: the landed disk: what is cached becomes for good, or in part; Flush and Crash. -/
import Derived.Test.YtpbegchaneppfaaDskRd
import Derived.Test.YtpbegchaneppfaaRegFun
namespace Go.Proofs.Ytpbegchaneppfaa.Dsk
open Go.RowKit
open Go.Sort
open Kit
open Oct
open Foot
set_option linter.unusedVariables false

/-! ### In words of a disk -/

/-- The first n cached sectors are settled, each by as many bytes as m tells. -/
def settleF (m : Nat → Nat) (now : List Sec) (order : List Nat) : Nat → List Sec → List Sec
  | 0, g => g
  | n + 1, g => let g' := settleF m now order n g; let i := order.getD n 0; g'.set i (mix (m n) (g'.getD i []) (now.getD i []))
theorem settle_is (keep torn cut : Int) (now : List Sec) (order : List Nat) (g : List Sec) : ∀ n, settle keep torn cut now order n g = settleF (many keep torn cut) now order n g
  | 0 => rfl
  | n + 1 => by simp only [settle, settleF]; rw [settle_is keep torn cut now order g n]
variable {m : Nat → Nat}
theorem settleF_length (now : List Sec) (order : List Nat) (n : Nat) (g : List Sec) : (settleF m now order n g).length = g.length := by
  induction n with
  | zero => rfl
  | succ n ih => simp only [settleF]; rw [List.length_set, ih]
theorem settleF_32 (hm : ∀ n, m n ≤ 32) (now : List Sec) (order : List Nat) (g : List Sec) (hn : ∀ l ∈ now, l.length = 32) (hg : ∀ l ∈ g, l.length = 32) (hl : now.length = g.length) (ho : ∀ i ∈ order, i < g.length) :
    ∀ n, n ≤ order.length → ∀ l ∈ settleF m now order n g, l.length = 32
  | 0, _ => hg
  | n + 1, h => by
    intro l hmem
    simp only [settleF] at hmem
    have ih := settleF_32 hm now order g hn hg hl ho n (by omega)
    have hi : order.getD n 0 < g.length := ho _ (getD_mem (by omega))
    rcases List.mem_or_eq_of_mem_set hmem with hmem | rfl
    · exact ih l hmem
    · refine mix_length ?_ ?_ (hm n)
      · exact ih _ (getD_mem (by rw [settleF_length]; exact hi))
      · exact hn _ (getD_mem (by omega))
theorem settleF_all (now : List Sec) (order : List Nat) (g : List Sec) (hn : ∀ l ∈ now, l.length = 32) (hg : ∀ l ∈ g, l.length = 32) (hl : now.length = g.length) (ho : ∀ i ∈ order, i < g.length) :
    ∀ n, n ≤ order.length → ∀ i, (settleF (fun _ => 32) now order n g)[i]? = if i ∈ order.take n then now[i]? else g[i]?
  | 0, _, i => by simp [settleF]
  | n + 1, h, i => by
    have ih := settleF_all now order g hn hg hl ho n (by omega)
    have h32 := settleF_32 (m := fun _ => 32) (fun _ => Nat.le_refl _) now order g hn hg hl ho n (by omega)
    have hi : order.getD n 0 < g.length := ho _ (getD_mem (by omega))
    have hgl := settleF_length (m := fun _ => 32) now order n g
    have htk : order.take (n + 1) = order.take n ++ [order.getD n 0] := by rw [List.take_succ_eq_append_getElem (by omega), getD_at (by omega)]
    simp only [settleF]
    rw [htk]
    generalize order.getD n 0 = q at *
    rw [mix_whole (h32 _ (getD_mem (by omega))) (hn _ (getD_mem (by omega)))]
    by_cases hq : q = i
    · subst hq
      rw [List.getElem?_set_self (by omega), if_pos (by simp), getD_at (by omega), List.getElem?_eq_getElem (by omega)]
    · rw [List.getElem?_set_ne hq, ih i]
      have : (i ∈ order.take n ++ [q]) ↔ i ∈ order.take n := by simp [Ne.symm hq]
      by_cases hm : i ∈ order.take n
      · rw [if_pos hm, if_pos (this.2 hm)]
      · rw [if_neg hm, if_neg (fun h => hm (this.1 h))]
theorem settleF_flush {s : DS} (ok : s.Ok) : settleF (fun _ => 32) s.now s.order s.order.length s.good = s.now := by
  apply List.ext_getElem?
  intro i
  rw [settleF_all s.now s.order s.good ok.now32 ok.good32 ok.len ok.ordLt _ (Nat.le_refl _), List.take_length]
  by_cases h : i ∈ s.order
  · rw [if_pos h]
  · rw [if_neg h, ok.rest i h]

/-! ### In memory -/

variable {w w' : World} {F G : Nat → Prop} {p cl cc : Nat} {good : List Sec} {cache : List (Nat × Sec)} {al ac : Option Addr} {fu : Bool} {left : Int} {s : DS}
theorem cellsB_take (l : Sec) (m : Nat) : cellsB (l.take m) = (cellsB l).take m := by simp [cellsB]
theorem cellsB_drop (l : Sec) (m : Nat) : cellsB (l.drop m) = (cellsB l).drop m := by simp [cellsB]
theorem encS_mix {m : Nat} {old new : Sec} (h1 : old.length = 32) (h2 : new.length = 32) (hm : m ≤ 32) : encS (mix m old new) = splice (encS old) 0 ((encS new).take m) := by
  have hl : ((encS new).take m).length = m := by rw [List.length_take, encS_len]; omega
  unfold splice
  rw [hl, encS_is (mix_length h1 h2 hm), encS_is h1, encS_is h2]
  unfold mix
  rw [cellsB_append, cellsB_take, cellsB_drop, List.take_zero, List.nil_append, Nat.zero_add]
/-- The first m bytes of sector q become for good as they were written. -/
theorem dkm_settle (r : DkM w F p good cache al ac cl cc fu left) {q m : Nat} (hq : q < good.length) {new : Sec} (h1 : (good.getD q []).length = 32) (h2 : new.length = 32) (hm : m ≤ 32) :
    ∃ b cur, al = some ⟨b, 0, none⟩ ∧ b ≠ p ∧ F b ∧ w.heap[b]? = some (.cells cur 64 (0, 0)) ∧ q * 32 + 0 + m ≤ cur.size ∧
      ∀ w', w' = w.setRow b (splice cur.toList (q * 32 + 0) ((encS new).take m)).toArray → DkM w' F p (good.set q (mix m (good.getD q []) new)) cache al ac cl cc fu left ∧ Chg F w w' := by
  obtain ⟨b, rfl, _, _, _⟩ := own_at encS_len r.lown (by omega)
  have hF := r.lfoot b rfl
  rw [getD_at hq] at h1 ⊢
  have hcl : ((encS new).take m).length = m := by rw [List.length_take, encS_len]; omega
  obtain ⟨cur, hcur, hsz, ho⟩ := owns_splice encS_len (by omega) r.lown hq 0 ((encS new).take m) (mix m good[q] new) (by rw [hcl]; omega) (encS_mix h1 h2 hm)
  rw [hcl] at hsz
  have hbp : b ≠ p := fun e => by
    have := r.blk
    unfold Arr.Blk at this
    rw [← e, hcur] at this
    injection this with this
    injection this with _ h2 _
    exact ne_dk_sec h2.symm
  refine ⟨b, cur, rfl, hbp, hF, hcur, hsz, fun w' hw' => ?_⟩
  subst hw'
  have hc := row_chgF w b (splice cur.toList (q * 32 + 0) ((encS new).take m)).toArray
  refine ⟨⟨?_, r.own, ?_, ?_, own_typed r.cown hc (typed_one hcur ne_sec_cd), r.cfoot⟩, chg_row (chg_refl F w) (.inl hF) _⟩
  · rw [List.length_set]
    exact blk_chg hc r.blk (Ne.symm hbp)
  · rw [List.length_set]; exact ho
  · rw [List.length_set]; exact r.lfoot
theorem run_ld_secs {w : World} {a : Addr} {ag : Option Addr} {n c : Nat} (h : w.cell? a = some (.slice ag n c)) : (Instr.loadAt 52 (.pointer (some a))).run Try.prog w = .ok (.slice ag n c) w := by
  simp [go_sem, h]
theorem run_ia_secs (b q n c : Nat) (h : q < n) (w : World) : (Instr.indexAt 52 (.slice (some ⟨b, 0, none⟩) n c) (.int .i64 (q : Nat))).run Try.prog w = .ok (.pointer (some ⟨b, q * 32, none⟩)) w := by
  simp [go_sem]
  omega
theorem run_sl_arr (b o : Nat) (w : World) : (Instr.sliceAt 64 (.pointer (some ⟨b, o, none⟩)) none none none).run Try.prog w = .ok (.slice (some ⟨b, o, none⟩) 32 32) w := by
  simp [go_sem]
theorem run_sl_to (b o m : Nat) (h : m ≤ 32) (w : World) : (Instr.sliceAt 64 (.pointer (some ⟨b, o, none⟩)) none (some (.int .i64 (m : Nat))) none).run Try.prog w = .ok (.slice (some ⟨b, o, none⟩) m 32) w := by
  obtain ⟨i0, hi, _⟩ := info_parts info8
  simp [Instr.sliceAt, Instr.sliceBounds, Instr.sliceBound, Instr.sureAddr, asIntOf, run_underlying Try.underlying64, sizeOf, typeInfo, h, hi, Addr.add]

theorem run_copy_splice {P : Program} (w : World) (dT sT ty elem : TypeId) (g o dLen dCap : Nat) (a : Addr) (sLen sCap : Nat) (cur : Array Value) (t : TypeId) (cs : List Value)
    (hu : P.underlying dT = some (.slice elem)) (hs : (P.info? elem).map (·.size) = some 1)
    (hg : w.heap[g]? = some (.cells cur t (0, 0))) (hn : cs.length = Nat.min sLen dLen)
    (hsrc : ∀ j v, cs[j]? = some v → w.cell? (a.add j) = some v) (hfit : o + cs.length ≤ cur.size) (h1 : ∀ v ∈ cs, v.oneCell' = true) :
    (Builtin.copy_ #[dT, sT] ty #[.slice (some ⟨g, o, none⟩) dLen dCap, .slice (some a) sLen sCap]).run P w = .ok (goInt cs.length) (w.setRow g (splice cur.toList o cs).toArray) := by
  rw [run_copy_row P w dT sT ty elem g o dLen dCap a sLen sCap cur t cs hu hs hg hn hsrc hfit h1, List.append_assoc]; rfl

/-- In the region that settles one: only the copy, its last operation, changes anything. -/
def JS (b : Nat) (W X : World) (L : Array Bool) (w : World) : Prop := Chg (fun k => k = b) W w ∧ cond (L.getD 13 false) (w = X) (w = W.drew)
variable {b : Nat} {W X : World} {L : Array Bool}
theorem js_set (h : JS b W X L w) {k : Nat} (hk : k ≠ 13) : JS b W X (L.setIfInBounds k true) w := by
  unfold JS at h ⊢
  rw [set_far hk]; exact h
theorem js_start (b : Nat) (W X : World) {n : Nat} : JS b W X (Array.replicate n false) W.drew := by
  have e : (Array.replicate n false).getD 13 false = false := by
    by_cases hm : 13 < n <;> simp [hm]
  refine ⟨chg_drew (chg_refl _ _), ?_⟩
  rw [e]; rfl
theorem js_first (h : JS b W X L w) (hf : L.getD 13 true = false) : w = W.drew := by
  have := h.2
  rw [free_it hf] at this
  exact this
theorem js_last (h : JS b W X L w) (hf : L.getD 13 true = false) (hC : Chg (fun k => k = b) W X) (hw : w' = X) : JS b W X (L.setIfInBounds 13 true) w' := by
  subst hw
  refine ⟨hC, ?_⟩
  rw [set_it hf]; rfl
theorem js_end {n : Nat} (h : JS b W X (Array.replicate n true) w) (hn : 13 < n) : w = X := by
  have e : (Array.replicate n true).getD 13 false = true := by simp [hn]
  have := h.2
  rw [e] at this
  exact this

set_option maxRecDepth 100000 in
set_option maxHeartbeats 4000000 in
theorem dsettle_any (m : Nat → Nat) (hm : ∀ n, m n ≤ 32) (r : DkM w F p s.good (cacheOf s) al ac cl cc fu left) (ok : s.Ok) (hF : ∀ k, F k → k < w.heap.size) (f : FuncId) (caps : Array Value) (fn : Func) (hf : Try.prog.funcs[f]? = some fn) (hk : (fn.body.isSome && !(fn.name == "runtime.NumGoroutine")) = true)
    (hcall : ∀ (k : Nat) (wx : World), k < s.order.length → Chg F w wx → Calls Try.prog f (#[.int .i64 (k : Nat)] ++ caps) wx fun e w' => e = .returned (.int .i64 (m k : Nat)) ∧ w' = wx) :
    Calls Try.prog 30 #[.pointer (some ⟨p, 0, none⟩), .func (.func f) #[] caps] w fun e w' => e = .returned (.tuple #[]) ∧ DkM w' F p (settleF m s.now s.order s.order.length s.good) [] al none cl 0 fu left ∧ Chg F w w' := by
  have c1 := Arr.blk_cell r.blk 1
  simp only [List.getElem?_cons_zero, List.getElem?_cons_succ] at c1
  have hcl := cacheOf_len s
  have HR := Lib.hid r
  have HFn := Lib.hid (And.intro hf hk)
  have HCall := Lib.hid hcall
  have HF := Lib.hid hF
  have HOk := Lib.hid ok
  have HM := Lib.hid hm
  have HCl := Lib.hid hcl
  have hol := order_le ok
  clear r hf hk hcall hF ok hm
  rw [hcl] at c1
  generalize s.order.length = n at *
  clear hcl
  go_enter Try.func30, Try.ntmps30
  go_wp2_with fail
  go_loopw [11] (fun iv wx => ∃ k : Nat, k ≤ n ∧ iv = .int .i64 k ∧ DkM wx F p (settleF m s.now s.order k s.good) (cacheOf s) al ac cl cc fu left ∧ Chg F w wx) (fun iv _ => n - (intOf iv).toNat)
  case atStart => exact ⟨0, Nat.zero_le _, rfl, HR.out, chg_refl F w⟩
  case round =>
    obtain ⟨k, hk, rfl, hr, hC⟩ := hrel
    have HRr := Lib.hid hr
    have HCr := Lib.hid hC
    clear hr hC
    by_cases hlt : k < n
    · obtain ⟨b, rfl, _, _, hrow⟩ := own_at encC_len HRr.out.cown (by rw [HCl.out]; omega)
      have hkc : k < (cacheOf s).length := by rw [HCl.out]; exact hlt
      have hko : k < s.order.length := by rw [← cacheOf_len s]; exact hkc
      have hrg := row_range encC_len hrow hkc (cacheOf_at s hkc hko)
      rw [Nat.zero_add] at hrg
      have hqg : s.order[k] < s.good.length := HOk.out.ordLt _ (List.getElem_mem hko)
      have hstep : settleF m s.now s.order (k + 1) s.good = (settleF m s.now s.order k s.good).set s.order[k] (mix (m k) ((settleF m s.now s.order k s.good).getD s.order[k] []) (s.now.getD s.order[k] [])) := by
        simp only [settleF]; rw [getD_at hko]
      have hg32 := settleF_32 HM.out s.now s.order s.good HOk.out.now32 HOk.out.good32 HOk.out.len HOk.out.ordLt k (Nat.le_of_lt hko)
      have hgl := settleF_length (m := m) s.now s.order k s.good
      have hn32 : (s.now.getD s.order[k] []).length = 32 := HOk.out.now32 _ (getD_mem (by rw [HOk.out.len]; exact hqg))
      rw [← hgl] at hqg
      have ho32 : ((settleF m s.now s.order k s.good).getD s.order[k] []).length = 32 := hg32 _ (getD_mem hqg)
      have hmk := HM.out k
      have hcall := fun wx => HCall.out k wx hlt
      have HRr' := HRr
      clear HRr
      generalize settleF m s.now s.order k s.good = g at *
      generalize s.order[k] = q at *
      generalize s.now.getD q [] = new at *
      generalize m k = mk at *
      have HRg := Lib.hid hrg
      have HSz : Hid ((Try.prog.info? 66).map (·.size) = some (encC (q, new)).length) := Lib.hid (by rw [encC_len]; kernel_rfl)
      have HAll : Hid ((encC (q, new)).all (·.oneCell') = true) := Lib.hid (List.all_eq_true.2 (encC_one (q, new)))
      have hba := below_alloc wr (.cells (encC (0, [])).toArray 66)
      have HBk : Hid (Arr.Blk (wr.alloc (.cells (encC (0, [])).toArray 66)) wr.heap.size 66 (encC (0, []))) := Lib.hid (Arr.blk_new _ _ _ _ rfl)
      have HBa := Lib.hid hba
      have HStep := Lib.hid hstep
      have HSt := Lib.hid (And.intro hqg (And.intro ho32 (And.intro hn32 hmk)))
      have HCa := Lib.hid hcall
      have HMk := Lib.hid hmk
      clear hrow hrg hba hstep hg32 hgl hqg ho32 hn32 hmk hcall hko hkc
      go_wp2_with (first
        | (refine wpList_load_mid rfl 66 (.tmp 14) rfl b (k * 33) rfl (encC (q, new)) _ HRg.out Try.underlying66 rfl HSz.out ?_)
        | (refine Arr.wpList_store_blk rfl 66 (.tmp 5) (.tmp 15) rfl wr.heap.size (encC (q, new)) rfl rfl (encC (0, [])) 66 HBk.out HSz.out (by rw [encC_len, encC_len]) HAll.out wr.heap.size (Nat.le_refl _) ?_; intro w3 hB3 hb3; have H3 := Lib.hid (And.intro hB3 (HBa.out.trans hb3)); clear hB3 hb3)
        | fail)
      have hs3 : wr.heap.size ≤ w3.heap.size := H3.out.2.size
      have hC3 : Chg F w w3 := chg_trans HCr.out (new_chg H3.out.2 F) fun _ h => .inl h
      have r3 := dkm_keep HRr'.out H3.out.2
      have r3d := dkm_keep r3 (below_drew w3)
      obtain ⟨gl, cur, rfl, hbp, hFb, hcur, hsz, hst⟩ := dkm_settle r3d HSt.out.1 HSt.out.2.1 HSt.out.2.2.1 HSt.out.2.2.2
      have hglw : gl < wr.heap.size := Nat.lt_of_lt_of_le (HF.out _ hFb) HCr.out.size
      have k0 := Arr.blk_cell r3.blk 0
      have k1 := Arr.blk_cell H3.out.1 0
      simp only [List.getElem?_cons_zero] at k0
      have HCe : Hid (w3.cell? ⟨p, 0, none⟩ = some (.slice (some ⟨gl, 0, none⟩) g.length cl) ∧ w3.cell? ⟨wr.heap.size, 0, none⟩ = some (.int .i64 (q : Nat))) := Lib.hid ⟨k0, k1⟩
      have HNe : Hid (¬ (p = gl) ∧ ¬ (wr.heap.size = gl)) := Lib.hid ⟨fun e => hbp e.symm, fun e => by omega⟩
      have HLq : Hid (q < g.length) := Lib.hid HSt.out.1
      have HCf := Lib.hid (fun (wz : World) (hz : Chg (fun k => k = gl) w3 wz) => HCa.out wz (chg_trans hC3 hz fun x hx => .inl (by subst hx; exact hFb)))
      have hrun := run_copy_splice (P := Try.prog) w3.drew 39 39 3 5 gl (q * 32 + 0) 32 32 ⟨wr.heap.size, 1, none⟩ mk 32 cur 64 ((encS new).take mk) Try.underlying39 size_u8 hcur
        (by rw [List.length_take, encS_len])
        (fun j v hv => by
          have hj : j < mk := by have := (List.getElem?_eq_some_iff.1 hv).1; rw [List.length_take] at this; omega
          rw [List.getElem?_take_of_lt hj] at hv
          rw [add_plain]
          have := Arr.blk_cell (blk_chg (new_chg (below_drew w3) (fun _ => False)) H3.out.1 id) (1 + j)
          rw [this, Nat.add_comm]
          exact hv)
        (by have := HSt.out.2.2.2; rw [List.length_take, encS_len]; omega) (fun v hv => encS_one new v (List.mem_of_mem_take hv))
      have HCp := Lib.hid (And.intro hrun (And.intro (chg_row (F := fun k => k = gl) (chg_drew (chg_refl _ w3)) (.inl rfl) (splice cur.toList (q * 32 + 0) ((encS new).take mk)).toArray) (hst _ rfl)))
      have HC3 := Lib.hid hC3
      clear hs3 hC3 r3 r3d hbp hFb hcur hsz hst hglw k0 k1 hrun
      generalize hgn : g.length = gn at *
      refine Rel.wp_region_rel (G := fun _ _ => True) (Rel.tab [.is (.pointer (some ⟨p, 0, none⟩)), .is (.pointer (some ⟨p, 0, none⟩)), .is (.pointer (some ⟨p, 0, none⟩)), .is (.slice (some ⟨gl, 0, none⟩) gn cl), .is (.pointer (some ⟨wr.heap.size, 0, none⟩)), .is (.int .i64 (q : Nat)), .is (.pointer (some ⟨gl, q * 32, none⟩)), .is (.slice (some ⟨gl, q * 32, none⟩) 32 32), .is (.pointer (some ⟨wr.heap.size, 1, none⟩)), .is (.func (.func f) #[] caps), .is (.int .i64 (k : Nat)), .is (.int .i64 (mk : Nat)), .is (.slice (some ⟨wr.heap.size, 1, none⟩) mk 32), Rel.Kd.any]) (JS gl w3 (w3.drew.setRow gl (splice cur.toList (q * 32 + 0) ((encS new).take mk)).toArray)) (by kernel_rfl) (by kernel_rfl) (by kernel_rfl) (by kernel_rfl) (fun w => trivial) (js_start _ _ _) ?_ ?_
      · refine ⟨?_, ?_, ?_, ?_, ?_, ?_, ?_, ?_, ?_, ?_, ?_, ?_, ?_, ?_, trivial⟩
        · intro L a w c
          refine .inl ⟨Rel.wanted_free (by kernel_rfl) _, ?_⟩
          exact Rel.wp_mv _ rfl ⟨_, rfl, trivial, (c.old 0 (v := .pointer (some ⟨p, 0, none⟩)) (by kernel_rfl) (by kernel_rfl)), (js_set c.inv (by decide))⟩
        · intro L a w c
          refine .inl ⟨Rel.wanted_free (by kernel_rfl) _, ?_⟩
          exact Chn.wp_nc _ rfl (c.get 0 16 (by kernel_rfl)) ⟨_, rfl, trivial, rfl, (js_set c.inv (by decide))⟩
        · intro L a w c
          refine .inl ⟨Rel.wanted_free (by kernel_rfl) _, ?_⟩
          exact Chn.wp_fa _ _ _ rfl (c.get 1 17 (by kernel_rfl)) (by simp [go_sem]) ⟨_, rfl, trivial, rfl, (js_set c.inv (by decide))⟩
        · intro L a w c
          refine .inl ⟨Rel.wanted_free (by kernel_rfl) _, ?_⟩
          exact Rel.wp_ld _ _ rfl (c.get 2 18 (by kernel_rfl)) (run_ld_secs (cell_chg c.inv.1 HCe.out.1 HNe.out.1)) ⟨_, rfl, trivial, rfl, (js_set c.inv (by decide))⟩
        · intro L a w c
          refine .inl ⟨Rel.wanted_free (by kernel_rfl) _, ?_⟩
          exact Chn.wp_fa _ _ _ rfl (c.old 5 (v := .pointer (some ⟨wr.heap.size, 0, none⟩)) (by kernel_rfl) (by kernel_rfl)) (by simp [go_sem]) ⟨_, rfl, trivial, rfl, (js_set c.inv (by decide))⟩
        · intro L a w c
          refine .inl ⟨Rel.wanted_free (by kernel_rfl) _, ?_⟩
          exact Rel.wp_ld _ _ rfl (c.get 4 20 (by kernel_rfl)) (run_ld_i (cell_chg c.inv.1 HCe.out.2 HNe.out.2)) ⟨_, rfl, trivial, rfl, (js_set c.inv (by decide))⟩
        · intro L a w c
          refine .inl ⟨Rel.wanted_free (by kernel_rfl) _, ?_⟩
          exact Rel.wp_ia _ _ _ rfl (c.get 3 19 (by kernel_rfl)) (c.get 5 21 (by kernel_rfl)) (run_ia_secs gl q gn cl HLq.out w) ⟨_, rfl, trivial, rfl, js_set c.inv (by decide)⟩
        · intro L a w c
          refine .inl ⟨Rel.wanted_free (by kernel_rfl) _, ?_⟩
          exact Rel.wp_sl _ _ _ _ _ rfl (c.get 6 22 (by kernel_rfl)) rfl rfl rfl (run_sl_arr gl (q * 32) w) ⟨_, rfl, trivial, rfl, js_set c.inv (by decide)⟩
        · intro L a w c
          refine .inl ⟨Rel.wanted_free (by kernel_rfl) _, ?_⟩
          exact Chn.wp_fa _ _ _ rfl (c.old 5 (v := .pointer (some ⟨wr.heap.size, 0, none⟩)) (by kernel_rfl) (by kernel_rfl)) (by simp [go_sem]) ⟨_, rfl, trivial, rfl, (js_set c.inv (by decide))⟩
        · intro L a w c
          refine .inl ⟨Rel.wanted_free (by kernel_rfl) _, ?_⟩
          exact Rel.wp_mv _ rfl ⟨_, rfl, trivial, (c.old 1 (v := .func (.func f) #[] caps) (by kernel_rfl) (by kernel_rfl)), (js_set c.inv (by decide))⟩
        · intro L a w c
          refine .inl ⟨Rel.wanted_free (by kernel_rfl) _, ?_⟩
          exact Rel.wp_mv _ rfl ⟨_, rfl, trivial, (c.old 4 (v := .int .i64 (k : Nat)) (by kernel_rfl) (by kernel_rfl)), (js_set c.inv (by decide))⟩
        · intro L a w c
          refine .inl ⟨Rel.wanted_free (by kernel_rfl) _, ?_⟩
          refine Rel.wp_fv _ [.tmp 26] _ rfl (c.get 9 25 (by kernel_rfl)) HFn.out.1 HFn.out.2 ?_
          show Calls _ _ (#[Rel.slot a 26] ++ caps) w _
          rw [show Rel.slot a 26 = .int .i64 (k : Nat) from c.get 10 26 (by kernel_rfl)]
          refine (HCf.out w c.inv.1).mono ?_
          rintro e w' ⟨rfl, hw'⟩
          subst hw'
          exact ⟨_, rfl, _, rfl, trivial, rfl, js_set c.inv (by decide)⟩
        · intro L a w c
          refine .inl ⟨Rel.wanted_free (by kernel_rfl) _, ?_⟩
          exact Rel.wp_sl _ _ _ _ _ rfl (c.get 8 24 (by kernel_rfl)) rfl (congrArg some (c.get 11 27 (by kernel_rfl))) rfl (run_sl_to wr.heap.size 1 mk HMk.out w) ⟨_, rfl, trivial, rfl, js_set c.inv (by decide)⟩
        · intro L a w c
          refine .inl ⟨Rel.wanted_free (by kernel_rfl) _, ?_⟩
          have hw := js_first c.inv c.free
          subst hw
          exact Rel.wp_cp _ _ _ _ rfl (c.get 7 23 (by kernel_rfl)) (c.get 12 28 (by kernel_rfl)) HCp.out.1 ⟨_, rfl, trivial, trivial, js_last c.inv c.free HCp.out.2.1 rfl⟩
      intro a w9 hbase hroom hdef hJ hV
      rw [Chn.act_puts [16, 17, 18, 19, 20, 21, 22, 23, 24, 25, 26, 27, 28, 29] hbase hroom hdef (by kernel_rfl)]
      clear hbase hroom hdef hV
      simp only [List.foldl_cons, List.foldl_nil]
      generalize Rel.slot a 16 = u16 at *
      generalize Rel.slot a 17 = u17 at *
      generalize Rel.slot a 18 = u18 at *
      generalize Rel.slot a 19 = u19 at *
      generalize Rel.slot a 20 = u20 at *
      generalize Rel.slot a 21 = u21 at *
      generalize Rel.slot a 22 = u22 at *
      generalize Rel.slot a 23 = u23 at *
      generalize Rel.slot a 24 = u24 at *
      generalize Rel.slot a 25 = u25 at *
      generalize Rel.slot a 26 = u26 at *
      generalize Rel.slot a 27 = u27 at *
      generalize Rel.slot a 28 = u28 at *
      generalize Rel.slot a 29 = u29 at *
      simp only [Act.put, List.setIfInBounds_toArray, List.set_cons_succ, List.set_cons_zero]
      have hw9 := js_end hJ (by decide)
      have HX := Lib.hid (hw9 ▸ HCp.out.2.2)
      clear hJ hw9
      go_wp2_with fail
      go_roundw
      case rel => exact ⟨k + 1, by omega, by go_num, by rw [HStep.out]; exact HX.out.1, chg_trans (chg_drew HC3.out) HX.out.2 fun _ h => .inl h⟩
      case measure => simp [intOf]; omega
    · obtain rfl : k = n := by omega
      have hb := HRr.out.blk
      have q1 := Arr.blk_cell hb 1
      have q2 := Arr.blk_frozen hb 1
      simp only [List.getElem?_cons_zero, List.getElem?_cons_succ] at q1
      have HE : Hid (DkM (wr.setCell ⟨p, 1, none⟩ (.slice none 0 0)) F p (settleF m s.now s.order k s.good) [] al none cl 0 fu left ∧ Chg F w (wr.setCell ⟨p, 1, none⟩ (.slice none 0 0))) :=
        Lib.hid ⟨⟨Arr.blk_set hb 1 _, HRr.out.own, lown_dk HRr.out.lown hb, HRr.out.lfoot, owns_nil _ _ _, fun k hk => by cases hk⟩, chg_set HCr.out (.inl HRr.out.own) 1 _⟩
      clear hb
      go_wp2
      go_end0
      exact ⟨rfl, HE.out⟩

end Go.Proofs.Ytpbegchaneppfaa.Dsk
