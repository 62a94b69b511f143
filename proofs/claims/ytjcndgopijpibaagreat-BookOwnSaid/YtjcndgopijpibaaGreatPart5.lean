/- Common to the claims of this seat, part 5: texts that were written one by one, laid behind one another. -/
import Derived.Test.YtjcndgopijpibaaGreatPart1
import Derived.Test.YtjcndgopijpibaaGreatPart2
import Derived.Test.YtjcndgopijpibaaGreatPart3
import Derived.Test.YtjcndgopijpibaaGreatPart4
/- Book: a state of which the layer speaks stays one (mathematics). -/
namespace Go.Proofs.YtjcndgopijpibaaGreat.Bok
open Go.RowKit
open Go.Proofs.YtjcndgopijpibaaGreat.Mon (costN costE mulN mulE outN)
open Tre (inI Al Fd goodB over)
open Rte (Rt goodR)
open Led (Lg postE postW postA)
open Drw (Dw drawsE drawsL chargeE chargeL legsW)
open Job (Jb findI goodJ maskL)
open Poo (cnt lo)
open Ent (Tx zeroT)
open Snp (Sn zeroS)
set_option linter.unusedVariables false
def JP (j : Jb) : Prop := ((0 ≤ j.start ∧ j.start ≤ 1125899906842624 ∧ 0 ≤ j.wall ∧ j.wall ≤ 1125899906842624 ∧ j.draws.length ≤ 16) ∧ ∀ d ∈ j.draws, 0 ≤ d.alloc ∧ d.alloc ≤ 15) ∧ j.ok
def DP (l : List Dw) : Prop := l.length ≤ 16 ∧ ∀ d ∈ l, (0 ≤ d.alloc ∧ d.alloc ≤ 15) ∧ inI d.amt
theorem jp_draws {j : Jb} (h : JP j) : DP j.draws := ⟨h.1.1.2.2.2.2, fun d hd => ⟨h.1.2 d hd, (h.2.2.2.2.2.2.2.2.2.2.2.2 d hd).2⟩⟩
theorem dp_ok {l : List Dw} (h : DP l) : ∀ d ∈ l, d.ok := fun d hd => by
  obtain ⟨⟨h1, h2⟩, h3⟩ := h.2 d hd
  exact ⟨by unfold inI; omega, h3⟩
theorem some_dp {l : List Dw} (h : DP l) : DP (someD l) := ⟨Nat.le_trans (List.length_filter_le _ _) h.1, fun d hd => h.2 d (List.mem_filter.1 hd).1⟩
theorem charge_dp {l : List Dw} {a : Int} (h : chargeE l a = 0) (hd : DP l) : DP (chargeL l a) := by
  obtain ⟨h1, h2, h3⟩ := chargeL_mem h
  refine ⟨by rw [h1]; exact hd.1, fun c hc => ?_⟩
  obtain ⟨q, hq, e⟩ := List.getElem_of_mem hc
  obtain ⟨d, e1, e2, e3, e4, e5⟩ := h3 q c (by rw [List.getElem?_eq_getElem hq, e])
  obtain ⟨g1, g2⟩ := hd.2 d (List.mem_of_getElem? e1)
  refine ⟨by rw [e2]; exact g1, ?_⟩
  unfold inI at g2 ⊢; omega
theorem draws_dp {fl : List Tre.Fd} {al : List Al} {f am now : Int} (h : drawsE fl al f am now = 0) (hn : al.length ≤ 16) (hok : ∀ x ∈ al, x.ok) : DP (drawsL fl al f am now) := by
  have hh := Drw.draws_held h
  have hl := Drw.once_len al.length _ hh.once fun d hd => ⟨(hh.at' d hd).1, (hh.at' d hd).2.1⟩
  refine ⟨by omega, fun d hd => ?_⟩
  obtain ⟨h1, h2, h3, h4⟩ := hh.at' d hd
  refine ⟨by omega, ?_⟩
  have ha : inI (Drw.availOf al d.alloc.toNat) := by
    unfold Drw.availOf
    cases hx : al[d.alloc.toNat]? with
    | none => unfold inI; simp
    | some x => exact (hok x (List.mem_of_getElem? hx)).2.2.2.1
  unfold inI at ha ⊢; omega
theorem zip_dp {l : List Dw} {a : Int} (h : chargeE l a = 0) (hd : DP l) : DP (List.zipWith (fun c d => (⟨c.alloc, wrap64 (d.amt - c.amt)⟩ : Dw)) (chargeL l a) l) := by
  have hc := charge_dp h hd
  refine ⟨by rw [List.length_zipWith]; have := hd.1; omega, fun x hx => ?_⟩
  obtain ⟨q, hq, e⟩ := List.getElem_of_mem hx
  rw [List.getElem_zipWith] at e
  subst e
  exact ⟨(hc.2 _ (List.getElem_mem _)).1, wrap_inI _⟩
theorem jobE_parts {s : Sn} {k now : Int} {a : List Int} {j : Jb} (h : jobE s k now a j = 0) :
    (k = 12 → (0 ≤ ag a 1 ∧ ag a 1 ≤ j.wall) ∧ costE j.nodes (ag a 1) j.price = 0 ∧ chargeE j.draws (costN j.nodes (ag a 1) j.price) = 0) ∧
    (k = 13 → 1 ≤ ag a 1 ∧ chargeE j.draws (ag a 1) = 0) ∧
    (k = 14 → (0 ≤ ag a 1 ∧ ag a 1 < 4294967296 ∧ (cnt (lo (ag a 1)) : Int) = j.nodes) ∧ bits BinOp.and IntKind.i64 (ag a 1) (maskL s.jobs) = 0 ∧ costE j.nodes j.wall j.price = 0 ∧ drawsE s.funds s.allocs j.fund (costN j.nodes j.wall j.price) now = 0) := by
  unfold jobE at h
  refine ⟨fun hk => ?_, fun hk => ?_, fun hk => ?_⟩
  · subst hk
    rw [if_pos rfl] at h
    by_cases h1 : ag a 1 < 0 ∨ j.wall < ag a 1
    · rw [if_pos h1] at h; omega
    rw [if_neg h1] at h
    by_cases h2 : costE j.nodes (ag a 1) j.price ≠ 0
    · rw [if_pos h2] at h; exact absurd h h2
    rw [if_neg h2] at h
    exact ⟨by omega, by simpa using h2, h⟩
  · subst hk
    rw [if_neg (by decide), if_pos rfl] at h
    by_cases h1 : ag a 1 < 1
    · rw [if_pos h1] at h; omega
    rw [if_neg h1] at h
    exact ⟨by omega, h⟩
  · subst hk
    rw [if_neg (by decide), if_neg (by decide), if_pos rfl] at h
    by_cases h1 : ag a 1 < 0 ∨ 4294967296 ≤ ag a 1 ∨ (cnt (lo (ag a 1)) : Int) ≠ j.nodes
    · rw [if_pos h1] at h; omega
    rw [if_neg h1] at h
    by_cases h2 : bits BinOp.and IntKind.i64 (ag a 1) (maskL s.jobs) ≠ 0
    · rw [if_pos h2] at h; omega
    rw [if_neg h2] at h
    by_cases h3 : costE j.nodes j.wall j.price ≠ 0
    · rw [if_pos h3] at h; exact absurd h h3
    rw [if_neg h3] at h
    exact ⟨by omega, by simpa using h2, by simpa using h3, h⟩
theorem jp_put {j j' : Jb} (h : JP j) (hd : DP j'.draws) (h1 : j'.id = j.id) (h2 : j'.fund = j.fund) (h3 : j'.nodes = j.nodes) (h4 : j'.wall = j.wall) (h5 : j'.qos = j.qos) (h6 : j'.prio = j.prio) (h7 : j'.price = j.price) (h8 : inI j'.state) (h9 : 0 ≤ j'.start ∧ j'.start ≤ 1125899906842624) (h10 : inI j'.mask) (h11 : inI j'.used) : JP j' := by
  obtain ⟨⟨⟨g1, g2, g3, g4, g5⟩, g6⟩, k1, k2, k3, k4, k5, k6, k7, k8, k9, k10, k11, k12⟩ := h
  exact ⟨⟨⟨h9.1, h9.2, by rw [h4]; exact g3, by rw [h4]; exact g4, hd.1⟩, fun d hd' => (hd.2 d hd').1⟩, by rw [h1]; exact k1, by rw [h2]; exact k2, by rw [h3]; exact k3, by rw [h4]; exact k4, by rw [h5]; exact k5, by rw [h6]; exact k6, by rw [h7]; exact k7, h8, by unfold inI; omega, h10, h11, dp_ok hd⟩
theorem in0 : inI 0 := by unfold inI; omega
theorem in1 : inI 1 := by unfold inI; omega
theorem in2 : inI 2 := by unfold inI; omega
theorem in3 : inI 3 := by unfold inI; omega
theorem in4 : inI 4 := by unfold inI; omega
theorem dp_nil : DP [] := ⟨Nat.zero_le _, fun d hd => by cases hd⟩
theorem jobJ_jp {s : Sn} {k now : Int} {a : List Int} {j : Jb} (h : jobE s k now a j = 0) (hj : JP j) (hn : 0 ≤ now ∧ now ≤ 1099511627776) (ha : ∀ x ∈ a, inI x) (hl : s.allocs.length ≤ 16) (hok : ∀ x ∈ s.allocs, x.ok) : JP (jobJ s k now a j) := by
  obtain ⟨e12, e13, e14⟩ := jobE_parts h
  have hd := jp_draws hj
  have hst : 0 ≤ j.start ∧ j.start ≤ 1125899906842624 := ⟨hj.1.1.1, hj.1.1.2.1⟩
  have hm := hj.2.2.2.2.2.2.2.2.2.2.1
  have hu := hj.2.2.2.2.2.2.2.2.2.2.2.1
  have hs := hj.2.2.2.2.2.2.2.2.1
  unfold jobJ
  by_cases k8 : k = 8
  · rw [if_pos k8]; exact jp_put hj hd rfl rfl rfl rfl rfl rfl rfl in2 hst hm hu
  rw [if_neg k8]
  by_cases k9 : k = 9
  · rw [if_pos k9]; exact jp_put hj hd rfl rfl rfl rfl rfl rfl rfl in1 hst hm hu
  rw [if_neg k9]
  by_cases k11 : k = 11
  · rw [if_pos k11]; exact jp_put hj dp_nil rfl rfl rfl rfl rfl rfl rfl in1 (by simp) in0 hu
  rw [if_neg k11]
  by_cases k12 : k = 12
  · rw [if_pos k12]
    exact jp_put hj (some_dp (charge_dp (e12 k12).2.2 hd)) rfl rfl rfl rfl rfl rfl rfl in4 hst in0 (ag_in ha 1)
  rw [if_neg k12]
  by_cases k13 : k = 13
  · rw [if_pos k13]
    exact jp_put hj (some_dp (zip_dp (e13 k13).2 hd)) rfl rfl rfl rfl rfl rfl rfl hs hst hm hu
  rw [if_neg k13]
  by_cases k14 : k = 14
  · rw [if_pos k14]
    exact jp_put hj (draws_dp (e14 k14).2.2.2 hl hok) rfl rfl rfl rfl rfl rfl rfl in3 (by simp only; omega) (ag_in ha 1) hu
  rw [if_neg k14]
  exact hj
theorem jobsE_parts {s : Sn} {k now : Int} {a : List Int} (h : jobsE s k now a = 0) : ∃ (n : Nat) (j : Jb), findI s.jobs (ag a 0) = (n : Int) ∧ s.jobs[n]? = some j ∧ j.id = ag a 0 ∧ atJ s a = j ∧ mayK k j.state = true ∧ jobE s k now a j = 0 := by
  unfold jobsE at h
  by_cases h1 : findI s.jobs (ag a 0) < 0
  · rw [if_pos h1] at h; omega
  rw [if_neg h1] at h
  obtain ⟨n, j, e1, e2, e3⟩ := find_at h1
  have e4 := atJ_of e1 e2
  rw [e4] at h
  cases hm : mayK k j.state with
  | false => rw [hm] at h; simp at h
  | true =>
    rw [hm, if_pos rfl] at h
    exact ⟨n, j, e1, e2, e3, e4, hm, h⟩
theorem kept_mem {l : List Jb} : ∀ j ∈ kept l, j ∈ l := fun j hj => by
  unfold kept at hj
  by_cases h : 16 ≤ l.length
  · rw [if_pos h] at hj
    cases hb : bestJ l with
    | none => rw [hb] at hj; exact hj
    | some k => rw [hb] at hj; exact List.mem_of_mem_eraseIdx hj
  · rw [if_neg h] at hj; exact hj
theorem best_lt : ∀ (l : List Jb) (k : Nat) (m : Int), bestFrom l = some (k, m) → k < l.length
  | [], k, m, h => by cases h
  | j :: l, k, m, h => by
    rw [bestFrom] at h
    cases hb : bestFrom l with
    | none =>
      rw [hb] at h
      simp only at h
      split at h
      · injection h with h; injection h with h1 h2; subst h1; simp
      · cases h
    | some p =>
      obtain ⟨q, m'⟩ := p
      rw [hb] at h
      simp only at h
      have := best_lt l q m' hb
      split at h
      · injection h with h; injection h with h1 h2; subst h1; simp
      · injection h with h; injection h with h1 h2; subst h1; rw [List.length_cons]; omega
theorem kept_len {l : List Jb} (h : l.length ≤ 16) (hb : ¬ (16 ≤ l.length ∧ bestJ l = none)) : (kept l).length ≤ 15 := by
  unfold kept
  by_cases h1 : 16 ≤ l.length
  · rw [if_pos h1]
    cases hj : bestJ l with
    | none => exact absurd ⟨h1, hj⟩ hb
    | some k =>
      have hk : k < l.length := by
        unfold bestJ at hj
        cases hf : bestFrom l with
        | none => rw [hf] at hj; cases hj
        | some p =>
          obtain ⟨q, m⟩ := p
          rw [hf] at hj
          injection hj with hj
          simp only at hj
          subst hj
          exact best_lt l q m hf
      simp only
      rw [List.length_eraseIdx_of_lt hk]
      omega
  · rw [if_neg h1]; omega
theorem submitE_parts {s : Sn} {a : List Int} (h : submitE s a = 0) : inL s.funds (ag a 0) = true ∧ goodJ (newJ s a) = true ∧ ¬ (16 ≤ s.jobs.length ∧ bestJ s.jobs = none) := by
  unfold submitE at h
  cases h1 : inL s.funds (ag a 0) with
  | false => rw [h1] at h; simp at h
  | true =>
    rw [h1, if_pos rfl] at h
    cases h2 : goodJ (newJ s a) with
    | false => rw [h2] at h; simp at h
    | true =>
      rw [h2, if_pos rfl] at h
      refine ⟨rfl, rfl, fun h3 => ?_⟩
      rw [if_pos h3] at h; omega
structure Kept (s o : Sn) : Prop where
  seq : o.seq = s.seq
  world : o.world = s.world
  keys : o.keys = s.keys
  next : s.next ≤ o.next ∧ o.next ≤ s.next + 1
  nf : o.funds.length ≤ 8
  nl : o.allocs.length ≤ 16
  nr : o.rates.length ≤ 16
  nj : o.jobs.length ≤ 16
  f : ∀ x ∈ o.funds, x.ok
  l : ∀ x ∈ o.allocs, x.ok
  r : ∀ x ∈ o.rates, x.ok
  j : ∀ x ∈ o.jobs, JP x
theorem all_more {α : Type} {p : α → Prop} {l : List α} {y : α} (h : ∀ x ∈ l, p x) (hy : p y) : ∀ x ∈ l ++ [y], p x := fun x hx => by
  rcases List.mem_append.1 hx with hx | hx
  · exact h x hx
  · rw [List.mem_singleton] at hx; subst hx; exact hy
theorem kept_self {s : Sn} (hm : MayS s) (hok : s.ok) : Kept s s := by
  obtain ⟨⟨m1, m2, m3, m4, m5⟩, _, m6⟩ := hm
  obtain ⟨o1, o2, o3, o4, o5, o6, o7, o8⟩ := hok
  exact ⟨rfl, rfl, rfl, by omega, m1, m2, m3, m4, o4, o5, o6, fun x hx => ⟨m6 x hx, o7 x hx⟩⟩
theorem bank_kept {s : Sn} {k : Int} {nm : ByteArray} {a : List Int} (h : bankE s k nm a = 0) (hm : MayS s) (hok : s.ok) (ha : ∀ x ∈ a, inI x) (hnm : nm.size ≤ 16) : Kept s (bankS s k nm a) := by
  have hs := kept_self hm hok
  unfold bankE at h
  unfold bankS
  by_cases k1 : k = 1
  · rw [if_pos k1] at h ⊢
    by_cases h8 : 8 ≤ s.funds.length
    · rw [if_pos h8] at h; omega
    refine { hs with nf := by simp only [List.length_append, List.length_cons, List.length_nil]; omega, f := all_more hs.f ⟨by simp only; unfold maxLen; omega, ag_in ha 0, ag_in ha 1⟩ }
  rw [if_neg k1] at h ⊢
  by_cases k2 : k = 2
  · rw [if_pos k2] at h ⊢
    cases h1 : inL s.funds (ag a 0) with
    | false => rw [h1] at h; simp at h
    | true =>
      rw [h1, if_pos rfl] at h
      by_cases h2 : ag a 1 < 0 ∨ ag a 2 ≤ ag a 1 ∨ 1099511627776 < ag a 2 ∨ ag a 3 < 1
      · rw [if_pos h2] at h; omega
      rw [if_neg h2] at h
      by_cases h3 : 16 ≤ s.allocs.length
      · rw [if_pos h3] at h; omega
      refine { hs with nl := by simp only [List.length_append, List.length_cons, List.length_nil]; omega, l := all_more hs.l ⟨ag_in ha 0, ag_in ha 1, ag_in ha 2, in0, in0, in0⟩ }
  rw [if_neg k2] at h ⊢
  by_cases k6 : k = 6
  · rw [if_pos k6] at h ⊢
    by_cases h3 : 16 ≤ s.rates.length
    · rw [if_pos h3] at h; omega
    refine { hs with nr := by simp only [List.length_append, List.length_cons, List.length_nil]; omega, r := all_more hs.r ⟨ag_in ha 0, ag_in ha 1, ag_in ha 2⟩ }
  rw [if_neg k6]
  exact hs
theorem submit_kept {s : Sn} {a : List Int} (h : submitE s a = 0) (hm : MayS s) (hok : s.ok) (ha : ∀ x ∈ a, inI x) : Kept s (submitS s a) := by
  have hs := kept_self hm hok
  obtain ⟨h1, h2, h3⟩ := submitE_parts h
  obtain ⟨g1, g2, g3⟩ := goodJ_parts h2
  have hw : (newJ s a).wall = ag a 2 := rfl
  rw [hw] at g1
  have hnew : JP (newJ s a) := by
    refine ⟨⟨⟨Int.le_refl _, by show (0 : Int) ≤ _; decide, by rw [hw]; omega, by rw [hw]; omega, Nat.zero_le _⟩, fun d hd => by cases hd⟩, hok.2.2.1, ag_in ha 0, ag_in ha 1, ag_in ha 2, ag_in ha 3, ag_in ha 4, ag_in ha 5, in1, in0, in0, in0, fun d hd => by cases hd⟩
  have hk := kept_len hs.nj h3
  unfold submitS
  refine { hs with next := by simp only; omega, nj := by simp only [List.length_append, List.length_cons, List.length_nil]; omega, j := all_more (fun x hx => hs.j x (kept_mem x hx)) hnew }
theorem jobs_kept {s : Sn} {k now : Int} {a : List Int} (h : jobsE s k now a = 0) (hm : MayS s) (hok : s.ok) (ha : ∀ x ∈ a, inI x) (hn : 0 ≤ now ∧ now ≤ 1099511627776) : Kept s (jobsS s k now a) := by
  have hs := kept_self hm hok
  obtain ⟨n, j, e1, e2, e3, e4, e5, e6⟩ := jobsE_parts h
  unfold jobsS
  rw [e1, Int.toNat_natCast, e4]
  by_cases k10 : k = 10
  · rw [if_pos k10]
    refine { hs with nj := by simp only [List.length_eraseIdx]; split <;> have := hs.nj <;> omega, j := fun x hx => hs.j x (List.mem_of_mem_eraseIdx hx) }
  · rw [if_neg k10]
    have hj := jobJ_jp e6 (hs.j j (List.mem_of_getElem? e2)) hn ha hs.nl hs.l
    refine { hs with nj := by simp only [List.length_set]; exact hs.nj, j := fun x hx => ?_ }
    rcases List.mem_or_eq_of_mem_set hx with hx | hx
    · exact hs.j x hx
    · rw [hx]; exact hj
theorem kind_kept {s : Sn} {t : Tx} (hf : formB t = false) (h : kindE s t = 0) (hm : MayS s) (hok : s.ok) (ht : t.ok) : Kept s (kindS s t) := by
  obtain ⟨f1, f2, f3, f4, f5⟩ := form_parts hf
  unfold kindE at h
  unfold kindS
  by_cases k7 : t.kind < 7
  · rw [if_pos k7] at h ⊢; exact bank_kept h hm hok ht.2.2.2.1 f5
  rw [if_neg k7] at h ⊢
  by_cases k8 : t.kind = 7
  · rw [if_pos k8] at h ⊢; exact submit_kept h hm hok ht.2.2.2.1
  rw [if_neg k8] at h ⊢
  by_cases k15 : t.kind < 15
  · rw [if_pos k15] at h ⊢; exact jobs_kept h hm hok ht.2.2.2.1 f1
  rw [if_neg k15]
  exact kept_self hm hok
theorem posted_kept {s o : Sn} {legs : List Lg} (h : Kept s o) (hw : inI s.world) (he : postedE o legs = 0) : (posted o legs).funds = o.funds ∧ (posted o legs).rates = o.rates ∧ (posted o legs).jobs = o.jobs ∧ (posted o legs).next = o.next ∧ (posted o legs).keys = o.keys ∧ (posted o legs).seq = o.seq ∧ (posted o legs).allocs.length = o.allocs.length ∧ (∀ x ∈ (posted o legs).allocs, x.ok) ∧ inI (posted o legs).world := by
  unfold posted postedE at *
  by_cases hl : legs = []
  · rw [if_pos hl]
    exact ⟨rfl, rfl, rfl, rfl, rfl, rfl, rfl, h.l, by rw [h.world]; exact hw⟩
  · rw [if_neg hl] at he ⊢
    obtain ⟨g1, g2⟩ := Led.post_ok he (by rw [h.world]; exact hw) h.l
    exact ⟨rfl, rfl, rfl, rfl, rfl, rfl, by simp only; rw [Led.postA_ok he, Led.setA_len], g2, g1⟩
theorem keys_len {l : List ByteArray} {k : ByteArray} (h : l.length ≤ 8) : (keysK l k).length ≤ 8 := by
  unfold keysK
  split
  · exact h
  · rw [List.length_drop, List.length_append, List.length_cons, List.length_nil]; omega
theorem keys_ok {l : List ByteArray} {k : ByteArray} (h : ∀ x ∈ l, x.size ≤ maxLen) (hk : k.size ≤ maxLen) : ∀ x ∈ keysK l k, x.size ≤ maxLen := fun x hx => by
  unfold keysK at hx
  split at hx
  · exact h x hx
  · exact all_more h hk x (List.mem_of_mem_drop hx)
theorem do_may {s : Sn} {t : Tx} (h : doE s t = 0) (hm : MayS s) (hok : s.ok) (ht : t.ok) (hs : s.seq < 1152921504606846976) (hn : s.next < 1152921504606846976) :
    MayS (doS s t) ∧ (doS s t).ok ∧ (doS s t).seq = s.seq + 1 ∧ (doS s t).next ≤ s.next + 1 ∧ doT s t = { t with seq := s.seq + 1, legs := kindL s t } := by
  obtain ⟨p1, p2, p3, p4, p5⟩ := do_parts h
  obtain ⟨f1, f2, f3, f4, f5⟩ := form_parts p1
  have hk := kind_kept p1 p3 hm hok ht
  obtain ⟨q1, q2, q3, q4, q5, q6, q7, q8, q9⟩ := posted_kept (legs := kindL s t) hk hok.2.1 p4
  have hmm := hm.2.1
  have hnx := hk.next
  rw [doS_ok h]
  have e : midS s t = posted (kindS s t) (kindL s t) := rfl
  refine ⟨⟨⟨?_, ?_, ?_, ?_, ?_⟩, ⟨?_, ?_, ?_, ?_⟩, ?_⟩, ⟨?_, ?_, ?_, ?_, ?_, ?_, ?_, ?_⟩, rfl, ?_, doT_ok h⟩
  all_goals simp only [e]
  · rw [q1]; exact hk.nf
  · rw [q7]; exact hk.nl
  · rw [q2]; exact hk.nr
  · rw [q3]; exact hk.nj
  · exact keys_len hm.1.2.2.2.2
  · omega
  · omega
  · rw [q4]; omega
  · rw [q4]; omega
  · rw [q3]; exact fun j hj => (hk.j j hj).1
  · unfold inI; omega
  · exact q9
  · rw [q4]; unfold inI; omega
  · rw [q1]; exact hk.f
  · exact q8
  · rw [q2]; exact hk.r
  · rw [q3]; exact fun j hj => (hk.j j hj).2
  · exact keys_ok hok.2.2.2.2.2.2.2 (by unfold maxLen; omega)
  · rw [q4]; exact hnx.2
theorem new_may : MayS newS ∧ newS.ok := by
  refine ⟨⟨by simp [newS], by simp [newS], fun j hj => by cases hj⟩, ⟨in0, in0, in1, ?_, ?_, ?_, ?_, ?_⟩⟩
  all_goals intro x hx; cases hx
end Go.Proofs.YtjcndgopijpibaaGreat.Bok
/- Book: legs come to nothing; a transaction is done once (mathematics). -/
namespace Go.Proofs.YtjcndgopijpibaaGreat.Bok
open Go.RowKit
open Tre (inI Al goodB over)
open Led (Lg postE postW postA amts flatN)
open Ent (Tx zeroT)
open Snp (Sn zeroS)
set_option linter.unusedVariables false
theorem do_legs {s : Sn} {t : Tx} (h : doE s t = 0) : kindL s t = [] ∨ postE (kindS s t).world (kindS s t).allocs (kindL s t) = 0 := by
  obtain ⟨p1, p2, p3, p4, p5⟩ := do_parts h
  unfold postedE at p4
  by_cases hl : kindL s t = []
  · exact .inl hl
  · rw [if_neg hl] at p4; exact .inr p4
theorem legs_zero {s : Sn} {t : Tx} (h : doE s t = 0) : (amts (kindL s t)).sum = 0 ∧ (kindL s t).length ≤ 64 := by
  rcases do_legs h with e | e
  · rw [e]; exact ⟨rfl, Nat.zero_le _⟩
  · obtain ⟨h1, h2, h3, h4, h5⟩ := Led.pre_iff.1 (Led.post_iff.1 e).1
    exact ⟨h5, h3⟩
theorem flat_sum_snoc (w : Int) (al : List Al) (a : Al) : (flatN w (al ++ [a])).sum = (flatN w al).sum + (a.avail + a.lien + a.spent) := by
  rw [Led.flat_snoc]
  simp only [List.sum_append, List.sum_cons, List.sum_nil]
  omega
theorem kind_flat (s : Sn) (t : Tx) : (flatN (kindS s t).world (kindS s t).allocs).sum = (flatN s.world s.allocs).sum := by
  unfold kindS
  by_cases k7 : t.kind < 7
  · rw [if_pos k7]
    unfold bankS
    by_cases k1 : t.kind = 1
    · rw [if_pos k1]
    rw [if_neg k1]
    by_cases k2 : t.kind = 2
    · rw [if_pos k2]
      simp only
      rw [flat_sum_snoc]
      simp
    rw [if_neg k2]
    by_cases k6 : t.kind = 6
    · rw [if_pos k6]
    rw [if_neg k6]
  rw [if_neg k7]
  by_cases k8 : t.kind = 7
  · rw [if_pos k8]; rfl
  rw [if_neg k8]
  by_cases k15 : t.kind < 15
  · rw [if_pos k15]
    unfold jobsS
    split <;> rfl
  rw [if_neg k15]
theorem do_flat {s : Sn} {t : Tx} (h : doE s t = 0) : (flatN (doS s t).world (doS s t).allocs).sum = (flatN s.world s.allocs).sum := by
  rw [doS_ok h]
  show (flatN (midS s t).world (midS s t).allocs).sum = _
  rw [← kind_flat s t]
  show (flatN (posted _ _).world (posted _ _).allocs).sum = _
  unfold posted
  rcases do_legs h with e | e
  · rw [if_pos e]
  · by_cases hl : kindL s t = []
    · rw [if_pos hl]
    · rw [if_neg hl]
      simp only
      rw [Led.post_flat e, Led.post_zero e]
theorem key_kept {l : List ByteArray} {k : ByteArray} (hk : k.size ≠ 0) : hasK (keysK l k) k = true := by
  rw [hasK_iff]
  unfold keysK
  rw [if_neg hk, List.drop_append]
  refine List.mem_append.2 (.inr ?_)
  rw [show l.length + 1 - 8 - l.length = 0 by omega, List.drop_zero]
  exact List.mem_singleton.2 rfl
theorem do_once {s : Sn} {t : Tx} (h : doE s t = 0) : applyE (doS s t) (doT s t) ≠ 0 ∧ (t.key.size ≠ 0 → applyE (doS s t) (doT s t) = 6 ∧ doE (doS s t) t = 6) := by
  obtain ⟨p1, p2, p3, p4, p5⟩ := do_parts h
  have hT := doT_ok h
  have hk : ∀ u : Tx, formB u = false → u.key = t.key → t.key.size ≠ 0 → doE (doS s t) u = 6 := fun u hu hk h0 => by
    unfold doE
    rw [if_neg (by rw [hu]; simp), if_pos]
    refine ⟨by rw [hk]; exact h0, ?_⟩
    rw [hk, doS_ok h]
    exact key_kept h0
  have hf : formB (doT s t) = false := by rw [hT]; exact p1
  have hkey : (doT s t).key = t.key := by rw [hT]
  refine ⟨fun e => ?_, fun h0 => ⟨?_, hk t p1 rfl h0⟩⟩
  · unfold applyE at e
    by_cases he : doE (doS s t) (doT s t) ≠ 0
    · rw [if_pos he] at e; exact he e
    rw [if_neg he] at e
    have he' : doE (doS s t) (doT s t) = 0 := by simpa using he
    have hne : doT (doS s t) (doT s t) ≠ doT s t := fun hh => by
      have h1 : (doT (doS s t) (doT s t)).seq = (doS s t).seq + 1 := by rw [doT_ok he']
      rw [hh, hT, doS_ok h] at h1
      simp only at h1
      omega
    rw [if_neg hne] at e
    omega
  · have := hk (doT s t) hf hkey h0
    rw [apply_err (by rw [this]; decide), this]
def stepS (s : Sn) (t : Tx) : Sn := if doE s t = 0 then doS s t else s
def playS (l : List Tx) : Sn := l.foldl stepS newS
theorem play_next {l : List Tx} {k : Nat} {t : Tx} (h : l[k]? = some t) : playS (l.take (k + 1)) = stepS (playS (l.take k)) t := by
  obtain ⟨hk, e⟩ := List.getElem?_eq_some_iff.1 h
  unfold playS
  rw [List.take_succ_eq_append_getElem hk, e, List.foldl_append]; rfl
def Inv (k : Int) (s : Sn) : Prop := MayS s ∧ s.ok ∧ s.seq ≤ k ∧ s.next ≤ k + 1
theorem inv_new : Inv 0 newS := ⟨new_may.1, new_may.2, by decide, by decide⟩
theorem inv_le {k m : Int} {s : Sn} (h : Inv k s) (hm : k ≤ m) : Inv m s := ⟨h.1, h.2.1, by have := h.2.2.1; omega, by have := h.2.2.2; omega⟩
theorem inv_do {k : Int} {s : Sn} {t : Tx} (h : Inv k s) (hk : k ≤ 1000) (ht : t.ok) (he : doE s t = 0) : Inv (k + 1) (doS s t) := by
  obtain ⟨h1, h2, h3, h4⟩ := h
  obtain ⟨g1, g2, g3, g4, g5⟩ := do_may he h1 h2 ht (by omega) (by omega)
  exact ⟨g1, g2, by omega, by omega⟩
theorem inv_step {k : Int} {s : Sn} {t : Tx} (h : Inv k s) (hk : k ≤ 1000) (ht : t.ok) : Inv (k + 1) (stepS s t) := by
  unfold stepS
  by_cases he : doE s t = 0
  · rw [if_pos he]; exact inv_do h hk ht he
  · rw [if_neg he]; exact inv_le h (by omega)
theorem lg_ok {s : Sn} {t : Tx} (h : doE s t = 0) (hm : MayS s) (hok : s.ok) (ht : t.ok) : ∀ g ∈ kindL s t, inI g.acct ∧ inI g.amt := fun g hg => by
  obtain ⟨p1, p2, p3, p4, p5⟩ := do_parts h
  have hnl := (kind_kept p1 p3 hm hok ht).nl
  rcases do_legs h with e | e
  · rw [e] at hg; cases hg
  · obtain ⟨h1, h2, h3, h4, h5⟩ := Led.pre_iff.1 (Led.post_iff.1 e).1
    obtain ⟨g1, g2, g3⟩ := h1 g hg
    have h6 := (Led.addE_iff.1 h4).1 g.amt (List.mem_map.2 ⟨g, hg, rfl⟩)
    refine ⟨?_, Led.inI_fits h6⟩
    unfold inI
    omega
theorem filled_ok {s : Sn} {t : Tx} (hm : MayS s) (hok : s.ok) (ht : t.ok) : (doT s t).ok := by
  by_cases h : doE s t = 0
  · rw [doT_ok h]
    have hs := hm.2.1
    exact ⟨by unfold inI; simp only; omega, ht.2.1, ht.2.2.1, ht.2.2.2.1, lg_ok h hm hok ht⟩
  · rw [doT_no h]
    exact ⟨in0, in0, in0, (fun x hx => by cases hx), (fun x hx => by cases hx)⟩
end Go.Proofs.YtjcndgopijpibaaGreat.Bok
/- Book: the laws' fixed fact (mathematics). -/
namespace Go.Proofs.YtjcndgopijpibaaGreat.Bok
open Go.RowKit
open Ent (Tx)
open Snp (Sn)
set_option linter.unusedVariables false
def tx1 : Tx := ⟨0, 0, 1, ⟨#[]⟩, ⟨#[97]⟩, [-1, 0], []⟩
def tx2 : Tx := ⟨0, 0, 2, ⟨#[107]⟩, ⟨#[]⟩, [0, 0, 99, 100], []⟩
def tx3 : Tx := ⟨0, 0, 7, ⟨#[]⟩, ⟨#[]⟩, [0, 3, 10, 0, 0, 2], []⟩
def tx4 : Tx := ⟨0, 5, 14, ⟨#[]⟩, ⟨#[]⟩, [1, 7], []⟩
def tx5 : Tx := ⟨0, 9, 12, ⟨#[]⟩, ⟨#[]⟩, [1, 4], []⟩
def tx6 : Tx := ⟨0, 0, 3, ⟨#[107]⟩, ⟨#[]⟩, [0, 1], []⟩
def st4 : Sn := ⟨4, -100, 2, [⟨⟨#[97]⟩, -1, 0⟩], [⟨0, 0, 99, 40, 60, 0⟩], [], [⟨1, 0, 3, 10, 0, 0, 2, 3, 5, 7, 0, [⟨0, 60⟩]⟩], [⟨#[107]⟩]⟩
theorem play4 : playS ([tx1, tx2, tx3, tx4].take 9) = st4 := by kernel_rfl
theorem end5 : doE st4 tx5 = 0 ∧ (doT st4 tx5).legs.length = 3 ∧ (doS st4 tx5).world = -100 ∧ (doS st4 tx5).allocs = [⟨0, 0, 99, 76, 0, 24⟩] := ⟨by kernel_rfl, by kernel_rfl, by kernel_rfl, by kernel_rfl⟩
theorem twice6 : doE st4 tx6 = 6 := by kernel_rfl
theorem in40 {n : Int} (h : -1099511627776 ≤ n ∧ n ≤ 1099511627776) : Tre.inI n := by unfold Tre.inI; omega
theorem tx_small {t : Tx} (h : ((-1099511627776 ≤ t.seq ∧ t.seq ≤ 1099511627776) ∧ (-1099511627776 ≤ t.time ∧ t.time ≤ 1099511627776) ∧ (-1099511627776 ≤ t.kind ∧ t.kind ≤ 1099511627776)) ∧ (t.args.all fun x => decide (-1099511627776 ≤ x ∧ x ≤ 1099511627776)) = true ∧ t.legs = []) : t.ok := by
  obtain ⟨⟨h1, h2, h3⟩, h4, h5⟩ := h
  refine ⟨in40 h1, in40 h2, in40 h3, fun x hx => in40 ?_, fun g hg => ?_⟩
  · have := (List.all_eq_true.1 h4) x hx
    simpa using this
  · rw [h5] at hg; cases hg
theorem txs_ok : (∀ t ∈ [tx1, tx2, tx3, tx4], t.ok) ∧ tx5.ok ∧ tx6.ok := by
  refine ⟨fun t ht => ?_, tx_small (by unfold tx5; decide), tx_small (by unfold tx6; decide)⟩
  simp only [List.mem_cons, List.not_mem_nil, or_false] at ht
  rcases ht with rfl | rfl | rfl | rfl
  · exact tx_small (by unfold tx1; decide)
  · exact tx_small (by unfold tx2; decide)
  · exact tx_small (by unfold tx3; decide)
  · exact tx_small (by unfold tx4; decide)
end Go.Proofs.YtjcndgopijpibaaGreat.Bok
/- Lists of numbers in memory: read, made, a call's own. -/
namespace Go.Proofs.YtjcndgopijpibaaGreat.Tre
set_option maxRecDepth 100000
open Go.RowKit
open Go.Sort
open Kit
set_option linter.unusedVariables false
def encI (n : Int) : List Value := [.int .i64 n]
theorem encI_len (x : Int) : (encI x).length = 1 := rfl
theorem encI_one (x : Int) : ∀ u ∈ encI x, u.oneCell' = true := by
  intro u hu
  simp [encI] at hu
  subst hu; rfl
variable {w w' : World}
abbrev IntsL := Lst encI 1
theorem int_cell {b o n c k : Nat} {l : List Int} (h : IntsL w (some ⟨b, o, none⟩) n c l) (hk : k < l.length) : w.cell? ⟨b, o + k, none⟩ = some (.int .i64 l[k]) := by
  have := row_cell h.row hk rfl (i := 0) (by omega)
  simpa [encI] using this
def NewI (w : World) (base : Nat) (v : Value) (l : List Int) : Prop := ∃ a c, v = .slice a l.length c ∧ IntsL w a l.length c l ∧ ∀ q, a = some q → base ≤ q.block ∧ q.block < w.heap.size
theorem newI_keep {base : Nat} {v : Value} {l : List Int} (h : NewI w base v l) (hb : Below w.heap.size w w') : NewI w' base v l := by
  obtain ⟨a, c, e, h1, h2⟩ := h
  exact ⟨a, c, e, lst_keep encI_len h1 hb, fun q hq => ⟨(h2 q hq).1, Nat.lt_of_lt_of_le (h2 q hq).2 hb.size⟩⟩
theorem newI_le {base base' : Nat} {v : Value} {l : List Int} (h : NewI w base v l) (hb : base' ≤ base) : NewI w base' v l := by
  obtain ⟨a, c, e, h1, h2⟩ := h
  exact ⟨a, c, e, h1, fun q hq => ⟨Nat.le_trans hb (h2 q hq).1, (h2 q hq).2⟩⟩
theorem newI_own {base : Nat} {v : Value} {l : List Int} (h : Owns encI 1 3 w base v l) : NewI w base v l := by
  obtain ⟨a, c, rfl, h1, h2, h3, h4⟩ := owns_row encI_len h
  refine ⟨a, c, rfl, ⟨rfl, h1, h2, fun e => ⟨by have := h3 e; omega, h3 e⟩, h4⟩, fun q hq => ?_⟩
  subst hq
  exact World.ownsRow.lt h q.block rfl
theorem owns_lit (w : World) (f : Int) (base : Nat) (hb : base ≤ w.heap.size) : Owns encI 1 3 (w.alloc (.cells #[.int .i64 f] 3)) base (.slice (some ⟨w.heap.size, 0, none⟩) 1 1) [f] :=
  ⟨rfl, .inr ⟨w.heap.size, 1, _, rfl, hb, heap_alloc_new w _, Nat.le_refl _, by unfold maxLen; omega, rfl, rfl⟩⟩
theorem info_i : (Tryz.prog.info? 3).map (fun i => (i.zero, i.size, i.bytes)) = some (some (.int .i64 0), 1, 8) := by kernel_rfl
theorem own_chg' {base : Nat} {v : Value} {l : List Int} (h : Owns encI 1 3 w base v l) (hb : Below w.heap.size w w') : Owns encI 1 3 w' base v l := by
  rcases h with ⟨h1, h2 | ⟨g, cap, cur, e1, e2, e3, e4, e5, e6, e7⟩⟩
  · exact ⟨h1, .inl h2⟩
  · exact ⟨h1, .inr ⟨g, cap, cur, e1, e2, by rw [hb.block g (Array.getElem?_eq_some_iff.1 e3).1]; exact e3, e4, e5, e6, e7⟩⟩
theorem lit_row (w : World) (k : Int) : Kit.Row encI 1 (w.alloc (.cells #[.int .i64 k] 3)) (some ⟨w.heap.size, 0, none⟩) [k] := by
  obtain ⟨a', c', e', _, _, _, hrow⟩ := owns_row encI_len (owns_lit w k w.heap.size (Nat.le_refl _))
  cases e'
  exact hrow
theorem lit2_row (w : World) (x y : Int) : Kit.Row encI 1 (w.alloc (.cells #[.int .i64 x, .int .i64 y] 3)) (some ⟨w.heap.size, 0, none⟩) [x, y] := row_new encI_len w [x, y] _ _ _ rfl rfl
abbrev OwI (w : World) (base : Nat) (v : Value) (l : List Int) : Prop := Owns encI 1 3 w base v l
theorem run_bs_i (x : Int) (w : World) : (Instr.buildSlice 31 1 #[(0, .int .i64 x)]).run Tryz.prog w = .ok (.slice (some ⟨w.heap.size, 0, none⟩) 1 1) (w.alloc (.cells #[.int .i64 x] 3)) := by
  simp [go_sem]
end Go.Proofs.YtjcndgopijpibaaGreat.Tre
/- Snap: states in memory; an argument opened. -/
namespace Go.Proofs.YtjcndgopijpibaaGreat.Snp
set_option maxRecDepth 100000
open Go.RowKit
open Go.Sort
open Kit
open Tre (Lst inI lst_keep lst_take lst_at lst_new lst_none i64_wf cells_int cells_str Funds Allocs Al encF encF_len encL_len RFd opens_funds funds_arg RAl opens_allocs allocs_arg)
open Rte (Rt Rates encR encR_len opens_rates rates_arg)
open Job (Jb Jv Jobs encJ encJ_len RJb opens_jobs jobs_arg job_keep)
set_option linter.unusedVariables false
variable {w w' : World}
def encK (s : ByteArray) : List Value := [.string s]
theorem encK_len (s : ByteArray) : (encK s).length = 1 := rfl
theorem encK_one (x : ByteArray) : ∀ u ∈ encK x, u.oneCell' = true := by
  intro u hu
  simp [encK] at hu
  subst hu; rfl
abbrev Keys := Lst encK 1
theorem key_cell {b o n c k : Nat} {l : List ByteArray} (h : Keys w (some ⟨b, o, none⟩) n c l) (hk : k < l.length) : w.cell? ⟨b, o + k, none⟩ = some (.string l[k]) := by
  have := row_cell h.row hk rfl (i := 0) (by omega)
  simpa [encK] using this
theorem opens_keys : Opn.Opens Tryz.prog w 27 (Opn.RSlice Opn.RStr 1 w) := Opn.opens_slice Tryz.underlying27 cells_str (by omega) (Opn.opens_str Tryz.underlying9)
theorem keys_arg {a : Option Addr} {len cap : Nat} {l : List ByteArray} (h : Opn.RSlice Opn.RStr 1 w [.slice a len cap] l) : Keys w a len cap l ∧ ∀ x ∈ l, x.size ≤ maxLen := by
  obtain ⟨a', len', cap', he, hl, hc, hm, hn, hcs⟩ := h
  simp at he
  obtain ⟨rfl, rfl, rfl⟩ := he
  exact ⟨⟨hl, hc, hm, hn, Kit.row_of_cells (fun _ _ h => h.1) hcs⟩, Kit.all_of_cells (fun _ _ h => h.2) hcs⟩
structure Pl where
  a : Option Addr
  n : Nat
  c : Nat
abbrev Pl.v (p : Pl) : Value := .slice p.a p.n p.c
def Pl.nil : Pl := ⟨none, 0, 0⟩
structure Sv where
  seq : Int
  world : Int
  next : Int
  funds : List Tre.Fd
  allocs : List Al
  rates : List Rt
  jobs : List Jv
  keys : List ByteArray
  f : Pl
  l : Pl
  r : Pl
  j : Pl
  k : Pl
abbrev Sv.t (x : Sv) : Sn := ⟨x.seq, x.world, x.next, x.funds, x.allocs, x.rates, x.jobs.map (·.t), x.keys⟩
def encV (x : Sv) : List Value := [.int .i64 x.seq, .int .i64 x.world, .int .i64 x.next, x.f.v, x.l.v, x.r.v, x.j.v, x.k.v]
abbrev valV (x : Sv) : Value := .agg #[.int .i64 x.seq, .int .i64 x.world, .int .i64 x.next, .slice x.f.a x.f.n x.f.c, .slice x.l.a x.l.n x.l.c, .slice x.r.a x.r.n x.r.c, .slice x.j.a x.j.n x.j.c, .slice x.k.a x.k.n x.k.c]
structure Sv.In (x : Sv) (w : World) : Prop where
  funds : Funds w x.f.a x.f.n x.f.c x.funds
  allocs : Allocs w x.l.a x.l.n x.l.c x.allocs
  rates : Rates w x.r.a x.r.n x.r.c x.rates
  jobs : Jobs w x.j.a x.j.n x.j.c x.jobs
  keys : Keys w x.k.a x.k.n x.k.c x.keys
  draws : ∀ y ∈ x.jobs, y.In w
theorem in_keep {x : Sv} (h : x.In w) (hb : Below w.heap.size w w') : x.In w' :=
  ⟨lst_keep encF_len h.funds hb, lst_keep encL_len h.allocs hb, lst_keep encR_len h.rates hb, lst_keep encJ_len h.jobs hb, lst_keep encK_len h.keys hb, fun y hy => job_keep (h.draws y hy) hb⟩
def RSt (w : World) (cs : List Value) (x : Sv) : Prop := cs = encV x ∧ x.In w ∧ x.t.ok
theorem cells_state : Tryz.prog.cellsOf 29 = 8 := by kernel_rfl
theorem cells_funds : Tryz.prog.cellsOf 23 = 1 := by kernel_rfl
theorem cells_allocs : Tryz.prog.cellsOf 24 = 1 := by kernel_rfl
theorem cells_rates : Tryz.prog.cellsOf 25 = 1 := by kernel_rfl
theorem cells_jobs : Tryz.prog.cellsOf 26 = 1 := by kernel_rfl
theorem cells_keys : Tryz.prog.cellsOf 27 = 1 := by kernel_rfl
theorem opens_state : Opn.Opens Tryz.prog w 29 (RSt w) := by
  refine Opn.opens_struct Tryz.underlying29 fun cs hlen hf => ?_
  rw [cells_state] at hlen
  match cs, hlen with
  | [d0, d1, d2, d3, d4, d5, d6, d7], _ =>
    obtain ⟨k0, h0, w0⟩ := hf 0 _ rfl _ _ (Opn.opens_int Tryz.underlying3)
    obtain ⟨k1, h1, w1⟩ := hf 1 _ rfl _ _ (Opn.opens_int Tryz.underlying3)
    obtain ⟨k2, h2, w2⟩ := hf 2 _ rfl _ _ (Opn.opens_int Tryz.underlying3)
    obtain ⟨k3, h3⟩ := hf 3 _ rfl _ _ opens_funds
    obtain ⟨k4, h4⟩ := hf 4 _ rfl _ _ opens_allocs
    obtain ⟨k5, h5⟩ := hf 5 _ rfl _ _ opens_rates
    obtain ⟨k6, h6⟩ := hf 6 _ rfl _ _ opens_jobs
    obtain ⟨k7, h7⟩ := hf 7 _ rfl _ _ opens_keys
    simp [cells_int, cells_funds, cells_allocs, cells_rates, cells_jobs, cells_keys] at h0 h1 h2 h3 h4 h5 h6 h7
    obtain ⟨a3, n3, c3, e3, -⟩ := id h3
    obtain ⟨a4, n4, c4, e4, -⟩ := id h4
    obtain ⟨a5, n5, c5, e5, -⟩ := id h5
    obtain ⟨a6, n6, c6, e6, -⟩ := id h6
    obtain ⟨a7, n7, c7, e7, -⟩ := id h7
    injection e3 with e3
    injection e4 with e4
    injection e5 with e5
    injection e6 with e6
    injection e7 with e7
    subst h0 h1 h2 e3 e4 e5 e6 e7
    obtain ⟨g3, o3⟩ := funds_arg h3
    obtain ⟨g4, o4⟩ := allocs_arg h4
    obtain ⟨g5, o5⟩ := rates_arg h5
    obtain ⟨g6, i6, o6⟩ := jobs_arg h6
    obtain ⟨g7, o7⟩ := keys_arg h7
    refine ⟨⟨k0, k1, k2, k3, k4, k5, k6, k7, ⟨a3, n3, c3⟩, ⟨a4, n4, c4⟩, ⟨a5, n5, c5⟩, ⟨a6, n6, c6⟩, ⟨a7, n7, c7⟩⟩, rfl, ⟨g3, g4, g5, g6, g7, i6⟩, i64_wf w0, i64_wf w1, i64_wf w2, o3, o4, o5, fun x hx => ?_, o7⟩
    obtain ⟨y, hy, rfl⟩ := List.mem_map.1 hx
    exact o6 y hy
end Go.Proofs.YtjcndgopijpibaaGreat.Snp
/- Entry: transactions in memory; an argument opened. -/
namespace Go.Proofs.YtjcndgopijpibaaGreat.Ent
set_option maxRecDepth 100000
open Go.RowKit
open Go.Sort
open Kit
open Tre (Lst inI lst_keep lst_take lst_at lst_new lst_none i64_wf cells_int IntsL int_cell encI encI_len encI_one OwI own_chg' info_i run_ld2)
open Led (Lg encG encG_len encG_one Legs leg_cells RLg opens_leg opens_legs legs_arg info_leg)
set_option linter.unusedVariables false
variable {w w' : World}
structure Tv where
  t : Tx
  a1 : Option Addr
  n1 : Nat
  c1 : Nat
  a2 : Option Addr
  n2 : Nat
  c2 : Nat
def encV (x : Tv) : List Value := [.int .i64 x.t.seq, .int .i64 x.t.time, .int .i64 x.t.kind, .string x.t.key, .string x.t.name, .slice x.a1 x.n1 x.c1, .slice x.a2 x.n2 x.c2]
abbrev valV (x : Tv) : Value := .agg #[.int .i64 x.t.seq, .int .i64 x.t.time, .int .i64 x.t.kind, .string x.t.key, .string x.t.name, .slice x.a1 x.n1 x.c1, .slice x.a2 x.n2 x.c2]
structure Tv.In (x : Tv) (w : World) : Prop where
  args : IntsL w x.a1 x.n1 x.c1 x.t.args
  legs : Legs w x.a2 x.n2 x.c2 x.t.legs
  key : x.t.key.size ≤ maxLen
  name : x.t.name.size ≤ maxLen
theorem in_keep {x : Tv} (h : x.In w) (hb : Below w.heap.size w w') : x.In w' := ⟨lst_keep encI_len h.args hb, lst_keep encG_len h.legs hb, h.key, h.name⟩
def RTx (w : World) (cs : List Value) (x : Tv) : Prop := cs = encV x ∧ x.In w ∧ x.t.ok
theorem cells_tx : Tryz.prog.cellsOf 34 = 7 := by kernel_rfl
theorem cells_str : Tryz.prog.cellsOf 9 = 1 := by kernel_rfl
theorem cells_ints : Tryz.prog.cellsOf 31 = 1 := by kernel_rfl
theorem cells_legs : Tryz.prog.cellsOf 32 = 1 := by kernel_rfl
def RIn (cs : List Value) (n : Int) : Prop := cs = encI n ∧ inI n
theorem opens_num : Opn.Opens Tryz.prog w 3 RIn := Opn.Opens.mono (Opn.opens_int Tryz.underlying3) fun cs n ⟨h, hw⟩ => ⟨n, h, i64_wf hw⟩
theorem opens_nums : Opn.Opens Tryz.prog w 31 (Opn.RSlice RIn 1 w) := Opn.opens_slice Tryz.underlying31 cells_int (by omega) opens_num
theorem nums_arg {a : Option Addr} {len cap : Nat} {l : List Int} (h : Opn.RSlice RIn 1 w [.slice a len cap] l) : IntsL w a len cap l ∧ ∀ x ∈ l, inI x := by
  obtain ⟨a', len', cap', he, hl, hc, hm, hn, hcs⟩ := h
  simp at he
  obtain ⟨rfl, rfl, rfl⟩ := he
  exact ⟨⟨hl, hc, hm, hn, Kit.row_of_cells (fun _ _ h => h.1) hcs⟩, Kit.all_of_cells (fun _ _ h => h.2) hcs⟩
theorem opens_tx : Opn.Opens Tryz.prog w 34 (RTx w) := by
  refine Opn.opens_struct Tryz.underlying34 fun cs hlen hf => ?_
  rw [cells_tx] at hlen
  match cs, hlen with
  | [d0, d1, d2, d3, d4, d5, d6], _ =>
    obtain ⟨k0, h0, w0⟩ := hf 0 _ rfl _ _ (Opn.opens_int Tryz.underlying3)
    obtain ⟨k1, h1, w1⟩ := hf 1 _ rfl _ _ (Opn.opens_int Tryz.underlying3)
    obtain ⟨k2, h2, w2⟩ := hf 2 _ rfl _ _ (Opn.opens_int Tryz.underlying3)
    obtain ⟨k3, h3, w3⟩ := hf 3 _ rfl _ _ (Opn.opens_str Tryz.underlying9)
    obtain ⟨k4, h4, w4⟩ := hf 4 _ rfl _ _ (Opn.opens_str Tryz.underlying9)
    obtain ⟨k5, h5⟩ := hf 5 _ rfl _ _ opens_nums
    obtain ⟨k6, h6⟩ := hf 6 _ rfl _ _ opens_legs
    simp [cells_int, cells_str, cells_ints, cells_legs] at h0 h1 h2 h3 h4 h5 h6
    obtain ⟨a5, n5, c5, e5, -⟩ := id h5
    obtain ⟨a6, n6, c6, e6, -⟩ := id h6
    injection e5 with e5
    injection e6 with e6
    subst h0 h1 h2 h3 h4 e5 e6
    obtain ⟨g5, o5⟩ := nums_arg h5
    obtain ⟨g6, o6⟩ := legs_arg h6
    exact ⟨⟨⟨k0, k1, k2, k3, k4, k5, k6⟩, a5, n5, c5, a6, n6, c6⟩, rfl, ⟨g5, g6, w3, w4⟩, i64_wf w0, i64_wf w1, i64_wf w2, o5, fun g hg => o6 g hg⟩
end Go.Proofs.YtjcndgopijpibaaGreat.Ent
