/- Common to the claims of this seat, part 7: texts that were written one by one, laid behind one another. -/
import Derived.Test.YtjcndgopijpibaaGreatPart6
/- A region that draws its order: some operations make or write memory, each of these waits for the one ahead of it; all others only read: what is read is told ahead of the region, what is made is told step by step. -/
namespace Go.Proofs.YtjcndgopijpibaaGreat.Chn
open Go.RowKit
open Rel
def apartC : List Oper → Bool
  | [] => true
  | o :: l => (o.dst.isNone || l.all (fun x => x.dst != o.dst)) && apartC l
theorem apartC_at (l : List Oper) : apartC l = true → ∀ (i j : Nat) (o o' : Oper) (d : Tmp), l[i]? = some o → l[j]? = some o' → i ≠ j → o.dst = some d → o'.dst ≠ some d := by
  induction l with
  | nil => intro _ i j o o' d e; simp at e
  | cons x l ih =>
    intro h i j o o' d e e' hne hd
    simp only [apartC, Bool.and_eq_true, Bool.or_eq_true, List.all_eq_true, bne_iff_ne, ne_eq] at h
    cases i with
    | zero =>
      cases j with
      | zero => exact absurd rfl hne
      | succ j =>
        simp at e e'; subst e
        rcases h.1 with h1 | h1
        · rw [hd] at h1; cases h1
        · intro he
          exact h1 _ (List.mem_of_getElem? e') (he.trans hd.symm)
    | succ i =>
      cases j with
      | zero =>
        simp at e e'; subst e'
        intro he
        rcases h.1 with h1 | h1
        · rw [he] at h1; cases h1
        · exact h1 _ (List.mem_of_getElem? e) (hd.trans he.symm)
      | succ j => exact ih h.2 i j o o' d (by simpa using e) (by simpa using e') (by omega) hd
variable {P : Program} {l : List Oper} {Q : Exit → Act → World → Prop} {V : Nat → Option Value} {ch : List Nat} {Φ : Nat → List Value → World → Prop} {a0 : Act}
def out (l : List Oper) (a : Act) (k : Nat) : Value := match l[k]? with
  | some o => (match o.dst with | some d => slot a d | none => undef)
  | none => undef
def chainB (l : List Oper) : List Nat → Bool
  | i :: j :: r => (match l[j]? with | some o => waits o i | none => false) && chainB l (j :: r)
  | _ => true
def depsOf (l : List Oper) (k : Nat) : List Nat := match l[k]? with
  | some o => o.after.toList.filterMap fun e => if Region.binds .any e then some e.on else none
  | none => []
theorem depsOf_waits {l : List Oper} {k i : Nat} (h : i ∈ depsOf l k) : ∃ o, l[k]? = some o ∧ waits o i = true := by
  unfold depsOf at h
  cases hk : l[k]? with
  | none => rw [hk] at h; cases h
  | some o =>
    rw [hk] at h
    refine ⟨o, rfl, ?_⟩
    obtain ⟨e, he, hi⟩ := List.mem_filterMap.1 h
    unfold waits
    refine List.any_eq_true.2 ⟨e, he, ?_⟩
    split at hi
    · rename_i hb
      injection hi with hi
      simp [hi, hb]
    · cases hi
def needs (l : List Oper) : Nat → List Nat → List Nat
  | 0, N => N
  | i + 1, N => needs l i (if N.contains i then depsOf l i ++ N else N)
theorem needs_came {l : List Oper} {L : Array Bool} (h6 : ∀ (j : Nat) (o' : Oper) (i : Nat), l[j]? = some o' → L.getD j false = true → waits o' i = true → L.getD i false = true) : ∀ (i : Nat) (N : List Nat), (∀ x ∈ N, L.getD x false = true) → ∀ x ∈ needs l i N, L.getD x false = true
  | 0, N, hN => hN
  | i + 1, N, hN => by
    unfold needs
    refine needs_came h6 i _ ?_
    split
    · rename_i hc
      have hi := hN i (List.contains_iff_mem.1 hc)
      intro x hx
      rcases List.mem_append.1 hx with hx | hx
      · obtain ⟨o, ho, hw⟩ := depsOf_waits hx
        exact h6 i o x ho hi hw
      · exact hN x hx
    · exact hN
def needsB (l : List Oper) (x k : Nat) : Bool := (needs l x (depsOf l x)).contains k
theorem needsB_came {l : List Oper} {L : Array Bool} (h6 : ∀ (j : Nat) (o' : Oper) (i : Nat), l[j]? = some o' → L.getD j false = true → waits o' i = true → L.getD i false = true) {x k : Nat} (h : needsB l x k = true) (hx : L.getD x false = true) : L.getD k false = true :=
  needs_came h6 x (depsOf l x) (fun y hy => by obtain ⟨o, ho, hw⟩ := depsOf_waits hy; exact h6 x o y ho hx hw) k (List.contains_iff_mem.1 h)
def till (l : List Oper) (k : Nat) : List Nat → Nat
  | [] => 0
  | i :: r => if needsB l i k then 0 else till l k r + 1
def earlyB (l : List Oper) (k : Nat) (s : Tmp) : Bool := (List.range l.length).all fun j => (match l[j]? with | some o => o.dst != some s || needsB l j k | none => true)
theorem early_at {l : List Oper} {k : Nat} {s : Tmp} (h : earlyB l k s = true) {j : Nat} {o : Oper} (ho : l[j]? = some o) (hd : o.dst = some s) : needsB l j k = true := by
  have hj := (List.getElem?_eq_some_iff.1 ho).1
  have := List.all_eq_true.1 h j (List.mem_range.2 hj)
  rw [ho] at this
  simpa [hd] using this
structure Cx (l : List Oper) (V : Nat → Option Value) (a0 : Act) (k : Nat) (o : Oper) (a : Act) : Prop where
  base : ∀ s, earlyB l k s = true → slot a s = slot a0 s
  room : a.tmps.size = a0.tmps.size
  dep : ∀ (j : Nat) (o' : Oper) (d : Tmp) (v : Value), l[j]? = some o' → o'.dst = some d → waits o j = true → V j = some v → slot a d = v
theorem Cx.old {k : Nat} {o : Oper} {a : Act} (c : Cx l V a0 k o a) (s : Tmp) {v : Value} (h : earlyB l k s = true) (hv : slot a0 s = v) : slot a s = v := (c.base s h).trans hv
def depB (l : List Oper) (o : Oper) (j : Nat) (d : Tmp) : Bool := waits o j && (match l[j]? with | some o' => o'.dst == some d | none => false)
theorem Cx.get {k : Nat} {o : Oper} {a : Act} (c : Cx l V a0 k o a) (j : Nat) (d : Tmp) {v : Value} (h : depB l o j d = true) (hv : V j = some v) : slot a d = v := by
  unfold depB at h
  simp only [Bool.and_eq_true] at h
  cases ho : l[j]? with
  | none => rw [ho] at h; simp at h
  | some o' =>
    rw [ho] at h
    exact c.dep j o' d v ho (by simpa using h.2) h.1 hv
def Reads (P : Program) (l : List Oper) (Q : Exit → Act → World → Prop) (V : Nat → Option Value) (ch : List Nat) (Φ : Nat → List Value → World → Prop) (a0 : Act) (k : Nat) (o : Oper) (v : Value) : Prop :=
  ∀ a w j vs, Cx l V a0 k o a → j ≤ till l k ch → Φ j vs w →
    (Region.wanted o (yielded l.toArray a.tmps) = true ∧ o.wp P a w (fun a' w' => a' = a.put o.dst v ∧ w' = w) Q) ∨ (Region.wanted o (yielded l.toArray a.tmps) = false ∧ v = undef)
def Makes (P : Program) (l : List Oper) (Q : Exit → Act → World → Prop) (V : Nat → Option Value) (ch : List Nat) (Φ : Nat → List Value → World → Prop) (a0 : Act) (i k : Nat) (o : Oper) : Prop :=
  ∀ a w, Cx l V a0 k o a → Φ i ((ch.take i).map (out l a)) w →
    Region.wanted o (yielded l.toArray a.tmps) = true ∧ o.wp P a w (fun a' w' => ∃ v, a' = a.put o.dst v ∧ Φ (i + 1) ((ch.take i).map (out l a) ++ [if o.dst.isSome then v else undef]) w') Q
def Steps (P : Program) (l : List Oper) (Q : Exit → Act → World → Prop) (V : Nat → Option Value) (ch : List Nat) (Φ : Nat → List Value → World → Prop) (a0 : Act) : Nat → List Oper → Prop
  | _, [] => True
  | k, o :: r => (match V k with
    | some v => Reads P l Q V ch Φ a0 k o v
    | none => ∃ i, ch[i]? = some k ∧ Makes P l Q V ch Φ a0 i k o) ∧ Steps P l Q V ch Φ a0 (k + 1) r
theorem steps_at (r : List Oper) : ∀ (k : Nat), Steps P l Q V ch Φ a0 k r → ∀ (j : Nat) (o : Oper), r[j]? = some o → (match V (k + j) with
    | some v => Reads P l Q V ch Φ a0 (k + j) o v
    | none => ∃ i, ch[i]? = some (k + j) ∧ Makes P l Q V ch Φ a0 i (k + j) o) := by
  induction r with
  | nil => intro k _ j o e; simp at e
  | cons x r ih =>
    intro k h j o e
    cases j with
    | zero =>
      simp at e; subst e
      exact h.1
    | succ j =>
      have := ih (k + 1) h.2 j o (by simpa using e)
      rw [show k + (j + 1) = k + 1 + j by omega]; exact this
structure Inv (l : List Oper) (V : Nat → Option Value) (ch : List Nat) (Φ : Nat → List Value → World → Prop) (a0 : Act) (L : Array Bool) (a : Act) (w : World) : Prop where
  size : L.size = l.length
  base : ∀ s, (∀ (j : Nat) (o : Oper), l[j]? = some o → o.dst = some s → L.getD j false = false) → slot a s = slot a0 s
  room : a.tmps.size = a0.tmps.size
  defs : a.defers = a0.defers
  vals : ∀ (k : Nat) (o : Oper) (d : Tmp) (v : Value), l[k]? = some o → o.dst = some d → L.getD k false = true → V k = some v → slot a d = v
  came : ∀ (j : Nat) (o' : Oper) (i : Nat), l[j]? = some o' → L.getD j false = true → waits o' i = true → L.getD i false = true
  phase : ∃ j, j ≤ ch.length ∧ (∀ (i k : Nat), ch[i]? = some k → L.getD k false = decide (i < j)) ∧ Φ j ((ch.take j).map (out l a)) w
theorem getD_set {L : Array Bool} {k i : Nat} (h : L.getD k true = false) : (L.setIfInBounds k true).getD i false = (decide (i = k) || L.getD i false) := by
  by_cases hik : i = k
  · subst hik
    obtain ⟨hs, _⟩ := Reg.getD_false h
    simp [hs]
  · simp [hik, Ne.symm hik]
theorem till_at (k : Nat) : ∀ (ch : List Nat) (j : Nat), (∀ i x, i < j → ch[i]? = some x → needsB l x k = false) → j ≤ ch.length → j ≤ till l k ch
  | [], j, _, hj => by simp at hj; omega
  | x :: r, 0, _, _ => Nat.zero_le _
  | x :: r, j + 1, h, hj => by
    unfold till
    rw [h 0 x (by omega) rfl]
    simp only [Bool.false_eq_true, if_false]
    exact Nat.succ_le_succ (till_at k r j (fun i y hi hy => h (i + 1) y (by omega) (by simpa using hy)) (by simpa using hj))
theorem chain_at : ∀ (ch : List Nat), chainB l ch = true → ∀ (i x y : Nat) (o : Oper), ch[i]? = some x → ch[i + 1]? = some y → l[y]? = some o → waits o x = true
  | [], _, i, x, y, o, e, _, _ => by simp at e
  | [a], _, i, x, y, o, e, e', _ => by simp at e'
  | a :: b :: r, h, i, x, y, o, e, e', ho => by
    simp only [chainB, Bool.and_eq_true] at h
    cases i with
    | zero =>
      simp at e e'
      subst e e'
      rw [ho] at h
      exact h.1
    | succ i => exact chain_at (b :: r) h.2 i x y o (by simpa using e) (by simpa using e') ho
theorem out_put {a : Act} {k i : Nat} {o : Oper} {v : Value} (hap : apartC l = true) (ho : l[k]? = some o) (hne : i ≠ k) : out l (a.put o.dst v) i = out l a i := by
  unfold out
  cases hi : l[i]? with
  | none => rfl
  | some o' =>
    simp only
    cases hd : o'.dst with
    | none => rfl
    | some d =>
      simp only
      cases hk : o.dst with
      | none => rfl
      | some d' =>
        refine slot_put_ne fun e => ?_
        subst e
        exact apartC_at l hap i k o' o d' hi ho hne hd hk
theorem inv_put {k : Nat} {o : Oper} {L : Array Bool} {a : Act} {w w' : World} {v : Value} (hap : apartC l = true) (hsz : ∀ (i : Nat) (o : Oper) (d : Tmp), l[i]? = some o → o.dst = some d → d < a0.tmps.size)
    (ho : l[k]? = some o) (hk : L.getD k true = false) (hcm : ∀ j, waits o j = true → L.getD j false = true) (hI : Inv l V ch Φ a0 L a w) (hv : ∀ u, V k = some u → v = u)
    (hph : ∃ j, j ≤ ch.length ∧ (∀ (i x : Nat), ch[i]? = some x → (L.setIfInBounds k true).getD x false = decide (i < j)) ∧ Φ j ((ch.take j).map (out l (a.put o.dst v))) w') : Inv l V ch Φ a0 (L.setIfInBounds k true) (a.put o.dst v) w' := by
  obtain ⟨h1, h2, h3, h4, h5, h6, _⟩ := hI
  refine ⟨by simp [h1], fun s hs => ?_, by rw [put_size]; exact h3, by rw [put_defers]; exact h4, fun j o' d u hj hd hl hu => ?_, fun j o' i hj hl hw => ?_, hph⟩
  · have hs' : ∀ (j : Nat) (o : Oper), l[j]? = some o → o.dst = some s → L.getD j false = false := fun j o' hj hd => by
      have := hs j o' hj hd
      rw [getD_set hk, Bool.or_eq_false_iff] at this
      exact this.2
    cases hd : o.dst with
    | none => exact h2 s hs'
    | some d =>
      rw [slot_put_ne (fun e => by
        subst e
        have := hs k o ho hd
        rw [getD_set hk] at this
        simp at this)]
      exact h2 s hs'
  · rw [getD_set hk] at hl
    by_cases hjk : j = k
    · subst hjk
      rw [ho] at hj
      injection hj with hj
      subst hj
      rw [hd, slot_put (by rw [h3]; exact hsz j o d ho hd)]
      exact hv u hu
    · have hl' : L.getD j false = true := by simpa [hjk] using hl
      cases hd' : o.dst with
      | none => exact h5 j o' d u hj hd hl' hu
      | some d' =>
        rw [slot_put_ne fun e => by subst e; exact apartC_at l hap j k o' o d' hj ho hjk hd hd']
        exact h5 j o' d u hj hd hl' hu
  · rw [getD_set hk] at hl ⊢
    by_cases hjk : j = k
    · subst hjk
      rw [ho] at hj
      injection hj with hj
      subst hj
      rw [hcm i hw]; simp
    · rw [h6 j o' i hj (by simpa [hjk] using hl) hw]; simp
theorem any_chain {w : World} (V : Nat → Option Value) (ch : List Nat) (Φ : Nat → List Value → World → Prop) (hap : apartC l = true) (hor : orderB 0 l = true) (hsz : (l.all fun o => match o.dst with | some d => decide (d < a0.tmps.size) | none => true) = true)
    (hch : chainB l ch = true) (hnd : ch.Nodup) (hnv : (ch.all fun k => (V k).isNone && decide (k < l.length)) = true) (h0 : Φ 0 [] w.drew) (hsteps : Steps P l Q V ch Φ a0 0 l)
    (hdone : ∀ a w, (∀ s, unwritten l.toArray s = true → slot a s = slot a0 s) → a.tmps.size = a0.tmps.size → a.defers = a0.defers → Φ ch.length (ch.map (out l a)) w → (∀ (k : Nat) (o : Oper) (d : Tmp) (v : Value), l[k]? = some o → o.dst = some d → V k = some v → slot a d = v) → Q .normal a w) :
    wpAny P .any l.toArray Q l.toArray.size (Array.replicate l.toArray.size false) a0 w.drew := by
  have hsz' : ∀ (i : Nat) (o : Oper) (d : Tmp), l[i]? = some o → o.dst = some d → d < a0.tmps.size := by
    intro i o d ho hd
    have := List.all_eq_true.1 hsz o (List.mem_of_getElem? ho)
    rw [hd] at this
    simpa using this
  have hnv' : ∀ (i k : Nat), ch[i]? = some k → V k = none ∧ k < l.length := by
    intro i k hk
    have := List.all_eq_true.1 hnv k (List.mem_of_getElem? hk)
    simpa using this
  refine Reg.any_inv (Inv l V ch Φ a0) ?_ ?_ ?_
  · refine ⟨by simp, fun _ _ => rfl, rfl, rfl, fun k o d v _ _ hl => ?_, fun j o i _ hl => ?_, 0, Nat.zero_le _, fun i k hk => ?_, h0⟩
    · by_cases hk : k < l.length <;> simp [hk] at hl
    · by_cases hj : j < l.length <;> simp [hj] at hl
    · by_cases hkl : k < l.length <;> simp [hkl]
  · intro L a' w' hI hready
    obtain ⟨h1, h2, h3, h4, h5, h6, j, hj, hph, hΦ⟩ := hI
    have hall : ∀ j, j < l.length → L.getD j false = true := by
      intro j
      induction j using Nat.strongRecOn with
      | _ j ih =>
        intro hj
        have ho : l[j]? = some l[j] := List.getElem?_eq_getElem hj
        refine Reg.none_ready (by simpa using h1) hready (o := l[j]) (by simp) fun e he hb => ?_
        have hlt := order_at l 0 hor j _ ho e he hb
        exact ih e.on (by omega) (by omega)
    have hjl : j = ch.length := by
      rcases Nat.lt_or_ge j ch.length with h | h
      · have hk : ch[j]? = some ch[j] := List.getElem?_eq_getElem h
        have := hph j ch[j] hk
        rw [hall _ (hnv' j _ hk).2] at this
        simp at this
      · omega
    subst hjl
    rw [List.take_length] at hΦ
    have h2' : ∀ s, unwritten l.toArray s = true → slot a' s = slot a0 s := fun s hs => h2 s fun j o ho hd => absurd hd (unwritten_ne (ops := l.toArray) hs (i := j) (o := o) (by simpa using ho))
    refine hdone a' w' h2' h3 h4 hΦ fun k o d v ho hd hv => h5 k o d v ho hd (hall k ?_) hv
    exact (List.getElem?_eq_some_iff.1 ho).1
  · intro L a' w' k hI hk
    obtain ⟨hun, o, ho', hdep⟩ := mem_ready.1 hk
    have ho : l[k]? = some o := by simpa using ho'
    have hI' := hI
    obtain ⟨h1, h2, h3, h4, h5, h6, j, hj, hph, hΦ⟩ := hI
    have hcame : ∀ j, waits o j = true → L.getD j false = true := by
      intro j hj
      unfold waits at hj
      obtain ⟨e, he, hb⟩ := List.any_eq_true.1 hj
      simp only [Bool.and_eq_true, beq_iff_eq] at hb
      have := hdep e (by simpa using he) hb.2
      rw [hb.1] at this
      exact this
    have hun' : L.getD k false = false := by
      obtain ⟨hs, hf⟩ := Reg.getD_false hun
      simp [hs, hf]
    have hearly : ∀ s, earlyB l k s = true → slot a' s = slot a0 s := fun s hs => h2 s fun j o' hj hd => by
      have hn := early_at hs hj hd
      rw [Bool.eq_false_iff]
      intro hl
      have := needsB_came h6 hn hl
      rw [hun'] at this
      exact Bool.false_ne_true this
    have cx : Cx l V a0 k o a' := ⟨hearly, h3, fun j o' d v hj hd hw hv => h5 j o' d v hj hd (hcame j hw) hv⟩
    have hs := steps_at l 0 hsteps k o ho
    rw [Nat.zero_add] at hs
    unfold wpOp
    simp only [ho']
    cases hV : V k with
    | some v =>
      rw [hV] at hs
      have hnc : ∀ (i x : Nat), ch[i]? = some x → x ≠ k := fun i x hx e => by
        subst e
        rw [(hnv' i x hx).1] at hV; cases hV
      have htill : j ≤ till l k ch := till_at k ch j (fun i x hi hx => by
        rw [Bool.eq_false_iff]
        intro hw
        have h7 := hph i x hx
        rw [decide_eq_true hi] at h7
        have := needsB_came h6 hw h7
        rw [hun'] at this; cases this) hj
      have hph' : ∃ j, j ≤ ch.length ∧ (∀ (i x : Nat), ch[i]? = some x → (L.setIfInBounds k true).getD x false = decide (i < j)) ∧ Φ j ((ch.take j).map (out l (a'.put o.dst v))) w' := by
        refine ⟨j, hj, fun i x hx => ?_, ?_⟩
        · rw [getD_set hun, hph i x hx, decide_eq_false (hnc i x hx), Bool.false_or]
        · rw [List.map_congr_left (g := out l a')]
          · exact hΦ
          · intro x hx
            obtain ⟨i, hi⟩ := List.mem_iff_getElem?.1 (List.mem_of_mem_take hx)
            exact out_put hap ho (hnc i x hi)
      rcases hs a' w' j _ cx htill hΦ with ⟨hw, hs⟩ | ⟨hw, hv⟩
      · rw [if_pos hw]
        refine .inl (Oper.wp_mono (fun a'' w'' ⟨ha, hw''⟩ => ?_) hs)
        subst ha hw''
        exact inv_put hap hsz' ho hun hcame hI' (fun u hu => by rw [hV] at hu; injection hu) hph'
      · rw [if_neg (by rw [hw]; exact Bool.false_ne_true)]
        subst hv
        exact inv_put hap hsz' ho hun hcame hI' (fun u hu => by rw [hV] at hu; injection hu) hph'
    | none =>
      rw [hV] at hs
      obtain ⟨i, hi, hs⟩ := hs
      have hij : i = j := by
        have h7 := hph i k hi
        rw [hun'] at h7
        have h8 : ¬ i < j := by
          intro h; rw [decide_eq_true h] at h7; cases h7
        cases i with
        | zero => omega
        | succ i =>
          have hil : i < ch.length := by have := (List.getElem?_eq_some_iff.1 hi).1; omega
          have h9 := chain_at ch hch i ch[i] k o (List.getElem?_eq_getElem hil) hi ho
          have h10 := hph i ch[i] (List.getElem?_eq_getElem hil)
          rw [hcame _ h9] at h10
          have : i < j := by simpa using h10.symm
          omega
      subst hij
      obtain ⟨hw, hs⟩ := hs a' w' cx hΦ
      rw [if_pos hw]
      refine .inl (Oper.wp_mono (fun a'' w'' ⟨v, ha, hΦ'⟩ => ?_) hs)
      subst ha
      have hil : i < ch.length := (List.getElem?_eq_some_iff.1 hi).1
      have hik : ch[i] = k := (List.getElem?_eq_some_iff.1 hi).2
      refine inv_put hap hsz' ho hun hcame hI' (fun u hu => by rw [hV] at hu; cases hu) ⟨i + 1, hil, fun i' x hx => ?_, ?_⟩
      · rw [getD_set hun, hph i' x hx]
        by_cases he : x = k
        · subst he
          have hi'l : i' < ch.length := (List.getElem?_eq_some_iff.1 hx).1
          have hi'k : ch[i'] = x := (List.getElem?_eq_some_iff.1 hx).2
          have : i' = i := (List.getElem_inj hnd).1 (hi'k.trans hik.symm)
          subst this
          simp
        · have : i' ≠ i := fun e => he (by subst e; rw [hi] at hx; injection hx with hx; exact hx.symm)
          rw [decide_eq_false he, Bool.false_or, decide_eq_decide]
          omega
      · rw [List.take_succ_eq_append_getElem hil, List.map_append, List.map_cons, List.map_nil, hik]
        have hm1 : (ch.take i).map (out l (a'.put o.dst v)) = (ch.take i).map (out l a') := List.map_congr_left fun x hx => by
          obtain ⟨i', hi'⟩ := List.mem_iff_getElem?.1 hx
          refine out_put hap ho fun e => ?_
          subst e
          have hlt : i' < i := by
            have := (List.getElem?_eq_some_iff.1 hi').1
            rw [List.length_take] at this; omega
          rw [List.getElem?_take, if_pos hlt] at hi'
          have hi'l : i' < ch.length := by omega
          rw [List.getElem?_eq_getElem hi'l] at hi'
          injection hi' with hi'
          have := (List.getElem_inj hnd).1 (hi'.trans hik.symm)
          omega
        rw [hm1]
        have hout : out l (a'.put o.dst v) k = if o.dst.isSome then v else undef := by
          unfold out
          rw [ho]
          simp only
          cases hd : o.dst with
          | none => rfl
          | some d =>
            show slot (a'.put (some d) v) d = v
            exact slot_put (by rw [h3]; exact hsz' k o d ho hd)
        rw [hout]
        exact hΦ'
theorem wp_region_chain {id : Nat} {w : World} (V : Nat → Option Value) (ch : List Nat) (Φ : Nat → List Value → World → Prop) (hm : P.follows .mixedOrders = true) (hap : apartC l = true) (hor : orderB 0 l = true) (hsz : (l.all fun o => match o.dst with | some d => decide (d < a0.tmps.size) | none => true) = true)
    (hch : chainB l ch = true) (hnd : ch.Nodup) (hnv : (ch.all fun k => (V k).isNone && decide (k < l.length)) = true) (h0 : Φ 0 [] w.drew) (hsteps : Steps P l Q V ch Φ a0 0 l)
    (hdone : ∀ a w, (∀ s, unwritten l.toArray s = true → slot a s = slot a0 s) → a.tmps.size = a0.tmps.size → a.defers = a0.defers → Φ ch.length (ch.map (out l a)) w → (∀ (k : Nat) (o : Oper) (d : Tmp) (v : Value), l[k]? = some o → o.dst = some d → V k = some v → slot a d = v) → Q .normal a w) :
    (Code.region id l.toArray true).wp P Q a0 w :=
  wp_region_any hm (any_chain V ch Φ hap hor hsz hch hnd hnv h0 hsteps hdone)
theorem puts_at (a : Act) : ∀ (ds : List Tmp) (b : Act) (i : Nat), (ds.foldl (fun A d => A.put (some d) (slot a d)) b).tmps[i]? = if i ∈ ds ∧ i < b.tmps.size then some (slot a i) else b.tmps[i]?
  | [], b, i => by simp
  | d :: ds, b, i => by
    rw [List.foldl_cons, puts_at a ds (b.put (some d) (slot a d)) i, put_size]
    by_cases h1 : i ∈ ds ∧ i < b.tmps.size
    · rw [if_pos h1, if_pos ⟨List.mem_cons_of_mem _ h1.1, h1.2⟩]
    · rw [if_neg h1]
      by_cases h2 : i = d
      · subst h2
        by_cases h3 : i < b.tmps.size
        · rw [if_pos ⟨List.mem_cons_self, h3⟩]
          simp [Act.put, h3]
        · rw [if_neg fun h => h3 h.2]
          simp [Act.put, h3]
      · have h4 : (b.put (some d) (slot a d)).tmps[i]? = b.tmps[i]? := by
          simp only [Act.put]
          rw [Array.getElem?_setIfInBounds_ne (fun e => h2 e.symm)]
        rw [h4, if_neg]
        rintro ⟨h5, h6⟩
        rcases List.mem_cons.1 h5 with h5 | h5
        · exact h2 h5
        · exact h1 ⟨h5, h6⟩
theorem puts_defers (a : Act) : ∀ (ds : List Tmp) (b : Act), (ds.foldl (fun A d => A.put (some d) (slot a d)) b).defers = b.defers
  | [], b => rfl
  | d :: ds, b => by rw [List.foldl_cons, puts_defers a ds, put_defers]
theorem act_puts {a : Act} (ds : List Tmp) (hb : ∀ s, unwritten l.toArray s = true → slot a s = slot a0 s) (hr : a.tmps.size = a0.tmps.size) (hd : a.defers = a0.defers)
    (hl : ((List.range a0.tmps.size).all fun i => ds.contains i || unwritten l.toArray i) = true) : a = ds.foldl (fun A d => A.put (some d) (slot a d)) a0 := by
  have hp := puts_at a ds a0
  have hpd := puts_defers a ds a0
  generalize ds.foldl (fun A d => A.put (some d) (slot a d)) a0 = b at *
  obtain ⟨tm, df⟩ := a
  obtain ⟨tb, db⟩ := b
  simp only at hd hpd
  subst hd hpd
  congr 1
  apply Array.ext_getElem?
  intro i
  have h1 := hp i
  simp only at h1
  rw [h1]
  by_cases hi : i < a0.tmps.size
  · have h3 := List.all_eq_true.1 hl i (List.mem_range.2 hi)
    have hit : i < tm.size := by simp only at hr; omega
    have hs : slot { tmps := tm, defers := a0.defers } i = tm[i] := by
      unfold slot
      simp [hit]
    by_cases hc : i ∈ ds
    · rw [if_pos ⟨hc, hi⟩, hs, Array.getElem?_eq_getElem hit]
    · rw [if_neg fun h => hc h.1]
      have hu : unwritten l.toArray i = true := by
        rcases Bool.or_eq_true _ _ ▸ h3 with h4 | h4
        · exact absurd (List.contains_iff_mem.1 h4) hc
        · exact h4
      have h5 := hb i hu
      rw [hs] at h5
      have h6 : slot a0 i = a0.tmps[i] := by
        unfold slot
        simp [hi]
      rw [Array.getElem?_eq_getElem hit, Array.getElem?_eq_getElem hi, h5, h6]
  · rw [if_neg fun h => hi h.2, Array.getElem?_eq_none (by simp only at hr; omega), Array.getElem?_eq_none (by omega)]
theorem wanted_not {o : Oper} {a : Act} {ops : Array Oper} {j : Nat} {b : Bool} {d : Tmp} (h : wantB ops o j b d = true) (hv : slot a d = .bool (!b)) : Region.wanted o (yielded ops a.tmps) = false := by
  unfold wantB at h
  simp only [Bool.and_eq_true] at h
  obtain ⟨h1, h2⟩ := h
  cases hg : o.guard with
  | none => rw [hg] at h1; cases h1
  | some g =>
    obtain ⟨j', b'⟩ := g
    rw [hg] at h1
    simp only [Bool.and_eq_true, beq_iff_eq] at h1
    obtain ⟨rfl, rfl⟩ := h1
    cases ho : ops.toList[j']? with
    | none => rw [ho] at h2; cases h2
    | some o' =>
      rw [ho] at h2
      rw [wanted_is hg (by simpa using ho) (by simpa using h2) hv]
      cases b' <;> rfl
section
variable {o : Oper} {a : Act} {w : World} {K : Act → World → Prop}
theorem wp_nc (x : Operand) (ho : o.op = .nilCheck x) {p : Addr} (hx : a.eval x = .pointer (some p)) (h : K (a.put o.dst (.pointer (some p))) w) : o.wp P a w K Q := by
  unfold Oper.wp execOp
  simp only [ho, hx]
  exact h
theorem wp_fa (s : TypeId) (x : Operand) (f : Nat) (ho : o.op = .fieldAddr s x f) {v u : Value} {w' : World} (hx : a.eval x = v) (hr : (Instr.fieldAt s v f).run P w = .ok u w') (h : K (a.put o.dst u) w') : o.wp P a w K Q := by
  unfold Oper.wp execOp
  simp only [ho, hx, Sem.run_bind, hr]
  exact h
theorem wp_st (t : TypeId) (x y : Operand) (ho : o.op = .store t x y) {vx vy : Value} {w' : World} (hx : a.eval x = vx) (hy : a.eval y = vy) (hr : (Instr.storeAt t vx vy).run P w = .ok () w') (h : K (a.put o.dst undef) w') : o.wp P a w K Q := by
  unfold Oper.wp execOp
  simp only [ho, hx, hy, Sem.run_bind, hr]
  exact h
theorem wp_bs (t : TypeId) (n : Nat) (parts : Array (Nat × Operand)) (ho : o.op = .buildSlice t n parts) {u : Value} {w' : World} (hr : (Instr.buildSlice t n (parts.map fun (i, x) => (i, a.eval x))).run P w = .ok u w') (h : K (a.put o.dst u) w') : o.wp P a w K Q := by
  unfold Oper.wp execOp
  simp only [ho, Sem.run_bind, hr]
  exact h
theorem wp_bs1 (t : TypeId) (x : Operand) (ho : o.op = .buildSlice t 1 #[(0, x)]) {v u : Value} {w' : World} (hx : a.eval x = v) (hr : (Instr.buildSlice t 1 #[(0, v)]).run P w = .ok u w') (h : K (a.put o.dst u) w') : o.wp P a w K Q :=
  wp_bs t 1 _ ho (by subst hx; simpa using hr) h
theorem wp_bd (t : TypeId) (parts : Array (Nat × Operand)) (ho : o.op = .build t parts) {u : Value} {w' : World} (hr : (Instr.build t (parts.map fun (i, x) => (i, a.eval x))).run P w = .ok u w') (h : K (a.put o.dst u) w') : o.wp P a w K Q := by
  unfold Oper.wp execOp
  simp only [ho, Sem.run_bind, hr]
  exact h
theorem wp_uo (k : UnOp) (t : TypeId) (x : Operand) (ho : o.op = .unOp k t x) {vx u : Value} {w' : World} (hx : a.eval x = vx) (hr : (Op.unary k vx).run P w = .ok u w') (h : K (a.put o.dst u) w') : o.wp P a w K Q := by
  unfold Oper.wp execOp
  simp only [ho, hx, Sem.run_bind, hr]
  exact h
theorem wp_ap (s x : Operand) (t : TypeId) (ho : o.op = .call { callee := .builtin .append, args := #[s, x], argTypes := #[t, t] }) {vs vx u : Value} {w' : World} (hs : a.eval s = vs) (hx : a.eval x = vx) (hr : (Builtin.append_ #[t, t] o.type #[vs, vx]).run P w = .ok u w') (h : K (a.put o.dst u) w') : o.wp P a w K Q := by
  unfold Oper.wp execOp
  simp only [ho]
  simp [resolve, invoke, builtin, hs, hx]
  rw [hr]
  exact h
end
end Go.Proofs.YtjcndgopijpibaaGreat.Chn
/- A region that draws its order, by what each slot holds (as RegRel) and by an invariant that sees the slots too: for lists that grow within the region. -/
namespace Go.Proofs.YtjcndgopijpibaaGreat.Rel
open Go.RowKit
section
variable {P : Program} {ops : Array Oper} {Q : Exit → Act → World → Prop} {G : World → World → Prop} {V : Nat → Kd G} {J : Array Bool → (Tmp → Value) → World → Prop} {a0 : Act}
abbrev Cs (ops : Array Oper) (V : Nat → Kd G) (a0 : Act) (k : Nat) (o : Oper) (L : Array Bool) (a : Act) (w : World) : Prop := Cx ops V (fun _ _ => True) a0 k o L a w
def LeftS (V : Nat → Kd G) (J : Array Bool → (Tmp → Value) → World → Prop) (k : Nat) (o : Oper) (L : Array Bool) (a : Act) (w : World) (a' : Act) (w' : World) : Prop :=
  ∃ v, a' = a.put o.dst v ∧ G w w' ∧ (V k).p w' v ∧ J (L.setIfInBounds k true) (slot (a.put o.dst v)) w'
def StepS (P : Program) (ops : Array Oper) (Q : Exit → Act → World → Prop) (V : Nat → Kd G) (J : Array Bool → (Tmp → Value) → World → Prop) (a0 : Act) (k : Nat) (o : Oper) : Prop :=
  ∀ L a w, Cs ops V a0 k o L a w → J L (slot a) w →
    (Region.wanted o (yielded ops a.tmps) = true ∧ o.wp P a w (LeftS V J k o L a w) Q) ∨
    (Region.wanted o (yielded ops a.tmps) = false ∧ (V k).p w undef ∧ J (L.setIfInBounds k true) (slot (a.put o.dst undef)) w)
def StepsS (P : Program) (ops : Array Oper) (Q : Exit → Act → World → Prop) (V : Nat → Kd G) (J : Array Bool → (Tmp → Value) → World → Prop) (a0 : Act) : Nat → List Oper → Prop
  | _, [] => True
  | k, o :: l => StepS P ops Q V J a0 k o ∧ StepsS P ops Q V J a0 (k + 1) l
theorem stepsS_at (l : List Oper) : ∀ (k : Nat), StepsS P ops Q V J a0 k l → ∀ (j : Nat) (o : Oper), l[j]? = some o → StepS P ops Q V J a0 (k + j) o := by
  induction l with
  | nil => intro k _ j o e; simp at e
  | cons x l ih =>
    intro k h j o e
    cases j with
    | zero =>
      simp at e; subst e
      exact h.1
    | succ j =>
      have := ih (k + 1) h.2 j o (by simpa using e)
      rw [show k + (j + 1) = k + 1 + j by omega]; exact this
theorem wp_region_see {id : Nat} {w : World} {l : List Oper} (V : Nat → Kd G) (J : Array Bool → (Tmp → Value) → World → Prop) (hm : P.follows .mixedOrders = true) (hap : apartB l = true) (hor : orderB 0 l = true) (hsz : (l.all fun o => match o.dst with | some d => decide (d < a0.tmps.size) | none => true) = true)
    (hGr : ∀ w, G w w) (h0 : J (Array.replicate l.length false) (slot a0) w.drew) (hsteps : StepsS P l.toArray Q V J a0 0 l)
    (hdone : ∀ a w, (∀ s, unwritten l.toArray s = true → slot a s = slot a0 s) → a.tmps.size = a0.tmps.size → a.defers = a0.defers → J (Array.replicate l.length true) (slot a) w → (∀ (j : Nat) (o : Oper) (d : Tmp), l[j]? = some o → o.dst = some d → (V j).p w (slot a d)) → Q .normal a w) :
    (Code.region id l.toArray true).wp P Q a0 w := by
  have hsz' : ∀ (i : Nat) (o : Oper) (d : Tmp), l.toArray[i]? = some o → o.dst = some d → d < a0.tmps.size := by
    intro i o d ho hd
    have := List.all_eq_true.1 hsz o (List.mem_of_getElem? (by simpa using ho))
    rw [hd] at this
    simpa using this
  refine Reg.wp_region_inv (fun L a w => Inv l.toArray V (fun _ _ => True) a0 L a w ∧ J L (slot a) w) hm ?_ ?_ ?_
  · exact ⟨⟨by simp, fun _ _ => rfl, rfl, rfl, trivial, fun j o d _ _ hl => by
      by_cases hj : j < l.length <;> simp [hj] at hl, fun j o i _ hl _ => by
      by_cases hj : j < l.length <;> simp [hj] at hl⟩, by simpa using h0⟩
  · intro L a' w' hI hready
    obtain ⟨⟨h1, h2, h3, h4, _, h6, h7⟩, h5⟩ := hI
    have hall : ∀ j, j < l.length → L.getD j false = true := by
      intro j
      induction j using Nat.strongRecOn with
      | _ j ih =>
        intro hj
        have ho : l[j]? = some l[j] := List.getElem?_eq_getElem hj
        refine Reg.none_ready (by exact h1) hready (o := l[j]) (by simp) fun e he hb => ?_
        have hlt := order_at l 0 hor j _ ho e he hb
        exact ih e.on (by omega) (by omega)
    have hL : L = Array.replicate l.length true := by
      apply Array.ext
      · simpa using h1
      · intro i hi1 hi2
        have := hall i (by simpa using hi2)
        simp [hi1] at this
        simp [this]
    subst hL
    exact hdone a' w' h2 h3 h4 h5 fun j o d hj hd => h6 j o d (by simpa using hj) hd (hall j (by
      rcases Nat.lt_or_ge j l.length with h | h
      · exact h
      · rw [List.getElem?_eq_none h] at hj; cases hj))
  · intro L a' w' i hI hi
    obtain ⟨hI, hJ0⟩ := hI
    obtain ⟨hun, o, ho, hdep⟩ := mem_ready.1 hi
    have hI' := hI
    obtain ⟨h1, h2, h3, h4, h5, h6, h7⟩ := hI
    have hcame : ∀ j, waits o j = true → L.getD j false = true := by
      intro j hj
      unfold waits at hj
      obtain ⟨e, he, hb⟩ := List.any_eq_true.1 hj
      simp only [Bool.and_eq_true, beq_iff_eq] at hb
      have := hdep e (by simpa using he) hb.2
      rw [hb.1] at this
      exact this
    have hs := stepsS_at l 0 hsteps i o (by simpa using ho)
    rw [Nat.zero_add] at hs
    replace hs := hs L a' w' ⟨h1, hun, h2, h3, h5, fun j o' d hj hd hw => h6 j o' d hj hd (hcame j hw), hcame, h7⟩ hJ0
    unfold wpOp
    simp only [ho]
    rcases hs with ⟨hw, hs⟩ | ⟨hw, hv, hJ⟩
    · rw [if_pos hw]
      exact .inl (Oper.wp_mono (fun a'' w'' ⟨v, ha, hG, hv, hJ⟩ => by subst ha; exact ⟨inv_step (by simpa using hap) hsz' ho hun hcame hI' hG hv trivial, hJ⟩) hs)
    · rw [if_neg (by rw [hw]; exact Bool.false_ne_true)]
      exact ⟨inv_step (by simpa using hap) hsz' ho hun hcame hI' (hGr w') hv trivial, hJ⟩
end
theorem set_ne {L : Array Bool} {k i : Nat} (h : k ≠ i) : (L.setIfInBounds k true).getD i false = L.getD i false := by
  rw [Array.getD_eq_getD_getElem?, Array.getElem?_setIfInBounds, if_neg h, ← Array.getD_eq_getD_getElem?]
theorem set_eq {L : Array Bool} {k n : Nat} (h : L.size = n) (hk : k < n) : (L.setIfInBounds k true).getD k false = true := by
  subst h
  simp [hk]
theorem free_no {L : Array Bool} {k : Nat} (h : L.getD k true = false) : L.getD k false = false := by
  by_cases hk : k < L.size
  · simp [hk] at h ⊢; exact h
  · simp [hk]
theorem Cx.later {ops : Array Oper} {G : World → World → Prop} {V : Nat → Kd G} {J : Array Bool → World → Prop} {a0 : Act} {k : Nat} {o : Oper} {L : Array Bool} {a : Act} {w : World} (c : Cx ops V J a0 k o L a w) (j : Nat) (h : waitsAt ops j k = true) : L.getD j false = false := by
  cases hj : L.getD j false with
  | false => rfl
  | true =>
    have := c.via j k h hj
    rw [free_no c.free] at this
    cases this
theorem Cx.later2 {ops : Array Oper} {G : World → World → Prop} {V : Nat → Kd G} {J : Array Bool → World → Prop} {a0 : Act} {k : Nat} {o : Oper} {L : Array Bool} {a : Act} {w : World} (c : Cx ops V J a0 k o L a w) (j i : Nat) (h : waitsAt ops j i = true) (hi : L.getD i false = false) : L.getD j false = false := by
  cases hj : L.getD j false with
  | false => rfl
  | true =>
    have := c.via j i h hj
    rw [hi] at this
    cases this
def Gt (_ _ : World) : Prop := True
end Go.Proofs.YtjcndgopijpibaaGreat.Rel
