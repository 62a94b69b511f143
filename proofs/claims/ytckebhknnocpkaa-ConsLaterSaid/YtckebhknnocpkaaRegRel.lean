/- A region that draws its order and whose values hang on the memory that its own calls make: one look at each operation, what it leaves told by what holds of its slot. -/
import Derived.Test.YtckebhknnocpkaaRegInv
import Derived.OwnWalk
import Derived.Below
import Derived.BigRegion
namespace Go.Proofs.Ytckebhknnocpkaa.Rel
open Go.RowKit

/-- What a slot holds: it stays so while the world goes on. -/
structure Kd (G : World → World → Prop) where
  p : World → Value → Prop
  st : ∀ w w' v, G w w' → p w v → p w' v
def Kd.is {G : World → World → Prop} (v : Value) : Kd G := ⟨fun _ u => u = v, fun _ _ _ _ h => h⟩
def Kd.any {G : World → World → Prop} : Kd G := ⟨fun _ _ => True, fun _ _ _ _ h => h⟩

/-- The world goes on: what was there stays. -/
def Gr (w w' : World) : Prop := Below w.heap.size w w'
theorem gr_refl (w : World) : Gr w w := Below.refl _ _

def slot (a : Act) (d : Tmp) : Value := a.tmps.getD d undef
theorem eval_tmp {a : Act} {d : Tmp} {v : Value} (h : slot a d = v) : a.eval (.tmp d) = v := h

/-- Does operation o wait for operation j? -/
def waits (o : Oper) (j : Nat) : Bool := o.after.toList.any fun e => e.on == j && Region.binds .any e
def unwritten (ops : Array Oper) (s : Tmp) : Bool := ops.toList.all fun o => o.dst != some s
/-- A table of what the slots hold. -/
def tab {G : World → World → Prop} (l : List (Kd G)) (i : Nat) : Kd G := l.getD i Kd.any
/-- Each operation writes a slot of its own. -/
def apartB : List Oper → Bool
  | [] => true
  | o :: l => o.dst.isSome && l.all (fun x => x.dst != o.dst) && apartB l

section
variable {P : Program} {ops : Array Oper} {Q : Exit → Act → World → Prop} {G : World → World → Prop} {V : Nat → Kd G} {J : Array Bool → World → Prop} {a0 : Act}

/-- What is known when operation k, o, comes up. -/
structure Cx (ops : Array Oper) (V : Nat → Kd G) (J : Array Bool → World → Prop) (a0 : Act) (k : Nat) (o : Oper) (L : Array Bool) (a : Act) (w : World) : Prop where
  size : L.size = ops.size
  free : L.getD k true = false
  base : ∀ s, unwritten ops s = true → slot a s = slot a0 s
  room : a.tmps.size = a0.tmps.size
  inv : J L w
  dep : ∀ (j : Nat) (o' : Oper) (d : Tmp), ops[j]? = some o' → o'.dst = some d → waits o j = true → (V j).p w (slot a d)
  came : ∀ j, waits o j = true → L.getD j false = true
  chain : ∀ (j : Nat) (o' : Oper) (i : Nat), ops[j]? = some o' → L.getD j false = true → waits o' i = true → L.getD i false = true

/-- By Bools that the kernel reckons: operation j writes slot d, and o waits for it; o is carried out where j yields b. -/
def depB (ops : Array Oper) (o : Oper) (j : Nat) (d : Tmp) : Bool := waits o j && (match ops.toList[j]? with | some o' => o'.dst == some d | none => false)
def wantB (ops : Array Oper) (o : Oper) (j : Nat) (b : Bool) (d : Tmp) : Bool := (match o.guard with | some (j', b') => j' == j && b' == b | none => false) && (match ops.toList[j]? with | some o' => o'.dst == some d | none => false)
def waitsAt (ops : Array Oper) (j i : Nat) : Bool := match ops.toList[j]? with | some o' => waits o' i | none => false
def freeB (o : Oper) : Bool := o.guard.isNone
theorem Cx.get {k : Nat} {o : Oper} {L : Array Bool} {a : Act} {w : World} (c : Cx ops V J a0 k o L a w) (j : Nat) (d : Tmp) (h : depB ops o j d = true) : (V j).p w (slot a d) := by
  unfold depB at h
  simp only [Bool.and_eq_true] at h
  cases ho : ops.toList[j]? with
  | none => rw [ho] at h; simp at h
  | some o' =>
    rw [ho] at h
    exact c.dep j o' d (by simpa using ho) (by simpa using h.2) h.1
/-- What came ahead of what has come. -/
theorem Cx.via {k : Nat} {o : Oper} {L : Array Bool} {a : Act} {w : World} (c : Cx ops V J a0 k o L a w) (j i : Nat) (h : waitsAt ops j i = true) (hj : L.getD j false = true) : L.getD i false = true := by
  unfold waitsAt at h
  cases ho : ops.toList[j]? with
  | none => rw [ho] at h; cases h
  | some o' =>
    rw [ho] at h
    exact c.chain j o' i (by simpa using ho) hj h
theorem Cx.old {k : Nat} {o : Oper} {L : Array Bool} {a : Act} {w : World} (c : Cx ops V J a0 k o L a w) (s : Tmp) {v : Value} (h : unwritten ops s = true) (hv : slot a0 s = v) : slot a s = v := (c.base s h).trans hv

/-- What it leaves. -/
def Left (V : Nat → Kd G) (J : Array Bool → World → Prop) (k : Nat) (o : Oper) (L : Array Bool) (a : Act) (w : World) (a' : Act) (w' : World) : Prop :=
  ∃ v, a' = a.put o.dst v ∧ G w w' ∧ (V k).p w' v ∧ J (L.setIfInBounds k true) w'

def Step (P : Program) (ops : Array Oper) (Q : Exit → Act → World → Prop) (V : Nat → Kd G) (J : Array Bool → World → Prop) (a0 : Act) (k : Nat) (o : Oper) : Prop :=
  ∀ L a w, Cx ops V J a0 k o L a w →
    (Region.wanted o (yielded ops a.tmps) = true ∧ o.wp P a w (Left V J k o L a w) Q) ∨
    (Region.wanted o (yielded ops a.tmps) = false ∧ (V k).p w undef ∧ J (L.setIfInBounds k true) w)

def Steps (P : Program) (ops : Array Oper) (Q : Exit → Act → World → Prop) (V : Nat → Kd G) (J : Array Bool → World → Prop) (a0 : Act) : Nat → List Oper → Prop
  | _, [] => True
  | k, o :: l => Step P ops Q V J a0 k o ∧ Steps P ops Q V J a0 (k + 1) l

theorem steps_at (l : List Oper) : ∀ (k : Nat), Steps P ops Q V J a0 k l → ∀ (j : Nat) (o : Oper), l[j]? = some o → Step P ops Q V J a0 (k + j) o := by
  induction l with
  | nil => intro k _ j o e; simp at e
  | cons x l ih =>
    intro k h j o e
    cases j with
    | zero =>
      simp at e; subst e
      exact h.1
    | succ j =>
      have := ih (k + 1) h.2 j o (by simpa using e)
      rw [show k + (j + 1) = k + 1 + j by omega]; exact this

theorem apart_at (l : List Oper) : apartB l = true → ∀ (i j : Nat) (o o' : Oper), l[i]? = some o → l[j]? = some o' → i ≠ j → o.dst ≠ o'.dst := by
  induction l with
  | nil => intro _ i j o o' e; simp at e
  | cons x l ih =>
    intro h i j o o' e e' hne
    simp only [apartB, Bool.and_eq_true, List.all_eq_true, bne_iff_ne, ne_eq] at h
    cases i with
    | zero =>
      cases j with
      | zero => exact absurd rfl hne
      | succ j =>
        simp at e e'; subst e
        exact fun he => h.1.2 _ (List.mem_of_getElem? e') he.symm
    | succ i =>
      cases j with
      | zero =>
        simp at e e'; subst e'
        exact h.1.2 _ (List.mem_of_getElem? e)
      | succ j => exact ih h.2 i j o o' (by simpa using e) (by simpa using e') (by omega)

theorem apart_some (l : List Oper) : apartB l = true → ∀ (i : Nat) (o : Oper), l[i]? = some o → ∃ d, o.dst = some d := by
  intro h i o e
  induction l generalizing i with
  | nil => simp at e
  | cons x l ih =>
    simp only [apartB, Bool.and_eq_true] at h
    cases i with
    | zero =>
      simp at e; subst e
      exact Option.isSome_iff_exists.1 h.1.1
    | succ i => exact ih h.2 i (by simpa using e)

/-- Each operation waits for earlier ones alone. -/
def orderB : Nat → List Oper → Bool
  | _, [] => true
  | k, o :: l => (o.after.all fun e => !(Region.binds .any e) || decide (e.on < k)) && orderB (k + 1) l
theorem order_at (l : List Oper) : ∀ (k : Nat), orderB k l = true → ∀ (j : Nat) (o : Oper), l[j]? = some o → ∀ e ∈ o.after, Region.binds .any e = true → e.on < k + j := by
  induction l with
  | nil => intro k _ j o e; simp at e
  | cons x l ih =>
    intro k h j o e
    simp only [orderB, Bool.and_eq_true] at h
    cases j with
    | zero =>
      simp at e; subst e
      intro e he hb
      have := h.1
      rw [Array.all_eq_true'] at this
      have := this e he
      rw [hb] at this
      simpa using this
    | succ j =>
      intro e' he hb
      have := ih (k + 1) h.2 j o (by simpa using e) e' he hb
      omega

theorem slot_put_ne {a : Act} {d s : Tmp} {v : Value} (h : d ≠ s) : slot (a.put (some d) v) s = slot a s := by
  unfold slot Act.put
  simp only [Array.getD_eq_getD_getElem?]
  rw [Array.getElem?_setIfInBounds_ne h]
theorem slot_put {a : Act} {d : Tmp} {v : Value} (h : d < a.tmps.size) : slot (a.put (some d) v) d = v := by
  unfold slot Act.put
  simp [h]
theorem put_size (a : Act) (d : Option Tmp) (v : Value) : (a.put d v).tmps.size = a.tmps.size := by
  unfold Act.put; split <;> simp
theorem put_defers (a : Act) (d : Option Tmp) (v : Value) : (a.put d v).defers = a.defers := by
  unfold Act.put; split <;> rfl

/-- The frame behind a region: the slots in 'loose' as they are, all others as they were. -/
theorem act_mix {a : Act} (loose : List Nat) (hb : ∀ s, unwritten ops s = true → slot a s = slot a0 s) (hr : a.tmps.size = a0.tmps.size) (hd : a.defers = a0.defers)
    (hl : ((List.range a0.tmps.size).all fun i => loose.contains i || unwritten ops i) = true) :
    a = { tmps := ((List.range a0.tmps.size).map fun i => cond (loose.contains i) (slot a i) (slot a0 i)).toArray, defers := a0.defers } := by
  obtain ⟨tm, df⟩ := a
  simp only at hr hd
  subst hd
  congr 1
  apply Array.ext
  · simpa using hr
  · intro i h1 h2
    have hi : i < a0.tmps.size := by omega
    have h3 := List.all_eq_true.1 hl i (List.mem_range.2 hi)
    have hs : slot { tmps := tm, defers := a0.defers } i = tm[i] := by
      unfold slot
      simp [h1]
    simp only [List.getElem_toArray, List.getElem_map, List.getElem_range]
    cases hc : loose.contains i with
    | true => simp only [cond_true]; exact hs.symm
    | false =>
      rw [hc] at h3
      simp only [cond_false]
      rw [← hb i (by simpa using h3)]
      exact hs.symm

/-- Whatever has come up. -/
def Inv (ops : Array Oper) (V : Nat → Kd G) (J : Array Bool → World → Prop) (a0 : Act) (L : Array Bool) (a : Act) (w : World) : Prop :=
  L.size = ops.size ∧ (∀ s, unwritten ops s = true → slot a s = slot a0 s) ∧ a.tmps.size = a0.tmps.size ∧ a.defers = a0.defers ∧ J L w ∧
  (∀ (j : Nat) (o : Oper) (d : Tmp), ops[j]? = some o → o.dst = some d → L.getD j false = true → (V j).p w (slot a d)) ∧
  ∀ (j : Nat) (o' : Oper) (i : Nat), ops[j]? = some o' → L.getD j false = true → waits o' i = true → L.getD i false = true

theorem unwritten_ne {s : Tmp} (h : unwritten ops s = true) {i : Nat} {o : Oper} (ho : ops[i]? = some o) : o.dst ≠ some s := by
  unfold unwritten at h
  have := List.all_eq_true.1 h o (by simpa using Array.mem_of_getElem? ho)
  simpa using this

theorem inv_step {k : Nat} {o : Oper} {L : Array Bool} {a : Act} {w w' : World} {v : Value} (hap : apartB ops.toList = true) (hsz : ∀ (i : Nat) (o : Oper) (d : Tmp), ops[i]? = some o → o.dst = some d → d < a0.tmps.size)
    (ho : ops[k]? = some o) (hk : L.getD k true = false) (hcm : ∀ j, waits o j = true → L.getD j false = true) (hI : Inv ops V J a0 L a w) (hG : G w w') (hv : (V k).p w' v) (hJ : J (L.setIfInBounds k true) w') : Inv ops V J a0 (L.setIfInBounds k true) (a.put o.dst v) w' := by
  obtain ⟨h1, h2, h3, h4, h5, h6, h7⟩ := hI
  have hset : ∀ i, L.getD i false = true → (L.setIfInBounds k true).getD i false = true := by
    intro i hi
    by_cases hik : k = i
    · subst hik
      obtain ⟨hs, _⟩ := Reg.getD_false hk
      simp [hs]
    · simpa [hik] using hi
  obtain ⟨d, hd⟩ := apart_some ops.toList hap k o (by simpa using ho)
  have hdn := hsz k o d ho hd
  refine ⟨by simp [h1], fun s hs => ?_, by rw [put_size]; exact h3, by rw [put_defers]; exact h4, hJ, fun j o' d' ho' hd' hl => ?_, fun j o' i ho' hl hw => ?_⟩
  · rw [hd, slot_put_ne (fun e => unwritten_ne hs ho (by rw [hd, e]))]
    exact h2 s hs
  · by_cases hjk : j = k
    · subst hjk
      rw [ho] at ho'
      injection ho' with ho'
      subst ho'
      rw [hd] at hd'
      injection hd' with hd'
      subst hd'
      rw [hd, slot_put (by rw [h3]; exact hdn)]
      exact hv
    · have hne := apart_at ops.toList hap k j o o' (by simpa using ho) (by simpa using ho') (Ne.symm hjk)
      rw [hd, slot_put_ne (fun e => hne (by rw [hd, hd', e]))]
      refine (V j).st w w' _ hG (h6 j o' d' ho' hd' ?_)
      simpa [Ne.symm hjk] using hl
  · by_cases hjk : j = k
    · subst hjk
      rw [ho] at ho'
      injection ho' with ho'
      subst ho'
      exact hset i (hcm i hw)
    · exact hset i (h7 j o' i ho' (by simpa [Ne.symm hjk] using hl) hw)

/-- THE LAW. -/
theorem wp_region_rel {id : Nat} {w : World} {l : List Oper} (V : Nat → Kd G) (J : Array Bool → World → Prop) (hm : P.follows .mixedOrders = true) (hap : apartB l = true) (hor : orderB 0 l = true) (hsz : (l.all fun o => match o.dst with | some d => decide (d < a0.tmps.size) | none => true) = true)
    (hGr : ∀ w, G w w) (h0 : J (Array.replicate l.length false) w.drew) (hsteps : Steps P l.toArray Q V J a0 0 l)
    (hdone : ∀ a w, (∀ s, unwritten l.toArray s = true → slot a s = slot a0 s) → a.tmps.size = a0.tmps.size → a.defers = a0.defers → J (Array.replicate l.length true) w → (∀ (j : Nat) (o : Oper) (d : Tmp), l[j]? = some o → o.dst = some d → (V j).p w (slot a d)) → Q .normal a w) :
    (Code.region id l.toArray true).wp P Q a0 w := by
  have hsz' : ∀ (i : Nat) (o : Oper) (d : Tmp), l.toArray[i]? = some o → o.dst = some d → d < a0.tmps.size := by
    intro i o d ho hd
    have := List.all_eq_true.1 hsz o (List.mem_of_getElem? (by simpa using ho))
    rw [hd] at this
    simpa using this
  refine Reg.wp_region_inv (Inv l.toArray V J a0) hm ?_ ?_ ?_
  · exact ⟨by simp, fun _ _ => rfl, rfl, rfl, h0, fun j o d _ _ hl => by
      by_cases hj : j < l.length <;> simp [hj] at hl, fun j o i _ hl _ => by
      by_cases hj : j < l.length <;> simp [hj] at hl⟩
  · intro L a' w' hI hready
    obtain ⟨h1, h2, h3, h4, h5, h6, h7⟩ := hI
    have hall : ∀ j, j < l.length → L.getD j false = true := by
      intro j
      induction j using Nat.strongRecOn with
      | _ j ih =>
        intro hj
        have ho : l[j]? = some l[j] := List.getElem?_eq_getElem hj
        refine Reg.none_ready (by exact h1) hready (o := l[j]) (by simp) fun e he hb => ?_
        have hlt := order_at l 0 hor j _ ho e he hb
        exact ih e.on (by omega) (by omega)
    have hL : L = Array.replicate l.length true := by
      apply Array.ext
      · simpa using h1
      · intro i hi1 hi2
        have := hall i (by simpa using hi2)
        simp [hi1] at this
        simp [this]
    subst hL
    exact hdone a' w' h2 h3 h4 h5 fun j o d hj hd => h6 j o d (by simpa using hj) hd (hall j (by
      rcases Nat.lt_or_ge j l.length with h | h
      · exact h
      · rw [List.getElem?_eq_none h] at hj; cases hj))
  · intro L a' w' i hI hi
    obtain ⟨hun, o, ho, hdep⟩ := mem_ready.1 hi
    have hI' := hI
    obtain ⟨h1, h2, h3, h4, h5, h6, h7⟩ := hI
    have hcame : ∀ j, waits o j = true → L.getD j false = true := by
      intro j hj
      unfold waits at hj
      obtain ⟨e, he, hb⟩ := List.any_eq_true.1 hj
      simp only [Bool.and_eq_true, beq_iff_eq] at hb
      have := hdep e (by simpa using he) hb.2
      rw [hb.1] at this
      exact this
    have hs := steps_at l 0 hsteps i o (by simpa using ho)
    rw [Nat.zero_add] at hs
    replace hs := hs L a' w' ⟨h1, hun, h2, h3, h5, fun j o' d hj hd hw => h6 j o' d hj hd (hcame j hw), hcame, h7⟩
    unfold wpOp
    simp only [ho]
    rcases hs with ⟨hw, hs⟩ | ⟨hw, hv, hJ⟩
    · rw [if_pos hw]
      exact .inl (Oper.wp_mono (fun a'' w'' ⟨v, ha, hG, hv, hJ⟩ => by subst ha; exact inv_step (by simpa using hap) hsz' ho hun hcame hI' hG hv hJ) hs)
    · rw [if_neg (by rw [hw]; exact Bool.false_ne_true)]
      exact inv_step (by simpa using hap) hsz' ho hun hcame hI' (hGr w') hv hJ

/-! ### One operation -/

variable {o : Oper} {a : Act} {w : World} {K : Act → World → Prop}
theorem wp_mv (x : Operand) (ho : o.op = .move x) (h : K (a.put o.dst (a.eval x)) w) : o.wp P a w K Q := by
  unfold Oper.wp; rw [BigFrame.run_move x ho]; exact h
theorem wp_as (x : Operand) (ho : o.op = .assign x) (h : K (a.put o.dst (a.eval x)) w) : o.wp P a w K Q := by
  unfold Oper.wp; rw [BigFrame.run_assign x ho]; exact h
theorem wp_pk (c x y : Operand) (ho : o.op = .pick c x y) {b : Bool} (hc : a.eval c = .bool b) (h : K (a.put o.dst (if b then a.eval x else a.eval y)) w) : o.wp P a w K Q := by
  unfold Oper.wp execOp
  simp only [ho, hc]
  exact h
theorem wp_cv (s d : TypeId) (x : Operand) (ho : o.op = .convert s d x) {v u : Value} {w' : World} (hx : a.eval x = v) (hr : (convert s d v).run P w = .ok u w') (h : K (a.put o.dst u) w') : o.wp P a w K Q := by
  unfold Oper.wp execOp
  simp only [ho, hx, Sem.run_bind, hr]
  exact h
theorem wp_bo (k : BinOp) (t t' : TypeId) (x y : Operand) (ho : o.op = .binOp k t x y t') {vx vy u : Value} {w' : World} (hx : a.eval x = vx) (hy : a.eval y = vy)
    (hr : (do eqGuard k t x y vx vy; binOp k t vx vy : Sem Value).run P w = .ok u w') (h : K (a.put o.dst u) w') : o.wp P a w K Q := by
  unfold Oper.wp execOp
  simp only [ho, hx, hy]
  rw [Sem.run_bind, hr]
  exact h
theorem wp_cl (f : FuncId) (xs : List Operand) (ts : Array TypeId) (ho : o.op = .call { callee := .value (.func f), args := xs.toArray, argTypes := ts }) {fn : Func} (hf : P.funcs[f]? = some fn) (hk : (fn.body.isSome && !(fn.name == "runtime.NumGoroutine")) = true) (hc : Calls P f (xs.map a.eval).toArray w fun e w' => ∃ v, e = .returned v ∧ K (a.put o.dst v) w') : o.wp P a w K Q := by
  unfold Oper.wp execOp
  simp only [ho]
  simp [resolve, Deferred.ofValue, invoke, Act.eval]
  have hr : (callFunc f (xs.map a.eval).toArray).run P w = .ok (.enter f (xs.map a.eval).toArray) w := by
    simp only [Bool.and_eq_true, Bool.not_eq_true', Option.isSome_iff_exists] at hk
    obtain ⟨⟨c, hb⟩, hn⟩ := hk
    have hn' : ¬ fn.name = "runtime.NumGoroutine" := by simpa using hn
    simp [callFunc, hf, hb, hn']
  rw [hr]
  refine hc.mono fun e w' ⟨v, he, hK⟩ => ?_
  subst he
  exact hK
theorem wp_ld (t : TypeId) (x : Operand) (ho : o.op = .load t x) {v u : Value} {w' : World} (hx : a.eval x = v) (hr : (Instr.loadAt t v).run P w = .ok u w') (h : K (a.put o.dst u) w') : o.wp P a w K Q := by
  unfold Oper.wp execOp
  simp only [ho, hx, Sem.run_bind, hr]
  exact h
theorem wp_ia (t : TypeId) (x y : Operand) (ho : o.op = .indexAddr t x y) {vx vy u : Value} {w' : World} (hx : a.eval x = vx) (hy : a.eval y = vy) (hr : (Instr.indexAt t vx vy).run P w = .ok u w') (h : K (a.put o.dst u) w') : o.wp P a w K Q := by
  unfold Oper.wp execOp
  simp only [ho, hx, hy, Sem.run_bind, hr]
  exact h
theorem wp_sl (t : TypeId) (x : Operand) (lo hi mx : Option Operand) (ho : o.op = .slice t x lo hi mx) {vx u : Value} {vl vh vm : Option Value} {w' : World} (hx : a.eval x = vx) (hl : lo.map a.eval = vl) (hh : hi.map a.eval = vh) (hm : mx.map a.eval = vm) (hr : (Instr.sliceAt t vx vl vh vm).run P w = .ok u w') (h : K (a.put o.dst u) w') : o.wp P a w K Q := by
  unfold Oper.wp execOp
  simp only [ho, hx, hl, hh, hm, Sem.run_bind, hr]
  exact h
theorem wp_ex (t : Operand) (ix : Nat) (ho : o.op = .extract t ix) {v u : Value} {w' : World} (hx : a.eval t = v) (hr : (Instr.extract v ix).run P w = .ok u w') (h : K (a.put o.dst u) w') : o.wp P a w K Q := by
  unfold Oper.wp execOp
  simp only [ho, hx, Sem.run_bind, hr]
  exact h
theorem wp_len (x : Operand) (t : TypeId) (ho : o.op = .call { callee := .builtin .len, args := #[x], argTypes := #[t] }) {ad : Option Addr} {n c : Nat} (hx : a.eval x = .slice ad n c) (hr : (Builtin.len_ #[t] o.type #[.slice ad n c]).run P w = .ok (.int .i64 n) w) (h : K (a.put o.dst (.int .i64 n)) w) : o.wp P a w K Q := by
  unfold Oper.wp execOp
  simp only [ho]
  simp [resolve, invoke, builtin, hx]
  rw [hr]
  exact h

theorem wanted_free (hg : freeB o = true) (y : Nat → Option Bool) : Region.wanted o y = true := by
  unfold freeB at hg
  unfold Region.wanted
  rw [Option.isNone_iff_eq_none.1 hg]
theorem wanted_none (hg : o.guard = none) (y : Nat → Option Bool) : Region.wanted o y = true := by unfold Region.wanted; rw [hg]
theorem wanted_is {j : Nat} {b b' : Bool} {d : Tmp} (hg : o.guard = some (j, b)) {oj : Oper} (hj : ops[j]? = some oj) (hd : oj.dst = some d) (hv : slot a d = .bool b') : Region.wanted o (yielded ops a.tmps) = (b' == b) := by
  have hr : a.tmps[d]? = some (.bool b') := by
    unfold slot at hv
    rw [Array.getD_eq_getD_getElem?] at hv
    cases h : a.tmps[d]? with
    | none => rw [h] at hv; cases hv
    | some v => rw [h] at hv; simp at hv; rw [hv]
  unfold Region.wanted yielded
  simp only [hg, hj, Option.bind_some, hd, hr]
  cases b <;> cases b' <;> rfl
theorem wanted_by {j : Nat} {b : Bool} {d : Tmp} (h : wantB ops o j b d = true) (hv : slot a d = .bool b) : Region.wanted o (yielded ops a.tmps) = true := by
  unfold wantB at h
  simp only [Bool.and_eq_true] at h
  obtain ⟨h1, h2⟩ := h
  cases hg : o.guard with
  | none => rw [hg] at h1; cases h1
  | some g =>
    obtain ⟨j', b'⟩ := g
    rw [hg] at h1
    simp only [Bool.and_eq_true, beq_iff_eq] at h1
    obtain ⟨rfl, rfl⟩ := h1
    cases ho : ops.toList[j']? with
    | none => rw [ho] at h2; cases h2
    | some o' =>
      rw [ho] at h2
      rw [wanted_is hg (by simpa using ho) (by simpa using h2) hv]
      simp

end
end Go.Proofs.Ytckebhknnocpkaa.Rel
