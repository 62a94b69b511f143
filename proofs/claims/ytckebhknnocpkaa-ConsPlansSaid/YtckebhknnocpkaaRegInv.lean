/- A region that draws its order, by an invariant: what holds whenever some of its operations have come up. -/
import Derived.Orders
import Derived.RegionTactic
import Derived.WalkKit
namespace Go.Proofs.Ytckebhknnocpkaa.Reg

variable {P : Program} {ops : Array Oper} {Q : Exit → Act → World → Prop} {md : Region.Mode}

theorem ready_false {listed : Array Bool} {i : Nat} (h : i ∈ Region.ready md ops listed) : listed.getD i true = false := by
  unfold Region.ready at h
  simp only [List.mem_filter, Bool.and_eq_true] at h
  simpa using h.2.1

theorem getD_false {listed : Array Bool} {i : Nat} (h : listed.getD i true = false) : ∃ hi : i < listed.size, listed[i] = false := by
  by_cases hi : i < listed.size
  · simp [hi] at h; exact ⟨hi, h⟩
  · simp [hi] at h

theorem wpAny_inv {I : Array Bool → Act → World → Prop} (hdone : ∀ listed a w, I listed a w → Region.ready md ops listed = [] → Q .normal a w)
    (hstep : ∀ listed a w i, I listed a w → i ∈ Region.ready md ops listed → wpOp P ops Q i (I (listed.setIfInBounds i true)) a w) :
    ∀ (fuel : Nat) (listed : Array Bool) (a : Act) (w : World), I listed a w → listed.toList.count false ≤ fuel → wpAny P md ops Q fuel listed a w := by
  intro fuel
  induction fuel with
  | zero =>
    intro listed a w hI hc
    have hr : Region.ready md ops listed = [] := by
      cases h : Region.ready md ops listed with
      | nil => rfl
      | cons i l =>
        obtain ⟨hi, he⟩ := getD_false (ready_false (md := md) (ops := ops) (listed := listed) (i := i) (by rw [h]; simp))
        have : false ∈ listed.toList := by rw [← he]; simp
        have := List.count_pos_iff.2 this
        omega
    exact ⟨hr, hdone listed a w hI hr⟩
  | succ fuel ih =>
    intro listed a w hI hc
    refine ⟨hdone listed a w hI, fun i hi => wpOp_mono (fun a' w' h' => ih _ a' w' h' ?_) (hstep listed a w i hI hi)⟩
    obtain ⟨hlt, he⟩ := getD_false (ready_false hi)
    rw [Array.toList_setIfInBounds, List.count_set (by simpa using hlt)]
    have hf : false ∈ listed.toList := by rw [← he]; simp
    have := List.count_pos_iff.2 hf
    simp only [Array.getElem_toList, he, beq_self_eq_true, if_true, show (true == false) = false from rfl, Bool.false_eq_true, if_false]
    omega

/-- All ways of a region. -/
theorem any_inv {a : Act} {w : World} (I : Array Bool → Act → World → Prop) (h0 : I (Array.replicate ops.size false) a w.drew)
    (hdone : ∀ listed a w, I listed a w → Region.ready md ops listed = [] → Q .normal a w)
    (hstep : ∀ listed a w i, I listed a w → i ∈ Region.ready md ops listed → wpOp P ops Q i (I (listed.setIfInBounds i true)) a w) : wpAny P md ops Q ops.size (Array.replicate ops.size false) a w.drew :=
  wpAny_inv hdone hstep _ _ _ _ h0 (by simp)
/-- The whole region. -/
theorem wp_region_inv {id : Nat} {a : Act} {w : World} (I : Array Bool → Act → World → Prop) (hm : P.follows .mixedOrders = true) (h0 : I (Array.replicate ops.size false) a w.drew)
    (hdone : ∀ listed a w, I listed a w → Region.ready .any ops listed = [] → Q .normal a w)
    (hstep : ∀ listed a w i, I listed a w → i ∈ Region.ready .any ops listed → wpOp P ops Q i (I (listed.setIfInBounds i true)) a w) : (Code.region id ops true).wp P Q a w :=
  wp_region_any hm (any_inv I h0 hdone hstep)

/-- Where nothing may come up any more, whatever waits for nothing that has not come up has come up. -/
theorem none_ready {listed : Array Bool} {i : Nat} {o : Oper} (hs : listed.size = ops.size) (h : Region.ready md ops listed = []) (ho : ops[i]? = some o)
    (hd : ∀ e ∈ o.after, Region.binds md e = true → listed.getD e.on false = true) : listed.getD i false = true := by
  have hi : i < listed.size := by rw [hs]; exact (Array.getElem?_eq_some_iff.1 ho).1
  cases hb : listed[i] with
  | true => simp [hi, hb]
  | false =>
    have : i ∈ Region.ready md ops listed := mem_ready.2 ⟨by simp [hi, hb], o, ho, hd⟩
    rw [h] at this
    cases this

end Go.Proofs.Ytckebhknnocpkaa.Reg
