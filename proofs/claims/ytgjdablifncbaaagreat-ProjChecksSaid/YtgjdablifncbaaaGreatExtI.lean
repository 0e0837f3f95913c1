/- A region that draws its order, walked by what stays true whatever comes up next: one step for each of its operations, whatever came up ahead. -/
import Derived.Test.YtgjdablifncbaaaGreatBase
import Derived.OrdersHeld
import Derived.Laws.Rows
namespace Go.Proofs.YtgjdablifncbaaaGreat
open Go.RowKit

section
variable {P : Program} {ops : Array Oper} {Q : Exit → Act → World → Prop} {md : Region.Mode}

def unlisted (l : Array Bool) : Nat := (l.toList.filter fun b => !b).length
theorem unlisted_set {l : Array Bool} {i : Nat} (h : l.getD i true = false) : unlisted (l.setIfInBounds i true) + 1 = unlisted l := by
  obtain ⟨l⟩ := l
  simp only [unlisted, List.setIfInBounds_toArray]
  have hl : l[i]? = some false := by
    have : (List.toArray l).getD i true = l.getD i true := by simp [List.getD]
    rw [this] at h
    rw [List.getD_eq_getElem?_getD] at h
    cases hx : l[i]? with
    | none => rw [hx] at h; cases h
    | some b => rw [hx] at h; simp at h; rw [h]
  clear h
  induction l generalizing i with
  | nil => simp at hl
  | cons b l ih =>
    cases i with
    | zero =>
      simp at hl
      subst hl
      simp
    | succ i =>
      have := ih (i := i) (by simpa using hl)
      rw [List.set_cons_succ, List.filter_cons, List.filter_cons]
      split
      · rw [List.length_cons, List.length_cons]; omega
      · exact this
theorem unlisted_none {l : Array Bool} (h : unlisted l = 0) (i : Nat) : l.getD i true = true := by
  obtain ⟨l⟩ := l
  have h : (l.filter fun b => !b).length = 0 := h
  have h2 := List.filter_eq_nil_iff.1 (List.length_eq_zero_iff.1 h)
  have e : (List.toArray l).getD i true = l.getD i true := by simp [List.getD]
  rw [e, List.getD_eq_getElem?_getD]
  cases hx : l[i]? with
  | none => rfl
  | some b =>
    have hm : b ∈ l := List.mem_of_getElem? hx
    have := h2 b (by simpa using hm)
    simpa using this
theorem unlisted_start (n : Nat) : unlisted (Array.replicate n false) ≤ n := by simp [unlisted]

theorem wpAny_inv (I : Array Bool → Act → World → Prop)
    (hstep : ∀ listed a w, I listed a w → ∀ i ∈ Region.ready md ops listed, wpOp P ops Q i (fun a' w' => I (listed.setIfInBounds i true) a' w') a w)
    (hend : ∀ listed a w, I listed a w → Region.ready md ops listed = [] → Q .normal a w) :
    ∀ fuel listed a w, I listed a w → unlisted listed ≤ fuel → wpAny P md ops Q fuel listed a w
  | 0, listed, a, w, h, hf => by
    have h0 : Region.ready md ops listed = [] := by
      rw [List.eq_nil_iff_forall_not_mem]
      intro i hi
      have := (mem_ready.1 hi).1
      rw [unlisted_none (by omega) i] at this
      cases this
    exact ⟨h0, hend listed a w h h0⟩
  | fuel + 1, listed, a, w, h, hf => ⟨hend listed a w h, fun i hi => wpOp_mono (fun a' w' h' => wpAny_inv I hstep hend fuel _ a' w' h' (by have := unlisted_set (mem_ready.1 hi).1; omega)) (hstep listed a w h i hi)⟩

/-- Each operation waits for earlier ones alone. -/
def lowB (ops : Array Oper) : Bool := (List.range ops.size).all fun i => ((ops[i]?).map fun o => o.after.all fun e => decide (e.on < i)).getD true
theorem low_spec (h : lowB ops = true) {i : Nat} {o : Oper} (ho : ops[i]? = some o) : ∀ e ∈ o.after, e.on < i := by
  intro e he
  have h1 := List.all_eq_true.1 h i (List.mem_range.2 (Array.getElem?_eq_some_iff.1 ho).1)
  rw [ho] at h1
  simp only [Option.map_some, Option.getD_some] at h1
  have := Array.all_eq_true_iff_forall_mem.1 h1 e he
  simpa using this
theorem all_listed (h : lowB ops = true) {listed : Array Bool} (hs : listed.size = ops.size) (hr : Region.ready md ops listed = []) : ∀ i, i < ops.size → listed.getD i false = true := by
  intro i
  induction i using Nat.strongRecOn with
  | _ i ih =>
    intro hi
    refine Classical.byContradiction fun hn => ?_
    have hf : listed.getD i true = false := by
      have e : listed[i]? = some listed[i] := Array.getElem?_eq_getElem (by omega)
      simp only [Array.getD_eq_getD_getElem?, e, Option.getD_some] at hn ⊢
      simpa using hn
    have : i ∈ Region.ready md ops listed := mem_ready.2 ⟨hf, ops[i], Array.getElem?_eq_getElem hi, fun e he _ => ih e.on (low_spec h (Array.getElem?_eq_getElem hi) e he) (by have := low_spec h (Array.getElem?_eq_getElem hi) e he; omega)⟩
    rw [hr] at this
    cases this

theorem wp_region_inv {id : Nat} {a : Act} {w : World} (hm : P.follows .mixedOrders = true) (hlow : lowB ops = true) (I : (Nat → Bool) → Act → World → Prop)
    (h0 : I (fun _ => false) a w.drew)
    (hstep : ∀ (d : Nat → Bool) a w, I d a w → ∀ (i : Nat) (o : Oper), ops[i]? = some o → d i = false → (∀ e ∈ o.after, Region.binds .any e = true → d e.on = true) → ∀ d' : Nat → Bool, (∀ k, k ≠ i → d' k = d k) → wpOp P ops Q i (fun a' w' => I d' a' w') a w)
    (hend : ∀ (d : Nat → Bool) a w, I d a w → (∀ i, i < ops.size → d i = true) → Q .normal a w) : (Code.region id ops true).wp P Q a w :=
  wp_region_any hm (wpAny_inv (fun listed a w => listed.size = ops.size ∧ I (fun k => listed.getD k false) a w) (fun listed a w h i hi => by
    obtain ⟨h1, o, h2, h3⟩ := mem_ready.1 hi
    refine wpOp_mono (fun a' w' h' => ⟨by rw [Array.size_setIfInBounds]; exact h.1, h'⟩) (hstep _ a w h.2 i o h2 (by
      have hl : i < listed.size := by rw [h.1]; exact (Array.getElem?_eq_some_iff.1 h2).1
      simp only [Array.getD_eq_getD_getElem?, Array.getElem?_eq_getElem hl, Option.getD_some] at h1 ⊢
      exact h1) h3 _ fun k hk => getD_set_ne false (Ne.symm hk))) (fun listed a w h hr => hend _ a w h.2 (all_listed hlow h.1 hr)) _ _ _ _ ⟨by simp, by
      have e : (fun k => (Array.replicate ops.size false).getD k false) = fun _ => false := by
        funext k
        simp only [Array.getD_eq_getD_getElem?, Array.getElem?_replicate]
        split <;> rfl
      rw [e]; exact h0⟩ (unlisted_start _))

/-- An operation that yields a value. -/
theorem wpOp_val {i : Nat} {o : Oper} {a : Act} {w w' : World} {v : Value} {K : Act → World → Prop} (hi : ops[i]? = some o) (hg : o.guard = none) (hr : (execOp a.eval o).run P w = .ok (.value v) w') (hK : K (a.put o.dst v) w') : wpOp P ops Q i K a w := by
  unfold wpOp
  simp only [hi]
  rw [if_pos (by simp [Region.wanted, hg])]
  exact .inl (by unfold Oper.wp; rw [hr]; exact hK)
/-- An operation that yields nothing. -/
theorem wpOp_skip {i : Nat} {o : Oper} {a : Act} {w w' : World} {K : Act → World → Prop} (hi : ops[i]? = some o) (hg : o.guard = none) (hd : o.dst = none) (hr : (execOp a.eval o).run P w = .ok .skip w') (hK : K a w') : wpOp P ops Q i K a w := by
  unfold wpOp
  simp only [hi]
  rw [if_pos (by simp [Region.wanted, hg])]
  refine .inl ?_
  unfold Oper.wp
  rw [hr]
  show K (a.put o.dst undef) w'
  rw [hd]
  exact hK
/-- An operation that calls a function. -/
theorem wpOp_call {i f : Nat} {o : Oper} {a : Act} {w : World} {args : Array Value} {K : Act → World → Prop} (hi : ops[i]? = some o) (hg : o.guard = none) (hr : (execOp a.eval o).run P w = .ok (.enter f args) w)
    (hc : Calls P f args w fun e w' => ∃ v, e = .returned v ∧ K (a.put o.dst v) w') : wpOp P ops Q i K a w := by
  unfold wpOp
  simp only [hi]
  rw [if_pos (by simp [Region.wanted, hg])]
  refine .inl ?_
  unfold Oper.wp
  rw [hr]
  refine Calls.mono hc fun e w' ⟨v, he, hk⟩ => ?_
  subst he
  exact hk

end

end Go.Proofs.YtgjdablifncbaaaGreat
