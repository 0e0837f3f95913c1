/- A region that draws its order, walked by what stays true whatever comes up next: one step for each of its operations, whatever came up ahead. · Frames of which some slots are told by a function: for regions walked by what stays true (ExtI). · What single operations do, told once. -/
import Derived.Test.YtjbodokligpcaaaGreatBase
import Derived.OrdersHeld
import Derived.Laws.Rows
namespace Go.Proofs.YtjbodokligpcaaaGreat
open Go.RowKit

section
variable {P : Program} {ops : Array Oper} {Q : Exit → Act → World → Prop} {md : Region.Mode}

def unlisted (l : Array Bool) : Nat := (l.toList.filter fun b => !b).length
theorem unlisted_set {l : Array Bool} {i : Nat} (h : l.getD i true = false) : unlisted (l.setIfInBounds i true) + 1 = unlisted l := by
  obtain ⟨l⟩ := l
  simp only [unlisted, List.setIfInBounds_toArray]
  have hl : l[i]? = some false := by
    have : (List.toArray l).getD i true = l.getD i true := by simp [List.getD]
    rw [this] at h
    rw [List.getD_eq_getElem?_getD] at h
    cases hx : l[i]? with
    | none => rw [hx] at h; cases h
    | some b => rw [hx] at h; simp at h; rw [h]
  clear h
  induction l generalizing i with
  | nil => simp at hl
  | cons b l ih =>
    cases i with
    | zero =>
      simp at hl
      subst hl
      simp
    | succ i =>
      have := ih (i := i) (by simpa using hl)
      rw [List.set_cons_succ, List.filter_cons, List.filter_cons]
      split
      · rw [List.length_cons, List.length_cons]; omega
      · exact this
theorem unlisted_none {l : Array Bool} (h : unlisted l = 0) (i : Nat) : l.getD i true = true := by
  obtain ⟨l⟩ := l
  have h : (l.filter fun b => !b).length = 0 := h
  have h2 := List.filter_eq_nil_iff.1 (List.length_eq_zero_iff.1 h)
  have e : (List.toArray l).getD i true = l.getD i true := by simp [List.getD]
  rw [e, List.getD_eq_getElem?_getD]
  cases hx : l[i]? with
  | none => rfl
  | some b =>
    have hm : b ∈ l := List.mem_of_getElem? hx
    have := h2 b (by simpa using hm)
    simpa using this
theorem unlisted_start (n : Nat) : unlisted (Array.replicate n false) ≤ n := by simp [unlisted]

theorem wpAny_inv (I : Array Bool → Act → World → Prop)
    (hstep : ∀ listed a w, I listed a w → ∀ i ∈ Region.ready md ops listed, wpOp P ops Q i (fun a' w' => I (listed.setIfInBounds i true) a' w') a w)
    (hend : ∀ listed a w, I listed a w → Region.ready md ops listed = [] → Q .normal a w) :
    ∀ fuel listed a w, I listed a w → unlisted listed ≤ fuel → wpAny P md ops Q fuel listed a w
  | 0, listed, a, w, h, hf => by
    have h0 : Region.ready md ops listed = [] := by
      rw [List.eq_nil_iff_forall_not_mem]
      intro i hi
      have := (mem_ready.1 hi).1
      rw [unlisted_none (by omega) i] at this
      cases this
    exact ⟨h0, hend listed a w h h0⟩
  | fuel + 1, listed, a, w, h, hf => ⟨hend listed a w h, fun i hi => wpOp_mono (fun a' w' h' => wpAny_inv I hstep hend fuel _ a' w' h' (by have := unlisted_set (mem_ready.1 hi).1; omega)) (hstep listed a w h i hi)⟩

/-- Each operation waits for earlier ones alone. -/
def lowB (ops : Array Oper) : Bool := (List.range ops.size).all fun i => ((ops[i]?).map fun o => o.after.all fun e => decide (e.on < i)).getD true
theorem low_spec (h : lowB ops = true) {i : Nat} {o : Oper} (ho : ops[i]? = some o) : ∀ e ∈ o.after, e.on < i := by
  intro e he
  have h1 := List.all_eq_true.1 h i (List.mem_range.2 (Array.getElem?_eq_some_iff.1 ho).1)
  rw [ho] at h1
  simp only [Option.map_some, Option.getD_some] at h1
  have := Array.all_eq_true_iff_forall_mem.1 h1 e he
  simpa using this
theorem all_listed (h : lowB ops = true) {listed : Array Bool} (hs : listed.size = ops.size) (hr : Region.ready md ops listed = []) : ∀ i, i < ops.size → listed.getD i false = true := by
  intro i
  induction i using Nat.strongRecOn with
  | _ i ih =>
    intro hi
    refine Classical.byContradiction fun hn => ?_
    have hf : listed.getD i true = false := by
      have e : listed[i]? = some listed[i] := Array.getElem?_eq_getElem (by omega)
      simp only [Array.getD_eq_getD_getElem?, e, Option.getD_some] at hn ⊢
      simpa using hn
    have : i ∈ Region.ready md ops listed := mem_ready.2 ⟨hf, ops[i], Array.getElem?_eq_getElem hi, fun e he _ => ih e.on (low_spec h (Array.getElem?_eq_getElem hi) e he) (by have := low_spec h (Array.getElem?_eq_getElem hi) e he; omega)⟩
    rw [hr] at this
    cases this

theorem wp_region_inv {id : Nat} {a : Act} {w : World} (hm : P.follows .mixedOrders = true) (hlow : lowB ops = true) (I : (Nat → Bool) → Act → World → Prop)
    (h0 : I (fun _ => false) a w.drew)
    (hstep : ∀ (d : Nat → Bool) a w, I d a w → ∀ (i : Nat) (o : Oper), ops[i]? = some o → d i = false → (∀ e ∈ o.after, Region.binds .any e = true → d e.on = true) → ∀ d' : Nat → Bool, (∀ k, k ≠ i → d' k = d k) → wpOp P ops Q i (fun a' w' => I d' a' w') a w)
    (hend : ∀ (d : Nat → Bool) a w, I d a w → (∀ i, i < ops.size → d i = true) → Q .normal a w) : (Code.region id ops true).wp P Q a w :=
  wp_region_any hm (wpAny_inv (fun listed a w => listed.size = ops.size ∧ I (fun k => listed.getD k false) a w) (fun listed a w h i hi => by
    obtain ⟨h1, o, h2, h3⟩ := mem_ready.1 hi
    refine wpOp_mono (fun a' w' h' => ⟨by rw [Array.size_setIfInBounds]; exact h.1, h'⟩) (hstep _ a w h.2 i o h2 (by
      have hl : i < listed.size := by rw [h.1]; exact (Array.getElem?_eq_some_iff.1 h2).1
      simp only [Array.getD_eq_getD_getElem?, Array.getElem?_eq_getElem hl, Option.getD_some] at h1 ⊢
      exact h1) h3 _ fun k hk => getD_set_ne false (Ne.symm hk))) (fun listed a w h hr => hend _ a w h.2 (all_listed hlow h.1 hr)) _ _ _ _ ⟨by simp, by
      have e : (fun k => (Array.replicate ops.size false).getD k false) = fun _ => false := by
        funext k
        simp only [Array.getD_eq_getD_getElem?, Array.getElem?_replicate]
        split <;> rfl
      rw [e]; exact h0⟩ (unlisted_start _))

/-- An operation that yields a value. -/
theorem wpOp_val {i : Nat} {o : Oper} {a : Act} {w w' : World} {v : Value} {K : Act → World → Prop} (hi : ops[i]? = some o) (hg : o.guard = none) (hr : (execOp a.eval o).run P w = .ok (.value v) w') (hK : K (a.put o.dst v) w') : wpOp P ops Q i K a w := by
  unfold wpOp
  simp only [hi]
  rw [if_pos (by simp [Region.wanted, hg])]
  exact .inl (by unfold Oper.wp; rw [hr]; exact hK)
/-- An operation that yields nothing. -/
theorem wpOp_skip {i : Nat} {o : Oper} {a : Act} {w w' : World} {K : Act → World → Prop} (hi : ops[i]? = some o) (hg : o.guard = none) (hd : o.dst = none) (hr : (execOp a.eval o).run P w = .ok .skip w') (hK : K a w') : wpOp P ops Q i K a w := by
  unfold wpOp
  simp only [hi]
  rw [if_pos (by simp [Region.wanted, hg])]
  refine .inl ?_
  unfold Oper.wp
  rw [hr]
  show K (a.put o.dst undef) w'
  rw [hd]
  exact hK
/-- An operation that calls a function. -/
theorem wpOp_call {i f : Nat} {o : Oper} {a : Act} {w : World} {args : Array Value} {K : Act → World → Prop} (hi : ops[i]? = some o) (hg : o.guard = none) (hr : (execOp a.eval o).run P w = .ok (.enter f args) w)
    (hc : Calls P f args w fun e w' => ∃ v, e = .returned v ∧ K (a.put o.dst v) w') : wpOp P ops Q i K a w := by
  unfold wpOp
  simp only [hi]
  rw [if_pos (by simp [Region.wanted, hg])]
  refine .inl ?_
  unfold Oper.wp
  rw [hr]
  refine Calls.mono hc fun e w' ⟨v, he, hk⟩ => ?_
  subst he
  exact hk

end

end Go.Proofs.YtjbodokligpcaaaGreat

namespace Go.Proofs.YtjbodokligpcaaaGreat
open Go.RowKit

/-- The frame T, its slots S holding what f says. -/
def updF (T : Array Value) (S : List Nat) (f : Nat → Value) : Array Value := S.foldr (fun k T => T.setIfInBounds k (f k)) T
theorem updF_size (T : Array Value) (f : Nat → Value) : ∀ S : List Nat, (updF T S f).size = T.size
  | [] => rfl
  | k :: S => by
    show ((updF T S f).setIfInBounds k (f k)).size = _
    rw [Array.size_setIfInBounds, updF_size T f S]
theorem updF_get (T : Array Value) (f : Nat → Value) (j : Nat) : ∀ S : List Nat, (updF T S f)[j]? = if j ∈ S ∧ j < T.size then some (f j) else T[j]?
  | [] => by simp [updF]
  | k :: S => by
    show ((updF T S f).setIfInBounds k (f k))[j]? = _
    rw [Array.getElem?_setIfInBounds, updF_size, updF_get T f j S]
    by_cases hkj : k = j
    · subst hkj
      rw [if_pos rfl]
      by_cases hl : k < T.size
      · rw [if_pos hl, if_pos ⟨List.mem_cons_self .., hl⟩]
      · rw [if_neg hl, if_neg (fun h => hl h.2), Array.getElem?_eq_none (by omega)]
    · rw [if_neg hkj]
      by_cases hm : j ∈ S ∧ j < T.size
      · rw [if_pos hm, if_pos ⟨List.mem_cons_of_mem _ hm.1, hm.2⟩]
      · rw [if_neg hm, if_neg]
        rintro ⟨h1, h2⟩
        rcases List.mem_cons.1 h1 with h | h
        · exact hkj h.symm
        · exact hm ⟨h, h2⟩
theorem updF_set {T : Array Value} {S : List Nat} {f : Nat → Value} {k : Nat} (hk : k ∈ S) (v : Value) : (updF T S f).setIfInBounds k v = updF T S (fun j => if j = k then v else f j) := by
  apply Array.ext_getElem?
  intro j
  rw [Array.getElem?_setIfInBounds, updF_size, updF_get, updF_get]
  by_cases hkj : k = j
  · subst hkj
    rw [if_pos rfl]
    by_cases hl : k < T.size
    · rw [if_pos hl, if_pos ⟨hk, hl⟩, if_pos rfl]
    · rw [if_neg hl, if_neg (fun h => hl h.2), Array.getElem?_eq_none (by omega)]
  · rw [if_neg hkj]
    split
    · rw [if_neg (fun e => hkj e.symm)]
    · rfl
theorem updF_start (T : Array Value) (S : List Nat) : updF T S (fun k => T.getD k undef) = T := by
  apply Array.ext_getElem?
  intro j
  rw [updF_get]
  split
  · rename_i h
    rw [Array.getElem?_eq_getElem h.2]
    simp [h.2]
  · rfl
theorem updF_on {T : Array Value} {S : List Nat} {f : Nat → Value} {k : Nat} (hk : S.contains k = true) (hl : k < T.size) : (updF T S f).getD k undef = f k := by
  rw [Array.getD_eq_getD_getElem?, updF_get, if_pos ⟨by simpa using hk, hl⟩]; rfl
theorem updF_off {T : Array Value} {S : List Nat} {f : Nat → Value} {k : Nat} (hk : S.contains k = false) : (updF T S f).getD k undef = T.getD k undef := by
  rw [Array.getD_eq_getD_getElem?, updF_get, if_neg (fun h => by have := h.1; simp at hk; exact hk this), Array.getD_eq_getD_getElem?]

section
variable {P : Program} {ops : Array Oper} {Q : Exit → Act → World → Prop}
theorem wp_region_told {id : Nat} {T : Array Value} {D : List Deferred} {w : World} (S : List Nat) (hm : P.follows .mixedOrders = true) (hlow : lowB ops = true) (I : (Nat → Bool) → (Nat → Value) → World → Prop)
    (h0 : I (fun _ => false) (fun k => T.getD k undef) w.drew)
    (hstep : ∀ (d : Nat → Bool) (f : Nat → Value) (w : World), I d f w → ∀ (i : Nat) (o : Oper), ops[i]? = some o → d i = false → (∀ e ∈ o.after, Region.binds .any e = true → d e.on = true) → ∀ d' : Nat → Bool, (∀ k, k ≠ i → d' k = d k) →
      wpOp P ops Q i (fun a' w' => ∃ f', a' = ⟨updF T S f', D⟩ ∧ I d' f' w') ⟨updF T S f, D⟩ w)
    (hend : ∀ (d : Nat → Bool) (f : Nat → Value) (w : World), I d f w → (∀ i, i < ops.size → d i = true) → Q .normal ⟨updF T S f, D⟩ w) : (Code.region id ops true).wp P Q ⟨T, D⟩ w :=
  wp_region_inv hm hlow (fun d a w => ∃ f, a = ⟨updF T S f, D⟩ ∧ I d f w) ⟨_, by rw [updF_start], h0⟩
    (fun d a w h i o ho hi hdep d' hd' => by obtain ⟨f, rfl, hI⟩ := h; exact hstep d f w hI i o ho hi hdep d' hd')
    (fun d a w h hall => by obtain ⟨f, rfl, hI⟩ := h; exact hend d f w hI hall)
theorem put_told {T : Array Value} {D : List Deferred} {S : List Nat} {f : Nat → Value} {k : Nat} (hk : S.contains k = true) (v : Value) : (⟨updF T S f, D⟩ : Act).put (some k) v = ⟨updF T S (fun j => if j = k then v else f j), D⟩ := by
  show (⟨(updF T S f).setIfInBounds k v, D⟩ : Act) = _
  rw [updF_set (by simpa using hk)]
end

end Go.Proofs.YtjbodokligpcaaaGreat

namespace Go.Proofs.YtjbodokligpcaaaGreat
open Go.RowKit

section
variable {P : Program}
theorem exec_move {ρ : Operand → Value} {o : Oper} {x : Operand} {v : Value} {w : World} (h : o.op = .move x) (hv : ρ x = v) : (execOp ρ o).run P w = .ok (.value v) w := by
  subst hv
  unfold execOp
  simp only [h]
  rfl
theorem eval_on {T : Array Value} {D : List Deferred} {S : List Nat} {f : Nat → Value} {k : Nat} {v : Value} (hk : S.contains k = true) (hl : k < T.size) (hv : f k = v) : (⟨updF T S f, D⟩ : Act).eval (.tmp k) = v := (updF_on hk hl).trans hv
theorem eval_off {T : Array Value} {D : List Deferred} {S : List Nat} {f : Nat → Value} {k : Nat} {v : Value} (hk : S.contains k = false) (hv : T.getD k undef = v) : (⟨updF T S f, D⟩ : Act).eval (.tmp k) = v := (updF_off hk).trans hv
theorem exec_call1 {ρ : Operand → Value} {o : Oper} {f : Nat} {x : Operand} {t : TypeId} {v : Value} {w : World} (h : o.op = .call { callee := .value (.func f), args := #[x], argTypes := #[t] }) (hf : ρ (.func f) = .func (.func f) #[] #[]) (hv : ρ x = v)
    (hent : ∀ (args : Array Value) (w : World), (callFunc f args).run P w = .ok (.enter f args) w) : (execOp ρ o).run P w = .ok (.enter f #[v]) w := by
  subst hv
  unfold execOp
  simp only [h]
  go_simp
theorem exec_load_row {ρ : Operand → Value} {o : Oper} {w : World} {ty : TypeId} {x : Operand} {g : Nat} {t : TypeId} {cs : Array Value} {fr : Nat × Nat} {d : TypeDesc} (h : o.op = .load ty x) (hx : ρ x = .pointer (some ⟨g, 0, none⟩)) (hg : w.heap[g]? = some (.cells cs t fr))
    (hu : P.underlying ty = some d) (hd : (match d with | .struct _ | .array _ _ => true | _ => false) = true) (hi : (P.info? ty).map (·.size) = some cs.size) : (execOp ρ o).run P w = .ok (.value (.agg cs)) w := by
  unfold execOp
  simp only [h, hx, Instr.loadAt, Instr.sureAddr, Sem.run_bind, Sem.run_pure, Result.andThen_ok, run_loadVar_row w g t ty cs fr d hg hu hd hi]
end

end Go.Proofs.YtjbodokligpcaaaGreat
