/- A region that draws its order, walked in one way: what yields one value in every world that may come, and only makes the world greater, is taken first; calls too. -/
import Derived.Test.YtpebmmhokigglaaBase
import Derived.OrdersHeld
import Derived.Laws.Rows
namespace Go.Proofs.Ytpebmmhokigglaa
open Go.RowKit

/-- How worlds may go on in a region. -/
structure Pre (R : World → World → Prop) : Prop where
  refl : ∀ w, R w w
  trans : ∀ {a b c}, R a b → R b c → R a c

theorem pre_below : Pre (fun w w' => Below w.heap.size w w') := ⟨fun _ => Below.refl _ _, fun h k => h.trans (k.mono h.size)⟩
theorem pre_grown (r : Option Nat) : Pre (fun w w' => w.grownBy w' r) := ⟨fun _ => World.grownBy.refl _ _, fun h k => grownBy_trans h k fun _ hj _ => hj⟩

/-- A result that is v, in a world of which S holds. -/
inductive Gives (P : Program) (S : World → Prop) (v : Value) : Result Next → Prop
  | value {w' : World} : S w' → Gives P S v (.ok (.value v) w')
  | enter {f : FuncId} {args : Array Value} {w' : World} : Calls P f args w' (fun e w'' => e = .returned v ∧ S w'') → Gives P S v (.ok (.enter f args) w')

theorem gives_value {P : Program} {S : World → Prop} {v : Value} {r : Result Next} {w : World} (hs : S w) (h : r = .ok (.value v) w) : Gives P S v r := by
  rw [h]
  exact .value hs

section
variable {P : Program} {ops : Array Oper} {Q : Exit → Act → World → Prop} {md : Region.Mode} {R : World → World → Prop}

theorem Gives.upon {S : World → Prop} {v : Value} {r : Result Next} (h : Gives P S v r) {o : Oper} {a : Act} {K : Act → World → Prop} (hK : ∀ w', S w' → K (a.put o.dst v) w') : o.upon P a K Q r := by
  cases h with
  | value hs => exact hK _ hs
  | enter hc =>
    refine Calls.mono hc fun e w'' he => ?_
    obtain ⟨rfl, hs⟩ := he
    exact hK _ hs

/-- In state a, in every world that may come, o leaves v, and the world is one that may come. -/
def GivesE (P : Program) (ops : Array Oper) (R : World → World → Prop) (o : Oper) (v : Value) (a : Act) (w : World) : Prop :=
  (Region.wanted o (yielded ops a.tmps) = true ∧ ∀ w1, R w w1 → Gives P (R w1) v ((execOp a.eval o).run P w1)) ∨ (Region.wanted o (yielded ops a.tmps) = false ∧ v = undef)

theorem GivesE.later {o : Oper} {v : Value} {a : Act} {w w' : World} (hR : Pre R) (h : GivesE P ops R o v a w) (hw : R w w') : GivesE P ops R o v a w' :=
  h.imp (fun ⟨h1, h2⟩ => ⟨h1, fun w1 hw1 => h2 w1 (hR.trans hw hw1)⟩) id
theorem GivesE.of_same {o : Oper} {v : Value} {a a' : Act} {w : World} (hy : GivesE P ops R o v a w) (he : execOp a'.eval o = execOp a.eval o)
    (hw : Region.wanted o (yielded ops a'.tmps) = Region.wanted o (yielded ops a.tmps)) : GivesE P ops R o v a' w := by
  unfold GivesE at *
  rw [he, hw]
  exact hy
theorem GivesE.wpOp (hR : Pre R) {i : Nat} {o : Oper} {v : Value} {a : Act} {w : World} (hi : ops[i]? = some o) (hy : GivesE P ops R o v a w)
    {K : Act → World → Prop} (h : ∀ w', R w w' → K (a.put o.dst v) w') : wpOp P ops Q i K a w := by
  unfold Go.wpOp
  simp only [hi]
  rcases hy with ⟨hw, hv⟩ | ⟨hw, rfl⟩
  · simp only [hw, if_true, Oper.wp]
    exact .inl ((hv w (hR.refl w)).upon h)
  · simp only [hw, Bool.false_eq_true, if_false]; exact h w (hR.refl w)

/-- Whatever order is picked from here on, in every world that may have come. -/
def wpAnyE (P : Program) (md : Region.Mode) (ops : Array Oper) (Q : Exit → Act → World → Prop) (R : World → World → Prop) : Nat → Array Bool → Act → World → Prop
  | 0, listed, a, w => Region.ready md ops listed = [] ∧ ∀ w1, R w w1 → Q .normal a w1
  | fuel + 1, listed, a, w => ∀ w1, R w w1 → (Region.ready md ops listed = [] → Q .normal a w1) ∧
    ∀ i ∈ Region.ready md ops listed, wpOp P ops Q i (fun a' w' => R w1 w' ∧ wpAnyE P md ops Q R fuel (listed.setIfInBounds i true) a' w') a w1

theorem wpAnyE.later (hR : Pre R) : ∀ {fuel : Nat} {listed : Array Bool} {a : Act} {w w' : World}, wpAnyE P md ops Q R fuel listed a w → R w w' → wpAnyE P md ops Q R fuel listed a w'
  | 0, _, _, _, _, h, hw => ⟨h.1, fun w1 hw1 => h.2 w1 (hR.trans hw hw1)⟩
  | _ + 1, _, _, _, _, h, hw => fun w1 hw1 => h w1 (hR.trans hw hw1)

theorem wpAny_of_ext (hR : Pre R) : ∀ (fuel : Nat) (listed : Array Bool) (a : Act) (w : World), wpAnyE P md ops Q R fuel listed a w → wpAny P md ops Q fuel listed a w
  | 0, _, _, _, h => ⟨h.1, h.2 _ (hR.refl _)⟩
  | fuel + 1, _, _, w, h => ⟨(h w (hR.refl w)).1, fun i hi => wpOp_mono (fun a' w' h' => wpAny_of_ext hR fuel _ a' w' h'.2) ((h w (hR.refl w)).2 i hi)⟩

/-- One operation apart from another: whether the other's value is there already makes no difference. -/
theorem wpOp_putE {j : Nat} {oi oj : Oper} {v : Value} (hj : ops[j]? = some oj) (hap : oi.apart ops oj = true)
    (hsi : ∀ cs b, oi.op ≠ .select cs b) (hsj : ∀ cs b, oj.op ≠ .select cs b)
    (hQ : ∀ c a w, Q (.panic c) (a.put oi.dst v) w → Q (.panic c) a w) {K : Act → World → Prop} {a : Act} {w0 w : World}
    (hy : GivesE P ops R oi v a w0) (h : wpOp P ops Q j K (a.put oi.dst v) w) :
    wpOp P ops Q j (fun a' w' => GivesE P ops R oi v a' w0 ∧ K (a'.put oi.dst v) w') a w := by
  obtain ⟨h1, h2, h3⟩ := Oper.apart_spec hap
  have keep : ∀ (a : Act), GivesE P ops R oi v a w0 → ∀ u, GivesE P ops R oi v (a.put oj.dst u) w0 := fun a hy u =>
    hy.of_same (execOp_put oi hsi a oj.dst u h3) (wanted_put oi a oj.dst u h3)
  have keepD : ∀ d, GivesE P ops R oi v { a with defers := d :: a.defers } w0 := fun d => hy.of_same rfl rfl
  unfold wpOp at *
  simp only [hj] at *
  rw [wanted_put oj a oi.dst v h1] at h
  split
  · rename_i hw
    simp only [hw, if_true] at h
    rcases h with h | ⟨hasks, hlets⟩
    case inr => exact .inr ⟨by unfold Oper.asks at *; rw [execOp_put oj hsj a oi.dst v h1] at hasks; exact hasks, hlets⟩
    refine .inl ?_
    unfold Oper.wp at *
    rw [execOp_put oj hsj a oi.dst v h1] at h
    generalize (execOp a.eval oj).run P w = r at *
    cases r with
    | ok n w' =>
      cases n <;> simp only [Oper.upon] at h ⊢
      case value u => exact ⟨keep a hy u, by rw [← Act.put_comm a v u h2]; exact h⟩
      case skip => exact ⟨keep a hy _, by rw [← Act.put_comm a v undef h2]; exact h⟩
      case defer d =>
        refine ⟨keep _ (keepD d) _, ?_⟩
        rw [← Act.put_comm _ v undef h2, ← Act.put_defers]
        exact h
      case enter f args =>
        refine Calls.mono h fun e w'' he => ?_
        cases e with
        | returned u => exact ⟨keep a hy u, by rw [← Act.put_comm a v u h2]; exact he⟩
        | panicked c => exact hQ _ _ _ he
        | outgrown => exact he
      case row row args => exact Rows.mono h fun u w'' he => ⟨keep a hy u, by rw [← Act.put_comm a v u h2]; exact he⟩
    | halt x w' =>
      cases x <;> simp only [Oper.upon] at h ⊢
      case panic u => exact hQ _ _ _ h
  · rename_i hw
    simp only [hw] at h
    exact ⟨keep a hy _, by rw [← Act.put_comm a v undef h2]; exact h⟩

theorem ext_first (hR : Pre R) {i : Nat} {oi : Oper} {v : Value} (hi : ops[i]? = some oi) (hsel : ∀ (j : Nat) (o : Oper) cs b, ops[j]? = some o → o.op ≠ .select cs b)
    (hQ : ∀ c a w, Q (.panic c) (a.put oi.dst v) w → Q (.panic c) a w) :
    ∀ (fuel : Nat) (listed : Array Bool) (a : Act) (w : World),
      (∀ j oj, ops[j]? = some oj → j ≠ i → listed.getD j true = false → (∀ e ∈ oj.after, Region.binds md e = true → e.on ≠ i) → oi.apart ops oj = true) →
      i ∈ Region.ready md ops listed → GivesE P ops R oi v a w →
      wpAnyE P md ops Q R fuel (listed.setIfInBounds i true) (a.put oi.dst v) w → wpAnyE P md ops Q R (fuel + 1) listed a w := by
  intro fuel
  induction fuel with
  | zero =>
    intro listed a w _ hr hy H w1 hw1
    refine ⟨fun h => (by rw [h] at hr; cases hr), fun j hj => ?_⟩
    by_cases hji : j = i
    · subst hji
      exact (hy.later hR hw1).wpOp hR hi fun w' hw' => ⟨hw', wpAnyE.later hR H (hR.trans hw1 hw')⟩
    · have := ready_mono hj hji
      rw [H.1] at this
      cases this
  | succ fuel ih =>
    intro listed a w hfree hr hy H w1 hw1
    refine ⟨fun h => (by rw [h] at hr; cases hr), fun j hj => ?_⟩
    by_cases hji : j = i
    · subst hji
      exact (hy.later hR hw1).wpOp hR hi fun w' hw' => ⟨hw', wpAnyE.later hR H (hR.trans hw1 hw')⟩
    · have h1 := (H w1 hw1).2 j (ready_mono hj hji)
      obtain ⟨hjun, oj, hoj, hall⟩ := mem_ready.1 hj
      have hnot : ∀ e ∈ oj.after, Region.binds md e = true → e.on ≠ i := fun e he hb heq => by
        have h1 := hall e he hb
        have h0 := (mem_ready.1 hr).1
        rw [heq] at h1
        rcases Nat.lt_or_ge i listed.size with h' | h'
        · simp [h'] at h0 h1; rw [h0] at h1; cases h1
        · simp [Array.getElem?_eq_none h'] at h1
      have h2 := wpOp_putE hoj (hfree j oj hoj hji hjun hnot) (fun cs b => hsel i oi cs b hi) (fun cs b => hsel j oj cs b hoj) hQ (hy.later hR hw1) h1
      have hfree' : ∀ k ok, ops[k]? = some ok → k ≠ i → (listed.setIfInBounds j true).getD k true = false →
          (∀ e ∈ ok.after, Region.binds md e = true → e.on ≠ i) → oi.apart ops ok = true := fun k ok hk hki hun hno => by
        refine hfree k ok hk hki ?_ hno
        by_cases hjk : j = k
        · subst hjk; exact hjun
        · rw [getD_set_ne true hjk] at hun; exact hun
      refine wpOp_mono (fun a' w' h3 => ⟨h3.2.1, ih (listed.setIfInBounds j true) a' w' hfree' (ready_mono hr (Ne.symm hji)) (h3.1.later hR h3.2.1) ?_⟩) h2
      rw [Array.setIfInBounds_comm _ _ hji]
      exact h3.2.2

/-- Take number i first. -/
theorem ext_take (hR : Pre R) {i d : Nat} {oi : Oper} {v : Value} {fuel : Nat} {listed : Array Bool} {T : Array Value} {D : List Deferred} {w : World} (hi : ops[i]? = some oi) (hd : oi.dst = some d)
    (hs : Region.noSelect ops = true) (hf : Region.free md ops listed i = true) (hr : (Region.ready md ops listed).contains i = true)
    (hQ : ∀ c a w, Q (.panic c) (a.put (some d) v) w → Q (.panic c) a w) (hw : Region.wanted oi (yielded ops T) = true)
    (hy : ∀ w1, R w w1 → Gives P (R w1) v ((execOp (Act.eval ⟨T, D⟩) oi).run P w1))
    (h : wpAnyE P md ops Q R fuel (listed.setIfInBounds i true) ⟨T.setIfInBounds d v, D⟩ w) : wpAnyE P md ops Q R (fuel + 1) listed ⟨T, D⟩ w :=
  ext_first hR hi (Region.noSelect_spec hs) (by rw [hd]; exact hQ) fuel listed _ w (Region.free_spec hi hf) (by simpa using hr) (.inl ⟨hw, hy⟩) (by rw [hd]; exact h)

/-- Number i is let by. -/
theorem ext_skip (hR : Pre R) {i d : Nat} {oi : Oper} {fuel : Nat} {listed : Array Bool} {T : Array Value} {D : List Deferred} {w : World} (hi : ops[i]? = some oi) (hd : oi.dst = some d)
    (hs : Region.noSelect ops = true) (hf : Region.free md ops listed i = true) (hr : (Region.ready md ops listed).contains i = true)
    (hQ : ∀ c a w, Q (.panic c) (a.put (some d) undef) w → Q (.panic c) a w) (hw : Region.wanted oi (yielded ops T) = false)
    (h : wpAnyE P md ops Q R fuel (listed.setIfInBounds i true) ⟨T.setIfInBounds d undef, D⟩ w) : wpAnyE P md ops Q R (fuel + 1) listed ⟨T, D⟩ w :=
  ext_first hR hi (Region.noSelect_spec hs) (by rw [hd]; exact hQ) fuel listed _ w (Region.free_spec hi hf) (by simpa using hr) (.inr ⟨hw, rfl⟩) (by rw [hd]; exact h)

/-- Number i is the only one that may come up. -/
theorem ext_one {i : Nat} {oi : Oper} {fuel : Nat} {listed : Array Bool} {a : Act} {w : World} (hr : Region.ready md ops listed = [i]) (hi : ops[i]? = some oi)
    (h : ∀ w1, R w w1 → ∀ K : Act → World → Prop, (∀ a' w', R w1 w' → wpAnyE P md ops Q R fuel (listed.setIfInBounds i true) a' w' → K a' w') →
      if Region.wanted oi (yielded ops a.tmps) = true then Oper.wp P oi a w1 K Q else K (a.put oi.dst undef) w1) : wpAnyE P md ops Q R (fuel + 1) listed a w := by
  intro w1 hw1
  refine ⟨fun h0 => (by rw [hr] at h0; cases h0), fun j hj => ?_⟩
  rw [hr] at hj
  obtain rfl := List.mem_singleton.1 hj
  have := h w1 hw1 (fun a' w' => R w1 w' ∧ wpAnyE P md ops Q R fuel (listed.setIfInBounds j true) a' w') (fun a' w' h1 h2 => ⟨h1, h2⟩)
  unfold wpOp
  simp only [hi]
  split
  · rename_i hw
    rw [if_pos hw] at this
    exact .inl this
  · rename_i hw
    rw [if_neg hw] at this
    exact this

/-- All have come up. -/
theorem ext_done {listed : Array Bool} {a : Act} {w : World} (hr : Region.ready md ops listed = []) (h : ∀ w1, R w w1 → Q .normal a w1) : ∀ fuel, wpAnyE P md ops Q R fuel listed a w
  | 0 => ⟨hr, h⟩
  | _ + 1 => fun w1 hw1 => ⟨fun _ => h w1 hw1, by rw [hr]; simp⟩

/-- The beginning. -/
theorem wp_region_ext {id : Nat} {a : Act} {w : World} (hR : Pre R) (hd : R w w.drew) (hm : P.follows .mixedOrders = true)
    (h : wpAnyE P .any ops Q R ops.size (Array.replicate ops.size false) a w) : (Code.region id ops true).wp P Q a w :=
  wp_region_any hm (wpAny_of_ext hR _ _ _ _ (wpAnyE.later hR h hd))

/-- A load of a whole row. -/
theorem load_gives {S : World → Prop} {o : Oper} {a : Act} {w : World} (ty : TypeId) (x : Operand) (ho : o.op = .load ty x)
    (g : Nat) (hx : a.eval x = .pointer (some ⟨g, 0, none⟩)) (t : TypeId) (cs : Array Value) (fr : Nat × Nat) (d : TypeDesc) (hg : w.heap[g]? = some (.cells cs t fr))
    (hu : P.underlying ty = some d) (hd : (match d with | .struct _ | .array _ _ => true | _ => false) = true) (hi : (P.info? ty).map (·.size) = some cs.size) (hS : S w) :
    Gives P S (.agg cs) ((execOp a.eval o).run P w) := by
  have : (execOp a.eval o).run P w = .ok (.value (.agg cs)) w := by
    unfold execOp
    simp only [ho, hx, Instr.loadAt, Instr.sureAddr, Sem.run_bind, Sem.run_pure, Result.andThen_ok, run_loadVar_row w g t ty cs fr d hg hu hd hi]
  rw [this]
  exact .value hS
end

end Go.Proofs.Ytpebmmhokigglaa
