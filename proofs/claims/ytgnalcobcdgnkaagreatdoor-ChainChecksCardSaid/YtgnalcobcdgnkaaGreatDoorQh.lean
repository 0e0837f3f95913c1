/- A region that draws its order, walked in one way: what yields one value in every world that may come, and only makes the world greater, is taken first; calls too. · A region that draws its order, walked in one way (as ExtA), where memory is made and written in it, too: what yields one value in every world that meets S is taken first; the rest comes up in the order that its edges leave open. -/
import Derived.Test.YtgnalcobcdgnkaaGreatDoorBase
import Derived.OrdersHeld
import Derived.Laws.Rows
namespace Go.Proofs.YtgnalcobcdgnkaaGreatDoor
open Go.RowKit

/-- How worlds may go on in a region. -/
structure Pre (R : World → World → Prop) : Prop where
  refl : ∀ w, R w w
  trans : ∀ {a b c}, R a b → R b c → R a c

/-- A result that is v, in a world of which S holds. -/
inductive Gives (P : Program) (S : World → Prop) (v : Value) : Result Next → Prop
  | value {w' : World} : S w' → Gives P S v (.ok (.value v) w')
  | enter {f : FuncId} {args : Array Value} {w' : World} : Calls P f args w' (fun e w'' => e = .returned v ∧ S w'') → Gives P S v (.ok (.enter f args) w')

theorem gives_value {P : Program} {S : World → Prop} {v : Value} {r : Result Next} {w : World} (hs : S w) (h : r = .ok (.value v) w) : Gives P S v r := by
  rw [h]
  exact .value hs

section
variable {P : Program} {ops : Array Oper} {Q : Exit → Act → World → Prop} {md : Region.Mode} {R : World → World → Prop}

theorem Gives.upon {S : World → Prop} {v : Value} {r : Result Next} (h : Gives P S v r) {o : Oper} {a : Act} {K : Act → World → Prop} (hK : ∀ w', S w' → K (a.put o.dst v) w') : o.upon P a K Q r := by
  cases h with
  | value hs => exact hK _ hs
  | enter hc =>
    refine Calls.mono hc fun e w'' he => ?_
    obtain ⟨rfl, hs⟩ := he
    exact hK _ hs

/-- In state a, in every world that may come, o leaves v, and the world is one that may come. -/
def GivesE (P : Program) (ops : Array Oper) (R : World → World → Prop) (o : Oper) (v : Value) (a : Act) (w : World) : Prop :=
  (Region.wanted o (yielded ops a.tmps) = true ∧ ∀ w1, R w w1 → Gives P (R w1) v ((execOp a.eval o).run P w1)) ∨ (Region.wanted o (yielded ops a.tmps) = false ∧ v = undef)

theorem GivesE.later {o : Oper} {v : Value} {a : Act} {w w' : World} (hR : Pre R) (h : GivesE P ops R o v a w) (hw : R w w') : GivesE P ops R o v a w' :=
  h.imp (fun ⟨h1, h2⟩ => ⟨h1, fun w1 hw1 => h2 w1 (hR.trans hw hw1)⟩) id
theorem GivesE.of_same {o : Oper} {v : Value} {a a' : Act} {w : World} (hy : GivesE P ops R o v a w) (he : execOp a'.eval o = execOp a.eval o)
    (hw : Region.wanted o (yielded ops a'.tmps) = Region.wanted o (yielded ops a.tmps)) : GivesE P ops R o v a' w := by
  unfold GivesE at *
  rw [he, hw]
  exact hy
theorem GivesE.wpOp (hR : Pre R) {i : Nat} {o : Oper} {v : Value} {a : Act} {w : World} (hi : ops[i]? = some o) (hy : GivesE P ops R o v a w)
    {K : Act → World → Prop} (h : ∀ w', R w w' → K (a.put o.dst v) w') : wpOp P ops Q i K a w := by
  unfold Go.wpOp
  simp only [hi]
  rcases hy with ⟨hw, hv⟩ | ⟨hw, rfl⟩
  · simp only [hw, if_true, Oper.wp]
    exact .inl ((hv w (hR.refl w)).upon h)
  · simp only [hw, Bool.false_eq_true, if_false]; exact h w (hR.refl w)

/-- Whatever order is picked from here on, in every world that may have come. -/
def wpAnyE (P : Program) (md : Region.Mode) (ops : Array Oper) (Q : Exit → Act → World → Prop) (R : World → World → Prop) : Nat → Array Bool → Act → World → Prop
  | 0, listed, a, w => Region.ready md ops listed = [] ∧ ∀ w1, R w w1 → Q .normal a w1
  | fuel + 1, listed, a, w => ∀ w1, R w w1 → (Region.ready md ops listed = [] → Q .normal a w1) ∧
    ∀ i ∈ Region.ready md ops listed, wpOp P ops Q i (fun a' w' => R w1 w' ∧ wpAnyE P md ops Q R fuel (listed.setIfInBounds i true) a' w') a w1

theorem wpAnyE.later (hR : Pre R) : ∀ {fuel : Nat} {listed : Array Bool} {a : Act} {w w' : World}, wpAnyE P md ops Q R fuel listed a w → R w w' → wpAnyE P md ops Q R fuel listed a w'
  | 0, _, _, _, _, h, hw => ⟨h.1, fun w1 hw1 => h.2 w1 (hR.trans hw hw1)⟩
  | _ + 1, _, _, _, _, h, hw => fun w1 hw1 => h w1 (hR.trans hw hw1)

/-- A load of a whole row. -/
theorem load_gives {S : World → Prop} {o : Oper} {a : Act} {w : World} (ty : TypeId) (x : Operand) (ho : o.op = .load ty x)
    (g : Nat) (hx : a.eval x = .pointer (some ⟨g, 0, none⟩)) (t : TypeId) (cs : Array Value) (fr : Nat × Nat) (d : TypeDesc) (hg : w.heap[g]? = some (.cells cs t fr))
    (hu : P.underlying ty = some d) (hd : (match d with | .struct _ | .array _ _ => true | _ => false) = true) (hi : (P.info? ty).map (·.size) = some cs.size) (hS : S w) :
    Gives P S (.agg cs) ((execOp a.eval o).run P w) := by
  have : (execOp a.eval o).run P w = .ok (.value (.agg cs)) w := by
    unfold execOp
    simp only [ho, hx, Instr.loadAt, Instr.sureAddr, Sem.run_bind, Sem.run_pure, Result.andThen_ok, run_loadVar_row w g t ty cs fr d hg hu hd hi]
  rw [this]
  exact .value hS
end

end Go.Proofs.YtgnalcobcdgnkaaGreatDoor

namespace Go.Proofs.YtgnalcobcdgnkaaGreatDoor
open Go.RowKit

section
variable {P : Program} {ops : Array Oper} {Q : Exit → Act → World → Prop} {md : Region.Mode} {S : World → Prop}

/-- In state a, in every world that meets S, o leaves v, and only makes memory. -/
def GivesS (P : Program) (ops : Array Oper) (S : World → Prop) (o : Oper) (v : Value) (a : Act) : Prop :=
  (Region.wanted o (yielded ops a.tmps) = true ∧ ∀ w1, S w1 → Gives P (fun w' => Below w1.heap.size w1 w' ∧ S w') v ((execOp a.eval o).run P w1)) ∨ (Region.wanted o (yielded ops a.tmps) = false ∧ v = undef)

theorem GivesS.of_same {o : Oper} {v : Value} {a a' : Act} (hy : GivesS P ops S o v a) (he : execOp a'.eval o = execOp a.eval o)
    (hw : Region.wanted o (yielded ops a'.tmps) = Region.wanted o (yielded ops a.tmps)) : GivesS P ops S o v a' := by
  unfold GivesS at *
  rw [he, hw]
  exact hy
theorem GivesS.wpOp {i : Nat} {o : Oper} {v : Value} {a : Act} {w : World} (hi : ops[i]? = some o) (hy : GivesS P ops S o v a) (hS : S w)
    {K : Act → World → Prop} (h : ∀ w', Below w.heap.size w w' → S w' → K (a.put o.dst v) w') : wpOp P ops Q i K a w := by
  unfold Go.wpOp
  simp only [hi]
  rcases hy with ⟨hw, hv⟩ | ⟨hw, rfl⟩
  · simp only [hw, if_true, Oper.wp]
    exact .inl ((hv w hS).upon fun w' hw' => h w' hw'.1 hw'.2)
  · simp only [hw, Bool.false_eq_true, if_false]; exact h w (Below.refl _ _) hS

/-- Whatever order is picked from here on, in every world that has come to hold more, and meets S. -/
def wpAnyS (P : Program) (md : Region.Mode) (ops : Array Oper) (Q : Exit → Act → World → Prop) (S : World → Prop) : Nat → Array Bool → Act → World → Prop
  | 0, listed, a, w => Region.ready md ops listed = [] ∧ ∀ w1, Below w.heap.size w w1 → S w1 → Q .normal a w1
  | fuel + 1, listed, a, w => ∀ w1, Below w.heap.size w w1 → S w1 → (Region.ready md ops listed = [] → Q .normal a w1) ∧
    ∀ i ∈ Region.ready md ops listed, wpOp P ops Q i (fun a' w' => S w' ∧ wpAnyS P md ops Q S fuel (listed.setIfInBounds i true) a' w') a w1

theorem wpAnyS.later : ∀ {fuel : Nat} {listed : Array Bool} {a : Act} {w w' : World}, wpAnyS P md ops Q S fuel listed a w → Below w.heap.size w w' → wpAnyS P md ops Q S fuel listed a w'
  | 0, _, _, _, _, h, hw => ⟨h.1, fun w1 hw1 hs => h.2 w1 (hw.trans (hw1.mono hw.size)) hs⟩
  | _ + 1, _, _, _, _, h, hw => fun w1 hw1 hs => h w1 (hw.trans (hw1.mono hw.size)) hs

theorem wpAny_of_extS : ∀ (fuel : Nat) (listed : Array Bool) (a : Act) (w : World), S w → wpAnyS P md ops Q S fuel listed a w → wpAny P md ops Q fuel listed a w
  | 0, _, _, _, hs, h => ⟨h.1, h.2 _ (Below.refl _ _) hs⟩
  | fuel + 1, _, _, w, hs, h => ⟨(h w (Below.refl _ _) hs).1, fun i hi => wpOp_mono (fun a' w' h' => wpAny_of_extS fuel _ a' w' h'.1 h'.2) ((h w (Below.refl _ _) hs).2 i hi)⟩

theorem wpOp_putS {j : Nat} {oi oj : Oper} {v : Value} (hj : ops[j]? = some oj) (hap : oi.apart ops oj = true)
    (hsi : ∀ cs b, oi.op ≠ .select cs b) (hsj : ∀ cs b, oj.op ≠ .select cs b)
    (hQ : ∀ c a w, Q (.panic c) (a.put oi.dst v) w → Q (.panic c) a w) {K : Act → World → Prop} {a : Act} {w : World}
    (hy : GivesS P ops S oi v a) (h : wpOp P ops Q j K (a.put oi.dst v) w) :
    wpOp P ops Q j (fun a' w' => GivesS P ops S oi v a' ∧ K (a'.put oi.dst v) w') a w := by
  obtain ⟨h1, h2, h3⟩ := Oper.apart_spec hap
  have keep : ∀ (a : Act), GivesS P ops S oi v a → ∀ u, GivesS P ops S oi v (a.put oj.dst u) := fun a hy u =>
    hy.of_same (execOp_put oi hsi a oj.dst u h3) (wanted_put oi a oj.dst u h3)
  have keepD : ∀ d, GivesS P ops S oi v { a with defers := d :: a.defers } := fun d => hy.of_same rfl rfl
  unfold wpOp at *
  simp only [hj] at *
  rw [wanted_put oj a oi.dst v h1] at h
  split
  · rename_i hw
    simp only [hw, if_true] at h
    rcases h with h | ⟨hasks, hlets⟩
    case inr => exact .inr ⟨by unfold Oper.asks at *; rw [execOp_put oj hsj a oi.dst v h1] at hasks; exact hasks, hlets⟩
    refine .inl ?_
    unfold Oper.wp at *
    rw [execOp_put oj hsj a oi.dst v h1] at h
    generalize (execOp a.eval oj).run P w = r at *
    cases r with
    | ok n w' =>
      cases n <;> simp only [Oper.upon] at h ⊢
      case value u => exact ⟨keep a hy u, by rw [← Act.put_comm a v u h2]; exact h⟩
      case skip => exact ⟨keep a hy _, by rw [← Act.put_comm a v undef h2]; exact h⟩
      case defer d =>
        refine ⟨keep _ (keepD d) _, ?_⟩
        rw [← Act.put_comm _ v undef h2, ← Act.put_defers]
        exact h
      case enter f args =>
        refine Calls.mono h fun e w'' he => ?_
        cases e with
        | returned u => exact ⟨keep a hy u, by rw [← Act.put_comm a v u h2]; exact he⟩
        | panicked c => exact hQ _ _ _ he
        | outgrown => exact he
      case row row args => exact Rows.mono h fun u w'' he => ⟨keep a hy u, by rw [← Act.put_comm a v u h2]; exact he⟩
    | halt x w' =>
      cases x <;> simp only [Oper.upon] at h ⊢
      case panic u => exact hQ _ _ _ h
  · rename_i hw
    simp only [hw] at h
    exact ⟨keep a hy _, by rw [← Act.put_comm a v undef h2]; exact h⟩

theorem extS_first {i : Nat} {oi : Oper} {v : Value} (hi : ops[i]? = some oi) (hsel : ∀ (j : Nat) (o : Oper) cs b, ops[j]? = some o → o.op ≠ .select cs b)
    (hQ : ∀ c a w, Q (.panic c) (a.put oi.dst v) w → Q (.panic c) a w) :
    ∀ (fuel : Nat) (listed : Array Bool) (a : Act) (w : World),
      (∀ j oj, ops[j]? = some oj → j ≠ i → listed.getD j true = false → (∀ e ∈ oj.after, Region.binds md e = true → e.on ≠ i) → oi.apart ops oj = true) →
      i ∈ Region.ready md ops listed → GivesS P ops S oi v a →
      wpAnyS P md ops Q S fuel (listed.setIfInBounds i true) (a.put oi.dst v) w → wpAnyS P md ops Q S (fuel + 1) listed a w := by
  intro fuel
  induction fuel with
  | zero =>
    intro listed a w _ hr hy H w1 hw1 hs1
    refine ⟨fun h => (by rw [h] at hr; cases hr), fun j hj => ?_⟩
    by_cases hji : j = i
    · subst hji
      exact hy.wpOp hi hs1 fun w' hw' hs' => ⟨hs', wpAnyS.later H (hw1.trans (hw'.mono hw1.size))⟩
    · have := ready_mono hj hji
      rw [H.1] at this
      cases this
  | succ fuel ih =>
    intro listed a w hfree hr hy H w1 hw1 hs1
    refine ⟨fun h => (by rw [h] at hr; cases hr), fun j hj => ?_⟩
    by_cases hji : j = i
    · subst hji
      exact hy.wpOp hi hs1 fun w' hw' hs' => ⟨hs', wpAnyS.later H (hw1.trans (hw'.mono hw1.size))⟩
    · have h1 := (H w1 hw1 hs1).2 j (ready_mono hj hji)
      obtain ⟨hjun, oj, hoj, hall⟩ := mem_ready.1 hj
      have hnot : ∀ e ∈ oj.after, Region.binds md e = true → e.on ≠ i := fun e he hb heq => by
        have h1 := hall e he hb
        have h0 := (mem_ready.1 hr).1
        rw [heq] at h1
        rcases Nat.lt_or_ge i listed.size with h' | h'
        · simp [h'] at h0 h1; rw [h0] at h1; cases h1
        · simp [Array.getElem?_eq_none h'] at h1
      have h2 := wpOp_putS hoj (hfree j oj hoj hji hjun hnot) (fun cs b => hsel i oi cs b hi) (fun cs b => hsel j oj cs b hoj) hQ hy h1
      have hfree' : ∀ k ok, ops[k]? = some ok → k ≠ i → (listed.setIfInBounds j true).getD k true = false →
          (∀ e ∈ ok.after, Region.binds md e = true → e.on ≠ i) → oi.apart ops ok = true := fun k ok hk hki hun hno => by
        refine hfree k ok hk hki ?_ hno
        by_cases hjk : j = k
        · subst hjk; exact hjun
        · rw [getD_set_ne true hjk] at hun; exact hun
      refine wpOp_mono (fun a' w' h3 => ⟨h3.2.1, ih (listed.setIfInBounds j true) a' w' hfree' (ready_mono hr (Ne.symm hji)) h3.1 ?_⟩) h2
      rw [Array.setIfInBounds_comm _ _ hji]
      exact h3.2.2

/-- Take number i first. -/
theorem extS_take {i d : Nat} {oi : Oper} {v : Value} {fuel : Nat} {listed : Array Bool} {T : Array Value} {D : List Deferred} {w : World} (hi : ops[i]? = some oi) (hd : oi.dst = some d)
    (hs : Region.noSelect ops = true) (hf : Region.free md ops listed i = true) (hr : (Region.ready md ops listed).contains i = true)
    (hQ : ∀ c a w, Q (.panic c) (a.put (some d) v) w → Q (.panic c) a w) (hw : Region.wanted oi (yielded ops T) = true)
    (hy : ∀ w1, S w1 → Gives P (fun w' => Below w1.heap.size w1 w' ∧ S w') v ((execOp (Act.eval ⟨T, D⟩) oi).run P w1))
    (h : wpAnyS P md ops Q S fuel (listed.setIfInBounds i true) ⟨T.setIfInBounds d v, D⟩ w) : wpAnyS P md ops Q S (fuel + 1) listed ⟨T, D⟩ w :=
  extS_first hi (Region.noSelect_spec hs) (by rw [hd]; exact hQ) fuel listed _ w (Region.free_spec hi hf) (by simpa using hr) (.inl ⟨hw, hy⟩) (by rw [hd]; exact h)

/-- Number i is let by. -/
theorem extS_skip {i d : Nat} {oi : Oper} {fuel : Nat} {listed : Array Bool} {T : Array Value} {D : List Deferred} {w : World} (hi : ops[i]? = some oi) (hd : oi.dst = some d)
    (hs : Region.noSelect ops = true) (hf : Region.free md ops listed i = true) (hr : (Region.ready md ops listed).contains i = true)
    (hQ : ∀ c a w, Q (.panic c) (a.put (some d) undef) w → Q (.panic c) a w) (hw : Region.wanted oi (yielded ops T) = false)
    (h : wpAnyS P md ops Q S fuel (listed.setIfInBounds i true) ⟨T.setIfInBounds d undef, D⟩ w) : wpAnyS P md ops Q S (fuel + 1) listed ⟨T, D⟩ w :=
  extS_first hi (Region.noSelect_spec hs) (by rw [hd]; exact hQ) fuel listed _ w (Region.free_spec hi hf) (by simpa using hr) (.inr ⟨hw, rfl⟩) (by rw [hd]; exact h)

/-- What one operation that comes up now has to do. -/
def Does (P : Program) (md : Region.Mode) (ops : Array Oper) (Q : Exit → Act → World → Prop) (S : World → Prop) (fuel : Nat) (listed : Array Bool) (i : Nat) (oi : Oper) (a : Act) (w1 : World) : Prop :=
  ∀ K : Act → World → Prop, (∀ a' w', S w' → wpAnyS P md ops Q S fuel (listed.setIfInBounds i true) a' w' → K a' w') → if Region.wanted oi (yielded ops a.tmps) = true then Oper.wp P oi a w1 K Q else K (a.put oi.dst undef) w1

theorem Does.wpOp {fuel : Nat} {listed : Array Bool} {i : Nat} {oi : Oper} {a : Act} {w1 : World} (hi : ops[i]? = some oi) (h : Does P md ops Q S fuel listed i oi a w1) :
    wpOp P ops Q i (fun a' w' => S w' ∧ wpAnyS P md ops Q S fuel (listed.setIfInBounds i true) a' w') a w1 := by
  have := h (fun a' w' => S w' ∧ wpAnyS P md ops Q S fuel (listed.setIfInBounds i true) a' w') (fun a' w' h1 h2 => ⟨h1, h2⟩)
  unfold Go.wpOp
  simp only [hi]
  split
  · rename_i hw
    rw [if_pos hw] at this
    exact .inl this
  · rename_i hw
    rw [if_neg hw] at this
    exact this

/-- Number i is the only one that may come up. -/
theorem extS_one {i : Nat} {oi : Oper} {fuel : Nat} {listed : Array Bool} {a : Act} {w : World} (hr : Region.ready md ops listed = [i]) (hi : ops[i]? = some oi)
    (h : ∀ w1, Below w.heap.size w w1 → S w1 → Does P md ops Q S fuel listed i oi a w1) : wpAnyS P md ops Q S (fuel + 1) listed a w := by
  intro w1 hw1 hs1
  refine ⟨fun h0 => (by rw [hr] at h0; cases h0), fun j hj => ?_⟩
  rw [hr] at hj
  obtain rfl := List.mem_singleton.1 hj
  exact (h w1 hw1 hs1).wpOp hi

/-- All have come up. -/
theorem extS_done {listed : Array Bool} {a : Act} {w : World} (hr : Region.ready md ops listed = []) (h : ∀ w1, Below w.heap.size w w1 → S w1 → Q .normal a w1) : ∀ fuel, wpAnyS P md ops Q S fuel listed a w
  | 0 => ⟨hr, h⟩
  | _ + 1 => fun w1 hw1 hs1 => ⟨fun _ => h w1 hw1 hs1, by rw [hr]; simp⟩

/-- The beginning. -/
theorem wp_region_extS {id : Nat} {a : Act} {w : World} (S : World → Prop) (hS : S w.drew) (hm : P.follows .mixedOrders = true)
    (h : wpAnyS P .any ops Q S ops.size (Array.replicate ops.size false) a w) : (Code.region id ops true).wp P Q a w :=
  wp_region_any hm (wpAny_of_extS _ _ _ _ hS (wpAnyS.later h (Below.refl _ _).drew))

end

end Go.Proofs.YtgnalcobcdgnkaaGreatDoor
