/- Frames of which some slots are told by a function: for regions walked by what stays true (ExtI). -/
import Derived.Test.YtgjdablifncbaaaGreatExtI
namespace Go.Proofs.YtgjdablifncbaaaGreat
open Go.RowKit

/-- The frame T, its slots S holding what f says. -/
def updF (T : Array Value) (S : List Nat) (f : Nat → Value) : Array Value := S.foldr (fun k T => T.setIfInBounds k (f k)) T
theorem updF_size (T : Array Value) (f : Nat → Value) : ∀ S : List Nat, (updF T S f).size = T.size
  | [] => rfl
  | k :: S => by
    show ((updF T S f).setIfInBounds k (f k)).size = _
    rw [Array.size_setIfInBounds, updF_size T f S]
theorem updF_get (T : Array Value) (f : Nat → Value) (j : Nat) : ∀ S : List Nat, (updF T S f)[j]? = if j ∈ S ∧ j < T.size then some (f j) else T[j]?
  | [] => by simp [updF]
  | k :: S => by
    show ((updF T S f).setIfInBounds k (f k))[j]? = _
    rw [Array.getElem?_setIfInBounds, updF_size, updF_get T f j S]
    by_cases hkj : k = j
    · subst hkj
      rw [if_pos rfl]
      by_cases hl : k < T.size
      · rw [if_pos hl, if_pos ⟨List.mem_cons_self .., hl⟩]
      · rw [if_neg hl, if_neg (fun h => hl h.2), Array.getElem?_eq_none (by omega)]
    · rw [if_neg hkj]
      by_cases hm : j ∈ S ∧ j < T.size
      · rw [if_pos hm, if_pos ⟨List.mem_cons_of_mem _ hm.1, hm.2⟩]
      · rw [if_neg hm, if_neg]
        rintro ⟨h1, h2⟩
        rcases List.mem_cons.1 h1 with h | h
        · exact hkj h.symm
        · exact hm ⟨h, h2⟩
theorem updF_set {T : Array Value} {S : List Nat} {f : Nat → Value} {k : Nat} (hk : k ∈ S) (v : Value) : (updF T S f).setIfInBounds k v = updF T S (fun j => if j = k then v else f j) := by
  apply Array.ext_getElem?
  intro j
  rw [Array.getElem?_setIfInBounds, updF_size, updF_get, updF_get]
  by_cases hkj : k = j
  · subst hkj
    rw [if_pos rfl]
    by_cases hl : k < T.size
    · rw [if_pos hl, if_pos ⟨hk, hl⟩, if_pos rfl]
    · rw [if_neg hl, if_neg (fun h => hl h.2), Array.getElem?_eq_none (by omega)]
  · rw [if_neg hkj]
    split
    · rw [if_neg (fun e => hkj e.symm)]
    · rfl
theorem updF_start (T : Array Value) (S : List Nat) : updF T S (fun k => T.getD k undef) = T := by
  apply Array.ext_getElem?
  intro j
  rw [updF_get]
  split
  · rename_i h
    rw [Array.getElem?_eq_getElem h.2]
    simp [h.2]
  · rfl
theorem updF_on {T : Array Value} {S : List Nat} {f : Nat → Value} {k : Nat} (hk : S.contains k = true) (hl : k < T.size) : (updF T S f).getD k undef = f k := by
  rw [Array.getD_eq_getD_getElem?, updF_get, if_pos ⟨by simpa using hk, hl⟩]; rfl
theorem updF_off {T : Array Value} {S : List Nat} {f : Nat → Value} {k : Nat} (hk : S.contains k = false) : (updF T S f).getD k undef = T.getD k undef := by
  rw [Array.getD_eq_getD_getElem?, updF_get, if_neg (fun h => by have := h.1; simp at hk; exact hk this), Array.getD_eq_getD_getElem?]

section
variable {P : Program} {ops : Array Oper} {Q : Exit → Act → World → Prop}
theorem wp_region_told {id : Nat} {T : Array Value} {D : List Deferred} {w : World} (S : List Nat) (hm : P.follows .mixedOrders = true) (hlow : lowB ops = true) (I : (Nat → Bool) → (Nat → Value) → World → Prop)
    (h0 : I (fun _ => false) (fun k => T.getD k undef) w.drew)
    (hstep : ∀ (d : Nat → Bool) (f : Nat → Value) (w : World), I d f w → ∀ (i : Nat) (o : Oper), ops[i]? = some o → d i = false → (∀ e ∈ o.after, Region.binds .any e = true → d e.on = true) → ∀ d' : Nat → Bool, (∀ k, k ≠ i → d' k = d k) →
      wpOp P ops Q i (fun a' w' => ∃ f', a' = ⟨updF T S f', D⟩ ∧ I d' f' w') ⟨updF T S f, D⟩ w)
    (hend : ∀ (d : Nat → Bool) (f : Nat → Value) (w : World), I d f w → (∀ i, i < ops.size → d i = true) → Q .normal ⟨updF T S f, D⟩ w) : (Code.region id ops true).wp P Q ⟨T, D⟩ w :=
  wp_region_inv hm hlow (fun d a w => ∃ f, a = ⟨updF T S f, D⟩ ∧ I d f w) ⟨_, by rw [updF_start], h0⟩
    (fun d a w h i o ho hi hdep d' hd' => by obtain ⟨f, rfl, hI⟩ := h; exact hstep d f w hI i o ho hi hdep d' hd')
    (fun d a w h hall => by obtain ⟨f, rfl, hI⟩ := h; exact hend d f w hI hall)
theorem put_told {T : Array Value} {D : List Deferred} {S : List Nat} {f : Nat → Value} {k : Nat} (hk : S.contains k = true) (v : Value) : (⟨updF T S f, D⟩ : Act).put (some k) v = ⟨updF T S (fun j => if j = k then v else f j), D⟩ := by
  show (⟨(updF T S f).setIfInBounds k v, D⟩ : Act) = _
  rw [updF_set (by simpa using hk)]
end

end Go.Proofs.YtgjdablifncbaaaGreat
