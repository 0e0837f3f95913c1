/- Chains of the call's own, opened at one. -/
import Derived.Test.YtgjdablifncbaaaGreatPjL
import Derived.Test.YtgjdablifncbaaaGreatPjS
namespace Go.Proofs.YtgjdablifncbaaaGreat
open Go.RowKit

theorem Dlt.below {w w' : World} {base : Nat} {v fv : Value} {ls : List (List Int)} {fl : List Int} (h : Dlt w base v ls fv fl) (hb : Below w.heap.size w w') : Dlt w' base v ls fv fl := by
  obtain ⟨us, fb, h1, h2, h3, h4, h5, h6, h7, h8⟩ := h
  refine ⟨us, fb, h1, ⟨h2.1, ?_⟩, fun i hi => (h3 i hi).below hb (Nat.le_refl _), h4, h5, h6, Nat.lt_of_lt_of_le h7 hb.size, h8.old hb⟩
  rcases h2.2 with h5 | ⟨g, cap, cur, e1, e2, e3, r⟩
  · exact .inl h5
  · exact .inr ⟨g, cap, cur, e1, e2, (hb.block g (Array.getElem?_eq_some_iff.1 e3).1).trans e3, r⟩
theorem Box2.drewN {w : World} {p : Nat} {x y : Value} (h : Box2 w p x y) (n : Nat) : Box2 (w.drewN n) p x y := ⟨h.c0, h.c1, h.f0, h.f1⟩
theorem Dlt.drewN {w : World} {base : Nat} {v fv : Value} {ls : List (List Int)} {fl : List Int} (h : Dlt w base v ls fv fl) (n : Nat) : Dlt (w.drewN n) base v ls fv fl := h.below ⟨rfl, rfl, rfl, Nat.le_refl _, fun _ _ => rfl⟩

theorem Dlt.open {w : World} {base og nv capv i : Nat} {fv : Value} {ls : List (List Int)} {fl : List Int} (h : Dlt w base (.slice (some ⟨og, 0, none⟩) nv capv) ls fv fl) (hi : i < ls.length) (hne : ls.getD i [] ≠ []) :
    ∃ g n capg, n = (ls.getD i []).length ∧ w.cell? ⟨og, i, none⟩ = some (.slice (some ⟨g, 0, none⟩) n capg) ∧ w.frozen? ⟨og, i, none⟩ = false ∧ IOwn w base (.slice (some ⟨g, 0, none⟩) n capg) (ls.getD i []) ∧ base ≤ g ∧ g < w.heap.size ∧ og ≠ g ∧ base ≤ og ∧ og < w.heap.size ∧
      ∀ (w0 w1 : World) (add : List Int) (g' cap' : Nat), Below w.heap.size w w0 → w0.grownBy w1 (some g) → (g' = g ∨ g' = w0.heap.size) → IOwn w1 base (.slice (some ⟨g', 0, none⟩) (n + add.length) cap') (ls.getD i [] ++ add) →
        Dlt (w1.setCell ⟨og, i, none⟩ (.slice (some ⟨g', 0, none⟩) (n + add.length) cap')) base (.slice (some ⟨og, 0, none⟩) nv capv) (ls.set i (ls.getD i [] ++ add)) fv fl := by
  have h0 := h
  obtain ⟨us, fb, h1, h2, h3, h4, h5, h6, h7, h8⟩ := h
  obtain ⟨g, capg, hug, hg1, hg2, hg3, hg4⟩ := (h3 i hi).form hne
  have hlen : us.length = nv := by
    rcases h2.2 with ⟨e0, _⟩ | ⟨_, _, _, hv, _⟩
    · cases e0
    · simp only [Value.slice.injEq] at hv; exact hv.2.1.symm
  have h2c : w.ownsRow base 40 1 (.slice (some ⟨og, 0, none⟩) nv capv) nv us := by rw [hlen] at h2; exact h2
  have hcell : w.cell? ⟨og, i, none⟩ = some (.slice (some ⟨g, 0, none⟩) (ls.getD i []).length capg) := by
    rw [World.ownsRow.cellAt h2c i (by omega), ← hug, List.getD_eq_getElem?_getD, List.getElem?_eq_getElem (by omega)]
    rfl
  have hog : og ≠ g := by
    have hx := iown_ne (h3 i hi) h2
    rw [hug] at hx
    rcases hx with hx | hx
    · cases hx
    · intro e; apply hx; rw [e]; rfl
  have hbo := World.ownsRow.lt h2 og rfl
  refine ⟨g, _, capg, rfl, hcell, World.ownsRow.frozenAt h2c i, by rw [← hug]; exact h3 i hi, hg1, hg2, hog, hbo.1, hbo.2, fun w0 w1 add g' cap' hb hg hgg ho => ?_⟩
  have hx : Dlt w0 base (.slice (some ⟨og, 0, none⟩) nv capv) ls fv fl ∧ True := ⟨h0.below hb, trivial⟩
  have k2 : w0.ownsRow base 40 1 (.slice (some ⟨og, 0, none⟩) nv capv) us.length us := by
    refine ⟨h2.1, ?_⟩
    rcases h2.2 with h5 | ⟨g, cap, cur, e1, e2, e3, r⟩
    · exact .inl h5
    · exact .inr ⟨g, cap, cur, e1, e2, (hb.block g (Array.getElem?_eq_some_iff.1 e3).1).trans e3, r⟩
  exact dlt_step hi h1 k2 (fun j hj => (h3 j hj).below hb (Nat.le_refl _)) h4 h5 (fun e => h6 (by rw [← e]; rfl)) (Nat.lt_of_lt_of_le h7 hb.size) (h8.old hb) hug ho hg hgg

theorem deal_rows_le {cs : List (List Int)} {dead F : List Int} (h4 : ∀ c ∈ cs, c.length ≤ 4) : ∀ r ∈ deal cs (leftL cs dead) F, r.length ≤ 4 := by
  intro r hr
  obtain ⟨j, hj, e⟩ := List.getElem_of_mem hr
  have hl := deal_length cs (leftL cs dead) F (leftL_length cs dead).symm
  have hjc : j < cs.length := by omega
  have hg := deal_get cs (leftL cs dead) F j (leftL_length cs dead).symm hjc
  rw [List.getD_eq_getElem?_getD, List.getElem?_eq_getElem hj, Option.getD_some, e, leftL_get cs dead j hjc] at hg
  rw [hg, List.length_append, List.length_take]
  have h1 := h4 _ (getD_memC j hjc)
  have h2 := dropL_le (inB dead) (cs.getD j [])
  omega
theorem left_rows_le {cs : List (List Int)} {dead : List Int} (h4 : ∀ c ∈ cs, c.length ≤ 4) : ∀ r ∈ leftL cs dead, r.length ≤ 4 := by
  intro r hr
  obtain ⟨c, hc, rfl⟩ := List.mem_map.1 hr
  have := dropL_le (inB dead) c
  have := h4 c hc
  omega
theorem flatten_le {l : List (List Int)} {n : Nat} (h : ∀ r ∈ l, r.length ≤ n) : l.flatten.length ≤ n * l.length := by
  induction l with
  | nil => simp
  | cons c l ih =>
    have a := ih fun d hd => h d (List.mem_cons_of_mem _ hd)
    have b := h c (List.mem_cons_self ..)
    simp only [List.flatten_cons, List.length_append, List.length_cons]
    rw [Nat.mul_add, Nat.mul_one]
    omega

end Go.Proofs.YtgjdablifncbaaaGreat
