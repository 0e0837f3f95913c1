/- Two arrays of numbers, compared; a row of slices that is owned. -/
import Derived.Test.YtpebmmhokigglaaPartA
import Derived.Test.YtpebmmhokigglaaStepA
import Derived.Test.YtpebmmhokigglaaFbP
import Derived.Laws.StructEq
namespace Go.Proofs.Ytpebmmhokigglaa
open Go.RowKit

theorem all_range_nat : ∀ (xs ys : List Nat), xs.length = ys.length → ((List.range xs.length).all fun i => xs.getD i 0 == ys.getD i 0) = (xs == ys)
  | [], [], _ => rfl
  | x :: xs, y :: ys, h => by
    have ih := all_range_nat xs ys (by simpa using h)
    rw [List.length_cons, List.range_succ_eq_map, List.all_cons, List.all_map]
    simp only [List.getD_cons_zero, Function.comp_def, List.getD_cons_succ, ih]
    simp [List.cons_beq_cons]
  | [], _ :: _, h => by simp at h
  | _ :: _, [], h => by simp at h

theorem equalIn_nums {P : Program} {k : IntKind} {t e : TypeId} {n : Nat} (ht : P.underlying t = some (.array n e)) (he : P.underlying e = some (.int k)) (hsz : ∀ w, (sizeOf e).run P w = .ok 1 w)
    (xs ys : List Nat) (hx : xs.length = n) (hy : ys.length = n) (w : World) :
    (Op.equalIn 10000 t (.agg (vals k xs).toArray) (.agg (vals k ys).toArray)).run P w = .ok (xs == ys) w := by
  show (Op.equalIn (9998 + 2) t (.agg (vals k xs).toArray) (.agg (vals k ys).toArray)).run P w = .ok (xs == ys) w
  generalize 9998 = d
  rw [← all_range_nat xs ys (hx.trans hy.symm), hx, List.range_eq_range', Op.equalIn]
  simp only [Sem.run_bind, run_underlying ht, Result.andThen_ok, hsz, Std.Legacy.Range.forIn_eq_forIn_range', Std.Legacy.Range.size, Nat.sub_zero, Nat.add_sub_cancel, Nat.div_one]
  have hl : ∀ i ∈ List.range' 0 n 1, i < n := fun i hi => by simpa using (List.mem_range'_1.1 hi).2
  generalize List.range' 0 n 1 = l at hl ⊢
  induction l with
  | nil => simp
  | cons i l ih =>
    have hi : i < n := hl i (by simp)
    have pt : ∀ zs : List Nat, zs.length = n → (part e (vals k zs).toArray (i * 1)).run P w = .ok (.int k ((zs.getD i 0 : Nat) : Int)) w := fun zs hz => by
      have := vals_get k zs i (by omega)
      simp [part, isAgg, run_underlying he, this]
    have pe : (Op.equalIn (d + 1) e (.int k ((xs.getD i 0 : Nat) : Int)) (.int k ((ys.getD i 0 : Nat) : Int))).run P w = .ok (xs.getD i 0 == ys.getD i 0) w := by
      rw [run_equalIn_int w d e k k _ _ he]
      congr 1
      rw [Bool.eq_iff_iff]
      simp only [beq_iff_eq]
      omega
    simp only [List.forIn_cons, Sem.run_bind, pt xs hx, pt ys hy, pe, Result.andThen_ok, List.all_cons]
    cases hb : (xs.getD i 0 == ys.getD i 0)
    · simp
    · simp only [Bool.not_true, Bool.false_eq_true, if_false, Sem.run_pure, Result.andThen_ok, Bool.true_and]
      exact ih fun j hj => hl j (by simp [hj])

theorem one_new (w : World) (e : TypeId) (x : Value) : ∀ j u, ([x])[j]? = some u → (w.alloc (.cells #[x] e)).cell? ((⟨w.heap.size, 0, none⟩ : Addr).add j) = some u := by
  intro j u hu
  match j with
  | 0 =>
    simp only [List.getElem?_cons_zero, Option.some.injEq] at hu
    subst hu
    rw [Addr.add_lit, World.cell?_alloc_at _ _ _ _ rfl]
    rfl
  | j + 1 => simp at hu

/-- Values that each read as bytes. -/
def AllR (w : World) (xs : List Value) (ls : List (List Nat)) : Prop := ls.length = xs.length ∧ ∀ i x, xs[i]? = some x → Reads w .u8 x (ls.getD i [])
theorem AllR.nil (w : World) : AllR w [] [] := ⟨rfl, fun i x h => by simp at h⟩
theorem AllR.snoc {w : World} {xs : List Value} {ls : List (List Nat)} (h : AllR w xs ls) {x : Value} {l : List Nat} (hr : Reads w .u8 x l) : AllR w (xs ++ [x]) (ls ++ [l]) := by
  refine ⟨by simp [h.1], fun i y hy => ?_⟩
  by_cases hi : i < xs.length
  · rw [List.getElem?_append_left hi] at hy
    have := h.2 i y hy
    rwa [show (ls ++ [l]).getD i [] = ls.getD i [] by simp [List.getD, List.getElem?_append_left (show i < ls.length by rw [h.1]; exact hi)]]
  · have hlt := (List.getElem?_eq_some_iff.1 hy).1
    simp at hlt
    have hii : i = xs.length := by omega
    subst hii
    simp at hy
    subst hy
    rw [show (ls ++ [l]).getD xs.length [] = l by rw [← h.1]; simp [List.getD]]
    exact hr

/-- An owned row of such values is a slice of parts. -/
theorem pieces_of {w1 w : World} {B : Nat} {e : TypeId} {v : Value} {xs : List Value} {ls : List (List Nat)} (ho : w.ownsRow B e 1 v xs.length xs) (ha : AllR w1 xs ls) (hb : Below w1.heap.size w1 w) : Pieces w v ls := by
  obtain ⟨_, h | ⟨g, cap, cur, hv, _, hg, hn, hc, hsz, htk⟩⟩ := ho
  · obtain ⟨hv, h0⟩ := h
    have hl : ls = [] := List.length_eq_zero_iff.1 (by rw [ha.1]; exact h0)
    subst hl
    exact ⟨none, 0, hv, Nat.le_refl _, by simp [maxLen], .inl rfl⟩
  · refine ⟨_, cap, by rw [hv, ha.1], by rw [ha.1]; exact hn, hc, .inr ⟨g, 0, rfl, (Array.getElem?_eq_some_iff.1 hg).1, fun i hi => ?_⟩⟩
    rw [ha.1] at hi
    obtain ⟨x, hx⟩ : ∃ x, xs[i]? = some x := ⟨_, List.getElem?_eq_getElem hi⟩
    refine ⟨x, ?_, (ha.2 i _ hx).below hb (Nat.le_refl _)⟩
    have h2 := hx
    rw [← htk, List.getElem?_take_of_lt (by omega)] at h2
    simp only [World.cell?, hg, Nat.zero_add]
    simpa using h2

end Go.Proofs.Ytpebmmhokigglaa
