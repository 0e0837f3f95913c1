/- Projections, as the document says them: numbers and lists; nothing of the program. · What follows a projection, as the document says it: numbers and lists; nothing of the program. · Rows of numbers that may be below zero, and rows of such rows, in memory; how they come in. · Small functions of package proj, and the library's searches at its closures. · Searches among chains, and whether rows, and projections, are the same. -/
import Derived.Test.YtlckadlkgjfjcaaGreatDoorEnP
import Derived.Test.YtlckadlkgjfjcaaGreatDoorCqQ
import Derived.Lib.SlicesCompact
import Derived.Test.YtlckadlkgjfjcaaGreatDoorDaP
import Derived.ProofKit
import Derived.Deep.Slices
import Derived.ChangeSame
import Derived.WideLaws
import Derived.Deep.QuietTactic
import Derived.BigQuiet
namespace Go.Proofs.YtlckadlkgjfjcaaGreatDoor

/-- A number of a unit. -/
def unitB (u : Int) : Bool := decide (0 ≤ u) && decide (u ≤ 7)
/-- As many as there may be of chains, and of units of a chain. -/
def fewB (n : Nat) : Bool := decide (1 ≤ n) && decide (n ≤ 4)
theorem fewB_iff {n : Nat} : fewB n = true ↔ 1 ≤ n ∧ n ≤ 4 := by unfold fewB; rw [Bool.and_eq_true, decide_eq_true_iff, decide_eq_true_iff]
def formedB (cs : List (List Int)) : Bool := fewB cs.length && cs.all fun c => fewB c.length
theorem formedB_iff {cs : List (List Int)} : formedB cs = true ↔ (1 ≤ cs.length ∧ cs.length ≤ 4) ∧ ∀ c ∈ cs, 1 ≤ c.length ∧ c.length ≤ 4 := by
  unfold formedB
  rw [Bool.and_eq_true, fewB_iff, List.all_eq_true]
  exact ⟨fun ⟨a, b⟩ => ⟨a, fun c hc => fewB_iff.1 (b c hc)⟩, fun ⟨a, b⟩ => ⟨a, fun c hc => fewB_iff.2 (b c hc)⟩⟩

/-- An epoch. -/
def epochB (ep : Int) : Bool := decide (0 ≤ ep) && decide (ep ≤ 1099511627776)
/-- A projection's error. -/
def pchk (ep : Int) (cs : List (List Int)) : Nat :=
  if epochB ep = false then 1 else if formedB cs = false then 2 else if cs.flatten.all unitB = false then 1 else if cs.flatten.Nodup then 0 else 2

/-- A unit put into its place among rising ones, once. -/
def insU (u : Int) : List Int → List Int
  | [] => [u]
  | x :: l => if x < u then x :: insU u l else if x = u then x :: l else u :: x :: l
theorem mem_insU {u x : Int} : ∀ {l : List Int}, x ∈ insU u l ↔ x = u ∨ x ∈ l
  | [] => by simp [insU]
  | y :: l => by
    unfold insU
    split
    · rw [List.mem_cons, mem_insU, List.mem_cons]
      constructor
      · rintro (h | h | h)
        · exact .inr (.inl h)
        · exact .inl h
        · exact .inr (.inr h)
      · rintro (h | h | h)
        · exact .inr (.inl h)
        · exact .inl h
        · exact .inr (.inr h)
    · split
      · rename_i h1 h2
        subst h2
        constructor
        · intro h; exact .inr h
        · rintro (h | h)
          · exact List.mem_cons.2 (.inl h)
          · exact h
      · simp [List.mem_cons]
theorem insU_sorted {u : Int} : ∀ {l : List Int}, l.Pairwise (· < ·) → (insU u l).Pairwise (· < ·)
  | [], _ => by simp [insU]
  | y :: l, h => by
    have h1 := List.pairwise_cons.1 h
    unfold insU
    split
    · rename_i hy
      refine List.pairwise_cons.2 ⟨fun x hx => ?_, insU_sorted h1.2⟩
      rcases mem_insU.1 hx with rfl | hx
      · exact hy
      · exact h1.1 x hx
    · split
      · exact h
      · refine List.pairwise_cons.2 ⟨fun x hx => ?_, h⟩
        rcases List.mem_cons.1 hx with rfl | hx
        · omega
        · have := h1.1 x hx; omega

/-- All units, rising, each once. -/
def unitsL (l : List Int) : List Int := l.foldl (fun acc u => insU u acc) []
theorem fold_mem {x : Int} : ∀ (l acc : List Int), x ∈ l.foldl (fun acc u => insU u acc) acc ↔ x ∈ acc ∨ x ∈ l
  | [], acc => by simp
  | y :: l, acc => by
    rw [List.foldl_cons, fold_mem l, mem_insU, List.mem_cons]
    constructor
    · rintro ((h | h) | h)
      · exact .inr (.inl h)
      · exact .inl h
      · exact .inr (.inr h)
    · rintro (h | h | h)
      · exact .inl (.inr h)
      · exact .inl (.inl h)
      · exact .inr h
theorem fold_sorted : ∀ (l acc : List Int), acc.Pairwise (· < ·) → (l.foldl (fun acc u => insU u acc) acc).Pairwise (· < ·)
  | [], _, h => h
  | y :: l, acc, h => by rw [List.foldl_cons]; exact fold_sorted l _ (insU_sorted h)
theorem mem_unitsL {x : Int} {l : List Int} : x ∈ unitsL l ↔ x ∈ l := by unfold unitsL; rw [fold_mem]; simp
theorem unitsL_sorted (l : List Int) : (unitsL l).Pairwise (· < ·) := fold_sorted l [] List.Pairwise.nil
/-- Rows that rise and have the same numbers are the same. -/
theorem sorted_ext : ∀ {a b : List Int}, a.Pairwise (· < ·) → b.Pairwise (· < ·) → (∀ x, x ∈ a ↔ x ∈ b) → a = b
  | [], [], _, _, _ => rfl
  | [], y :: b, _, _, h => absurd ((h y).2 (List.mem_cons_self ..)) (by simp)
  | x :: a, [], _, _, h => absurd ((h x).1 (List.mem_cons_self ..)) (by simp)
  | x :: a, y :: b, ha, hb, h => by
    have h1 := List.pairwise_cons.1 ha
    have h2 := List.pairwise_cons.1 hb
    have e : x = y := by
      rcases List.mem_cons.1 ((h x).1 (List.mem_cons_self ..)) with e | e
      · exact e
      · have g1 := h2.1 x e
        rcases List.mem_cons.1 ((h y).2 (List.mem_cons_self ..)) with e2 | e2
        · exact e2.symm
        · have := h1.1 y e2; omega
    subst e
    rw [sorted_ext h1.2 h2.2 fun z => ?_]
    constructor
    · intro hz
      rcases List.mem_cons.1 ((h z).1 (List.mem_cons_of_mem _ hz)) with rfl | hz2
      · have := h1.1 z hz; omega
      · exact hz2
    · intro hz
      rcases List.mem_cons.1 ((h z).2 (List.mem_cons_of_mem _ hz)) with rfl | hz2
      · have := h2.1 z hz; omega
      · exact hz2

/-- How many: each that is new is one more. -/
theorem insU_length (u : Int) : ∀ (l : List Int), l.Pairwise (· < ·) → (insU u l).length = l.length + if u ∈ l then 0 else 1
  | [], _ => by simp [insU]
  | y :: l, h => by
    have h1 := List.pairwise_cons.1 h
    unfold insU
    split
    · rename_i hy
      rw [List.length_cons, insU_length u l h1.2, List.length_cons]
      have e : (u ∈ y :: l) ↔ u ∈ l := by
        rw [List.mem_cons]
        exact ⟨fun h => h.resolve_left (by omega), .inr⟩
      by_cases hu : u ∈ l
      · rw [if_pos hu, if_pos (e.2 hu)]
      · rw [if_neg hu, if_neg (fun h => hu (e.1 h))]
    · split
      · rename_i h2
        rw [if_pos (List.mem_cons.2 (.inl h2.symm))]; simp
      · rename_i h3 h2
        have e : ¬ u ∈ y :: l := by
          intro hm
          rcases List.mem_cons.1 hm with e | e
          · exact h2 e.symm
          · have := h1.1 u e; omega
        rw [if_neg e]; simp
theorem fold_length : ∀ (l acc : List Int), acc.Pairwise (· < ·) → (l.foldl (fun acc u => insU u acc) acc).length ≤ acc.length + l.length ∧
    ((l.foldl (fun acc u => insU u acc) acc).length = acc.length + l.length ↔ l.Nodup ∧ ∀ x ∈ l, x ∉ acc)
  | [], acc, _ => by simp
  | y :: l, acc, h => by
    have h1 := fold_length l (insU y acc) (insU_sorted h)
    have h2 := insU_length y acc h
    rw [List.foldl_cons, List.length_cons]
    by_cases hy : y ∈ acc
    · rw [if_pos hy] at h2
      refine ⟨by omega, ⟨fun h => by omega, fun h => absurd hy (h.2 y (List.mem_cons_self ..))⟩⟩
    · rw [if_neg hy] at h2
      refine ⟨by omega, ?_⟩
      rw [show (List.foldl (fun acc u => insU u acc) (insU y acc) l).length = acc.length + (l.length + 1) ↔ (List.foldl (fun acc u => insU u acc) (insU y acc) l).length = (insU y acc).length + l.length from by rw [h2]; omega, h1.2, List.nodup_cons]
      constructor
      · rintro ⟨a, b⟩
        refine ⟨⟨fun hm => b y hm (mem_insU.2 (.inl rfl)), a⟩, fun x hx => ?_⟩
        rcases List.mem_cons.1 hx with rfl | hx
        · exact hy
        · exact fun hm => b x hx (mem_insU.2 (.inr hm))
      · rintro ⟨⟨a, b⟩, c⟩
        refine ⟨b, fun x hx hm => ?_⟩
        rcases mem_insU.1 hm with rfl | hm
        · exact a hx
        · exact c x (List.mem_cons_of_mem _ hx) hm
theorem unitsL_le (l : List Int) : (unitsL l).length ≤ l.length := by have := (fold_length l [] List.Pairwise.nil).1; simpa [unitsL] using this
theorem unitsL_nodup (l : List Int) : ((unitsL l).length < l.length) ↔ ¬ l.Nodup := by
  have h := fold_length l [] List.Pairwise.nil
  have h1 := unitsL_le l
  have h2 : (unitsL l).length = l.length ↔ l.Nodup := by
    have := h.2
    simpa [unitsL] using this
  rw [← h2]
  omega

/-- What is left of sorted numbers where each stands once. -/
theorem compact_mem {zs : List Int} {x : Int} (h : x ∈ Lib.compact zs) : x ∈ zs := by
  unfold Lib.compact Lib.compactUpTo at h
  obtain ⟨j, hj, rfl⟩ := List.mem_map.1 h
  have hj := List.mem_range.1 (List.mem_filter.1 hj).1
  rw [getElem!_pos _ _ (by simpa using hj)]
  simp
theorem compact_keep {zs : List Int} (hs : zs.Pairwise (· ≤ ·)) : ∀ (m : Nat), m ≤ zs.length → ∀ j, j < m → zs.getD j 0 ∈ Lib.compactUpTo zs.toArray m
  | 0, _, j, hj => by omega
  | m + 1, hm, j, hj => by
    rw [Lib.compactUpTo_succ, List.mem_append]
    by_cases hjm : j < m
    · exact .inl (compact_keep hs m (by omega) j hjm)
    · obtain rfl : j = m := by omega
      by_cases hk : Lib.keeps zs.toArray j = true
      · right
        rw [if_pos hk, List.mem_singleton, getElem!_pos _ _ (by simp; omega), List.getD_eq_getElem?_getD, List.getElem?_eq_getElem (by omega)]
        simp
      · left
        have hk2 : ¬ (j = 0 ∨ (zs.toArray)[j]! ≠ (zs.toArray)[j - 1]!) := by
          intro h
          exact hk (by simp only [Lib.keeps, decide_eq_true_iff]; exact h)
        have h0 : j ≠ 0 := fun h => hk2 (.inl h)
        have he : (zs.toArray)[j]! = (zs.toArray)[j - 1]! := by
          refine Classical.byContradiction fun h => hk2 (.inr h)
        rw [getElem!_pos _ _ (by simp; omega), getElem!_pos _ _ (by simp; omega)] at he
        have h1 := compact_keep hs j (by omega) (j - 1) (by omega)
        rw [List.getD_eq_getElem?_getD, List.getElem?_eq_getElem (by omega)] at h1 ⊢
        simp only [List.getElem_toArray] at he
        simp only [Option.getD_some] at h1 ⊢
        rw [he]; exact h1
theorem compactUpTo_sorted {zs : List Int} (hs : zs.Pairwise (· ≤ ·)) : ∀ (m : Nat), m ≤ zs.length → (Lib.compactUpTo zs.toArray m).Pairwise (· < ·) ∧ ∀ x ∈ Lib.compactUpTo zs.toArray m, ∃ j, j < m ∧ zs.getD j 0 = x
  | 0, _ => by simp [Lib.compactUpTo]
  | m + 1, hm => by
    obtain ⟨h1, h2⟩ := compactUpTo_sorted hs m (by omega)
    rw [Lib.compactUpTo_succ]
    have hget : (zs.toArray)[m]! = zs.getD m 0 := by
      rw [getElem!_pos _ _ (by simp; omega), List.getD_eq_getElem?_getD, List.getElem?_eq_getElem (by omega)]; simp
    constructor
    · rw [List.pairwise_append]
      refine ⟨h1, by split <;> simp, fun x hx y hy => ?_⟩
      by_cases hk : Lib.keeps zs.toArray m = true
      · rw [if_pos hk, List.mem_singleton] at hy
        subst hy
        rw [hget]
        obtain ⟨j, hj, rfl⟩ := h2 x hx
        have hle : zs.getD j 0 ≤ zs.getD (m - 1) 0 := by
          by_cases e : j = m - 1
          · rw [e]; exact Int.le_refl _
          · have := List.pairwise_iff_getElem.1 hs j (m - 1) (by omega) (by omega) (by omega)
            simpa [List.getD_eq_getElem?_getD, List.getElem?_eq_getElem (show j < zs.length by omega), List.getElem?_eq_getElem (show m - 1 < zs.length by omega)] using this
        have hle2 : zs.getD (m - 1) 0 ≤ zs.getD m 0 := by
          have := List.pairwise_iff_getElem.1 hs (m - 1) m (by omega) (by omega) (by omega)
          simpa [List.getD_eq_getElem?_getD, List.getElem?_eq_getElem (show m < zs.length by omega), List.getElem?_eq_getElem (show m - 1 < zs.length by omega)] using this
        have hne : zs.getD m 0 ≠ zs.getD (m - 1) 0 := by
          have hk2 : m = 0 ∨ (zs.toArray)[m]! ≠ (zs.toArray)[m - 1]! := by
            simpa only [Lib.keeps, decide_eq_true_iff] using hk
          rcases hk2 with h0 | h0
          · omega
          · rw [hget, getElem!_pos _ _ (by simp; omega)] at h0
            rw [List.getD_eq_getElem?_getD (i := m - 1), List.getElem?_eq_getElem (by omega)]
            simpa using h0
        omega
      · rw [if_neg hk] at hy; simp at hy
    · intro x hx
      rcases List.mem_append.1 hx with hx | hx
      · obtain ⟨j, hj, e⟩ := h2 x hx
        exact ⟨j, by omega, e⟩
      · by_cases hk : Lib.keeps zs.toArray m = true
        · rw [if_pos hk, List.mem_singleton] at hx
          exact ⟨m, by omega, by rw [hx, hget]⟩
        · rw [if_neg hk] at hx; simp at hx
theorem compact_units (l : List Int) : Lib.compact (l.mergeSort fun x y => decide (x ≤ y)) = unitsL l := by
  have hs : (l.mergeSort fun x y => decide (x ≤ y)).Pairwise (· ≤ ·) := by
    have := List.pairwise_mergeSort (le := fun x y : Int => decide (x ≤ y)) (by intro a b c; simp; omega) (by intro a b; simp; omega) l
    exact this.imp fun h => by simpa using h
  refine sorted_ext (compactUpTo_sorted hs _ (Nat.le_refl _)).1 (unitsL_sorted l) fun x => ?_
  rw [mem_unitsL]
  constructor
  · intro h
    exact List.mem_mergeSort.1 (compact_mem h)
  · intro hx
    have hx := List.mem_mergeSort (le := fun x y : Int => decide (x ≤ y)).2 hx
    obtain ⟨j, hj, e⟩ := List.getElem_of_mem hx
    have := compact_keep hs _ (Nat.le_refl _) j hj
    rw [List.getD_eq_getElem?_getD, List.getElem?_eq_getElem hj] at this
    simpa [e, Lib.compact] using this

end Go.Proofs.YtlckadlkgjfjcaaGreatDoor

namespace Go.Proofs.YtlckadlkgjfjcaaGreatDoor

/-- A chain without what is gone. -/
def dropL (g : Int → Bool) (c : List Int) : List Int := c.filter fun u => !g u
def inB (d : List Int) (u : Int) : Bool := d.contains u
theorem dropL_le (g : Int → Bool) (c : List Int) : (dropL g c).length ≤ c.length := List.length_filter_le _ _
end Go.Proofs.YtlckadlkgjfjcaaGreatDoor

namespace Go.Proofs.YtlckadlkgjfjcaaGreatDoor
open Go.RowKit Go.ChangeShapes Go.WideShapes Go.Deep

theorem Tryz.infoI : (Tryz.prog.info? 3).map (fun i => (i.zero, i.size, i.bytes)) = some (some (.int .i64 0), 1, 8) := by kernel_rfl
theorem Tryz.infoII : (Tryz.prog.info? 26).map (fun i => (i.zero, i.size, i.bytes)) = some (some (.slice none 0 0), 1, 24) := by kernel_rfl

/-- Numbers as cells. -/
def iv (l : List Int) : List Value := l.map (Value.int .i64)
theorem iv_length (l : List Int) : (iv l).length = l.length := by simp [iv]
theorem iv_append (l m : List Int) : iv (l ++ m) = iv l ++ iv m := by simp [iv]
theorem iv_take (l : List Int) (n : Nat) : (iv l).take n = iv (l.take n) := by simp [iv, List.map_take]
theorem iv_get (l : List Int) (i : Nat) (h : i < l.length) : (iv l)[i]? = some (.int .i64 (l.getD i 0)) := by
  simp [iv, List.getElem?_eq_getElem h, List.getD]
theorem iv_one (l : List Int) : ∀ u ∈ iv l, u.oneCell' = true := by
  intro u hu
  obtain ⟨_, _, rfl⟩ := List.mem_map.1 hu
  rfl

/-- The slice value v reads as the numbers l, in a block of which B holds. -/
def IRow (w : World) (B : Nat → Prop) (v : Value) (l : List Int) : Prop := RowV w B v (iv l)
theorem IRow.keep {w w' : World} {B : Nat → Prop} {v : Value} {l : List Int} (h : IRow w B v l) (hk : Kept B w w') : IRow w' B v l := RowV.keep h hk
theorem IRow.mono {w : World} {B C : Nat → Prop} {v : Value} {l : List Int} (h : IRow w B v l) (hc : ∀ j, j < w.heap.size → B j → C j) : IRow w C v l := RowV.mono h hc
theorem IRow.old {w w' : World} {B : Nat → Prop} {v : Value} {l : List Int} (h : IRow w B v l) (hb : Below w.heap.size w w') : IRow w' B v l := h.keep (kept_new hb B)
theorem IRow.val {w : World} {B : Nat → Prop} {v : Value} {l : List Int} (h : IRow w B v l) : ∃ ao cap, v = .slice ao l.length cap ∧ l.length ≤ cap ∧ cap ≤ maxLen ∧ (ao = none → cap = 0) := by
  obtain ⟨ao, cap, hv, h2, h3, h4, _⟩ := h
  rw [iv_length] at hv h2
  exact ⟨ao, cap, hv, h2, h3, h4⟩
theorem IRow.at {w : World} {B : Nat → Prop} {ao : Option Addr} {n cap : Nat} {l : List Int} (h : IRow w B (.slice ao n cap) l) {i : Nat} (hi : i < l.length) :
    ∃ b off, ao = some ⟨b, off, none⟩ ∧ b < w.heap.size ∧ B b ∧ ∀ j, j < l.length → w.cell? ⟨b, off + j, none⟩ = some (.int .i64 (l.getD j 0)) := by
  obtain ⟨b, off, ha, hb, hB, hc⟩ := RowV.at h (i := i) (by rw [iv_length]; exact hi)
  exact ⟨b, off, ha, hb, hB, fun j hj => (hc j (by rw [iv_length]; exact hj)).trans (iv_get l j hj)⟩
theorem IRow.all {w : World} {B : Nat → Prop} {v : Value} {l : List Int} (h : IRow w B v l) : IRow w (fun j => j < w.heap.size ∧ B j) v l := by
  obtain ⟨ao, cap, hv, h2, h3, h4, h5⟩ := h
  refine ⟨ao, cap, hv, h2, h3, h4, ?_⟩
  rcases h5 with h5 | ⟨b, off, ha, hb, hB, hc⟩
  · exact .inl h5
  · exact .inr ⟨b, off, ha, hb, ⟨hb, hB⟩, hc⟩
theorem IRow.one {w : World} {B : Nat → Prop} {v : Value} {l : List Int} (h : IRow w B v l) : v.oneCell' = true := by
  obtain ⟨ao, cap, rfl, _⟩ := h
  rfl

/-- The call's own row of numbers. -/
def IOwn (w : World) (base : Nat) (v : Value) (l : List Int) : Prop := w.ownsRow base 3 1 v l.length (iv l)
theorem IOwn.row {w : World} {base : Nat} {v : Value} {l : List Int} (h : IOwn w base v l) : IRow w (Own w base 3) v l := by
  have h2 : w.ownsRow base 3 1 v (iv l).length (iv l) := by rw [iv_length]; exact h
  exact owned_row h2
theorem IOwn.mono {w : World} {base base' : Nat} {v : Value} {l : List Int} (h : IOwn w base v l) (hb : base' ≤ base) : IOwn w base' v l := by
  refine ⟨h.1, ?_⟩
  rcases h.2 with h2 | ⟨g, cap, cur, h1, h2, r⟩
  · exact .inl h2
  · exact .inr ⟨g, cap, cur, h1, Nat.le_trans hb h2, r⟩
theorem IOwn.grown {w w' : World} {base : Nat} {v : Value} {l : List Int} {row : Option Nat} (h : IOwn w base v l) (hg : w.grownBy w' row) (hne : v.ownBlock = none ∨ v.ownBlock ≠ row) : IOwn w' base v l := World.ownsRow.kept h hg hne
theorem IOwn.below {w w' : World} {B base : Nat} {v : Value} {l : List Int} (h : IOwn w base v l) (hb : Below B w w') (hB : w.heap.size ≤ B) : IOwn w' base v l := by
  refine ⟨h.1, ?_⟩
  rcases h.2 with h2 | ⟨g, cap, cur, h1, h2, h3, r⟩
  · exact .inl h2
  · exact .inr ⟨g, cap, cur, h1, h2, by rw [hb.block g (Nat.lt_of_lt_of_le (Array.getElem?_eq_some_iff.1 h3).1 hB)]; exact h3, r⟩
theorem IOwn.lt {w : World} {base : Nat} {v : Value} {l : List Int} (h : IOwn w base v l) : ∀ j, v.ownBlock = some j → base ≤ j ∧ j < w.heap.size := World.ownsRow.lt h

/-- A walk of an append of a row of numbers, onto a row that the call owns. -/
theorem wpList_appZ (w : World) {ops : Array Oper} {rest : List Oper} {o : Oper} {a : Act} {Q : Exit → Act → World → Prop} (hgd : o.guard = none) (s x : Operand)
    (ho : o.op = .call { callee := .builtin .append, args := #[s, x], argTypes := #[26, 26] })
    (base : Nat) (v : Value) (xs : List Int) (hs : a.eval s = v) (hown : IOwn w base v xs)
    (sv : Value) (B : Nat → Prop) (l : List Int) (hx : a.eval x = sv) (hr : IRow w B sv l)
    (hbytes : xs.length + l.length ≤ 17592186044416) (hbase : base ≤ w.heap.size)
    (h : ∀ v' w', IOwn w' base v' (xs ++ l) → w.grownBy w' v.ownBlock → wpList Tryz.prog ops Q rest (a.put o.dst v') w') : wpList Tryz.prog ops Q (o :: rest) a w := by
  have h0 : w.ownsRow base 3 1 v (iv xs).length (iv xs) := by rw [iv_length]; exact hown
  refine wpList_appV w hgd s x 26 ho base 3 (.int .i64 0) 8 Tryz.underlying26 Tryz.infoI rfl v (iv xs) hs h0 sv B (iv l) hx hr (iv_one l) (by decide) (by rw [iv_length, iv_length]; omega) hbase ?_
  intro v' w' h1 hg
  refine h v' w' ?_ hg
  unfold IOwn
  rw [← iv_append] at h1
  rwa [iv_length] at h1

/-- A slice of slices that each read as numbers, in blocks of which B holds. -/
def Chs (w : World) (B : Nat → Prop) (v : Value) (cs : List (List Int)) : Prop :=
  ∃ us : List Value, us.length = cs.length ∧ RowV w B v us ∧ (∀ u ∈ us, u.oneCell' = true) ∧ ∀ i, i < cs.length → IRow w B (us.getD i .nilIface) (cs.getD i [])
theorem Chs.keep {w w' : World} {B : Nat → Prop} {v : Value} {cs : List (List Int)} (h : Chs w B v cs) (hk : Kept B w w') : Chs w' B v cs := by
  obtain ⟨us, h1, h2, h3, h4⟩ := h
  exact ⟨us, h1, h2.keep hk, h3, fun i hi => (h4 i hi).keep hk⟩
theorem Chs.mono {w : World} {B C : Nat → Prop} {v : Value} {cs : List (List Int)} (h : Chs w B v cs) (hc : ∀ j, j < w.heap.size → B j → C j) : Chs w C v cs := by
  obtain ⟨us, h1, h2, h3, h4⟩ := h
  exact ⟨us, h1, h2.mono hc, h3, fun i hi => (h4 i hi).mono hc⟩
theorem Chs.old {w w' : World} {B : Nat → Prop} {v : Value} {cs : List (List Int)} (h : Chs w B v cs) (hb : Below w.heap.size w w') : Chs w' B v cs := h.keep (kept_new hb B)
theorem Chs.val {w : World} {B : Nat → Prop} {v : Value} {cs : List (List Int)} (h : Chs w B v cs) : ∃ ao cap, v = .slice ao cs.length cap ∧ cs.length ≤ cap ∧ cap ≤ maxLen ∧ (ao = none → cap = 0) := by
  obtain ⟨us, h1, ⟨ao, cap, hv, h2, h3, h4, _⟩, _, _⟩ := h
  exact ⟨ao, cap, by rw [hv, h1], by omega, h3, h4⟩
theorem Chs.at {w : World} {B : Nat → Prop} {ao : Option Addr} {n cap : Nat} {cs : List (List Int)} (h : Chs w B (.slice ao n cap) cs) {i : Nat} (hi : i < cs.length) :
    ∃ b off x, ao = some ⟨b, off, none⟩ ∧ b < w.heap.size ∧ B b ∧ w.cell? ⟨b, off + i, none⟩ = some x ∧ IRow w B x (cs.getD i []) := by
  obtain ⟨us, h1, h2, _, h4⟩ := h
  obtain ⟨b, off, ha, hb, hB, hc⟩ := h2.at (i := i) (by omega)
  refine ⟨b, off, us.getD i .nilIface, ha, hb, hB, ?_, h4 i hi⟩
  rw [hc i (by omega), List.getD_eq_getElem?_getD, List.getElem?_eq_getElem (by omega)]
  rfl
theorem chains_take {cs : List (List Int)} (k : Nat) (h : k < cs.length) : cs.take (k + 1) = cs.take k ++ [cs.getD k []] := by
  rw [List.take_add_one, List.getElem?_eq_getElem h]; simp [List.getD, List.getElem?_eq_getElem h]
theorem ints_take {l : List Int} (k : Nat) (h : k < l.length) : l.take (k + 1) = l.take k ++ [l.getD k 0] := by
  rw [List.take_add_one, List.getElem?_eq_getElem h]; simp [List.getD, List.getElem?_eq_getElem h]
theorem getD_memI {l : List Int} (k : Nat) (h : k < l.length) : l.getD k 0 ∈ l := by
  rw [List.getD_eq_getElem?_getD, List.getElem?_eq_getElem h]; exact List.getElem_mem h
theorem getD_memC {l : List (List Int)} (k : Nat) (h : k < l.length) : l.getD k [] ∈ l := by
  rw [List.getD_eq_getElem?_getD, List.getElem?_eq_getElem h]; exact List.getElem_mem h

/-- A number that a variable may hold. -/
def Int64 (n : Int) : Prop := -9223372036854775808 ≤ n ∧ n ≤ 9223372036854775807

end Go.Proofs.YtlckadlkgjfjcaaGreatDoor

namespace Go.Proofs.YtlckadlkgjfjcaaGreatDoor
open Go.RowKit

def betwB (n lo hi : Int) : Bool := decide (lo ≤ n) && decide (n ≤ hi)

set_option maxHeartbeats 400000 in
set_option maxRecDepth 100000 in
theorem betw_any (n lo hi : Int) (w : World) :
    Calls Tryz.prog 107 #[.int .i64 n, .int .i64 lo, .int .i64 hi] w fun e w' => e = .returned (.bool (betwB n lo hi)) ∧ w = w' := by
  by_cases h1 : lo ≤ n
  · by_cases h2 : n ≤ hi
    · have HB : Hid (betwB n lo hi = true) := Lib.hid (by unfold betwB; rw [decide_eq_true h1, decide_eq_true h2]; rfl)
      go_enter Tryz.func107, Tryz.ntmps107
      go_wp2
      go_ret
      exact ⟨by rw [HB.out]; rfl, rfl⟩
    · have HB : Hid (betwB n lo hi = false) := Lib.hid (by unfold betwB; rw [decide_eq_false h2, Bool.and_false])
      go_enter Tryz.func107, Tryz.ntmps107
      go_wp2
      go_ret
      exact ⟨by rw [HB.out]; rfl, rfl⟩
  · have HB : Hid (betwB n lo hi = false) := Lib.hid (by unfold betwB; rw [decide_eq_false h1, Bool.false_and])
    go_enter Tryz.func107, Tryz.ntmps107
    go_wp2
    go_ret
    exact ⟨by rw [HB.out]; rfl, rfl⟩

set_option maxHeartbeats 400000 in
set_option maxRecDepth 100000 in
theorem noUnit_any (u : Int) (w : World) : Calls Tryz.prog 121 #[.int .i64 u] w fun e w' => e = .returned (.bool (!unitB u)) ∧ w = w' := by
  have HB : Hid (betwB u 0 7 = unitB u) := Lib.hid rfl
  go_enter Tryz.func121, Tryz.ntmps121
  go_wp2_with fail
  refine (betw_any u 0 7 _).mono ?_
  rintro e w1 ⟨rfl, rfl⟩
  rw [HB.out]
  go_wp2
  go_ret
  exact ⟨rfl, rfl⟩

set_option maxHeartbeats 400000 in
set_option maxRecDepth 100000 in
theorem noFew_any (ao : Option Addr) (n cap : Nat) (w : World) : Calls Tryz.prog 154 #[.slice ao n cap] w fun e w' => e = .returned (.bool (!fewB n)) ∧ w = w' := by
  have HB : Hid (betwB (n : Int) 1 4 = fewB n) := Lib.hid (by
    unfold betwB fewB
    congr 1
    · exact decide_eq_decide.2 (by omega)
    · exact decide_eq_decide.2 (by omega))
  go_enter Tryz.func154, Tryz.ntmps154
  go_wp2_with fail
  refine (betw_any (n : Int) 1 4 _).mono ?_
  rintro e w1 ⟨rfl, rfl⟩
  rw [HB.out]
  go_wp2
  go_ret
  exact ⟨rfl, rfl⟩

def foundI (g : Int → Bool) (l : List Int) (i : Int) : Prop := (i = -1 ∧ l.any g = false) ∨ ∃ k : Nat, k < l.length ∧ i = (k : Int) ∧ (l.take k).any g = false ∧ g (l.getD k 0) = true
theorem any_take_snoc {g : Int → Bool} {l : List Int} {k : Nat} (h : k < l.length) : (l.take (k + 1)).any g = ((l.take k).any g || g (l.getD k 0)) := by
  rw [ints_take k h, List.any_append]; simp
theorem foundI.any {g : Int → Bool} {l : List Int} {i : Int} (h : foundI g l i) : decide (0 ≤ i) = l.any g := by
  rcases h with ⟨rfl, h⟩ | ⟨k, hk, rfl, _, h⟩
  · rw [h]; rfl
  · rw [decide_eq_true (by omega), eq_comm, List.any_eq_true]
    exact ⟨_, getD_memI k hk, h⟩

set_option maxHeartbeats 1000000 in
set_option maxRecDepth 100000 in
theorem areNot_any (v : Value) (l : List Int) (w : World) (B : Nat → Prop) (h : IRow w B v l) :
    Calls Tryz.prog 75 #[v, .func (.func 121) #[] #[]] w fun e w' => ∃ i : Int, e = .returned (.int .i64 i) ∧ foundI (fun u => !unitB u) l i ∧ w = w' := by
  obtain ⟨ao, cap, rfl, h1, h2, h3⟩ := h.val
  have HR := Lib.hid h; clear h h3
  unfold maxLen at h2
  go_enter Tryz.func75, Tryz.ntmps75
  go_wp2
  go_loop [5, 8] (fun _ i => ∃ k : Nat, k ≤ l.length ∧ i = .int .i64 (k : Int) ∧ (l.take k).any (fun u => !unitB u) = false) (fun _ i => l.length - (intOf i).toNat)
  case atStart => exact ⟨0, Nat.zero_le _, rfl, by simp⟩
  case round =>
    obtain ⟨k, hk, rfl, hp⟩ := hrel
    have HP := Lib.hid hp; clear hp
    by_cases hlt : k < l.length
    · obtain ⟨b, off, rfl, hb, _, hc⟩ := HR.out.at hlt
      have hcc := hc k hlt
      have HS := Lib.hid (any_take_snoc (g := fun u => !unitB u) hlt)
      have HF : Hid (unitB (l.getD k 0) = false → foundI (fun u => !unitB u) l (k : Int)) := Lib.hid fun h => .inr ⟨k, hlt, rfl, HP.out, by show (!unitB (l.getD k 0)) = true; rw [h]; rfl⟩
      have hlti : (k : Int) < l.length := by omega
      generalize l.getD k 0 = u at hcc HS HF
      clear hc
      by_cases hu : unitB u = true
      · go_wp2_with fail
        refine (noUnit_any u _).mono ?_
        rintro e w1 ⟨rfl, rfl⟩
        rw [hu]
        have HS2 : Hid ((l.take (k + 1)).any (fun u => !unitB u) = false) := Lib.hid (by rw [HS.out, HP.out, hu]; rfl)
        go_wp2
        go_round
        case rel => exact ⟨k + 1, by omega, by go_num, HS2.out⟩
        case measure => simp [intOf]; omega
      · have hu : unitB u = false := by simpa using hu
        go_wp2_with fail
        refine (noUnit_any u _).mono ?_
        rintro e w1 ⟨rfl, rfl⟩
        rw [hu]
        have HF2 := Lib.hid (HF.out hu)
        clear HF
        go_wp2
        go_ret
        exact ⟨_, rfl, HF2.out, rfl⟩
    · obtain rfl : k = l.length := by omega
      have hq := HP.out
      rw [List.take_length] at hq
      have HQ := Lib.hid hq
      clear hq
      go_wp2
      go_ret
      exact ⟨_, rfl, .inl ⟨rfl, HQ.out⟩, rfl⟩

set_option maxHeartbeats 400000 in
set_option maxRecDepth 100000 in
theorem hasNot_any (v : Value) (l : List Int) (w : World) (B : Nat → Prop) (h : IRow w B v l) :
    Calls Tryz.prog 36 #[v, .func (.func 121) #[] #[]] w fun e w' => e = .returned (.bool (!l.all unitB)) ∧ w = w' := by
  have HR := Lib.hid h; clear h
  go_enter Tryz.func36, Tryz.ntmps36
  go_wp2_with fail
  refine (areNot_any v l w B HR.out).mono ?_
  rintro e w1 ⟨i, rfl, hf, rfl⟩
  have HF : Hid (decide (0 ≤ i) = !l.all unitB) := Lib.hid (by rw [hf.any, List.not_all_eq_any_not])
  clear hf
  go_wp2
  go_ret
  exact ⟨ret_bool HF.out, rfl⟩

set_option maxHeartbeats 400000 in
set_option maxRecDepth 100000 in
theorem areUnits_any (v : Value) (l : List Int) (w : World) (B : Nat → Prop) (h : IRow w B v l) :
    Calls Tryz.prog 79 #[v] w fun e w' => e = .returned (.bool (l.all unitB)) ∧ w = w' := by
  have HR := Lib.hid h; clear h
  go_enter Tryz.func79, Tryz.ntmps79
  go_wp2_with fail
  refine (hasNot_any v l w B HR.out).mono ?_
  rintro e w1 ⟨rfl, rfl⟩
  go_wp2
  go_ret
  exact ⟨by simp, rfl⟩

end Go.Proofs.YtlckadlkgjfjcaaGreatDoor

namespace Go.Proofs.YtlckadlkgjfjcaaGreatDoor
open Go.RowKit

def foundC (g : Nat → Bool) (cs : List (List Int)) (i : Int) : Prop := (i = -1 ∧ cs.any (fun c => g c.length) = false) ∨ ∃ k : Nat, k < cs.length ∧ i = (k : Int) ∧ g (cs.getD k []).length = true
theorem anyC_take_snoc {g : Nat → Bool} {cs : List (List Int)} {k : Nat} (h : k < cs.length) : (cs.take (k + 1)).any (fun c => g c.length) = ((cs.take k).any (fun c => g c.length) || g (cs.getD k []).length) := by
  rw [chains_take k h, List.any_append]; simp
theorem foundC.any {g : Nat → Bool} {cs : List (List Int)} {i : Int} (h : foundC g cs i) : decide (0 ≤ i) = cs.any (fun c => g c.length) := by
  rcases h with ⟨rfl, h⟩ | ⟨k, hk, rfl, h⟩
  · rw [h]; rfl
  · rw [decide_eq_true (by omega), eq_comm, List.any_eq_true]
    exact ⟨_, getD_memC k hk, h⟩

set_option maxHeartbeats 1000000 in
set_option maxRecDepth 100000 in
theorem notFew_at (v : Value) (cs : List (List Int)) (w : World) (B : Nat → Prop) (h : Chs w B v cs) :
    Calls Tryz.prog 123 #[v, .func (.func 154) #[] #[]] w fun e w' => ∃ i : Int, e = .returned (.int .i64 i) ∧ foundC (fun n => !fewB n) cs i ∧ w = w' := by
  obtain ⟨ao, cap, rfl, h1, h2, h3⟩ := h.val
  have HR := Lib.hid h; clear h h3
  unfold maxLen at h2
  obtain ⟨g, hg⟩ : ∃ g, g = (fun n => !fewB n) := ⟨_, rfl⟩
  have con : ∀ (ao : Option Addr) (n cap : Nat) (w : World), Calls Tryz.prog 154 #[.slice ao n cap] w fun e w' => e = .returned (.bool (g n)) ∧ w = w' := by
    intro ao n cap w; rw [hg]; exact noFew_any ao n cap w
  have HC := Lib.hid con
  rw [← hg]
  clear con hg
  go_enter Tryz.func123, Tryz.ntmps123
  go_wp2
  go_loop [5, 8] (fun _ i => ∃ k : Nat, k ≤ cs.length ∧ i = .int .i64 (k : Int) ∧ (cs.take k).any (fun c => g c.length) = false) (fun _ i => cs.length - (intOf i).toNat)
  case atStart => exact ⟨0, Nat.zero_le _, rfl, by simp⟩
  case round =>
    obtain ⟨k, hk, rfl, hp⟩ := hrel
    have HP := Lib.hid hp; clear hp
    by_cases hlt : k < cs.length
    · obtain ⟨b, off, u, rfl, hb, _, hc, hu⟩ := HR.out.at hlt
      obtain ⟨aoc, capc, rfl, _, _, _⟩ := hu.val
      have HS := Lib.hid (anyC_take_snoc (g := g) hlt)
      have HF : Hid (g (cs.getD k []).length = true → foundC g cs (k : Int)) := Lib.hid fun h => .inr ⟨k, hlt, rfl, h⟩
      have hlti : (k : Int) < cs.length := by omega
      generalize (cs.getD k []).length = n at hc HS HF
      clear hu
      by_cases hu : g n = false
      · go_wp2_with fail
        refine (HC.out _ _ _ _).mono ?_
        rintro e w1 ⟨rfl, rfl⟩
        rw [hu]
        have HS2 : Hid ((cs.take (k + 1)).any (fun c => g c.length) = false) := Lib.hid (by rw [HS.out, HP.out, hu]; rfl)
        clear hu
        go_wp2
        go_round
        case rel => exact ⟨k + 1, by omega, by go_num, HS2.out⟩
        case measure => simp [intOf]; omega
      · have hu : g n = true := by simpa using hu
        go_wp2_with fail
        refine (HC.out _ _ _ _).mono ?_
        rintro e w1 ⟨rfl, rfl⟩
        rw [hu]
        have HF2 := Lib.hid (HF.out hu)
        clear HF hu
        go_wp2
        go_ret
        exact ⟨_, rfl, HF2.out, rfl⟩
    · obtain rfl : k = cs.length := by omega
      have hq := HP.out
      rw [List.take_length] at hq
      have HQ := Lib.hid hq
      clear hq
      go_wp2
      go_ret
      exact ⟨_, rfl, .inl ⟨rfl, HQ.out⟩, rfl⟩

set_option maxHeartbeats 400000 in
set_option maxRecDepth 100000 in
theorem hasNotFew_any (v : Value) (cs : List (List Int)) (w : World) (B : Nat → Prop) (h : Chs w B v cs) :
    Calls Tryz.prog 82 #[v, .func (.func 154) #[] #[]] w fun e w' => e = .returned (.bool (cs.any fun c => (fun n => !fewB n) c.length)) ∧ w = w' := by
  have HR := Lib.hid h; clear h
  go_enter Tryz.func82, Tryz.ntmps82
  go_wp2_with fail
  refine (notFew_at v cs w B HR.out).mono ?_
  rintro e w1 ⟨i, rfl, hf, rfl⟩
  have HF := Lib.hid hf.any
  clear hf
  go_wp2
  go_ret
  exact ⟨ret_bool HF.out, rfl⟩

set_option maxHeartbeats 400000 in
set_option maxRecDepth 100000 in
theorem formed_any (v : Value) (cs : List (List Int)) (w : World) (B : Nat → Prop) (h : Chs w B v cs) :
    Calls Tryz.prog 108 #[v] w fun e w' => e = .returned (.bool (formedB cs)) ∧ w = w' := by
  obtain ⟨ao, cap, rfl, h1, h2, h3⟩ := h.val
  have HN := Lib.hid (hasNotFew_any _ cs w B h)
  clear h h1 h2 h3
  have HB : Hid (betwB (cs.length : Int) 1 4 = fewB cs.length) := Lib.hid (by
    unfold betwB fewB
    congr 1
    · exact decide_eq_decide.2 (by omega)
    · exact decide_eq_decide.2 (by omega))
  have HA : Hid ((!cs.any fun c => (fun n => !fewB n) c.length) = cs.all fun c => fewB c.length) := Lib.hid (by rw [List.not_any_eq_all_not]; congr 1; funext c; simp)
  obtain ⟨x, hx⟩ : ∃ x, x = cs.any fun c => (fun n => !fewB n) c.length := ⟨_, rfl⟩
  rw [← hx] at HN HA
  have HF : Hid (formedB cs = (fewB cs.length && !x)) := Lib.hid (by rw [HA.out]; rfl)
  clear hx
  by_cases hf : fewB cs.length = true
  · have HF2 : Hid (formedB cs = !x) := Lib.hid (by rw [HF.out, hf, Bool.true_and])
    go_enter Tryz.func108, Tryz.ntmps108
    go_wp2_with fail
    refine (betw_any (cs.length : Int) 1 4 _).mono ?_
    rintro e w1 ⟨rfl, rfl⟩
    rw [HB.out, hf]
    clear hf
    go_wp2_with fail
    refine HN.out.mono ?_
    rintro e w1 ⟨rfl, rfl⟩
    go_wp2
    go_ret
    exact ⟨by rw [HF2.out]; rfl, rfl⟩
  · have hf : fewB cs.length = false := by simpa using hf
    have HF2 : Hid (formedB cs = false) := Lib.hid (by rw [HF.out, hf, Bool.false_and])
    go_enter Tryz.func108, Tryz.ntmps108
    go_wp2_with fail
    refine (betw_any (cs.length : Int) 1 4 _).mono ?_
    rintro e w1 ⟨rfl, rfl⟩
    rw [HB.out, hf]
    clear hf
    go_wp2
    go_ret
    exact ⟨by rw [HF2.out]; rfl, rfl⟩

end Go.Proofs.YtlckadlkgjfjcaaGreatDoor
