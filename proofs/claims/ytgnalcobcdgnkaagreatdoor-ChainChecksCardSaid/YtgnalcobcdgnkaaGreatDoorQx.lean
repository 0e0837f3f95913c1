/- Slices of manifests: that came in, that are owned. · An owned row of manifests: made of another one, and one of them changed. -/
import Derived.Test.YtgnalcobcdgnkaaGreatDoorQt
import Derived.Test.YtgnalcobcdgnkaaGreatDoorRecB
namespace Go.Proofs.YtgnalcobcdgnkaaGreatDoor
open Go.RowKit

/-- A manifest with the slice that its parts lie in. -/
abbrev MV := MF × Value
def mv0 : MV := (mf0, .slice none 0 0)
def mvRow (r : MV) : List Value := mfRow r.1 r.2
def mvd (rs : List MV) (i : Nat) : MV := rs.getD i mv0
def msOf (rs : List MV) : List MF := rs.map Prod.fst
theorem msOf_length (rs : List MV) : (msOf rs).length = rs.length := by unfold msOf; rw [List.length_map]
theorem msOf_take (rs : List MV) (k : Nat) : msOf (rs.take k) = (msOf rs).take k := by unfold msOf; rw [List.map_take]
theorem msOf_app (a b : List MV) : msOf (a ++ b) = msOf a ++ msOf b := by unfold msOf; rw [List.map_append]
theorem mvd_get {rs : List MV} {i : Nat} (h : i < rs.length) : rs[i]? = some (mvd rs i) := by
  unfold mvd
  rw [List.getD_eq_getElem?_getD, List.getElem?_eq_getElem h]; rfl
theorem mvd_mem {rs : List MV} {i : Nat} (h : i < rs.length) : mvd rs i ∈ rs := List.mem_of_getElem? (mvd_get h)
theorem mvd_fst (rs : List MV) (i : Nat) : (msOf rs).getD i mf0 = (mvd rs i).1 := by
  unfold mvd msOf
  rw [List.getD_eq_getElem?_getD, List.getD_eq_getElem?_getD, List.getElem?_map]
  cases rs[i]? <;> rfl
theorem mvRow_len {r : MV} (h : Dg r.1.prev) : (mvRow r).length = 37 := mfRow_len _ h

/-- A slice of manifests that reads as these. -/
def MsAt (w : World) (B : Nat → Prop) (v : Value) (rs : List MV) : Prop := RecAt w B 37 v (rs.map mvRow) ∧ ∀ r ∈ rs, PsAt w B r.2 r.1.ps ∧ Dg r.1.prev
section
variable {w w' : World} {B C : Nat → Prop} {v : Value} {rs : List MV}
theorem MsAt.val (h : MsAt w B v rs) : ∃ ao cap, v = .slice ao rs.length cap ∧ rs.length ≤ cap ∧ cap ≤ maxLen ∧ (ao = none → cap = 0) := by
  have := h.1.val
  rwa [List.length_map] at this
theorem MsAt.keep (h : MsAt w B v rs) (hk : Kept B w w') : MsAt w' B v rs := ⟨h.1.keep hk, fun r hr => ⟨(h.2 r hr).1.keep hk, (h.2 r hr).2⟩⟩
theorem MsAt.old (h : MsAt w B v rs) (hb : Below w.heap.size w w') : MsAt w' B v rs := h.keep ⟨hb.size, fun j hj _ => hb.block j hj⟩
theorem MsAt.mono (h : MsAt w B v rs) (hc : ∀ j, j < w.heap.size → B j → C j) : MsAt w C v rs := ⟨h.1.mono hc, fun r hr => ⟨(h.2 r hr).1.mono hc, (h.2 r hr).2⟩⟩
theorem ms_nil (w : World) (B : Nat → Prop) : MsAt w B (.slice none 0 0) [] := ⟨recAt_nil _ _ _, by simp⟩
theorem MsAt.dg (h : MsAt w B v rs) (i : Nat) : Dg (mvd rs i).1.prev := by
  by_cases hi : i < rs.length
  · exact (h.2 _ (mvd_mem hi)).2
  · unfold mvd
    rw [List.getD_eq_getElem?_getD, List.getElem?_eq_none (by omega)]
    exact dg_zero
theorem MsAt.ps (h : MsAt w B v rs) (i : Nat) : PsAt w B (mvd rs i).2 (mvd rs i).1.ps := by
  by_cases hi : i < rs.length
  · exact (h.2 _ (mvd_mem hi)).1
  · unfold mvd
    rw [List.getD_eq_getElem?_getD, List.getElem?_eq_none (by omega)]
    exact ps_nil _ _
theorem MsAt.at {ao : Option Addr} {n cap : Nat} (h : MsAt w B (.slice ao n cap) rs) {i : Nat} (hi : i < rs.length) :
    ∃ b off, ao = some ⟨b, off, none⟩ ∧ b < w.heap.size ∧ B b ∧ ∀ j u, (mvRow (mvd rs i))[j]? = some u → w.cell? ⟨b, off + i * 37 + j, none⟩ = some u :=
  h.1.at (i := i) (r := mvRow (mvd rs i)) (by rw [List.getElem?_map, mvd_get hi]; rfl)
theorem RecAt.head {k : Nat} {ao : Option Addr} {n cap m : Nat} {rows : List (List Value)} (h : RecAt w B k (.slice ao n cap) rows) (hm : m ≤ rows.length) : RecAt w B k (.slice ao m cap) (rows.take m) := by
  obtain ⟨ao', cap', hv, h1, h2, h3, h4⟩ := h
  obtain ⟨rfl, rfl, rfl⟩ : ao = ao' ∧ n = rows.length ∧ cap = cap' := by simpa using hv
  have hl : (rows.take m).length = m := by rw [List.length_take]; omega
  refine ⟨ao, cap, by rw [hl], by omega, h2, h3, ?_⟩
  rcases h4 with h4 | ⟨b, off, ha, hb, hB, hc⟩
  · left; rw [h4, List.take_nil]
  · exact .inr ⟨b, off, ha, hb, hB, fun i r hi => hc i r (by
      rw [List.getElem?_take] at hi
      split at hi
      · exact hi
      · cases hi)⟩
theorem MsAt.head {ao : Option Addr} {n cap m : Nat} (h : MsAt w B (.slice ao n cap) rs) (hm : m ≤ rs.length) : MsAt w B (.slice ao m cap) (rs.take m) := by
  refine ⟨?_, fun r hr => h.2 r (List.mem_of_mem_take hr)⟩
  rw [List.map_take]
  exact h.1.head (by rw [List.length_map]; exact hm)
end

/-- An owned row of manifests. -/
structure MsOwn (w : World) (base : Nat) (T : TypeId) (v : Value) (rs : List MV) : Prop where
  rows : RecOwn w base T 37 v (rs.map mvRow)
  nest : ∀ r ∈ rs, PsAt w (fun j => v.ownBlock ≠ some j) r.2 r.1.ps ∧ Dg r.1.prev
section
variable {w w' : World} {base : Nat} {T : TypeId} {v v' : Value} {rs : List MV}
theorem MsOwn.all (h : MsOwn w base T v rs) : MsAt w (fun _ => True) v rs := ⟨h.rows.at'.mono fun _ _ _ => trivial, fun r hr => ⟨(h.nest r hr).1.mono fun _ _ _ => trivial, (h.nest r hr).2⟩⟩
theorem MsOwn.old (h : MsOwn w base T v rs) (hb : Below w.heap.size w w') : MsOwn w' base T v rs :=
  ⟨h.rows.keep fun j hj => hb.block j (h.rows.block hj).2.1, fun r hr => ⟨(h.nest r hr).1.old hb, (h.nest r hr).2⟩⟩
theorem MsOwn.mono {b : Nat} (h : MsOwn w base T v rs) (hb : b ≤ base) : MsOwn w b T v rs := ⟨h.rows.mono hb, h.nest⟩
/-- What an append leaves. -/
theorem MsOwn.app (h : MsOwn w base T v rs) {xs : List MV} (hr : RecOwn w' base T 37 v' ((rs ++ xs).map mvRow)) (hg : w.grownBy w' v.ownBlock) (hl : v'.ownBlock = v.ownBlock ∨ v'.ownBlock = some w.heap.size)
    (hx : ∀ r ∈ xs, PsAt w (fun j => v.ownBlock ≠ some j) r.2 r.1.ps ∧ Dg r.1.prev) : MsOwn w' base T v' (rs ++ xs) := by
  refine ⟨hr, fun r hr => ?_⟩
  have key : PsAt w (fun j => v.ownBlock ≠ some j) r.2 r.1.ps ∧ Dg r.1.prev := by
    rcases List.mem_append.1 hr with h1 | h1
    · exact h.nest r h1
    · exact hx r h1
  refine ⟨?_, key.2⟩
  have k1 : PsAt w (fun j => j < w.heap.size ∧ v.ownBlock ≠ some j) r.2 r.1.ps := key.1.mono fun j hj hB => ⟨hj, hB⟩
  refine (k1.keep ⟨hg.size, fun j hj hB => hg.block j hj (fun e => hB.2 e.symm)⟩).mono fun j _ hB => ?_
  rcases hl with hl | hl
  · rw [hl]; exact hB.2
  · rw [hl]; intro e; cases e; exact absurd hB.1 (Nat.lt_irrefl _)
end

end Go.Proofs.YtgnalcobcdgnkaaGreatDoor

namespace Go.Proofs.YtgnalcobcdgnkaaGreatDoor
open Go.RowKit

/-- A row that was made of another one. -/
theorem MsAt.copied {w w' : World} {B : Nat → Prop} {v v' : Value} {rs : List MV} {T : TypeId} {k : Nat} (h : MsAt w B v rs) (hr : RecOwn w' k T 37 v' (rs.map mvRow)) (hk : w.heap.size ≤ k) (hg : ∀ j, j < w.heap.size → w'.heap[j]? = w.heap[j]?) (hs : w.heap.size ≤ w'.heap.size) : MsOwn w' k T v' rs := by
  refine ⟨hr, fun r hm => ⟨?_, (h.2 r hm).2⟩⟩
  refine (((h.2 r hm).1.mono (C := fun j => j < w.heap.size) fun j hj _ => hj).keep ⟨hs, fun j hj _ => hg j hj⟩).mono fun j _ hj e => ?_
  have := (hr.block e).1
  omega
/-- One of them changed. -/
theorem MsOwn.put {w W2 : World} {base g n cap : Nat} {T : TypeId} {rs : List MV} {i : Nat} {m : MV} {old new : Array Value} (h : MsOwn w base T (.slice (some ⟨g, 0, none⟩) n cap) rs) (hi : i < rs.length) (hg : w.heap[g]? = some (.cells old T (0, 0))) (hz : rs.length * 37 ≤ old.size)
    (hm : Dg m.1.prev) (hp : PsAt w (fun j => j ≠ g) m.2 m.1.ps) (hn : (old.toList.take (i * 37) ++ mvRow m ++ old.toList.drop (i * 37 + 37)).toArray = new) (h2 : W2.heap[g]? = some (.cells new T (0, 0))) (hgr : w.grownBy W2 (some g)) : MsAt W2 (fun _ => True) (.slice (some ⟨g, 0, none⟩) n cap) (rs.set i m) := by
  have keep : ∀ {v : Value} {ps : List PT}, PsAt w (fun j => j ≠ g) v ps → PsAt W2 (fun _ => True) v ps := fun hq => (hq.keep ⟨hgr.size, fun j hj hB => hgr.block j hj (fun e => hB (Option.some.inj e))⟩).mono fun _ _ _ => trivial
  have hall := h.all
  refine ⟨?_, fun r hr => ?_⟩
  · obtain ⟨ao, cp, hv, h1, h3, h4, h5⟩ := hall.1
    refine ⟨ao, cp, by rw [hv]; simp, by simpa using h1, h3, h4, .inr ⟨g, 0, ?_, (Array.getElem?_eq_some_iff.1 h2).1, trivial, fun j r hr t u hu => ?_⟩⟩
    · simp only [Value.slice.injEq] at hv
      exact hv.1.symm
    have hjl : j < rs.length := by have := (List.getElem?_eq_some_iff.1 hr).1; simpa using this
    have hm37 : (mvRow m).length = 37 := mvRow_len hm
    have ht : t < 37 := by
      have h6 := (List.getElem?_eq_some_iff.1 hu).1
      obtain ⟨q, hq, rfl⟩ : ∃ q, (rs.set i m)[j]? = some q ∧ mvRow q = r := by rw [List.getElem?_map, Option.map_eq_some_iff] at hr; exact hr
      by_cases e : i = j
      · subst e
        rw [List.getElem?_set_self hjl] at hq
        obtain rfl := Option.some.inj hq
        omega
      · rw [List.getElem?_set_ne e] at hq
        rw [mvRow_len (h.nest q (List.mem_of_getElem? hq)).2] at h6; exact h6
    rw [cell_of_row W2 g _ _ _ _ h2, ← hn, List.getElem?_toArray]
    have hi37 : i * 37 ≤ old.toList.length := by rw [Array.length_toList]; omega
    have hl1 : (old.toList.take (i * 37)).length = i * 37 := by rw [List.length_take]; omega
    by_cases hji : j = i
    · subst hji
      obtain rfl : mvRow m = r := by
        have : ((rs.set j m).map mvRow)[j]? = some (mvRow m) := by rw [List.getElem?_map, List.getElem?_set_self hjl]; rfl
        exact Option.some.inj (this.symm.trans hr)
      rw [List.append_assoc, List.getElem?_append_right (by omega), List.getElem?_append_left (by omega), hl1]
      rw [show 0 + j * 37 + t - j * 37 = t by omega]
      exact hu
    · have hold : old[0 + j * 37 + t]? = some u := by
        have hr' : (rs.map mvRow)[j]? = some r := by
          rw [List.getElem?_map, List.getElem?_set_ne (fun e => hji e.symm)] at hr
          rw [List.getElem?_map]; exact hr
        obtain ⟨b, off, ha, _, _, hc⟩ := hall.1.at (i := j) hr'
        cases ha
        have := hc t u hu
        rwa [cell_of_row w g _ _ _ _ hg] at this
      rw [← Array.getElem?_toList] at hold
      by_cases hlt : j < i
      · rw [List.append_assoc, List.getElem?_append_left (by omega), List.getElem?_take_of_lt (by omega)]
        exact hold
      · rw [List.getElem?_append_right (by rw [List.length_append]; omega), List.length_append, hl1, hm37, List.getElem?_drop]
        rw [show i * 37 + 37 + (0 + j * 37 + t - (i * 37 + 37)) = 0 + j * 37 + t by omega]
        exact hold
  · rcases List.mem_or_eq_of_mem_set hr with hr | rfl
    · obtain ⟨k1, k2⟩ := h.nest r hr
      exact ⟨keep (k1.mono fun j _ hB e => hB (by rw [e]; rfl)), k2⟩
    · exact ⟨keep hp, hm⟩

end Go.Proofs.YtgnalcobcdgnkaaGreatDoor
