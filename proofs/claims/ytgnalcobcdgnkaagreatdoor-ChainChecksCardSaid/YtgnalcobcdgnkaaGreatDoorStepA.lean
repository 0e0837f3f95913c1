/- An append of one number, at a step of a region that draws its order. -/
import Derived.Test.YtgnalcobcdgnkaaGreatDoorRows
import Derived.Test.YtgnalcobcdgnkaaGreatDoorBase
import Derived.Deep.RegionHeldLaw
import Derived.Deep.AppendLies
import Derived.Deep.RegionLawGrows
namespace Go.Proofs.YtgnalcobcdgnkaaGreatDoor
open Go.RowKit

/-- An append of one number, at a step of a region that draws. -/
theorem step_app {P : Program} {w : World} {ops : Array Oper} {o : Oper} {a : Act} {K : Act → World → Prop} {Q : Exit → Act → World → Prop} {E : Prop} (hgd : o.guard = none) (s x : Operand) (t : TypeId)
    (ho : o.op = .call { callee := .builtin .append, args := #[s, x], argTypes := #[t, t] })
    (base : Nat) (e : TypeId) (z : Value) (bytes : Nat) (ht : P.underlying t = some (.slice e)) (hinfo : (P.info? e).map (fun i => (i.zero, i.size, i.bytes)) = some (some z, 1, bytes)) (hzs : z.cells.size = 1)
    (k : IntKind) (v : Value) (xs : List Nat) (hs : a.eval s = v) (hown : Owns w base e k v xs)
    (ad : Addr) (n : Nat) (hx : a.eval x = .slice (some ad) 1 1) (hr : w.cell? ad = some (.int k (n : Int)))
    (hbytes : (xs.length + 1) * bytes ≤ 140737488355328) (hb0 : 0 < bytes) (hbase : base ≤ w.heap.size)
    (h : ∀ v' w', Owns w' base e k v' (xs ++ [n]) → w.grownBy w' v.ownBlock → K (a.put o.dst v') w') :
    if Region.wanted o (yielded ops a.tmps) = true then Oper.wp P o a w K Q else E := by
  obtain ⟨i, hi, hz, hsz, hby⟩ := info_parts hinfo
  have h63 : xs.length + 1 ≤ 140737488355328 := Nat.le_trans (Nat.le_mul_of_pos_right _ hb0) hbytes
  refine step_append_lies w hgd s x t ho base e i z 1 bytes ht hi hz hsz hby hzs (by decide) v xs.length (vals k xs) hs hown ad 1 1 [.int k (n : Int)] hx rfl ?_ ?_ (by decide) (by simp only [maxLen]; omega) hbytes hbase _ rfl ?_
  · intro j u hu
    match j with
    | 0 =>
      simp only [List.getElem?_cons_zero, Option.some.injEq] at hu
      subst hu
      simpa [Addr.add] using hr
    | j + 1 => simp at hu
  · intro u hu
    simp only [List.mem_singleton] at hu
    subst hu
    exact vals_oneCell k [n] _ (by simp [vals])
  · intro g cap w' ho' hg _ _
    refine h _ w' ?_ hg
    unfold Owns
    rw [List.length_append, vals_append]
    exact ho'

/-- An append of one number onto a row, at a step of a region that draws: what the row held stays where it was, whether there is room or not. -/
theorem step_app_keep {P : Program} {w : World} {ops : Array Oper} {o : Oper} {a : Act} {K : Act → World → Prop} {Q : Exit → Act → World → Prop} {E : Prop} (hgd : o.guard = none) (s x : Operand) (t : TypeId)
    (ho : o.op = .call { callee := .builtin .append, args := #[s, x], argTypes := #[t, t] })
    (base : Nat) (e : TypeId) (z : Value) (bytes : Nat) (ht : P.underlying t = some (.slice e)) (hinfo : (P.info? e).map (fun i => (i.zero, i.size, i.bytes)) = some (some z, 1, bytes)) (hzs : z.cells.size = 1)
    (k : IntKind) (g L cap : Nat) (xs : List Nat) (hL : L = xs.length) (hs : a.eval s = .slice (some ⟨g, 0, none⟩) L cap) (hown : Owns w base e k (.slice (some ⟨g, 0, none⟩) L cap) xs)
    (ad : Addr) (c : Nat) (n : Nat) (hx : a.eval x = .slice (some ad) 1 c) (hr : w.cell? ad = some (.int k (n : Int)))
    (hbytes : (xs.length + 1) * bytes ≤ 140737488355328) (hb0 : 0 < bytes) (hbase : base ≤ w.heap.size)
    (h : ∀ v' w', Owns w' base e k v' (xs ++ [n]) → w.grownBy w' (some g) → (∀ j, j < xs.length → w'.cell? ⟨g, j, none⟩ = w.cell? ⟨g, j, none⟩) → K (a.put o.dst v') w') :
    if Region.wanted o (yielded ops a.tmps) = true then Oper.wp P o a w K Q else E := by
  subst hL
  obtain ⟨i, hi, hz, hsz, hby⟩ := info_parts hinfo
  have h63 : xs.length + 1 ≤ 140737488355328 := Nat.le_trans (Nat.le_mul_of_pos_right _ hb0) hbytes
  have hnews : ∀ j u, ([Value.int k (n : Int)])[j]? = some u → w.cell? (ad.add j) = some u := by
    intro j u hu
    match j with
    | 0 =>
      simp only [List.getElem?_cons_zero, Option.some.injEq] at hu
      subst hu
      simpa [Addr.add] using hr
    | j + 1 => simp at hu
  have h1 : ∀ u ∈ [Value.int k (n : Int)], u.oneCell' = true := by
    intro u hu
    simp only [List.mem_singleton] at hu
    subst hu
    exact vals_oneCell k [n] _ (by simp [vals])
  have hown9 := hown
  unfold Owns at hown9
  rcases hown.2 with ⟨h9, _⟩ | ⟨g', cap', cur, h9, hbg, hg, hnc, hcm, hcs, htk⟩
  · cases h9
  · simp only [Value.slice.injEq, Option.some.injEq, Addr.mk.injEq] at h9
    obtain ⟨⟨rfl, _, _⟩, _, rfl⟩ := h9
    have hgl : g < w.heap.size := (Array.getElem?_eq_some_iff.1 hg).1
    by_cases hroom : xs.length + 1 ≤ cap
    · have hlt : xs.length < cur.size := by omega
      refine step_append_room hgd s x t ho e i 1 ht hi hsz g 0 xs.length cap hs ad 1 c [.int k (n : Int)] hx rfl hnews h1 hroom ?_ ?_
      · intro j hj
        have hj0 : j = 0 := by simp at hj; omega
        subst hj0
        refine ⟨?_, World.ownsRow.frozenAt hown9 _⟩
        simp [World.cell?, hg, hlt]
      · have hset : w.setCells g (0 + xs.length * 1) [.int k (n : Int)] = w.setCell ⟨g, xs.length, none⟩ (.int k (n : Int)) := by
          rw [show 0 + xs.length * 1 = xs.length from by omega]
          rfl
        rw [hset]
        have hown2 : w.ownsRow base e 1 (.slice (some ⟨g, 0, none⟩) (xs.length + 1) cap) (xs.length + 1) (cur.toList.take ((xs.length + 1) * 1)) :=
          ⟨by rw [List.length_take, show cur.toList.length = cur.size from by simp]; omega, .inr ⟨g, cap, cur, rfl, hbg, hg, hroom, hcm, hcs, rfl⟩⟩
        have hst := World.ownsRow.stored hown2 xs.length (.int k (n : Int))
        have hvals : (cur.toList.take ((xs.length + 1) * 1)).set xs.length (.int k (n : Int)) = vals k (xs ++ [n]) := by
          have e1 : cur.toList.take ((xs.length + 1) * 1) = vals k xs ++ [cur.toList[xs.length]'(by rw [Array.length_toList]; exact hlt)] := by
            rw [Nat.mul_one, List.take_succ_eq_append_getElem (by rw [Array.length_toList]; exact hlt), ← htk, Nat.mul_one]
          rw [e1, vals_append, List.set_append_right _ _ (by rw [vals_length]; exact Nat.le_refl _), vals_length, Nat.sub_self]
          rfl
        rw [hvals] at hst
        refine h _ _ ?_ hst.2 ?_
        · unfold Owns
          rw [List.length_append]
          exact hst.1
        · intro j hj
          exact World.cell?_setCell_other _ _ _ _ (by simp <;> omega)
    · refine step_append_grows hgd s x t ho e i z 1 bytes ht hi hz hsz hby hzs (by decide) (some ⟨g, 0, none⟩) xs.length cap (vals k xs) hs (by simp) (by simp [vals_length]) ?_ ad 1 c [.int k (n : Int)] hx rfl hnews h1 (by omega) (by simp only [maxLen]; omega) hbytes ?_
      · intro b hb j u hu
        obtain rfl := Option.some.inj hb
        exact World.ownsRow.cells hown9 rfl j u hu
      · intro v' w' ho' hg'
        refine h v' w' ?_ ⟨hg'.os, hg'.tape, hg'.output, hg'.size, fun j hj _ => hg'.block j hj (by simp)⟩ ?_
        · have ho2 : Owns w' w.heap.size e k v' (xs ++ [n]) := by
            unfold Owns
            rw [List.length_append, vals_append]
            exact ho'
          exact ho2.mono hbase
        · intro j hj
          have hc := World.ownsRow.cellAt hown9 j (by omega)
          rw [vals_get k xs j hj] at hc
          rw [hg'.cell hc (by simp), hc]

end Go.Proofs.YtgnalcobcdgnkaaGreatDoor
