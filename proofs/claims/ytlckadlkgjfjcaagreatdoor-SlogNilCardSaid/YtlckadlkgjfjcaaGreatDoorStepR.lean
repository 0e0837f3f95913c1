/- An append of one record, at a step of a region that draws its order. -/
import Derived.Test.YtlckadlkgjfjcaaGreatDoorDbP
import Derived.Deep.RegionHeldLaw
import Derived.Deep.AppendLies
namespace Go.Proofs.YtlckadlkgjfjcaaGreatDoor
open Go.RowKit

theorem RecOwn.alloc {w : World} {base : Nat} {e : TypeId} {k : Nat} {v : Value} {rows : List (List Value)} (h : RecOwn w base e k v rows) (o : Obj) : RecOwn (w.alloc o) base e k v rows :=
  h.keep fun _ hj => Below.heap_alloc _ _ _ (h.block hj).2.1
theorem RecOwn.drew {w : World} {base : Nat} {e : TypeId} {k : Nat} {v : Value} {rows : List (List Value)} (h : RecOwn w base e k v rows) : RecOwn w.drew base e k v rows := h

theorem step_appRec {P : Program} {w : World} {ops : Array Oper} {o : Oper} {a : Act} {K : Act → World → Prop} {Q : Exit → Act → World → Prop} {E : Prop} (hgd : o.guard = none) (s x : Operand) (t : TypeId)
    (ho : o.op = .call { callee := .builtin .append, args := #[s, x], argTypes := #[t, t] })
    (base : Nat) (e : TypeId) (z : Value) (k bytes : Nat) (ht : P.underlying t = some (.slice e)) (hinfo : (P.info? e).map (fun i => (i.zero, i.size, i.bytes)) = some (some z, k, bytes)) (hzs : z.cells.size = k) (hk0 : 0 < k)
    (v : Value) (rows : List (List Value)) (hs : a.eval s = v) (hown : RecOwn w base e k v rows)
    (r : List Value) (hr : r.length = k) (h1c : ∀ u ∈ r, u.oneCell' = true) (ad : Addr) (hx : a.eval x = .slice (some ad) 1 1) (hcell : ∀ j u, r[j]? = some u → w.cell? (ad.add j) = some u)
    (hlen : rows.length + 1 ≤ maxLen) (hbytes : (rows.length + 1) * bytes ≤ 140737488355328) (hbase : base ≤ w.heap.size)
    (h : ∀ g cap w', RecOwn w' base e k (.slice (some ⟨g, 0, none⟩) (rows.length + 1) cap) (rows ++ [r]) → w.grownBy w' v.ownBlock → (v.ownBlock = some g ∨ g = w.heap.size) → K (a.put o.dst (.slice (some ⟨g, 0, none⟩) (rows.length + 1) cap)) w') :
    if Region.wanted o (yielded ops a.tmps) = true then Oper.wp P o a w K Q else E := by
  obtain ⟨i, hi, hz, hsz, hby⟩ := info_parts hinfo
  refine step_append_lies w hgd s x t ho base e i z k bytes ht hi hz hsz hby hzs hk0 v rows.length rows.flatten hs hown.2 ad 1 1 r hx (by rw [hr]; omega) hcell h1c (by decide) hlen hbytes hbase _ rfl ?_
  intro g cap w' ho' hg hloc _
  refine h g cap w' ⟨?_, ?_⟩ hg hloc
  · intro y hy
    rcases List.mem_append.1 hy with hy | hy
    · exact hown.1 y hy
    · obtain rfl : y = r := by simpa using hy
      exact hr
  · rw [List.length_append, List.flatten_append]
    simpa using ho'

end Go.Proofs.YtlckadlkgjfjcaaGreatDoor
