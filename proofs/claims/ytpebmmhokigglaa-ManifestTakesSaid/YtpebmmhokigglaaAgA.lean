/- Structs and arrays that are loaded and stored whole, wherever they lie in a block; boxes of manifests and of parts. -/
import Derived.Test.YtpebmmhokigglaaMfM
import Derived.Test.YtpebmmhokigglaaRecP
import Derived.Test.YtpebmmhokigglaaEqA
import Derived.Laws.Rows
import Derived.Laws.CopyRow
namespace Go.Proofs.Ytpebmmhokigglaa
open Go.RowKit

section
variable {P : Program}
theorem addr_add (g o i : Nat) : (⟨g, o, none⟩ : Addr).add i = ⟨g, o + i, none⟩ := by unfold Addr.add; split <;> simp_all
theorem run_loadVar_at (w : World) (g off : Nat) (ty : TypeId) (sub : List Value) (d : TypeDesc) (hc : ∀ j v, sub[j]? = some v → w.cell? ⟨g, off + j, none⟩ = some v)
    (hu : P.underlying ty = some d) (hd : (match d with | .struct _ | .array _ _ => true | _ => false) = true) (hi : (P.info? ty).map (·.size) = some sub.length) :
    (loadVar ty ⟨g, off, none⟩).run P w = .ok (.agg sub.toArray) w := by
  have hl : (loadCells ⟨g, off, none⟩ sub.length).run P w = .ok sub.toArray w := run_loadCells_list (P := P) w ⟨g, off, none⟩ sub (fun j v hv => by rw [addr_add]; exact hc j v hv)
  cases hq : P.info? ty with
  | none => simp [hq] at hi
  | some i =>
    have hs : i.size = sub.length := by simpa [hq] using hi
    have hagg : (isAgg ty).run P w = .ok true w := by
      unfold isAgg
      rw [Sem.run_bind, run_underlying hu w]
      cases d <;> simp_all
    simp [loadVar, Sem.run_bind, hagg, sizeOf, typeInfo, hq, hs, hl]
theorem wp_load_at {o : Oper} {a : Act} {w : World} {K : Act → World → Prop} {Q : Exit → Act → World → Prop} (ty : TypeId) (x : Operand) (ho : o.op = .load ty x)
    (g off : Nat) (hx : a.eval x = .pointer (some ⟨g, off, none⟩)) (sub : List Value) (d : TypeDesc) (hc : ∀ j v, sub[j]? = some v → w.cell? ⟨g, off + j, none⟩ = some v)
    (hu : P.underlying ty = some d) (hd : (match d with | .struct _ | .array _ _ => true | _ => false) = true) (hi : (P.info? ty).map (·.size) = some sub.length)
    (h : K (a.put o.dst (.agg sub.toArray)) w) : o.wp P a w K Q := by
  unfold Oper.wp execOp
  simp only [ho, hx, Instr.loadAt, Instr.sureAddr, Sem.run_bind, Sem.run_pure, Result.andThen_ok, run_loadVar_at w g off ty sub d hc hu hd hi]
  exact h
theorem wpList_load_at {ops : Array Oper} {rest : List Oper} {o : Oper} {a : Act} {w : World} {Q : Exit → Act → World → Prop} (hgd : o.guard = none) (ty : TypeId) (x : Operand) (ho : o.op = .load ty x)
    (g off : Nat) (hx : a.eval x = .pointer (some ⟨g, off, none⟩)) (sub : List Value) (d : TypeDesc) (hc : ∀ j v, sub[j]? = some v → w.cell? ⟨g, off + j, none⟩ = some v)
    (hu : P.underlying ty = some d) (hd : (match d with | .struct _ | .array _ _ => true | _ => false) = true) (hi : (P.info? ty).map (·.size) = some sub.length)
    (h : wpList P ops Q rest (a.put o.dst (.agg sub.toArray)) w) : wpList P ops Q (o :: rest) a w :=
  wpList_plain hgd fun _ hK => wp_load_at ty x ho g off hx sub d hc hu hd hi (hK _ _ h)
theorem wpList_load_atG {ops : Array Oper} {rest : List Oper} {o : Oper} {a : Act} {w : World} {Q : Exit → Act → World → Prop} (hw : Region.wanted o (yielded ops a.tmps) = true) (ty : TypeId) (x : Operand) (ho : o.op = .load ty x)
    (g off : Nat) (hx : a.eval x = .pointer (some ⟨g, off, none⟩)) (sub : List Value) (d : TypeDesc) (hc : ∀ j v, sub[j]? = some v → w.cell? ⟨g, off + j, none⟩ = some v)
    (hu : P.underlying ty = some d) (hd : (match d with | .struct _ | .array _ _ => true | _ => false) = true) (hi : (P.info? ty).map (·.size) = some sub.length)
    (h : wpList P ops Q rest (a.put o.dst (.agg sub.toArray)) w) : wpList P ops Q (o :: rest) a w :=
  wpList_step fun _ hK => by rw [if_pos hw]; exact wp_load_at ty x ho g off hx sub d hc hu hd hi (hK _ _ h)

theorem wpList_load_rowH {ops : Array Oper} {rest : List Oper} {o : Oper} {a : Act} {w : World} {Q : Exit → Act → World → Prop} (hw : Region.wanted o (yielded ops a.tmps) = true) (ty : TypeId) (x : Operand) (ho : o.op = .load ty x)
    (g : Nat) (hx : a.eval x = .pointer (some ⟨g, 0, none⟩)) (t : TypeId) (cs : Array Value) (fr : Nat × Nat) (d : TypeDesc) (hg : w.heap[g]? = some (.cells cs t fr))
    (hu : P.underlying ty = some d) (hd : (match d with | .struct _ | .array _ _ => true | _ => false) = true) (hi : (P.info? ty).map (·.size) = some cs.size)
    (h : wpList P ops Q rest (a.put o.dst (.agg cs)) w) : wpList P ops Q (o :: rest) a w :=
  wpList_step fun _ hK => by rw [if_pos hw]; exact wp_load_row ty x ho g hx t cs fr d hg hu hd hi (hK _ _ h)

theorem run_storeVar_at (w : World) (g off : Nat) (t ty : TypeId) (old sub : Array Value) (hg : w.heap[g]? = some (.cells old t (0, 0))) (hi : (P.info? ty).map (·.size) = some sub.size)
    (ho : off + sub.size ≤ old.size) (h1 : sub.all (·.oneCell') = true) :
    (storeVar ty ⟨g, off, none⟩ (.agg sub)).run P w = .ok () (w.setRow g (old.toList.take off ++ sub.toList ++ old.toList.drop (off + sub.size)).toArray) := by
  have := run_storeCells_at P g off t sub.toList 0 old w hg (by simpa using ho) (fun v hv => (Array.all_eq_true_iff_forall_mem.1 h1) v (by simpa using hv))
  cases hq : P.info? ty with
  | none => simp [hq] at hi
  | some i =>
    have hs : sub.size = i.size := by simp [hq] at hi; omega
    simp [storeVar, sizeOf, typeInfo, hq, Value.cells, hs, this]
theorem wp_store_at {o : Oper} {a : Act} {w : World} {K : Act → World → Prop} {Q : Exit → Act → World → Prop} (ty : TypeId) (x y : Operand) (ho : o.op = .store ty x y)
    (g off : Nat) (sub : Array Value) (hx : a.eval x = .pointer (some ⟨g, off, none⟩)) (hy : a.eval y = .agg sub)
    (t : TypeId) (old : Array Value) (hg : w.heap[g]? = some (.cells old t (0, 0))) (hi : (P.info? ty).map (·.size) = some sub.size)
    (hold : off + sub.size ≤ old.size) (h1 : sub.all (·.oneCell') = true)
    (h : K (a.put o.dst undef) (w.setRow g (old.toList.take off ++ sub.toList ++ old.toList.drop (off + sub.size)).toArray)) : o.wp P a w K Q := by
  unfold Oper.wp execOp
  simp only [ho, hx, hy, Instr.storeAt, Instr.sureAddr, Sem.run_bind, Sem.run_pure, Result.andThen_ok, run_storeVar_at w g off t ty old sub hg hi hold h1]
  exact h
theorem wpList_store_at {ops : Array Oper} {rest : List Oper} {o : Oper} {a : Act} {w : World} {Q : Exit → Act → World → Prop} (hgd : o.guard = none) (ty : TypeId) (x y : Operand) (ho : o.op = .store ty x y)
    (g off : Nat) (sub : Array Value) (hx : a.eval x = .pointer (some ⟨g, off, none⟩)) (hy : a.eval y = .agg sub)
    (t : TypeId) (old : Array Value) (hg : w.heap[g]? = some (.cells old t (0, 0))) (hi : (P.info? ty).map (·.size) = some sub.size)
    (hold : off + sub.size ≤ old.size) (h1 : sub.all (·.oneCell') = true)
    (h : wpList P ops Q rest (a.put o.dst undef) (w.setRow g (old.toList.take off ++ sub.toList ++ old.toList.drop (off + sub.size)).toArray)) : wpList P ops Q (o :: rest) a w :=
  wpList_plain hgd fun _ hK => wp_store_at ty x y ho g off sub hx hy t old hg hi hold h1 (hK _ _ h)
end

/-- A part's cells, a manifest's. -/
def ptRow (p : PT) : List Value := [.int .i64 p.1, .int .i64 p.2.1, .int .i64 p.2.2.1] ++ vals .u8 p.2.2.2
def mfRow (m : MF) (v : Value) : List Value := [.int .i64 m.num, .int .i64 m.fro, .int .i64 m.upto, .int .i64 m.trim] ++ (vals .u8 m.prev ++ [v])
theorem ptRow_len {p : PT} (h : Dg p.2.2.2) : (ptRow p).length = 35 := by unfold ptRow; rw [List.length_append, vals_length, h.1]; rfl
theorem mfRow_len {m : MF} (v : Value) (h : Dg m.prev) : (mfRow m v).length = 37 := by unfold mfRow; rw [List.length_append, List.length_append, vals_length, h.1]; rfl
theorem vals_one8 (l : List Nat) : ∀ u ∈ vals .u8 l, u.oneCell' = true := vals_oneCell .u8 l
theorem ptRow_one (p : PT) : ∀ u ∈ ptRow p, u.oneCell' = true := by
  intro u hu
  unfold ptRow at hu
  rcases List.mem_append.1 hu with h | h
  · simp only [List.mem_cons, List.not_mem_nil, or_false] at h
    rcases h with rfl | rfl | rfl <;> rfl
  · exact vals_one8 _ u h
theorem mfRow_one (m : MF) {v : Value} (hv : v.oneCell' = true) : ∀ u ∈ mfRow m v, u.oneCell' = true := by
  intro u hu
  unfold mfRow at hu
  rcases List.mem_append.1 hu with h | h
  · simp only [List.mem_cons, List.not_mem_nil, or_false] at h
    rcases h with rfl | rfl | rfl | rfl <;> rfl
  · rcases List.mem_append.1 h with h | h
    · exact vals_one8 _ u h
    · rw [List.mem_singleton.1 h]; exact hv
theorem mfRow_last {m : MF} (v : Value) (h : Dg m.prev) : (mfRow m v)[36]? = some v := by
  unfold mfRow
  rw [List.getElem?_append_right (by simp), List.getElem?_append_right (by rw [vals_length, h.1]; simp), vals_length, h.1]
  rfl
theorem mfRow_prev {m : MF} (v : Value) : ∀ j u, (vals .u8 m.prev)[j]? = some u → (mfRow m v)[4 + j]? = some u := by
  intro j u hu
  have hl := (List.getElem?_eq_some_iff.1 hu).1
  unfold mfRow
  rw [List.getElem?_append_right (by simp)]
  show (vals .u8 m.prev ++ [v])[4 + j - 4]? = some u
  rw [Nat.add_sub_cancel_left, List.getElem?_append_left hl]
  exact hu
theorem ptRow_sum {p : PT} : ∀ j u, (vals .u8 p.2.2.2)[j]? = some u → (ptRow p)[3 + j]? = some u := by
  intro j u hu
  unfold ptRow
  rw [List.getElem?_append_right (by simp)]
  show (vals .u8 p.2.2.2)[3 + j - 3]? = some u
  rw [Nat.add_sub_cancel_left]
  exact hu

/-- A box of a manifest, of a part, whichever of the two types it has. -/
def MB (w : World) (q : Nat) (m : MF) (v : Value) (T : TypeId) : Prop := w.heap[q]? = some (.cells (mfRow m v).toArray T (0, 0))
def PB (w : World) (q : Nat) (p : PT) (T : TypeId) : Prop := w.heap[q]? = some (.cells (ptRow p).toArray T (0, 0))
section
variable {w w' : World} {q : Nat} {m : MF} {p : PT} {v : Value} {T : TypeId}
theorem MB.lt (h : MB w q m v T) : q < w.heap.size := (Array.getElem?_eq_some_iff.1 h).1
theorem MB.low {B : Nat} (h : MB w q m v T) (hb : Below B w w') (hq : q < B) : MB w' q m v T := (hb.block _ hq).trans h
theorem MB.old (h : MB w q m v T) (hb : Below w.heap.size w w') : MB w' q m v T := h.low hb h.lt
theorem MB.cell (h : MB w q m v T) (i : Nat) : w.cell? ⟨q, i, none⟩ = (mfRow m v)[i]? := by rw [cell_of_row w q i _ _ _ h, List.getElem?_toArray]
theorem MB.fz (h : MB w q m v T) (i : Nat) : w.frozen? ⟨q, i, none⟩ = false := frozen_of_row w q i _ _ h
theorem MB.x (h : MB w q m v T) (hd : Dg m.prev) : w.cell? ⟨q, 0, none⟩ = some (.int .i64 m.num) ∧ w.cell? ⟨q, 1, none⟩ = some (.int .i64 m.fro) ∧ w.cell? ⟨q, 2, none⟩ = some (.int .i64 m.upto) ∧ w.cell? ⟨q, 3, none⟩ = some (.int .i64 m.trim) ∧ w.cell? ⟨q, 36, none⟩ = some v :=
  ⟨by rw [h.cell]; rfl, by rw [h.cell]; rfl, by rw [h.cell]; rfl, by rw [h.cell]; rfl, by rw [h.cell]; exact mfRow_last v hd⟩
theorem MB.prev (h : MB w q m v T) : ∀ j u, (vals .u8 m.prev)[j]? = some u → w.cell? ⟨q, 4 + j, none⟩ = some u := fun j u hu => by rw [h.cell]; exact mfRow_prev v j u hu
theorem mb_new (w : World) (m : MF) (v : Value) (T : TypeId) : MB (w.alloc (.cells (mfRow m v).toArray T)) w.heap.size m v T := heap_alloc_new _ _
theorem PB.lt (h : PB w q p T) : q < w.heap.size := (Array.getElem?_eq_some_iff.1 h).1
theorem PB.low {B : Nat} (h : PB w q p T) (hb : Below B w w') (hq : q < B) : PB w' q p T := (hb.block _ hq).trans h
theorem PB.old (h : PB w q p T) (hb : Below w.heap.size w w') : PB w' q p T := h.low hb h.lt
theorem PB.cell (h : PB w q p T) (i : Nat) : w.cell? ⟨q, i, none⟩ = (ptRow p)[i]? := by rw [cell_of_row w q i _ _ _ h, List.getElem?_toArray]
theorem PB.fz (h : PB w q p T) (i : Nat) : w.frozen? ⟨q, i, none⟩ = false := frozen_of_row w q i _ _ h
theorem PB.x (h : PB w q p T) : w.cell? ⟨q, 0, none⟩ = some (.int .i64 p.1) ∧ w.cell? ⟨q, 1, none⟩ = some (.int .i64 p.2.1) ∧ w.cell? ⟨q, 2, none⟩ = some (.int .i64 p.2.2.1) :=
  ⟨by rw [h.cell]; rfl, by rw [h.cell]; rfl, by rw [h.cell]; rfl⟩
theorem PB.sum (h : PB w q p T) : ∀ j u, (vals .u8 p.2.2.2)[j]? = some u → w.cell? ⟨q, 3 + j, none⟩ = some u := fun j u hu => by rw [h.cell]; exact ptRow_sum j u hu
theorem pb_new (w : World) (p : PT) (T : TypeId) : PB (w.alloc (.cells (ptRow p).toArray T)) w.heap.size p T := heap_alloc_new _ _
end

/-- A slice of parts that reads as these; it lies in a block of which B holds. -/
def PsAt (w : World) (B : Nat → Prop) (v : Value) (ps : List PT) : Prop := RecAt w B 35 v (ps.map ptRow) ∧ ∀ p ∈ ps, Dg p.2.2.2
section
variable {w w' : World} {B C : Nat → Prop} {v : Value} {ps : List PT}
theorem PsAt.val (h : PsAt w B v ps) : ∃ ao cap, v = .slice ao ps.length cap ∧ ps.length ≤ cap ∧ cap ≤ maxLen ∧ (ao = none → cap = 0) := by
  have := h.1.val
  rwa [List.length_map] at this
theorem PsAt.keep (h : PsAt w B v ps) (hk : Kept B w w') : PsAt w' B v ps := ⟨h.1.keep hk, h.2⟩
theorem PsAt.old (h : PsAt w B v ps) (hb : Below w.heap.size w w') : PsAt w' B v ps := h.keep ⟨hb.size, fun j hj _ => hb.block j hj⟩
theorem PsAt.mono (h : PsAt w B v ps) (hc : ∀ j, j < w.heap.size → B j → C j) : PsAt w C v ps := ⟨h.1.mono hc, h.2⟩
theorem ps_nil (w : World) (B : Nat → Prop) : PsAt w B (.slice none 0 0) [] := ⟨recAt_nil _ _ _, by simp⟩
theorem PsAt.at {ao : Option Addr} {n cap : Nat} (h : PsAt w B (.slice ao n cap) ps) {i : Nat} (hi : i < ps.length) :
    ∃ b off, ao = some ⟨b, off, none⟩ ∧ b < w.heap.size ∧ B b ∧ Dg (ps.getD i (0, 0, 0, [])).2.2.2 ∧ ∀ j u, (ptRow (ps.getD i (0, 0, 0, [])))[j]? = some u → w.cell? ⟨b, off + i * 35 + j, none⟩ = some u := by
  have hg : ps.getD i (0, 0, 0, []) = ps[i] := by rw [List.getD_eq_getElem?_getD, List.getElem?_eq_getElem hi]; rfl
  obtain ⟨b, off, h1, h2, h3, h4⟩ := h.1.at (i := i) (r := ptRow ps[i]) (by rw [List.getElem?_map, List.getElem?_eq_getElem hi]; rfl)
  rw [hg]
  exact ⟨b, off, h1, h2, h3, h.2 _ (List.getElem_mem hi), h4⟩
end
theorem getD_memP {ps : List PT} {i : Nat} (hi : i < ps.length) : ps.getD i (0, 0, 0, []) ∈ ps := by
  rw [List.getD_eq_getElem?_getD, List.getElem?_eq_getElem hi]; exact List.getElem_mem hi

/-- The box of one laid as noughts and written whole. -/
theorem pb_put (W : World) (z : Array Value) (p : PT) (T : TypeId) : PB ((W.alloc (.cells z T)).setRow W.heap.size (ptRow p).toArray) W.heap.size p T ∧ Below W.heap.size W ((W.alloc (.cells z T)).setRow W.heap.size (ptRow p).toArray) :=
  ⟨setRow_heap _ _ _ _ _ _ (heap_alloc_new _ _), ((Below.refl _ _).alloc (Nat.le_refl _) _).trans ⟨rfl, rfl, rfl, by simp [World.setRow], fun k hk => setRow_other _ _ k _ (by omega)⟩⟩

/-- A store into a part of a block, the world behind it a letter. -/
theorem wpList_store_part {P : Program} {ops : Array Oper} {rest : List Oper} {o : Oper} {a : Act} {w : World} {Q : Exit → Act → World → Prop} (hgd : o.guard = none) (ty : TypeId) (x y : Operand) (ho : o.op = .store ty x y)
    (g off : Nat) (sub new : Array Value) (hx : a.eval x = .pointer (some ⟨g, off, none⟩)) (hy : a.eval y = .agg sub)
    (t : TypeId) (old : Array Value) (hg : w.heap[g]? = some (.cells old t (0, 0))) (hi : (P.info? ty).map (·.size) = some sub.size)
    (hold : off + sub.size ≤ old.size) (h1 : sub.all (·.oneCell') = true) (hn : (old.toList.take off ++ sub.toList ++ old.toList.drop (off + sub.size)).toArray = new)
    (h : ∀ W2 : World, W2.heap[g]? = some (.cells new t (0, 0)) → w.grownBy W2 (some g) → W2.heap.size = w.heap.size → wpList P ops Q rest (a.put o.dst undef) W2) : wpList P ops Q (o :: rest) a w := by
  refine wpList_store_at hgd ty x y ho g off sub hx hy t old hg hi hold h1 ?_
  rw [hn]
  exact h _ (setRow_heap _ _ _ _ _ _ hg) ⟨rfl, rfl, rfl, by simp [World.setRow], fun j _ hne => setRow_other _ _ j _ (fun e => hne (by rw [e]))⟩ (by simp [World.setRow])

theorem ptRow_set1 (f m s n : Int) (l : List Nat) : (ptRow (f, m, s, l)).toArray.setIfInBounds 1 (.int .i64 n) = (ptRow (f, n, s, l)).toArray := by simp [ptRow]
theorem ptRow_set2 (f m s n : Int) (l : List Nat) : (ptRow (f, m, s, l)).toArray.setIfInBounds 2 (.int .i64 n) = (ptRow (f, m, n, l)).toArray := by simp [ptRow]
theorem PB.set1 {w : World} {q : Nat} {f m s : Int} {l : List Nat} {T : TypeId} (h : PB w q (f, m, s, l) T) (n : Int) : PB (w.setCell ⟨q, 1, none⟩ (.int .i64 n)) q (f, n, s, l) T := by
  unfold PB at h ⊢
  rw [heap_setCell_same _ _ 1 _ _ _ h, ptRow_set1]
theorem PB.set2 {w : World} {q : Nat} {f m s : Int} {l : List Nat} {T : TypeId} (h : PB w q (f, m, s, l) T) (n : Int) : PB (w.setCell ⟨q, 2, none⟩ (.int .i64 n)) q (f, m, n, l) T := by
  unfold PB at h ⊢
  rw [heap_setCell_same _ _ 2 _ _ _ h, ptRow_set2]
theorem ptRow_store (f m s : Int) {l D : List Nat} (hl : l.length = 32) (hD : D.length = 32) : ((ptRow (f, m, s, l)).toArray.toList.take 3 ++ (vals .u8 D).toArray.toList ++ (ptRow (f, m, s, l)).toArray.toList.drop (3 + (vals .u8 D).toArray.size)).toArray = (ptRow (f, m, s, D)).toArray := by
  have h1 : (vals .u8 D).toArray.size = 32 := by rw [List.size_toArray, vals_length, hD]
  have h2 : (ptRow (f, m, s, l)).drop 35 = [] := List.drop_eq_nil_of_le (by unfold ptRow; rw [List.length_append, vals_length]; simp only; rw [hl]; simp)
  rw [h1]
  show ((ptRow (f, m, s, l)).take 3 ++ vals .u8 D ++ (ptRow (f, m, s, l)).drop 35).toArray = _
  rw [h2, List.append_nil]
  rfl
theorem mfRow_set0 (m : MF) (v : Value) (n : Int) : (mfRow m v).toArray.setIfInBounds 0 (.int .i64 n) = (mfRow { m with num := n } v).toArray := by simp [mfRow]
theorem mfRow_set1 (m : MF) (v : Value) (n : Int) : (mfRow m v).toArray.setIfInBounds 1 (.int .i64 n) = (mfRow { m with fro := n } v).toArray := by simp [mfRow]
theorem mfRow_set2 (m : MF) (v : Value) (n : Int) : (mfRow m v).toArray.setIfInBounds 2 (.int .i64 n) = (mfRow { m with upto := n } v).toArray := by simp [mfRow]
theorem mfRow_set3 (m : MF) (v : Value) (n : Int) : (mfRow m v).toArray.setIfInBounds 3 (.int .i64 n) = (mfRow { m with trim := n } v).toArray := by simp [mfRow]
theorem mfRow_set36 {m : MF} (v u : Value) (h : m.prev.length = 32) : (mfRow m v).toArray.setIfInBounds 36 u = (mfRow m u).toArray := by
  have e : (mfRow m v).set 36 u = mfRow m u := by
    unfold mfRow
    show _ :: _ :: _ :: _ :: ((vals .u8 m.prev ++ [v]).set 32 u) = _
    rw [List.set_append_right 32 u (by rw [vals_length, h]; exact Nat.le_refl _), vals_length, h]
    rfl
  rw [← e]; simp
theorem mfRow_store {m : MF} {v : Value} {D : List Nat} (hl : m.prev.length = 32) (hD : D.length = 32) : ((mfRow m v).toArray.toList.take 4 ++ (vals .u8 D).toArray.toList ++ (mfRow m v).toArray.toList.drop (4 + (vals .u8 D).toArray.size)).toArray = (mfRow { m with prev := D } v).toArray := by
  have h1 : (vals .u8 D).toArray.size = 32 := by rw [List.size_toArray, vals_length, hD]
  have h2 : (mfRow m v).drop 36 = [v] := by
    unfold mfRow
    rw [List.drop_append, List.drop_append]
    simp [hl, vals]
  rw [h1]
  show ((mfRow m v).take 4 ++ vals .u8 D ++ (mfRow m v).drop 36).toArray = _
  rw [h2]
  unfold mfRow
  simp
theorem MB.set0 {w : World} {q : Nat} {m : MF} {v : Value} {T : TypeId} (h : MB w q m v T) (n : Int) : MB (w.setCell ⟨q, 0, none⟩ (.int .i64 n)) q { m with num := n } v T := by
  unfold MB at h ⊢
  rw [heap_setCell_same _ _ 0 _ _ _ h, mfRow_set0]
theorem MB.set1 {w : World} {q : Nat} {m : MF} {v : Value} {T : TypeId} (h : MB w q m v T) (n : Int) : MB (w.setCell ⟨q, 1, none⟩ (.int .i64 n)) q { m with fro := n } v T := by
  unfold MB at h ⊢
  rw [heap_setCell_same _ _ 1 _ _ _ h, mfRow_set1]
theorem MB.set2 {w : World} {q : Nat} {m : MF} {v : Value} {T : TypeId} (h : MB w q m v T) (n : Int) : MB (w.setCell ⟨q, 2, none⟩ (.int .i64 n)) q { m with upto := n } v T := by
  unfold MB at h ⊢
  rw [heap_setCell_same _ _ 2 _ _ _ h, mfRow_set2]
theorem MB.set3 {w : World} {q : Nat} {m : MF} {v : Value} {T : TypeId} (h : MB w q m v T) (n : Int) : MB (w.setCell ⟨q, 3, none⟩ (.int .i64 n)) q { m with trim := n } v T := by
  unfold MB at h ⊢
  rw [heap_setCell_same _ _ 3 _ _ _ h, mfRow_set3]
theorem MB.set36 {w : World} {q : Nat} {m : MF} {v : Value} {T : TypeId} (h : MB w q m v T) (hd : m.prev.length = 32) (u : Value) : MB (w.setCell ⟨q, 36, none⟩ u) q m u T := by
  unfold MB at h ⊢
  rw [heap_setCell_same _ _ 36 _ _ _ h, mfRow_set36 _ _ hd]

end Go.Proofs.Ytpebmmhokigglaa
