/- The program's digest of a state. -/
import Derived.Test.YtjhipfgmiilmdaaDoorShaS
import Derived.Test.YtjhipfgmiilmdaaDoorShaH
import Derived.ChangeKeysEq
namespace Go.Proofs.YtjhipfgmiilmdaaDoor
open Go.RowKit

/-- An array's element by its number. -/
theorem run_index_row {P : Program} {t e : TypeId} {n : Nat} {k : IntKind} {l : List Nat} (h : P.underlying t = some (.array n e)) (hp : P.plainKey e = true) (hs : ∀ w, (sizeOf e).run P w = .ok 1 w) (hn : l.length = n) (i : Nat) (hi : i < n) (w : World) :
    (Instr.index t (.agg (vals k l).toArray) (.int .i64 (i : Int))).run P w = .ok (.int k ((l.getD i 0 : Nat) : Int)) w := by
  have hb : (0 : Int) ≤ (i : Int) ∧ (i : Int) < (n : Int) := ⟨by omega, by omega⟩
  have hx : (vals k l).toArray[i]? = some (.int k ((l.getD i 0 : Nat) : Int)) := by
    rw [List.getElem?_toArray]; exact vals_get k l i (by omega)
  simp [Instr.index, asIntOf, run_underlying h, hb, hs, Result.andThen, run_part_plain w hp hx]
  intro hc
  omega

/-- A store of one number into a cell. -/
theorem wpList_store_int {P : Program} {ops : Array Oper} {rest : List Oper} {o : Oper} {a : Act} {w : World} {Q : Exit → Act → World → Prop} (hgd : o.guard = none) (ty : TypeId) (x y : Operand) (ho : o.op = .store ty x y)
    (hi : ∀ w, (sizeOf ty).run P w = .ok 1 w) (b off : Nat) (k : IntKind) (n : Int) (hx : a.eval x = .pointer (some ⟨b, off, none⟩)) (hy : a.eval y = .int k n) (hc : ∃ v, w.cell? ⟨b, off, none⟩ = some v) (hf : w.frozen? ⟨b, off, none⟩ = false)
    (h : wpList P ops Q rest (a.put o.dst undef) (w.setCell ⟨b, off, none⟩ (.int k n))) : wpList P ops Q (o :: rest) a w := by
  refine wpList_plain hgd fun K hK => ?_
  obtain ⟨v, hc⟩ := hc
  unfold Oper.wp execOp
  have hst : (storeVar ty ⟨b, off, none⟩ (.int k n)).run P w = .ok () (w.setCell ⟨b, off, none⟩ (.int k n)) := by
    simp [storeVar, hi, Value.cells, storeCells, run_store P w _ (.int k n) .plain rfl, hc, hf, Addr.add]
  simp only [ho, hx, hy, Instr.storeAt, Instr.sureAddr, Sem.run_bind, Sem.run_pure, Result.andThen_ok, hst]
  exact hK _ _ h

def zeros32d : Array Value := Array.replicate 32 (.int .u8 0)
/-- The blocks of a call of digest: the state, the answer, the bytes. -/
structure Dd (w wr : World) (S : List Nat) (i : Nat) : Prop where
  below : Below w.heap.size w wr
  size : w.heap.size + 3 ≤ wr.heap.size
  st : wr.heap[w.heap.size]? = some (.cells (vals .u32 S).toArray 59 (0, 0))
  res : wr.heap[w.heap.size + 1]? = some (.cells zeros32d 29 (0, 0))
  row : wr.heap[w.heap.size + 1 + 1]? = some (.cells (dig S i) 29 (0, 0))
theorem Dd.new (w : World) (S : List Nat) : Dd w (((w.alloc (.cells (vals .u32 S).toArray 59)).alloc (.cells zeros32d 29)).alloc (.cells zeros32d 29)) S 0 := by
  have h1 := heap_alloc_new w (.cells (vals .u32 S).toArray 59)
  generalize hw1 : w.alloc (.cells (vals .u32 S).toArray 59) = w1 at h1 ⊢
  have s1 : w1.heap.size = w.heap.size + 1 := by rw [← hw1]; simp
  have b1 : Below w.heap.size w w1 := by rw [← hw1]; exact (Below.refl _ _).alloc (Nat.le_refl _) _
  have h2 := heap_alloc_new w1 (.cells zeros32d 29)
  generalize hw2 : w1.alloc (.cells zeros32d 29) = w2 at h2 ⊢
  have s2 : w2.heap.size = w.heap.size + 1 + 1 := by rw [← hw2]; simp [s1]
  have k1 : w2.heap[w.heap.size]? = some (.cells (vals .u32 S).toArray 59 (0, 0)) := by rw [← hw2, Below.heap_alloc _ _ _ (by omega)]; exact h1
  have b2 : Below w.heap.size w w2 := by rw [← hw2]; exact b1.alloc (by omega) _
  have h3 := heap_alloc_new w2 (.cells zeros32d 29)
  rw [s1] at h2
  rw [s2] at h3
  refine ⟨b2.alloc (by omega) _, by simp; omega, ?_, ?_, ?_⟩
  · rw [Below.heap_alloc _ _ _ (by omega)]; exact k1
  · rw [Below.heap_alloc _ _ _ (by omega)]; exact h2
  · rw [dig_zero]; exact h3
theorem Dd.cell {w wr : World} {S : List Nat} {i : Nat} (h : Dd w wr S i) (j : Nat) (hj : j < 32) : ∃ v, wr.cell? ⟨w.heap.size + 1 + 1, j, none⟩ = some v := by
  have := dig_get S i j hj
  exact ⟨_, by simpa [World.cell?, h.row] using this⟩
theorem Dd.free {w wr : World} {S : List Nat} {i : Nat} (h : Dd w wr S i) (j : Nat) : wr.frozen? ⟨w.heap.size + 1 + 1, j, none⟩ = false := by simp [World.frozen?, h.row]
theorem Dd.set {w wr : World} {S : List Nat} {i : Nat} (h : Dd w wr S i) (hi : i < 32) {x : Int} (hx : x = ((byteOf S i : Nat) : Int)) : Dd w (wr.setCell ⟨w.heap.size + 1 + 1, i, none⟩ (.int .u8 x)) S (i + 1) := by
  subst hx
  refine ⟨h.below.setCell (by show w.heap.size ≤ w.heap.size + 1 + 1; omega) _, by have := h.size; simpa [World.setCell] using this, ?_, ?_, ?_⟩
  · rw [Below.heap_setCell _ _ _ _ (by show w.heap.size ≠ w.heap.size + 1 + 1; omega)]; exact h.st
  · rw [Below.heap_setCell _ _ _ _ (by show w.heap.size + 1 ≠ w.heap.size + 1 + 1; omega)]; exact h.res
  · rw [heap_setCell_row _ _ _ _ _ _ h.row, dig_set _ _ hi]

theorem Dd.setAt {w wr : World} {S : List Nat} {i j : Nat} (h : Dd w wr S i) (hj : j = i) (hi : j < 32) {x : Int} (hx : x = ((byteOf S j : Nat) : Int)) : Dd w (wr.setCell ⟨w.heap.size + 1 + 1, j, none⟩ (.int .u8 x)) S (j + 1) := by
  subst hj
  exact h.set hi hx

theorem byteOf_at (S : List Nat) (k j : Nat) (h : j < 4) : byteOf S (k * 4 + j) = S.getD k 0 / 2 ^ (24 - 8 * j) % 256 := by
  unfold byteOf
  rw [show (k * 4 + j) / 4 = k from by omega, show (k * 4 + j) % 4 = j from by omega]

set_option maxHeartbeats 4000000 in
set_option maxRecDepth 1000000 in
theorem pdigest_any (S : List Nat) (w : World) (hS : ∀ y ∈ S, y < 4294967296) (hSl : S.length = 8) :
    Calls Tryd.prog 30 #[.agg (vals .u32 S).toArray] w fun e w' => e = .returned (.agg (vals .u8 (bytesOf S)).toArray) ∧ Below w.heap.size w w' := by
  have hAs0 : (Tryd.prog.info? 59).map (·.size) = some (vals .u32 S).toArray.size := by rw [List.size_toArray, vals_length, hSl]; kernel_rfl
  have hsz4 : ∀ w, (sizeOf 37).run Tryd.prog w = .ok 1 w := fun w => by kernel_rfl
  go_enter Tryd.func30, Tryd.ntmps30
  have hz := Dd.new w S
  have hst := hz.st
  unfold zeros32d at hst
  have HST := Lib.hid hst
  clear hst
  go_wp2_with ((with_reducible show wpList _ _ _ (Oper.mk (some 7) _ _ _ _ _ :: _) _ _); refine wpList_load_row rfl 59 (.tmp 1) rfl w.heap.size rfl _ (vals .u32 S).toArray _ _ HST.out Tryd.underlying59 rfl hAs0 ?_)
  go_loopw [8] (fun iv wr => ∃ i : Nat, i ≤ 8 ∧ iv = .int .i64 (i : Int) ∧ Dd w wr S (i * 4)) (fun iv _ => 8 - (intOf iv).toNat)
  case atStart => exact ⟨0, Nat.zero_le _, rfl, hz⟩
  case round =>
    clear hz
    obtain ⟨i, hi, rfl, hd⟩ := hrel
    have HD := Lib.hid hd
    by_cases hlt : i < 8
    · have hlti : (i : Int) < 8 := by omega
      have hix := run_index_row (P := Tryd.prog) (k := .u32) (l := S) Tryd.underlying59 (by kernel_rfl) hsz4 hSl i hlt
      have hx := getD_bd hS i
      have e0 := byteOf_at S i 0 (by decide)
      have e1 := byteOf_at S i 1 (by decide)
      have e2 := byteOf_at S i 2 (by decide)
      have e3 := byteOf_at S i 3 (by decide)
      generalize S.getD i 0 = x at hix hx e0 e1 e2 e3
      have E0 : Hid ((x : Int) / 16777216 = ((byteOf S (i * 4) : Nat) : Int)) := Lib.hid (by rw [Nat.add_zero] at e0; rw [e0]; show _ = (((x / 16777216 % 256 : Nat)) : Int); omega)
      have E1 : Hid ((x : Int) / 65536 % 256 = ((byteOf S (i * 4 + 1) : Nat) : Int)) := Lib.hid (by rw [e1]; show _ = (((x / 65536 % 256 : Nat)) : Int); omega)
      have E2 : Hid ((x : Int) / 256 % 256 = ((byteOf S (i * 4 + 2) : Nat) : Int)) := Lib.hid (by rw [e2]; show _ = (((x / 256 % 256 : Nat)) : Int); omega)
      have E3 : Hid ((x : Int) % 256 = ((byteOf S (i * 4 + 3) : Nat) : Int)) := Lib.hid (by rw [e3]; show _ = (((x / 1 % 256 : Nat)) : Int); omega)
      have hsz1 : ∀ w, (sizeOf 5).run Tryd.prog w = .ok 1 w := fun w => by kernel_rfl
      have HD0 := HD
      clear hd e0 e1 e2 e3 HD
      go_wp2_with (first
        | ((with_reducible show wpList _ _ _ (Oper.mk none (Op.store _ (Operand.tmp 32) _) _ _ _ _ :: _) _ _); refine wpList_store_int rfl 5 (.tmp 32) (.tmp 23) rfl hsz1 (w.heap.size + 1 + 1) (i * 4) .u8 _ rfl rfl (HD0.out.cell (i * 4) (by omega)) (HD0.out.free (i * 4)) ?_; have HD1 := Lib.hid (HD0.out.setAt (by omega) (by omega) E0.out); generalize wr.setCell _ _ = wr1 at HD1 ⊢)
        | ((with_reducible show wpList _ _ _ (Oper.mk none (Op.store _ (Operand.tmp 33) _) _ _ _ _ :: _) _ _); refine wpList_store_int rfl 5 (.tmp 33) (.tmp 26) rfl hsz1 (w.heap.size + 1 + 1) (i * 4 + 1) .u8 _ rfl rfl (HD1.out.cell (i * 4 + 1) (by omega)) (HD1.out.free (i * 4 + 1)) ?_; have HD2 := Lib.hid (HD1.out.setAt (by omega) (by omega) E1.out); generalize wr1.setCell _ _ = wr2 at HD2 ⊢)
        | ((with_reducible show wpList _ _ _ (Oper.mk none (Op.store _ (Operand.tmp 34) _) _ _ _ _ :: _) _ _); refine wpList_store_int rfl 5 (.tmp 34) (.tmp 29) rfl hsz1 (w.heap.size + 1 + 1) (i * 4 + 2) .u8 _ rfl rfl (HD2.out.cell (i * 4 + 2) (by omega)) (HD2.out.free (i * 4 + 2)) ?_; have HD3 := Lib.hid (HD2.out.setAt (by omega) (by omega) E2.out); generalize wr2.setCell _ _ = wr3 at HD3 ⊢)
        | ((with_reducible show wpList _ _ _ (Oper.mk none (Op.store _ (Operand.tmp 35) _) _ _ _ _ :: _) _ _); refine wpList_store_int rfl 5 (.tmp 35) (.tmp 31) rfl hsz1 (w.heap.size + 1 + 1) (i * 4 + 3) .u8 _ rfl rfl (HD3.out.cell (i * 4 + 3) (by omega)) (HD3.out.free (i * 4 + 3)) ?_; have HD4 := Lib.hid (HD3.out.setAt (by omega) (by omega) E3.out); generalize wr3.setCell _ _ = wr4 at HD4 ⊢))
      go_roundw
      case rel => exact ⟨i + 1, by omega, by go_num, by rw [show (i + 1) * 4 = i * 4 + 3 + 1 from by omega]; exact HD4.out⟩
      case measure => simp [intOf]; omega
    · obtain rfl : i = 8 := by omega
      have hrow : wr.heap[w.heap.size + 1 + 1]? = some (.cells (vals .u8 (bytesOf S)).toArray 29 (0, 0)) := by rw [← dig_all]; exact hd.row
      have hres := hd.res
      have hA : (vals .u8 (bytesOf S)).toArray.size = 32 := by rw [List.size_toArray, vals_length]; simp [bytesOf]
      have hAs : (Tryd.prog.info? 29).map (·.size) = some (vals .u8 (bytesOf S)).toArray.size := by rw [hA]; kernel_rfl
      have hA1 := row_one .u8 (bytesOf S)
      have hAz : zeros32d.size = (vals .u8 (bytesOf S)).toArray.size := by rw [hA]; exact Array.size_replicate
      have HB := Lib.hid hd.below
      generalize hAe : (vals .u8 (bytesOf S)).toArray = A at hrow hAs hA1 hAz
      have HAE := Lib.hid hAe
      have HR := Lib.hid hrow
      have HS := Lib.hid hres
      clear hd HD hrow hres hA hAe
      go_wp2_with (first
        | ((with_reducible show wpList _ _ _ (Oper.mk (some 37) _ _ _ _ _ :: _) _ _); refine wpList_load_row rfl 29 (.tmp 3) rfl (w.heap.size + 1 + 1) rfl _ A _ _ HR.out Tryd.underlying29 rfl hAs ?_)
        | ((with_reducible show wpList _ _ _ (Oper.mk none _ _ _ _ _ :: _) _ _); refine wpList_store_row rfl 29 (.tmp 2) (.tmp 37) rfl (w.heap.size + 1) A rfl rfl _ _ HS.out hAs hAz hA1 ?_))
      refine bodyPost_ret (v := .agg A) (results_cell_row (p := 2) rfl _ _ (w.heap.size + 1) _ A _ _ rfl (setRow_heap _ _ _ _ _ _ HS.out) Tryd.underlying29 rfl hAs) rfl ?_
      exact ⟨by rw [HAE.out], HB.out.trans ⟨rfl, rfl, rfl, by simp [World.setRow], fun k hk => setRow_other _ _ k _ (by omega)⟩⟩

end Go.Proofs.YtjhipfgmiilmdaaDoor
