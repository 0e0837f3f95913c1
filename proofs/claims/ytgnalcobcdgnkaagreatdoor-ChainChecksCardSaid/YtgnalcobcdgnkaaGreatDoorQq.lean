/- The program's padding. · A text cut into blocks of 64 bytes; the mathematics alone. -/
import Derived.Test.YtgnalcobcdgnkaaGreatDoorQp
import Derived.Test.YtgnalcobcdgnkaaGreatDoorOwnS
import Derived.Test.YtgnalcobcdgnkaaGreatDoorDaP
import Derived.Laws.DeepNot64
import Derived.Test.YtgnalcobcdgnkaaGreatDoorQo
namespace Go.Proofs.YtgnalcobcdgnkaaGreatDoor
open Go.RowKit

/-- What stands behind a text of n bytes. -/
def padOf (n : Nat) : List Nat := 128 :: List.replicate (noughts (n + 1)) 0 ++ eight (8 * n)
theorem padded_pad (l : List Nat) : padded l = l ++ padOf l.length := by
  unfold padded padOf
  simp

theorem wrap_u64' (x : Int) : IntKind.u64.wrap x = x % 18446744073709551616 := rfl
theorem neg_pad0 (n : Nat) (X : Int) (h0 : 0 ≤ X) (h1 : X % 64 = (0 - ((n : Int) + 1 + 8)) % 64) : X.toNat % 64 = noughts (n + 1) := by
  unfold noughts
  omega
theorem neg_pad (n : Nat) : ∃ M : Nat, IntKind.u64.wrap (0 - ((n : Int) + 1 + 8)) = (M : Int) ∧ M % 64 = noughts (n + 1) := by
  have h0 : 0 ≤ (0 - ((n : Int) + 1 + 8)) % 18446744073709551616 := Int.emod_nonneg _ (by decide)
  have h1 : (0 - ((n : Int) + 1 + 8)) % 18446744073709551616 % 64 = (0 - ((n : Int) + 1 + 8)) % 64 := Int.emod_emod_of_dvd _ ⟨288230376151711744, by decide⟩
  rw [wrap_u64']
  generalize (0 - ((n : Int) + 1 + 8)) % 18446744073709551616 = X at h0 h1
  exact ⟨X.toNat, (Int.toNat_of_nonneg h0).symm, neg_pad0 n X h0 h1⟩

set_option maxHeartbeats 1000000 in
set_option maxRecDepth 100000 in
theorem padding_any (n : Nat) (w : World) (hn : n ≤ 1000000) :
    Calls Tryz.prog 68 #[.int .u64 (n : Int)] w fun e w' => ∃ v, e = .returned v ∧ Owns w' w.heap.size 5 .u8 v (padOf n) ∧ Below w.heap.size w w' := by
  obtain ⟨M, hM, hM64⟩ := neg_pad n
  have hneg : Op.unary .neg (.int .u64 ((n : Int) + 1 + 8)) = pure (.int .u64 (M : Int)) := by rw [← hM]; rfl
  clear hM
  have hz63 : noughts (n + 1) < 64 := Nat.mod_lt _ (by decide)
  generalize hz : noughts (n + 1) = z at hM64 hz63
  have HZ := Lib.hid hz
  have hMz : (M : Int) % 64 = (z : Int) := by omega
  clear hM64 hz
  have hmk : ∀ w, (Instr.makeSlice 61 (.int .u64 (1 + (z : Int))) (.int .u64 (1 + (z : Int) + 8))).run Tryz.prog w = .ok (.slice (some ⟨w.heap.size, 0, none⟩) (1 + z) (1 + z + 8)) (w.alloc (.cells (madeCells #[.int .u8 0] (1 + z + 8)) 5)) := fun w => by
    have h := run_make_bytes (P := Tryz.prog) (k := .u8) Tryz.underlying61 Tryz.info5 .u64 .u64 (1 + z) (1 + z + 8) (by omega) (by omega) (by omega) w
    rw [show ((1 + z : Nat) : Int) = 1 + (z : Int) from by omega, show ((1 + z + 8 : Nat) : Int) = 1 + (z : Int) + 8 from by omega] at h
    exact h
  have ho := owns_made w w.heap.size 5 .u8 (1 + z) (1 + z + 8) (by omega) (by unfold maxLen; omega) (Nat.le_refl _)
  have hb : Below w.heap.size w (w.alloc (.cells (madeCells #[.int .u8 0] (1 + z + 8)) 5)) := (Below.refl _ _).alloc (Nat.le_refl _) _
  have HO := Lib.hid ho
  have HB := Lib.hid hb
  have hsz1 : ∀ w, (sizeOf 5).run Tryz.prog w = .ok 1 w := fun w => by kernel_rfl
  clear ho hb
  go_enter Tryz.func68, Tryz.ntmps68
  go_wp2_with (first
    | ((with_reducible show wpList _ _ _ (Oper.mk none (Op.store _ (Operand.tmp 19) _) _ _ _ _ :: _) _ _); go_must (refine wpList_store_int rfl 5 (.tmp 19) (.const (.int .u8 128)) rfl hsz1 w.heap.size 0 .u8 128 rfl rfl ⟨_, HO.out.cell (by simp) (by rw [List.length_replicate]; omega)⟩ (HO.out.free (by simp) 0) ?_); have HO1 := Lib.hid (HO.out.setv (by simp) 0 128 128 rfl); have HB1 := Lib.hid (HB.out.setCell (p := ⟨w.heap.size, 0, none⟩) (Nat.le_refl _) (.int .u8 128)); generalize (w.alloc _).setCell _ _ = w1 at HO1 HB1 ⊢)
    | (at_builtin; go_must (refine wpList_app _ rfl _ _ 61 rfl w.heap.size 5 (.int .u8 0) 1 Tryz.underlying61 Tryz.info5 rfl .u8 _ ((List.replicate (1 + z) 0).set 0 128) rfl ?ho _ (eight (8 * n)) rfl ?hr (by decide) ?c1 ?c3 ?_)))
  case ho =>
    exact HO1.out.alloc _
  case hr =>
    unfold eight
    exact sreads_lit8 (by omega) (by omega) (by omega) (by omega) (by omega) (by omega) (by omega) (by omega)
  case c1 => simp [eight]; omega
  case c3 => have := HB1.out.size; simp; omega
  intro v2 w2 ho2 hg2
  have hb2 : Below w.heap.size w w2 := (HB1.out.alloc HB1.out.size _).grown hg2 (by have := HB1.out.size; simp; omega) (fun j hj => by simp [Value.ownBlock] at hj; omega)
  have hl : (List.replicate (1 + z) 0).set 0 128 ++ eight (8 * n) = padOf n := by
    unfold padOf
    rw [HZ.out, Nat.add_comm 1 z, List.replicate_succ, List.set_cons_zero]
  rw [hl] at ho2
  have HO2 := Lib.hid ho2
  have HB2 := Lib.hid hb2
  clear ho2 hb2 hl
  go_wp2
  go_ret
  exact ⟨_, rfl, HO2.out, HB2.out⟩

end Go.Proofs.YtgnalcobcdgnkaaGreatDoor

namespace Go.Proofs.YtgnalcobcdgnkaaGreatDoor

def chunk (T : List Nat) (i : Nat) : List Nat := (T.drop (64 * i)).take 64
def chunks (T : List Nat) : List (List Nat) := (List.range (T.length / 64)).map (chunk T)

theorem chunk_app (T d : List Nat) (i : Nat) (h : 64 * i + 64 ≤ T.length) : chunk (T ++ d) i = chunk T i := by
  unfold chunk
  rw [List.drop_append_of_le_length (by omega), List.take_append_of_le_length (by rw [List.length_drop]; omega)]
theorem chunks_same (T d : List Nat) (h : (T ++ d).length / 64 = T.length / 64) : chunks (T ++ d) = chunks T := by
  unfold chunks
  rw [h]
  apply List.map_congr_left
  intro i hi
  rw [List.mem_range] at hi
  exact chunk_app T d i (by omega)
theorem chunks_next (T d : List Nat) (h : (T ++ d).length = 64 * (T.length / 64 + 1)) : chunks (T ++ d) = chunks T ++ [(T ++ d).drop (64 * (T.length / 64))] := by
  have h2 : (T ++ d).length / 64 = T.length / 64 + 1 := by omega
  have hc : chunk (T ++ d) (T.length / 64) = (T ++ d).drop (64 * (T.length / 64)) := by
    unfold chunk
    exact List.take_of_length_le (by rw [List.length_drop]; omega)
  unfold chunks
  rw [h2, List.range_succ, List.map_append, List.map_cons, List.map_nil, hc]
  congr 1
  apply List.map_congr_left
  intro i hi
  rw [List.mem_range] at hi
  exact chunk_app T d i (by omega)
theorem chunk_getD (T : List Nat) (i j : Nat) (h : j < 64) : (chunk T i).getD j 0 = T.getD (64 * i + j) 0 := by
  unfold chunk
  rw [List.getD_eq_getElem?_getD, List.getD_eq_getElem?_getD, List.getElem?_take, if_pos h, List.getElem?_drop]
theorem words_chunk (T : List Nat) (i : Nat) : ∀ t, t ≤ 64 → words (chunk T i) 0 t = words T (64 * i) t
  | 0, _ => rfl
  | t + 1, h => by
    have e1 : words (chunk T i) 0 (t + 1) = words (chunk T i) 0 t ++ [wordNext (chunk T i) 0 (words (chunk T i) 0 t) t] := rfl
    have e2 : words T (64 * i) (t + 1) = words T (64 * i) t ++ [wordNext T (64 * i) (words T (64 * i) t) t] := rfl
    rw [e1, e2, words_chunk T i t (by omega)]
    have e3 : wordNext (chunk T i) 0 (words T (64 * i) t) t = wordNext T (64 * i) (words T (64 * i) t) t := by
      unfold wordNext
      by_cases h16 : t < 16
      · rw [if_pos h16, if_pos h16]
        unfold wordAt
        rw [chunk_getD T i _ (by omega), chunk_getD T i _ (by omega), chunk_getD T i _ (by omega), chunk_getD T i _ (by omega)]
        simp only [Nat.zero_add, Nat.add_assoc]
      · rw [if_neg h16, if_neg h16]
    rw [e3]

/-- The state behind blocks. -/
def behindAll (K : List Nat) : List (List Nat) → List Nat → List Nat
  | [], l => l
  | b :: bs, l => behindAll K bs (addSt l (rnds K (words b 0 64) (stOf l) 64))
theorem behindAll_snoc (K : List Nat) (b : List Nat) : ∀ (bs : List (List Nat)) (l : List Nat), behindAll K (bs ++ [b]) l = addSt (behindAll K bs l) (rnds K (words b 0 64) (stOf (behindAll K bs l)) 64)
  | [], _ => rfl
  | _ :: bs, _ => behindAll_snoc K b bs _
theorem behindAll_chunks (K T l : List Nat) : ∀ n, behindAll K ((List.range n).map (chunk T)) l = blocks K T l n
  | 0 => rfl
  | n + 1 => by
    rw [List.range_succ, List.map_append, List.map_cons, List.map_nil, behindAll_snoc, behindAll_chunks K T l n, words_chunk T n 64 (Nat.le_refl _)]
    rfl
theorem behindAll_all (K T l : List Nat) : behindAll K (chunks T) l = blocks K T l (T.length / 64) := behindAll_chunks K T l _
theorem behindAll_len (K : List Nat) : ∀ (bs : List (List Nat)) {l : List Nat}, l.length = 8 → (behindAll K bs l).length = 8
  | [], _, h => h
  | _ :: bs, _, _ => behindAll_len K bs rfl
theorem behindAll_lt (K : List Nat) : ∀ (bs : List (List Nat)) {l : List Nat}, (∀ y ∈ l, y < 4294967296) → ∀ y ∈ behindAll K bs l, y < 4294967296
  | [], _, h => h
  | _ :: bs, _, _ => behindAll_lt K bs (addSt_lt _ _)

end Go.Proofs.YtgnalcobcdgnkaaGreatDoor
