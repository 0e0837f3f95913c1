/- A text cut into blocks of 64 bytes; the mathematics alone. -/
import Derived.Test.YtjhipfgmiilmdaaDoorShaN
namespace Go.Proofs.YtjhipfgmiilmdaaDoor

def chunk (T : List Nat) (i : Nat) : List Nat := (T.drop (64 * i)).take 64
def chunks (T : List Nat) : List (List Nat) := (List.range (T.length / 64)).map (chunk T)

theorem chunk_app (T d : List Nat) (i : Nat) (h : 64 * i + 64 ≤ T.length) : chunk (T ++ d) i = chunk T i := by
  unfold chunk
  rw [List.drop_append_of_le_length (by omega), List.take_append_of_le_length (by rw [List.length_drop]; omega)]
theorem chunks_same (T d : List Nat) (h : (T ++ d).length / 64 = T.length / 64) : chunks (T ++ d) = chunks T := by
  unfold chunks
  rw [h]
  apply List.map_congr_left
  intro i hi
  rw [List.mem_range] at hi
  exact chunk_app T d i (by omega)
theorem chunks_next (T d : List Nat) (h : (T ++ d).length = 64 * (T.length / 64 + 1)) : chunks (T ++ d) = chunks T ++ [(T ++ d).drop (64 * (T.length / 64))] := by
  have h2 : (T ++ d).length / 64 = T.length / 64 + 1 := by omega
  have hc : chunk (T ++ d) (T.length / 64) = (T ++ d).drop (64 * (T.length / 64)) := by
    unfold chunk
    exact List.take_of_length_le (by rw [List.length_drop]; omega)
  unfold chunks
  rw [h2, List.range_succ, List.map_append, List.map_cons, List.map_nil, hc]
  congr 1
  apply List.map_congr_left
  intro i hi
  rw [List.mem_range] at hi
  exact chunk_app T d i (by omega)
theorem chunk_len (T : List Nat) (i : Nat) (h : i < T.length / 64) : (chunk T i).length = 64 := by
  unfold chunk
  rw [List.length_take, List.length_drop]
  omega

theorem chunk_getD (T : List Nat) (i j : Nat) (h : j < 64) : (chunk T i).getD j 0 = T.getD (64 * i + j) 0 := by
  unfold chunk
  rw [List.getD_eq_getElem?_getD, List.getD_eq_getElem?_getD, List.getElem?_take, if_pos h, List.getElem?_drop]
theorem words_chunk (T : List Nat) (i : Nat) : ∀ t, t ≤ 64 → words (chunk T i) 0 t = words T (64 * i) t
  | 0, _ => rfl
  | t + 1, h => by
    have e1 : words (chunk T i) 0 (t + 1) = words (chunk T i) 0 t ++ [wordNext (chunk T i) 0 (words (chunk T i) 0 t) t] := rfl
    have e2 : words T (64 * i) (t + 1) = words T (64 * i) t ++ [wordNext T (64 * i) (words T (64 * i) t) t] := rfl
    rw [e1, e2, words_chunk T i t (by omega)]
    have e3 : wordNext (chunk T i) 0 (words T (64 * i) t) t = wordNext T (64 * i) (words T (64 * i) t) t := by
      unfold wordNext
      by_cases h16 : t < 16
      · rw [if_pos h16, if_pos h16]
        unfold wordAt
        rw [chunk_getD T i _ (by omega), chunk_getD T i _ (by omega), chunk_getD T i _ (by omega), chunk_getD T i _ (by omega)]
        simp only [Nat.zero_add, Nat.add_assoc]
      · rw [if_neg h16, if_neg h16]
    rw [e3]

/-- The state behind blocks. -/
def behindAll (K : List Nat) : List (List Nat) → List Nat → List Nat
  | [], l => l
  | b :: bs, l => behindAll K bs (addSt l (rnds K (words b 0 64) (stOf l) 64))
theorem behindAll_snoc (K : List Nat) (b : List Nat) : ∀ (bs : List (List Nat)) (l : List Nat), behindAll K (bs ++ [b]) l = addSt (behindAll K bs l) (rnds K (words b 0 64) (stOf (behindAll K bs l)) 64)
  | [], _ => rfl
  | _ :: bs, _ => behindAll_snoc K b bs _
theorem behindAll_chunks (K T l : List Nat) : ∀ n, behindAll K ((List.range n).map (chunk T)) l = blocks K T l n
  | 0 => rfl
  | n + 1 => by
    rw [List.range_succ, List.map_append, List.map_cons, List.map_nil, behindAll_snoc, behindAll_chunks K T l n, words_chunk T n 64 (Nat.le_refl _)]
    rfl
theorem behindAll_all (K T l : List Nat) : behindAll K (chunks T) l = blocks K T l (T.length / 64) := behindAll_chunks K T l _
theorem behindAll_len (K : List Nat) : ∀ (bs : List (List Nat)) {l : List Nat}, l.length = 8 → (behindAll K bs l).length = 8
  | [], _, h => h
  | _ :: bs, _, _ => behindAll_len K bs rfl
theorem behindAll_lt (K : List Nat) : ∀ (bs : List (List Nat)) {l : List Nat}, (∀ y ∈ l, y < 4294967296) → ∀ y ∈ behindAll K bs l, y < 4294967296
  | [], _, h => h
  | _ :: bs, _, _ => behindAll_lt K bs (addSt_lt _ _)

end Go.Proofs.YtjhipfgmiilmdaaDoor
