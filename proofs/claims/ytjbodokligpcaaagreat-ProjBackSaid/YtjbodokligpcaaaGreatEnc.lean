/- A number's bytes, as the document says them: groups of seven bits, the lowest first. Plain numbers and lists; nothing of the program. -/
import Derived.WalkKit
namespace Go.Proofs.YtjbodokligpcaaaGreat

/-- A number of 64 bits (kept behind a name). -/
def U64 (n : Nat) : Prop := n < 18446744073709551616

/-- A number's bytes. -/
def enc (n : Nat) : List Nat := if n < 128 then [n] else (n % 128 + 128) :: enc (n / 128)
termination_by n
decreasing_by omega

theorem enc_small {n : Nat} (h : n < 128) : enc n = [n] := by rw [enc, if_pos h]
theorem enc_big {n : Nat} (h : 128 ≤ n) : enc n = (n % 128 + 128) :: enc (n / 128) := by rw [enc, if_neg (by omega)]

theorem enc_pos (n : Nat) : 0 < (enc n).length := by
  rcases Nat.lt_or_ge n 128 with h | h
  · rw [enc_small h]; simp
  · rw [enc_big h]; simp

theorem enc_len (k : Nat) : ∀ n, n < 128 ^ (k + 1) → (enc n).length ≤ k + 1 := by
  induction k with
  | zero => intro n h; rw [enc_small (by simpa using h)]; simp
  | succ k ih =>
    intro n h
    rcases Nat.lt_or_ge n 128 with h1 | h1
    · rw [enc_small h1]; simp
    · rw [enc_big h1]
      have := ih (n / 128) (by rw [Nat.pow_succ] at h; exact Nat.div_lt_of_lt_mul (by rw [Nat.mul_comm]; exact h))
      simpa using this

theorem enc_len10 {n : Nat} (h : U64 n) : (enc n).length ≤ 10 := enc_len 9 n (Nat.lt_of_lt_of_le h (by decide))

theorem enc_byte (k : Nat) : ∀ n, n < 128 ^ k → ∀ x ∈ enc n, x < 256 := by
  induction k with
  | zero => intro n h x hx; rw [enc_small (by simp at h; omega)] at hx; simp at hx h; omega
  | succ k ih =>
    intro n h x hx
    rcases Nat.lt_or_ge n 128 with h1 | h1
    · rw [enc_small h1] at hx; simp at hx; omega
    · rw [enc_big h1] at hx
      rcases List.mem_cons.1 hx with rfl | hx
      · omega
      · exact ih (n / 128) (by rw [Nat.pow_succ] at h; exact Nat.div_lt_of_lt_mul (by rw [Nat.mul_comm]; exact h)) x hx

theorem enc_u64 {n : Nat} (h : U64 n) : ∀ x ∈ enc n, x < 256 := enc_byte 10 n (Nat.lt_of_lt_of_le h (by decide))

theorem U64.div {n : Nat} (h : U64 n) (k : Nat) : U64 (n / k) := Nat.lt_of_le_of_lt (Nat.div_le_self _ _) h

/-- Numbers' bytes, one behind the other. -/
def encs (l : List Nat) : List Nat := l.flatMap enc
theorem encs_nil : encs [] = [] := rfl
theorem encs_snoc (l : List Nat) (n : Nat) : encs (l ++ [n]) = encs l ++ enc n := by simp [encs]
theorem encs_len {l : List Nat} (h : ∀ n ∈ l, U64 n) : (encs l).length ≤ 10 * l.length := by
  induction l with
  | nil => simp [encs]
  | cons a l ih =>
    have h1 := enc_len10 (h a (by simp))
    have h2 := ih fun n hn => h n (by simp [hn])
    have e : encs (a :: l) = enc a ++ encs l := rfl
    rw [e, List.length_append, List.length_cons]
    omega
theorem take_snoc (l : List Nat) (k : Nat) (h : k < l.length) : l.take (k + 1) = l.take k ++ [l.getD k 0] := by
  rw [List.take_add_one, List.getElem?_eq_getElem h]; simp [List.getD, List.getElem?_eq_getElem h]
theorem getD_mem (l : List Nat) (k : Nat) (h : k < l.length) : l.getD k 0 ∈ l := by
  simp [List.getD, List.getElem?_eq_getElem h]

theorem or128_dec : ∀ r : Fin 256, bits BinOp.or IntKind.u8 ((r.val : Nat) : Int) 128 = ((r.val % 128 + 128 : Nat) : Int) := by decide +kernel
/-- byte(m) | 128. -/
theorem or128 (m : Nat) : bits BinOp.or IntKind.u8 ((m : Int) % 256) 128 = ((m % 128 + 128 : Nat) : Int) := by
  have h := or128_dec ⟨m % 256, Nat.mod_lt _ (by decide)⟩
  have e : ((m % 256 : Nat) : Int) = (m : Int) % 256 := by omega
  simp only [e] at h
  rw [h]
  congr 1
  omega


/-! ### Which bytes are a number's -/

/-- What groups say. -/
def val : List Nat → Nat
  | [] => 0
  | x :: r => x % 128 + 128 * val r

theorem val_snoc (l : List Nat) (x : Nat) : val (l ++ [x]) = val l + 128 ^ l.length * (x % 128) := by
  induction l with
  | nil => simp [val]
  | cons a l ih =>
    simp only [List.cons_append, val, ih, List.length_cons, Nat.pow_succ, Nat.mul_add]
    rw [← Nat.mul_assoc, Nat.mul_comm 128 (128 ^ l.length)]
    omega

theorem val_lt (l : List Nat) : val l < 128 ^ l.length := by
  induction l with
  | nil => simp [val]
  | cons a l ih =>
    simp only [val, List.length_cons, Nat.pow_succ]
    have := Nat.mod_lt a (show 0 < 128 by decide)
    omega

theorem val_enc (n : Nat) : val (enc n) = n := by
  induction n using Nat.strongRecOn with
  | _ n ih =>
    rcases Nat.lt_or_ge n 128 with h | h
    · rw [enc_small h]; simp [val]; omega
    · rw [enc_big h, val, ih (n / 128) (by omega)]; omega

theorem enc_inj {m n : Nat} (h : enc m = enc n) : m = n := by rw [← val_enc m, h, val_enc]

theorem enc_shape (n : Nat) : ∃ i x, enc n = i ++ [x] ∧ (∀ y ∈ i, 128 ≤ y ∧ y < 256) ∧ x < 128 ∧ (i = [] ∨ x ≠ 0) := by
  induction n using Nat.strongRecOn with
  | _ n ih =>
    rcases Nat.lt_or_ge n 128 with h | h
    · exact ⟨[], n, by rw [enc_small h]; rfl, by simp, h, .inl rfl⟩
    · obtain ⟨i, x, he, hi, hx, hz⟩ := ih (n / 128) (by omega)
      refine ⟨(n % 128 + 128) :: i, x, by rw [enc_big h, he]; rfl, ?_, hx, .inr ?_⟩
      · intro y hy
        rcases List.mem_cons.1 hy with rfl | hy
        · omega
        · exact hi y hy
      · rcases hz with rfl | hz
        · rw [enc] at he
          split at he
          · simp at he; omega
          · have := congrArg List.length he
            have := enc_pos (n / 128 / 128)
            simp at *; omega
        · exact hz

theorem enc_of_val (x : Nat) (hx : x < 128) : ∀ i : List Nat, (∀ y ∈ i, 128 ≤ y ∧ y < 256) → (i = [] ∨ x ≠ 0) → enc (val (i ++ [x])) = i ++ [x] := by
  intro i
  induction i with
  | nil => intro _ _; simp only [List.nil_append, val]; rw [enc_small (by omega)]; congr 1; omega
  | cons y i ih =>
    intro hi hz
    have hx0 : x ≠ 0 := by simpa using hz
    have h1 := ih (fun z hz => hi z (by simp [hz])) (.inr hx0)
    have hy := hi y (by simp)
    have hpos : 0 < val (i ++ [x]) := by
      rw [val_snoc, Nat.mod_eq_of_lt hx]
      have := Nat.mul_pos (Nat.pow_pos (n := i.length) (show 0 < 128 by decide)) (Nat.pos_of_ne_zero hx0)
      omega
    rw [List.cons_append, val, enc_big (by omega)]
    have e1 : (y % 128 + 128 * val (i ++ [x])) % 128 + 128 = y := by omega
    have e2 : (y % 128 + 128 * val (i ++ [x])) / 128 = val (i ++ [x]) := by omega
    rw [e1, e2, h1]

/-- Where the first byte below 128 stands, there a number's bytes end. -/
theorem shape_prefix {x x' : Nat} (hx : x < 128) (hx' : x' < 128) : ∀ {i i' r : List Nat}, (∀ y ∈ i, 128 ≤ y) → (∀ y ∈ i', 128 ≤ y) → (i' ++ [x']) <+: (i ++ x :: r) → i' ++ [x'] = i ++ [x] := by
  intro i
  induction i with
  | nil =>
    intro i' r _ hi' hp
    cases i' with
    | nil => simp at hp; simp [hp]
    | cons a i' =>
      simp at hp
      have := hi' a (by simp)
      omega
  | cons y i ih =>
    intro i' r hi hi' hp
    cases i' with
    | nil =>
      simp at hp
      have := hi y (by simp)
      omega
    | cons a i' =>
      simp only [List.cons_append, List.cons_prefix_cons] at hp
      obtain ⟨rfl, hp⟩ := hp
      simp only [List.cons_append]
      rw [ih (fun z hz => hi z (by simp [hz])) (fun z hz => hi' z (by simp [hz])) hp]

/-- What Take of bytes answers: the number n, its k bytes; or nothing, where no number's bytes stand at the beginning. -/
def Taken (b : List Nat) (n k : Nat) (ok : Prop) : Prop :=
  (ok ∧ U64 n ∧ enc n <+: b ∧ k = (enc n).length) ∨ (¬ ok ∧ n = 0 ∧ k = 0 ∧ ∀ m, U64 m → ¬ enc m <+: b)

theorem enc_prefix_unique {m n : Nat} {b : List Nat} (h1 : enc m <+: b) (h2 : enc n <+: b) : m = n := by
  obtain ⟨i, x, e1, hi, hx, _⟩ := enc_shape n
  obtain ⟨i', x', e2, hi', hx', _⟩ := enc_shape m
  obtain ⟨r, rfl⟩ := h2
  rw [e1, e2] at h1
  rw [List.append_assoc] at h1
  have := shape_prefix hx hx' (fun y hy => (hi y hy).1) (fun y hy => (hi' y hy).1) h1
  exact enc_inj (by rw [e1, e2, this])

theorem Taken.unique {b : List Nat} {n k n' k' : Nat} {ok ok' : Prop} (h : Taken b n k ok) (h' : Taken b n' k' ok') : n = n' ∧ k = k' ∧ (ok ↔ ok') := by
  rcases h with ⟨h1, h2, h3, h4⟩ | ⟨h1, h2, h3, h4⟩ <;> rcases h' with ⟨g1, g2, g3, g4⟩ | ⟨g1, g2, g3, g4⟩
  · obtain rfl := enc_prefix_unique h3 g3
    exact ⟨rfl, by rw [h4, g4], by simp [h1, g1]⟩
  · exact absurd h3 (g4 _ h2)
  · exact absurd g3 (h4 _ g2)
  · exact ⟨by rw [h2, g2], by rw [h3, g3], by simp [h1, g1]⟩

/-- The first byte below 128 stands at place k. -/
theorem taken_stop {b : List Nat} {k : Nat} (hk : k < b.length) (h10 : k < 10) (hge : ∀ j, j < k → 128 ≤ b.getD j 0) (hb : ∀ y ∈ b, y < 256) (hx : b.getD k 0 < 128) :
    ((k = 0 ∨ b.getD k 0 ≠ 0) ∧ (k = 9 → b.getD k 0 ≤ 1) → U64 (val (b.take (k + 1))) ∧ enc (val (b.take (k + 1))) <+: b ∧ (enc (val (b.take (k + 1)))).length = k + 1) ∧
    (¬ ((k = 0 ∨ b.getD k 0 ≠ 0) ∧ (k = 9 → b.getD k 0 ≤ 1)) → ∀ m, U64 m → ¬ enc m <+: b) := by
  have hts := take_snoc b k hk
  have hsplit : b = b.take k ++ b.getD k 0 :: b.drop (k + 1) := by
    conv => lhs; rw [← List.take_append_drop (k + 1) b, hts]
    simp
  have hi : ∀ y ∈ b.take k, 128 ≤ y ∧ y < 256 := by
    intro y hy
    obtain ⟨j, hj, rfl⟩ := List.getElem_of_mem hy
    simp at hj
    refine ⟨?_, hb _ (List.mem_of_mem_take hy)⟩
    have := hge j (by omega)
    simp [List.getD, List.getElem?_eq_getElem (show j < b.length by omega)] at this
    simpa using this
  have hlen : (b.take k).length = k := by simp; omega
  have hv : val (b.take (k + 1)) = val (b.take k) + 128 ^ k * (b.getD k 0 % 128) := by rw [hts, val_snoc, hlen]
  have hvl := val_lt (b.take k)
  rw [hlen] at hvl
  generalize b.getD k 0 = x at *
  rw [Nat.mod_eq_of_lt hx] at hv
  constructor
  · rintro ⟨h1, h2⟩
    have he : enc (val (b.take (k + 1))) = b.take (k + 1) := by
      rw [hts]
      refine enc_of_val x hx _ hi ?_
      rcases h1 with rfl | h1
      · exact .inl (by simp)
      · exact .inr h1
    refine ⟨?_, ?_, ?_⟩
    · by_cases h9 : k = 9
      · subst h9
        have := h2 rfl
        unfold U64
        have e : (128 : Nat) ^ 9 = 9223372036854775808 := by decide
        rw [e] at hv hvl
        rw [hv]
        have : 9223372036854775808 * x ≤ 9223372036854775808 * 1 := Nat.mul_le_mul_left _ this
        omega
      · have h3 := val_lt (b.take (k + 1))
        have h4 : (b.take (k + 1)).length ≤ 9 := by simp; omega
        have h5 := Nat.pow_le_pow_right (show 0 < 128 by decide) h4
        have e : (128 : Nat) ^ 9 = 9223372036854775808 := by decide
        unfold U64
        omega
    · rw [he]; exact List.take_prefix _ _
    · rw [he]; simp; omega
  · intro hno m hm hp
    obtain ⟨i', x', e2, hi', hx', hz'⟩ := enc_shape m
    rw [e2] at hp
    have hp2 : i' ++ [x'] <+: b.take k ++ x :: b.drop (k + 1) := by rw [← hsplit]; exact hp
    have heq := shape_prefix hx hx' (fun y hy => (hi y hy).1) (fun y hy => (hi' y hy).1) hp2
    obtain ⟨rfl, hxx⟩ := List.append_inj' heq rfl
    simp only [List.cons.injEq, and_true] at hxx
    subst hxx
    refine hno ⟨?_, ?_⟩
    · rcases hz' with hz' | hz'
      · left
        rw [hz'] at hlen
        simpa using hlen.symm
      · exact .inr hz'
    · rintro rfl
      have hme : m = val (b.take (9 + 1)) := by rw [hts, ← e2, val_enc]
      unfold U64 at hm
      have e : (128 : Nat) ^ 9 = 9223372036854775808 := by decide
      rw [hme, hv, e] at hm
      omega

/-- All bytes up to the tenth, or to the end, are 128 or more. -/
theorem taken_none {b : List Nat} {k : Nat} (hk : k = min b.length 10) (hge : ∀ j, j < k → 128 ≤ b.getD j 0) : ∀ m, U64 m → ¬ enc m <+: b := by
  intro m hm hp
  have hl := enc_len10 hm
  obtain ⟨i, x, e, _, hx, _⟩ := enc_shape m
  obtain ⟨r, hr⟩ := hp
  rw [e] at hr hl
  have hlen : (i ++ [x]).length = i.length + 1 := by simp
  have hbl : b.length = i.length + 1 + r.length := by rw [← hr]; simp; omega
  have := hge i.length (by omega)
  rw [← hr] at this
  simp [List.getD] at this
  omega


theorem pow7 (k : Nat) : (2 : Nat) ^ (7 * k) = 128 ^ k := by rw [Nat.pow_mul]

/-- acc | uint64(x &^ 128) << (7 * k), as the walk spells it. -/
theorem or_step (k x acc : Nat) (hk : k ≤ 9) (hx : x < 256) (hacc : acc < 128 ^ k) (h9 : k = 9 → x ≤ 1) :
    bits BinOp.or IntKind.u64 (acc : Int) (IntKind.u64.wrap (IntKind.u64.wrap (bits BinOp.andNot IntKind.u8 (x : Int) 128) * 2 ^ (7 * k))) = ((acc + 128 ^ k * (x % 128) : Nat) : Int) := by
  have e1 : bits BinOp.andNot IntKind.u8 (x : Int) 128 = ((x % 128 : Nat) : Int) := by
    have := u8_andNot_nat x 128 hx (by decide)
    rw [show (255 - 128 : Nat) = 127 from rfl, nat_mask7] at this
    exact this
  have e2 : ((2 : Int) ^ (7 * k)) = ((128 ^ k : Nat) : Int) := by rw [← pow7]; simp
  have h128 := Nat.mod_lt x (show 0 < 128 by decide)
  have hp : 0 < 128 ^ k := Nat.pow_pos (by decide)
  have hprod : 128 ^ k * (x % 128) ≤ 9223372036854775808 := by
    by_cases hk9 : k = 9
    · subst hk9
      have := h9 rfl
      have e : (128 : Nat) ^ 9 = 9223372036854775808 := by decide
      rw [e]
      have : 9223372036854775808 * (x % 128) ≤ 9223372036854775808 * 1 := Nat.mul_le_mul_left _ (by omega)
      omega
    · have h1 := Nat.pow_le_pow_right (show 0 < 128 by decide) (show k ≤ 8 by omega)
      have e : (128 : Nat) ^ 8 = 72057594037927936 := by decide
      have h2 := Nat.mul_le_mul h1 (show x % 128 ≤ 128 by omega)
      omega
  have hacc2 : acc < 9223372036854775808 := by
    have h1 := Nat.pow_le_pow_right (show 0 < 128 by decide) hk
    have e : (128 : Nat) ^ 9 = 9223372036854775808 := by decide
    omega
  rw [e1, e2, IntWalk.u64_in ((x % 128 : Nat) : Int) (by omega)]
  have e3 : ((x % 128 : Nat) : Int) * ((128 ^ k : Nat) : Int) = ((128 ^ k * (x % 128) : Nat) : Int) := by rw [Nat.mul_comm]; exact (Int.natCast_mul _ _).symm
  rw [e3, IntWalk.u64_in _ (by omega), u64_or_nat _ _ (by omega) (by omega), Nat.or_comm, nat_join (7 * k) _ _ (by rw [pow7]; exact Nat.mul_mod_right _ _) (by rw [pow7]; exact hacc)]
  congr 1
  omega

theorem encs_u64 {l : List Nat} (h : ∀ n ∈ l, U64 n) : ∀ x ∈ encs l, x < 256 := by
  intro x hx
  obtain ⟨n, hn, hxn⟩ := List.mem_flatMap.1 hx
  exact enc_u64 (h n hn) x hxn

theorem app_byte {a b : List Nat} (ha : ∀ x ∈ a, x < 256) (hb : ∀ x ∈ b, x < 256) : ∀ x ∈ a ++ b, x < 256 := by
  intro x hx
  rcases List.mem_append.1 hx with h | h
  · exact ha x h
  · exact hb x h

end Go.Proofs.YtjbodokligpcaaaGreat
