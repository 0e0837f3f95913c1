/- A number's bytes, as the document says them: groups of seven bits, the lowest first. Plain numbers and lists; nothing of the program. · What a reader takes, as relations over what is left and the error; nothing of the program. · Cells and runs, as the document says them: numbers and lists; nothing of the program. -/
import Derived.WalkKit
namespace Go.Proofs.YtgnalcobcdgnkaaGreatDoor

/-- A number of 64 bits (kept behind a name). -/
def U64 (n : Nat) : Prop := n < 18446744073709551616

/-- A number's bytes. -/
def enc (n : Nat) : List Nat := if n < 128 then [n] else (n % 128 + 128) :: enc (n / 128)
termination_by n
decreasing_by omega

theorem enc_small {n : Nat} (h : n < 128) : enc n = [n] := by rw [enc, if_pos h]
theorem enc_big {n : Nat} (h : 128 ≤ n) : enc n = (n % 128 + 128) :: enc (n / 128) := by rw [enc, if_neg (by omega)]

theorem enc_pos (n : Nat) : 0 < (enc n).length := by
  rcases Nat.lt_or_ge n 128 with h | h
  · rw [enc_small h]; simp
  · rw [enc_big h]; simp

theorem enc_len (k : Nat) : ∀ n, n < 128 ^ (k + 1) → (enc n).length ≤ k + 1 := by
  induction k with
  | zero => intro n h; rw [enc_small (by simpa using h)]; simp
  | succ k ih =>
    intro n h
    rcases Nat.lt_or_ge n 128 with h1 | h1
    · rw [enc_small h1]; simp
    · rw [enc_big h1]
      have := ih (n / 128) (by rw [Nat.pow_succ] at h; exact Nat.div_lt_of_lt_mul (by rw [Nat.mul_comm]; exact h))
      simpa using this

theorem enc_len10 {n : Nat} (h : U64 n) : (enc n).length ≤ 10 := enc_len 9 n (Nat.lt_of_lt_of_le h (by decide))

theorem enc_byte (k : Nat) : ∀ n, n < 128 ^ k → ∀ x ∈ enc n, x < 256 := by
  induction k with
  | zero => intro n h x hx; rw [enc_small (by simp at h; omega)] at hx; simp at hx h; omega
  | succ k ih =>
    intro n h x hx
    rcases Nat.lt_or_ge n 128 with h1 | h1
    · rw [enc_small h1] at hx; simp at hx; omega
    · rw [enc_big h1] at hx
      rcases List.mem_cons.1 hx with rfl | hx
      · omega
      · exact ih (n / 128) (by rw [Nat.pow_succ] at h; exact Nat.div_lt_of_lt_mul (by rw [Nat.mul_comm]; exact h)) x hx

theorem enc_u64 {n : Nat} (h : U64 n) : ∀ x ∈ enc n, x < 256 := enc_byte 10 n (Nat.lt_of_lt_of_le h (by decide))

theorem U64.div {n : Nat} (h : U64 n) (k : Nat) : U64 (n / k) := Nat.lt_of_le_of_lt (Nat.div_le_self _ _) h

/-- Numbers' bytes, one behind the other. -/
def encs (l : List Nat) : List Nat := l.flatMap enc
theorem encs_snoc (l : List Nat) (n : Nat) : encs (l ++ [n]) = encs l ++ enc n := by simp [encs]
theorem encs_len {l : List Nat} (h : ∀ n ∈ l, U64 n) : (encs l).length ≤ 10 * l.length := by
  induction l with
  | nil => simp [encs]
  | cons a l ih =>
    have h1 := enc_len10 (h a (by simp))
    have h2 := ih fun n hn => h n (by simp [hn])
    have e : encs (a :: l) = enc a ++ encs l := rfl
    rw [e, List.length_append, List.length_cons]
    omega
theorem take_snoc (l : List Nat) (k : Nat) (h : k < l.length) : l.take (k + 1) = l.take k ++ [l.getD k 0] := by
  rw [List.take_add_one, List.getElem?_eq_getElem h]; simp [List.getD, List.getElem?_eq_getElem h]
theorem getD_mem (l : List Nat) (k : Nat) (h : k < l.length) : l.getD k 0 ∈ l := by
  simp [List.getD, List.getElem?_eq_getElem h]

theorem or128_dec : ∀ r : Fin 256, bits BinOp.or IntKind.u8 ((r.val : Nat) : Int) 128 = ((r.val % 128 + 128 : Nat) : Int) := by decide +kernel
/-- byte(m) | 128. -/
theorem or128 (m : Nat) : bits BinOp.or IntKind.u8 ((m : Int) % 256) 128 = ((m % 128 + 128 : Nat) : Int) := by
  have h := or128_dec ⟨m % 256, Nat.mod_lt _ (by decide)⟩
  have e : ((m % 256 : Nat) : Int) = (m : Int) % 256 := by omega
  simp only [e] at h
  rw [h]
  congr 1
  omega


/-! ### Which bytes are a number's -/

/-- What groups say. -/
def val : List Nat → Nat
  | [] => 0
  | x :: r => x % 128 + 128 * val r

theorem val_enc (n : Nat) : val (enc n) = n := by
  induction n using Nat.strongRecOn with
  | _ n ih =>
    rcases Nat.lt_or_ge n 128 with h | h
    · rw [enc_small h]; simp [val]; omega
    · rw [enc_big h, val, ih (n / 128) (by omega)]; omega

theorem enc_inj {m n : Nat} (h : enc m = enc n) : m = n := by rw [← val_enc m, h, val_enc]

theorem enc_shape (n : Nat) : ∃ i x, enc n = i ++ [x] ∧ (∀ y ∈ i, 128 ≤ y ∧ y < 256) ∧ x < 128 ∧ (i = [] ∨ x ≠ 0) := by
  induction n using Nat.strongRecOn with
  | _ n ih =>
    rcases Nat.lt_or_ge n 128 with h | h
    · exact ⟨[], n, by rw [enc_small h]; rfl, by simp, h, .inl rfl⟩
    · obtain ⟨i, x, he, hi, hx, hz⟩ := ih (n / 128) (by omega)
      refine ⟨(n % 128 + 128) :: i, x, by rw [enc_big h, he]; rfl, ?_, hx, .inr ?_⟩
      · intro y hy
        rcases List.mem_cons.1 hy with rfl | hy
        · omega
        · exact hi y hy
      · rcases hz with rfl | hz
        · rw [enc] at he
          split at he
          · simp at he; omega
          · have := congrArg List.length he
            have := enc_pos (n / 128 / 128)
            simp at *; omega
        · exact hz

/-- Where the first byte below 128 stands, there a number's bytes end. -/
theorem shape_prefix {x x' : Nat} (hx : x < 128) (hx' : x' < 128) : ∀ {i i' r : List Nat}, (∀ y ∈ i, 128 ≤ y) → (∀ y ∈ i', 128 ≤ y) → (i' ++ [x']) <+: (i ++ x :: r) → i' ++ [x'] = i ++ [x] := by
  intro i
  induction i with
  | nil =>
    intro i' r _ hi' hp
    cases i' with
    | nil => simp at hp; simp [hp]
    | cons a i' =>
      simp at hp
      have := hi' a (by simp)
      omega
  | cons y i ih =>
    intro i' r hi hi' hp
    cases i' with
    | nil =>
      simp at hp
      have := hi y (by simp)
      omega
    | cons a i' =>
      simp only [List.cons_append, List.cons_prefix_cons] at hp
      obtain ⟨rfl, hp⟩ := hp
      simp only [List.cons_append]
      rw [ih (fun z hz => hi z (by simp [hz])) (fun z hz => hi' z (by simp [hz])) hp]

/-- What Take of bytes answers: the number n, its k bytes; or nothing, where no number's bytes stand at the beginning. -/
def Taken (b : List Nat) (n k : Nat) (ok : Prop) : Prop :=
  (ok ∧ U64 n ∧ enc n <+: b ∧ k = (enc n).length) ∨ (¬ ok ∧ n = 0 ∧ k = 0 ∧ ∀ m, U64 m → ¬ enc m <+: b)

theorem enc_prefix_unique {m n : Nat} {b : List Nat} (h1 : enc m <+: b) (h2 : enc n <+: b) : m = n := by
  obtain ⟨i, x, e1, hi, hx, _⟩ := enc_shape n
  obtain ⟨i', x', e2, hi', hx', _⟩ := enc_shape m
  obtain ⟨r, rfl⟩ := h2
  rw [e1, e2] at h1
  rw [List.append_assoc] at h1
  have := shape_prefix hx hx' (fun y hy => (hi y hy).1) (fun y hy => (hi' y hy).1) h1
  exact enc_inj (by rw [e1, e2, this])

theorem Taken.unique {b : List Nat} {n k n' k' : Nat} {ok ok' : Prop} (h : Taken b n k ok) (h' : Taken b n' k' ok') : n = n' ∧ k = k' ∧ (ok ↔ ok') := by
  rcases h with ⟨h1, h2, h3, h4⟩ | ⟨h1, h2, h3, h4⟩ <;> rcases h' with ⟨g1, g2, g3, g4⟩ | ⟨g1, g2, g3, g4⟩
  · obtain rfl := enc_prefix_unique h3 g3
    exact ⟨rfl, by rw [h4, g4], by simp [h1, g1]⟩
  · exact absurd h3 (g4 _ h2)
  · exact absurd g3 (h4 _ g2)
  · exact ⟨by rw [h2, g2], by rw [h3, g3], by simp [h1, g1]⟩

theorem encs_u64 {l : List Nat} (h : ∀ n ∈ l, U64 n) : ∀ x ∈ encs l, x < 256 := by
  intro x hx
  obtain ⟨n, hn, hxn⟩ := List.mem_flatMap.1 hx
  exact enc_u64 (h n hn) x hxn

theorem app_byte {a b : List Nat} (ha : ∀ x ∈ a, x < 256) (hb : ∀ x ∈ b, x < 256) : ∀ x ∈ a ++ b, x < 256 := by
  intro x hx
  rcases List.mem_append.1 hx with h | h
  · exact ha x h
  · exact hb x h

end Go.Proofs.YtgnalcobcdgnkaaGreatDoor

namespace Go.Proofs.YtgnalcobcdgnkaaGreatDoor

/-- What a number taken does to what is left, and to the error. -/
def NumRel (rest : List Nat) (c n : Nat) (rest' : List Nat) (c' : Nat) : Prop :=
  (c ≠ 0 ∧ n = 0 ∧ rest' = rest ∧ c' = c) ∨ (c = 0 ∧ U64 n ∧ rest = enc n ++ rest' ∧ c' = 0) ∨ (c = 0 ∧ n = 0 ∧ rest' = rest ∧ c' = 2 ∧ ∀ m, U64 m → ¬ enc m <+: rest)

theorem NumRel.unique {rest : List Nat} {c n n' : Nat} {r r' : List Nat} {d d' : Nat} (h : NumRel rest c n r d) (h' : NumRel rest c n' r' d') : n = n' ∧ r = r' ∧ d = d' := by
  rcases h with ⟨a1, a2, a3, a4⟩ | ⟨a1, a2, a3, a4⟩ | ⟨a1, a2, a3, a4, a5⟩ <;> rcases h' with ⟨b1, b2, b3, b4⟩ | ⟨b1, b2, b3, b4⟩ | ⟨b1, b2, b3, b4, b5⟩
  · exact ⟨by rw [a2, b2], by rw [a3, b3], by rw [a4, b4]⟩
  · exact absurd b1 a1
  · exact absurd b1 a1
  · exact absurd a1 b1
  · have h1 : enc n <+: rest := ⟨r, a3.symm⟩
    have h2 : enc n' <+: rest := ⟨r', b3.symm⟩
    obtain rfl := enc_prefix_unique h1 h2
    rw [a3] at b3
    exact ⟨rfl, List.append_cancel_left b3, by rw [a4, b4]⟩
  · exact absurd ⟨r, a3.symm⟩ (b5 _ a2)
  · exact absurd a1 b1
  · exact absurd ⟨r', b3.symm⟩ (a5 _ b2)
  · exact ⟨by rw [a2, b2], by rw [a3, b3], by rw [a4, b4]⟩

theorem NumRel.u64 {rest : List Nat} {c n : Nat} {r : List Nat} {d : Nat} (h : NumRel rest c n r d) : U64 n := by
  rcases h with ⟨_, rfl, _⟩ | ⟨_, a2, _⟩ | ⟨_, rfl, _⟩
  · exact (by decide : 0 < 18446744073709551616)
  · exact a2
  · exact (by decide : 0 < 18446744073709551616)

theorem NumRel.len {rest : List Nat} {c n : Nat} {r : List Nat} {d : Nat} (h : NumRel rest c n r d) : r.length ≤ rest.length := by
  rcases h with ⟨_, _, rfl, _⟩ | ⟨_, _, rfl, _⟩ | ⟨_, _, rfl, _⟩
  · exact Nat.le_refl _
  · simp
  · exact Nat.le_refl _

/-- How many follow, and the error then. -/
def manyR (n : Nat) (most : Int) : Nat := if most < 0 ∨ most < (n : Int) then 0 else n
def manyC (n c : Nat) (most : Int) : Nat := if most < 0 ∨ most < (n : Int) then (if c = 0 then 3 else c) else c
/-- A number within bounds, and the error then. -/
def withinR (n most : Nat) : Nat := if most < n ∨ 4611686018427387904 < n then 0 else n
def withinC (n c most : Nat) : Nat := if most < n ∨ 4611686018427387904 < n then (if c = 0 then 1 else c) else c
theorem within_good {n c most : Nat} (h : ¬ (most < n ∨ 4611686018427387904 < n)) : withinR n most = n ∧ withinC n c most = c := ⟨if_neg h, if_neg h⟩

/-- So many bytes taken. -/
def FixRel (rest : List Nat) (c : Nat) (many : Int) (out rest' : List Nat) (c' : Nat) : Prop :=
  (c ≠ 0 ∧ out = [] ∧ rest' = rest ∧ c' = c) ∨ (c = 0 ∧ (many < 0 ∨ (rest.length : Int) < many) ∧ out = [] ∧ rest' = rest ∧ c' = 2) ∨
  (c = 0 ∧ 0 ≤ many ∧ many ≤ (rest.length : Int) ∧ out = rest.take many.toNat ∧ rest' = rest.drop many.toNat ∧ c' = 0)

theorem FixRel.unique {rest : List Nat} {c : Nat} {many : Int} {o o' r r' : List Nat} {d d' : Nat} (h : FixRel rest c many o r d) (h' : FixRel rest c many o' r' d') : o = o' ∧ r = r' ∧ d = d' := by
  rcases h with ⟨a1, a2, a3, a4⟩ | ⟨a1, a2, a3, a4, a5⟩ | ⟨a1, a2, a3, a4, a5, a6⟩ <;> rcases h' with ⟨b1, b2, b3, b4⟩ | ⟨b1, b2, b3, b4, b5⟩ | ⟨b1, b2, b3, b4, b5, b6⟩
  · exact ⟨by rw [a2, b2], by rw [a3, b3], by rw [a4, b4]⟩
  · exact absurd b1 a1
  · exact absurd b1 a1
  · exact absurd a1 b1
  · exact ⟨by rw [a3, b3], by rw [a4, b4], by rw [a5, b5]⟩
  · omega
  · exact absurd a1 b1
  · omega
  · exact ⟨by rw [a4, b4], by rw [a5, b5], by rw [a6, b6]⟩

end Go.Proofs.YtgnalcobcdgnkaaGreatDoor

namespace Go.Proofs.YtgnalcobcdgnkaaGreatDoor

/-- How many first numbers two lists have in common. -/
def com : List Nat → List Nat → Nat
  | x :: a, y :: b => if x = y then com a b + 1 else 0
  | _, _ => 0

/-- A cell: its kind, its bytes. -/
abbrev CC := Nat × List Nat
/-- How many cells of a kind stand at the beginning. -/
def lead (k : Nat) : List CC → Nat
  | [] => 0
  | c :: r => if c.1 = k then lead k r + 1 else 0
/-- A run's items, behind the last data cell. -/
def items (last : List Nat) : List CC → List Nat
  | [] => []
  | (k, d) :: r =>
    if k = 1 then enc 0 ++ (enc d.length ++ (enc (com d last) ++ (d.drop (com d last) ++ items d r)))
    else enc (lead k r + 1) ++ (enc k ++ items last (r.drop (lead k r)))
termination_by r => r.length
decreasing_by
  · simp
  · simp only [List.length_drop, List.length_cons]; omega

/-- An item that has an error. -/
def Stop (cells : List CC) (last' : List Nat) (row' : Option Nat) (rest' : List Nat) (c code : Nat) : Prop := cells = [] ∧ last' = [] ∧ row' = none ∧ rest' = [] ∧ c = code

/-- What one item of a run is: how many cells are left, the last data cell, the kind of the row just ahead, what is left; the item's cells, the last data cell then, the row, what is left, the error. -/
def Item (left : Nat) (last : List Nat) (row : Option Nat) (rest : List Nat) (cells : List CC) (last' : List Nat) (row' : Option Nat) (rest' : List Nat) (c : Nat) : Prop :=
  ∃ many r1 c1, NumRel rest 0 many r1 c1 ∧
    ((c1 ≠ 0 ∧ Stop cells last' row' rest' c c1) ∨
     (c1 = 0 ∧ left < many ∧ Stop cells last' row' rest' c 2) ∨
     (c1 = 0 ∧ 0 < many ∧ many ≤ left ∧ ∃ k r2 c2, NumRel r1 0 k r2 c2 ∧
       ((withinC k c2 3 ≠ 0 ∧ Stop cells last' row' rest' c (withinC k c2 3)) ∨
        (withinC k c2 3 = 0 ∧ (k = 1 ∨ row = some k) ∧ Stop cells last' row' rest' c 2) ∨
        (withinC k c2 3 = 0 ∧ k ≠ 1 ∧ row ≠ some k ∧ cells = List.replicate many (k, []) ∧ last' = last ∧ row' = some k ∧ rest' = r2 ∧ c = 0))) ∨
     (c1 = 0 ∧ many = 0 ∧ ∃ size r2 c2, NumRel r1 0 size r2 c2 ∧
       ((c2 ≠ 0 ∧ Stop cells last' row' rest' c c2) ∨
        (c2 = 0 ∧ 64 < size ∧ Stop cells last' row' rest' c 3) ∨
        (c2 = 0 ∧ size ≤ 64 ∧ ∃ s r3 c3, NumRel r2 0 s r3 c3 ∧
          ((c3 ≠ 0 ∧ Stop cells last' row' rest' c c3) ∨
           (c3 = 0 ∧ (size < s ∨ last.length < s) ∧ Stop cells last' row' rest' c 2) ∨
           (c3 = 0 ∧ s ≤ size ∧ s ≤ last.length ∧
             ((r3.length < size - s ∧ Stop cells last' row' rest' c 2) ∨
              (size - s ≤ r3.length ∧ com (last.take s ++ r3.take (size - s)) last ≠ s ∧ Stop cells last' row' rest' c 2) ∨
              (size - s ≤ r3.length ∧ com (last.take s ++ r3.take (size - s)) last = s ∧ cells = [(1, last.take s ++ r3.take (size - s))] ∧ last' = last.take s ++ r3.take (size - s) ∧ row' = none ∧ rest' = r3.drop (size - s) ∧ c = 0))))))))

theorem Stop.unique {a a' : List CC} {b b' : List Nat} {r r' : Option Nat} {d d' : List Nat} {c c' x : Nat} (h : Stop a b r d c x) (h' : Stop a' b' r' d' c' x) : a = a' ∧ b = b' ∧ r = r' ∧ d = d' ∧ c = c' := by
  obtain ⟨rfl, rfl, rfl, rfl, rfl⟩ := h
  obtain ⟨rfl, rfl, rfl, rfl, rfl⟩ := h'
  exact ⟨rfl, rfl, rfl, rfl, rfl⟩

theorem Item.unique {left : Nat} {last : List Nat} {row : Option Nat} {rest : List Nat} {a a' : List CC} {b b' : List Nat} {r r' : Option Nat} {d d' : List Nat} {c c' : Nat}
    (h : Item left last row rest a b r d c) (h' : Item left last row rest a' b' r' d' c') : a = a' ∧ b = b' ∧ r = r' ∧ d = d' ∧ c = c' := by
  obtain ⟨many, r1, c1, hn, h⟩ := h
  obtain ⟨many', r1', c1', hn', h'⟩ := h'
  obtain ⟨rfl, rfl, rfl⟩ := hn.unique hn'
  rcases h with ⟨h1, h⟩ | ⟨h1, h2, h⟩ | ⟨h1, h2, h3, h⟩ | ⟨h1, h2, h⟩ <;> rcases h' with ⟨g1, g⟩ | ⟨g1, g2, g⟩ | ⟨g1, g2, g3, g⟩ | ⟨g1, g2, g⟩ <;> first | omega | skip
  · exact h.unique g
  · exact h.unique g
  · obtain ⟨k, r2, c2, hk, h⟩ := h
    obtain ⟨k', r2', c2', hk', g⟩ := g
    obtain ⟨rfl, rfl, rfl⟩ := hk.unique hk'
    rcases h with ⟨x1, h⟩ | ⟨x1, x2, h⟩ | ⟨x1, x2, x3, h⟩ <;> rcases g with ⟨y1, g⟩ | ⟨y1, y2, g⟩ | ⟨y1, y2, y3, g⟩ <;> first | omega | skip
    · exact h.unique g
    · exact h.unique g
    · rcases x2 with x2 | x2
      · exact absurd x2 y2
      · exact absurd x2 y3
    · rcases y2 with y2 | y2
      · exact absurd y2 x2
      · exact absurd y2 x3
    · obtain ⟨rfl, rfl, rfl, rfl, rfl⟩ := h
      obtain ⟨rfl, rfl, rfl, rfl, rfl⟩ := g
      exact ⟨rfl, rfl, rfl, rfl, rfl⟩
  · obtain ⟨k, r2, c2, hk, h⟩ := h
    obtain ⟨k', r2', c2', hk', g⟩ := g
    obtain ⟨rfl, rfl, rfl⟩ := hk.unique hk'
    rcases h with ⟨x1, h⟩ | ⟨x1, x2, h⟩ | ⟨x1, x2, h⟩ <;> rcases g with ⟨y1, g⟩ | ⟨y1, y2, g⟩ | ⟨y1, y2, g⟩ <;> first | omega | skip
    · exact h.unique g
    · exact h.unique g
    · obtain ⟨s, r3, c3, hs, h⟩ := h
      obtain ⟨s', r3', c3', hs', g⟩ := g
      obtain ⟨rfl, rfl, rfl⟩ := hs.unique hs'
      rcases h with ⟨x3, h⟩ | ⟨x3, x4, h⟩ | ⟨x3, x4, x5, h⟩ <;> rcases g with ⟨y3, g⟩ | ⟨y3, y4, g⟩ | ⟨y3, y4, y5, g⟩ <;> first | omega | skip
      · exact h.unique g
      · exact h.unique g
      · rcases h with ⟨z1, h⟩ | ⟨z1, z2, h⟩ | ⟨z1, z2, h⟩ <;> rcases g with ⟨w1, g⟩ | ⟨w1, w2, g⟩ | ⟨w1, w2, g⟩ <;> first | omega | skip
        · exact h.unique g
        · exact h.unique g
        · obtain ⟨rfl, rfl, rfl, rfl, rfl⟩ := h
          obtain ⟨rfl, rfl, rfl, rfl, rfl⟩ := g
          exact ⟨rfl, rfl, rfl, rfl, rfl⟩

/-- A run's items, taken: with an error (c is not 0) the cells ahead of it. -/
inductive TI : Nat → List Nat → Option Nat → List Nat → List CC → Nat → List Nat → Prop
  | over {last : List Nat} {row : Option Nat} {rest : List Nat} : TI 0 last row rest [] 0 rest
  | stop {left : Nat} {last : List Nat} {row : Option Nat} {rest : List Nat} {a : List CC} {b : List Nat} {r : Option Nat} {d : List Nat} {c : Nat} : 0 < left → Item left last row rest a b r d c → c ≠ 0 → TI left last row rest [] c []
  | more {left : Nat} {last : List Nat} {row : Option Nat} {rest : List Nat} {a : List CC} {b : List Nat} {r : Option Nat} {d : List Nat} {run : List CC} {c : Nat} {fin : List Nat} :
      0 < left → Item left last row rest a b r d 0 → TI (left - a.length) b r d run c fin → TI left last row rest (a ++ run) c fin

theorem TI.unique {left : Nat} {last : List Nat} {row : Option Nat} {rest : List Nat} {run run' : List CC} {c c' : Nat} {fin fin' : List Nat} (h : TI left last row rest run c fin) (h' : TI left last row rest run' c' fin') : run = run' ∧ c = c' ∧ fin = fin' := by
  induction h generalizing run' c' fin' with
  | over =>
    generalize hz : 0 = z at h'
    cases h' with
    | over => exact ⟨rfl, rfl, rfl⟩
    | stop h1 => omega
    | more h1 => omega
  | stop h1 h2 h3 =>
    cases h' with
    | over => omega
    | stop g1 g2 g3 => obtain ⟨rfl, rfl, rfl, rfl, rfl⟩ := h2.unique g2; exact ⟨rfl, rfl, rfl⟩
    | more g1 g2 _ => exact absurd (h2.unique g2).2.2.2.2 h3
  | more h1 h2 h3 ih =>
    cases h' with
    | over => omega
    | stop g1 g2 g3 => exact absurd (g2.unique h2).2.2.2.2 g3
    | more g1 g2 g4 =>
      obtain ⟨rfl, rfl, rfl, rfl, _⟩ := h2.unique g2
      obtain ⟨rfl, rfl, rfl⟩ := ih g4
      exact ⟨rfl, rfl, rfl⟩

/-- A run, taken: the cells (none, with an error), the error, what is left. -/
def TRun (rest : List Nat) (c : Nat) (run : List CC) (c' : Nat) (fin : List Nat) : Prop :=
  ∃ n r1 c1, NumRel rest c n r1 c1 ∧
    ((c1 ≠ 0 ∧ run = [] ∧ c' = c1 ∧ fin = []) ∨ (c1 = 0 ∧ 64 < n ∧ run = [] ∧ c' = 3 ∧ fin = []) ∨
     (c1 = 0 ∧ n ≤ 64 ∧ ∃ run1 c2 fin1, TI n [] none r1 run1 c2 fin1 ∧ c' = c2 ∧ run = (if c2 = 0 then run1 else []) ∧ fin = (if c2 = 0 then fin1 else [])))

theorem TRun.unique {rest : List Nat} {c : Nat} {run run' : List CC} {d d' : Nat} {fin fin' : List Nat} (h : TRun rest c run d fin) (h' : TRun rest c run' d' fin') : run = run' ∧ d = d' ∧ fin = fin' := by
  obtain ⟨n, r1, c1, hn, h⟩ := h
  obtain ⟨n', r1', c1', hn', h'⟩ := h'
  obtain ⟨rfl, rfl, rfl⟩ := hn.unique hn'
  rcases h with ⟨a, rfl, rfl, rfl⟩ | ⟨a, b, rfl, rfl, rfl⟩ | ⟨a, b, run1, c2, fin1, ht, rfl, rfl, rfl⟩ <;> rcases h' with ⟨a', rfl, rfl, rfl⟩ | ⟨a', b', rfl, rfl, rfl⟩ | ⟨a', b', run1', c2', fin1', ht', rfl, rfl, rfl⟩ <;> first | exact ⟨rfl, rfl, rfl⟩ | omega | skip
  obtain ⟨rfl, rfl, rfl⟩ := ht.unique ht'
  exact ⟨rfl, rfl, rfl⟩

end Go.Proofs.YtgnalcobcdgnkaaGreatDoor
