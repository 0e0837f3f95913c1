/- The mathematics of the sums (no code): steps of a register of bits, runs over bytes, what turned bits change. -/
import Derived.Laws.BitsAllLaws
namespace Go.Proofs.YtjbodokligpcaaaGreat

def cstep (x : Nat) : Nat := if x % 2 = 1 then (x / 2) ^^^ 2197175160 else x / 2
def csteps : Nat → Nat → Nat
  | 0, x => x
  | n + 1, x => csteps n (cstep x)
def ctake (x b : Nat) : Nat := csteps 8 (x ^^^ b)
def crun (x : Nat) (l : List Nat) : Nat := l.foldl ctake x
/-- The sum of l behind bytes whose sum is s. -/
def crcx (s : Nat) (l : List Nat) : Nat := crun (s ^^^ 4294967295) l ^^^ 4294967295
/-- A text as one number, its first byte the lowest. -/
def cnum : List Nat → Nat
  | [] => 0
  | b :: l => b ^^^ 2 ^ 8 * cnum l

theorem pow_xor (n u v : Nat) : 2 ^ n * (u ^^^ v) = 2 ^ n * u ^^^ 2 ^ n * v := by
  apply Nat.eq_of_testBit_eq
  intro i
  rw [Nat.testBit_xor, Nat.testBit_two_pow_mul, Nat.testBit_two_pow_mul, Nat.testBit_two_pow_mul, Nat.testBit_xor]
  by_cases h : n ≤ i <;> simp [h]

theorem cstep_zero : cstep 0 = 0 := by decide
theorem csteps_zero (n : Nat) : csteps n 0 = 0 := by
  induction n with
  | zero => rfl
  | succ n ih => rw [csteps, cstep_zero]; exact ih

theorem cstep_xor (x y : Nat) : cstep (x ^^^ y) = cstep x ^^^ cstep y := by
  unfold cstep
  have h1 : (x ^^^ y) / 2 = x / 2 ^^^ y / 2 := Nat.xor_div_two
  have h2 : (x ^^^ y) % 2 = (x + y) % 2 := by
    have := @Nat.xor_mod_two_pow x y 1
    rw [Nat.pow_one] at this
    rw [this]
    rcases Nat.mod_two_eq_zero_or_one x with hx | hx <;> rcases Nat.mod_two_eq_zero_or_one y with hy | hy <;> rw [hx, hy, Nat.add_mod, hx, hy]
    all_goals decide
  rw [h1, h2]
  rcases Nat.mod_two_eq_zero_or_one x with hx | hx <;> rcases Nat.mod_two_eq_zero_or_one y with hy | hy
  · rw [if_neg (by omega), if_neg (by omega), if_neg (by omega)]
  · rw [if_pos (by omega), if_neg (by omega), if_pos (by omega), Nat.xor_assoc]
  · rw [if_pos (by omega), if_pos (by omega), if_neg (by omega), Nat.xor_assoc, Nat.xor_assoc, Nat.xor_comm (y / 2)]
  · rw [if_neg (by omega), if_pos (by omega), if_pos (by omega), Nat.xor_assoc, ← Nat.xor_assoc 2197175160, Nat.xor_comm 2197175160 (y / 2), Nat.xor_assoc (y / 2), Nat.xor_self, Nat.xor_zero]

theorem csteps_xor (n : Nat) : ∀ x y, csteps n (x ^^^ y) = csteps n x ^^^ csteps n y := by
  induction n with
  | zero => intro x y; rfl
  | succ n ih => intro x y; rw [csteps, csteps, csteps, cstep_xor, ih]

theorem csteps_add (m n : Nat) : ∀ x, csteps (m + n) x = csteps n (csteps m x) := by
  induction m with
  | zero => intro x; rw [Nat.zero_add]; rfl
  | succ m ih => intro x; rw [show m + 1 + n = (m + n) + 1 from by omega, csteps, csteps, ih]

theorem cstep_two (x : Nat) : cstep (2 * x) = x := by
  unfold cstep
  rw [if_neg (by omega)]
  omega

theorem csteps_pow (n : Nat) : ∀ x, csteps n (2 ^ n * x) = x := by
  induction n with
  | zero => intro x; rw [csteps]; omega
  | succ n ih => intro x; rw [csteps, Nat.pow_succ, Nat.mul_comm (2 ^ n) 2, Nat.mul_assoc, cstep_two, ih]

theorem cstep_lt {x : Nat} (h : x < 4294967296) : cstep x < 4294967296 := by
  unfold cstep
  split
  · exact Nat.xor_lt_two_pow (n := 32) (by omega) (by omega)
  · omega

theorem csteps_lt (n : Nat) : ∀ {x}, x < 4294967296 → csteps n x < 4294967296 := by
  induction n with
  | zero => intro x h; exact h
  | succ n ih => intro x h; exact ih (cstep_lt h)

theorem cstep_ne {x : Nat} (h : x < 4294967296) (h0 : x ≠ 0) : cstep x ≠ 0 := by
  unfold cstep
  split
  · intro h1
    have : x / 2 = 2197175160 := by
      have h2 : (x / 2 ^^^ 2197175160) ^^^ 2197175160 = 0 ^^^ 2197175160 := by rw [h1]
      rwa [Nat.xor_assoc, Nat.xor_self, Nat.xor_zero, Nat.zero_xor] at h2
    omega
  · omega

theorem csteps_ne (n : Nat) : ∀ {x}, x < 4294967296 → x ≠ 0 → csteps n x ≠ 0 := by
  induction n with
  | zero => intro x _ h; exact h
  | succ n ih => intro x h h0; exact ih (cstep_lt h) (cstep_ne h h0)

theorem xor_cancel {x y z : Nat} (h : x ^^^ z = y ^^^ z) : x = y := by
  have : (x ^^^ z) ^^^ z = (y ^^^ z) ^^^ z := by rw [h]
  rwa [Nat.xor_assoc, Nat.xor_assoc, Nat.xor_self, Nat.xor_zero, Nat.xor_zero] at this

theorem ctake_lt {x b : Nat} (h : x < 4294967296) (hb : b < 256) : ctake x b < 4294967296 :=
  csteps_lt 8 (Nat.xor_lt_two_pow (n := 32) h (by omega))

theorem crun_lt : ∀ (l : List Nat) {x : Nat}, x < 4294967296 → (∀ y ∈ l, y < 256) → crun x l < 4294967296
  | [], _, h, _ => h
  | b :: l, _, h, hl => crun_lt l (ctake_lt h (hl b (by simp))) (fun y hy => hl y (by simp [hy]))

theorem crcx_lt {l : List Nat} {s : Nat} (h : s < 4294967296) (hl : ∀ y ∈ l, y < 256) : crcx s l < 4294967296 :=
  Nat.xor_lt_two_pow (n := 32) (crun_lt l (Nat.xor_lt_two_pow (n := 32) h (by omega)) hl) (by omega)

theorem crun_append (x : Nat) (a b : List Nat) : crun x (a ++ b) = crun (crun x a) b := List.foldl_append

/-- Where bytes are parted changes nothing. -/
theorem crcx_append (s : Nat) (a b : List Nat) : crcx s (a ++ b) = crcx (crcx s a) b := by
  unfold crcx
  rw [crun_append, Nat.xor_assoc (crun _ a), Nat.xor_self, Nat.xor_zero]

theorem crcx_nil (s : Nat) : crcx s [] = s := by
  show (s ^^^ 4294967295) ^^^ 4294967295 = s
  rw [Nat.xor_assoc, Nat.xor_self, Nat.xor_zero]

theorem crun_num (l : List Nat) : ∀ x, crun x l = csteps (8 * l.length) (x ^^^ cnum l) := by
  induction l with
  | nil => intro x; show x = x ^^^ 0; rw [Nat.xor_zero]
  | cons b l ih =>
    intro x
    show crun (ctake x b) l = _
    rw [ih, List.length_cons, show 8 * (l.length + 1) = 8 + 8 * l.length from by omega, csteps_add, cnum, ← Nat.xor_assoc, csteps_xor 8 (x ^^^ b), csteps_pow]
    rfl

/-- Texts that are as long, and of which up to 32 bits that stand together are turned, one at least, have other sums. -/
theorem crcx_finds {s place D : Nat} {a b : List Nat} (hl : b.length = a.length) (hn : cnum b = cnum a ^^^ 2 ^ place * D) (hp : place ≤ 8 * a.length) (hD : D < 4294967296) (h0 : D ≠ 0) : crcx s b ≠ crcx s a := by
  intro h
  have h1 : crun (s ^^^ 4294967295) b = crun (s ^^^ 4294967295) a := xor_cancel h
  rw [crun_num, crun_num, hl, hn, ← Nat.xor_assoc, csteps_xor _ (_ ^^^ cnum a)] at h1
  have h2 : csteps (8 * a.length) (2 ^ place * D) = 0 := by
    have h3 := congrArg (fun z => csteps (8 * a.length) ((s ^^^ 4294967295) ^^^ cnum a) ^^^ z) h1
    simp only [← Nat.xor_assoc, Nat.xor_self, Nat.zero_xor] at h3
    exact h3
  rw [show 8 * a.length = place + (8 * a.length - place) from by omega, csteps_add, csteps_pow] at h2
  exact csteps_ne _ hD h0 h2

def cflip (l : List Nat) (p : Nat) : List Nat := l.set (p / 8) (l.getD (p / 8) 0 ^^^ 2 ^ (p % 8))

theorem cflip_length (l : List Nat) (p : Nat) : (cflip l p).length = l.length := by simp [cflip]

theorem cnum_set : ∀ (l : List Nat) (i y : Nat), i < l.length → cnum (l.set i (l.getD i 0 ^^^ y)) = cnum l ^^^ 2 ^ (8 * i) * y
  | [], i, y, h => absurd h (by simp)
  | b :: l, 0, y, _ => by
    show (b ^^^ y) ^^^ 2 ^ 8 * cnum l = (b ^^^ 2 ^ 8 * cnum l) ^^^ 2 ^ 0 * y
    rw [Nat.pow_zero, Nat.one_mul, Nat.xor_assoc, Nat.xor_assoc, Nat.xor_comm y]
  | b :: l, i + 1, y, h => by
    have ih := cnum_set l i y (by simpa using h)
    show b ^^^ 2 ^ 8 * cnum (l.set i (l.getD i 0 ^^^ y)) = (b ^^^ 2 ^ 8 * cnum l) ^^^ 2 ^ (8 * (i + 1)) * y
    rw [ih, Nat.xor_assoc]
    congr 1
    rw [pow_xor, ← Nat.mul_assoc, ← Nat.pow_add, show 8 + 8 * i = 8 * (i + 1) from by omega]

theorem cnum_flip {l : List Nat} {p : Nat} (h : p < 8 * l.length) : cnum (cflip l p) = cnum l ^^^ 2 ^ p := by
  unfold cflip
  rw [cnum_set l (p / 8) _ (by omega), ← Nat.pow_add, show 8 * (p / 8) + p % 8 = p from by omega]

/-- One more turned bit. -/
theorem cnum_more {l a : List Nat} {place D i : Nat} (hn : cnum l = cnum a ^^^ 2 ^ place * D) (hp : place + i < 8 * l.length) : cnum (cflip l (place + i)) = cnum a ^^^ 2 ^ place * (D ^^^ 2 ^ i) := by
  rw [cnum_flip hp, hn, pow_xor, Nat.xor_assoc, Nat.pow_add]

theorem flipped_lt {D i : Nat} (h : D < 2 ^ i) : D ^^^ 2 ^ i < 2 ^ (i + 1) :=
  Nat.xor_lt_two_pow (by rw [Nat.pow_succ]; omega) (by rw [Nat.pow_succ]; have := Nat.two_pow_pos i; omega)

theorem flipped_ne {D i : Nat} (h : D < 2 ^ i) : D ^^^ 2 ^ i ≠ 0 := by
  intro h1
  have : D = 2 ^ i := by
    apply xor_cancel (z := 2 ^ i)
    rw [h1, Nat.xor_self]
  omega

theorem cflip_byte {l : List Nat} {p : Nat} (h : ∀ y ∈ l, y < 256) : ∀ y ∈ cflip l p, y < 256 := by
  intro y hy
  rcases List.mem_or_eq_of_mem_set hy with h1 | h1
  · exact h y h1
  · subst h1
    refine Nat.xor_lt_two_pow (n := 8) ?_ (Nat.pow_lt_pow_right (by decide) (Nat.mod_lt _ (by decide)))
    by_cases hp : p / 8 < l.length
    · rw [List.getD_eq_getElem?_getD, List.getElem?_eq_getElem hp]; exact h _ (List.getElem_mem hp)
    · rw [List.getD_eq_getElem?_getD, List.getElem?_eq_none (by omega)]; decide

/-- Three texts, joined. -/
def join3 : List Nat → List Nat → List Nat → List Nat
  | a :: as, b :: bs, c :: cs => (a ^^^ b ^^^ c) :: join3 as bs cs
  | _, _, _ => []

theorem xor3 (a b c x y z : Nat) : (x ^^^ y ^^^ z) ^^^ (a ^^^ b ^^^ c) = (x ^^^ a) ^^^ (y ^^^ b) ^^^ (z ^^^ c) := by
  ac_rfl

theorem crun_join : ∀ (a b c : List Nat) (x y z : Nat), b.length = a.length → c.length = a.length → crun (x ^^^ y ^^^ z) (join3 a b c) = crun x a ^^^ crun y b ^^^ crun z c
  | [], [], [], x, y, z, _, _ => rfl
  | a :: as, b :: bs, c :: cs, x, y, z, h1, h2 => by
    have ih := crun_join as bs cs (ctake x a) (ctake y b) (ctake z c) (by simpa using h1) (by simpa using h2)
    show crun (ctake (x ^^^ y ^^^ z) (a ^^^ b ^^^ c)) (join3 as bs cs) = crun (ctake x a) as ^^^ crun (ctake y b) bs ^^^ crun (ctake z c) cs
    rw [← ih]
    congr 1
    unfold ctake
    rw [xor3, csteps_xor, csteps_xor]

theorem crcx_join {s : Nat} {a b c : List Nat} (h1 : b.length = a.length) (h2 : c.length = a.length) : crcx s a ^^^ crcx s b ^^^ crcx s c = crcx s (join3 a b c) := by
  unfold crcx
  generalize s ^^^ 4294967295 = x
  have h := crun_join a b c x x x h1 h2
  rw [Nat.xor_self, Nat.zero_xor] at h
  rw [h, ← xor3]
  congr 1

/-- A register's next one by a table of 256 numbers. -/
theorem csteps_table (x : Nat) : csteps 8 x = csteps 8 (x % 256) ^^^ x / 256 := by
  have h : x = (x % 256) ^^^ 2 ^ 8 * (x / 256) := by
    apply Nat.eq_of_testBit_eq
    intro i
    rw [Nat.testBit_xor, show (256 : Nat) = 2 ^ 8 from rfl, Nat.testBit_mod_two_pow, Nat.testBit_two_pow_mul, Nat.testBit_div_two_pow]
    by_cases hi : i < 8
    · simp [hi, Nat.not_le.2 hi]
    · simp [hi, Nat.le_of_not_lt hi, Nat.sub_add_cancel (Nat.le_of_not_lt hi)]
  rw [congrArg (csteps 8) h, csteps_xor, csteps_pow]

theorem ctake_table {x b : Nat} (hb : b < 256) : ctake x b = csteps 8 ((x ^^^ b) % 256) ^^^ x / 256 := by
  unfold ctake
  rw [csteps_table (x ^^^ b)]
  congr 1
  have := @Nat.xor_div_two_pow x b 8
  rw [show (256 : Nat) = 2 ^ 8 from rfl, this, Nat.div_eq_of_lt (show b < 2 ^ 8 from hb), Nat.xor_zero]

/-- A sum's four bytes, the highest first. -/
def four (x : Nat) : List Nat := [x / 16777216 % 256, x / 65536 % 256, x / 256 % 256, x % 256]

theorem four_byte (x : Nat) : ∀ y ∈ four x, y < 256 := by
  intro y hy
  simp only [four, List.mem_cons, List.not_mem_nil, or_false] at hy
  omega

theorem four_inj {x y : Nat} (hx : x < 4294967296) (hy : y < 4294967296) (h : four x = four y) : x = y := by
  simp only [four, List.cons.injEq, and_true] at h
  omega

end Go.Proofs.YtjbodokligpcaaaGreat
