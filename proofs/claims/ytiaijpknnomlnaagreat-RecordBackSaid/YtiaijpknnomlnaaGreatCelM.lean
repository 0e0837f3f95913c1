/- Cells and runs, as the document says them: numbers and lists; nothing of the program. -/
import Derived.Test.YtiaijpknnomlnaaGreatEnc
import Derived.Test.YtiaijpknnomlnaaGreatNumR
namespace Go.Proofs.YtiaijpknnomlnaaGreat

/-- How many first numbers two lists have in common. -/
def com : List Nat → List Nat → Nat
  | x :: a, y :: b => if x = y then com a b + 1 else 0
  | _, _ => 0

theorem com_le_left : ∀ a b, com a b ≤ a.length
  | [], _ => by simp [com]
  | _ :: _, [] => by simp [com]
  | x :: a, y :: b => by
    have := com_le_left a b
    unfold com
    split <;> simp <;> omega
theorem com_le_right : ∀ a b, com a b ≤ b.length
  | [], _ => by simp [com]
  | _ :: _, [] => by simp [com]
  | x :: a, y :: b => by
    have := com_le_right a b
    unfold com
    split <;> simp <;> omega
theorem com_take : ∀ a b : List Nat, a.take (com a b) = b.take (com a b)
  | [], _ => by simp [com]
  | _ :: _, [] => by simp [com]
  | x :: a, y :: b => by
    have := com_take a b
    unfold com
    split
    · next h => subst h; simp [this]
    · simp
/-- Where they part. -/
theorem com_stop : ∀ a b, com a b < a.length → com a b < b.length → a.getD (com a b) 0 ≠ b.getD (com a b) 0
  | [], _, h, _ => by simp [com] at h
  | _ :: _, [], _, h => by simp [com] at h
  | x :: a, y :: b, h1, h2 => by
    unfold com at *
    split
    · next h =>
      rw [if_pos h] at h1 h2
      have := com_stop a b (by simpa using h1) (by simpa using h2)
      simpa using this
    · next h => simpa using h
/-- What has n first numbers in common and then parts, or ends. -/
theorem com_eq : ∀ (a b : List Nat) (n : Nat), n ≤ a.length → n ≤ b.length → a.take n = b.take n → (n = a.length ∨ n = b.length ∨ a.getD n 0 ≠ b.getD n 0) → com a b = n
  | [], _, n, h, _, _, _ => by simp at h; simp [com, h]
  | _ :: _, [], n, _, h, _, _ => by simp at h; simp [com, h]
  | x :: a, y :: b, 0, _, _, _, h => by
    have hne : x ≠ y := by simpa using h
    unfold com
    rw [if_neg hne]
  | x :: a, y :: b, n + 1, h1, h2, h3, h4 => by
    simp only [List.take_succ_cons, List.cons.injEq] at h3
    unfold com
    rw [if_pos h3.1, com_eq a b n (by simpa using h1) (by simpa using h2) h3.2 (by simpa using h4)]

/-- A cell: its kind, its bytes. -/
abbrev CC := Nat × List Nat
/-- A cell without an error. -/
def okC (c : CC) : Prop := c.1 ≤ 3 ∧ c.2.length ≤ 64 ∧ (c.1 ≠ 1 → c.2 = []) ∧ ∀ y ∈ c.2, y < 256
/-- A cell's bytes. -/
def cbytes (c : CC) : List Nat := if c.1 = 1 then enc 1 ++ (enc c.2.length ++ c.2) else enc c.1

/-- How many cells of a kind stand at the beginning. -/
def lead (k : Nat) : List CC → Nat
  | [] => 0
  | c :: r => if c.1 = k then lead k r + 1 else 0
theorem lead_le (k : Nat) : ∀ r, lead k r ≤ r.length
  | [] => by simp [lead]
  | c :: r => by have := lead_le k r; unfold lead; split <;> simp; omega

/-- A run's items, behind the last data cell. -/
def items (last : List Nat) : List CC → List Nat
  | [] => []
  | (k, d) :: r =>
    if k = 1 then enc 0 ++ (enc d.length ++ (enc (com d last) ++ (d.drop (com d last) ++ items d r)))
    else enc (lead k r + 1) ++ (enc k ++ items last (r.drop (lead k r)))
termination_by r => r.length
decreasing_by
  · simp
  · simp only [List.length_drop, List.length_cons]; omega

theorem items_nil (last : List Nat) : items last [] = [] := by rw [items]
theorem items_data (last d : List Nat) (r : List CC) : items last ((1, d) :: r) = enc 0 ++ (enc d.length ++ (enc (com d last) ++ (d.drop (com d last) ++ items d r))) := by rw [items, if_pos rfl]
theorem items_row (last d : List Nat) (k : Nat) (r : List CC) (hk : k ≠ 1) : items last ((k, d) :: r) = enc (lead k r + 1) ++ (enc k ++ items last (r.drop (lead k r))) := by rw [items, if_neg hk]

/-- A run's bytes. -/
def rbytes (run : List CC) : List Nat := enc run.length ++ items [] run

/-- An item that has an error. -/
def Stop (cells : List CC) (last' : List Nat) (row' : Option Nat) (rest' : List Nat) (c code : Nat) : Prop := cells = [] ∧ last' = [] ∧ row' = none ∧ rest' = [] ∧ c = code

/-- What one item of a run is: how many cells are left, the last data cell, the kind of the row just ahead, what is left; the item's cells, the last data cell then, the row, what is left, the error. -/
def Item (left : Nat) (last : List Nat) (row : Option Nat) (rest : List Nat) (cells : List CC) (last' : List Nat) (row' : Option Nat) (rest' : List Nat) (c : Nat) : Prop :=
  ∃ many r1 c1, NumRel rest 0 many r1 c1 ∧
    ((c1 ≠ 0 ∧ Stop cells last' row' rest' c c1) ∨
     (c1 = 0 ∧ left < many ∧ Stop cells last' row' rest' c 2) ∨
     (c1 = 0 ∧ 0 < many ∧ many ≤ left ∧ ∃ k r2 c2, NumRel r1 0 k r2 c2 ∧
       ((withinC k c2 3 ≠ 0 ∧ Stop cells last' row' rest' c (withinC k c2 3)) ∨
        (withinC k c2 3 = 0 ∧ (k = 1 ∨ row = some k) ∧ Stop cells last' row' rest' c 2) ∨
        (withinC k c2 3 = 0 ∧ k ≠ 1 ∧ row ≠ some k ∧ cells = List.replicate many (k, []) ∧ last' = last ∧ row' = some k ∧ rest' = r2 ∧ c = 0))) ∨
     (c1 = 0 ∧ many = 0 ∧ ∃ size r2 c2, NumRel r1 0 size r2 c2 ∧
       ((c2 ≠ 0 ∧ Stop cells last' row' rest' c c2) ∨
        (c2 = 0 ∧ 64 < size ∧ Stop cells last' row' rest' c 3) ∨
        (c2 = 0 ∧ size ≤ 64 ∧ ∃ s r3 c3, NumRel r2 0 s r3 c3 ∧
          ((c3 ≠ 0 ∧ Stop cells last' row' rest' c c3) ∨
           (c3 = 0 ∧ (size < s ∨ last.length < s) ∧ Stop cells last' row' rest' c 2) ∨
           (c3 = 0 ∧ s ≤ size ∧ s ≤ last.length ∧
             ((r3.length < size - s ∧ Stop cells last' row' rest' c 2) ∨
              (size - s ≤ r3.length ∧ com (last.take s ++ r3.take (size - s)) last ≠ s ∧ Stop cells last' row' rest' c 2) ∨
              (size - s ≤ r3.length ∧ com (last.take s ++ r3.take (size - s)) last = s ∧ cells = [(1, last.take s ++ r3.take (size - s))] ∧ last' = last.take s ++ r3.take (size - s) ∧ row' = none ∧ rest' = r3.drop (size - s) ∧ c = 0))))))))

theorem Stop.unique {a a' : List CC} {b b' : List Nat} {r r' : Option Nat} {d d' : List Nat} {c c' x : Nat} (h : Stop a b r d c x) (h' : Stop a' b' r' d' c' x) : a = a' ∧ b = b' ∧ r = r' ∧ d = d' ∧ c = c' := by
  obtain ⟨rfl, rfl, rfl, rfl, rfl⟩ := h
  obtain ⟨rfl, rfl, rfl, rfl, rfl⟩ := h'
  exact ⟨rfl, rfl, rfl, rfl, rfl⟩

theorem Item.unique {left : Nat} {last : List Nat} {row : Option Nat} {rest : List Nat} {a a' : List CC} {b b' : List Nat} {r r' : Option Nat} {d d' : List Nat} {c c' : Nat}
    (h : Item left last row rest a b r d c) (h' : Item left last row rest a' b' r' d' c') : a = a' ∧ b = b' ∧ r = r' ∧ d = d' ∧ c = c' := by
  obtain ⟨many, r1, c1, hn, h⟩ := h
  obtain ⟨many', r1', c1', hn', h'⟩ := h'
  obtain ⟨rfl, rfl, rfl⟩ := hn.unique hn'
  rcases h with ⟨h1, h⟩ | ⟨h1, h2, h⟩ | ⟨h1, h2, h3, h⟩ | ⟨h1, h2, h⟩ <;> rcases h' with ⟨g1, g⟩ | ⟨g1, g2, g⟩ | ⟨g1, g2, g3, g⟩ | ⟨g1, g2, g⟩ <;> first | omega | skip
  · exact h.unique g
  · exact h.unique g
  · obtain ⟨k, r2, c2, hk, h⟩ := h
    obtain ⟨k', r2', c2', hk', g⟩ := g
    obtain ⟨rfl, rfl, rfl⟩ := hk.unique hk'
    rcases h with ⟨x1, h⟩ | ⟨x1, x2, h⟩ | ⟨x1, x2, x3, h⟩ <;> rcases g with ⟨y1, g⟩ | ⟨y1, y2, g⟩ | ⟨y1, y2, y3, g⟩ <;> first | omega | skip
    · exact h.unique g
    · exact h.unique g
    · rcases x2 with x2 | x2
      · exact absurd x2 y2
      · exact absurd x2 y3
    · rcases y2 with y2 | y2
      · exact absurd y2 x2
      · exact absurd y2 x3
    · obtain ⟨rfl, rfl, rfl, rfl, rfl⟩ := h
      obtain ⟨rfl, rfl, rfl, rfl, rfl⟩ := g
      exact ⟨rfl, rfl, rfl, rfl, rfl⟩
  · obtain ⟨k, r2, c2, hk, h⟩ := h
    obtain ⟨k', r2', c2', hk', g⟩ := g
    obtain ⟨rfl, rfl, rfl⟩ := hk.unique hk'
    rcases h with ⟨x1, h⟩ | ⟨x1, x2, h⟩ | ⟨x1, x2, h⟩ <;> rcases g with ⟨y1, g⟩ | ⟨y1, y2, g⟩ | ⟨y1, y2, g⟩ <;> first | omega | skip
    · exact h.unique g
    · exact h.unique g
    · obtain ⟨s, r3, c3, hs, h⟩ := h
      obtain ⟨s', r3', c3', hs', g⟩ := g
      obtain ⟨rfl, rfl, rfl⟩ := hs.unique hs'
      rcases h with ⟨x3, h⟩ | ⟨x3, x4, h⟩ | ⟨x3, x4, x5, h⟩ <;> rcases g with ⟨y3, g⟩ | ⟨y3, y4, g⟩ | ⟨y3, y4, y5, g⟩ <;> first | omega | skip
      · exact h.unique g
      · exact h.unique g
      · rcases h with ⟨z1, h⟩ | ⟨z1, z2, h⟩ | ⟨z1, z2, h⟩ <;> rcases g with ⟨w1, g⟩ | ⟨w1, w2, g⟩ | ⟨w1, w2, g⟩ <;> first | omega | skip
        · exact h.unique g
        · exact h.unique g
        · obtain ⟨rfl, rfl, rfl, rfl, rfl⟩ := h
          obtain ⟨rfl, rfl, rfl, rfl, rfl⟩ := g
          exact ⟨rfl, rfl, rfl, rfl, rfl⟩

/-- A run's items, taken: with an error (c is not 0) the cells ahead of it. -/
inductive TI : Nat → List Nat → Option Nat → List Nat → List CC → Nat → List Nat → Prop
  | over {last : List Nat} {row : Option Nat} {rest : List Nat} : TI 0 last row rest [] 0 rest
  | stop {left : Nat} {last : List Nat} {row : Option Nat} {rest : List Nat} {a : List CC} {b : List Nat} {r : Option Nat} {d : List Nat} {c : Nat} : 0 < left → Item left last row rest a b r d c → c ≠ 0 → TI left last row rest [] c []
  | more {left : Nat} {last : List Nat} {row : Option Nat} {rest : List Nat} {a : List CC} {b : List Nat} {r : Option Nat} {d : List Nat} {run : List CC} {c : Nat} {fin : List Nat} :
      0 < left → Item left last row rest a b r d 0 → TI (left - a.length) b r d run c fin → TI left last row rest (a ++ run) c fin

theorem TI.unique {left : Nat} {last : List Nat} {row : Option Nat} {rest : List Nat} {run run' : List CC} {c c' : Nat} {fin fin' : List Nat} (h : TI left last row rest run c fin) (h' : TI left last row rest run' c' fin') : run = run' ∧ c = c' ∧ fin = fin' := by
  induction h generalizing run' c' fin' with
  | over =>
    generalize hz : 0 = z at h'
    cases h' with
    | over => exact ⟨rfl, rfl, rfl⟩
    | stop h1 => omega
    | more h1 => omega
  | stop h1 h2 h3 =>
    cases h' with
    | over => omega
    | stop g1 g2 g3 => obtain ⟨rfl, rfl, rfl, rfl, rfl⟩ := h2.unique g2; exact ⟨rfl, rfl, rfl⟩
    | more g1 g2 _ => exact absurd (h2.unique g2).2.2.2.2 h3
  | more h1 h2 h3 ih =>
    cases h' with
    | over => omega
    | stop g1 g2 g3 => exact absurd (g2.unique h2).2.2.2.2 g3
    | more g1 g2 g4 =>
      obtain ⟨rfl, rfl, rfl, rfl, _⟩ := h2.unique g2
      obtain ⟨rfl, rfl, rfl⟩ := ih g4
      exact ⟨rfl, rfl, rfl⟩

/-- A run, taken: the cells (none, with an error), the error, what is left. -/
def TRun (rest : List Nat) (c : Nat) (run : List CC) (c' : Nat) (fin : List Nat) : Prop :=
  ∃ n r1 c1, NumRel rest c n r1 c1 ∧
    ((c1 ≠ 0 ∧ run = [] ∧ c' = c1 ∧ fin = []) ∨ (c1 = 0 ∧ 64 < n ∧ run = [] ∧ c' = 3 ∧ fin = []) ∨
     (c1 = 0 ∧ n ≤ 64 ∧ ∃ run1 c2 fin1, TI n [] none r1 run1 c2 fin1 ∧ c' = c2 ∧ run = (if c2 = 0 then run1 else []) ∧ fin = (if c2 = 0 then fin1 else [])))

theorem TRun.unique {rest : List Nat} {c : Nat} {run run' : List CC} {d d' : Nat} {fin fin' : List Nat} (h : TRun rest c run d fin) (h' : TRun rest c run' d' fin') : run = run' ∧ d = d' ∧ fin = fin' := by
  obtain ⟨n, r1, c1, hn, h⟩ := h
  obtain ⟨n', r1', c1', hn', h'⟩ := h'
  obtain ⟨rfl, rfl, rfl⟩ := hn.unique hn'
  rcases h with ⟨a, rfl, rfl, rfl⟩ | ⟨a, b, rfl, rfl, rfl⟩ | ⟨a, b, run1, c2, fin1, ht, rfl, rfl, rfl⟩ <;> rcases h' with ⟨a', rfl, rfl, rfl⟩ | ⟨a', b', rfl, rfl, rfl⟩ | ⟨a', b', run1', c2', fin1', ht', rfl, rfl, rfl⟩ <;> first | exact ⟨rfl, rfl, rfl⟩ | omega | skip
  obtain ⟨rfl, rfl, rfl⟩ := ht.unique ht'
  exact ⟨rfl, rfl, rfl⟩

theorem num_of {n : Nat} (hn : U64 n) (r : List Nat) : NumRel (enc n ++ r) 0 n r 0 := .inr (.inl ⟨rfl, hn, rfl, rfl⟩)
theorem num_back {rest r : List Nat} {n : Nat} (h : NumRel rest 0 n r 0) : rest = enc n ++ r ∧ U64 n := by
  rcases h with ⟨h, _⟩ | ⟨_, h1, h2, _⟩ | ⟨_, _, _, h, _⟩
  · exact absurd rfl h
  · exact ⟨h2, h1⟩
  · omega
theorem u64_64 {n : Nat} (h : n ≤ 65536) : U64 n := by unfold U64; omega
theorem within_three {k c : Nat} (h : withinC k c 3 = 0) : c = 0 ∧ k ≤ 3 := by
  unfold withinC at h
  split at h
  · split at h <;> omega
  · next h1 => exact ⟨h, by omega⟩
theorem within_of {k : Nat} (h : k ≤ 3) : withinC k 0 3 = 0 := by unfold withinC; rw [if_neg (by omega)]

theorem lead_split (k : Nat) : ∀ r : List CC, (∀ c ∈ r, c.1 = k → c.2 = []) → r = List.replicate (lead k r) (k, []) ++ r.drop (lead k r) ∧ (∀ c t, r.drop (lead k r) = c :: t → c.1 ≠ k)
  | [], _ => by simp [lead]
  | (j, d) :: r, h => by
    unfold lead
    by_cases hj : j = k
    · subst hj
      obtain ⟨h1, h2⟩ := lead_split j r fun c hc => h c (by simp [hc])
      have hd : d = [] := h (j, d) (by simp) rfl
      rw [if_pos rfl]
      refine ⟨?_, ?_⟩
      · subst hd
        rw [List.replicate_succ, List.cons_append, List.drop_succ_cons, ← h1]
      · rw [List.drop_succ_cons]; exact h2
    · rw [if_neg hj]
      refine ⟨by simp, fun c t he => ?_⟩
      simp only [List.drop_zero, List.cons.injEq] at he
      rw [← he.1]
      exact hj
theorem lead_rep (k : Nat) (n : Nat) (r : List CC) (h : ∀ c t, r = c :: t → c.1 ≠ k) : lead k (List.replicate n (k, []) ++ r) = n := by
  induction n with
  | zero =>
    cases r with
    | nil => rfl
    | cons c t => simp only [List.replicate_zero, List.nil_append]; unfold lead; rw [if_neg (h c t rfl)]
  | succ n ih => rw [List.replicate_succ, List.cons_append]; unfold lead; rw [if_pos rfl, ih]

/-- The first cell isn't of the kind of the row just ahead. -/
def Fits (row : Option Nat) (run : List CC) : Prop := ∀ c t, run = c :: t → c.1 ≠ 1 → row ≠ some c.1

theorem ti_items (rest : List Nat) : ∀ (n : Nat) (run : List CC) (last : List Nat) (row : Option Nat), run.length = n → n ≤ 64 → last.length ≤ 64 → (∀ c ∈ run, okC c) → Fits row run → TI n last row (items last run ++ rest) run 0 rest := by
  intro n
  induction n using Nat.strongRecOn with
  | _ n ih =>
    intro run last row hlen hn hlast hok hfit
    match run, hlen, hok, hfit with
    | [], hlen, _, _ =>
      subst hlen
      rw [items_nil, List.nil_append]
      exact .over
    | (k, d) :: r, hlen, hok, hfit =>
      rw [List.length_cons] at hlen
      obtain ⟨hk3, hd64, hdn, hd8⟩ := hok (k, d) (by simp)
      simp only at hk3 hd64 hdn hd8
      by_cases hk1 : k = 1
      · subst hk1
        rw [items_data]
        have hc1 := com_le_left d last
        have hc2 := com_le_right d last
        have hct := com_take d last
        have hrec := ih (n - 1) (by omega) r d none (by omega) (by omega) hd64 (fun c hc => hok c (by simp [hc])) (fun c t _ _ => by simp)
        generalize hs : com d last = s at hc1 hc2 hct ⊢
        have htext : last.take s ++ d.drop s = d := by rw [← hct, List.take_append_drop]
        have hr3 : (d.drop s ++ (items d r ++ rest)).take (d.length - s) = d.drop s := List.take_left' (by simp)
        have hr4 : (d.drop s ++ (items d r ++ rest)).drop (d.length - s) = items d r ++ rest := List.drop_left' (by simp)
        have hit : Item n last row (enc 0 ++ (enc d.length ++ (enc s ++ (d.drop s ++ items d r))) ++ rest) [(1, d)] d none (items d r ++ rest) 0 := by
          refine ⟨0, _, 0, ?_, .inr (.inr (.inr ⟨rfl, rfl, d.length, _, 0, num_of (u64_64 (by omega)) (enc s ++ (d.drop s ++ (items d r ++ rest))), .inr (.inr ⟨rfl, hd64, s, _, 0, num_of (u64_64 (by omega)) (d.drop s ++ (items d r ++ rest)), .inr (.inr ⟨rfl, hc1, hc2, .inr (.inr ⟨?_, ?_, ?_, ?_, rfl, ?_, rfl⟩)⟩)⟩)⟩))⟩
          · have := num_of (u64_64 (show 0 ≤ 65536 by omega)) (enc d.length ++ (enc s ++ (d.drop s ++ (items d r ++ rest))))
            simpa [List.append_assoc] using this
          · simp
          · rw [hr3, htext]; exact hs
          · rw [hr3, htext]
          · rw [hr3, htext]
          · rw [hr4]
        exact TI.more (by omega) hit (by simpa using hrec)
      · have hd0 : d = [] := hdn hk1
        subst hd0
        rw [items_row _ _ _ _ hk1]
        have hzero : ∀ c ∈ r, c.1 = k → c.2 = [] := fun c hc hck => (hok c (by simp [hc])).2.2.1 (by rw [hck]; exact hk1)
        obtain ⟨hsp, hnext⟩ := lead_split k r hzero
        have hle := lead_le k r
        have hrec := ih (n - (lead k r + 1)) (by omega) (r.drop (lead k r)) last (some k) (by rw [List.length_drop]; omega) (by omega) hlast (fun c hc => hok c (by simp [List.mem_of_mem_drop hc])) (fun c t he _ h => hnext c t he (Option.some.inj h).symm)
        generalize lead k r = m at hsp hnext hle hrec ⊢
        have hit : Item n last row (enc (m + 1) ++ (enc k ++ items last (r.drop m)) ++ rest) (List.replicate (m + 1) (k, [])) last (some k) (items last (r.drop m) ++ rest) 0 := by
          refine ⟨m + 1, _, 0, ?_, .inr (.inr (.inl ⟨rfl, by omega, by omega, k, _, 0, num_of (u64_64 (by omega)) (items last (r.drop m) ++ rest), .inr (.inr ⟨within_of hk3, hk1, hfit (k, []) r rfl hk1, rfl, rfl, rfl, rfl, rfl⟩)⟩))⟩
          have := num_of (u64_64 (show m + 1 ≤ 65536 by omega)) (enc k ++ (items last (r.drop m) ++ rest))
          simpa [List.append_assoc] using this
        have hrun : (k, ([] : List Nat)) :: r = List.replicate (m + 1) (k, []) ++ r.drop m := by rw [List.replicate_succ, List.cons_append, ← hsp]
        rw [hrun]
        exact TI.more (by omega) hit (by simpa using hrec)

theorem items_ti {left : Nat} {last : List Nat} {row : Option Nat} {rest : List Nat} {run : List CC} {c : Nat} {fin : List Nat} (h : TI left last row rest run c fin) :
    c = 0 → last.length ≤ 64 → (∀ y ∈ last, y < 256) → (∀ y ∈ rest, y < 256) → rest = items last run ++ fin ∧ run.length = left ∧ Fits row run ∧ ∀ x ∈ run, okC x := by
  induction h with
  | over => intro _ _ _ _; exact ⟨by rw [items_nil, List.nil_append], rfl, fun c t h => by simp at h, by simp⟩
  | stop _ _ h3 => intro h; exact absurd h h3
  | @more left last row rest a b r d run c fin h1 h2 h3 ih =>
    intro hc hlast hl8 hr8
    obtain ⟨many, r1, c1, hn, h⟩ := h2
    rcases h with ⟨x1, h⟩ | ⟨x1, x2, h⟩ | ⟨x1, x2, x3, k, r2, c2, hk, h⟩ | ⟨x1, x2, size, r2, c2, hz, h⟩
    · exact absurd h.2.2.2.2.symm x1
    · exact absurd h.2.2.2.2 (by decide)
    · rcases h with ⟨y1, h⟩ | ⟨y1, y2, h⟩ | ⟨y1, y2, y3, rfl, rfl, rfl, rfl, _⟩
      · exact absurd h.2.2.2.2.symm y1
      · exact absurd h.2.2.2.2 (by decide)
      · obtain ⟨rfl, hk3⟩ := within_three y1
        subst x1
        obtain ⟨rfl, _⟩ := num_back hn
        obtain ⟨rfl, _⟩ := num_back hk
        obtain ⟨e1, e2, e3, e4⟩ := ih hc hlast hl8 (fun y hy => hr8 y (by simp [hy]))
        obtain ⟨m, rfl⟩ : ∃ m, many = m + 1 := ⟨many - 1, by omega⟩
        have hlead : lead k (List.replicate m (k, []) ++ run) = m := lead_rep k m run fun c t he hck => by
          have := e3 c t he (by rw [hck]; exact y2)
          exact this (by rw [hck])
        refine ⟨?_, ?_, ?_, ?_⟩
        · rw [List.replicate_succ, List.cons_append, items_row _ _ _ _ y2, hlead, List.drop_left' (by simp), e1]
          simp [List.append_assoc]
        · rw [List.length_append, List.length_replicate, e2, List.length_replicate]; omega
        · intro c t he
          rw [List.replicate_succ, List.cons_append] at he
          obtain ⟨rfl, _⟩ := List.cons.inj he
          intro _
          exact y3
        · intro x hx
          rcases List.mem_append.1 hx with hx | hx
          · obtain ⟨_, rfl⟩ := List.mem_replicate.1 hx
            exact ⟨hk3, by simp, fun _ => rfl, by simp⟩
          · exact e4 x hx
    · rcases h with ⟨y1, h⟩ | ⟨y1, y2, h⟩ | ⟨y1, y2, s, r3, c3, hs, h⟩
      · exact absurd h.2.2.2.2.symm y1
      · exact absurd h.2.2.2.2 (by decide)
      · rcases h with ⟨z1, h⟩ | ⟨z1, z2, h⟩ | ⟨z1, z2, z3, h⟩
        · exact absurd h.2.2.2.2.symm z1
        · exact absurd h.2.2.2.2 (by decide)
        · rcases h with ⟨w1, h⟩ | ⟨w1, w2, h⟩ | ⟨w1, w2, rfl, rfl, rfl, rfl, _⟩
          · exact absurd h.2.2.2.2 (by decide)
          · exact absurd h.2.2.2.2 (by decide)
          · subst x1 y1 z1 x2
            obtain ⟨rfl, _⟩ := num_back hn
            obtain ⟨rfl, _⟩ := num_back hz
            obtain ⟨rfl, _⟩ := num_back hs
            have hlen : (last.take s ++ r3.take (size - s)).length = size := by rw [List.length_append, List.length_take, List.length_take]; omega
            have h38 : ∀ y ∈ r3, y < 256 := fun y hy => hr8 y (by simp [hy])
            have ht8 : ∀ y ∈ last.take s ++ r3.take (size - s), y < 256 := fun y hy => (List.mem_append.1 hy).elim (fun h => hl8 y (List.mem_of_mem_take h)) (fun h => h38 y (List.mem_of_mem_take h))
            obtain ⟨e1, e2, e3, e4⟩ := ih hc (by omega) ht8 (fun y hy => h38 y (List.mem_of_mem_drop hy))
            have hdrop : (last.take s ++ r3.take (size - s)).drop s = r3.take (size - s) := List.drop_left' (by rw [List.length_take]; omega)
            refine ⟨?_, ?_, ?_, ?_⟩
            · rw [List.singleton_append, items_data, w2, hlen, hdrop]
              have hr3 : r3 = r3.take (size - s) ++ (items (last.take s ++ r3.take (size - s)) run ++ fin) := by rw [← e1, List.take_append_drop]
              conv => lhs; rw [hr3]
              simp [List.append_assoc]
            · rw [List.singleton_append, List.length_cons, e2]
              simp
              omega
            · intro c t he
              rw [List.singleton_append] at he
              obtain ⟨rfl, _⟩ := List.cons.inj he
              intro h
              exact absurd rfl h
            · intro x hx
              rcases List.mem_append.1 hx with hx | hx
              · obtain rfl : x = _ := by simpa using hx
                exact ⟨show (1 : Nat) ≤ 3 by decide, by rw [hlen]; exact y2, fun h => absurd rfl h, ht8⟩
              · exact e4 x hx

/-- What is put is taken as it was. -/
theorem trun_rbytes {run : List CC} (hl : run.length ≤ 64) (hok : ∀ c ∈ run, okC c) (rest : List Nat) : TRun (rbytes run ++ rest) 0 run 0 rest := by
  refine ⟨run.length, items [] run ++ rest, 0, ?_, .inr (.inr ⟨rfl, hl, run, 0, rest, ti_items rest _ run [] none rfl hl (by simp) hok (fun c t _ _ => by simp), rfl, rfl, rfl⟩)⟩
  have := num_of (u64_64 (show run.length ≤ 65536 by omega)) (items [] run ++ rest)
  simpa [rbytes, List.append_assoc] using this

/-- What is taken has just those bytes. -/
theorem rbytes_trun {rest fin : List Nat} {run : List CC} (hb : ∀ y ∈ rest, y < 256) (h : TRun rest 0 run 0 fin) : rest = rbytes run ++ fin ∧ run.length ≤ 64 ∧ ∀ c ∈ run, okC c := by
  obtain ⟨n, r1, c1, hn, h⟩ := h
  rcases h with ⟨a, _, h, _⟩ | ⟨_, _, _, h, _⟩ | ⟨rfl, hn64, run1, c2, fin1, ht, rfl, rfl, rfl⟩
  · exact absurd h.symm a
  · omega
  · obtain ⟨rfl, _⟩ := num_back hn
    obtain ⟨e1, e2, _, e4⟩ := items_ti ht rfl (by simp) (by simp) (fun y hy => hb y (by simp [hy]))
    refine ⟨?_, by omega, e4⟩
    unfold rbytes
    rw [e2, List.append_assoc, ← e1]

end Go.Proofs.YtiaijpknnomlnaaGreat
