/- The mathematics of the sums (no code): steps of a register of bits, runs over bytes, what turned bits change. · Frames, as the document says them: numbers and lists; nothing of the program. · sync.Once, one goroutine: what its slow road defers, its lock, the road itself over any function that leaves the lock as it is, and Do; atomic counts. · sync.Once's slow road and Do, one goroutine, over any function that leaves Once's own cells as they are. · Atomic counts, one goroutine: Add and Load of a sync/atomic.Int64. · The contracts of the document's own sums. · What a maker takes in, byte by byte, and its table. · A maker at a block, and what its parts do: count, takeAll, extend. · A maker's table is made once, and used: takeAll, extend. · The fixed fact at the head of the crc statements: the chapter's example. · What is sealed, and opened, by a maker. -/
import Derived.Laws.BitsAllLaws
import Derived.Test.YtgnalcobcdgnkaaGreatDoorEnP
import Derived.Test.YtgnalcobcdgnkaaGreatDoorRows
import Derived.Test.YtgnalcobcdgnkaaGreatDoorBase
import Derived.WalkKit
import Derived.Defers
import Derived.Laws.Pointers
import Derived.Laws.LoneSync
import Derived.RegionCalls
import Derived.ChangeAlike
import Derived.WalkSpells
import Derived.Deep.RegionHeld3
import Derived.StillTailTactics
import Derived.Test.YtgnalcobcdgnkaaGreatDoorDaP
import Derived.Lib.SlBytesConst
namespace Go.Proofs.YtgnalcobcdgnkaaGreatDoor

def cstep (x : Nat) : Nat := if x % 2 = 1 then (x / 2) ^^^ 2197175160 else x / 2
def csteps : Nat → Nat → Nat
  | 0, x => x
  | n + 1, x => csteps n (cstep x)
def ctake (x b : Nat) : Nat := csteps 8 (x ^^^ b)
def crun (x : Nat) (l : List Nat) : Nat := l.foldl ctake x
/-- The sum of l behind bytes whose sum is s. -/
def crcx (s : Nat) (l : List Nat) : Nat := crun (s ^^^ 4294967295) l ^^^ 4294967295
theorem cstep_xor (x y : Nat) : cstep (x ^^^ y) = cstep x ^^^ cstep y := by
  unfold cstep
  have h1 : (x ^^^ y) / 2 = x / 2 ^^^ y / 2 := Nat.xor_div_two
  have h2 : (x ^^^ y) % 2 = (x + y) % 2 := by
    have := @Nat.xor_mod_two_pow x y 1
    rw [Nat.pow_one] at this
    rw [this]
    rcases Nat.mod_two_eq_zero_or_one x with hx | hx <;> rcases Nat.mod_two_eq_zero_or_one y with hy | hy <;> rw [hx, hy, Nat.add_mod, hx, hy]
    all_goals decide
  rw [h1, h2]
  rcases Nat.mod_two_eq_zero_or_one x with hx | hx <;> rcases Nat.mod_two_eq_zero_or_one y with hy | hy
  · rw [if_neg (by omega), if_neg (by omega), if_neg (by omega)]
  · rw [if_pos (by omega), if_neg (by omega), if_pos (by omega), Nat.xor_assoc]
  · rw [if_pos (by omega), if_pos (by omega), if_neg (by omega), Nat.xor_assoc, Nat.xor_assoc, Nat.xor_comm (y / 2)]
  · rw [if_neg (by omega), if_pos (by omega), if_pos (by omega), Nat.xor_assoc, ← Nat.xor_assoc 2197175160, Nat.xor_comm 2197175160 (y / 2), Nat.xor_assoc (y / 2), Nat.xor_self, Nat.xor_zero]

theorem csteps_xor (n : Nat) : ∀ x y, csteps n (x ^^^ y) = csteps n x ^^^ csteps n y := by
  induction n with
  | zero => intro x y; rfl
  | succ n ih => intro x y; rw [csteps, csteps, csteps, cstep_xor, ih]

theorem csteps_add (m n : Nat) : ∀ x, csteps (m + n) x = csteps n (csteps m x) := by
  induction m with
  | zero => intro x; rw [Nat.zero_add]; rfl
  | succ m ih => intro x; rw [show m + 1 + n = (m + n) + 1 from by omega, csteps, csteps, ih]

theorem cstep_two (x : Nat) : cstep (2 * x) = x := by
  unfold cstep
  rw [if_neg (by omega)]
  omega

theorem csteps_pow (n : Nat) : ∀ x, csteps n (2 ^ n * x) = x := by
  induction n with
  | zero => intro x; rw [csteps]; omega
  | succ n ih => intro x; rw [csteps, Nat.pow_succ, Nat.mul_comm (2 ^ n) 2, Nat.mul_assoc, cstep_two, ih]

theorem cstep_lt {x : Nat} (h : x < 4294967296) : cstep x < 4294967296 := by
  unfold cstep
  split
  · exact Nat.xor_lt_two_pow (n := 32) (by omega) (by omega)
  · omega

theorem csteps_lt (n : Nat) : ∀ {x}, x < 4294967296 → csteps n x < 4294967296 := by
  induction n with
  | zero => intro x h; exact h
  | succ n ih => intro x h; exact ih (cstep_lt h)

theorem ctake_lt {x b : Nat} (h : x < 4294967296) (hb : b < 256) : ctake x b < 4294967296 :=
  csteps_lt 8 (Nat.xor_lt_two_pow (n := 32) h (by omega))

theorem crun_lt : ∀ (l : List Nat) {x : Nat}, x < 4294967296 → (∀ y ∈ l, y < 256) → crun x l < 4294967296
  | [], _, h, _ => h
  | b :: l, _, h, hl => crun_lt l (ctake_lt h (hl b (by simp))) (fun y hy => hl y (by simp [hy]))

theorem crcx_lt {l : List Nat} {s : Nat} (h : s < 4294967296) (hl : ∀ y ∈ l, y < 256) : crcx s l < 4294967296 :=
  Nat.xor_lt_two_pow (n := 32) (crun_lt l (Nat.xor_lt_two_pow (n := 32) h (by omega)) hl) (by omega)

theorem crun_append (x : Nat) (a b : List Nat) : crun x (a ++ b) = crun (crun x a) b := List.foldl_append

/-- A register's next one by a table of 256 numbers. -/
theorem csteps_table (x : Nat) : csteps 8 x = csteps 8 (x % 256) ^^^ x / 256 := by
  have h : x = (x % 256) ^^^ 2 ^ 8 * (x / 256) := by
    apply Nat.eq_of_testBit_eq
    intro i
    rw [Nat.testBit_xor, show (256 : Nat) = 2 ^ 8 from rfl, Nat.testBit_mod_two_pow, Nat.testBit_two_pow_mul, Nat.testBit_div_two_pow]
    by_cases hi : i < 8
    · simp [hi, Nat.not_le.2 hi]
    · simp [hi, Nat.le_of_not_lt hi, Nat.sub_add_cancel (Nat.le_of_not_lt hi)]
  rw [congrArg (csteps 8) h, csteps_xor, csteps_pow]

theorem ctake_table {x b : Nat} (hb : b < 256) : ctake x b = csteps 8 ((x ^^^ b) % 256) ^^^ x / 256 := by
  unfold ctake
  rw [csteps_table (x ^^^ b)]
  congr 1
  have := @Nat.xor_div_two_pow x b 8
  rw [show (256 : Nat) = 2 ^ 8 from rfl, this, Nat.div_eq_of_lt (show b < 2 ^ 8 from hb), Nat.xor_zero]

/-- A sum's four bytes, the highest first. -/
def four (x : Nat) : List Nat := [x / 16777216 % 256, x / 65536 % 256, x / 256 % 256, x % 256]

theorem four_byte (x : Nat) : ∀ y ∈ four x, y < 256 := by
  intro y hy
  simp only [four, List.mem_cons, List.not_mem_nil, or_false] at hy
  omega

end Go.Proofs.YtgnalcobcdgnkaaGreatDoor

namespace Go.Proofs.YtgnalcobcdgnkaaGreatDoor

/-- A text's bytes: their number, and they. -/
def fbody (t : List Nat) : List Nat := enc t.length ++ t
/-- A text's frame. -/
def fr (t : List Nat) : List Nat := fbody t ++ four (crcx 0 (fbody t))
/-- Frames, one behind the other. -/
def frs (ls : List (List Nat)) : List Nat := (ls.map fr).flatten

theorem frs_append (a b : List (List Nat)) : frs (a ++ b) = frs a ++ frs b := by simp [frs]
theorem frs_one (t : List Nat) : frs [t] = fr t := by simp [frs]

/-- How many bytes a text's frame has. -/
def fsize (t : List Nat) : Nat := (enc t.length).length + t.length + 4
theorem fr_length (t : List Nat) : (fr t).length = fsize t := by simp [fr, fbody, fsize, four]; omega
theorem fsize_ge (t : List Nat) : t.length + 5 ≤ fsize t := by have := enc_pos t.length; unfold fsize; omega
theorem fbody_length (t : List Nat) : (fbody t).length = (enc t.length).length + t.length := by simp [fbody]

theorem fbody_byte {t : List Nat} (ht : ∀ y ∈ t, y < 256) (hu : U64 t.length) : ∀ y ∈ fbody t, y < 256 := app_byte (enc_u64 hu) ht
theorem fr_byte {t : List Nat} (ht : ∀ y ∈ t, y < 256) (hu : U64 t.length) : ∀ y ∈ fr t, y < 256 := app_byte (fbody_byte ht hu) (four_byte _)
/-- What bytes begin with: the text, how many bytes its frame has, the error's number. -/
def FT (b t : List Nat) (s c : Nat) : Prop :=
  (c = 2 ∧ t = [] ∧ s = 0 ∧ ∀ m, U64 m → ¬ enc m <+: b) ∨
  ∃ n, U64 n ∧ enc n <+: b ∧
    ((c = 3 ∧ t = [] ∧ s = 0 ∧ 65536 < n) ∨
     (c = 2 ∧ t = [] ∧ s = 0 ∧ n ≤ 65536 ∧ b.length < (enc n).length + n + 4) ∨
     (c = 11 ∧ t = [] ∧ s = 0 ∧ n ≤ 65536 ∧ (enc n).length + n + 4 ≤ b.length ∧ four (crcx 0 (b.take ((enc n).length + n))) ≠ (b.drop ((enc n).length + n)).take 4) ∨
     (c = 0 ∧ t = (b.take ((enc n).length + n)).drop (enc n).length ∧ s = (enc n).length + n + 4 ∧ n ≤ 65536 ∧ (enc n).length + n + 4 ≤ b.length ∧ four (crcx 0 (b.take ((enc n).length + n))) = (b.drop ((enc n).length + n)).take 4))

theorem FT.unique {b t t' : List Nat} {s s' c c' : Nat} (h : FT b t s c) (h' : FT b t' s' c') : t = t' ∧ s = s' ∧ c = c' := by
  rcases h with ⟨h1, h2, h3, h4⟩ | ⟨n, hn, hp, h⟩ <;> rcases h' with ⟨g1, g2, g3, g4⟩ | ⟨m, gn, gp, g⟩
  · exact ⟨by rw [h2, g2], by rw [h3, g3], by rw [h1, g1]⟩
  · exact absurd gp (h4 _ gn)
  · exact absurd hp (g4 _ hn)
  · obtain rfl := enc_prefix_unique hp gp
    rcases h with ⟨h1, h2, h3, h4⟩ | ⟨h1, h2, h3, h4, h5⟩ | ⟨h1, h2, h3, h4, h5, h6⟩ | ⟨h1, h2, h3, h4, h5, h6⟩ <;>
    rcases g with ⟨g1, g2, g3, g4⟩ | ⟨g1, g2, g3, g4, g5⟩ | ⟨g1, g2, g3, g4, g5, g6⟩ | ⟨g1, g2, g3, g4, g5, g6⟩ <;>
    first
      | omega
      | exact absurd g6 h6
      | exact absurd h6 g6
      | exact ⟨by rw [h2, g2], by rw [h3, g3], by rw [h1, g1]⟩

theorem FT.bad {b t : List Nat} {s c : Nat} (h : FT b t s c) (hc : c ≠ 0) : t = [] ∧ s = 0 := by
  rcases h with ⟨h1, h2, h3, h4⟩ | ⟨n, hn, hp, h⟩
  · exact ⟨h2, h3⟩
  · rcases h with ⟨h1, h2, h3, h4⟩ | ⟨h1, h2, h3, h4, h5⟩ | ⟨h1, h2, h3, h4, h5, h6⟩ | ⟨h1, h2, h3, h4, h5, h6⟩
    · exact ⟨h2, h3⟩
    · exact ⟨h2, h3⟩
    · exact ⟨h2, h3⟩
    · exact absurd h1 hc

theorem FT.good {b t : List Nat} {s : Nat} (h : FT b t s 0) : 5 ≤ s ∧ s ≤ b.length ∧ t.length ≤ 65536 ∧ t.length ≤ s ∧ (∀ x ∈ t, x ∈ b) := by
  rcases h with ⟨h1, h2, h3, h4⟩ | ⟨n, hn, hp, h⟩
  · omega
  · rcases h with ⟨h1, h2, h3, h4⟩ | ⟨h1, h2, h3, h4, h5⟩ | ⟨h1, h2, h3, h4, h5, h6⟩ | ⟨h1, h2, h3, h4, h5, h6⟩
    · omega
    · omega
    · omega
    · have := enc_pos n
      subst h2
      refine ⟨by omega, by omega, ?_, ?_, fun x hx => List.mem_of_mem_take (List.mem_of_mem_drop hx)⟩
      · simp only [List.length_drop, List.length_take]; omega
      · simp only [List.length_drop, List.length_take]; omega

theorem FT.code {b t : List Nat} {s c : Nat} (h : FT b t s c) : c = 0 ∨ c = 2 ∨ c = 3 ∨ c = 11 := by
  rcases h with ⟨h1, _⟩ | ⟨n, _, _, h⟩
  · omega
  · rcases h with ⟨h1, _⟩ | ⟨h1, _⟩ | ⟨h1, _⟩ | ⟨h1, _⟩ <;> omega

/-- The texts of the frames ahead of the first one that has an error, how many bytes these have, that error's number (none: 0). -/
inductive Led : List Nat → List (List Nat) → Nat → Nat → Prop
  | over : Led [] [] 0 0
  | bad {b : List Nat} {c : Nat} : b ≠ [] → FT b [] 0 c → c ≠ 0 → Led b [] 0 c
  | more {b t : List Nat} {s : Nat} {ls : List (List Nat)} {k c : Nat} : FT b t s 0 → Led (b.drop s) ls k c → Led b (t :: ls) (s + k) c

theorem Led.unique {b : List Nat} {ls ls' : List (List Nat)} {k k' c c' : Nat} (h : Led b ls k c) (h' : Led b ls' k' c') : ls = ls' ∧ k = k' ∧ c = c' := by
  induction h generalizing ls' k' c' with
  | over =>
    cases h' with
    | over => exact ⟨rfl, rfl, rfl⟩
    | bad h1 => exact absurd rfl h1
    | more h1 _ => have := h1.good; simp at this; omega
  | bad h1 h2 h3 =>
    cases h' with
    | over => exact absurd rfl h1
    | bad g1 g2 g3 => exact ⟨rfl, rfl, (h2.unique g2).2.2⟩
    | more g1 _ => exact absurd (h2.unique g1).2.2 h3
  | more h1 h2 ih =>
    cases h' with
    | over => have := h1.good; simp at this; omega
    | bad g1 g2 g3 => exact absurd (g2.unique h1).2.2 g3
    | more g1 g2 =>
      obtain ⟨rfl, rfl, _⟩ := h1.unique g1
      obtain ⟨rfl, rfl, rfl⟩ := ih g2
      exact ⟨rfl, rfl, rfl⟩

theorem Led.le {b : List Nat} {ls : List (List Nat)} {k c : Nat} (h : Led b ls k c) : k ≤ b.length ∧ 5 * ls.length ≤ k := by
  induction h with
  | over => simp
  | bad => simp
  | more h1 _ ih =>
    have := h1.good
    simp only [List.length_drop] at ih
    simp only [List.length_cons]
    omega

theorem Led.texts {b : List Nat} {ls : List (List Nat)} {k c : Nat} (h : Led b ls k c) : ∀ t ∈ ls, ∀ x ∈ t, x ∈ b := by
  induction h with
  | over => simp
  | bad => simp
  | more h1 _ ih =>
    intro t ht x hx
    rcases List.mem_cons.1 ht with rfl | ht
    · exact h1.good.2.2.2.2 x hx
    · exact List.mem_of_mem_drop (ih t ht x hx)

theorem Led.all {b : List Nat} {ls : List (List Nat)} {k : Nat} (h : Led b ls k 0) : k = b.length := by
  generalize hc : 0 = c at h
  induction h with
  | over => rfl
  | bad _ _ h3 => exact absurd hc.symm h3
  | more h1 _ ih =>
    have := h1.good
    have := ih hc
    simp only [List.length_drop] at this
    omega

theorem u64_small {n : Nat} (h : n ≤ 65536) : U64 n := by unfold U64; omega

/-- How many frames are whole within k bytes. -/
def whole : List (List Nat) → Nat → Nat
  | [], _ => 0
  | t :: ls, k => if fsize t ≤ k then whole ls (k - fsize t) + 1 else 0

end Go.Proofs.YtgnalcobcdgnkaaGreatDoor

namespace Go.Proofs.YtgnalcobcdgnkaaGreatDoor
open Go.RowKit

theorem mark_disable (w : World) : (callFunc 90 #[]).run Tryz.prog w = .ok (.value (.tuple #[])) w := run_call_mark0 Tryz.func90 (by kernel_rfl) (by kernel_rfl) (by kernel_rfl) .disable (by kernel_rfl) w
theorem mark_enable (w : World) : (callFunc 92 #[]).run Tryz.prog w = .ok (.value (.tuple #[])) w := run_call_mark0 Tryz.func92 (by kernel_rfl) (by kernel_rfl) (by kernel_rfl) .enable (by kernel_rfl) w
theorem mark_acquire (a : Addr) (w : World) : (callFunc 93 #[.pointer (some a)]).run Tryz.prog w = .ok (.value (.tuple #[])) w := run_call_marked Tryz.func93 (by kernel_rfl) (by kernel_rfl) (by kernel_rfl) .acquire (by kernel_rfl) a w
theorem mark_release (a : Addr) (w : World) : (callFunc 95 #[.pointer (some a)]).run Tryz.prog w = .ok (.value (.tuple #[])) w := run_call_marked Tryz.func95 (by kernel_rfl) (by kernel_rfl) (by kernel_rfl) .releaseMerge (by kernel_rfl) a w

/-- Once's mark is set, as a deferred call. -/
theorem store_deferred (a : Addr) (x : Value) (u : FrameMode) (w : World) (hc : w.cell? a = some x) (hz : w.frozen? a = false) :
    CallsD Tryz.prog 85 #[.pointer (some a), .bool true] u w fun e u' w' => u' = u ∧ (e = .returned (.tuple #[]) ∧ w' = w.drew.setCell a (.int .u32 1)) := by
  have hc' : w.drew.cell? a = some x := by go_simp
  have hz' : w.drew.frozen? a = false := by go_simp
  have hst := run_call_store (P := Tryz.prog) Tryz.func88 (by kernel_rfl) (by kernel_rfl) (by kernel_rfl) (by kernel_rfl) (k := .u32) (y := 1) hc' hz'
  go_enter_d Tryz.func85, Tryz.ntmps85
  go_wp2
  go_region_calls
  all_goals (go_end0; exact ⟨rfl, rfl⟩)

set_option maxRecDepth 100000 in
/-- The lock is let go, as a deferred call. -/
theorem unlock_deferred (a : Addr) (u : FrameMode) (w : World) (hc : w.cell? a = some (.int .i32 1)) (hz : w.frozen? a = false) :
    CallsD Tryz.prog 84 #[.pointer (some a)] u w fun e u' w' => u' = u ∧ (e = .returned (.tuple #[]) ∧ w' = w.setCell a (.int .i32 0)) := by
  have hd := mark_disable
  have he := mark_enable
  have hr := mark_release
  have hadd := run_call_add (P := Tryz.prog) Tryz.func96 (by kernel_rfl) (by kernel_rfl) (by kernel_rfl) .i32 (by kernel_rfl) (y := -1) (s := 0) hc hz (by simp [go_sem]; rfl)
  have hcv := run_convert_to_unsafe (P := Tryz.prog) (src := 161) (dst := 165) Tryz.underlying161 Tryz.underlying165 (by kernel_rfl) hc
  go_enter_d Tryz.func84, Tryz.ntmps84
  go_wp2
  go_end0
  go_wp2
  go_end0
  exact ⟨rfl, rfl⟩

set_option maxRecDepth 100000 in
/-- The lock is taken, free as it is. -/
theorem lock_free (a : Addr) (w : World) (hc : w.cell? a = some (.int .i32 0)) (hz : w.frozen? a = false) :
    Calls Tryz.prog 83 #[.pointer (some a)] w fun e w' => e = .returned (.tuple #[]) ∧ w' = w.setCell a (.int .i32 1) := by
  have hd := mark_disable
  have he := mark_enable
  have ha := mark_acquire
  have hcas := run_call_cas_hit (P := Tryz.prog) Tryz.func91 (by kernel_rfl) (by kernel_rfl) (by kernel_rfl) .i32 (by kernel_rfl) (y := 1) hc hz
  have hc' : (w.setCell a (.int .i32 1)).cell? a = some (.int .i32 1) := World.cell?_setCell_same w a _ hc
  have hcv := run_convert_to_unsafe (P := Tryz.prog) (src := 161) (dst := 165) Tryz.underlying161 Tryz.underlying165 (by kernel_rfl) hc'
  go_enter Tryz.func83, Tryz.ntmps83
  go_wp2
  first | go_end0 | (simp only [Exit.inBlock, Exit.then]; refine bodyPost_ret (results_none rfl _ _ _) rfl ?_) | refine bodyPost_ret (results_none rfl _ _ _) rfl ?_
  go_wp2
  go_end0
  exact ⟨rfl, rfl⟩

end Go.Proofs.YtgnalcobcdgnkaaGreatDoor

namespace Go.Proofs.YtgnalcobcdgnkaaGreatDoor
open Go.RowKit

/-- Once's cells: not done, the lock in the state l. -/
structure Undone (w : World) (b off : Nat) (l : Int) : Prop where
  done : w.cell? ⟨b, off, none⟩ = some (.int .u32 0)
  lock : w.cell? ⟨b, off + 1, none⟩ = some (.int .i32 l)
  fdone : w.frozen? ⟨b, off, none⟩ = false
  flock : w.frozen? ⟨b, off + 1, none⟩ = false

set_option maxRecDepth 100000 in
set_option maxHeartbeats 1600000 in
theorem slow_any (b off K : Nat) (caps : Array Value) (hK : ∀ (args : Array Value) (w : World), (callFunc K args).run Tryz.prog w = .ok (.enter K args) w) (R : World → Prop) (w : World) (h : Undone w b off 0)
    (hf : Calls Tryz.prog K caps (w.setCell ⟨b, off + 1, none⟩ (.int .i32 1)) fun e w' => e = .returned (.tuple #[]) ∧ Undone w' b off 1 ∧ R w') :
    Calls Tryz.prog 81 #[.pointer (some ⟨b, off, none⟩), .func (.func K) caps #[]] w fun e w' => e = .returned (.tuple #[]) ∧
      ∃ w2, R w2 ∧ Undone w2 b off 1 ∧ w' = (w2.drew.setCell ⟨b, off, none⟩ (.int .u32 1)).setCell ⟨b, off + 1, none⟩ (.int .i32 0) := by
  obtain ⟨h0, h1, f0, f1⟩ := h
  have hl := run_call_load (P := Tryz.prog) Tryz.func82 (by kernel_rfl) (by kernel_rfl) (by kernel_rfl) .u32 (by kernel_rfl) (w := w.setCell ⟨b, off + 1, none⟩ (.int .i32 1)) (a := ⟨b, off, none⟩) (x := 0) ((World.cell?_setCell_other _ ⟨b, off + 1, none⟩ ⟨b, off, none⟩ _ (by simp)).trans h0)
  have hnot : ∀ (x : Bool) (w : World), (Op.unary .not (.bool x)).run Tryz.prog w = .ok (.bool (!x)) w := fun _ _ => rfl
  have HF := Lib.hid hf; clear hf
  go_enter_defers Tryz.func81, Tryz.ntmps81
  go_wp2_with (go_at_call 83; refine (lock_free ⟨b, off + 1, none⟩ _ (by go_simp) (by go_simp)).mono ?_; rintro e w' ⟨rfl, rfl⟩)
  go_wp2
  refine HF.out.mono ?_
  rintro e w2 ⟨rfl, hu, hr⟩
  obtain ⟨g0, g1, k0, k1⟩ := hu
  have hu : Undone w2 b off 1 := ⟨g0, g1, k0, k1⟩
  go_wp2
  refine leaves_cons (f := 85) (args := #[.pointer (some ⟨b, off, none⟩), .bool true]) (by simp) (by simp [go_sem]) ?_
  refine (store_deferred ⟨b, off, none⟩ (.int .u32 0) .returning _ g0 (by simp [k0])).mono ?_
  rintro e u' w'' ⟨rfl, rfl, rfl⟩
  refine leaves_cons (f := 84) (args := #[.pointer (some ⟨b, off + 1, none⟩)]) (by simp [settle]) (by simp [go_sem]) ?_
  refine (unlock_deferred ⟨b, off + 1, none⟩ _ _ ?_ (by simp [k1])).mono ?_
  · refine (World.cell?_setCell_other _ ⟨b, off, none⟩ ⟨b, off + 1, none⟩ _ (by simp)).trans ?_
    rw [World.cell?_drew]
    exact g1
  rintro e u' w'' ⟨rfl, rfl, rfl⟩
  simp [Leaves, settle, results, Tryz.results81]
  exact ⟨w2, hr, hu, rfl⟩

set_option maxRecDepth 100000 in
set_option maxHeartbeats 1600000 in
/-- Do, not yet done, the lock free: the function is called, once; its mark is set; the lock is free again. -/
theorem do_first (b off K : Nat) (caps : Array Value) (hK : ∀ (args : Array Value) (w : World), (callFunc K args).run Tryz.prog w = .ok (.enter K args) w) (R : World → Prop) (w : World) (h : Undone w b off 0)
    (hf : Calls Tryz.prog K caps (w.setCell ⟨b, off + 1, none⟩ (.int .i32 1)) fun e w' => e = .returned (.tuple #[]) ∧ Undone w' b off 1 ∧ R w') :
    Calls Tryz.prog 78 #[.pointer (some ⟨b, off, none⟩), .func (.func K) caps #[]] w fun e w' => e = .returned (.tuple #[]) ∧
      ∃ w2, R w2 ∧ Undone w2 b off 1 ∧ w' = (w2.drew.setCell ⟨b, off, none⟩ (.int .u32 1)).setCell ⟨b, off + 1, none⟩ (.int .i32 0) := by
  have h0 := h.done
  have hl := run_call_load (P := Tryz.prog) Tryz.func82 (by kernel_rfl) (by kernel_rfl) (by kernel_rfl) .u32 (by kernel_rfl) h0
  have hnot : ∀ (x : Bool) (w : World), (Op.unary .not (.bool x)).run Tryz.prog w = .ok (.bool (!x)) w := fun _ _ => rfl
  have HF := Lib.hid hf; clear hf
  have HH := Lib.hid h; clear h
  go_enter Tryz.func78, Tryz.ntmps78
  go_wp2_with (first | (go_at_call 81; refine (slow_any b off K caps hK R _ HH.out HF.out).mono ?_; rintro e w' ⟨rfl, w2, hr, hu, rfl⟩) | (go_at_call 80; go_in))
  go_end0
  exact ⟨rfl, w2, hr, hu, rfl⟩

/-- Do, done already: the function is not called. -/
theorem do_done (a : Addr) (d : Int) (hd : ¬ d = 0) (fv : Value) (w : World) (h0 : w.cell? a = some (.int .u32 d)) :
    Calls Tryz.prog 78 #[.pointer (some a), fv] w fun e w' => e = .returned (.tuple #[]) ∧ w' = w := by
  have hl := run_call_load (P := Tryz.prog) Tryz.func82 (by kernel_rfl) (by kernel_rfl) (by kernel_rfl) .u32 (by kernel_rfl) h0
  have hnot : ∀ (x : Bool) (w : World), (Op.unary .not (.bool x)).run Tryz.prog w = .ok (.bool (!x)) w := fun _ _ => rfl
  have hd' : (d != 0) = true := by simp [hd]
  go_enter Tryz.func78, Tryz.ntmps78
  go_wp2
  go_end0
  exact ⟨rfl, rfl⟩

end Go.Proofs.YtgnalcobcdgnkaaGreatDoor

namespace Go.Proofs.YtgnalcobcdgnkaaGreatDoor
open Go.RowKit

theorem add_any (a : Addr) (x y : Int) (w : World) (hc : w.cell? a = some (.int .i64 x)) (hz : w.frozen? a = false) (hx : -4611686018427387904 ≤ x ∧ x ≤ 4611686018427387904) (hy : -4611686018427387904 ≤ y ∧ y ≤ 4611686018427387903) :
    Calls Tryz.prog 73 #[.pointer (some a), .int .i64 y] w fun e w' => e = .returned (.int .i64 (x + y)) ∧ w' = w.setCell a (.int .i64 (x + y)) := by
  have hadd := run_call_add (P := Tryz.prog) Tryz.func75 (by kernel_rfl) (by kernel_rfl) (by kernel_rfl) .i64 (by kernel_rfl) (y := y) (s := x + y) hc hz (by simp [go_sem]; exact IntWalk.i64_in (x + y) (by omega))
  go_enter Tryz.func73, Tryz.ntmps73
  go_wp2
  go_ret
  exact ⟨rfl, rfl⟩

end Go.Proofs.YtgnalcobcdgnkaaGreatDoor

namespace Go.Proofs.YtgnalcobcdgnkaaGreatDoor
open Go.RowKit

theorem csteps_succ (n x : Nat) : csteps (n + 1) x = cstep (csteps n x) := by
  rw [csteps_add]; rfl

theorem crun_take (x : Nat) (l : List Nat) (k : Nat) (h : k < l.length) : crun x (l.take (k + 1)) = ctake (crun x (l.take k)) (l.getD k 0) := by
  rw [List.take_succ_eq_append_getElem h, crun_append, List.getD_eq_getElem?_getD, List.getElem?_eq_getElem h]
  rfl

theorem byte_get {l : List Nat} (h : ∀ y ∈ l, y < 256) (k : Nat) : l.getD k 0 < 256 := by
  by_cases hp : k < l.length
  · rw [List.getD_eq_getElem?_getD, List.getElem?_eq_getElem hp]; exact h _ (List.getElem_mem hp)
  · rw [List.getD_eq_getElem?_getD, List.getElem?_eq_none (by omega)]; decide

/-- A number of 32 bits. -/
def U32 (n : Nat) : Prop := n < 4294967296

set_option maxHeartbeats 400000 in
set_option maxRecDepth 100000 in
theorem refExtend_any (s : Nat) (v : Value) (l : List Nat) (w : World) (hs : U32 s) (hr : Reads w .u8 v l) (hl : ∀ y ∈ l, y < 256) :
    Calls Tryz.prog 61 #[.int .u32 (s : Int), v] w fun e w' => e = .returned (.int .u32 (crcx s l : Nat)) ∧ w = w' := by
  obtain ⟨ao, cap, rfl, h1, h2, h3⟩ := hr.val
  go_enter Tryz.func61, Tryz.ntmps61
  go_wp2
  go_loopw [5, 6] (fun x i wr => ∃ (k : Nat) (y : Nat), k ≤ l.length ∧ i = .int .i64 (k : Int) ∧ x = .int .u32 (y : Int) ∧ y = crun (s ^^^ 4294967295) (l.take k) ∧ w = wr)
    (fun _ i _ => l.length - (intOf i).toNat)
  case atStart => exact ⟨0, s ^^^ 4294967295, by omega, rfl, by rw [show (4294967295 : Int) = ((4294967295 : Nat) : Int) from rfl, u32_xor_nat _ _ hs (by decide)], rfl, rfl⟩
  case round =>
    obtain ⟨k, y, hk, rfl, rfl, hy, rfl⟩ := hrel
    by_cases hlt : k < l.length
    · obtain ⟨b, off, rfl, hblk, hc⟩ := hr.at hlt
      have hcell := hc k hlt
      have hbyte := byte_get hl k
      have hnext := crun_take (s ^^^ 4294967295) l k hlt
      generalize l.getD k 0 = c at hcell hbyte hnext
      rw [← hy] at hnext
      have hy32 : U32 y := hy ▸ crun_lt _ (Nat.xor_lt_two_pow (n := 32) hs (by decide)) (fun z hz => hl z (List.mem_of_mem_take hz))
      have HY := Lib.hid hy; clear hy
      have HN := Lib.hid hnext; clear hnext
      have hx32 : U32 (y ^^^ c) := Nat.xor_lt_two_pow (n := 32) hy32 (by omega)
      have hcm : (c : Int) % 4294967296 = (c : Int) := by omega
      have hxor := u32_xor_nat y c hy32 (by omega)
      clear hc
      have hlti : (k : Int) < l.length := by omega
      have hkw : Hid (wrap64 ((k : Int) + 1) = (k : Int) + 1) := Lib.hid (IntWalk.wrap64_in _ (by have : maxLen = 9223372036854775807 := rfl; omega))
      go_wp2
      go_loopw [5, 7] (fun x j wr2 => ∃ (m z : Nat), m ≤ 8 ∧ j = .int .i64 (m : Int) ∧ x = .int .u32 (z : Int) ∧ z = csteps m (y ^^^ c) ∧ w = wr2)
        (fun _ j _ => 8 - (intOf j).toNat)
      case atStart => exact ⟨0, y ^^^ c, by omega, rfl, by first | rfl | rw [hcm, hxor] | rw [hxor], rfl, rfl⟩
      case round =>
        obtain ⟨m, z, hm, rfl, rfl, hz, rfl⟩ := hrel
        have hz32 : U32 z := hz ▸ csteps_lt m hx32
        have HZ := Lib.hid hz; clear hz
        by_cases hm8 : m < 8
        · have hmi : (m : Int) < 8 := by omega
          have HS : Hid (cstep z = csteps (m + 1) (y ^^^ c)) := Lib.hid (by rw [csteps_succ, HZ.out])
          rcases Nat.mod_two_eq_zero_or_one z with hp | hp
          · have hpi : ((z : Int) % 2 == 1) = false := by rw [beq_eq_false_iff_ne]; omega
            have hst : cstep z = z / 2 := by unfold cstep; rw [if_neg (by omega)]
            go_wp2
            go_roundw
            case rel => exact ⟨m + 1, z / 2, by omega, by go_num, by rw [show (z : Int) / 2 % 4294967296 = ((z / 2 : Nat) : Int) from by unfold U32 at hz32; omega], by rw [← hst]; exact HS.out, trivial⟩
            case measure => simp [intOf]; omega
          · have hpi : ((z : Int) % 2 == 1) = true := by rw [beq_iff_eq]; omega
            have hst : cstep z = z / 2 ^^^ 2197175160 := by unfold cstep; rw [if_pos (by omega)]
            go_wp2
            go_roundw
            case rel => exact ⟨m + 1, z / 2 ^^^ 2197175160, by omega, by go_num, by rw [show (z : Int) / 2 % 4294967296 = ((z / 2 : Nat) : Int) from by unfold U32 at hz32; omega, show (2197175160 : Int) = ((2197175160 : Nat) : Int) from rfl, u32_xor_nat _ _ (by unfold U32 at hz32; omega) (by decide)], by rw [← hst]; exact HS.out, trivial⟩
            case measure => simp [intOf]; omega
        · obtain rfl : m = 8 := by omega
          go_wp2
          go_roundw
          case rel => exact ⟨k + 1, z, by omega, by rw [hkw.out]; rfl, rfl, by rw [HN.out, HZ.out]; rfl, trivial⟩
          case measure => rw [hkw.out]; simp [intOf]; omega
    · obtain rfl : k = l.length := by omega
      have hy32 : U32 y := hy ▸ crun_lt _ (Nat.xor_lt_two_pow (n := 32) hs (by decide)) (fun z hz => hl z (List.mem_of_mem_take hz))
      rw [List.take_length] at hy
      have HE : Hid (crcx s l = y ^^^ 4294967295) := Lib.hid (by rw [hy]; rfl)
      clear hy
      go_wp2
      go_ret
      refine ⟨congrArg (fun n => Ending.returned (Value.int .u32 n)) ?_, rfl⟩
      rw [HE.out, show (4294967295 : Int) = ((4294967295 : Nat) : Int) from rfl, u32_xor_nat _ _ hy32 (by decide)]

set_option maxHeartbeats 400000 in
set_option maxRecDepth 100000 in
theorem refSum_any (v : Value) (l : List Nat) (w : World) (hr : Reads w .u8 v l) (hl : ∀ y ∈ l, y < 256) :
    Calls Tryz.prog 50 #[v] w fun e w' => e = .returned (.int .u32 (crcx 0 l : Nat)) ∧ w = w' := by
  go_enter Tryz.func50, Tryz.ntmps50
  go_wp2_with fail
  refine (refExtend_any 0 v l w (by unfold U32; decide) hr hl).mono ?_
  rintro e w1 ⟨rfl, rfl⟩
  go_wp2
  go_ret
  exact ⟨rfl, rfl⟩

/-- A literal of numbers is the call's own. -/
theorem owns_lit (w : World) (base : Nat) (e : TypeId) (k : IntKind) (l : List Nat) (cs : Array Value) (hc : cs.toList = vals k l) (hb : base ≤ w.heap.size) (hm : l.length ≤ maxLen) :
    Owns (w.alloc (.cells cs e)) base e k (.slice (some ⟨w.heap.size, 0, none⟩) l.length l.length) l := by
  have h := World.ownsRow_lit (e := e) (size := 1) w cs l.length hb hm (by have := congrArg List.length hc; simpa [vals_length] using this)
  rw [hc] at h
  exact h

theorem four_vals (x : Nat) : [Value.int .u8 ((x : Int) / 16777216 % 256), .int .u8 ((x : Int) / 65536 % 256), .int .u8 ((x : Int) / 256 % 256), .int .u8 ((x : Int) % 256)] = vals .u8 (four x) := by
  simp [vals, four]

set_option maxHeartbeats 400000 in
set_option maxRecDepth 100000 in
theorem refFour_any (x : Nat) (w : World) :
    Calls Tryz.prog 49 #[.int .u32 (x : Int)] w fun e w' => ∃ v', e = .returned v' ∧ Owns w' w.heap.size 5 .u8 v' (four x) ∧ Below w.heap.size w w' := by
  go_enter Tryz.func49, Tryz.ntmps49
  go_wp2
  go_ret
  exact ⟨_, rfl, owns_lit w _ _ _ (four x) _ (four_vals x) (Nat.le_refl _) (by simp [four, maxLen]), (Below.refl _ _).alloc (Nat.le_refl _) _⟩

end Go.Proofs.YtgnalcobcdgnkaaGreatDoor

namespace Go.Proofs.YtgnalcobcdgnkaaGreatDoor
open Go.RowKit

set_option maxHeartbeats 400000 in
set_option maxRecDepth 100000 in
theorem takeIn_any (x c : Nat) (w : World) (hx : U32 x) (hc : c < 256) :
    Calls Tryz.prog 77 #[.int .u32 (x : Int), .int .u8 (c : Int)] w fun e w' => e = .returned (.int .u32 (ctake x c : Nat)) ∧ w = w' := by
  have hx32 : U32 (x ^^^ c) := Nat.xor_lt_two_pow (n := 32) hx (by omega)
  have hcm : (c : Int) % 4294967296 = (c : Int) := by omega
  have hxor := u32_xor_nat x c hx (by omega)
  go_enter Tryz.func77, Tryz.ntmps77
  go_wp2
  go_loopw [0, 5, 10] (fun x0 _ j wr2 => ∃ (m z : Nat), m ≤ 8 ∧ j = .int .i64 (m : Int) ∧ x0 = .int .u32 (z : Int) ∧ z = csteps m (x ^^^ c) ∧ w = wr2)
    (fun _ _ j _ => 8 - (intOf j).toNat)
  case atStart => exact ⟨0, x ^^^ c, by omega, rfl, by first | rfl | rw [hcm, hxor] | rw [hxor], rfl, rfl⟩
  case round =>
    obtain ⟨m, z, hm, rfl, rfl, hz, rfl⟩ := hrel
    have hz32 : U32 z := hz ▸ csteps_lt m hx32
    have HZ := Lib.hid hz; clear hz
    by_cases hm8 : m < 8
    · have hmi : (m : Int) < 8 := by omega
      have HS : Hid (cstep z = csteps (m + 1) (x ^^^ c)) := Lib.hid (by rw [csteps_succ, HZ.out])
      rcases Nat.mod_two_eq_zero_or_one z with hp | hp
      · have hpi : bits .and .u32 (z : Int) 1 = ((0 : Nat) : Int) := (u32_and_nat z 1 hz32 (by decide)).trans (by rw [Nat.and_one_is_mod, hp])
        have hst : cstep z = z / 2 := by unfold cstep; rw [if_neg (by omega)]
        go_wp2
        go_roundw
        case rel => exact ⟨m + 1, z / 2, by omega, by go_num, by rw [show (z : Int) / 2 = ((z / 2 : Nat) : Int) from by omega], by rw [← hst]; exact HS.out, trivial⟩
        case measure => simp [intOf]; omega
      · have hpi : bits .and .u32 (z : Int) 1 = ((1 : Nat) : Int) := (u32_and_nat z 1 hz32 (by decide)).trans (by rw [Nat.and_one_is_mod, hp])
        have hst : cstep z = z / 2 ^^^ 2197175160 := by unfold cstep; rw [if_pos (by omega)]
        go_wp2
        go_roundw
        case rel => exact ⟨m + 1, z / 2 ^^^ 2197175160, by omega, by go_num, by rw [show (z : Int) / 2 = ((z / 2 : Nat) : Int) from by omega, show (2197175160 : Int) = ((2197175160 : Nat) : Int) from rfl, u32_xor_nat _ _ (by unfold U32 at hz32; omega) (by decide)], by rw [← hst]; exact HS.out, trivial⟩
        case measure => simp [intOf]; omega
    · obtain rfl : m = 8 := by omega
      go_wp2
      go_ret
      exact ⟨congrArg (fun n : Nat => Ending.returned (Value.int .u32 n)) (by rw [HZ.out]; rfl), rfl⟩

/-- What is left of a maker's table: the places from i on are a number each, those ahead are made. -/
structure Tab (w : World) (p i : Nat) : Prop where
  made : ∀ j, j < i → w.cell? ⟨p, 3 + j, none⟩ = some (.int .u32 (ctake 0 j : Nat))
  more : ∀ j, j < 256 → ∃ x, w.cell? ⟨p, 3 + j, none⟩ = some (.int .u32 x)

theorem Tab.next {w : World} {p k : Nat} (h : Tab w p k) (hk : k < 256) {x : Int} (hx : w.cell? ⟨p, 3 + k, none⟩ = some (.int .u32 x)) : Tab (w.setCell ⟨p, 3 + k, none⟩ (.int .u32 (ctake 0 k : Nat))).drew p (k + 1) := by
  constructor
  · intro j hj
    rw [World.cell?_drew]
    by_cases he : j = k
    · subst he
      exact World.cell?_setCell_same _ _ _ hx
    · rw [World.cell?_setCell_other _ _ _ _ (by simp <;> omega)]
      exact h.made j (by omega)
  · intro j hj
    rw [World.cell?_drew]
    by_cases he : j = k
    · subst he
      exact ⟨_, World.cell?_setCell_same _ _ _ hx⟩
    · rw [World.cell?_setCell_other _ _ _ _ (by simp <;> omega)]
      exact h.more j hj

theorem grownC_set {w w' : World} {p : Nat} (h : w.grownBy w' (some p)) (o : Nat) (v : Value) : w.grownBy (w'.setCell ⟨p, o, none⟩ v).drew (some p) :=
  ⟨h.os, h.tape, h.output, by simpa [World.setCell, World.drew] using h.size, fun k hk hne => by
    have hb := h.block k hk hne
    rw [← hb]
    simp only [World.drew, World.setCell, Array.getElem?_modify]
    rw [if_neg (fun he => hne (by rw [← he]))]⟩

set_option maxHeartbeats 400000 in
set_option maxRecDepth 100000 in
theorem makeTable_any (p : Nat) (w : World) (ht : Tab w p 0) (hf : ∀ k, w.frozen? ⟨p, k, none⟩ = false) :
    Calls Tryz.prog 79 #[.pointer (some ⟨p, 0, none⟩)] w fun e w' => e = .returned (.tuple #[]) ∧ Tab w' p 256 ∧ w.grownBy w' (some p) ∧ (∀ k, w'.frozen? ⟨p, k, none⟩ = false) ∧ (∀ k, k < 3 ∨ 259 ≤ k → w'.cell? ⟨p, k, none⟩ = w.cell? ⟨p, k, none⟩) := by
  go_enter Tryz.func79, Tryz.ntmps79
  go_wp2
  go_loopw [2, 3] (fun _ i wr => ∃ (k : Nat), k ≤ 256 ∧ i = .int .i64 (k : Int) ∧ Tab wr p k ∧ w.grownBy wr (some p) ∧ (∀ k, wr.frozen? ⟨p, k, none⟩ = false) ∧ (∀ k, k < 3 ∨ 259 ≤ k → wr.cell? ⟨p, k, none⟩ = w.cell? ⟨p, k, none⟩))
    (fun _ i _ => 256 - (intOf i).toNat)
  case atStart => exact ⟨0, by omega, rfl, ht, World.grownBy.refl _ _, hf, fun _ _ => rfl⟩
  case round =>
    obtain ⟨k, hk, rfl, htk, hg, hfr, hs⟩ := hrel
    by_cases hlt : k < 256
    · have hlti : (k : Int) < 256 := by omega
      have h0 := fun j (hj : j < 256) => htk.more j hj
      obtain ⟨x0, hx0⟩ := htk.more k hlt
      have hfk := hfr (3 + k)
      have hkm : IntKind.u8.wrap (k : Int) = (k : Int) := by show (k : Int) % 256 = k; omega
      go_wp2_with fail
      refine wp_region_still_tail 8 (by kernel_rfl) (by kernel_rfl) ?_
      simp only [List.take_succ_cons, List.take_zero, List.drop_succ_cons, List.drop_zero]
      repeat still_step
      still_call ((takeIn_any 0 k _ (by unfold U32; decide) hlt).mono (fun e w'' h => ⟨h.1, h.2.symm⟩))
      repeat still_step
      refine wpStill_nil ?_
      go_wp2
      go_roundw
      case rel =>
        refine ⟨k + 1, by omega, by go_num, htk.next hlt hx0, grownC_set hg _ _, ?_, ?_⟩
        · intro j
          rw [World.frozen?_drew, World.frozen?_setCell]
          exact hfr j
        · intro j hj
          rw [World.cell?_drew, World.cell?_setCell_other _ _ _ _ (by simp <;> omega)]
          exact hs j hj
      case measure => simp [intOf]; omega
    · obtain rfl : k = 256 := by omega
      go_wp2
      go_end0
      exact ⟨rfl, htk, hg, hfr, hs⟩

end Go.Proofs.YtgnalcobcdgnkaaGreatDoor

namespace Go.Proofs.YtgnalcobcdgnkaaGreatDoor
open Go.RowKit

/-- A maker at block p that made n sums: its table is not made yet, or made. -/
structure Mk (w : World) (p n : Nat) : Prop where
  lt : p < w.heap.size
  free : ∀ k, w.frozen? ⟨p, k, none⟩ = false
  kind : ∀ k y, w.cell? ⟨p, k, none⟩ = some y → ∃ kk x, y = .int kk x ∧ kk ≠ .u8
  lock : w.cell? ⟨p, 1, none⟩ = some (.int .i32 0)
  asked : w.cell? ⟨p, 259, none⟩ = some (.int .i64 (n : Int))
  tab : (w.cell? ⟨p, 0, none⟩ = some (.int .u32 0) ∧ Tab w p 0) ∨ (w.cell? ⟨p, 0, none⟩ = some (.int .u32 1) ∧ Tab w p 256)

theorem Mk.drew {w : World} {p n : Nat} (h : Mk w p n) : Mk w.drew p n := ⟨h.lt, h.free, h.kind, h.lock, h.asked, h.tab.imp (fun t => ⟨t.1, ⟨t.2.made, t.2.more⟩⟩) (fun t => ⟨t.1, ⟨t.2.made, t.2.more⟩⟩)⟩

theorem frozen_of {w w' : World} {p k : Nat} (h : w'.heap[p]? = w.heap[p]?) : w'.frozen? ⟨p, k, none⟩ = w.frozen? ⟨p, k, none⟩ := by
  unfold World.frozen?; rw [h]

/-- A maker stays where its block stays. -/
theorem Mk.keep {w w' : World} {p n : Nat} (h : Mk w p n) (hb : w'.heap[p]? = w.heap[p]?) (hs : w.heap.size ≤ w'.heap.size) : Mk w' p n := by
  have hc : ∀ k, w'.cell? ⟨p, k, none⟩ = w.cell? ⟨p, k, none⟩ := fun k => by unfold World.cell?; rw [hb]
  have ht : ∀ i, Tab w p i → Tab w' p i := fun i t => ⟨fun j hj => (hc _).trans (t.made j hj), fun j hj => (t.more j hj).imp fun x hx => (hc _).trans hx⟩
  exact ⟨Nat.lt_of_lt_of_le h.lt hs, fun k => (frozen_of hb).trans (h.free k), fun k y hy => h.kind k y ((hc k).symm.trans hy), (hc 1).trans h.lock, (hc 259).trans h.asked,
    h.tab.imp (fun t => ⟨(hc 0).trans t.1, ht 0 t.2⟩) (fun t => ⟨(hc 0).trans t.1, ht 256 t.2⟩)⟩

theorem Mk.alloc {w : World} {p n : Nat} (h : Mk w p n) (o : Obj) : Mk (w.alloc o) p n :=
  h.keep (Below.heap_alloc _ _ _ h.lt) (by simp)

theorem Mk.below {B : Nat} {w w' : World} {p n : Nat} (h : Mk w p n) (hb : Below B w w') (hB : p < B) : Mk w' p n := h.keep (hb.block p hB) hb.size

theorem u8_of_kind {w : World} {p n b o : Nat} {x : Int} (h : Mk w p n) (hc : w.cell? ⟨b, o, none⟩ = some (.int .u8 x)) : b ≠ p := by
  rintro rfl
  obtain ⟨kk, y, he, hne⟩ := h.kind _ _ hc
  cases he
  exact hne rfl

set_option maxRecDepth 100000 in
theorem zero_tab : ((List.range 256).all fun j => match Tryz.zeroCells146[3 + j]? with | some (.int .u32 _) => true | _ => false) = true := by kernel_rfl
set_option maxRecDepth 100000 in
theorem zero_kind : (Tryz.zeroCells146.all fun v => match v with | .int .u8 _ => false | .int _ _ => true | _ => false) = true := by kernel_rfl

set_option maxRecDepth 100000 in
theorem newC_any (w : World) : Calls Tryz.prog 62 #[] w fun e w' => ∃ p, e = .returned (.pointer (some ⟨p, 0, none⟩)) ∧ w.heap.size ≤ p ∧ Mk w' p 0 ∧ Below w.heap.size w w' := by
  go_enter Tryz.func62, Tryz.ntmps62
  go_wp2
  go_ret
  refine ⟨w.heap.size, rfl, Nat.le_refl _, ?_, (Below.refl _ _).alloc (Nat.le_refl _) _⟩
  have hc : ∀ k, (w.alloc (.cells Tryz.zeroCells146 146 (0, 0))).cell? ⟨w.heap.size, k, none⟩ = Tryz.zeroCells146[k]? := fun k => World.cell?_alloc_mark _ _ _ _ _
  refine ⟨by simp, fun k => by simp, ?_, (hc 1).trans (by kernel_rfl), (hc 259).trans (by kernel_rfl), .inl ⟨(hc 0).trans (by kernel_rfl), ⟨fun j hj => by omega, fun j hj => ?_⟩⟩⟩
  · intro k y hy
    rw [hc] at hy
    have hm := Array.all_eq_true_iff_forall_mem.1 zero_kind y (Array.mem_of_getElem? hy)
    split at hm
    · cases hm
    · next kk x hne => exact ⟨_, _, rfl, fun he => by subst he; exact hne rfl⟩
    · cases hm
  · have hj' := List.all_eq_true.1 zero_tab j (List.mem_range.2 hj)
    rw [hc]
    split at hj'
    · next x he => exact ⟨_, he⟩
    · cases hj'

theorem Mk.counted {w : World} {p n : Nat} (h : Mk w p n) : Mk (w.setCell ⟨p, 259, none⟩ (.int .i64 ((n + 1 : Nat) : Int))) p (n + 1) := by
  have ho : ∀ k, k ≠ 259 → (w.setCell ⟨p, 259, none⟩ (.int .i64 ((n + 1 : Nat) : Int))).cell? ⟨p, k, none⟩ = w.cell? ⟨p, k, none⟩ := fun k hk => World.cell?_setCell_other _ _ _ _ (by simp <;> omega)
  have hs : (w.setCell ⟨p, 259, none⟩ (.int .i64 ((n + 1 : Nat) : Int))).cell? ⟨p, 259, none⟩ = some (.int .i64 ((n + 1 : Nat) : Int)) := World.cell?_setCell_same _ _ _ h.asked
  have ht : ∀ i, i ≤ 256 → Tab w p i → Tab (w.setCell ⟨p, 259, none⟩ (.int .i64 ((n + 1 : Nat) : Int))) p i := fun i hi t => ⟨fun j hj => (ho _ (by omega)).trans (t.made j hj), fun j hj => (t.more j hj).imp fun x hx => (ho _ (by omega)).trans hx⟩
  refine ⟨by simpa using h.lt, fun k => by rw [World.frozen?_setCell]; exact h.free k, fun k y hy => ?_, (ho 1 (by omega)).trans h.lock, hs, h.tab.imp (fun t => ⟨(ho 0 (by omega)).trans t.1, ht 0 (by omega) t.2⟩) (fun t => ⟨(ho 0 (by omega)).trans t.1, ht 256 (by omega) t.2⟩)⟩
  by_cases hk : k = 259
  · subst hk
    rw [hs] at hy
    cases hy
    exact ⟨_, _, rfl, by decide⟩
  · rw [ho k hk] at hy
    exact h.kind k y hy

theorem grownC_put (w : World) (p o : Nat) (v : Value) : w.grownBy (w.setCell ⟨p, o, none⟩ v) (some p) :=
  have h := grownC_set (World.grownBy.refl w (some p)) o v
  ⟨h.os, h.tape, h.output, h.size, h.block⟩

set_option maxRecDepth 100000 in
theorem count_any (p n : Nat) (w : World) (h : Mk w p n) (hn : n < 1000000) :
    Calls Tryz.prog 70 #[.pointer (some ⟨p, 0, none⟩)] w fun e w' => e = .returned (.tuple #[]) ∧ Mk w' p (n + 1) ∧ w.grownBy w' (some p) := by
  go_enter Tryz.func70, Tryz.ntmps70
  go_wp2_with fail
  refine (add_any ⟨p, 259, none⟩ (n : Int) 1 w h.asked (h.free _) (by omega) (by decide)).mono ?_
  rintro e w' ⟨rfl, rfl⟩
  go_wp2
  go_end0
  exact ⟨rfl, h.counted, grownC_put _ _ _ _⟩

end Go.Proofs.YtgnalcobcdgnkaaGreatDoor

namespace Go.Proofs.YtgnalcobcdgnkaaGreatDoor
open Go.RowKit

/-- Who asks first makes the table; who asks later finds it. -/
theorem once_any (p n : Nat) (w : World) (h : Mk w p n) :
    Calls Tryz.prog 78 #[.pointer (some ⟨p, 0, none⟩), .func (.func 79) #[.pointer (some ⟨p, 0, none⟩)] #[]] w fun e w' => e = .returned (.tuple #[]) ∧ Mk w' p n ∧ Tab w' p 256 ∧ w.grownBy w' (some p) := by
  rcases h.tab with ⟨h0, ht⟩ | ⟨h0, ht⟩
  · have hl1 : ∀ k, k ≠ 1 → (w.setCell ⟨p, 1, none⟩ (.int .i32 1)).cell? ⟨p, k, none⟩ = w.cell? ⟨p, k, none⟩ := fun k hk => World.cell?_setCell_other _ _ _ _ (by simp <;> omega)
    have hl2 : (w.setCell ⟨p, 1, none⟩ (.int .i32 1)).cell? ⟨p, 1, none⟩ = some (.int .i32 1) := World.cell?_setCell_same _ _ _ h.lock
    have hT : Tab (w.setCell ⟨p, 1, none⟩ (.int .i32 1)) p 0 := ⟨fun j hj => by omega, fun j hj => (ht.more j hj).imp fun x hx => (hl1 _ (by omega)).trans hx⟩
    refine (do_first p 0 79 #[.pointer (some ⟨p, 0, none⟩)] (fun args w => by kernel_rfl)
      (fun w' => Tab w' p 256 ∧ (w.setCell ⟨p, 1, none⟩ (.int .i32 1)).grownBy w' (some p) ∧ (∀ k, w'.frozen? ⟨p, k, none⟩ = false) ∧ (∀ k, k < 3 ∨ 259 ≤ k → w'.cell? ⟨p, k, none⟩ = (w.setCell ⟨p, 1, none⟩ (.int .i32 1)).cell? ⟨p, k, none⟩))
      w ⟨h0, h.lock, h.free _, h.free _⟩ ((makeTable_any p _ hT (fun k => by rw [World.frozen?_setCell]; exact h.free k)).mono ?_)).mono ?_
    · rintro e w1 ⟨rfl, t1, g1, f1, s1⟩
      exact ⟨rfl, ⟨(s1 0 (by omega)).trans ((hl1 0 (by omega)).trans h0), (s1 1 (by omega)).trans hl2, f1 _, f1 _⟩, t1, g1, f1, s1⟩
    · rintro e w3 ⟨rfl, w2, ⟨t2, g2, f2, s2⟩, u2, rfl⟩
      have c0 : ∀ k, k ≠ 0 → k ≠ 1 → ((w2.drew.setCell ⟨p, 0, none⟩ (.int .u32 1)).setCell ⟨p, 0 + 1, none⟩ (.int .i32 0)).cell? ⟨p, k, none⟩ = w2.cell? ⟨p, k, none⟩ := fun k hk hk1 => by
        rw [World.cell?_setCell_other _ _ _ _ (by simp <;> omega), World.cell?_setCell_other _ _ _ _ (by simp <;> omega), World.cell?_drew]
      have z0 : ((w2.drew.setCell ⟨p, 0, none⟩ (.int .u32 1)).setCell ⟨p, 0 + 1, none⟩ (.int .i32 0)).cell? ⟨p, 0, none⟩ = some (.int .u32 1) := by
        rw [World.cell?_setCell_other _ _ _ _ (by simp)]
        exact World.cell?_setCell_same _ _ _ ((World.cell?_drew _ _).trans u2.done)
      have z1 : ((w2.drew.setCell ⟨p, 0, none⟩ (.int .u32 1)).setCell ⟨p, 0 + 1, none⟩ (.int .i32 0)).cell? ⟨p, 1, none⟩ = some (.int .i32 0) :=
        World.cell?_setCell_same _ ⟨p, 0 + 1, none⟩ _ ((World.cell?_setCell_other _ _ _ _ (by simp)).trans ((World.cell?_drew _ _).trans u2.lock))
      have T : Tab ((w2.drew.setCell ⟨p, 0, none⟩ (.int .u32 1)).setCell ⟨p, 0 + 1, none⟩ (.int .i32 0)) p 256 :=
        ⟨fun j hj => (c0 _ (by omega) (by omega)).trans (t2.made j hj), fun j hj => (t2.more j hj).imp fun x hx => (c0 _ (by omega) (by omega)).trans hx⟩
      have G : w.grownBy ((w2.drew.setCell ⟨p, 0, none⟩ (.int .u32 1)).setCell ⟨p, 0 + 1, none⟩ (.int .i32 0)) (some p) :=
        (grownC_put w p 1 _).trans (g2.trans ((⟨rfl, rfl, rfl, Nat.le_refl _, fun _ _ _ => rfl⟩ : w2.grownBy w2.drew (some p)).trans ((grownC_put _ _ _ _).trans (grownC_put _ _ _ _))))
      refine ⟨rfl, ⟨Nat.lt_of_lt_of_le h.lt G.size, fun k => ?_, fun k y hy => ?_, z1, (c0 259 (by omega) (by omega)).trans ((s2 259 (by omega)).trans ((hl1 259 (by omega)).trans h.asked)), .inr ⟨z0, T⟩⟩, T, G⟩
      · rw [World.frozen?_setCell, World.frozen?_setCell]
        exact f2 k
      · by_cases k0 : k = 0
        · subst k0; rw [z0] at hy; cases hy; exact ⟨_, _, rfl, by decide⟩
        by_cases k1 : k = 1
        · subst k1; rw [z1] at hy; cases hy; exact ⟨_, _, rfl, by decide⟩
        rw [c0 k k0 k1] at hy
        by_cases k3 : k < 3 ∨ 259 ≤ k
        · rw [s2 k k3, hl1 k k1] at hy
          exact h.kind k y hy
        · obtain ⟨x, hx⟩ := t2.more (k - 3) (by omega)
          rw [show 3 + (k - 3) = k from by omega, hy] at hx
          cases hx
          exact ⟨_, _, rfl, by decide⟩
  · refine (do_done ⟨p, 0, none⟩ 1 (by decide) _ w h0).mono ?_
    rintro e w' ⟨rfl, rfl⟩
    exact ⟨rfl, h, ht, World.grownBy.refl _ _⟩

/-- What reads as bytes stays where the maker alone changes. -/
theorem reads_kept {w w' : World} {p n : Nat} {v : Value} {l : List Nat} (h : Mk w p n) (hr : Reads w .u8 v l) (hg : w.grownBy w' (some p)) : Reads w' .u8 v l := by
  obtain ⟨ao, cap, hv, h1, h2, h3, h4⟩ := hr
  refine ⟨ao, cap, hv, h1, h2, h3, ?_⟩
  rcases h4 with h4 | ⟨b, off, ha, hlt, hc⟩
  · exact .inl h4
  · exact .inr ⟨b, off, ha, Nat.lt_of_lt_of_le hlt hg.size, fun i hi => hg.cell (hc i hi) (by have := u8_of_kind h (hc i hi); simpa using this)⟩

theorem idx_table {y c : Nat} (hc : c < 256) : ctake y c = ctake 0 (y % 256 ^^^ c) ^^^ y / 256 := by
  rw [ctake_table hc]
  congr 1
  show _ = csteps 8 (0 ^^^ _)
  rw [Nat.zero_xor]
  congr 1
  have := Nat.xor_mod_two_pow (a := y) (b := c) (n := 8)
  rw [show (2 : Nat) ^ 8 = 256 from rfl] at this
  rw [this, Nat.mod_eq_of_lt hc]

set_option maxHeartbeats 400000 in
set_option maxRecDepth 100000 in
theorem takeAll_any (p n x : Nat) (v : Value) (l : List Nat) (w : World) (hm : Mk w p n) (hx : U32 x) (hr : Reads w .u8 v l) (hl : ∀ y ∈ l, y < 256) :
    Calls Tryz.prog 76 #[.pointer (some ⟨p, 0, none⟩), .int .u32 (x : Int), v] w fun e w' => e = .returned (.int .u32 (crun x l : Nat)) ∧ Mk w' p n ∧ w.grownBy w' (some p) := by
  obtain ⟨ao, cap, rfl, h1, h2, h3⟩ := hr.val
  have HR := Lib.hid hr; clear hr
  have HM := Lib.hid hm; clear hm
  go_enter Tryz.func76, Tryz.ntmps76
  go_wp2_with fail
  refine (once_any p n w HM.out).mono ?_
  rintro e w1 ⟨rfl, hm1, ht1, hg1⟩
  have HM1 := Lib.hid hm1
  have HT1 := Lib.hid ht1
  have HG1 := Lib.hid hg1
  clear hm1 ht1 hg1
  go_wp2
  go_loopw [1, 10, 32] (fun x0 _ i wr => ∃ (k : Nat) (y : Nat), k ≤ l.length ∧ i = .int .i64 (k : Int) ∧ x0 = .int .u32 (y : Int) ∧ y = crun x (l.take k) ∧ ∃ d, wr = w1.drewN d)
    (fun _ _ i _ => l.length - (intOf i).toNat)
  case atStart => exact ⟨0, x, by omega, rfl, rfl, rfl, 0, rfl⟩
  case round =>
    obtain ⟨k, y, hk, rfl, rfl, hy, d, rfl⟩ := hrel
    have hy32 : U32 y := hy ▸ crun_lt _ hx (fun z hz => hl z (List.mem_of_mem_take hz))
    by_cases hlt : k < l.length
    · obtain ⟨b, off, rfl, hblk, hc⟩ := HR.out.at hlt
      have hne : b ≠ p := u8_of_kind HM.out (hc k hlt)
      have hcell : (w1.drewN d).cell? ⟨b, off + k, none⟩ = _ := HG1.out.cell (hc k hlt) (by simpa using hne)
      have hbyte := byte_get hl k
      have hnext := crun_take x l k hlt
      clear hc
      generalize l.getD k 0 = c at hcell hbyte hnext
      rw [← hy, idx_table hbyte] at hnext
      have hidx : y % 256 ^^^ c < 256 := Nat.xor_lt_two_pow (n := 8) (Nat.mod_lt _ (by decide)) hbyte
      have hxor : bits .xor .u8 ((y : Int) % 256) (c : Int) = ((y % 256 ^^^ c : Nat) : Int) := u8_xor_nat (y % 256) c (Nat.mod_lt _ (by decide)) hbyte
      have htab : (w1.drewN d).cell? ⟨p, 3 + (y % 256 ^^^ c), none⟩ = _ := HT1.out.made _ hidx
      have ht32 : ctake 0 (y % 256 ^^^ c) < 4294967296 := ctake_lt (by decide) hidx
      generalize y % 256 ^^^ c = j at hidx hxor htab ht32 hnext
      generalize ctake 0 j = t at htab ht32 hnext
      have hq : y / 256 < 4294967296 := by unfold U32 at hy32; omega
      have hx2 := u32_xor_nat t (y / 256) ht32 hq
      have HN := Lib.hid hnext; clear hnext
      have HY := Lib.hid hy; clear hy
      have hji : (j : Int) < 256 := by omega
      have hlti : (k : Int) < l.length := by omega
      have hkw : Hid (wrap64 ((k : Int) + 1) = (k : Int) + 1) := Lib.hid (IntWalk.wrap64_in _ (by have : maxLen = 9223372036854775807 := rfl; omega))
      go_wp2
      go_roundw
      case rel => exact ⟨k + 1, _, by omega, by rw [hkw.out]; rfl, by rw [show (y : Int) / 256 = ((y / 256 : Nat) : Int) from by omega, hx2], by rw [HN.out], _, rfl⟩
      case measure => rw [hkw.out]; simp [intOf]; omega
    · obtain rfl : k = l.length := by omega
      rw [List.take_length] at hy
      have HY := Lib.hid hy; clear hy
      go_wp2
      go_ret
      exact ⟨congrArg (fun n : Nat => Ending.returned (Value.int .u32 n)) HY.out, HM1.out.keep rfl (Nat.le_refl _), HG1.out.os, HG1.out.tape, HG1.out.output, HG1.out.size, HG1.out.block⟩

theorem u32_not_nat (s : Nat) (hs : U32 s) : bits .xor .u32 IntKind.u32.max (s : Int) = ((s ^^^ 4294967295 : Nat) : Int) := by
  rw [Nat.xor_comm]
  exact u32_xor_nat 4294967295 s (by decide) hs

set_option maxHeartbeats 400000 in
set_option maxRecDepth 100000 in
theorem ext_any (p n s : Nat) (v : Value) (l : List Nat) (w : World) (hm : Mk w p n) (hs : U32 s) (hr : Reads w .u8 v l) (hl : ∀ y ∈ l, y < 256) :
    Calls Tryz.prog 74 #[(.pointer (some ⟨p, 0, none⟩)), .int .u32 (s : Int), v] w fun e w' => e = .returned (.int .u32 (crcx s l : Nat)) ∧ Mk w' p n ∧ w.grownBy w' (some p) := by
  have hx : U32 (s ^^^ 4294967295) := Nat.xor_lt_two_pow (n := 32) hs (by decide)
  have hy : U32 (crun (s ^^^ 4294967295) l) := crun_lt _ hx hl
  have hn1 := u32_not_nat s hs
  have hn2 := u32_not_nat _ hy
  go_enter Tryz.func74, Tryz.ntmps74
  go_wp2_with fail
  refine (takeAll_any p n (s ^^^ 4294967295) v l w hm hx hr hl).mono ?_
  rintro e w' ⟨rfl, hm', hg⟩
  go_wp2
  go_ret
  exact ⟨rfl, hm', hg⟩

/-- Parts: a slice of slices that each read as bytes; its own block is not the maker's. -/
def Parts (w : World) (v : Value) (ls : List (List Nat)) : Prop :=
  ∃ ao cap, v = .slice ao ls.length cap ∧ ls.length ≤ cap ∧ cap ≤ maxLen ∧ (ls = [] ∨ ∃ b off, ao = some ⟨b, off, none⟩ ∧ b < w.heap.size ∧
    ∀ i, i < ls.length → ∃ u, w.cell? ⟨b, off + i, none⟩ = some u ∧ (∀ kk x, u ≠ .int kk x) ∧ Reads w .u8 u (ls.getD i []))

theorem Parts.at {w : World} {ao : Option Addr} {m cap : Nat} {ls : List (List Nat)} (h : Parts w (.slice ao m cap) ls) {i : Nat} (hi : i < ls.length) :
    ∃ b off u, ao = some ⟨b, off, none⟩ ∧ b < w.heap.size ∧ w.cell? ⟨b, off + i, none⟩ = some u ∧ (∀ kk x, u ≠ .int kk x) ∧ Reads w .u8 u (ls.getD i []) := by
  obtain ⟨ao', cap', hv, _, _, h4⟩ := h
  simp only [Value.slice.injEq] at hv
  obtain ⟨rfl, _, _⟩ := hv
  rcases h4 with rfl | ⟨b, off, ha, hb, h⟩
  · simp at hi
  · obtain ⟨u, h1, h2, h3⟩ := h i hi
    exact ⟨b, off, u, ha, hb, h1, h2, h3⟩

end Go.Proofs.YtgnalcobcdgnkaaGreatDoor

namespace Go.Proofs.YtgnalcobcdgnkaaGreatDoor
open Go.RowKit

end Go.Proofs.YtgnalcobcdgnkaaGreatDoor

namespace Go.Proofs.YtgnalcobcdgnkaaGreatDoor
open Go.RowKit

theorem below_all {w w' : World} (h : Below w.heap.size w w') (row : Option Nat) : w.grownBy w' row := ⟨h.os, h.tape, h.output, h.size, fun k hk _ => h.block k hk⟩

theorem Mk.new {w w' : World} {p n : Nat} (h : Mk w p n) (hb : Below w.heap.size w w') : Mk w' p n := h.below hb h.lt

set_option maxHeartbeats 400000 in
set_option maxRecDepth 100000 in
theorem seal_any (p n : Nat) (v : Value) (l : List Nat) (w : World) (hm : Mk w p n) (hr : Reads w .u8 v l) (hl : ∀ y ∈ l, y < 256) (hx : l.length ≤ 90000000000000) :
    Calls Tryz.prog 71 #[.pointer (some ⟨p, 0, none⟩), v] w fun e w' => ∃ v', e = .returned v' ∧ Owns w' w.heap.size 5 .u8 v' (l ++ four (crcx 0 l)) ∧ Mk w' p n ∧ w.grownBy w' (some p) := by
  have hs32 : U32 (crcx 0 l) := crcx_lt (by decide) hl
  have HF : ∀ (W : World), Reads (W.alloc (.cells #[.int .u8 ((crcx 0 l : Nat) / 16777216 % 256 : Int), .int .u8 ((crcx 0 l : Nat) / 65536 % 256 : Int), .int .u8 ((crcx 0 l : Nat) / 256 % 256 : Int), .int .u8 ((crcx 0 l : Nat) % 256 : Int)] 5)) .u8 (.slice (some ⟨W.heap.size, 0, none⟩) 4 4) (four (crcx 0 l)) :=
    fun W => (owns_lit W 0 5 .u8 (four (crcx 0 l)) _ (four_vals (crcx 0 l)) (Nat.zero_le _) (by simp [four, maxLen])).reads
  go_enter Tryz.func71, Tryz.ntmps71
  go_wp2_with fail
  refine (ext_any p n 0 v l w hm (by unfold U32; decide) hr hl).mono ?_
  rintro e w1 ⟨rfl, hm1, hg1⟩
  have hr1 := reads_kept hm hr hg1
  generalize hsg : crcx 0 l = s at hs32 HF
  have HSG := Lib.hid hsg; clear hsg
  have HFF := Lib.hid HF; clear HF
  go_wp2_with fail
  refine (clone_any v l w1 hr1 (by omega)).mono ?_
  rintro e w2 ⟨v2, rfl, ho2, hb2⟩
  have HO := Lib.hid ho2
  have HB := Lib.hid hb2
  have HM1 := Lib.hid hm1
  have HG1 := Lib.hid hg1
  clear ho2 hb2 hm1 hg1 hr1
  have hcap : (l.length + (four s).length) * 1 ≤ 140737488355328 := by simp [four]; omega
  go_wp2_with (at_builtin; go_must (refine wpList_app _ rfl _ _ 61 rfl w1.heap.size 5 (.int .u8 0) 1 Tryz.underlying61 Tryz.info5 rfl .u8 _ l rfl (HO.out.alloc _) _ (four s) rfl (HFF.out w2) (by decide) hcap ?c3 ?_))
  case c3 => have := HB.out.size; simp; omega
  intro v3 w3 ho3 hg3
  have hb3 : Below w1.heap.size w1 w3 := (HB.out.alloc HB.out.size _).grown hg3 (by have := HB.out.size; simp; omega) (fun j hj => (HO.out.lt j hj).1)
  go_wp2
  go_ret
  exact ⟨_, rfl, by rw [HSG.out]; exact ho3.mono HG1.out.size, HM1.out.new hb3, HG1.out.trans (below_all hb3 _)⟩

set_option maxHeartbeats 400000 in
set_option maxRecDepth 100000 in
theorem sealed_any (p n : Nat) (v : Value) (l : List Nat) (w : World) (hm : Mk w p n) (hn : n < 1000000) (hr : Reads w .u8 v l) (hl : ∀ y ∈ l, y < 256) (hx : l.length ≤ 90000000000000) :
    Calls Tryz.prog 63 #[.pointer (some ⟨p, 0, none⟩), v] w fun e w' => ∃ v', e = .returned v' ∧ Owns w' w.heap.size 5 .u8 v' (l ++ four (crcx 0 l)) ∧ Mk w' p (n + 1) ∧ w.grownBy w' (some p) := by
  go_enter Tryz.func63, Tryz.ntmps63
  go_wp2_with fail
  refine (count_any p n w hm hn).mono ?_
  rintro e w1 ⟨rfl, hm1, hg1⟩
  have hr1 := reads_kept hm hr hg1
  go_wp2_with fail
  refine (seal_any p (n + 1) v l w1 hm1 hr1 hl hx).mono ?_
  rintro e w2 ⟨v2, rfl, ho2, hm2, hg2⟩
  go_wp2
  go_ret
  exact ⟨_, rfl, ho2.mono hg1.size, hm2, hg1.trans hg2⟩

theorem Parts.drew {w : World} {v : Value} {ls : List (List Nat)} (h : Parts w v ls) : Parts w.drew v ls := h

end Go.Proofs.YtgnalcobcdgnkaaGreatDoor
