/- The mathematics of SHA-256's digests: words, rounds, blocks, the padded text; no code. -/
import Derived.WalkKit
namespace Go.Proofs.YtjhipfgmiilmdaaDoor

def rot (x k : Nat) : Nat := x / 2 ^ k ||| x * 2 ^ (32 - k) % 4294967296

theorem rot_lt {x k : Nat} (h : x < 4294967296) : rot x k < 4294967296 :=
  Nat.or_lt_two_pow (n := 32) (Nat.lt_of_le_of_lt (Nat.div_le_self _ _) h) (Nat.mod_lt _ (by decide))

def sig0 (x : Nat) : Nat := rot x 7 ^^^ rot x 18 ^^^ x / 8
def sig1 (x : Nat) : Nat := rot x 17 ^^^ rot x 19 ^^^ x / 1024
def big0 (x : Nat) : Nat := rot x 2 ^^^ rot x 13 ^^^ rot x 22
def big1 (x : Nat) : Nat := rot x 6 ^^^ rot x 11 ^^^ rot x 25
def chs (e f g : Nat) : Nat := (e &&& f) ^^^ ((e ^^^ 4294967295) &&& g)
def maj (a b c : Nat) : Nat := (a &&& b) ^^^ (a &&& c) ^^^ (b &&& c)

/-- Word t of what begins at a place of a text. -/
def wordAt (b : List Nat) (at_ t : Nat) : Nat := b.getD (at_ + 4 * t) 0 * 16777216 + b.getD (at_ + 4 * t + 1) 0 * 65536 + b.getD (at_ + 4 * t + 2) 0 * 256 + b.getD (at_ + 4 * t + 3) 0
/-- The word that follows, of those ahead. -/
def wordMore (w : List Nat) (t : Nat) : Nat := (w.getD (t - 16) 0 + w.getD (t - 7) 0 + sig0 (w.getD (t - 15) 0) + sig1 (w.getD (t - 2) 0)) % 4294967296
def wordNext (b : List Nat) (at_ : Nat) (w : List Nat) (t : Nat) : Nat := if t < 16 then wordAt b at_ t else wordMore w t
/-- The first t words. -/
def words (b : List Nat) (at_ : Nat) : Nat → List Nat
  | 0 => []
  | t + 1 => words b at_ t ++ [wordNext b at_ (words b at_ t) t]

theorem words_length (b : List Nat) (at_ : Nat) : ∀ t, (words b at_ t).length = t
  | 0 => rfl
  | t + 1 => by show (words b at_ t ++ _).length = _; rw [List.length_append, words_length b at_ t]; rfl

structure St where
  a : Nat
  b : Nat
  c : Nat
  d : Nat
  e : Nat
  f : Nat
  g : Nat
  h : Nat

def xOf (s : St) (k w : Nat) : Nat := (s.h + big1 s.e + chs s.e s.f s.g + k + w) % 4294967296
def yOf (s : St) : Nat := (big0 s.a + maj s.a s.b s.c) % 4294967296
def rnd (s : St) (k w : Nat) : St := ⟨(xOf s k w + yOf s) % 4294967296, s.a, s.b, s.c, (s.d + xOf s k w) % 4294967296, s.e, s.f, s.g⟩
/-- The first t rounds. -/
def rnds (K W : List Nat) (s : St) : Nat → St
  | 0 => s
  | t + 1 => rnd (rnds K W s t) (K.getD t 0) (W.getD t 0)

def stOf (l : List Nat) : St := ⟨l.getD 0 0, l.getD 1 0, l.getD 2 0, l.getD 3 0, l.getD 4 0, l.getD 5 0, l.getD 6 0, l.getD 7 0⟩
def addSt (l : List Nat) (s : St) : List Nat :=
  [(l.getD 0 0 + s.a) % 4294967296, (l.getD 1 0 + s.b) % 4294967296, (l.getD 2 0 + s.c) % 4294967296, (l.getD 3 0 + s.d) % 4294967296, (l.getD 4 0 + s.e) % 4294967296, (l.getD 5 0 + s.f) % 4294967296, (l.getD 6 0 + s.g) % 4294967296, (l.getD 7 0 + s.h) % 4294967296]
/-- The state behind the block at a place. -/
def blockOf (K b : List Nat) (at_ : Nat) (l : List Nat) : List Nat := addSt l (rnds K (words b at_ 64) (stOf l) 64)
/-- The state behind the first n blocks. -/
def blocks (K b : List Nat) (l : List Nat) : Nat → List Nat
  | 0 => l
  | n + 1 => blockOf K b (64 * n) (blocks K b l n)

/-- So many noughts make a text and the byte 128, of n bytes in all, 56 above a multiple of 64. -/
def noughts (n : Nat) : Nat := (120 - n % 64) % 64
def eight (n : Nat) : List Nat := [n / 72057594037927936 % 256, n / 281474976710656 % 256, n / 1099511627776 % 256, n / 4294967296 % 256, n / 16777216 % 256, n / 65536 % 256, n / 256 % 256, n % 256]
def padded (l : List Nat) : List Nat := l ++ [128] ++ List.replicate (noughts (l.length + 1)) 0 ++ eight (8 * l.length)
def bytesOf (l : List Nat) : List Nat := (List.range 32).map fun i => l.getD (i / 4) 0 / 2 ^ (24 - 8 * (i % 4)) % 256
/-- The digest of a text. -/
def shaOf (K H l : List Nat) : List Nat := bytesOf (blocks K (padded l) H ((padded l).length / 64))

theorem padded_length (l : List Nat) : (padded l).length % 64 = 0 := by
  simp only [padded, List.length_append, List.length_replicate, List.length_cons, List.length_nil, eight, noughts]
  omega

theorem addSt_length (l : List Nat) (s : St) : (addSt l s).length = 8 := rfl
theorem addSt_lt (l : List Nat) (s : St) : ∀ y ∈ addSt l s, y < 4294967296 := by
  intro y hy
  simp only [addSt, List.mem_cons, List.not_mem_nil, or_false] at hy
  rcases hy with rfl | rfl | rfl | rfl | rfl | rfl | rfl | rfl <;> exact Nat.mod_lt _ (by decide)
theorem blocks_length (K b : List Nat) {l : List Nat} (h : l.length = 8) : ∀ n, (blocks K b l n).length = 8
  | 0 => h
  | _ + 1 => rfl
theorem blocks_lt (K b : List Nat) {l : List Nat} (h : ∀ y ∈ l, y < 4294967296) : ∀ n, ∀ y ∈ blocks K b l n, y < 4294967296
  | 0 => h
  | _ + 1 => addSt_lt _ _
theorem getD_lt {l : List Nat} {m : Nat} (h : ∀ y ∈ l, y < m) (h0 : 0 < m) (i : Nat) : l.getD i 0 < m := by
  by_cases hp : i < l.length
  · rw [List.getD_eq_getElem?_getD, List.getElem?_eq_getElem hp]; exact h _ (List.getElem_mem hp)
  · rw [List.getD_eq_getElem?_getD, List.getElem?_eq_none (by omega)]; exact h0
theorem wordAt_lt {b : List Nat} (h : ∀ y ∈ b, y < 256) (q t : Nat) : wordAt b q t < 4294967296 := by
  have h0 := getD_lt h (by decide) (q + 4 * t)
  have h1 := getD_lt h (by decide) (q + 4 * t + 1)
  have h2 := getD_lt h (by decide) (q + 4 * t + 2)
  have h3 := getD_lt h (by decide) (q + 4 * t + 3)
  unfold wordAt
  omega
theorem words_lt {b : List Nat} (h : ∀ y ∈ b, y < 256) (q : Nat) : ∀ t, ∀ y ∈ words b q t, y < 4294967296
  | 0 => by intro y hy; simp [words] at hy
  | t + 1 => by
    intro y hy
    rcases List.mem_append.1 (show y ∈ words b q t ++ [wordNext b q (words b q t) t] from hy) with hy | hy
    · exact words_lt h q t y hy
    · rw [List.mem_singleton] at hy
      subst hy
      unfold wordNext
      split
      · exact wordAt_lt h q t
      · exact Nat.mod_lt _ (by decide)

structure StLt (s : St) : Prop where
  a : s.a < 4294967296
  b : s.b < 4294967296
  c : s.c < 4294967296
  d : s.d < 4294967296
  e : s.e < 4294967296
  f : s.f < 4294967296
  g : s.g < 4294967296
  h : s.h < 4294967296

theorem rnds_lt (K W : List Nat) {s : St} (h : StLt s) : ∀ t, StLt (rnds K W s t)
  | 0 => h
  | t + 1 => by
    have i := rnds_lt K W h t
    exact ⟨Nat.mod_lt _ (by decide), i.a, i.b, i.c, Nat.mod_lt _ (by decide), i.e, i.f, i.g⟩

theorem stOf_lt {l : List Nat} (h : ∀ y ∈ l, y < 4294967296) : StLt (stOf l) :=
  ⟨getD_lt h (by decide) _, getD_lt h (by decide) _, getD_lt h (by decide) _, getD_lt h (by decide) _, getD_lt h (by decide) _, getD_lt h (by decide) _, getD_lt h (by decide) _, getD_lt h (by decide) _⟩

end Go.Proofs.YtjhipfgmiilmdaaDoor
