/- A map of texts in memory: what its look-ups answer, what a store and a removal make of it. · Files in memory: the contracts of has, sizeOf, many, text. · Files in memory: the contracts of put and take. · Files in memory: the contracts of take, and of do. · Files in memory: the contract of do. · Slices of records (structs of k one-cell fields): what reads, what is owned, an append of one. Nothing of the program. · A disk in memory; the contracts of New, able, operate, Fuse, Pending, Used, Down. · A disk in memory: the contracts of New, Fuse, Pending, Used, Down, sign, Named. · Which texts are names: the program's Named, and the document's. -/
import Derived.Test.YtojndpelilolkaaDaP
import Derived.StringKeys
import Derived.Laws.DeepNot64
import Derived.Lib.Hide
import Derived.StillTailTactics
import Derived.WalkSpells
import Derived.Maps.OwnSet
import Derived.Deep.RegionHeld3
import Derived.Maps.AppendAt
namespace Go.Proofs.Ytojndpelilolkaa
open Go.RowKit
open Go.Maps (Keyed)

abbrev hv : Value → Option (DataW Value × List MemPlace) := fun v => some (.held v, [])
def ent (f : Nm × Value) : Lit × DataW Value := (.string f.1, .held f.2)
def nmV (n : Nm) : Value := .string ⟨n.toArray⟩
theorem nmV_of (s : ByteArray) : Value.string s = nmV s.data.toList := by unfold nmV; simp

theorem keyed_str : Keyed Try.prog 9 := Maps.string_keyed Try.underlying9
theorem key_nm {n : Nm} (hn : n.length ≤ maxLen) : keyOf Try.prog 9 (nmV n) = some (.string n) := by
  have h := WideMaps.keyOf_string_mk (P := Try.prog) (k := 9) Try.underlying9 (s := ⟨n.toArray⟩) (by simpa [ByteArray.size] using hn)
  simpa [nmV] using h

theorem insert_ent (n : Nm) (v : Value) : ∀ es : Fm Value, DataW.insert (.string n, .held v) (es.map ent) = (fins n v es).map ent
  | [] => rfl
  | x :: r => by
    unfold fins
    simp only [List.map_cons, DataW.insert]
    have e : Lit.before (.string n) (ent x).1 = bytesBefore n x.1 := rfl
    rw [e]
    split
    · rfl
    · simp only [List.map_cons]; rw [insert_ent n v r]
theorem filter_ent (n : Nm) (es : Fm Value) : (es.map ent).filter (fun p => !p.1.sameKey (.string n)) = (fdel es n).map ent := by
  unfold fdel
  rw [List.filter_map]
  rfl
theorem put_ent (es : Fm Value) (n : Nm) (v : Value) : DataW.put (.map (es.map ent)) (.string n) (.held v) = .map ((fput es n v).map ent) := by
  unfold DataW.put fput
  simp only
  rw [filter_ent, insert_ent]
theorem del_ent (es : Fm Value) (n : Nm) : DataW.del (.map (es.map ent)) (.string n) = .map ((fdel es n).map ent) := by
  unfold DataW.del
  simp only
  rw [filter_ent]
theorem atKey_ent (es : Fm Value) (n : Nm) (z : Value) : DataW.atKey (.map (es.map ent)) (.string n) (.held z) = .held ((fget es n).getD z) := by
  unfold DataW.atKey fget
  simp only
  rw [List.find?_map]
  have e : ((fun p : Lit × DataW Value => p.1.sameKey (.string n)) ∘ ent) = fun f : Nm × Value => f.1 == n := rfl
  rw [e]
  cases es.find? (fun f => f.1 == n) <;> rfl
theorem has_ent (es : Fm Value) (n : Nm) : Maps.has (.map (es.map ent)) (.string n) = fhas es n := by
  rw [Maps.has_eq]
  unfold fhas
  rw [List.any_map]
  rfl

/-- The map value holds these entries. -/
def MapV (w : World) (mb : Option Nat) (es : Fm Value) : Prop :=
  match mb with
  | none => es = []
  | some b => w.ownsMap Try.prog 9 hv b es.length (.map (es.map ent))
theorem MapV.zero (w : World) : (zeroValue 32).run Try.prog w = .ok (.slice none 0 0) w := by kernel_rfl
theorem MapV.lt {w : World} {b : Nat} {es : Fm Value} (h : MapV w (some b) es) : b < w.heap.size := World.ownsMap.lt h
theorem MapV.apart {w : World} {mb : Option Nat} {es : Fm Value} (h : MapV w mb es) : Apart es := by
  cases mb with
  | none =>
    obtain rfl : es = [] := h
    exact List.Pairwise.nil
  | some b =>
    obtain ⟨l, hl, hp⟩ := World.ownsMap.tidy h keyed_str
    cases hl
    have := List.pairwise_map.1 hp
    exact this.imp fun {a b} hab e => hab (by unfold ent; rw [e])
theorem MapV.keep {w w' : World} {mb : Option Nat} {es : Fm Value} (h : MapV w mb es) (hk : ∀ b, mb = some b → w'.heap[b]? = w.heap[b]?) : MapV w' mb es := by
  cases mb with
  | none => exact h
  | some b =>
    obtain ⟨e, c, hb, r⟩ := h
    exact ⟨e, c, (hk b rfl).trans hb, r⟩
theorem MapV.obj {w : World} {b : Nat} {es : Fm Value} (h : MapV w (some b) es) : ∃ e c, w.heap[b]? = some (.map e c) := by
  obtain ⟨e, c, hb, _⟩ := h
  exact ⟨e, c, hb⟩
theorem tight {w : World} {b n : Nat} {es : Fm Value} (h : w.ownsMap Try.prog 9 hv b n (.map (es.map ent))) : MapV w (some b) es := by
  obtain ⟨e, c, hb, F, _, hD⟩ := h
  refine ⟨e, c, hb, F, ?_, hD⟩
  have := congrArg Maps.size hD
  simp [Maps.size, length_sorted] at this
  omega

end Go.Proofs.Ytojndpelilolkaa

namespace Go.Proofs.Ytojndpelilolkaa
open Go.RowKit

/-- A map of texts in memory; all its blocks are of S. -/
def TM (w : World) (S : Nat → Prop) (mb : Option Nat) (l : Fm (List Nat)) : Prop :=
  ∃ es, MapV w mb es ∧ Zip (At w (Typ w S 5) .u8) es l ∧ ∀ b, mb = some b → S b

theorem TM.apart {w : World} {S : Nat → Prop} {mb : Option Nat} {l : Fm (List Nat)} (h : TM w S mb l) : Apart l := by
  obtain ⟨es, hm, hz, _⟩ := h
  exact hm.apart.zip hz
/-- What is kept: the map's block, and the blocks of bytes. -/
theorem TM.keep {w w' : World} {S S' : Nat → Prop} {mb : Option Nat} {l : Fm (List Nat)} (h : TM w S mb l) (hk : Kept (Typ w S 5) w w') (hb : ∀ b, mb = some b → w'.heap[b]? = w.heap[b]?) (hs : ∀ j, S j → S' j) : TM w' S' mb l := by
  obtain ⟨es, hm, hz, hS⟩ := h
  exact ⟨es, hm.keep hb, hz.mono fun a b hat => hat.typ hk hs, fun b e => hs b (hS b e)⟩
theorem TM.lt {w : World} {S : Nat → Prop} {b : Nat} {l : Fm (List Nat)} (h : TM w S (some b) l) : b < w.heap.size := by
  obtain ⟨es, hm, _⟩ := h
  exact hm.lt
theorem TM.obj {w : World} {S : Nat → Prop} {b : Nat} {l : Fm (List Nat)} (h : TM w S (some b) l) : ∃ e c, w.heap[b]? = some (.map e c) := by
  obtain ⟨es, hm, _⟩ := h
  exact hm.obj

/-- What a look-up hands back reads as what stands there. -/
theorem zip_val {w : World} {B : Nat → Prop} {es : Fm Value} {l : Fm (List Nat)} (hz : Zip (At w B .u8) es l) (n : Nm) : At w B .u8 ((fget es n).getD (.slice none 0 0)) ((fget l n).getD []) := by
  rcases hz.get n with ⟨h1, h2⟩ | ⟨a, b, h1, h2, h⟩
  · rw [h1, h2]
    exact ⟨⟨none, 0, rfl, by simp, by simp [maxLen], fun _ => rfl, .inl rfl⟩, .inl rfl⟩
  · rw [h1, h2]; exact h

end Go.Proofs.Ytojndpelilolkaa

namespace Go.Proofs.Ytojndpelilolkaa
open Go.RowKit

/-- S, and what was made since. -/
def Ext (S : Nat → Prop) (w w' : World) : Nat → Prop := fun j => S j ∨ (w.heap.size ≤ j ∧ j < w'.heap.size)

theorem typ_not_map {w : World} {S : Nat → Prop} {e : TypeId} {b : Nat} (h : ∃ es c, w.heap[b]? = some (.map es c)) : ¬ Typ w S e b := by
  rintro ⟨_, cs, hc⟩
  obtain ⟨es, c, h⟩ := h
  rw [h] at hc
  cases hc
theorem typ_not_other {w : World} {S : Nat → Prop} {e e' : TypeId} {b : Nat} {cs : Array Value} (h : w.heap[b]? = some (.cells cs e' (0, 0))) (hne : e' ≠ e) : ¬ Typ w S e b := by
  rintro ⟨_, cs', hc⟩
  rw [h] at hc
  cases hc
  exact hne rfl

theorem w64_id {n : Int} (h : -9223372036854775808 ≤ n) (h2 : n ≤ 9223372036854775807) : wrap64 n = n := by simp only [wrap64]; omega
theorem sz_wrap {a b c d : Nat} (h : a < 4611686018427387904) (hb : b < 4611686018427387904) (hc : d + c = a + b) : wrap64 ((a : Int) + wrap64 ((b : Int) - (c : Int))) = (d : Int) := by
  rw [w64_id (n := (b : Int) - (c : Int)) (by omega) (by omega), w64_id (by omega) (by omega)]
  omega

end Go.Proofs.Ytojndpelilolkaa

namespace Go.Proofs.Ytojndpelilolkaa
open Go.RowKit

theorem set_same {cs : Array Value} {o : Nat} {v : Value} (h : cs[o]? = some v) : cs.setIfInBounds o v = cs := by
  apply Array.ext_getElem?
  intro i
  by_cases hi : i = o
  · subst hi
    rw [h, Array.getElem?_setIfInBounds_self_of_lt (Array.getElem?_eq_some_iff.1 h).1]
  · rw [Array.getElem?_setIfInBounds_ne (Ne.symm hi)]

theorem sub_wrap {a c d : Nat} (h : a < 4611686018427387904) (hc : a = d + c) : wrap64 ((a : Int) - (c : Int)) = (d : Int) := by
  rw [w64_id (by omega) (by omega)]
  omega

end Go.Proofs.Ytojndpelilolkaa

namespace Go.Proofs.Ytojndpelilolkaa
open Go.RowKit

theorem Ext.sub {S : Nat → Prop} {w w1 w2 : World} (h : w.heap.size ≤ w1.heap.size) {j : Nat} (hj : Ext S w1 w2 j) : Ext S w w2 j := by
  rcases hj with h1 | ⟨h1, h2⟩
  · exact .inl h1
  · exact .inr ⟨Nat.le_trans h h1, h2⟩
theorem Ext.mid {S : Nat → Prop} {w w1 w2 : World} (h1 : w.heap.size ≤ w1.heap.size) (h2 : w1.heap.size ≤ w2.heap.size) {j : Nat} (hj : Ext (Ext S w w1) w1 w2 j) : Ext S w w2 j := by
  rcases hj with (h | ⟨h, h'⟩) | ⟨h, h'⟩
  · exact .inl h
  · exact .inr ⟨h, Nat.lt_of_lt_of_le h' h2⟩
  · exact .inr ⟨Nat.le_trans h1 h, h'⟩
theorem TM.mono {w : World} {S S' : Nat → Prop} {mb : Option Nat} {l : Fm (List Nat)} (h : TM w S mb l) (hs : ∀ j, S j → S' j) : TM w S' mb l :=
  h.keep (Kept.refl _ _) (fun _ _ => rfl) hs
theorem set_twice {cs : Array Value} {o : Nat} {a b x y : Value} : (((cs.setIfInBounds o a).setIfInBounds (o + 1) b).setIfInBounds o x).setIfInBounds (o + 1) y = (cs.setIfInBounds o x).setIfInBounds (o + 1) y := by
  apply Array.ext_getElem?
  intro i
  simp only [Array.getElem?_setIfInBounds, Array.size_setIfInBounds]
  repeat' split
  all_goals first | rfl | omega

theorem fsz_tot {l : Fm (List Nat)} (h : Apart l) (n : Nm) : fsz l n ≤ tot l := by
  have := tot_del h n
  omega
theorem tot_fdel {l : Fm (List Nat)} (h : Apart l) (n : Nm) : tot (fdel l n) ≤ tot l := by
  have := tot_del h n
  omega

/-- A change as a value. -/
def chV (c : Ch) (v : Value) : Value := .agg #[.int .i64 (c.kind : Int), nmV c.name, nmV c.to, v]
structure ChOk (c : Ch) : Prop where
  kind : c.kind ≤ 2
  name : c.name.length ≤ 1000
  to : c.to.length ≤ 1000
  text : c.text.length ≤ 65536
  byte : ∀ y ∈ c.text, y < 256

theorem maxLen_1000 {n : Nat} (h : n ≤ 1000) : n ≤ maxLen := Nat.le_trans h (by simp [maxLen])
theorem maxLen_62 {n : Nat} (h : n < 4611686018427387904) : n < maxLen := Nat.lt_of_lt_of_le h (by simp [maxLen])
theorem capply_write {l : Fm (List Nat)} {n to : Nm} {t : List Nat} : capply l ⟨0, n, to, t⟩ = fput l n t := rfl
theorem capply_no {l : Fm (List Nat)} {n to : Nm} {t : List Nat} (h : fhas l n = false) : capply l ⟨1, n, to, t⟩ = l := by
  unfold capply
  rw [fhas_get] at h
  cases hg : fget l n with
  | none => simp
  | some x => rw [hg] at h; cases h
theorem capply_rename {l : Fm (List Nat)} {n to : Nm} {t : List Nat} (h : fhas l n = true) : capply l ⟨1, n, to, t⟩ = fput (fdel l n) to ((fget l n).getD []) := by
  unfold capply
  rw [fhas_get] at h
  cases hg : fget l n with
  | none => rw [hg] at h; cases h
  | some x => simp
theorem capply_remove {l : Fm (List Nat)} {n to : Nm} {t : List Nat} : capply l ⟨2, n, to, t⟩ = fdel l n := by
  unfold capply
  cases hg : fget l n with
  | none => simp [fdel_none hg]
  | some x => simp

theorem cg0 {cs : Array Value} {o : Nat} {a x y : Value} (h0 : cs[o]? = some a) : ((cs.setIfInBounds o x).setIfInBounds (o + 1) y)[o]? = some x := by
  have := (Array.getElem?_eq_some_iff.1 h0).1
  rw [Array.getElem?_setIfInBounds_ne (by omega), Array.getElem?_setIfInBounds_self_of_lt this]
theorem cg1 {cs : Array Value} {o : Nat} {b x y : Value} (h1 : cs[o + 1]? = some b) : ((cs.setIfInBounds o x).setIfInBounds (o + 1) y)[o + 1]? = some y := by
  have := (Array.getElem?_eq_some_iff.1 h1).1
  rw [Array.getElem?_setIfInBounds_self_of_lt (by simpa using this)]

end Go.Proofs.Ytojndpelilolkaa

namespace Go.Proofs.Ytojndpelilolkaa
open Go.RowKit

/-- The slice value v reads as these records; its cells lie in a block of which B holds. -/
def RecAt (w : World) (B : Nat → Prop) (k : Nat) (v : Value) (rows : List (List Value)) : Prop :=
  ∃ ao cap, v = .slice ao rows.length cap ∧ rows.length ≤ cap ∧ cap ≤ maxLen ∧ (ao = none → cap = 0) ∧
    (rows = [] ∨ ∃ b off, ao = some ⟨b, off, none⟩ ∧ b < w.heap.size ∧ B b ∧ ∀ i r, rows[i]? = some r → ∀ j u, r[j]? = some u → w.cell? ⟨b, off + i * k + j, none⟩ = some u)
theorem RecAt.keep {w w' : World} {B : Nat → Prop} {k : Nat} {v : Value} {rows : List (List Value)} (h : RecAt w B k v rows) (hk : Kept B w w') : RecAt w' B k v rows := by
  obtain ⟨ao, cap, rfl, h1, h2, h3, h4⟩ := h
  refine ⟨ao, cap, rfl, h1, h2, h3, ?_⟩
  rcases h4 with h4 | ⟨b, off, rfl, hb, hB, hc⟩
  · exact .inl h4
  · exact .inr ⟨b, off, rfl, Nat.lt_of_lt_of_le hb hk.size, hB, fun i r hi j u hu => (World.cell?_of_block (hk.block b hb hB)).trans (hc i r hi j u hu)⟩
theorem RecAt.mono {w : World} {B C : Nat → Prop} {k : Nat} {v : Value} {rows : List (List Value)} (h : RecAt w B k v rows) (hc : ∀ j, j < w.heap.size → B j → C j) : RecAt w C k v rows := by
  obtain ⟨ao, cap, rfl, h1, h2, h3, h4⟩ := h
  refine ⟨ao, cap, rfl, h1, h2, h3, ?_⟩
  rcases h4 with h4 | ⟨b, off, rfl, hb, hB, hcc⟩
  · exact .inl h4
  · exact .inr ⟨b, off, rfl, hb, hc b hb hB, hcc⟩
theorem RecAt.val {w : World} {B : Nat → Prop} {k : Nat} {v : Value} {rows : List (List Value)} (h : RecAt w B k v rows) : ∃ ao cap, v = .slice ao rows.length cap ∧ rows.length ≤ cap ∧ cap ≤ maxLen ∧ (ao = none → cap = 0) := by
  obtain ⟨ao, cap, hv, h1, h2, h3, _⟩ := h
  exact ⟨ao, cap, hv, h1, h2, h3⟩
theorem RecAt.at {w : World} {B : Nat → Prop} {k : Nat} {ao : Option Addr} {n cap : Nat} {rows : List (List Value)} (h : RecAt w B k (.slice ao n cap) rows) {i : Nat} {r : List Value} (hi : rows[i]? = some r) :
    ∃ b off, ao = some ⟨b, off, none⟩ ∧ b < w.heap.size ∧ B b ∧ ∀ j u, r[j]? = some u → w.cell? ⟨b, off + i * k + j, none⟩ = some u := by
  obtain ⟨ao', cap', hv, _, _, _, h4⟩ := h
  simp only [Value.slice.injEq] at hv
  obtain ⟨rfl, _, _⟩ := hv
  rcases h4 with rfl | ⟨b, off, ha, hb, hB, hc⟩
  · cases hi
  · exact ⟨b, off, ha, hb, hB, hc i r hi⟩
theorem recAt_nil (w : World) (B : Nat → Prop) (k : Nat) : RecAt w B k (.slice none 0 0) [] := ⟨none, 0, rfl, by simp, by simp [maxLen], fun _ => rfl, .inl rfl⟩

theorem flat_length {k : Nat} : ∀ {rows : List (List Value)}, (∀ r ∈ rows, r.length = k) → rows.flatten.length = rows.length * k
  | [], _ => by simp
  | r :: rs, h => by
    have h1 := flat_length (rows := rs) fun x hx => h x (by simp [hx])
    have h2 := h r (by simp)
    rw [List.flatten_cons, List.length_append, h1, h2, List.length_cons, Nat.add_mul]
    omega
theorem flat_get {k : Nat} : ∀ {rows : List (List Value)}, (∀ r ∈ rows, r.length = k) → ∀ {i : Nat} {r : List Value}, rows[i]? = some r → ∀ {j : Nat} {u : Value}, r[j]? = some u → rows.flatten[i * k + j]? = some u
  | [], _, i, r, hi, j, u, hu => by cases hi
  | x :: rs, h, i, r, hi, j, u, hu => by
    have hx := h x (by simp)
    rw [List.flatten_cons]
    cases i with
    | zero =>
      obtain rfl : x = r := by simpa using hi
      have hj : j < x.length := (List.getElem?_eq_some_iff.1 hu).1
      rw [Nat.zero_mul, Nat.zero_add, List.getElem?_append_left hj]
      exact hu
    | succ i =>
      have hi' : rs[i]? = some r := by simpa using hi
      have := flat_get (rows := rs) (fun y hy => h y (by simp [hy])) hi' hu
      rw [List.getElem?_append_right (by rw [hx, Nat.add_mul]; omega), hx]
      have e : (i + 1) * k + j - k = i * k + j := by rw [Nat.add_mul]; omega
      rw [e]
      exact this

/-- An owned row of records. -/
def RecOwn (w : World) (base : Nat) (e : TypeId) (k : Nat) (v : Value) (rows : List (List Value)) : Prop := (∀ r ∈ rows, r.length = k) ∧ w.ownsRow base e k v rows.length rows.flatten
theorem recOwn_nil (w : World) (base : Nat) (e : TypeId) (k : Nat) : RecOwn w base e k (.slice none 0 0) [] := ⟨by simp, World.ownsRow_nil w base e k⟩
theorem recOwn_empty (w : World) (base : Nat) (e : TypeId) (k : Nat) (hb : base ≤ w.heap.size) : RecOwn (w.alloc (.cells #[] e)) base e k (.slice (some ⟨w.heap.size, 0, none⟩) 0 0) [] :=
  ⟨by simp, World.ownsRow_lit w #[] 0 hb (by simp [maxLen]) (by simp)⟩
theorem RecOwn.at' {w : World} {base : Nat} {e : TypeId} {k : Nat} {v : Value} {rows : List (List Value)} (h : RecOwn w base e k v rows) : RecAt w (fun j => v.ownBlock = some j ∧ base ≤ j) k v rows := by
  have h0 := h.2
  rcases h.2.2 with ⟨rfl, hn⟩ | ⟨g, cap, cur, rfl, hb, hg, hnc, hm, hs, ht⟩
  · obtain rfl : rows = [] := List.length_eq_zero_iff.1 hn
    exact recAt_nil _ _ _
  · refine ⟨_, cap, rfl, hnc, hm, by simp, .inr ⟨g, 0, rfl, (Array.getElem?_eq_some_iff.1 hg).1, ⟨rfl, hb⟩, fun i r hi j u hu => ?_⟩⟩
    have := h0.cells (g := g) rfl (i * k + j) u (flat_get h.1 hi hu)
    rw [Addr.add_lit] at this
    simpa using this
theorem RecOwn.block {w : World} {base : Nat} {e : TypeId} {k : Nat} {v : Value} {rows : List (List Value)} (h : RecOwn w base e k v rows) {j : Nat} (hj : v.ownBlock = some j) : base ≤ j ∧ j < w.heap.size ∧ ∃ cs, w.heap[j]? = some (.cells cs e (0, 0)) := by
  rcases h.2.2 with ⟨rfl, _⟩ | ⟨g, cap, cur, rfl, hb, hg, _⟩
  · cases hj
  · cases hj; exact ⟨hb, (Array.getElem?_eq_some_iff.1 hg).1, _, hg⟩
theorem RecOwn.keep {w w' : World} {base : Nat} {e : TypeId} {k : Nat} {v : Value} {rows : List (List Value)} (h : RecOwn w base e k v rows) (hk : ∀ j, v.ownBlock = some j → w'.heap[j]? = w.heap[j]?) : RecOwn w' base e k v rows := by
  refine ⟨h.1, h.2.1, ?_⟩
  rcases h.2.2 with h2 | ⟨g, cap, cur, rfl, hb, hg, r⟩
  · exact .inl h2
  · exact .inr ⟨g, cap, cur, rfl, hb, (hk g rfl).trans hg, r⟩
theorem RecOwn.mono {w : World} {base base' : Nat} {e : TypeId} {k : Nat} {v : Value} {rows : List (List Value)} (h : RecOwn w base e k v rows) (hb : base' ≤ base) : RecOwn w base' e k v rows := by
  refine ⟨h.1, h.2.1, ?_⟩
  rcases h.2.2 with h2 | ⟨g, cap, cur, h3, h4, r⟩
  · exact .inl h2
  · exact .inr ⟨g, cap, cur, h3, Nat.le_trans hb h4, r⟩
theorem RecOwn.val {w : World} {base : Nat} {e : TypeId} {k : Nat} {v : Value} {rows : List (List Value)} (h : RecOwn w base e k v rows) : ∃ ao cap, v = .slice ao rows.length cap ∧ rows.length ≤ cap ∧ cap ≤ maxLen ∧ (ao = none → cap = 0) := h.at'.val

/-- A record that lies in a block of its own. -/
theorem rec_cell (W : World) (r : List Value) (e : TypeId) : ∀ j u, r[j]? = some u → (W.alloc (.cells r.toArray e)).cell? ((⟨W.heap.size, 0, none⟩ : Addr).add j) = some u := by
  intro j u hu
  rw [Addr.add_lit, Nat.zero_add, World.cell?_alloc_mark]
  simpa using hu

/-- A walk of an append of one record, onto a row that the call owns. -/
theorem wpList_appRec {P : Program} (w : World) {ops : Array Oper} {rest : List Oper} {o : Oper} {a : Act} {Q : Exit → Act → World → Prop} (hgd : o.guard = none) (s x : Operand) (t : TypeId)
    (ho : o.op = .call { callee := .builtin .append, args := #[s, x], argTypes := #[t, t] })
    (base : Nat) (e : TypeId) (z : Value) (k bytes : Nat) (ht : P.underlying t = some (.slice e)) (hinfo : (P.info? e).map (fun i => (i.zero, i.size, i.bytes)) = some (some z, k, bytes)) (hzs : z.cells.size = k) (hk0 : 0 < k)
    (v : Value) (rows : List (List Value)) (hs : a.eval s = v) (hown : RecOwn w base e k v rows)
    (r : List Value) (hr : r.length = k) (h1c : ∀ u ∈ r, u.oneCell' = true) (ad : Addr) (hx : a.eval x = .slice (some ad) 1 1) (hcell : ∀ j u, r[j]? = some u → w.cell? (ad.add j) = some u)
    (hlen : rows.length + 1 ≤ maxLen) (hbytes : (rows.length + 1) * bytes ≤ 140737488355328) (hbase : base ≤ w.heap.size)
    (h : ∀ v' w', RecOwn w' base e k v' (rows ++ [r]) → w.grownBy w' v.ownBlock → (v'.ownBlock = v.ownBlock ∨ v'.ownBlock = some w.heap.size) → wpList P ops Q rest (a.put o.dst v') w') : wpList P ops Q (o :: rest) a w := by
  obtain ⟨i, hi, hz, hsz, hby⟩ := info_parts hinfo
  refine wpList_append_own_at w hgd s x t ho base e i z k bytes ht hi hz hsz hby hzs hk0 v rows.length rows.flatten hs hown.2 ad 1 1 r hx (by rw [hr]; omega) hcell h1c hlen hbytes hbase ?_
  intro v' w' hown' hg _ hloc
  refine h v' w' ⟨?_, ?_⟩ hg hloc
  · intro y hy
    rcases List.mem_append.1 hy with hy | hy
    · exact hown.1 y hy
    · obtain rfl : y = r := by simpa using hy
      exact hr
  · rw [List.length_append, List.flatten_append]
    simpa using hown'

end Go.Proofs.Ytojndpelilolkaa

namespace Go.Proofs.Ytojndpelilolkaa
open Go.RowKit

def chRow (x : Ch × Value) : List Value := [.int .i64 (x.1.kind : Int), nmV x.1.name, nmV x.1.to, x.2]
/-- How many files and changes there are: no more than 2^40 are spoken of. -/
def DS.sz (d : DS) : Nat := d.sure.length + d.chs.length
section
variable {w w' : World} {S : Nat → Prop} {p : Nat} {m1 m2 : Option Nat} {cv : Value} {d : DS}
theorem small_tot {l : Fm (List Nat)} {n : Nat} (h : Small 65536 l) (hl : l.length ≤ n) (hn : n < 1099511627776) : tot l < 4611686018427387904 := by
  have h1 := tot_le fun f hf => (h f hf).1
  have h2 : l.length * 65536 ≤ n * 65536 := Nat.mul_le_mul_right _ hl
  omega
theorem lenShown (d : DS) : d.shown.length ≤ d.sz := shownOf_length d.chs d.sure
end

end Go.Proofs.Ytojndpelilolkaa

namespace Go.Proofs.Ytojndpelilolkaa
open Go.RowKit

theorem nsign_eq (b : UInt8) : nsign b = ((decide (97 ≤ b.toNat) && decide (b.toNat ≤ 122)) || (decide (48 ≤ b.toNat) && decide (b.toNat ≤ 57)) || b.toNat == 45 || b.toNat == 46 || b.toNat == 126) := rfl

end Go.Proofs.Ytojndpelilolkaa

namespace Go.Proofs.Ytojndpelilolkaa
open Go.RowKit

def chN (n : Nm) (i : Nat) : Nat := (n.getD i 0).toNat
def signN (x : Nat) : Bool := (decide (97 ≤ x) && decide (x ≤ 122)) || (decide (48 ≤ x) && decide (x ≤ 57)) || x == 45 || x == 46 || x == 126
theorem signN_eq (n : Nm) (i : Nat) : signN (chN n i) = nsign (n.getD i 0) := rfl
theorem chN_lt (n : Nm) (i : Nat) : chN n i < 256 := UInt8.toNat_lt _
theorem size_nm (n : Nm) : ByteArray.size ⟨n.toArray⟩ = n.length := by simp [ByteArray.size]
theorem run_chN (n : Nm) (i : Nat) (hi : i < n.length) (w : World) : (Instr.index 9 (.string ⟨n.toArray⟩) (.int .i64 (i : Int))).run Try.prog w = .ok (.int .u8 ((chN n i : Nat) : Int)) w := by
  have hs := size_nm n
  rw [run_index_string w 9 _ .i64 (i : Int) Try.underlying9, dif_pos ⟨by omega, by omega⟩]
  have h : n.getD i 0 = (ByteArray.mk n.toArray)[i]'(by rw [hs]; exact hi) := by
    rw [List.getD, List.getElem?_eq_getElem hi]
    rfl
  simp only [Int.toNat_natCast, chN, h]
theorem all_take {n : Nm} {k : Nat} (h : k < n.length) : (n.take (k + 1)).all nsign = ((n.take k).all nsign && nsign (n.getD k 0)) := by
  rw [List.take_add_one, List.getElem?_eq_getElem h, Option.toList_some, List.all_append]
  simp [List.getD, List.getElem?_eq_getElem h]
theorem all_false {n : Nm} {k : Nat} (h : k < n.length) (hs : nsign (n.getD k 0) = false) : n.all nsign = false := by
  rw [List.all_eq_false]
  exact ⟨n[k], List.getElem_mem h, by
    have : n.getD k 0 = n[k] := by rw [List.getD, List.getElem?_eq_getElem h]; rfl
    rw [← this, hs]; decide⟩

theorem signN_yes {x : Nat} (h : signN x = true) : ((97 ≤ x ∧ x ≤ 122) ∨ (48 ≤ x ∧ x ≤ 57)) ∨ x = 45 ∨ x = 46 ∨ x = 126 := by
  unfold signN at h
  simp only [Bool.or_eq_true, Bool.and_eq_true, decide_eq_true_eq, beq_iff_eq] at h
  omega
theorem signN_no {x : Nat} (h : signN x = false) : (x < 97 ∨ 122 < x) ∧ (x < 48 ∨ 57 < x) ∧ x ≠ 45 ∧ x ≠ 46 ∧ x ≠ 126 := by
  rw [← Bool.not_eq_true] at h
  unfold signN at h
  simp only [Bool.or_eq_true, Bool.and_eq_true, decide_eq_true_eq, beq_iff_eq] at h
  omega

end Go.Proofs.Ytojndpelilolkaa
