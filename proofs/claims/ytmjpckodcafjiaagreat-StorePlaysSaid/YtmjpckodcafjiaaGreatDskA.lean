/- A map of texts in memory: what its look-ups answer, what a store and a removal make of it. -/
import Derived.Test.YtmjpckodcafjiaaGreatDskM
import Derived.Test.YtmjpckodcafjiaaGreatFrm
import Derived.StringKeys
import Derived.Test.YtmjpckodcafjiaaGreatCloneA
import Derived.Test.YtmjpckodcafjiaaGreatNumA
namespace Go.Proofs.YtmjpckodcafjiaaGreat
open Go.RowKit
open Go.Maps (Keyed)

abbrev hv : Value → Option (DataW Value × List MemPlace) := fun v => some (.held v, [])
def ent (f : Nm × Value) : Lit × DataW Value := (.string f.1, .held f.2)
def nmV (n : Nm) : Value := .string ⟨n.toArray⟩
theorem nmV_of (s : ByteArray) : Value.string s = nmV s.data.toList := by unfold nmV; simp

theorem keyed_str : Keyed Tryz.prog 9 := Maps.string_keyed Tryz.underlying9
theorem key_nm {n : Nm} (hn : n.length ≤ maxLen) : keyOf Tryz.prog 9 (nmV n) = some (.string n) := by
  have h := WideMaps.keyOf_string_mk (P := Tryz.prog) (k := 9) Tryz.underlying9 (s := ⟨n.toArray⟩) (by simpa [ByteArray.size] using hn)
  simpa [nmV] using h

theorem insert_ent (n : Nm) (v : Value) : ∀ es : Fm Value, DataW.insert (.string n, .held v) (es.map ent) = (fins n v es).map ent
  | [] => rfl
  | x :: r => by
    unfold fins
    simp only [List.map_cons, DataW.insert]
    have e : Lit.before (.string n) (ent x).1 = bytesBefore n x.1 := rfl
    rw [e]
    split
    · rfl
    · simp only [List.map_cons]; rw [insert_ent n v r]
theorem filter_ent (n : Nm) (es : Fm Value) : (es.map ent).filter (fun p => !p.1.sameKey (.string n)) = (fdel es n).map ent := by
  unfold fdel
  rw [List.filter_map]
  rfl
theorem put_ent (es : Fm Value) (n : Nm) (v : Value) : DataW.put (.map (es.map ent)) (.string n) (.held v) = .map ((fput es n v).map ent) := by
  unfold DataW.put fput
  simp only
  rw [filter_ent, insert_ent]
theorem del_ent (es : Fm Value) (n : Nm) : DataW.del (.map (es.map ent)) (.string n) = .map ((fdel es n).map ent) := by
  unfold DataW.del
  simp only
  rw [filter_ent]
theorem atKey_ent (es : Fm Value) (n : Nm) (z : Value) : DataW.atKey (.map (es.map ent)) (.string n) (.held z) = .held ((fget es n).getD z) := by
  unfold DataW.atKey fget
  simp only
  rw [List.find?_map]
  have e : ((fun p : Lit × DataW Value => p.1.sameKey (.string n)) ∘ ent) = fun f : Nm × Value => f.1 == n := rfl
  rw [e]
  cases es.find? (fun f => f.1 == n) <;> rfl
theorem has_ent (es : Fm Value) (n : Nm) : Maps.has (.map (es.map ent)) (.string n) = fhas es n := by
  rw [Maps.has_eq]
  unfold fhas
  rw [List.any_map]
  rfl

/-- The map value holds these entries. -/
def MapV (w : World) (mb : Option Nat) (es : Fm Value) : Prop :=
  match mb with
  | none => es = []
  | some b => w.ownsMap Tryz.prog 9 hv b es.length (.map (es.map ent))
theorem MapV.zero (w : World) : (zeroValue 41).run Tryz.prog w = .ok (.slice none 0 0) w := by kernel_rfl
theorem MapV.lt {w : World} {b : Nat} {es : Fm Value} (h : MapV w (some b) es) : b < w.heap.size := World.ownsMap.lt h
theorem MapV.look {w : World} {mb : Option Nat} {es : Fm Value} (h : MapV w mb es) {n : Nm} (hn : n.length ≤ maxLen) :
    (Instr.lookup 68 (.map mb) (nmV n) false).run Tryz.prog w = .ok ((fget es n).getD (.slice none 0 0)) w := by
  cases mb with
  | none =>
    obtain rfl : es = [] := h
    exact Maps.look_nil false keyed_str Tryz.underlying68 (MapV.zero w) (key_nm hn)
  | some b =>
    obtain ⟨v, ps, hr, hd⟩ := World.ownsMap.lookup h keyed_str Tryz.underlying68 (MapV.zero w) (zd := .held (.slice none 0 0)) (zp := []) rfl (key_nm hn)
    rw [atKey_ent] at hd
    have e : v = (fget es n).getD (.slice none 0 0) := by cases hd; rfl
    rw [hr, e]
theorem MapV.lookOk {w : World} {mb : Option Nat} {es : Fm Value} (h : MapV w mb es) {n : Nm} (hn : n.length ≤ maxLen) :
    (Instr.lookup 68 (.map mb) (nmV n) true).run Tryz.prog w = .ok (.tuple #[(fget es n).getD (.slice none 0 0), .bool (fhas es n)]) w := by
  cases mb with
  | none =>
    obtain rfl : es = [] := h
    exact Maps.look_nil true keyed_str Tryz.underlying68 (MapV.zero w) (key_nm hn)
  | some b =>
    obtain ⟨v, ps, hr, hd⟩ := World.ownsMap.look_ok h keyed_str Tryz.underlying68 (MapV.zero w) (zd := .held (.slice none 0 0)) (zp := []) rfl (key_nm hn)
    rw [atKey_ent] at hd
    rw [has_ent] at hr
    have e : v = (fget es n).getD (.slice none 0 0) := by cases hd; rfl
    rw [hr, e]
theorem MapV.len {w : World} {mb : Option Nat} {es : Fm Value} (h : MapV w mb es) (ty : TypeId) : (Builtin.len_ #[68] ty #[.map mb]).run Tryz.prog w = .ok (.int .i64 (es.length : Int)) w := by
  cases mb with
  | none =>
    obtain rfl : es = [] := h
    exact Maps.len_nil Tryz.underlying68 ty
  | some b =>
    have := World.ownsMap.len h Tryz.underlying68 ty
    rw [this]
    simp [Maps.size]
theorem MapV.apart {w : World} {mb : Option Nat} {es : Fm Value} (h : MapV w mb es) : Apart es := by
  cases mb with
  | none =>
    obtain rfl : es = [] := h
    exact List.Pairwise.nil
  | some b =>
    obtain ⟨l, hl, hp⟩ := World.ownsMap.tidy h keyed_str
    cases hl
    have := List.pairwise_map.1 hp
    exact this.imp fun {a b} hab e => hab (by unfold ent; rw [e])
theorem MapV.keep {w w' : World} {mb : Option Nat} {es : Fm Value} (h : MapV w mb es) (hk : ∀ b, mb = some b → w'.heap[b]? = w.heap[b]?) : MapV w' mb es := by
  cases mb with
  | none => exact h
  | some b =>
    obtain ⟨e, c, hb, r⟩ := h
    exact ⟨e, c, (hk b rfl).trans hb, r⟩
theorem MapV.obj {w : World} {b : Nat} {es : Fm Value} (h : MapV w (some b) es) : ∃ e c, w.heap[b]? = some (.map e c) := by
  obtain ⟨e, c, hb, _⟩ := h
  exact ⟨e, c, hb⟩
theorem tight {w : World} {b n : Nat} {es : Fm Value} (h : w.ownsMap Tryz.prog 9 hv b n (.map (es.map ent))) : MapV w (some b) es := by
  obtain ⟨e, c, hb, F, _, hD⟩ := h
  refine ⟨e, c, hb, F, ?_, hD⟩
  have := congrArg Maps.size hD
  simp [Maps.size, length_sorted] at this
  omega

end Go.Proofs.YtmjpckodcafjiaaGreat
