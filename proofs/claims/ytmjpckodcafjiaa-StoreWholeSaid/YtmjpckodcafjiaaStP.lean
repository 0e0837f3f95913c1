/- For StoreWhole: a driven store beside blocks of the law's own; the law's map, looked at with its text, and counted. -/
import Derived.Test.YtmjpckodcafjiaaStO
import Derived.Test.YtmjpckodcafjiaaStG
namespace Go.Proofs.Ytmjpckodcafjiaa
open Go.RowKit

/-- A driven store; blocks of which B holds are the law's own. -/
structure SdB (w0 : World) (B : Nat → Prop) (w : World) (p q : Nat) (d : DS) : Prop where
  drv : DrvB w0 (fun j => B j ∨ j = q) w p d
  cell : w.cell? ⟨q, 0, none⟩ = some (.pointer (some ⟨p, 0, none⟩))
  ne : ¬ B q
section
variable {w0 w w' : World} {B : Nat → Prop} {p q : Nat} {d : DS}
theorem SdB.below (h : SdB w0 B w p q d) : Below w0.heap.size w0 w := h.drv.below
theorem SdB.lt (h : SdB w0 B w p q d) : q < w.heap.size := h.drv.lt (.inr rfl)
theorem SdB.disk (h : SdB w0 B w p q d) : DrvB w0 B w p d := h.drv.sub fun _ hj => .inl hj
theorem SdB.more (h : SdB w0 B w p q d) (hb : Below w.heap.size w w') : SdB w0 B w' p q d :=
  ⟨h.drv.more hb, (World.cell?_of_block (hb.block q h.lt)).trans h.cell, h.ne⟩
theorem SdB.turn (h : SdB w0 B w p q d) {b : Nat} (hB : B b) (hb0 : w0.heap.size ≤ b) (hg : w.grownBy w' (some b)) : SdB w0 B w' p q d :=
  ⟨h.drv.turn (.inl hB) hb0 hg, (World.cell?_of_block (hg.block q h.lt (fun e => h.ne (by cases e; exact hB)))).trans h.cell, h.ne⟩
def SdBPost (w0 : World) (B : Nat → Prop) (p q : Nat) (w : World) (r : DS × Nat) (e : Ending) (w' : World) : Prop := e = .returned (errV r.2) ∧ SdB w0 B w' p q r.1 ∧ ∀ j, B j → w'.heap[j]? = w.heap[j]?
theorem sdB_post {S : Nat → Prop} {d' : DS} (hc : w.cell? ⟨q, 0, none⟩ = some (.pointer (some ⟨p, 0, none⟩))) (hne : ¬ B q) (h2 : ∀ j, S j → w0.heap.size ≤ j) (h3 : Below w0.heap.size w0 w) (h4 : ∀ j, (B j ∨ j = q) → ¬ S j ∧ j < w.heap.size) (hp : DPost S p w w' d') : SdB w0 B w' p q d' ∧ ∀ j, B j → w'.heap[j]? = w.heap[j]? := by
  obtain ⟨k1, k2⟩ := drvB_post (B := fun j => B j ∨ j = q) h2 h3 h4 hp
  exact ⟨⟨k1, (World.cell?_of_block (k2 q (.inr rfl))).trans hc, hne⟩, fun j hj => k2 j (.inl hj)⟩
theorem SdB.put (h : SdB w0 B w p q d) (hsz : d.sz < 1000000000) {n : Nm} (hn : n.length < 9223372036854775807) {v : Value} {b : List Nat} (hv : At w0 (fun j => j < w0.heap.size) .u8 v b) (hb : ∀ y ∈ b, y < 256) :
    Calls Try.prog 15 #[.pointer (some ⟨q, 0, none⟩), nmV n, v] w (SdBPost w0 B p q w (sput d n b)) := by
  have hc := h.cell
  have hne := h.ne
  have hl := h.lt
  obtain ⟨S, h1, h2, h3, h4⟩ := h.drv
  exact (put_store h1 ⟨hc, hl⟩ (h4 q (.inr rfl)).1 hsz hn ((hv.keep (kept_below h3)).mono fun j _ hj hS => Nat.not_le_of_lt hj (h2 j hS)) hb).mono fun e w' hp => ⟨hp.1, sdB_post hc hne h2 h3 h4 hp.2⟩
theorem SdB.delete (h : SdB w0 B w p q d) (hsz : d.sz < 1000000000) {n : Nm} (hn : n.length ≤ 9223372036854775807) :
    Calls Try.prog 14 #[.pointer (some ⟨q, 0, none⟩), nmV n] w (SdBPost w0 B p q w (sdelete d n)) := by
  have hc := h.cell
  have hne := h.ne
  have hl := h.lt
  obtain ⟨S, h1, h2, h3, h4⟩ := h.drv
  exact (delete_store h1 ⟨hc, hl⟩ (h4 q (.inr rfl)).1 hsz hn).mono fun e w' hp => ⟨hp.1, sdB_post hc hne h2 h3 h4 hp.2⟩
theorem SdB.get (h : SdB w0 B w p q d) {n : Nm} (hn : n.length ≤ 1000) :
    Calls Try.prog 19 #[.pointer (some ⟨q, 0, none⟩), nmV n] w (ReadDPost (sget d n) w) := by
  have hc := h.cell
  have hl := h.lt
  obtain ⟨S, h1, _⟩ := h.drv
  exact get_store h1 ⟨hc, hl⟩ hn
theorem SdB.list (h : SdB w0 B w p q d) (hsz : d.sz ≤ 500000) (b : Nm) :
    Calls Try.prog 20 #[.pointer (some ⟨q, 0, none⟩), nmV b] w (ListPost (slist d b) w) := by
  have hc := h.cell
  have hl := h.lt
  obtain ⟨S, h1, _⟩ := h.drv
  exact list_store h1 ⟨hc, hl⟩ hsz b
/-- Open, where it serves: a store beside the law's own blocks. -/
theorem DrvB.openS (h : DrvB w0 B w p d) (hsz : d.sz ≤ 500000) {D : DS} (hD : sopen d = (D, 0)) :
    Calls Try.prog 12 #[.pointer (some ⟨p, 0, none⟩)] w fun e w' => ∃ q, e = .returned (.tuple #[.pointer (some ⟨q, 0, none⟩), .nilIface]) ∧ SdB w0 B w' p q D ∧ ∀ j, B j → w'.heap[j]? = w.heap[j]? := by
  obtain ⟨S, h1, h2, h3, h4⟩ := h
  refine (open_store h1 hsz).mono fun e w' hp => ?_
  rw [hD] at hp
  rcases hp with ⟨hz, _⟩ | ⟨_, q, w1, he, hp, hq, hb, ha⟩
  · exact absurd rfl hz
  · obtain ⟨k1, k2⟩ := drvB_post h2 h3 h4 hp
    have hl := ha.2
    have hd := k1.add hb (by rw [← hq]; exact hl)
    rw [← hq] at hd
    refine ⟨q, he, ⟨hd, ha.1, fun hB => ?_⟩, fun j hj => ?_⟩
    · have := k1.lt hB
      omega
    · rw [hb.block j (k1.lt hj), k2 j hj]
end

/-! ### The law's map -/
theorem WasV.lookText {w : World} {b : Nat} {l : Fm (List Nat)} (h : WasV w b l) {n : Nm} (hn : n.length ≤ maxLen) :
    (Instr.lookup 36 (.map (some b)) (nmV n) true).run Try.prog w = .ok (.tuple #[.string (txt ((fget l n).getD [])), .bool (fhas l n)]) w := by
  obtain ⟨es, h1, h2⟩ := h
  obtain ⟨v, ps, hr, hd⟩ := World.ownsMap.look_ok (show w.ownsMap Try.prog 9 hv b es.length (.map (es.map ent)) from h1) keyed_str Try.underlying36 (zeroS w) (zd := .held (.string ⟨#[]⟩)) (zp := []) rfl (key_nm hn)
  rw [has_ent, h2.has n] at hr
  rw [atKey_ent] at hd
  have e : v = (fget es n).getD (.string ⟨#[]⟩) := by cases hd; rfl
  rw [hr, e]
  rcases h2.get n with ⟨a1, a2⟩ | ⟨a, t, a1, a2, a3⟩
  · rw [a1, a2]; rfl
  · rw [a1, a2, a3]; rfl
theorem WasV.len {w : World} {b : Nat} {l : Fm (List Nat)} (h : WasV w b l) (ty : TypeId) : (Builtin.len_ #[36] ty #[.map (some b)]).run Try.prog w = .ok (.int .i64 (l.length : Int)) w := by
  obtain ⟨es, h1, h2⟩ := h
  have := World.ownsMap.len (show w.ownsMap Try.prog 9 hv b es.length (.map (es.map ent)) from h1) Try.underlying36 ty
  rw [this]
  simp [Maps.size, h2.length]

end Go.Proofs.Ytmjpckodcafjiaa
