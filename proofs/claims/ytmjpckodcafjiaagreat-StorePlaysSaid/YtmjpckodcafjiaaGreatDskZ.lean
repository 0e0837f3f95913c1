/- For DiskKeeps: stores into the law's own maps; a driven disk beside blocks of the law's own. -/
import Derived.Test.YtmjpckodcafjiaaGreatDskY
namespace Go.Proofs.YtmjpckodcafjiaaGreat
open Go.RowKit

theorem fhas_put_same {α : Type} (l : Fm α) (n : Nm) (t : α) : fhas (fput l n t) n = true := by
  unfold fhas fput
  exact List.any_eq_true.2 ⟨(n, t), mem_fins.2 (.inl rfl), by simp⟩
theorem fhas_put_mono {α : Type} {l : Fm α} {m : Nm} (n : Nm) (t : α) (h : fhas l m = true) : fhas (fput l n t) m = true := by
  by_cases e : n = m
  · subst e; exact fhas_put_same l n t
  · rw [fhas_get, fget_put_other e, ← fhas_get]; exact h

section
variable (w : World) {ops : Array Oper} {rest : List Oper} {o : Oper} {a : Act} {Q : Exit → Act → World → Prop}
end
theorem TchV.le {w : World} {b c c' : Nat} {T : Nm → Bool} (h : TchV w b c T) (hc : c ≤ c') : TchV w b c' T := by
  obtain ⟨es, h1, h2, h3, h4⟩ := h
  exact ⟨es, h1, h2, h3, Nat.le_trans h4 hc⟩
theorem was_made (w : World) : WasV (w.alloc (.map #[] 0)) w.heap.size [] := ⟨[], World.ownsMap_made w _ _ _, .nil⟩
theorem tch_made (w : World) : TchV (w.alloc (.map #[] 0)) w.heap.size 0 fun _ => false := ⟨[], World.ownsMap_made w _ _ _, by simp, rfl, Nat.le_refl _⟩

/-- A driven disk; blocks of which B holds are the law's own, and no part of it. -/
def DrvB (w0 : World) (B : Nat → Prop) (w : World) (p : Nat) (d : DS) : Prop :=
  ∃ S, Dk w S p d ∧ (∀ j, S j → w0.heap.size ≤ j) ∧ Below w0.heap.size w0 w ∧ ∀ j, B j → ¬ S j ∧ j < w.heap.size
section
variable {w0 w w' : World} {B : Nat → Prop} {p : Nat} {d d' : DS}
theorem DrvB.below (h : DrvB w0 B w p d) : Below w0.heap.size w0 w := by obtain ⟨S, _, _, h, _⟩ := h; exact h
theorem DrvB.lt (h : DrvB w0 B w p d) {j : Nat} (hj : B j) : j < w.heap.size := by obtain ⟨S, _, _, _, h⟩ := h; exact (h j hj).2
theorem DrvB.drv (h : DrvB w0 B w p d) : Drv w0 w p d := by obtain ⟨S, h1, h2, h3, _⟩ := h; exact ⟨S, h1, h2, h3⟩
theorem Drv.b (h : Drv w0 w p d) : DrvB w0 (fun _ => False) w p d := by obtain ⟨S, h1, h2, h3⟩ := h; exact ⟨S, h1, h2, h3, fun _ h => h.elim⟩
theorem DrvB.more (h : DrvB w0 B w p d) (hb : Below w.heap.size w w') : DrvB w0 B w' p d := by
  obtain ⟨S, h1, h2, h3, h4⟩ := h
  exact ⟨S, h1.keep (kept_new hb S), h2, h3.trans (hb.mono h3.size), fun j hj => ⟨(h4 j hj).1, Nat.lt_of_lt_of_le (h4 j hj).2 hb.size⟩⟩
theorem DrvB.sub (h : DrvB w0 B w p d) {C : Nat → Prop} (hc : ∀ j, C j → B j) : DrvB w0 C w p d := by
  obtain ⟨S, h1, h2, h3, h4⟩ := h
  exact ⟨S, h1, h2, h3, fun j hj => h4 j (hc j hj)⟩
/-- A new block is the law's own. -/
theorem DrvB.add (h : DrvB w0 B w p d) (hb : Below w.heap.size w w') (hs : w.heap.size < w'.heap.size) : DrvB w0 (fun j => B j ∨ j = w.heap.size) w' p d := by
  obtain ⟨S, h1, h2, h3, h4⟩ := h
  refine ⟨S, h1.keep (kept_new hb S), h2, h3.trans (hb.mono h3.size), fun j hj => ?_⟩
  rcases hj with hj | rfl
  · exact ⟨(h4 j hj).1, Nat.lt_of_lt_of_le (h4 j hj).2 hb.size⟩
  · exact ⟨fun hS => Nat.lt_irrefl _ (h1.lt hS), hs⟩
/-- A block of the law's own turns. -/
theorem DrvB.turn (h : DrvB w0 B w p d) {b : Nat} (hB : B b) (hb0 : w0.heap.size ≤ b) (hg : w.grownBy w' (some b)) : DrvB w0 B w' p d := by
  obtain ⟨S, h1, h2, h3, h4⟩ := h
  exact ⟨S, h1.keep ⟨hg.size, fun j hj hS => hg.block j hj (fun e => (h4 b hB).1 (by cases e; exact hS))⟩, h2, h3.grown hg h3.size (fun j hj => by cases hj; exact hb0), fun j hj => ⟨(h4 j hj).1, Nat.lt_of_lt_of_le (h4 j hj).2 hg.size⟩⟩
theorem drvB_post {S : Nat → Prop} (h2 : ∀ j, S j → w0.heap.size ≤ j) (h3 : Below w0.heap.size w0 w) (h4 : ∀ j, B j → ¬ S j ∧ j < w.heap.size) (h : DPost S p w w' d') : DrvB w0 B w' p d' ∧ ∀ j, B j → w'.heap[j]? = w.heap[j]? := by
  obtain ⟨S', hd, hf, _, ht⟩ := h
  refine ⟨⟨S', hd, fun j hj => ?_, h3.trans (hf.below h3.size fun j hj h => Nat.not_le_of_lt hj (h2 j h)), fun j hj => ⟨fun hS => ?_, Nat.lt_of_lt_of_le (h4 j hj).2 hf.size⟩⟩, fun j hj => hf.block j (h4 j hj).2 (h4 j hj).1⟩
  · rcases ht j hj with h | h
    · exact h2 j h
    · exact Nat.le_trans h3.size h
  · rcases ht j hS with h | h
    · exact (h4 j hj).1 h
    · exact absurd (h4 j hj).2 (Nat.not_lt.2 h)
def DrvBPost (w0 : World) (B : Nat → Prop) (p : Nat) (w : World) (r : DS × Nat) (e : Ending) (w' : World) : Prop := e = .returned (errV r.2) ∧ DrvB w0 B w' p r.1 ∧ ∀ j, B j → w'.heap[j]? = w.heap[j]?
theorem DrvB.write (h : DrvB w0 B w p d) (hsz : d.sz < 1099511627776) {n : Nm} (hn : n.length ≤ 9223372036854775807) {v : Value} {b : List Nat} (hv : At w0 (fun j => j < w0.heap.size) .u8 v b) (hb : ∀ y ∈ b, y < 256) :
    Calls Tryz.prog 41 #[.pointer (some ⟨p, 0, none⟩), nmV n, v] w (DrvBPost w0 B p w (dwrite d n b)) := by
  obtain ⟨S, h1, h2, h3, h4⟩ := h
  exact (writeD_any h1 hsz hn ((hv.keep (kept_below h3)).mono fun j _ hj hS => Nat.not_le_of_lt hj (h2 j hS)) hb).mono fun e w' hp => ⟨hp.1, drvB_post h2 h3 h4 hp.2⟩
theorem DrvB.rename (h : DrvB w0 B w p d) (hsz : d.sz < 1099511627776) {n n2 : Nm} (hn : n.length ≤ 9223372036854775807) (hn2 : n2.length ≤ 9223372036854775807) :
    Calls Tryz.prog 43 #[.pointer (some ⟨p, 0, none⟩), nmV n, nmV n2] w (DrvBPost w0 B p w (drename d n n2)) := by
  obtain ⟨S, h1, h2, h3, h4⟩ := h
  exact (renameD_any h1 hsz hn hn2).mono fun e w' hp => ⟨hp.1, drvB_post h2 h3 h4 hp.2⟩
theorem DrvB.remove (h : DrvB w0 B w p d) (hsz : d.sz < 1099511627776) {n : Nm} (hn : n.length ≤ 9223372036854775807) :
    Calls Tryz.prog 44 #[.pointer (some ⟨p, 0, none⟩), nmV n] w (DrvBPost w0 B p w (dremove d n)) := by
  obtain ⟨S, h1, h2, h3, h4⟩ := h
  exact (removeD_any h1 hsz hn).mono fun e w' hp => ⟨hp.1, drvB_post h2 h3 h4 hp.2⟩
theorem DrvB.sync (h : DrvB w0 B w p d) (hsz : d.sz < 1099511627776) : Calls Tryz.prog 42 #[.pointer (some ⟨p, 0, none⟩)] w (DrvBPost w0 B p w (dsync d)) := by
  obtain ⟨S, h1, h2, h3, h4⟩ := h
  exact (syncD_any h1 hsz).mono fun e w' hp => ⟨hp.1, drvB_post h2 h3 h4 hp.2⟩
theorem DrvB.cut (h : DrvB w0 B w p d) (hsz : d.sz < 1099511627776) {kv : Value} {ks : List Bool} (hkv : RowV w0 (fun j => j < w0.heap.size) kv (ks.map Value.bool)) :
    Calls Tryz.prog 25 #[.pointer (some ⟨p, 0, none⟩), kv] w fun e w' => e = .returned (.tuple #[]) ∧ DrvB w0 B w' p (dcut d ks) ∧ ∀ j, B j → w'.heap[j]? = w.heap[j]? := by
  obtain ⟨S, h1, h2, h3, h4⟩ := h
  exact (cutD_any h1 hsz ((hkv.keep (kept_below h3)).mono fun j _ hj hS => Nat.not_le_of_lt hj (h2 j hS))).mono fun e w' hp => ⟨hp.1, drvB_post h2 h3 h4 hp.2⟩
theorem DrvB.start (h : DrvB w0 B w p d) : Calls Tryz.prog 26 #[.pointer (some ⟨p, 0, none⟩)] w fun e w' => e = .returned (.tuple #[]) ∧ DrvB w0 B w' p (dstart d) ∧ ∀ j, B j → w'.heap[j]? = w.heap[j]? := by
  obtain ⟨S, h1, h2, h3, h4⟩ := h
  exact (startD_any h1).mono fun e w' hp => ⟨hp.1, drvB_post h2 h3 h4 hp.2⟩
theorem DrvB.names (h : DrvB w0 B w p d) : ∀ f ∈ d.sure, f.1.length ≤ maxLen := by
  obtain ⟨S, ⟨m1, m2, cv, h⟩, _⟩ := h
  obtain ⟨es, hm, hz, _⟩ := h.sure
  intro f hf
  have h1 : f.1 ∈ es.map (·.1) := by rw [hz.names]; exact List.mem_map_of_mem hf
  obtain ⟨g, hg, e⟩ := List.mem_map.1 h1
  rw [← e]
  exact hm.named g hg
theorem DrvB.read (h : DrvB w0 B w p d) {n : Nm} (hn : n.length ≤ 1000) : Calls Tryz.prog 38 #[.pointer (some ⟨p, 0, none⟩), nmV n] w (ReadDPost (dread d n) w) := h.drv.read hn
theorem DrvB.list (h : DrvB w0 B w p d) (hsz : d.sz ≤ 1000000) : Calls Tryz.prog 39 #[.pointer (some ⟨p, 0, none⟩)] w (ListPost (dlist d) w) := by
  obtain ⟨S, h1, _⟩ := h
  exact listD_any h1 hsz
end

end Go.Proofs.YtmjpckodcafjiaaGreat
