/- For StoreWhole: the law's row and the disk's, the same as maps; what a driven store's fuse and a new map leave. -/
import Derived.Test.YtmjpckodcafjiaaStP
namespace Go.Proofs.Ytmjpckodcafjiaa
open Go.RowKit

/-- Two rows that answer the same. -/
def SameF (l m : Fm (List Nat)) : Prop := ∀ x, fget l x = fget m x
theorem SameF.put {l m : Fm (List Nat)} (h : SameF l m) (n : Nm) (t : List Nat) : SameF (fput l n t) (fput m n t) := fun x => by
  by_cases hx : n = x
  · subst hx; rw [fget_put_same, fget_put_same]
  · rw [fget_put_other hx, fget_put_other hx, h x]
theorem SameF.del {l m : Fm (List Nat)} (h : SameF l m) (n : Nm) : SameF (fdel l n) (fdel m n) := fun x => by
  by_cases hx : n = x
  · subst hx; rw [fget_del_same, fget_del_same]
  · rw [fget_del_other hx, fget_del_other hx, h x]
/-- A text is stored that is there, or as it was to be. -/
theorem SameF.put_is {l m : Fm (List Nat)} {n : Nm} {t : List Nat} (h : ∀ x, n ≠ x → fget l x = fget m x) (ht : fget m n = some t) : SameF (fput l n t) m := fun x => by
  by_cases hx : n = x
  · subst hx; rw [fget_put_same, ht]
  · rw [fget_put_other hx, h x hx]
theorem SameF.put_del {l m : Fm (List Nat)} {n : Nm} {t : List Nat} (h : ∀ x, n ≠ x → fget l x = fget m x) (ht : fget m n = none) : SameF (fdel (fput l n t) n) m := fun x => by
  by_cases hx : n = x
  · subst hx; rw [fget_del_same, ht]
  · rw [fget_del_other hx, fget_put_other hx, h x hx]
theorem SameF.len {l m : Fm (List Nat)} (h : SameF l m) (hl : Apart l) (hm : Apart m) : l.length = m.length := by
  have h1 : (l.map (·.1)).Nodup := List.pairwise_map.2 hl
  have h2 : (m.map (·.1)).Nodup := List.pairwise_map.2 hm
  have hmem : ∀ x, x ∈ l.map (·.1) ↔ x ∈ m.map (·.1) := fun x => by rw [← fhas_iff, ← fhas_iff, fhas_get, fhas_get, h x]
  have hp : (l.map (·.1)).Perm (m.map (·.1)) := List.perm_iff_count.2 fun x => by
    rw [h1.count, h2.count]
    by_cases hx : x ∈ l.map (·.1)
    · rw [if_pos hx, if_pos ((hmem x).1 hx)]
    · rw [if_neg hx, if_neg fun hy => hx ((hmem x).2 hy)]
  have := hp.length_eq
  simpa using this
theorem SameF.has {l m : Fm (List Nat)} (h : SameF l m) (x : Nm) : fhas l x = fhas m x := by rw [fhas_get, fhas_get, h x]
theorem put_down {d : DS} {n : Nm} {b : List Nat} (h : (sput d n b).2 = 14) : snamed n = true := by
  cases hn : snamed n
  · unfold sput at h
    rw [if_pos hn] at h
    cases h
  · rfl
theorem delete_down {d : DS} {n : Nm} (h : (sdelete d n).2 = 14) : snamed n = true := by
  cases hn : snamed n
  · unfold sdelete at h
    rw [if_pos hn] at h
    cases h
  · rfl
theorem Fine.get {d : DS} (h : Fine d) {n : Nm} (hn : snamed n = true) : sget d n = match fget d.sure n with | none => ([], 4) | some t => (t, 0) := by
  unfold sget dread
  rw [if_neg (by rw [hn]; decide), if_neg (by rw [h.up]; decide), h.shown]
  cases fget d.sure n <;> rfl
theorem fine_start {r : Nat} : ∃ D, sopen (dnew r) = (D, 0) ∧ Fine D ∧ D.sure = [] := by
  obtain ⟨D, e1, e2, e3, e4, e5⟩ := reopen (d := dnew r) rfl rfl rfl (by simp [dnew]) (by simp [dnew, Apart])
  have e6 : D.sure = [] := by rw [e5]; rfl
  exact ⟨D, e1, ⟨e2, e4, by rw [e6]; simp, by rw [e6]; simp [Apart]⟩, e6⟩
theorem Fine.fuse {d : DS} (h : Fine d) (n : Int) : Fine { d with fuse := n } := ⟨h.up, h.chs, h.all, h.apart⟩
theorem Fine.sz {d : DS} (h : Fine d) : d.sz = d.sure.length := by unfold DS.sz; rw [h.chs]; simp

section
variable {w0 w w' : World} {B : Nat → Prop} {p q : Nat} {d : DS}
theorem SdB.fuse (h : SdB w0 B w p q d) (n : Int) (h0 : 0 ≤ n) (hn : n ≤ 9223372036854775807) :
    Calls Try.prog 13 #[.pointer (some ⟨p, 0, none⟩), .int .i64 n] w (SdBPost w0 B p q w ({ d with fuse := n }, 0)) := by
  have hc := h.cell
  have hne := h.ne
  obtain ⟨S, h1, h2, h3, h4⟩ := h.drv
  have hpS : S p := by obtain ⟨m1, m2, cv, k⟩ := h1; exact k.inS
  refine (fuseD_any h1 n hn).mono fun e w' hp => ?_
  rw [if_neg (by omega), if_neg (by omega)] at hp
  exact ⟨hp.1, sdB_post hc hne h2 h3 h4 ⟨S, hp.2.1, hp.2.2.mono fun j _ hj => by rw [hj]; exact hpS, fun _ hj => hj, fun _ hj => .inl hj⟩⟩
/-- A new block is the law's own. -/
theorem SdB.add (h : SdB w0 B w p q d) (hb : Below w.heap.size w w') (hs : w.heap.size < w'.heap.size) : SdB w0 (fun j => B j ∨ j = w.heap.size) w' p q d := by
  have hd := h.drv.add hb hs
  refine ⟨hd.sub fun j hj => ?_, (World.cell?_of_block (hb.block q h.lt)).trans h.cell, ?_⟩
  · rcases hj with (hj | hj) | hj
    · exact .inl (.inl hj)
    · exact .inr hj
    · exact .inl (.inr hj)
  · rintro (hB | hq)
    · exact h.ne hB
    · have := h.lt
      omega
theorem SdB.only (h : SdB w0 B w p q d) {C : Nat → Prop} (hc : ∀ j, C j → B j) : SdB w0 C w p q d :=
  ⟨h.drv.sub fun j hj => hj.imp (hc j) id, h.cell, fun hC => h.ne (hc q hC)⟩
end

end Go.Proofs.Ytmjpckodcafjiaa
