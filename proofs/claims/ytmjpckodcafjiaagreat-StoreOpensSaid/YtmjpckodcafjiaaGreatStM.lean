/- Open of a calm disk, as mathematics: names under way go, all else stays; a driven disk beside the law's own map, opened. -/
import Derived.Test.YtmjpckodcafjiaaGreatStD
import Derived.Test.YtmjpckodcafjiaaGreatDskKp
namespace Go.Proofs.YtmjpckodcafjiaaGreat
open Go.RowKit

def tildeN (n : Nm) : Bool := n.take 1 == [til]
theorem fhas_iff {α : Type} {l : Fm α} {n : Nm} : fhas l n = true ↔ n ∈ l.map (·.1) := by
  unfold fhas
  rw [List.any_eq_true, List.mem_map]
  constructor
  · rintro ⟨f, hf, h⟩; exact ⟨f, hf, by simpa using h⟩
  · rintro ⟨f, hf, h⟩; exact ⟨f, hf, by simpa using h⟩
theorem dremove_calm {d : DS} {n : Nm} (h1 : d.down = false) (h2 : d.fuse = -1) (hn : named n = true) (hh : fhas d.shown n = true) : dremove d n = (dadd d ⟨2, n, [], []⟩, 0) ∧ (dadd d ⟨2, n, [], []⟩).shown = fdel d.shown n := by
  have h : ¬ d.dead := by
    rintro (h | h)
    · rw [h1] at h; cases h
    · omega
  constructor
  · unfold dremove
    rw [dwork_alive h, if_pos h2, if_neg (by simp), if_neg (by rw [hn]; simp), if_neg (by rw [hh]; simp)]
    obtain ⟨room, sure, chs, fuse, down⟩ := d
    simp only at h2
    subst h2
    rfl
  · have e : (dadd d ⟨2, n, [], []⟩).shown = capply d.shown ⟨2, n, [], []⟩ := by
      unfold DS.shown dadd
      exact shownOf_snoc _ _ _
    rw [e]
    unfold capply
    rw [if_neg (show ¬ ((2 : Nat) = 0) from by decide)]
    rw [fhas_get] at hh
    obtain ⟨t, ht⟩ := Option.isSome_iff_exists.1 hh
    simp only [ht]
    rfl
theorem swp_calm : ∀ (ns : List Nm) (D : DS) (sm : Bool), D.down = false → D.fuse = -1 → ns.Nodup → (∀ x ∈ ns, tildeN x = true → named x = true ∧ fhas D.shown x = true) →
    ∃ D', swp ns D sm = (D', 0) ∧ D'.down = false ∧ D'.shown = D.shown.filter (fun f => !(tildeN f.1 && ns.contains f.1)) ∧ D'.sz ≤ D.sz + ns.length
  | [], D, sm, h1, h2, _, _ => by
    have e : D.shown.filter (fun f => !(tildeN f.1 && ([] : List Nm).contains f.1)) = D.shown := List.filter_eq_self.2 fun x _ => by simp
    cases sm
    · exact ⟨D, rfl, h1, e.symm, Nat.le_refl _⟩
    · refine ⟨{ D with sure := D.shown, chs := [] }, ?_, h1, ?_, ?_⟩
      · show (if true = true then dsync D else (D, 0)) = _
        rw [if_pos rfl, dsync_calm h1 h2]
      · rw [e]; rfl
      · have := lenShown D
        show D.shown.length + 0 ≤ D.sz + 0
        omega
  | n :: r, D, sm, h1, h2, hnd, hn => by
    have hnd2 := List.nodup_cons.1 hnd
    unfold swp
    cases ht : tildeN n
    · have ht' : (n.take 1 == [til]) = false := ht
      rw [if_neg (by rw [ht']; decide)]
      obtain ⟨D', e1, e2, e3, e4⟩ := swp_calm r D sm h1 h2 hnd2.2 fun x hx => hn x (by simp [hx])
      refine ⟨D', e1, e2, ?_, by simp only [List.length_cons]; omega⟩
      rw [e3]
      refine List.filter_congr fun f _ => ?_
      by_cases hf : f.1 = n
      · rw [hf, ht]; rfl
      · rw [List.contains_cons, show (f.1 == n) = false from by simpa using hf, Bool.false_or]
    · have ht' : (n.take 1 == [til]) = true := ht
      rw [if_pos ht']
      obtain ⟨a1, a2⟩ := hn n (by simp) ht
      obtain ⟨b1, b2⟩ := dremove_calm h1 h2 a1 a2
      rw [b1]
      simp only [if_true]
      obtain ⟨D', e1, e2, e3, e4⟩ := swp_calm r (dadd D ⟨2, n, [], []⟩) true h1 h2 hnd2.2 fun x hx hx2 => by
        obtain ⟨c1, c2⟩ := hn x (by simp [hx]) hx2
        refine ⟨c1, ?_⟩
        rw [b2, fhas_get, fget_del_other (fun e => hnd2.1 (by rw [e]; exact hx)), ← fhas_get]
        exact c2
      refine ⟨D', e1, e2, ?_, ?_⟩
      · rw [e3, b2]
        unfold fdel
        rw [List.filter_filter]
        refine List.filter_congr fun f _ => ?_
        by_cases hf : f.1 = n
        · rw [hf, ht]; simp
        · rw [List.contains_cons, show (f.1 == n) = false from by simpa using hf, Bool.false_or]; simp
      · have e5 : (dadd D ⟨2, n, [], []⟩).sz = D.sz + 1 := by unfold DS.sz dadd; simp; omega
        simp only [List.length_cons]
        omega
theorem sopen_calm {d : DS} (h1 : d.down = false) (h2 : d.fuse = -1) (hn : ∀ f ∈ d.shown, named f.1 = true) (ha : Apart d.shown) :
    ∃ D, sopen d = (D, 0) ∧ D.down = false ∧ D.shown = d.shown.filter (fun f => !tildeN f.1) ∧ D.sz ≤ 2 * d.sz := by
  have hp := List.mergeSort_perm (d.shown.map (·.1)) (fun a b => decide (bytesBefore b a = false))
  obtain ⟨ns, hns⟩ : ∃ ns, ns = srt (d.shown.map (·.1)) := ⟨_, rfl⟩
  have hmem : ∀ x, x ∈ ns ↔ x ∈ d.shown.map (·.1) := fun x => by rw [hns]; exact List.mem_mergeSort
  have hnd : ns.Nodup := by
    rw [hns]
    unfold srt
    exact (List.mergeSort_perm _ _).nodup_iff.2 (List.pairwise_map.2 ha)
  have hl : ns.length ≤ d.sz := by rw [hns, srt_length, List.length_map]; exact lenShown d
  have e : dlist d = (ns, 0) := by rw [dlist_up h1, hns]
  obtain ⟨D, e1, e2, e3, e4⟩ := swp_calm ns d false h1 h2 hnd fun x hx _ => by
    have hx2 := (hmem x).1 hx
    obtain ⟨f, hf, rfl⟩ := List.mem_map.1 hx2
    exact ⟨hn f hf, fhas_iff.2 hx2⟩
  refine ⟨D, ?_, e2, ?_, by omega⟩
  · unfold sopen
    rw [e]
    exact e1
  · rw [e3]
    refine List.filter_congr fun f hf => ?_
    have : ns.contains f.1 = true := List.contains_iff_mem.2 ((hmem _).2 (List.mem_map_of_mem hf))
    rw [this, Bool.and_true]
theorem fget_filter {α : Type} {l : Fm α} {q : Nm → Bool} {n : Nm} : fget (l.filter fun f => q f.1) n = if q n = true then fget l n else none := by
  unfold fget
  induction l with
  | nil => simp
  | cons x r ih =>
    by_cases hx : x.1 = n
    · by_cases hq : q n = true
      · rw [List.filter_cons_of_pos (by rw [hx]; exact hq), List.find?_cons_of_pos (by simp [hx]), List.find?_cons_of_pos (by simp [hx]), if_pos hq]
      · rw [List.filter_cons_of_neg (by rw [hx]; exact hq), ih, if_neg hq, if_neg hq]
    · have h2 : (x.1 == n) = false := by simpa using hx
      rw [List.find?_cons_of_neg (by simp [hx])]
      by_cases hq : q x.1 = true
      · rw [List.filter_cons_of_pos (p := fun f : Nm × α => q f.1) hq, List.find?_cons_of_neg (by simp [hx]), ih]
      · rw [List.filter_cons_of_neg (p := fun f : Nm × α => q f.1) hq, ih]
theorem fget_del_same {α : Type} {l : Fm α} {n : Nm} : fget (fdel l n) n = none := by
  unfold fdel
  rw [fget_filter (q := fun m => !(m == n))]
  simp
theorem WasV.apart {w : World} {b : Nat} {l : Fm (List Nat)} (h : WasV w b l) : Apart l := by
  obtain ⟨es, h1, h2⟩ := h
  exact h1.apart.zip h2
theorem DrvB.open {w0 w : World} {B : Nat → Prop} {p : Nat} {d D : DS} (h : DrvB w0 B w p d) (hsz : d.sz ≤ 500000) (hD : sopen d = (D, 0)) :
    Calls Tryz.prog 10 #[.pointer (some ⟨p, 0, none⟩)] w fun e w' => (∃ q, e = .returned (.tuple #[.pointer (some ⟨q, 0, none⟩), .nilIface])) ∧ DrvB w0 B w' p D ∧ ∀ j, B j → w'.heap[j]? = w.heap[j]? := by
  obtain ⟨S, h1, h2, h3, h4⟩ := h
  refine (open_store h1 hsz).mono fun e w' hp => ?_
  rw [hD] at hp
  rcases hp with ⟨hz, _⟩ | ⟨_, q, w1, he, hp, hq, hb, ha⟩
  · exact absurd rfl hz
  · obtain ⟨k1, k2⟩ := drvB_post h2 h3 h4 hp
    refine ⟨⟨q, he⟩, k1.more hb, fun j hj => ?_⟩
    rw [hb.block j (k1.lt hj), k2 j hj]

section
variable (w : World) {ops : Array Oper} {rest : List Oper} {o : Oper} {a : Act} {Q : Exit → Act → World → Prop}
end

end Go.Proofs.YtmjpckodcafjiaaGreat
