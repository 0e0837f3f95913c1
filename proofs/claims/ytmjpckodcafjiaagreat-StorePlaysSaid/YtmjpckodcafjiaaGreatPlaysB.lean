/- Open of a calm disk, as mathematics: names under way go, all else stays; a driven disk beside the law's own map, opened. · For StoreWhole, mathematics: what a put, a delete and an opening leave of a disk whose files are all objects. · The document's store: Put. · The document's store: Open. · The document's store: List. · All files of a disk have names of files, whatever is done; opening behind a cut. · What an act on a store and the document's keeps at hand. · One act on a store and the document's: the contract of do. · StorePlays, walked. -/
import Derived.Test.YtmjpckodcafjiaaGreatStD
import Derived.Test.YtmjpckodcafjiaaGreatDskKp
import Derived.Test.YtmjpckodcafjiaaGreatPlaysA
import Derived.Test.YtmjpckodcafjiaaGreatRfA
import Derived.Test.YtmjpckodcafjiaaGreatStC
import Derived.Lib.Builder
namespace Go.Proofs.YtmjpckodcafjiaaGreat
open Go.RowKit

def tildeN (n : Nm) : Bool := n.take 1 == [til]
theorem fhas_iff {α : Type} {l : Fm α} {n : Nm} : fhas l n = true ↔ n ∈ l.map (·.1) := by
  unfold fhas
  rw [List.any_eq_true, List.mem_map]
  constructor
  · rintro ⟨f, hf, h⟩; exact ⟨f, hf, by simpa using h⟩
  · rintro ⟨f, hf, h⟩; exact ⟨f, hf, by simpa using h⟩
theorem dremove_calm {d : DS} {n : Nm} (h1 : d.down = false) (h2 : d.fuse = -1) (hn : named n = true) (hh : fhas d.shown n = true) : dremove d n = (dadd d ⟨2, n, [], []⟩, 0) ∧ (dadd d ⟨2, n, [], []⟩).shown = fdel d.shown n := by
  have h : ¬ d.dead := by
    rintro (h | h)
    · rw [h1] at h; cases h
    · omega
  constructor
  · unfold dremove
    rw [dwork_alive h, if_pos h2, if_neg (by simp), if_neg (by rw [hn]; simp), if_neg (by rw [hh]; simp)]
    obtain ⟨room, sure, chs, fuse, down⟩ := d
    simp only at h2
    subst h2
    rfl
  · have e : (dadd d ⟨2, n, [], []⟩).shown = capply d.shown ⟨2, n, [], []⟩ := by
      unfold DS.shown dadd
      exact shownOf_snoc _ _ _
    rw [e]
    unfold capply
    rw [if_neg (show ¬ ((2 : Nat) = 0) from by decide)]
    rw [fhas_get] at hh
    obtain ⟨t, ht⟩ := Option.isSome_iff_exists.1 hh
    simp only [ht]
    rfl
theorem swp_calm : ∀ (ns : List Nm) (D : DS) (sm : Bool), D.down = false → D.fuse = -1 → ns.Nodup → (∀ x ∈ ns, tildeN x = true → named x = true ∧ fhas D.shown x = true) →
    ∃ D', swp ns D sm = (D', 0) ∧ D'.down = false ∧ D'.shown = D.shown.filter (fun f => !(tildeN f.1 && ns.contains f.1)) ∧ D'.sz ≤ D.sz + ns.length
  | [], D, sm, h1, h2, _, _ => by
    have e : D.shown.filter (fun f => !(tildeN f.1 && ([] : List Nm).contains f.1)) = D.shown := List.filter_eq_self.2 fun x _ => by simp
    cases sm
    · exact ⟨D, rfl, h1, e.symm, Nat.le_refl _⟩
    · refine ⟨{ D with sure := D.shown, chs := [] }, ?_, h1, ?_, ?_⟩
      · show (if true = true then dsync D else (D, 0)) = _
        rw [if_pos rfl, dsync_calm h1 h2]
      · rw [e]; rfl
      · have := lenShown D
        show D.shown.length + 0 ≤ D.sz + 0
        omega
  | n :: r, D, sm, h1, h2, hnd, hn => by
    have hnd2 := List.nodup_cons.1 hnd
    unfold swp
    cases ht : tildeN n
    · have ht' : (n.take 1 == [til]) = false := ht
      rw [if_neg (by rw [ht']; decide)]
      obtain ⟨D', e1, e2, e3, e4⟩ := swp_calm r D sm h1 h2 hnd2.2 fun x hx => hn x (by simp [hx])
      refine ⟨D', e1, e2, ?_, by simp only [List.length_cons]; omega⟩
      rw [e3]
      refine List.filter_congr fun f _ => ?_
      by_cases hf : f.1 = n
      · rw [hf, ht]; rfl
      · rw [List.contains_cons, show (f.1 == n) = false from by simpa using hf, Bool.false_or]
    · have ht' : (n.take 1 == [til]) = true := ht
      rw [if_pos ht']
      obtain ⟨a1, a2⟩ := hn n (by simp) ht
      obtain ⟨b1, b2⟩ := dremove_calm h1 h2 a1 a2
      rw [b1]
      simp only [if_true]
      obtain ⟨D', e1, e2, e3, e4⟩ := swp_calm r (dadd D ⟨2, n, [], []⟩) true h1 h2 hnd2.2 fun x hx hx2 => by
        obtain ⟨c1, c2⟩ := hn x (by simp [hx]) hx2
        refine ⟨c1, ?_⟩
        rw [b2, fhas_get, fget_del_other (fun e => hnd2.1 (by rw [e]; exact hx)), ← fhas_get]
        exact c2
      refine ⟨D', e1, e2, ?_, ?_⟩
      · rw [e3, b2]
        unfold fdel
        rw [List.filter_filter]
        refine List.filter_congr fun f _ => ?_
        by_cases hf : f.1 = n
        · rw [hf, ht]; simp
        · rw [List.contains_cons, show (f.1 == n) = false from by simpa using hf, Bool.false_or]; simp
      · have e5 : (dadd D ⟨2, n, [], []⟩).sz = D.sz + 1 := by unfold DS.sz dadd; simp; omega
        simp only [List.length_cons]
        omega
theorem sopen_calm {d : DS} (h1 : d.down = false) (h2 : d.fuse = -1) (hn : ∀ f ∈ d.shown, named f.1 = true) (ha : Apart d.shown) :
    ∃ D, sopen d = (D, 0) ∧ D.down = false ∧ D.shown = d.shown.filter (fun f => !tildeN f.1) ∧ D.sz ≤ 2 * d.sz := by
  have hp := List.mergeSort_perm (d.shown.map (·.1)) (fun a b => decide (bytesBefore b a = false))
  obtain ⟨ns, hns⟩ : ∃ ns, ns = srt (d.shown.map (·.1)) := ⟨_, rfl⟩
  have hmem : ∀ x, x ∈ ns ↔ x ∈ d.shown.map (·.1) := fun x => by rw [hns]; exact List.mem_mergeSort
  have hnd : ns.Nodup := by
    rw [hns]
    unfold srt
    exact (List.mergeSort_perm _ _).nodup_iff.2 (List.pairwise_map.2 ha)
  have hl : ns.length ≤ d.sz := by rw [hns, srt_length, List.length_map]; exact lenShown d
  have e : dlist d = (ns, 0) := by rw [dlist_up h1, hns]
  obtain ⟨D, e1, e2, e3, e4⟩ := swp_calm ns d false h1 h2 hnd fun x hx _ => by
    have hx2 := (hmem x).1 hx
    obtain ⟨f, hf, rfl⟩ := List.mem_map.1 hx2
    exact ⟨hn f hf, fhas_iff.2 hx2⟩
  refine ⟨D, ?_, e2, ?_, by omega⟩
  · unfold sopen
    rw [e]
    exact e1
  · rw [e3]
    refine List.filter_congr fun f hf => ?_
    have : ns.contains f.1 = true := List.contains_iff_mem.2 ((hmem _).2 (List.mem_map_of_mem hf))
    rw [this, Bool.and_true]
theorem fget_filter {α : Type} {l : Fm α} {q : Nm → Bool} {n : Nm} : fget (l.filter fun f => q f.1) n = if q n = true then fget l n else none := by
  unfold fget
  induction l with
  | nil => simp
  | cons x r ih =>
    by_cases hx : x.1 = n
    · by_cases hq : q n = true
      · rw [List.filter_cons_of_pos (by rw [hx]; exact hq), List.find?_cons_of_pos (by simp [hx]), List.find?_cons_of_pos (by simp [hx]), if_pos hq]
      · rw [List.filter_cons_of_neg (by rw [hx]; exact hq), ih, if_neg hq, if_neg hq]
    · have h2 : (x.1 == n) = false := by simpa using hx
      rw [List.find?_cons_of_neg (by simp [hx])]
      by_cases hq : q x.1 = true
      · rw [List.filter_cons_of_pos (p := fun f : Nm × α => q f.1) hq, List.find?_cons_of_neg (by simp [hx]), ih]
      · rw [List.filter_cons_of_neg (p := fun f : Nm × α => q f.1) hq, ih]
theorem fget_del_same {α : Type} {l : Fm α} {n : Nm} : fget (fdel l n) n = none := by
  unfold fdel
  rw [fget_filter (q := fun m => !(m == n))]
  simp
theorem WasV.apart {w : World} {b : Nat} {l : Fm (List Nat)} (h : WasV w b l) : Apart l := by
  obtain ⟨es, h1, h2⟩ := h
  exact h1.apart.zip h2
theorem DrvB.open {w0 w : World} {B : Nat → Prop} {p : Nat} {d D : DS} (h : DrvB w0 B w p d) (hsz : d.sz ≤ 500000) (hD : sopen d = (D, 0)) :
    Calls Tryz.prog 10 #[.pointer (some ⟨p, 0, none⟩)] w fun e w' => (∃ q, e = .returned (.tuple #[.pointer (some ⟨q, 0, none⟩), .nilIface])) ∧ DrvB w0 B w' p D ∧ ∀ j, B j → w'.heap[j]? = w.heap[j]? := by
  obtain ⟨S, h1, h2, h3, h4⟩ := h
  refine (open_store h1 hsz).mono fun e w' hp => ?_
  rw [hD] at hp
  rcases hp with ⟨hz, _⟩ | ⟨_, q, w1, he, hp, hq, hb, ha⟩
  · exact absurd rfl hz
  · obtain ⟨k1, k2⟩ := drvB_post h2 h3 h4 hp
    refine ⟨⟨q, he⟩, k1.more hb, fun j hj => ?_⟩
    rw [hb.block j (k1.lt hj), k2 j hj]

section
variable (w : World) {ops : Array Oper} {rest : List Oper} {o : Oper} {a : Act} {Q : Exit → Act → World → Prop}
end

end Go.Proofs.YtmjpckodcafjiaaGreat

namespace Go.Proofs.YtmjpckodcafjiaaGreat
open Go.RowKit

theorem Apart.del {α : Type} {l : Fm α} (h : Apart l) (n : Nm) : Apart (fdel l n) := List.Pairwise.filter _ h
theorem fdel_ne' {α : Type} {l : Fm α} {n : Nm} {x : Nm × α} (h : x ∈ fdel l n) : x.1 ≠ n := by
  have := (List.mem_filter.1 h).2
  simpa using this
theorem apart_fins {α : Type} {n : Nm} {t : α} : ∀ {l : Fm α}, Apart l → (∀ x ∈ l, x.1 ≠ n) → Apart (fins n t l)
  | [], _, _ => by unfold fins Apart; simp
  | x :: r, h, hn => by
    have h2 := List.pairwise_cons.1 h
    unfold fins
    split
    · exact List.pairwise_cons.2 ⟨fun y hy => (hn y hy).symm, h⟩
    · refine List.pairwise_cons.2 ⟨fun y hy => ?_, apart_fins h2.2 fun y hy => hn y (by simp [hy])⟩
      rcases mem_fins.1 hy with rfl | hy
      · exact hn x (by simp)
      · exact h2.1 y hy
theorem Apart.put {α : Type} {l : Fm α} (h : Apart l) (n : Nm) (t : α) : Apart (fput l n t) := apart_fins (h.del n) fun _ hx => fdel_ne' hx
theorem filter_fins {α : Type} {q : Nm → Bool} {n : Nm} (t : α) (hq : q n = false) : ∀ l : Fm α, (fins n t l).filter (fun f => q f.1) = l.filter fun f => q f.1
  | [] => by unfold fins; simp [hq]
  | x :: r => by
    unfold fins
    split
    · rw [List.filter_cons_of_neg (by simp [hq])]
    · rw [List.filter_cons, List.filter_cons, filter_fins t hq r]
theorem fdel_of_not {α : Type} {l : Fm α} {n : Nm} (h : ∀ x ∈ l, x.1 ≠ n) : fdel l n = l := List.filter_eq_self.2 fun x hx => by simpa using h x hx
theorem fdel_fins {α : Type} {l : Fm α} {n : Nm} (t : α) (h : ∀ x ∈ l, x.1 ≠ n) : fdel (fins n t l) n = l := by
  have h1 := filter_fins (q := fun m => !(m == n)) (n := n) t (by simp) l
  exact h1.trans (fdel_of_not h)
theorem fdel_put {α : Type} {l : Fm α} {n : Nm} (t : α) (h : ∀ x ∈ l, x.1 ≠ n) : fdel (fput l n t) n = l := by
  unfold fput
  rw [fdel_of_not h]
  exact fdel_fins t h
theorem fget_fins_same {α : Type} {n : Nm} (t : α) : ∀ {l : Fm α}, (∀ x ∈ l, x.1 ≠ n) → fget (fins n t l) n = some t
  | [], _ => by unfold fins fget; simp
  | x :: r, h => by
    have h1 := fget_fins_same t (l := r) fun y hy => h y (by simp [hy])
    have hx := h x (by simp)
    unfold fget at h1 ⊢
    unfold fins
    split
    · rw [List.find?_cons_of_pos (by simp)]; rfl
    · rw [List.find?_cons_of_neg (by simpa using hx)]; exact h1
theorem fget_put_same {α : Type} (l : Fm α) (n : Nm) (t : α) : fget (fput l n t) n = some t := fget_fins_same t fun _ hx => fdel_ne' hx

/-! ### Names of objects, and of what is under way -/
theorem snamed_named {n : Nm} (h : snamed n = true) : named n = true := by
  unfold snamed at h
  simp only [Bool.and_eq_true] at h
  exact h.1.2
theorem snamed_no {n : Nm} (h : snamed n = true) : tildeN n = false := by
  unfold snamed at h
  simp only [Bool.and_eq_true, Bool.not_eq_true'] at h
  cases n with
  | nil => rfl
  | cons a r =>
    have h2 := h.2
    unfold hasT at h2
    rw [List.any_cons, Bool.or_eq_false_iff] at h2
    unfold tildeN til
    have h3 : ¬ a = 126 := by simpa using h2.1
    simp [h3]
theorem til_named {n : Nm} (h : snamed n = true) : named (til :: n) = true := by
  unfold snamed named at h
  unfold named
  simp only [Bool.and_eq_true, decide_eq_true_eq, List.length_cons, List.all_cons] at h ⊢
  exact ⟨⟨by omega, by omega⟩, rfl, h.1.2.2⟩
theorem til_tilde (n : Nm) : tildeN (til :: n) = true := by unfold tildeN; simp
theorem til_ne (n : Nm) : til :: n ≠ n := fun e => by
  have := congrArg List.length e
  simp at this

/-- A disk whose files are all objects, and nothing is pending. -/
structure Fine (d : DS) : Prop where
  up : d.down = false
  chs : d.chs = []
  all : ∀ f ∈ d.sure, snamed f.1 = true
  apart : Apart d.sure
theorem Fine.shown {d : DS} (h : Fine d) : d.shown = d.sure := by unfold DS.shown; rw [h.chs]; rfl
theorem Fine.no {d : DS} (h : Fine d) {n : Nm} : ∀ x ∈ d.sure, x.1 ≠ til :: n := fun x hx e => by
  have h1 := snamed_no (h.all x hx)
  rw [e, til_tilde] at h1
  cases h1

/-! ### Opening -/
theorem swp_keeps : ∀ (ns : List Nm) (D D' : DS) (sm : Bool), D.down = false → D.fuse = -1 → (sm = true ∨ D.chs = []) → swp ns D sm = (D', 0) → D'.fuse = -1 ∧ D'.chs = []
  | [], D, D', sm, h1, h2, h3, h => by
    unfold swp at h
    cases sm
    · rcases h3 with h3 | h3
      · cases h3
      · cases h; exact ⟨h2, h3⟩
    · rw [if_pos rfl, dsync_calm h1 h2] at h
      cases h
      exact ⟨h2, rfl⟩
  | n :: r, D, D', sm, h1, h2, h3, h => by
    unfold swp at h
    split at h
    · have hdead : ¬ D.dead := by
        rintro (h | h)
        · rw [h1] at h; cases h
        · omega
      split at h
      · rename_i hz
        have e : (dremove D n).1.down = false ∧ (dremove D n).1.fuse = -1 := by
          obtain ⟨_, q2, q3⟩ := (opOk_remove D n).alive hdead
          exact ⟨q2.trans h1, by rw [q3, if_pos h2]⟩
        exact swp_keeps r _ D' true e.1 e.2 (.inl rfl) h
      · rename_i hz
        exact absurd (by rw [h]) hz
    · exact swp_keeps r D D' sm h1 h2 h3 h
/-- What is left of a disk that was cut and started: any files that are named, of which those under way go. -/
theorem reopen {d : DS} (h1 : d.down = false) (h2 : d.fuse = -1) (h3 : d.chs = []) (hn : ∀ f ∈ d.sure, named f.1 = true) (ha : Apart d.sure) :
    ∃ D, sopen d = (D, 0) ∧ D.down = false ∧ D.fuse = -1 ∧ D.chs = [] ∧ D.sure = d.sure.filter (fun f => !tildeN f.1) := by
  have hs : d.shown = d.sure := by unfold DS.shown; rw [h3]; rfl
  obtain ⟨D, e1, e2, e3, _⟩ := sopen_calm h1 h2 (by rw [hs]; exact hn) (by rw [hs]; exact ha)
  have e4 : D.fuse = -1 ∧ D.chs = [] := by
    have h4 := e1
    unfold sopen at h4
    split at h4
    · rename_i hz; exact absurd (congrArg Prod.snd h4) hz
    · exact swp_keeps _ d D false h1 h2 (.inr h3) h4
  refine ⟨D, e1, e2, e4.1, e4.2, ?_⟩
  rw [← hs, ← e3]
  unfold DS.shown
  rw [e4.2]; rfl

/-! ### A cut within an act -/
/-- A cut, a start, an opening: the files are then those of one of two rows. -/
def Reopens (d : DS) (A B : Fm (List Nat)) : Prop := ∀ ks, ∃ D, sopen (dstart (dcut d ks)) = (D, 0) ∧ Fine D ∧ D.fuse = -1 ∧ (D.sure = A ∨ D.sure = B)
theorem reopens_of {d : DS} {A B : Fm (List Nat)} (hA : ∀ f ∈ A, snamed f.1 = true) (hB : ∀ f ∈ B, snamed f.1 = true) (hpA : Apart A) (hpB : Apart B)
    (h : ∀ ks, (∀ f ∈ picked d.sure d.chs ks, named f.1 = true) ∧ Apart (picked d.sure d.chs ks) ∧ ((picked d.sure d.chs ks).filter (fun f => !tildeN f.1) = A ∨ (picked d.sure d.chs ks).filter (fun f => !tildeN f.1) = B)) : Reopens d A B := fun ks => by
  obtain ⟨k1, k2, k3⟩ := h ks
  have e : dstart (dcut d ks) = { d with sure := picked d.sure d.chs ks, chs := [], down := false, fuse := -1 } := by
    unfold dstart dcut
    simp
  obtain ⟨D, e1, e2, e3, e4, e5⟩ := reopen (d := dstart (dcut d ks)) (by rw [e]) (by rw [e]) (by rw [e]) (by rw [e]; exact k1) (by rw [e]; exact k2)
  rw [e] at e5
  simp only at e5
  refine ⟨D, e1, ?_, e3, ?_⟩
  · rcases k3 with k3 | k3
    · exact ⟨e2, e4, by rw [e5, k3]; exact hA, by rw [e5, k3]; exact hpA⟩
    · exact ⟨e2, e4, by rw [e5, k3]; exact hB, by rw [e5, k3]; exact hpB⟩
  · rw [e5]; exact k3
theorem all_put {l : Fm (List Nat)} (h : ∀ f ∈ l, snamed f.1 = true) {n : Nm} (hn : snamed n = true) (t : List Nat) : ∀ f ∈ fput l n t, snamed f.1 = true := fun f hf => by
  rcases mem_fput hf with rfl | hf
  · exact hn
  · exact h f hf
theorem keep_all {l : Fm (List Nat)} (h : ∀ f ∈ l, snamed f.1 = true) : l.filter (fun f => !tildeN f.1) = l := List.filter_eq_self.2 fun f hf => by rw [snamed_no (h f hf)]; rfl
theorem keep_til {l : Fm (List Nat)} (h : ∀ f ∈ l, snamed f.1 = true) (n : Nm) (t : List Nat) : (fput l (til :: n) t).filter (fun f => !tildeN f.1) = l := by
  unfold fput
  rw [fdel_of_not (fun x hx e => by have h1 := snamed_no (h x hx); rw [e, til_tilde] at h1; cases h1), filter_fins (q := fun m => !tildeN m) t (by rw [til_tilde]; rfl)]
  exact keep_all h

end Go.Proofs.YtmjpckodcafjiaaGreat

namespace Go.Proofs.YtmjpckodcafjiaaGreat
open Go.RowKit

set_option maxHeartbeats 8000000 in
set_option maxRecDepth 100000 in
theorem rput7_any {w : World} {B : Nat → Prop} {d : DS} {sv cv : Value} (h : Doc w B d sv cv) (hsz : d.sz ≤ 500000) (hf : FuseOk d) (n : Nm) (hn : n.length < 9223372036854775807) (b : List Nat) (ht : b.length ≤ 65536 → tot (fput d.shown (til :: n) b) < 4611686018427387904) :
    Calls Tryz.prog 35 #[docV d sv cv, nmV n, .string (txt b)] w (DocPost B w (sput d n b)) := by
  obtain ⟨⟨aos, caps, rfl⟩, aoc, capc, rfl⟩ := h.val
  have HIN := Lib.hid (In7.new h)
  have HNM := Lib.hid (fun W => named7_any n (Nat.le_of_lt hn) W)
  have hn1 : (til :: n).length ≤ 9223372036854775807 := by simp; omega
  have HC1 := Lib.hid (fun W (hi : In7 w B W d (.slice aos d.sure.length caps) (.slice aoc d.chs.length capc)) => rwrite_any hi.doc (Nat.le_trans hsz (by decide)) hf (til :: n) hn1 b ht)
  obtain ⟨r1, hr1⟩ : ∃ r, r = dwrite d (til :: n) b := ⟨_, rfl⟩
  obtain ⟨r2, hr2⟩ : ∃ r, r = dsync r1.1 := ⟨_, rfl⟩
  obtain ⟨r3, hr3⟩ : ∃ r, r = drename r2.1 (til :: n) n := ⟨_, rfl⟩
  obtain ⟨r4, hr4⟩ : ∃ r, r = dsync r3.1 := ⟨_, rfl⟩
  have HSD : Hid (sput d n b = if snamed n = false then (d, 2) else if r1.2 ≠ 0 then r1 else if r2.2 ≠ 0 then r2 else if r3.2 ≠ 0 then r3 else r4) := Lib.hid (by rw [hr4, hr3, hr2, hr1]; rfl)
  have HSZ1 : Hid (r1.1.sz ≤ 500001) := Lib.hid (by rw [hr1]; have := (opOk_write d (til :: n) b).sz; omega)
  have HSZ2 : Hid (r2.1.sz ≤ 500002) := Lib.hid (by rw [hr2]; have := (opOk_sync r1.1).sz; have := HSZ1.out; omega)
  have HSZ3 : Hid (r3.1.sz ≤ 500003) := Lib.hid (by rw [hr3]; have := (opOk_rename r2.1 (til :: n) n).sz; have := HSZ2.out; omega)
  have HFU1 : Hid (FuseOk r1.1) := Lib.hid (by rw [hr1]; exact fuse_write hf _ _)
  have HFU2 : Hid (FuseOk r2.1) := Lib.hid (by rw [hr2]; exact fuse_sync HFU1.out)
  have HFU3 : Hid (FuseOk r3.1) := Lib.hid (by rw [hr3]; exact fuse_rename HFU2.out _ _)
  have HC2 := Lib.hid (fun W sv cv (hi : In7 w B W r1.1 sv cv) => rsync_any hi.doc (Nat.le_trans HSZ1.out (by decide)) HFU1.out)
  have HC3 := Lib.hid (fun W sv cv (hi : In7 w B W r2.1 sv cv) => rrename_any hi.doc (Nat.le_trans HSZ2.out (by decide)) HFU2.out (til :: n) n hn1 (Nat.le_of_lt hn))
  have HC4 := Lib.hid (fun W sv cv (hi : In7 w B W r3.1 sv cv) => rsync_any hi.doc (Nat.le_trans HSZ3.out (by decide)) HFU3.out)
  simp only [← hr1] at HC1
  simp only [← hr2] at HC2
  simp only [← hr3] at HC3
  simp only [← hr4] at HC4
  unfold DocPost docV at HC1 HC2 HC3 HC4
  unfold docV
  obtain ⟨s, hsn⟩ : ∃ s : ByteArray, s = ⟨n.toArray⟩ := ⟨_, rfl⟩
  obtain ⟨t, htn⟩ : ∃ t : ByteArray, t = ⟨(til :: n).toArray⟩ := ⟨_, rfl⟩
  have hst : (ByteArray.mk #[126]) ++ s = t := by rw [hsn, htn]; exact nm_til n
  have hsz1 : s.size = n.length := by rw [hsn]; exact size_nm n
  have e1 : nmV n = .string s := by rw [hsn]; rfl
  have e2 : nmV (til :: n) = .string t := by rw [htn]; rfl
  have hnl : s.size < 9223372036854775807 := by omega
  obtain ⟨bx, hbx⟩ : ∃ s, s = txt b := ⟨_, rfl⟩
  simp only [e1] at HNM
  rw [e2, ← hbx] at HC1
  simp only [e1, e2] at HC3
  rw [e1, ← hbx]
  obtain ⟨W2, hW2⟩ : ∃ W2, W2 = (w.alloc (.cells #[.int .i64 (d.room : Int), .slice aos d.sure.length caps, .slice aoc d.chs.length capc, .int .i64 d.fuse, .bool d.down] 33)).alloc (.cells #[.int .i64 0, .slice none 0 0, .slice none 0 0, .int .i64 0, .bool false] 33) := ⟨_, rfl⟩
  rw [← hW2] at HIN
  have HW2 := Lib.hid hW2
  obtain ⟨q0, q1, q2, q3, q4⟩ := HIN.out.bx.c
  have qf := HIN.out.bx.f
  have qg := HIN.out.bx.g
  obtain ⟨x0, x1, x2, x3, x4, y0, y1, y2, y3, y4⟩ := HIN.out.bx.r
  clear h hsz hf ht hn hn1 hr1 hr2 hr3 hr4 hsn htn hsz1 e1 e2 hbx hW2
  go_enter Tryz.func35, Tryz.ntmps35
  go_wp2_with fail
  rw [← HW2.out]
  refine (HNM.out W2).mono ?_
  rintro e w3 ⟨rfl, rfl⟩
  cases hsn : snamed n
  · have HE : Hid (sput d n b = (d, 2)) := Lib.hid (by rw [HSD.out, if_pos hsn])
    clear hsn
    go_wp2
    refine bodyPost_ret (v := .tuple #[docV d (.slice aos d.sure.length caps) (.slice aoc d.chs.length capc), .int .i64 ((2 : Nat) : Int)]) (by simp [docV, results, Tryz.results35, go_sem, y0, y1, y2, y3, y4]) rfl ?_
    rw [HE.out]
    exact HIN.out.fin _ _ _ _ _ 2
  have HE0 : Hid (sput d n b = if r1.2 ≠ 0 then r1 else if r2.2 ≠ 0 then r2 else if r3.2 ≠ 0 then r3 else r4) := Lib.hid (by rw [HSD.out, if_neg (by rw [hsn]; decide)])
  clear hsn
  go_wp2_with fail
  refine (HC1.out _ HIN.out).mono ?_
  rintro e v1 ⟨sv1, cv1, rfl, hd, hb⟩
  obtain ⟨⟨A1, K1, rfl⟩, C1, L1, rfl⟩ := hd.val
  have hin := HIN.out.old hb
  clear q0 q1 q2 q3 q4 qf qg y0 y1 y2 y3 y4
  obtain ⟨q0, q1, q2, q3, q4⟩ := hin.bx.c
  have qf := hin.bx.f
  have qg := hin.bx.g
  obtain ⟨x0, x1, x2, x3, x4, y0, y1, y2, y3, y4⟩ := hin.bx.r
  obtain ⟨U1, hU⟩ : ∃ U, U = five v1 w.heap.size (.int .i64 (r1.1.room : Int)) (.slice A1 r1.1.sure.length K1) (.slice C1 r1.1.chs.length L1) (.int .i64 r1.1.fuse) (.bool r1.1.down) := ⟨_, rfl⟩
  have HIN1 : Hid (In7 w B U1 r1.1 (.slice A1 r1.1.sure.length K1) (.slice C1 r1.1.chs.length L1)) := Lib.hid (by rw [hU]; exact HIN.out.next hb hd)
  unfold five at hU
  have HW1 := Lib.hid hU
  clear hU hd hb hin
  by_cases hz : r1.2 = 0
  rotate_left
  · have HE2 : Hid (sput d n b = (r1.1, r1.2)) := Lib.hid (by rw [HE0.out, if_pos hz])
    obtain ⟨c, hc⟩ : ∃ c, c = r1.2 := ⟨_, rfl⟩
    rw [← hc] at hz HE2 ⊢
    have hzi : ((c : Int) == 0) = false := by simpa using hz
    clear hz hc
    go_wp2
    refine bodyPost_ret (v := .tuple #[docV r1.1 (.slice A1 r1.1.sure.length K1) (.slice C1 r1.1.chs.length L1), .int .i64 (c : Int)]) (by simp [docV, results, Tryz.results35, go_sem, y0, y1, y2, y3, y4]) rfl ?_
    rw [HE2.out, ← HW1.out]
    exact HIN1.out.fin _ _ _ _ _ c
  have HE1 : Hid (sput d n b = if r2.2 ≠ 0 then r2 else if r3.2 ≠ 0 then r3 else r4) := Lib.hid (by rw [HE0.out, if_neg (by omega)])
  rw [hz]
  clear hz
  go_wp2_with fail
  rw [← HW1.out]
  refine (HC2.out _ _ _ HIN1.out).mono ?_
  rintro e v2 ⟨sv2, cv2, rfl, hd, hb⟩
  obtain ⟨⟨A2, K2, rfl⟩, C2, L2, rfl⟩ := hd.val
  have hin := HIN1.out.old hb
  clear q0 q1 q2 q3 q4 qf qg y0 y1 y2 y3 y4
  obtain ⟨q0, q1, q2, q3, q4⟩ := hin.bx.c
  have qf := hin.bx.f
  have qg := hin.bx.g
  obtain ⟨x0, x1, x2, x3, x4, y0, y1, y2, y3, y4⟩ := hin.bx.r
  obtain ⟨U2, hU⟩ : ∃ U, U = five v2 w.heap.size (.int .i64 (r2.1.room : Int)) (.slice A2 r2.1.sure.length K2) (.slice C2 r2.1.chs.length L2) (.int .i64 r2.1.fuse) (.bool r2.1.down) := ⟨_, rfl⟩
  have HIN2 : Hid (In7 w B U2 r2.1 (.slice A2 r2.1.sure.length K2) (.slice C2 r2.1.chs.length L2)) := Lib.hid (by rw [hU]; exact HIN1.out.next hb hd)
  unfold five at hU
  have HW2 := Lib.hid hU
  clear hU hd hb hin
  by_cases hz : r2.2 = 0
  rotate_left
  · have HE2 : Hid (sput d n b = (r2.1, r2.2)) := Lib.hid (by rw [HE1.out, if_pos hz])
    obtain ⟨c, hc⟩ : ∃ c, c = r2.2 := ⟨_, rfl⟩
    rw [← hc] at hz HE2 ⊢
    have hzi : ((c : Int) == 0) = false := by simpa using hz
    clear hz hc
    go_wp2
    refine bodyPost_ret (v := .tuple #[docV r2.1 (.slice A2 r2.1.sure.length K2) (.slice C2 r2.1.chs.length L2), .int .i64 (c : Int)]) (by simp [docV, results, Tryz.results35, go_sem, y0, y1, y2, y3, y4]) rfl ?_
    rw [HE2.out, ← HW2.out]
    exact HIN2.out.fin _ _ _ _ _ c
  have HE2 : Hid (sput d n b = if r3.2 ≠ 0 then r3 else r4) := Lib.hid (by rw [HE1.out, if_neg (by omega)])
  rw [hz]
  clear hz
  go_wp2_with fail
  rw [← HW2.out]
  refine (HC3.out _ _ _ HIN2.out).mono ?_
  rintro e v3 ⟨sv3, cv3, rfl, hd, hb⟩
  obtain ⟨⟨A3, K3, rfl⟩, C3, L3, rfl⟩ := hd.val
  have hin := HIN2.out.old hb
  clear q0 q1 q2 q3 q4 qf qg y0 y1 y2 y3 y4
  obtain ⟨q0, q1, q2, q3, q4⟩ := hin.bx.c
  have qf := hin.bx.f
  have qg := hin.bx.g
  obtain ⟨x0, x1, x2, x3, x4, y0, y1, y2, y3, y4⟩ := hin.bx.r
  obtain ⟨U3, hU⟩ : ∃ U, U = five v3 w.heap.size (.int .i64 (r3.1.room : Int)) (.slice A3 r3.1.sure.length K3) (.slice C3 r3.1.chs.length L3) (.int .i64 r3.1.fuse) (.bool r3.1.down) := ⟨_, rfl⟩
  have HIN3 : Hid (In7 w B U3 r3.1 (.slice A3 r3.1.sure.length K3) (.slice C3 r3.1.chs.length L3)) := Lib.hid (by rw [hU]; exact HIN2.out.next hb hd)
  unfold five at hU
  have HW3 := Lib.hid hU
  clear hU hd hb hin
  by_cases hz : r3.2 = 0
  rotate_left
  · have HE2 : Hid (sput d n b = (r3.1, r3.2)) := Lib.hid (by rw [HE2.out, if_pos hz])
    obtain ⟨c, hc⟩ : ∃ c, c = r3.2 := ⟨_, rfl⟩
    rw [← hc] at hz HE2 ⊢
    have hzi : ((c : Int) == 0) = false := by simpa using hz
    clear hz hc
    go_wp2
    refine bodyPost_ret (v := .tuple #[docV r3.1 (.slice A3 r3.1.sure.length K3) (.slice C3 r3.1.chs.length L3), .int .i64 (c : Int)]) (by simp [docV, results, Tryz.results35, go_sem, y0, y1, y2, y3, y4]) rfl ?_
    rw [HE2.out, ← HW3.out]
    exact HIN3.out.fin _ _ _ _ _ c
  have HE3 : Hid (sput d n b = r4) := Lib.hid (by rw [HE2.out, if_neg (by omega)])
  rw [hz]
  clear hz
  go_wp2_with fail
  rw [← HW3.out]
  refine (HC4.out _ _ _ HIN3.out).mono ?_
  rintro e v4 ⟨sv4, cv4, rfl, hd, hb⟩
  obtain ⟨⟨A4, K4, rfl⟩, C4, L4, rfl⟩ := hd.val
  have hin := HIN3.out.old hb
  clear q0 q1 q2 q3 q4 qf qg y0 y1 y2 y3 y4
  obtain ⟨q0, q1, q2, q3, q4⟩ := hin.bx.c
  have qf := hin.bx.f
  have qg := hin.bx.g
  obtain ⟨x0, x1, x2, x3, x4, y0, y1, y2, y3, y4⟩ := hin.bx.r
  obtain ⟨U4, hU⟩ : ∃ U, U = five v4 w.heap.size (.int .i64 (r4.1.room : Int)) (.slice A4 r4.1.sure.length K4) (.slice C4 r4.1.chs.length L4) (.int .i64 r4.1.fuse) (.bool r4.1.down) := ⟨_, rfl⟩
  have HIN4 : Hid (In7 w B U4 r4.1 (.slice A4 r4.1.sure.length K4) (.slice C4 r4.1.chs.length L4)) := Lib.hid (by rw [hU]; exact HIN3.out.next hb hd)
  unfold five at hU
  have HW4 := Lib.hid hU
  clear hU hd hb hin
  go_wp2
  refine bodyPost_ret (v := .tuple #[docV r4.1 (.slice A4 r4.1.sure.length K4) (.slice C4 r4.1.chs.length L4), .int .i64 (r4.2 : Int)]) (by simp [docV, results, Tryz.results35, go_sem, y0, y1, y2, y3, y4]) rfl ?_
  rw [HE3.out, ← HW4.out]
  exact HIN4.out.fin _ _ _ _ _ r4.2

end Go.Proofs.YtmjpckodcafjiaaGreat

namespace Go.Proofs.YtmjpckodcafjiaaGreat
open Go.RowKit

/-- What Open's loop of the document keeps. -/
structure Opn (w : World) (B : Nat → Prop) (d : DS) (ns : List Nm) (v : Value) (b : Nat) (wr : World) (k c : Nat) (D : DS) (sv cv : Value) : Prop where
  inn : In7 w B wr D sv cv
  eq : swp ns d false = swp (ns.drop k) D (decide (c ≠ 0))
  sz : D.sz ≤ d.sz + k
  fu : FuseOk D
  nms : NmsO wr b v ns
  many : c ≤ k
theorem Opn.old {w : World} {B : Nat → Prop} {d : DS} {ns : List Nm} {v : Value} {b : Nat} {wr wx : World} {k c : Nat} {D : DS} {sv cv : Value} (h : Opn w B d ns v b wr k c D sv cv) (hb : Below wr.heap.size wr wx) : Opn w B d ns v b wx k c D sv cv :=
  ⟨h.inn.old hb, h.eq, h.sz, h.fu, h.nms.below hb, h.many⟩
theorem first_til {x : Nm} (h : 1 ≤ x.length) : (x.take 1 == [til]) = (x.getD 0 0 == 126) := by
  cases x with
  | nil => simp at h
  | cons a r => simp [til]
theorem rises_names {d : DS} (h : Rises d.sure) : rnames d = dlist d := by
  unfold rnames dlist
  rw [show srt (d.shown.map (·.1)) = d.shown.map (·.1) from Rises.srt (Rises.shown d.chs h)]

set_option maxHeartbeats 8000000 in
set_option maxRecDepth 100000 in
theorem ropen7_any {w : World} {B : Nat → Prop} {d : DS} {sv cv : Value} (h : Doc w B d sv cv) (hsz : d.sz ≤ 200000) (hf : FuseOk d) (hr : Rises d.sure) (hnm : ∀ f ∈ d.shown, 1 ≤ f.1.length ∧ f.1.length ≤ 9223372036854775807) :
    Calls Tryz.prog 23 #[docV d sv cv] w (DocPost B w (sopen d)) := by
  obtain ⟨⟨aos, caps, rfl⟩, aoc, capc, rfl⟩ := h.val
  have HIN := Lib.hid (In7.new h)
  have HNA := Lib.hid (fun W (hi : In7 w B W d (.slice aos d.sure.length caps) (.slice aoc d.chs.length capc)) => rnames_any hi.doc (Nat.le_trans hsz (by decide)))
  rw [rises_names hr] at HNA
  obtain ⟨ns, hns⟩ : ∃ ns, ns = (dlist d).1 := ⟨_, rfl⟩
  obtain ⟨c0, hc0⟩ : ∃ c, c = (dlist d).2 := ⟨_, rfl⟩
  have HNM : Hid (∀ x ∈ ns, 1 ≤ x.length ∧ x.length ≤ 9223372036854775807) := Lib.hid (by
    rw [hns]
    unfold dlist
    split
    · simp
    · intro x hx
      have h1 : x ∈ d.shown.map (·.1) := List.mem_mergeSort.1 hx
      obtain ⟨f, hf, rfl⟩ := List.mem_map.1 h1
      exact hnm f hf)
  have HNL : Hid (ns.length ≤ 200000) := Lib.hid (by rw [hns]; exact Nat.le_trans (dlist_length d) hsz)
  have HSO : Hid (sopen d = if c0 ≠ 0 then (d, c0) else swp ns d false) := Lib.hid (by rw [hns, hc0]; rfl)
  rw [← hns, ← hc0] at HNA
  unfold docV at HNA ⊢
  obtain ⟨W2, hW2⟩ : ∃ W2, W2 = (w.alloc (.cells #[.int .i64 (d.room : Int), .slice aos d.sure.length caps, .slice aoc d.chs.length capc, .int .i64 d.fuse, .bool d.down] 33)).alloc (.cells #[.int .i64 0, .slice none 0 0, .slice none 0 0, .int .i64 0, .bool false] 33) := ⟨_, rfl⟩
  rw [← hW2] at HIN
  have HW2 := Lib.hid hW2
  obtain ⟨q0, q1, q2, q3, q4⟩ := HIN.out.bx.c
  have HSZ := Lib.hid hsz
  have HFU := Lib.hid hf
  clear h hsz hf hr hnm hns hc0 hW2
  go_enter Tryz.func23, Tryz.ntmps23
  go_wp2_with fail
  rw [← HW2.out]
  refine (HNA.out W2 HIN.out).mono ?_
  rintro e w3 ⟨v, rfl, ho, hb3⟩
  obtain ⟨ao, cap, rfl⟩ := ho.val
  have HO := Lib.hid ho
  have HIN3 := Lib.hid (HIN.out.old hb3)
  clear q0 q1 q2 q3 q4 ho hb3
  obtain ⟨q0, q1, q2, q3, q4⟩ := HIN3.out.bx.c
  have qg := HIN3.out.bx.g
  obtain ⟨x0, x1, x2, x3, x4, y0, y1, y2, y3, y4⟩ := HIN3.out.bx.r
  by_cases hz : c0 = 0
  rotate_left
  · have HE : Hid (sopen d = (d, c0)) := Lib.hid (by rw [HSO.out, if_pos hz])
    have hzi : ((c0 : Int) != 0) = true := by simpa using hz
    clear hz
    go_wp2
    refine bodyPost_ret (v := .tuple #[docV d (.slice aos d.sure.length caps) (.slice aoc d.chs.length capc), .int .i64 (c0 : Int)]) (by simp [docV, results, Tryz.results23, go_sem, y0, y1, y2, y3, y4]) rfl ?_
    rw [HE.out]
    exact HIN3.out.fin _ _ _ _ _ c0
  have HE : Hid (sopen d = swp ns d false) := Lib.hid (by rw [HSO.out, if_neg (by omega)])
  subst hz
  obtain ⟨bs, hbs⟩ : ∃ bs, bs = W2.heap.size := ⟨_, rfl⟩
  have HBS : Hid (w.heap.size + 1 < bs) := Lib.hid (by rw [hbs]; exact HIN.out.bx.lt)
  rw [← hbs] at HO
  have HST : Hid (Opn w B d ns (.slice ao ns.length cap) bs w3 0 0 d (.slice aos d.sure.length caps) (.slice aoc d.chs.length capc)) := Lib.hid ⟨HIN3.out, rfl, Nat.le_refl _, HFU.out, HO.out, Nat.le_refl _⟩
  clear q0 q1 q2 q3 q4 qg y0 y1 y2 y3 y4 hbs
  go_wp2
  go_loopw [5, 6, 7] (fun bad m i wr => ∃ (k c : Nat) (D : DS) (sv cv : Value), k ≤ ns.length ∧ i = .int .i64 (k : Int) ∧ m = .int .i64 (c : Int) ∧ Opn w B d ns (.slice ao ns.length cap) bs wr k c D sv cv)
    (fun _ _ i _ => ns.length - (intOf i).toNat)
  case atStart => exact ⟨0, 0, d, _, _, Nat.zero_le _, rfl, rfl, HST.out⟩
  case round =>
    obtain ⟨k, c, D, sv, cv, hk, rfl, rfl, hop⟩ := hrel
    obtain ⟨⟨A1, K1, rfl⟩, C1, L1, rfl⟩ := hop.inn.doc.val
    have HOP := Lib.hid hop
    by_cases hlt : k < ns.length
    · obtain ⟨x, hx⟩ : ∃ x, ns[k]? = some x := ⟨_, List.getElem?_eq_getElem hlt⟩
      obtain ⟨g, rfl, hgb, hgl, e0⟩ := hop.nms.at hx
      have hdr : ns.drop k = x :: ns.drop (k + 1) := drop_atS hx
      have hxl := HNM.out x (List.mem_of_getElem? hx)
      have hix := run_chN x 0 hxl.1 wr
      have HXT := Lib.hid (first_til hxl.1)
      obtain ⟨s, hs⟩ : ∃ s : ByteArray, s = ⟨x.toArray⟩ := ⟨_, rfl⟩
      have hs' : nmV x = .string s := by rw [hs]; rfl
      rw [hs'] at e0
      rw [← hs] at hix
      obtain ⟨ch, hch⟩ : ∃ c : Int, ((chN x 0 : Nat) : Int) = c := ⟨_, rfl⟩
      rw [hch] at hix
      have hix : (Instr.index 9 (.string s) (.int .i64 0)).run Tryz.prog wr = .ok (.int .u8 ch) wr := hix
      have HS1 := Lib.hid hs'
      have HDR := Lib.hid hdr
      have HXL := Lib.hid hxl
      have hlti : (k : Int) < ns.length := by omega
      have HK := Lib.hid hlt
      have HCK : Hid (c ≤ k) := Lib.hid hop.many
      cases hp : (x.getD 0 0 == 126)
      · have hne : ¬ ch = 126 := fun e => by
          have h1 : chN x 0 = 126 := by omega
          have h2 : x.getD 0 0 = 126 := UInt8.toNat_inj.1 h1
          rw [h2] at hp
          cases hp
        have HN : Hid (Opn w B d ns (.slice (some ⟨g, 0, none⟩) ns.length cap) bs wr (k + 1) c D (.slice A1 D.sure.length K1) (.slice C1 D.chs.length L1)) := Lib.hid ⟨HOP.out.inn, by rw [HOP.out.eq, HDR.out, swp, if_neg (by rw [HXT.out, hp]; decide)], by have := HOP.out.sz; omega, HOP.out.fu, HOP.out.nms, by have := HCK.out; omega⟩
        clear hop hx hgb hgl hdr hxl hs hs' hch hp
        go_wp2
        go_roundw
        case rel => exact ⟨k + 1, c, D, _, _, HK.out, (by first | exact inc_eq HK.out (Nat.le_trans HNL.out (by decide)) | rfl), rfl, HN.out⟩
        case measure => first | exact inc_meas HK.out (Nat.le_trans HNL.out (by decide)) | (have := HK.out; simp [intOf]; omega)
      · have he : ch = 126 := by
          have h2 : x.getD 0 0 = 126 := by simpa using hp
          have h1 : chN x 0 = 126 := by unfold chN; rw [h2]; rfl
          omega
        subst he
        have HSW : Hid (swp ns d false = if (dremove D x).2 = 0 then swp (ns.drop (k + 1)) (dremove D x).1 true else dremove D x) := Lib.hid (by rw [HOP.out.eq, HDR.out, swp, if_pos (by rw [HXT.out]; exact hp)])
        obtain ⟨r, hr⟩ : ∃ r, r = dremove D x := ⟨_, rfl⟩
        have hrm := fun W (hb : Below wr.heap.size wr W) => rremove_any (HOP.out.inn.old hb).doc (by have := HOP.out.sz; have := HSZ.out; have := HNL.out; omega) HOP.out.fu x HXL.out.2
        simp only [← hr] at hrm
        rw [← hr] at HSW
        unfold DocPost docV at hrm
        simp only [hs'] at hrm
        have HRM := Lib.hid hrm
        have HSZ2 : Hid (r.1.sz ≤ d.sz + (k + 1)) := Lib.hid (by rw [hr]; have := (opOk_remove D x).sz; have := HOP.out.sz; omega)
        have HFU2 : Hid (FuseOk r.1) := Lib.hid (by rw [hr]; exact fuse_remove HOP.out.fu x)
        have HD : Hid (Below wr.heap.size wr wr.drew) := Lib.hid ⟨rfl, rfl, rfl, Nat.le_refl _, fun _ _ => rfl⟩
        have HGL := Lib.hid hgl
        have HE0 := Lib.hid e0
        have HGB : Hid (g ≠ w.heap.size) := Lib.hid (by have := HBS.out; omega)
        obtain ⟨q0, q1, q2, q3, q4⟩ := HOP.out.inn.bx.c
        clear hop hx hgb hgl hdr hxl hs hs' hch hp hr hrm
        go_wp2_with fail
        go_region_with (first
          | (go_at_call 50
             refine (HRM.out _ HD.out).mono ?_
             rintro e w9 ⟨sv9, cv9, rfl, hd9, hb9⟩
             obtain ⟨⟨A2, K2, rfl⟩, C2, L2, rfl⟩ := hd9.val
             have hb9' := HD.out.trans (hb9.mono HD.out.size)
             have hop9 := HOP.out.old hb9'
             obtain ⟨p0, p1, p2, p3, p4⟩ := hop9.inn.bx.c
             have pf := hop9.inn.bx.f
             have pe : w9.cell? ⟨g, k, none⟩ = some (.string s) := (World.cell?_of_block (hb9'.block _ HGL.out)).trans HE0.out
             obtain ⟨U, hU⟩ : ∃ U, U = five w9 w.heap.size (.int .i64 (r.1.room : Int)) (.slice A2 r.1.sure.length K2) (.slice C2 r.1.chs.length L2) (.int .i64 r.1.fuse) (.bool r.1.down) := ⟨_, rfl⟩
             have HU9 : Hid (In7 w B U r.1 (.slice A2 r.1.sure.length K2) (.slice C2 r.1.chs.length L2) ∧ NmsO U bs (.slice (some ⟨g, 0, none⟩) ns.length cap) ns) := Lib.hid (by
               rw [hU]
               exact ⟨HOP.out.inn.next hb9' (hd9.mono fun j _ hj => by
                 rcases hj with hj | hj
                 · exact .inl hj
                 · exact .inr hj), hop9.nms.keep (K := fun j => j ≠ w.heap.size) ((fr_five w9 w.heap.size _ _ _ _ _).kept _ fun j _ hj e => hj e) fun g' hg' => by cases hg'; exact HGB.out⟩)
             unfold five at hU
             have HUE := Lib.hid hU
             have HO9 := Lib.hid hop9
             clear hd9 hb9 hb9' hop9 hU))
        all_goals
          by_cases hz : r.2 = 0
          · have HN : Hid (Opn w B d ns (.slice (some ⟨g, 0, none⟩) ns.length cap) bs U (k + 1) (c + 1) r.1 (.slice A2 r.1.sure.length K2) (.slice C2 r.1.chs.length L2)) := Lib.hid ⟨HU9.out.1, by rw [HSW.out, if_pos hz, decide_eq_true (Nat.succ_ne_zero c)], HSZ2.out, HFU2.out, HU9.out.2, by have := HCK.out; omega⟩
            rw [hz]
            clear hz
            go_wp2
            rw [← HUE.out]
            go_roundw
            case rel => exact ⟨k + 1, c + 1, r.1, _, _, HK.out, (by first | exact inc_eq HK.out (Nat.le_trans HNL.out (by decide)) | rfl), (by first | exact inc_eq (Nat.lt_of_le_of_lt HCK.out HK.out) (Nat.le_trans HNL.out (by decide)) | rfl), HN.out⟩
            case measure => first | exact inc_meas HK.out (Nat.le_trans HNL.out (by decide)) | (have := HK.out; simp [intOf]; omega)
          · have HE2 : Hid (sopen d = (r.1, r.2)) := Lib.hid (by rw [HE.out, HSW.out, if_neg hz])
            obtain ⟨z, hzz⟩ : ∃ z, z = r.2 := ⟨_, rfl⟩
            rw [← hzz] at hz HE2 ⊢
            have hzi : ((z : Int) != 0) = true := by simpa using hz
            have qg := HO9.out.inn.bx.g
            obtain ⟨x0, x1, x2, x3, x4, y0, y1, y2, y3, y4⟩ := HO9.out.inn.bx.r
            clear hz hzz
            go_wp2
            refine bodyPost_ret (v := .tuple #[docV r.1 (.slice A2 r.1.sure.length K2) (.slice C2 r.1.chs.length L2), .int .i64 (z : Int)]) (by simp [docV, results, Tryz.results23, go_sem, y0, y1, y2, y3, y4]) rfl ?_
            rw [HE2.out, ← HUE.out]
            exact HU9.out.1.fin _ _ _ _ _ z
    · have hlt' : ¬ (k : Int) < ns.length := by omega
      have HEQ : Hid (sopen d = if decide (c ≠ 0) = true then dsync D else (D, 0)) := Lib.hid (by rw [HE.out, hop.eq, List.drop_of_length_le (by omega), swp])
      obtain ⟨q0, q1, q2, q3, q4⟩ := hop.inn.bx.c
      have qg := hop.inn.bx.g
      obtain ⟨x0, x1, x2, x3, x4, y0, y1, y2, y3, y4⟩ := hop.inn.bx.r
      have HSZD : Hid (D.sz ≤ 600000) := Lib.hid (by have := hop.sz; have := HSZ.out; have := HNL.out; omega)
      clear hop
      by_cases hc : c = 0
      · have HE2 : Hid (sopen d = (D, 0)) := Lib.hid (by rw [HEQ.out, if_neg (by simp [hc])])
        subst hc
        go_wp2
        refine bodyPost_ret (v := .tuple #[docV D (.slice A1 D.sure.length K1) (.slice C1 D.chs.length L1), .int .i64 ((0 : Nat) : Int)]) (by simp [docV, results, Tryz.results23, go_sem, y0, y1, y2, y3, y4]) rfl ?_
        rw [HE2.out]
        exact HOP.out.inn.fin _ _ _ _ _ 0
      · have HE2 : Hid (sopen d = dsync D) := Lib.hid (by rw [HEQ.out, if_pos (by simp [hc])])
        have hci : ((c : Int) == 0) = false := by simpa using hc
        have HSY := Lib.hid (rsync_any HOP.out.inn.doc HSZD.out HOP.out.fu)
        unfold DocPost docV at HSY
        clear hc
        go_wp2_with fail
        refine HSY.out.mono ?_
        rintro e w6 ⟨sv6, cv6, rfl, hd6, hb6⟩
        obtain ⟨⟨ao3, cap3, rfl⟩, ao4, cap4, rfl⟩ := hd6.val
        obtain ⟨r2, hr2⟩ : ∃ r2, r2 = dsync D := ⟨_, rfl⟩
        rw [← hr2] at hd6 HE2 ⊢
        have hin6 := HOP.out.inn.old hb6
        clear q0 q1 q2 q3 q4 qg y0 y1 y2 y3 y4
        have qg := hin6.bx.g
        obtain ⟨x0, x1, x2, x3, x4, y0, y1, y2, y3, y4⟩ := hin6.bx.r
        have HFIN : Hid (DocPost B w (r2.1, r2.2) (.returned (.tuple #[docV r2.1 (.slice ao3 r2.1.sure.length cap3) (.slice ao4 r2.1.chs.length cap4), .int .i64 (r2.2 : Int)])) (five w6 (w.heap.size + 1) (.int .i64 (r2.1.room : Int)) (.slice ao3 r2.1.sure.length cap3) (.slice ao4 r2.1.chs.length cap4) (.int .i64 r2.1.fuse) (.bool r2.1.down))) := Lib.hid (docPost_fin hin6.bx (hd6.mono fun j _ hj => by
          rcases hj with hj | hj
          · exact hj
          · exact .inr (Nat.lt_of_lt_of_le HOP.out.inn.bx.lt hj)) _ _ _ _ _ _)
        clear hd6 hb6 hin6 hr2
        go_wp2
        refine bodyPost_ret (v := .tuple #[docV r2.1 (.slice ao3 r2.1.sure.length cap3) (.slice ao4 r2.1.chs.length cap4), .int .i64 (r2.2 : Int)]) (by simp [docV, results, Tryz.results23, go_sem, y0, y1, y2, y3, y4]) rfl ?_
        rw [HE2.out]
        exact HFIN.out

end Go.Proofs.YtmjpckodcafjiaaGreat

namespace Go.Proofs.YtmjpckodcafjiaaGreat
open Go.RowKit

theorem nms_new (w : World) : NmsO (w.alloc (.cells #[] 9)) w.heap.size (.slice (some ⟨w.heap.size, 0, none⟩) 0 0) [] := nms_own.2 (recOwn_empty _ _ _ _ (Nat.le_refl _))

set_option maxHeartbeats 8000000 in
set_option maxRecDepth 100000 in
theorem rlist7_any {w : World} {B : Nat → Prop} {d : DS} {sv cv : Value} (h : Doc w B d sv cv) (hsz : d.sz ≤ 200000) (hr : Rises d.sure) (hnm : ∀ f ∈ d.shown, f.1.length ≤ 1000) (b : Nm) (hbl : b.length ≤ 1000) :
    Calls Tryz.prog 33 #[docV d sv cv, nmV b] w fun e w' => ∃ v, e = .returned (.tuple #[v, .int .i64 ((slist d b).2 : Int)]) ∧ NmsO w' w.heap.size v (slist d b).1 ∧ Below w.heap.size w w' := by
  obtain ⟨⟨aos, caps, rfl⟩, aoc, capc, rfl⟩ := h.val
  have HBX := Lib.hid (b1_new w d (.slice aos d.sure.length caps) (.slice aoc d.chs.length capc))
  obtain ⟨W1, hW1⟩ : ∃ W1, W1 = w.alloc (.cells #[.int .i64 (d.room : Int), .slice aos d.sure.length caps, .slice aoc d.chs.length capc, .int .i64 d.fuse, .bool d.down] 33) := ⟨_, rfl⟩
  rw [← hW1] at HBX
  have HNA := Lib.hid (rnames_any (h.old HBX.out.below) (Nat.le_trans hsz (by decide)))
  rw [rises_names hr] at HNA
  obtain ⟨ns, hns⟩ : ∃ ns, ns = (dlist d).1 := ⟨_, rfl⟩
  obtain ⟨c, hc⟩ : ∃ c, c = (dlist d).2 := ⟨_, rfl⟩
  have hdl : dlist d = (ns, c) := by rw [hns, hc]
  have HNM : Hid (∀ x ∈ ns, x.length ≤ 1000) := Lib.hid (by
    rw [hns]
    unfold dlist
    split
    · simp
    · intro x hx
      have h1 : x ∈ d.shown.map (·.1) := List.mem_mergeSort.1 hx
      obtain ⟨f, hf, rfl⟩ := List.mem_map.1 h1
      exact hnm f hf)
  have HNL : Hid (ns.length ≤ 200000) := Lib.hid (by rw [hns]; exact Nat.le_trans (dlist_length d) hsz)
  have HSO : Hid (slist d b = (ns.filter (listP b), c)) := Lib.hid (by
    unfold slist
    rw [hdl]
    by_cases hz : c ≠ 0
    · have e : ns = [] := by
        have := hns
        unfold dlist at this hc
        split at hc
        · rename_i hd; rw [if_pos hd] at this; exact this
        · exact absurd hc hz
      rw [if_pos hz, e]; rfl
    · rw [if_neg hz, show c = 0 from by omega])
  rw [hdl] at HNA
  obtain ⟨q0, q1, q2, q3, q4⟩ := HBX.out.c
  unfold docV at HNA ⊢
  have HSB : Hid (b.length ≤ 1000) := Lib.hid hbl
  have hszb := size_nm b
  unfold nmV
  obtain ⟨sb, hsb⟩ : ∃ s : ByteArray, s = ⟨b.toArray⟩ := ⟨_, rfl⟩
  rw [← hsb] at hszb ⊢
  have HSBE := Lib.hid hsb
  have HBB : Hid (Below w.heap.size w W1) := Lib.hid HBX.out.below
  have HW1 := Lib.hid hW1
  clear h hsz hr hnm hbl hns hc hdl hW1 hsb
  go_enter Tryz.func33, Tryz.ntmps33
  go_wp2_with fail
  rw [← HW1.out]
  refine HNA.out.mono ?_
  rintro e w3 ⟨v, rfl, ho, hb3⟩
  obtain ⟨ao, cap, rfl⟩ := ho.val
  obtain ⟨bs, hbs⟩ : ∃ bs, bs = w3.heap.size := ⟨_, rfl⟩
  obtain ⟨W4, hW4⟩ : ∃ W4, W4 = w3.alloc (.cells #[] 9) := ⟨_, rfl⟩
  have hb4 : Below w3.heap.size w3 W4 := by rw [hW4]; exact (Below.refl _ _).alloc (Nat.le_refl _) _
  have HO : Hid (NmsO W4 W1.heap.size (.slice ao ns.length cap) ns) := Lib.hid (ho.below hb4)
  have HN0 : Hid (NmsO W4 bs (.slice (some ⟨bs, 0, none⟩) 0 0) []) := Lib.hid (by rw [hW4, hbs]; exact nms_new w3)
  have HBS : Hid (∀ g, (Value.slice ao ns.length cap).ownBlock = some g → g < bs) := Lib.hid fun g hg => by rw [hbs]; exact (ho.lt hg).2
  have HB3 : Hid (Below w.heap.size w W4 ∧ w.heap.size ≤ bs) := Lib.hid (by
    have h1 := HBB.out.trans (hb3.mono HBB.out.size)
    exact ⟨h1.trans (hb4.mono h1.size), by rw [hbs]; exact h1.size⟩)
  have HBL : Hid (bs ≤ W4.heap.size) := Lib.hid (by rw [hbs]; exact hb4.size)
  have HW4 := Lib.hid hW4
  have HBSE := Lib.hid hbs
  clear ho hb3 hb4 hW4 hbs q0 q1 q2 q3 q4
  go_wp2
  rw [← HW4.out, ← HBSE.out]
  go_loopw [8, 9] (fun ov i wr => ∃ k : Nat, k ≤ ns.length ∧ i = .int .i64 (k : Int) ∧ NmsO wr bs ov ((ns.take k).filter (listP b)) ∧ Below bs W4 wr)
    (fun _ i _ => ns.length - (intOf i).toNat)
  case atStart => exact ⟨0, Nat.zero_le _, rfl, HN0.out, Below.refl _ _⟩
  case round =>
    obtain ⟨k, hk, rfl, hout, hbz⟩ := hrel
    obtain ⟨oo, oc, rfl⟩ := hout.val
    have HOU := Lib.hid hout
    have HBZ := Lib.hid hbz
    by_cases hlt : k < ns.length
    · obtain ⟨x, hx⟩ : ∃ x, ns[k]? = some x := ⟨_, List.getElem?_eq_getElem hlt⟩
      obtain ⟨g, rfl, _, hgl, e0⟩ := HO.out.at hx
      have e0 := (hbz.cell (p := ⟨g, k, none⟩) (HBS.out g rfl)).trans e0
      have hxl := HNM.out x (List.mem_of_getElem? hx)
      have hnm := fun W => named7_any x (Nat.le_trans hxl (by decide)) W
      have hs1 := size_nm x
      have hxe := extract_nm x b.length
      have hq := nm_beqA (x.take b.length) b
      unfold nmV at hnm e0
      obtain ⟨s, hs⟩ : ∃ s : ByteArray, s = ⟨x.toArray⟩ := ⟨_, rfl⟩
      rw [← hs] at e0 hs1 hxe
      simp only [← hs] at hnm
      rw [← HSBE.out, ← hxe] at hq
      obtain ⟨u, hu⟩ : ∃ u : ByteArray, u = s.extract 0 b.length := ⟨_, rfl⟩
      rw [← hu] at hq
      have HSL : Hid (b.length ≤ x.length → ∀ wx, (Instr.slice 9 (.string s) none (some (.int .i64 (b.length : Int))) none).run Tryz.prog wx = .ok (.string u) wx) := Lib.hid fun hle wx => by
        rw [run_slice_string_h wx 9 s Tryz.underlying9 .i64 (b.length : Int) (by omega) (by rw [hs1]; omega), hu]
        rfl
      have htk := take_next hx
      have HTK : Hid ((ns.take (k + 1)).filter (listP b) = (ns.take k).filter (listP b) ++ (if listP b x then [x] else [])) := Lib.hid (by
        rw [htk, List.filter_append]
        congr 1
        by_cases hp : listP b x = true
        · rw [if_pos hp, List.filter_cons_of_pos hp]; rfl
        · rw [if_neg hp, List.filter_cons_of_neg hp]; rfl)
      have HLEN : Hid (((ns.take k).filter (listP b)).length ≤ 1000000) := Lib.hid (Nat.le_trans (List.length_filter_le _ _) (by rw [List.length_take]; have := HNL.out; omega))
      have hlti : (k : Int) < ns.length := by omega
      have HNMX := Lib.hid hnm
      have HQ := Lib.hid hq
      have HS : Hid (nmV x = .string s) := Lib.hid (by rw [hs]; rfl)
      have HK := Lib.hid hlt
      have HPD : Hid (listP b x = (snamed x && (decide (b.length ≤ x.length) && x.take b.length == b))) := Lib.hid rfl
      clear hx hgl hxl hnm htk hs hout hbz hxe hq hu
      go_wp2_with fail
      refine (HNMX.out _).mono ?_
      rintro e wr ⟨rfl, rfl⟩
      cases hsn : snamed x
      · have HT : Hid (NmsO wr bs (.slice oo ((ns.take k).filter (listP b)).length oc) ((ns.take (k + 1)).filter (listP b))) := Lib.hid (by rw [HTK.out, HPD.out, hsn]; simpa using HOU.out)
        clear hsn
        go_wp2
        go_roundw
        case rel => exact ⟨k + 1, HK.out, congrArg (Value.int .i64) (wrap_succM k (Nat.le_trans (Nat.le_of_lt HK.out) (Nat.le_trans HNL.out (by decide)))), HT.out, HBZ.out⟩
        case measure => exact meas_succM HK.out (Nat.le_trans (Nat.le_of_lt HK.out) (Nat.le_trans HNL.out (by decide)))
      · have HSN := Lib.hid hsn
        clear hsn
        by_cases hle : b.length ≤ x.length
        · have hsl := HSL.out hle
          have hl1 : decide ((b.length : Int) ≤ (x.length : Int)) = true := decide_eq_true (by omega)
          have hl2 : (b.length : Int) ≤ (x.length : Int) := by omega
          have HPE : Hid (listP b x = (x.take b.length == b)) := Lib.hid (by rw [HPD.out, HSN.out, decide_eq_true hle]; rfl)
          clear hle
          cases hbg : (x.take b.length == b)
          · have HT : Hid (NmsO wr bs (.slice oo ((ns.take k).filter (listP b)).length oc) ((ns.take (k + 1)).filter (listP b))) := Lib.hid (by rw [HTK.out, HPE.out, hbg]; simpa using HOU.out)
            have hqf : (u.toList == sb.toList) = false := HQ.out.trans hbg
            clear hbg
            go_wp2
            go_roundw
            case rel => exact ⟨k + 1, HK.out, congrArg (Value.int .i64) (wrap_succM k (Nat.le_trans (Nat.le_of_lt HK.out) (Nat.le_trans HNL.out (by decide)))), HT.out, HBZ.out⟩
            case measure => exact meas_succM HK.out (Nat.le_trans (Nat.le_of_lt HK.out) (Nat.le_trans HNL.out (by decide)))
          · have HT : Hid ((ns.take (k + 1)).filter (listP b) = (ns.take k).filter (listP b) ++ [x]) := Lib.hid (by rw [HTK.out, HPE.out, hbg]; rfl)
            have hqf : (u.toList == sb.toList) = true := HQ.out.trans hbg
            clear hbg
            go_wp2_with (at_builtin; go_must (refine wpList_appN _ rfl _ _ rfl bs _ _ rfl wr x (by rw [HS.out]) HOU.out rfl HLEN.out (Nat.le_trans HBL.out HBZ.out.size) ?_))
            intro v2 w2 ho2 hb2
            rw [← HT.out] at ho2
            have HO2 := Lib.hid ho2
            have HB2 := Lib.hid (HBZ.out.trans hb2)
            clear ho2 hb2
            go_wp2
            go_roundw
            case rel => exact ⟨k + 1, HK.out, congrArg (Value.int .i64) (wrap_succM k (Nat.le_trans (Nat.le_of_lt HK.out) (Nat.le_trans HNL.out (by decide)))), HO2.out, HB2.out⟩
            case measure => exact meas_succM HK.out (Nat.le_trans (Nat.le_of_lt HK.out) (Nat.le_trans HNL.out (by decide)))
        · have hl2 : ¬ (b.length : Int) ≤ (x.length : Int) := by omega
          have HT : Hid (NmsO wr bs (.slice oo ((ns.take k).filter (listP b)).length oc) ((ns.take (k + 1)).filter (listP b))) := Lib.hid (by rw [HTK.out, HPD.out, HSN.out, decide_eq_false hle]; simpa using HOU.out)
          clear hle
          go_wp2
          go_roundw
          case rel => exact ⟨k + 1, HK.out, congrArg (Value.int .i64) (wrap_succM k (Nat.le_trans (Nat.le_of_lt HK.out) (Nat.le_trans HNL.out (by decide)))), HT.out, HBZ.out⟩
          case measure => exact meas_succM HK.out (Nat.le_trans (Nat.le_of_lt HK.out) (Nat.le_trans HNL.out (by decide)))
    · obtain rfl : k = ns.length := by omega
      have HT : Hid (NmsO wr bs (.slice oo ((ns.take ns.length).filter (listP b)).length oc) (ns.filter (listP b))) := Lib.hid (by have := hout; rwa [List.take_length] at this ⊢)
      clear hout hbz
      go_wp2
      go_ret2
      rw [HSO.out]
      exact ⟨_, rfl, nms_own.2 ((nms_own.1 HT.out).mono HB3.out.2), HB3.out.1.trans (HBZ.out.mono HB3.out.2)⟩

end Go.Proofs.YtmjpckodcafjiaaGreat

namespace Go.Proofs.YtmjpckodcafjiaaGreat
open Go.RowKit

def AllN (l : Fm (List Nat)) : Prop := ∀ f ∈ l, named f.1 = true
def ChN (c : Ch) : Prop := (c.kind = 0 → named c.name = true) ∧ (c.kind = 1 → named c.to = true)
structure Nmd (d : DS) : Prop where
  sure : AllN d.sure
  chs : ∀ c ∈ d.chs, ChN c
theorem AllN.apply {l : Fm (List Nat)} (h : AllN l) {c : Ch} (hc : ChN c) : AllN (capply l c) := by
  unfold capply
  split
  · rename_i hk
    intro f hf
    rcases mem_fput hf with rfl | hf
    · exact hc.1 hk
    · exact h f hf
  · split
    · exact h
    · split
      · rename_i hk
        intro f hf
        rcases mem_fput hf with rfl | hf
        · exact hc.2 hk
        · exact h f (mem_fdel hf)
      · exact fun f hf => h f (mem_fdel hf)
theorem AllN.shownOf : ∀ (cs : List Ch) {l : Fm (List Nat)}, AllN l → (∀ c ∈ cs, ChN c) → AllN (shownOf l cs)
  | [], _, h, _ => h
  | c :: cs, _, h, hc => AllN.shownOf cs (h.apply (hc c (by simp))) fun c' hc' => hc c' (by simp [hc'])
theorem AllN.picked : ∀ (cs : List Ch) {l : Fm (List Nat)} (_ : AllN l) (_ : ∀ c ∈ cs, ChN c) (ks : List Bool), AllN (picked l cs ks)
  | [], l, h, _, ks => by cases ks <;> exact h
  | c :: cs, l, h, hc, [] => h
  | c :: cs, l, h, hc, k :: ks => by
    refine AllN.picked cs ?_ (fun c' hc' => hc c' (by simp [hc'])) ks
    split
    · exact h.apply (hc c (by simp))
    · exact h
theorem Nmd.shown {d : DS} (h : Nmd d) : AllN d.shown := AllN.shownOf d.chs h.sure h.chs
theorem nmd_new (r : Nat) : Nmd (dnew r) := ⟨fun f hf => (by cases hf), fun c hc => (by cases hc)⟩
theorem Nmd.work {d : DS} (h : Nmd d) : Nmd (dwork d).1 := by
  unfold dwork
  split
  · exact ⟨h.sure, h.chs⟩
  · exact ⟨h.sure, h.chs⟩
theorem Nmd.add {d : DS} (h : Nmd d) {c : Ch} (hc : ChN c) : Nmd (dadd d c) := ⟨h.sure, fun c' hc' => by
  rcases List.mem_append.1 hc' with h1 | h1
  · exact h.chs c' h1
  · rw [List.mem_singleton.1 h1]; exact hc⟩
theorem Nmd.write {d : DS} (h : Nmd d) (n : Nm) (b : List Nat) : Nmd (dwrite d n b).1 := by
  unfold dwrite
  split
  · exact h.work
  · split
    · exact h.work
    · split
      · exact h.work
      · split
        · exact h.work
        · rename_i hn _ _
          exact h.work.add ⟨fun _ => by simpa using hn, fun e => by cases e⟩
theorem Nmd.rename {d : DS} (h : Nmd d) (a b : Nm) : Nmd (drename d a b).1 := by
  unfold drename
  split
  · exact h.work
  · split
    · exact h.work
    · split
      · exact h.work
      · rename_i hn _
        refine h.work.add ⟨fun e => (by cases e), fun _ => ?_⟩
        cases hb : named b
        · exact absurd (.inr hb) hn
        · rfl
theorem Nmd.remove {d : DS} (h : Nmd d) (a : Nm) : Nmd (dremove d a).1 := by
  unfold dremove
  split
  · exact h.work
  · split
    · exact h.work
    · split
      · exact h.work
      · exact h.work.add ⟨fun e => (by cases e), fun e => (by cases e)⟩
theorem Nmd.sync {d : DS} (h : Nmd d) : Nmd (dsync d).1 := by
  unfold dsync
  split
  · exact h.work
  · exact ⟨h.shown, fun c hc => (by cases hc)⟩
theorem Nmd.cut {d : DS} (h : Nmd d) (ks : List Bool) : Nmd (dcut d ks) := ⟨AllN.picked d.chs h.sure h.chs ks, fun c hc => (by cases hc)⟩
theorem Nmd.start {d : DS} (h : Nmd d) : Nmd (dstart d) := ⟨h.sure, fun c hc => by
  have hc' : c ∈ (if d.down then [] else d.chs) := hc
  split at hc'
  · cases hc'
  · exact h.chs c hc'⟩
theorem Nmd.act {d : DS} (h : Nmd d) (a : ActR) : Nmd (dact d a) := by
  unfold dact
  repeat' split
  · exact h.write _ _
  · exact h.write _ _
  · exact h.rename _ _
  · exact h.remove _
  · exact h.sync
  · exact h
  · exact h
  · exact ⟨h.sure, h.chs⟩
  · exact h.cut _
  · exact h.start
theorem Nmd.put {d : DS} (h : Nmd d) (n : Nm) (b : List Nat) : Nmd (sput d n b).1 := by
  unfold sput
  repeat' split
  · exact h
  · exact h.write _ _
  · exact (h.write _ _).sync
  · exact (h.write _ _).sync.rename _ _
  · exact ((h.write _ _).sync.rename _ _).sync
theorem Nmd.delete {d : DS} (h : Nmd d) (n : Nm) : Nmd (sdelete d n).1 := by
  unfold sdelete
  repeat' split
  · exact h
  · exact h.remove _
  · exact (h.remove _).sync
theorem Nmd.swp : ∀ (ns : List Nm) {d : DS} (_ : Nmd d) (sm : Bool), Nmd (swp ns d sm).1
  | [], d, h, sm => by
    unfold Go.Proofs.YtmjpckodcafjiaaGreat.swp
    split
    · exact h.sync
    · exact h
  | n :: r, d, h, sm => by
    unfold Go.Proofs.YtmjpckodcafjiaaGreat.swp
    split
    · split
      · exact Nmd.swp r (h.remove n) true
      · exact h.remove n
    · exact Nmd.swp r h sm
theorem Nmd.open {d : DS} (h : Nmd d) : Nmd (sopen d).1 := by
  unfold sopen
  split
  · exact h
  · exact h.swp _ _
theorem Nmd.long {d : DS} (h : Nmd d) : ∀ f ∈ d.shown, 1 ≤ f.1.length ∧ f.1.length ≤ 24 := fun f hf => by
  have h1 := h.shown f hf
  unfold named at h1
  rw [Bool.and_eq_true, Bool.and_eq_true, decide_eq_true_iff, decide_eq_true_iff] at h1
  exact h1.1

/-! ### What rises goes on rising -/
theorem rises_of {d : DS} {r : DS} (h : Rises d.sure) (e : r.sure = d.sure) : Rises r.sure := by rw [e]; exact h
theorem Rises.syncD {d : DS} (h : Rises d.sure) : Rises (dsync d).1.sure := by
  unfold dsync
  split
  · rw [dwork_sure]; exact h
  · exact Rises.shown d.chs h
theorem Rises.removeD {d : DS} (h : Rises d.sure) (n : Nm) : Rises (dremove d n).1.sure := by rw [(dremove_keeps d n).1]; exact h
theorem Rises.writeD {d : DS} (h : Rises d.sure) (n : Nm) (b : List Nat) : Rises (dwrite d n b).1.sure := by rw [(dwrite_keeps d n b).1]; exact h
theorem Rises.renameD {d : DS} (h : Rises d.sure) (n m : Nm) : Rises (drename d n m).1.sure := by rw [(drename_keeps d n m).1]; exact h
theorem Rises.putD {d : DS} (h : Rises d.sure) (n : Nm) (b : List Nat) : Rises (sput d n b).1.sure := by
  unfold sput
  repeat' split
  · exact h
  · exact h.writeD _ _
  · exact (h.writeD _ _).syncD
  · exact (h.writeD _ _).syncD.renameD _ _
  · exact ((h.writeD _ _).syncD.renameD _ _).syncD
theorem Rises.deleteD {d : DS} (h : Rises d.sure) (n : Nm) : Rises (sdelete d n).1.sure := by
  unfold sdelete
  repeat' split
  · exact h
  · exact h.removeD _
  · exact (h.removeD _).syncD
theorem Rises.swpD : ∀ (ns : List Nm) {d : DS} (_ : Rises d.sure) (sm : Bool), Rises (swp ns d sm).1.sure
  | [], d, h, sm => by
    unfold swp
    split
    · exact h.syncD
    · exact h
  | n :: r, d, h, sm => by
    unfold swp
    split
    · split
      · exact Rises.swpD r (h.removeD n) true
      · exact h.removeD n
    · exact Rises.swpD r h sm
theorem Rises.openD {d : DS} (h : Rises d.sure) : Rises (sopen d).1.sure := by
  unfold sopen
  split
  · exact h
  · exact h.swpD _ _

/-! ### How many there are -/
theorem swp_sz : ∀ (ns : List Nm) (d : DS) (sm : Bool), (swp ns d sm).1.sz ≤ d.sz + ns.length + 1
  | [], d, sm => by
    unfold swp
    split
    · have := (opOk_sync d).sz
      simp only [List.length_nil]; omega
    · simp only [List.length_nil]; omega
  | n :: r, d, sm => by
    have h1 := (opOk_remove d n).sz
    unfold swp
    split
    · split
      · have := swp_sz r (dremove d n).1 true
        simp only [List.length_cons]; omega
      · simp only [List.length_cons]; omega
    · have := swp_sz r d sm
      simp only [List.length_cons]; omega
theorem sopen_sz (d : DS) : (sopen d).1.sz ≤ 2 * d.sz + 1 := by
  unfold sopen
  split
  · simp only; omega
  · have h1 := swp_sz (dlist d).1 d false
    have h2 := dlist_length d
    omega

/-- Behind a cut and a start opening serves, and nothing is under way. -/
theorem reopen_cut {d : DS} (h : Nmd d) (hr : Rises d.sure) (ks : List Bool) : (sopen (dstart (dcut d ks))).2 = 0 ∧ (sopen (dstart (dcut d ks))).1.sz ≤ d.sz := by
  have e : dstart (dcut d ks) = { d with sure := picked d.sure d.chs ks, chs := [], down := false, fuse := -1 } := by
    unfold dstart dcut
    simp
  have hR : Rises (picked d.sure d.chs ks) := Rises.picked d.chs hr ks
  obtain ⟨D, e1, e2, e3, e4, e5⟩ := reopen (d := dstart (dcut d ks)) (by rw [e]) (by rw [e]) (by rw [e]) (by rw [e]; exact AllN.picked d.chs h.sure h.chs ks) (by rw [e]; exact hR.apart)
  rw [e1]
  refine ⟨rfl, ?_⟩
  rw [e] at e5
  simp only at e5
  have h2 := picked_length d.chs d.sure ks
  unfold DS.sz
  rw [e4, e5]
  have h3 := List.length_filter_le (fun f : Nm × List Nat => !tildeN f.1) (picked d.sure d.chs ks)
  simp only [List.length_nil]
  omega

theorem open_dk {S : Nat → Prop} {p : Nat} {w w' : World} {r : DS × Nat} {e : Ending} (h : OpenPost S p w r e w') :
    ∃ S', Dk w' S' p r.1 ∧ Fr S w w' ∧ (∀ j, S' j → S j ∨ w.heap.size ≤ j) ∧ (∀ j, S j → S' j) ∧
      ((r.2 ≠ 0 ∧ e = .returned (.tuple #[.pointer none, errV r.2])) ∨ (r.2 = 0 ∧ ∃ q, e = .returned (.tuple #[.pointer (some ⟨q, 0, none⟩), .nilIface]) ∧ AtS w' q p ∧ ¬ S' q ∧ w.heap.size ≤ q)) := by
  rcases h with ⟨hz, he, S', hd, hf, hs, ht⟩ | ⟨hz, q, w1, he, ⟨S', hd, hf, hs, ht⟩, hq, hb, ha⟩
  · exact ⟨S', hd, hf, ht, hs, .inl ⟨hz, he⟩⟩
  · exact ⟨S', hd.keep (kept_new hb S'), hf.trans (fr_below hb (fun _ => False)) (fun _ _ h => h) (fun _ _ h => h.elim), ht, hs, .inr ⟨hz, q, he, ha, fun hS => absurd (hd.lt hS) (by omega), by rw [hq]; exact hf.size⟩⟩

end Go.Proofs.YtmjpckodcafjiaaGreat

namespace Go.Proofs.YtmjpckodcafjiaaGreat
open Go.RowKit

/-- Blocks of the document's rows: not the disk's, not the boxes that are stored into. -/
def Rw7 (w : World) (S : Nat → Prop) (j : Nat) : Prop := ¬ S j ∧ j ≠ w.heap.size ∧ j ≠ w.heap.size + 2
/-- What do of layer 7 keeps at hand: the disk, the store, the document's disk, the boxes, the bytes of its own. -/
structure DoS7 (w0 w : World) (S0 : Nat → Prop) (W : World) (S : Nat → Prop) (p q : Nat) (d m : DS) (sv cv : Value) (acts : Array Value) (ov : Value) (own : List Nat) : Prop where
  dk : Dk W S p d
  s0 : ∀ j, S j → w0.heap.size ≤ j
  below : Below w0.heap.size w0 W
  doc : Doc W (Rw7 w S) m sv cv
  box : W.heap[w.heap.size]? = some (.cells #[.int .i64 (m.room : Int), sv, cv, .int .i64 m.fuse, .bool m.down] 33 (0, 0))
  act : W.heap[w.heap.size + 1]? = some (.cells acts 46 (0, 0))
  res : W.heap[w.heap.size + 2]? = some (.cells #[.int .i64 0, .slice none 0 0, .slice none 0 0, .int .i64 0, .bool false] 33 (0, 0))
  own : Owns W (w.heap.size + 3) 5 .u8 ov own
  nS : ∀ j, S j → (j < w.heap.size ∨ w.heap.size + 2 < j) ∧ some j ≠ ov.ownBlock
  w0w : w0.heap.size ≤ w.heap.size
  fr : Fr S0 w W
  sub : ∀ j, S j → S0 j ∨ w.heap.size ≤ j
  ats : AtS W q p
  nq : ¬ S q
  ql : q < w.heap.size ∨ w.heap.size + 2 < q
section
variable {w0 w W W' : World} {S0 S : Nat → Prop} {p q : Nat} {d m d' m' : DS} {sv cv sv' cv' ov : Value} {acts : Array Value} {own : List Nat}
theorem DoS7.lt (h : DoS7 w0 w S0 W S p q d m sv cv acts ov own) : w.heap.size + 2 < W.heap.size := (Array.getElem?_eq_some_iff.1 h.res).1
theorem ats_old (h : AtS W q p) (hb : Below W.heap.size W W') : AtS W' q p := ⟨(World.cell?_of_block (hb.block q h.2)).trans h.1, Nat.lt_of_lt_of_le h.2 hb.size⟩
theorem DoS7.old (h : DoS7 w0 w S0 W S p q d m sv cv acts ov own) (hb : Below W.heap.size W W') : DoS7 w0 w S0 W' S p q d m sv cv acts ov own := by
  have hl := h.lt
  exact ⟨h.dk.keep (kept_new hb S), h.s0, h.below.trans (hb.mono h.below.size), h.doc.old hb, (hb.block _ (by omega)).trans h.box, (hb.block _ (by omega)).trans h.act, (hb.block _ hl).trans h.res, owns_keep h.own fun j hj => hb.block j (Owns.lt h.own j hj).2, h.nS, h.w0w, h.fr.trans (fr_below hb (fun _ => False)) (fun _ _ h => h) (fun _ _ h => h.elim), h.sub, ats_old h.ats hb, h.nq, h.ql⟩
/-- Behind what changes the disk's own blocks alone. -/
theorem DoS7.turn {S' : Nat → Prop} (h : DoS7 w0 w S0 W S p q d m sv cv acts ov own) (hd : Dk W' S' p d') (hf : Fr S W W') (ht : ∀ j, S' j → S j ∨ W.heap.size ≤ j) : DoS7 w0 w S0 W' S' p q d' m sv cv acts ov own := by
  have hl := h.lt
  have hn : ∀ j, ¬ S j → j < W.heap.size → ¬ S' j := fun j h1 h2 h3 => by
    rcases ht j h3 with h4 | h4
    · exact h1 h4
    · omega
  have hob : ∀ j, some j = ov.ownBlock → ¬ S j := fun j e hS => (h.nS j hS).2 e
  refine ⟨hd, fun j hj => ?_, h.below.trans (hf.below h.below.size fun j hj hS => Nat.not_le_of_lt hj (h.s0 j hS)), ?_, (hf.block _ (by omega) fun hS => by have := (h.nS _ hS).1; omega).trans h.box, (hf.block _ (by omega) fun hS => by have := (h.nS _ hS).1; omega).trans h.act, (hf.block _ hl fun hS => by have := (h.nS _ hS).1; omega).trans h.res, ?_, fun j hj => ?_, h.w0w, h.fr.trans hf (fun _ _ h => h) (fun j hj hS => (h.sub j hS).elim id fun h9 => absurd hj (Nat.not_lt.2 h9)), fun j hj => (ht j hj).elim (h.sub j) fun h9 => .inr (Nat.le_trans h.fr.size h9), ⟨(World.cell?_of_block (hf.block q h.ats.2 h.nq)).trans h.ats.1, Nat.lt_of_lt_of_le h.ats.2 hf.size⟩, hn q h.nq h.ats.2, h.ql⟩
  · rcases ht j hj with h1 | h1
    · exact h.s0 j h1
    · exact Nat.le_trans h.below.size h1
  · exact (h.doc.mono (C := fun j => ¬ S j ∧ Rw7 w S' j) fun j hj hB => ⟨hB.1, hn j hB.1 hj, hB.2⟩).keep (hf.kept _ fun j _ hj hS => hj.1 hS) |>.mono fun j _ hj => hj.2
  · exact owns_keep h.own fun j hj => hf.block j ((Owns.lt h.own j hj).2) (hob j hj.symm)
  · rcases ht j hj with h1 | h1
    · exact h.nS j h1
    · refine ⟨.inr (by omega), fun e => ?_⟩
      have := (Owns.lt h.own j e.symm).2
      omega
theorem DoS7.prog (h : DoS7 w0 w S0 W S p q d m sv cv acts ov own) (hp : DPost S p W W' d') : ∃ S', DoS7 w0 w S0 W' S' p q d' m sv cv acts ov own := by
  obtain ⟨S', hd, hf, _, ht⟩ := hp
  exact ⟨S', h.turn hd hf ht⟩
/-- Another store of that disk. -/
theorem DoS7.store {q2 : Nat} (h : DoS7 w0 w S0 W S p q d m sv cv acts ov own) (ha : AtS W q2 p) (hn : ¬ S q2) (hl : w.heap.size + 2 < q2) : DoS7 w0 w S0 W S p q2 d m sv cv acts ov own :=
  ⟨h.dk, h.s0, h.below, h.doc, h.box, h.act, h.res, h.own, h.nS, h.w0w, h.fr, h.sub, ha, hn, .inr hl⟩
/-- Behind an operation of the document's: what it answers lies in the box. -/
theorem DoS7.doc' (h : DoS7 w0 w S0 W S p q d m sv cv acts ov own) (hb : Below W.heap.size W W') (hd : Doc W' (fun j => Rw7 w S j ∨ W.heap.size ≤ j) m' sv' cv') :
    DoS7 w0 w S0 (five W' w.heap.size (.int .i64 (m'.room : Int)) sv' cv' (.int .i64 m'.fuse) (.bool m'.down)) S p q d m' sv' cv' acts ov own := by
  have h1 := h.old hb
  have hl := h.lt
  have hf := fr_five W' w.heap.size (.int .i64 (m'.room : Int)) sv' cv' (.int .i64 m'.fuse) (.bool m'.down)
  have hob : ov.ownBlock ≠ some w.heap.size := fun e => by have := (Owns.lt h.own _ e).1; omega
  have hl1 := h1.lt
  have hql := h.ql
  have hw0 := h.w0w
  have k4 := five_blk h1.box (.int .i64 (m'.room : Int)) sv' cv' (.int .i64 m'.fuse) (.bool m'.down)
  generalize five W' w.heap.size (.int .i64 (m'.room : Int)) sv' cv' (.int .i64 m'.fuse) (.bool m'.down) = X at hf k4 ⊢
  have k1 : Dk X S p d := h1.dk.keep (hf.kept S fun j _ hS e => by have := (h.nS j hS).1; omega)
  have k2 := h1.below.trans (hf.below h1.below.size fun j hj e => by omega)
  have k3 : Doc X (Rw7 w S) m' sv' cv' := by
    refine (hd.mono (C := Rw7 w S) fun j hj hB => ?_).keep (hf.kept _ fun j _ hB e => hB.2.1 e)
    rcases hB with hB | hB
    · exact hB
    · exact ⟨fun hS => absurd (h.dk.lt hS) (Nat.not_lt.2 hB), by omega, by omega⟩
  have k5 := (hf.block (w.heap.size + 1) (by omega) (by omega)).trans h1.act
  have k6 := (hf.block (w.heap.size + 2) hl1 (by omega)).trans h1.res
  have k7 := owns_keep h1.own fun j hj => hf.block j (Owns.lt h1.own j hj).2 fun e => hob (e ▸ hj)
  have k8 := h1.fr.trans hf (U := S0) (fun _ _ h => h) (fun j hj e => by omega)
  have hqn : ¬ q = w.heap.size := by omega
  have k9 : AtS X q p := ⟨(World.cell?_of_block (a := ⟨q, 0, none⟩) (hf.block q h1.ats.2 hqn)).trans h1.ats.1, Nat.lt_of_lt_of_le h1.ats.2 hf.size⟩
  exact ⟨k1, h.s0, k2, k3, k4, k5, k6, k7, h.nS, h.w0w, k8, h.sub, k9, h.nq, h.ql⟩
theorem DoS7.ownAt (h : DoS7 w0 w S0 W S p q d m sv cv acts ov own) : At W (fun j => ¬ S j) .u8 ov own := by
  refine ⟨h.own.reads, ?_⟩
  rcases h.own.2 with ⟨_, hn⟩ | ⟨g, cap, cur, hv, _⟩
  · exact .inl (List.length_eq_zero_iff.1 hn)
  · exact .inr ⟨g, 0, _, cap, hv, fun hS => (h.nS g hS).2 (by rw [hv]; rfl)⟩
theorem DoS7.dc (h : DoS7 w0 w S0 W S p q d m sv cv acts ov own) : W.cell? ⟨w.heap.size, 0, none⟩ = some (.int .i64 (m.room : Int)) ∧ W.cell? ⟨w.heap.size, 1, none⟩ = some sv ∧ W.cell? ⟨w.heap.size, 2, none⟩ = some cv ∧ W.cell? ⟨w.heap.size, 3, none⟩ = some (.int .i64 m.fuse) ∧ W.cell? ⟨w.heap.size, 4, none⟩ = some (.bool m.down) ∧ ∀ i, W.frozen? ⟨w.heap.size, i, none⟩ = false :=
  ⟨by rw [cell_of_row _ _ 0 _ _ _ h.box]; rfl, by rw [cell_of_row _ _ 1 _ _ _ h.box]; rfl, by rw [cell_of_row _ _ 2 _ _ _ h.box]; rfl, by rw [cell_of_row _ _ 3 _ _ _ h.box]; rfl, by rw [cell_of_row _ _ 4 _ _ _ h.box]; rfl, fun i => frozen_of_row _ _ i _ _ h.box⟩
theorem DoS7.ac {a0 a1 a2 a3 a4 a5 a6 a7 a8 a9 : Value} (h : DoS7 w0 w S0 W S p q d m sv cv #[a0, a1, a2, a3, a4, a5, a6, a7, a8, a9] ov own) : W.cell? ⟨w.heap.size + 1, 0, none⟩ = some a0 ∧ W.cell? ⟨w.heap.size + 1, 1, none⟩ = some a1 ∧ W.cell? ⟨w.heap.size + 1, 2, none⟩ = some a2 ∧ W.cell? ⟨w.heap.size + 1, 3, none⟩ = some a3 ∧ W.cell? ⟨w.heap.size + 1, 4, none⟩ = some a4 ∧ W.cell? ⟨w.heap.size + 1, 5, none⟩ = some a5 ∧ W.cell? ⟨w.heap.size + 1, 6, none⟩ = some a6 ∧ W.cell? ⟨w.heap.size + 1, 7, none⟩ = some a7 ∧ W.cell? ⟨w.heap.size + 1, 8, none⟩ = some a8 ∧ W.cell? ⟨w.heap.size + 1, 9, none⟩ = some a9 :=
  ⟨by rw [cell_of_row _ _ 0 _ _ _ h.act]; rfl, by rw [cell_of_row _ _ 1 _ _ _ h.act]; rfl, by rw [cell_of_row _ _ 2 _ _ _ h.act]; rfl, by rw [cell_of_row _ _ 3 _ _ _ h.act]; rfl, by rw [cell_of_row _ _ 4 _ _ _ h.act]; rfl, by rw [cell_of_row _ _ 5 _ _ _ h.act]; rfl, by rw [cell_of_row _ _ 6 _ _ _ h.act]; rfl, by rw [cell_of_row _ _ 7 _ _ _ h.act]; rfl, by rw [cell_of_row _ _ 8 _ _ _ h.act]; rfl, by rw [cell_of_row _ _ 9 _ _ _ h.act]; rfl⟩
theorem DoS7.rc (h : DoS7 w0 w S0 W S p q d m sv cv acts ov own) : W.cell? ⟨w.heap.size + 1 + 1, 0, none⟩ = some (.int .i64 0) ∧ W.cell? ⟨w.heap.size + 1 + 1, 1, none⟩ = some (.slice none 0 0) ∧ W.cell? ⟨w.heap.size + 1 + 1, 2, none⟩ = some (.slice none 0 0) ∧ W.cell? ⟨w.heap.size + 1 + 1, 3, none⟩ = some (.int .i64 0) ∧ W.cell? ⟨w.heap.size + 1 + 1, 4, none⟩ = some (.bool false) ∧ ∀ i, W.frozen? ⟨w.heap.size + 1 + 1, i, none⟩ = false :=
  ⟨by rw [cell_of_row _ _ 0 _ _ _ h.res]; rfl, by rw [cell_of_row _ _ 1 _ _ _ h.res]; rfl, by rw [cell_of_row _ _ 2 _ _ _ h.res]; rfl, by rw [cell_of_row _ _ 3 _ _ _ h.res]; rfl, by rw [cell_of_row _ _ 4 _ _ _ h.res]; rfl, fun i => frozen_of_row _ _ i _ _ h.res⟩
/-- The disk and the document's alone, as an act of layer 6 wants them. -/
theorem DoS7.both (h : DoS7 w0 w S0 W S p q d m sv cv acts ov own) : Both w0 W S p d m sv cv := ⟨h.dk, h.s0, h.below, h.doc.mono fun _ _ hB => hB.1⟩
/-- Behind an act of layer 6: its answer lies in the box. -/
theorem DoS7.six {S' : Nat → Prop} {a1 a2 : Option Addr} {n1 c1 n2 c2 : Nat} (h : DoS7 w0 w S0 W S p q d m sv cv acts ov own) (hb : Both w0 W' S' p d' m' (.slice a1 n1 c1) (.slice a2 n2 c2)) (hf : Fr S W W') (ht : ∀ j, S' j → S j ∨ W.heap.size ≤ j)
    (hsv : ∃ ao n c, sv = .slice ao n c) (hcv : ∃ ao n c, cv = .slice ao n c) :
    DoS7 w0 w S0 (five W' w.heap.size (.int .i64 (m'.room : Int)) (.slice a1 n1 c1) (.slice a2 n2 c2) (.int .i64 m'.fuse) (.bool m'.down)) S' p q d' m' (.slice a1 n1 c1) (.slice a2 n2 c2) acts ov own := by
  obtain ⟨x1, x2, x3, rfl⟩ := hsv
  obtain ⟨y1, y2, y3, rfl⟩ := hcv
  have h1 := h.turn hb.1 hf ht
  have hd : Doc W' (Rw7 w S') m' (.slice a1 n1 c1) (.slice a2 n2 c2) := ((hb.2.2.2.textless h1.box five_textless).textless h1.res five_textless).mono fun j _ hj => ⟨hj.1.1, hj.1.2, hj.2⟩
  have h2 : DoS7 w0 w S0 W' S' p q d' m _ _ acts ov own := h1
  exact h2.doc' (Below.refl _ _) (hd.mono fun _ _ hj => .inl hj)
end

/-! ### What an act does to the disk -/
def driven (a : ActR) : Bool := decide (5 ≤ (IntKind.u64.wrap a.kind).tmod 10)
def dact7 (d : DS) (a : Act7) : DS :=
  if ((IntKind.u64.wrap a.kind).tmod 8 == 3) = true then (sdelete d a.name).1
  else if ((IntKind.u64.wrap a.kind).tmod 8 == 4) = true then d
  else if ((IntKind.u64.wrap a.kind).tmod 8 == 5) = true then (if driven a.act = true then dact d a.act else d)
  else if ((IntKind.u64.wrap a.kind).tmod 8 == 6) = true then (sopen (dstart (dcut d a.keep))).1
  else if ((IntKind.u64.wrap a.kind).tmod 8 == 7) = true then d
  else (sput d a.name a.bytes).1
theorem sdelete_sz7 (d : DS) (n : Nm) : (sdelete d n).1.sz ≤ d.sz + 2 := by
  have h1 := (opOk_remove d n).sz
  have h2 := (opOk_sync (dremove d n).1).sz
  unfold sdelete
  split
  · simp only; omega
  · split <;> omega
theorem sput_sz7 (d : DS) (n : Nm) (b : List Nat) : (sput d n b).1.sz ≤ d.sz + 4 := by
  have h1 := (opOk_write d (til :: n) b).sz
  have h2 := (opOk_sync (dwrite d (til :: n) b).1).sz
  have h3 := (opOk_rename (dsync (dwrite d (til :: n) b).1).1 (til :: n) n).sz
  have h4 := (opOk_sync (drename (dsync (dwrite d (til :: n) b).1).1 (til :: n) n).1).sz
  unfold sput
  split
  · simp only; omega
  · split
    · omega
    · split
      · omega
      · split <;> omega
/-- What every act keeps. -/
structure Ok7 (d : DS) (k : Nat) : Prop where
  sz : d.sz ≤ k
  rise : Rises d.sure
  nmd : Nmd d
theorem Ok7.act {d : DS} {k : Nat} (h : Ok7 d k) (a : Act7) : Ok7 (dact7 d a) (k + 4) := by
  have hz := h.sz
  unfold dact7
  repeat' split
  · exact ⟨by have := sdelete_sz7 d a.name; omega, h.rise.deleteD _, h.nmd.delete _⟩
  · exact ⟨by omega, h.rise, h.nmd⟩
  · exact ⟨by have := dact_sz d a.act; omega, dact_rises h.rise a.act, h.nmd.act _⟩
  · exact ⟨by omega, h.rise, h.nmd⟩
  · exact ⟨by have := (reopen_cut h.nmd h.rise a.keep).2; omega, Rises.openD (Rises.picked d.chs h.rise a.keep), ((h.nmd.cut a.keep).start).open⟩
  · exact ⟨by omega, h.rise, h.nmd⟩
  · exact ⟨by have := sput_sz7 d a.name a.bytes; omega, h.rise.putD _ _, h.nmd.put _ _⟩

set_option maxRecDepth 100000 in
theorem driven_any (a : ActR) (bv kv : Value) (hb : ∃ ao n c, bv = .slice ao n c) (hk : ∃ ao n c, kv = .slice ao n c) (w : World) :
    Calls Tryz.prog 30 #[.agg #[.int .i64 a.kind, nmV a.name, nmV a.to, bv, .int .i64 a.n, kv]] w fun e w' => e = .returned (.bool (driven a)) ∧ Below w.heap.size w w' := by
  obtain ⟨a1, n1, c1, rfl⟩ := hb
  obtain ⟨a2, n2, c2, rfl⟩ := hk
  have HE : Hid (driven a = decide (5 ≤ (IntKind.u64.wrap a.kind).tmod 10)) := Lib.hid rfl
  obtain ⟨kind, name, tu, bytes, nn, keep⟩ := a
  obtain ⟨s1, hs1⟩ : ∃ s1 : ByteArray, nmV name = .string s1 := ⟨_, rfl⟩
  obtain ⟨s2, hs2⟩ : ∃ s2 : ByteArray, nmV tu = .string s2 := ⟨_, rfl⟩
  simp only [hs1, hs2]
  simp only [] at HE
  clear hs1 hs2
  go_enter Tryz.func30, Tryz.ntmps30
  go_wp2
  go_ret
  exact ⟨by rw [HE.out]; rfl, (Below.refl _ _).alloc (Nat.le_refl _) _⟩

end Go.Proofs.YtmjpckodcafjiaaGreat

namespace Go.Proofs.YtmjpckodcafjiaaGreat
open Go.RowKit

set_option maxHeartbeats 8000000 in
set_option maxRecDepth 100000 in
theorem do7_both {w0 w : World} {S : Nat → Prop} {p q : Nat} {d : DS} {sv cv : Value} (h : Both w0 w S p d d sv cv) (hok : Ok7 d 400) (hat : AtS w q p) (hnq : ¬ S q) {a : Act7} {bv dv dkv kv : Value} (ha : Act7At w0 (fun j => j < w0.heap.size) a (bv, dv, dkv, kv)) (hl : longA7 a = false) :
    Calls Tryz.prog 12 #[.pointer (some ⟨q, 0, none⟩), docV d sv cv, .agg #[.int .i64 a.kind, nmV a.name, bv, .int .i64 a.act.kind, nmV a.act.name, nmV a.act.to, dv, .int .i64 a.act.n, dkv, kv]] w fun e w' =>
      ∃ S' q' sv' cv', e = .returned (.tuple #[.pointer (some ⟨q', 0, none⟩), docV (dact7 d a) sv' cv', .bool true]) ∧ Both w0 w' S' p (dact7 d a) (dact7 d a) sv' cv' ∧ AtS w' q' p ∧ ¬ S' q' ∧ (q' = q ∨ w.heap.size ≤ q') ∧ Fr S w w' ∧ (∀ j, S' j → S j ∨ w.heap.size ≤ j) := by
  obtain ⟨hdk, hs0, hb0, hdoc⟩ := h
  obtain ⟨⟨aos, caps, rfl⟩, aoc, capc, rfl⟩ := hdoc.val
  obtain ⟨aob, capb, hbv, _, _, _⟩ := ha.bytes.reads.val
  obtain ⟨aod, capd, hdv, _, _, _⟩ := ha.act.bytes.reads.val
  obtain ⟨aoe, cape, hde, _, _, _⟩ := id ha.act.keep
  obtain ⟨aok, capk, hkv, _, _, _⟩ := id ha.keep
  rw [List.length_map] at hde hkv
  simp only [] at hbv hdv hde hkv
  subst hbv hdv hde hkv
  have HKV : Hid (RowV w0 (fun j => j < w0.heap.size) (.slice aok a.keep.length capk) (a.keep.map Value.bool)) := Lib.hid ha.keep
  have HBV : Hid (At w0 (fun j => j < w0.heap.size) .u8 (.slice aob a.bytes.length capb) a.bytes) := Lib.hid ha.bytes
  have HBYT := Lib.hid ha.byte
  have HACT := Lib.hid ha.act
  have hlb : longB7 a = false ∧ longA a.act = false := by
    unfold longA7 longD at hl
    rw [Bool.or_eq_false_iff] at hl
    refine ⟨hl.1, ?_⟩
    have := hl.2
    simp at this
    exact this
  have HLD := Lib.hid hlb.2
  have HLN : Hid (a.name.length ≤ 60 ∧ a.bytes.length ≤ 66000) := Lib.hid (by
    have h := hlb.1
    unfold longB7 at h
    simp only [Bool.or_eq_false_iff, decide_eq_false_iff_not] at h
    omega)
  obtain ⟨d', hd'⟩ : ∃ d', d' = dact7 d a := ⟨_, rfl⟩
  have hok' := hok.act a
  rw [← hd'] at hok' ⊢
  have HACV := Lib.hid (fun W => driven_any a.act (.slice aod a.act.bytes.length capd) (.slice aoe a.act.keep.length cape) ⟨_, _, _, rfl⟩ ⟨_, _, _, rfl⟩ W)
  have HD6 : Hid (∀ (W : World) (S1 : Nat → Prop) (sv cv : Value), Both w0 W S1 p d d sv cv → _) := Lib.hid (fun W S1 sv cv hb => do_both hb (Nat.le_trans hok.sz (by decide)) hok.rise (a := a.act) HACT.out HLD.out)
  obtain ⟨kind, name, bytes, act, keep⟩ := a
  simp only [] at HKV HBV HBYT HACT HLD HLN HACV HD6 ⊢
  obtain ⟨bn, hbn⟩ : ∃ s, Value.string s = nmV name := ⟨_, rfl⟩
  obtain ⟨dbn, hdbn⟩ : ∃ s, Value.string s = nmV act.name := ⟨_, rfl⟩
  obtain ⟨dbt, hdbt⟩ : ∃ s, Value.string s = nmV act.to := ⟨_, rfl⟩
  obtain ⟨dki, hdki⟩ : ∃ z, z = act.kind := ⟨_, rfl⟩
  obtain ⟨dn, hdn⟩ : ∃ z, z = act.n := ⟨_, rfl⟩
  obtain ⟨nd, hnd⟩ : ∃ z, z = act.bytes.length := ⟨_, rfl⟩
  obtain ⟨ne, hne⟩ : ∃ z, z = act.keep.length := ⟨_, rfl⟩
  unfold docV at HD6
  simp only [← hdbn, ← hdbt, ← hdki, ← hdn, ← hnd, ← hne] at HACV HD6
  rw [← hbn, ← hdbn, ← hdbt, ← hdki, ← hdn, ← hnd, ← hne]
  have HSN := Lib.hid hbn
  have hw0 : w0.heap.size ≤ w.heap.size := hb0.size
  obtain ⟨zr, hzr⟩ : ∃ zr : Int, zr = (d.room : Int) := ⟨_, rfl⟩
  obtain ⟨W3, hW3⟩ : ∃ W3, W3 = ((w.alloc (.cells #[.int .i64 zr, .slice aos d.sure.length caps, .slice aoc d.chs.length capc, .int .i64 d.fuse, .bool d.down] 33)).alloc (.cells #[.int .i64 kind, .string bn, .slice aob bytes.length capb, .int .i64 dki, .string dbn, .string dbt, .slice aod nd capd, .int .i64 dn, .slice aoe ne cape, .slice aok keep.length capk] 46)).alloc (.cells #[.int .i64 0, .slice none 0 0, .slice none 0 0, .int .i64 0, .bool false] 33) := ⟨_, rfl⟩
  have hb3 : Below w.heap.size w W3 := by rw [hW3]; exact (((Below.refl _ _).alloc (Nat.le_refl _) _).alloc (by simp) _).alloc (by simp <;> omega) _
  have hs3 : W3.heap.size = w.heap.size + 3 := by rw [hW3]; simp
  have hD3 : W3.heap[w.heap.size]? = some (.cells #[.int .i64 zr, .slice aos d.sure.length caps, .slice aoc d.chs.length capc, .int .i64 d.fuse, .bool d.down] 33 (0, 0)) := by
    rw [hW3, Below.heap_alloc _ _ _ (by simp <;> omega), Below.heap_alloc _ _ _ (by simp <;> omega)]
    exact alloc_at _ rfl
  have hA3 : W3.heap[w.heap.size + 1]? = some (.cells #[.int .i64 kind, .string bn, .slice aob bytes.length capb, .int .i64 dki, .string dbn, .string dbt, .slice aod nd capd, .int .i64 dn, .slice aoe ne cape, .slice aok keep.length capk] 46 (0, 0)) := by
    rw [hW3, Below.heap_alloc _ _ _ (by simp <;> omega)]
    exact alloc_at _ (by simp)
  have hR3 : W3.heap[w.heap.size + 2]? = some (.cells #[.int .i64 0, .slice none 0 0, .slice none 0 0, .int .i64 0, .bool false] 33 (0, 0)) := by
    rw [hW3]
    exact alloc_at _ (by simp)
  obtain ⟨W4, hW4⟩ : ∃ W4, W4 = W3.alloc (.cells #[] 5) := ⟨_, rfl⟩
  have hb34 : Below W3.heap.size W3 W4 := by rw [hW4]; exact (Below.refl _ _).alloc (Nat.le_refl _) _
  have hb4 : Below w.heap.size w W4 := hb3.trans (hb34.mono hb3.size)
  have hs4 : W4.heap.size = w.heap.size + 3 + 1 := by rw [hW4]; simp [hs3]
  have hO4 : Owns W4 (w.heap.size + 3) 5 .u8 (.slice (some ⟨w.heap.size + 3, 0, none⟩) 0 0) [] := by
    have h3 := owns_empty W3 (w.heap.size + 3) 5 .u8 (by omega)
    rw [hW4, ← hs3]
    rw [hs3] at h3 ⊢
    exact h3
  have HST4 : Hid (∀ ov w5, Owns w5 (w.heap.size + 3) 5 .u8 ov bytes → W4.grownBy w5 (some (w.heap.size + 3)) → DoS7 w0 w S w5 S p q d d (.slice aos d.sure.length caps) (.slice aoc d.chs.length capc) #[.int .i64 kind, .string bn, .slice aob bytes.length capb, .int .i64 dki, .string dbn, .string dbt, .slice aod nd capd, .int .i64 dn, .slice aoe ne cape, .slice aok keep.length capk] ov bytes) := Lib.hid fun ov w5 ho hg => by
    have hb5 : Below w.heap.size w w5 := hb4.grown hg (by omega) (fun j hj => by cases hj; omega)
    have hk : ∀ j, j < w.heap.size + 3 → w5.heap[j]? = W3.heap[j]? := fun j hj => (hg.block j (by omega) (fun e => by cases e; omega)).trans (hb34.block j (by omega))
    subst hzr
    exact ⟨hdk.keep (kept_new hb5 S), hs0, hb0.trans (hb5.mono hw0), ((hdoc.mono (C := fun j => ¬ S j ∧ j < w.heap.size) fun j hj hB => ⟨hB, hj⟩).keep (kept_new hb5 _)).mono fun j _ hj => ⟨hj.1, by omega, by omega⟩,
      (hk _ (by omega)).trans hD3, (hk _ (by omega)).trans hA3, (hk _ (by omega)).trans hR3, ho, fun j hj => ⟨.inl (hdk.lt hj), fun e => by have := (Owns.lt ho j e.symm).1; have := hdk.lt hj; omega⟩, hw0, fr_below hb5 _, fun _ h => .inl h, ats_old hat hb5, hnq, .inl hat.2⟩
  have HRB : Hid (Reads W4 .u8 (.slice aob bytes.length capb) bytes) := Lib.hid (((HBV.out.keep (kept_below hb0)).keep (kept_new hb4 _)).reads)
  have HDISK := Lib.hid (disk_store (ats_old hat hb3).1)
  have HO4 := Lib.hid hO4
  have HS4 := Lib.hid hs4
  have HS3 := Lib.hid hs3
  have HW4 := Lib.hid hW4
  have HW3 := Lib.hid hW3
  have HOK := Lib.hid hok
  have HOK' := Lib.hid hok'
  have HD' := Lib.hid hd'
  have HFU : Hid (FuseOk d) := Lib.hid (by obtain ⟨_, _, _, hk⟩ := hdk; exact hk.fuse)
  have HTO : Hid (∀ n b, b.length ≤ 65536 → tot (fput d.shown n b) < 4611686018427387904) := Lib.hid fun n b hb => by
    obtain ⟨_, _, _, hk⟩ := hdk
    have h1 := tot_put hk.shown.apart n b
    have h2 := tot_le fun f hf => (hk.smallShown f hf).1
    have h3 : d.shown.length ≤ 400 := Nat.le_trans (lenShown d) hok.sz
    have h4 : d.shown.length * 65536 ≤ 400 * 65536 := Nat.mul_le_mul_right _ h3
    omega
  obtain ⟨c3w, hc3w⟩ := five_cells hD3
  have a2 : W3.cell? ⟨w.heap.size + 1, 2, none⟩ = some (.slice aob bytes.length capb) := by rw [cell_of_row _ _ 2 _ _ _ hA3]; rfl
  have a24 : (W3.alloc (.cells #[] 5)).cell? ⟨w.heap.size + 1, 2, none⟩ = some (.slice aob bytes.length capb) := by rw [← hW4]; exact (World.cell?_of_block (a := ⟨w.heap.size + 1, 2, none⟩) (hb34.block (w.heap.size + 1) (by omega))).trans a2
  unfold docV
  rw [← hzr]
  have HZR := Lib.hid hzr
  clear ha hl hlb hdk hs0 hb0 hdoc hok hok' hat hnq hd' hbn hdbn hdbt hdki hdn hnd hne hzr hW3 hb3 hs3 hD3 hA3 hR3 hW4 hb34 hb4 hs4 hO4 c3w hc3w HACT
  go_enter Tryz.func12, Tryz.ntmps12
  go_upto_block 0 with fail
  rw [← HW3.out]
  refine HDISK.out.mono ?_
  rintro e w3 ⟨rfl, rfl⟩
  go_upto_block 0 with (at_builtin; rw [← HW4.out, HS3.out]; go_must (refine wpList_app _ rfl _ _ 41 rfl (w.heap.size + 3) 5 (.int .u8 0) 1 Tryz.underlying41 Tryz.infoU8 rfl .u8 _ [] rfl HO4.out _ bytes rfl HRB.out (by decide) (by have := HLN.out; simp; omega) (by rw [HS4.out]; omega) ?_))

  intro ov w5 ho5 hg5
  have HDS := Lib.hid (HST4.out ov w5 ho5 hg5)
  obtain ⟨aoo, capo, rfl⟩ := Owns.form2 ho5
  clear ho5 hg5 a2 a24
  obtain ⟨q0, q1, q2, q3, q4, qf⟩ := HDS.out.dc
  obtain ⟨a0, a1, a2, a3, a4, a5, a6, a7, a8, a9⟩ := HDS.out.ac
  go_upto_block 0 with fail
  go_cut [0, 11] from 12 (fun sq ok wx => ok = .bool true ∧ ∃ S' q' sv' cv', sq = .pointer (some ⟨q', 0, none⟩) ∧ (q' = q ∨ w.heap.size ≤ q') ∧ DoS7 w0 w S wx S' p q' d' d' sv' cv' #[.int .i64 kind, .string bn, .slice aob bytes.length capb, .int .i64 dki, .string dbn, .string dbt, .slice aod nd capd, .int .i64 dn, .slice aoe ne cape, .slice aok keep.length capk] (.slice aoo bytes.length capo) bytes)
  case first =>
    cases z3 : ((IntKind.u64.wrap kind).tmod 8 == 3)
    rotate_left
    · have HE : Hid (d' = (sdelete d name).1) := Lib.hid (by rw [HD'.out]; unfold dact7; simp only []; rw [if_pos z3])
      obtain ⟨c1, hc1⟩ : ∃ c1, c1 = (sdelete d name).2 := ⟨_, rfl⟩
      have hcall := rdelete7_any HDS.out.doc (Nat.le_trans HOK.out.sz (by decide)) HFU.out name (by have := HLN.out.1; omega)
      unfold DocPost docV at hcall
      rw [← HE.out, ← hc1, ← HSN.out] at hcall
      have HC := Lib.hid hcall
      have HC1 := Lib.hid hc1
      clear hcall hc1
      go_wp2_with fail
      refine HC.out.mono ?_
      rintro e w6 ⟨sv1, cv1, rfl, hdoc6, hb6⟩
      obtain ⟨⟨ao1, cap1, rfl⟩, ao2, cap2, rfl⟩ := hdoc6.val
      have hds6 := HDS.out.old hb6
      obtain ⟨W7, hW7⟩ : ∃ W7, W7 = five w6 w.heap.size (.int .i64 (d'.room : Int)) (.slice ao1 d'.sure.length cap1) (.slice ao2 d'.chs.length cap2) (.int .i64 d'.fuse) (.bool d'.down) := ⟨_, rfl⟩
      have HDS7 : Hid (DoS7 w0 w S W7 S p q d d' (.slice ao1 d'.sure.length cap1) (.slice ao2 d'.chs.length cap2) #[.int .i64 kind, .string bn, .slice aob bytes.length capb, .int .i64 dki, .string dbn, .string dbt, .slice aod nd capd, .int .i64 dn, .slice aoe ne cape, .slice aok keep.length capk] (.slice aoo bytes.length capo) bytes) := Lib.hid (by rw [hW7]; exact HDS.out.doc' hb6 hdoc6)
      clear q0 q1 q2 q3 q4 qf a0 a1 a2 a3 a4 a5 a6 a7 a8 a9
      obtain ⟨q0, q1, q2, q3, q4, qf⟩ := hds6.dc
      obtain ⟨a0, a1, a2, a3, a4, a5, a6, a7, a8, a9⟩ := hds6.ac
      have hpc := delete_store HDS7.out.dk HDS7.out.ats HDS7.out.nq (Nat.lt_of_le_of_lt HOK.out.sz (by decide)) (n := name) (by have := HLN.out.1; omega)
      unfold SPost at hpc
      rw [← HE.out, ← HC1.out, ← HSN.out] at hpc
      have HPC := Lib.hid hpc
      unfold five at hW7
      have HW7 := Lib.hid hW7
      clear hpc hW7 hds6 hdoc6 hb6
      go_wp2_with fail
      rw [← HW7.out]
      refine HPC.out.mono ?_
      rintro e w8 ⟨rfl, hp8⟩
      obtain ⟨S', hs8⟩ := HDS7.out.prog hp8
      have HS8 := Lib.hid hs8
      clear hp8 hs8
      go_wp2_with fail
      refine (num_any c1 _).mono ?_
      rintro e w9 ⟨rfl, rfl⟩
      go_wp2
      go_meet
      case rel => exact ⟨rfl, S', q, _, _, rfl, .inl rfl, HS8.out⟩
    cases z4 : ((IntKind.u64.wrap kind).tmod 8 == 4)
    rotate_left
    · have HE : Hid (d' = d) := Lib.hid (by rw [HD'.out]; unfold dact7; simp only []; rw [if_neg (by rw [z3]; decide)]; rw [if_pos z4])
      obtain ⟨t, hte⟩ : ∃ t, t = (sget d name).1 := ⟨_, rfl⟩
      obtain ⟨c1, hc1⟩ : ∃ c1, c1 = (sget d name).2 := ⟨_, rfl⟩
      have hcall := rget7_any HDS.out.doc (Nat.le_trans HOK.out.sz (by decide)) name (by have := HLN.out.1; omega)
      rw [← hte, ← hc1] at hcall
      unfold docV at hcall
      rw [← HSN.out] at hcall
      obtain ⟨bx, hbx⟩ : ∃ s, s = txt t := ⟨_, rfl⟩
      rw [← hbx] at hcall
      have HC := Lib.hid hcall
      have hdr : sget d name = (t, c1) := by rw [hte, hc1]
      have HDR := Lib.hid hdr
      have HBXX := Lib.hid hbx
      clear hcall hc1 hte hdr hbx
      go_wp2_with fail
      refine HC.out.mono ?_
      rintro e w6 ⟨rfl, hb6⟩
      have hds6 := HDS.out.old hb6
      have hpc := get_store hds6.dk hds6.ats (n := name) (by have := HLN.out.1; omega)
      rw [← HSN.out, HDR.out] at hpc
      have HPC := Lib.hid hpc
      have HDS6 := Lib.hid hds6
      clear q0 q1 q2 q3 q4 qf a0 a1 a2 a3 a4 a5 a6 a7 a8 a9
      obtain ⟨a0, a1, a2, a3, a4, a5, a6, a7, a8, a9⟩ := hds6.ac
      clear hpc hds6 hb6
      go_wp2_with fail
      refine HPC.out.mono ?_
      rintro e w7 ⟨bv, rfl, ho7, hb7⟩
      have hrd := ho7.reads
      obtain ⟨bo, bc, rfl⟩ := Owns.form2 ho7
      have qc : (convert 41 9 (.slice bo t.length bc)).run Tryz.prog w7 = .ok (.string bx) w7 := by rw [HBXX.out]; exact conv_reads _ _ _ hrd
      have hds7 := HDS6.out.old hb7
      have hph := has_store hds7.dk hds7.ats (n := name) (by have := HLN.out.1; omega)
      rw [← HSN.out, HDR.out] at hph
      have HPH := Lib.hid hph
      have HDS7 := Lib.hid hds7
      clear a0 a1 a2 a3 a4 a5 a6 a7 a8 a9
      obtain ⟨a0, a1, a2, a3, a4, a5, a6, a7, a8, a9⟩ := hds7.ac
      clear ho7 hb7 hrd hds7 hph
      obtain ⟨er, her⟩ : ∃ er, er = errV c1 := ⟨_, rfl⟩
      simp only [← her]
      have HER := Lib.hid her
      clear her
      go_wp2_with fail
      rw [HER.out]
      refine (num_any c1 _).mono ?_
      rintro e w9 ⟨rfl, rfl⟩
      go_wp2_with fail
      refine HPH.out.mono ?_
      rintro e w10 ⟨rfl, hb10⟩
      have HS10 := Lib.hid (HDS7.out.old hb10)
      clear hb10 a0 a1 a2 a3 a4 a5 a6 a7 a8 a9
      simp only []
      by_cases hz : c1 = 0
      · subst hz
        go_wp2
        go_meet
        case rel => exact ⟨rfl, S, q, _, _, rfl, .inl rfl, by rw [HE.out]; exact HS10.out⟩
      · have hzi : ((c1 : Int) == 0) = false := by simpa using hz
        rw [decide_eq_false hz]
        clear hz
        go_wp2
        go_meet
        case rel => exact ⟨rfl, S, q, _, _, rfl, .inl rfl, by rw [HE.out]; exact HS10.out⟩
    cases z5 : ((IntKind.u64.wrap kind).tmod 8 == 5)
    rotate_left
    · have HE0 : Hid (d' = if driven act = true then dact d act else d) := Lib.hid (by rw [HD'.out]; unfold dact7; simp only []; rw [if_neg (by rw [z3]; decide)]; rw [if_neg (by rw [z4]; decide)]; rw [if_pos z5])
      go_wp2_with fail
      refine (HACV.out _).mono ?_
      rintro e w6 ⟨rfl, hb6⟩
      have hds6 := HDS.out.old hb6
      have HDS6 := Lib.hid hds6
      clear q0 q1 q2 q3 q4 qf a0 a1 a2 a3 a4 a5 a6 a7 a8 a9
      obtain ⟨q0, q1, q2, q3, q4, qf⟩ := hds6.dc
      obtain ⟨a0, a1, a2, a3, a4, a5, a6, a7, a8, a9⟩ := hds6.ac
      clear hb6 hds6
      cases hdr : driven act
      · have HE : Hid (d' = d) := Lib.hid (by rw [HE0.out, if_neg (by rw [hdr]; decide)])
        clear hdr
        go_wp2
        go_meet
        case rel => exact ⟨rfl, S, q, _, _, rfl, .inl rfl, by rw [HE.out]; exact HDS6.out⟩
      · have HE : Hid (d' = dact d act) := Lib.hid (by rw [HE0.out, if_pos hdr])
        clear hdr
        have hcall := HD6.out _ _ _ _ HDS6.out.both
        rw [← HE.out] at hcall
        have HC := Lib.hid hcall
        clear hcall
        go_wp2_with fail
        refine HC.out.mono ?_
        rintro e w7 ⟨S', sv1, cv1, rfl, hbo, hfr, hsub⟩
        obtain ⟨⟨ao1, cap1, rfl⟩, ao2, cap2, rfl⟩ := hbo.2.2.2.val
        obtain ⟨W8, hW8⟩ : ∃ W8, W8 = five w7 w.heap.size (.int .i64 (d'.room : Int)) (.slice ao1 d'.sure.length cap1) (.slice ao2 d'.chs.length cap2) (.int .i64 d'.fuse) (.bool d'.down) := ⟨_, rfl⟩
        have hds7 := HDS6.out.turn hbo.1 hfr hsub
        have HDS8 : Hid (DoS7 w0 w S W8 S' p q d' d' (.slice ao1 d'.sure.length cap1) (.slice ao2 d'.chs.length cap2) #[.int .i64 kind, .string bn, .slice aob bytes.length capb, .int .i64 dki, .string dbn, .string dbt, .slice aod nd capd, .int .i64 dn, .slice aoe ne cape, .slice aok keep.length capk] (.slice aoo bytes.length capo) bytes) := Lib.hid (by rw [hW8]; exact HDS6.out.six hbo hfr hsub ⟨_, _, _, rfl⟩ ⟨_, _, _, rfl⟩)
        clear q0 q1 q2 q3 q4 qf a0 a1 a2 a3 a4 a5 a6 a7 a8 a9
        obtain ⟨q0, q1, q2, q3, q4, qf⟩ := hds7.dc
        unfold five at hW8
        have HW8 := Lib.hid hW8
        clear hW8 hbo hfr hsub hds7
        go_wp2
        rw [← HW8.out]
        go_meet
        case rel => exact ⟨rfl, S', q, _, _, rfl, .inl rfl, HDS8.out⟩
    cases z6 : ((IntKind.u64.wrap kind).tmod 8 == 6)
    rotate_left
    · obtain ⟨d1, hd1⟩ : ∃ x, x = dcut d keep := ⟨_, rfl⟩
      obtain ⟨d2, hd2⟩ : ∃ x, x = dstart d1 := ⟨_, rfl⟩
      obtain ⟨r, hr⟩ : ∃ x, x = sopen d2 := ⟨_, rfl⟩
      have HE : Hid (d' = r.1) := Lib.hid (by rw [HD'.out, hr, hd2, hd1]; unfold dact7; simp only []; rw [if_neg (by rw [z3]; decide)]; rw [if_neg (by rw [z4]; decide)]; rw [if_neg (by rw [z5]; decide)]; rw [if_pos z6])
      have HRZ : Hid (r.2 = 0) := Lib.hid (by rw [hr, hd2, hd1]; exact (reopen_cut HOK.out.nmd HOK.out.rise keep).1)
      have HSZ1 : Hid (d1.sz ≤ 400) := Lib.hid (by rw [hd1]; have h1 := picked_length d.chs d.sure keep; have h2 := HOK.out.sz; unfold DS.sz at h2 ⊢; unfold dcut; simp only [List.length_nil]; omega)
      have HSZ2 : Hid (d2.sz ≤ 400) := Lib.hid (by rw [hd2]; have h2 := HSZ1.out; unfold DS.sz at h2 ⊢; unfold dstart; simp only []; split <;> simp <;> omega)
      have HR2 : Hid (Rises d2.sure) := Lib.hid (by rw [hd2, hd1]; exact Rises.picked d.chs HOK.out.rise keep)
      have HN2 : Hid (∀ f ∈ d2.shown, 1 ≤ f.1.length ∧ f.1.length ≤ 9223372036854775807) := Lib.hid (by rw [hd2, hd1]; exact fun f hf => ⟨(((HOK.out.nmd.cut keep).start).long f hf).1, Nat.le_trans (((HOK.out.nmd.cut keep).start).long f hf).2 (by decide)⟩)
      have HF2 : Hid (FuseOk d2) := Lib.hid (by rw [hd2]; exact ⟨by unfold dstart; simp, by unfold dstart; simp⟩)
      have hpc := cutD_any HDS.out.dk (Nat.lt_of_le_of_lt HOK.out.sz (by decide)) ((HKV.out.keep (kept_below HDS.out.below)).mono fun j _ hj hS => Nat.not_le_of_lt hj (HDS.out.s0 j hS))
      rw [← hd1] at hpc
      have HPC := Lib.hid hpc
      have HD1 := Lib.hid hd1
      have HD2 := Lib.hid hd2
      have HRR := Lib.hid hr
      clear hpc hd1 hd2 hr
      go_wp2_with fail
      refine HPC.out.mono ?_
      rintro e w6 ⟨rfl, hp6⟩
      obtain ⟨S6, hs6⟩ := HDS.out.prog hp6
      have HDS6 := Lib.hid hs6
      have hpc := startD_any hs6.dk
      rw [← HD2.out] at hpc
      have HPC2 := Lib.hid hpc
      clear q0 q1 q2 q3 q4 qf a0 a1 a2 a3 a4 a5 a6 a7 a8 a9
      obtain ⟨q0, q1, q2, q3, q4, qf⟩ := hs6.dc
      obtain ⟨a0, a1, a2, a3, a4, a5, a6, a7, a8, a9⟩ := hs6.ac
      clear hp6 hs6 hpc
      go_wp2_with fail
      refine HPC2.out.mono ?_
      rintro e w7 ⟨rfl, hp7⟩
      obtain ⟨S7, hs7⟩ := HDS6.out.prog hp7
      have HDS7 := Lib.hid hs7
      have hcall := rcut_any hs7.doc (Nat.le_trans HOK.out.sz (by decide)) ((HKV.out.keep (kept_below hs7.below)).mono fun j hj _ => hj)
      rw [← HD1.out] at hcall
      unfold docV at hcall
      have HC := Lib.hid hcall
      clear q0 q1 q2 q3 q4 qf a0 a1 a2 a3 a4 a5 a6 a7 a8 a9
      obtain ⟨q0, q1, q2, q3, q4, qf⟩ := hs7.dc
      obtain ⟨a0, a1, a2, a3, a4, a5, a6, a7, a8, a9⟩ := hs7.ac
      clear hp7 hs7 hcall
      go_wp2_with fail
      refine HC.out.mono ?_
      rintro e w8 ⟨sv1, cv1, rfl, hdoc8, hb8⟩
      obtain ⟨⟨ao1, cap1, rfl⟩, ao2, cap2, rfl⟩ := hdoc8.val
      have hcall := rstart_any hdoc8
      rw [← HD2.out] at hcall
      unfold docV at hcall
      have HC2 := Lib.hid hcall
      have HB8 := Lib.hid hb8
      have hds8 := HDS7.out.old hb8
      clear q0 q1 q2 q3 q4 qf a0 a1 a2 a3 a4 a5 a6 a7 a8 a9
      obtain ⟨q0, q1, q2, q3, q4, qf⟩ := hds8.dc
      obtain ⟨a0, a1, a2, a3, a4, a5, a6, a7, a8, a9⟩ := hds8.ac
      clear hdoc8 hb8 hcall hds8
      go_wp2_with fail
      refine HC2.out.mono ?_
      rintro e w9 ⟨cv2, rfl, hdoc9, hb9⟩
      obtain ⟨_, ao4, cap4, rfl⟩ := hdoc9.val
      have hb9' := HB8.out.trans (hb9.mono HB8.out.size)
      have hds9 := HDS7.out.old hb9'
      obtain ⟨W10, hW10⟩ : ∃ W, W = five w9 w.heap.size (.int .i64 (d2.room : Int)) (.slice ao1 d1.sure.length cap1) (.slice ao4 d2.chs.length cap4) (.int .i64 d2.fuse) (.bool d2.down) := ⟨_, rfl⟩
      have hds10 : DoS7 w0 w S W10 S7 p q d2 d2 (.slice ao1 d1.sure.length cap1) (.slice ao4 d2.chs.length cap4) #[.int .i64 kind, .string bn, .slice aob bytes.length capb, .int .i64 dki, .string dbn, .string dbt, .slice aod nd capd, .int .i64 dn, .slice aoe ne cape, .slice aok keep.length capk] (.slice aoo bytes.length capo) bytes := by rw [hW10]; exact HDS7.out.doc' hb9' hdoc9
      have HDS10 := Lib.hid hds10
      clear q0 q1 q2 q3 q4 qf a0 a1 a2 a3 a4 a5 a6 a7 a8 a9
      obtain ⟨q0, q1, q2, q3, q4, qf⟩ := hds9.dc
      obtain ⟨a0, a1, a2, a3, a4, a5, a6, a7, a8, a9⟩ := hds9.ac
      have hcall := ropen7_any hds10.doc (Nat.le_trans HSZ2.out (by decide)) HF2.out HR2.out HN2.out
      unfold DocPost docV at hcall
      rw [← HRR.out, HRZ.out, ← HE.out] at hcall
      have HC3 := Lib.hid hcall
      unfold five at hW10
      have HW10 := Lib.hid hW10
      clear hdoc9 hb9 hb9' hds9 hds10 hcall hW10
      go_wp2_with fail
      rw [← HW10.out]
      refine HC3.out.mono ?_
      rintro e w11 ⟨sv5, cv5, rfl, hdoc11, hb11⟩
      obtain ⟨⟨ao5, cap5, rfl⟩, ao6, cap6, rfl⟩ := hdoc11.val
      have hds11 := HDS10.out.old hb11
      obtain ⟨W12, hW12⟩ : ∃ W, W = five w11 w.heap.size (.int .i64 (d'.room : Int)) (.slice ao5 d'.sure.length cap5) (.slice ao6 d'.chs.length cap6) (.int .i64 d'.fuse) (.bool d'.down) := ⟨_, rfl⟩
      have hds12 : DoS7 w0 w S W12 S7 p q d2 d' (.slice ao5 d'.sure.length cap5) (.slice ao6 d'.chs.length cap6) #[.int .i64 kind, .string bn, .slice aob bytes.length capb, .int .i64 dki, .string dbn, .string dbt, .slice aod nd capd, .int .i64 dn, .slice aoe ne cape, .slice aok keep.length capk] (.slice aoo bytes.length capo) bytes := by rw [hW12]; exact HDS10.out.doc' hb11 hdoc11
      have HDS12 := Lib.hid hds12
      clear q0 q1 q2 q3 q4 qf a0 a1 a2 a3 a4 a5 a6 a7 a8 a9
      obtain ⟨q0, q1, q2, q3, q4, qf⟩ := hds11.dc
      obtain ⟨a0, a1, a2, a3, a4, a5, a6, a7, a8, a9⟩ := hds11.ac
      have hpc := open_store hds12.dk (Nat.le_trans HSZ2.out (by decide))
      rw [← HRR.out] at hpc
      have HPC4 := Lib.hid hpc
      unfold five at hW12
      have HW12 := Lib.hid hW12
      clear hdoc11 hb11 hds11 hds12 hpc hW12
      go_wp2_with fail
      rw [← HW12.out]
      refine HPC4.out.mono ?_
      rintro e w13 hop
      obtain ⟨S13, hd13, hf13, ht13, _, ⟨hz, _⟩ | ⟨_, q', rfl, ha13, hn13, hq13⟩⟩ := open_dk hop
      · exact absurd HRZ.out hz
      rw [← HE.out] at hd13
      have HDS13 := Lib.hid ((HDS12.out.turn hd13 hf13 ht13).store ha13 hn13 (Nat.lt_of_lt_of_le HDS12.out.lt hq13))
      have HQ13 : Hid (w.heap.size ≤ q') := Lib.hid (by have := HDS12.out.lt; omega)
      have hnu := num_any 0 w13
      rw [errV_zero] at hnu
      have HNU := Lib.hid hnu
      clear q0 q1 q2 q3 q4 qf a0 a1 a2 a3 a4 a5 a6 a7 a8 a9
      clear hop hd13 hf13 ht13 ha13 hn13 hq13 hnu
      go_wp2_with fail
      refine HNU.out.mono ?_
      rintro e w14 ⟨rfl, rfl⟩
      go_wp2
      go_meet
      case rel => exact ⟨rfl, S13, q', _, _, rfl, .inr HQ13.out, HDS13.out⟩
    cases z7 : ((IntKind.u64.wrap kind).tmod 8 == 7)
    rotate_left
    · have HE : Hid (d' = d) := Lib.hid (by rw [HD'.out]; unfold dact7; simp only []; rw [if_neg (by rw [z3]; decide)]; rw [if_neg (by rw [z4]; decide)]; rw [if_neg (by rw [z5]; decide)]; rw [if_neg (by rw [z6]; decide)]; rw [if_pos z7])
      obtain ⟨l, hle⟩ : ∃ t, t = (slist d name).1 := ⟨_, rfl⟩
      obtain ⟨c1, hc1⟩ : ∃ c1, c1 = (slist d name).2 := ⟨_, rfl⟩
      have hcall := rlist7_any HDS.out.doc (Nat.le_trans HOK.out.sz (by decide)) HOK.out.rise (fun f hf => Nat.le_trans (HOK.out.nmd.long f hf).2 (by decide)) name (by have := HLN.out.1; omega)
      rw [← hle, ← hc1] at hcall
      unfold docV at hcall
      rw [← HSN.out] at hcall
      have HC := Lib.hid hcall
      have hdr : slist d name = (l, c1) := by rw [hle, hc1]
      have HDR := Lib.hid hdr
      have HLL : Hid (l.length ≤ 1000000000) := Lib.hid (by
        rw [hle]
        unfold slist
        split
        · simp
        · exact Nat.le_trans (List.length_filter_le _ _) (Nat.le_trans (dlist_length d) (Nat.le_trans HOK.out.sz (by decide))))
      clear hcall hc1 hle hdr
      go_wp2_with fail
      refine HC.out.mono ?_
      rintro e w6 ⟨v6, rfl, ho6, hb6⟩
      have hds6 := HDS.out.old hb6
      have hpc := list_store hds6.dk hds6.ats (Nat.le_trans HOK.out.sz (by decide)) name
      rw [← HSN.out, HDR.out] at hpc
      have HPC := Lib.hid hpc
      have HDS6 := Lib.hid hds6
      have HO6 := Lib.hid ho6
      obtain ⟨lo, lc, rfl⟩ := ho6.val
      clear q0 q1 q2 q3 q4 qf a0 a1 a2 a3 a4 a5 a6 a7 a8 a9
      obtain ⟨a0, a1, a2, a3, a4, a5, a6, a7, a8, a9⟩ := hds6.ac
      clear hpc hds6 hb6 ho6
      go_wp2_with fail
      refine HPC.out.mono ?_
      rintro e w7 ⟨v7, rfl, ho7, hb7⟩
      obtain ⟨po, pc, rfl⟩ := ho7.val
      have HTX := Lib.hid (texts_any ho7 (HO6.out.below hb7) HLL.out)
      have HDS7 := Lib.hid (HDS6.out.old hb7)
      clear ho7 hb7 a0 a1 a2 a3 a4 a5 a6 a7 a8 a9
      obtain ⟨er, her⟩ : ∃ er, er = errV c1 := ⟨_, rfl⟩
      simp only [← her]
      have HER := Lib.hid her
      clear her
      go_wp2_with fail
      refine HTX.out.mono ?_
      rintro e w8 ⟨rfl, hb8⟩
      have HS8 := Lib.hid (HDS7.out.old hb8)
      clear hb8
      go_wp2_with fail
      rw [HER.out]
      refine (num_any c1 _).mono ?_
      rintro e w9 ⟨rfl, rfl⟩
      go_wp2
      go_meet
      case rel => exact ⟨rfl, S, q, _, _, rfl, .inl rfl, by rw [HE.out]; exact HS8.out⟩
    · have HE : Hid (d' = (sput d name bytes).1) := Lib.hid (by rw [HD'.out]; unfold dact7; simp only []; rw [if_neg (by rw [z3]; decide)]; rw [if_neg (by rw [z4]; decide)]; rw [if_neg (by rw [z5]; decide)]; rw [if_neg (by rw [z6]; decide)]; rw [if_neg (by rw [z7]; decide)])
      obtain ⟨bx, hbx⟩ : ∃ s, s = txt bytes := ⟨_, rfl⟩
      have hrd : Reads w5 .u8 (.slice aob bytes.length capb) bytes := (HBV.out.keep (kept_below HDS.out.below)).reads
      have qc : (convert 41 9 (.slice aob bytes.length capb)).run Tryz.prog w5 = .ok (.string bx) w5 := by rw [hbx]; exact conv_reads _ _ _ hrd
      have HBXX := Lib.hid hbx
      clear hrd hbx
      obtain ⟨c1, hc1⟩ : ∃ c1, c1 = (sput d name bytes).2 := ⟨_, rfl⟩
      have hcall := rput7_any HDS.out.doc (Nat.le_trans HOK.out.sz (by decide)) HFU.out name (by have := HLN.out.1; omega) bytes (HTO.out _ _)
      unfold DocPost docV at hcall
      rw [← HE.out, ← hc1, ← HSN.out, ← HBXX.out] at hcall
      have HC := Lib.hid hcall
      have HC1 := Lib.hid hc1
      clear hcall hc1
      go_wp2_with fail
      refine HC.out.mono ?_
      rintro e w6 ⟨sv1, cv1, rfl, hdoc6, hb6⟩
      obtain ⟨⟨ao1, cap1, rfl⟩, ao2, cap2, rfl⟩ := hdoc6.val
      have hds6 := HDS.out.old hb6
      obtain ⟨W7, hW7⟩ : ∃ W7, W7 = five w6 w.heap.size (.int .i64 (d'.room : Int)) (.slice ao1 d'.sure.length cap1) (.slice ao2 d'.chs.length cap2) (.int .i64 d'.fuse) (.bool d'.down) := ⟨_, rfl⟩
      have HDS7 : Hid (DoS7 w0 w S W7 S p q d d' (.slice ao1 d'.sure.length cap1) (.slice ao2 d'.chs.length cap2) #[.int .i64 kind, .string bn, .slice aob bytes.length capb, .int .i64 dki, .string dbn, .string dbt, .slice aod nd capd, .int .i64 dn, .slice aoe ne cape, .slice aok keep.length capk] (.slice aoo bytes.length capo) bytes) := Lib.hid (by rw [hW7]; exact HDS.out.doc' hb6 hdoc6)
      clear q0 q1 q2 q3 q4 qf a0 a1 a2 a3 a4 a5 a6 a7 a8 a9
      obtain ⟨q0, q1, q2, q3, q4, qf⟩ := hds6.dc
      obtain ⟨a0, a1, a2, a3, a4, a5, a6, a7, a8, a9⟩ := hds6.ac
      have hpc := put_store HDS7.out.dk HDS7.out.ats HDS7.out.nq (Nat.lt_of_le_of_lt HOK.out.sz (by decide)) (n := name) (by have := HLN.out.1; omega) HDS7.out.ownAt HBYT.out
      unfold SPost at hpc
      rw [← HE.out, ← HC1.out, ← HSN.out] at hpc
      have HPC := Lib.hid hpc
      unfold five at hW7
      have HW7 := Lib.hid hW7
      clear hpc hW7 hds6 hdoc6 hb6
      go_wp2_with fail
      rw [← HW7.out]
      refine HPC.out.mono ?_
      rintro e w8 ⟨rfl, hp8⟩
      obtain ⟨S', hs8⟩ := HDS7.out.prog hp8
      have HS8 := Lib.hid hs8
      clear hp8 hs8
      go_wp2_with fail
      refine (num_any c1 _).mono ?_
      rintro e w9 ⟨rfl, rfl⟩
      go_wp2
      go_meet
      case rel => exact ⟨rfl, S', q, _, _, rfl, .inl rfl, HS8.out⟩
  case rest =>
    obtain ⟨rfl, S', q', sv1, cv1, rfl, hq', hds⟩ := hcut
    obtain ⟨⟨ao1, cap1, rfl⟩, ao2, cap2, rfl⟩ := hds.doc.val
    have HDS9 := Lib.hid hds
    have HQ9 := Lib.hid hq'
    have HBA : Hid (At wc (fun j => j < w0.heap.size) .u8 (.slice aob bytes.length capb) bytes) := Lib.hid (HBV.out.keep (kept_below hds.below))
    have HBYS : Hid (∀ W, Below wc.heap.size wc W → Calls Tryz.prog 36 #[.slice aoo bytes.length capo, .slice aob bytes.length capb] W fun e w' => e = .returned (.bool true) ∧ w' = W) := Lib.hid fun W hb => by
      have h1 := numBytes_any (.slice aoo bytes.length capo) (.slice aob bytes.length capb) bytes bytes W (HDS9.out.old hb).own.reads (HBA.out.keep (kept_new hb _)).reads HBYT.out HBYT.out
      rw [decide_eq_true rfl] at h1
      exact h1.mono fun e w' h => ⟨h.1, h.2.symm⟩
    have HSH : Hid (∀ W, Below wc.heap.size wc W → Calls Tryz.prog 24 #[.pointer (some ⟨p, 0, none⟩), docV d' (.slice ao1 d'.sure.length cap1) (.slice ao2 d'.chs.length cap2)] W fun e w' => e = .returned (.bool true) ∧ Below W.heap.size W w') := Lib.hid fun W hb => shows_any (HDS9.out.old hb).dk (HDS9.out.old hb).doc (Nat.le_trans HOK'.out.sz (by decide)) HOK'.out.rise
    unfold docV at HSH
    have HFIN : Hid (∀ W, Below wc.heap.size wc W → ∀ a b c x e, Both w0 (five W (w.heap.size + 1 + 1) a b c x e) S' p d' d' (.slice ao1 d'.sure.length cap1) (.slice ao2 d'.chs.length cap2) ∧ AtS (five W (w.heap.size + 1 + 1) a b c x e) q' p ∧ ¬ S' q' ∧ (q' = q ∨ w.heap.size ≤ q') ∧ Fr S w (five W (w.heap.size + 1 + 1) a b c x e) ∧ (∀ j, S' j → S j ∨ w.heap.size ≤ j)) := Lib.hid fun W hb a b c x e => by
      have hds := HDS9.out.old hb
      have hf := fr_five W (w.heap.size + 1 + 1) a b c x e
      generalize five W (w.heap.size + 1 + 1) a b c x e = X at hf ⊢
      have hw := hds.w0w
      have hqn : ¬ q' = w.heap.size + 1 + 1 := by have := hds.ql; omega
      exact ⟨⟨hds.dk.keep (hf.kept _ fun j _ hS e => by have := (hds.nS j hS).1; omega), hds.s0, hds.below.trans (hf.below hds.below.size fun j hj e => by omega), (hds.doc.keep (hf.kept _ fun j _ hB e => hB.2.2 e)).mono fun j _ hB => hB.1⟩,
        ⟨(World.cell?_of_block (a := ⟨q', 0, none⟩) (hf.block q' hds.ats.2 hqn)).trans hds.ats.1, Nat.lt_of_lt_of_le hds.ats.2 hf.size⟩, hds.nq, HQ9.out, hds.fr.trans hf (fun _ _ h => h) (fun j hj e => by omega), hds.sub⟩
    have HCL : Hid (∀ W, Below wc.heap.size wc W → W.heap[w.heap.size]? = some (.cells #[.int .i64 (d'.room : Int), .slice ao1 d'.sure.length cap1, .slice ao2 d'.chs.length cap2, .int .i64 d'.fuse, .bool d'.down] 33 (0, 0)) ∧ W.heap[w.heap.size + 1 + 1]? = some (.cells #[.int .i64 0, .slice none 0 0, .slice none 0 0, .int .i64 0, .bool false] 33 (0, 0)) ∧ W.cell? ⟨w.heap.size + 1, 2, none⟩ = some (.slice aob bytes.length capb)) := Lib.hid fun W hb => ⟨(HDS9.out.old hb).box, (HDS9.out.old hb).res, (HDS9.out.old hb).ac.2.2.1⟩
    obtain ⟨hc1, hc2, e2⟩ := HCL.out wc (Below.refl _ _)
    obtain ⟨y0, y1, y2, y3, y4⟩ := five_cells hc1
    obtain ⟨x0, x1, x2, x3, x4⟩ := five_cells hc2
    have yf : ∀ i, wc.frozen? ⟨w.heap.size + 1 + 1, i, none⟩ = false := fun i => frozen_of_row _ _ i _ _ hc2
    have HD : Hid (Below wc.heap.size wc wc.drew) := Lib.hid ⟨rfl, rfl, rfl, Nat.le_refl _, fun _ _ => rfl⟩
    clear hds hq' hc1 hc2 q0 q1 q2 q3 q4 qf a0 a1 a2 a3 a4 a5 a6 a7 a8 a9
    go_wp2_with fail
    go_region_with (first
      | (go_at_call 36
         refine (HBYS.out _ HD.out).mono ?_
         rintro e w8 ⟨rfl, rfl⟩)
      | (go_at_call 24
         refine (HSH.out _ HD.out).mono ?_
         rintro e w9 ⟨rfl, hb9⟩
         have hb9' := HD.out.trans (hb9.mono HD.out.size)
         obtain ⟨hd1, hd2, e3⟩ := HCL.out w9 hb9'
         obtain ⟨p0, p1, p2, p3, p4⟩ := five_cells hd1
         obtain ⟨z0, z1, z2, z3, z4⟩ := five_cells hd2
         have zf : ∀ i, w9.frozen? ⟨w.heap.size + 1 + 1, i, none⟩ = false := fun i => frozen_of_row _ _ i _ _ hd2
         have HB9 := Lib.hid hb9'
         clear hb9 hb9' hd1 hd2))
    all_goals
      go_wp2
      refine bodyPost_ret (v := .tuple #[.pointer (some ⟨q', 0, none⟩), docV d' (.slice ao1 d'.sure.length cap1) (.slice ao2 d'.chs.length cap2), .bool true]) (by simp [docV, results, Tryz.results12, go_sem, z0, z1, z2, z3, z4]) rfl ?_
      exact ⟨S', q', _, _, rfl, HFIN.out w9 HB9.out _ _ _ _ _⟩

end Go.Proofs.YtmjpckodcafjiaaGreat

namespace Go.Proofs.YtmjpckodcafjiaaGreat
open Go.RowKit

theorem open_new (r : Nat) : sopen (dnew r) = (dnew r, 0) := by
  have h : dlist (dnew r) = ([], 0) := by
    unfold dlist
    rw [if_neg (by unfold dnew; simp)]
    show (srt ([] : List Nm), 0) = _
    unfold srt
    simp
  unfold sopen
  rw [h]
  rfl
theorem longA7_of {acts : List Act7} {most : Int} (h : longD7 acts most = false) {k : Nat} {a : Act7} (ha : acts[k]? = some a) : longA7 a = false := by
  unfold longD7 at h
  rw [Bool.or_eq_false_iff] at h
  have h2 := List.any_eq_false.1 h.1 a (List.mem_of_getElem? ha)
  simpa using h2

set_option maxRecDepth 100000 in
theorem diskSame (a : Addr) (w : World) : (binOp .neq 25 (.pointer (some a)) (.pointer (some a))).run Tryz.prog w = .ok (.bool false) w := by
  have h : (Tryz.prog.info? 73).isSome = true := by kernel_rfl
  obtain ⟨j, hj⟩ := Option.isSome_iff_exists.1 h
  exact Lib.run_neq_ptr_same w a Tryz.underlying25 hj

set_option maxHeartbeats 8000000 in
set_option maxRecDepth 100000 in
theorem storePlays_walk (room : Int) (v : Value) (acts : List Act7) (w : World) (hr : Acts7At w (fun j => j < w.heap.size) v acts) :
    Calls Tryz.prog 3 #[.int .i64 room, v] w fun e w' => e = .returned (.bool true) ∧ Below w.heap.size w w' := by
  obtain ⟨ao, cap, rfl, hlc, hcap, _⟩ := hr.val
  have HAL : Hid (acts.length ≤ 9223372036854775807) := Lib.hid (Nat.le_trans hlc hcap)
  have HR := Lib.hid hr
  clear hr
  go_enter Tryz.func3, Tryz.ntmps3
  go_wp2_with fail
  refine (alive7_any w).mono ?_
  rintro e w1 ⟨rfl, hb1⟩
  have HB1 := Lib.hid hb1
  clear hb1
  go_wp2_with fail
  refine (longD7_any _ acts 40 w1 (fun j => j < w.heap.size) (HR.out.kept (kept_below HB1.out)) HAL.out).mono ?_
  rintro e w2 ⟨rfl, hb2⟩
  have HB2 : Hid (Below w.heap.size w w2) := Lib.hid (HB1.out.trans (hb2.mono HB1.out.size))
  clear hb2
  cases hlong : longD7 acts 40
  rotate_left
  · go_wp2
    go_ret
    exact ⟨rfl, HB2.out⟩
  have HLONG := Lib.hid hlong
  have HLEN : Hid (acts.length ≤ 40) := Lib.hid (by
    unfold longD7 at hlong
    rw [Bool.or_eq_false_iff, decide_eq_false_iff_not] at hlong
    omega)
  clear hlong
  go_wp2_with fail
  refine (newD_any room w2).mono ?_
  rintro e w3 (⟨hr0, hr1, rfl, hd3, hb3, hs3⟩ | ⟨hbad, rfl, rfl⟩)
  rotate_left
  · have HRN := Lib.hid (fun w => rnewBad_any hbad w)
    clear hbad
    have hn1 : ∀ w, Calls Tryz.prog 9 #[errV 1] w fun e w' => e = .returned (.int .i64 1) ∧ w = w' := fun w => num_any 1 w
    have HN1 := Lib.hid hn1
    clear hn1
    go_wp2_with fail
    refine (HRN.out _).mono ?_
    rintro e w4 ⟨rfl, hb4⟩
    have HB4 := Lib.hid hb4
    clear hb4
    go_wp2_with fail
    refine (HN1.out _).mono ?_
    rintro e w5 ⟨rfl, rfl⟩
    go_wp2
    go_ret
    exact ⟨rfl, by first | exact (HB2.out.trans (HB4.out.mono HB2.out.size)).alloc (Nat.le_trans HB2.out.size HB4.out.size) _ | exact HB2.out.trans (HB4.out.mono HB2.out.size)⟩
  · have HRN := Lib.hid (fun w => rnew_any room w)
    have hd : Dk w3 (fun j => j = w2.heap.size) w2.heap.size (dnew room.toNat) := hd3
    have HD3 := Lib.hid hd
    have HB3 := Lib.hid hb3
    have HS3 := Lib.hid hs3
    have HR0 : Hid (0 ≤ room ∧ room ≤ 1073741824) := Lib.hid ⟨hr0, hr1⟩
    clear hd3 hd hb3 hs3 hr0 hr1
    go_wp2_with fail
    refine (HRN.out _).mono ?_
    rintro e w4 ⟨hb4, ⟨_, _, rfl⟩ | ⟨hbad, _⟩⟩
    rotate_left
    · exact absurd HR0.out hbad
    unfold docV
    have HB4 := Lib.hid hb4
    obtain ⟨dn, hdn⟩ : ∃ dn, dn = dnew room.toNat := ⟨_, rfl⟩
    have HON : Hid (sopen dn = (dn, 0)) := Lib.hid (by rw [hdn]; exact open_new _)
    have HOK : Hid (dn.sz = 0 ∧ Rises dn.sure ∧ Nmd dn) := Lib.hid (by rw [hdn]; exact ⟨rfl, List.Pairwise.nil, nmd_new _⟩)
    have HDN : Hid (∀ w B, Doc w B dn (.slice none 0 0) (.slice none 0 0)) := Lib.hid fun w B => by rw [hdn]; exact doc_new _ _ _
    have HD4 : Hid (Dk w4 (fun j => j = w2.heap.size) w2.heap.size dn) := Lib.hid (by rw [hdn]; exact HD3.out.keep (kept_new hb4 _))
    rw [← hdn]
    obtain ⟨W5, hW5⟩ : ∃ W5, W5 = w4.alloc (.cells #[.int .i64 (dn.room : Int), .slice none 0 0, .slice none 0 0, .int .i64 dn.fuse, .bool dn.down] 33) := ⟨_, rfl⟩
    have hb5 : Below w4.heap.size w4 W5 := by rw [hW5]; exact (Below.refl _ _).alloc (Nat.le_refl _) _
    have HD5 : Hid (Dk W5 (fun j => j = w2.heap.size) w2.heap.size dn) := Lib.hid (HD4.out.keep (kept_new hb5 _))
    have HX5 : Hid (W5.heap[w4.heap.size]? = some (.cells #[.int .i64 (dn.room : Int), .slice none 0 0, .slice none 0 0, .int .i64 dn.fuse, .bool dn.down] 33 (0, 0))) := Lib.hid (by rw [hW5]; exact heap_alloc_new _ _)
    have HB5 : Hid (Below w.heap.size w W5) := Lib.hid (((HB2.out.trans (HB3.out.mono HB2.out.size)).trans (hb4.mono (Nat.le_trans HB2.out.size HB3.out.size))).trans (hb5.mono (Nat.le_trans HB2.out.size (Nat.le_trans HB3.out.size hb4.size))))
    have HPQ : Hid (w.heap.size ≤ w2.heap.size ∧ w2.heap.size < w4.heap.size ∧ w.heap.size ≤ w4.heap.size) := Lib.hid ⟨HB2.out.size, (by have := HS3.out; have := hb4.size; omega), Nat.le_trans HB2.out.size (Nat.le_trans HB3.out.size hb4.size)⟩
    have HOPN := Lib.hid (open_store HD5.out (by rw [HOK.out.1]; decide))
    rw [HON.out] at HOPN
    have HW5 := Lib.hid hW5
    clear hb4 hdn hW5 hb5
    obtain ⟨p, hp⟩ : ∃ p, p = w2.heap.size := ⟨_, rfl⟩
    rw [← hp] at HD5 HPQ HOPN ⊢
    clear hp HD4 HD3 HS3
    obtain ⟨b, hb⟩ : ∃ q, q = w4.heap.size := ⟨_, rfl⟩
    rw [← hb] at HX5 HPQ
    have HBE := Lib.hid hb
    clear hb
    go_wp2_with fail
    rw [← HW5.out, ← HBE.out]
    refine HOPN.out.mono ?_
    rintro e w6 hop
    obtain ⟨S6, hd6, hf6, ht6, hs6, ⟨hz, _⟩ | ⟨_, q, rfl, ha6, hn6, hq6⟩⟩ := open_dk hop
    · exact absurd rfl hz
    have hbl : b < W5.heap.size := (Array.getElem?_eq_some_iff.1 HX5.out).1
    have HP6 : Hid (Play w w6 S6 p b 0 dn (.slice none 0 0) (.slice none 0 0) ∧ Nmd dn ∧ AtS w6 q p ∧ ¬ S6 q ∧ q ≠ b) := Lib.hid (by
      have hpb := HPQ.out
      have hnb : ¬ S6 b := fun h => by
        rcases ht6 b h with h | h <;> omega
      refine ⟨⟨⟨hd6, fun j hj => ?_, HB5.out.trans (hf6.below HB5.out.size fun j hj e => by omega), HDN.out _ _⟩, by rw [HOK.out.1]; exact Nat.le_refl _, HOK.out.2.1, (hf6.block b hbl (by omega)).trans HX5.out, hnb, hpb.2.2⟩, HOK.out.2.2, ha6, hn6, by omega⟩
      rcases ht6 j hj with h | h
      · omega
      · exact Nat.le_trans HB5.out.size h)
    have hdisk := disk_store ha6.1
    have HDISK := Lib.hid hdisk
    clear hop hd6 hf6 ht6 hs6 ha6 hn6 hq6 hbl hdisk HOPN HDN HON
    go_wp2_with fail
    refine HDISK.out.mono ?_
    rintro e w6 ⟨rfl, rfl⟩
    have hds := diskSame ⟨p, 0, none⟩ w6
    go_wp2
    go_loopw [9, 59] (fun sv i wr => ∃ (k q : Nat) (d : DS) (S : Nat → Prop) (sv' cv : Value), k ≤ acts.length ∧ i = .int .i64 (k : Int) ∧ sv = .pointer (some ⟨q, 0, none⟩) ∧ Play w wr S p b (4 * k) d sv' cv ∧ Nmd d ∧ AtS wr q p ∧ ¬ S q ∧ q ≠ b)
      (fun _ i _ => acts.length - (intOf i).toNat)
    case atStart => exact ⟨0, q, dn, _, _, _, Nat.zero_le _, rfl, rfl, HP6.out⟩
    case round =>
      obtain ⟨k, q, d, S, sv, cv, hk, rfl, rfl, hpl, hnm, hat, hnq, hqb⟩ := hrel
      by_cases hlt : k < acts.length
      · obtain ⟨a, ha⟩ : ∃ a, acts[k]? = some a := ⟨_, List.getElem?_eq_getElem hlt⟩
        obtain ⟨b', off, bv, dv, dk, kv, rfl, e0, e1, e2, e3, e4, e5, e6, e7, e8, e9, haa⟩ := HR.out.at ha
        have hblt := World.block_lt_of_cell? w _ e0
        have hbw := hpl.both.2.2.1
        have e0 := (hbw.cell (p := ⟨b', off + k * 10, none⟩) hblt).trans e0
        have e1 := (hbw.cell (p := ⟨b', off + k * 10 + 1, none⟩) hblt).trans e1
        have e2 := (hbw.cell (p := ⟨b', off + k * 10 + 2, none⟩) hblt).trans e2
        have e3 := (hbw.cell (p := ⟨b', off + k * 10 + 3, none⟩) hblt).trans e3
        have e4 := (hbw.cell (p := ⟨b', off + k * 10 + 4, none⟩) hblt).trans e4
        have e5 := (hbw.cell (p := ⟨b', off + k * 10 + 5, none⟩) hblt).trans e5
        have e6 := (hbw.cell (p := ⟨b', off + k * 10 + 6, none⟩) hblt).trans e6
        have e7 := (hbw.cell (p := ⟨b', off + k * 10 + 7, none⟩) hblt).trans e7
        have e8 := (hbw.cell (p := ⟨b', off + k * 10 + 8, none⟩) hblt).trans e8
        have e9 := (hbw.cell (p := ⟨b', off + k * 10 + 9, none⟩) hblt).trans e9
        obtain ⟨⟨as1, ac1, rfl⟩, as2, ac2, rfl⟩ := hpl.both.2.2.2.val
        have hla := longA7_of HLONG.out ha
        have hok : Ok7 d 400 := ⟨Nat.le_trans hpl.sz (by have := HLEN.out; omega), hpl.rise, hnm⟩
        have hok1 : Ok7 (dact7 d a) (4 * k + 4) := Ok7.act ⟨hpl.sz, hpl.rise, hnm⟩ a
        obtain ⟨d', hd'⟩ : ∃ d', d' = dact7 d a := ⟨_, rfl⟩
        have hcall := fun (W : World) (hb : Below wr.heap.size wr W) => do7_both (hpl.both.old hb) hok (ats_old hat hb) hnq haa hla
        rw [← hd'] at hok1
        simp only [← hd'] at hcall
        unfold docV at hcall
        obtain ⟨s1, hs1⟩ : ∃ s1 : ByteArray, nmV a.name = .string s1 := ⟨_, rfl⟩
        obtain ⟨s2, hs2⟩ : ∃ s2 : ByteArray, nmV a.act.name = .string s2 := ⟨_, rfl⟩
        obtain ⟨s3, hs3⟩ : ∃ s3 : ByteArray, nmV a.act.to = .string s3 := ⟨_, rfl⟩
        rw [hs1] at e1
        rw [hs2] at e4
        rw [hs3] at e5
        simp only [hs1, hs2, hs3] at hcall
        obtain ⟨aob, capb, hv1, _, _, _⟩ := haa.bytes.reads.val
        obtain ⟨aod, capd, hv2, _, _, _⟩ := haa.act.bytes.reads.val
        obtain ⟨aoe, cape, hv3, _, _, _⟩ := id haa.act.keep
        obtain ⟨aok, capk, hv4, _, _, _⟩ := id haa.keep
        simp only [] at hv1 hv2 hv3 hv4
        subst hv1 hv2 hv3 hv4
        have HCALL := Lib.hid hcall
        have HOK1 := Lib.hid hok1
        have HPL := Lib.hid hpl
        have HQB := Lib.hid hqb
        have hlti : (k : Int) < acts.length := by omega
        have HK := Lib.hid hlt
        obtain ⟨q0, q1, q2, q3, q4⟩ := five_cells hpl.box
        have hql := (Array.getElem?_eq_some_iff.1 hpl.box).1
        have y0 : ∀ o, (wr.alloc o).cell? ⟨b, 0, none⟩ = some (.int .i64 (d.room : Int)) := fun o => (World.cell?_of_block (Below.heap_alloc _ _ _ hql)).trans q0
        have y1 : ∀ o, (wr.alloc o).cell? ⟨b, 1, none⟩ = some (.slice as1 d.sure.length ac1) := fun o => (World.cell?_of_block (Below.heap_alloc _ _ _ hql)).trans q1
        have y2 : ∀ o, (wr.alloc o).cell? ⟨b, 2, none⟩ = some (.slice as2 d.chs.length ac2) := fun o => (World.cell?_of_block (Below.heap_alloc _ _ _ hql)).trans q2
        have y3 : ∀ o, (wr.alloc o).cell? ⟨b, 3, none⟩ = some (.int .i64 d.fuse) := fun o => (World.cell?_of_block (Below.heap_alloc _ _ _ hql)).trans q3
        have y4 : ∀ o, (wr.alloc o).cell? ⟨b, 4, none⟩ = some (.bool d.down) := fun o => (World.cell?_of_block (Below.heap_alloc _ _ _ hql)).trans q4
        obtain ⟨kind, name, bytes, act, keep⟩ := a
        simp only [] at e0 e2 e3 e6 e7 e8 e9
        generalize act.kind = dki at *
        generalize act.n = dn' at *
        generalize act.bytes.length = nd at *
        generalize (act.keep.map Value.bool).length = ne at *
        generalize (keep.map Value.bool).length = nk at *
        obtain ⟨W6, hW6⟩ : ∃ W6, W6 = wr.alloc (.cells #[.int .i64 kind, .string s1, .slice aob bytes.length capb, .int .i64 dki, .string s2, .string s3, .slice aod nd capd, .int .i64 dn', .slice aoe ne cape, .slice aok nk capk] 46) := ⟨_, rfl⟩
        have hb6 : Below wr.heap.size wr W6 := by rw [hW6]; exact (Below.refl _ _).alloc (Nat.le_refl _) _
        have HB6 := Lib.hid hb6
        have HW6 := Lib.hid hW6
        clear hpl hnm hat hnq hqb ha haa hblt hbw hla hok hok1 hd' hs1 hs2 hs3 hcall hql hW6 hb6 q0 q1 q2 q3 q4
        go_wp2_with fail
        rw [← HW6.out]
        refine (HCALL.out W6 HB6.out).mono ?_
        rintro e w7 ⟨S', q', sv', cv', rfl, hbo, ha', hn', hq', hfr, hsub⟩
        obtain ⟨⟨as3, ac3, rfl⟩, as4, ac4, rfl⟩ := hbo.2.2.2.val
        have hpl6 := HPL.out.old HB6.out
        have hbl6 := (Array.getElem?_eq_some_iff.1 hpl6.box).1
        have hbq := (hfr.block b hbl6 hpl6.qS).trans hpl6.box
        have hql7 := (Array.getElem?_eq_some_iff.1 hbq).1
        obtain ⟨x0, x1, x2, x3, x4⟩ := five_cells hbq
        have xf : ∀ i, w7.frozen? ⟨b, i, none⟩ = false := fun i => frozen_of_row _ _ i _ _ hbq
        have z0 : ∀ o, (w7.alloc o).cell? ⟨b, 0, none⟩ = some (.int .i64 (d.room : Int)) := fun o => (World.cell?_of_block (Below.heap_alloc _ _ _ hql7)).trans x0
        have z1 : ∀ o, (w7.alloc o).cell? ⟨b, 1, none⟩ = some (.slice as1 d.sure.length ac1) := fun o => (World.cell?_of_block (Below.heap_alloc _ _ _ hql7)).trans x1
        have z2 : ∀ o, (w7.alloc o).cell? ⟨b, 2, none⟩ = some (.slice as2 d.chs.length ac2) := fun o => (World.cell?_of_block (Below.heap_alloc _ _ _ hql7)).trans x2
        have z3 : ∀ o, (w7.alloc o).cell? ⟨b, 3, none⟩ = some (.int .i64 d.fuse) := fun o => (World.cell?_of_block (Below.heap_alloc _ _ _ hql7)).trans x3
        have z4 : ∀ o, (w7.alloc o).cell? ⟨b, 4, none⟩ = some (.bool d.down) := fun o => (World.cell?_of_block (Below.heap_alloc _ _ _ hql7)).trans x4
        have zf : ∀ o i, (w7.alloc o).frozen? ⟨b, i, none⟩ = false := fun o i => frozen_of_row _ _ i _ _ ((Below.heap_alloc _ _ _ hql7).trans hbq)
        obtain ⟨W8, hW8⟩ : ∃ W8, W8 = w7.alloc (.cells #[.int .i64 (d'.room : Int), .slice as3 d'.sure.length ac3, .slice as4 d'.chs.length ac4, .int .i64 d'.fuse, .bool d'.down] 33) := ⟨_, rfl⟩
        have hb8 : Below w7.heap.size w7 W8 := by rw [hW8]; exact (Below.refl _ _).alloc (Nat.le_refl _) _
        have HPUT : Hid (Play w (five W8 b (.int .i64 (d'.room : Int)) (.slice as3 d'.sure.length ac3) (.slice as4 d'.chs.length ac4) (.int .i64 d'.fuse) (.bool d'.down)).drew S' p b (4 * (k + 1)) d' (.slice as3 d'.sure.length ac3) (.slice as4 d'.chs.length ac4) ∧ Nmd d' ∧ AtS (five W8 b (.int .i64 (d'.room : Int)) (.slice as3 d'.sure.length ac3) (.slice as4 d'.chs.length ac4) (.int .i64 d'.fuse) (.bool d'.down)).drew q' p ∧ ¬ S' q' ∧ q' ≠ b) := Lib.hid (by
          have hp3 : Play w W6 S p b (4 * k + 3) d (.slice as1 d.sure.length ac1) (.slice as2 d.chs.length ac2) := ⟨hpl6.both, by have := hpl6.sz; omega, hpl6.rise, hpl6.box, hpl6.qS, hpl6.qw⟩
          have hqb : ¬ q' = b := by
            rcases hq' with h | h
            · rw [h]; exact HQB.out
            · omega
          have h1 := hp3.put (hbo.old hb8) (hfr.trans (fr_below hb8 (fun _ => False)) (fun _ _ h => h) fun _ _ h => h.elim) hsub HOK1.out.sz HOK1.out.rise ⟨_, _, _, rfl⟩ ⟨_, _, _, rfl⟩
          have hf := fr_five W8 b (.int .i64 (d'.room : Int)) (.slice as3 d'.sure.length ac3) (.slice as4 d'.chs.length ac4) (.int .i64 d'.fuse) (.bool d'.down)
          have ha9 := ats_old ha' hb8
          generalize five W8 b (.int .i64 (d'.room : Int)) (.slice as3 d'.sure.length ac3) (.slice as4 d'.chs.length ac4) (.int .i64 d'.fuse) (.bool d'.down) = X at hf h1 ⊢
          have hX : Below X.heap.size X X.drew := ⟨rfl, rfl, rfl, Nat.le_refl _, fun _ _ => rfl⟩
          exact ⟨h1.old hX, HOK1.out.nmd, ats_old ⟨(World.cell?_of_block (a := ⟨q', 0, none⟩) (hf.block q' ha9.2 hqb)).trans ha9.1, Nat.lt_of_lt_of_le ha9.2 hf.size⟩ hX, hn', hqb⟩)
        have HW8 := Lib.hid hW8
        unfold five at HPUT
        clear hbo ha' hn' hq' hfr hsub hpl6 hbl6 hbq hql7 x0 x1 x2 x3 x4 xf y0 y1 y2 y3 y4 e0 e1 e2 e3 e4 e5 e6 e7 e8 e9 hW8 hb8
        go_wp2_with fail
        go_region
        all_goals
          go_wp2
          go_roundw
          case rel =>
            refine ⟨k + 1, q', d', S', .slice as3 d'.sure.length ac3, .slice as4 d'.chs.length ac4, HK.out, (by first | exact inc_eq HK.out (by have := HLEN.out; omega) | rfl), rfl, ?_⟩
            rw [← HW8.out]
            exact HPUT.out
          case measure => first | exact inc_meas HK.out (by have := HLEN.out; omega) | (have := HK.out; simp [intOf]; omega)
      · have hlt' : ¬ (k : Int) < acts.length := by omega
        have HBF := Lib.hid hpl.both.2.2.1
        clear hpl hat hnq hqb
        go_wp2
        go_ret
        exact ⟨rfl, HBF.out⟩

end Go.Proofs.YtmjpckodcafjiaaGreat
