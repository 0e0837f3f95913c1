/- A shelf's disk, as mathematics: what its files say of its unit; what an act, a base and a deletion leave of that. · Package shelf: whole, told, able, by the program. · Package shelf: put, by the program. · Package shelf: Disk, able, by the program. -/
import Derived.Test.YtlckadlkgjfjcaaGreatDoorScP
import Derived.Test.YtlckadlkgjfjcaaGreatDoorQh
import Derived.Test.YtlckadlkgjfjcaaGreatDoorRqP
import Derived.Test.YtlckadlkgjfjcaaGreatDoorRpP
import Derived.LaidEql
namespace Go.Proofs.YtlckadlkgjfjcaaGreatDoor
open Go.RowKit

/-! ### Names -/
theorem nsign_dgt (n i : Nat) : nsign (dgt n i) = true := by
  unfold nsign
  rw [dgt_nat]
  have h : n / i % 10 < 10 := Nat.mod_lt _ (by decide)
  have h1 : (decide (48 ≤ 48 + n / i % 10) && decide (48 + n / i % 10 ≤ 57)) = true := by
    rw [Bool.and_eq_true, decide_eq_true_iff, decide_eq_true_iff]; omega
  rw [h1]
  simp
theorem dgt_til (n i : Nat) : (dgt n i == 126) = false := by
  rw [beq_eq_false_iff_ne]
  intro e
  have h1 := congrArg UInt8.toNat e
  rw [dgt_nat] at h1
  have h : n / i % 10 < 10 := Nat.mod_lt _ (by decide)
  have h2 : (126 : UInt8).toNat = 126 := rfl
  omega
theorem snamed_sname {c : UInt8} (hc : c = 98 ∨ c = 114) (n : Nat) : snamed (sname c n) = true := by
  have h1 : nsign c = true := by rcases hc with rfl | rfl <;> decide
  have h2 : (c == 126) = false := by rcases hc with rfl | rfl <;> decide
  unfold snamed named hasT sname dig8
  have h3 : ∀ i, ¬ dgt n i = 126 := fun i e => by
    have := dgt_til n i
    rw [e] at this
    exact absurd this (by decide)
  have h4 : ¬ c = 126 := by simpa using h2
  simp [nsign_dgt, h1, h3, h4]
theorem sname_mark {n n' : Nat} : sname 98 n ≠ sname 114 n' := fun e => by
  have := congrArg List.head? e
  simp [sname] at this

/-! ### The list of objects, the greatest base -/
theorem Fine.list {D : DS} (h : Fine D) : (slist D []).2 = 0 ∧ ∀ n, (slist D []).1.contains n = fhas D.sure n := by
  have e : dlist D = (srt (D.sure.map (·.1)), 0) := by rw [dlist_up h.up, h.shown]
  have e2 : slist D [] = ((srt (D.sure.map (·.1))).filter (listP []), 0) := by
    unfold slist
    rw [e, if_neg (fun h : (0 : Nat) ≠ 0 => h rfl)]
  rw [e2]
  refine ⟨rfl, fun n => ?_⟩
  rw [Bool.eq_iff_iff, List.contains_iff_mem, fhas_iff]
  unfold srt
  rw [List.mem_filter, List.mem_mergeSort]
  constructor
  · exact fun k => k.1
  · intro k
    refine ⟨k, ?_⟩
    obtain ⟨f, hf, rfl⟩ := List.mem_map.1 k
    unfold listP beginB
    rw [h.all f hf]
    simp
theorem gI_none {ns : List Nm} (h : ∀ n ∈ ns, snum 98 n = none) : gI ns = -1 := by
  unfold gI
  have key : ∀ (l : List Nm) (g : Int), (∀ n ∈ l, snum 98 n = none) → l.foldl gStep g = g := by
    intro l
    induction l with
    | nil => exact fun _ _ => rfl
    | cons n r ih =>
      intro g hg
      rw [List.foldl_cons, show gStep g n = g by unfold gStep; rw [hg n (by simp)]]
      exact ih g fun x hx => hg x (by simp [hx])
  exact key ns _ h
theorem gI_is {ns : List Nm} {b : Nat} (hb : b ≤ 99999999) (h : sname 98 b ∈ ns) (h1 : ∀ n ∈ ns, ∀ k, snum 98 n = some k → k ≤ b) : gI ns = (b : Int) := by
  unfold gI
  have key : ∀ (l : List Nm) (g : Int), g ≤ (b : Int) → (∀ n ∈ l, ∀ k, snum 98 n = some k → k ≤ b) → (g = b ∨ sname 98 b ∈ l) → l.foldl gStep g = b := by
    intro l
    induction l with
    | nil =>
      rintro g _ _ (e | e)
      · exact e
      · cases e
    | cons n r ih =>
      intro g hg hl he
      rw [List.foldl_cons]
      have hle : gStep g n ≤ (b : Int) := by
        unfold gStep
        split
        · rename_i k hk
          have := hl n (by simp) k hk
          omega
        · exact hg
      refine ih _ hle (fun x hx => hl x (by simp [hx])) ?_
      rcases he with rfl | he
      · left
        unfold gStep
        split
        · rename_i k hk
          have := hl n (by simp) k hk
          omega
        · rfl
      · rcases List.mem_cons.1 he with rfl | he
        · left
          unfold gStep
          rw [snum_sname 98 hb]
          simp only
          omega
        · exact .inr he
  exact key ns _ (by omega) h1 (.inr h)
theorem Fine.get {D : DS} (h : Fine D) {n : Nm} (hn : snamed n = true) : sget D n = match fget D.sure n with | none => ([], 4) | some t => (t, 0) := by
  unfold sget dread
  rw [if_neg (by rw [hn]; decide), if_neg (by rw [h.up]; decide), h.shown]
  cases fget D.sure n <;> rfl

/-! ### What files say -/
/-- An act that may be put. -/
structure SA.Right (f : SA) : Prop where
  chk : rchk f.k f.e f.a f.d.length = 0
  byte : ∀ y ∈ f.d, y < 256
def SA.text (f : SA) : List Nat := fr (rtext f.k f.e f.a f.d)
structure SInv (F : Fm (List Nat)) (b : Nat) (U0 : US) (l : List SA) (U : US) (next : Nat) : Prop where
  le : next ≤ 100000000
  sum : next = b + l.length
  base : (b = 0 ∧ U0 = unew ∧ ∀ n, n ≤ 99999999 → fget F (sname 98 n) = none) ∨
    (b ≤ 99999999 ∧ fget F (sname 98 b) = some (fr (utext U0)) ∧ UOk U0 ∧ (utext U0).length ≤ 65536 ∧ ∀ n, b < n → n ≤ 99999999 → fget F (sname 98 n) = none)
  acts : ∀ (i : Nat) (f : SA), l[i]? = some f → fget F (sname 114 (b + i)) = some f.text ∧ f.Right
  no : ∀ n, next ≤ n → n ≤ 99999999 → fget F (sname 114 n) = none
  done : sdo U0 l = (U, true)
  num : ∀ f ∈ F, isNum f.1 = true
theorem isNum_sname {c : UInt8} (hc : c = 98 ∨ c = 114) {n : Nat} (h : n ≤ 99999999) : isNum (sname c n) = true := by
  unfold isNum
  rcases hc with rfl | rfl
  · rw [snum_sname 98 h]; rfl
  · rw [snum_sname 114 h, Bool.or_eq_true]; exact .inr rfl
theorem num_put {F : Fm (List Nat)} (h : ∀ f ∈ F, isNum f.1 = true) {c : UInt8} (hc : c = 98 ∨ c = 114) {n : Nat} (hn : n ≤ 99999999) (t : List Nat) : ∀ f ∈ fput F (sname c n) t, isNum f.1 = true := fun f hf => by
  rcases mem_fput hf with rfl | hf
  · exact isNum_sname hc hn
  · exact h f hf
theorem etext_many : ∀ (l : Im IC) (first : Int), l.length ≤ (etext first l).length
  | [], _ => Nat.zero_le _
  | f :: r, first => by
    have := etext_many r (f.1 + 1)
    rw [etext_cons, List.length_cons, List.length_append, List.length_append]
    have h2 : 1 ≤ (enc (f.1 - first).toNat).length := enc_pos _
    omega
theorem utext_many (U : US) : U.cells.length ≤ (utext U).length := by
  have := etext_many U.cells U.low
  unfold utext
  rw [List.length_append, List.length_append, List.length_append]
  omega
theorem SInv.rbase {D : DS} {b : Nat} {U0 U : US} {l : List SA} {next : Nat} (hf : Fine D) (h : SInv D.sure b U0 l U next) : RBase D (slist D []).1 U0 b 0 := by
  obtain ⟨_, hc⟩ := hf.list
  have hin : ∀ n ∈ (slist D []).1, fhas D.sure n = true := fun n hn => by rw [← hc n]; exact List.contains_iff_mem.2 hn
  unfold RBase
  rcases h.base with ⟨rfl, rfl, hn⟩ | ⟨hb, hg, hu, hl, hn⟩
  · have e : gI (slist D []).1 = -1 := gI_none fun n hm => by
      cases hs : snum 98 n with
      | none => rfl
      | some k =>
        obtain ⟨rfl, hk⟩ := sname_snum hs
        have h1 := hin _ hm
        rw [fhas_get, hn k hk] at h1
        cases h1
    rw [e, if_pos (by decide)]
    exact ⟨rfl, rfl, rfl⟩
  · have e : gI (slist D []).1 = (b : Int) := gI_is hb (List.contains_iff_mem.1 (by rw [hc, fhas_get, hg]; rfl)) fun n hm k hs => by
      obtain ⟨rfl, hk⟩ := sname_snum hs
      have h1 := hin _ hm
      refine Nat.le_of_not_lt fun hlt => ?_
      rw [fhas_get, hn k hlt hk] at h1
      cases h1
    rw [e, if_neg (by omega), Int.toNat_natCast, hf.get (snamed_sname (.inl rfl) b), hg]
    simp only
    rw [if_neg (fun h : (0 : Nat) ≠ 0 => h rfl)]
    exact ⟨runit_put hu hl (Nat.le_trans (utext_many U0) hl), fun _ => by first | rfl | trivial⟩
theorem sacts_of {D : DS} (hf : Fine D) : ∀ (l : List SA) (n : Nat), n + l.length ≤ 100000000 → (∀ (i : Nat) (f : SA), l[i]? = some f → fget D.sure (sname 114 (n + i)) = some f.text ∧ f.Right) → (n + l.length ≤ 99999999 → fget D.sure (sname 114 (n + l.length)) = none) → SActs D (slist D []).1 (100000000 - n) n l 0
  | [], n, hle, _, hno => by
    by_cases h : n ≤ 99999999
    · obtain ⟨_, hc⟩ := hf.list
      obtain ⟨m, hm⟩ : ∃ m, 100000000 - n = m + 1 := ⟨100000000 - n - 1, by omega⟩
      rw [hm]
      unfold SActs
      rw [hc, fhas_get, show fget D.sure (sname 114 n) = none from hno h]
      exact ⟨rfl, rfl⟩
    · have : 100000000 - n = 0 := by omega
      rw [this]
      exact ⟨rfl, rfl⟩
  | f :: r, n, hle, hacts, hno => by
    rw [List.length_cons] at hle hno
    obtain ⟨_, hc⟩ := hf.list
    obtain ⟨hg, hr⟩ := hacts 0 f rfl
    rw [Nat.add_zero] at hg
    obtain ⟨m, hm⟩ : ∃ m, 100000000 - n = m + 1 ∧ m = 100000000 - (n + 1) := ⟨100000000 - (n + 1), by omega, rfl⟩
    have ih := sacts_of hf r (n + 1) (by omega) (fun i g hi => by
      have := hacts (i + 1) g (by simpa using hi)
      rw [show n + 1 + i = n + (i + 1) by omega]
      exact this) (fun hle2 => by
      rw [show n + 1 + r.length = n + (r.length + 1) by omega]
      exact hno (by omega))
    rw [hm.1]
    rw [← hm.2] at ih
    unfold SActs
    rw [hc, fhas_get, hg, hf.get (snamed_sname (.inr rfl) n), hg]
    simp only [Option.isSome_some]
    rw [if_neg (by decide), if_neg (fun h : (0 : Nat) ≠ 0 => h rfl)]
    refine ⟨f.k, f.e, f.a, f.d, 0, rtake_text hr.chk, ?_⟩
    rw [if_neg (fun h : (0 : Nat) ≠ 0 => h rfl)]
    exact ⟨r, ih, by simp⟩
/-- Opened, the shelf is what its files say. -/
theorem SInv.ropen {d D : DS} {b : Nat} {U0 U : US} {l : List SA} {next : Nat} (ho : sopen d = (D, 0)) (hf : Fine D) (h : SInv D.sure b U0 l U next) : ROpen d D U next 0 := by
  have e : slist D [] = ((slist D []).1, 0) := Prod.ext rfl hf.list.1
  have h1 := h.sum
  have h2 := h.le
  rw [h.sum]
  exact ropen_ok ho e (h.rbase hf) (sacts_of hf l b (by omega) h.acts fun hle => h.no _ (by omega) hle) h.done

/-! ### There is but one answer -/
theorem SActs.unique {D : DS} {ns : List Nm} : ∀ {m n : Nat} {l l' : List SA} {c c' : Nat}, SActs D ns m n l c → SActs D ns m n l' c' → l = l' ∧ c = c'
  | 0, _, _, _, _, _, h, h' => ⟨h.1.trans h'.1.symm, h.2.trans h'.2.symm⟩
  | m + 1, n, l, l', c, c', h, h' => by
    unfold SActs at h h'
    split at h
    · rename_i h1
      rw [if_pos h1] at h'
      exact ⟨h.1.trans h'.1.symm, h.2.trans h'.2.symm⟩
    · rename_i h1
      rw [if_neg h1] at h'
      split at h
      · rename_i h2
        rw [if_pos h2] at h'
        exact ⟨h.1.trans h'.1.symm, h.2.trans h'.2.symm⟩
      · rename_i h2
        rw [if_neg h2] at h'
        obtain ⟨k, e, a, d, c1, ht, h⟩ := h
        obtain ⟨k', e', a', d', c1', ht', h'⟩ := h'
        obtain ⟨rfl, rfl, rfl, rfl, rfl⟩ := ht.unique ht'
        split at h
        · rename_i h3
          rw [if_pos h3] at h'
          exact ⟨h.1.trans h'.1.symm, h.2.trans h'.2.symm⟩
        · rename_i h3
          rw [if_neg h3] at h'
          obtain ⟨l1, k1, k2⟩ := h
          obtain ⟨l1', k1', k2'⟩ := h'
          obtain ⟨rfl, rfl⟩ := SActs.unique k1 k1'
          exact ⟨k2.trans k2'.symm, rfl⟩
theorem ROpen.unique {d D D' : DS} {U U' : US} {n n' c c' : Nat} (h : ROpen d D U n c) (h' : ROpen d D' U' n' c') : D = D' ∧ c = c' ∧ (c = 0 → U = U' ∧ n = n') := by
  obtain ⟨rfl, h⟩ := h
  obtain ⟨rfl, h'⟩ := h'
  refine ⟨rfl, ?_⟩
  split at h
  · rename_i h1
    rw [if_pos h1] at h'
    exact ⟨h.trans h'.symm, fun hc => absurd (h.symm.trans hc) h1⟩
  · rename_i h1
    rw [if_neg h1] at h'
    split at h
    · rename_i h2
      rw [if_pos h2] at h'
      exact ⟨h.trans h'.symm, fun hc => absurd (h.symm.trans hc) h2⟩
    · rename_i h2
      rw [if_neg h2] at h'
      obtain ⟨U0, b, c1, hb, h⟩ := h
      obtain ⟨U0', b', c1', hb', h'⟩ := h'
      obtain ⟨e1, e2⟩ := hb.unique hb'
      subst e1
      split at h
      · rename_i h3
        rw [if_pos h3] at h'
        exact ⟨h.trans h'.symm, fun hc => absurd (h.symm.trans hc) h3⟩
      · rename_i h3
        rw [if_neg h3] at h'
        obtain ⟨rfl, rfl⟩ := e2 (Classical.not_not.1 h3)
        obtain ⟨l, c2, ha, h⟩ := h
        obtain ⟨l', c2', ha', h'⟩ := h'
        obtain ⟨rfl, rfl⟩ := ha.unique ha'
        split at h
        · rename_i h4
          rw [if_pos h4] at h'
          exact ⟨h.trans h'.symm, fun hc => absurd (h.symm.trans hc) h4⟩
        · rename_i h4
          rw [if_neg h4] at h'
          split at h
          · rename_i h5
            rw [if_pos h5] at h'
            exact ⟨h.trans h'.symm, fun hc => by rw [h] at hc; cases hc⟩
          · rename_i h5
            rw [if_neg h5] at h'
            exact ⟨h.1.trans h'.1.symm, fun _ => ⟨h.2.1.trans h'.2.1.symm, h.2.2.trans h'.2.2.symm⟩⟩

/-! ### What acts, bases and deletions leave -/
theorem sdo_snoc : ∀ (l : List SA) {U0 U : US} (f : SA), sdo U0 l = (U, true) → (rapply U f.k f.e f.a f.d).2.2 = 0 → sdo U0 (l ++ [f]) = ((rapply U f.k f.e f.a f.d).2.1, true)
  | [], U0, U, f, h, hz => by
    obtain rfl : U0 = U := congrArg Prod.fst h
    show (if (rapply U0 f.k f.e f.a f.d).2.2 = 0 then _ else _) = _
    rw [if_pos hz]
    rfl
  | g :: r, U0, U, f, h, hz => by
    rw [List.cons_append]
    unfold sdo at h ⊢
    split at h
    · rename_i h1
      rw [if_pos h1]
      exact sdo_snoc r f h hz
    · cases congrArg Prod.snd h
section
variable {F : Fm (List Nat)} {b : Nat} {U0 U : US} {l : List SA} {next : Nat}
theorem SInv.act (h : SInv F b U0 l U next) (hn : next ≤ 99999999) (f : SA) (hr : f.Right) (hz : (rapply U f.k f.e f.a f.d).2.2 = 0) : SInv (fput F (sname 114 next) f.text) b U0 (l ++ [f]) (rapply U f.k f.e f.a f.d).2.1 (next + 1) := by
  have hs := h.sum
  refine ⟨by omega, by rw [List.length_append, List.length_singleton]; omega, ?_, fun i g hi => ?_, fun n hn1 hn2 => ?_, sdo_snoc l f h.done hz, num_put h.num (.inr rfl) hn _⟩
  · rcases h.base with ⟨h1, h2, h3⟩ | ⟨h1, h2, h3, h4, h5⟩
    · exact .inl ⟨h1, h2, fun n hn => by rw [fget_put_other (fun e => sname_mark e.symm)]; exact h3 n hn⟩
    · exact .inr ⟨h1, by rw [fget_put_other (fun e => sname_mark e.symm)]; exact h2, h3, h4, fun n hn1 hn2 => by rw [fget_put_other (fun e => sname_mark e.symm)]; exact h5 n hn1 hn2⟩
  · by_cases hil : i < l.length
    · rw [List.getElem?_append_left hil] at hi
      rw [fget_put_other (fun e => by have := sname_inj hn (by omega) e; omega)]
      exact h.acts i g hi
    · have hi2 : i = l.length := by
        have := (List.getElem?_eq_some_iff.1 hi).1
        rw [List.length_append, List.length_singleton] at this
        omega
      subst hi2
      rw [List.getElem?_append_right (Nat.le_refl _), Nat.sub_self] at hi
      obtain rfl : f = g := by simpa using hi
      rw [← hs, fget_put_same]
      exact ⟨rfl, hr⟩
  · rw [fget_put_other (fun e => by have := sname_inj hn (by omega) e; omega)]
    exact h.no n (by omega) hn2
/-- A base alone says it. -/
def SBase (F : Fm (List Nat)) (U : US) (next : Nat) : Prop := SInv F next U [] U next ∧ next ≤ 99999999 ∧ fget F (sname 98 next) = some (fr (utext U)) ∧ UOk U ∧ (utext U).length ≤ 65536
theorem fget_del {α : Type} {l : Fm α} {n m : Nm} : fget (fdel l n) m = none ∨ fget (fdel l n) m = fget l m := by
  by_cases e : n = m
  · subst e; exact .inl fget_del_same
  · exact .inr (fget_del_other e)
theorem fget_del_none {α : Type} {l : Fm α} {n m : Nm} (h : fget l m = none) : fget (fdel l n) m = none := by
  rcases fget_del (l := l) (n := n) (m := m) with e | e
  · exact e
  · rw [e]; exact h
theorem SBase.del (h : SBase F U next) {n : Nm} (hn : n ≠ sname 98 next) : SBase (fdel F n) U next := by
  obtain ⟨h, h1, h2, h3, h4⟩ := h
  have h2' : fget (fdel F n) (sname 98 next) = some (fr (utext U)) := by rw [fget_del_other hn]; exact h2
  refine ⟨⟨h.le, rfl, .inr ⟨h1, h2', h3, h4, fun m hm1 hm2 => ?_⟩, fun i f hi => by simp at hi, fun m hm1 hm2 => fget_del_none (h.no m hm1 hm2), rfl, fun f hf => h.num f (mem_fdel hf)⟩, h1, h2', h3, h4⟩
  rcases h.base with ⟨_, _, k⟩ | ⟨_, _, _, _, k⟩
  · exact fget_del_none (k m hm2)
  · exact fget_del_none (k m hm1 hm2)
end
theorem sinv_new : SInv [] 0 unew [] unew 0 := ⟨by omega, rfl, .inl ⟨rfl, rfl, fun _ _ => rfl⟩, fun i f hi => by simp at hi, fun _ _ _ => rfl, rfl, fun f hf => by cases hf⟩
end Go.Proofs.YtlckadlkgjfjcaaGreatDoor

namespace Go.Proofs.YtlckadlkgjfjcaaGreatDoor
open Go.RowKit

theorem ShelfAt.x {w : World} {S : Nat → Prop} {h p q u m : Nat} {B : Nat → Prop} {U : US} {next : Nat} {br : Bool} (s : ShelfAt w S h p q u m B U next br) :
    w.cell? ⟨h, 0, none⟩ = some (.pointer (some ⟨q, 0, none⟩)) ∧ w.cell? ⟨h, 1, none⟩ = some (.pointer (some ⟨u, 0, none⟩)) ∧ w.cell? ⟨h, 2, none⟩ = some (.int .i64 (next : Int)) ∧ w.cell? ⟨h, 3, none⟩ = some (.bool br) ∧ ∀ i, w.frozen? ⟨h, i, none⟩ = false := four_cells9 s.box
theorem whole_any {w : World} {S : Nat → Prop} {h p q u m : Nat} {B : Nat → Prop} {U : US} {next : Nat} {br : Bool} (s : ShelfAt w S h p q u m B U next br) :
    Calls Tryz.prog 98 #[.pointer (some ⟨h, 0, none⟩)] w fun e w' => e = .returned (errV (if br = true then 14 else 0)) ∧ w' = w := by
  obtain ⟨x0, x1, x2, x3, xf⟩ := s.x
  clear s
  cases br
  · go_enter Tryz.func98, Tryz.ntmps98
    go_wp2
    go_ret
    exact ⟨rfl, rfl⟩
  · go_enter Tryz.func98, Tryz.ntmps98
    go_wp2
    go_ret
    exact ⟨rfl, rfl⟩
/-- Are two error numbers one? -/
theorem eql_errno (a b : Int) (w : World) : (binOp .eql 34 (.iface 41 (.int .i64 a)) (.iface 41 (.int .i64 b))).run Tryz.prog w = .ok (.bool (a == b)) w := by
  have hi : Tryz.prog.underlying 34 = some (.interface (Tryz.prog.methodsAt 34)) := by kernel_rfl
  have hu : Tryz.prog.underlying 41 = some (.int .i64) := by kernel_rfl
  have hc : (Tryz.prog.info? 41).map (·.comparable) = some true := by kernel_rfl
  obtain ⟨i, hinfo, hcomp⟩ := Option.map_eq_some_iff.1 hc
  clear hc
  have h2 : ∀ d : Nat, (Op.equalIn (d + 1) 41 (.int .i64 a) (.int .i64 b)).run Tryz.prog w = .ok (a == b) w := fun d => by
    simp [Op.equalIn, run_underlying hu]
  have h1 : ∀ d : Nat, (Op.equalIn (d + 2) 34 (.iface 41 (.int .i64 a)) (.iface 41 (.int .i64 b))).run Tryz.prog w = .ok (a == b) w := fun d => by
    rw [Op.equalIn]
    simp [run_underlying hi, typeInfo, hinfo, hcomp, h2]
  simp only [binOp]
  simp [Op.equal, Op.maxDepth, h1 9998]
theorem eql_none (b : Int) (w : World) : (binOp .eql 34 .nilIface (.iface 41 (.int .i64 b))).run Tryz.prog w = .ok (.bool false) w :=
  run_eql_iface_nil_left w _ _ (by kernel_rfl : Tryz.prog.underlying 34 = some (.interface (Tryz.prog.methodsAt 34)))
set_option maxHeartbeats 2000000 in
set_option maxRecDepth 100000 in
/-- The shelf's own box, its last cell written. -/
theorem told_any {w : World} {h : Nat} {c0 c1 c2 : Value} {br : Bool} (hx : w.heap[h]? = some (.cells #[c0, c1, c2, .bool br] 150 (0, 0))) (c : Nat) :
    Calls Tryz.prog 147 #[.pointer (some ⟨h, 0, none⟩), errV c] w fun e w' => e = .returned (errV c) ∧ w' = (if c = 14 then w.setCell ⟨h, 3, none⟩ (.bool true) else w) := by
  obtain ⟨x0, x1, x2, x3, xf⟩ := four_cells9 hx
  clear hx
  by_cases hc : c = 14
  · rw [if_pos hc, hc]
    rw [errV_pos (by decide), show (((14 : Nat) : Int)) = 14 from rfl]
    have heq : ∀ W, (binOp .eql 34 (.iface 41 (.int .i64 14)) (.iface 41 (.int .i64 14))).run Tryz.prog W = .ok (.bool true) W := fun W => eql_errno 14 14 W
    clear hc
    go_enter Tryz.func147, Tryz.ntmps147
    go_wp2
    go_ret
    exact ⟨rfl, rfl⟩
  · rw [if_neg hc]
    by_cases hz : c = 0
    · subst hz
      rw [errV_zero]
      have heq : ∀ W, (binOp .eql 34 .nilIface (.iface 41 (.int .i64 14))).run Tryz.prog W = .ok (.bool false) W := fun W => eql_none 14 W
      go_enter Tryz.func147, Tryz.ntmps147
      go_wp2
      go_ret
      exact ⟨rfl, rfl⟩
    · rw [errV_pos hz]
      have hci : ((c : Int) == 14) = false := by rw [beq_eq_false_iff_ne]; omega
      have heq : ∀ W, (binOp .eql 34 (.iface 41 (.int .i64 (c : Int))) (.iface 41 (.int .i64 14))).run Tryz.prog W = .ok (.bool false) W := fun W => by rw [eql_errno, hci]
      clear hc hz hci
      go_enter Tryz.func147, Tryz.ntmps147
      go_wp2
      go_ret
      exact ⟨rfl, rfl⟩

end Go.Proofs.YtlckadlkgjfjcaaGreatDoor

namespace Go.Proofs.YtlckadlkgjfjcaaGreatDoor
open Go.RowKit
theorem DPost.low {S : Nat → Prop} {p : Nat} {w w1 w2 : World} {d : DS} (hb : Below w.heap.size w w1) (h : DPost S p w1 w2 d) : DPost S p w w2 d :=
  DPost.trans (fr_below hb S) (fun _ h => h) (fun _ h => .inl h) h
/-- What put answers: the disk then, an error's number; a shelf without power is broken then. -/
def ShPut (S : Nat → Prop) (p h : Nat) (w : World) (r : DS × Nat) (e : Ending) (w' : World) : Prop :=
  ∃ w1, e = .returned (errV r.2) ∧ DPost S p w w1 r.1 ∧ w' = (if r.2 = 14 then w1.setCell ⟨h, 3, none⟩ (.bool true) else w1)
set_option maxHeartbeats 8000000 in
set_option maxRecDepth 100000 in
theorem sput_any {w : World} {S : Nat → Prop} {h p q : Nat} {c1 : Value} {next : Nat} {br : Bool} {D : DS} (hd : Dk w S p D) (box : w.heap[h]? = some (.cells #[.pointer (some ⟨q, 0, none⟩), c1, .int .i64 (next : Int), .bool br] 150 (0, 0))) (hs : AtS w q p) (hq : ¬ S q) (hh : ¬ S h) (hsz : D.sz ≤ 400000) (ht : Tens w) (hn : next ≤ 99999999) {mk : Nm} (hmk : mk.length ≤ 100) {v : Value} {b : List Nat} (hv : At w (fun j => ¬ S j) .u8 v b) (hb : ∀ y ∈ b, y < 256) :
    Calls Tryz.prog 100 #[.pointer (some ⟨h, 0, none⟩), .string ⟨mk.toArray⟩, v] w (ShPut S p h w (sput D (mk ++ dig8 next) b)) := by
  have hhl : h < w.heap.size := (Array.getElem?_eq_some_iff.1 box).1
  obtain ⟨N, hN⟩ : ∃ N, N = mk ++ dig8 next := ⟨_, rfl⟩
  have hNl : N.length < 9223372036854775807 := by
    rw [hN, List.length_append, show (dig8 next).length = 8 from rfl]
    omega
  have HNAM : Hid (∀ W, Below w.heap.size w W → Calls Tryz.prog 102 #[.string ⟨mk.toArray⟩, .int .i64 (next : Int)] W fun e w' => e = .returned (.string ⟨N.toArray⟩) ∧ Below w.heap.size w w') := Lib.hid fun W hW => (nameOf_any mk hmk next hn W (ht.below hW)).mono fun e w' k => ⟨by rw [hN]; exact k.1, hW.trans (k.2.mono hW.size)⟩
  have HPUT : Hid (∀ W, Below w.heap.size w W → Calls Tryz.prog 148 #[.pointer (some ⟨q, 0, none⟩), .string ⟨N.toArray⟩, v] W fun e w' => e = .returned (errV (sput D N b).2) ∧ DPost S p w w' (sput D N b).1) := Lib.hid fun W hW => (put_store (hd.keep (kept_new hW S)) (hs.old hW) hq (by omega) hNl (hv.keep (kept_new hW _)) hb).mono fun e w' k => ⟨k.1, k.2.low hW⟩
  rw [← hN]
  obtain ⟨R, hR⟩ : ∃ R, R = sput D N b := ⟨_, rfl⟩
  rw [← hR] at HPUT ⊢
  obtain ⟨D', c⟩ := R
  simp only at HPUT ⊢
  have HXX : Hid (∀ W, Below w.heap.size w W → W.cell? ⟨h, 0, none⟩ = some (.pointer (some ⟨q, 0, none⟩)) ∧ W.cell? ⟨h, 2, none⟩ = some (.int .i64 (next : Int))) := Lib.hid fun W hW => by
    obtain ⟨x0, x1, x2, x3, xf⟩ := four_cells9 ((hW.block h hhl).trans box)
    exact ⟨x0, x2⟩
  have HYY : Hid (∀ W, DPost S p w W D' → W.heap[h]? = some (.cells #[.pointer (some ⟨q, 0, none⟩), c1, .int .i64 (next : Int), .bool br] 150 (0, 0)) ∧ W.cell? ⟨h, 0, none⟩ = some (.pointer (some ⟨q, 0, none⟩)) ∧ W.cell? ⟨h, 2, none⟩ = some (.int .i64 (next : Int))) := Lib.hid fun W hW => by
    obtain ⟨S1, _, hf, _⟩ := hW
    have k := (hf.block h hhl hh).trans box
    obtain ⟨x0, x1, x2, x3, xf⟩ := four_cells9 k
    exact ⟨k, x0, x2⟩
  have HTOLD : Hid (∀ W, DPost S p w W D' → Calls Tryz.prog 147 #[.pointer (some ⟨h, 0, none⟩), errV c] W fun e w' => e = .returned (errV c) ∧ w' = (if c = 14 then W.setCell ⟨h, 3, none⟩ (.bool true) else W) ∧ w'.cell? ⟨h, 0, none⟩ = some (.pointer (some ⟨q, 0, none⟩)) ∧ w'.cell? ⟨h, 2, none⟩ = some (.int .i64 (next : Int))) := Lib.hid fun W hW => by
    obtain ⟨k, y0, y2⟩ := HYY.out W hW
    refine (told_any k c).mono ?_
    rintro e w' ⟨h1, h2⟩
    refine ⟨h1, h2, ?_⟩
    rw [h2]
    split
    · exact ⟨(World.cell?_setCell_other _ _ _ _ (by simp)).trans y0, (World.cell?_setCell_other _ _ _ _ (by simp)).trans y2⟩
    · exact ⟨y0, y2⟩
  have HSELF : Hid (Below w.heap.size w w) := Lib.hid (Below.refl _ _)
  obtain ⟨x0, x2⟩ := HXX.out w (Below.refl _ _)
  obtain ⟨ao, cap, rfl, _, _, _⟩ := hv.reads.val
  obtain ⟨bl, hbl⟩ : ∃ n, n = b.length := ⟨_, rfl⟩
  rw [← hbl] at HPUT ⊢
  clear hd box hs hq hh hsz ht hn hmk hv hb hhl hNl hN hR hbl
  go_enter Tryz.func100, Tryz.ntmps100
  go_upto_region 1 with fail
  go_region_held3 (fun w' => w'.cell? ⟨h, 0, none⟩ = some (.pointer (some ⟨q, 0, none⟩)) ∧ w'.cell? ⟨h, 2, none⟩ = some (.int .i64 (next : Int))) (go_keep) (first
    | (go_at_call 147
       refine (HTOLD.out _ HP3.out).mono ?_
       rintro r w4 ⟨rfl, h4, x0, x2⟩
       have H4 := Lib.hid h4
       clear h4)
    | (go_at_call 148
       refine (HPUT.out _ ?hbd).mono ?_
       case hbd => first | exact HNB.out | exact ⟨HNB.out.os, HNB.out.tape, HNB.out.output, HNB.out.size, HNB.out.block⟩
       rintro r w3 ⟨rfl, hp3⟩
       obtain ⟨hbx, x0, x2⟩ := HYY.out w3 hp3
       have HP3 := Lib.hid hp3
       clear hbx hp3)
    | (go_at_call 102
       refine (HNAM.out _ ?hbd).mono ?_
       case hbd => first | exact HSELF.out | exact ⟨rfl, rfl, rfl, Nat.le_refl _, fun _ _ => rfl⟩
       rintro r w2 ⟨rfl, hb2⟩
       obtain ⟨x0, x2⟩ := HXX.out w2 hb2
       have HNB := Lib.hid hb2
       clear hb2))
  all_goals (
    go_wp2
    go_ret
    exact ⟨w3, rfl, HP3.out, H4.out⟩)

end Go.Proofs.YtlckadlkgjfjcaaGreatDoor

namespace Go.Proofs.YtlckadlkgjfjcaaGreatDoor
open Go.RowKit
set_option maxRecDepth 100000 in
/-- (StI's, but this seat lacks the store's Has.) -/
theorem storeDisk_any {w : World} {q p : Nat} (h : w.cell? ⟨q, 0, none⟩ = some (.pointer (some ⟨p, 0, none⟩))) :
    Calls Tryz.prog 226 #[.pointer (some ⟨q, 0, none⟩)] w fun e w' => e = .returned (.pointer (some ⟨p, 0, none⟩)) ∧ w' = w := by
  go_enter Tryz.func226, Tryz.ntmps226
  go_wp2
  go_ret
  exact ⟨rfl, rfl⟩
section
variable {w : World} {S : Nat → Prop} {h p q u m : Nat} {B : Nat → Prop} {U : US} {next : Nat} {br : Bool} {D : DS}
set_option maxRecDepth 100000 in
theorem sdisk_any (s : ShelfAt w S h p q u m B U next br) :
    Calls Tryz.prog 156 #[.pointer (some ⟨h, 0, none⟩)] w fun e w' => e = .returned (.pointer (some ⟨p, 0, none⟩)) ∧ w' = w := by
  obtain ⟨x0, _⟩ := s.x
  have HD := Lib.hid (storeDisk_any s.st.1)
  clear s
  go_enter Tryz.func156, Tryz.ntmps156
  go_wp2_with fail
  refine HD.out.mono ?_
  rintro r w' ⟨rfl, rfl⟩
  go_wp2
  go_ret
  exact ⟨rfl, rfl⟩
/-- Is the unit answered for? -/
def sable (D : DS) (br : Bool) : Nat := if br = true then 14 else if D.down = true then 14 else 0
set_option maxHeartbeats 1000000 in
set_option maxRecDepth 100000 in
theorem shable_any (hd : Dk w S p D) (s : ShelfAt w S h p q u m B U next br) :
    Calls Tryz.prog 113 #[.pointer (some ⟨h, 0, none⟩)] w fun e w' => e = .returned (errV (sable D br)) ∧ w' = w := by
  have HW := Lib.hid (whole_any s)
  have HD := Lib.hid (sdisk_any s)
  have HN := Lib.hid (downD_any hd)
  clear s hd
  cases br
  · obtain ⟨dn, hdn⟩ : ∃ b, b = D.down := ⟨_, rfl⟩
    have HA : Hid (sable D false = if dn = true then 14 else 0) := Lib.hid (by rw [hdn]; rfl)
    rw [HA.out]
    rw [← hdn] at HN
    rw [if_neg (by decide), errV_zero] at HW
    clear hdn HA
    go_enter Tryz.func113, Tryz.ntmps113
    go_wp2_with fail
    refine HW.out.mono ?_
    rintro r w' ⟨rfl, rfl⟩
    go_wp2_with fail
    refine HD.out.mono ?_
    rintro r w' ⟨rfl, rfl⟩
    go_wp2_with fail
    refine HN.out.mono ?_
    rintro r w' ⟨rfl, rfl⟩
    cases dn
    · go_wp2
      go_ret
      exact ⟨rfl, rfl⟩
    · go_wp2
      go_ret
      exact ⟨rfl, rfl⟩
  · rw [show sable D true = 14 from rfl, errV_pos (by decide)]
    rw [if_pos rfl, errV_pos (by decide)] at HW
    go_enter Tryz.func113, Tryz.ntmps113
    go_wp2_with fail
    refine HW.out.mono ?_
    rintro r w' ⟨rfl, rfl⟩
    go_wp2
    go_ret
    exact ⟨rfl, rfl⟩
end
end Go.Proofs.YtlckadlkgjfjcaaGreatDoor
