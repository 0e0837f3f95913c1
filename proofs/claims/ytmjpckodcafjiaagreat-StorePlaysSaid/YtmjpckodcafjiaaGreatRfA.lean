/- The document's files: rows of names and texts, rising; Find, without, with. -/
import Derived.Test.YtmjpckodcafjiaaGreatDskY
import Derived.Sort.Walk0
namespace Go.Proofs.YtmjpckodcafjiaaGreat
open Go.RowKit

/-! ### Rows that rise -/
theorem before_lt : ∀ (x y : Nm), bytesBefore x y = decide (x < y)
  | [], [] => by simp [bytesBefore]
  | [], _ :: _ => by simp [bytesBefore]
  | _ :: _, [] => by simp [bytesBefore]
  | a :: r, b :: s => by
    rw [bytesBefore, before_lt r s, Bool.eq_iff_iff, decide_eq_true_iff, List.cons_lt_cons_iff]
    simp
section
variable {α : Type}
def Rises (l : Fm α) : Prop := l.Pairwise fun a b => bytesBefore a.1 b.1 = true
theorem Rises.apart {l : Fm α} (h : Rises l) : Apart l := h.imp fun {a b} hab e => by
  rw [e, WideAt.bytes_irrefl] at hab
  cases hab
theorem Rises.del {l : Fm α} (h : Rises l) (n : Nm) : Rises (fdel l n) := List.Pairwise.filter _ h
theorem Rises.ins {n : Nm} {t : α} : ∀ {l : Fm α}, Rises l → (∀ x ∈ l, x.1 ≠ n) → Rises (fins n t l)
  | [], _, _ => by unfold fins Rises; simp
  | x :: r, h, hn => by
    have h2 := List.pairwise_cons.1 h
    unfold fins
    split
    · rename_i hb
      refine List.pairwise_cons.2 ⟨fun y hy => ?_, h⟩
      rcases List.mem_cons.1 hy with rfl | hy
      · exact hb
      · exact WideShapes.bytes_trans _ _ _ hb (h2.1 y hy)
    · rename_i hb
      have hx : bytesBefore x.1 n = true := by
        rcases WideAt.bytes_total n x.1 (fun e => hn x (by simp) e.symm) with h3 | h3
        · exact absurd h3 hb
        · exact h3
      refine List.pairwise_cons.2 ⟨fun y hy => ?_, Rises.ins h2.2 fun y hy => hn y (by simp [hy])⟩
      rcases mem_fins.1 hy with rfl | hy
      · exact hx
      · exact h2.1 y hy
theorem fdel_ne {l : Fm α} {n : Nm} {x : Nm × α} (h : x ∈ fdel l n) : x.1 ≠ n := by
  have := (List.mem_filter.1 h).2
  simpa using this
theorem Rises.put {l : Fm α} (h : Rises l) (n : Nm) (t : α) : Rises (fput l n t) := (h.del n).ins fun _ hx => fdel_ne hx
theorem fget_mem {l : Fm α} (h : Apart l) {f : Nm × α} (hf : f ∈ l) : fget l f.1 = some f.2 := by
  induction l with
  | nil => cases hf
  | cons x r ih =>
    have h2 := List.pairwise_cons.1 h
    unfold fget at ih ⊢
    rw [List.find?_cons]
    rcases List.mem_cons.1 hf with rfl | hf
    · simp
    · have : (x.1 == f.1) = false := by simpa using h2.1 f hf
      rw [this]
      exact ih h2.2 hf
theorem Rises.srt {l : Fm α} (h : Rises l) : srt (l.map (·.1)) = l.map (·.1) := by
  unfold Go.Proofs.YtmjpckodcafjiaaGreat.srt
  refine List.mergeSort_of_pairwise ?_
  refine List.pairwise_map.2 (h.imp fun {a b} hab => ?_)
  rw [before_lt, decide_eq_true_iff] at hab
  exact decide_eq_true (List.le_of_lt hab)
end
theorem Rises.fsort {l : Fm (List Nat)} (h : Rises l) : fsort l = l := by
  unfold Go.Proofs.YtmjpckodcafjiaaGreat.fsort
  rw [h.srt, List.map_map]
  conv => rhs; rw [← List.map_id l]
  refine List.map_congr_left fun f hf => ?_
  show (f.1, (fget l f.1).getD []) = f
  rw [fget_mem h.apart hf]
  rfl
theorem Rises.apply {l : Fm (List Nat)} (h : Rises l) (c : Ch) : Rises (capply l c) := by
  unfold capply
  split
  · exact h.put _ _
  · split
    · exact h
    · split
      · exact (h.del _).put _ _
      · exact h.del _
theorem Rises.shown : ∀ (cs : List Ch) {l : Fm (List Nat)}, Rises l → Rises (shownOf l cs)
  | [], _, h => h
  | c :: cs, _, h => Rises.shown cs (h.apply c)
theorem Rises.picked : ∀ (cs : List Ch) {l : Fm (List Nat)} (_ : Rises l) (ks : List Bool), Rises (picked l cs ks)
  | [], l, h, ks => by cases ks <;> exact h
  | c :: cs, l, h, [] => h
  | c :: cs, l, h, k :: ks => by
    refine Rises.picked cs ?_ ks
    split
    · exact h.apply c
    · exact h

/-! ### Names and texts compared -/
theorem nm_beq (a b : Nm) : ((⟨a.toArray⟩ : ByteArray).toList == (⟨b.toArray⟩ : ByteArray).toList) = (a == b) := by
  rw [ByteArray.toList_eq, ByteArray.toList_eq]
theorem nm_gtr (x n : Nm) : (!(Op.bytesLess (⟨x.toArray⟩ : ByteArray).toList (⟨n.toArray⟩ : ByteArray).toList || (⟨x.toArray⟩ : ByteArray).toList == (⟨n.toArray⟩ : ByteArray).toList)) = bytesBefore n x := by
  rw [nm_beq, ByteArray.toList_eq, ByteArray.toList_eq, bytesLess_eq]
  show (!(decide (x < n) || x == n)) = _
  rw [← before_lt]
  by_cases h : x = n
  · subst h; simp [WideAt.bytes_irrefl]
  · have h2 : (x == n) = false := by simpa using h
    rw [h2, Bool.or_false]
    rcases WideAt.bytes_total x n h with h3 | h3
    · rw [h3]
      cases h4 : bytesBefore n x
      · rfl
      · have := WideShapes.bytes_trans _ _ _ h3 h4
        rw [WideAt.bytes_irrefl] at this
        cases this
    · rw [h3]
      cases h4 : bytesBefore x n
      · rfl
      · have := WideShapes.bytes_trans _ _ _ h3 h4
        rw [WideAt.bytes_irrefl] at this
        cases this
theorem nm_bne (a b : Nm) : ((⟨a.toArray⟩ : ByteArray).toList != (⟨b.toArray⟩ : ByteArray).toList) = !(a == b) := by
  unfold bne
  rw [nm_beq]
theorem txt_beq {a b : List Nat} (ha : ∀ x ∈ a, x < 256) (hb : ∀ x ∈ b, x < 256) : ((txt a).toList == (txt b).toList) = decide (a = b) := str_beq ha hb
theorem txt_size (l : List Nat) : (txt l).size = l.length := by unfold txt; rw [strOfNums_size, List.length_map]

/-! ### Rows of files in memory -/
def fR (f : Nm × List Nat) : List Value := [nmV f.1, .string (txt f.2)]
def FsAt (w : World) (B : Nat → Prop) (v : Value) (l : Fm (List Nat)) : Prop := RecAt w B 2 v (l.map fR)
theorem FsAt.keep {w w' : World} {B : Nat → Prop} {v : Value} {l : Fm (List Nat)} (h : FsAt w B v l) (hk : Kept B w w') : FsAt w' B v l := RecAt.keep h hk
theorem FsAt.mono {w : World} {B C : Nat → Prop} {v : Value} {l : Fm (List Nat)} (h : FsAt w B v l) (hc : ∀ j, j < w.heap.size → B j → C j) : FsAt w C v l := RecAt.mono h hc
theorem FsAt.old {w w' : World} {B : Nat → Prop} {v : Value} {l : Fm (List Nat)} (h : FsAt w B v l) (hb : Below w.heap.size w w') : FsAt w' B v l := RecAt.keep h (kept_new hb B)
theorem FsAt.val {w : World} {B : Nat → Prop} {v : Value} {l : Fm (List Nat)} (h : FsAt w B v l) : ∃ ao cap, v = .slice ao l.length cap ∧ l.length ≤ 9223372036854775807 := by
  obtain ⟨ao, cap, hv, h1, h2, _⟩ := RecAt.val h
  rw [List.length_map] at hv h1
  exact ⟨ao, cap, hv, by simp only [maxLen] at h2; omega⟩
theorem FsAt.at {w : World} {B : Nat → Prop} {ao : Option Addr} {n cap : Nat} {l : Fm (List Nat)} (h : FsAt w B (.slice ao n cap) l) {i : Nat} {f : Nm × List Nat} (hi : l[i]? = some f) :
    ∃ b off, ao = some ⟨b, off, none⟩ ∧ b < w.heap.size ∧ w.cell? ⟨b, off + i * 2, none⟩ = some (nmV f.1) ∧ w.cell? ⟨b, off + i * 2 + 1, none⟩ = some (.string (txt f.2)) := by
  obtain ⟨b, off, ha, hb, _, hc⟩ := RecAt.at h (r := fR f) (by rw [List.getElem?_map, hi]; rfl)
  exact ⟨b, off, ha, hb, hc 0 _ rfl, hc 1 _ rfl⟩
theorem fsAt_nil (w : World) (B : Nat → Prop) : FsAt w B (.slice none 0 0) [] := recAt_nil w B 2
/-- An owned row of files. -/
def FsOwn (w : World) (base : Nat) (v : Value) (l : Fm (List Nat)) : Prop := RecOwn w base 102 2 v (l.map fR)
theorem FsOwn.at' {w : World} {base : Nat} {v : Value} {l : Fm (List Nat)} (h : FsOwn w base v l) : FsAt w (fun j => base ≤ j) v l := (RecOwn.at' h).mono fun _ _ hj => hj.2
theorem FsOwn.below {w w' : World} {base : Nat} {v : Value} {l : Fm (List Nat)} (h : FsOwn w base v l) (hb : Below w.heap.size w w') : FsOwn w' base v l := RecOwn.keep h fun j hj => hb.block j (RecOwn.block h hj).2.1
theorem FsOwn.val {w : World} {base : Nat} {v : Value} {l : Fm (List Nat)} (h : FsOwn w base v l) : ∃ ao cap, v = .slice ao l.length cap := by
  obtain ⟨ao, cap, hv, _⟩ := RecOwn.val h
  rw [List.length_map] at hv
  exact ⟨ao, cap, hv⟩
theorem Tryz.infoRF : (Tryz.prog.info? 102).map (fun i => (i.zero, i.size, i.bytes)) = some (some (.agg #[.string { data := #[] }, .string { data := #[] }]), 2, 32) := by kernel_rfl

/-- A walk of an append of one file onto an owned row. -/
theorem wpList_appF (w : World) {ops : Array Oper} {rest : List Oper} {o : Oper} {a : Act} {Q : Exit → Act → World → Prop} (hgd : o.guard = none) (s x : Operand)
    (ho : o.op = .call { callee := .builtin .append, args := #[s, x], argTypes := #[30, 30] })
    (base : Nat) (v : Value) (l : Fm (List Nat)) (hs : a.eval s = v) (W : World) (f : Nm × List Nat) (hW : w = W.alloc (.cells #[nmV f.1, .string (txt f.2)] 102)) (hown : FsOwn W base v l)
    (hx : a.eval x = .slice (some ⟨W.heap.size, 0, none⟩) 1 1) (hlen : l.length ≤ 1000000) (hbase : base ≤ W.heap.size)
    (h : ∀ v' w', FsOwn w' base v' (l ++ [f]) → Below base W w' → wpList Tryz.prog ops Q rest (a.put o.dst v') w') : wpList Tryz.prog ops Q (o :: rest) a w := by
  subst hW
  refine wpList_appRec _ hgd s x 30 ho base 102 _ 2 32 Tryz.underlying30 Tryz.infoRF rfl (by decide) v (l.map fR) hs (RecOwn.keep hown fun j hj => Below.heap_alloc _ _ _ (RecOwn.block hown hj).2.1) [nmV f.1, .string (txt f.2)] rfl (by simp [Value.oneCell', nmV]) ⟨W.heap.size, 0, none⟩ hx (rec_cell W [nmV f.1, .string (txt f.2)] _) (by rw [List.length_map]; simp only [maxLen]; omega) (by rw [List.length_map]; omega) (by simp; omega) ?_
  intro v' w' ho' hg' _
  refine h v' w' (by unfold FsOwn; rw [List.map_append]; exact ho') ?_
  exact ((Below.refl _ _).alloc hbase _).grown hg' (by simp; omega) (fun j hj => (RecOwn.block hown hj).1)

/-! ### Find -/
def FindR (l : Fm (List Nat)) (n : Nm) (i : Int) : Prop := (i = -1 ∧ fget l n = none) ∨ ∃ (k : Nat) (t : List Nat), i = (k : Int) ∧ l[k]? = some (n, t) ∧ fget l n = some t
theorem find_take {l : Fm (List Nat)} {n : Nm} {k : Nat} {f : Nm × List Nat} (hno : (l.take k).find? (fun x => x.1 == n) = none) (hf : l[k]? = some f) (he : (f.1 == n) = true) : fget l n = some f.2 := by
  unfold fget
  have h1 : l.find? (fun x => x.1 == n) = some f := by
    have : l = l.take k ++ f :: l.drop (k + 1) := by
      have hk := (List.getElem?_eq_some_iff.1 hf)
      rw [← hk.2, List.getElem_cons_drop, List.take_append_drop]
    rw [this, List.find?_append, hno, List.find?_cons, he]
    rfl
  rw [h1]
  rfl
theorem find_more {l : Fm (List Nat)} {n : Nm} {k : Nat} {f : Nm × List Nat} (hno : (l.take k).find? (fun x => x.1 == n) = none) (hf : l[k]? = some f) (he : (f.1 == n) = false) : (l.take (k + 1)).find? (fun x => x.1 == n) = none := by
  rw [take_snoc hf, List.find?_append, hno, List.find?_cons, he]
  rfl

set_option maxHeartbeats 1000000 in
set_option maxRecDepth 100000 in
theorem rfind_any {w : World} {B : Nat → Prop} {v : Value} {l : Fm (List Nat)} (h : FsAt w B v l) (n : Nm) :
    Calls Tryz.prog 77 #[v, nmV n] w fun e w' => w' = w ∧ ∃ i : Int, e = .returned (.int .i64 i) ∧ FindR l n i := by
  obtain ⟨ao, cap, rfl, hl⟩ := h.val
  have H := Lib.hid h
  clear h
  go_enter Tryz.func77, Tryz.ntmps77
  unfold nmV
  go_wp2
  go_loopw [5] (fun i wr => ∃ k : Nat, k ≤ l.length ∧ i = .int .i64 (k : Int) ∧ (l.take k).find? (fun x => x.1 == n) = none ∧ wr = w)
    (fun i _ => l.length - (intOf i).toNat)
  case atStart => exact ⟨0, Nat.zero_le _, rfl, rfl, rfl⟩
  case round =>
    obtain ⟨k, hk, rfl, hno, rfl⟩ := hrel
    have HNO := Lib.hid hno
    clear hno
    by_cases hlt : k < l.length
    · obtain ⟨f, hf⟩ : ∃ f, l[k]? = some f := ⟨_, List.getElem?_eq_getElem hlt⟩
      obtain ⟨b, off, rfl, _, e0, _⟩ := H.out.at hf
      unfold nmV at e0
      have hlti : (k : Int) < l.length := by omega
      have HK := Lib.hid hlt
      have HF := Lib.hid hf
      cases he : (f.1 == n)
      · have HE := Lib.hid (find_more HNO.out HF.out he)
        clear hf
        go_wp2
        go_roundw
        case rel => exact ⟨k + 1, HK.out, (by first | exact inc_eq HK.out hl | rfl), HE.out, trivial⟩
        case measure => first | exact inc_meas HK.out hl | (have := HK.out; simp [intOf]; omega)
      · have HE : Hid (FindR l n (k : Int)) := Lib.hid (.inr ⟨k, f.2, rfl, by
          have : f.1 = n := by simpa using he
          rw [HF.out, ← this], find_take HNO.out HF.out he⟩)
        clear hf
        go_wp2
        go_ret
        exact ⟨rfl, _, rfl, HE.out⟩
    · obtain rfl : k = l.length := by omega
      have HE : Hid (FindR l n (-1)) := Lib.hid (.inl ⟨rfl, by
        have := HNO.out
        rw [List.take_of_length_le (Nat.le_refl _)] at this
        unfold fget
        rw [this]
        rfl⟩)
      go_wp2
      go_ret
      exact ⟨rfl, _, rfl, HE.out⟩

/-! ### without -/
theorem fdel_snoc {l : Fm (List Nat)} {n : Nm} {k : Nat} {f : Nm × List Nat} (hf : l[k]? = some f) : fdel (l.take (k + 1)) n = fdel (l.take k) n ++ if (f.1 == n) then [] else [f] := by
  unfold fdel
  rw [take_snoc hf, List.filter_append]
  cases h : (f.1 == n) <;> simp [h]

set_option maxHeartbeats 1000000 in
set_option maxRecDepth 100000 in
theorem rwithout_any {w : World} {B : Nat → Prop} {v : Value} {l : Fm (List Nat)} (h : FsAt w B v l) (n : Nm) (hsz : l.length ≤ 1000000) :
    Calls Tryz.prog 82 #[v, nmV n] w fun e w' => ∃ v', e = .returned v' ∧ FsOwn w' w.heap.size v' (fdel l n) ∧ Below w.heap.size w w' := by
  obtain ⟨ao, cap, rfl, hl⟩ := h.val
  have H := Lib.hid h
  clear h
  go_enter Tryz.func82, Tryz.ntmps82
  unfold nmV
  go_wp2
  go_loopw [5, 6] (fun ov i wr => ∃ k : Nat, k ≤ l.length ∧ i = .int .i64 (k : Int) ∧ FsOwn wr w.heap.size ov (fdel (l.take k) n) ∧ Below w.heap.size w wr)
    (fun _ i _ => l.length - (intOf i).toNat)
  case atStart => exact ⟨0, Nat.zero_le _, rfl, recOwn_empty _ _ _ _ (Nat.le_refl _), (Below.refl _ _).alloc (Nat.le_refl _) _⟩
  case round =>
    obtain ⟨k, hk, rfl, ho, hb⟩ := hrel
    have HO := Lib.hid ho
    have HB := Lib.hid hb
    obtain ⟨oo, oc, rfl⟩ := ho.val
    have HDL : Hid ((fdel (l.take k) n).length ≤ 1000000) := Lib.hid (Nat.le_trans (fdel_length _ _) (by rw [List.length_take]; omega))
    by_cases hlt : k < l.length
    · obtain ⟨f, hf⟩ : ∃ f, l[k]? = some f := ⟨_, List.getElem?_eq_getElem hlt⟩
      obtain ⟨b, off, rfl, _, e0, e1⟩ := (H.out.old hb).at hf
      have hlti : (k : Int) < l.length := by omega
      have HK := Lib.hid hlt
      have HS := Lib.hid (fdel_snoc (n := n) hf)
      obtain ⟨s2, hs2⟩ : ∃ s : ByteArray, s = txt f.2 := ⟨_, rfl⟩
      unfold nmV at e0
      rw [← hs2] at e1
      have HS2 := Lib.hid hs2
      clear ho hb hf hs2
      cases he : (f.1 == n)
      · rw [he] at HS
        go_wp2_with (at_builtin; go_must (refine wpList_appF _ rfl _ _ rfl w.heap.size _ _ rfl wr f (by rw [← HS2.out]; rfl) HO.out rfl HDL.out HB.out.size ?_))
        intro v3 w3 ho3 hb3
        have HO3 : Hid (FsOwn w3 w.heap.size v3 (fdel (l.take (k + 1)) n)) := Lib.hid (by rw [HS.out]; exact ho3)
        have HB3 := Lib.hid (HB.out.trans hb3)
        clear ho3 hb3
        go_wp2
        go_roundw
        case rel => exact ⟨k + 1, HK.out, (by first | exact inc_eq HK.out hl | rfl), HO3.out, HB3.out⟩
        case measure => first | exact inc_meas HK.out hl | (have := HK.out; simp [intOf]; omega)
      · rw [he] at HS
        go_wp2
        go_roundw
        case rel => exact ⟨k + 1, HK.out, (by first | exact inc_eq HK.out hl | rfl), by rw [HS.out, if_pos rfl, List.append_nil]; exact HO.out, HB.out⟩
        case measure => first | exact inc_meas HK.out hl | (have := HK.out; simp [intOf]; omega)
    · obtain rfl : k = l.length := by omega
      clear ho hb
      go_wp2
      go_ret
      refine ⟨_, rfl, ?_, HB.out⟩
      have h := HO.out
      simp only [List.take_length] at h ⊢
      exact h

end Go.Proofs.YtmjpckodcafjiaaGreat
