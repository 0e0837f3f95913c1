/- What an operation leaves of a disk; changes one by one; the contract of Start. -/
import Derived.Test.YtmjpckodcafjiaaGreatDskJ
namespace Go.Proofs.YtmjpckodcafjiaaGreat
open Go.RowKit

/-- Behind a call: the disk, its blocks, and what was written. -/
def DPost (S : Nat → Prop) (p : Nat) (w w' : World) (d' : DS) : Prop :=
  ∃ S', Dk w' S' p d' ∧ Fr S w w' ∧ (∀ j, S j → S' j) ∧ ∀ j, S' j → S j ∨ w.heap.size ≤ j
theorem DPost.same {S : Nat → Prop} {p : Nat} {w w' : World} {d : DS} (h : Dk w' S p d) (hf : Fr S w w') : DPost S p w w' d := ⟨S, h, hf, fun _ h => h, fun _ h => .inl h⟩
theorem DPost.trans {S S1 : Nat → Prop} {p : Nat} {w w1 w2 : World} {d2 : DS} (hf : Fr S w w1) (hs : ∀ j, S j → S1 j) (ht : ∀ j, S1 j → S j ∨ w.heap.size ≤ j) (k : DPost S1 p w1 w2 d2) : DPost S p w w2 d2 := by
  obtain ⟨S2, hd, hf2, hs2, ht2⟩ := k
  refine ⟨S2, hd, hf.trans hf2 (fun _ _ h => h) (fun j hj h => ?_), fun j h => hs2 j (hs j h), fun j h => ?_⟩
  · rcases ht j h with h | h
    · exact h
    · omega
  · rcases ht2 j h with h | h
    · exact ht j h
    · exact .inr (Nat.le_trans hf.size h)

theorem RecOwn.at {w : World} {base : Nat} {e : TypeId} {k : Nat} {v : Value} {rows : List (List Value)} (h : RecOwn w base e k v rows) {i : Nat} {r : List Value} (hi : rows[i]? = some r) :
    ∃ g cap, v = .slice (some ⟨g, 0, none⟩) rows.length cap ∧ ∀ j u, r[j]? = some u → w.cell? ⟨g, i * k + j, none⟩ = some u := by
  rcases h.2.2 with ⟨rfl, hn⟩ | ⟨g, cap, cur, rfl, hb, hg, hnc, hm, hs, ht⟩
  · obtain rfl : rows = [] := List.length_eq_zero_iff.1 hn
    cases hi
  · refine ⟨g, cap, rfl, fun j u hu => ?_⟩
    have := h.2.cells (g := g) rfl (i * k + j) u (flat_get h.1 hi hu)
    rw [Addr.add_lit] at this
    simpa using this
/-- A change, at its place. -/
theorem CR.at {w : World} {S : Nat → Prop} {cv : Value} {chs : List Ch} (h : CR w S cv chs) {i : Nat} {c : Ch} (hi : chs[i]? = some c) :
    ∃ g cap v, cv = .slice (some ⟨g, 0, none⟩) chs.length cap ∧ w.cell? ⟨g, i * 4, none⟩ = some (.int .i64 (c.kind : Int)) ∧ w.cell? ⟨g, i * 4 + 1, none⟩ = some (nmV c.name) ∧ w.cell? ⟨g, i * 4 + 2, none⟩ = some (nmV c.to) ∧ w.cell? ⟨g, i * 4 + 3, none⟩ = some v ∧
      At w (Typ w S 5) .u8 v c.text := by
  obtain ⟨ps, rfl, h2, h3, h4⟩ := h
  rw [List.getElem?_map] at hi
  obtain ⟨x, hx, rfl⟩ := Option.map_eq_some_iff.1 hi
  obtain ⟨g, cap, hv, hc⟩ := h2.at (i := i) (r := chRow x) (by rw [List.getElem?_map, hx]; rfl)
  rw [List.length_map] at hv
  exact ⟨g, cap, x.2, by rw [List.length_map]; exact hv, hc 0 _ rfl, hc 1 _ rfl, hc 2 _ rfl, hc 3 _ rfl, h4 x (List.mem_of_getElem? hx)⟩

theorem FilesDone.more {S : Nat → Prop} {p o : Nat} {mb mb' : Option Nat} {cs : Array Value} {l' : Fm (List Nat)} {w w1 w2 : World} (h : FilesDone S p o mb cs l' w w1 mb') (hb : Below w1.heap.size w1 w2) : FilesDone S p o mb cs l' w w2 mb' := by
  refine ⟨(hb.block p (Array.getElem?_eq_some_iff.1 h.blk).1).trans h.blk, h.tm.keep (kept_new hb _) (fun b e => hb.block b (by subst e; exact h.tm.lt)) fun j hj => ?_, h.fr.trans (fr_below hb _) (fun _ _ h => h) (fun _ _ h => h), h.mb⟩
  rcases hj with h1 | ⟨h1, h2⟩
  · exact .inl h1
  · exact .inr ⟨h1, Nat.lt_of_lt_of_le h2 hb.size⟩

theorem picked_snoc : ∀ (cs : List Ch) (c : Ch) (l : Fm (List Nat)) (keep : List Bool), picked l (cs ++ [c]) keep = if keep[cs.length]? = some true then capply (picked l cs keep) c else picked l cs keep
  | [], c, l, [] => rfl
  | [], c, l, k :: ks => by
    cases k <;> cases ks <;> simp [picked]
  | x :: cs, c, l, [] => by simp [picked]
  | x :: cs, c, l, k :: ks => by
    have := picked_snoc cs c (if k = true then capply l x else l) ks
    simpa [picked] using this
theorem picked_length : ∀ (cs : List Ch) (l : Fm (List Nat)) (keep : List Bool), (picked l cs keep).length ≤ l.length + cs.length
  | [], l, keep => by cases keep <;> simp [picked]
  | x :: cs, l, [] => by simp [picked]
  | x :: cs, l, k :: ks => by
    have h1 := picked_length cs (if k = true then capply l x else l) ks
    have h2 := capply_length l x
    simp only [picked, List.length_cons]
    split at h1 <;> simp_all <;> omega
theorem Small.picked {m : Nat} : ∀ {cs : List Ch} (_ : ∀ c ∈ cs, c.text.length ≤ m ∧ ∀ y ∈ c.text, y < 256) {l : Fm (List Nat)} (_ : Small m l) (keep : List Bool), Small m (picked l cs keep)
  | [], _, l, h, keep => by cases keep <;> exact h
  | x :: cs, hc, l, h, [] => h
  | x :: cs, hc, l, h, k :: ks => by
    refine Small.picked (cs := cs) (fun c hc' => hc c (by simp [hc'])) ?_ ks
    cases k
    · exact h
    · exact h.apply (hc x (by simp))
theorem take_snoc {α : Type} {l : List α} {k : Nat} {x : α} (h : l[k]? = some x) : l.take (k + 1) = l.take k ++ [x] := by
  rw [List.take_add_one, h]; rfl

set_option maxHeartbeats 1000000 in
set_option maxRecDepth 100000 in
theorem startD_any {w : World} {S : Nat → Prop} {p : Nat} {d : DS} (h : Dk w S p d) :
    Calls Tryz.prog 26 #[.pointer (some ⟨p, 0, none⟩)] w fun e w' => e = .returned (.tuple #[]) ∧ DPost S p w w' (dstart d) := by
  obtain ⟨m1, m2, cv, h⟩ := h
  have c7 := h.c7
  have c6 := h.c6
  have f6 := h.fz 6
  have f7 := h.fz 7
  have H := Lib.hid h
  clear h
  go_enter Tryz.func26, Tryz.ntmps26
  cases hd : d.down
  · rw [hd] at c7
    have HD := Lib.hid hd
    clear hd
    go_wp2
    first | go_end0 | (simp only [Exit.inBlock, Exit.then]; refine bodyPost_ret (results_none rfl _ _ _) rfl ?_) | refine bodyPost_ret (results_none rfl _ _ _) rfl ?_
    refine ⟨rfl, ?_⟩
    have h1 := heap_setCell_same w p 7 _ _ (.bool false) H.out.blk
    have h2 := heap_setCell_same (w.setCell ⟨p, 7, none⟩ (.bool false)) p 6 _ _ (.int .i64 (-1)) h1
    have hfr : Fr (fun j => j = p) w ((w.setCell ⟨p, 7, none⟩ (.bool false)).setCell ⟨p, 6, none⟩ (.int .i64 (-1))) := Fr.trans (fr_set w p 7 _) (fr_set _ p 6 _) (fun _ _ h => h) (fun _ _ h => h)
    have e : dstart d = { d with fuse := -1, down := false } := by unfold dstart; rw [HD.out]; rfl
    rw [e]
    exact DPost.same ⟨m1, m2, cv, H.out.set hfr h2 ⟨by decide, by decide⟩⟩ (hfr.mono fun j _ hj => by rw [hj]; exact H.out.inS)
  · rw [hd] at c7
    have HD := Lib.hid hd
    clear hd
    go_wp2_with fail
    refine (lose_any (room := d.room) (x6 := .int .i64 d.fuse) (x7 := .bool d.down) H.out.blk H.out.sure).mono ?_
    rintro e w1 ⟨rfl, mb', hp1, ht1, hs1, hap, hfr⟩
    have c7 : w1.cell? ⟨p, 7, none⟩ = some (.bool d.down) := by rw [cell_of_row _ _ 7 _ _ _ hp1]; rfl
    have c6 : w1.cell? ⟨p, 6, none⟩ = some (.int .i64 d.fuse) := by rw [cell_of_row _ _ 6 _ _ _ hp1]; rfl
    have f6 := frozen_of_row w1 p 6 _ _ hp1
    have f7 := frozen_of_row w1 p 7 _ _ hp1
    have HP1 := Lib.hid hp1
    have HT1 := Lib.hid ht1
    have HS1 := Lib.hid hs1
    have HAP := Lib.hid hap
    have HFR := Lib.hid hfr
    clear hp1 ht1 hs1 hap hfr
    go_wp2
    first | go_end0 | (simp only [Exit.inBlock, Exit.then]; refine bodyPost_ret (results_none rfl _ _ _) rfl ?_) | refine bodyPost_ret (results_none rfl _ _ _) rfl ?_
    refine ⟨rfl, ?_⟩
    have hK : DkV w1 (Ext S w w1) p m1 mb' (.slice none 0 0) { d with chs := [] } := ⟨HP1.out, .inl H.out.inS, fun j hj => by
        rcases hj with h1 | ⟨h1, h2⟩
        · exact Nat.lt_of_lt_of_le (H.out.lt j h1) HFR.out.size
        · exact h2, HT1.out, HS1.out, HAP.out, cr_nil _ _, H.out.room, H.out.fuse, fun c hc => (by cases hc), H.out.small⟩
    have h1 := heap_setCell_same w1 p 7 _ _ (.bool false) hK.blk
    have h2 := heap_setCell_same (w1.setCell ⟨p, 7, none⟩ (.bool false)) p 6 _ _ (.int .i64 (-1)) h1
    have hfr : Fr (fun j => j = p) w1 ((w1.setCell ⟨p, 7, none⟩ (.bool false)).setCell ⟨p, 6, none⟩ (.int .i64 (-1))) := Fr.trans (fr_set w1 p 7 _) (fr_set _ p 6 _) (fun _ _ h => h) (fun _ _ h => h)
    have e : dstart d = { ({ d with chs := [] } : DS) with fuse := -1, down := false } := by unfold dstart; rw [HD.out]; rfl
    rw [e]
    exact DPost.trans (HFR.out.mono fun j _ hj => by rw [hj]; exact H.out.inS) (fun j h => .inl h) (fun j h => h.imp id fun h => h.1)
      (DPost.same ⟨m1, mb', _, hK.set hfr h2 ⟨by decide, by decide⟩⟩ (hfr.mono fun j _ hj => by rw [hj]; exact .inl H.out.inS))

end Go.Proofs.YtmjpckodcafjiaaGreat
