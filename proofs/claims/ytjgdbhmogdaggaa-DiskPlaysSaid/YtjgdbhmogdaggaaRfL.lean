/- One act on a disk and the document's: the contract of Do. -/
import Derived.Test.YtjgdbhmogdaggaaRfK
import Derived.Test.YtjgdbhmogdaggaaRfF
import Derived.Deep.CutBlock
namespace Go.Proofs.Ytjgdbhmogdaggaa
open Go.RowKit

theorem Try.infoU8 : (Try.prog.info? 5).map (fun i => (i.zero, i.size, i.bytes)) = some (some (.int .u8 0), 1, 1) := by kernel_rfl
/-- What an act makes of a disk. -/
def dact (d : DS) (a : ActR) : DS :=
  if ((IntKind.u64.wrap a.kind).tmod 10 == 0) = true then (dwrite d a.name a.bytes).1
  else if ((IntKind.u64.wrap a.kind).tmod 10 == 1) = true then (dwrite d a.name a.bytes).1
  else if ((IntKind.u64.wrap a.kind).tmod 10 == 2) = true then (drename d a.name a.to).1
  else if ((IntKind.u64.wrap a.kind).tmod 10 == 3) = true then (dremove d a.name).1
  else if ((IntKind.u64.wrap a.kind).tmod 10 == 4) = true then (dsync d).1
  else if ((IntKind.u64.wrap a.kind).tmod 10 == 5) = true then d
  else if ((IntKind.u64.wrap a.kind).tmod 10 == 6) = true then (if a.n < 0 then d else { d with fuse := a.n })
  else if ((IntKind.u64.wrap a.kind).tmod 10 == 7) = true then dcut d a.keep
  else dstart d
theorem dact_sz (d : DS) (a : ActR) : (dact d a).sz ≤ d.sz + 1 := by
  unfold dact
  repeat' split
  · exact (opOk_write d a.name a.bytes).sz
  · exact (opOk_write d a.name a.bytes).sz
  · exact (opOk_rename d a.name a.to).sz
  · exact (opOk_remove d a.name).sz
  · exact (opOk_sync d).sz
  · omega
  · omega
  · show d.sz ≤ d.sz + 1; omega
  · show (picked d.sure d.chs a.keep).length + 0 ≤ _
    have := picked_length d.chs d.sure a.keep
    unfold DS.sz
    omega
  · show d.sure.length + (if d.down then [] else d.chs).length ≤ _
    unfold DS.sz
    split <;> simp <;> omega
theorem dact_rises {d : DS} (h : Rises d.sure) (a : ActR) : Rises (dact d a).sure := by
  unfold dact
  repeat' split
  · rw [(dwrite_keeps d a.name a.bytes).1]; exact h
  · rw [(dwrite_keeps d a.name a.bytes).1]; exact h
  · rw [(drename_keeps d a.name a.to).1]; exact h
  · rw [(dremove_keeps d a.name).1]; exact h
  · unfold dsync
    split
    · rw [dwork_sure]; exact h
    · exact Rises.shown d.chs h
  · exact h
  · exact h
  · exact h
  · exact Rises.picked d.chs h a.keep
  · exact h

/-- The program's disk and the document's side by side: both are d, and m; nothing of w0 was written. -/
def Both (w0 w : World) (S : Nat → Prop) (p : Nat) (d m : DS) (sv cv : Value) : Prop :=
  Dk w S p d ∧ (∀ j, S j → w0.heap.size ≤ j) ∧ Below w0.heap.size w0 w ∧ Doc w (fun j => ¬ S j) m sv cv

theorem owns_keep {w w' : World} {base : Nat} {e : TypeId} {k : IntKind} {v : Value} {l : List Nat} (h : Owns w base e k v l) (hk : ∀ j, v.ownBlock = some j → w'.heap[j]? = w.heap[j]?) : Owns w' base e k v l := by
  refine ⟨h.1, ?_⟩
  rcases h.2 with h2 | ⟨g, cap, cur, rfl, hb, hg, r⟩
  · exact .inl h2
  · exact .inr ⟨g, cap, cur, rfl, hb, (hk g rfl).trans hg, r⟩
theorem Owns.form2 {w : World} {base : Nat} {e : TypeId} {k : IntKind} {v : Value} {l : List Nat} (h : Owns w base e k v l) : ∃ ao cap, v = .slice ao l.length cap := by
  rcases h.2 with ⟨rfl, hn⟩ | ⟨g, cap, cur, rfl, _⟩
  · exact ⟨none, 0, by rw [hn]⟩
  · exact ⟨_, cap, rfl⟩
/-- A row of bytes of which the first k were turned. -/
def Xs (wA wr : World) (ov : Value) (l : List Nat) (k : Nat) : Prop :=
  Fr (fun j => ov.ownBlock = some j) wA wr ∧ (l = [] ∨ ∃ g cap cur, ov = .slice (some ⟨g, 0, none⟩) l.length cap ∧ wr.heap[g]? = some (.cells cur 5 (0, 0)) ∧ ∀ i, k ≤ i → i < l.length → cur[i]? = some (.int .u8 (l.getD i 0 : Nat)))
theorem Xs.start {w : World} {base : Nat} {v : Value} {l : List Nat} (h : Owns w base 5 .u8 v l) : Xs w w v l 0 := by
  refine ⟨Fr.refl _ _, ?_⟩
  have h0 := h
  rcases h.2 with ⟨_, hn⟩ | ⟨g, cap, cur, rfl, hb, hg, _⟩
  · exact .inl (List.length_eq_zero_iff.1 hn)
  · refine .inr ⟨g, cap, cur, rfl, hg, fun i _ hi => ?_⟩
    have := World.ownsRow.cells h0 (g := g) rfl i (.int .u8 (l.getD i 0 : Nat)) (vals_get .u8 l i hi)
    rw [Addr.add_lit, Nat.zero_add, cell_of_row w g i _ _ _ hg] at this
    exact this
theorem Xs.at {wA wr : World} {ov : Value} {l : List Nat} {k : Nat} (h : Xs wA wr ov l k) (hk : k < l.length) : ∃ g cur, (∃ cap, ov = .slice (some ⟨g, 0, none⟩) l.length cap) ∧ wr.heap[g]? = some (.cells cur 5 (0, 0)) ∧ cur[k]? = some (.int .u8 (l.getD k 0 : Nat)) := by
  rcases h.2 with rfl | ⟨g, cap, cur, hv, hg, hc⟩
  · simp at hk
  · exact ⟨g, cur, ⟨cap, hv⟩, hg, hc k (Nat.le_refl _) hk⟩
theorem Xs.drew {wA wr : World} {ov : Value} {l : List Nat} {k : Nat} (h : Xs wA wr ov l k) (n : Nat) : Xs wA (wr.drewN n) ov l k := ⟨h.1.trans (fr_drew wr n (fun _ => False)) (fun _ _ h => h) fun _ _ h => h.elim, h.2⟩
theorem five_cells {w : World} {p : Nat} {c0 c1 c2 c3 c4 : Value} {e : TypeId} (h : w.heap[p]? = some (.cells #[c0, c1, c2, c3, c4] e (0, 0))) :
    w.cell? ⟨p, 0, none⟩ = some c0 ∧ w.cell? ⟨p, 1, none⟩ = some c1 ∧ w.cell? ⟨p, 2, none⟩ = some c2 ∧ w.cell? ⟨p, 3, none⟩ = some c3 ∧ w.cell? ⟨p, 4, none⟩ = some c4 :=
  ⟨by rw [cell_of_row _ _ 0 _ _ _ h]; rfl, by rw [cell_of_row _ _ 1 _ _ _ h]; rfl, by rw [cell_of_row _ _ 2 _ _ _ h]; rfl, by rw [cell_of_row _ _ 3 _ _ _ h]; rfl, by rw [cell_of_row _ _ 4 _ _ _ h]; rfl⟩
theorem Xs.step {wA wr : World} {g n cap : Nat} {l : List Nat} {k : Nat} (h : Xs wA wr (.slice (some ⟨g, 0, none⟩) n cap) l k) (x : Value) : Xs wA (wr.setCell ⟨g, k, none⟩ x) (.slice (some ⟨g, 0, none⟩) n cap) l (k + 1) := by
  refine ⟨h.1.trans (fr_set wr g k x) (fun _ _ h => h) (fun j _ hj => by subst hj; rfl), ?_⟩
  rcases h.2 with h2 | ⟨g', cap', cur, hv, hg, hc⟩
  · exact .inl h2
  · cases hv
    refine .inr ⟨g, cap, _, rfl, heap_setCell_same wr g k _ _ x hg, fun i h1 h2 => ?_⟩
    rw [Array.getElem?_setIfInBounds_ne (by omega)]
    exact hc i (by omega) h2
/-- What Do keeps at hand, E being the world's size at its beginning: the disk, the document's, the boxes, the bytes of its own. -/
structure DoSt (w0 w : World) (S0 : Nat → Prop) (W : World) (S : Nat → Prop) (p : Nat) (d m : DS) (sv cv : Value) (acts : Array Value) (ov : Value) (own : List Nat) : Prop where
  dk : Dk W S p d
  s0 : ∀ j, S j → w0.heap.size ≤ j
  below : Below w0.heap.size w0 W
  doc : Doc W (fun j => ¬ S j ∧ (j < w.heap.size ∨ w.heap.size + 2 < j) ∧ some j ≠ ov.ownBlock) m sv cv
  box : W.heap[w.heap.size]? = some (.cells #[.int .i64 (m.room : Int), sv, cv, .int .i64 m.fuse, .bool m.down] 33 (0, 0))
  act : W.heap[w.heap.size + 1]? = some (.cells acts 40 (0, 0))
  res : ∃ x0 x1 x2 x3 x4, W.heap[w.heap.size + 2]? = some (.cells #[x0, x1, x2, x3, x4] 33 (0, 0))
  own : Owns W (w.heap.size + 3) 5 .u8 ov own
  nS : ∀ j, S j → (j < w.heap.size ∨ w.heap.size + 2 < j) ∧ some j ≠ ov.ownBlock
  w0w : w0.heap.size ≤ w.heap.size
  fr : Fr S0 w W
  sub : ∀ j, S j → S0 j ∨ w.heap.size ≤ j
section
variable {w0 w W W' : World} {S0 S : Nat → Prop} {p : Nat} {d m d' m' : DS} {sv cv sv' cv' ov : Value} {acts : Array Value} {own : List Nat}
theorem DoSt.lt (h : DoSt w0 w S0 W S p d m sv cv acts ov own) : w.heap.size + 2 < W.heap.size := by
  obtain ⟨_, _, _, _, _, h⟩ := h.res
  exact (Array.getElem?_eq_some_iff.1 h).1
theorem DoSt.old (h : DoSt w0 w S0 W S p d m sv cv acts ov own) (hb : Below W.heap.size W W') : DoSt w0 w S0 W' S p d m sv cv acts ov own := by
  have hl := h.lt
  obtain ⟨x0, x1, x2, x3, x4, hr⟩ := h.res
  exact ⟨h.dk.keep (kept_new hb S), h.s0, h.below.trans (hb.mono h.below.size), h.doc.old hb, (hb.block _ (by omega)).trans h.box, (hb.block _ (by omega)).trans h.act, ⟨x0, x1, x2, x3, x4, (hb.block _ hl).trans hr⟩, owns_keep h.own fun j hj => hb.block j (Owns.lt h.own j hj).2, h.nS, h.w0w, h.fr.trans (fr_below hb (fun _ => False)) (fun _ _ h => h) (fun _ _ h => h.elim), h.sub⟩
/-- Behind an operation of the program. -/
theorem DoSt.prog (h : DoSt w0 w S0 W S p d m sv cv acts ov own) (hp : DPost S p W W' d') : ∃ S', DoSt w0 w S0 W' S' p d' m sv cv acts ov own := by
  obtain ⟨S', hd, hf, hs, ht⟩ := hp
  have hl := h.lt
  obtain ⟨x0, x1, x2, x3, x4, hr⟩ := h.res
  have hn : ∀ j, ¬ S j → j < W.heap.size → ¬ S' j := fun j h1 h2 h3 => by
    rcases ht j h3 with h4 | h4
    · exact h1 h4
    · omega
  have hob : ∀ j, some j = ov.ownBlock → ¬ S j := fun j e hS => (h.nS j hS).2 e
  refine ⟨S', hd, fun j hj => ?_, h.below.trans (hf.below h.below.size fun j hj hS => Nat.not_le_of_lt hj (h.s0 j hS)), ?_, (hf.block _ (by omega) fun hS => by have := (h.nS _ hS).1; omega).trans h.box, (hf.block _ (by omega) fun hS => by have := (h.nS _ hS).1; omega).trans h.act, ⟨x0, x1, x2, x3, x4, (hf.block _ hl fun hS => by have := (h.nS _ hS).1; omega).trans hr⟩, ?_, fun j hj => ?_, h.w0w, h.fr.trans hf (fun _ _ h => h) (fun j hj hS => (h.sub j hS).elim id fun h9 => absurd hj (Nat.not_lt.2 h9)), fun j hj => (ht j hj).elim (h.sub j) fun h9 => .inr (Nat.le_trans h.fr.size h9)⟩
  · rcases ht j hj with h1 | h1
    · exact h.s0 j h1
    · exact Nat.le_trans h.below.size h1
  · exact (h.doc.mono (C := fun j => ¬ S' j ∧ (j < w.heap.size ∨ w.heap.size + 2 < j) ∧ some j ≠ ov.ownBlock) fun j hj hB => ⟨hn j hB.1 hj, hB.2⟩).keep (hf.kept _ fun j _ hj hS => hj.1 (hs j hS))
  · exact owns_keep h.own fun j hj => hf.block j ((Owns.lt h.own j hj).2) (hob j hj.symm)
  · rcases ht j hj with h1 | h1
    · exact h.nS j h1
    · refine ⟨.inr (by omega), fun e => ?_⟩
      have := (Owns.lt h.own j e.symm).2
      omega
/-- Behind an operation of the document's: what it answers lies in the box. -/
theorem DoSt.doc' (h : DoSt w0 w S0 W S p d m sv cv acts ov own) (hb : Below W.heap.size W W') (hd : Doc W' (fun j => (¬ S j ∧ (j < w.heap.size ∨ w.heap.size + 2 < j) ∧ some j ≠ ov.ownBlock) ∨ W.heap.size ≤ j) m' sv' cv') :
    DoSt w0 w S0 (five W' w.heap.size (.int .i64 (m'.room : Int)) sv' cv' (.int .i64 m'.fuse) (.bool m'.down)) S p d m' sv' cv' acts ov own := by
  have h1 := h.old hb
  have hl := h.lt
  have hf := fr_five W' w.heap.size (.int .i64 (m'.room : Int)) sv' cv' (.int .i64 m'.fuse) (.bool m'.down)
  have hob : ov.ownBlock ≠ some w.heap.size := fun e => by have := (Owns.lt h.own _ e).1; omega
  obtain ⟨x0, x1, x2, x3, x4, hr⟩ := h1.res
  have hl1 := h1.lt
  refine ⟨h1.dk.keep (hf.kept S fun j _ hS e => by have := (h.nS j hS).1; omega), h.s0, h1.below.trans (hf.below h1.below.size fun j hj e => by have := h.w0w; omega), ?_, five_blk h1.box _ _ _ _ _, (hf.block _ (by omega) (by omega)).trans h1.act, ⟨x0, x1, x2, x3, x4, (hf.block _ hl1 (by omega)).trans hr⟩,
    owns_keep h1.own fun j hj => hf.block j (Owns.lt h1.own j hj).2 fun e => hob (e ▸ hj), h.nS, h.w0w, h1.fr.trans hf (fun _ _ h => h) (fun j hj e => by omega), h.sub⟩
  refine (hd.mono (C := fun j => ¬ S j ∧ (j < w.heap.size ∨ w.heap.size + 2 < j) ∧ some j ≠ ov.ownBlock) fun j hj hB => ?_).keep (hf.kept _ fun j _ hB e => by omega)
  rcases hB with hB | hB
  · exact hB
  · exact ⟨fun hS => absurd (h.dk.lt hS) (Nat.not_lt.2 hB), .inr (by omega), fun e => absurd (Owns.lt h.own j e.symm).2 (Nat.not_lt.2 hB)⟩
theorem DoSt.ownAt (h : DoSt w0 w S0 W S p d m sv cv acts ov own) : At W (fun j => ¬ S j) .u8 ov own := by
  refine ⟨h.own.reads, ?_⟩
  rcases h.own.2 with ⟨_, hn⟩ | ⟨g, cap, cur, hv, _⟩
  · exact .inl (List.length_eq_zero_iff.1 hn)
  · exact .inr ⟨g, 0, _, cap, hv, fun hS => (h.nS g hS).2 (by rw [hv]; rfl)⟩
theorem DoSt.fuse (h : DoSt w0 w S0 W S p d m sv cv acts ov own) (n : Int) : DoSt w0 w S0 (W.setCell ⟨w.heap.size, 3, none⟩ (.int .i64 n)) S p d { m with fuse := n } sv cv acts ov own := by
  have hl := h.lt
  have hf := fr_set W w.heap.size 3 (.int .i64 n)
  have hob : ov.ownBlock ≠ some w.heap.size := fun e => by have := (Owns.lt h.own _ e).1; omega
  obtain ⟨x0, x1, x2, x3, x4, hr⟩ := h.res
  exact ⟨h.dk.keep (hf.kept S fun j _ hS e => by have := (h.nS j hS).1; omega), h.s0, h.below.trans (hf.below h.below.size fun j hj e => by have := h.w0w; omega), ⟨(h.doc.sure.keep (hf.kept _ fun j _ hB e => by omega)), h.doc.chs.keep (hf.kept _ fun j _ hB e => by omega), h.doc.kind⟩, heap_setCell_same W w.heap.size 3 _ _ _ h.box, (hf.block _ (by omega) (by omega)).trans h.act, ⟨x0, x1, x2, x3, x4, (hf.block _ hl (by omega)).trans hr⟩,
    owns_keep h.own fun j hj => hf.block j (Owns.lt h.own j hj).2 fun e => hob (e ▸ hj), h.nS, h.w0w, h.fr.trans hf (fun _ _ h => h) (fun j hj e => by omega), h.sub⟩
theorem DoSt.dc (h : DoSt w0 w S0 W S p d m sv cv acts ov own) : W.cell? ⟨w.heap.size, 0, none⟩ = some (.int .i64 (m.room : Int)) ∧ W.cell? ⟨w.heap.size, 1, none⟩ = some sv ∧ W.cell? ⟨w.heap.size, 2, none⟩ = some cv ∧ W.cell? ⟨w.heap.size, 3, none⟩ = some (.int .i64 m.fuse) ∧ W.cell? ⟨w.heap.size, 4, none⟩ = some (.bool m.down) ∧ ∀ i, W.frozen? ⟨w.heap.size, i, none⟩ = false :=
  ⟨by rw [cell_of_row _ _ 0 _ _ _ h.box]; rfl, by rw [cell_of_row _ _ 1 _ _ _ h.box]; rfl, by rw [cell_of_row _ _ 2 _ _ _ h.box]; rfl, by rw [cell_of_row _ _ 3 _ _ _ h.box]; rfl, by rw [cell_of_row _ _ 4 _ _ _ h.box]; rfl, fun i => frozen_of_row _ _ i _ _ h.box⟩
theorem DoSt.ac {a0 a1 a2 a3 a4 a5 : Value} (h : DoSt w0 w S0 W S p d m sv cv #[a0, a1, a2, a3, a4, a5] ov own) : W.cell? ⟨w.heap.size + 1, 0, none⟩ = some a0 ∧ W.cell? ⟨w.heap.size + 1, 1, none⟩ = some a1 ∧ W.cell? ⟨w.heap.size + 1, 2, none⟩ = some a2 ∧ W.cell? ⟨w.heap.size + 1, 3, none⟩ = some a3 ∧ W.cell? ⟨w.heap.size + 1, 4, none⟩ = some a4 ∧ W.cell? ⟨w.heap.size + 1, 5, none⟩ = some a5 :=
  six_cells h.act
theorem DoSt.rc (h : DoSt w0 w S0 W S p d m sv cv acts ov own) : ∃ x0 x1 x2 x3 x4, W.cell? ⟨w.heap.size + 1 + 1, 0, none⟩ = some x0 ∧ W.cell? ⟨w.heap.size + 1 + 1, 1, none⟩ = some x1 ∧ W.cell? ⟨w.heap.size + 1 + 1, 2, none⟩ = some x2 ∧ W.cell? ⟨w.heap.size + 1 + 1, 3, none⟩ = some x3 ∧ W.cell? ⟨w.heap.size + 1 + 1, 4, none⟩ = some x4 ∧ ∀ i, W.frozen? ⟨w.heap.size + 1 + 1, i, none⟩ = false := by
  obtain ⟨x0, x1, x2, x3, x4, h⟩ := h.res
  exact ⟨x0, x1, x2, x3, x4, by rw [cell_of_row _ _ 0 _ _ _ h]; rfl, by rw [cell_of_row _ _ 1 _ _ _ h]; rfl, by rw [cell_of_row _ _ 2 _ _ _ h]; rfl, by rw [cell_of_row _ _ 3 _ _ _ h]; rfl, by rw [cell_of_row _ _ 4 _ _ _ h]; rfl, fun i => frozen_of_row _ _ i _ _ h⟩
end

set_option maxHeartbeats 8000000 in
set_option maxRecDepth 100000 in
theorem do_both {w0 w : World} {S : Nat → Prop} {p : Nat} {d : DS} {sv cv : Value} (h : Both w0 w S p d d sv cv) (hsz : d.sz ≤ 500000) (hr : Rises d.sure) {a : ActR} {bv kv : Value} (ha : ActAt w0 (fun j => j < w0.heap.size) a bv kv) (hl : longA a = false) :
    Calls Try.prog 11 #[.pointer (some ⟨p, 0, none⟩), docV d sv cv, .agg #[.int .i64 a.kind, nmV a.name, nmV a.to, bv, .int .i64 a.n, kv]] w fun e w' =>
      ∃ S' sv' cv', e = .returned (.tuple #[docV (dact d a) sv' cv', .bool true]) ∧ Both w0 w' S' p (dact d a) (dact d a) sv' cv' ∧ Fr S w w' ∧ (∀ j, S' j → S j ∨ w.heap.size ≤ j) := by
  obtain ⟨hdk, hs0, hb0, hdoc⟩ := h
  obtain ⟨⟨aos, caps, rfl⟩, aoc, capc, rfl⟩ := hdoc.val
  obtain ⟨aob, capb, rfl, _, _, _⟩ := ha.bytes.reads.val
  obtain ⟨aok, capk, rfl, _, _, _⟩ := id ha.keep
  rw [List.length_map]
  have HKV : Hid (RowV w0 (fun j => j < w0.heap.size) (.slice aok a.keep.length capk) (a.keep.map Value.bool)) := Lib.hid (by have := ha.keep; rw [List.length_map] at this; exact this)
  have HBV := Lib.hid ha.bytes
  have HBYT := Lib.hid ha.byte
  have HNL : Hid (a.name.length ≤ 9223372036854775807) := Lib.hid ha.name
  have HTL : Hid (a.to.length ≤ 9223372036854775807) := Lib.hid ha.to
  have HBL : Hid (a.bytes.length ≤ 66000) := Lib.hid (by
    unfold longA at hl
    simp only [Bool.or_eq_false_iff, decide_eq_false_iff_not] at hl
    omega)
  obtain ⟨d', hd'⟩ : ∃ d', d' = dact d a := ⟨_, rfl⟩
  rw [← hd']
  have HN := Lib.hid ha.n
  obtain ⟨kind, name, tu, bytes, nn, keep⟩ := a
  simp only [] at HKV HBV HBYT HNL HTL HBL HN ⊢
  obtain ⟨bn, hbn⟩ : ∃ s, Value.string s = nmV name := ⟨_, rfl⟩
  obtain ⟨bt, hbt⟩ : ∃ s, Value.string s = nmV tu := ⟨_, rfl⟩
  rw [← hbn, ← hbt]
  have HSN := Lib.hid hbn
  have HST := Lib.hid hbt
  have hw0 : w0.heap.size ≤ w.heap.size := hb0.size
  obtain ⟨zr, hzr⟩ : ∃ zr : Int, zr = (d.room : Int) := ⟨_, rfl⟩
  obtain ⟨W4, hW4⟩ : ∃ W4, W4 = (((w.alloc (.cells #[.int .i64 zr, .slice aos d.sure.length caps, .slice aoc d.chs.length capc, .int .i64 d.fuse, .bool d.down] 33)).alloc (.cells #[.int .i64 kind, .string bn, .string bt, .slice aob bytes.length capb, .int .i64 nn, .slice aok keep.length capk] 40)).alloc (.cells #[.int .i64 0, .slice none 0 0, .slice none 0 0, .int .i64 0, .bool false] 33)).alloc (.cells #[] 5) := ⟨_, rfl⟩
  have hb4 : Below w.heap.size w W4 := by rw [hW4]; exact ((((Below.refl _ _).alloc (Nat.le_refl _) _).alloc (by simp) _).alloc (by simp <;> omega) _).alloc (by simp <;> omega) _
  have hs4 : W4.heap.size = w.heap.size + 3 + 1 := by rw [hW4]; simp
  have hD4 : W4.heap[w.heap.size]? = some (.cells #[.int .i64 zr, .slice aos d.sure.length caps, .slice aoc d.chs.length capc, .int .i64 d.fuse, .bool d.down] 33 (0, 0)) := by
    rw [hW4, Below.heap_alloc _ _ _ (by simp <;> omega), Below.heap_alloc _ _ _ (by simp <;> omega), Below.heap_alloc _ _ _ (by simp <;> omega)]
    exact alloc_at _ rfl
  have hA4 : W4.heap[w.heap.size + 1]? = some (.cells #[.int .i64 kind, .string bn, .string bt, .slice aob bytes.length capb, .int .i64 nn, .slice aok keep.length capk] 40 (0, 0)) := by
    rw [hW4, Below.heap_alloc _ _ _ (by simp <;> omega), Below.heap_alloc _ _ _ (by simp <;> omega)]
    exact alloc_at _ (by simp)
  have hR4 : W4.heap[w.heap.size + 2]? = some (.cells #[.int .i64 0, .slice none 0 0, .slice none 0 0, .int .i64 0, .bool false] 33 (0, 0)) := by
    rw [hW4, Below.heap_alloc _ _ _ (by simp <;> omega)]
    exact alloc_at _ (by simp)
  have hO4 : Owns W4 (w.heap.size + 3) 5 .u8 (.slice (some ⟨w.heap.size + 3, 0, none⟩) 0 0) [] := by
    have h3 := owns_empty (((w.alloc (.cells #[.int .i64 zr, .slice aos d.sure.length caps, .slice aoc d.chs.length capc, .int .i64 d.fuse, .bool d.down] 33)).alloc (.cells #[.int .i64 kind, .string bn, .string bt, .slice aob bytes.length capb, .int .i64 nn, .slice aok keep.length capk] 40)).alloc (.cells #[.int .i64 0, .slice none 0 0, .slice none 0 0, .int .i64 0, .bool false] 33)) (w.heap.size + 3) 5 .u8 (by simp)
    rw [hW4]
    simpa using h3
  have HST4 : Hid (∀ ov w5, Owns w5 (w.heap.size + 3) 5 .u8 ov bytes → W4.grownBy w5 (some (w.heap.size + 3)) → DoSt w0 w S w5 S p d d (.slice aos d.sure.length caps) (.slice aoc d.chs.length capc) #[.int .i64 kind, .string bn, .string bt, .slice aob bytes.length capb, .int .i64 nn, .slice aok keep.length capk] ov bytes) := Lib.hid fun ov w5 ho hg => by
    have hb5 : Below w.heap.size w w5 := hb4.grown hg (by omega) (fun j hj => by cases hj; omega)
    have hk : ∀ j, j < w.heap.size + 3 → w5.heap[j]? = W4.heap[j]? := fun j hj => hg.block j (by omega) (fun e => by cases e; omega)
    subst hzr
    exact ⟨hdk.keep (kept_new hb5 S), hs0, hb0.trans (hb5.mono hw0), ((hdoc.mono (C := fun j => ¬ S j ∧ j < w.heap.size) fun j hj hB => ⟨hB, hj⟩).keep (kept_new hb5 _)).mono fun j _ hj => ⟨hj.1, .inl hj.2, fun e => by have := (Owns.lt ho j e.symm).1; omega⟩,
      (hk _ (by omega)).trans hD4, (hk _ (by omega)).trans hA4, ⟨_, _, _, _, _, (hk _ (by omega)).trans hR4⟩, ho, fun j hj => ⟨.inl (hdk.lt hj), fun e => by have := (Owns.lt ho j e.symm).1; have := hdk.lt hj; omega⟩, hw0, fr_below hb5 _, fun _ h => .inl h⟩
  have HRB : Hid (Reads W4 .u8 (.slice aob bytes.length capb) bytes) := Lib.hid (((HBV.out.keep (kept_below hb0)).keep (kept_new hb4 _)).reads)
  have HO4 := Lib.hid hO4
  have HS4 := Lib.hid hs4
  have HW4 := Lib.hid hW4
  have HSZ := Lib.hid hsz
  have HRI := Lib.hid hr
  have HD' := Lib.hid hd'
  have HLN : Hid (name.length ≤ 60) := Lib.hid (by
    unfold longA at hl
    simp only [Bool.or_eq_false_iff, decide_eq_false_iff_not] at hl
    omega)
  have HFU : Hid (-1 ≤ d.fuse ∧ d.fuse ≤ 9223372036854775807) := Lib.hid (by obtain ⟨_, _, _, hk⟩ := hdk; exact hk.fuse)
  have HTO : Hid (∀ n b, b.length ≤ 65536 → tot (fput d.shown n b) < 4611686018427387904) := Lib.hid fun n b hb => by
    obtain ⟨_, _, _, hk⟩ := hdk
    have h1 := tot_put hk.shown.apart n b
    have h2 := small_tot (hk.smallShown) (n := 500000) (Nat.le_trans (lenShown d) hsz) (by decide)
    have h3 := tot_le fun f hf => (hk.smallShown f hf).1
    have h4 : d.shown.length * 65536 ≤ 500000 * 65536 := Nat.mul_le_mul_right _ (Nat.le_trans (lenShown d) hsz)
    omega
  unfold docV
  rw [← hzr]
  have HZR := Lib.hid hzr
  have HSZ' : Hid (d'.sz ≤ 600000) := Lib.hid (by rw [HD'.out]; have := dact_sz d ⟨kind, name, tu, bytes, nn, keep⟩; have := HSZ.out; omega)
  have HRI' : Hid (Rises d'.sure) := Lib.hid (by rw [HD'.out]; exact dact_rises HRI.out _)
  clear ha hl hdk hs0 hb0 hdoc hsz hr hd' hbn hbt hzr hW4 hb4 hs4 hD4 hA4 hR4 hO4
  go_enter Try.func11, Try.ntmps11
  go_upto_block 0 with (at_builtin; rw [← HW4.out]; go_must (refine wpList_app _ rfl _ _ 37 rfl (w.heap.size + 3) 5 (.int .u8 0) 1 Try.underlying37 Try.infoU8 rfl .u8 _ [] rfl HO4.out _ bytes rfl HRB.out (by decide) (by have := HBL.out; simp; omega) (by rw [HS4.out]; omega) ?_))
  intro ov w5 ho5 hg5
  have HDS := Lib.hid (HST4.out ov w5 ho5 hg5)
  obtain ⟨aoo, capo, rfl⟩ := Owns.form2 ho5
  clear ho5 hg5
  obtain ⟨q0, q1, q2, q3, q4, qf⟩ := HDS.out.dc
  obtain ⟨a0, a1, a2, a3, a4, a5⟩ := HDS.out.ac
  go_upto_block 0 with fail
  go_cut [8, 9] from 10 (fun ov' ok wx => ok = .bool true ∧ ov' = .slice aoo bytes.length capo ∧ ∃ S' sv' cv', DoSt w0 w S wx S' p d' d' sv' cv' #[.int .i64 kind, .string bn, .string bt, .slice aob bytes.length capb, .int .i64 nn, .slice aok keep.length capk] (.slice aoo bytes.length capo) bytes)
  case first =>
    cases z0 : ((IntKind.u64.wrap kind).tmod 10 == 0)
    rotate_left
    · have HE : Hid (d' = (dwrite d name bytes).1) := Lib.hid (by rw [HD'.out]; unfold dact; simp only []; rw [if_pos z0])
      obtain ⟨c1, hc1⟩ : ∃ c1, c1 = (dwrite d name bytes).2 := ⟨_, rfl⟩
      obtain ⟨bx, hbx⟩ : ∃ s, s = txt bytes := ⟨_, rfl⟩
      have hrd : Reads w5 .u8 (.slice aob bytes.length capb) bytes := (HBV.out.keep (kept_below HDS.out.below)).reads
      have qc : (convert 37 9 (.slice aob bytes.length capb)).run Try.prog w5 = .ok (.string bx) w5 := by rw [hbx]; exact conv_reads _ _ _ hrd
      have hcall := rwrite_any (HDS.out.doc) (Nat.le_trans HSZ.out (by decide)) HFU.out name HNL.out bytes (HTO.out name bytes)
      unfold DocPost at hcall
      rw [← HE.out, ← hc1] at hcall
      unfold docV at hcall
      rw [← HSN.out] at hcall
      rw [← hbx] at hcall
      have HC := Lib.hid hcall
      have HC1 := Lib.hid hc1
      have HBXX := Lib.hid hbx
      clear hcall hc1 hbx hrd
      go_wp2_with fail
      refine HC.out.mono ?_
      rintro e w6 ⟨sv1, cv1, rfl, hdoc6, hb6⟩
      obtain ⟨⟨ao1, cap1, rfl⟩, ao2, cap2, rfl⟩ := hdoc6.val
      have hds6 := HDS.out.old hb6
      obtain ⟨W7, hW7⟩ : ∃ W7, W7 = five w6 w.heap.size (.int .i64 (d'.room : Int)) (.slice ao1 d'.sure.length cap1) (.slice ao2 d'.chs.length cap2) (.int .i64 d'.fuse) (.bool d'.down) := ⟨_, rfl⟩
      have HDS7 : Hid (DoSt w0 w S W7 S p d d' (.slice ao1 d'.sure.length cap1) (.slice ao2 d'.chs.length cap2) #[.int .i64 kind, .string bn, .string bt, .slice aob bytes.length capb, .int .i64 nn, .slice aok keep.length capk] (.slice aoo bytes.length capo) bytes) := Lib.hid (by rw [hW7]; exact HDS.out.doc' hb6 hdoc6)
      clear q0 q1 q2 q3 q4 qf a0 a1 a2 a3 a4 a5
      obtain ⟨q0, q1, q2, q3, q4, qf⟩ := hds6.dc
      obtain ⟨a0, a1, a2, a3, a4, a5⟩ := hds6.ac
      have hpc := writeD_any HDS7.out.dk (by have := HSZ.out; omega) (n := name) HNL.out (HDS7.out.ownAt) HBYT.out
      try unfold WPost at hpc
      rw [← HE.out, ← HC1.out] at hpc
      rw [← HSN.out] at hpc
      have HPC := Lib.hid hpc
      unfold five at hW7
      have HW7 := Lib.hid hW7
      clear hpc hW7 hds6 hdoc6 hb6
      go_wp2_with fail
      rw [← HW7.out]
      refine HPC.out.mono ?_
      rintro e w8 ⟨rfl, hp8⟩
      obtain ⟨S', hs8⟩ := HDS7.out.prog hp8
      have HS8 := Lib.hid hs8
      clear hp8 hs8
      go_wp2_with fail
      refine (num_any c1 _).mono ?_
      rintro e w9 ⟨rfl, rfl⟩
      go_wp2
      go_meet
      case rel => exact ⟨rfl, rfl, S', _, _, HS8.out⟩
    cases z1 : ((IntKind.u64.wrap kind).tmod 10 == 1)
    rotate_left
    · have HE : Hid (d' = (dwrite d name bytes).1) := Lib.hid (by rw [HD'.out]; unfold dact; simp only []; rw [if_neg (by rw [z0]; decide), if_pos z1])
      obtain ⟨c1, hc1⟩ : ∃ c1, c1 = (dwrite d name bytes).2 := ⟨_, rfl⟩
      obtain ⟨bx, hbx⟩ : ∃ s, s = txt bytes := ⟨_, rfl⟩
      have hrd : Reads w5 .u8 (.slice aob bytes.length capb) bytes := (HBV.out.keep (kept_below HDS.out.below)).reads
      have qc : (convert 37 9 (.slice aob bytes.length capb)).run Try.prog w5 = .ok (.string bx) w5 := by rw [hbx]; exact conv_reads _ _ _ hrd
      have hcall := rwrite_any (HDS.out.doc) (Nat.le_trans HSZ.out (by decide)) HFU.out name HNL.out bytes (HTO.out name bytes)
      unfold DocPost at hcall
      rw [← HE.out, ← hc1] at hcall
      unfold docV at hcall
      rw [← HSN.out] at hcall
      rw [← hbx] at hcall
      have HC := Lib.hid hcall
      have HC1 := Lib.hid hc1
      have HBXX := Lib.hid hbx
      clear hcall hc1 hbx hrd
      go_wp2_with fail
      refine HC.out.mono ?_
      rintro e w6 ⟨sv1, cv1, rfl, hdoc6, hb6⟩
      obtain ⟨⟨ao1, cap1, rfl⟩, ao2, cap2, rfl⟩ := hdoc6.val
      have hds6 := HDS.out.old hb6
      obtain ⟨W7, hW7⟩ : ∃ W7, W7 = five w6 w.heap.size (.int .i64 (d'.room : Int)) (.slice ao1 d'.sure.length cap1) (.slice ao2 d'.chs.length cap2) (.int .i64 d'.fuse) (.bool d'.down) := ⟨_, rfl⟩
      have HDS7 : Hid (DoSt w0 w S W7 S p d d' (.slice ao1 d'.sure.length cap1) (.slice ao2 d'.chs.length cap2) #[.int .i64 kind, .string bn, .string bt, .slice aob bytes.length capb, .int .i64 nn, .slice aok keep.length capk] (.slice aoo bytes.length capo) bytes) := Lib.hid (by rw [hW7]; exact HDS.out.doc' hb6 hdoc6)
      clear q0 q1 q2 q3 q4 qf a0 a1 a2 a3 a4 a5
      obtain ⟨q0, q1, q2, q3, q4, qf⟩ := hds6.dc
      obtain ⟨a0, a1, a2, a3, a4, a5⟩ := hds6.ac
      have hpc := writeD_any HDS7.out.dk (by have := HSZ.out; omega) (n := name) HNL.out (HDS7.out.ownAt) HBYT.out
      try unfold WPost at hpc
      rw [← HE.out, ← HC1.out] at hpc
      rw [← HSN.out] at hpc
      have HPC := Lib.hid hpc
      unfold five at hW7
      have HW7 := Lib.hid hW7
      clear hpc hW7 hds6 hdoc6 hb6
      go_wp2_with fail
      rw [← HW7.out]
      refine HPC.out.mono ?_
      rintro e w8 ⟨rfl, hp8⟩
      obtain ⟨S', hs8⟩ := HDS7.out.prog hp8
      have HS8 := Lib.hid hs8
      clear hp8 hs8
      go_wp2_with fail
      refine (num_any c1 _).mono ?_
      rintro e w9 ⟨rfl, rfl⟩
      go_wp2
      go_meet
      case rel => exact ⟨rfl, rfl, S', _, _, HS8.out⟩
    cases z2 : ((IntKind.u64.wrap kind).tmod 10 == 2)
    rotate_left
    · have HE : Hid (d' = (drename d name tu).1) := Lib.hid (by rw [HD'.out]; unfold dact; simp only []; rw [if_neg (by rw [z0]; decide), if_neg (by rw [z1]; decide), if_pos z2])
      obtain ⟨c1, hc1⟩ : ∃ c1, c1 = (drename d name tu).2 := ⟨_, rfl⟩
      have hcall := rrename_any (HDS.out.doc) (Nat.le_trans HSZ.out (by decide)) HFU.out name tu HNL.out HTL.out
      unfold DocPost at hcall
      rw [← HE.out, ← hc1] at hcall
      unfold docV at hcall
      rw [← HSN.out] at hcall
      rw [← HST.out] at hcall
      have HC := Lib.hid hcall
      have HC1 := Lib.hid hc1
      clear hcall hc1
      go_wp2_with fail
      refine HC.out.mono ?_
      rintro e w6 ⟨sv1, cv1, rfl, hdoc6, hb6⟩
      obtain ⟨⟨ao1, cap1, rfl⟩, ao2, cap2, rfl⟩ := hdoc6.val
      have hds6 := HDS.out.old hb6
      obtain ⟨W7, hW7⟩ : ∃ W7, W7 = five w6 w.heap.size (.int .i64 (d'.room : Int)) (.slice ao1 d'.sure.length cap1) (.slice ao2 d'.chs.length cap2) (.int .i64 d'.fuse) (.bool d'.down) := ⟨_, rfl⟩
      have HDS7 : Hid (DoSt w0 w S W7 S p d d' (.slice ao1 d'.sure.length cap1) (.slice ao2 d'.chs.length cap2) #[.int .i64 kind, .string bn, .string bt, .slice aob bytes.length capb, .int .i64 nn, .slice aok keep.length capk] (.slice aoo bytes.length capo) bytes) := Lib.hid (by rw [hW7]; exact HDS.out.doc' hb6 hdoc6)
      clear q0 q1 q2 q3 q4 qf a0 a1 a2 a3 a4 a5
      obtain ⟨q0, q1, q2, q3, q4, qf⟩ := hds6.dc
      obtain ⟨a0, a1, a2, a3, a4, a5⟩ := hds6.ac
      have hpc := renameD_any HDS7.out.dk (by have := HSZ.out; omega) (n := name) (n2 := tu) HNL.out HTL.out
      try unfold WPost at hpc
      rw [← HE.out, ← HC1.out] at hpc
      rw [← HSN.out] at hpc
      rw [← HST.out] at hpc
      have HPC := Lib.hid hpc
      unfold five at hW7
      have HW7 := Lib.hid hW7
      clear hpc hW7 hds6 hdoc6 hb6
      go_wp2_with fail
      rw [← HW7.out]
      refine HPC.out.mono ?_
      rintro e w8 ⟨rfl, hp8⟩
      obtain ⟨S', hs8⟩ := HDS7.out.prog hp8
      have HS8 := Lib.hid hs8
      clear hp8 hs8
      go_wp2_with fail
      refine (num_any c1 _).mono ?_
      rintro e w9 ⟨rfl, rfl⟩
      go_wp2
      go_meet
      case rel => exact ⟨rfl, rfl, S', _, _, HS8.out⟩
    cases z3 : ((IntKind.u64.wrap kind).tmod 10 == 3)
    rotate_left
    · have HE : Hid (d' = (dremove d name).1) := Lib.hid (by rw [HD'.out]; unfold dact; simp only []; rw [if_neg (by rw [z0]; decide), if_neg (by rw [z1]; decide), if_neg (by rw [z2]; decide), if_pos z3])
      obtain ⟨c1, hc1⟩ : ∃ c1, c1 = (dremove d name).2 := ⟨_, rfl⟩
      have hcall := rremove_any (HDS.out.doc) (Nat.le_trans HSZ.out (by decide)) HFU.out name HNL.out
      unfold DocPost at hcall
      rw [← HE.out, ← hc1] at hcall
      unfold docV at hcall
      rw [← HSN.out] at hcall
      have HC := Lib.hid hcall
      have HC1 := Lib.hid hc1
      clear hcall hc1
      go_wp2_with fail
      refine HC.out.mono ?_
      rintro e w6 ⟨sv1, cv1, rfl, hdoc6, hb6⟩
      obtain ⟨⟨ao1, cap1, rfl⟩, ao2, cap2, rfl⟩ := hdoc6.val
      have hds6 := HDS.out.old hb6
      obtain ⟨W7, hW7⟩ : ∃ W7, W7 = five w6 w.heap.size (.int .i64 (d'.room : Int)) (.slice ao1 d'.sure.length cap1) (.slice ao2 d'.chs.length cap2) (.int .i64 d'.fuse) (.bool d'.down) := ⟨_, rfl⟩
      have HDS7 : Hid (DoSt w0 w S W7 S p d d' (.slice ao1 d'.sure.length cap1) (.slice ao2 d'.chs.length cap2) #[.int .i64 kind, .string bn, .string bt, .slice aob bytes.length capb, .int .i64 nn, .slice aok keep.length capk] (.slice aoo bytes.length capo) bytes) := Lib.hid (by rw [hW7]; exact HDS.out.doc' hb6 hdoc6)
      clear q0 q1 q2 q3 q4 qf a0 a1 a2 a3 a4 a5
      obtain ⟨q0, q1, q2, q3, q4, qf⟩ := hds6.dc
      obtain ⟨a0, a1, a2, a3, a4, a5⟩ := hds6.ac
      have hpc := removeD_any HDS7.out.dk (by have := HSZ.out; omega) (n := name) HNL.out
      try unfold WPost at hpc
      rw [← HE.out, ← HC1.out] at hpc
      rw [← HSN.out] at hpc
      have HPC := Lib.hid hpc
      unfold five at hW7
      have HW7 := Lib.hid hW7
      clear hpc hW7 hds6 hdoc6 hb6
      go_wp2_with fail
      rw [← HW7.out]
      refine HPC.out.mono ?_
      rintro e w8 ⟨rfl, hp8⟩
      obtain ⟨S', hs8⟩ := HDS7.out.prog hp8
      have HS8 := Lib.hid hs8
      clear hp8 hs8
      go_wp2_with fail
      refine (num_any c1 _).mono ?_
      rintro e w9 ⟨rfl, rfl⟩
      go_wp2
      go_meet
      case rel => exact ⟨rfl, rfl, S', _, _, HS8.out⟩
    cases z4 : ((IntKind.u64.wrap kind).tmod 10 == 4)
    rotate_left
    · have HE : Hid (d' = (dsync d).1) := Lib.hid (by rw [HD'.out]; unfold dact; simp only []; rw [if_neg (by rw [z0]; decide), if_neg (by rw [z1]; decide), if_neg (by rw [z2]; decide), if_neg (by rw [z3]; decide), if_pos z4])
      obtain ⟨c1, hc1⟩ : ∃ c1, c1 = (dsync d).2 := ⟨_, rfl⟩
      have hcall := rsync_any (HDS.out.doc) (Nat.le_trans HSZ.out (by decide)) HFU.out
      unfold DocPost at hcall
      rw [← HE.out, ← hc1] at hcall
      unfold docV at hcall
      have HC := Lib.hid hcall
      have HC1 := Lib.hid hc1
      clear hcall hc1
      go_wp2_with fail
      refine HC.out.mono ?_
      rintro e w6 ⟨sv1, cv1, rfl, hdoc6, hb6⟩
      obtain ⟨⟨ao1, cap1, rfl⟩, ao2, cap2, rfl⟩ := hdoc6.val
      have hds6 := HDS.out.old hb6
      obtain ⟨W7, hW7⟩ : ∃ W7, W7 = five w6 w.heap.size (.int .i64 (d'.room : Int)) (.slice ao1 d'.sure.length cap1) (.slice ao2 d'.chs.length cap2) (.int .i64 d'.fuse) (.bool d'.down) := ⟨_, rfl⟩
      have HDS7 : Hid (DoSt w0 w S W7 S p d d' (.slice ao1 d'.sure.length cap1) (.slice ao2 d'.chs.length cap2) #[.int .i64 kind, .string bn, .string bt, .slice aob bytes.length capb, .int .i64 nn, .slice aok keep.length capk] (.slice aoo bytes.length capo) bytes) := Lib.hid (by rw [hW7]; exact HDS.out.doc' hb6 hdoc6)
      clear q0 q1 q2 q3 q4 qf a0 a1 a2 a3 a4 a5
      obtain ⟨q0, q1, q2, q3, q4, qf⟩ := hds6.dc
      obtain ⟨a0, a1, a2, a3, a4, a5⟩ := hds6.ac
      have hpc := syncD_any HDS7.out.dk (by have := HSZ.out; omega)
      try unfold WPost at hpc
      rw [← HE.out, ← HC1.out] at hpc
      have HPC := Lib.hid hpc
      unfold five at hW7
      have HW7 := Lib.hid hW7
      clear hpc hW7 hds6 hdoc6 hb6
      go_wp2_with fail
      rw [← HW7.out]
      refine HPC.out.mono ?_
      rintro e w8 ⟨rfl, hp8⟩
      obtain ⟨S', hs8⟩ := HDS7.out.prog hp8
      have HS8 := Lib.hid hs8
      clear hp8 hs8
      go_wp2_with fail
      refine (num_any c1 _).mono ?_
      rintro e w9 ⟨rfl, rfl⟩
      go_wp2
      go_meet
      case rel => exact ⟨rfl, rfl, S', _, _, HS8.out⟩
    cases z5 : ((IntKind.u64.wrap kind).tmod 10 == 5)
    rotate_left
    · have HE : Hid (d' = d) := Lib.hid (by rw [HD'.out]; unfold dact; simp only []; rw [if_neg (by rw [z0]; decide), if_neg (by rw [z1]; decide), if_neg (by rw [z2]; decide), if_neg (by rw [z3]; decide), if_neg (by rw [z4]; decide), if_pos z5])
      obtain ⟨t, hte⟩ : ∃ t, t = (dread d name).1 := ⟨_, rfl⟩
      obtain ⟨c1, hc1⟩ : ∃ c1, c1 = (dread d name).2 := ⟨_, rfl⟩
      have hcall := rread_any HDS.out.doc (Nat.le_trans HSZ.out (by decide)) name
      rw [← hte, ← hc1] at hcall
      unfold docV at hcall
      rw [← HSN.out] at hcall
      obtain ⟨bx, hbx⟩ : ∃ s, s = txt t := ⟨_, rfl⟩
      rw [← hbx] at hcall
      have HC := Lib.hid hcall
      have hdr : dread d name = (t, c1) := by rw [hte, hc1]
      have HDR := Lib.hid hdr
      have HBXX := Lib.hid hbx
      clear hcall hc1 hte hdr hbx
      go_wp2_with fail
      refine HC.out.mono ?_
      rintro e w6 ⟨rfl, hb6⟩
      have hds6 := HDS.out.old hb6
      have hpc := readD_any hds6.dk (n := name) (by have := HLN.out; omega)
      rw [← HSN.out, HDR.out] at hpc
      have HPC := Lib.hid hpc
      have HDS6 := Lib.hid hds6
      clear q0 q1 q2 q3 q4 qf a0 a1 a2 a3 a4 a5
      obtain ⟨a0, a1, a2, a3, a4, a5⟩ := hds6.ac
      clear hpc hds6 hb6
      go_wp2_with fail
      refine HPC.out.mono ?_
      rintro e w7 ⟨bv, rfl, ho7, hb7⟩
      have hrd := ho7.reads
      have hxs := Xs.start ho7
      obtain ⟨bo, bc, rfl⟩ := Owns.form2 ho7
      have qc : (convert 37 9 (.slice bo t.length bc)).run Try.prog w7 = .ok (.string bx) w7 := by rw [HBXX.out]; exact conv_reads _ _ _ hrd
      have HXS := Lib.hid hxs
      have HB7 := Lib.hid hb7
      have HOB : Hid (∀ j, (Value.slice bo t.length bc).ownBlock = some j → w6.heap.size ≤ j) := Lib.hid fun j hj => (Owns.lt ho7 j hj).1
      have HTL2 : Hid (t.length ≤ 9223372036854775807) := Lib.hid (by obtain ⟨_, _, hv, _, hm, _⟩ := hrd.val; cases hv; simp only [maxLen] at *; omega)
      clear ho7 hb7 hrd hxs a0 a1 a2 a3 a4 a5
      obtain ⟨er, her⟩ : ∃ er, er = errV c1 := ⟨_, rfl⟩
      simp only [← her]
      have HER := Lib.hid her
      clear her
      go_wp2_with fail
      rw [HER.out]
      refine (num_any c1 _).mono ?_
      rintro e w9 ⟨rfl, rfl⟩
      go_wp2
      go_loopw [15, 127] (fun _ i wr => ∃ k : Nat, k ≤ t.length ∧ i = .int .i64 (k : Int) ∧ Xs w7 wr (.slice bo t.length bc) t k)
        (fun _ i _ => t.length - (intOf i).toNat)
      case atStart => exact ⟨0, Nat.zero_le _, rfl, HXS.out⟩
      case round =>
        obtain ⟨k, hk, rfl, hx⟩ := hrel
        by_cases hlt : k < t.length
        · obtain ⟨g, cur, hov, hg, hcur⟩ := hx.at hlt
          cases hov
          have e0 : wr.cell? ⟨g, k, none⟩ = some (.int .u8 (t.getD k 0 : Nat)) := by rw [cell_of_row _ _ k _ _ _ hg]; exact hcur
          have f0 : wr.frozen? ⟨g, k, none⟩ = false := frozen_of_row _ _ k _ _ hg
          have hlti : (k : Int) < t.length := by omega
          have HK := Lib.hid hlt
          have HX := Lib.hid hx
          clear hg hcur hx
          go_wp2
          go_roundw
          case rel => exact ⟨k + 1, HK.out, (by first | exact inc_eq HK.out HTL2.out | rfl), HX.out.step _⟩
          case measure => first | exact inc_meas HK.out HTL2.out | (have := HK.out; simp [intOf]; omega)
        · have HF : Hid (Below w6.heap.size w6 wr) := Lib.hid (HB7.out.trans (hx.1.below HB7.out.size fun j hj e => by have := HOB.out j e; omega))
          have hlt' : ¬ (k : Int) < t.length := by omega
          clear hx
          go_wp2
          go_meet
          case rel => exact ⟨rfl, rfl, S, _, _, by rw [HE.out]; exact HDS6.out.old HF.out⟩
    cases z6 : ((IntKind.u64.wrap kind).tmod 10 == 6)
    rotate_left
    · have hfc := fuseD_any HDS.out.dk nn (by have := HN.out; omega)
      by_cases hneg : nn < 0
      · have HE : Hid (d' = d) := Lib.hid (by rw [HD'.out]; unfold dact; simp only []; rw [if_neg (by rw [z0]; decide), if_neg (by rw [z1]; decide), if_neg (by rw [z2]; decide), if_neg (by rw [z3]; decide), if_neg (by rw [z4]; decide), if_neg (by rw [z5]; decide), if_pos z6]; rw [if_pos hneg])
        rw [if_pos hneg, if_pos hneg] at hfc
        have HFC := Lib.hid hfc
        clear hfc
        go_wp2_with fail
        refine HFC.out.mono ?_
        rintro e w6 ⟨rfl, hd6, hf6⟩
        obtain ⟨S', hs8⟩ := HDS.out.prog (DPost.same hd6 (hf6.mono fun j _ hj => by rw [hj]; exact HDS.out.dk.inS))
        have HS8 := Lib.hid hs8
        clear hd6 hf6 q0 q1 q2 q3 q4 qf a0 a1 a2 a3 a4 a5
        obtain ⟨a0, a1, a2, a3, a4, a5⟩ := hs8.ac
        clear hs8
        have hia : ∀ w, Calls Try.prog 18 #[errV 1, .int .i64 1] w fun e w' => e = .returned (.bool true) ∧ w = w' := fun w => is_any 1 w
        have HIA := Lib.hid hia
        clear hia
        go_wp2_with fail
        refine (HIA.out _).mono ?_
        rintro e w9 ⟨rfl, rfl⟩
        go_wp2
        go_meet
        case rel => exact ⟨rfl, rfl, S', _, _, by rw [HE.out]; exact HS8.out⟩
      · have HE : Hid (d' = { d with fuse := nn }) := Lib.hid (by rw [HD'.out]; unfold dact; simp only []; rw [if_neg (by rw [z0]; decide), if_neg (by rw [z1]; decide), if_neg (by rw [z2]; decide), if_neg (by rw [z3]; decide), if_neg (by rw [z4]; decide), if_neg (by rw [z5]; decide), if_pos z6]; rw [if_neg hneg])
        rw [if_neg hneg, if_neg hneg, errV_zero] at hfc
        have HFC := Lib.hid hfc
        clear hfc
        go_wp2_with fail
        refine HFC.out.mono ?_
        rintro e w6 ⟨rfl, hd6, hf6⟩
        obtain ⟨S', hs8⟩ := HDS.out.prog (DPost.same hd6 (hf6.mono fun j _ hj => by rw [hj]; exact HDS.out.dk.inS))
        have HS8 := Lib.hid hs8
        clear hd6 hf6 q0 q1 q2 q3 q4 qf a0 a1 a2 a3 a4 a5
        obtain ⟨a0, a1, a2, a3, a4, a5⟩ := hs8.ac
        obtain ⟨q0, q1, q2, q3, q4, qf⟩ := hs8.dc
        clear hs8
        go_wp2_with fail
        go_region
        all_goals
          go_wp2
          go_meet
          case rel => exact ⟨rfl, rfl, S', _, _, by rw [HE.out]; first | exact HS8.out.fuse nn | exact (HS8.out.fuse nn).old (below_dK (Below.refl _ _)) | exact (HS8.out.fuse nn).old ⟨rfl, rfl, rfl, Nat.le_refl _, fun _ _ => rfl⟩⟩
    cases z7 : ((IntKind.u64.wrap kind).tmod 10 == 7)
    rotate_left
    · have HE : Hid (d' = dcut d keep) := Lib.hid (by rw [HD'.out]; unfold dact; simp only []; rw [if_neg (by rw [z0]; decide), if_neg (by rw [z1]; decide), if_neg (by rw [z2]; decide), if_neg (by rw [z3]; decide), if_neg (by rw [z4]; decide), if_neg (by rw [z5]; decide), if_neg (by rw [z6]; decide), if_pos z7])
      have hcall := rcut_any HDS.out.doc (Nat.le_trans HSZ.out (by decide)) ((HKV.out.keep (kept_below HDS.out.below)).mono fun j hj _ => hj)
      rw [← HE.out] at hcall
      unfold docV at hcall
      have HC := Lib.hid hcall
      clear hcall
      go_wp2_with fail
      refine HC.out.mono ?_
      rintro e w6 ⟨sv1, cv1, rfl, hdoc6, hb6⟩
      obtain ⟨⟨ao1, cap1, hv1⟩, ao2, cap2, hv2⟩ := hdoc6.val
      subst hv1 hv2
      have hds6 := HDS.out.old hb6
      obtain ⟨W7, hW7⟩ : ∃ W7, W7 = five w6 w.heap.size (.int .i64 (d'.room : Int)) (.slice ao1 d'.sure.length cap1) (.slice ao2 d'.chs.length cap2) (.int .i64 d'.fuse) (.bool d'.down) := ⟨_, rfl⟩
      have HDS7 : Hid (DoSt w0 w S W7 S p d d' (.slice ao1 d'.sure.length cap1) (.slice ao2 d'.chs.length cap2) #[.int .i64 kind, .string bn, .string bt, .slice aob bytes.length capb, .int .i64 nn, .slice aok keep.length capk] (.slice aoo bytes.length capo) bytes) := Lib.hid (by rw [hW7]; exact HDS.out.doc' hb6 hdoc6)
      clear q0 q1 q2 q3 q4 qf a0 a1 a2 a3 a4 a5
      obtain ⟨q0, q1, q2, q3, q4, qf⟩ := hds6.dc
      obtain ⟨a0, a1, a2, a3, a4, a5⟩ := hds6.ac
      have hpc := cutD_any HDS7.out.dk (by have := HSZ.out; omega) ((HKV.out.keep (kept_below HDS7.out.below)).mono fun j _ hj hS => Nat.not_le_of_lt hj (HDS7.out.s0 j hS))
      rw [← HE.out] at hpc
      have HPC := Lib.hid hpc
      unfold five at hW7
      have HW7 := Lib.hid hW7
      clear hpc hW7 hds6 hdoc6 hb6
      go_wp2_with fail
      rw [← HW7.out]
      refine HPC.out.mono ?_
      rintro e w8 ⟨rfl, hp8⟩
      obtain ⟨S', hs8⟩ := HDS7.out.prog hp8
      have HS8 := Lib.hid hs8
      clear hp8 hs8
      go_wp2
      go_meet
      case rel => exact ⟨rfl, rfl, S', _, _, HS8.out⟩
    have HE : Hid (d' = dstart d) := Lib.hid (by rw [HD'.out]; unfold dact; simp only []; rw [if_neg (by rw [z0]; decide), if_neg (by rw [z1]; decide), if_neg (by rw [z2]; decide), if_neg (by rw [z3]; decide), if_neg (by rw [z4]; decide), if_neg (by rw [z5]; decide), if_neg (by rw [z6]; decide), if_neg (by rw [z7]; decide)])
    have hcall := rstart_any HDS.out.doc
    rw [← HE.out] at hcall
    unfold docV at hcall
    have HC := Lib.hid hcall
    clear hcall
    go_wp2_with fail
    refine HC.out.mono ?_
    rintro e w6 ⟨cv1, rfl, hdoc6, hb6⟩
    obtain ⟨_, ao2, cap2, hv2⟩ := hdoc6.val
    subst hv2
    have hds6 := HDS.out.old hb6
    obtain ⟨W7, hW7⟩ : ∃ W7, W7 = five w6 w.heap.size (.int .i64 (d'.room : Int)) (.slice aos d.sure.length caps) (.slice ao2 d'.chs.length cap2) (.int .i64 d'.fuse) (.bool d'.down) := ⟨_, rfl⟩
    have HDS7 : Hid (DoSt w0 w S W7 S p d d' (.slice aos d.sure.length caps) (.slice ao2 d'.chs.length cap2) #[.int .i64 kind, .string bn, .string bt, .slice aob bytes.length capb, .int .i64 nn, .slice aok keep.length capk] (.slice aoo bytes.length capo) bytes) := Lib.hid (by rw [hW7]; exact HDS.out.doc' hb6 (hdoc6.mono fun _ _ h => .inl h))
    clear q0 q1 q2 q3 q4 qf a0 a1 a2 a3 a4 a5
    obtain ⟨q0, q1, q2, q3, q4, qf⟩ := hds6.dc
    obtain ⟨a0, a1, a2, a3, a4, a5⟩ := hds6.ac
    have hpc := startD_any HDS7.out.dk
    rw [← HE.out] at hpc
    have HPC := Lib.hid hpc
    unfold five at hW7
    have HW7 := Lib.hid hW7
    clear hpc hW7 hds6 hdoc6 hb6
    go_wp2_with fail
    rw [← HW7.out]
    refine HPC.out.mono ?_
    rintro e w8 ⟨rfl, hp8⟩
    obtain ⟨S', hs8⟩ := HDS7.out.prog hp8
    have HS8 := Lib.hid hs8
    clear hp8 hs8
    go_wp2
    go_meet
    case rel => exact ⟨rfl, rfl, S', _, _, HS8.out⟩
  case rest =>
    obtain ⟨rfl, rfl, S', sv1, cv1, hds⟩ := hcut
    have hxs := Xs.start hds.own
    obtain ⟨⟨ao1, cap1, rfl⟩, ao2, cap2, rfl⟩ := hds.doc.val
    have HDS9 := Lib.hid hds
    have HXS := Lib.hid hxs
    have HBA : Hid (At wc (fun j => j < w0.heap.size) .u8 (.slice aob bytes.length capb) bytes) := Lib.hid (HBV.out.keep (kept_below hds.below))
    clear hds hxs q0 q1 q2 q3 q4 qf a0 a1 a2 a3 a4 a5
    go_wp2
    go_loopw [17, 165] (fun _ i wr => ∃ k : Nat, k ≤ bytes.length ∧ i = .int .i64 (k : Int) ∧ Xs wc wr (Value.slice aoo bytes.length capo) bytes k)
      (fun _ i _ => bytes.length - (intOf i).toNat)
    case atStart => exact ⟨0, Nat.zero_le _, rfl, HXS.out⟩
    case round =>
      obtain ⟨k, hk, rfl, hx⟩ := hrel
      have hkS : Kept S' wc wr := hx.1.kept _ fun j _ hS e => (HDS9.out.nS j hS).2 e.symm
      have hob : ∀ j, (Value.slice aoo bytes.length capo).ownBlock = some j → w.heap.size + 3 ≤ j := fun j hj => (Owns.lt HDS9.out.own j hj).1
      have hbxr : wr.heap[w.heap.size]? = _ := (hx.1.block _ (by have := HDS9.out.lt; omega) (fun e => by have := hob _ e; omega)).trans HDS9.out.box
      have hacr : wr.heap[w.heap.size + 1]? = _ := (hx.1.block _ (by have := HDS9.out.lt; omega) (fun e => by have := hob _ e; omega)).trans HDS9.out.act
      obtain ⟨x0, x1, x2, x3, x4, hrs⟩ := HDS9.out.res
      have hrsr : wr.heap[w.heap.size + 1 + 1]? = _ := (hx.1.block _ (by have := HDS9.out.lt; omega) (fun e => by have := hob _ e; omega)).trans hrs
      obtain ⟨a0, a1, a2, a3, a4, a5⟩ := six_cells hacr
      have HX := Lib.hid hx
      by_cases hlt : k < bytes.length
      · obtain ⟨g, cur, ⟨cpo, hov⟩, hg, hcur⟩ := hx.at hlt
        have hgn : w0.heap.size ≤ g := by
          have h1 : (Value.slice aoo bytes.length capo).ownBlock = some g := by rw [hov]; rfl
          have := hob g h1
          have := HDS9.out.w0w
          omega
        have hba : Reads wr .u8 (.slice aob bytes.length capb) bytes := (HBA.out.keep (hx.1.kept _ fun j _ hj e => by have := hob j e; have := HDS9.out.w0w; omega)).reads
        cases hov
        have e0 : wr.cell? ⟨g, k, none⟩ = some (.int .u8 (bytes.getD k 0 : Nat)) := by rw [cell_of_row _ _ k _ _ _ hg]; exact hcur
        have f0 : wr.frozen? ⟨g, k, none⟩ = false := frozen_of_row _ _ k _ _ hg
        obtain ⟨ab, cb, hvb, _, _, _, hrow⟩ := hba
        cases hvb
        rcases hrow with h0 | ⟨b, off, rfl, _, hcb⟩
        · rw [h0] at hlt; simp at hlt
        have e9 := hcb k hlt
        obtain ⟨y, hy⟩ : ∃ y, y = bytes.getD k 0 := ⟨_, rfl⟩
        rw [← hy] at e0 e9
        have hlti : (k : Int) < bytes.length := by omega
        have HK := Lib.hid hlt
        clear hx hkS hob hbxr hacr hrs hrsr hg hcur hgn hcb hy a0 a1 a2 a4 a5
        go_wp2_with fail
        go_quiet (fail)
        go_wp2
        go_roundw
        case rel => exact ⟨k + 1, HK.out, (by first | exact inc_eq HK.out (Nat.le_trans HBL.out (by decide)) | rfl), by first | exact (HX.out.drew _).step _ | exact HX.out.step _⟩
        case measure => first | exact inc_meas HK.out (Nat.le_trans HBL.out (by decide)) | (have := HK.out; simp [intOf]; omega)
      · have hlt' : ¬ (k : Int) < bytes.length := by omega
        have hdk : Dk wr S' p d' := HDS9.out.dk.keep hkS
        have hdc : Doc wr (fun j => ¬ S' j ∧ (j < w.heap.size ∨ w.heap.size + 2 < j) ∧ some j ≠ (Value.slice aoo bytes.length capo).ownBlock) d' (.slice ao1 d'.sure.length cap1) (.slice ao2 d'.chs.length cap2) := HDS9.out.doc.keep (hx.1.kept _ fun j _ hj e => hj.2.2 e.symm)
        have hbel : Below w0.heap.size w0 wr := HDS9.out.below.trans (hx.1.below HDS9.out.below.size fun j hj e => by have := hob j e; have := HDS9.out.w0w; omega)
        have hl2 : w.heap.size + 1 + 1 < wr.heap.size := (Array.getElem?_eq_some_iff.1 hrsr).1
        have HSH : Hid (∀ W, Below wr.heap.size wr W → Calls Try.prog 36 #[.pointer (some ⟨p, 0, none⟩), docV d' (.slice ao1 d'.sure.length cap1) (.slice ao2 d'.chs.length cap2)] W fun e w' => e = .returned (.bool true) ∧ Below W.heap.size W w') := Lib.hid fun W hb => shows_any (hdk.keep (kept_new hb _)) (hdc.old hb) HSZ'.out HRI'.out
        unfold docV at HSH
        have HFIN : Hid (∀ W, Below wr.heap.size wr W → ∀ a b c x e, Both w0 (five W (w.heap.size + 1 + 1) a b c x e) S' p d' d' (.slice ao1 d'.sure.length cap1) (.slice ao2 d'.chs.length cap2) ∧ Fr S w (five W (w.heap.size + 1 + 1) a b c x e) ∧ (∀ j, S' j → S j ∨ w.heap.size ≤ j)) := Lib.hid fun W hb a b c x e => by
          have hf := fr_five W (w.heap.size + 1 + 1) a b c x e
          have hw := HDS9.out.w0w
          exact ⟨⟨(hdk.keep (kept_new hb _)).keep (hf.kept _ fun j _ hS e => by have := (HDS9.out.nS j hS).1; omega), HDS9.out.s0, (hbel.trans (hb.mono hbel.size)).trans (hf.below (Nat.le_trans hbel.size hb.size) fun j hj e => by omega),
            ((hdc.old hb).keep (hf.kept _ fun j _ hB e => by have := hB.2.1; omega)).mono fun j _ hB => hB.1⟩,
            ((HDS9.out.fr.trans hx.1 (fun _ _ h => h) (fun j hj e => by have := hob j e; omega)).trans (fr_below hb (fun _ => False)) (fun _ _ h => h) (fun _ _ h => h.elim)).trans hf (fun _ _ h => h) (fun j hj e => by omega), HDS9.out.sub⟩
        have HCL : Hid (∀ W, Below wr.heap.size wr W → W.heap[w.heap.size]? = some (.cells #[.int .i64 (d'.room : Int), .slice ao1 d'.sure.length cap1, .slice ao2 d'.chs.length cap2, .int .i64 d'.fuse, .bool d'.down] 33 (0, 0)) ∧ W.heap[w.heap.size + 1 + 1]? = some (.cells #[x0, x1, x2, x3, x4] 33 (0, 0))) := Lib.hid fun W hb => ⟨(hb.block _ (by omega)).trans hbxr, (hb.block _ hl2).trans hrsr⟩
        obtain ⟨hc1, hc2⟩ := HCL.out wr (Below.refl _ _)
        obtain ⟨q0, q1, q2, q3, q4⟩ := five_cells hc1
        obtain ⟨y0, y1, y2, y3, y4⟩ := five_cells hc2
        have yf : ∀ i, wr.frozen? ⟨w.heap.size + 1 + 1, i, none⟩ = false := fun i => frozen_of_row _ _ i _ _ hc2
        have HD : Hid (Below wr.heap.size wr wr.drew) := Lib.hid ⟨rfl, rfl, rfl, Nat.le_refl _, fun _ _ => rfl⟩
        clear hx hkS hob hbxr hacr hrs hrsr hc1 hc2 hdk hdc hbel hl2 a0 a1 a2 a3 a4 a5 HX
        go_wp2_with fail
        go_region_with (first
          | (go_at_call 36
             refine (HSH.out _ HD.out).mono ?_
             rintro e w9 ⟨rfl, hb9⟩
             have hb9' := HD.out.trans (hb9.mono HD.out.size)
             obtain ⟨hd1, hd2⟩ := HCL.out w9 hb9'
             obtain ⟨p0, p1, p2, p3, p4⟩ := five_cells hd1
             obtain ⟨z0, z1, z2, z3, z4⟩ := five_cells hd2
             have zf : ∀ i, w9.frozen? ⟨w.heap.size + 1 + 1, i, none⟩ = false := fun i => frozen_of_row _ _ i _ _ hd2
             have HB9 := Lib.hid hb9'
             clear hb9 hb9' hd1 hd2))
        all_goals
          go_wp2
          refine bodyPost_ret (v := .tuple #[docV d' (.slice ao1 d'.sure.length cap1) (.slice ao2 d'.chs.length cap2), .bool true]) (by simp [docV, results, Try.results11, go_sem, z0, z1, z2, z3, z4]) rfl ?_
          exact ⟨S', _, _, rfl, HFIN.out w9 HB9.out _ _ _ _ _⟩

end Go.Proofs.Ytjgdbhmogdaggaa
