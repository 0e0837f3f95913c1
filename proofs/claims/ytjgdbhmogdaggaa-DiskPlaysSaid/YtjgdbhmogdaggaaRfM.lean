/- DiskPlays, walked. -/
import Derived.Test.YtjgdbhmogdaggaaRfL
namespace Go.Proofs.Ytjgdbhmogdaggaa
open Go.RowKit

set_option maxHeartbeats 1000000 in
set_option maxRecDepth 100000 in
theorem rnewBad_any {room : Int} (h : ¬ (0 ≤ room ∧ room ≤ 1073741824)) (w : World) : Calls Try.prog 9 #[.int .i64 room] w fun e w' => e = .returned (.tuple #[.agg #[.int .i64 0, .slice none 0 0, .slice none 0 0, .int .i64 0, .bool false], .int .i64 1]) ∧ Below w.heap.size w w' := by
  by_cases h0 : room < 0
  · clear h
    go_enter Try.func9, Try.ntmps9
    go_wp2
    exact bodyPost_ret (v := .tuple #[.agg #[.int .i64 0, .slice none 0 0, .slice none 0 0, .int .i64 0, .bool false], .int .i64 1]) (by simp [results, Try.results9, go_sem]) rfl ⟨rfl, (Below.refl _ _).alloc (Nat.le_refl _) _⟩
  · have h1 : 1073741824 < room := by omega
    clear h
    go_enter Try.func9, Try.ntmps9
    go_wp2
    exact bodyPost_ret (v := .tuple #[.agg #[.int .i64 0, .slice none 0 0, .slice none 0 0, .int .i64 0, .bool false], .int .i64 1]) (by simp [results, Try.results9, go_sem]) rfl ⟨rfl, (Below.refl _ _).alloc (Nat.le_refl _) _⟩

/-- A row of records each of which holds a text lies in no block that holds none. -/
theorem RecAt.textless {w : World} {B : Nat → Prop} {k : Nat} {v : Value} {rows : List (List Value)} (h : RecAt w B k v rows) (hs : ∀ r ∈ rows, ∃ (j : Nat) (s : ByteArray), r[j]? = some (Value.string s)) {q : Nat} {cs : Array Value} {T : TypeId} (hq : w.heap[q]? = some (.cells cs T (0, 0))) (hn : ∀ (i : Nat) (s : ByteArray), cs[i]? ≠ some (Value.string s)) :
    RecAt w (fun j => B j ∧ j ≠ q) k v rows := by
  obtain ⟨ao, cap, hv, h1, h2, h3, h4⟩ := h
  refine ⟨ao, cap, hv, h1, h2, h3, ?_⟩
  rcases h4 with h4 | ⟨b, off, ha, hb, hB, hc⟩
  · exact .inl h4
  · cases rows with
    | nil => exact .inl rfl
    | cons r rs =>
      refine .inr ⟨b, off, ha, hb, ⟨hB, fun e => ?_⟩, hc⟩
      obtain ⟨j, s, hj⟩ := hs r (by simp)
      have := hc 0 r rfl j _ hj
      rw [e, cell_of_row w q _ _ _ _ hq] at this
      exact hn _ _ this
theorem five_textless {z : Int} {ao ao2 : Option Addr} {n c n2 c2 : Nat} {f : Int} {b : Bool} : ∀ (i : Nat) (s : ByteArray), (#[Value.int .i64 z, .slice ao n c, .slice ao2 n2 c2, .int .i64 f, .bool b] : Array Value)[i]? ≠ some (Value.string s) := by
  intro i s h
  match i with
  | 0 => simp at h
  | 1 => simp at h
  | 2 => simp at h
  | 3 => simp at h
  | 4 => simp at h
  | i + 5 => simp at h
theorem Doc.textless {w : World} {B : Nat → Prop} {d : DS} {sv cv : Value} (h : Doc w B d sv cv) {q : Nat} {cs : Array Value} {T : TypeId} (hq : w.heap[q]? = some (.cells cs T (0, 0))) (hn : ∀ (i : Nat) (s : ByteArray), cs[i]? ≠ some (Value.string s)) : Doc w (fun j => B j ∧ j ≠ q) d sv cv :=
  ⟨RecAt.textless h.sure (fun r hr => by
    obtain ⟨f, _, rfl⟩ := List.mem_map.1 hr
    exact ⟨0, _, rfl⟩) hq hn, RecAt.textless h.chs (fun r hr => by
    obtain ⟨f, _, rfl⟩ := List.mem_map.1 hr
    exact ⟨1, _, rfl⟩) hq hn, h.kind⟩

/-- What DiskPlays keeps: both disks, and the box in which the document's lies. -/
structure Play (w W : World) (S : Nat → Prop) (p q k : Nat) (d : DS) (sv cv : Value) : Prop where
  both : Both w W S p d d sv cv
  sz : d.sz ≤ k
  rise : Rises d.sure
  box : W.heap[q]? = some (.cells #[.int .i64 (d.room : Int), sv, cv, .int .i64 d.fuse, .bool d.down] 33 (0, 0))
  qS : ¬ S q
  qw : w.heap.size ≤ q
theorem Play.old {w W W' : World} {S : Nat → Prop} {p q k : Nat} {d : DS} {sv cv : Value} (h : Play w W S p q k d sv cv) (hb : Below W.heap.size W W') : Play w W' S p q k d sv cv :=
  ⟨⟨h.both.1.keep (kept_new hb S), h.both.2.1, h.both.2.2.1.trans (hb.mono h.both.2.2.1.size), h.both.2.2.2.old hb⟩, h.sz, h.rise, (hb.block q (Array.getElem?_eq_some_iff.1 h.box).1).trans h.box, h.qS, h.qw⟩
theorem Both.old {w0 w w' : World} {S : Nat → Prop} {p : Nat} {d m : DS} {sv cv : Value} (h : Both w0 w S p d m sv cv) (hb : Below w.heap.size w w') : Both w0 w' S p d m sv cv :=
  ⟨h.1.keep (kept_new hb S), h.2.1, h.2.2.1.trans (hb.mono h.2.2.1.size), h.2.2.2.old hb⟩
theorem Play.put {w W W1 : World} {S S' : Nat → Prop} {p q k : Nat} {d d' : DS} {sv cv sv' cv' : Value} (h : Play w W S p q k d sv cv) (h1 : Both w W1 S' p d' d' sv' cv') (hf : Fr S W W1) (ht : ∀ j, S' j → S j ∨ W.heap.size ≤ j) (hs : d'.sz ≤ k + 1) (hr : Rises d'.sure)
    (hsv : ∃ ao n c, sv = .slice ao n c) (hcv : ∃ ao n c, cv = .slice ao n c) :
    Play w (five W1 q (.int .i64 (d'.room : Int)) sv' cv' (.int .i64 d'.fuse) (.bool d'.down)) S' p q (k + 1) d' sv' cv' := by
  have hql := (Array.getElem?_eq_some_iff.1 h.box).1
  have hbq := (hf.block q hql h.qS).trans h.box
  have hqS : ¬ S' q := fun hS => by
    rcases ht q hS with h2 | h2
    · exact h.qS h2
    · omega
  have h5 := fr_five W1 q (.int .i64 (d'.room : Int)) sv' cv' (.int .i64 d'.fuse) (.bool d'.down)
  obtain ⟨a1, n1, c1, rfl⟩ := hsv
  obtain ⟨a2, n2, c2, rfl⟩ := hcv
  have hd := h1.2.2.2.textless hbq five_textless
  exact ⟨⟨h1.1.keep (h5.kept S' fun j _ hS e => hqS (e ▸ hS)), h1.2.1, h1.2.2.1.trans (h5.below h1.2.2.1.size fun j hj e => by have := h.qw; omega), (hd.keep (h5.kept _ fun j _ hB e => hB.2 e)).mono fun j _ hB => hB.1⟩, hs, hr, five_blk hbq _ _ _ _ _, hqS, h.qw⟩

theorem longA_of {acts : List ActR} {most : Int} (h : longD acts most = false) {k : Nat} {a : ActR} (ha : acts[k]? = some a) : longA a = false := by
  unfold longD at h
  rw [Bool.or_eq_false_iff] at h
  have h2 := List.any_eq_false.1 h.1 a (List.mem_of_getElem? ha)
  simpa using h2

set_option maxHeartbeats 8000000 in
set_option maxRecDepth 100000 in
theorem diskPlays_walk (room : Int) (v : Value) (acts : List ActR) (w : World) (hr : ActsAt w (fun j => j < w.heap.size) v acts) :
    Calls Try.prog 3 #[.int .i64 room, v] w fun e w' => e = .returned (.bool true) ∧ Below w.heap.size w w' := by
  obtain ⟨ao, cap, rfl, hlc, hcap, _⟩ := hr.val
  have HAL : Hid (acts.length ≤ 9223372036854775807) := Lib.hid (Nat.le_trans hlc hcap)
  have HR := Lib.hid hr
  clear hr
  go_enter Try.func3, Try.ntmps3
  go_wp2_with fail
  refine (alive6_any w).mono ?_
  rintro e w1 ⟨rfl, hb1⟩
  have HB1 := Lib.hid hb1
  clear hb1
  go_wp2_with fail
  refine (longD_any _ acts 40 w1 (fun j => j < w.heap.size) (HR.out.kept (kept_below HB1.out)) (fun j hj => Nat.lt_of_lt_of_le hj HB1.out.size) HAL.out).mono ?_
  rintro e w2 ⟨rfl, hb2⟩
  have HB2 : Hid (Below w.heap.size w w2) := Lib.hid (HB1.out.trans (hb2.mono HB1.out.size))
  clear hb2
  cases hlong : longD acts 40
  rotate_left
  · go_wp2
    go_ret
    exact ⟨rfl, HB2.out⟩
  have HLONG := Lib.hid hlong
  have HLEN : Hid (acts.length ≤ 40) := Lib.hid (by
    unfold longD at hlong
    rw [Bool.or_eq_false_iff, decide_eq_false_iff_not] at hlong
    omega)
  clear hlong
  go_wp2_with fail
  refine (newD_any room w2).mono ?_
  rintro e w3 (⟨hr0, hr1, rfl, hd3, hb3, hs3⟩ | ⟨hbad, rfl, rfl⟩)
  rotate_left
  · have HRN := Lib.hid (fun w => rnewBad_any hbad w)
    clear hbad
    have hn1 : ∀ w, Calls Try.prog 10 #[errV 1] w fun e w' => e = .returned (.int .i64 1) ∧ w = w' := fun w => num_any 1 w
    have HN1 := Lib.hid hn1
    clear hn1
    go_wp2_with fail
    refine (HRN.out _).mono ?_
    rintro e w4 ⟨rfl, hb4⟩
    have HB4 := Lib.hid hb4
    clear hb4
    go_wp2_with fail
    refine (HN1.out _).mono ?_
    rintro e w5 ⟨rfl, rfl⟩
    go_wp2
    go_ret
    exact ⟨rfl, by first | exact (HB2.out.trans (HB4.out.mono HB2.out.size)).alloc (Nat.le_trans HB2.out.size HB4.out.size) _ | exact HB2.out.trans (HB4.out.mono HB2.out.size)⟩
  · have HRN := Lib.hid (fun w => rnew_any room w)
    have hd : Dk w3 (fun j => j = w2.heap.size) w2.heap.size (dnew room.toNat) := hd3
    have HD3 := Lib.hid hd
    have HB3 := Lib.hid hb3
    have HS3 := Lib.hid hs3
    have HR0 : Hid (0 ≤ room ∧ room ≤ 1073741824) := Lib.hid ⟨hr0, hr1⟩
    clear hd3 hd hb3 hs3 hr0 hr1
    go_wp2_with fail
    refine (HRN.out _).mono ?_
    rintro e w4 ⟨hb4, ⟨_, _, rfl⟩ | ⟨hbad, _⟩⟩
    rotate_left
    · exact absurd HR0.out hbad
    unfold docV
    have HB4 := Lib.hid hb4
    obtain ⟨dn, hdn⟩ : ∃ dn, dn = dnew room.toNat := ⟨_, rfl⟩
    have hds : Doc w4 (fun _ => True) dn (.slice none 0 0) (.slice none 0 0) := by rw [hdn]; exact doc_new _ _ _
    have hn0 : dn.sz = 0 ∧ Rises dn.sure := by rw [hdn]; exact ⟨rfl, List.Pairwise.nil⟩
    have HD4 : Hid (Dk w4 (fun j => j = w2.heap.size) w2.heap.size dn) := Lib.hid (by rw [hdn]; exact HD3.out.keep (kept_new hb4 _))
    rw [← hdn]
    obtain ⟨W5, hW5⟩ : ∃ W5, W5 = w4.alloc (.cells #[.int .i64 (dn.room : Int), .slice none 0 0, .slice none 0 0, .int .i64 dn.fuse, .bool dn.down] 33) := ⟨_, rfl⟩
    have hb5 : Below w4.heap.size w4 W5 := by rw [hW5]; exact (Below.refl _ _).alloc (Nat.le_refl _) _
    have HP5 : Hid (Play w W5 (fun j => j = w2.heap.size) w2.heap.size w4.heap.size 0 dn (.slice none 0 0) (.slice none 0 0)) := Lib.hid ⟨⟨HD4.out.keep (kept_new hb5 _), fun j hj => by rw [hj]; exact HB2.out.size, ((HB2.out.trans (HB3.out.mono HB2.out.size)).trans (hb4.mono (Nat.le_trans HB2.out.size HB3.out.size))).trans (hb5.mono (Nat.le_trans HB2.out.size (Nat.le_trans HB3.out.size hb4.size))), by rw [hdn]; exact doc_new _ _ _⟩, by rw [hn0.1]; exact Nat.le_refl _, hn0.2, by rw [hW5]; exact heap_alloc_new _ _, (fun e => by have := HS3.out; have := hb4.size; omega), Nat.le_trans HB2.out.size (Nat.le_trans HB3.out.size hb4.size)⟩
    have HW5 := Lib.hid hW5
    clear hb4 hdn hds hn0 hW5 hb5
    obtain ⟨p, hp⟩ : ∃ p, p = w2.heap.size := ⟨_, rfl⟩
    rw [← hp] at HP5 ⊢
    clear hp
    obtain ⟨q, hq⟩ : ∃ q, q = w4.heap.size := ⟨_, rfl⟩
    rw [← hq] at HP5
    have HQ := Lib.hid hq
    clear hq
    go_wp2_with fail
    rw [← HW5.out, ← HQ.out]
    go_loopw [45] (fun i wr => ∃ (k : Nat) (d : DS) (S : Nat → Prop) (sv cv : Value), k ≤ acts.length ∧ i = .int .i64 (k : Int) ∧ Play w wr S p q k d sv cv)
      (fun i _ => acts.length - (intOf i).toNat)
    case atStart => exact ⟨0, dn, _, _, _, Nat.zero_le _, rfl, HP5.out⟩
    case round =>
      obtain ⟨k, d, S, sv, cv, hk, rfl, hpl⟩ := hrel
      by_cases hlt : k < acts.length
      · obtain ⟨a, ha⟩ : ∃ a, acts[k]? = some a := ⟨_, List.getElem?_eq_getElem hlt⟩
        obtain ⟨b, off, bv, kv, rfl, e0, e1, e2, e3, e4, e5, hat⟩ := HR.out.at ha
        have hblt := World.block_lt_of_cell? w _ e0
        have hbw := hpl.both.2.2.1
        have e0 := (hbw.cell (p := ⟨b, off + k * 6, none⟩) hblt).trans e0
        have e1 := (hbw.cell (p := ⟨b, off + k * 6 + 1, none⟩) hblt).trans e1
        have e2 := (hbw.cell (p := ⟨b, off + k * 6 + 2, none⟩) hblt).trans e2
        have e3 := (hbw.cell (p := ⟨b, off + k * 6 + 3, none⟩) hblt).trans e3
        have e4 := (hbw.cell (p := ⟨b, off + k * 6 + 4, none⟩) hblt).trans e4
        have e5 := (hbw.cell (p := ⟨b, off + k * 6 + 5, none⟩) hblt).trans e5
        obtain ⟨aob, capb, rfl, _, _, _⟩ := hat.bytes.reads.val
        obtain ⟨aok, capk, rfl, _, _, _⟩ := id hat.keep
        obtain ⟨⟨as1, ac1, rfl⟩, as2, ac2, rfl⟩ := hpl.both.2.2.2.val
        have hkl : (a.keep.map Value.bool).length = a.keep.length := List.length_map _
        rw [hkl] at e5
        have hat2 : ActAt w (fun j => j < w.heap.size) a (.slice aob a.bytes.length capb) (.slice aok a.keep.length capk) := by
          have := hat
          rw [hkl] at this
          exact this
        have hla := longA_of HLONG.out ha
        have hdz := dact_sz d a
        have hdr := dact_rises hpl.rise a
        obtain ⟨d', hd'⟩ : ∃ d', d' = dact d a := ⟨_, rfl⟩
        have hcall := fun (W : World) (hb : Below wr.heap.size wr W) => do_both (hpl.both.old hb) (Nat.le_trans hpl.sz (by have := HLEN.out; omega)) hpl.rise hat2 hla
        rw [← hd'] at hdz hdr
        simp only [← hd'] at hcall
        unfold docV at hcall
        obtain ⟨s1, hs1⟩ : ∃ s1 : ByteArray, nmV a.name = .string s1 := ⟨_, rfl⟩
        obtain ⟨s2, hs2⟩ : ∃ s2 : ByteArray, nmV a.to = .string s2 := ⟨_, rfl⟩
        rw [hs1] at e1 hcall
        rw [hs2] at e2 hcall
        have HCALL := Lib.hid hcall
        have HDZ : Hid (d'.sz ≤ k + 1) := Lib.hid (by have := hpl.sz; omega)
        have HDR := Lib.hid hdr
        have HPL := Lib.hid hpl
        have hlti : (k : Int) < acts.length := by omega
        have HK := Lib.hid hlt
        obtain ⟨q0, q1, q2, q3, q4⟩ := five_cells hpl.box
        have hql := (Array.getElem?_eq_some_iff.1 hpl.box).1
        have y0 : ∀ o, (wr.alloc o).cell? ⟨q, 0, none⟩ = some (.int .i64 (d.room : Int)) := fun o => (World.cell?_of_block (Below.heap_alloc _ _ _ hql)).trans q0
        have y1 : ∀ o, (wr.alloc o).cell? ⟨q, 1, none⟩ = some (.slice as1 d.sure.length ac1) := fun o => (World.cell?_of_block (Below.heap_alloc _ _ _ hql)).trans q1
        have y2 : ∀ o, (wr.alloc o).cell? ⟨q, 2, none⟩ = some (.slice as2 d.chs.length ac2) := fun o => (World.cell?_of_block (Below.heap_alloc _ _ _ hql)).trans q2
        have y3 : ∀ o, (wr.alloc o).cell? ⟨q, 3, none⟩ = some (.int .i64 d.fuse) := fun o => (World.cell?_of_block (Below.heap_alloc _ _ _ hql)).trans q3
        have y4 : ∀ o, (wr.alloc o).cell? ⟨q, 4, none⟩ = some (.bool d.down) := fun o => (World.cell?_of_block (Below.heap_alloc _ _ _ hql)).trans q4
        obtain ⟨kind, name, tu, bytes, nn, keep⟩ := a
        simp only [] at e0 e3 e4 e5
        obtain ⟨W6, hW6⟩ : ∃ W6, W6 = wr.alloc (.cells #[.int .i64 kind, .string s1, .string s2, .slice aob bytes.length capb, .int .i64 nn, .slice aok keep.length capk] 40) := ⟨_, rfl⟩
        have hb6 : Below wr.heap.size wr W6 := by rw [hW6]; exact (Below.refl _ _).alloc (Nat.le_refl _) _
        have HB6 := Lib.hid hb6
        have HW6 := Lib.hid hW6
        clear hpl ha hat hat2 hblt hbw hkl hla hdz hdr hd' hs1 hs2 hcall hql hW6 hb6 q0 q1 q2 q3 q4
        go_wp2_with fail
        rw [← HW6.out]
        refine (HCALL.out W6 HB6.out).mono ?_
        rintro e w7 ⟨S', sv', cv', rfl, hbo, hfr, hsub⟩
        obtain ⟨⟨as3, ac3, rfl⟩, as4, ac4, rfl⟩ := hbo.2.2.2.val
        have hpl6 := HPL.out.old HB6.out
        have hbq := (hfr.block q (Array.getElem?_eq_some_iff.1 hpl6.box).1 hpl6.qS).trans hpl6.box
        have hql7 := (Array.getElem?_eq_some_iff.1 hbq).1
        obtain ⟨x0, x1, x2, x3, x4⟩ := five_cells hbq
        have xf : ∀ i, w7.frozen? ⟨q, i, none⟩ = false := fun i => frozen_of_row _ _ i _ _ hbq
        have z0 : ∀ o, (w7.alloc o).cell? ⟨q, 0, none⟩ = some (.int .i64 (d.room : Int)) := fun o => (World.cell?_of_block (Below.heap_alloc _ _ _ hql7)).trans x0
        have z1 : ∀ o, (w7.alloc o).cell? ⟨q, 1, none⟩ = some (.slice as1 d.sure.length ac1) := fun o => (World.cell?_of_block (Below.heap_alloc _ _ _ hql7)).trans x1
        have z2 : ∀ o, (w7.alloc o).cell? ⟨q, 2, none⟩ = some (.slice as2 d.chs.length ac2) := fun o => (World.cell?_of_block (Below.heap_alloc _ _ _ hql7)).trans x2
        have z3 : ∀ o, (w7.alloc o).cell? ⟨q, 3, none⟩ = some (.int .i64 d.fuse) := fun o => (World.cell?_of_block (Below.heap_alloc _ _ _ hql7)).trans x3
        have z4 : ∀ o, (w7.alloc o).cell? ⟨q, 4, none⟩ = some (.bool d.down) := fun o => (World.cell?_of_block (Below.heap_alloc _ _ _ hql7)).trans x4
        have zf : ∀ o i, (w7.alloc o).frozen? ⟨q, i, none⟩ = false := fun o i => frozen_of_row _ _ i _ _ ((Below.heap_alloc _ _ _ hql7).trans hbq)
        have HPUT : Hid (Play w (five (w7.alloc (.cells #[.int .i64 (d'.room : Int), .slice as3 d'.sure.length ac3, .slice as4 d'.chs.length ac4, .int .i64 d'.fuse, .bool d'.down] 33)) q (.int .i64 (d'.room : Int)) (.slice as3 d'.sure.length ac3) (.slice as4 d'.chs.length ac4) (.int .i64 d'.fuse) (.bool d'.down)) S' p q (k + 1) d' (.slice as3 d'.sure.length ac3) (.slice as4 d'.chs.length ac4)) := Lib.hid (by
          have hb8 : Below w7.heap.size w7 (w7.alloc (.cells #[.int .i64 (d'.room : Int), .slice as3 d'.sure.length ac3, .slice as4 d'.chs.length ac4, .int .i64 d'.fuse, .bool d'.down] 33)) := (Below.refl _ _).alloc (Nat.le_refl _) _
          exact hpl6.put (hbo.old hb8) (hfr.trans (fr_below hb8 (fun _ => False)) (fun _ _ h => h) fun _ _ h => h.elim) hsub HDZ.out HDR.out ⟨_, _, _, rfl⟩ ⟨_, _, _, rfl⟩)
        unfold five at HPUT
        clear hbo hfr hsub hpl6 hbq hql7 x0 x1 x2 x3 x4 xf y0 y1 y2 y3 y4 e0 e1 e2 e3 e4 e5
        go_wp2
        go_roundw
        case rel => exact ⟨k + 1, d', S', _, _, HK.out, (by first | exact inc_eq HK.out (by have := HLEN.out; omega) | rfl), HPUT.out⟩
        case measure => first | exact inc_meas HK.out (by have := HLEN.out; omega) | (have := HK.out; simp [intOf]; omega)
      · have hlt' : ¬ (k : Int) < acts.length := by omega
        have HBF := Lib.hid hpl.both.2.2.1
        clear hpl
        go_wp2
        go_ret
        exact ⟨rfl, HBF.out⟩

end Go.Proofs.Ytjgdbhmogdaggaa
