/- A disk in memory: the contracts of change, fits, Read. -/
import Derived.Test.YtmjpckodcafjiaaGreatDskN
import Derived.Test.YtmjpckodcafjiaaGreatStepR
import Derived.Deep.RegionLaw
namespace Go.Proofs.YtmjpckodcafjiaaGreat
open Go.RowKit

theorem Tryz.infoCh : (Tryz.prog.info? 106).map (fun i => (i.zero, i.size, i.bytes)) = some (some (.agg #[.int .i64 0, .string { data := #[] }, .string { data := #[] }, .slice none 0 0]), 4, 64) := by kernel_rfl

def dchange (d : DS) (c : Ch) : DS := dadd d c
theorem dadd_shown (d : DS) (c : Ch) : (dadd d c).shown = capply d.shown c := shownOf_snoc _ _ _

theorem fr_undrew {S : Nat → Prop} {w w' : World} (h : Fr S w.drew w') : Fr S w w' := ⟨h.os, h.tape, h.output, h.size, h.block⟩

/-- One change more stands behind the others. -/
structure Pushed (S : Nat → Prop) (p : Nat) (m1 m2 : Option Nat) (cv' : Value) (d : DS) (c : Ch) (w w' : World) : Prop where
  blk : w'.heap[p]? = some (.cells (dcells d m1 m2 cv') 73 (0, 0))
  chs : CR w' (Ext S w w') cv' (d.chs ++ [c])
  sure : TM w' (Ext S w w') m1 d.sure
  shown : TM w' (Ext S w w') m2 d.shown
  fr : Fr S w w'
  txt : ∀ v t, At w (Typ w S 5) .u8 v t → At w' (Typ w' (Ext S w w') 5) .u8 v t

theorem pushed {S : Nat → Prop} {p g cap n : Nat} {m1 m2 : Option Nat} {cv : Value} {d : DS} {c : Ch} {v : Value} {w w2 : World} (hd : DkV w S p m1 m2 cv d) (hfr : Fr (fun j => cv.ownBlock = some j) w w2) {ps : List (Ch × Value)} (hps : ps.map (·.1) = d.chs)
    (hat : ∀ x ∈ ps, At w (Typ w S 5) .u8 x.2 x.1.text) (hv : At w (Typ w S 5) .u8 v c.text) (ho : RecOwn w2 0 106 4 (.slice (some ⟨g, 0, none⟩) n cap) (ps.map chRow ++ [chRow (c, v)]))
    (hloc : cv.ownBlock = some g ∨ w.heap.size ≤ g) : Pushed S p m1 m2 (.slice (some ⟨g, 0, none⟩) n cap) d c w (w2.setCell ⟨p, 5, none⟩ (.slice (some ⟨g, 0, none⟩) n cap)) := by
  have hp2 : w2.heap[p]? = _ := (hfr.block p hd.plt fun e => hd.pcv p e rfl).trans hd.blk
  have hs5 := fr_set w2 p 5 (.slice (some ⟨g, 0, none⟩) n cap)
  have hfr3 : Fr (fun j => cv.ownBlock = some j ∨ j = p) w (w2.setCell ⟨p, 5, none⟩ (.slice (some ⟨g, 0, none⟩) n cap)) := hfr.trans hs5 (fun _ _ h => .inl h) (fun _ _ h => .inr h)
  have hk : Kept (Typ w S 5) w (w2.setCell ⟨p, 5, none⟩ (.slice (some ⟨g, 0, none⟩) n cap)) := hfr3.kept _ fun j hj hT => by
    rintro (h | rfl)
    · obtain ⟨_, _, cs, hc⟩ := hd.chs.block h
      exact typ_not_other hc (by decide) hT
    · exact typ_not_other hd.blk (by decide) hT
  have hgp : g ≠ p := by
    rcases hloc with h | h
    · exact hd.pcv g h
    · have := hd.plt; omega
  have hgb := (ho.block (j := g) rfl).2.1
  refine ⟨heap_setCell_same w2 p 5 _ _ _ hp2, ?_, hd.sure.keep hk (fun b e => hfr3.block b (by subst e; exact hd.sure.lt) ?_) (fun _ h => .inl h), hd.shown.keep hk (fun b e => hfr3.block b (by subst e; exact hd.shown.lt) ?_) (fun _ h => .inl h),
    hfr3.mono ?_, fun v t h => h.typ hk fun _ h => .inl h⟩
  · refine ⟨ps ++ [(c, v)], by simp [hps], ?_, ?_, ?_⟩
    · rw [List.map_append]
      exact ho.keep fun j hj => hs5.block j (ho.block hj).2.1 (by cases hj; exact hgp)
    · intro j hj
      cases hj
      rcases hloc with h | h
      · exact .inl (hd.chs.block h).1
      · exact .inr ⟨h, by simpa using hgb⟩
    · intro x hx
      rcases List.mem_append.1 hx with hx | hx
      · exact (hat x hx).typ hk fun _ h => .inl h
      · obtain rfl : x = (c, v) := by simpa using hx
        exact hv.typ hk fun _ h => .inl h
  · rintro (h | h)
    · exact hd.m1cv b e h
    · exact hd.pm1 b e h
  · rintro (h | h)
    · exact hd.m2cv b e h
    · exact hd.pm2 b e h
  · intro j _ hj
    rcases hj with h | rfl
    · exact (hd.chs.block h).1
    · exact hd.inS

/-- The change is done on what is shown. -/
theorem Pushed.does {S : Nat → Prop} {p : Nat} {m1 m2 m' : Option Nat} {cv cv' : Value} {d : DS} {c : Ch} {w w1 w2 : World} (hd : DkV w S p m1 m2 cv d) (hc : ChOk c) (h : Pushed S p m1 m2 cv' d c w w1) (k : FilesDone (Ext S w w1) p 3 m2 (dcells d m1 m2 cv') (capply d.shown c) w1 w2 m')
    (hcp : ∀ j, cv'.ownBlock = some j → j ≠ p) (hcm : ∀ b, m2 = some b → cv'.ownBlock ≠ some b) : DPost S p w w2 (dadd d c) := by
  have hk : Kept (Typ w1 (Ext S w w1) 5) w1 w2 := k.fr.kept _ fun j hj hT => by
    rintro (rfl | h2)
    · exact typ_not_other h.blk (by decide) hT
    · have := h.shown
      rw [h2] at this
      exact typ_not_map this.obj hT
  have hnew : ∀ b, m1 = some b → m' ≠ some b := fun b e e2 => by
    rcases k.mb with h1 | ⟨b', h1, h2⟩
    · exact hd.apart b e (h1 ▸ e2)
    · rw [h1] at e2
      cases e2
      have := h.sure
      rw [e] at this
      have := this.lt
      omega
  have hsure2 : TM w2 (Ext S w w2) m1 d.sure := h.sure.keep hk (fun b e => k.fr.block b (by subst e; exact h.sure.lt) (by
    rintro (h1 | h1)
    · exact hd.pm1 b e h1
    · exact hd.apart b e h1)) fun _ hj => hj.grow k.fr.size
  have hchs2 : CR w2 (Ext S w w2) cv' (d.chs ++ [c]) := h.chs.keep hk (fun j hj => k.fr.block j (h.chs.block hj).2.1 (by
    rintro (h1 | h1)
    · exact hcp j hj h1
    · exact hcm j h1 hj)) fun _ hj => hj.grow k.fr.size
  refine ⟨Ext S w w2, ⟨m1, m', cv', ?_⟩, h.fr.trans k.fr (fun _ _ h => h) (fun j _ hj => ?_), fun _ h => .inl h, fun _ h => h.imp id fun h => h.1⟩
  · refine ⟨k.blk.trans ?_, .inl hd.inS, fun j hj => hj.lt hd.lt (Nat.le_trans h.fr.size k.fr.size), hsure2, ?_, hnew, hchs2, hd.room, hd.fuse, ?_, hd.small⟩
    · rw [dadd_shown]; rfl
    · rw [dadd_shown]; exact k.tm.mono fun _ hj => hj.mid h.fr.size k.fr.size
    · intro x hx
      rcases List.mem_append.1 hx with hx | hx
      · exact hd.ok x hx
      · obtain rfl : x = c := by simpa using hx
        exact hc
  · rcases hj with rfl | hj
    · exact hd.inS
    · obtain ⟨_, _, _, hs⟩ := hd.shown
      exact hs j hj

set_option maxHeartbeats 2000000 in
set_option maxRecDepth 100000 in
theorem change_any {w : World} {S : Nat → Prop} {p : Nat} {d : DS} (h : Dk w S p d) (hsz : d.sz < 1099511627776) {c : Ch} (hc : ChOk c) {v : Value} (hv : At w (Typ w S 5) .u8 v c.text) :
    Calls Tryz.prog 71 #[.pointer (some ⟨p, 0, none⟩), chV c v] w fun e w' => e = .returned (.tuple #[]) ∧ DPost S p w w' (dadd d c) := by
  obtain ⟨m1, m2, cv, h⟩ := h
  obtain ⟨aoc, capc, rfl, _, _, _⟩ := h.chs.val
  have HL : Hid (d.sure.length + d.chs.length < 1099511627776) := Lib.hid hsz
  obtain ⟨aot, capt, rfl, _, _, _⟩ := hv.reads.val
  have H := Lib.hid h
  have HV := Lib.hid hv
  have HC := Lib.hid hc
  obtain ⟨kind, name, to, text⟩ := c
  obtain ⟨s1, hs1⟩ : ∃ s1 : ByteArray, nmV name = .string s1 := ⟨_, rfl⟩
  obtain ⟨s2, hs2⟩ : ∃ s2 : ByteArray, nmV to = .string s2 := ⟨_, rfl⟩
  have HS1 := Lib.hid hs1
  have HS2 := Lib.hid hs2
  unfold chV
  simp only []
  rw [hs1, hs2]
  obtain ⟨zk, hzk⟩ : ∃ zk : Int, zk = (kind : Int) := ⟨_, rfl⟩
  rw [← hzk]
  have HZK := Lib.hid hzk
  obtain ⟨W1, hW1⟩ : ∃ W1, W1 = w.alloc (.cells #[.int .i64 zk, .string s1, .string s2, .slice aot text.length capt] 106) := ⟨_, rfl⟩
  have hb1 : Below w.heap.size w W1 := by rw [hW1]; exact (Below.refl _ _).alloc (Nat.le_refl _) _
  have hx1 : W1.heap[w.heap.size]? = some (.cells #[.int .i64 zk, .string s1, .string s2, .slice aot text.length capt] 106 (0, 0)) := by rw [hW1]; exact heap_alloc_new _ _
  have b0 : W1.cell? ⟨w.heap.size, 0, none⟩ = some (.int .i64 zk) := by rw [cell_of_row _ _ 0 _ _ _ hx1]; rfl
  have b1 : W1.cell? ⟨w.heap.size, 1, none⟩ = some (.string s1) := by rw [cell_of_row _ _ 1 _ _ _ hx1]; rfl
  have b2 : W1.cell? ⟨w.heap.size, 2, none⟩ = some (.string s2) := by rw [cell_of_row _ _ 2 _ _ _ hx1]; rfl
  have b3 : W1.cell? ⟨w.heap.size, 3, none⟩ = some (.slice aot text.length capt) := by rw [cell_of_row _ _ 3 _ _ _ hx1]; rfl
  have hd1 := h.keep (kept_new hb1 S)
  have c5 := hd1.c5
  have f5 := hd1.fz 5
  have HD1 := Lib.hid hd1
  have HB1 := Lib.hid hb1
  have HX1 := Lib.hid hx1
  have HW1 := Lib.hid hW1
  clear h hsz hv hc hs1 hs2 hzk hW1 hb1 hx1 hd1
  go_enter Tryz.func71, Tryz.ntmps71
  go_wp2_with fail
  rw [← HW1.out]
  obtain ⟨ps, hps, hro, hrs, hrt⟩ := HD1.out.chs
  have hpl : (ps.map chRow).length = d.chs.length := by rw [List.length_map, ← hps, List.length_map]
  have HRO := Lib.hid hro
  have HPS := Lib.hid hps
  have HPLN := Lib.hid hpl
  have HRS := Lib.hid hrs
  have HRT := Lib.hid hrt
  have HNE : Hid (∀ j, (Value.slice aoc d.chs.length capc).ownBlock = some j → j ≠ p) := Lib.hid HD1.out.pcv
  have HPP := Lib.hid HD1.out.plt
  have HBX : Hid ((Value.slice aoc d.chs.length capc).ownBlock ≠ some w.heap.size) := Lib.hid fun e => by
    have := H.out.chs.block e
    omega
  have hne1 : ¬ p = w.heap.size := fun e => by have := H.out.plt; omega
  have hne2 : ¬ w.heap.size = p := fun e => by have := H.out.plt; omega
  clear hro hps hpl hrs hrt
  have c5a : ∀ o, (W1.alloc o).cell? ⟨p, 5, none⟩ = some (.slice aoc d.chs.length capc) := fun o => (World.cell?_of_block (Below.heap_alloc _ _ _ HPP.out)).trans c5
  have c5b : ∀ o, (W1.drew.alloc o).cell? ⟨p, 5, none⟩ = some (.slice aoc d.chs.length capc) := fun o => (World.cell?_of_block (Below.heap_alloc _ _ _ HPP.out)).trans c5
  go_region_law
    ((refine step_appRec (by rfl) _ _ _ (by rfl) 0 106 _ 4 64 Tryz.underlying71 Tryz.infoCh rfl (by decide) _ (ps.map chRow) (by rfl) (by first | exact HRO.out.alloc _ | exact HRO.out.drew.alloc _ | exact HRO.out) [.int .i64 zk, .string s1, .string s2, .slice aot text.length capt] rfl (by simp [Value.oneCell']) ⟨W1.heap.size, 0, none⟩ (by rfl) (by first | exact rec_cell W1 [.int .i64 zk, .string s1, .string s2, .slice aot text.length capt] _ | exact rec_cell W1.drew [.int .i64 zk, .string s1, .string s2, .slice aot text.length capt] _) (by have := HL.out; rw [HPLN.out]; simp only [maxLen]; omega) (by have := HL.out; rw [HPLN.out]; omega) (Nat.zero_le _) ?_
      intro g cap w2 ho2 hg2 hloc2
      have hfr2 : Fr (fun j => (Value.slice aoc d.chs.length capc).ownBlock = some j) W1 w2 := (by
        first
          | exact (fr_alloc W1 _ _).trans (fr_grown hg2) (fun _ _ h => h) (fun _ _ h => h.symm)
          | exact fr_undrew ((fr_alloc W1.drew _ _).trans (fr_grown hg2) (fun _ _ h => h) (fun _ _ h => h.symm)))
      have hloc3 : (Value.slice aoc d.chs.length capc).ownBlock = some g ∨ W1.heap.size ≤ g := hloc2.imp id (fun h => by rw [h]; simp)
      have hp3 := (hfr2.block p HPP.out (fun e => HNE.out p e rfl)).trans HD1.out.blk
      have s5 : w2.cell? ⟨p, 5, none⟩ = some (.slice aoc d.chs.length capc) := by rw [cell_of_row _ _ 5 _ _ _ hp3]; rfl
      have g5 : w2.frozen? ⟨p, 5, none⟩ = false := frozen_of_row _ _ 5 _ _ hp3
      have hx2 : w2.heap[w.heap.size]? = some (.cells #[.int .i64 zk, .string s1, .string s2, .slice aot text.length capt] 106 (0, 0)) := (hfr2.block _ (Array.getElem?_eq_some_iff.1 HX1.out).1 HBX.out).trans HX1.out
      have HO2 := Lib.hid ho2
      have HFR2 := Lib.hid hfr2
      have HLOC := Lib.hid hloc3
      have HX2 := Lib.hid hx2
      clear ho2 hg2 hloc2 hfr2 hloc3 hp3 hx2))
  all_goals
    have hpu : Pushed S p m1 m2 _ d ⟨kind, name, to, text⟩ W1 (w2.setCell ⟨p, 5, none⟩ (.slice (some ⟨g, 0, none⟩) (ps.length + 1) cap)) := pushed HD1.out HFR2.out HPS.out HRT.out (v := .slice aot text.length capt) (HV.out.typ (kept_new HB1.out _) fun _ h => h) (by
      unfold chRow
      simp only []
      rw [HS1.out, HS2.out, ← HZK.out]
      have := HO2.out
      rw [List.length_map] at this
      exact this) HLOC.out
    obtain ⟨W3, hW3⟩ : ∃ W3, W3 = w2.setCell ⟨p, 5, none⟩ (.slice (some ⟨g, 0, none⟩) (ps.length + 1) cap) := ⟨_, rfl⟩
    rw [← hW3] at hpu ⊢
    have hx3 : W3.heap[w.heap.size]? = some (.cells #[.int .i64 zk, .string s1, .string s2, .slice aot text.length capt] 106 (0, 0)) := by
      rw [hW3, heap_setCell_other _ _ _ _ (fun e => hne2 e)]; exact HX2.out
    have t0 : W3.cell? ⟨w.heap.size, 0, none⟩ = some (.int .i64 zk) := by rw [cell_of_row _ _ 0 _ _ _ hx3]; rfl
    have t1 : W3.cell? ⟨w.heap.size, 1, none⟩ = some (.string s1) := by rw [cell_of_row _ _ 1 _ _ _ hx3]; rfl
    have t2 : W3.cell? ⟨w.heap.size, 2, none⟩ = some (.string s2) := by rw [cell_of_row _ _ 2 _ _ _ hx3]; rfl
    have t3 : W3.cell? ⟨w.heap.size, 3, none⟩ = some (.slice aot text.length capt) := by rw [cell_of_row _ _ 3 _ _ _ hx3]; rfl
    have hcall := do_any (w := W3.drew) (S := Ext S W1 W3) (o := 3) (l := d.shown) (mb := m2) hpu.blk rfl rfl (hpu.shown.keep ⟨Nat.le_refl _, fun _ _ _ => rfl⟩ (fun _ _ => rfl) fun _ h => h) (c := ⟨kind, name, to, text⟩) HC.out (v := .slice aot text.length capt)
      ((hpu.txt _ _ (HV.out.typ (kept_new HB1.out _) fun _ h => h)).typ ⟨Nat.le_refl _, fun _ _ _ => rfl⟩ fun _ h => h) (H.out.totShown HL.out) (by have := lenShown d; have := HL.out; unfold DS.sz at *; omega)
    unfold chV at hcall
    simp only [] at hcall
    rw [HS1.out, HS2.out, ← HZK.out] at hcall
    have HCALL := Lib.hid hcall
    have HPU := Lib.hid hpu
    have HGP : Hid (g ≠ p) := Lib.hid (by
      rcases HLOC.out with h | h
      · exact HNE.out g h
      · have := HPP.out; omega)
    have HGM : Hid (∀ b, m2 = some b → (Value.slice (some ⟨g, 0, none⟩) (ps.length + 1) cap).ownBlock ≠ some b) := Lib.hid fun b e e2 => by
      cases e2
      rcases HLOC.out with h | h
      · exact HD1.out.m2cv g e h
      · have := HD1.out.shown
        rw [e] at this
        exact absurd this.lt (Nat.not_lt.2 h)
    clear hW3 hx3 hcall hpu s5 g5 b0 b1 b2 b3 c5 f5
    go_wp2_with fail
    refine wp_region_still_tail 4 (by kernel_rfl) (by kernel_rfl) ?_
    simp only [List.take_succ_cons, List.take_zero, List.drop_succ_cons, List.drop_zero]
    repeat still_step
    refine wpStill_nil ?_
    go_wp2_with fail
    refine HCALL.out.mono ?_
    rintro e w4 ⟨rfl, m', hfd⟩
    have HFD : Hid (FilesDone (Ext S W1 W3) p 3 m2 (dcells d m1 m2 (.slice (some ⟨g, 0, none⟩) (ps.length + 1) cap)) (capply d.shown ⟨kind, name, to, text⟩) W3 w4 m') := Lib.hid ⟨hfd.blk, hfd.tm, ⟨hfd.fr.os, hfd.fr.tape, hfd.fr.output, hfd.fr.size, hfd.fr.block⟩, hfd.mb⟩
    clear hfd t0 t1 t2 t3
    go_wp2
    first | go_end0 | (simp only [Exit.inBlock, Exit.then]; refine bodyPost_ret (results_none rfl _ _ _) rfl ?_) | refine bodyPost_ret (results_none rfl _ _ _) rfl ?_
    exact ⟨rfl, DPost.trans (fr_below HB1.out S) (fun _ h => h) (fun _ h => .inl h) (HPU.out.does HD1.out HC.out HFD.out (fun j hj => by cases hj; exact HGP.out) HGM.out)⟩

end Go.Proofs.YtmjpckodcafjiaaGreat
