/- The document's disk: works, add, Write, Rename, Remove. -/
import Derived.Test.YtmjpckodcafjiaaGreatRfC
import Derived.Test.YtmjpckodcafjiaaGreatRecB
namespace Go.Proofs.YtmjpckodcafjiaaGreat
open Go.RowKit

/-- What an operation of the document answers: the disk then, and a number. -/
def DocPost (B : Nat → Prop) (w : World) (r : DS × Nat) (e : Ending) (w' : World) : Prop :=
  ∃ sv cv, e = .returned (.tuple #[docV r.1 sv cv, .int .i64 (r.2 : Int)]) ∧ Doc w' (fun j => B j ∨ w.heap.size ≤ j) r.1 sv cv ∧ Below w.heap.size w w'

set_option maxHeartbeats 1000000 in
set_option maxRecDepth 100000 in
theorem rworks_any {w : World} {d : DS} {sv cv : Value} (hs : ∃ ao n cap, sv = .slice ao n cap) (hc : ∃ ao n cap, cv = .slice ao n cap) (hf : -1 ≤ d.fuse ∧ d.fuse ≤ 9223372036854775807) :
    Calls Tryz.prog 75 #[docV d sv cv] w fun e w' => e = .returned (.tuple #[docV (dwork d).1 sv cv, .int .i64 ((dwork d).2 : Int)]) ∧ Below w.heap.size w w' := by
  obtain ⟨ao1, n1, cap1, rfl⟩ := hs
  obtain ⟨ao2, n2, cap2, rfl⟩ := hc
  obtain ⟨room, sure, chs, fuse, down⟩ := d
  simp only [] at hf
  unfold docV
  simp only []
  cases down
  · by_cases hz : fuse = 0
    · subst hz
      have HE : Hid (dwork ⟨room, sure, chs, 0, false⟩ = (⟨room, sure, chs, 0, true⟩, 14)) := Lib.hid (by simp [dwork])
      rw [HE.out]
      go_enter Tryz.func75, Tryz.ntmps75
      go_wp2
      refine bodyPost_ret (v := .tuple #[.agg #[.int .i64 (room : Int), .slice ao1 n1 cap1, .slice ao2 n2 cap2, .int .i64 (0), .bool true], .int .i64 14]) (by simp [results, Tryz.results75, go_sem]) rfl ⟨rfl, ((Below.refl _ _).alloc (Nat.le_refl _) _).alloc (by simp) _⟩
    · by_cases hm : fuse = -1
      · subst hm
        have HE : Hid (dwork ⟨room, sure, chs, -1, false⟩ = (⟨room, sure, chs, -1, false⟩, 0)) := Lib.hid (by simp [dwork])
        rw [HE.out]
        go_enter Tryz.func75, Tryz.ntmps75
        go_wp2
        refine bodyPost_ret (v := .tuple #[.agg #[.int .i64 (room : Int), .slice ao1 n1 cap1, .slice ao2 n2 cap2, .int .i64 (-1), .bool false], .int .i64 0]) (by simp [results, Tryz.results75, go_sem]) rfl ⟨rfl, ((Below.refl _ _).alloc (Nat.le_refl _) _).alloc (by simp) _⟩
      · have hw : wrap64 (fuse - 1) = fuse - 1 := w64_id (by omega) (by omega)
        have hpos : 0 < fuse := by omega
        have HE : Hid (dwork ⟨room, sure, chs, fuse, false⟩ = (⟨room, sure, chs, fuse - 1, false⟩, 0)) := Lib.hid (by simp [dwork, hz, hm])
        rw [HE.out]
        go_enter Tryz.func75, Tryz.ntmps75
        go_wp2
        refine bodyPost_ret (v := .tuple #[.agg #[.int .i64 (room : Int), .slice ao1 n1 cap1, .slice ao2 n2 cap2, .int .i64 (fuse - 1), .bool false], .int .i64 0]) (by simp [results, Tryz.results75, go_sem]) rfl ⟨rfl, ((Below.refl _ _).alloc (Nat.le_refl _) _).alloc (by simp) _⟩
  · have HE : Hid (dwork ⟨room, sure, chs, fuse, true⟩ = (⟨room, sure, chs, fuse, true⟩, 14)) := Lib.hid (by simp [dwork])
    rw [HE.out]
    go_enter Tryz.func75, Tryz.ntmps75
    go_wp2
    refine bodyPost_ret (v := .tuple #[.agg #[.int .i64 (room : Int), .slice ao1 n1 cap1, .slice ao2 n2 cap2, .int .i64 (fuse), .bool true], .int .i64 14]) (by simp [results, Tryz.results75, go_sem]) rfl ⟨rfl, ((Below.refl _ _).alloc (Nat.le_refl _) _).alloc (by simp) _⟩

theorem Tryz.infoRC : (Tryz.prog.info? 110).map (fun i => (i.zero, i.size, i.bytes)) = some (some (.agg #[.int .i64 0, .string { data := #[] }, .string { data := #[] }, .string { data := #[] }]), 4, 56) := by kernel_rfl

theorem rec_one {w : World} {Y : Nat} {r : List Value} {k : Nat} {e : TypeId} (h : w.heap[Y]? = some (.cells r.toArray e (0, 0))) : RecAt w (fun _ => True) k (.slice (some ⟨Y, 0, none⟩) 1 1) [r] := by
  refine ⟨some ⟨Y, 0, none⟩, 1, rfl, by simp, by simp [maxLen], by simp, .inr ⟨Y, 0, rfl, (Array.getElem?_eq_some_iff.1 h).1, trivial, fun i r' hi j u hu => ?_⟩⟩
  cases i with
  | zero =>
    obtain rfl : r = r' := by simpa using hi
    rw [cell_of_row _ _ _ _ _ _ h]
    simpa using hu
  | succ i => simp at hi
theorem alloc_at {w : World} (o : Obj) {Y : Nat} (h : Y = w.heap.size) : (w.alloc o).heap[Y]? = some o := by subst h; exact heap_alloc_new _ _

/-- A disk is laid into a box that stands there. -/
def five (W : World) (p : Nat) (a b c d e : Value) : World := ((((W.setCell ⟨p, 0, none⟩ a).setCell ⟨p, 1, none⟩ b).setCell ⟨p, 2, none⟩ c).setCell ⟨p, 3, none⟩ d).setCell ⟨p, 4, none⟩ e
theorem fr_five (W : World) (p : Nat) (a b c d e : Value) : Fr (fun j => j = p) W (five W p a b c d e) :=
  ((((fr_set W p 0 a).trans (fr_set _ p 1 b) (fun _ _ h => h) (fun _ _ h => h)).trans (fr_set _ p 2 c) (fun _ _ h => h) (fun _ _ h => h)).trans (fr_set _ p 3 d) (fun _ _ h => h) (fun _ _ h => h)).trans (fr_set _ p 4 e) (fun _ _ h => h) (fun _ _ h => h)
theorem five_blk {W : World} {p : Nat} {x0 x1 x2 x3 x4 : Value} {T : TypeId} (h : W.heap[p]? = some (.cells #[x0, x1, x2, x3, x4] T (0, 0))) (a b c d e : Value) : (five W p a b c d e).heap[p]? = some (.cells #[a, b, c, d, e] T (0, 0)) := by
  unfold five
  have h1 := heap_setCell_same W p 0 _ _ a h
  have h2 := heap_setCell_same _ p 1 _ _ b h1
  have h3 := heap_setCell_same _ p 2 _ _ c h2
  have h4 := heap_setCell_same _ p 3 _ _ d h3
  exact heap_setCell_same _ p 4 _ _ e h4

/-- A disk in a box of its own. -/
def boxD (d : DS) (sv cv : Value) : Array Value := #[.int .i64 (d.room : Int), sv, cv, .int .i64 d.fuse, .bool d.down]

set_option maxHeartbeats 2000000 in
set_option maxRecDepth 100000 in
theorem radd_any {w : World} {B : Nat → Prop} {d : DS} {sv cv : Value} (h : Doc w B d sv cv) (hsz : d.sz ≤ 700000) {c : Ch} (hk : c.kind ≤ 2) :
    Calls Tryz.prog 76 #[docV d sv cv, chgV c] w fun e w' => ∃ cv', e = .returned (docV (dadd d c) sv cv') ∧ Doc w' (fun j => B j ∨ w.heap.size ≤ j) (dadd d c) sv cv' ∧ Below w.heap.size w w' := by
  obtain ⟨⟨aos, caps, rfl⟩, aoc, capc, rfl⟩ := h.val
  have H := Lib.hid h
  have HCL : Hid (d.chs.length ≤ 700000) := Lib.hid (Nat.le_trans (Nat.le_add_left _ _) hsz)
  have HK : Hid (c.kind ≤ 2) := Lib.hid hk
  unfold docV chgV dadd
  simp only []
  obtain ⟨bn, hbn⟩ : ∃ s, Value.string s = nmV c.name := ⟨_, rfl⟩
  obtain ⟨bt, hbt⟩ : ∃ s, Value.string s = nmV c.to := ⟨_, rfl⟩
  obtain ⟨bx, hbx⟩ : ∃ s, s = txt c.text := ⟨_, rfl⟩
  rw [← hbn, ← hbt, ← hbx]
  have HR : Hid ([Value.int .i64 (c.kind : Int), .string bn, .string bt, .string bx] = cR c) := Lib.hid (by unfold cR; rw [hbn, hbt, hbx])
  obtain ⟨zk, hzk⟩ : ∃ zk : Int, zk = (c.kind : Int) := ⟨_, rfl⟩
  rw [← hzk] at HR ⊢
  obtain ⟨zr, hzr⟩ : ∃ zr : Int, zr = (d.room : Int) := ⟨_, rfl⟩
  rw [← hzr]
  obtain ⟨W3, hW3⟩ : ∃ W3, W3 = ((w.alloc (.cells #[.int .i64 zr, .slice aos d.sure.length caps, .slice aoc d.chs.length capc, .int .i64 d.fuse, .bool d.down] 33)).alloc (.cells #[.int .i64 zk, .string bn, .string bt, .string bx] 110)).alloc (.cells #[.int .i64 0, .slice none 0 0, .slice none 0 0, .int .i64 0, .bool false] 33) := ⟨_, rfl⟩
  have HZR := Lib.hid hzr
  have HZK := Lib.hid hzk
  have hb3 : Below w.heap.size w W3 := by rw [hW3]; exact (((Below.refl _ _).alloc (Nat.le_refl _) _).alloc (by simp) _).alloc (by simp; omega) _
  have hD : W3.heap[w.heap.size]? = some (.cells #[.int .i64 zr, .slice aos d.sure.length caps, .slice aoc d.chs.length capc, .int .i64 d.fuse, .bool d.down] 33 (0, 0)) := by
    rw [hW3, Below.heap_alloc _ _ _ (by simp; omega), Below.heap_alloc _ _ _ (by simp)]
    exact heap_alloc_new _ _
  have hC : W3.heap[w.heap.size + 1]? = some (.cells #[.int .i64 zk, .string bn, .string bt, .string bx] 110 (0, 0)) := by
    rw [hW3, Below.heap_alloc _ _ _ (by simp)]
    have := heap_alloc_new (w.alloc (.cells #[.int .i64 zr, .slice aos d.sure.length caps, .slice aoc d.chs.length capc, .int .i64 d.fuse, .bool d.down] 33)) (.cells #[.int .i64 zk, .string bn, .string bt, .string bx] 110)
    simpa using this
  have hZ : W3.heap[w.heap.size + 1 + 1]? = some (.cells #[.int .i64 0, .slice none 0 0, .slice none 0 0, .int .i64 0, .bool false] 33 (0, 0)) := by
    have := heap_alloc_new ((w.alloc (.cells #[.int .i64 zr, .slice aos d.sure.length caps, .slice aoc d.chs.length capc, .int .i64 d.fuse, .bool d.down] 33)).alloc (.cells #[.int .i64 zk, .string bn, .string bt, .string bx] 110)) (.cells #[.int .i64 0, .slice none 0 0, .slice none 0 0, .int .i64 0, .bool false] 33)
    rw [hW3]
    simpa using this
  have hsz3 : W3.heap.size = w.heap.size + 3 := by rw [hW3]; simp
  have HD := Lib.hid hD
  have HC := Lib.hid hC
  have HZ := Lib.hid hZ
  have HB3 := Lib.hid hb3
  have HS3 := Lib.hid hsz3
  have HCV : Hid (RecAt W3 B 4 (.slice aoc d.chs.length capc) (d.chs.map cR)) := Lib.hid (H.out.chs.keep (kept_new hb3 B))
  have HW3 := Lib.hid hW3
  clear h hsz hk hbn hbt hbx hzk hzr hW3 hb3 hD hC hZ hsz3
  go_enter Tryz.func76, Tryz.ntmps76
  go_wp2_with fail
  rw [← HW3.out]
  have d2 : ∀ wx, Below W3.heap.size W3 wx → wx.cell? ⟨w.heap.size, 2, none⟩ = some (.slice aoc d.chs.length capc) := fun wx hb => by
    rw [World.cell?_of_block (hb.block w.heap.size (by have := HS3.out; omega)), cell_of_row _ _ 2 _ _ _ HD.out]; rfl
  have D2 := Lib.hid d2
  have HCELL : Hid (∀ wx, Below W3.heap.size W3 wx → wx.cell? ⟨w.heap.size, 2, none⟩ = some (.slice aoc d.chs.length capc) ∧ wx.cell? ⟨w.heap.size + 1, 0, none⟩ = some (.int .i64 zk) ∧ wx.cell? ⟨w.heap.size + 1, 1, none⟩ = some (.string bn) ∧ wx.cell? ⟨w.heap.size + 1, 2, none⟩ = some (.string bt) ∧ wx.cell? ⟨w.heap.size + 1, 3, none⟩ = some (.string bx) ∧ wx.frozen? ⟨w.heap.size, 2, none⟩ = false) := Lib.hid fun wx hb => by
    have h1 : wx.heap[w.heap.size]? = _ := (hb.block w.heap.size (by have := HS3.out; omega)).trans HD.out
    have h2 : wx.heap[w.heap.size + 1]? = _ := (hb.block (w.heap.size + 1) (by have := HS3.out; omega)).trans HC.out
    exact ⟨by rw [cell_of_row _ _ 2 _ _ _ h1]; rfl, by rw [cell_of_row _ _ 0 _ _ _ h2]; rfl, by rw [cell_of_row _ _ 1 _ _ _ h2]; rfl, by rw [cell_of_row _ _ 2 _ _ _ h2]; rfl, by rw [cell_of_row _ _ 3 _ _ _ h2]; rfl, frozen_of_row _ _ 2 _ _ h1⟩
  have hba : ∀ o, Below W3.heap.size W3 (W3.drew.alloc o) := fun o => (Below.refl _ W3).drew.alloc (Nat.le_refl _) o
  have q1 : ∀ o, (W3.drew.alloc o).cell? ⟨w.heap.size, 2, none⟩ = some (.slice aoc d.chs.length capc) := fun o => (HCELL.out _ (hba o)).1
  have q2 : ∀ o, (W3.drew.alloc o).cell? ⟨w.heap.size + 1, 0, none⟩ = some (.int .i64 zk) := fun o => (HCELL.out _ (hba o)).2.1
  have q3 : ∀ o, (W3.drew.alloc o).cell? ⟨w.heap.size + 1, 1, none⟩ = some (.string bn) := fun o => (HCELL.out _ (hba o)).2.2.1
  have q4 : ∀ o, (W3.drew.alloc o).cell? ⟨w.heap.size + 1, 2, none⟩ = some (.string bt) := fun o => (HCELL.out _ (hba o)).2.2.2.1
  have q5 : ∀ o, (W3.drew.alloc o).cell? ⟨w.heap.size + 1, 3, none⟩ = some (.string bx) := fun o => (HCELL.out _ (hba o)).2.2.2.2.1
  have hbb : ∀ o, Below W3.heap.size W3 (W3.alloc o) := fun o => (Below.refl _ W3).alloc (Nat.le_refl _) o
  have p1 : ∀ o, (W3.alloc o).cell? ⟨w.heap.size, 2, none⟩ = some (.slice aoc d.chs.length capc) := fun o => (HCELL.out _ (hbb o)).1
  have p2 : ∀ o, (W3.alloc o).cell? ⟨w.heap.size + 1, 0, none⟩ = some (.int .i64 zk) := fun o => (HCELL.out _ (hbb o)).2.1
  have p3 : ∀ o, (W3.alloc o).cell? ⟨w.heap.size + 1, 1, none⟩ = some (.string bn) := fun o => (HCELL.out _ (hbb o)).2.2.1
  have p4 : ∀ o, (W3.alloc o).cell? ⟨w.heap.size + 1, 2, none⟩ = some (.string bt) := fun o => (HCELL.out _ (hbb o)).2.2.2.1
  have p5 : ∀ o, (W3.alloc o).cell? ⟨w.heap.size + 1, 3, none⟩ = some (.string bx) := fun o => (HCELL.out _ (hbb o)).2.2.2.2.1
  obtain ⟨r1, r2, r3, r4, r5, _⟩ := HCELL.out _ (Below.refl _ _)
  have pp : ∀ o o', ((W3.alloc o).alloc o').cell? ⟨w.heap.size, 2, none⟩ = some (.slice aoc d.chs.length capc) := fun o o' => (HCELL.out _ ((hbb o).alloc (by simp) o')).1
  clear hba hbb
  clear d2
  go_region_law
    ((first
      | (refine step_appRecs (B := B) (by rfl) _ _ _ (by rfl) W3.heap.size 110 _ 4 56 Tryz.underlying31 Tryz.infoRC rfl (by decide) _ (.slice aoc d.chs.length capc) [] (d.chs.map cR) (by rfl) (by rfl) (by first | exact recOwn_empty W3.drew _ _ _ (Nat.le_refl _) | exact (recOwn_empty W3.drew _ _ _ (Nat.le_refl _)).alloc _ | (have h := recOwn_empty (W3.drew.alloc (.cells #[.int .i64 zk, .string bn, .string bt, .string bx] 110)) W3.heap.size 110 4 (by simp); rw [show (W3.drew.alloc (.cells #[.int .i64 zk, .string bn, .string bt, .string bx] 110)).heap.size = W3.heap.size + 1 from by simp] at h; exact h)) (by first | exact HCV.out.keep (kept_new ((Below.refl _ W3).drew.alloc (Nat.le_refl _) _) B) | exact HCV.out.keep (kept_new (((Below.refl _ W3).drew.alloc (Nat.le_refl _) _).alloc (by simp) _) B)) (by simp [cR]) (by simp [cR, Value.oneCell', nmV]) (by have := HCL.out; simp only [List.length_map, maxLen, List.length_nil]; omega) (by have := HCL.out; simp only [List.length_map, List.length_nil]; omega) (by simp <;> omega) ?_
         intro vA wA hoA hgA
         change World.grownBy _ _ (some _) at hgA
         rw [List.nil_append] at hoA
         have hbA : Below W3.heap.size W3 wA := by
           first
             | exact ((Below.refl _ W3).drew.alloc (Nat.le_refl _) _).grown hgA (by simp) (fun j hj => by cases hj; simp)
             | exact (((Below.refl _ W3).drew.alloc (Nat.le_refl _) _).alloc (by simp) _).grown hgA (by simp; omega) (fun j hj => by cases hj; simp)
         obtain ⟨s1, s2, s3, s4, s5, s6⟩ := HCELL.out _ hbA
         obtain ⟨oA, cA, hvA, _⟩ := hoA.val
         rw [List.length_map] at hvA
         subst hvA
         have HOA := Lib.hid hoA
         have HGA := Lib.hid hgA
         have HBAA := Lib.hid hbA
         clear hoA hgA hbA)
      | (refine step_appRecs (B := fun _ => True) (by rfl) _ _ _ (by rfl) W3.heap.size 110 _ 4 56 Tryz.underlying31 Tryz.infoRC rfl (by decide) (.slice oA _ cA) _ (d.chs.map cR) [[.int .i64 zk, .string bn, .string bt, .string bx]] (by rfl) (by rfl) (by first | exact HOA.out.alloc _ | exact HOA.out) (rec_one (by
             first
               | exact alloc_at (w := wA) _ rfl
               | exact (HGA.out.block _ (by simp <;> omega) (by simp <;> omega)).trans (alloc_at _ (by simp <;> omega))
               | exact (HGA.out.block _ (by simp <;> omega) (by simp <;> omega)).trans ((Below.heap_alloc _ _ _ (by simp <;> omega)).trans (alloc_at _ (by simp <;> omega))))) (by simp) (by simp [Value.oneCell']) (by have := HCL.out; simp only [List.length_map, maxLen, List.length_singleton]; omega) (by have := HCL.out; simp only [List.length_map, List.length_singleton]; omega) (by have := HBAA.out.size; first | exact this | (simp; omega)) ?_
         intro vB wB hoB hgB
         have hbB : Below W3.heap.size W3 wB := by
           first
             | exact (HBAA.out.alloc HBAA.out.size _).grown hgB (by have := HBAA.out.size; simp; omega) (fun j hj => (HOA.out.block hj).1)
             | exact HBAA.out.grown hgB HBAA.out.size (fun j hj => (HOA.out.block hj).1)
         obtain ⟨_, _, _, _, _, z6⟩ := HCELL.out _ hbB
         obtain ⟨oB, cB, rfl, _⟩ := hoB.val
         have HOB := Lib.hid hoB
         have HBB := Lib.hid hbB
         clear hoB hgB hbB)))
  all_goals
    obtain ⟨W4, hW4⟩ : ∃ W4, W4 = wB.setCell ⟨w.heap.size, 2, none⟩ (.slice oB (d.chs.length + 1) cB) := ⟨_, rfl⟩
    have hD4 : W4.heap[w.heap.size]? = some (.cells #[.int .i64 zr, .slice aos d.sure.length caps, .slice oB (d.chs.length + 1) cB, .int .i64 d.fuse, .bool d.down] 33 (0, 0)) := by
      rw [hW4]
      exact heap_setCell_same wB w.heap.size 2 _ _ _ ((HBB.out.block w.heap.size (by have := HS3.out; omega)).trans HD.out)
    have hZ4 : W4.heap[w.heap.size + 1 + 1]? = some (.cells #[.int .i64 0, .slice none 0 0, .slice none 0 0, .int .i64 0, .bool false] 33 (0, 0)) := by
      rw [hW4, heap_setCell_other wB ⟨w.heap.size, 2, none⟩ (w.heap.size + 1 + 1) _ (show w.heap.size + 1 + 1 ≠ w.heap.size by omega)]
      exact (HBB.out.block (w.heap.size + 1 + 1) (by have := HS3.out; omega)).trans HZ.out
    have hB4 : Below w.heap.size w W4 := by
      rw [hW4]
      exact (HB3.out.trans (HBB.out.mono (by have := HS3.out; omega))).setCell (Nat.le_refl _) _
    have hO4 : RecOwn W4 W3.heap.size 110 4 (.slice oB (d.chs.length + 1) cB) (d.chs.map cR ++ [cR c]) := by
      rw [hW4]
      have h := HOB.out
      rw [HR.out, show (d.chs.map cR ++ [cR c]).length = d.chs.length + 1 from by simp] at h
      exact h.keep fun j hj => heap_setCell_other wB ⟨w.heap.size, 2, none⟩ j _ (show j ≠ w.heap.size by have := (h.block hj).1; have := HS3.out; omega)
    have hK4 : Kept (fun j => j < w.heap.size) w W4 := kept_below hB4
    rw [← hW4]
    have HW4 := Lib.hid hW4
    have HO4 := Lib.hid hO4
    have HB4 := Lib.hid hB4
    have e0 : W4.cell? ⟨w.heap.size, 0, none⟩ = some (.int .i64 zr) := by rw [cell_of_row _ _ 0 _ _ _ hD4]; rfl
    have e1 : W4.cell? ⟨w.heap.size, 1, none⟩ = some (.slice aos d.sure.length caps) := by rw [cell_of_row _ _ 1 _ _ _ hD4]; rfl
    have e2 : W4.cell? ⟨w.heap.size, 2, none⟩ = some (.slice oB (d.chs.length + 1) cB) := by rw [cell_of_row _ _ 2 _ _ _ hD4]; rfl
    have e3 : W4.cell? ⟨w.heap.size, 3, none⟩ = some (.int .i64 d.fuse) := by rw [cell_of_row _ _ 3 _ _ _ hD4]; rfl
    have e4 : W4.cell? ⟨w.heap.size, 4, none⟩ = some (.bool d.down) := by rw [cell_of_row _ _ 4 _ _ _ hD4]; rfl
    have g0 : W4.cell? ⟨w.heap.size + 1 + 1, 0, none⟩ = some (.int .i64 0) := by rw [cell_of_row _ _ 0 _ _ _ hZ4]; rfl
    have g1 : W4.cell? ⟨w.heap.size + 1 + 1, 1, none⟩ = some (.slice none 0 0) := by rw [cell_of_row _ _ 1 _ _ _ hZ4]; rfl
    have g2 : W4.cell? ⟨w.heap.size + 1 + 1, 2, none⟩ = some (.slice none 0 0) := by rw [cell_of_row _ _ 2 _ _ _ hZ4]; rfl
    have g3 : W4.cell? ⟨w.heap.size + 1 + 1, 3, none⟩ = some (.int .i64 0) := by rw [cell_of_row _ _ 3 _ _ _ hZ4]; rfl
    have g4 : W4.cell? ⟨w.heap.size + 1 + 1, 4, none⟩ = some (.bool false) := by rw [cell_of_row _ _ 4 _ _ _ hZ4]; rfl
    have fz : ∀ i, W4.frozen? ⟨w.heap.size + 1 + 1, i, none⟩ = false := fun i => frozen_of_row _ _ i _ _ hZ4
    clear hW4 hD4 hZ4 hB4 hO4 hK4
    go_wp2
    refine bodyPost_ret (v := .agg #[.int .i64 zr, .slice aos d.sure.length caps, .slice oB (d.chs.length + 1) cB, .int .i64 d.fuse, .bool d.down]) (by simp [results, Tryz.results76, go_sem, g0, g1, g2, g3, g4]) rfl ?_
    have hf5 := fr_five W4 (w.heap.size + 1 + 1) (.int .i64 zr) (.slice aos d.sure.length caps) (.slice oB (d.chs.length + 1) cB) (.int .i64 d.fuse) (.bool d.down)
    have hb5 := HB4.out.trans (hf5.below HB4.out.size (B := w.heap.size) fun j hj e => by omega)
    refine ⟨_, rfl, ⟨(H.out.sure.keep (kept_new hb5 B)).mono fun _ _ h => .inl h, ?_, ?_⟩, hb5⟩
    · have h := HO4.out.keep fun j hj => hf5.block j (HO4.out.block hj).2.1 (by have := (HO4.out.block hj).1; have := HS3.out; omega)
      have h2 : RecAt _ (fun j => B j ∨ w.heap.size ≤ j) 4 _ _ := (RecOwn.at' h).mono fun j _ hj => .inr (by have := HS3.out; omega)
      rw [← List.map_singleton (f := cR), ← List.map_append] at h2
      exact h2
    · intro x hx
      rcases List.mem_append.1 hx with hx | hx
      · exact H.out.kind x hx
      · obtain rfl : x = c := by simpa using hx
        exact HK.out

end Go.Proofs.YtmjpckodcafjiaaGreat
