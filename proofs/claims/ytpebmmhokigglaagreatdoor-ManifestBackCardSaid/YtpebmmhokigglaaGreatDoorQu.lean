/- Which bytes a part holds: the program's Holds and the document's. · What Holds says of a segment's own bytes, and of all bytes; package manifest: Digest. -/
import Derived.Test.YtpebmmhokigglaaGreatDoorQs
import Derived.Test.YtpebmmhokigglaaGreatDoorQm
import Derived.Test.YtpebmmhokigglaaGreatDoorQt
namespace Go.Proofs.YtpebmmhokigglaaGreatDoor
open Go.RowKit

/-- What Holds answers. -/
def RHold (p : PT) (b : List Nat) (f : Int) (cs : List IC) (c : Nat) : Prop :=
  if (b.length : Int) ≠ p.2.2.1 ∨ shaOf shaK shaH b ≠ p.2.2.2 then c = 11 ∧ f = 0 ∧ cs = []
  else ∃ (f1 : Int) (cs1 : List IC) (c1 : Nat), RSeg b f1 cs1 c1 ∧ (if c1 ≠ 0 then c = c1 ∧ f = 0 ∧ cs = [] else if f1 ≠ p.1 ∨ (cs1.length : Int) ≠ p.2.1 then c = 2 ∧ f = 0 ∧ cs = [] else c = 0 ∧ f = f1 ∧ cs = cs1)
theorem RHold.unique {p : PT} {b : List Nat} {f f' : Int} {cs cs' : List IC} {c c' : Nat} (h : RHold p b f cs c) (h' : RHold p b f' cs' c') : f = f' ∧ cs = cs' ∧ c = c' := by
  unfold RHold at h h'
  split at h
  · rename_i hc
    rw [if_pos hc] at h'
    obtain ⟨rfl, rfl, rfl⟩ := h
    obtain ⟨rfl, rfl, rfl⟩ := h'
    exact ⟨rfl, rfl, rfl⟩
  · rename_i hc
    rw [if_neg hc] at h'
    obtain ⟨f1, cs1, c1, h1, h2⟩ := h
    obtain ⟨f2, cs2, c2, h3, h4⟩ := h'
    obtain ⟨rfl, rfl, rfl⟩ := h1.unique h3
    by_cases hz : c1 ≠ 0
    · rw [if_pos hz] at h2 h4
      obtain ⟨rfl, rfl, rfl⟩ := h2
      obtain ⟨rfl, rfl, rfl⟩ := h4
      exact ⟨rfl, rfl, rfl⟩
    · rw [if_neg hz] at h2 h4
      by_cases hf : f1 ≠ p.1 ∨ (cs1.length : Int) ≠ p.2.1
      · rw [if_pos hf] at h2 h4
        obtain ⟨rfl, rfl, rfl⟩ := h2
        obtain ⟨rfl, rfl, rfl⟩ := h4
        exact ⟨rfl, rfl, rfl⟩
      · rw [if_neg hf] at h2 h4
        obtain ⟨rfl, rfl, rfl⟩ := h2
        obtain ⟨rfl, rfl, rfl⟩ := h4
        exact ⟨rfl, rfl, rfl⟩
def MHoldPost (p : PT) (b : List Nat) (w : World) (r : Ending) (w' : World) : Prop :=
  Below w.heap.size w w' ∧ ∃ (f : Int) (cs : List IC) (c : Nat) (v : Value), RHold p b f cs c ∧ r = .returned (.tuple #[.agg #[.int .i64 f, v], errV c]) ∧ CellsAt w' (fun j => w.heap.size ≤ j) v cs
def DHoldPost (p : PT) (b : List Nat) (w : World) (r : Ending) (w' : World) : Prop :=
  Below w.heap.size w w' ∧ ∃ (f : Int) (cs : List IC) (c : Nat) (v : Value), RHold p b f cs c ∧ r = .returned (.tuple #[.agg #[.int .i64 f, v], .int .i64 (c : Int)]) ∧ Dc w' (fun j => w.heap.size ≤ j) v cs
theorem pb_cellsQ {w : World} {q : Nat} {p : PT} {T : TypeId} (h : PB w q p T) : w.cell? ⟨q, 0, none⟩ = some (.int .i64 p.1) ∧ w.cell? ⟨q, 1, none⟩ = some (.int .i64 p.2.1) ∧ w.cell? ⟨q, 2, none⟩ = some (.int .i64 p.2.2.1) := h.x

set_option maxHeartbeats 8000000 in
set_option maxRecDepth 100000 in
theorem mhold_any (p : PT) (v : Value) (b : List Nat) (w : World) (hd : Dg p.2.2.2) (hr : Reads w .u8 v b) (h8 : ∀ y ∈ b, y < 256) (hx : b.length ≤ 100000) (hld : Laid w) :
    Calls Tryz.prog 14 #[.agg (ptRow p).toArray, v] w (MHoldPost p b w) := by
  obtain ⟨ao, cap, rfl, _, _, _⟩ := hr.val
  obtain ⟨W1, hW1⟩ : ∃ W1, W1 = (w.alloc (.cells (ptRow p).toArray 28)).alloc (.cells #[.int .i64 0, .slice none 0 0] 24) := ⟨_, rfl⟩
  have hb1 : Below w.heap.size w W1 := by rw [hW1]; exact ((Below.refl _ _).alloc (Nat.le_refl _) _).alloc (by simp) _
  have hx1 : PB W1 w.heap.size p 28 := by rw [hW1]; exact (pb_new _ _ _).old ((Below.refl _ _).alloc (Nat.le_refl _) _)
  have hz1 : W1.heap[w.heap.size + 1]? = some (.cells #[.int .i64 0, .slice none 0 0] 24 (0, 0)) := by
    have := heap_alloc_new (w.alloc (.cells (ptRow p).toArray 28)) (.cells #[.int .i64 0, .slice none 0 0] 24)
    rw [hW1]; simpa using this
  have hs1 : W1.heap.size = w.heap.size + 2 := by rw [hW1]; simp
  have HB1 := Lib.hid hb1
  have HX1 := Lib.hid hx1
  have HZ1 := Lib.hid hz1
  have HS1 := Lib.hid hs1
  have HR1 := Lib.hid (hr.new hb1)
  have H8 := Lib.hid h8
  have HXL := Lib.hid hx
  have HDP := Lib.hid hd
  obtain ⟨DS, hDS⟩ : ∃ D, D = shaOf shaK shaH b := ⟨_, rfl⟩
  have hds : DS.length = 32 := by rw [hDS]; exact sha_len b
  have HLD1 := Lib.hid (hld.next hb1)
  have HSUM : Hid (∀ W, Below W1.heap.size W1 W → Calls Tryz.prog 21 #[.slice ao b.length cap] W fun e w' => e = .returned (.agg (vals .u8 DS).toArray) ∧ Below W.heap.size W w') := Lib.hid fun W hW => by
    rw [hDS]
    exact sumS_any _ b W (HR1.out.new hW) hx h8 (HLD1.out.next hW)
  have HTK : Hid (∀ W, Below W1.heap.size W1 W → Calls Tryz.prog 29 #[.slice ao b.length cap] W (SgTakePost b W)) := Lib.hid fun W hW => sgtake_any _ b W (HR1.out.new hW) h8 (by omega)
  have HDL : Hid ((Tryz.prog.info? 26).map (·.size) = some (vals .u8 p.2.2.2).length) := Lib.hid (by rw [vals_length, hd.1]; exact Tryz.sizeDG)
  have HEQ : Hid (∀ W, (binOp .neq 26 (.agg (vals .u8 DS).toArray) (.agg (vals .u8 p.2.2.2).toArray)).run Tryz.prog W = .ok (.bool (!(DS == p.2.2.2))) W) := Lib.hid fun W => by
    have this : (Op.equal 26 (.agg (vals .u8 DS).toArray) (.agg (vals .u8 p.2.2.2).toArray)).run Tryz.prog W = .ok (DS == p.2.2.2) W := equalIn_nums (k := .u8) Tryz.underlying26 Tryz.underlying5 (fun w => by kernel_rfl) DS p.2.2.2 hds hd.1 W
    simp [binOp, this]
  obtain ⟨nb, hnb⟩ : ∃ n, n = b.length := ⟨_, rfl⟩
  rw [← hnb] at HSUM HTK HR1 ⊢
  have HNB := Lib.hid hnb
  have HDS := Lib.hid hDS
  obtain ⟨pt, hpt⟩ : ∃ q, q = (ptRow p).toArray := ⟨_, rfl⟩
  rw [← hpt] at hW1 ⊢
  obtain ⟨pf, pm, ps, pd⟩ := p
  have HXX : Hid (∀ W, Below W1.heap.size W1 W → W.cell? ⟨w.heap.size, 0, none⟩ = some (.int .i64 pf) ∧ W.cell? ⟨w.heap.size, 1, none⟩ = some (.int .i64 pm) ∧ W.cell? ⟨w.heap.size, 2, none⟩ = some (.int .i64 ps)) := Lib.hid fun W hW => pb_cellsQ (HX1.out.old hW)
  have HXS : Hid (∀ W, Below W1.heap.size W1 W → ∀ j u, (vals .u8 pd)[j]? = some u → W.cell? ⟨w.heap.size, 3 + j, none⟩ = some u) := Lib.hid fun W hW => (HX1.out.old hW).sum
  have HZZ : Hid (∀ W, Below W1.heap.size W1 W → W.heap[w.heap.size + 1]? = some (.cells #[.int .i64 0, .slice none 0 0] 24 (0, 0))) := Lib.hid fun W hW => (hW.block _ (by have := HS1.out; omega)).trans HZ1.out
  simp only at HDL HEQ
  have HW1 := Lib.hid hW1
  clear hd hr h8 hx hld hb1 hx1 hz1 hs1 hds hDS hnb hpt hW1
  go_enter Tryz.func14, Tryz.ntmps14
  go_upto_region 1 with fail
  rw [← HW1.out]

  by_cases g1 : (nb : Int) = ps
  rotate_left
  · have hgb : (!((nb : Int) == ps)) = true := by simp [g1]
    have hgc : ((nb : Int) != ps) = true := by simp [g1]
    refine wp_region_extS (fun W => Below W1.heap.size W1 W) (Below.refl _ _).drew (by kernel_rfl) ?_
    refine extS_take (i := 0) (d := 8) (v := ?_) rfl rfl (by kernel_rfl) (by kernel_rfl) (by kernel_rfl) (fun _ _ _ h => h) (by rfl) (fun W hS => ?_) ?_
    rotate_left
    · skip
      obtain ⟨x0, x1, x2⟩ := HXX.out W hS; refine gives_value (w := W) ⟨Below.refl _ _, hS⟩ ?_; go_simp; try with_reducible rfl
    simp only [List.setIfInBounds_toArray, List.set_cons_zero, List.set_cons_succ]
    refine extS_take (i := 1) (d := 9) (v := ?_) rfl rfl (by kernel_rfl) (by kernel_rfl) (by kernel_rfl) (fun _ _ _ h => h) (by rfl) (fun W hS => ?_) ?_
    rotate_left
    · skip
      obtain ⟨x0, x1, x2⟩ := HXX.out W hS; refine gives_value (w := W) ⟨Below.refl _ _, hS⟩ ?_; go_simp; try with_reducible rfl
    simp only [List.setIfInBounds_toArray, List.set_cons_zero, List.set_cons_succ]
    refine extS_take (i := 2) (d := 10) (v := ?_) rfl rfl (by kernel_rfl) (by kernel_rfl) (by kernel_rfl) (fun _ _ _ h => h) (by rfl) (fun W hS => ?_) ?_
    rotate_left
    · skip
      obtain ⟨x0, x1, x2⟩ := HXX.out W hS; refine gives_value (w := W) ⟨Below.refl _ _, hS⟩ ?_; go_simp; try with_reducible rfl
    simp only [List.setIfInBounds_toArray, List.set_cons_zero, List.set_cons_succ]
    refine extS_take (i := 3) (d := 11) (v := ?_) rfl rfl (by kernel_rfl) (by kernel_rfl) (by kernel_rfl) (fun _ _ _ h => h) (by rfl) (fun W hS => ?_) ?_
    rotate_left
    · skip
      obtain ⟨x0, x1, x2⟩ := HXX.out W hS; refine gives_value (w := W) ⟨Below.refl _ _, hS⟩ ?_; go_simp; try with_reducible rfl
    simp only [List.setIfInBounds_toArray, List.set_cons_zero, List.set_cons_succ]
    refine extS_take (i := 4) (d := 12) (v := ?_) rfl rfl (by kernel_rfl) (by kernel_rfl) (by kernel_rfl) (fun _ _ _ h => h) (by rfl) (fun W hS => ?_) ?_
    rotate_left
    · skip
      obtain ⟨x0, x1, x2⟩ := HXX.out W hS; refine gives_value (w := W) ⟨Below.refl _ _, hS⟩ ?_; go_simp; try with_reducible rfl
    simp only [List.setIfInBounds_toArray, List.set_cons_zero, List.set_cons_succ]
    refine extS_take (i := 5) (d := 13) (v := ?_) rfl rfl (by kernel_rfl) (by kernel_rfl) (by kernel_rfl) (fun _ _ _ h => h) (by rfl) (fun W hS => ?_) ?_
    rotate_left
    · skip
      obtain ⟨x0, x1, x2⟩ := HXX.out W hS; refine gives_value (w := W) ⟨Below.refl _ _, hS⟩ ?_; go_simp; try with_reducible rfl
    simp only [List.setIfInBounds_toArray, List.set_cons_zero, List.set_cons_succ]
    refine extS_skip (i := 6) (d := 14) rfl rfl (by kernel_rfl) (by kernel_rfl) (by kernel_rfl) (fun _ _ _ h => h) (by rfl) ?_
    simp only [List.setIfInBounds_toArray, List.set_cons_zero, List.set_cons_succ]
    refine extS_skip (i := 7) (d := 15) rfl rfl (by kernel_rfl) (by kernel_rfl) (by kernel_rfl) (fun _ _ _ h => h) (by rfl) ?_
    simp only [List.setIfInBounds_toArray, List.set_cons_zero, List.set_cons_succ]
    refine extS_skip (i := 8) (d := 16) rfl rfl (by kernel_rfl) (by kernel_rfl) (by kernel_rfl) (fun _ _ _ h => h) (by rfl) ?_
    simp only [List.setIfInBounds_toArray, List.set_cons_zero, List.set_cons_succ]
    refine extS_skip (i := 9) (d := 17) rfl rfl (by kernel_rfl) (by kernel_rfl) (by kernel_rfl) (fun _ _ _ h => h) (by rfl) ?_
    simp only [List.setIfInBounds_toArray, List.set_cons_zero, List.set_cons_succ]
    refine extS_skip (i := 10) (d := 18) rfl rfl (by kernel_rfl) (by kernel_rfl) (by kernel_rfl) (fun _ _ _ h => h) (by rfl) ?_
    simp only [List.setIfInBounds_toArray, List.set_cons_zero, List.set_cons_succ]
    refine extS_take (i := 11) (d := 19) (v := ?_) rfl rfl (by kernel_rfl) (by kernel_rfl) (by kernel_rfl) (fun _ _ _ h => h) (by rfl) (fun W hS => ?_) ?_
    rotate_left
    · skip
      refine gives_value (w := W) ⟨Below.refl _ _, hS⟩ ?_; go_simp; try with_reducible rfl
    simp only [List.setIfInBounds_toArray, List.set_cons_zero, List.set_cons_succ]
    refine extS_done (by kernel_rfl) (fun W2 _ hS2 => ?_) _
    have HS2 := Lib.hid hS2
    have zz := q_cellsQ (HZZ.out W2 hS2)
    have hf0 : W2.frozen? ⟨w.heap.size + 1, 0, none⟩ = false ∧ W2.frozen? ⟨w.heap.size + 1, 1, none⟩ = false := ⟨(blk2 (HZZ.out W2 hS2)).2.2.1, (blk2 (HZZ.out W2 hS2)).2.2.2⟩
    obtain ⟨z0, z1⟩ := zz
    obtain ⟨f0, f1⟩ := hf0
    clear hS2
    go_wp2
    refine bodyPost_ret (v := .tuple #[.agg #[.int .i64 0, .slice none 0 0], .iface 68 (.int .i64 11)]) (by simp [results, Tryz.results14, go_sem, z0, z1]) rfl ⟨?_, 0, [], 11, .slice none 0 0, ?_, rfl, cells_nil _ _⟩
    · exact ((HB1.out.trans (HS2.out.mono HB1.out.size)).setCell (Nat.le_succ _) _).setCell (Nat.le_succ _) _
    · unfold RHold
      rw [if_pos (.inl (by rw [← HNB.out]; exact g1))]
      exact ⟨rfl, rfl, rfl⟩
  have hgb : (!((nb : Int) == ps)) = false := by simp [g1]
  have hgc : ((nb : Int) != ps) = false := by simp [g1]
  by_cases g2 : DS = pd
  rotate_left
  · have hgd : (!(DS == pd)) = true := by simp [g2]
    obtain ⟨bd, hbd⟩ : ∃ x, x = (!(DS == pd)) := ⟨_, rfl⟩
    rw [← hbd] at HEQ hgd
    subst hgd
    clear hbd
    refine wp_region_extS (fun W => Below W1.heap.size W1 W) (Below.refl _ _).drew (by kernel_rfl) ?_
    refine extS_take (i := 0) (d := 8) (v := ?_) rfl rfl (by kernel_rfl) (by kernel_rfl) (by kernel_rfl) (fun _ _ _ h => h) (by rfl) (fun W hS => ?_) ?_
    rotate_left
    · skip
      obtain ⟨x0, x1, x2⟩ := HXX.out W hS; refine gives_value (w := W) ⟨Below.refl _ _, hS⟩ ?_; go_simp; try with_reducible rfl
    simp only [List.setIfInBounds_toArray, List.set_cons_zero, List.set_cons_succ]
    refine extS_take (i := 1) (d := 9) (v := ?_) rfl rfl (by kernel_rfl) (by kernel_rfl) (by kernel_rfl) (fun _ _ _ h => h) (by rfl) (fun W hS => ?_) ?_
    rotate_left
    · skip
      obtain ⟨x0, x1, x2⟩ := HXX.out W hS; refine gives_value (w := W) ⟨Below.refl _ _, hS⟩ ?_; go_simp; try with_reducible rfl
    simp only [List.setIfInBounds_toArray, List.set_cons_zero, List.set_cons_succ]
    refine extS_take (i := 2) (d := 10) (v := ?_) rfl rfl (by kernel_rfl) (by kernel_rfl) (by kernel_rfl) (fun _ _ _ h => h) (by rfl) (fun W hS => ?_) ?_
    rotate_left
    · skip
      obtain ⟨x0, x1, x2⟩ := HXX.out W hS; refine gives_value (w := W) ⟨Below.refl _ _, hS⟩ ?_; go_simp; try with_reducible rfl
    simp only [List.setIfInBounds_toArray, List.set_cons_zero, List.set_cons_succ]
    refine extS_take (i := 3) (d := 11) (v := ?_) rfl rfl (by kernel_rfl) (by kernel_rfl) (by kernel_rfl) (fun _ _ _ h => h) (by rfl) (fun W hS => ?_) ?_
    rotate_left
    · skip
      obtain ⟨x0, x1, x2⟩ := HXX.out W hS; refine gives_value (w := W) ⟨Below.refl _ _, hS⟩ ?_; go_simp; try with_reducible rfl
    simp only [List.setIfInBounds_toArray, List.set_cons_zero, List.set_cons_succ]
    refine extS_take (i := 4) (d := 12) (v := ?_) rfl rfl (by kernel_rfl) (by kernel_rfl) (by kernel_rfl) (fun _ _ _ h => h) (by rfl) (fun W hS => ?_) ?_
    rotate_left
    · skip
      obtain ⟨x0, x1, x2⟩ := HXX.out W hS; refine gives_value (w := W) ⟨Below.refl _ _, hS⟩ ?_; go_simp; try with_reducible rfl
    simp only [List.setIfInBounds_toArray, List.set_cons_zero, List.set_cons_succ]
    refine extS_take (i := 5) (d := 13) (v := ?_) rfl rfl (by kernel_rfl) (by kernel_rfl) (by kernel_rfl) (fun _ _ _ h => h) (by rfl) (fun W hS => ?_) ?_
    rotate_left
    · skip
      obtain ⟨x0, x1, x2⟩ := HXX.out W hS; refine gives_value (w := W) ⟨Below.refl _ _, hS⟩ ?_; go_simp; try with_reducible rfl
    simp only [List.setIfInBounds_toArray, List.set_cons_zero, List.set_cons_succ]
    refine extS_take (i := 6) (d := 14) (v := ?_) rfl rfl (by kernel_rfl) (by kernel_rfl) (by kernel_rfl) (fun _ _ _ h => h) (by rfl) (fun W hS => ?_) ?_
    rotate_left
    · skip
      refine gives_value (w := W) ⟨Below.refl _ _, hS⟩ ?_; go_simp; try with_reducible rfl
    simp only [List.setIfInBounds_toArray, List.set_cons_zero, List.set_cons_succ]
    refine extS_take (i := 7) (d := 15) (v := ?_) rfl rfl (by kernel_rfl) (by kernel_rfl) (by kernel_rfl) (fun _ _ _ h => h) (by rfl) (fun W hS => ?_) ?_
    rotate_left
    · skip
      go_simp; refine Gives.enter ((HSUM.out W hS).mono ?_); rintro e wn ⟨rfl, hbn⟩; refine ⟨?_, hbn, Below.trans hS (hbn.mono hS.size)⟩; with_reducible rfl
    simp only [List.setIfInBounds_toArray, List.set_cons_zero, List.set_cons_succ]
    refine extS_take (i := 8) (d := 16) (v := ?_) rfl rfl (by kernel_rfl) (by kernel_rfl) (by kernel_rfl) (fun _ _ _ h => h) (by rfl) (fun W hS => ?_) ?_
    rotate_left
    · skip
      refine gives_value (w := W) ⟨Below.refl _ _, hS⟩ ?_; go_simp; try with_reducible rfl
    simp only [List.setIfInBounds_toArray, List.set_cons_zero, List.set_cons_succ]
    refine extS_take (i := 9) (d := 17) (v := .agg (vals .u8 pd).toArray) rfl rfl (by kernel_rfl) (by kernel_rfl) (by kernel_rfl) (fun _ _ _ h => h) (by rfl) (fun W hS => load_gives_at 26 (.tmp 16) rfl w.heap.size 3 rfl (vals .u8 pd) _ (HXS.out W hS) Tryz.underlying26 rfl HDL.out ⟨Below.refl _ _, hS⟩) ?_
    simp only [List.setIfInBounds_toArray, List.set_cons_zero, List.set_cons_succ]
    refine extS_take (i := 10) (d := 18) (v := ?_) rfl rfl (by kernel_rfl) (by kernel_rfl) (by kernel_rfl) (fun _ _ _ h => h) (by rfl) (fun W hS => ?_) ?_
    rotate_left
    · skip
      refine gives_value (w := W) ⟨Below.refl _ _, hS⟩ ?_; refine (exec_eqsM rfl ?_ ?_ (by kernel_rfl) (HEQ.out W)).trans ?_ <;> rfl
    simp only [List.setIfInBounds_toArray, List.set_cons_zero, List.set_cons_succ]
    refine extS_take (i := 11) (d := 19) (v := ?_) rfl rfl (by kernel_rfl) (by kernel_rfl) (by kernel_rfl) (fun _ _ _ h => h) (by rfl) (fun W hS => ?_) ?_
    rotate_left
    · skip
      refine gives_value (w := W) ⟨Below.refl _ _, hS⟩ ?_; go_simp; try with_reducible rfl
    simp only [List.setIfInBounds_toArray, List.set_cons_zero, List.set_cons_succ]
    refine extS_done (by kernel_rfl) (fun W2 _ hS2 => ?_) _
    have HS2 := Lib.hid hS2
    have zz := q_cellsQ (HZZ.out W2 hS2)
    have hf0 : W2.frozen? ⟨w.heap.size + 1, 0, none⟩ = false ∧ W2.frozen? ⟨w.heap.size + 1, 1, none⟩ = false := ⟨(blk2 (HZZ.out W2 hS2)).2.2.1, (blk2 (HZZ.out W2 hS2)).2.2.2⟩
    obtain ⟨z0, z1⟩ := zz
    obtain ⟨f0, f1⟩ := hf0
    clear hS2
    go_wp2
    refine bodyPost_ret (v := .tuple #[.agg #[.int .i64 0, .slice none 0 0], .iface 68 (.int .i64 11)]) (by simp [results, Tryz.results14, go_sem, z0, z1]) rfl ⟨?_, 0, [], 11, .slice none 0 0, ?_, rfl, cells_nil _ _⟩
    · exact ((HB1.out.trans (HS2.out.mono HB1.out.size)).setCell (Nat.le_succ _) _).setCell (Nat.le_succ _) _
    · unfold RHold
      rw [if_pos (.inr (by rw [← HDS.out]; exact g2))]
      exact ⟨rfl, rfl, rfl⟩
  have hgd : (!(DS == pd)) = false := by simp [g2]
  obtain ⟨bd, hbd⟩ : ∃ x, x = (!(DS == pd)) := ⟨_, rfl⟩
  rw [← hbd] at HEQ hgd
  subst hgd
  clear hbd
  refine wp_region_extS (fun W => Below W1.heap.size W1 W) (Below.refl _ _).drew (by kernel_rfl) ?_
  refine extS_take (i := 0) (d := 8) (v := ?_) rfl rfl (by kernel_rfl) (by kernel_rfl) (by kernel_rfl) (fun _ _ _ h => h) (by rfl) (fun W hS => ?_) ?_
  rotate_left
  · skip
    obtain ⟨x0, x1, x2⟩ := HXX.out W hS; refine gives_value (w := W) ⟨Below.refl _ _, hS⟩ ?_; go_simp; try with_reducible rfl
  simp only [List.setIfInBounds_toArray, List.set_cons_zero, List.set_cons_succ]
  refine extS_take (i := 1) (d := 9) (v := ?_) rfl rfl (by kernel_rfl) (by kernel_rfl) (by kernel_rfl) (fun _ _ _ h => h) (by rfl) (fun W hS => ?_) ?_
  rotate_left
  · skip
    obtain ⟨x0, x1, x2⟩ := HXX.out W hS; refine gives_value (w := W) ⟨Below.refl _ _, hS⟩ ?_; go_simp; try with_reducible rfl
  simp only [List.setIfInBounds_toArray, List.set_cons_zero, List.set_cons_succ]
  refine extS_take (i := 2) (d := 10) (v := ?_) rfl rfl (by kernel_rfl) (by kernel_rfl) (by kernel_rfl) (fun _ _ _ h => h) (by rfl) (fun W hS => ?_) ?_
  rotate_left
  · skip
    obtain ⟨x0, x1, x2⟩ := HXX.out W hS; refine gives_value (w := W) ⟨Below.refl _ _, hS⟩ ?_; go_simp; try with_reducible rfl
  simp only [List.setIfInBounds_toArray, List.set_cons_zero, List.set_cons_succ]
  refine extS_take (i := 3) (d := 11) (v := ?_) rfl rfl (by kernel_rfl) (by kernel_rfl) (by kernel_rfl) (fun _ _ _ h => h) (by rfl) (fun W hS => ?_) ?_
  rotate_left
  · skip
    obtain ⟨x0, x1, x2⟩ := HXX.out W hS; refine gives_value (w := W) ⟨Below.refl _ _, hS⟩ ?_; go_simp; try with_reducible rfl
  simp only [List.setIfInBounds_toArray, List.set_cons_zero, List.set_cons_succ]
  refine extS_take (i := 4) (d := 12) (v := ?_) rfl rfl (by kernel_rfl) (by kernel_rfl) (by kernel_rfl) (fun _ _ _ h => h) (by rfl) (fun W hS => ?_) ?_
  rotate_left
  · skip
    obtain ⟨x0, x1, x2⟩ := HXX.out W hS; refine gives_value (w := W) ⟨Below.refl _ _, hS⟩ ?_; go_simp; try with_reducible rfl
  simp only [List.setIfInBounds_toArray, List.set_cons_zero, List.set_cons_succ]
  refine extS_take (i := 5) (d := 13) (v := ?_) rfl rfl (by kernel_rfl) (by kernel_rfl) (by kernel_rfl) (fun _ _ _ h => h) (by rfl) (fun W hS => ?_) ?_
  rotate_left
  · skip
    obtain ⟨x0, x1, x2⟩ := HXX.out W hS; refine gives_value (w := W) ⟨Below.refl _ _, hS⟩ ?_; go_simp; try with_reducible rfl
  simp only [List.setIfInBounds_toArray, List.set_cons_zero, List.set_cons_succ]
  refine extS_take (i := 6) (d := 14) (v := ?_) rfl rfl (by kernel_rfl) (by kernel_rfl) (by kernel_rfl) (fun _ _ _ h => h) (by rfl) (fun W hS => ?_) ?_
  rotate_left
  · skip
    refine gives_value (w := W) ⟨Below.refl _ _, hS⟩ ?_; go_simp; try with_reducible rfl
  simp only [List.setIfInBounds_toArray, List.set_cons_zero, List.set_cons_succ]
  refine extS_take (i := 7) (d := 15) (v := ?_) rfl rfl (by kernel_rfl) (by kernel_rfl) (by kernel_rfl) (fun _ _ _ h => h) (by rfl) (fun W hS => ?_) ?_
  rotate_left
  · skip
    go_simp; refine Gives.enter ((HSUM.out W hS).mono ?_); rintro e wn ⟨rfl, hbn⟩; refine ⟨?_, hbn, Below.trans hS (hbn.mono hS.size)⟩; with_reducible rfl
  simp only [List.setIfInBounds_toArray, List.set_cons_zero, List.set_cons_succ]
  refine extS_take (i := 8) (d := 16) (v := ?_) rfl rfl (by kernel_rfl) (by kernel_rfl) (by kernel_rfl) (fun _ _ _ h => h) (by rfl) (fun W hS => ?_) ?_
  rotate_left
  · skip
    refine gives_value (w := W) ⟨Below.refl _ _, hS⟩ ?_; go_simp; try with_reducible rfl
  simp only [List.setIfInBounds_toArray, List.set_cons_zero, List.set_cons_succ]
  refine extS_take (i := 9) (d := 17) (v := .agg (vals .u8 pd).toArray) rfl rfl (by kernel_rfl) (by kernel_rfl) (by kernel_rfl) (fun _ _ _ h => h) (by rfl) (fun W hS => load_gives_at 26 (.tmp 16) rfl w.heap.size 3 rfl (vals .u8 pd) _ (HXS.out W hS) Tryz.underlying26 rfl HDL.out ⟨Below.refl _ _, hS⟩) ?_
  simp only [List.setIfInBounds_toArray, List.set_cons_zero, List.set_cons_succ]
  refine extS_take (i := 10) (d := 18) (v := ?_) rfl rfl (by kernel_rfl) (by kernel_rfl) (by kernel_rfl) (fun _ _ _ h => h) (by rfl) (fun W hS => ?_) ?_
  rotate_left
  · skip
    refine gives_value (w := W) ⟨Below.refl _ _, hS⟩ ?_; refine (exec_eqsM rfl ?_ ?_ (by kernel_rfl) (HEQ.out W)).trans ?_ <;> rfl
  simp only [List.setIfInBounds_toArray, List.set_cons_zero, List.set_cons_succ]
  refine extS_take (i := 11) (d := 19) (v := ?_) rfl rfl (by kernel_rfl) (by kernel_rfl) (by kernel_rfl) (fun _ _ _ h => h) (by rfl) (fun W hS => ?_) ?_
  rotate_left
  · skip
    refine gives_value (w := W) ⟨Below.refl _ _, hS⟩ ?_; go_simp; try with_reducible rfl
  simp only [List.setIfInBounds_toArray, List.set_cons_zero, List.set_cons_succ]
  refine extS_done (by kernel_rfl) (fun W2 _ hS2 => ?_) _
  have HS2 := Lib.hid hS2
  have HT2 := Lib.hid (HTK.out W2 hS2)
  clear hS2
  go_wp2_with fail
  refine HT2.out.mono ?_
  rintro e w3 ⟨hb3, f1, cs1, c1, v1, hseg, rfl, hat⟩
  obtain ⟨ao3, cap3, rfl, _, _, _⟩ := hat.val
  obtain ⟨n3, hn3⟩ : ∃ n, n = cs1.length := ⟨_, rfl⟩
  rw [← hn3] at hat ⊢
  have HN3 := Lib.hid hn3
  have HSEG := Lib.hid hseg
  have HSZ2 : Hid (w.heap.size + 2 ≤ W2.heap.size) := Lib.hid (by have := HS2.out.size; have := HS1.out; omega)
  have HB3 : Hid (Below W1.heap.size W1 w3) := Lib.hid (HS2.out.trans (hb3.mono HS2.out.size))
  have HAT := Lib.hid hat
  have HSZS : Hid ((Tryz.prog.info? 24).map (·.size) = some (#[.int .i64 f1, .slice ao3 n3 cap3] : Array Value).size) := Lib.hid (by kernel_rfl)
  clear hn3 hseg hb3 hat
  obtain ⟨ev, hev⟩ : ∃ ev : Value, ev = errV c1 := ⟨_, rfl⟩
  rw [← hev]
  have HEV := Lib.hid hev
  clear hev
  go_wp2_with ((with_reducible show wpList _ _ _ (Oper.mk none _ _ _ _ _ :: _) _ _); go_must (refine wpList_store_new rfl 24 (.tmp 6) (.tmp 25) rfl w3 _ #[.int .i64 f1, .slice ao3 n3 cap3] rfl rfl _ HSZS.out rfl (by simp [Value.oneCell']) ?_))
  intro W4 hq4 hb4 hs4
  obtain ⟨g4, hg4⟩ : ∃ g, g = w3.heap.size := ⟨_, rfl⟩
  rw [← hg4] at hq4 ⊢
  have HQ4 := Lib.hid hq4
  have HB4 : Hid (Below W1.heap.size W1 W4) := Lib.hid (HB3.out.trans (hb4.mono HB3.out.size))
  have HG4 : Hid (g4 < W4.heap.size) := Lib.hid (by omega)
  have HAT4 := Lib.hid (HAT.out.old hb4)
  have HLE : Hid (w.heap.size ≤ W2.heap.size) := Lib.hid (Nat.le_trans HB1.out.size HS2.out.size)
  clear hq4 hb4 hs4 hg4
  have hfin : ∀ W, Below W1.heap.size W1 W → Below w.heap.size w ((W.setCell ⟨w.heap.size + 1, 0, none⟩ (.int .i64 0)).setCell ⟨w.heap.size + 1, 1, none⟩ (.slice none 0 0)) := fun W hW => ((HB1.out.trans (hW.mono HB1.out.size)).setCell (Nat.le_succ _) _).setCell (Nat.le_succ _) _
  have HFIN := Lib.hid hfin
  clear hfin
  have HZB : Hid (∀ W, Below W1.heap.size W1 W → W.cell? ⟨w.heap.size + 1, 0, none⟩ = some (.int .i64 0) ∧ W.cell? ⟨w.heap.size + 1, 1, none⟩ = some (.slice none 0 0) ∧ W.frozen? ⟨w.heap.size + 1, 0, none⟩ = false ∧ W.frozen? ⟨w.heap.size + 1, 1, none⟩ = false) := Lib.hid fun W hW => blk2 (HZZ.out W hW)
  have HEL : Hid (¬((b.length : Int) ≠ ps ∨ shaOf shaK shaH b ≠ pd)) := Lib.hid (by rw [← HNB.out, ← HDS.out]; exact fun h => h.elim (fun h => h g1) (fun h => h g2))
  by_cases hz : c1 = 0
  rotate_left
  · have HC1 := Lib.hid hz
    have hev : ev = .iface 68 (.int .i64 (c1 : Int)) := by rw [HEV.out]; exact errV_pos HC1.out
    subst hev
    skip
    obtain ⟨z0, z1, f0, fz1⟩ := HZB.out W4 HB4.out
    clear hz
    go_wp2
    refine bodyPost_ret (v := .tuple #[.agg #[.int .i64 0, .slice none 0 0], .iface 68 (.int .i64 (c1 : Int))]) (by simp [results, Tryz.results14, go_sem, z0, z1]) rfl ⟨HFIN.out _ HB4.out, 0, [], c1, .slice none 0 0, ?_, by simp only [errV_pos HC1.out], cells_nil _ _⟩
    unfold RHold
    rw [if_neg HEL.out]
    exact ⟨f1, cs1, c1, HSEG.out, by rw [if_pos HC1.out]; exact ⟨rfl, rfl, rfl⟩⟩
  have HC0 := Lib.hid hz
  have hev : ev = .nilIface := by rw [HEV.out, hz]; rfl
  subst hev
  clear hz
  have HX4 : Hid (∀ W, Below W4.heap.size W4 W → (W.cell? ⟨g4, 0, none⟩ = some (.int .i64 f1) ∧ W.cell? ⟨g4, 1, none⟩ = some (.slice ao3 n3 cap3)) ∧ W.cell? ⟨w.heap.size, 0, none⟩ = some (.int .i64 pf) ∧ W.cell? ⟨w.heap.size, 1, none⟩ = some (.int .i64 pm)) := Lib.hid fun W hW => by
    have h1 := HXX.out W (HB4.out.trans (hW.mono HB4.out.size))
    exact ⟨q_cellsQ ((hW.block _ HG4.out).trans HQ4.out), h1.1, h1.2.1⟩
  by_cases g3 : f1 = pf
  rotate_left
  · have hga : (!(f1 == pf)) = true := by simp [g3]
    have hgb : (f1 != pf) = true := by simp [g3]
    have hS5 : Below W4.heap.size W4 W4 := Below.refl _ _
    have HB5 : Hid (Below W1.heap.size W1 W4) := Lib.hid (HB4.out.trans (hS5.mono HB4.out.size))
    obtain ⟨z0, z1, f0, fz1⟩ := HZB.out W4 HB5.out
    obtain ⟨⟨y0, y1⟩, x0, x1⟩ := HX4.out W4 hS5
    clear hS5
    go_wp2
    refine bodyPost_ret (v := .tuple #[.agg #[.int .i64 0, .slice none 0 0], .iface 68 (.int .i64 2)]) (by simp [results, Tryz.results14, go_sem, z0, z1]) rfl ⟨HFIN.out _ HB5.out, 0, [], 2, .slice none 0 0, ?_, rfl, cells_nil _ _⟩
    unfold RHold
    rw [if_neg HEL.out]
    exact ⟨f1, cs1, c1, HSEG.out, by rw [if_neg (by simp [HC0.out]), if_pos (.inl g3)]; exact ⟨rfl, rfl, rfl⟩⟩
  have hga : (!(f1 == pf)) = false := by simp [g3]
  have hgb : (f1 != pf) = false := by simp [g3]
  by_cases g4' : (n3 : Int) = pm
  rotate_left
  · have hgc : (!((n3 : Int) == pm)) = true := by simp [g4']
    have hgd : ((n3 : Int) != pm) = true := by simp [g4']
    have hS5 : Below W4.heap.size W4 W4 := Below.refl _ _
    have HB5 : Hid (Below W1.heap.size W1 W4) := Lib.hid (HB4.out.trans (hS5.mono HB4.out.size))
    obtain ⟨z0, z1, f0, fz1⟩ := HZB.out W4 HB5.out
    obtain ⟨⟨y0, y1⟩, x0, x1⟩ := HX4.out W4 hS5
    clear hS5
    go_wp2
    refine bodyPost_ret (v := .tuple #[.agg #[.int .i64 0, .slice none 0 0], .iface 68 (.int .i64 2)]) (by simp [results, Tryz.results14, go_sem, z0, z1]) rfl ⟨HFIN.out _ HB5.out, 0, [], 2, .slice none 0 0, ?_, rfl, cells_nil _ _⟩
    unfold RHold
    rw [if_neg HEL.out]
    exact ⟨f1, cs1, c1, HSEG.out, by rw [if_neg (by simp [HC0.out]), if_pos (.inr (by rw [← HN3.out]; exact g4'))]; exact ⟨rfl, rfl, rfl⟩⟩
  have hgc : (!((n3 : Int) == pm)) = false := by simp [g4']
  have hgd : ((n3 : Int) != pm) = false := by simp [g4']
  subst g3
  have hS5 : Below W4.heap.size W4 W4 := Below.refl _ _
  have HB5 : Hid (Below W1.heap.size W1 W4) := Lib.hid (HB4.out.trans (hS5.mono HB4.out.size))
  obtain ⟨z0, z1, f0, fz1⟩ := HZB.out W4 HB5.out
  have HAT5 := Lib.hid (HAT4.out.old hS5)
  have HZ5 := Lib.hid (HZZ.out W4 HB5.out)
  obtain ⟨⟨y0, y1⟩, x0, x1⟩ := HX4.out W4 hS5
  have HBF : Hid (Below w.heap.size w W4) := Lib.hid (HB1.out.trans (HB5.out.mono HB1.out.size))
  clear hS5
  go_wp2_with ((with_reducible show wpList _ _ _ (Oper.mk none (Op.store _ _ _) _ _ _ _ :: _) _ _); go_must (refine wpList_store_box rfl 24 (.tmp 4) (.tmp 46) rfl (w.heap.size + 1) #[.int .i64 f1, .slice ao3 n3 cap3] rfl rfl _ _ HZ5.out HSZS.out rfl (by simp [Value.oneCell']) ?_))
  intro W6 hq6 hb6 hk6
  have HQ6 := Lib.hid hq6
  have HB6 : Hid (Below w.heap.size w W6) := Lib.hid (HBF.out.trans (hb6.mono (Nat.le_succ _)))
  have HAT6 : Hid (CellsAt W6 (fun j => w.heap.size ≤ j) (.slice ao3 n3 cap3) cs1) := Lib.hid (((HAT5.out.keep ⟨hb6.size, fun j _ hB => hk6 j (by have := HSZ2.out; omega)⟩)).mono fun j _ hj => Nat.le_trans HLE.out hj)
  clear hq6 hb6 hk6 z0 z1 f0 fz1 y0 y1 x0 x1
  obtain ⟨z0, z1⟩ := q_cellsQ HQ6.out
  go_wp2
  refine bodyPost_ret (v := .tuple #[.agg #[.int .i64 f1, .slice ao3 n3 cap3], .nilIface]) (by simp [results, Tryz.results14, go_sem, z0, z1]) rfl ⟨HB6.out, f1, cs1, 0, .slice ao3 n3 cap3, ?_, rfl, HAT6.out⟩
  unfold RHold
  rw [if_neg HEL.out]
  exact ⟨f1, cs1, c1, HSEG.out, by rw [if_neg (by simp [HC0.out]), if_neg (by rw [← HN3.out]; exact fun h => h.elim (fun h => h rfl) (fun h => h g4'))]; exact ⟨rfl, rfl, rfl⟩⟩

set_option maxHeartbeats 8000000 in
set_option maxRecDepth 100000 in
theorem rhold_any (p : PT) (v : Value) (b : List Nat) (w : World) (hd : Dg p.2.2.2) (hr : Reads w .u8 v b) (h8 : ∀ y ∈ b, y < 256) (hx : b.length ≤ 100000) :
    Calls Tryz.prog 15 #[.agg (ptRow p).toArray, v] w (DHoldPost p b w) := by
  obtain ⟨ao, cap, rfl, _, _, _⟩ := hr.val
  obtain ⟨W1, hW1⟩ : ∃ W1, W1 = (w.alloc (.cells (ptRow p).toArray 44)).alloc (.cells #[.int .i64 0, .slice none 0 0] 34) := ⟨_, rfl⟩
  have hb1 : Below w.heap.size w W1 := by rw [hW1]; exact ((Below.refl _ _).alloc (Nat.le_refl _) _).alloc (by simp) _
  have hx1 : PB W1 w.heap.size p 44 := by rw [hW1]; exact (pb_new _ _ _).old ((Below.refl _ _).alloc (Nat.le_refl _) _)
  have hz1 : W1.heap[w.heap.size + 1]? = some (.cells #[.int .i64 0, .slice none 0 0] 34 (0, 0)) := by
    have := heap_alloc_new (w.alloc (.cells (ptRow p).toArray 44)) (.cells #[.int .i64 0, .slice none 0 0] 34)
    rw [hW1]; simpa using this
  have hs1 : W1.heap.size = w.heap.size + 2 := by rw [hW1]; simp
  have HB1 := Lib.hid hb1
  have HX1 := Lib.hid hx1
  have HZ1 := Lib.hid hz1
  have HS1 := Lib.hid hs1
  have HR1 := Lib.hid (hr.new hb1)
  have H8 := Lib.hid h8
  have HXL := Lib.hid hx
  have HDP := Lib.hid hd
  obtain ⟨DS, hDS⟩ : ∃ D, D = shaOf shaK shaH b := ⟨_, rfl⟩
  have hds : DS.length = 32 := by rw [hDS]; exact sha_len b
  have HSUM : Hid (∀ W, Below W1.heap.size W1 W → Calls Tryz.prog 24 #[.slice ao b.length cap] W fun e w' => e = .returned (.agg (vals .u8 DS).toArray) ∧ Below W.heap.size W w') := Lib.hid fun W hW => by
    rw [hDS]
    exact rshaOf_any _ b W (HR1.out.new hW) h8 hx
  have HTK : Hid (∀ W, Below W1.heap.size W1 W → Calls Tryz.prog 30 #[.slice ao b.length cap] W (RSgTake b W)) := Lib.hid fun W hW => rsgtake_any _ b W (HR1.out.new hW) h8
  have HDL : Hid ((Tryz.prog.info? 42).map (·.size) = some (vals .u8 p.2.2.2).length) := Lib.hid (by rw [vals_length, hd.1]; exact Tryz.sizeDGD)
  have HEQ : Hid (∀ W, (binOp .neq 42 (.agg (vals .u8 DS).toArray) (.agg (vals .u8 p.2.2.2).toArray)).run Tryz.prog W = .ok (.bool (!(DS == p.2.2.2))) W) := Lib.hid fun W => by
    have this : (Op.equal 42 (.agg (vals .u8 DS).toArray) (.agg (vals .u8 p.2.2.2).toArray)).run Tryz.prog W = .ok (DS == p.2.2.2) W := equalIn_nums (k := .u8) Tryz.underlying42 Tryz.underlying5 (fun w => by kernel_rfl) DS p.2.2.2 hds hd.1 W
    simp [binOp, this]
  obtain ⟨nb, hnb⟩ : ∃ n, n = b.length := ⟨_, rfl⟩
  rw [← hnb] at HSUM HTK HR1 ⊢
  have HNB := Lib.hid hnb
  have HDS := Lib.hid hDS
  obtain ⟨pt, hpt⟩ : ∃ q, q = (ptRow p).toArray := ⟨_, rfl⟩
  rw [← hpt] at hW1 ⊢
  obtain ⟨pf, pm, ps, pd⟩ := p
  have HXX : Hid (∀ W, Below W1.heap.size W1 W → W.cell? ⟨w.heap.size, 0, none⟩ = some (.int .i64 pf) ∧ W.cell? ⟨w.heap.size, 1, none⟩ = some (.int .i64 pm) ∧ W.cell? ⟨w.heap.size, 2, none⟩ = some (.int .i64 ps)) := Lib.hid fun W hW => pb_cellsQ (HX1.out.old hW)
  have HXS : Hid (∀ W, Below W1.heap.size W1 W → ∀ j u, (vals .u8 pd)[j]? = some u → W.cell? ⟨w.heap.size, 3 + j, none⟩ = some u) := Lib.hid fun W hW => (HX1.out.old hW).sum
  have HZZ : Hid (∀ W, Below W1.heap.size W1 W → W.heap[w.heap.size + 1]? = some (.cells #[.int .i64 0, .slice none 0 0] 34 (0, 0))) := Lib.hid fun W hW => (hW.block _ (by have := HS1.out; omega)).trans HZ1.out
  simp only at HDL HEQ
  have HW1 := Lib.hid hW1
  clear hd hr h8 hx hb1 hx1 hz1 hs1 hds hDS hnb hpt hW1
  go_enter Tryz.func15, Tryz.ntmps15
  go_upto_region 1 with fail
  rw [← HW1.out]

  by_cases g1 : (nb : Int) = ps
  rotate_left
  · have hgb : (!((nb : Int) == ps)) = true := by simp [g1]
    have hgc : ((nb : Int) != ps) = true := by simp [g1]
    refine wp_region_extS (fun W => Below W1.heap.size W1 W) (Below.refl _ _).drew (by kernel_rfl) ?_
    refine extS_take (i := 0) (d := 8) (v := ?_) rfl rfl (by kernel_rfl) (by kernel_rfl) (by kernel_rfl) (fun _ _ _ h => h) (by rfl) (fun W hS => ?_) ?_
    rotate_left
    · skip
      obtain ⟨x0, x1, x2⟩ := HXX.out W hS; refine gives_value (w := W) ⟨Below.refl _ _, hS⟩ ?_; go_simp; try with_reducible rfl
    simp only [List.setIfInBounds_toArray, List.set_cons_zero, List.set_cons_succ]
    refine extS_take (i := 1) (d := 9) (v := ?_) rfl rfl (by kernel_rfl) (by kernel_rfl) (by kernel_rfl) (fun _ _ _ h => h) (by rfl) (fun W hS => ?_) ?_
    rotate_left
    · skip
      obtain ⟨x0, x1, x2⟩ := HXX.out W hS; refine gives_value (w := W) ⟨Below.refl _ _, hS⟩ ?_; go_simp; try with_reducible rfl
    simp only [List.setIfInBounds_toArray, List.set_cons_zero, List.set_cons_succ]
    refine extS_take (i := 2) (d := 10) (v := ?_) rfl rfl (by kernel_rfl) (by kernel_rfl) (by kernel_rfl) (fun _ _ _ h => h) (by rfl) (fun W hS => ?_) ?_
    rotate_left
    · skip
      obtain ⟨x0, x1, x2⟩ := HXX.out W hS; refine gives_value (w := W) ⟨Below.refl _ _, hS⟩ ?_; go_simp; try with_reducible rfl
    simp only [List.setIfInBounds_toArray, List.set_cons_zero, List.set_cons_succ]
    refine extS_take (i := 3) (d := 11) (v := ?_) rfl rfl (by kernel_rfl) (by kernel_rfl) (by kernel_rfl) (fun _ _ _ h => h) (by rfl) (fun W hS => ?_) ?_
    rotate_left
    · skip
      obtain ⟨x0, x1, x2⟩ := HXX.out W hS; refine gives_value (w := W) ⟨Below.refl _ _, hS⟩ ?_; go_simp; try with_reducible rfl
    simp only [List.setIfInBounds_toArray, List.set_cons_zero, List.set_cons_succ]
    refine extS_take (i := 4) (d := 12) (v := ?_) rfl rfl (by kernel_rfl) (by kernel_rfl) (by kernel_rfl) (fun _ _ _ h => h) (by rfl) (fun W hS => ?_) ?_
    rotate_left
    · skip
      obtain ⟨x0, x1, x2⟩ := HXX.out W hS; refine gives_value (w := W) ⟨Below.refl _ _, hS⟩ ?_; go_simp; try with_reducible rfl
    simp only [List.setIfInBounds_toArray, List.set_cons_zero, List.set_cons_succ]
    refine extS_take (i := 5) (d := 13) (v := ?_) rfl rfl (by kernel_rfl) (by kernel_rfl) (by kernel_rfl) (fun _ _ _ h => h) (by rfl) (fun W hS => ?_) ?_
    rotate_left
    · skip
      obtain ⟨x0, x1, x2⟩ := HXX.out W hS; refine gives_value (w := W) ⟨Below.refl _ _, hS⟩ ?_; go_simp; try with_reducible rfl
    simp only [List.setIfInBounds_toArray, List.set_cons_zero, List.set_cons_succ]
    refine extS_skip (i := 6) (d := 14) rfl rfl (by kernel_rfl) (by kernel_rfl) (by kernel_rfl) (fun _ _ _ h => h) (by rfl) ?_
    simp only [List.setIfInBounds_toArray, List.set_cons_zero, List.set_cons_succ]
    refine extS_skip (i := 7) (d := 15) rfl rfl (by kernel_rfl) (by kernel_rfl) (by kernel_rfl) (fun _ _ _ h => h) (by rfl) ?_
    simp only [List.setIfInBounds_toArray, List.set_cons_zero, List.set_cons_succ]
    refine extS_skip (i := 8) (d := 16) rfl rfl (by kernel_rfl) (by kernel_rfl) (by kernel_rfl) (fun _ _ _ h => h) (by rfl) ?_
    simp only [List.setIfInBounds_toArray, List.set_cons_zero, List.set_cons_succ]
    refine extS_skip (i := 9) (d := 17) rfl rfl (by kernel_rfl) (by kernel_rfl) (by kernel_rfl) (fun _ _ _ h => h) (by rfl) ?_
    simp only [List.setIfInBounds_toArray, List.set_cons_zero, List.set_cons_succ]
    refine extS_skip (i := 10) (d := 18) rfl rfl (by kernel_rfl) (by kernel_rfl) (by kernel_rfl) (fun _ _ _ h => h) (by rfl) ?_
    simp only [List.setIfInBounds_toArray, List.set_cons_zero, List.set_cons_succ]
    refine extS_take (i := 11) (d := 19) (v := ?_) rfl rfl (by kernel_rfl) (by kernel_rfl) (by kernel_rfl) (fun _ _ _ h => h) (by rfl) (fun W hS => ?_) ?_
    rotate_left
    · skip
      refine gives_value (w := W) ⟨Below.refl _ _, hS⟩ ?_; go_simp; try with_reducible rfl
    simp only [List.setIfInBounds_toArray, List.set_cons_zero, List.set_cons_succ]
    refine extS_done (by kernel_rfl) (fun W2 _ hS2 => ?_) _
    have HS2 := Lib.hid hS2
    have zz := q_cellsQ (HZZ.out W2 hS2)
    have hf0 : W2.frozen? ⟨w.heap.size + 1, 0, none⟩ = false ∧ W2.frozen? ⟨w.heap.size + 1, 1, none⟩ = false := ⟨(blk2 (HZZ.out W2 hS2)).2.2.1, (blk2 (HZZ.out W2 hS2)).2.2.2⟩
    obtain ⟨z0, z1⟩ := zz
    obtain ⟨f0, f1⟩ := hf0
    clear hS2
    go_wp2
    refine bodyPost_ret (v := .tuple #[.agg #[.int .i64 0, .slice none 0 0], .int .i64 11]) (by simp [results, Tryz.results15, go_sem, z0, z1]) rfl ⟨?_, 0, [], 11, .slice none 0 0, ?_, rfl, sdc_nil _ _⟩
    · exact ((HB1.out.trans (HS2.out.mono HB1.out.size)).setCell (Nat.le_succ _) _).setCell (Nat.le_succ _) _
    · unfold RHold
      rw [if_pos (.inl (by rw [← HNB.out]; exact g1))]
      exact ⟨rfl, rfl, rfl⟩
  have hgb : (!((nb : Int) == ps)) = false := by simp [g1]
  have hgc : ((nb : Int) != ps) = false := by simp [g1]
  by_cases g2 : DS = pd
  rotate_left
  · have hgd : (!(DS == pd)) = true := by simp [g2]
    obtain ⟨bd, hbd⟩ : ∃ x, x = (!(DS == pd)) := ⟨_, rfl⟩
    rw [← hbd] at HEQ hgd
    subst hgd
    clear hbd
    refine wp_region_extS (fun W => Below W1.heap.size W1 W) (Below.refl _ _).drew (by kernel_rfl) ?_
    refine extS_take (i := 0) (d := 8) (v := ?_) rfl rfl (by kernel_rfl) (by kernel_rfl) (by kernel_rfl) (fun _ _ _ h => h) (by rfl) (fun W hS => ?_) ?_
    rotate_left
    · skip
      obtain ⟨x0, x1, x2⟩ := HXX.out W hS; refine gives_value (w := W) ⟨Below.refl _ _, hS⟩ ?_; go_simp; try with_reducible rfl
    simp only [List.setIfInBounds_toArray, List.set_cons_zero, List.set_cons_succ]
    refine extS_take (i := 1) (d := 9) (v := ?_) rfl rfl (by kernel_rfl) (by kernel_rfl) (by kernel_rfl) (fun _ _ _ h => h) (by rfl) (fun W hS => ?_) ?_
    rotate_left
    · skip
      obtain ⟨x0, x1, x2⟩ := HXX.out W hS; refine gives_value (w := W) ⟨Below.refl _ _, hS⟩ ?_; go_simp; try with_reducible rfl
    simp only [List.setIfInBounds_toArray, List.set_cons_zero, List.set_cons_succ]
    refine extS_take (i := 2) (d := 10) (v := ?_) rfl rfl (by kernel_rfl) (by kernel_rfl) (by kernel_rfl) (fun _ _ _ h => h) (by rfl) (fun W hS => ?_) ?_
    rotate_left
    · skip
      obtain ⟨x0, x1, x2⟩ := HXX.out W hS; refine gives_value (w := W) ⟨Below.refl _ _, hS⟩ ?_; go_simp; try with_reducible rfl
    simp only [List.setIfInBounds_toArray, List.set_cons_zero, List.set_cons_succ]
    refine extS_take (i := 3) (d := 11) (v := ?_) rfl rfl (by kernel_rfl) (by kernel_rfl) (by kernel_rfl) (fun _ _ _ h => h) (by rfl) (fun W hS => ?_) ?_
    rotate_left
    · skip
      obtain ⟨x0, x1, x2⟩ := HXX.out W hS; refine gives_value (w := W) ⟨Below.refl _ _, hS⟩ ?_; go_simp; try with_reducible rfl
    simp only [List.setIfInBounds_toArray, List.set_cons_zero, List.set_cons_succ]
    refine extS_take (i := 4) (d := 12) (v := ?_) rfl rfl (by kernel_rfl) (by kernel_rfl) (by kernel_rfl) (fun _ _ _ h => h) (by rfl) (fun W hS => ?_) ?_
    rotate_left
    · skip
      obtain ⟨x0, x1, x2⟩ := HXX.out W hS; refine gives_value (w := W) ⟨Below.refl _ _, hS⟩ ?_; go_simp; try with_reducible rfl
    simp only [List.setIfInBounds_toArray, List.set_cons_zero, List.set_cons_succ]
    refine extS_take (i := 5) (d := 13) (v := ?_) rfl rfl (by kernel_rfl) (by kernel_rfl) (by kernel_rfl) (fun _ _ _ h => h) (by rfl) (fun W hS => ?_) ?_
    rotate_left
    · skip
      obtain ⟨x0, x1, x2⟩ := HXX.out W hS; refine gives_value (w := W) ⟨Below.refl _ _, hS⟩ ?_; go_simp; try with_reducible rfl
    simp only [List.setIfInBounds_toArray, List.set_cons_zero, List.set_cons_succ]
    refine extS_take (i := 6) (d := 14) (v := ?_) rfl rfl (by kernel_rfl) (by kernel_rfl) (by kernel_rfl) (fun _ _ _ h => h) (by rfl) (fun W hS => ?_) ?_
    rotate_left
    · skip
      refine gives_value (w := W) ⟨Below.refl _ _, hS⟩ ?_; go_simp; try with_reducible rfl
    simp only [List.setIfInBounds_toArray, List.set_cons_zero, List.set_cons_succ]
    refine extS_take (i := 7) (d := 15) (v := ?_) rfl rfl (by kernel_rfl) (by kernel_rfl) (by kernel_rfl) (fun _ _ _ h => h) (by rfl) (fun W hS => ?_) ?_
    rotate_left
    · skip
      go_simp; refine Gives.enter ((HSUM.out W hS).mono ?_); rintro e wn ⟨rfl, hbn⟩; refine ⟨?_, hbn, Below.trans hS (hbn.mono hS.size)⟩; with_reducible rfl
    simp only [List.setIfInBounds_toArray, List.set_cons_zero, List.set_cons_succ]
    refine extS_take (i := 8) (d := 16) (v := ?_) rfl rfl (by kernel_rfl) (by kernel_rfl) (by kernel_rfl) (fun _ _ _ h => h) (by rfl) (fun W hS => ?_) ?_
    rotate_left
    · skip
      refine gives_value (w := W) ⟨Below.refl _ _, hS⟩ ?_; go_simp; try with_reducible rfl
    simp only [List.setIfInBounds_toArray, List.set_cons_zero, List.set_cons_succ]
    refine extS_take (i := 9) (d := 17) (v := .agg (vals .u8 pd).toArray) rfl rfl (by kernel_rfl) (by kernel_rfl) (by kernel_rfl) (fun _ _ _ h => h) (by rfl) (fun W hS => load_gives_at 42 (.tmp 16) rfl w.heap.size 3 rfl (vals .u8 pd) _ (HXS.out W hS) Tryz.underlying42 rfl HDL.out ⟨Below.refl _ _, hS⟩) ?_
    simp only [List.setIfInBounds_toArray, List.set_cons_zero, List.set_cons_succ]
    refine extS_take (i := 10) (d := 18) (v := ?_) rfl rfl (by kernel_rfl) (by kernel_rfl) (by kernel_rfl) (fun _ _ _ h => h) (by rfl) (fun W hS => ?_) ?_
    rotate_left
    · skip
      refine gives_value (w := W) ⟨Below.refl _ _, hS⟩ ?_; refine (exec_eqsM rfl ?_ ?_ (by kernel_rfl) (HEQ.out W)).trans ?_ <;> rfl
    simp only [List.setIfInBounds_toArray, List.set_cons_zero, List.set_cons_succ]
    refine extS_take (i := 11) (d := 19) (v := ?_) rfl rfl (by kernel_rfl) (by kernel_rfl) (by kernel_rfl) (fun _ _ _ h => h) (by rfl) (fun W hS => ?_) ?_
    rotate_left
    · skip
      refine gives_value (w := W) ⟨Below.refl _ _, hS⟩ ?_; go_simp; try with_reducible rfl
    simp only [List.setIfInBounds_toArray, List.set_cons_zero, List.set_cons_succ]
    refine extS_done (by kernel_rfl) (fun W2 _ hS2 => ?_) _
    have HS2 := Lib.hid hS2
    have zz := q_cellsQ (HZZ.out W2 hS2)
    have hf0 : W2.frozen? ⟨w.heap.size + 1, 0, none⟩ = false ∧ W2.frozen? ⟨w.heap.size + 1, 1, none⟩ = false := ⟨(blk2 (HZZ.out W2 hS2)).2.2.1, (blk2 (HZZ.out W2 hS2)).2.2.2⟩
    obtain ⟨z0, z1⟩ := zz
    obtain ⟨f0, f1⟩ := hf0
    clear hS2
    go_wp2
    refine bodyPost_ret (v := .tuple #[.agg #[.int .i64 0, .slice none 0 0], .int .i64 11]) (by simp [results, Tryz.results15, go_sem, z0, z1]) rfl ⟨?_, 0, [], 11, .slice none 0 0, ?_, rfl, sdc_nil _ _⟩
    · exact ((HB1.out.trans (HS2.out.mono HB1.out.size)).setCell (Nat.le_succ _) _).setCell (Nat.le_succ _) _
    · unfold RHold
      rw [if_pos (.inr (by rw [← HDS.out]; exact g2))]
      exact ⟨rfl, rfl, rfl⟩
  have hgd : (!(DS == pd)) = false := by simp [g2]
  obtain ⟨bd, hbd⟩ : ∃ x, x = (!(DS == pd)) := ⟨_, rfl⟩
  rw [← hbd] at HEQ hgd
  subst hgd
  clear hbd
  refine wp_region_extS (fun W => Below W1.heap.size W1 W) (Below.refl _ _).drew (by kernel_rfl) ?_
  refine extS_take (i := 0) (d := 8) (v := ?_) rfl rfl (by kernel_rfl) (by kernel_rfl) (by kernel_rfl) (fun _ _ _ h => h) (by rfl) (fun W hS => ?_) ?_
  rotate_left
  · skip
    obtain ⟨x0, x1, x2⟩ := HXX.out W hS; refine gives_value (w := W) ⟨Below.refl _ _, hS⟩ ?_; go_simp; try with_reducible rfl
  simp only [List.setIfInBounds_toArray, List.set_cons_zero, List.set_cons_succ]
  refine extS_take (i := 1) (d := 9) (v := ?_) rfl rfl (by kernel_rfl) (by kernel_rfl) (by kernel_rfl) (fun _ _ _ h => h) (by rfl) (fun W hS => ?_) ?_
  rotate_left
  · skip
    obtain ⟨x0, x1, x2⟩ := HXX.out W hS; refine gives_value (w := W) ⟨Below.refl _ _, hS⟩ ?_; go_simp; try with_reducible rfl
  simp only [List.setIfInBounds_toArray, List.set_cons_zero, List.set_cons_succ]
  refine extS_take (i := 2) (d := 10) (v := ?_) rfl rfl (by kernel_rfl) (by kernel_rfl) (by kernel_rfl) (fun _ _ _ h => h) (by rfl) (fun W hS => ?_) ?_
  rotate_left
  · skip
    obtain ⟨x0, x1, x2⟩ := HXX.out W hS; refine gives_value (w := W) ⟨Below.refl _ _, hS⟩ ?_; go_simp; try with_reducible rfl
  simp only [List.setIfInBounds_toArray, List.set_cons_zero, List.set_cons_succ]
  refine extS_take (i := 3) (d := 11) (v := ?_) rfl rfl (by kernel_rfl) (by kernel_rfl) (by kernel_rfl) (fun _ _ _ h => h) (by rfl) (fun W hS => ?_) ?_
  rotate_left
  · skip
    obtain ⟨x0, x1, x2⟩ := HXX.out W hS; refine gives_value (w := W) ⟨Below.refl _ _, hS⟩ ?_; go_simp; try with_reducible rfl
  simp only [List.setIfInBounds_toArray, List.set_cons_zero, List.set_cons_succ]
  refine extS_take (i := 4) (d := 12) (v := ?_) rfl rfl (by kernel_rfl) (by kernel_rfl) (by kernel_rfl) (fun _ _ _ h => h) (by rfl) (fun W hS => ?_) ?_
  rotate_left
  · skip
    obtain ⟨x0, x1, x2⟩ := HXX.out W hS; refine gives_value (w := W) ⟨Below.refl _ _, hS⟩ ?_; go_simp; try with_reducible rfl
  simp only [List.setIfInBounds_toArray, List.set_cons_zero, List.set_cons_succ]
  refine extS_take (i := 5) (d := 13) (v := ?_) rfl rfl (by kernel_rfl) (by kernel_rfl) (by kernel_rfl) (fun _ _ _ h => h) (by rfl) (fun W hS => ?_) ?_
  rotate_left
  · skip
    obtain ⟨x0, x1, x2⟩ := HXX.out W hS; refine gives_value (w := W) ⟨Below.refl _ _, hS⟩ ?_; go_simp; try with_reducible rfl
  simp only [List.setIfInBounds_toArray, List.set_cons_zero, List.set_cons_succ]
  refine extS_take (i := 6) (d := 14) (v := ?_) rfl rfl (by kernel_rfl) (by kernel_rfl) (by kernel_rfl) (fun _ _ _ h => h) (by rfl) (fun W hS => ?_) ?_
  rotate_left
  · skip
    refine gives_value (w := W) ⟨Below.refl _ _, hS⟩ ?_; go_simp; try with_reducible rfl
  simp only [List.setIfInBounds_toArray, List.set_cons_zero, List.set_cons_succ]
  refine extS_take (i := 7) (d := 15) (v := ?_) rfl rfl (by kernel_rfl) (by kernel_rfl) (by kernel_rfl) (fun _ _ _ h => h) (by rfl) (fun W hS => ?_) ?_
  rotate_left
  · skip
    go_simp; refine Gives.enter ((HSUM.out W hS).mono ?_); rintro e wn ⟨rfl, hbn⟩; refine ⟨?_, hbn, Below.trans hS (hbn.mono hS.size)⟩; with_reducible rfl
  simp only [List.setIfInBounds_toArray, List.set_cons_zero, List.set_cons_succ]
  refine extS_take (i := 8) (d := 16) (v := ?_) rfl rfl (by kernel_rfl) (by kernel_rfl) (by kernel_rfl) (fun _ _ _ h => h) (by rfl) (fun W hS => ?_) ?_
  rotate_left
  · skip
    refine gives_value (w := W) ⟨Below.refl _ _, hS⟩ ?_; go_simp; try with_reducible rfl
  simp only [List.setIfInBounds_toArray, List.set_cons_zero, List.set_cons_succ]
  refine extS_take (i := 9) (d := 17) (v := .agg (vals .u8 pd).toArray) rfl rfl (by kernel_rfl) (by kernel_rfl) (by kernel_rfl) (fun _ _ _ h => h) (by rfl) (fun W hS => load_gives_at 42 (.tmp 16) rfl w.heap.size 3 rfl (vals .u8 pd) _ (HXS.out W hS) Tryz.underlying42 rfl HDL.out ⟨Below.refl _ _, hS⟩) ?_
  simp only [List.setIfInBounds_toArray, List.set_cons_zero, List.set_cons_succ]
  refine extS_take (i := 10) (d := 18) (v := ?_) rfl rfl (by kernel_rfl) (by kernel_rfl) (by kernel_rfl) (fun _ _ _ h => h) (by rfl) (fun W hS => ?_) ?_
  rotate_left
  · skip
    refine gives_value (w := W) ⟨Below.refl _ _, hS⟩ ?_; refine (exec_eqsM rfl ?_ ?_ (by kernel_rfl) (HEQ.out W)).trans ?_ <;> rfl
  simp only [List.setIfInBounds_toArray, List.set_cons_zero, List.set_cons_succ]
  refine extS_take (i := 11) (d := 19) (v := ?_) rfl rfl (by kernel_rfl) (by kernel_rfl) (by kernel_rfl) (fun _ _ _ h => h) (by rfl) (fun W hS => ?_) ?_
  rotate_left
  · skip
    refine gives_value (w := W) ⟨Below.refl _ _, hS⟩ ?_; go_simp; try with_reducible rfl
  simp only [List.setIfInBounds_toArray, List.set_cons_zero, List.set_cons_succ]
  refine extS_done (by kernel_rfl) (fun W2 _ hS2 => ?_) _
  have HS2 := Lib.hid hS2
  have HT2 := Lib.hid (HTK.out W2 hS2)
  clear hS2
  go_wp2_with fail
  refine HT2.out.mono ?_
  rintro e w3 ⟨hb3, f1, cs1, c1, v1, hseg, rfl, hat⟩
  obtain ⟨ao3, cap3, rfl, _, _, _⟩ := hat.val
  obtain ⟨n3, hn3⟩ : ∃ n, n = cs1.length := ⟨_, rfl⟩
  rw [← hn3] at hat ⊢
  have HN3 := Lib.hid hn3
  have HSEG := Lib.hid hseg
  have HSZ2 : Hid (w.heap.size + 2 ≤ W2.heap.size) := Lib.hid (by have := HS2.out.size; have := HS1.out; omega)
  have HB3 : Hid (Below W1.heap.size W1 w3) := Lib.hid (HS2.out.trans (hb3.mono HS2.out.size))
  have HAT := Lib.hid hat
  have HSZS : Hid ((Tryz.prog.info? 34).map (·.size) = some (#[.int .i64 f1, .slice ao3 n3 cap3] : Array Value).size) := Lib.hid (by kernel_rfl)
  clear hn3 hseg hb3 hat
  obtain ⟨ev, hev⟩ : ∃ ev : Value, ev = .int .i64 (c1 : Int) := ⟨_, rfl⟩
  rw [← hev]
  have HEV := Lib.hid hev
  clear hev
  go_wp2_with ((with_reducible show wpList _ _ _ (Oper.mk none _ _ _ _ _ :: _) _ _); go_must (refine wpList_store_new rfl 34 (.tmp 6) (.tmp 24) rfl w3 _ #[.int .i64 f1, .slice ao3 n3 cap3] rfl rfl _ HSZS.out rfl (by simp [Value.oneCell']) ?_))
  intro W4 hq4 hb4 hs4
  obtain ⟨g4, hg4⟩ : ∃ g, g = w3.heap.size := ⟨_, rfl⟩
  rw [← hg4] at hq4 ⊢
  have HQ4 := Lib.hid hq4
  have HB4 : Hid (Below W1.heap.size W1 W4) := Lib.hid (HB3.out.trans (hb4.mono HB3.out.size))
  have HG4 : Hid (g4 < W4.heap.size) := Lib.hid (by omega)
  have HAT4 := Lib.hid (HAT.out.old hb4)
  have HLE : Hid (w.heap.size ≤ W2.heap.size) := Lib.hid (Nat.le_trans HB1.out.size HS2.out.size)
  clear hq4 hb4 hs4 hg4
  have hfin : ∀ W, Below W1.heap.size W1 W → Below w.heap.size w ((W.setCell ⟨w.heap.size + 1, 0, none⟩ (.int .i64 0)).setCell ⟨w.heap.size + 1, 1, none⟩ (.slice none 0 0)) := fun W hW => ((HB1.out.trans (hW.mono HB1.out.size)).setCell (Nat.le_succ _) _).setCell (Nat.le_succ _) _
  have HFIN := Lib.hid hfin
  clear hfin
  have HZB : Hid (∀ W, Below W1.heap.size W1 W → W.cell? ⟨w.heap.size + 1, 0, none⟩ = some (.int .i64 0) ∧ W.cell? ⟨w.heap.size + 1, 1, none⟩ = some (.slice none 0 0) ∧ W.frozen? ⟨w.heap.size + 1, 0, none⟩ = false ∧ W.frozen? ⟨w.heap.size + 1, 1, none⟩ = false) := Lib.hid fun W hW => blk2 (HZZ.out W hW)
  have HEL : Hid (¬((b.length : Int) ≠ ps ∨ shaOf shaK shaH b ≠ pd)) := Lib.hid (by rw [← HNB.out, ← HDS.out]; exact fun h => h.elim (fun h => h g1) (fun h => h g2))
  by_cases hz : c1 = 0
  rotate_left
  · have HC1 := Lib.hid hz
    have hev : ev = .int .i64 (c1 : Int) := by rw [HEV.out]
    subst hev
    have hci : ((c1 : Int) == 0) = false := by simp; exact HC1.out
    have hcn : ((c1 : Int) != 0) = true := by simp; exact HC1.out
    obtain ⟨z0, z1, f0, fz1⟩ := HZB.out W4 HB4.out
    clear hz
    go_wp2
    refine bodyPost_ret (v := .tuple #[.agg #[.int .i64 0, .slice none 0 0], .int .i64 (c1 : Int)]) (by simp [results, Tryz.results15, go_sem, z0, z1]) rfl ⟨HFIN.out _ HB4.out, 0, [], c1, .slice none 0 0, ?_, by simp only [], sdc_nil _ _⟩
    unfold RHold
    rw [if_neg HEL.out]
    exact ⟨f1, cs1, c1, HSEG.out, by rw [if_pos HC1.out]; exact ⟨rfl, rfl, rfl⟩⟩
  have HC0 := Lib.hid hz
  have hev : ev = .int .i64 0 := by rw [HEV.out, hz]; rfl
  subst hev
  clear hz
  have HX4 : Hid (∀ W, Below W4.heap.size W4 W → (W.cell? ⟨g4, 0, none⟩ = some (.int .i64 f1) ∧ W.cell? ⟨g4, 1, none⟩ = some (.slice ao3 n3 cap3)) ∧ W.cell? ⟨w.heap.size, 0, none⟩ = some (.int .i64 pf) ∧ W.cell? ⟨w.heap.size, 1, none⟩ = some (.int .i64 pm)) := Lib.hid fun W hW => by
    have h1 := HXX.out W (HB4.out.trans (hW.mono HB4.out.size))
    exact ⟨q_cellsQ ((hW.block _ HG4.out).trans HQ4.out), h1.1, h1.2.1⟩
  by_cases g3 : f1 = pf
  rotate_left
  · have hga : (!(f1 == pf)) = true := by simp [g3]
    have hgb : (f1 != pf) = true := by simp [g3]
    have hS5 : Below W4.heap.size W4 W4 := Below.refl _ _
    have HB5 : Hid (Below W1.heap.size W1 W4) := Lib.hid (HB4.out.trans (hS5.mono HB4.out.size))
    obtain ⟨z0, z1, f0, fz1⟩ := HZB.out W4 HB5.out
    obtain ⟨⟨y0, y1⟩, x0, x1⟩ := HX4.out W4 hS5
    clear hS5
    go_wp2
    refine bodyPost_ret (v := .tuple #[.agg #[.int .i64 0, .slice none 0 0], .int .i64 2]) (by simp [results, Tryz.results15, go_sem, z0, z1]) rfl ⟨HFIN.out _ HB5.out, 0, [], 2, .slice none 0 0, ?_, rfl, sdc_nil _ _⟩
    unfold RHold
    rw [if_neg HEL.out]
    exact ⟨f1, cs1, c1, HSEG.out, by rw [if_neg (by simp [HC0.out]), if_pos (.inl g3)]; exact ⟨rfl, rfl, rfl⟩⟩
  have hga : (!(f1 == pf)) = false := by simp [g3]
  have hgb : (f1 != pf) = false := by simp [g3]
  by_cases g4' : (n3 : Int) = pm
  rotate_left
  · have hgc : (!((n3 : Int) == pm)) = true := by simp [g4']
    have hgd : ((n3 : Int) != pm) = true := by simp [g4']
    have hS5 : Below W4.heap.size W4 W4 := Below.refl _ _
    have HB5 : Hid (Below W1.heap.size W1 W4) := Lib.hid (HB4.out.trans (hS5.mono HB4.out.size))
    obtain ⟨z0, z1, f0, fz1⟩ := HZB.out W4 HB5.out
    obtain ⟨⟨y0, y1⟩, x0, x1⟩ := HX4.out W4 hS5
    clear hS5
    go_wp2
    refine bodyPost_ret (v := .tuple #[.agg #[.int .i64 0, .slice none 0 0], .int .i64 2]) (by simp [results, Tryz.results15, go_sem, z0, z1]) rfl ⟨HFIN.out _ HB5.out, 0, [], 2, .slice none 0 0, ?_, rfl, sdc_nil _ _⟩
    unfold RHold
    rw [if_neg HEL.out]
    exact ⟨f1, cs1, c1, HSEG.out, by rw [if_neg (by simp [HC0.out]), if_pos (.inr (by rw [← HN3.out]; exact g4'))]; exact ⟨rfl, rfl, rfl⟩⟩
  have hgc : (!((n3 : Int) == pm)) = false := by simp [g4']
  have hgd : ((n3 : Int) != pm) = false := by simp [g4']
  subst g3
  have hS5 : Below W4.heap.size W4 W4 := Below.refl _ _
  have HB5 : Hid (Below W1.heap.size W1 W4) := Lib.hid (HB4.out.trans (hS5.mono HB4.out.size))
  obtain ⟨z0, z1, f0, fz1⟩ := HZB.out W4 HB5.out
  have HAT5 := Lib.hid (HAT4.out.old hS5)
  have HZ5 := Lib.hid (HZZ.out W4 HB5.out)
  obtain ⟨⟨y0, y1⟩, x0, x1⟩ := HX4.out W4 hS5
  have HBF : Hid (Below w.heap.size w W4) := Lib.hid (HB1.out.trans (HB5.out.mono HB1.out.size))
  clear hS5
  go_wp2_with ((with_reducible show wpList _ _ _ (Oper.mk none (Op.store _ _ _) _ _ _ _ :: _) _ _); go_must (refine wpList_store_box rfl 34 (.tmp 4) (.tmp 44) rfl (w.heap.size + 1) #[.int .i64 f1, .slice ao3 n3 cap3] rfl rfl _ _ HZ5.out HSZS.out rfl (by simp [Value.oneCell']) ?_))
  intro W6 hq6 hb6 hk6
  have HQ6 := Lib.hid hq6
  have HB6 : Hid (Below w.heap.size w W6) := Lib.hid (HBF.out.trans (hb6.mono (Nat.le_succ _)))
  have HAT6 : Hid (Dc W6 (fun j => w.heap.size ≤ j) (.slice ao3 n3 cap3) cs1) := Lib.hid (((HAT5.out.keep ⟨hb6.size, fun j _ hB => hk6 j (by have := HSZ2.out; omega)⟩)).mono fun j _ hj => Nat.le_trans HLE.out hj)
  clear hq6 hb6 hk6 z0 z1 f0 fz1 y0 y1 x0 x1
  obtain ⟨z0, z1⟩ := q_cellsQ HQ6.out
  go_wp2
  refine bodyPost_ret (v := .tuple #[.agg #[.int .i64 f1, .slice ao3 n3 cap3], .int .i64 0]) (by simp [results, Tryz.results15, go_sem, z0, z1]) rfl ⟨HB6.out, f1, cs1, 0, .slice ao3 n3 cap3, ?_, rfl, HAT6.out⟩
  unfold RHold
  rw [if_neg HEL.out]
  exact ⟨f1, cs1, c1, HSEG.out, by rw [if_neg (by simp [HC0.out]), if_neg (by rw [← HN3.out]; exact fun h => h.elim (fun h => h rfl) (fun h => h g4'))]; exact ⟨rfl, rfl, rfl⟩⟩

end Go.Proofs.YtpebmmhokigglaaGreatDoor

namespace Go.Proofs.YtpebmmhokigglaaGreatDoor
open Go.RowKit

theorem mofC_zero {f : Int} {cs : List IC} (h : mofC f cs = 0) : sgC f cs = 0 ∧ cs.length ≠ 0 := by
  unfold mofC at h
  split at h
  · rename_i h1
    split at h
    · cases h
    · rename_i h2; exact ⟨h1, h2⟩
  · rename_i h1; exact absurd h h1
theorem mofC_bad {f : Int} {cs : List IC} : (if sgC f cs = 0 ∧ cs.length = 0 then 2 else sgC f cs) = mofC f cs := by
  unfold mofC
  by_cases h : sgC f cs = 0
  · by_cases h2 : cs.length = 0
    · rw [if_pos ⟨h, h2⟩, if_pos h, if_pos h2]
    · rw [if_neg (fun c => h2 c.2), if_pos h, if_neg h2, h]
  · rw [if_neg (fun c => h c.1), if_neg h]
/-- What a part was made of, it holds. -/
theorem rhold_own {f : Int} {cs : List IC} (h : mofC f cs = 0) (h8 : ∀ c ∈ cs, ∀ y ∈ c.2, y < 256) : RHold (mofP f cs) (fr (sgtext f cs)) f cs 0 := by
  unfold RHold
  rw [if_neg (by unfold mofP; simp)]
  refine ⟨f, cs, 0, rseg_put (mofC_zero h).1 h8, ?_⟩
  rw [if_neg (by simp), if_neg (by unfold mofP; simp)]
  exact ⟨rfl, rfl, rfl⟩
theorem rhold_sum {p : PT} {b : List Nat} {f : Int} {cs : List IC} {c : Nat} (h : RHold p b f cs c) (hs : shaOf shaK shaH b ≠ p.2.2.2) : c = 11 := by
  unfold RHold at h
  rw [if_pos (.inr hs)] at h
  exact h.1
theorem rhold_fine {p : PT} {b : List Nat} {f : Int} {cs : List IC} {c : Nat} (h8 : ∀ y ∈ b, y < 256) (h : RHold p b f cs c) : cs.length ≤ 64 ∧ ∀ c ∈ cs, ∀ y ∈ c.2, y < 256 := by
  unfold RHold at h
  split at h
  · obtain ⟨_, _, rfl⟩ := h; exact ⟨by simp, by simp⟩
  · obtain ⟨f1, cs1, c1, h1, h2⟩ := h
    split at h2
    · obtain ⟨_, _, rfl⟩ := h2; exact ⟨by simp, by simp⟩
    · rename_i hz
      obtain rfl : c1 = 0 := Classical.not_not.1 hz
      obtain ⟨_, g1, g2⟩ := h1.back h8
      split at h2
      · obtain ⟨_, _, rfl⟩ := h2; exact ⟨by simp, by simp⟩
      · obtain ⟨_, _, rfl⟩ := h2
        exact ⟨(sgC_zero g1).2.2.1, g2⟩

theorem man_bytes {m : MF} (h : mchk m = 0) (hm : MOk m) : (∀ y ∈ fr (mtext m), y < 256) ∧ (fr (mtext m)).length ≤ 70000 := by
  obtain ⟨h1, h2⟩ := mtext_len h hm
  have hu : U64 (mtext m).length := by unfold U64; omega
  refine ⟨fr_byte h2 hu, ?_⟩
  rw [fr_length]
  have := enc_len10 hu
  unfold fsize
  omega

/-- What Digest answers. -/
def MDigPost (m : MF) (w : World) (e : Ending) (w' : World) : Prop :=
  Below w.heap.size w w' ∧ ((mchk m = 0 ∧ e = .returned (.tuple #[.agg (vals .u8 (shaOf shaK shaH (fr (mtext m)))).toArray, .nilIface])) ∨
    (mchk m ≠ 0 ∧ e = .returned (.tuple #[.agg (vals .u8 zero32).toArray, errV (mchk m)])))

set_option maxHeartbeats 4000000 in
set_option maxRecDepth 100000 in
theorem mdigest_any (m : MF) (v : Value) (w : World) (B : Nat → Prop) (h : PsAt w B v m.ps) (hd : Dg m.prev) (hld : Laid w) :
    Calls Tryz.prog 19 #[.agg (mfRow m v).toArray] w (MDigPost m w) := by
  obtain ⟨ao, cap, rfl, _, _, _⟩ := h.val
  obtain ⟨n, hn⟩ : ∃ n, n = m.ps.length := ⟨_, rfl⟩
  rw [← hn] at h ⊢
  have hok : MOk m := ⟨hd, h.2⟩
  obtain ⟨W1, hW1⟩ : ∃ W1, W1 = (w.alloc (.cells (mfRow m (.slice ao n cap)).toArray 57)).alloc (.cells (vals .u8 zero32).toArray 26) := ⟨_, rfl⟩
  have hb1 : Below w.heap.size w W1 := by rw [hW1]; exact ((Below.refl _ _).alloc (Nat.le_refl _) _).alloc (by simp) _
  have hx1 : MB W1 w.heap.size m (.slice ao n cap) 57 := by rw [hW1]; exact (mb_new _ _ _ _).old ((Below.refl _ _).alloc (Nat.le_refl _) _)
  have hz1 : W1.heap[w.heap.size + 1]? = some (.cells (vals .u8 zero32).toArray 26 (0, 0)) := by
    have := heap_alloc_new (w.alloc (.cells (mfRow m (.slice ao n cap)).toArray 57)) (.cells (vals .u8 zero32).toArray 26)
    rw [hW1]; simpa using this
  have hs1 : W1.heap.size = w.heap.size + 2 := by rw [hW1]; simp
  have HPUT := Lib.hid (mput_any m _ W1 B (h.old hb1) hd)
  have HB1 := Lib.hid hb1
  have HZ1 := Lib.hid hz1
  have HS1 := Lib.hid hs1
  have HLD1 := Lib.hid (hld.next hb1)
  have HOK := Lib.hid hok
  rw [rsha_zero] at hW1
  have HMS : Hid ((Tryz.prog.info? 57).map (·.size) = some (mfRow m (.slice ao n cap)).toArray.size) := Lib.hid (by rw [mfRow_size hd]; exact Tryz.sizeMF)
  have HDZ : Hid ((Tryz.prog.info? 26).map (·.size) = some (vals .u8 zero32).toArray.size) := Lib.hid (by rw [List.size_toArray, vals_length]; exact Tryz.sizeDG)
  obtain ⟨A, hA⟩ : ∃ A, A = (mfRow m (.slice ao n cap)).toArray := ⟨_, rfl⟩
  rw [← hA] at hW1 HPUT HMS ⊢
  have HXA : Hid (W1.heap[w.heap.size]? = some (.cells A 57 (0, 0))) := Lib.hid (by rw [hA]; exact hx1)
  have HW1 := Lib.hid hW1
  clear hA hb1 hx1 hz1 hs1 h hd hW1 hn hld hok
  go_enter Tryz.func19, Tryz.ntmps19
  go_wp2_with ((with_reducible show wpList _ _ _ (Oper.mk (some 7) _ _ _ _ _ :: _) _ _); rw [← HW1.out]; go_must (refine wpList_load_row rfl 57 (.tmp 1) rfl w.heap.size rfl _ A _ _ HXA.out Tryz.underlying57 rfl HMS.out ?_))
  refine HPUT.out.mono ?_
  rintro e w2 ⟨hb2, h2⟩
  have HZ2 := Lib.hid ((hb2.block _ (by have := HS1.out; omega)).trans HZ1.out)
  have HB2 := Lib.hid (HB1.out.trans (hb2.mono HB1.out.size))
  have HLD2 := Lib.hid (HLD1.out.next hb2)
  have HS2 : Hid (w.heap.size + 1 < w2.heap.size) := Lib.hid (by have := HS1.out; have := hb2.size; omega)
  clear hb2
  rcases h2 with ⟨hz, v', rfl, ho⟩ | ⟨hz, rfl⟩
  rotate_left
  · have HNZ := Lib.hid hz
    rw [errV_pos hz]
    clear hz
    go_wp2_with ((with_reducible show wpList _ _ _ (Oper.mk none _ _ _ _ _ :: _) _ _); go_must (refine wpList_store_box rfl 26 (.tmp 2) (.tmp 13) rfl (w.heap.size + 1) (vals .u8 zero32).toArray rfl rfl _ _ HZ2.out HDZ.out rfl (all_one (ptRow_valsQ zero32)) ?_))
    intro W4 hq4 hb4 _
    have HQ4 := Lib.hid hq4
    have HB4 := Lib.hid (HB2.out.trans (hb4.mono (Nat.le_succ _)))
    clear hq4 hb4
    go_wp2
    refine bodyPost_ret (v := .tuple #[.agg (vals .u8 zero32).toArray, .iface 68 (.int .i64 (mchk m : Int))]) (results_row_tmp (p := 2) rfl _ _ (w.heap.size + 1) _ _ _ _ _ rfl rfl HQ4.out Tryz.underlying26 rfl HDZ.out) rfl ?_
    exact ⟨HB4.out, .inr ⟨HNZ.out, by rw [errV_pos HNZ.out]⟩⟩
  obtain ⟨ap, cp, rfl⟩ := ho.form2Q
  obtain ⟨p8, pl⟩ := man_bytes hz HOK.out
  have HZC := Lib.hid hz
  obtain ⟨D, hD⟩ : ∃ D, D = shaOf shaK shaH (fr (mtext m)) := ⟨_, rfl⟩
  have hd32 : (vals .u8 D).length = 32 := by rw [vals_length, hD, sha_len]
  have HSUM : Hid (Calls Tryz.prog 21 #[.slice ap (fr (mtext m)).length cp] w2 fun e w' => e = .returned (.agg (vals .u8 D).toArray) ∧ Below w2.heap.size w2 w') := Lib.hid (by
    rw [hD]
    exact sumS_any _ _ w2 ho.reads (by omega) p8 HLD2.out)
  have HDD : Hid ((Tryz.prog.info? 26).map (·.size) = some (vals .u8 D).toArray.size) := Lib.hid (by rw [List.size_toArray, hd32]; exact Tryz.sizeDG)
  have HD0 : Hid ((vals .u8 zero32).toArray.size = (vals .u8 D).toArray.size) := Lib.hid (by rw [List.size_toArray, List.size_toArray, hd32]; rfl)
  have HDE := Lib.hid hD
  obtain ⟨nb, hnb⟩ : ∃ k, k = (fr (mtext m)).length := ⟨_, rfl⟩
  rw [← hnb] at HSUM ⊢
  clear hD ho hz p8 pl hd32 hnb
  go_wp2_with fail
  refine HSUM.out.mono ?_
  rintro e w3 ⟨rfl, hb3⟩
  have HZ3 := Lib.hid ((hb3.block _ HS2.out).trans HZ2.out)
  have HB3 := Lib.hid (HB2.out.trans (hb3.mono (by have := HS2.out; omega)))
  clear hb3
  go_wp2_with ((with_reducible show wpList _ _ _ (Oper.mk none _ _ _ _ _ :: _) _ _); go_must (refine wpList_store_box rfl 26 (.tmp 2) (.tmp 16) rfl (w.heap.size + 1) (vals .u8 D).toArray rfl rfl _ _ HZ3.out HDD.out HD0.out (all_one (ptRow_valsQ D)) ?_))
  intro W4 hq4 hb4 _
  have HQ4 := Lib.hid hq4
  have HB4 := Lib.hid (HB3.out.trans (hb4.mono (Nat.le_succ _)))
  clear hq4 hb4
  go_wp2
  refine bodyPost_ret (v := .tuple #[.agg (vals .u8 D).toArray, .nilIface]) (results_row_tmp (p := 2) rfl _ _ (w.heap.size + 1) _ _ _ _ _ rfl rfl HQ4.out Tryz.underlying26 rfl HDD.out) rfl ?_
  exact ⟨HB4.out, .inl ⟨HZC.out, by rw [HDE.out]⟩⟩

end Go.Proofs.YtpebmmhokigglaaGreatDoor
