/- The contracts of package cell's Check, Same, May, Copy, Later, Word. · The contracts of package cell's Copy, Later, Word. · Slices of cells; the law's own Long. · Rows of cells by addresses: mathematics of layer 8. · A map of cells by addresses in memory: look-ups, stores, its length; the unit's block. -/
import Derived.Test.YtpebmmhokigglaaGreatDoorQb
import Derived.Test.YtpebmmhokigglaaGreatDoorDaP
import Derived.Deep.RegionHeld3
import Derived.Test.YtpebmmhokigglaaGreatDoorBase
import Derived.StringKeys
namespace Go.Proofs.YtpebmmhokigglaaGreatDoor
open Go.RowKit

/-- Are two cells the same? -/
def sameC (k1 : Int) (d1 : List Nat) (k2 : Int) (d2 : List Nat) : Bool := k1 == k2 && decide (d1 = d2)
theorem chk_zero {k : Int} {n : Nat} (h : chk k n = 0) : 0 ≤ k ∧ k ≤ 3 ∧ n ≤ 64 ∧ (k ≠ 1 → n = 0) := by
  unfold chk at h
  split at h
  · cases h
  · split at h
    · cases h
    · split at h
      · cases h
      · omega

set_option maxHeartbeats 400000 in
set_option maxRecDepth 100000 in
theorem equal_any (v1 v2 : Value) (a b : List Nat) (w : World) (h1 : Reads w .u8 v1 a) (h2 : Reads w .u8 v2 b) (ha : ∀ x ∈ a, x < 256) (hb : ∀ x ∈ b, x < 256) :
    Calls Tryz.prog 77 #[v1, v2] w fun e w' => e = .returned (.bool (decide (a = b))) ∧ w = w' := by
  have c1 := conv_reads v1 a w h1
  have c2 := conv_reads v2 b w h2
  have hs := str_beq ha hb
  generalize strOfNums (a.map (fun n : Nat => (n : Int))) = sa at c1 hs
  generalize strOfNums (b.map (fun n : Nat => (n : Int))) = sb at c2 hs
  have HS := Lib.hid hs; clear hs
  go_enter Tryz.func77, Tryz.ntmps77
  go_wp2
  go_ret
  exact ⟨congrArg (fun b => Ending.returned (Value.bool b)) HS.out, rfl⟩

set_option maxHeartbeats 400000 in
set_option maxRecDepth 100000 in
theorem check_any (k : Int) (v : Value) (d : List Nat) (w : World) (hr : Reads w .u8 v d) :
    Calls Tryz.prog 83 #[.agg #[.int .i64 k, v]] w fun e w' => e = .returned (errV (chk k d.length)) ∧ Below w.heap.size w w' := by
  obtain ⟨ao, cap, rfl, _, _, _⟩ := hr.val
  have e1 : Value.iface 68 (.int .i64 1) = errV 1 := (errV_pos (by decide)).symm
  have e2 : Value.iface 68 (.int .i64 2) = errV 2 := (errV_pos (by decide)).symm
  have e3 : Value.iface 68 (.int .i64 3) = errV 3 := (errV_pos (by decide)).symm
  have e0 : Value.nilIface = errV 0 := errV_zero.symm
  have E0 := Lib.hid e0
  have E1 := Lib.hid e1
  have E2 := Lib.hid e2
  have E3 := Lib.hid e3
  clear e0 e1 e2 e3 hr
  generalize hn : d.length = n
  clear hn
  unfold chk
  by_cases h1 : k < 0
  · rw [if_pos (.inl h1), ← E1.out]
    go_enter Tryz.func83, Tryz.ntmps83
    go_wp2
    go_ret
    exact ⟨rfl, (Below.refl _ _).alloc (Nat.le_refl _) _⟩
  by_cases h2 : 3 < k
  · rw [if_pos (.inr h2), ← E1.out]
    go_enter Tryz.func83, Tryz.ntmps83
    go_wp2
    go_ret
    exact ⟨rfl, (Below.refl _ _).alloc (Nat.le_refl _) _⟩
  rw [if_neg (by omega)]
  by_cases h3 : (64 : Int) < (n : Int)
  · rw [if_pos (by omega), ← E3.out]
    go_enter Tryz.func83, Tryz.ntmps83
    go_wp2
    go_ret
    exact ⟨rfl, (Below.refl _ _).alloc (Nat.le_refl _) _⟩
  rw [if_neg (by omega)]
  by_cases h5 : (0 : Int) < (n : Int)
  · by_cases h4 : (k != 1) = true
    · have hk : k ≠ 1 := by simpa using h4
      rw [if_pos ⟨hk, by omega⟩, ← E2.out]
      go_enter Tryz.func83, Tryz.ntmps83
      go_wp2
      go_ret
      exact ⟨rfl, (Below.refl _ _).alloc (Nat.le_refl _) _⟩
    · have hk : k = 1 := by simpa using h4
      rw [if_neg (by omega), ← E0.out]
      subst hk
      go_enter Tryz.func83, Tryz.ntmps83
      go_wp2
      go_ret
      exact ⟨rfl, (Below.refl _ _).alloc (Nat.le_refl _) _⟩
  · rw [if_neg (by omega), ← E0.out]
    go_enter Tryz.func83, Tryz.ntmps83
    go_wp2
    go_ret
    exact ⟨rfl, (Below.refl _ _).alloc (Nat.le_refl _) _⟩

/-- Two boxes of cells, made one behind the other. -/
theorem two_boxes (w : World) (x y : Value) (k1 k2 : Int) :
    Below w.heap.size w ((w.alloc (.cells #[.int .i64 k1, x] 72)).alloc (.cells #[.int .i64 k2, y] 72)) ∧
    ((w.alloc (.cells #[.int .i64 k1, x] 72)).alloc (.cells #[.int .i64 k2, y] 72)).heap[w.heap.size]? = some (.cells #[.int .i64 k1, x] 72 (0, 0)) ∧
    ((w.alloc (.cells #[.int .i64 k1, x] 72)).alloc (.cells #[.int .i64 k2, y] 72)).heap[w.heap.size + 1]? = some (.cells #[.int .i64 k2, y] 72 (0, 0)) := by
  refine ⟨((Below.refl _ _).alloc (Nat.le_refl _) _).alloc (by simp) _, ?_, ?_⟩
  · rw [Below.heap_alloc _ _ _ (by simp)]; exact heap_alloc_new _ _
  · have := heap_alloc_new (w.alloc (.cells #[.int .i64 k1, x] 72)) (.cells #[.int .i64 k2, y] 72)
    simpa using this

set_option maxHeartbeats 400000 in
set_option maxRecDepth 100000 in
theorem same_any (k1 k2 : Int) (v1 v2 : Value) (d1 d2 : List Nat) (w : World) (h1 : Reads w .u8 v1 d1) (h2 : Reads w .u8 v2 d2) (ha : ∀ x ∈ d1, x < 256) (hb : ∀ x ∈ d2, x < 256) :
    Calls Tryz.prog 43 #[.agg #[.int .i64 k1, v1], .agg #[.int .i64 k2, v2]] w fun e w' => e = .returned (.bool (sameC k1 d1 k2 d2)) ∧ Below w.heap.size w w' := by
  obtain ⟨ao1, cap1, rfl, _, _, _⟩ := h1.val
  obtain ⟨ao2, cap2, rfl, _, _, _⟩ := h2.val
  obtain ⟨hb0, hx1, hx2⟩ := two_boxes w (.slice ao1 d1.length cap1) (.slice ao2 d2.length cap2) k1 k2
  obtain ⟨W0, hW0⟩ : ∃ W0, W0 = (w.alloc (.cells #[.int .i64 k1, .slice ao1 d1.length cap1] 72)).alloc (.cells #[.int .i64 k2, .slice ao2 d2.length cap2] 72) := ⟨_, rfl⟩
  rw [← hW0] at hb0
  have HR1 := Lib.hid (h1.new hb0)
  have HR2 := Lib.hid (h2.new hb0)
  have HB0 := Lib.hid hb0
  obtain ⟨a0, a1, _, _⟩ := blk2 hx1
  obtain ⟨b0, b1, _, _⟩ := blk2 hx2
  have HW0 := Lib.hid hW0
  clear hb0 hx1 hx2 h1 h2 hW0
  unfold sameC
  cases he : (k1 == k2)
  · go_enter Tryz.func43, Tryz.ntmps43
    go_wp2
    go_ret
    exact ⟨rfl, by rw [← HW0.out]; exact HB0.out⟩
  · go_enter Tryz.func43, Tryz.ntmps43
    go_wp2_with fail
    rw [← HW0.out]
    refine (equal_any _ _ d1 d2 W0 HR1.out HR2.out ha hb).mono ?_
    rintro e w1 ⟨rfl, rfl⟩
    go_wp2
    go_ret
    exact ⟨rfl, HB0.out⟩

end Go.Proofs.YtpebmmhokigglaaGreatDoor

namespace Go.Proofs.YtpebmmhokigglaaGreatDoor
open Go.RowKit

/-- What is owned stays so where a block that isn't its own is written. -/
theorem Owns.set2 {w : World} {base : Nat} {e : TypeId} {k : IntKind} {v : Value} {l : List Nat} (h : Owns w base e k v l) {p : Nat} (hp : ∀ j, v.ownBlock = some j → j ≠ p) (x y : Value) : Owns ((w.setCell ⟨p, 0, none⟩ x).setCell ⟨p, 1, none⟩ y) base e k v l :=
  h.grown (row := some p) ⟨rfl, rfl, rfl, by simp, fun j _ hj => by rw [heap_setCell_other _ _ _ _ (fun e => hj (by rw [e])), heap_setCell_other _ _ _ _ (fun e => hj (by rw [e]))]⟩ (by
    cases hv : v.ownBlock with
    | none => exact .inl rfl
    | some j => exact .inr fun he => hp j hv (Option.some.inj he))

end Go.Proofs.YtpebmmhokigglaaGreatDoor

namespace Go.Proofs.YtpebmmhokigglaaGreatDoor
open Go.RowKit

/-- A cell as the program has it: its kind, whatever it is, and its bytes. -/
abbrev IC := Int × List Nat

/-- A slice of cells; the blocks of all that is told by B. -/
def CellsAt (w : World) (B : Nat → Prop) (v : Value) (cs : List IC) : Prop :=
  ∃ ao cap, v = .slice ao cs.length cap ∧ cs.length ≤ cap ∧ cap ≤ maxLen ∧ (ao = none → cap = 0) ∧
    (cs = [] ∨ ∃ b off, ao = some ⟨b, off, none⟩ ∧ b < w.heap.size ∧ B b ∧ ∀ i, i < cs.length → ∃ x, w.cell? ⟨b, off + i * 2, none⟩ = some (.int .i64 (cs.getD i (0, [])).1) ∧ w.cell? ⟨b, off + i * 2 + 1, none⟩ = some x ∧ At w B .u8 x (cs.getD i (0, [])).2)

theorem CellsAt.keep {w w' : World} {B : Nat → Prop} {v : Value} {cs : List IC} (h : CellsAt w B v cs) (hk : Kept B w w') : CellsAt w' B v cs := by
  obtain ⟨ao, cap, rfl, h1, h2, h3, h4⟩ := h
  refine ⟨ao, cap, rfl, h1, h2, h3, ?_⟩
  rcases h4 with h4 | ⟨b, off, rfl, hb, hB, hc⟩
  · exact .inl h4
  · refine .inr ⟨b, off, rfl, Nat.lt_of_lt_of_le hb hk.size, hB, fun i hi => ?_⟩
    obtain ⟨x, h5, h6, h7⟩ := hc i hi
    exact ⟨x, (World.cell?_of_block (hk.block b hb hB)).trans h5, (World.cell?_of_block (hk.block b hb hB)).trans h6, h7.keep hk⟩
theorem CellsAt.mono {w : World} {B C : Nat → Prop} {v : Value} {cs : List IC} (h : CellsAt w B v cs) (hc : ∀ j, j < w.heap.size → B j → C j) : CellsAt w C v cs := by
  obtain ⟨ao, cap, rfl, h1, h2, h3, h4⟩ := h
  refine ⟨ao, cap, rfl, h1, h2, h3, ?_⟩
  rcases h4 with h4 | ⟨b, off, rfl, hb, hB, hcc⟩
  · exact .inl h4
  · refine .inr ⟨b, off, rfl, hb, hc b hb hB, fun i hi => ?_⟩
    obtain ⟨x, h5, h6, h7⟩ := hcc i hi
    exact ⟨x, h5, h6, h7.mono hc⟩
theorem CellsAt.old {w w' : World} {B : Nat → Prop} {v : Value} {cs : List IC} (h : CellsAt w B v cs) (hb : Below w.heap.size w w') : CellsAt w' B v cs := h.keep (kept_new hb B)
theorem CellsAt.val {w : World} {B : Nat → Prop} {v : Value} {cs : List IC} (h : CellsAt w B v cs) : ∃ ao cap, v = .slice ao cs.length cap ∧ cs.length ≤ cap ∧ cap ≤ maxLen ∧ (ao = none → cap = 0) := by
  obtain ⟨ao, cap, hv, h2, h3, h4, _⟩ := h
  exact ⟨ao, cap, hv, h2, h3, h4⟩
theorem CellsAt.at {w : World} {B : Nat → Prop} {ao : Option Addr} {n cap : Nat} {cs : List IC} (h : CellsAt w B (.slice ao n cap) cs) {i : Nat} (hi : i < cs.length) :
    ∃ b off x, ao = some ⟨b, off, none⟩ ∧ b < w.heap.size ∧ B b ∧ w.cell? ⟨b, off + i * 2, none⟩ = some (.int .i64 (cs.getD i (0, [])).1) ∧ w.cell? ⟨b, off + i * 2 + 1, none⟩ = some x ∧ At w B .u8 x (cs.getD i (0, [])).2 := by
  obtain ⟨ao', cap', hv, _, _, _, h4⟩ := h
  simp only [Value.slice.injEq] at hv
  obtain ⟨rfl, _, _⟩ := hv
  rcases h4 with rfl | ⟨b, off, ha, hb, hB, hc⟩
  · simp at hi
  · obtain ⟨x, h5, h6, h7⟩ := hc i hi
    exact ⟨b, off, x, ha, hb, hB, h5, h6, h7⟩
theorem cells_nil (w : World) (B : Nat → Prop) : CellsAt w B (.slice none 0 0) [] := ⟨none, 0, rfl, by simp, by simp [maxLen], fun _ => rfl, .inl rfl⟩

/-- What is left behind the first m cells. -/
theorem CellsAt.tail {w : World} {B : Nat → Prop} {ao : Option Addr} {n cap : Nat} {cs : List IC} (h : CellsAt w B (.slice ao n cap) cs) {m : Nat} (hm : m ≤ cs.length) :
    CellsAt w B (.slice (if cap = m then ao else ao.map fun x => x.add (m * 2)) (n - m) (cap - m)) (cs.drop m) := by
  obtain ⟨ao', cap', hv, h1, h2, h3, h4⟩ := h
  simp only [Value.slice.injEq] at hv
  obtain ⟨rfl, rfl, rfl⟩ := hv
  refine ⟨_, _, by rw [List.length_drop], by rw [List.length_drop]; omega, by omega, fun hn => ?_, ?_⟩
  · split at hn
    · omega
    · have := h3 (by simpa using hn)
      omega
  · by_cases hc : cap = m
    · exact .inl (List.drop_eq_nil_of_le (by omega))
    · rw [if_neg hc]
      rcases h4 with rfl | ⟨b, off, rfl, hb, hB, hcell⟩
      · exact .inl (by simp)
      · refine .inr ⟨b, off + m * 2, by simp [Addr.add], hb, hB, fun i hi => ?_⟩
        rw [List.length_drop] at hi
        obtain ⟨x, h5, h6, h7⟩ := hcell (m + i) (by omega)
        have e : (cs.drop m).getD i (0, []) = cs.getD (m + i) (0, []) := by rw [List.getD_eq_getElem?_getD, List.getD_eq_getElem?_getD, List.getElem?_drop]
        rw [e]
        have e2 : off + m * 2 + i * 2 = off + (m + i) * 2 := by omega
        rw [e2]
        exact ⟨x, h5, h6, h7⟩

/-- Longer cells than are looked at. -/
def longB (cs : List IC) (most : Int) : Bool := cs.any (fun c => decide (100 < c.2.length)) || decide (most < (cs.length : Int))

theorem any_take {cs : List IC} {k : Nat} (h : k < cs.length) {f : IC → Bool} : (cs.take (k + 1)).any f = ((cs.take k).any f || f (cs.getD k (0, []))) := by
  have e : cs.getD k (0, []) = cs[k] := by simp [List.getD, List.getElem?_eq_getElem h]
  rw [List.take_add_one, List.getElem?_eq_getElem h, e, Option.toList_some, List.any_append]
  simp

set_option maxHeartbeats 1000000 in
set_option maxRecDepth 100000 in
theorem long_any (v : Value) (cs : List IC) (most : Int) (w : World) (B : Nat → Prop) (hr : CellsAt w B v cs) (hl : cs.length ≤ 9223372036854775807) :
    Calls Tryz.prog 6 #[v, .int .i64 most] w fun e w' => e = .returned (.bool (longB cs most)) ∧ Below w.heap.size w w' := by
  obtain ⟨ao, cap, rfl, h1, h2, h3⟩ := hr.val
  have HR := Lib.hid hr; clear hr
  go_enter Tryz.func6, Tryz.ntmps6
  go_wp2
  go_loopw [6, 9] (fun _ i wr => ∃ k : Nat, k ≤ cs.length ∧ i = .int .i64 (k : Int) ∧ (cs.take k).any (fun c => decide (100 < c.2.length)) = false ∧ Below w.heap.size w wr)
    (fun _ i _ => cs.length - (intOf i).toNat)
  case atStart => exact ⟨0, Nat.zero_le _, rfl, rfl, Below.refl _ _⟩
  case round =>
    obtain ⟨k, hk, rfl, hno, hb⟩ := hrel
    have HB := Lib.hid hb
    have HNO := Lib.hid hno
    clear hb hno
    by_cases hlt : k < cs.length
    · obtain ⟨b, off, x, rfl, _, _, c0, c1, hat⟩ := (HR.out.old HB.out).at hlt
      have HT := Lib.hid (any_take hlt (f := fun c => decide (100 < c.2.length)))
      generalize hg : cs.getD k (0, []) = g at c0 c1 hat
      rw [hg] at HT
      obtain ⟨kk, d⟩ := g
      obtain ⟨aot, capt, rfl, _, _, _⟩ := hat.reads.val
      have HG := Lib.hid hg
      clear hg hat
      have hlti : (k : Int) < cs.length := by omega
      by_cases hd : (100 : Int) < (d.length : Int)
      · have HE : Hid (longB cs most = true) := Lib.hid (by
          unfold longB
          rw [Bool.or_eq_true]
          left
          rw [List.any_eq_true]
          refine ⟨cs.getD k (0, []), ?_, ?_⟩
          · rw [List.getD_eq_getElem?_getD, List.getElem?_eq_getElem hlt]; exact List.getElem_mem hlt
          · rw [HG.out]; exact decide_eq_true (by show 100 < d.length; omega))
        go_wp2
        go_ret
        exact ⟨by rw [HE.out]; rfl, HB.out.alloc HB.out.size _⟩
      · have HD : Hid ((cs.take (k + 1)).any (fun c => decide (100 < c.2.length)) = false) := Lib.hid (by
          rw [HT.out, HNO.out]
          exact decide_eq_false (by show ¬ 100 < d.length; omega))
        go_wp2
        go_roundw
        case rel => exact ⟨k + 1, by omega, by go_num, HD.out, HB.out.alloc HB.out.size _⟩
        case measure => simp [intOf]; omega
    · obtain rfl : k = cs.length := by omega
      have HE : Hid (longB cs most = decide (most < (cs.length : Int))) := Lib.hid (by
        unfold longB
        have := HNO.out
        rw [List.take_length] at this
        rw [this]
        rfl)
      by_cases hm : most < (cs.length : Int)
      · go_wp2
        go_ret
        exact ⟨by rw [HE.out, decide_eq_true hm]; rfl, HB.out⟩
      · go_wp2
        go_ret
        exact ⟨by rw [HE.out, decide_eq_false (by omega)]; rfl, HB.out⟩

end Go.Proofs.YtpebmmhokigglaaGreatDoor

namespace Go.Proofs.YtpebmmhokigglaaGreatDoor

/-- A row of what stands at addresses. -/
abbrev Im (α : Type) := List (Int × α)
section
variable {α β : Type}
def iget (l : Im α) (n : Int) : Option α := (l.find? fun f => f.1 == n).map (·.2)
def idel (l : Im α) (n : Int) : Im α := l.filter fun f => !(f.1 == n)
def iins (n : Int) (t : α) : Im α → Im α
  | [] => [(n, t)]
  | x :: r => if n < x.1 then (n, t) :: x :: r else x :: iins n t r
def iput (l : Im α) (n : Int) (t : α) : Im α := iins n t (idel l n)
/-- Addresses rise. -/
def IRise (l : Im α) : Prop := l.Pairwise fun a b => a.1 < b.1
theorem mem_iins {n : Int} {t : α} {y : Int × α} : ∀ {l : Im α}, y ∈ iins n t l ↔ y = (n, t) ∨ y ∈ l
  | [] => by simp [iins]
  | x :: r => by
    unfold iins
    split
    · simp
    · rw [List.mem_cons, mem_iins (l := r), List.mem_cons]
      constructor
      · rintro (h | h | h)
        · exact .inr (.inl h)
        · exact .inl h
        · exact .inr (.inr h)
      · rintro (h | h | h)
        · exact .inr (.inl h)
        · exact .inl h
        · exact .inr (.inr h)
theorem IRise.ins {n : Int} {t : α} : ∀ {l : Im α}, IRise l → (∀ x ∈ l, x.1 ≠ n) → IRise (iins n t l)
  | [], _, _ => by unfold iins IRise; simp
  | x :: r, h, hn => by
    have h2 := List.pairwise_cons.1 h
    unfold iins
    split
    · rename_i hx
      refine List.pairwise_cons.2 ⟨fun y hy => ?_, h⟩
      rcases List.mem_cons.1 hy with rfl | hy
      · exact hx
      · exact Int.lt_trans hx (h2.1 y hy)
    · rename_i hx
      have h3 := hn x (by simp)
      refine List.pairwise_cons.2 ⟨fun y hy => ?_, IRise.ins h2.2 fun y hy => hn y (by simp [hy])⟩
      rcases mem_iins.1 hy with rfl | hy
      · show x.1 < n; omega
      · exact h2.1 y hy
theorem IRise.filter {l : Im α} (h : IRise l) (p : Int × α → Bool) : IRise (l.filter p) := List.Pairwise.filter _ h
theorem IRise.put {l : Im α} (h : IRise l) (n : Int) (t : α) : IRise (iput l n t) := (IRise.filter h _).ins fun x hx => by
  have := (List.mem_filter.1 hx).2
  simpa using this
/-- Two rows of the same addresses; what stands at them is told by R. -/
inductive IZip (R : α → β → Prop) : Im α → Im β → Prop
  | nil : IZip R [] []
  | cons {n : Int} {a : α} {b : β} {l : Im α} {m : Im β} : R a b → IZip R l m → IZip R ((n, a) :: l) ((n, b) :: m)
theorem IZip.length {R : α → β → Prop} {l : Im α} {m : Im β} (h : IZip R l m) : l.length = m.length := by
  induction h with
  | nil => rfl
  | cons _ _ ih => simp [ih]
theorem IZip.mono {R S : α → β → Prop} {l : Im α} {m : Im β} (h : IZip R l m) (hs : ∀ a b, R a b → S a b) : IZip S l m := by
  induction h with
  | nil => exact .nil
  | cons h _ ih => exact .cons (hs _ _ h) ih
theorem IZip.keys {R : α → β → Prop} {l : Im α} {m : Im β} (h : IZip R l m) : l.map (·.1) = m.map (·.1) := by
  induction h with
  | nil => rfl
  | cons _ _ ih => simp [ih]
theorem IZip.filter {R : α → β → Prop} {l : Im α} {m : Im β} (h : IZip R l m) (p : Int → Bool) : IZip R (l.filter fun f => p f.1) (m.filter fun f => p f.1) := by
  induction h with
  | nil => exact .nil
  | @cons k a b l m hr _ ih =>
    cases hk : p k
    · simp only [List.filter_cons, hk]; exact ih
    · simp only [List.filter_cons, hk, if_true]; exact .cons hr ih
theorem IZip.ins {R : α → β → Prop} {l : Im α} {m : Im β} (h : IZip R l m) (n : Int) {a : α} {b : β} (hr : R a b) : IZip R (iins n a l) (iins n b m) := by
  induction h with
  | nil => exact .cons hr .nil
  | @cons k a' b' l m hr' h' ih =>
    unfold iins
    by_cases hk : n < k
    · simp only [hk, if_true]; exact .cons hr (.cons hr' h')
    · simp only [hk]; exact .cons hr' ih
theorem IZip.put {R : α → β → Prop} {l : Im α} {m : Im β} (h : IZip R l m) (n : Int) {a : α} {b : β} (hr : R a b) : IZip R (iput l n a) (iput m n b) := (h.filter fun k => !(k == n)).ins n hr
theorem IZip.get {R : α → β → Prop} {l : Im α} {m : Im β} (h : IZip R l m) (n : Int) : (iget l n = none ∧ iget m n = none) ∨ ∃ a b, iget l n = some a ∧ iget m n = some b ∧ R a b := by
  induction h with
  | nil => exact .inl ⟨rfl, rfl⟩
  | @cons k a' b' l m hr' h' ih =>
    unfold iget at ih ⊢
    rw [List.find?_cons, List.find?_cons]
    cases hk : k == n
    · exact ih
    · exact .inr ⟨a', b', rfl, rfl, hr'⟩
theorem IZip.rise {R : α → β → Prop} {l : Im α} {m : Im β} (h : IZip R l m) (hm : IRise m) : IRise l := by
  have e := h.keys
  have h1 : (m.map (·.1)).Pairwise (fun a b : Int => a < b) := List.pairwise_map.2 hm
  rw [← e] at h1
  exact List.pairwise_map.1 h1
end

/-! ### A unit -/
/-- A cell that came in: its kind, its bytes. -/
def okU (c : IC) : Prop := (c.1 = 1 ∨ c.1 = 2) ∧ chk c.1 c.2.length = 0 ∧ ∀ y ∈ c.2, y < 256
structure US where
  epoch : Int
  low : Int
  cells : Im IC
/-- What holds of every unit. -/
structure UOk (U : US) : Prop where
  epoch : 0 ≤ U.epoch ∧ U.epoch ≤ 1099511627776
  low : 0 ≤ U.low ∧ U.low ≤ 1048576
  at' : ∀ f ∈ U.cells, U.low ≤ f.1 ∧ f.1 ≤ 1048575 ∧ okU f.2
  rise : IRise U.cells
end Go.Proofs.YtpebmmhokigglaaGreatDoor

namespace Go.Proofs.YtpebmmhokigglaaGreatDoor
open Go.RowKit
open Go.Maps (Keyed)

abbrev hvU : Value → Option (DataW Value × List MemPlace) := fun v => some (.held v, [])
def entI (f : Int × Value) : Lit × DataW Value := (.int .i64 f.1, .held f.2)
def I64 (n : Int) : Prop := -9223372036854775808 ≤ n ∧ n ≤ 9223372036854775807
/-- The map at block b holds these entries. -/
def MapU (w : World) (b : Nat) (es : Im Value) : Prop := w.ownsMap Tryz.prog 3 hvU b es.length (.map (es.map entI))
theorem MapU.zero (w : World) : (zeroValue 72).run Tryz.prog w = .ok (.agg #[.int .i64 0, .slice none 0 0]) w := by kernel_rfl
theorem MapU.lt {w : World} {b : Nat} {es : Im Value} (h : MapU w b es) : b < w.heap.size := World.ownsMap.lt h
theorem MapU.keep {w w' : World} {b : Nat} {es : Im Value} (h : MapU w b es) (hk : w'.heap[b]? = w.heap[b]?) : MapU w' b es := by
  obtain ⟨e, c, hb, r⟩ := h
  exact ⟨e, c, hk.trans hb, r⟩
/-- What stands at an address in memory reads as a cell. -/
def CellR (w : World) (B : Nat → Prop) (v : Value) (c : IC) : Prop := ∃ dv, v = .agg #[.int .i64 c.1, dv] ∧ At w B .u8 dv c.2
theorem CellR.keep {w w' : World} {B : Nat → Prop} {v : Value} {c : IC} (h : CellR w B v c) (hk : Kept B w w') : CellR w' B v c := by
  obtain ⟨dv, rfl, h⟩ := h
  exact ⟨dv, rfl, h.keep hk⟩
theorem CellR.mono {w : World} {B C : Nat → Prop} {v : Value} {c : IC} (h : CellR w B v c) (hc : ∀ j, j < w.heap.size → B j → C j) : CellR w C v c := by
  obtain ⟨dv, rfl, h⟩ := h
  exact ⟨dv, rfl, h.mono hc⟩
section
variable {w w' : World} {B : Nat → Prop} {u m : Nat} {U : US}
end

end Go.Proofs.YtpebmmhokigglaaGreatDoor
