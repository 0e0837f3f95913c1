/- Package proj's Check and Home. -/
import Derived.Test.YtjbodokligpcaaaGreatPjD
import Derived.Deep.RegionHeld3
import Derived.Deep.RegionHeldLaw
namespace Go.Proofs.YtjbodokligpcaaaGreat
open Go.RowKit

/-- The cells of a box of a projection, where it stays. -/
structure Box2 (w : World) (p : Nat) (x y : Value) : Prop where
  c0 : w.cell? ⟨p, 0, none⟩ = some x
  c1 : w.cell? ⟨p, 1, none⟩ = some y
  f0 : w.frozen? ⟨p, 0, none⟩ = false
  f1 : w.frozen? ⟨p, 1, none⟩ = false
theorem Box2.low {w w' : World} {p B : Nat} {x y : Value} (h : Box2 w p x y) (hb : Below B w w') (hp : p < B) : Box2 w' p x y :=
  ⟨(hb.cell (p := ⟨p, 0, none⟩) hp).trans h.c0, (hb.cell (p := ⟨p, 1, none⟩) hp).trans h.c1, (hb.frozen (p := ⟨p, 0, none⟩) hp).trans h.f0, (hb.frozen (p := ⟨p, 1, none⟩) hp).trans h.f1⟩
theorem Box2.old {w w' : World} {p : Nat} {x y : Value} (h : Box2 w p x y) (hb : Below w.heap.size w w') : Box2 w' p x y := h.low hb (World.block_lt_of_cell? w _ h.c0)
theorem box2_new (w : World) (x y : Value) (t : TypeId) : Box2 (w.alloc (.cells #[x, y] t)) w.heap.size x y :=
  ⟨by rw [World.cell?_alloc_at _ _ _ _ rfl]; rfl, by rw [World.cell?_alloc_at _ _ _ _ rfl]; rfl, frozen_of_row _ _ _ _ _ (heap_alloc_new w _), frozen_of_row _ _ _ _ _ (heap_alloc_new w _)⟩
theorem Box2.drew {w : World} {p : Nat} {x y : Value} (h : Box2 w p x y) : Box2 w.drew p x y := ⟨h.c0, h.c1, h.f0, h.f1⟩
theorem Box2.lt {w : World} {p : Nat} {x y : Value} (h : Box2 w p x y) : p < w.heap.size := World.block_lt_of_cell? w _ h.c0

theorem formed_few {cs : List (List Int)} (h : formedB cs = true) : cs.flatten.length ≤ 16 ∧ cs.length ≤ 4 ∧ 1 ≤ cs.length := by
  obtain ⟨⟨h1, h2⟩, h3⟩ := formedB_iff.1 h
  refine ⟨?_, h2, h1⟩
  have key : ∀ (l : List (List Int)), (∀ c ∈ l, c.length ≤ 4) → l.flatten.length ≤ 4 * l.length := by
    intro l
    induction l with
    | nil => intro _; simp
    | cons c l ih =>
      intro h
      have a := ih fun d hd => h d (List.mem_cons_of_mem _ hd)
      have b := h c (List.mem_cons_self ..)
      simp only [List.flatten_cons, List.length_append, List.length_cons]
      omega
  have := key cs fun c hc => (h3 c hc).2
  omega

set_option maxHeartbeats 2000000 in
set_option maxRecDepth 100000 in
theorem pcheck_any (ep : Int) (v : Value) (cs : List (List Int)) (w : World) (B : Nat → Prop) (h : Chs w B v cs) :
    Calls Tryz.prog 15 #[.agg #[.int .i64 ep, v]] w fun e w' => e = .returned (errV (pchk ep cs)) ∧ Below w.heap.size w w' := by
  obtain ⟨ao, cap, rfl, l1, m1, _⟩ := h.val
  obtain ⟨W1, hW1⟩ : ∃ W1, W1 = w.alloc (.cells #[.int .i64 ep, .slice ao cs.length cap] 25) := ⟨_, rfl⟩
  have hb1 : Below w.heap.size w W1 := by rw [hW1]; exact (Below.refl _ _).alloc (Nat.le_refl _) _
  have hx1 : Box2 W1 w.heap.size (.int .i64 ep) (.slice ao cs.length cap) := by rw [hW1]; exact box2_new _ _ _ _
  have HX1 := Lib.hid hx1
  have HB1 := Lib.hid hb1
  have HR := Lib.hid (h.old hb1)
  have HFO := Lib.hid (formed_any _ cs W1 B (h.old hb1))
  have HEP : Hid (betwB ep 0 1099511627776 = epochB ep) := Lib.hid rfl
  by_cases g1 : epochB ep = true
  rotate_left
  · have HP : Hid (pchk ep cs = 1) := Lib.hid (by unfold pchk; rw [if_pos (by simpa using g1)])
    have g1 : epochB ep = false := by simpa using g1
    rw [g1] at HEP
    clear h hb1 l1 m1 hx1 g1
    subst hW1
    go_enter Tryz.func15, Tryz.ntmps15
    go_wp2_with fail
    refine (betw_any _ _ _ _).mono ?_
    rintro e w1 ⟨rfl, rfl⟩
    rw [HEP.out]
    go_wp2
    go_ret
    exact ⟨by rw [HP.out]; rfl, HB1.out⟩
  by_cases g2 : formedB cs = true
  rotate_left
  · have HP : Hid (pchk ep cs = 2) := Lib.hid (by unfold pchk; rw [if_neg (by simp [g1]), if_pos (by simpa using g2)])
    have g2 : formedB cs = false := by simpa using g2
    rw [g1] at HEP
    rw [g2] at HFO
    clear h hb1 l1 m1 hx1 g1 g2
    subst hW1
    go_enter Tryz.func15, Tryz.ntmps15
    go_wp2_with fail
    refine (betw_any _ _ _ _).mono ?_
    rintro e w1 ⟨rfl, rfl⟩
    rw [HEP.out]
    go_wp2_with fail
    refine HFO.out.mono ?_
    rintro e w1 ⟨rfl, rfl⟩
    go_wp2
    go_ret
    exact ⟨by rw [HP.out]; rfl, HB1.out⟩
  obtain ⟨few1, few2, few3⟩ := formed_few g2
  have HC := Lib.hid (concatI_any _ cs _ W1 B (h.old hb1) rfl (by omega) (by omega))
  have HFW : Hid (cs.flatten.length ≤ 16 ∧ cs.length ≤ 4) := Lib.hid ⟨few1, few2⟩
  have HPC : Hid (pchk ep cs = if cs.flatten.all unitB = false then 1 else if cs.flatten.Nodup then 0 else 2) := Lib.hid (by unfold pchk; rw [if_neg (by simp [g1]), if_neg (by simp [g2])])
  have HND := Lib.hid (unitsL_nodup cs.flatten)
  rw [g1] at HEP
  rw [g2] at HFO
  have hsz : w.heap.size < W1.heap.size := hx1.lt
  have HSZ := Lib.hid hsz
  obtain ⟨W1', hW1'⟩ : ∃ W, W = W1 := ⟨_, rfl⟩
  have HWE := Lib.hid hW1'
  clear h hb1 l1 m1 hx1 g1 g2 few1 few2 few3 hsz hW1'
  subst hW1
  go_enter Tryz.func15, Tryz.ntmps15
  go_wp2_with fail
  refine (betw_any _ _ _ _).mono ?_
  rintro e w1 ⟨rfl, rfl⟩
  rw [HEP.out]
  go_wp2_with fail
  refine HFO.out.mono ?_
  rintro e w1 ⟨rfl, rfl⟩
  go_wp2_with fail
  refine HC.out.mono ?_
  rintro e w2 ⟨v2, rfl, ho2, hb2⟩
  have hx2 := HX1.out.old hb2
  have c0 := hx2.c0
  have c1 := hx2.c1
  have HB2 : Hid (Below w.heap.size w w2) := Lib.hid (HB1.out.trans (hb2.mono HB1.out.size))
  have HR2 := Lib.hid (HR.out.old hb2)
  obtain ⟨ao2, cap2, hv2⟩ := slice_val ho2
  have HAU := Lib.hid (areUnits_any v2 cs.flatten w2 _ ho2.row)
  have HU := Lib.hid (units_any ep _ cs w2 B HR2.out (by have := HFW.out; omega) (by have := HFW.out; omega))
  obtain ⟨fl, hfl⟩ : ∃ fl, fl = cs.flatten.length := ⟨_, rfl⟩
  rw [← hfl] at hv2
  have HFL := Lib.hid hfl
  subst hv2
  clear ho2 hb2 hx2 hfl
  by_cases g3 : cs.flatten.all unitB = true
  rotate_left
  · have HP : Hid (pchk ep cs = 1) := Lib.hid (by rw [HPC.out, if_pos (by simpa using g3)])
    have g3 : cs.flatten.all unitB = false := Bool.eq_false_iff.2 g3
    rw [g3] at HAU
    clear g3
    go_wp2_with fail
    refine HAU.out.mono ?_
    rintro e w3 ⟨rfl, rfl⟩
    go_wp2
    go_ret
    exact ⟨by rw [HP.out]; rfl, HB2.out⟩
  have HPC2 : Hid (pchk ep cs = if cs.flatten.Nodup then 0 else 2) := Lib.hid (by rw [HPC.out, if_neg (by simp only [g3]; simp)])
  rw [g3] at HAU
  clear g3
  go_wp2_with fail
  refine HAU.out.mono ?_
  rintro e w3 ⟨rfl, rfl⟩
  go_wp2_with fail
  refine HU.out.mono ?_
  rintro e w4 ⟨v4, rfl, ho4, hb4⟩
  obtain ⟨ao4, cap4, hv4⟩ := slice_val ho4
  have HB4 : Hid (Below w.heap.size w w4) := Lib.hid (HB2.out.trans (hb4.mono HB2.out.size))
  obtain ⟨ul, hul⟩ : ∃ ul, ul = (unitsL cs.flatten).length := ⟨_, rfl⟩
  rw [← hul] at hv4
  have HUL := Lib.hid hul
  subst hv4
  clear ho4 hb4 hul
  by_cases g4 : cs.flatten.Nodup
  · have HP : Hid (pchk ep cs = 0) := Lib.hid (by rw [HPC2.out, if_pos g4])
    have hlt : decide (ul < fl) = false := decide_eq_false (by rw [HUL.out, HFL.out, HND.out]; exact fun h => h g4)
    clear g4
    go_wp2
    go_ret
    exact ⟨by rw [HP.out]; rfl, HB4.out⟩
  · have HP : Hid (pchk ep cs = 2) := Lib.hid (by rw [HPC2.out, if_neg g4])
    have hlt : decide (ul < fl) = true := decide_eq_true (by rw [HUL.out, HFL.out, HND.out]; exact g4)
    clear g4
    go_wp2
    go_ret
    exact ⟨by rw [HP.out]; rfl, HB4.out⟩

/-- An address. -/
def addrB (a : Int) : Bool := decide (0 ≤ a) && decide (a ≤ 1048575)
theorem addrB_iff {u : Int} : addrB u = true ↔ 0 ≤ u ∧ u ≤ 1048575 := by unfold addrB; rw [Bool.and_eq_true, decide_eq_true_iff, decide_eq_true_iff]
def homeC (ep : Int) (cs : List (List Int)) (a : Int) : Nat := if pchk ep cs ≠ 0 then pchk ep cs else if addrB a = false then 1 else 0
def homeR (ep : Int) (cs : List (List Int)) (a : Int) : Int := if homeC ep cs a = 0 then a % (cs.length : Int) else 0

end Go.Proofs.YtjbodokligpcaaaGreat
