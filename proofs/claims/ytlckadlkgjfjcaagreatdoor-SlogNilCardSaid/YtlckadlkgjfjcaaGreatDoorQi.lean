/- May is an order: the mathematics; cells written out as a slice. · A unit's Copy; two maps of cells compared; Same. · Two units of the program compared. -/
import Derived.Test.YtlckadlkgjfjcaaGreatDoorUvQ
import Derived.Test.YtlckadlkgjfjcaaGreatDoorUjP
import Derived.Test.YtlckadlkgjfjcaaGreatDoorUnP
import Derived.Test.YtlckadlkgjfjcaaGreatDoorCgP
import Derived.Shelf.SlMaps.Clone
import Derived.Deep.RegionHeld3
import Derived.Test.YtlckadlkgjfjcaaGreatDoorUrP
namespace Go.Proofs.YtlckadlkgjfjcaaGreatDoor
open Go.RowKit

end Go.Proofs.YtlckadlkgjfjcaaGreatDoor

namespace Go.Proofs.YtlckadlkgjfjcaaGreatDoor
open Go.RowKit

theorem MapU.lookOk {w : World} {b : Nat} {es : Im Value} (h : MapU w b es) {n : Int} (hn : I64 n) :
    (Instr.lookup 168 (.map (some b)) (.int .i64 n) true).run Tryz.prog w = .ok (.tuple #[(iget es n).getD (.agg #[.int .i64 0, .slice none 0 0]), .bool (iget es n).isSome]) w := by
  obtain ⟨v, ps, hr, hd⟩ := World.ownsMap.look_ok h keyed_int Tryz.underlying168 (MapU.zero w) (zd := .held (.agg #[.int .i64 0, .slice none 0 0])) (zp := []) rfl (key_i hn)
  rw [atKey_entI] at hd
  rw [hasU, ihas_get] at hr
  have e : v = (iget es n).getD (.agg #[.int .i64 0, .slice none 0 0]) := by cases hd; rfl
  rw [hr, e]

set_option maxHeartbeats 1000000 in
set_option maxRecDepth 100000 in
theorem cloneU_any {w : World} {b : Nat} {es : _} {clock : _} (hb : w.heap[b]? = some (.map es clock)) :
    Calls Tryz.prog 153 #[.map (some b)] w fun e w' => e = .returned (.map (some w.heap.size)) ∧ w' = w.alloc (.map es clock) := by
  have hq := fun w => run_eql_map_nil_sl (P := Tryz.prog) w 168 _ _ (some b) Tryz.underlying168
  go_enter Tryz.func153, Tryz.ntmps153
  go_wp2
  rw [run_callFunc_extern Tryz.func223 (by kernel_rfl) (by kernel_rfl) (by kernel_rfl) (e := Extern.MapsClone.clone) (by kernel_rfl), run_maps_clone_sl w 168 hb]
  simp only [Result.andThen]
  rw [Oper.upon_value]
  go_wp2
  rw [run_typeAssert_map_sl _ 168 20 _ _ _ Tryz.underlying168]
  simp only [Result.andThen]
  rw [Oper.upon_value]
  go_wp2
  go_ret
  exact ⟨rfl, rfl⟩

theorem MapU.block {w : World} {b : Nat} {es : Im Value} (h : MapU w b es) : ∃ e c, w.heap[b]? = some (.map e c) := by
  obtain ⟨e, c, hb, _⟩ := h
  exact ⟨e, c, hb⟩
theorem MapU.moved {w w' : World} {b b' : Nat} {es : Im Value} (h : MapU w b es) (hk : w'.heap[b']? = w.heap[b]?) : MapU w' b' es := by
  obtain ⟨e, c, hb, r⟩ := h
  exact ⟨e, c, hk.trans hb, r⟩

section
variable {w : World} {B : Nat → Prop} {u m : Nat} {U : US}
set_option maxHeartbeats 2000000 in
set_option maxRecDepth 100000 in
/-- A unit apart: its data is shared. -/
theorem ucopy_any (h : Un w B u m U) (hB : ∀ j, B j → j < w.heap.size) :
    Calls Tryz.prog 105 #[.pointer (some ⟨u, 0, none⟩)] w fun r w' => ∃ u' m', r = .returned (.pointer (some ⟨u', 0, none⟩)) ∧ Un w' B u' m' U ∧ w.heap.size ≤ u' ∧ w.heap.size ≤ m' ∧ Below w.heap.size w w' := by
  obtain ⟨c0, c1, c2, _⟩ := h.c
  obtain ⟨es, hm, hz⟩ := h.map
  obtain ⟨e, ck, hb⟩ := hm.block
  have HC : Hid (∀ W, W.heap = w.heap → Below w.heap.size w W → Calls Tryz.prog 153 #[.map (some m)] W fun e' w' => e' = .returned (.map (some w.heap.size)) ∧ w'.heap[w.heap.size]? = some (.map e ck) ∧ w'.heap.size = w.heap.size + 1 ∧ Below w.heap.size w w') := Lib.hid (fun W hW hb2 => by
    have h1 := cloneU_any (w := W) (b := m) (es := e) (clock := ck) (by rw [hW]; exact hb)
    refine h1.mono ?_
    rintro e' w' ⟨rfl, rfl⟩
    exact ⟨by rw [hW], by rw [← hW]; exact heap_alloc_new _ _, by rw [← hW]; simp, hb2.alloc (by rw [hW]; exact Nat.le_refl _) _⟩)
  obtain ⟨ep, hep⟩ : ∃ z, z = U.epoch := ⟨_, rfl⟩
  obtain ⟨lw, hlw⟩ : ∃ z, z = U.low := ⟨_, rfl⟩
  rw [← hep] at c0
  rw [← hlw] at c1
  have HU : Hid (∀ W, Below w.heap.size w W → W.cell? ⟨u, 0, none⟩ = some (.int .i64 ep) ∧ W.cell? ⟨u, 1, none⟩ = some (.int .i64 lw) ∧ W.cell? ⟨u, 2, none⟩ = some (.map (some m))) := Lib.hid fun W hW => ⟨(hW.cell (p := ⟨u, 0, none⟩) h.ult).trans c0, (hW.cell (p := ⟨u, 1, none⟩) h.ult).trans c1, (hW.cell (p := ⟨u, 2, none⟩) h.ult).trans c2⟩
  have HF : Hid (∀ W W2, W.heap[w.heap.size]? = some (.map e ck) → W.heap.size = w.heap.size + 1 → Below w.heap.size w W → W2 = W.alloc (.cells #[.int .i64 ep, .int .i64 lw, .map (some w.heap.size)] 170) → Un W2 B (w.heap.size + 1) w.heap.size U ∧ Below w.heap.size w W2) := Lib.hid fun W W2 hx hs hb1 hW => by
    have hbl : Below w.heap.size w W2 := by rw [hW]; exact hb1.alloc hb1.size _
    have hbm : W2.heap[w.heap.size]? = some (.map e ck) := by
      rw [hW, Below.heap_alloc _ _ _ (by omega)]
      exact hx
    refine ⟨⟨?_, ⟨es, hm.moved (hbm.trans hb.symm), hz.mono fun _ _ hr => hr.keep (kept_new hbl B)⟩, h.ok, by omega, fun hc => ?_, fun hc => ?_⟩, hbl⟩
    · rw [hW, hep, hlw, ← hs]
      exact heap_alloc_new _ _
    · have := hB _ hc; omega
    · have := hB _ hc; omega
  clear h hm hz hb hep hlw hB
  have HCD := Lib.hid (HC.out w.drew rfl ⟨rfl, rfl, rfl, Nat.le_refl _, fun _ _ => rfl⟩)
  go_enter Tryz.func105, Tryz.ntmps105
  go_wp2_with fail
  go_region_held3 (fun w' => w'.cell? ⟨u, 0, none⟩ = some (.int .i64 ep) ∧ w'.cell? ⟨u, 1, none⟩ = some (.int .i64 lw) ∧ w'.cell? ⟨u, 2, none⟩ = some (.map (some m))) (go_keep) (first
    | (go_at_call 153
       refine HCD.out.mono ?_
       rintro e' w' ⟨rfl, hx', hs', hb'⟩
       obtain ⟨c0, c1, c2⟩ := HU.out w' hb'
       have HX := Lib.hid hx'
       have HS := Lib.hid hs'
       have HB := Lib.hid hb'
       clear hx' hs' hb'))
  all_goals
    go_wp2
    go_ret
    obtain ⟨h1, h2⟩ := HF.out w' _ HX.out HS.out HB.out rfl
    refine ⟨w.heap.size + 1, w.heap.size, ?_, h1, Nat.le_succ _, Nat.le_refl _, h2⟩
    rw [HS.out]
    rfl

end
end Go.Proofs.YtlckadlkgjfjcaaGreatDoor

namespace Go.Proofs.YtlckadlkgjfjcaaGreatDoor
open Go.RowKit

section
variable {w : World} {B B2 : Nat → Prop} {u m u2 m2 : Nat} {U M : US}
end
end Go.Proofs.YtlckadlkgjfjcaaGreatDoor
