/- Two units of the program compared. -/
import Derived.Test.YtnhffeppbliabaaUvG
import Derived.Test.YtnhffeppbliabaaUrP
import Derived.Deep.RegionHeld3
namespace Go.Proofs.Ytnhffeppbliabaa
open Go.RowKit

section
variable {w : World} {B B2 : Nat → Prop} {u m u2 m2 : Nat} {U M : US}
set_option maxHeartbeats 4000000 in
set_option maxRecDepth 100000 in
theorem usame_any (h : Un w B u m U) (h2 : Un w B2 u2 m2 M) :
    Calls Try.prog 16 #[.pointer (some ⟨u, 0, none⟩), .pointer (some ⟨u2, 0, none⟩)] w fun r w' => r = .returned (.bool (sameUS U M)) ∧ Below w.heap.size w w' := by
  have HU : Hid (∀ W, Below w.heap.size w W → W.cell? ⟨u, 0, none⟩ = some (.int .i64 U.epoch) ∧ W.cell? ⟨u, 1, none⟩ = some (.int .i64 U.low) ∧ W.cell? ⟨u, 2, none⟩ = some (.map (some m)) ∧ W.cell? ⟨u2, 0, none⟩ = some (.int .i64 M.epoch) ∧ W.cell? ⟨u2, 1, none⟩ = some (.int .i64 M.low) ∧ W.cell? ⟨u2, 2, none⟩ = some (.map (some m2))) := Lib.hid fun W hW =>
    ⟨(h.old hW).c.1, (h.old hW).c.2.1, (h.old hW).c.2.2.1, (h2.old hW).c.1, (h2.old hW).c.2.1, (h2.old hW).c.2.2.1⟩
  obtain ⟨es, hm, hz⟩ := h.map
  obtain ⟨es2, hm2, hz2⟩ := h2.map
  have HE : Hid (∀ W, Below w.heap.size w W → Calls Try.prog 54 #[.map (some m), .map (some m2), .func (.func 21) #[] #[]] W fun r w' => r = .returned (.bool (decide (U.cells = M.cells))) ∧ Below W.heap.size W w') := Lib.hid fun W hW =>
    equalU_any (hm.keep (hW.block m hm.lt)) (hz.mono fun _ _ hr => hr.keep (kept_new hW B)) h.ok.rise (fun f hf => ⟨by have := h.ok.at' f hf; have := h.ok.low; exact ⟨by omega, by omega⟩, (h.ok.at' f hf).2.2.2.2⟩)
      (hm2.keep (hW.block m2 hm2.lt)) (hz2.mono fun _ _ hr => hr.keep (kept_new hW B2)) h2.ok.rise fun f hf => (h2.ok.at' f hf).2.2.2.2
  have hbb : sameUS U M = (decide (U.epoch = M.epoch) && (decide (U.low = M.low) && decide (U.cells = M.cells))) := rfl
  generalize sameUS U M = bb at hbb ⊢
  generalize decide (U.cells = M.cells) = bc at hbb HE
  generalize U.epoch = ep at *
  generalize M.epoch = ep2 at *
  generalize U.low = lw at *
  generalize M.low = lw2 at *
  obtain ⟨c0, c1, c2, d0, d1, d2⟩ := HU.out w (Below.refl _ _)
  have HBB := Lib.hid hbb
  have HWD : Hid (∀ n, Below w.heap.size w (w.drewN n)) := Lib.hid fun n => ⟨rfl, rfl, rfl, Nat.le_refl _, fun _ _ => rfl⟩
  have HED := Lib.hid (HE.out w.drew ⟨rfl, rfl, rfl, Nat.le_refl _, fun _ _ => rfl⟩)
  clear h h2 hm hz hm2 hz2 hbb HE
  by_cases h1 : ep = ep2
  rotate_left
  · have e1 : decide (ep = ep2) = false := decide_eq_false h1
    have e2 : (ep == ep2) = false := by simpa using h1
    obtain rfl : bb = false := by rw [HBB.out, e1, Bool.false_and]
    clear h1
    go_enter Try.func16, Try.ntmps16
    go_wp2_with fail
    go_quiet (fail)
    go_wp2
    go_ret
    exact ⟨rfl, HWD.out _⟩
  subst h1
  by_cases h1 : lw = lw2
  rotate_left
  · have e1 : decide (lw = lw2) = false := decide_eq_false h1
    have e2 : (lw == lw2) = false := by simpa using h1
    obtain rfl : bb = false := by rw [HBB.out, e1, Bool.false_and, Bool.and_false]
    clear h1
    go_enter Try.func16, Try.ntmps16
    go_wp2_with fail
    go_quiet (fail)
    go_wp2
    go_ret
    exact ⟨rfl, HWD.out _⟩
  subst h1
  obtain rfl : bb = bc := by rw [HBB.out]; simp
  go_enter Try.func16, Try.ntmps16
  go_wp2_with fail
  go_region_held3 (fun w' => w'.cell? ⟨u, 0, none⟩ = some (.int .i64 ep) ∧ w'.cell? ⟨u, 1, none⟩ = some (.int .i64 lw) ∧ w'.cell? ⟨u, 2, none⟩ = some (.map (some m)) ∧ w'.cell? ⟨u2, 0, none⟩ = some (.int .i64 ep) ∧ w'.cell? ⟨u2, 1, none⟩ = some (.int .i64 lw) ∧ w'.cell? ⟨u2, 2, none⟩ = some (.map (some m2))) (go_keep) (first
    | (go_at_call 54
       refine HED.out.mono ?_
       rintro r w' ⟨rfl, hb'⟩
       have hb2 : Below w.heap.size w w' := ⟨hb'.os, hb'.tape, hb'.output, hb'.size, hb'.block⟩
       obtain ⟨c0, c1, c2, d0, d1, d2⟩ := HU.out w' hb2
       have HB := Lib.hid hb2
       clear hb' hb2))
  all_goals
    go_wp2
    go_ret
    exact ⟨rfl, HB.out⟩
set_option maxRecDepth 100000 in
theorem usame_nil (b : Nat) (w : World) : Calls Try.prog 16 #[.pointer none, .pointer (some ⟨b, 0, none⟩)] w fun r w' => r = .returned (.bool false) ∧ w' = w := by
  have h : ∀ w, (binOp .eql 24 (.pointer none) (.pointer (some ⟨b, 0, none⟩))).run Try.prog w = .ok (.bool false) w := fun w => by kernel_rfl
  go_enter Try.func16, Try.ntmps16
  go_wp2
  go_ret
  exact ⟨rfl, rfl⟩
set_option maxRecDepth 100000 in
theorem usame_nils (w : World) : Calls Try.prog 16 #[.pointer none, .pointer none] w fun r w' => r = .returned (.bool true) ∧ w' = w := by
  have h : ∀ w, (binOp .eql 24 (.pointer none) (.pointer none)).run Try.prog w = .ok (.bool true) w := fun w => by kernel_rfl
  go_enter Try.func16, Try.ntmps16
  go_wp2
  go_ret
  exact ⟨rfl, rfl⟩
end
end Go.Proofs.Ytnhffeppbliabaa
