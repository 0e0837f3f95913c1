/- The document's own manifests: Same. -/
import Derived.Test.YtpebmmhokigglaaGreatDoorQg
import Derived.Test.YtpebmmhokigglaaGreatDoorQe
namespace Go.Proofs.YtpebmmhokigglaaGreatDoor
open Go.RowKit

theorem eq_partsD {p q : PT} (hp : Dg p.2.2.2) (hq : Dg q.2.2.2) (w : World) : (Op.equalIn 10000 44 (.agg (ptRow p).toArray) (.agg (ptRow q).toArray)).run Tryz.prog w = .ok (decide (p = q)) w := by
  have ht : Tryz.prog.underlying 44 = some (.struct (Tryz.prog.fieldsOf 44)) := by kernel_rfl
  have hh : Tryz.prog.stoodInHeld 44 = false := by kernel_rfl
  obtain ⟨L, hL⟩ : ∃ L, L = (Tryz.prog.fieldsOf 44).toList := ⟨_, rfl⟩
  have hm : (L.map fun f => (f.name, f.type, f.offset)) = [("First", 3, 0), ("Many", 3, 1), ("Size", 3, 2), ("Sum", 42, 3)] := by rw [hL]; kernel_rfl
  obtain ⟨f0, f1, f2, f3, hf, ⟨n0, t0, g0⟩, ⟨n1, t1, g1⟩, ⟨n2, t2, g2⟩, n3, t3, g3⟩ : ∃ f0 f1 f2 f3, L = [f0, f1, f2, f3] ∧ (f0.name = "First" ∧ f0.type = 3 ∧ f0.offset = 0) ∧ (f1.name = "Many" ∧ f1.type = 3 ∧ f1.offset = 1) ∧ (f2.name = "Size" ∧ f2.type = 3 ∧ f2.offset = 2) ∧ f3.name = "Sum" ∧ f3.type = 42 ∧ f3.offset = 3 := by
    rcases L with _ | ⟨f0, _ | ⟨f1, _ | ⟨f2, _ | ⟨f3, _ | ⟨f4, r⟩⟩⟩⟩⟩
    · have := congrArg List.length hm; simp at this
    · have := congrArg List.length hm; simp at this
    · have := congrArg List.length hm; simp at this
    · have := congrArg List.length hm; simp at this
    · simp only [List.map_cons, List.map_nil, List.cons.injEq, Prod.mk.injEq, and_true] at hm
      exact ⟨f0, f1, f2, f3, rfl, hm.1, hm.2.1, hm.2.2.1, hm.2.2.2⟩
    · have := congrArg List.length hm
      simp at this
  rw [hL] at hf
  clear hm hL
  have e0 : ¬ f0.name = "_" := by rw [n0]; decide
  have e1 : ¬ f1.name = "_" := by rw [n1]; decide
  have e2 : ¬ f2.name = "_" := by rw [n2]; decide
  have e3 : ¬ f3.name = "_" := by rw [n3]; decide
  have hi : Tryz.prog.underlying 3 = some (.int .i64) := Tryz.underlying3
  have hg : Tryz.prog.underlying 42 = some (.array 32 5) := Tryz.underlying42
  have hsz : ∀ w, (sizeOf 42).run Tryz.prog w = .ok 32 w := fun w => by kernel_rfl
  have pi : ∀ (r : PT) (o : Nat) (x : Int) (w : World), (ptRow r).toArray[o]? = some (.int .i64 x) → (part 3 (ptRow r).toArray o).run Tryz.prog w = .ok (.int .i64 x) w := fun r o x w h => by simp [part, isAgg, run_underlying hi, h]
  have pd : ∀ (r : PT) (w : World), Dg r.2.2.2 → (part 42 (ptRow r).toArray 3).run Tryz.prog w = .ok (.agg (vals .u8 r.2.2.2).toArray) w := fun r w h => by simp [part, isAgg, run_underlying hg, hsz, ptRow_mid h]
  rw [run_equalIn_agg _ _ _ _ _ ht hh, hf]
  rw [eqf_step e0 (by rw [t0, g0]; exact pi p 0 _ _ (ptRow_get p).1) (by rw [t0, g0]; exact pi q 0 _ _ (ptRow_get q).1) (by rw [t0]; exact run_equalIn_int _ _ _ _ _ _ _ hi),
    eqf_step e1 (by rw [t1, g1]; exact pi p 1 _ _ (ptRow_get p).2.1) (by rw [t1, g1]; exact pi q 1 _ _ (ptRow_get q).2.1) (by rw [t1]; exact run_equalIn_int _ _ _ _ _ _ _ hi),
    eqf_step e2 (by rw [t2, g2]; exact pi p 2 _ _ (ptRow_get p).2.2) (by rw [t2, g2]; exact pi q 2 _ _ (ptRow_get q).2.2) (by rw [t2]; exact run_equalIn_int _ _ _ _ _ _ _ hi),
    eqf_step e3 (by rw [t3, g3]; exact pd p _ hp) (by rw [t3, g3]; exact pd q _ hq) (by rw [t3]; exact equalIn_numsD hg Tryz.underlying5 (fun w => by kernel_rfl) _ _ _ hp.1 hq.1 _), eqf_nil]
  rw [← part_decide]
  cases (p.1 == q.1)
  · rfl
  cases (p.2.1 == q.2.1)
  · rfl
  cases (p.2.2.1 == q.2.2.1)
  · rfl
  cases (p.2.2.2 == q.2.2.2) <;> rfl


end Go.Proofs.YtpebmmhokigglaaGreatDoor
