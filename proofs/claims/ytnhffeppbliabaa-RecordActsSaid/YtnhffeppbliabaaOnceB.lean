/- sync.Once's slow road and Do, one goroutine, over any function that leaves Once's own cells as they are. -/
import Derived.Test.YtnhffeppbliabaaOnceA
namespace Go.Proofs.Ytnhffeppbliabaa
open Go.RowKit

/-- Once's cells: not done, the lock in the state l. -/
structure Undone (w : World) (b off : Nat) (l : Int) : Prop where
  done : w.cell? ⟨b, off, none⟩ = some (.int .u32 0)
  lock : w.cell? ⟨b, off + 1, none⟩ = some (.int .i32 l)
  fdone : w.frozen? ⟨b, off, none⟩ = false
  flock : w.frozen? ⟨b, off + 1, none⟩ = false

set_option maxRecDepth 100000 in
set_option maxHeartbeats 1600000 in
theorem slow_any (b off K : Nat) (caps : Array Value) (hK : ∀ (args : Array Value) (w : World), (callFunc K args).run Try.prog w = .ok (.enter K args) w) (R : World → Prop) (w : World) (h : Undone w b off 0)
    (hf : Calls Try.prog K caps (w.setCell ⟨b, off + 1, none⟩ (.int .i32 1)) fun e w' => e = .returned (.tuple #[]) ∧ Undone w' b off 1 ∧ R w') :
    Calls Try.prog 144 #[.pointer (some ⟨b, off, none⟩), .func (.func K) caps #[]] w fun e w' => e = .returned (.tuple #[]) ∧
      ∃ w2, R w2 ∧ Undone w2 b off 1 ∧ w' = (w2.drew.setCell ⟨b, off, none⟩ (.int .u32 1)).setCell ⟨b, off + 1, none⟩ (.int .i32 0) := by
  obtain ⟨h0, h1, f0, f1⟩ := h
  have hl := run_call_load (P := Try.prog) Try.func145 (by kernel_rfl) (by kernel_rfl) (by kernel_rfl) .u32 (by kernel_rfl) (w := w.setCell ⟨b, off + 1, none⟩ (.int .i32 1)) (a := ⟨b, off, none⟩) (x := 0) ((World.cell?_setCell_other _ ⟨b, off + 1, none⟩ ⟨b, off, none⟩ _ (by simp)).trans h0)
  have hnot : ∀ (x : Bool) (w : World), (Op.unary .not (.bool x)).run Try.prog w = .ok (.bool (!x)) w := fun _ _ => rfl
  have HF := Lib.hid hf; clear hf
  go_enter_defers Try.func144, Try.ntmps144
  go_wp2_with (go_at_call 146; refine (lock_free ⟨b, off + 1, none⟩ _ (by go_simp) (by go_simp)).mono ?_; rintro e w' ⟨rfl, rfl⟩)
  go_wp2
  refine HF.out.mono ?_
  rintro e w2 ⟨rfl, hu, hr⟩
  obtain ⟨g0, g1, k0, k1⟩ := hu
  have hu : Undone w2 b off 1 := ⟨g0, g1, k0, k1⟩
  go_wp2
  refine leaves_cons (f := 148) (args := #[.pointer (some ⟨b, off, none⟩), .bool true]) (by simp) (by simp [go_sem]) ?_
  refine (store_deferred ⟨b, off, none⟩ (.int .u32 0) .returning _ g0 (by simp [k0])).mono ?_
  rintro e u' w'' ⟨rfl, rfl, rfl⟩
  refine leaves_cons (f := 147) (args := #[.pointer (some ⟨b, off + 1, none⟩)]) (by simp [settle]) (by simp [go_sem]) ?_
  refine (unlock_deferred ⟨b, off + 1, none⟩ _ _ ?_ (by simp [k1])).mono ?_
  · refine (World.cell?_setCell_other _ ⟨b, off, none⟩ ⟨b, off + 1, none⟩ _ (by simp)).trans ?_
    rw [World.cell?_drew]
    exact g1
  rintro e u' w'' ⟨rfl, rfl, rfl⟩
  simp [Leaves, settle, results, Try.results144]
  exact ⟨w2, hr, hu, rfl⟩

set_option maxRecDepth 100000 in
set_option maxHeartbeats 1600000 in
/-- Do, not yet done, the lock free: the function is called, once; its mark is set; the lock is free again. -/
theorem do_first (b off K : Nat) (caps : Array Value) (hK : ∀ (args : Array Value) (w : World), (callFunc K args).run Try.prog w = .ok (.enter K args) w) (R : World → Prop) (w : World) (h : Undone w b off 0)
    (hf : Calls Try.prog K caps (w.setCell ⟨b, off + 1, none⟩ (.int .i32 1)) fun e w' => e = .returned (.tuple #[]) ∧ Undone w' b off 1 ∧ R w') :
    Calls Try.prog 141 #[.pointer (some ⟨b, off, none⟩), .func (.func K) caps #[]] w fun e w' => e = .returned (.tuple #[]) ∧
      ∃ w2, R w2 ∧ Undone w2 b off 1 ∧ w' = (w2.drew.setCell ⟨b, off, none⟩ (.int .u32 1)).setCell ⟨b, off + 1, none⟩ (.int .i32 0) := by
  have h0 := h.done
  have hl := run_call_load (P := Try.prog) Try.func145 (by kernel_rfl) (by kernel_rfl) (by kernel_rfl) .u32 (by kernel_rfl) h0
  have hnot : ∀ (x : Bool) (w : World), (Op.unary .not (.bool x)).run Try.prog w = .ok (.bool (!x)) w := fun _ _ => rfl
  have HF := Lib.hid hf; clear hf
  have HH := Lib.hid h; clear h
  go_enter Try.func141, Try.ntmps141
  go_wp2_with (first | (go_at_call 144; refine (slow_any b off K caps hK R _ HH.out HF.out).mono ?_; rintro e w' ⟨rfl, w2, hr, hu, rfl⟩) | (go_at_call 143; go_in))
  go_end0
  exact ⟨rfl, w2, hr, hu, rfl⟩

/-- Do, done already: the function is not called. -/
theorem do_done (a : Addr) (d : Int) (hd : ¬ d = 0) (fv : Value) (w : World) (h0 : w.cell? a = some (.int .u32 d)) :
    Calls Try.prog 141 #[.pointer (some a), fv] w fun e w' => e = .returned (.tuple #[]) ∧ w' = w := by
  have hl := run_call_load (P := Try.prog) Try.func145 (by kernel_rfl) (by kernel_rfl) (by kernel_rfl) .u32 (by kernel_rfl) h0
  have hnot : ∀ (x : Bool) (w : World), (Op.unary .not (.bool x)).run Try.prog w = .ok (.bool (!x)) w := fun _ _ => rfl
  have hd' : (d != 0) = true := by simp [hd]
  go_enter Try.func141, Try.ntmps141
  go_wp2
  go_end0
  exact ⟨rfl, rfl⟩

end Go.Proofs.Ytnhffeppbliabaa
