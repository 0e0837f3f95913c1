/- The contract of the document's own Bytes of a cell. -/
import Derived.Test.YtiaijpknnomlnaaGreatCaP
import Derived.Test.YtiaijpknnomlnaaGreatPrA
import Derived.Lib.AtoiErrMem
namespace Go.Proofs.YtiaijpknnomlnaaGreat
open Go.RowKit

/-- What a string's bytes are as a new row. -/
theorem bytesWorld_reads (w : World) (e : TypeId) (d : List Nat) (hd : ∀ y ∈ d, y < 256) (hl : d.length ≤ maxLen) :
    Reads (Lib.bytesWorld w e (S8 d)) .u8 (.slice (some ⟨w.heap.size, 0, none⟩) (S8 d).size (grownCap w (S8 d).size 0 e)) d := by
  refine ⟨some ⟨w.heap.size, 0, none⟩, grownCap w (S8 d).size 0 e, ?_, ?_, ?_, ?_, .inr ⟨w.heap.size, 0, rfl, by rw [Lib.bytesWorld_size]; omega, fun i hi => ?_⟩⟩
  · rw [S8_size]
  · have := grownCap_ge w (S8 d).size 0 e
    rw [S8_size] at this ⊢
    exact this
  · exact grownCap_le_maxLen _ _ _ _ (by rw [S8_size]; exact hl)
  · intro h
    cases h
  rw [Nat.zero_add, Lib.bytesWorld_cell _ _ _ _ (by rw [S8_size]; exact hi), S8_list]
  have hy : d.getD i 0 < 256 := by
    rw [show d.getD i 0 = d[i] by simp [List.getD, hi]]
    exact hd _ (List.getElem_mem hi)
  have : (((d.map (fun n : Nat => (n : Int))).map (fun n : Int => UInt8.ofNat n.toNat)).getD i 0).toNat = d.getD i 0 := by
    simp [List.getD, hi] at hy ⊢
    omega
  rw [this]

/-- A literal of one byte. -/
theorem owns_one8 (w : World) (base : Nat) (e : TypeId) (n : Nat) (hb : base ≤ w.heap.size) : Owns (w.alloc (.cells #[.int .u8 (n : Int)] e)) base e .u8 (.slice (some ⟨w.heap.size, 0, none⟩) 1 1) [n] :=
  World.ownsRow_lit w #[.int .u8 (n : Int)] 1 hb (by simp [maxLen]) rfl

set_option maxHeartbeats 400000 in
set_option maxRecDepth 100000 in
/-- The document's own Bytes of a cell. -/
theorem rcbytes_any (k : Nat) (d : List Nat) (w : World) (hk : k < 4) (hd : ∀ y ∈ d, y < 256) (hl : d.length ≤ 1000) :
    Calls Tryz.prog 63 #[.agg #[.int .i64 (k : Int), .string (S8 d)]] w fun e w' => ∃ v', e = .returned v' ∧ Owns w' w.heap.size 5 .u8 v' (cbytes (k, d)) ∧ Below w.heap.size w w' := by
  obtain ⟨g0, g1, g2, g3⟩ := blk2 (heap_alloc_new w (.cells #[.int .i64 (k : Int), .string (S8 d)] 89))
  by_cases h1 : k = 1
  · subst h1
    have hcb : cbytes (1, d) = [1] ++ (enc d.length ++ d) := by simp [cbytes, enc_small]
    rw [hcb]
    have hcv := Lib.run_convert_string_bytes (P := Tryz.prog) ((w.alloc (.cells #[.int .i64 1, .string (S8 d)] 89)).alloc (.cells #[.int .u8 1] 5)) 9 22 5 (S8 d) Tryz.underlying9 Tryz.underlying22 Tryz.underlying5
    have hrd := bytesWorld_reads ((w.alloc (.cells #[.int .i64 1, .string (S8 d)] 89)).alloc (.cells #[.int .u8 1] 5)) 5 d hd (by simp only [maxLen]; omega)
    have how := owns_one8 (w.alloc (.cells #[.int .i64 1, .string (S8 d)] 89)) w.heap.size 5 1 (by simp)
    rw [show (w.alloc (.cells #[.int .i64 1, .string (S8 d)] 89)).heap.size = w.heap.size + 1 by simp] at how
    have hbw := Lib.bytesWorld_below ((w.alloc (.cells #[.int .i64 1, .string (S8 d)] 89)).alloc (.cells #[.int .u8 1] 5)) 5 (S8 d)
    have h0 : Below w.heap.size w ((w.alloc (.cells #[.int .i64 1, .string (S8 d)] 89)).alloc (.cells #[.int .u8 1] 5)) := ((Below.refl _ _).alloc (Nat.le_refl _) _).alloc (by simp) _
    obtain ⟨BW, hBW⟩ : ∃ BW, BW = Lib.bytesWorld ((w.alloc (.cells #[.int .i64 1, .string (S8 d)] 89)).alloc (.cells #[.int .u8 1] 5)) 5 (S8 d) := ⟨_, rfl⟩
    rw [← hBW] at hcv hrd hbw
    generalize Value.slice (some ⟨((w.alloc (.cells #[.int .i64 1, .string (S8 d)] 89)).alloc (.cells #[.int .u8 1] 5)).heap.size, 0, none⟩) (S8 d).size (grownCap ((w.alloc (.cells #[.int .i64 1, .string (S8 d)] 89)).alloc (.cells #[.int .u8 1] 5)) (S8 d).size 0 5) = sv at hcv hrd
    clear hBW
    have HO := Lib.hid (how.below hbw (Nat.le_refl _))
    have HB := Lib.hid (h0.trans (hbw.mono h0.size))
    have HR := Lib.hid hrd
    have hcl := enc_len10 (u64_of_le (n := d.length) (by omega))
    clear how hbw h0 hrd
    go_enter Tryz.func63, Tryz.ntmps63
    go_wp2_with fail
    refine (refText_any sv d BW HR.out (by omega)).mono ?_
    rintro e w1 ⟨v1, rfl, ho, hb⟩
    go_wp2_with (at_builtin; go_must (refine wpList_app _ rfl _ _ 22 rfl w.heap.size 5 (.int .u8 0) 1 Tryz.underlying22 Tryz.info5 rfl .u8 _ [1] rfl (HO.out.below hb (Nat.le_refl _)) _ (enc d.length ++ d) rfl ho.reads (by decide) ?c1 ?c3 ?_))
    case c1 => simp only [List.length_append, List.length_cons, List.length_nil]; omega
    case c3 => exact Nat.le_trans HB.out.size hb.size
    intro v' w2 ho2 hg
    go_wp2
    go_ret
    exact ⟨_, rfl, ho2, (HB.out.trans (hb.mono HB.out.size)).grown hg (Nat.le_trans HB.out.size hb.size) (fun j hj => (HO.out.lt j hj).1)⟩
  · have hcb : cbytes (k, d) = [k] := by simp [cbytes, h1, enc_small (show k < 128 by omega)]
    rw [hcb]
    have hki : ((k : Int) == 1) = false := by rw [beq_eq_false_iff_ne]; omega
    have hkw : IntKind.u8.wrap (k : Int) = (k : Int) := by
      have : k = 0 ∨ k = 2 ∨ k = 3 := by omega
      rcases this with rfl | rfl | rfl <;> rfl
    have how := owns_one8 (w.alloc (.cells #[.int .i64 (k : Int), .string (S8 d)] 89)) w.heap.size 5 k (by simp)
    rw [show (w.alloc (.cells #[.int .i64 (k : Int), .string (S8 d)] 89)).heap.size = w.heap.size + 1 by simp] at how
    have HO := Lib.hid how
    clear how
    go_enter Tryz.func63, Tryz.ntmps63
    go_wp2
    go_ret
    exact ⟨_, rfl, HO.out, ((Below.refl _ _).alloc (Nat.le_refl _) _).alloc (by simp) _⟩

end Go.Proofs.YtiaijpknnomlnaaGreat
