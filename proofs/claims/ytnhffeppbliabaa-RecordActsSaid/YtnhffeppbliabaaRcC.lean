/- Acts as they are recorded: the document's own bytes; an act as the document's. -/
import Derived.Test.YtnhffeppbliabaaRcB
import Derived.Test.YtnhffeppbliabaaCelF
import Derived.Test.YtnhffeppbliabaaHeldA
import Derived.Deep.RegionLaw
import Derived.Deep.RegionHeld3
namespace Go.Proofs.Ytnhffeppbliabaa
open Go.RowKit

set_option maxHeartbeats 1000000 in
set_option maxRecDepth 100000 in
theorem rdoc_any (k e a : Int) (v : Value) (d : List Nat) (w : World) (hr : Reads w .u8 v d) :
    Calls Try.prog 31 #[.agg #[.int .i64 k, .int .i64 e, .int .i64 a, v]] w fun r w' => r = .returned (.agg #[.int .i64 k, .int .i64 e, .int .i64 a, .string (S8 d)]) ∧ Below w.heap.size w w' := by
  obtain ⟨ao, cap, rfl, _, _, _⟩ := hr.val
  obtain ⟨W2, hW2⟩ : ∃ W2, W2 = (w.alloc (.cells #[.int .i64 k, .int .i64 e, .int .i64 a, .slice ao d.length cap] 62)).alloc (.cells #[.int .i64 0, .int .i64 0, .int .i64 0, .string ⟨#[]⟩] 66) := ⟨_, rfl⟩
  have hb2 : Below w.heap.size w W2 := by rw [hW2]; exact ((Below.refl _ _).alloc (Nat.le_refl _) _).alloc (by simp) _
  have q1 : (convert 29 9 (.slice ao d.length cap)).run Try.prog W2 = .ok (.string (S8 d)) W2 := conv_reads _ _ _ (hr.new hb2)
  have hx1 : W2.heap[w.heap.size]? = some (.cells #[.int .i64 k, .int .i64 e, .int .i64 a, .slice ao d.length cap] 62 (0, 0)) := by rw [hW2, Below.heap_alloc _ _ _ (by simp)]; exact heap_alloc_new _ _
  have hx2 : W2.heap[w.heap.size + 1]? = some (.cells #[.int .i64 0, .int .i64 0, .int .i64 0, .string ⟨#[]⟩] 66 (0, 0)) := by
    rw [hW2]
    have := heap_alloc_new (w.alloc (.cells #[.int .i64 k, .int .i64 e, .int .i64 a, .slice ao d.length cap] 62)) (.cells #[.int .i64 0, .int .i64 0, .int .i64 0, .string ⟨#[]⟩] 66)
    simpa using this
  obtain ⟨x0, x1, x2, x3⟩ : W2.cell? ⟨w.heap.size, 0, none⟩ = some (.int .i64 k) ∧ W2.cell? ⟨w.heap.size, 1, none⟩ = some (.int .i64 e) ∧ W2.cell? ⟨w.heap.size, 2, none⟩ = some (.int .i64 a) ∧ W2.cell? ⟨w.heap.size, 3, none⟩ = some (.slice ao d.length cap) :=
    ⟨by rw [cell_of_row _ _ 0 _ _ _ hx1]; rfl, by rw [cell_of_row _ _ 1 _ _ _ hx1]; rfl, by rw [cell_of_row _ _ 2 _ _ _ hx1]; rfl, by rw [cell_of_row _ _ 3 _ _ _ hx1]; rfl⟩
  have HBF : Hid (∀ a0 a1 a2 a3, Below w.heap.size w ((((W2.setCell ⟨w.heap.size + 1, 0, none⟩ a0).setCell ⟨w.heap.size + 1, 1, none⟩ a1).setCell ⟨w.heap.size + 1, 2, none⟩ a2).setCell ⟨w.heap.size + 1, 3, none⟩ a3)) := Lib.hid fun a0 a1 a2 a3 => ((((hb2.setCell (by simp) _).setCell (by simp) _).setCell (by simp) _).setCell (by simp) _)
  rw [hW2] at q1
  have HW2 := Lib.hid hW2
  generalize d.length = n at *
  clear hr hb2 hx1 hx2 hW2
  generalize S8 d = s at *
  go_enter Try.func31, Try.ntmps31
  go_wp2
  have hbw : Below w.heap.size w ((w.alloc (.cells #[.int .i64 k, .int .i64 e, .int .i64 a, .slice ao n cap] 62)).alloc (.cells #[.int .i64 k, .int .i64 e, .int .i64 a, .string s] 66)) := ((Below.refl _ _).alloc (Nat.le_refl _) _).alloc (by simp) _
  have hxw : ((w.alloc (.cells #[.int .i64 k, .int .i64 e, .int .i64 a, .slice ao n cap] 62)).alloc (.cells #[.int .i64 k, .int .i64 e, .int .i64 a, .string s] 66)).heap[w.heap.size + 1]? = some (.cells #[.int .i64 k, .int .i64 e, .int .i64 a, .string s] 66 (0, 0)) := by
    have := heap_alloc_new (w.alloc (.cells #[.int .i64 k, .int .i64 e, .int .i64 a, .slice ao n cap] 62)) (.cells #[.int .i64 k, .int .i64 e, .int .i64 a, .string s] 66)
    simpa using this
  have y0 := cell_of_row _ _ 0 _ _ _ hxw
  have y1 := cell_of_row _ _ 1 _ _ _ hxw
  have y2 := cell_of_row _ _ 2 _ _ _ hxw
  have y3 := cell_of_row _ _ 3 _ _ _ hxw
  refine bodyPost_ret (v := .agg #[.int .i64 k, .int .i64 e, .int .i64 a, .string s]) (by simp [results, Try.results31, go_sem, y0, y1, y2, y3]) rfl ⟨rfl, hbw⟩

set_option maxHeartbeats 4000000 in
set_option maxRecDepth 100000 in
theorem rrput_any (kn en an : Nat) (d : List Nat) (w : World) (hk : kn ≤ 5) (he : en ≤ 1099511627776) (ha : an ≤ 1048576) (hl : d.length ≤ 64) (h8 : ∀ y ∈ d, y < 256) :
    Calls Try.prog 36 #[.agg #[.int .i64 (kn : Int), .int .i64 (en : Int), .int .i64 (an : Int), .string (S8 d)]] w fun r w' => ∃ v', r = .returned v' ∧ Owns w' w.heap.size 5 .u8 v' (fr (rtext kn en an d)) ∧ Below w.heap.size w w' := by
  have hkw : IntKind.u64.wrap (kn : Int) = (kn : Int) := IntWalk.u64_in _ (by omega)
  have hew : IntKind.u64.wrap (en : Int) = (en : Int) := IntWalk.u64_in _ (by omega)
  have haw : IntKind.u64.wrap (an : Int) = (an : Int) := IntWalk.u64_in _ (by omega)
  have HUK : Hid (U64 kn) := Lib.hid (u64_of_le (by omega))
  have HUE : Hid (U64 en) := Lib.hid (u64_of_le (by omega))
  have HUA : Hid (U64 an) := Lib.hid (u64_of_le (by omega))
  have HL := Lib.hid hl
  have H8 := Lib.hid h8
  obtain ⟨s, hs⟩ : ∃ s, s = S8 d := ⟨_, rfl⟩
  rw [← hs]
  have HS := Lib.hid hs
  obtain ⟨W1, hW1⟩ : ∃ W1, W1 = w.alloc (.cells #[.int .i64 (kn : Int), .int .i64 (en : Int), .int .i64 (an : Int), .string s] 66) := ⟨_, rfl⟩
  have hb1 : Below w.heap.size w W1 := by rw [hW1]; exact (Below.refl _ _).alloc (Nat.le_refl _) _
  have hx1 : W1.heap[w.heap.size]? = some (.cells #[.int .i64 (kn : Int), .int .i64 (en : Int), .int .i64 (an : Int), .string s] 66 (0, 0)) := by rw [hW1]; exact heap_alloc_new _ _
  have HX : Hid (∀ W, Below W1.heap.size W1 W → W.cell? ⟨w.heap.size, 0, none⟩ = some (.int .i64 (kn : Int)) ∧ W.cell? ⟨w.heap.size, 1, none⟩ = some (.int .i64 (en : Int)) ∧ W.cell? ⟨w.heap.size, 2, none⟩ = some (.int .i64 (an : Int)) ∧ W.cell? ⟨w.heap.size, 3, none⟩ = some (.string s)) := Lib.hid fun W hb => by
    have h := (hb.block _ (Array.getElem?_eq_some_iff.1 hx1).1).trans hx1
    exact ⟨by rw [cell_of_row _ _ 0 _ _ _ h]; rfl, by rw [cell_of_row _ _ 1 _ _ _ h]; rfl, by rw [cell_of_row _ _ 2 _ _ _ h]; rfl, by rw [cell_of_row _ _ 3 _ _ _ h]; rfl⟩
  have HB1 := Lib.hid hb1
  have HK5 := Lib.hid hk
  obtain ⟨x0, x1, x2, x3⟩ := HX.out W1 (Below.refl _ _)
  have hd1 : Below W1.heap.size W1 W1.drew := ⟨rfl, rfl, rfl, Nat.le_refl _, fun _ _ => rfl⟩
  have HD1 := Lib.hid hd1
  have HRK := Lib.hid (refBytes_any kn W1.drew HUK.out)
  have HRE := Lib.hid (fun W => refBytes_any en W HUE.out)
  have HW1 := Lib.hid hW1
  clear hb1 hx1 hW1 hs hk he ha hl h8 hd1
  go_enter Try.func36, Try.ntmps36
  go_wp2_with fail
  rw [← HW1.out]
  go_region_held_law (fun w' => w'.cell? ⟨w.heap.size, 0, none⟩ = some (.int .i64 (kn : Int)) ∧ w'.cell? ⟨w.heap.size, 1, none⟩ = some (.int .i64 (en : Int))) (go_keep) (first
    | (refine step_app_reads (by rfl) _ _ _ (by rfl) W1.heap.size 5 (.int .u8 0) 1 Try.underlying29 Try.info5 rfl .u8 _ (enc kn) (by rfl) HO3.out _ (enc en) (by rfl) HR4.out (by decide) (by have h1 := enc_len10 HUK.out; have h2 := enc_len10 HUE.out; omega) HB14.out.size ?_
       intro v5 w5 ho5 hg5
       have HB15 : Hid (Below W1.heap.size W1 w5) := Lib.hid (HB14.out.grown hg5 HB14.out.size fun j hj => (HO3.out.lt j hj).1)
       obtain ⟨x0, x1, x2, x3⟩ := HX.out w5 HB15.out
       have HO5 := Lib.hid ho5
       clear ho5 hg5)
    | (go_at_call 75
       with_reducible refine HRK.out.mono ?_
       rintro r w3 ⟨v3, rfl, ho3, hb3⟩
       have HB13 : Hid (Below W1.heap.size W1 w3) := Lib.hid (HD1.out.trans (hb3.mono HD1.out.size))
       obtain ⟨x0, x1, x2, x3⟩ := HX.out w3 HB13.out
       have HOA := Lib.hid ho3
       clear ho3 hb3)
    | (go_at_call 75
       refine (HRE.out w3).mono ?_
       rintro r w4 ⟨v4, rfl, ho4, hb4⟩
       have HB14 : Hid (Below W1.heap.size W1 w4) := Lib.hid (HB13.out.trans (hb4.mono HB13.out.size))
       obtain ⟨x0, x1, x2, x3⟩ := HX.out w4 HB14.out
       have HO3 : Hid (Owns w4 W1.heap.size 5 .u8 v3 (enc kn)) := Lib.hid (HOA.out.below hb4 (Nat.le_refl _))
       have HR4 := Lib.hid ho4.reads
       clear ho4 hb4))
  by_cases h1 : kn ≤ 1
  · have HT : Hid (rtext kn en an d = enc kn ++ enc en) := Lib.hid (by unfold rtext; rw [if_neg (by omega), if_neg (by omega)]; simp)
    have p1 : ¬ (1 : Int) < (kn : Int) := by omega
    have p2 : ((kn : Int) == 2) = false := by simp; omega
    clear h1
    have HFR := Lib.hid (refFrame_any v5 (enc kn ++ enc en) w5 HO5.out.reads (by rw [← HT.out]; exact rtext_byte HUK.out HUE.out HUA.out H8.out HL.out) (by rw [← HT.out]; exact Nat.le_trans (rtext_le HUK.out HUE.out HUA.out HL.out) (by decide)))
    go_wp2_with fail
    refine HFR.out.mono ?_
    rintro r w9 ⟨v9, rfl, ho9, hb9⟩
    have HO9 : Hid (Owns w9 w.heap.size 5 .u8 v9 (fr (rtext kn en an d))) := Lib.hid (by
      rw [HT.out]
      exact ho9.mono (Nat.le_trans HB1.out.size HB15.out.size))
    have HB9 : Hid (Below w.heap.size w w9) := Lib.hid ((HB1.out.trans (HB15.out.mono HB1.out.size)).trans (hb9.mono (Nat.le_trans HB1.out.size HB15.out.size)))
    clear ho9 hb9
    go_wp2
    go_ret
    exact ⟨_, rfl, HO9.out, HB9.out⟩
  have p1 : (1 : Int) < (kn : Int) := by omega
  by_cases h2 : kn = 2
  rotate_left
  · have HT : Hid (rtext kn en an d = enc kn ++ (enc en ++ enc an)) := Lib.hid (by unfold rtext; rw [if_pos (by omega), if_neg h2]; simp)
    have p2 : ((kn : Int) == 2) = false := by simp; omega
    clear h1 h2
    have HRA := Lib.hid (refBytes_any an w5 HUA.out)
    go_wp2_with fail
    refine HRA.out.mono ?_
    rintro r w6 ⟨v6, rfl, ho6, hb6⟩
    have HB16 : Hid (Below W1.heap.size W1 w6) := Lib.hid (HB15.out.trans (hb6.mono HB15.out.size))
    have HO6 : Hid (Owns w6 W1.heap.size 5 .u8 v5 (enc kn ++ enc en)) := Lib.hid (HO5.out.below hb6 (Nat.le_refl _))
    have HR6 := Lib.hid ho6.reads
    clear ho6 hb6
    go_wp2_with (at_builtin; go_must (refine wpList_app _ rfl _ _ 29 rfl W1.heap.size 5 (.int .u8 0) 1 Try.underlying29 Try.info5 rfl .u8 _ (enc kn ++ enc en) rfl HO6.out _ (enc an) rfl HR6.out (by decide) (by have h1 := enc_len10 HUK.out; have h2 := enc_len10 HUE.out; have h3 := enc_len10 HUA.out; simp; omega) HB16.out.size ?_))
    intro v7 w7 ho7 hg7
    have HB17 : Hid (Below W1.heap.size W1 w7) := Lib.hid (HB16.out.grown hg7 HB16.out.size fun j hj => (HO6.out.lt j hj).1)
    have HO7 := Lib.hid ho7
    obtain ⟨x0, x1, x2, x3⟩ := HX.out w7 HB17.out
    clear ho7 hg7
    have HFR := Lib.hid (refFrame_any v7 (enc kn ++ (enc en ++ enc an)) w7 HO7.out.reads (by rw [← HT.out]; exact rtext_byte HUK.out HUE.out HUA.out H8.out HL.out) (by rw [← HT.out]; exact Nat.le_trans (rtext_le HUK.out HUE.out HUA.out HL.out) (by decide)))
    go_wp2_with fail
    refine HFR.out.mono ?_
    rintro r w9 ⟨v9, rfl, ho9, hb9⟩
    have HO9 : Hid (Owns w9 w.heap.size 5 .u8 v9 (fr (rtext kn en an d))) := Lib.hid (by
      rw [HT.out]
      exact ho9.mono (Nat.le_trans HB1.out.size HB17.out.size))
    have HB9 : Hid (Below w.heap.size w w9) := Lib.hid ((HB1.out.trans (HB17.out.mono HB1.out.size)).trans (hb9.mono (Nat.le_trans HB1.out.size HB17.out.size)))
    clear ho9 hb9
    go_wp2
    go_ret
    exact ⟨_, rfl, HO9.out, HB9.out⟩
  · have HT : Hid (rtext kn en an d = enc kn ++ (enc en ++ (enc an ++ (enc d.length ++ d)))) := Lib.hid (by unfold rtext; rw [if_pos (by omega), if_pos h2]; simp)
    have p2 : ((kn : Int) == 2) = true := by simp [h2]
    clear h1 h2
    have HRA := Lib.hid (refBytes_any an w5 HUA.out)
    go_wp2_with fail
    refine HRA.out.mono ?_
    rintro r w6 ⟨v6, rfl, ho6, hb6⟩
    have HB16 : Hid (Below W1.heap.size W1 w6) := Lib.hid (HB15.out.trans (hb6.mono HB15.out.size))
    have HO6 : Hid (Owns w6 W1.heap.size 5 .u8 v5 (enc kn ++ enc en)) := Lib.hid (HO5.out.below hb6 (Nat.le_refl _))
    have HR6 := Lib.hid ho6.reads
    clear ho6 hb6
    go_wp2_with (at_builtin; go_must (refine wpList_app _ rfl _ _ 29 rfl W1.heap.size 5 (.int .u8 0) 1 Try.underlying29 Try.info5 rfl .u8 _ (enc kn ++ enc en) rfl HO6.out _ (enc an) rfl HR6.out (by decide) (by have h1 := enc_len10 HUK.out; have h2 := enc_len10 HUE.out; have h3 := enc_len10 HUA.out; simp; omega) HB16.out.size ?_))
    intro v7 w7 ho7 hg7
    have HB17 : Hid (Below W1.heap.size W1 w7) := Lib.hid (HB16.out.grown hg7 HB16.out.size fun j hj => (HO6.out.lt j hj).1)
    have HO7 := Lib.hid ho7
    obtain ⟨x0, x1, x2, x3⟩ := HX.out w7 HB17.out
    clear ho7 hg7
    have hcv := Lib.run_convert_string_bytes (P := Try.prog) w7 9 29 5 (S8 d) Try.underlying9 Try.underlying29 Try.underlying5
    have hrd := bytesWorld_reads w7 5 d H8.out (by have := HL.out; simp only [maxLen]; omega)
    have hbw := Lib.bytesWorld_below w7 5 (S8 d)
    obtain ⟨BW, hBW⟩ : ∃ BW, BW = Lib.bytesWorld w7 5 (S8 d) := ⟨_, rfl⟩
    rw [← hBW] at hcv hrd hbw
    generalize Value.slice (some ⟨w7.heap.size, 0, none⟩) (S8 d).size (grownCap w7 (S8 d).size 0 5) = sv at hcv hrd
    rw [← HS.out] at hcv
    have HR8 := Lib.hid hrd
    have HB8 : Hid (Below W1.heap.size W1 BW) := Lib.hid (HB17.out.trans (hbw.mono HB17.out.size))
    have HO8 : Hid (Owns BW W1.heap.size 5 .u8 v7 (enc kn ++ (enc en ++ enc an))) := Lib.hid (HO7.out.below hbw (Nat.le_refl _))
    have HTX := Lib.hid (refText_any sv d BW hrd (by have := HL.out; omega))
    clear hrd hbw hBW
    go_wp2_with fail
    refine HTX.out.mono ?_
    rintro r w10 ⟨v10, rfl, ho10, hb10⟩
    have HB10 : Hid (Below W1.heap.size W1 w10) := Lib.hid (HB8.out.trans (hb10.mono HB8.out.size))
    have HO10 : Hid (Owns w10 W1.heap.size 5 .u8 v7 (enc kn ++ (enc en ++ enc an))) := Lib.hid (HO8.out.below hb10 (Nat.le_refl _))
    have HR10 := Lib.hid ho10.reads
    clear ho10 hb10 hcv
    go_wp2_with (at_builtin; go_must (refine wpList_app _ rfl _ _ 29 rfl W1.heap.size 5 (.int .u8 0) 1 Try.underlying29 Try.info5 rfl .u8 _ (enc kn ++ (enc en ++ enc an)) rfl HO10.out _ (enc d.length ++ d) rfl HR10.out (by decide) (by have h1 := enc_len10 HUK.out; have h2 := enc_len10 HUE.out; have h3 := enc_len10 HUA.out; have h4 := enc_len10 (u64_of_le (n := d.length) (by have := HL.out; omega)); have := HL.out; simp; omega) HB10.out.size ?_))
    intro v11 w11 ho11 hg11
    have HB11 : Hid (Below W1.heap.size W1 w11) := Lib.hid (HB10.out.grown hg11 HB10.out.size fun j hj => (HO10.out.lt j hj).1)
    have HO11 := Lib.hid ho11
    clear ho11 hg11
    have HFR := Lib.hid (refFrame_any v11 (enc kn ++ (enc en ++ (enc an ++ (enc d.length ++ d)))) w11 HO11.out.reads (by rw [← HT.out]; exact rtext_byte HUK.out HUE.out HUA.out H8.out HL.out) (by rw [← HT.out]; exact Nat.le_trans (rtext_le HUK.out HUE.out HUA.out HL.out) (by decide)))
    go_wp2_with fail
    refine HFR.out.mono ?_
    rintro r w9 ⟨v9, rfl, ho9, hb9⟩
    have HO9 : Hid (Owns w9 w.heap.size 5 .u8 v9 (fr (rtext kn en an d))) := Lib.hid (by
      rw [HT.out]
      exact ho9.mono (Nat.le_trans HB1.out.size HB11.out.size))
    have HB9 : Hid (Below w.heap.size w w9) := Lib.hid ((HB1.out.trans (HB11.out.mono HB1.out.size)).trans (hb9.mono (Nat.le_trans HB1.out.size HB11.out.size)))
    clear ho9 hb9
    go_wp2
    go_ret
    exact ⟨_, rfl, HO9.out, HB9.out⟩
end Go.Proofs.Ytnhffeppbliabaa
