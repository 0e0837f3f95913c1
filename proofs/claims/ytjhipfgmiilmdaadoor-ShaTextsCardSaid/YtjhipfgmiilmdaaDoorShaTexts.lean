/- ShaTexts, walked. -/
import Derived.Test.YtjhipfgmiilmdaaDoorShaTm
import Derived.Test.YtjhipfgmiilmdaaDoorShaL
import Derived.Test.YtjhipfgmiilmdaaDoorNumA
namespace Go.Proofs.YtjhipfgmiilmdaaDoor
open Go.RowKit

/-- What both say of a text. -/
def Res (s : ByteArray) (Z : List Nat) (n : Nat) : Prop := (OkS s ∧ Z = rwn (dgt s) 32 ∧ n = 0) ∨ (¬ OkS s ∧ Z = List.replicate 32 0 ∧ n = 2)
theorem Res.len {s : ByteArray} {Z : List Nat} {n : Nat} (h : Res s Z n) : Z.length = 32 := by
  rcases h with ⟨_, rfl, _⟩ | ⟨_, rfl, _⟩
  · exact rwn_len _ _
  · simp
theorem Res.same {s : ByteArray} {Z Z' : List Nat} {n n' : Nat} (h : Res s Z n) (h' : Res s Z' n') : Z' = Z ∧ n' = n := by
  rcases h with ⟨h1, rfl, rfl⟩ | ⟨h1, rfl, rfl⟩ <;> rcases h' with ⟨h2, rfl, rfl⟩ | ⟨h2, rfl, rfl⟩
  · exact ⟨rfl, rfl⟩
  · exact absurd h1 h2
  · exact absurd h2 h1
  · exact ⟨rfl, rfl⟩
theorem parse_res (s : ByteArray) (w : World) :
    Calls Tryd.prog 21 #[.string s] w fun e w' => ∃ Z n, Res s Z n ∧ e = .returned (.tuple #[.agg (vals .u8 Z).toArray, errV n]) ∧ Below w.heap.size w w' := by
  refine (parse_any s w).mono ?_
  rintro e w' ⟨⟨h, rfl⟩ | ⟨h, rfl⟩, hb⟩
  · exact ⟨_, 0, .inl ⟨h, rfl, rfl⟩, rfl, hb⟩
  · exact ⟨_, 2, .inr ⟨h, rfl, rfl⟩, by rw [zero_vals]; rfl, hb⟩
theorem refParse_res (s : ByteArray) (w : World) :
    Calls Tryd.prog 22 #[.string s] w fun e w' => ∃ Z n, Res s Z n ∧ e = .returned (.tuple #[.agg (vals .u8 Z).toArray, .int .i64 ((n : Nat) : Int)]) ∧ Below w.heap.size w w' := by
  refine (refParse_any s w).mono ?_
  rintro e w' ⟨⟨h, rfl⟩ | ⟨h, rfl⟩, hb⟩
  · exact ⟨_, 0, .inl ⟨h, rfl, rfl⟩, rfl, hb⟩
  · exact ⟨_, 2, .inr ⟨h, rfl, rfl⟩, by rw [zero_vals]; rfl, hb⟩

theorem wpList_load_rowG {P : Program} {ops : Array Oper} {rest : List Oper} {o : Oper} {a : Act} {w : World} {Q : Exit → Act → World → Prop} (hw : Region.wanted o (yielded ops a.tmps) = true) (ty : TypeId) (x : Operand) (ho : o.op = .load ty x)
    (g : Nat) (hx : a.eval x = .pointer (some ⟨g, 0, none⟩)) (t : TypeId) (cs : Array Value) (fr : Nat × Nat) (d : TypeDesc) (hg : w.heap[g]? = some (.cells cs t fr))
    (hu : P.underlying ty = some d) (hd : (match d with | .struct _ | .array _ _ => true | _ => false) = true) (hi : (P.info? ty).map (·.size) = some cs.size)
    (h : wpList P ops Q rest (a.put o.dst (.agg cs)) w) : wpList P ops Q (o :: rest) a w :=
  wpList_step fun _ hK => by rw [if_pos hw]; exact wp_load_row ty x ho g hx t cs fr d hg hu hd hi (hK _ _ h)

/-- A box laid and written. -/
theorem put_new (W : World) (z A : Array Value) (t : TypeId) : ((W.alloc (.cells z t)).setRow W.heap.size A).heap[W.heap.size]? = some (.cells A t (0, 0)) ∧ Below W.heap.size W ((W.alloc (.cells z t)).setRow W.heap.size A) ∧ W.heap.size + 1 ≤ ((W.alloc (.cells z t)).setRow W.heap.size A).heap.size :=
  ⟨setRow_heap _ _ _ _ _ _ (heap_alloc_new _ _), ((Below.refl _ _).alloc (Nat.le_refl _) _).trans ⟨rfl, rfl, rfl, by simp [World.setRow], fun k hk => setRow_other _ _ k _ (by omega)⟩, by simp [World.setRow]⟩

theorem zsz (Z : List Nat) (h : Z.length = 32) : zeros32l.size = (vals .u8 Z).toArray.size := by
  have h2 : (vals .u8 Z).toArray.size = 32 := by rw [List.size_toArray, vals_length, h]
  rw [h2]
  rfl

set_option maxHeartbeats 4000000 in
set_option maxRecDepth 100000 in
theorem texts_walk (B : List Nat) (s : ByteArray) (w : World) (hB : B.length = 32) (hBb : ∀ y ∈ B, y < 256) (hld : Laid w) :
    Calls Tryd.prog 5 #[.agg (vals .u8 B).toArray, .string s] w fun e w' => e = .returned (.bool true) ∧ Below w.heap.size w w' := by
  obtain ⟨W0, hW0⟩ : ∃ W0, W0 = w.alloc (.cells (vals .u8 B).toArray 23) := ⟨_, rfl⟩
  have hb0 : Below w.heap.size w W0 := by rw [hW0]; exact (Below.refl _ _).alloc (Nat.le_refl _) _
  have hs0 : W0.heap.size = w.heap.size + 1 := by rw [hW0]; simp
  have hx0 : W0.heap[w.heap.size]? = some (.cells (vals .u8 B).toArray 23 (0, 0)) := by rw [hW0]; exact heap_alloc_new _ _
  have hl0 := hld.next hb0
  have HW0 := Lib.hid hW0
  have hAs : ∀ Z : List Nat, Z.length = 32 → ∀ t, (Tryd.prog.info? t).map (·.size) = some 32 → (Tryd.prog.info? t).map (·.size) = some (vals .u8 Z).toArray.size := fun Z hZ t h => by rw [h, List.size_toArray, vals_length, hZ]
  have i23 : (Tryd.prog.info? 23).map (·.size) = some 32 := by kernel_rfl
  have i28 : (Tryd.prog.info? 28).map (·.size) = some 32 := by kernel_rfl
  have i29 : (Tryd.prog.info? 29).map (·.size) = some 32 := by kernel_rfl
  have a23 := hAs B hB _ i23
  have a29 := hAs B hB _ i29
  have HAS := Lib.hid hAs
  have HI28 := Lib.hid i28
  have HI29 := Lib.hid i29
  have A23 := Lib.hid a23
  have A29 := Lib.hid a29
  clear hW0 hAs i23 i28 i29 a23 a29
  go_enter Tryd.func5, Tryd.ntmps5
  go_wp2_with fail
  rw [← HW0.out]
  refine (alive3_any _ hl0).mono ?_
  rintro e w1 ⟨rfl, hb1⟩
  have HX1 := Lib.hid ((hb1.block _ (by omega)).trans hx0)
  have HB1 := Lib.hid (hb0.trans (hb1.mono (by omega)))
  have HS1 : Hid (w.heap.size + 1 ≤ w1.heap.size) := Lib.hid (by have := hb1.size; omega)
  clear hb1 hb0 hl0 hx0 hs0 HW0
  by_cases hlen : (s.size : Int) > 200
  · go_wp2
    go_ret
    exact ⟨rfl, HB1.out⟩
  go_wp2_with ((with_reducible show wpList _ _ _ (Oper.mk (some 17) _ _ _ _ _ :: _) _ _); go_must (refine wpList_load_row rfl 23 (.tmp 2) rfl w.heap.size rfl _ (vals .u8 B).toArray _ _ HX1.out Tryd.underlying23 rfl A23.out ?_))
  refine (hex_any B _ hBb hB).mono ?_
  rintro e w2 ⟨rfl, hb2⟩
  have HX2 := Lib.hid ((hb2.block _ (by have := HS1.out; omega)).trans HX1.out)
  have HB2 := Lib.hid (HB1.out.trans (hb2.mono HB1.out.size))
  have HS2 : Hid (w.heap.size + 1 ≤ w2.heap.size) := Lib.hid (by have := HS1.out; have := hb2.size; omega)
  clear hb2 HX1 HB1 HS1
  go_wp2_with fail
  refine (parse_res _ _).mono ?_
  rintro e w3 ⟨Z0, n0, hres0, rfl, hb3⟩
  have HOK := okS_hex B hB hBb
  have hr0 : Z0 = B ∧ n0 = 0 := by
    rcases hres0 with ⟨_, h1, h2⟩ | ⟨h1, _⟩
    · exact ⟨h1.trans HOK.2, h2⟩
    · exact absurd HOK.1 h1
  rw [hr0.1, hr0.2, errV_zero]
  clear hres0 HOK hr0
  have HX3 := Lib.hid ((hb3.block _ (by have := HS2.out; omega)).trans HX2.out)
  have HB3 := Lib.hid (HB2.out.trans (hb3.mono HB2.out.size))
  have HS3 : Hid (w.heap.size + 1 ≤ w3.heap.size) := Lib.hid (by have := HS2.out; have := hb3.size; omega)
  clear hb3 HX2 HB2 HS2
  go_wp2_with ((with_reducible show wpList _ _ _ (Oper.mk none (Op.store _ (Operand.tmp 6) _) _ _ _ _ :: _) _ _); go_must (refine wpList_store_row rfl 29 (.tmp 6) (.tmp 22) rfl w3.heap.size (vals .u8 B).toArray rfl rfl _ _ (heap_alloc_new _ _) A29.out (zsz _ hB) (row_one _ _) ?_; have hp := put_new w3 zeros32l (vals .u8 B).toArray 29; unfold zeros32l at hp; generalize World.setRow _ _ _ = w3' at hp ⊢; have HP6 := Lib.hid hp; clear hp))
  refine (parse_res s _).mono ?_
  rintro e w4 ⟨Z, n, hres, rfl, hb4⟩
  have hZ := hres.len
  have HRES := Lib.hid hres
  have AZ29 := Lib.hid (HAS.out Z hZ _ HI29.out)
  have AZ28 := Lib.hid (HAS.out Z hZ _ HI28.out)
  obtain ⟨q1, q2, q3⟩ := HP6.out
  have HY4 := Lib.hid ((hb4.block _ (by omega)).trans q1)
  have HX4 := Lib.hid ((hb4.block _ (by have := HS3.out; omega)).trans ((q2.block _ (by have := HS3.out; omega)).trans HX3.out))
  have HB4 : Hid (Below w3.heap.size w3 w4) := Lib.hid (q2.trans (hb4.mono q2.size))
  have HS4 : Hid (w3.heap.size + 1 ≤ w4.heap.size) := Lib.hid (by have := hb4.size; omega)
  clear hres q1 q2 q3 hb4 HP6 HX3
  go_wp2_with ((with_reducible show wpList _ _ _ (Oper.mk none (Op.store _ (Operand.tmp 8) _) _ _ _ _ :: _) _ _); go_must (refine wpList_store_row rfl 29 (.tmp 8) (.tmp 27) rfl w4.heap.size (vals .u8 Z).toArray rfl rfl _ _ (heap_alloc_new _ _) AZ29.out (zsz _ hZ) (row_one _ _) ?_; have hp := put_new w4 zeros32l (vals .u8 Z).toArray 29; unfold zeros32l at hp; generalize World.setRow _ _ _ = w4' at hp ⊢; have HP8 := Lib.hid hp; clear hp))
  refine (refParse_res s _).mono ?_
  rintro e w5 ⟨Z', n', hres', rfl, hb5⟩
  obtain ⟨k1, k2⟩ := HRES.out.same hres'
  rw [k1, k2]
  clear hres' k1 k2
  obtain ⟨q1, q2, q3⟩ := HP8.out
  have HV5 := Lib.hid ((hb5.block _ (by omega)).trans q1)
  have HB5 : Hid (Below w4.heap.size w4 w5) := Lib.hid (q2.trans (hb5.mono q2.size))
  have HS5 : Hid (w4.heap.size + 1 ≤ w5.heap.size) := Lib.hid (by have := hb5.size; omega)
  have HY5 := Lib.hid ((HB5.out.block _ (by have := HS4.out; omega)).trans HY4.out)
  have HX5 := Lib.hid ((HB5.out.block _ (by have := HS4.out; have := HS3.out; omega)).trans HX4.out)
  clear q1 q2 q3 hb5 HP8 HX4 HY4
  go_wp2_with ((with_reducible show wpList _ _ _ (Oper.mk none (Op.store _ (Operand.tmp 10) _) _ _ _ _ :: _) _ _); go_must (refine wpList_store_row rfl 28 (.tmp 10) (.tmp 32) rfl w5.heap.size (vals .u8 Z).toArray rfl rfl _ _ (heap_alloc_new _ _) AZ28.out (zsz _ hZ) (row_one _ _) ?_; have hp := put_new w5 zeros32l (vals .u8 Z).toArray 28; unfold zeros32l at hp; generalize World.setRow _ _ _ = w5' at hp ⊢; have HP10 := Lib.hid hp; clear hp))
  obtain ⟨q1, q2, q3⟩ := HP10.out
  have HU := Lib.hid q1
  have HV := Lib.hid ((q2.block _ (by have := HS5.out; omega)).trans HV5.out)
  have HY := Lib.hid ((q2.block _ (by have := HS5.out; have := HS4.out; omega)).trans HY5.out)
  have HX := Lib.hid ((q2.block _ (by have := HS5.out; have := HS4.out; have := HS3.out; omega)).trans HX5.out)
  have HB : Hid (Below w.heap.size w w5') := Lib.hid (HB3.out.trans ((HB4.out.trans ((HB5.out.trans (q2.mono HB5.out.size)).mono HB4.out.size)).mono HB3.out.size))
  have HSZ : Hid (w.heap.size < w5'.heap.size) := Lib.hid (by have := HS5.out; have := HS4.out; have := HS3.out; omega)
  clear q1 q2 q3 HP10 HX5 HY5 HV5 HB3 HB4 HB5
  have hrB : Reads w5' .u8 (.slice (some ⟨w.heap.size, 0, none⟩) 32 32) B := ⟨_, 32, by rw [hB], by omega, by simp [maxLen], by simp, .inr ⟨w.heap.size, 0, rfl, HSZ.out, fun i hi => by
    rw [Nat.zero_add]; exact cell_of_row HX.out i hi⟩⟩
  refine (refHex_any _ B _ hrB hBb (by omega)).mono ?_
  rintro e _ ⟨rfl, d, rfl⟩
  have hsz1 : ∀ w, (sizeOf 5).run Tryd.prog w = .ok 1 w := fun w => by kernel_rfl
  have e29 : ∀ w, (Op.equalIn 10000 29 (.agg (vals .u8 B).toArray) (.agg (vals .u8 B).toArray)).run Tryd.prog w = .ok true w := fun w => by
    rw [equalIn_nums (k := .u8) Tryd.underlying29 Tryd.underlying5 hsz1 B B hB hB w, beq_self_eq_true]
  have e28 : ∀ w, (Op.equalIn 10000 28 (.agg (vals .u8 Z).toArray) (.agg (vals .u8 Z).toArray)).run Tryd.prog w = .ok true w := fun w => by
    rw [equalIn_nums (k := .u8) Tryd.underlying28 Tryd.underlying5 hsz1 Z Z hZ hZ w, beq_self_eq_true]
  have HU := Lib.hid (show (World.drewN w5' d).heap[w5.heap.size]? = _ from HU.out)
  have HV' := Lib.hid (show (World.drewN w5' d).heap[w4.heap.size]? = _ from HV.out)
  have HY := Lib.hid (show (World.drewN w5' d).heap[w3.heap.size]? = _ from HY.out)
  have HX := Lib.hid (show (World.drewN w5' d).heap[w.heap.size]? = _ from HX.out)
  have HB := Lib.hid (show Below w.heap.size w (World.drewN w5' d) from ⟨HB.out.os, HB.out.tape, HB.out.output, HB.out.size, HB.out.block⟩)
  generalize World.drewN w5' d = V at HU HV' HY HX HB ⊢
  clear hrB HV
  go_wp2_with (first
    | ((with_reducible show wpList _ _ _ (Oper.mk (some 43) _ _ _ _ _ :: _) _ _); go_must (refine wpList_load_rowG (by rfl) 29 (.tmp 6) rfl w3.heap.size rfl _ (vals .u8 B).toArray _ _ HY.out Tryd.underlying29 rfl A29.out ?_))
    | ((with_reducible show wpList _ _ _ (Oper.mk (some 44) _ _ _ _ _ :: _) _ _); go_must (refine wpList_load_rowG (by rfl) 23 (.tmp 2) rfl w.heap.size rfl _ (vals .u8 B).toArray _ _ HX.out Tryd.underlying23 rfl A23.out ?_))
    | ((with_reducible show wpList _ _ _ (Oper.mk (some 48) _ _ _ _ _ :: _) _ _); go_must (refine wpList_load_rowG (by rfl) 29 (.tmp 8) rfl w4.heap.size rfl _ (vals .u8 Z).toArray _ _ HV'.out Tryd.underlying29 rfl AZ29.out ?_))
    | ((with_reducible show wpList _ _ _ (Oper.mk (some 49) _ _ _ _ _ :: _) _ _); go_must (refine wpList_load_rowG (by rfl) 28 (.tmp 10) rfl w5.heap.size rfl _ (vals .u8 Z).toArray _ _ HU.out Tryd.underlying28 rfl AZ28.out ?_)))
  refine (num_any n _).mono ?_
  rintro e _ ⟨rfl, rfl⟩
  rcases HRES.out with ⟨hok, hZr, rfl⟩ | ⟨hnok, hZr, rfl⟩
  · rw [errV_zero]
    have HSTR : Hid (((strN (hexS Z)).toList == s.toList) = true) := Lib.hid (by rw [hZr, hex_okS s hok]; simp)
    have hZb : ∀ y ∈ Z, y < 256 := by
      intro y hy
      rw [hZr] at hy
      obtain ⟨j, hj, rfl⟩ := List.mem_map.1 hy
      have hj := List.mem_range.1 hj
      have g1 := hok.2 (2 * j) (by omega)
      have g2 := hok.2 (2 * j + 1) (by omega)
      show (if j < 32 then dgt s j else 0) < 256
      rw [if_pos hj]
      unfold dgt
      omega
    clear HRES hok hZr
    go_wp2_with ((with_reducible show wpList _ _ _ (Oper.mk (some 62) _ _ _ _ _ :: _) _ _); go_must (refine wpList_load_rowG (by rfl) 29 (.tmp 8) rfl w4.heap.size rfl _ (vals .u8 Z).toArray _ _ HV'.out Tryd.underlying29 rfl AZ29.out ?_))
    refine (hex_any Z _ hZb hZ).mono ?_
    rintro e w9 ⟨rfl, hb9⟩
    have hstr := HSTR.out
    go_wp2
    go_ret
    exact ⟨rfl, HB.out.trans (hb9.mono HB.out.size)⟩
  · have he2 : errV 2 = .iface 74 (.int .i64 2) := rfl
    rw [he2]
    clear HRES hnok hZr
    go_wp2
    go_ret
    exact ⟨rfl, HB.out⟩

end Go.Proofs.YtjhipfgmiilmdaaDoor
