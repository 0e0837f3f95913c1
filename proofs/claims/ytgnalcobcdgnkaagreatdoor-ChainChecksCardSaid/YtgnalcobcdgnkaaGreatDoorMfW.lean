/- The document's digest of a text; package manifest: Digest. -/
import Derived.Test.YtgnalcobcdgnkaaGreatDoorQt
import Derived.Test.YtgnalcobcdgnkaaGreatDoorQf
import Derived.Test.YtgnalcobcdgnkaaGreatDoorQr
import Derived.Test.YtgnalcobcdgnkaaGreatDoorShaI
namespace Go.Proofs.YtgnalcobcdgnkaaGreatDoor
open Go.RowKit

theorem sha_len (l : List Nat) : (shaOf shaK shaH l).length = 32 := by simp [shaOf, bytesOf]
theorem sha_dg (l : List Nat) : Dg (shaOf shaK shaH l) := ⟨sha_len l, by
  intro y hy
  simp only [shaOf, bytesOf] at hy
  simp at hy
  obtain ⟨i, _, rfl⟩ := hy
  omega⟩
theorem ptRow_valsQ (D : List Nat) : ∀ u ∈ vals .u8 D, u.oneCell' = true := fun u hu => by
  obtain ⟨x, _, rfl⟩ := List.mem_map.1 hu
  rfl
theorem rsha_zero : (vals .u8 zero32).toArray = #[.int .u8 0, .int .u8 0, .int .u8 0, .int .u8 0, .int .u8 0, .int .u8 0, .int .u8 0, .int .u8 0, .int .u8 0, .int .u8 0, .int .u8 0, .int .u8 0, .int .u8 0, .int .u8 0, .int .u8 0, .int .u8 0, .int .u8 0, .int .u8 0, .int .u8 0, .int .u8 0, .int .u8 0, .int .u8 0, .int .u8 0, .int .u8 0, .int .u8 0, .int .u8 0, .int .u8 0, .int .u8 0, .int .u8 0, .int .u8 0, .int .u8 0, .int .u8 0] := by rfl
theorem Tryz.sizeRD : (Tryz.prog.info? 37).map (·.size) = some 32 := by kernel_rfl

set_option maxHeartbeats 4000000 in
set_option maxRecDepth 100000 in
theorem rshaOf_any (v : Value) (l : List Nat) (w : World) (hr : Reads w .u8 v l) (hl : ∀ y ∈ l, y < 256) (hx : l.length ≤ 100000) :
    Calls Tryz.prog 22 #[v] w fun e w' => e = .returned (.agg (vals .u8 (shaOf shaK shaH l)).toArray) ∧ Below w.heap.size w w' := by
  obtain ⟨ao, cap, rfl, _, _, _⟩ := hr.val
  obtain ⟨W1, hW1⟩ : ∃ W1, W1 = w.alloc (.cells (vals .u8 zero32).toArray 37) := ⟨_, rfl⟩
  have hb1 : Below w.heap.size w W1 := by rw [hW1]; exact (Below.refl _ _).alloc (Nat.le_refl _) _
  have hz1 : W1.heap[w.heap.size]? = some (.cells (vals .u8 zero32).toArray 37 (0, 0)) := by rw [hW1]; exact heap_alloc_new _ _
  have hs1 : W1.heap.size = w.heap.size + 1 := by rw [hW1]; simp
  have HT := Lib.hid (tables_any W1)
  have HR1 := Lib.hid (hr.new hb1)
  have HB1 := Lib.hid hb1
  have HZ1 := Lib.hid hz1
  have HS1 := Lib.hid hs1
  have HL := Lib.hid hl
  have HX := Lib.hid hx
  rw [rsha_zero] at hW1
  have HW1 := Lib.hid hW1
  obtain ⟨D, hD⟩ : ∃ D, D = shaOf shaK shaH l := ⟨_, rfl⟩
  have HDL : Hid ((Tryz.prog.info? 37).map (·.size) = some (vals .u8 D).toArray.size) := Lib.hid (by rw [List.size_toArray, vals_length, hD, sha_len]; exact Tryz.sizeRD)
  have HD0 : Hid ((vals .u8 zero32).toArray.size = (vals .u8 D).toArray.size) := Lib.hid (by rw [List.size_toArray, List.size_toArray, vals_length, vals_length, hD, sha_len]; rfl)
  rw [← hD]
  have HD := Lib.hid hD
  obtain ⟨n, hn⟩ : ∃ n, n = l.length := ⟨_, rfl⟩
  rw [← hn] at HR1 ⊢
  clear hr hb1 hz1 hs1 hW1 hl hx hD hn
  go_enter Tryz.func22, Tryz.ntmps22
  go_wp2_with fail
  rw [← HW1.out]
  refine HT.out.mono ?_
  rintro e w2 ⟨v1, v2, rfl, ho1, ho2, hb2⟩
  have HS := Lib.hid (refSha_any _ v1 v2 l w2 (HR1.out.new hb2) HL.out HX.out ho1.reads ho2.reads)
  have HZ2 := Lib.hid ((hb2.block _ (by have := HS1.out; omega)).trans HZ1.out)
  have HB2 := Lib.hid (HB1.out.trans (hb2.mono HB1.out.size))
  have HS2 : Hid (w.heap.size < w2.heap.size) := Lib.hid (by have := hb2.size; have := HS1.out; omega)
  rw [← HD.out] at HS
  clear ho1 ho2 hb2
  go_wp2_with fail
  refine HS.out.mono ?_
  rintro e w3 ⟨rfl, hb3⟩
  have HZ3 := Lib.hid ((hb3.block _ HS2.out).trans HZ2.out)
  have HB3 := Lib.hid (HB2.out.trans (hb3.mono (Nat.le_of_lt HS2.out)))
  clear hb3
  go_wp2_with ((with_reducible show wpList _ _ _ (Oper.mk none _ _ _ _ _ :: _) _ _); go_must (refine wpList_store_box rfl 37 (.tmp 2) (.tmp 12) rfl w.heap.size (vals .u8 D).toArray rfl rfl _ _ HZ3.out HDL.out HD0.out (all_one (ptRow_valsQ D)) ?_))
  intro W4 hq4 hb4 _
  have HQ4 := Lib.hid hq4
  have HB4 := Lib.hid (HB3.out.trans hb4)
  clear hq4 hb4
  go_wp2
  refine bodyPost_ret (v := .agg (vals .u8 D).toArray) (results_cell_row (p := 2) rfl _ _ w.heap.size _ _ _ _ rfl HQ4.out Tryz.underlying37 rfl HDL.out) rfl ?_
  exact ⟨rfl, HB4.out⟩

theorem Owns.form2Q {w : World} {base : Nat} {e : TypeId} {k : IntKind} {v : Value} {l : List Nat} (h : Owns w base e k v l) : ∃ ao cap, v = .slice ao l.length cap := by
  obtain ⟨ao, cap, h1, _⟩ := h.reads.val
  exact ⟨ao, cap, h1⟩

theorem man_bytes {m : MF} (h : mchk m = 0) (hm : MOk m) : (∀ y ∈ fr (mtext m), y < 256) ∧ (fr (mtext m)).length ≤ 70000 := by
  obtain ⟨h1, h2⟩ := mtext_len h hm
  have hu : U64 (mtext m).length := by unfold U64; omega
  refine ⟨fr_byte h2 hu, ?_⟩
  rw [fr_length]
  have := enc_len10 hu
  unfold fsize
  omega

/-- What Digest answers. -/
def MDigPost (m : MF) (w : World) (e : Ending) (w' : World) : Prop :=
  Below w.heap.size w w' ∧ ((mchk m = 0 ∧ e = .returned (.tuple #[.agg (vals .u8 (shaOf shaK shaH (fr (mtext m)))).toArray, .nilIface])) ∨
    (mchk m ≠ 0 ∧ e = .returned (.tuple #[.agg (vals .u8 zero32).toArray, errV (mchk m)])))

set_option maxHeartbeats 4000000 in
set_option maxRecDepth 100000 in
theorem mdigest_any (m : MF) (v : Value) (w : World) (B : Nat → Prop) (h : PsAt w B v m.ps) (hd : Dg m.prev) (hld : Laid w) :
    Calls Tryz.prog 19 #[.agg (mfRow m v).toArray] w (MDigPost m w) := by
  obtain ⟨ao, cap, rfl, _, _, _⟩ := h.val
  obtain ⟨n, hn⟩ : ∃ n, n = m.ps.length := ⟨_, rfl⟩
  rw [← hn] at h ⊢
  have hok : MOk m := ⟨hd, h.2⟩
  obtain ⟨W1, hW1⟩ : ∃ W1, W1 = (w.alloc (.cells (mfRow m (.slice ao n cap)).toArray 43)).alloc (.cells (vals .u8 zero32).toArray 34) := ⟨_, rfl⟩
  have hb1 : Below w.heap.size w W1 := by rw [hW1]; exact ((Below.refl _ _).alloc (Nat.le_refl _) _).alloc (by simp) _
  have hx1 : MB W1 w.heap.size m (.slice ao n cap) 43 := by rw [hW1]; exact (mb_new _ _ _ _).old ((Below.refl _ _).alloc (Nat.le_refl _) _)
  have hz1 : W1.heap[w.heap.size + 1]? = some (.cells (vals .u8 zero32).toArray 34 (0, 0)) := by
    have := heap_alloc_new (w.alloc (.cells (mfRow m (.slice ao n cap)).toArray 43)) (.cells (vals .u8 zero32).toArray 34)
    rw [hW1]; simpa using this
  have hs1 : W1.heap.size = w.heap.size + 2 := by rw [hW1]; simp
  have HPUT := Lib.hid (mput_any m _ W1 B (h.old hb1) hd)
  have HB1 := Lib.hid hb1
  have HZ1 := Lib.hid hz1
  have HS1 := Lib.hid hs1
  have HLD1 := Lib.hid (hld.next hb1)
  have HOK := Lib.hid hok
  rw [rsha_zero] at hW1
  have HMS : Hid ((Tryz.prog.info? 43).map (·.size) = some (mfRow m (.slice ao n cap)).toArray.size) := Lib.hid (by rw [mfRow_size hd]; exact Tryz.sizeMF)
  have HDZ : Hid ((Tryz.prog.info? 34).map (·.size) = some (vals .u8 zero32).toArray.size) := Lib.hid (by rw [List.size_toArray, vals_length]; exact Tryz.sizeDG)
  obtain ⟨A, hA⟩ : ∃ A, A = (mfRow m (.slice ao n cap)).toArray := ⟨_, rfl⟩
  rw [← hA] at hW1 HPUT HMS ⊢
  have HXA : Hid (W1.heap[w.heap.size]? = some (.cells A 43 (0, 0))) := Lib.hid (by rw [hA]; exact hx1)
  have HW1 := Lib.hid hW1
  clear hA hb1 hx1 hz1 hs1 h hd hW1 hn hld hok
  go_enter Tryz.func19, Tryz.ntmps19
  go_wp2_with ((with_reducible show wpList _ _ _ (Oper.mk (some 7) _ _ _ _ _ :: _) _ _); rw [← HW1.out]; go_must (refine wpList_load_row rfl 43 (.tmp 1) rfl w.heap.size rfl _ A _ _ HXA.out Tryz.underlying43 rfl HMS.out ?_))
  refine HPUT.out.mono ?_
  rintro e w2 ⟨hb2, h2⟩
  have HZ2 := Lib.hid ((hb2.block _ (by have := HS1.out; omega)).trans HZ1.out)
  have HB2 := Lib.hid (HB1.out.trans (hb2.mono HB1.out.size))
  have HLD2 := Lib.hid (HLD1.out.next hb2)
  have HS2 : Hid (w.heap.size + 1 < w2.heap.size) := Lib.hid (by have := HS1.out; have := hb2.size; omega)
  clear hb2
  rcases h2 with ⟨hz, v', rfl, ho⟩ | ⟨hz, rfl⟩
  rotate_left
  · have HNZ := Lib.hid hz
    rw [errV_pos hz]
    clear hz
    go_wp2_with ((with_reducible show wpList _ _ _ (Oper.mk none _ _ _ _ _ :: _) _ _); go_must (refine wpList_store_box rfl 34 (.tmp 2) (.tmp 13) rfl (w.heap.size + 1) (vals .u8 zero32).toArray rfl rfl _ _ HZ2.out HDZ.out rfl (all_one (ptRow_valsQ zero32)) ?_))
    intro W4 hq4 hb4 _
    have HQ4 := Lib.hid hq4
    have HB4 := Lib.hid (HB2.out.trans (hb4.mono (Nat.le_succ _)))
    clear hq4 hb4
    go_wp2
    refine bodyPost_ret (v := .tuple #[.agg (vals .u8 zero32).toArray, .iface 58 (.int .i64 (mchk m : Int))]) (results_row_tmp (p := 2) rfl _ _ (w.heap.size + 1) _ _ _ _ _ rfl rfl HQ4.out Tryz.underlying34 rfl HDZ.out) rfl ?_
    exact ⟨HB4.out, .inr ⟨HNZ.out, by rw [errV_pos HNZ.out]⟩⟩
  obtain ⟨ap, cp, rfl⟩ := ho.form2Q
  obtain ⟨p8, pl⟩ := man_bytes hz HOK.out
  have HZC := Lib.hid hz
  obtain ⟨D, hD⟩ : ∃ D, D = shaOf shaK shaH (fr (mtext m)) := ⟨_, rfl⟩
  have hd32 : (vals .u8 D).length = 32 := by rw [vals_length, hD, sha_len]
  have HSUM : Hid (Calls Tryz.prog 31 #[.slice ap (fr (mtext m)).length cp] w2 fun e w' => e = .returned (.agg (vals .u8 D).toArray) ∧ Below w2.heap.size w2 w') := Lib.hid (by
    rw [hD]
    exact sumS_any _ _ w2 ho.reads (by omega) p8 HLD2.out)
  have HDD : Hid ((Tryz.prog.info? 34).map (·.size) = some (vals .u8 D).toArray.size) := Lib.hid (by rw [List.size_toArray, hd32]; exact Tryz.sizeDG)
  have HD0 : Hid ((vals .u8 zero32).toArray.size = (vals .u8 D).toArray.size) := Lib.hid (by rw [List.size_toArray, List.size_toArray, hd32]; rfl)
  have HDE := Lib.hid hD
  obtain ⟨nb, hnb⟩ : ∃ k, k = (fr (mtext m)).length := ⟨_, rfl⟩
  rw [← hnb] at HSUM ⊢
  clear hD ho hz p8 pl hd32 hnb
  go_wp2_with fail
  refine HSUM.out.mono ?_
  rintro e w3 ⟨rfl, hb3⟩
  have HZ3 := Lib.hid ((hb3.block _ HS2.out).trans HZ2.out)
  have HB3 := Lib.hid (HB2.out.trans (hb3.mono (by have := HS2.out; omega)))
  clear hb3
  go_wp2_with ((with_reducible show wpList _ _ _ (Oper.mk none _ _ _ _ _ :: _) _ _); go_must (refine wpList_store_box rfl 34 (.tmp 2) (.tmp 16) rfl (w.heap.size + 1) (vals .u8 D).toArray rfl rfl _ _ HZ3.out HDD.out HD0.out (all_one (ptRow_valsQ D)) ?_))
  intro W4 hq4 hb4 _
  have HQ4 := Lib.hid hq4
  have HB4 := Lib.hid (HB3.out.trans (hb4.mono (Nat.le_succ _)))
  clear hq4 hb4
  go_wp2
  refine bodyPost_ret (v := .tuple #[.agg (vals .u8 D).toArray, .nilIface]) (results_row_tmp (p := 2) rfl _ _ (w.heap.size + 1) _ _ _ _ _ rfl rfl HQ4.out Tryz.underlying34 rfl HDD.out) rfl ?_
  exact ⟨HB4.out, .inl ⟨HZC.out, by rw [HDE.out]⟩⟩

end Go.Proofs.YtgnalcobcdgnkaaGreatDoor
