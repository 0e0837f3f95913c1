/- Package manifest: takeDigest, takeMany, takeParts. -/
import Derived.Test.YtpebmmhokigglaaMfB
import Derived.Test.YtpebmmhokigglaaRdP
import Derived.Deep.RegionLawGrows
import Derived.Laws.CopyOwn
namespace Go.Proofs.Ytpebmmhokigglaa
open Go.RowKit

/-- What takeDigest does. -/
def DigPost (p : Nat) (rv : Value) (row : List Nat) (place c : Nat) (w : World) (e : Ending) (w' : World) : Prop :=
  ∃ (out : List Nat) (place' c' : Nat), e = .returned (.agg (vals .u8 (dig out)).toArray) ∧ FixRel (row.drop place) c 32 out (row.drop place') c' ∧ Rd w' p rv row place' c' ∧ w.grownBy w' (some p)
theorem zero32_cells : (vals .u8 zero32) = [.int .u8 0, .int .u8 0, .int .u8 0, .int .u8 0, .int .u8 0, .int .u8 0, .int .u8 0, .int .u8 0, .int .u8 0, .int .u8 0, .int .u8 0, .int .u8 0, .int .u8 0, .int .u8 0, .int .u8 0, .int .u8 0, .int .u8 0, .int .u8 0, .int .u8 0, .int .u8 0, .int .u8 0, .int .u8 0, .int .u8 0, .int .u8 0, .int .u8 0, .int .u8 0, .int .u8 0, .int .u8 0, .int .u8 0, .int .u8 0, .int .u8 0, .int .u8 0] := by rfl
theorem dig_length {out : List Nat} (h : out.length ≤ 32) : (dig out).length = 32 := by unfold dig; rw [List.length_append, List.length_replicate]; omega
theorem fix_len32 {rest : List Nat} {c : Nat} {out rest' : List Nat} {c' : Nat} (h : FixRel rest c 32 out rest' c') : out = [] ∨ out.length = 32 := by
  rcases h with ⟨_, rfl, _⟩ | ⟨_, _, rfl, _⟩ | ⟨_, _, h, rfl, _⟩
  · exact .inl rfl
  · exact .inl rfl
  · right; rw [List.length_take]; have : (32 : Int).toNat = 32 := rfl; omega
theorem splice_dig {out : List Nat} (h : out = [] ∨ out.length = 32) : splice (vals .u8 zero32) 0 (vals .u8 out) = vals .u8 (dig out) := by
  rcases h with rfl | h
  · rfl
  · rw [dig_full h]
    unfold splice
    rw [List.take_zero, List.nil_append, List.drop_eq_nil_of_le (by rw [vals_length, vals_length, h]; simp [zero32]), List.append_nil]

theorem mf_rd_low {w w' : World} {p B : Nat} {rv : Value} {row : List Nat} {place c : Nat} (h : Rd w p rv row place c) (hb : Below B w w') (hp : p < B) : Rd w' p rv row place c := by
  refine ⟨(hb.block p hp).trans h.blk, ?_, h.off, h.le, h.byte, h.len⟩
  have ho := h.own
  refine ⟨ho.1, ?_⟩
  rcases ho.2 with h2 | ⟨g, cap, cur, h1, h2, h3, r⟩
  · exact .inl h2
  · exact .inr ⟨g, cap, cur, h1, h2, by rw [hb.block g (by have := h.off g (by rw [h1]; rfl); omega)]; exact h3, r⟩
theorem grown_low {w w1 w2 : World} {row : Option Nat} {B : Nat} (h : w.grownBy w1 row) (hb : Below B w1 w2) (hB : w.heap.size ≤ B) : w.grownBy w2 row :=
  ⟨hb.os.trans h.os, hb.tape.trans h.tape, hb.output.trans h.output, Nat.le_trans h.size hb.size, fun j hj hne => (hb.block j (Nat.lt_of_lt_of_le hj hB)).trans (h.block j hj hne)⟩
theorem grown_low2 {w w1 w2 : World} {row : Option Nat} (hb : Below w.heap.size w w1) (h : w1.grownBy w2 row) : w.grownBy w2 row :=
  ⟨h.os.trans hb.os, h.tape.trans hb.tape, h.output.trans hb.output, Nat.le_trans hb.size h.size, fun j hj hne => (h.block j (Nat.lt_of_lt_of_le hj hb.size) hne).trans (hb.block j hj)⟩

theorem fix_drew {w w' : World} {p : Nat} {rv : Value} {row : List Nat} {place c : Nat} {many : Int} {e : Ending} (h : FixPost p rv row place c many w.drew e w') : FixPost p rv row place c many w e w' := by
  obtain ⟨v, out, pl, c', h1, h2, h3, h4, h5⟩ := h
  exact ⟨v, out, pl, c', h1, h2, h3, h4, grownBy_trans (grown_drewN w 1 _) h5 fun j hj _ => hj⟩

set_option maxHeartbeats 4000000 in
set_option maxRecDepth 100000 in
theorem takeDigest_any {w : World} {p : Nat} {rv : Value} {row : List Nat} {place c : Nat} (h : Rd w p rv row place c) :
    Calls Try.prog 19 #[.pointer (some ⟨p, 0, none⟩)] w (DigPost p rv row place c w) := by
  obtain ⟨W2, hW2⟩ : ∃ W, W = (w.alloc (.cells (vals .u8 zero32).toArray 24)).alloc (.cells (vals .u8 zero32).toArray 24) := ⟨_, rfl⟩
  have hb2 : Below w.heap.size w W2 := by rw [hW2]; exact ((Below.refl _ _).alloc (Nat.le_refl _) _).alloc (by simp) _
  have hr2 : W2.heap[w.heap.size]? = some (.cells (vals .u8 zero32).toArray 24 (0, 0)) := by rw [hW2, Below.heap_alloc _ _ _ (by simp)]; exact heap_alloc_new _ _
  have hd2 : W2.heap[w.heap.size + 1]? = some (.cells (vals .u8 zero32).toArray 24 (0, 0)) := by
    have := heap_alloc_new (w.alloc (.cells (vals .u8 zero32).toArray 24)) (.cells (vals .u8 zero32).toArray 24)
    rw [hW2]; simpa using this
  have hp := h.lt
  have HFX : Hid (Calls Try.prog 41 #[.pointer (some ⟨p, 0, none⟩), .int .i64 32] W2.drew (FixPost p rv row place c 32 W2)) := Lib.hid ((fixed_any ((h.below hb2 (Nat.le_refl _)).drewN 1) 32).mono fun _ _ h => fix_drew h)
  have HB2 := Lib.hid hb2
  have HR2 := Lib.hid hr2
  have HD2 := Lib.hid hd2
  have HPW := Lib.hid hp
  rw [zero_valsM] at hW2
  have HW2 := Lib.hid hW2
  clear hb2 hr2 hd2 hp hW2 h
  go_enter Try.func19, Try.ntmps19
  go_upto_region 2 with fail
  rw [← HW2.out]
  go_region_law (first
    | (refine step_copy_splice (by rfl) (.tmp 4) (.tmp 6) 22 22 (by rfl) 5 Try.underlying22 (by kernel_rfl) (some ⟨w.heap.size + 1, 0, none⟩) sp 32 32 sl sc (by rfl) (by rfl) (w.heap.size + 1) 0 (vals .u8 zero32) 24 HD5.out (vals .u8 out) HCN.out (fun hp => ⟨rfl, HSRC.out hp⟩) HFIT.out (vals_one8 out) (w.heap.size + 1) w5 (Below.refl _ _) (Nat.le_refl _) ?_
       intro w6 hg6 hb6
       rw [splice_dig HL.out] at hg6
       have HB6 := Lib.hid hb6
       clear hb6)
    | (go_simp
       go_at_call 41
       refine HFX.out.mono ?_
       rintro r w5 ⟨v5, out, pl5, c5, rfl, hfx, ho5, hrd5, hg5⟩
       obtain ⟨sp, sc, hv5, _, _, _⟩ := ho5.reads.val
       obtain ⟨sl, hsl⟩ : ∃ k, k = out.length := ⟨_, rfl⟩
       rw [← hsl] at hv5
       subst hv5
       have hl := fix_len32 hfx
       have HL := Lib.hid hl
       have HD5 : Hid (w5.heap[w.heap.size + 1]? = some (.cells (vals .u8 zero32).toArray 24 (0, 0))) := Lib.hid ((hg5.block _ (Array.getElem?_eq_some_iff.1 HD2.out).1 (fun e => by have := HPW.out; cases e; omega)).trans HD2.out)
       have HCN : Hid ((vals .u8 out).length = Nat.min sl 32) := Lib.hid (by rw [vals_length]; rcases hl with rfl | hl; simp [hsl]; rw [hsl, hl]; rfl)
       have HFIT : Hid (0 + (vals .u8 out).length ≤ (vals .u8 zero32).length) := Lib.hid (by rw [vals_length, vals_length]; simp [zero32]; rcases hl with rfl | hl; simp; omega)
       have HSRC : Hid (0 < (vals .u8 out).length → ∃ ad, sp = some ad ∧ ∀ j v, (vals .u8 out)[j]? = some v → w5.cell? (ad.add j) = some v) := Lib.hid fun hp => by
         rw [vals_length] at hp
         obtain ⟨b, off, h1, _, h2⟩ := ho5.reads.at hp
         refine ⟨_, h1, fun j v hj => ?_⟩
         have hjl : j < out.length := by have := (List.getElem?_eq_some_iff.1 hj).1; rwa [vals_length] at this
         rw [Addr.add_lit, h2 j hjl]
         rw [vals_get .u8 out j hjl] at hj
         exact hj
       have HFX5 := Lib.hid hfx
       have HRD5 := Lib.hid hrd5
       have HG5 := Lib.hid hg5
       clear hfx ho5 hrd5 hg5 hl hsl))
  all_goals
    obtain ⟨D, hD⟩ : ∃ D, D = dig out := ⟨_, rfl⟩
    rw [← hD] at hg6
    have HDD := Lib.hid hD
    have hDl : D.length = 32 := by rw [hD]; exact dig_length (by rcases HL.out with rfl | h; simp; omega)
    have hAs : (Try.prog.info? 24).map (·.size) = some (vals .u8 D).toArray.size := by rw [List.size_toArray, vals_length, hDl]; exact Try.sizeDG
    have hAz : (vals .u8 zero32).toArray.size = (vals .u8 D).toArray.size := by rw [List.size_toArray, List.size_toArray, vals_length, vals_length, hDl]; simp [zero32]
    have HR6 : Hid (w6.heap[w.heap.size]? = some (.cells (vals .u8 zero32).toArray 24 (0, 0))) := Lib.hid ((HB6.out.block _ (by omega)).trans ((HG5.out.block _ (by have := (Array.getElem?_eq_some_iff.1 HD2.out).1; omega) (fun e => by have := HPW.out; cases e; omega)).trans HR2.out))
    clear hD
    go_wp2_with (first
      | ((with_reducible show wpList _ _ _ (Oper.mk (some 8) _ _ _ _ _ :: _) _ _); go_must (refine wpList_load_row rfl 24 (.tmp 3) rfl (w.heap.size + 1) rfl _ (vals .u8 D).toArray _ _ hg6.out Try.underlying24 rfl hAs ?_))
      | ((with_reducible show wpList _ _ _ (Oper.mk none _ _ _ _ _ :: _) _ _); go_must (refine wpList_store_row rfl 24 (.tmp 2) (.tmp 8) rfl w.heap.size (vals .u8 D).toArray rfl rfl _ _ HR6.out hAs hAz (all_one (vals_one8 D)) ?_)))
    refine bodyPost_ret (v := .agg (vals .u8 D).toArray) (results_cell_row (p := 2) rfl _ _ w.heap.size _ _ _ _ rfl (setRow_heap _ _ _ _ _ _ HR6.out) Try.underlying24 rfl hAs) rfl ?_
    have hbs : Below w.heap.size w5 (w6.setRow w.heap.size (vals .u8 D).toArray) := (HB6.out.mono (Nat.le_succ _)).trans ⟨rfl, rfl, rfl, by simp [World.setRow], fun k hk => setRow_other _ _ k _ (by omega)⟩
    exact ⟨out, pl5, c5, by rw [HDD.out], HFX5.out, mf_rd_low HRD5.out hbs HPW.out, grown_low (grown_low2 HB2.out HG5.out) hbs (Nat.le_refl _)⟩

end Go.Proofs.Ytpebmmhokigglaa
