/- An act as it is recorded, done to a unit: by the program. · An act as it is recorded, done to a unit: by the document. -/
import Derived.Test.YtiaijpknnomlnaaGreatRcA
import Derived.Test.YtiaijpknnomlnaaGreatUnP
import Derived.Test.YtiaijpknnomlnaaGreatUrP
namespace Go.Proofs.YtiaijpknnomlnaaGreat
open Go.RowKit

/-- What is answered, the unit then, an error's number. -/
def rapply (U : US) (k e a : Int) (d : List Nat) : Int × US × Nat :=
  if rchk k e a d.length ≠ 0 then (0, U, rchk k e a d.length) else if k = 1 then useal U e else if k = 2 then (0, (uwrite U e a d).1, (uwrite U e a d).2)
  else if k = 3 then (0, (ufill U e a).1, (ufill U e a).2) else if k = 4 then (0, (utrim U e a).1, (utrim U e a).2) else ucut U e a
theorem rapply_ok {U : US} (h : UOk U) (k e a : Int) {d : List Nat} (h8 : ∀ y ∈ d, y < 256) : UOk (rapply U k e a d).2.1 := by
  unfold rapply
  split
  · exact h
  · split
    · exact useal_ok h e
    · split
      · exact uwrite_ok h e a h8
      · split
        · exact ufill_ok h e a
        · split
          · exact utrim_ok h e a
          · exact ucut_ok h e a
section
variable {w W w' : World} {B : Nat → Prop} {u m : Nat} {U U' : US}
theorem UPost.from' (hb : Below w.heap.size w W) (hul : u < w.heap.size) (hml : m < w.heap.size) (h : UPost W B u m U' w') (hu : ¬ B u) (hm : ¬ B m) : UPost w B u m U' w' := by
  have hs := hb.size
  exact ⟨h.1.more (fun j _ hB => hB.elim .inl fun h => .inr (by omega)) (fun hc => hc.elim hu fun h => by omega) (fun hc => hc.elim hm fun h => by omega), (fr_below hb (fun _ => False)).trans h.2 (fun _ _ h => h.elim) (fun _ _ h => h)⟩
set_option maxHeartbeats 4000000 in
set_option maxRecDepth 100000 in
theorem rapply_any (h : Un w B u m U) (k e : Int) {a : Int} (ha : I64 a) {v : Value} {d : List Nat} (hr : Reads w .u8 v d) (h8 : ∀ y ∈ d, y < 256) :
    Calls Tryz.prog 20 #[.pointer (some ⟨u, 0, none⟩), .agg #[.int .i64 k, .int .i64 e, .int .i64 a, v]] w fun r w' => r = .returned (.tuple #[.int .i64 (rapply U k e a d).1, errV (rapply U k e a d).2.2]) ∧ UPost w B u m (rapply U k e a d).2.1 w' := by
  obtain ⟨ao, cap, rfl, _, _, _⟩ := hr.val
  obtain ⟨W1, hW1⟩ : ∃ W1, W1 = w.alloc (.cells #[.int .i64 k, .int .i64 e, .int .i64 a, .slice ao d.length cap] 25) := ⟨_, rfl⟩
  have hb1 : Below w.heap.size w W1 := by rw [hW1]; exact (Below.refl _ _).alloc (Nat.le_refl _) _
  have hx1 : W1.heap[w.heap.size]? = some (.cells #[.int .i64 k, .int .i64 e, .int .i64 a, .slice ao d.length cap] 25 (0, 0)) := by rw [hW1]; exact heap_alloc_new _ _
  have HX : Hid (∀ W, Below W1.heap.size W1 W → W.cell? ⟨w.heap.size, 0, none⟩ = some (.int .i64 k) ∧ W.cell? ⟨w.heap.size, 1, none⟩ = some (.int .i64 e) ∧ W.cell? ⟨w.heap.size, 2, none⟩ = some (.int .i64 a) ∧ W.cell? ⟨w.heap.size, 3, none⟩ = some (.slice ao d.length cap)) := Lib.hid fun W hb => by
    have h := (hb.block _ (Array.getElem?_eq_some_iff.1 hx1).1).trans hx1
    exact ⟨by rw [cell_of_row _ _ 0 _ _ _ h]; rfl, by rw [cell_of_row _ _ 1 _ _ _ h]; rfl, by rw [cell_of_row _ _ 2 _ _ _ h]; rfl, by rw [cell_of_row _ _ 3 _ _ _ h]; rfl⟩
  have HB1 := Lib.hid hb1
  have HD : Hid (∀ W, Below W1.heap.size W1 W → Reads W .u8 (.slice ao d.length cap) d) := Lib.hid fun W hb => (hr.new hb1).new hb
  have HU : Hid (∀ W, Below W1.heap.size W1 W → Un W B u m U) := Lib.hid fun W hb => (h.old hb1).old hb
  have HF : Hid (∀ W U' w', Below W1.heap.size W1 W → UPost W B u m U' w' → UPost w B u m U' w') := Lib.hid fun W U' w' hb hp => UPost.from' (hb1.trans (hb.mono hb1.size)) h.ult h.mlt hp h.nu h.nm
  have HCK := Lib.hid (rcheck9_any k e a ao d.length cap W1)
  obtain ⟨X, hX⟩ : ∃ X, X = rapply U k e a d := ⟨_, rfl⟩
  have HXE : Hid (X = if rchk k e a d.length ≠ 0 then (0, U, rchk k e a d.length) else if k = 1 then useal U e else if k = 2 then (0, (uwrite U e a d).1, (uwrite U e a d).2)
    else if k = 3 then (0, (ufill U e a).1, (ufill U e a).2) else if k = 4 then (0, (utrim U e a).1, (utrim U e a).2) else ucut U e a) := Lib.hid hX
  rw [← hX]
  obtain ⟨c, hc⟩ : ∃ c, c = rchk k e a d.length := ⟨_, rfl⟩
  rw [← hc] at HCK HXE
  have HA := Lib.hid ha
  have H8 := Lib.hid h8
  obtain ⟨x0, x1, x2, x3⟩ := HX.out W1 (Below.refl _ _)
  rw [hW1] at x0 x1 x2 x3
  have HW1 := Lib.hid hW1
  obtain ⟨nd, hnd⟩ : ∃ n, n = d.length := ⟨_, rfl⟩
  rw [← hnd] at HX HD HCK HW1 x3
  rw [← hnd]
  clear h hr h8 ha hb1 hx1 hX hc hW1 hnd
  go_enter Tryz.func20, Tryz.ntmps20
  go_wp2_with fail
  rw [← HW1.out]
  refine HCK.out.mono ?_
  rintro r w2 ⟨rfl, hb2⟩
  by_cases hz : c = 0
  rotate_left
  · have HE : Hid (X = (0, U, c)) := Lib.hid (by rw [HXE.out, if_pos hz])
    rw [errV_pos hz]
    have HZ := Lib.hid hz
    have HP : Hid (UPost w B u m U w2) := Lib.hid (HF.out w2 U w2 hb2 (UPost.same (HU.out w2 hb2) (Below.refl _ _)))
    clear hz hb2 x0 x1 x2 x3
    go_wp2
    go_ret2
    rw [HE.out]
    exact ⟨by rw [errV_pos HZ.out]; rfl, HP.out⟩
  have HX2 : Hid (X = if k = 1 then useal U e else if k = 2 then (0, (uwrite U e a d).1, (uwrite U e a d).2)
    else if k = 3 then (0, (ufill U e a).1, (ufill U e a).2) else if k = 4 then (0, (utrim U e a).1, (utrim U e a).2) else ucut U e a) := Lib.hid (by rw [HXE.out, if_neg (by omega)])
  have HB2 := Lib.hid hb2
  obtain ⟨x0, x1, x2, x3⟩ := HX.out w2 hb2
  have HU2 := Lib.hid (HU.out w2 hb2)
  rw [hz, errV_zero]
  clear hz hb2
  cases q1 : (k == 1)
  rotate_left
  · have HE : Hid (X = useal U e) := Lib.hid (by rw [HX2.out, if_pos (show k = 1 by simpa using q1)])
    have hcall := useal_any HU2.out e
    obtain ⟨er, her⟩ : ∃ er, er = errV (useal U e).2.2 := ⟨_, rfl⟩
    rw [← her] at hcall
    have HER := Lib.hid her
    have HCALL := Lib.hid hcall
    clear hcall her 
    go_wp2_with fail
    refine HCALL.out.mono ?_
    rintro r w3 ⟨rfl, hp3⟩
    have HP3 := Lib.hid (HF.out _ _ _ HB2.out hp3)
    clear hp3 x0 x1 x2 x3
    go_wp2
    go_ret2
    rw [HE.out]
    exact ⟨by rw [← HER.out]; rfl, HP3.out⟩
  cases q2 : (k == 2)
  rotate_left
  · have HE : Hid (X = (0, (uwrite U e a d).1, (uwrite U e a d).2)) := Lib.hid (by rw [HX2.out, if_neg (show ¬ k = 1 by simpa using q1), if_pos (show k = 2 by simpa using q2)])
    have hcall := uwrite_any HU2.out e HA.out (HD.out w2 HB2.out) H8.out
    obtain ⟨er, her⟩ : ∃ er, er = errV (uwrite U e a d).2 := ⟨_, rfl⟩
    rw [← her] at hcall
    have HER := Lib.hid her
    have HCALL := Lib.hid hcall
    clear hcall her 
    go_wp2_with fail
    refine HCALL.out.mono ?_
    rintro r w3 ⟨rfl, hp3⟩
    have HP3 := Lib.hid (HF.out _ _ _ HB2.out hp3)
    clear hp3 x0 x1 x2 x3
    go_wp2
    go_ret2
    rw [HE.out]
    exact ⟨by rw [← HER.out]; rfl, HP3.out⟩
  cases q3 : (k == 3)
  rotate_left
  · have HE : Hid (X = (0, (ufill U e a).1, (ufill U e a).2)) := Lib.hid (by rw [HX2.out, if_neg (show ¬ k = 1 by simpa using q1), if_neg (show ¬ k = 2 by simpa using q2), if_pos (show k = 3 by simpa using q3)])
    have hcall := ufill_any HU2.out e HA.out
    obtain ⟨er, her⟩ : ∃ er, er = errV (ufill U e a).2 := ⟨_, rfl⟩
    rw [← her] at hcall
    have HER := Lib.hid her
    have HCALL := Lib.hid hcall
    clear hcall her 
    go_wp2_with fail
    refine HCALL.out.mono ?_
    rintro r w3 ⟨rfl, hp3⟩
    have HP3 := Lib.hid (HF.out _ _ _ HB2.out hp3)
    clear hp3 x0 x1 x2 x3
    go_wp2
    go_ret2
    rw [HE.out]
    exact ⟨by rw [← HER.out]; rfl, HP3.out⟩
  cases q4 : (k == 4)
  rotate_left
  · have HE : Hid (X = (0, (utrim U e a).1, (utrim U e a).2)) := Lib.hid (by rw [HX2.out, if_neg (show ¬ k = 1 by simpa using q1), if_neg (show ¬ k = 2 by simpa using q2), if_neg (show ¬ k = 3 by simpa using q3), if_pos (show k = 4 by simpa using q4)])
    have hcall := utrim_any HU2.out e a
    obtain ⟨er, her⟩ : ∃ er, er = errV (utrim U e a).2 := ⟨_, rfl⟩
    rw [← her] at hcall
    have HER := Lib.hid her
    have HCALL := Lib.hid hcall
    clear hcall her 
    go_wp2_with fail
    refine HCALL.out.mono ?_
    rintro r w3 ⟨rfl, hp3⟩
    have HP3 := Lib.hid (HF.out _ _ _ HB2.out hp3)
    clear hp3 x0 x1 x2 x3
    go_wp2
    go_ret2
    rw [HE.out]
    exact ⟨by rw [← HER.out]; rfl, HP3.out⟩
  have HE : Hid (X = ucut U e a) := Lib.hid (by rw [HX2.out, if_neg (show ¬ k = 1 by simpa using q1), if_neg (show ¬ k = 2 by simpa using q2), if_neg (show ¬ k = 3 by simpa using q3), if_neg (show ¬ k = 4 by simpa using q4)])
  have hcall := ucut_any HU2.out e a
  obtain ⟨er, her⟩ : ∃ er, er = errV (ucut U e a).2.2 := ⟨_, rfl⟩
  rw [← her] at hcall
  have HER := Lib.hid her
  have HCALL := Lib.hid hcall
  clear hcall her 
  go_wp2_with fail
  refine HCALL.out.mono ?_
  rintro r w3 ⟨rfl, hp3⟩
  have HP3 := Lib.hid (HF.out _ _ _ HB2.out hp3)
  clear hp3 x0 x1 x2 x3
  go_wp2
  go_ret2
  rw [HE.out]
  exact ⟨by rw [← HER.out]; rfl, HP3.out⟩
end
end Go.Proofs.YtiaijpknnomlnaaGreat

namespace Go.Proofs.YtiaijpknnomlnaaGreat
open Go.RowKit

theorem below_drew9 (W : World) : Below W.heap.size W W.drew := ⟨rfl, rfl, rfl, Nat.le_refl _, fun _ _ => rfl⟩
theorem fresh_tri {w W : World} {p : Nat} (h : Below w.heap.size w W) (hp : w.heap.size ≤ p) (a b c : Value) : Below w.heap.size w (tri W p a b c) := by
  unfold tri
  exact ((h.setCell hp _).setCell hp _).setCell hp _
theorem DocU.tri' {W : World} {B : Nat → Prop} {lv : Value} {U : US} (h : DocU W B lv U) {p : Nat} (hp : ¬ B p) (a b c : Value) : DocU (tri W p a b c) B lv U :=
  RecAt.keep h ((fr_tri W p a b c).kept _ fun _ _ hj e => hp (e ▸ hj))
set_option maxHeartbeats 8000000 in
set_option maxRecDepth 100000 in
theorem rrapply_any {w : World} {B : Nat → Prop} {U : US} {lv : Value} (h : DocU w B lv U) (hk : UOk U) (hB : ∀ j, B j → j < w.heap.size) (k e a : Int) (d : List Nat) (hl : d.length ≤ 100) :
    Calls Tryz.prog 21 #[docU U lv, .agg #[.int .i64 k, .int .i64 e, .int .i64 a, .string (S8 d)]] w (CPostU B w (rapply U k e a d)) := by
  obtain ⟨ao, cap, rfl⟩ := h.val
  obtain ⟨X, hX⟩ : ∃ X, X = rapply U k e a d := ⟨_, rfl⟩
  have HXE : Hid (X = if rchk k e a d.length ≠ 0 then (0, U, rchk k e a d.length) else if k = 1 then useal U e else if k = 2 then (0, (uwrite U e a d).1, (uwrite U e a d).2)
    else if k = 3 then (0, (ufill U e a).1, (ufill U e a).2) else if k = 4 then (0, (utrim U e a).1, (utrim U e a).2) else ucut U e a) := Lib.hid hX
  rw [← hX]
  obtain ⟨c, hc⟩ : ∃ c, c = rchk k e a d.length := ⟨_, rfl⟩
  rw [← hc] at HXE
  obtain ⟨s, hs⟩ : ∃ s, s = S8 d := ⟨_, rfl⟩
  have hck := fun W => rrcheck_any k e a s W
  rw [show s.size = d.length by rw [hs, S8_size], ← hc] at hck
  have HCK := Lib.hid hck
  rw [← hs]
  have HS := Lib.hid hs
  have HL := Lib.hid hl
  have HOK := Lib.hid hk
  have HBB := Lib.hid hB
  obtain ⟨n, hn⟩ : ∃ n, n = U.cells.length := ⟨_, rfl⟩
  obtain ⟨ep, hep⟩ : ∃ z, z = U.epoch := ⟨_, rfl⟩
  obtain ⟨lw, hlw⟩ : ∃ z, z = U.low := ⟨_, rfl⟩
  rw [← hn] at h ⊢
  have HD := Lib.hid h
  have HN := Lib.hid hn
  have HEP := Lib.hid hep
  have HLW := Lib.hid hlw
  obtain ⟨W3, hW3⟩ : ∃ W3, W3 = ((w.alloc (.cells #[.int .i64 ep, .int .i64 lw, .slice ao n cap] 41)).alloc (.cells #[.int .i64 k, .int .i64 e, .int .i64 a, .string s] 31)).alloc (.cells #[.int .i64 0, .int .i64 0, .slice none 0 0] 41) := ⟨_, rfl⟩
  have hb3 : Below w.heap.size w W3 := by rw [hW3]; exact (((Below.refl _ _).alloc (Nat.le_refl _) _).alloc (by simp) _).alloc (by simp <;> omega) _
  have hx0 : W3.heap[w.heap.size]? = some (.cells #[.int .i64 ep, .int .i64 lw, .slice ao n cap] 41 (0, 0)) := by
    rw [hW3, Below.heap_alloc _ _ _ (by simp <;> omega), Below.heap_alloc _ _ _ (by simp)]; exact heap_alloc_new _ _
  have hx1 : W3.heap[w.heap.size + 1]? = some (.cells #[.int .i64 k, .int .i64 e, .int .i64 a, .string s] 31 (0, 0)) := by
    rw [hW3, Below.heap_alloc _ _ _ (by simp)]; exact allocU_at _ (by simp)
  have hx2 : W3.heap[w.heap.size + 1 + 1]? = some (.cells #[.int .i64 0, .int .i64 0, .slice none 0 0] 41 (0, 0)) := by
    rw [hW3]; exact allocU_at _ (by simp)
  have HB3 := Lib.hid hb3
  have HX0 := Lib.hid hx0
  have HX1 := Lib.hid hx1
  have HX2 := Lib.hid hx2
  have HW3 := Lib.hid hW3
  unfold docU
  rw [← hep, ← hlw]
  clear h hk hB hl hX hc hck hs hn hep hlw hb3 hx0 hx1 hx2 hW3
  go_enter Tryz.func21, Tryz.ntmps21
  go_wp2_with fail
  rw [← HW3.out]
  refine (HCK.out _).mono ?_
  rintro r w4 ⟨rfl, hb4⟩
  have HB4 : Hid (Below w.heap.size w w4) := Lib.hid (HB3.out.trans (hb4.mono HB3.out.size))
  have HY0 := Lib.hid ((hb4.block _ (Array.getElem?_eq_some_iff.1 HX0.out).1).trans HX0.out)
  have HY1 := Lib.hid ((hb4.block _ (Array.getElem?_eq_some_iff.1 HX1.out).1).trans HX1.out)
  have HY2 := Lib.hid ((hb4.block _ (Array.getElem?_eq_some_iff.1 HX2.out).1).trans HX2.out)
  have HD4 := Lib.hid (HD.out.grown HB4.out)
  obtain ⟨x0, x1, x2, xf⟩ := three_cells HY0.out
  obtain ⟨y0, y1, y2, y3⟩ := four_cells HY1.out
  obtain ⟨z0, z1, z2, zf⟩ := three_cells HY2.out
  clear hb4
  by_cases hz : c = 0
  rotate_left
  · have HE : Hid (X = (0, U, c)) := Lib.hid (by rw [HXE.out, if_pos hz])
    have hzi : ¬ (c : Int) = 0 := by omega
    clear hz
    go_wp2_with fail
    go_region
    all_goals
      have hw := tri_blk HY2.out (.int .i64 ep) (.int .i64 lw) (.slice ao n cap)
      obtain ⟨p0, p1, p2, _⟩ := three_cells hw
      have HW9 : Hid (CPostU B w X (.returned (.tuple #[.int .i64 0, .agg #[.int .i64 ep, .int .i64 lw, .slice ao n cap], .int .i64 (c : Int)])) (tri w4 (w.heap.size + 1 + 1) (.int .i64 ep) (.int .i64 lw) (.slice ao n cap)).drew) := Lib.hid (by
        rw [HE.out]
        refine ⟨.slice ao n cap, by unfold docU; rw [HEP.out, HLW.out], ?_, ?_⟩
        · have h1 := DocU.tri' HD4.out (p := w.heap.size + 1 + 1) (fun hp => by have := HBB.out _ hp; omega) (.int .i64 ep) (.int .i64 lw) (.slice ao n cap)
          exact (DocU.grown h1 (below_drew9 _)).wide fun j hj => .inl hj
        · exact (fresh_tri HB4.out (by omega) _ _ _).drew)
      clear hw
      unfold tri at HW9 p0 p1 p2
      go_wp2
      refine bodyPost_ret (v := .tuple #[.int .i64 0, .agg #[.int .i64 ep, .int .i64 lw, .slice ao n cap], .int .i64 (c : Int)]) (by simp [results, Tryz.results21, go_sem, p0, p1, p2]) rfl ?_
      exact HW9.out
  have HX3 : Hid (X = if k = 1 then useal U e else if k = 2 then (0, (uwrite U e a d).1, (uwrite U e a d).2)
    else if k = 3 then (0, (ufill U e a).1, (ufill U e a).2) else if k = 4 then (0, (utrim U e a).1, (utrim U e a).2) else ucut U e a) := Lib.hid (by rw [HXE.out, if_neg (by omega)])
  subst hz
  cases q1 : (k == 1)
  rotate_left
  · obtain ⟨xn, xu, xc⟩ := X
    have HE : Hid ((xn, xu, xc) = useal U e) := Lib.hid (by rw [HX3.out, if_pos (show k = 1 by simpa using q1)])
    have hcall := rseal_post HD4.out HOK.out e
    rw [← HE.out] at hcall
    unfold docU at hcall
    rw [← HEP.out, ← HLW.out] at hcall
    have HCALL := Lib.hid hcall
    clear hcall
    go_wp2_with fail
    refine HCALL.out.mono ?_
    rintro r w5 ⟨lv5, rfl, hd5, hb5⟩
    obtain ⟨ao5, cap5, rfl⟩ := hd5.val
    unfold docU
    have hlt4 : w.heap.size + 1 + 1 < w4.heap.size := (Array.getElem?_eq_some_iff.1 HY2.out).1
    have HB5 : Hid (Below w.heap.size w w5) := Lib.hid (HB4.out.trans (hb5.mono HB4.out.size))
    have hz0 := (hb5.block _ (Array.getElem?_eq_some_iff.1 HY0.out).1).trans HY0.out
    have hz2 := (hb5.block _ hlt4).trans HY2.out
    have HD5 := Lib.hid hd5
    have HN2 : Hid ¬ (B (w.heap.size + 1 + 1) ∨ w4.heap.size ≤ w.heap.size + 1 + 1) := Lib.hid (by rintro (h | h); (have := HBB.out _ h; omega); omega)
    have HN0 : Hid ¬ (B w.heap.size ∨ w4.heap.size ≤ w.heap.size) := Lib.hid (by rintro (h | h); (have := HBB.out _ h; omega); omega)
    obtain ⟨x0, x1, x2, xf⟩ := three_cells hz0
    obtain ⟨z0, z1, z2, zf⟩ := three_cells hz2
    obtain ⟨ln, hln⟩ : ∃ n, n = xu.cells.length := ⟨_, rfl⟩
    rw [← hln] at HD5
    have HZ2 := Lib.hid hz2
    have HZ0 := Lib.hid hz0
    clear hb5 hd5 hz2 hz0 y0 y1 y2 y3
    have hw := tri_blk HZ2.out (.int .i64 xu.epoch) (.int .i64 xu.low) (.slice ao5 ln cap5)
    obtain ⟨p0, p1, p2, _⟩ := three_cells hw
    have HW9 : Hid (CPostU B w (xn, xu, xc) (.returned (.tuple #[.int .i64 xn, .agg #[.int .i64 xu.epoch, .int .i64 xu.low, .slice ao5 ln cap5], .int .i64 (xc : Int)])) (tri w5 (w.heap.size + 1 + 1) (.int .i64 xu.epoch) (.int .i64 xu.low) (.slice ao5 ln cap5))) := Lib.hid (by
      refine ⟨.slice ao5 ln cap5, rfl, ?_, fresh_tri HB5.out (by omega) _ _ _⟩
      exact (DocU.tri' HD5.out HN2.out _ _ _).wide fun j hj => hj.imp id fun h => by have := HB4.out.size; omega)
    rw [← hln]
    clear hw hln
    unfold tri at HW9 p0 p1 p2
    go_wp2
    refine bodyPost_ret (v := .tuple #[.int .i64 xn, .agg #[.int .i64 xu.epoch, .int .i64 xu.low, .slice ao5 ln cap5], .int .i64 (xc : Int)]) (by simp [results, Tryz.results21, go_sem, p0, p1, p2]) rfl ?_
    exact HW9.out
  cases q2 : (k == 2)
  rotate_left
  · obtain ⟨xn, xu, xc⟩ := X
    have he : (xn, xu, xc) = (0, (uwrite U e a d).1, (uwrite U e a d).2) := by rw [HX3.out, if_neg (show ¬ k = 1 by simpa using q1), if_pos (show k = 2 by simpa using q2)]
    obtain ⟨rfl, he2⟩ := Prod.mk.inj he
    have hcall := rwriteU_any HD4.out HOK.out e a d (by have := HL.out; omega)
    rw [show uwrite U e a d = (xu, xc) from he2.symm] at hcall
    rw [← HS.out] at hcall
    unfold docU at hcall
    rw [← HEP.out, ← HLW.out] at hcall
    have HCALL := Lib.hid hcall
    clear hcall
    go_wp2_with fail
    refine HCALL.out.mono ?_
    rintro r w5 ⟨lv5, rfl, hd5, hb5⟩
    obtain ⟨ao5, cap5, rfl⟩ := hd5.val
    unfold docU
    have hlt4 : w.heap.size + 1 + 1 < w4.heap.size := (Array.getElem?_eq_some_iff.1 HY2.out).1
    have HB5 : Hid (Below w.heap.size w w5) := Lib.hid (HB4.out.trans (hb5.mono HB4.out.size))
    have hz0 := (hb5.block _ (Array.getElem?_eq_some_iff.1 HY0.out).1).trans HY0.out
    have hz2 := (hb5.block _ hlt4).trans HY2.out
    have HD5 := Lib.hid hd5
    have HN2 : Hid ¬ (B (w.heap.size + 1 + 1) ∨ w4.heap.size ≤ w.heap.size + 1 + 1) := Lib.hid (by rintro (h | h); (have := HBB.out _ h; omega); omega)
    have HN0 : Hid ¬ (B w.heap.size ∨ w4.heap.size ≤ w.heap.size) := Lib.hid (by rintro (h | h); (have := HBB.out _ h; omega); omega)
    obtain ⟨x0, x1, x2, xf⟩ := three_cells hz0
    obtain ⟨z0, z1, z2, zf⟩ := three_cells hz2
    obtain ⟨ln, hln⟩ : ∃ n, n = xu.cells.length := ⟨_, rfl⟩
    rw [← hln] at HD5
    have HZ2 := Lib.hid hz2
    have HZ0 := Lib.hid hz0
    clear hb5 hd5 hz2 hz0 y0 y1 y2 y3
    have hne1 : ¬ w.heap.size + 1 + 1 = w.heap.size := by omega
    have hne2 : ¬ w.heap.size = w.heap.size + 1 + 1 := by omega
    obtain ⟨W6, hW6⟩ : ∃ W6, W6 = tri w5 w.heap.size (.int .i64 xu.epoch) (.int .i64 xu.low) (.slice ao5 ln cap5) := ⟨_, rfl⟩
    have h6a := tri_blk HZ0.out (.int .i64 xu.epoch) (.int .i64 xu.low) (.slice ao5 ln cap5)
    rw [← hW6] at h6a
    have h6b := ((fr_tri w5 w.heap.size (.int .i64 xu.epoch) (.int .i64 xu.low) (.slice ao5 ln cap5)).block _ (Array.getElem?_eq_some_iff.1 HZ2.out).1 hne1).trans HZ2.out
    rw [← hW6] at h6b
    have HB6 : Hid (Below w.heap.size w W6) := Lib.hid (by rw [hW6]; exact fresh_tri HB5.out (Nat.le_refl _) _ _ _)
    have HD6 : Hid (DocU W6 (fun j => B j ∨ w4.heap.size ≤ j) (.slice ao5 ln cap5) xu) := Lib.hid (by rw [hW6]; exact DocU.tri' HD5.out HN0.out _ _ _)
    have hw := tri_blk h6b (.int .i64 xu.epoch) (.int .i64 xu.low) (.slice ao5 ln cap5)
    obtain ⟨p0, p1, p2, _⟩ := three_cells hw
    have HW9 : Hid (CPostU B w (0, xu, xc) (.returned (.tuple #[.int .i64 0, .agg #[.int .i64 xu.epoch, .int .i64 xu.low, .slice ao5 ln cap5], .int .i64 (xc : Int)])) (tri W6 (w.heap.size + 1 + 1) (.int .i64 xu.epoch) (.int .i64 xu.low) (.slice ao5 ln cap5)).drew) := Lib.hid (by
      refine ⟨.slice ao5 ln cap5, rfl, ?_, (fresh_tri HB6.out (by omega) _ _ _).drew⟩
      have h1 := DocU.tri' HD6.out HN2.out (.int .i64 xu.epoch) (.int .i64 xu.low) (.slice ao5 ln cap5)
      exact (DocU.grown h1 (below_drew9 _)).wide fun j hj => hj.imp id fun h => by have := HB4.out.size; omega)
    obtain ⟨u0, u1, u2, uf⟩ := three_cells h6a
    obtain ⟨t0, t1, t2, tf⟩ := three_cells h6b
    unfold tri at HW9 p0 p1 p2 hW6
    have HW6 := Lib.hid hW6
    rw [← hln]
    clear hw h6a h6b hln hW6
    go_wp2_with fail
    rw [← HW6.out]
    clear x0 x1 x2 xf z0 z1 z2 zf
    go_region
    all_goals
      go_wp2
      refine bodyPost_ret (v := .tuple #[.int .i64 0, .agg #[.int .i64 xu.epoch, .int .i64 xu.low, .slice ao5 ln cap5], .int .i64 (xc : Int)]) (by simp [results, Tryz.results21, go_sem, p0, p1, p2]) rfl ?_
      exact HW9.out
  cases q3 : (k == 3)
  rotate_left
  · obtain ⟨xn, xu, xc⟩ := X
    have he : (xn, xu, xc) = (0, (ufill U e a).1, (ufill U e a).2) := by rw [HX3.out, if_neg (show ¬ k = 1 by simpa using q1), if_neg (show ¬ k = 2 by simpa using q2), if_pos (show k = 3 by simpa using q3)]
    obtain ⟨rfl, he2⟩ := Prod.mk.inj he
    have hcall := rfillU_any HD4.out HOK.out e a
    rw [show ufill U e a = (xu, xc) from he2.symm] at hcall
    unfold docU at hcall
    rw [← HEP.out, ← HLW.out] at hcall
    have HCALL := Lib.hid hcall
    clear hcall
    go_wp2_with fail
    refine HCALL.out.mono ?_
    rintro r w5 ⟨lv5, rfl, hd5, hb5⟩
    obtain ⟨ao5, cap5, rfl⟩ := hd5.val
    unfold docU
    have hlt4 : w.heap.size + 1 + 1 < w4.heap.size := (Array.getElem?_eq_some_iff.1 HY2.out).1
    have HB5 : Hid (Below w.heap.size w w5) := Lib.hid (HB4.out.trans (hb5.mono HB4.out.size))
    have hz0 := (hb5.block _ (Array.getElem?_eq_some_iff.1 HY0.out).1).trans HY0.out
    have hz2 := (hb5.block _ hlt4).trans HY2.out
    have HD5 := Lib.hid hd5
    have HN2 : Hid ¬ (B (w.heap.size + 1 + 1) ∨ w4.heap.size ≤ w.heap.size + 1 + 1) := Lib.hid (by rintro (h | h); (have := HBB.out _ h; omega); omega)
    have HN0 : Hid ¬ (B w.heap.size ∨ w4.heap.size ≤ w.heap.size) := Lib.hid (by rintro (h | h); (have := HBB.out _ h; omega); omega)
    obtain ⟨x0, x1, x2, xf⟩ := three_cells hz0
    obtain ⟨z0, z1, z2, zf⟩ := three_cells hz2
    obtain ⟨ln, hln⟩ : ∃ n, n = xu.cells.length := ⟨_, rfl⟩
    rw [← hln] at HD5
    have HZ2 := Lib.hid hz2
    have HZ0 := Lib.hid hz0
    clear hb5 hd5 hz2 hz0 y0 y1 y2 y3
    have hne1 : ¬ w.heap.size + 1 + 1 = w.heap.size := by omega
    have hne2 : ¬ w.heap.size = w.heap.size + 1 + 1 := by omega
    obtain ⟨W6, hW6⟩ : ∃ W6, W6 = tri w5 w.heap.size (.int .i64 xu.epoch) (.int .i64 xu.low) (.slice ao5 ln cap5) := ⟨_, rfl⟩
    have h6a := tri_blk HZ0.out (.int .i64 xu.epoch) (.int .i64 xu.low) (.slice ao5 ln cap5)
    rw [← hW6] at h6a
    have h6b := ((fr_tri w5 w.heap.size (.int .i64 xu.epoch) (.int .i64 xu.low) (.slice ao5 ln cap5)).block _ (Array.getElem?_eq_some_iff.1 HZ2.out).1 hne1).trans HZ2.out
    rw [← hW6] at h6b
    have HB6 : Hid (Below w.heap.size w W6) := Lib.hid (by rw [hW6]; exact fresh_tri HB5.out (Nat.le_refl _) _ _ _)
    have HD6 : Hid (DocU W6 (fun j => B j ∨ w4.heap.size ≤ j) (.slice ao5 ln cap5) xu) := Lib.hid (by rw [hW6]; exact DocU.tri' HD5.out HN0.out _ _ _)
    have hw := tri_blk h6b (.int .i64 xu.epoch) (.int .i64 xu.low) (.slice ao5 ln cap5)
    obtain ⟨p0, p1, p2, _⟩ := three_cells hw
    have HW9 : Hid (CPostU B w (0, xu, xc) (.returned (.tuple #[.int .i64 0, .agg #[.int .i64 xu.epoch, .int .i64 xu.low, .slice ao5 ln cap5], .int .i64 (xc : Int)])) (tri W6 (w.heap.size + 1 + 1) (.int .i64 xu.epoch) (.int .i64 xu.low) (.slice ao5 ln cap5)).drew) := Lib.hid (by
      refine ⟨.slice ao5 ln cap5, rfl, ?_, (fresh_tri HB6.out (by omega) _ _ _).drew⟩
      have h1 := DocU.tri' HD6.out HN2.out (.int .i64 xu.epoch) (.int .i64 xu.low) (.slice ao5 ln cap5)
      exact (DocU.grown h1 (below_drew9 _)).wide fun j hj => hj.imp id fun h => by have := HB4.out.size; omega)
    obtain ⟨u0, u1, u2, uf⟩ := three_cells h6a
    obtain ⟨t0, t1, t2, tf⟩ := three_cells h6b
    unfold tri at HW9 p0 p1 p2 hW6
    have HW6 := Lib.hid hW6
    rw [← hln]
    clear hw h6a h6b hln hW6
    go_wp2_with fail
    rw [← HW6.out]
    clear x0 x1 x2 xf z0 z1 z2 zf
    go_region
    all_goals
      go_wp2
      refine bodyPost_ret (v := .tuple #[.int .i64 0, .agg #[.int .i64 xu.epoch, .int .i64 xu.low, .slice ao5 ln cap5], .int .i64 (xc : Int)]) (by simp [results, Tryz.results21, go_sem, p0, p1, p2]) rfl ?_
      exact HW9.out
  cases q4 : (k == 4)
  rotate_left
  · obtain ⟨xn, xu, xc⟩ := X
    have he : (xn, xu, xc) = (0, (utrim U e a).1, (utrim U e a).2) := by rw [HX3.out, if_neg (show ¬ k = 1 by simpa using q1), if_neg (show ¬ k = 2 by simpa using q2), if_neg (show ¬ k = 3 by simpa using q3), if_pos (show k = 4 by simpa using q4)]
    obtain ⟨rfl, he2⟩ := Prod.mk.inj he
    have hcall := rtrimU_any HD4.out HOK.out e a
    rw [show utrim U e a = (xu, xc) from he2.symm] at hcall
    unfold docU at hcall
    rw [← HEP.out, ← HLW.out] at hcall
    have HCALL := Lib.hid hcall
    clear hcall
    go_wp2_with fail
    refine HCALL.out.mono ?_
    rintro r w5 ⟨lv5, rfl, hd5, hb5⟩
    obtain ⟨ao5, cap5, rfl⟩ := hd5.val
    unfold docU
    have hlt4 : w.heap.size + 1 + 1 < w4.heap.size := (Array.getElem?_eq_some_iff.1 HY2.out).1
    have HB5 : Hid (Below w.heap.size w w5) := Lib.hid (HB4.out.trans (hb5.mono HB4.out.size))
    have hz0 := (hb5.block _ (Array.getElem?_eq_some_iff.1 HY0.out).1).trans HY0.out
    have hz2 := (hb5.block _ hlt4).trans HY2.out
    have HD5 := Lib.hid hd5
    have HN2 : Hid ¬ (B (w.heap.size + 1 + 1) ∨ w4.heap.size ≤ w.heap.size + 1 + 1) := Lib.hid (by rintro (h | h); (have := HBB.out _ h; omega); omega)
    have HN0 : Hid ¬ (B w.heap.size ∨ w4.heap.size ≤ w.heap.size) := Lib.hid (by rintro (h | h); (have := HBB.out _ h; omega); omega)
    obtain ⟨x0, x1, x2, xf⟩ := three_cells hz0
    obtain ⟨z0, z1, z2, zf⟩ := three_cells hz2
    obtain ⟨ln, hln⟩ : ∃ n, n = xu.cells.length := ⟨_, rfl⟩
    rw [← hln] at HD5
    have HZ2 := Lib.hid hz2
    have HZ0 := Lib.hid hz0
    clear hb5 hd5 hz2 hz0 y0 y1 y2 y3
    have hne1 : ¬ w.heap.size + 1 + 1 = w.heap.size := by omega
    have hne2 : ¬ w.heap.size = w.heap.size + 1 + 1 := by omega
    obtain ⟨W6, hW6⟩ : ∃ W6, W6 = tri w5 w.heap.size (.int .i64 xu.epoch) (.int .i64 xu.low) (.slice ao5 ln cap5) := ⟨_, rfl⟩
    have h6a := tri_blk HZ0.out (.int .i64 xu.epoch) (.int .i64 xu.low) (.slice ao5 ln cap5)
    rw [← hW6] at h6a
    have h6b := ((fr_tri w5 w.heap.size (.int .i64 xu.epoch) (.int .i64 xu.low) (.slice ao5 ln cap5)).block _ (Array.getElem?_eq_some_iff.1 HZ2.out).1 hne1).trans HZ2.out
    rw [← hW6] at h6b
    have HB6 : Hid (Below w.heap.size w W6) := Lib.hid (by rw [hW6]; exact fresh_tri HB5.out (Nat.le_refl _) _ _ _)
    have HD6 : Hid (DocU W6 (fun j => B j ∨ w4.heap.size ≤ j) (.slice ao5 ln cap5) xu) := Lib.hid (by rw [hW6]; exact DocU.tri' HD5.out HN0.out _ _ _)
    have hw := tri_blk h6b (.int .i64 xu.epoch) (.int .i64 xu.low) (.slice ao5 ln cap5)
    obtain ⟨p0, p1, p2, _⟩ := three_cells hw
    have HW9 : Hid (CPostU B w (0, xu, xc) (.returned (.tuple #[.int .i64 0, .agg #[.int .i64 xu.epoch, .int .i64 xu.low, .slice ao5 ln cap5], .int .i64 (xc : Int)])) (tri W6 (w.heap.size + 1 + 1) (.int .i64 xu.epoch) (.int .i64 xu.low) (.slice ao5 ln cap5)).drew) := Lib.hid (by
      refine ⟨.slice ao5 ln cap5, rfl, ?_, (fresh_tri HB6.out (by omega) _ _ _).drew⟩
      have h1 := DocU.tri' HD6.out HN2.out (.int .i64 xu.epoch) (.int .i64 xu.low) (.slice ao5 ln cap5)
      exact (DocU.grown h1 (below_drew9 _)).wide fun j hj => hj.imp id fun h => by have := HB4.out.size; omega)
    obtain ⟨u0, u1, u2, uf⟩ := three_cells h6a
    obtain ⟨t0, t1, t2, tf⟩ := three_cells h6b
    unfold tri at HW9 p0 p1 p2 hW6
    have HW6 := Lib.hid hW6
    rw [← hln]
    clear hw h6a h6b hln hW6
    go_wp2_with fail
    rw [← HW6.out]
    clear x0 x1 x2 xf z0 z1 z2 zf
    go_region
    all_goals
      go_wp2
      refine bodyPost_ret (v := .tuple #[.int .i64 0, .agg #[.int .i64 xu.epoch, .int .i64 xu.low, .slice ao5 ln cap5], .int .i64 (xc : Int)]) (by simp [results, Tryz.results21, go_sem, p0, p1, p2]) rfl ?_
      exact HW9.out
  obtain ⟨xn, xu, xc⟩ := X
  have HE : Hid ((xn, xu, xc) = ucut U e a) := Lib.hid (by rw [HX3.out, if_neg (show ¬ k = 1 by simpa using q1), if_neg (show ¬ k = 2 by simpa using q2), if_neg (show ¬ k = 3 by simpa using q3), if_neg (show ¬ k = 4 by simpa using q4)])
  have hcall := rcutU_any HD4.out HOK.out e a
  rw [← HE.out] at hcall
  unfold docU at hcall
  rw [← HEP.out, ← HLW.out] at hcall
  have HCALL := Lib.hid hcall
  clear hcall
  go_wp2_with fail
  refine HCALL.out.mono ?_
  rintro r w5 ⟨lv5, rfl, hd5, hb5⟩
  obtain ⟨ao5, cap5, rfl⟩ := hd5.val
  unfold docU
  have hlt4 : w.heap.size + 1 + 1 < w4.heap.size := (Array.getElem?_eq_some_iff.1 HY2.out).1
  have HB5 : Hid (Below w.heap.size w w5) := Lib.hid (HB4.out.trans (hb5.mono HB4.out.size))
  have hz0 := (hb5.block _ (Array.getElem?_eq_some_iff.1 HY0.out).1).trans HY0.out
  have hz2 := (hb5.block _ hlt4).trans HY2.out
  have HD5 := Lib.hid hd5
  have HN2 : Hid ¬ (B (w.heap.size + 1 + 1) ∨ w4.heap.size ≤ w.heap.size + 1 + 1) := Lib.hid (by rintro (h | h); (have := HBB.out _ h; omega); omega)
  have HN0 : Hid ¬ (B w.heap.size ∨ w4.heap.size ≤ w.heap.size) := Lib.hid (by rintro (h | h); (have := HBB.out _ h; omega); omega)
  obtain ⟨x0, x1, x2, xf⟩ := three_cells hz0
  obtain ⟨z0, z1, z2, zf⟩ := three_cells hz2
  obtain ⟨ln, hln⟩ : ∃ n, n = xu.cells.length := ⟨_, rfl⟩
  rw [← hln] at HD5
  have HZ2 := Lib.hid hz2
  have HZ0 := Lib.hid hz0
  clear hb5 hd5 hz2 hz0 y0 y1 y2 y3
  have hw := tri_blk HZ2.out (.int .i64 xu.epoch) (.int .i64 xu.low) (.slice ao5 ln cap5)
  obtain ⟨p0, p1, p2, _⟩ := three_cells hw
  have HW9 : Hid (CPostU B w (xn, xu, xc) (.returned (.tuple #[.int .i64 xn, .agg #[.int .i64 xu.epoch, .int .i64 xu.low, .slice ao5 ln cap5], .int .i64 (xc : Int)])) (tri w5 (w.heap.size + 1 + 1) (.int .i64 xu.epoch) (.int .i64 xu.low) (.slice ao5 ln cap5))) := Lib.hid (by
    refine ⟨.slice ao5 ln cap5, rfl, ?_, fresh_tri HB5.out (by omega) _ _ _⟩
    exact (DocU.tri' HD5.out HN2.out _ _ _).wide fun j hj => hj.imp id fun h => by have := HB4.out.size; omega)
  rw [← hln]
  clear hw hln
  unfold tri at HW9 p0 p1 p2
  go_wp2
  refine bodyPost_ret (v := .tuple #[.int .i64 xn, .agg #[.int .i64 xu.epoch, .int .i64 xu.low, .slice ao5 ln cap5], .int .i64 (xc : Int)]) (by simp [results, Tryz.results21, go_sem, p0, p1, p2]) rfl ?_
  exact HW9.out
end Go.Proofs.YtiaijpknnomlnaaGreat
