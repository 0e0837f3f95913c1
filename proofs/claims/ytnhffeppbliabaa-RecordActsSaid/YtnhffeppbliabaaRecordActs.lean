/- RecordActs, walked. -/
import Derived.Test.YtnhffeppbliabaaRcQ
import Derived.Test.YtnhffeppbliabaaIsA
import Derived.Deep.CutBlock
namespace Go.Proofs.Ytnhffeppbliabaa
open Go.RowKit

set_option maxHeartbeats 8000000 in
set_option maxRecDepth 100000 in
theorem recordActs_walk (k e a kind : Int) (v : Value) (d : List Nat) (w : World) (hr : Reads w .u8 v d) (h8 : ∀ y ∈ d, y < 256) :
    Calls Try.prog 7 #[.agg #[.int .i64 k, .int .i64 e, .int .i64 a, v], .int .i64 kind] w fun e w' => e = .returned (.bool true) ∧ Below w.heap.size w w' := by
  obtain ⟨ao, cap, rfl, _, _, _⟩ := hr.val
  obtain ⟨W1, hW1⟩ : ∃ W1, W1 = w.alloc (.cells #[.int .i64 k, .int .i64 e, .int .i64 a, .slice ao d.length cap] 62) := ⟨_, rfl⟩
  have hb1 : Below w.heap.size w W1 := by rw [hW1]; exact (Below.refl _ _).alloc (Nat.le_refl _) _
  have hx1 : W1.heap[w.heap.size]? = some (.cells #[.int .i64 k, .int .i64 e, .int .i64 a, .slice ao d.length cap] 62 (0, 0)) := by rw [hW1]; exact heap_alloc_new _ _
  have HX : Hid (∀ W, Below W1.heap.size W1 W → W.cell? ⟨w.heap.size, 0, none⟩ = some (.int .i64 k) ∧ W.cell? ⟨w.heap.size, 1, none⟩ = some (.int .i64 e) ∧ W.cell? ⟨w.heap.size, 2, none⟩ = some (.int .i64 a) ∧ W.cell? ⟨w.heap.size, 3, none⟩ = some (.slice ao d.length cap)) := Lib.hid fun W hb => by
    obtain ⟨h0, h1, h2, h3, _⟩ := four_cells9 ((hb.block _ (Array.getElem?_eq_some_iff.1 hx1).1).trans hx1)
    exact ⟨h0, h1, h2, h3⟩
  have HB1 := Lib.hid hb1
  have HD : Hid (∀ W, Below W1.heap.size W1 W → Reads W .u8 (.slice ao d.length cap) d) := Lib.hid fun W hb => (hr.new hb1).new hb
  have H8 := Lib.hid h8
  have HW1 := Lib.hid hW1
  obtain ⟨nd, hnd⟩ : ∃ n, n = d.length := ⟨_, rfl⟩
  rw [← hnd] at HX HD HW1
  rw [← hnd]
  have HND := Lib.hid hnd
  clear hr hb1 hx1 h8 hW1 hnd
  go_enter Try.func7, Try.ntmps7
  go_wp2_with fail
  rw [← HW1.out]
  refine (alive9_any W1).mono ?_
  rintro r w2 ⟨rfl, hb2⟩
  have HB12 := Lib.hid hb2
  obtain ⟨x0, x1, x2, x3⟩ := HX.out w2 hb2
  clear hb2
  by_cases h100 : (100 : Int) < (nd : Int)
  · go_wp2
    go_ret
    exact ⟨rfl, HB1.out.trans (HB12.out.mono HB1.out.size)⟩
  have HPU := Lib.hid (rput_any k e a (.slice ao nd cap) d w2 (HD.out w2 HB12.out) H8.out)
  have HL100 : Hid (nd ≤ 100) := Lib.hid (by omega)
  rw [← HND.out] at HPU
  go_wp2_with fail
  clear h100
  refine HPU.out.mono ?_
  rintro r w3 ⟨hb3, hcase⟩
  have HB13 : Hid (Below W1.heap.size W1 w3) := Lib.hid (HB12.out.trans (hb3.mono HB12.out.size))
  obtain ⟨c, hc⟩ : ∃ c, c = rchk k e a nd := ⟨_, rfl⟩
  rw [← hc] at hcase
  have HC := Lib.hid hc
  have HDO := Lib.hid (rdoc_any k e a (.slice ao nd cap) d w3 (HD.out w3 HB13.out))
  have HCK := Lib.hid (fun W => rcheck9_any k e a ao nd cap W)
  rw [← hc] at HCK
  have hrc := fun W => rrcheck_any k e a (S8 d) W
  rw [S8_size, ← HND.out, ← hc] at hrc
  have HRC := Lib.hid hrc
  obtain ⟨x0, x1, x2, x3⟩ := HX.out w3 HB13.out
  obtain ⟨er, her⟩ : ∃ er, er = errV c := ⟨_, rfl⟩
  have HNUM : Hid (∀ W, Calls Try.prog 15 #[er] W fun e w' => e = .returned (.int .i64 (c : Int)) ∧ W = w') := Lib.hid fun W => by rw [her]; exact num_any c W
  rw [← her] at HCK
  have HWD := Lib.hid (fun W => rword_any kind W)
  -- what Put answered
  obtain ⟨bv, ev, rfl, hpv⟩ : ∃ bv ev, r = .returned (.tuple #[bv, ev]) ∧ ev = er ∧ ((c ≠ 0 ∧ bv = .slice none 0 0) ∨ (c = 0 ∧ Owns w3 w2.heap.size 5 .u8 bv (fr (rtext k.toNat e.toNat a.toNat d)))) := by
    rcases hcase with ⟨hz, hr⟩ | ⟨hz, v', hr, ho⟩
    · exact ⟨_, _, hr, by rw [her], .inl ⟨hz, rfl⟩⟩
    · exact ⟨_, _, hr, by rw [her, hz, errV_zero], .inr ⟨hz, ho⟩⟩
  obtain ⟨rfl, hpv⟩ := hpv
  have HPV := Lib.hid hpv
  obtain ⟨aob, nb, capb, hbv⟩ : ∃ aob nb capb, bv = .slice aob nb capb := by
    rcases hpv with ⟨_, h⟩ | ⟨_, ho⟩
    · exact ⟨_, _, _, h⟩
    · obtain ⟨ao, cap, h, _⟩ := ho.reads.val
      exact ⟨_, _, _, h⟩
  subst hbv
  clear hb3 hcase hc hrc her hpv
  go_wp2_with fail
  refine HDO.out.mono ?_
  rintro r w4 ⟨rfl, hb4⟩
  obtain ⟨s, hs⟩ : ∃ s, s = S8 d := ⟨_, rfl⟩
  have HS := Lib.hid hs
  rw [← hs] at HRC ⊢
  obtain ⟨W5, hW5⟩ : ∃ W5, W5 = w4.alloc (.cells #[.int .i64 k, .int .i64 e, .int .i64 a, .string s] 66) := ⟨_, rfl⟩
  have hb5 : Below w4.heap.size w4 W5 := by rw [hW5]; exact (Below.refl _ _).alloc (Nat.le_refl _) _
  have hx5 : W5.heap[w4.heap.size]? = some (.cells #[.int .i64 k, .int .i64 e, .int .i64 a, .string s] 66 (0, 0)) := by rw [hW5]; exact heap_alloc_new _ _
  obtain ⟨q, hq⟩ : ∃ q, q = w4.heap.size := ⟨_, rfl⟩
  rw [← hq] at hx5
  have HQ := Lib.hid hq
  have HB35 : Hid (Below w3.heap.size w3 W5) := Lib.hid (hb4.trans (hb5.mono hb4.size))
  have HY : Hid (∀ W, Below W5.heap.size W5 W → W.cell? ⟨q, 0, none⟩ = some (.int .i64 k) ∧ W.cell? ⟨q, 1, none⟩ = some (.int .i64 e) ∧ W.cell? ⟨q, 2, none⟩ = some (.int .i64 a) ∧ W.cell? ⟨q, 3, none⟩ = some (.string s)) := Lib.hid fun W hb => by
    obtain ⟨h0, h1, h2, h3, _⟩ := four_cells9 ((hb.block _ (Array.getElem?_eq_some_iff.1 hx5).1).trans hx5)
    exact ⟨h0, h1, h2, h3⟩
  have HW5 := Lib.hid hW5
  clear hb4 hs hb5 hx5 hq hW5 x0 x1 x2 x3
  go_wp2_with fail
  rw [← HW5.out, ← HQ.out]
  refine (HRC.out _).mono ?_
  rintro r w6 ⟨rfl, hb6⟩
  have HB36 : Hid (Below w3.heap.size w3 w6) := Lib.hid (HB35.out.trans (hb6.mono HB35.out.size))
  have HB56 := Lib.hid hb6
  clear hb6
  have hxl := HX.out w6 (HB13.out.trans (HB36.out.mono HB13.out.size))
  have hwl : w.heap.size < w6.heap.size := World.block_lt_of_cell? w6 _ hxl.1
  have HXA : Hid (∀ o, (w6.alloc o).cell? ⟨w.heap.size, 0, none⟩ = some (.int .i64 k) ∧ (w6.alloc o).cell? ⟨w.heap.size, 1, none⟩ = some (.int .i64 e) ∧ (w6.alloc o).cell? ⟨w.heap.size, 2, none⟩ = some (.int .i64 a) ∧ (w6.alloc o).cell? ⟨w.heap.size, 3, none⟩ = some (.slice ao nd cap)) := Lib.hid fun o => by
    have hb := Below.heap_alloc w6 o w.heap.size hwl
    exact ⟨(World.cell?_of_block hb).trans hxl.1, (World.cell?_of_block hb).trans hxl.2.1, (World.cell?_of_block hb).trans hxl.2.2.1, (World.cell?_of_block hb).trans hxl.2.2.2⟩
  have HXL := Lib.hid hxl
  clear hxl hwl
  by_cases h1 : kind = 1
  · subst h1
    have hwd := fun W => rword_any 1 W
    rw [show wordS 1 = ⟨#[115, 101, 97, 108]⟩ from rfl] at hwd
    have HWD := Lib.hid hwd
    have hsw : ((⟨#[115, 101, 97, 108]⟩ : ByteArray).toList == (⟨#[115, 101, 97, 108]⟩ : ByteArray).toList) = true := by simp
    have x0 := fun o => (HXA.out o).1
    have x1 := fun o => (HXA.out o).2.1
    have x2 := fun o => (HXA.out o).2.2.1
    have x3 := fun o => (HXA.out o).2.2.2
    clear hwd
    go_wp2_with fail
    refine (HCK.out _).mono ?_
    rintro r w7 ⟨rfl, hb7⟩
    have hbc : Below w6.heap.size w6 w7 := ((Below.refl _ _).alloc (Nat.le_refl _) _).trans (hb7.mono (by simp))
    have HB37 : Hid (Below w3.heap.size w3 w7) := Lib.hid (HB36.out.trans (hbc.mono HB36.out.size))
    have HB57 : Hid (Below W5.heap.size W5 w7) := Lib.hid (HB56.out.trans (hbc.mono HB56.out.size))
    clear hb7 hbc x0 x1 x2 x3
    go_wp2_with fail
    refine (HNUM.out _).mono ?_
    rintro r w8 ⟨rfl, rfl⟩
    go_wp2_with fail
    refine (HNUM.out _).mono ?_
    rintro r w8 ⟨rfl, rfl⟩
    go_wp2_with fail
    refine (HWD.out _).mono ?_
    rintro r w8 ⟨rfl, rfl⟩
    have HBF : Hid (Below w.heap.size w w8) := Lib.hid ((HB1.out.trans (HB13.out.mono HB1.out.size)).trans (HB37.out.mono (Nat.le_trans HB1.out.size HB13.out.size)))
    have HBX : Hid (w.heap.size ≤ w8.heap.size) := Lib.hid HBF.out.size
    by_cases hz : c = 0
    rotate_left
    · rcases HPV.out with ⟨_, hbv⟩ | ⟨h0, _⟩
      rotate_left
      · exact absurd h0 hz
      cases hbv
      have hzi : ¬ (c : Int) = 0 := by omega
      clear hz
      go_wp2
      go_ret
      exact ⟨rfl, HBF.out⟩
    · rcases HPV.out with ⟨h0, _⟩ | ⟨_, ho⟩
      · exact absurd hz h0
      obtain ⟨z1, z2, z3, z4, z5, z6, z7, _, _, _⟩ := rchk_zero (by rw [← HC.out]; exact hz)
      obtain ⟨kn, rfl⟩ : ∃ n : Nat, k = (n : Int) := ⟨k.toNat, by omega⟩
      obtain ⟨en, rfl⟩ : ∃ n : Nat, e = (n : Int) := ⟨e.toNat, by omega⟩
      obtain ⟨an, rfl⟩ : ∃ n : Nat, a = (n : Int) := ⟨a.toNat, by omega⟩
      simp only [Int.toNat_natCast] at ho
      have hd64 : d.length ≤ 64 := by rw [← HND.out]; exact z7
      have hpp := rrput_any kn en an d w8 (by omega) (by omega) (by omega) hd64 H8.out
      rw [← HS.out] at hpp
      have HPP := Lib.hid hpp
      have hby : ∀ y ∈ fr (rtext kn en an d), y < 256 := fr_byte (rtext_byte (u64_of_le (by omega)) (u64_of_le (by omega)) (u64_of_le (by omega)) H8.out hd64) (u64_of_le (by have := rtext_le (k := kn) (e := en) (a := an) (d := d) (u64_of_le (by omega)) (u64_of_le (by omega)) (u64_of_le (by omega)) hd64; omega))
      have HBY := Lib.hid hby
      have HO := Lib.hid (ho.reads.new HB37.out)
      obtain ⟨y0, y1, y2, y3⟩ := HY.out w8 HB57.out
      subst hz
      clear z1 z2 z3 z4 z5 z6 z7 ho hpp hby hd64
      go_wp2_with fail
      refine HPP.out.mono ?_
      rintro r w9 ⟨v9, rfl, ho9, hb9⟩
      have HO9 := Lib.hid ho9.reads
      have HO1 := Lib.hid (HO.out.new hb9)
      have HB9 : Hid (Below w.heap.size w w9) := Lib.hid (HBF.out.trans (hb9.mono HBF.out.size))
      clear ho9 hb9
      go_wp2_with fail
      refine (numBytes_any _ _ (fr (rtext kn en an d)) (fr (rtext kn en an d)) w9 HO1.out HO9.out HBY.out HBY.out).mono ?_
      rintro r w10 ⟨rfl, rfl⟩
      rw [decide_eq_true rfl]
      go_wp2
      go_ret
      exact ⟨rfl, HB9.out⟩
  by_cases h2 : kind = 2
  · subst h2
    have hwd := fun W => rword_any 2 W
    rw [show wordS 2 = ⟨#[119, 114, 105, 116, 101]⟩ from rfl] at hwd
    have HWD := Lib.hid hwd
    have hsw : ((⟨#[119, 114, 105, 116, 101]⟩ : ByteArray).toList == (⟨#[119, 114, 105, 116, 101]⟩ : ByteArray).toList) = true := by simp
    have x0 := fun o => (HXA.out o).1
    have x1 := fun o => (HXA.out o).2.1
    have x2 := fun o => (HXA.out o).2.2.1
    have x3 := fun o => (HXA.out o).2.2.2
    clear hwd
    go_wp2_with fail
    refine (HCK.out _).mono ?_
    rintro r w7 ⟨rfl, hb7⟩
    have hbc : Below w6.heap.size w6 w7 := ((Below.refl _ _).alloc (Nat.le_refl _) _).trans (hb7.mono (by simp))
    have HB37 : Hid (Below w3.heap.size w3 w7) := Lib.hid (HB36.out.trans (hbc.mono HB36.out.size))
    have HB57 : Hid (Below W5.heap.size W5 w7) := Lib.hid (HB56.out.trans (hbc.mono HB56.out.size))
    clear hb7 hbc x0 x1 x2 x3
    go_wp2_with fail
    refine (HNUM.out _).mono ?_
    rintro r w8 ⟨rfl, rfl⟩
    go_wp2_with fail
    refine (HNUM.out _).mono ?_
    rintro r w8 ⟨rfl, rfl⟩
    go_wp2_with fail
    refine (HWD.out _).mono ?_
    rintro r w8 ⟨rfl, rfl⟩
    have HBF : Hid (Below w.heap.size w w8) := Lib.hid ((HB1.out.trans (HB13.out.mono HB1.out.size)).trans (HB37.out.mono (Nat.le_trans HB1.out.size HB13.out.size)))
    have HBX : Hid (w.heap.size ≤ w8.heap.size) := Lib.hid HBF.out.size
    by_cases hz : c = 0
    rotate_left
    · rcases HPV.out with ⟨_, hbv⟩ | ⟨h0, _⟩
      rotate_left
      · exact absurd h0 hz
      cases hbv
      have hzi : ¬ (c : Int) = 0 := by omega
      clear hz
      go_wp2
      go_ret
      exact ⟨rfl, HBF.out⟩
    · rcases HPV.out with ⟨h0, _⟩ | ⟨_, ho⟩
      · exact absurd hz h0
      obtain ⟨z1, z2, z3, z4, z5, z6, z7, _, _, _⟩ := rchk_zero (by rw [← HC.out]; exact hz)
      obtain ⟨kn, rfl⟩ : ∃ n : Nat, k = (n : Int) := ⟨k.toNat, by omega⟩
      obtain ⟨en, rfl⟩ : ∃ n : Nat, e = (n : Int) := ⟨e.toNat, by omega⟩
      obtain ⟨an, rfl⟩ : ∃ n : Nat, a = (n : Int) := ⟨a.toNat, by omega⟩
      simp only [Int.toNat_natCast] at ho
      have hd64 : d.length ≤ 64 := by rw [← HND.out]; exact z7
      have hpp := rrput_any kn en an d w8 (by omega) (by omega) (by omega) hd64 H8.out
      rw [← HS.out] at hpp
      have HPP := Lib.hid hpp
      have hby : ∀ y ∈ fr (rtext kn en an d), y < 256 := fr_byte (rtext_byte (u64_of_le (by omega)) (u64_of_le (by omega)) (u64_of_le (by omega)) H8.out hd64) (u64_of_le (by have := rtext_le (k := kn) (e := en) (a := an) (d := d) (u64_of_le (by omega)) (u64_of_le (by omega)) (u64_of_le (by omega)) hd64; omega))
      have HBY := Lib.hid hby
      have HO := Lib.hid (ho.reads.new HB37.out)
      obtain ⟨y0, y1, y2, y3⟩ := HY.out w8 HB57.out
      subst hz
      clear z1 z2 z3 z4 z5 z6 z7 ho hpp hby hd64
      go_wp2_with fail
      refine HPP.out.mono ?_
      rintro r w9 ⟨v9, rfl, ho9, hb9⟩
      have HO9 := Lib.hid ho9.reads
      have HO1 := Lib.hid (HO.out.new hb9)
      have HB9 : Hid (Below w.heap.size w w9) := Lib.hid (HBF.out.trans (hb9.mono HBF.out.size))
      clear ho9 hb9
      go_wp2_with fail
      refine (numBytes_any _ _ (fr (rtext kn en an d)) (fr (rtext kn en an d)) w9 HO1.out HO9.out HBY.out HBY.out).mono ?_
      rintro r w10 ⟨rfl, rfl⟩
      rw [decide_eq_true rfl]
      go_wp2
      go_ret
      exact ⟨rfl, HB9.out⟩
  by_cases h3 : kind = 3
  · subst h3
    have hwd := fun W => rword_any 3 W
    rw [show wordS 3 = ⟨#[102, 105, 108, 108]⟩ from rfl] at hwd
    have HWD := Lib.hid hwd
    have hsw : ((⟨#[102, 105, 108, 108]⟩ : ByteArray).toList == (⟨#[102, 105, 108, 108]⟩ : ByteArray).toList) = true := by simp
    have x0 := fun o => (HXA.out o).1
    have x1 := fun o => (HXA.out o).2.1
    have x2 := fun o => (HXA.out o).2.2.1
    have x3 := fun o => (HXA.out o).2.2.2
    clear hwd
    go_wp2_with fail
    refine (HCK.out _).mono ?_
    rintro r w7 ⟨rfl, hb7⟩
    have hbc : Below w6.heap.size w6 w7 := ((Below.refl _ _).alloc (Nat.le_refl _) _).trans (hb7.mono (by simp))
    have HB37 : Hid (Below w3.heap.size w3 w7) := Lib.hid (HB36.out.trans (hbc.mono HB36.out.size))
    have HB57 : Hid (Below W5.heap.size W5 w7) := Lib.hid (HB56.out.trans (hbc.mono HB56.out.size))
    clear hb7 hbc x0 x1 x2 x3
    go_wp2_with fail
    refine (HNUM.out _).mono ?_
    rintro r w8 ⟨rfl, rfl⟩
    go_wp2_with fail
    refine (HNUM.out _).mono ?_
    rintro r w8 ⟨rfl, rfl⟩
    go_wp2_with fail
    refine (HWD.out _).mono ?_
    rintro r w8 ⟨rfl, rfl⟩
    have HBF : Hid (Below w.heap.size w w8) := Lib.hid ((HB1.out.trans (HB13.out.mono HB1.out.size)).trans (HB37.out.mono (Nat.le_trans HB1.out.size HB13.out.size)))
    have HBX : Hid (w.heap.size ≤ w8.heap.size) := Lib.hid HBF.out.size
    by_cases hz : c = 0
    rotate_left
    · rcases HPV.out with ⟨_, hbv⟩ | ⟨h0, _⟩
      rotate_left
      · exact absurd h0 hz
      cases hbv
      have hzi : ¬ (c : Int) = 0 := by omega
      clear hz
      go_wp2
      go_ret
      exact ⟨rfl, HBF.out⟩
    · rcases HPV.out with ⟨h0, _⟩ | ⟨_, ho⟩
      · exact absurd hz h0
      obtain ⟨z1, z2, z3, z4, z5, z6, z7, _, _, _⟩ := rchk_zero (by rw [← HC.out]; exact hz)
      obtain ⟨kn, rfl⟩ : ∃ n : Nat, k = (n : Int) := ⟨k.toNat, by omega⟩
      obtain ⟨en, rfl⟩ : ∃ n : Nat, e = (n : Int) := ⟨e.toNat, by omega⟩
      obtain ⟨an, rfl⟩ : ∃ n : Nat, a = (n : Int) := ⟨a.toNat, by omega⟩
      simp only [Int.toNat_natCast] at ho
      have hd64 : d.length ≤ 64 := by rw [← HND.out]; exact z7
      have hpp := rrput_any kn en an d w8 (by omega) (by omega) (by omega) hd64 H8.out
      rw [← HS.out] at hpp
      have HPP := Lib.hid hpp
      have hby : ∀ y ∈ fr (rtext kn en an d), y < 256 := fr_byte (rtext_byte (u64_of_le (by omega)) (u64_of_le (by omega)) (u64_of_le (by omega)) H8.out hd64) (u64_of_le (by have := rtext_le (k := kn) (e := en) (a := an) (d := d) (u64_of_le (by omega)) (u64_of_le (by omega)) (u64_of_le (by omega)) hd64; omega))
      have HBY := Lib.hid hby
      have HO := Lib.hid (ho.reads.new HB37.out)
      obtain ⟨y0, y1, y2, y3⟩ := HY.out w8 HB57.out
      subst hz
      clear z1 z2 z3 z4 z5 z6 z7 ho hpp hby hd64
      go_wp2_with fail
      refine HPP.out.mono ?_
      rintro r w9 ⟨v9, rfl, ho9, hb9⟩
      have HO9 := Lib.hid ho9.reads
      have HO1 := Lib.hid (HO.out.new hb9)
      have HB9 : Hid (Below w.heap.size w w9) := Lib.hid (HBF.out.trans (hb9.mono HBF.out.size))
      clear ho9 hb9
      go_wp2_with fail
      refine (numBytes_any _ _ (fr (rtext kn en an d)) (fr (rtext kn en an d)) w9 HO1.out HO9.out HBY.out HBY.out).mono ?_
      rintro r w10 ⟨rfl, rfl⟩
      rw [decide_eq_true rfl]
      go_wp2
      go_ret
      exact ⟨rfl, HB9.out⟩
  by_cases h4 : kind = 4
  · subst h4
    have hwd := fun W => rword_any 4 W
    rw [show wordS 4 = ⟨#[116, 114, 105, 109]⟩ from rfl] at hwd
    have HWD := Lib.hid hwd
    have hsw : ((⟨#[116, 114, 105, 109]⟩ : ByteArray).toList == (⟨#[116, 114, 105, 109]⟩ : ByteArray).toList) = true := by simp
    have x0 := fun o => (HXA.out o).1
    have x1 := fun o => (HXA.out o).2.1
    have x2 := fun o => (HXA.out o).2.2.1
    have x3 := fun o => (HXA.out o).2.2.2
    clear hwd
    go_wp2_with fail
    refine (HCK.out _).mono ?_
    rintro r w7 ⟨rfl, hb7⟩
    have hbc : Below w6.heap.size w6 w7 := ((Below.refl _ _).alloc (Nat.le_refl _) _).trans (hb7.mono (by simp))
    have HB37 : Hid (Below w3.heap.size w3 w7) := Lib.hid (HB36.out.trans (hbc.mono HB36.out.size))
    have HB57 : Hid (Below W5.heap.size W5 w7) := Lib.hid (HB56.out.trans (hbc.mono HB56.out.size))
    clear hb7 hbc x0 x1 x2 x3
    go_wp2_with fail
    refine (HNUM.out _).mono ?_
    rintro r w8 ⟨rfl, rfl⟩
    go_wp2_with fail
    refine (HNUM.out _).mono ?_
    rintro r w8 ⟨rfl, rfl⟩
    go_wp2_with fail
    refine (HWD.out _).mono ?_
    rintro r w8 ⟨rfl, rfl⟩
    have HBF : Hid (Below w.heap.size w w8) := Lib.hid ((HB1.out.trans (HB13.out.mono HB1.out.size)).trans (HB37.out.mono (Nat.le_trans HB1.out.size HB13.out.size)))
    have HBX : Hid (w.heap.size ≤ w8.heap.size) := Lib.hid HBF.out.size
    by_cases hz : c = 0
    rotate_left
    · rcases HPV.out with ⟨_, hbv⟩ | ⟨h0, _⟩
      rotate_left
      · exact absurd h0 hz
      cases hbv
      have hzi : ¬ (c : Int) = 0 := by omega
      clear hz
      go_wp2
      go_ret
      exact ⟨rfl, HBF.out⟩
    · rcases HPV.out with ⟨h0, _⟩ | ⟨_, ho⟩
      · exact absurd hz h0
      obtain ⟨z1, z2, z3, z4, z5, z6, z7, _, _, _⟩ := rchk_zero (by rw [← HC.out]; exact hz)
      obtain ⟨kn, rfl⟩ : ∃ n : Nat, k = (n : Int) := ⟨k.toNat, by omega⟩
      obtain ⟨en, rfl⟩ : ∃ n : Nat, e = (n : Int) := ⟨e.toNat, by omega⟩
      obtain ⟨an, rfl⟩ : ∃ n : Nat, a = (n : Int) := ⟨a.toNat, by omega⟩
      simp only [Int.toNat_natCast] at ho
      have hd64 : d.length ≤ 64 := by rw [← HND.out]; exact z7
      have hpp := rrput_any kn en an d w8 (by omega) (by omega) (by omega) hd64 H8.out
      rw [← HS.out] at hpp
      have HPP := Lib.hid hpp
      have hby : ∀ y ∈ fr (rtext kn en an d), y < 256 := fr_byte (rtext_byte (u64_of_le (by omega)) (u64_of_le (by omega)) (u64_of_le (by omega)) H8.out hd64) (u64_of_le (by have := rtext_le (k := kn) (e := en) (a := an) (d := d) (u64_of_le (by omega)) (u64_of_le (by omega)) (u64_of_le (by omega)) hd64; omega))
      have HBY := Lib.hid hby
      have HO := Lib.hid (ho.reads.new HB37.out)
      obtain ⟨y0, y1, y2, y3⟩ := HY.out w8 HB57.out
      subst hz
      clear z1 z2 z3 z4 z5 z6 z7 ho hpp hby hd64
      go_wp2_with fail
      refine HPP.out.mono ?_
      rintro r w9 ⟨v9, rfl, ho9, hb9⟩
      have HO9 := Lib.hid ho9.reads
      have HO1 := Lib.hid (HO.out.new hb9)
      have HB9 : Hid (Below w.heap.size w w9) := Lib.hid (HBF.out.trans (hb9.mono HBF.out.size))
      clear ho9 hb9
      go_wp2_with fail
      refine (numBytes_any _ _ (fr (rtext kn en an d)) (fr (rtext kn en an d)) w9 HO1.out HO9.out HBY.out HBY.out).mono ?_
      rintro r w10 ⟨rfl, rfl⟩
      rw [decide_eq_true rfl]
      go_wp2
      go_ret
      exact ⟨rfl, HB9.out⟩
  by_cases h5 : kind = 5
  · subst h5
    have hwd := fun W => rword_any 5 W
    rw [show wordS 5 = ⟨#[99, 117, 116]⟩ from rfl] at hwd
    have HWD := Lib.hid hwd
    have hsw : ((⟨#[99, 117, 116]⟩ : ByteArray).toList == (⟨#[99, 117, 116]⟩ : ByteArray).toList) = true := by simp
    have x0 := fun o => (HXA.out o).1
    have x1 := fun o => (HXA.out o).2.1
    have x2 := fun o => (HXA.out o).2.2.1
    have x3 := fun o => (HXA.out o).2.2.2
    clear hwd
    go_wp2_with fail
    refine (HCK.out _).mono ?_
    rintro r w7 ⟨rfl, hb7⟩
    have hbc : Below w6.heap.size w6 w7 := ((Below.refl _ _).alloc (Nat.le_refl _) _).trans (hb7.mono (by simp))
    have HB37 : Hid (Below w3.heap.size w3 w7) := Lib.hid (HB36.out.trans (hbc.mono HB36.out.size))
    have HB57 : Hid (Below W5.heap.size W5 w7) := Lib.hid (HB56.out.trans (hbc.mono HB56.out.size))
    clear hb7 hbc x0 x1 x2 x3
    go_wp2_with fail
    refine (HNUM.out _).mono ?_
    rintro r w8 ⟨rfl, rfl⟩
    go_wp2_with fail
    refine (HNUM.out _).mono ?_
    rintro r w8 ⟨rfl, rfl⟩
    go_wp2_with fail
    refine (HWD.out _).mono ?_
    rintro r w8 ⟨rfl, rfl⟩
    have HBF : Hid (Below w.heap.size w w8) := Lib.hid ((HB1.out.trans (HB13.out.mono HB1.out.size)).trans (HB37.out.mono (Nat.le_trans HB1.out.size HB13.out.size)))
    have HBX : Hid (w.heap.size ≤ w8.heap.size) := Lib.hid HBF.out.size
    by_cases hz : c = 0
    rotate_left
    · rcases HPV.out with ⟨_, hbv⟩ | ⟨h0, _⟩
      rotate_left
      · exact absurd h0 hz
      cases hbv
      have hzi : ¬ (c : Int) = 0 := by omega
      clear hz
      go_wp2
      go_ret
      exact ⟨rfl, HBF.out⟩
    · rcases HPV.out with ⟨h0, _⟩ | ⟨_, ho⟩
      · exact absurd hz h0
      obtain ⟨z1, z2, z3, z4, z5, z6, z7, _, _, _⟩ := rchk_zero (by rw [← HC.out]; exact hz)
      obtain ⟨kn, rfl⟩ : ∃ n : Nat, k = (n : Int) := ⟨k.toNat, by omega⟩
      obtain ⟨en, rfl⟩ : ∃ n : Nat, e = (n : Int) := ⟨e.toNat, by omega⟩
      obtain ⟨an, rfl⟩ : ∃ n : Nat, a = (n : Int) := ⟨a.toNat, by omega⟩
      simp only [Int.toNat_natCast] at ho
      have hd64 : d.length ≤ 64 := by rw [← HND.out]; exact z7
      have hpp := rrput_any kn en an d w8 (by omega) (by omega) (by omega) hd64 H8.out
      rw [← HS.out] at hpp
      have HPP := Lib.hid hpp
      have hby : ∀ y ∈ fr (rtext kn en an d), y < 256 := fr_byte (rtext_byte (u64_of_le (by omega)) (u64_of_le (by omega)) (u64_of_le (by omega)) H8.out hd64) (u64_of_le (by have := rtext_le (k := kn) (e := en) (a := an) (d := d) (u64_of_le (by omega)) (u64_of_le (by omega)) (u64_of_le (by omega)) hd64; omega))
      have HBY := Lib.hid hby
      have HO := Lib.hid (ho.reads.new HB37.out)
      obtain ⟨y0, y1, y2, y3⟩ := HY.out w8 HB57.out
      subst hz
      clear z1 z2 z3 z4 z5 z6 z7 ho hpp hby hd64
      go_wp2_with fail
      refine HPP.out.mono ?_
      rintro r w9 ⟨v9, rfl, ho9, hb9⟩
      have HO9 := Lib.hid ho9.reads
      have HO1 := Lib.hid (HO.out.new hb9)
      have HB9 : Hid (Below w.heap.size w w9) := Lib.hid (HBF.out.trans (hb9.mono HBF.out.size))
      clear ho9 hb9
      go_wp2_with fail
      refine (numBytes_any _ _ (fr (rtext kn en an d)) (fr (rtext kn en an d)) w9 HO1.out HO9.out HBY.out HBY.out).mono ?_
      rintro r w10 ⟨rfl, rfl⟩
      rw [decide_eq_true rfl]
      go_wp2
      go_ret
      exact ⟨rfl, HB9.out⟩
  have hwe : wordS kind = ⟨#[]⟩ := by unfold wordS; rw [if_neg h1, if_neg h2, if_neg h3, if_neg h4, if_neg h5]
  have hwd := fun W => rword_any kind W
  rw [hwe] at hwd
  have HWD := Lib.hid hwd
  have hsw : ((⟨#[]⟩ : ByteArray).toList == (⟨#[]⟩ : ByteArray).toList) = true := by simp
  obtain ⟨x0, x1, x2, x3⟩ := HXL.out
  by_cases hk1 : 1 ≤ kind
  · have hk5 : ¬ kind ≤ 5 := by omega
    clear h1 h2 h3 h4 h5 hwe hwd
    go_wp2_with fail
    refine (HCK.out _).mono ?_
    rintro r w7 ⟨rfl, hb7⟩
    have hbc : Below w6.heap.size w6 w7 := hb7
    have HB37 : Hid (Below w3.heap.size w3 w7) := Lib.hid (HB36.out.trans (hbc.mono HB36.out.size))
    have HB57 : Hid (Below W5.heap.size W5 w7) := Lib.hid (HB56.out.trans (hbc.mono HB56.out.size))
    clear hb7 hbc x0 x1 x2 x3
    go_wp2_with fail
    refine (HNUM.out _).mono ?_
    rintro r w8 ⟨rfl, rfl⟩
    go_wp2_with fail
    refine (HNUM.out _).mono ?_
    rintro r w8 ⟨rfl, rfl⟩
    go_wp2_with fail
    refine (HWD.out _).mono ?_
    rintro r w8 ⟨rfl, rfl⟩
    have HBF : Hid (Below w.heap.size w w8) := Lib.hid ((HB1.out.trans (HB13.out.mono HB1.out.size)).trans (HB37.out.mono (Nat.le_trans HB1.out.size HB13.out.size)))
    have HBX : Hid (w.heap.size ≤ w8.heap.size) := Lib.hid HBF.out.size
    by_cases hz : c = 0
    rotate_left
    · rcases HPV.out with ⟨_, hbv⟩ | ⟨h0, _⟩
      rotate_left
      · exact absurd h0 hz
      cases hbv
      have hzi : ¬ (c : Int) = 0 := by omega
      clear hz
      go_wp2
      go_ret
      exact ⟨rfl, HBF.out⟩
    · rcases HPV.out with ⟨h0, _⟩ | ⟨_, ho⟩
      · exact absurd hz h0
      obtain ⟨z1, z2, z3, z4, z5, z6, z7, _, _, _⟩ := rchk_zero (by rw [← HC.out]; exact hz)
      obtain ⟨kn, rfl⟩ : ∃ n : Nat, k = (n : Int) := ⟨k.toNat, by omega⟩
      obtain ⟨en, rfl⟩ : ∃ n : Nat, e = (n : Int) := ⟨e.toNat, by omega⟩
      obtain ⟨an, rfl⟩ : ∃ n : Nat, a = (n : Int) := ⟨a.toNat, by omega⟩
      simp only [Int.toNat_natCast] at ho
      have hd64 : d.length ≤ 64 := by rw [← HND.out]; exact z7
      have hpp := rrput_any kn en an d w8 (by omega) (by omega) (by omega) hd64 H8.out
      rw [← HS.out] at hpp
      have HPP := Lib.hid hpp
      have hby : ∀ y ∈ fr (rtext kn en an d), y < 256 := fr_byte (rtext_byte (u64_of_le (by omega)) (u64_of_le (by omega)) (u64_of_le (by omega)) H8.out hd64) (u64_of_le (by have := rtext_le (k := kn) (e := en) (a := an) (d := d) (u64_of_le (by omega)) (u64_of_le (by omega)) (u64_of_le (by omega)) hd64; omega))
      have HBY := Lib.hid hby
      have HO := Lib.hid (ho.reads.new HB37.out)
      obtain ⟨y0, y1, y2, y3⟩ := HY.out w8 HB57.out
      subst hz
      clear z1 z2 z3 z4 z5 z6 z7 ho hpp hby hd64
      go_wp2_with fail
      refine HPP.out.mono ?_
      rintro r w9 ⟨v9, rfl, ho9, hb9⟩
      have HO9 := Lib.hid ho9.reads
      have HO1 := Lib.hid (HO.out.new hb9)
      have HB9 : Hid (Below w.heap.size w w9) := Lib.hid (HBF.out.trans (hb9.mono HBF.out.size))
      clear ho9 hb9
      go_wp2_with fail
      refine (numBytes_any _ _ (fr (rtext kn en an d)) (fr (rtext kn en an d)) w9 HO1.out HO9.out HBY.out HBY.out).mono ?_
      rintro r w10 ⟨rfl, rfl⟩
      rw [decide_eq_true rfl]
      go_wp2
      go_ret
      exact ⟨rfl, HB9.out⟩
  · clear h1 h2 h3 h4 h5 hwe hwd
    go_wp2_with fail
    refine (HCK.out _).mono ?_
    rintro r w7 ⟨rfl, hb7⟩
    have hbc : Below w6.heap.size w6 w7 := hb7
    have HB37 : Hid (Below w3.heap.size w3 w7) := Lib.hid (HB36.out.trans (hbc.mono HB36.out.size))
    have HB57 : Hid (Below W5.heap.size W5 w7) := Lib.hid (HB56.out.trans (hbc.mono HB56.out.size))
    clear hb7 hbc x0 x1 x2 x3
    go_wp2_with fail
    refine (HNUM.out _).mono ?_
    rintro r w8 ⟨rfl, rfl⟩
    go_wp2_with fail
    refine (HNUM.out _).mono ?_
    rintro r w8 ⟨rfl, rfl⟩
    go_wp2_with fail
    refine (HWD.out _).mono ?_
    rintro r w8 ⟨rfl, rfl⟩
    have HBF : Hid (Below w.heap.size w w8) := Lib.hid ((HB1.out.trans (HB13.out.mono HB1.out.size)).trans (HB37.out.mono (Nat.le_trans HB1.out.size HB13.out.size)))
    have HBX : Hid (w.heap.size ≤ w8.heap.size) := Lib.hid HBF.out.size
    by_cases hz : c = 0
    rotate_left
    · rcases HPV.out with ⟨_, hbv⟩ | ⟨h0, _⟩
      rotate_left
      · exact absurd h0 hz
      cases hbv
      have hzi : ¬ (c : Int) = 0 := by omega
      clear hz
      go_wp2
      go_ret
      exact ⟨rfl, HBF.out⟩
    · rcases HPV.out with ⟨h0, _⟩ | ⟨_, ho⟩
      · exact absurd hz h0
      obtain ⟨z1, z2, z3, z4, z5, z6, z7, _, _, _⟩ := rchk_zero (by rw [← HC.out]; exact hz)
      obtain ⟨kn, rfl⟩ : ∃ n : Nat, k = (n : Int) := ⟨k.toNat, by omega⟩
      obtain ⟨en, rfl⟩ : ∃ n : Nat, e = (n : Int) := ⟨e.toNat, by omega⟩
      obtain ⟨an, rfl⟩ : ∃ n : Nat, a = (n : Int) := ⟨a.toNat, by omega⟩
      simp only [Int.toNat_natCast] at ho
      have hd64 : d.length ≤ 64 := by rw [← HND.out]; exact z7
      have hpp := rrput_any kn en an d w8 (by omega) (by omega) (by omega) hd64 H8.out
      rw [← HS.out] at hpp
      have HPP := Lib.hid hpp
      have hby : ∀ y ∈ fr (rtext kn en an d), y < 256 := fr_byte (rtext_byte (u64_of_le (by omega)) (u64_of_le (by omega)) (u64_of_le (by omega)) H8.out hd64) (u64_of_le (by have := rtext_le (k := kn) (e := en) (a := an) (d := d) (u64_of_le (by omega)) (u64_of_le (by omega)) (u64_of_le (by omega)) hd64; omega))
      have HBY := Lib.hid hby
      have HO := Lib.hid (ho.reads.new HB37.out)
      obtain ⟨y0, y1, y2, y3⟩ := HY.out w8 HB57.out
      subst hz
      clear z1 z2 z3 z4 z5 z6 z7 ho hpp hby hd64
      go_wp2_with fail
      refine HPP.out.mono ?_
      rintro r w9 ⟨v9, rfl, ho9, hb9⟩
      have HO9 := Lib.hid ho9.reads
      have HO1 := Lib.hid (HO.out.new hb9)
      have HB9 : Hid (Below w.heap.size w w9) := Lib.hid (HBF.out.trans (hb9.mono HBF.out.size))
      clear ho9 hb9
      go_wp2_with fail
      refine (numBytes_any _ _ (fr (rtext kn en an d)) (fr (rtext kn en an d)) w9 HO1.out HO9.out HBY.out HBY.out).mono ?_
      rintro r w10 ⟨rfl, rfl⟩
      rw [decide_eq_true rfl]
      go_wp2
      go_ret
      exact ⟨rfl, HB9.out⟩
end Go.Proofs.Ytnhffeppbliabaa
