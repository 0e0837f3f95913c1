/- Acts as they are recorded: their bytes. · The contract of the document's own Bytes of a cell. · A region that draws its order, walked by hand under a condition on the world. · Acts as they are recorded: the document's own bytes; an act as the document's. · The contract of a number's size: math/bits.Len64, and Size. · The contracts of package frame's Take, All, Prefix, One and Size. -/
import Derived.Test.YtlckadlkgjfjcaaGreatDoorQg
import Derived.Test.YtlckadlkgjfjcaaGreatDoorFbP
import Derived.Test.YtlckadlkgjfjcaaGreatDoorQf
import Derived.Lib.AtoiErrMem
import Derived.Test.YtlckadlkgjfjcaaGreatDoorBase
import Derived.OrdersHeld
import Derived.Laws.Rows
import Derived.Laws.AppendOwnNone
import Derived.Deep.RegionLaw
import Derived.Deep.RegionHeld3
import Derived.Test.YtlckadlkgjfjcaaGreatDoorRows
import Derived.WalkSpells
namespace Go.Proofs.YtlckadlkgjfjcaaGreatDoor
open Go.RowKit

theorem reads_litN (w : World) (e : TypeId) (k : IntKind) (l : List Nat) (cs : Array Value) (fr : Nat × Nat) (hc : cs.toList = vals k l) (hm : l.length ≤ maxLen) :
    Reads (w.alloc (.cells cs e fr)) k (.slice (some ⟨w.heap.size, 0, none⟩) l.length l.length) l :=
  ⟨_, _, rfl, Nat.le_refl _, hm, by simp, .inr ⟨w.heap.size, 0, rfl, by simp, fun i hi => by
    rw [Nat.zero_add, World.cell?_alloc_mark, ← Array.getElem?_toList, hc, vals_get k l i hi]⟩⟩
/-- An act's text. -/
def rtext (k e a : Nat) (d : List Nat) : List Nat := (enc k ++ enc e ++ if 1 < k then enc a else []) ++ if k = 2 then enc d.length ++ d else []
theorem rtext_le {k e a : Nat} {d : List Nat} (hk : U64 k) (he : U64 e) (ha : U64 a) (hd : d.length ≤ 64) : (rtext k e a d).length ≤ 110 := by
  have h1 := enc_len10 hk
  have h2 := enc_len10 he
  have h3 := enc_len10 ha
  have h4 := enc_len10 (u64_of_le (n := d.length) (by omega))
  unfold rtext
  rw [List.length_append, List.length_append, List.length_append]
  split <;> split <;> simp <;> omega
theorem rtext_byte {k e a : Nat} {d : List Nat} (hk : U64 k) (he : U64 e) (ha : U64 a) (hd : ∀ y ∈ d, y < 256) (hl : d.length ≤ 64) : ∀ y ∈ rtext k e a d, y < 256 := by
  have h1 := enc_u64 hk
  have h2 := enc_u64 he
  have h3 := enc_u64 ha
  have h4 := enc_u64 (u64_of_le (n := d.length) (by omega))
  unfold rtext
  refine app_byte (app_byte (app_byte h1 h2) ?_) ?_
  · split
    · exact h3
    · simp
  · split
    · exact app_byte h4 hd
    · simp

set_option maxHeartbeats 4000000 in
set_option maxRecDepth 100000 in
/-- A right act's bytes; k, e, a are numbers that it has. -/
theorem rput_any (k e a : Int) (v : Value) (d : List Nat) (w : World) (hr : Reads w .u8 v d) (h8 : ∀ y ∈ d, y < 256) :
    Calls Tryz.prog 155 #[.agg #[.int .i64 k, .int .i64 e, .int .i64 a, v]] w fun r w' => Below w.heap.size w w' ∧ ((rchk k e a d.length ≠ 0 ∧ r = .returned (.tuple #[.slice none 0 0, errV (rchk k e a d.length)])) ∨
      (rchk k e a d.length = 0 ∧ ∃ v', r = .returned (.tuple #[v', .nilIface]) ∧ Owns w' w.heap.size 5 .u8 v' (fr (rtext k.toNat e.toNat a.toNat d)))) := by
  obtain ⟨ao, cap, rfl, _, _, _⟩ := hr.val
  obtain ⟨W1, hW1⟩ : ∃ W1, W1 = w.alloc (.cells #[.int .i64 k, .int .i64 e, .int .i64 a, .slice ao d.length cap] 67) := ⟨_, rfl⟩
  have hb1 : Below w.heap.size w W1 := by rw [hW1]; exact (Below.refl _ _).alloc (Nat.le_refl _) _
  have hx1 : W1.heap[w.heap.size]? = some (.cells #[.int .i64 k, .int .i64 e, .int .i64 a, .slice ao d.length cap] 67 (0, 0)) := by rw [hW1]; exact heap_alloc_new _ _
  have HX : Hid (∀ W, Below W1.heap.size W1 W → W.cell? ⟨w.heap.size, 0, none⟩ = some (.int .i64 k) ∧ W.cell? ⟨w.heap.size, 1, none⟩ = some (.int .i64 e) ∧ W.cell? ⟨w.heap.size, 2, none⟩ = some (.int .i64 a) ∧ W.cell? ⟨w.heap.size, 3, none⟩ = some (.slice ao d.length cap)) := Lib.hid fun W hb => by
    have h := (hb.block _ (Array.getElem?_eq_some_iff.1 hx1).1).trans hx1
    exact ⟨by rw [cell_of_row _ _ 0 _ _ _ h]; rfl, by rw [cell_of_row _ _ 1 _ _ _ h]; rfl, by rw [cell_of_row _ _ 2 _ _ _ h]; rfl, by rw [cell_of_row _ _ 3 _ _ _ h]; rfl⟩
  have HB1 := Lib.hid hb1
  have HD := Lib.hid (hr.new hb1)
  have HCK := Lib.hid (rcheck9_any k e a ao d.length cap W1)
  obtain ⟨c, hc⟩ : ∃ c, c = rchk k e a d.length := ⟨_, rfl⟩
  rw [← hc] at HCK ⊢
  have HC := Lib.hid hc
  have H8 := Lib.hid h8
  obtain ⟨x0, x1, x2, x3⟩ := HX.out W1 (Below.refl _ _)
  rw [hW1] at x0 x1 x2 x3
  have HW1 := Lib.hid hW1
  obtain ⟨n, hn⟩ : ∃ n, n = d.length := ⟨_, rfl⟩
  have HN := Lib.hid hn
  clear hr hb1 hx1 hc h8 hW1
  go_enter Tryz.func155, Tryz.ntmps155
  go_wp2_with fail
  rw [← HW1.out]
  refine HCK.out.mono ?_
  rintro r w2 ⟨rfl, hb2⟩
  by_cases hz : c = 0
  rotate_left
  · rw [errV_pos hz]
    have HZ := Lib.hid hz
    have HB2 := Lib.hid (HB1.out.trans (hb2.mono HB1.out.size))
    clear hz hb2 x0 x1 x2 x3
    go_wp2
    go_ret2
    exact ⟨HB2.out, .inl ⟨HZ.out, by rw [errV_pos HZ.out]; rfl⟩⟩
  obtain ⟨z1, z2, z3, z4, z5, z6, z7, z8, z9, _⟩ := rchk_zero (by rw [← HC.out]; exact hz)
  obtain ⟨kn, rfl⟩ : ∃ n : Nat, k = (n : Int) := ⟨k.toNat, by omega⟩
  obtain ⟨en, rfl⟩ : ∃ n : Nat, e = (n : Int) := ⟨e.toNat, by omega⟩
  obtain ⟨an, rfl⟩ : ∃ n : Nat, a = (n : Int) := ⟨a.toNat, by omega⟩
  have hkw : IntKind.u64.wrap (kn : Int) = (kn : Int) := IntWalk.u64_in _ (by omega)
  have hew : IntKind.u64.wrap (en : Int) = (en : Int) := IntWalk.u64_in _ (by omega)
  have haw : IntKind.u64.wrap (an : Int) = (an : Int) := IntWalk.u64_in _ (by omega)
  have HNB : Hid (kn ≤ 5 ∧ 1 ≤ kn ∧ en ≤ 1099511627776 ∧ an ≤ 1048576 ∧ d.length ≤ 64) := Lib.hid (by omega)
  have HUK : Hid (U64 kn) := Lib.hid (u64_of_le (by omega))
  have HUE : Hid (U64 en) := Lib.hid (u64_of_le (by omega))
  have HUA : Hid (U64 an) := Lib.hid (u64_of_le (by omega))
  have HZ := Lib.hid hz
  have HFIN : Hid (∀ (w' : World) (v' : Value), Below w.heap.size w w' → Owns w' w.heap.size 5 .u8 v' (fr (rtext kn en an d)) → Below w.heap.size w w' ∧ ((c ≠ 0 ∧ (Ending.returned (.tuple #[v', .nilIface]) = .returned (.tuple #[.slice none 0 0, errV c]))) ∨
      (c = 0 ∧ ∃ v2, Ending.returned (.tuple #[v', .nilIface]) = .returned (.tuple #[v2, .nilIface]) ∧ Owns w' w.heap.size 5 .u8 v2 (fr (rtext ((kn : Int)).toNat ((en : Int)).toNat ((an : Int)).toNat d))))) := Lib.hid fun w' v' hb ho => ⟨hb, .inr ⟨HZ.out, v', rfl, by simpa using ho⟩⟩
  have HB2 := Lib.hid (HB1.out.trans (hb2.mono HB1.out.size))
  have HB12 := Lib.hid hb2
  obtain ⟨x0, x1, x2, x3⟩ := HX.out w2 hb2
  rw [hz, errV_zero]
  clear hz z1 z2 z3 z4 z5 z6 z7 z8 z9 hb2
  -- the first two numbers
  obtain ⟨W3, hW3⟩ : ∃ W3, W3 = w2.alloc (.cells #[.int .u64 (kn : Int), .int .u64 (en : Int)] 200) := ⟨_, rfl⟩
  have hr3 : Reads W3 .u64 (.slice (some ⟨w2.heap.size, 0, none⟩) 2 2) [kn, en] := by rw [hW3]; exact reads_litN w2 _ .u64 [kn, en] _ _ rfl (by simp [maxLen])
  have hb3 : Below w2.heap.size w2 W3 := by rw [hW3]; exact (Below.refl _ _).alloc (Nat.le_refl _) _
  have hp3 := put_any (.slice none 0 0) _ [] [kn, en] W3 ⟨none, 0, rfl, by simp, by simp [maxLen], fun _ => rfl, .inl rfl⟩ hr3 (by
    intro n hn
    rcases List.mem_cons.1 hn with rfl | hn
    · exact HUK.out
    · obtain rfl : n = en := by simpa using hn
      exact HUE.out) (by simp)
  rw [show ([] ++ encs [kn, en] : List Nat) = enc kn ++ enc en by simp [encs]] at hp3
  have HP3 := Lib.hid hp3
  have HB3 := Lib.hid hb3
  have HW3 := Lib.hid hW3
  clear hr3 hb3 hp3 hW3
  go_wp2_with fail
  rw [← HW3.out]
  refine HP3.out.mono ?_
  rintro r w4 ⟨v4, rfl, ho4, hb4⟩
  have HB24 : Hid (Below w2.heap.size w2 w4) := Lib.hid (HB3.out.trans (hb4.mono HB3.out.size))
  have HO4 : Hid (Owns w4 w2.heap.size 5 .u8 v4 (enc kn ++ enc en)) := Lib.hid (ho4.mono HB3.out.size)
  obtain ⟨ao4, cap4, hv4, _, _, _⟩ := ho4.reads.val
  obtain ⟨x0, x1, x2, x3⟩ := HX.out w4 (HB12.out.trans (HB24.out.mono HB12.out.size))
  obtain ⟨n4, hn4⟩ : ∃ n, n = (enc kn ++ enc en).length := ⟨_, rfl⟩
  rw [← hn4] at hv4
  subst hv4
  clear ho4 hb4
  have HH1 : Hid True := Lib.hid trivial
  have HN4 : Hid (n4 = (enc kn ++ enc en).length) := Lib.hid hn4
  clear hn4
  by_cases h1 : kn = 1
  · have HT : Hid (rtext kn en an d = enc kn ++ enc en) := Lib.hid (by unfold rtext; rw [if_neg (by omega), if_neg (by omega)]; simp)
    have pA : ((kn : Int) != 1) = false := by simp [h1]
    have pD : ((kn : Int) == 2) = false := by simp [h1]
    clear h1
    have hh := fun W => rhasA_any (kn : Int) W
    rw [pA] at hh
    have HHA := Lib.hid hh
    have hd := fun W => rhasD_any (kn : Int) W
    rw [pD] at hd
    have HHD := Lib.hid hd
    clear hh hd pA pD HH1
    go_wp2_with fail
    refine (HHA.out _).mono ?_
    rintro r w4 ⟨rfl, rfl⟩
    go_wp2_with fail
    refine (HHD.out _).mono ?_
    rintro r w4 ⟨rfl, rfl⟩
    -- the frame of T
    have HPG : Hid _ := Lib.hid (put_good (.slice none 0 0) (.slice ao4 n4 cap4) [] (enc kn ++ enc en) w4 ⟨none, 0, rfl, by simp, by simp [maxLen], fun _ => rfl, .inl rfl⟩ HO4.out.reads (by rw [← HT.out]; exact rtext_byte HUK.out HUE.out HUA.out H8.out HNB.out.2.2.2.2) (by rw [← HT.out]; exact Nat.le_trans (rtext_le HUK.out HUE.out HUA.out HNB.out.2.2.2.2) (by decide)) (by simp))
    go_wp2_with fail
    refine HPG.out.mono ?_
    rintro r w9 ⟨v9, rfl, ho9, hb9⟩
    have HE9 := Lib.hid (HFIN.out w9 v9 ((HB2.out.trans (HB24.out.mono HB2.out.size)).trans (hb9.mono (Nat.le_trans HB2.out.size HB24.out.size))) (by
      rw [HT.out]
      exact ho9.mono (Nat.le_trans HB2.out.size HB24.out.size)))
    clear ho9 hb9
    go_wp2
    go_ret2
    exact HE9.out
  have pA : ((kn : Int) != 1) = true := by simp; omega
  by_cases h2 : kn = 2
  rotate_left
  · have HT : Hid (rtext kn en an d = enc kn ++ enc en ++ enc an) := Lib.hid (by unfold rtext; rw [if_pos (by have := HNB.out; omega), if_neg (by omega)]; simp)
    have pD : ((kn : Int) == 2) = false := by simp; omega
    clear h1 h2
    have hh := fun W => rhasA_any (kn : Int) W
    rw [pA] at hh
    have HHA := Lib.hid hh
    have hd := fun W => rhasD_any (kn : Int) W
    rw [pD] at hd
    have HHD := Lib.hid hd
    clear hh hd pA pD HH1
    go_wp2_with fail
    refine (HHA.out _).mono ?_
    rintro r w4 ⟨rfl, rfl⟩
    go_wp2_with fail
    -- the address
    obtain ⟨W6, hW6⟩ : ∃ W6, W6 = w4.alloc (.cells #[.int .u64 (an : Int)] 200) := ⟨_, rfl⟩
    have hb6 : Below w4.heap.size w4 W6 := by rw [hW6]; exact (Below.refl _ _).alloc (Nat.le_refl _) _
    have hp6 := put_any (.slice ao4 n4 cap4) _ (enc kn ++ enc en) [an] W6 (HO4.out.reads.new hb6) (by rw [hW6]; exact reads_lit w4 _ _ an) (by
      intro n hn
      obtain rfl : n = an := by simpa using hn
      exact HUA.out) (by have h1 := enc_len10 HUK.out; have h2 := enc_len10 HUE.out; simp; omega)
    rw [show ((enc kn ++ enc en) ++ encs [an] : List Nat) = enc kn ++ enc en ++ enc an by simp [encs]] at hp6
    have HP6 := Lib.hid hp6
    have HB6 := Lib.hid hb6
    have HW6 := Lib.hid hW6
    clear hb6 hp6 hW6
    rw [← HW6.out]
    refine HP6.out.mono ?_
    rintro r w7 ⟨v7, rfl, ho7, hb7⟩
    have HB27 : Hid (Below w2.heap.size w2 w7) := Lib.hid (HB24.out.trans ((HB6.out.trans (hb7.mono HB6.out.size)).mono HB24.out.size))
    have HO7 : Hid (Owns w7 w2.heap.size 5 .u8 v7 (enc kn ++ enc en ++ enc an)) := Lib.hid (ho7.mono (Nat.le_trans HB24.out.size HB6.out.size))
    obtain ⟨ao7, cap7, hv7, _, _, _⟩ := ho7.reads.val
    obtain ⟨x0, x1, x2, x3⟩ := HX.out w7 (HB12.out.trans (HB27.out.mono HB12.out.size))
    obtain ⟨n7, hn7⟩ : ∃ n, n = (enc kn ++ enc en ++ enc an).length := ⟨_, rfl⟩
    rw [← hn7] at hv7
    subst hv7
    clear ho7 hb7 hn7
    go_wp2_with fail
    refine (HHD.out _).mono ?_
    rintro r w7 ⟨rfl, rfl⟩
    -- the frame of T
    have HPG : Hid _ := Lib.hid (put_good (.slice none 0 0) (.slice ao7 n7 cap7) [] (enc kn ++ enc en ++ enc an) w7 ⟨none, 0, rfl, by simp, by simp [maxLen], fun _ => rfl, .inl rfl⟩ HO7.out.reads (by rw [← HT.out]; exact rtext_byte HUK.out HUE.out HUA.out H8.out HNB.out.2.2.2.2) (by rw [← HT.out]; exact Nat.le_trans (rtext_le HUK.out HUE.out HUA.out HNB.out.2.2.2.2) (by decide)) (by simp))
    go_wp2_with fail
    refine HPG.out.mono ?_
    rintro r w9 ⟨v9, rfl, ho9, hb9⟩
    have HE9 := Lib.hid (HFIN.out w9 v9 ((HB2.out.trans (HB27.out.mono HB2.out.size)).trans (hb9.mono (Nat.le_trans HB2.out.size HB27.out.size))) (by
      rw [HT.out]
      exact ho9.mono (Nat.le_trans HB2.out.size HB27.out.size)))
    clear ho9 hb9
    go_wp2
    go_ret2
    exact HE9.out
  · have HT : Hid (rtext kn en an d = (enc kn ++ enc en ++ enc an) ++ enc d.length ++ d) := Lib.hid (by unfold rtext; rw [if_pos (by omega), if_pos h2]; simp)
    have pD : ((kn : Int) == 2) = true := by simp [h2]
    clear h1 h2
    have hh := fun W => rhasA_any (kn : Int) W
    rw [pA] at hh
    have HHA := Lib.hid hh
    have hd := fun W => rhasD_any (kn : Int) W
    rw [pD] at hd
    have HHD := Lib.hid hd
    clear hh hd pA pD HH1
    go_wp2_with fail
    refine (HHA.out _).mono ?_
    rintro r w4 ⟨rfl, rfl⟩
    go_wp2_with fail
    -- the address
    obtain ⟨W6, hW6⟩ : ∃ W6, W6 = w4.alloc (.cells #[.int .u64 (an : Int)] 200) := ⟨_, rfl⟩
    have hb6 : Below w4.heap.size w4 W6 := by rw [hW6]; exact (Below.refl _ _).alloc (Nat.le_refl _) _
    have hp6 := put_any (.slice ao4 n4 cap4) _ (enc kn ++ enc en) [an] W6 (HO4.out.reads.new hb6) (by rw [hW6]; exact reads_lit w4 _ _ an) (by
      intro n hn
      obtain rfl : n = an := by simpa using hn
      exact HUA.out) (by have h1 := enc_len10 HUK.out; have h2 := enc_len10 HUE.out; simp; omega)
    rw [show ((enc kn ++ enc en) ++ encs [an] : List Nat) = enc kn ++ enc en ++ enc an by simp [encs]] at hp6
    have HP6 := Lib.hid hp6
    have HB6 := Lib.hid hb6
    have HW6 := Lib.hid hW6
    clear hb6 hp6 hW6
    rw [← HW6.out]
    refine HP6.out.mono ?_
    rintro r w7 ⟨v7, rfl, ho7, hb7⟩
    have HB27 : Hid (Below w2.heap.size w2 w7) := Lib.hid (HB24.out.trans ((HB6.out.trans (hb7.mono HB6.out.size)).mono HB24.out.size))
    have HO7 : Hid (Owns w7 w2.heap.size 5 .u8 v7 (enc kn ++ enc en ++ enc an)) := Lib.hid (ho7.mono (Nat.le_trans HB24.out.size HB6.out.size))
    obtain ⟨ao7, cap7, hv7, _, _, _⟩ := ho7.reads.val
    obtain ⟨x0, x1, x2, x3⟩ := HX.out w7 (HB12.out.trans (HB27.out.mono HB12.out.size))
    obtain ⟨n7, hn7⟩ : ∃ n, n = (enc kn ++ enc en ++ enc an).length := ⟨_, rfl⟩
    rw [← hn7] at hv7
    subst hv7
    clear ho7 hb7 hn7
    go_wp2_with fail
    refine (HHD.out _).mono ?_
    rintro r w7 ⟨rfl, rfl⟩
    have HPT := Lib.hid (putText_any (.slice ao7 n7 cap7) (.slice ao d.length cap) (enc kn ++ enc en ++ enc an) d w7 HO7.out.reads (HD.out.new (HB12.out.trans (HB27.out.mono HB12.out.size))) (by have h1 := enc_len10 HUK.out; have h2 := enc_len10 HUE.out; have h3 := enc_len10 HUA.out; have := HNB.out; simp; omega))
    go_wp2_with fail
    refine HPT.out.mono ?_
    rintro r w8 ⟨v8, rfl, ho8, hb8⟩
    have HB28 : Hid (Below w2.heap.size w2 w8) := Lib.hid (HB27.out.trans (hb8.mono HB27.out.size))
    have HO8 : Hid (Owns w8 w2.heap.size 5 .u8 v8 ((enc kn ++ enc en ++ enc an) ++ enc d.length ++ d)) := Lib.hid (ho8.mono HB27.out.size)
    obtain ⟨ao8, cap8, hv8, _, _, _⟩ := ho8.reads.val
    obtain ⟨n8, hn8⟩ : ∃ n, n = ((enc kn ++ enc en ++ enc an) ++ enc d.length ++ d).length := ⟨_, rfl⟩
    rw [← hn8] at hv8
    subst hv8
    clear ho8 hb8 hn8
    -- the frame of T
    have HPG : Hid _ := Lib.hid (put_good (.slice none 0 0) (.slice ao8 n8 cap8) [] ((enc kn ++ enc en ++ enc an) ++ enc d.length ++ d) w8 ⟨none, 0, rfl, by simp, by simp [maxLen], fun _ => rfl, .inl rfl⟩ HO8.out.reads (by rw [← HT.out]; exact rtext_byte HUK.out HUE.out HUA.out H8.out HNB.out.2.2.2.2) (by rw [← HT.out]; exact Nat.le_trans (rtext_le HUK.out HUE.out HUA.out HNB.out.2.2.2.2) (by decide)) (by simp))
    go_wp2_with fail
    refine HPG.out.mono ?_
    rintro r w9 ⟨v9, rfl, ho9, hb9⟩
    have HE9 := Lib.hid (HFIN.out w9 v9 ((HB2.out.trans (HB28.out.mono HB2.out.size)).trans (hb9.mono (Nat.le_trans HB2.out.size HB28.out.size))) (by
      rw [HT.out]
      exact ho9.mono (Nat.le_trans HB2.out.size HB28.out.size)))
    clear ho9 hb9
    go_wp2
    go_ret2
    exact HE9.out
end Go.Proofs.YtlckadlkgjfjcaaGreatDoor

namespace Go.Proofs.YtlckadlkgjfjcaaGreatDoor
open Go.RowKit

end Go.Proofs.YtlckadlkgjfjcaaGreatDoor

namespace Go.Proofs.YtlckadlkgjfjcaaGreatDoor
open Go.RowKit

section
variable {P : Program} {md : Region.Mode} {ops : Array Oper} {Q : Exit → Act → World → Prop} {S : World → Prop}

theorem Owns.keep {w w' : World} {base : Nat} {e : TypeId} {k : IntKind} {v : Value} {l : List Nat} (h : Owns w base e k v l) (hb : Below w.heap.size w w') : Owns w' base e k v l := by
  unfold Owns World.ownsRow at *
  obtain ⟨hl, h | ⟨g, cap, cur, hv, hbg, hg, r⟩⟩ := h
  · exact ⟨hl, .inl h⟩
  · exact ⟨hl, .inr ⟨g, cap, cur, hv, hbg, (hb.block g (Array.getElem?_eq_some_iff.1 hg).1).trans hg, r⟩⟩

end

end Go.Proofs.YtlckadlkgjfjcaaGreatDoor

namespace Go.Proofs.YtlckadlkgjfjcaaGreatDoor
open Go.RowKit

end Go.Proofs.YtlckadlkgjfjcaaGreatDoor

namespace Go.Proofs.YtlckadlkgjfjcaaGreatDoor
open Go.RowKit
set_option linter.unusedVariables false

/-- r is the number of n's bits. -/
def BL (n r : Nat) : Prop := n < 2 ^ r ∧ (r = 0 ∨ 2 ^ (r - 1) ≤ n)

theorem BL.up {n s j t : Nat} (h : BL j t) (h1 : 2 ^ s * j ≤ n) (h2 : n < 2 ^ s * (j + 1)) (h0 : s = 0 ∨ 1 ≤ j) : BL n (s + t) := by
  obtain ⟨a, b⟩ := h
  rcases h0 with rfl | h0
  · simp only [Nat.pow_zero, Nat.one_mul, Nat.zero_add] at *
    obtain rfl : n = j := by omega
    exact ⟨a, b⟩
  · have ht : t ≠ 0 := by rintro rfl; simp at a; omega
    refine ⟨?_, .inr ?_⟩
    · rw [Nat.pow_add]
      exact Nat.lt_of_lt_of_le h2 (Nat.mul_le_mul_left _ (by omega))
    · rcases b with b | b
      · exact absurd b ht
      · rw [show s + t - 1 = s + (t - 1) from by omega, Nat.pow_add]
        exact Nat.le_trans (Nat.mul_le_mul_left _ b) h1

end Go.Proofs.YtlckadlkgjfjcaaGreatDoor

namespace Go.Proofs.YtlckadlkgjfjcaaGreatDoor
open Go.RowKit

/-- What the program's Take answers. -/
def FTook (b : List Nat) (w : World) (e : Ending) (w' : World) : Prop :=
  ∃ (v' : Value) (t : List Nat) (s c : Nat), e = .returned (.tuple #[v', .int .i64 (s : Int), errV c]) ∧ FT b t s c ∧ At w' (Own w' w.heap.size 5) .u8 v' t ∧ Below w.heap.size w w'

set_option maxHeartbeats 400000 in
set_option maxRecDepth 100000 in
theorem frameTake_any (v : Value) (b : List Nat) (w : World) (hr : Reads w .u8 v b) (hb : ∀ y ∈ b, y < 256) (hx : b.length ≤ 90000000000000) :
    Calls Tryz.prog 254 #[v] w (FTook b w) := by
  go_enter Tryz.func254, Tryz.ntmps254
  go_wp2_with fail
  refine (newC_any w).mono ?_
  rintro e w1 ⟨p, rfl, hp, hm1, hb1⟩
  have HB1 := Lib.hid hb1
  have HP := Lib.hid hp
  have hr1 := hr.new hb1
  clear hb1 hp
  go_wp2_with fail
  refine (frTake_any p 0 _ b w1 hm1 (by decide) hr1 hb hx).mono ?_
  rintro e w2 ⟨v2, t, s, c, rfl, hft, hat, _, hg2⟩
  go_wp2
  go_ret3
  exact ⟨v2, t, s, c, rfl, hft, hat.mono fun j _ hB => ⟨Nat.le_trans HB1.out.size hB.1, hB.2⟩, HB1.out.grown hg2 HB1.out.size (fun j hj => by cases hj; exact HP.out)⟩

/-- What the program's One answers: the text, the error's number. -/
def FO (b t : List Nat) (c : Nat) : Prop := ∃ t1 s1 c1, FT b t1 s1 c1 ∧ if c1 ≠ 0 then t = [] ∧ c = c1 else if s1 < b.length then t = [] ∧ c = 2 else t = t1 ∧ c = 0

set_option maxHeartbeats 400000 in
set_option maxRecDepth 100000 in
theorem frameOne_any (v : Value) (b : List Nat) (w : World) (hr : Reads w .u8 v b) (hb : ∀ y ∈ b, y < 256) (hx : b.length ≤ 90000000000000) :
    Calls Tryz.prog 193 #[v] w fun e w' => ∃ (v' : Value) (t : List Nat) (c : Nat), e = .returned (.tuple #[v', errV c]) ∧ FO b t c ∧ At w' (Own w' w.heap.size 5) .u8 v' t ∧ Below w.heap.size w w' := by
  obtain ⟨ao, cap, rfl, h1, h2, h3⟩ := hr.val
  go_enter Tryz.func193, Tryz.ntmps193
  go_wp2_with fail
  refine (frameTake_any _ b w hr hb hx).mono ?_
  rintro e w1 ⟨v1, t, s, c, rfl, hft, hat, hb1⟩
  have HA := Lib.hid hat
  have HB := Lib.hid hb1
  have HF := Lib.hid hft
  clear hat hb1
  by_cases hc : c = 0
  · subst hc
    clear hft
    rw [errV_zero]
    by_cases hl : (s : Int) < (b.length : Int)
    · go_wp2
      go_ret2
      exact ⟨_, [], 2, rfl, ⟨t, s, 0, HF.out, by rw [if_neg (by simp), if_pos (by omega)]; exact ⟨rfl, rfl⟩⟩, (owns_nil w1 w.heap.size 5 .u8).at', HB.out⟩
    · go_wp2
      go_ret2
      exact ⟨_, t, 0, rfl, ⟨t, s, 0, HF.out, by rw [if_neg (by simp), if_neg (by omega)]; exact ⟨rfl, rfl⟩⟩, HA.out, HB.out⟩
  · obtain ⟨rfl, rfl⟩ := hft.bad hc
    have he := errV_pos hc
    clear hft
    rw [he]
    go_wp2
    go_ret2
    exact ⟨_, [], c, by rw [he]; rfl, ⟨[], 0, c, HF.out, by rw [if_pos hc]; exact ⟨rfl, rfl⟩⟩, (owns_nil w1 w.heap.size 5 .u8).at', HB.out⟩

end Go.Proofs.YtlckadlkgjfjcaaGreatDoor
