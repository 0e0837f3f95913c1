/- UnitOnce, walked. -/
import Derived.Test.YtnhffeppbliabaaUvH
import Derived.Test.YtnhffeppbliabaaUvI
import Derived.BigQuiet
import Derived.Deep.CutBlock
import Derived.Deep.RegionHeld3
namespace Go.Proofs.Ytnhffeppbliabaa
open Go.RowKit

section
variable {w W W' : World} {u m : Nat} {U U' : US}
/-- A driven unit with another one, that is left as it is, beside it. -/
structure Duo (w W : World) (u m u2 m2 : Nat) (U M : US) : Prop where
  dru : Dru w W u m U
  two : ∃ B, Un W B u2 m2 M ∧ ¬ B u ∧ ¬ B m
  ne : u2 ≠ u ∧ u2 ≠ m ∧ m2 ≠ u ∧ m2 ≠ m
theorem Duo.old {u2 m2 : Nat} {M : US} (h : Duo w W u m u2 m2 U M) (hb : Below W.heap.size W W') : Duo w W' u m u2 m2 U M := by
  obtain ⟨B, hu, h1, h2⟩ := h.two
  exact ⟨h.dru.old hb, ⟨B, hu.old hb, h1, h2⟩, h.ne⟩
/-- A copy beside. -/
theorem Dru.copy (h : Dru w W u m U) : Calls Try.prog 19 #[.pointer (some ⟨u, 0, none⟩)] W fun r w' => ∃ u2 m2, r = .returned (.pointer (some ⟨u2, 0, none⟩)) ∧ Duo w w' u m u2 m2 U U ∧ Below W.heap.size W w' := by
  obtain ⟨B, hu⟩ := h.un
  have hu' := hu.more (C := fun j => B j ∧ j < W.heap.size) (fun j hj hB => ⟨hB, hj⟩) (fun hc => hu.nu hc.1) (fun hc => hu.nm hc.1)
  have h1 := hu.ult
  have h2 := hu.mlt
  refine (ucopy_any hu' fun j hj => hj.2).mono fun r w' ⟨u2, m2, hr, hc, h3, h4, hb⟩ => ⟨u2, m2, hr, ⟨h.old hb, ⟨_, hc, hu'.nu, hu'.nm⟩, by omega⟩, hb⟩
/-- One act, with the copy beside. -/
theorem Duo.do {u2 m2 : Nat} {M : US} (h : Duo w W u m u2 m2 U M) {a : UA} {bv : Value} (ha : UAAt W (fun j => j < w.heap.size) a bv) (hl : a.data.length ≤ 300) :
    Calls Try.prog 10 #[.pointer (some ⟨u, 0, none⟩), .agg #[.int .i64 0, .int .i64 0, .slice none 0 0], .agg #[.int .i64 a.kind, .int .i64 a.epoch, .int .i64 a.addr, bv]] W fun e w' => ∃ dv b, e = .returned (.tuple #[dv, .bool b]) ∧ Duo w w' u m u2 m2 (ustep U a) M ∧ Fr (fun j => j = u ∨ j = m) W w' := by
  obtain ⟨B, hu⟩ := h.dru.un
  obtain ⟨B2, hu2, hn1, hn2⟩ := h.two
  have hne := h.ne
  have := doU_any (BD := fun _ => False) (M := unew) hu (doc_unew W _) unew_ok id id ha.addr ha.data (by have := h.dru.ul; omega) (by have := h.dru.ml; omega) ha.byte hl
  refine this.mono fun e w' ⟨lv, b, he, _, hp, _⟩ => ⟨_, _, he, ⟨h.dru.post hp, ⟨B2, hu2.keep (hp.2.kept _ fun j _ hj e => ?_) (hp.2.block _ hu2.ult (by omega)) (hp.2.block _ hu2.mlt (by omega)), hn1, hn2⟩, h.ne⟩, hp.2⟩
  rcases e with rfl | rfl
  · exact hn1 hj
  · exact hn2 hj
theorem Duo.epochs {u2 m2 : Nat} {M : US} (h : Duo w W u m u2 m2 U M) :
    (∀ W', Below W.heap.size W W' → Calls Try.prog 23 #[.pointer (some ⟨u, 0, none⟩)] W' fun r w' => r = .returned (.int .i64 U.epoch) ∧ w' = W') ∧
    (∀ W', Below W.heap.size W W' → Calls Try.prog 23 #[.pointer (some ⟨u2, 0, none⟩)] W' fun r w' => r = .returned (.int .i64 M.epoch) ∧ w' = W') ∧
    (∀ W', Below W.heap.size W W' → Calls Try.prog 24 #[.pointer (some ⟨u, 0, none⟩)] W' fun r w' => r = .returned (.int .i64 U.low) ∧ w' = W') ∧
    (∀ W', Below W.heap.size W W' → Calls Try.prog 24 #[.pointer (some ⟨u2, 0, none⟩)] W' fun r w' => r = .returned (.int .i64 M.low) ∧ w' = W') ∧
    (∀ W', Below W.heap.size W W' → Calls Try.prog 16 #[.pointer (some ⟨u, 0, none⟩), .pointer (some ⟨u2, 0, none⟩)] W' fun r w' => r = .returned (.bool (sameUS U M)) ∧ Below W'.heap.size W' w') ∧
    (∀ W', Below W.heap.size W W' → Calls Try.prog 20 #[.pointer (some ⟨u2, 0, none⟩)] W' fun r w' => ∃ v, r = .returned v ∧ EntO w' W'.heap.size v M.cells ∧ Below W'.heap.size W' w') ∧
    ∀ W', Below W.heap.size W W' → ∀ a, I64 a → Calls Try.prog 25 #[.pointer (some ⟨u, 0, none⟩), .int .i64 U.epoch, .int .i64 a] W' (UReadPost W' (uread U U.epoch a)) := by
  obtain ⟨B, hu⟩ := h.dru.un
  obtain ⟨B2, hu2, _, _⟩ := h.two
  exact ⟨fun W' hb => uepoch_any (hu.old hb), fun W' hb => uepoch_any (hu2.old hb), fun W' hb => ulow_any (hu.old hb), fun W' hb => ulow_any (hu2.old hb), fun W' hb => usame_any (hu.old hb) (hu2.old hb), fun W' hb => uentries_any (hu2.old hb), fun W' hb a ha => uread_any (hu.old hb) _ ha⟩
end

set_option maxHeartbeats 8000000 in
set_option maxRecDepth 100000 in
theorem unitOnce_walk (v : Value) (acts : List UA) (w : World) (hr : UAsAt w (fun j => j < w.heap.size) v acts) :
    Calls Try.prog 5 #[v] w fun e w' => e = .returned (.bool true) ∧ Below w.heap.size w w' := by
  obtain ⟨ao, cap, rfl, hlc, hcap, _⟩ := hr.val
  have HAL : Hid (acts.length ≤ 9223372036854775807) := Lib.hid (Nat.le_trans hlc hcap)
  have HR := Lib.hid hr
  clear hr hlc hcap
  go_enter Try.func5, Try.ntmps5
  go_wp2_with fail
  refine (alive8_any w).mono ?_
  rintro e w1 ⟨rfl, hb1⟩
  have HB1 := Lib.hid hb1
  clear hb1
  by_cases h60 : (60 : Int) < (acts.length : Int)
  · go_wp2
    go_ret
    exact ⟨rfl, HB1.out⟩
  go_wp2_with fail
  refine (new_unit w1).mono ?_
  rintro e w2 ⟨rfl, hu2, hb2⟩
  have hd : Dru w w2 (w1.heap.size + 1) w1.heap.size unew := dru_new (HB1.out.trans (hb2.mono HB1.out.size)) hu2 (Nat.le_trans HB1.out.size (Nat.le_succ _)) HB1.out.size
  clear hu2 hb2 h60
  obtain ⟨q, hq⟩ : ∃ q, q = w1.heap.size := ⟨_, rfl⟩
  rw [← hq] at hd
  have HD := Lib.hid hd
  have HQ := Lib.hid hq
  clear hd hq
  go_wp2
  rw [← HQ.out]
  go_loopw [20] (fun i wr => ∃ (k : Nat) (U : US), k ≤ acts.length ∧ i = .int .i64 (k : Int) ∧ Dru w wr (q + 1) q U)
    (fun i _ => acts.length - (intOf i).toNat)
  case atStart => exact ⟨0, _, Nat.zero_le _, rfl, HD.out⟩
  case round =>
    obtain ⟨k, U, hk, rfl, hdru⟩ := hrel
    have HDR := Lib.hid hdru
    by_cases hlt : k < acts.length
    · obtain ⟨a, ha⟩ : ∃ a, acts[k]? = some a := ⟨_, List.getElem?_eq_getElem hlt⟩
      obtain ⟨b, off, bv, rfl, hbl, _, e0, e1, e2, e3, haa⟩ := HR.out.at ha
      have hbw := hdru.below
      have e0 := (hbw.cell (p := ⟨b, off + k * 4, none⟩) hbl).trans e0
      have e1 := (hbw.cell (p := ⟨b, off + k * 4 + 1, none⟩) hbl).trans e1
      have e2 := (hbw.cell (p := ⟨b, off + k * 4 + 2, none⟩) hbl).trans e2
      have e3 := (hbw.cell (p := ⟨b, off + k * 4 + 3, none⟩) hbl).trans e3
      obtain ⟨aob, capb, hbv, _, _, _⟩ := haa.data.reads.val
      subst hbv
      have hlti : (k : Int) < acts.length := by omega
      have HK := Lib.hid hlt
      obtain ⟨W5, hW5⟩ : ∃ W5, W5 = wr.alloc (.cells #[.int .i64 a.kind, .int .i64 a.epoch, .int .i64 a.addr, .slice aob a.data.length capb] 31) := ⟨_, rfl⟩
      have hb5 : Below wr.heap.size wr W5 := by rw [hW5]; exact (Below.refl _ _).alloc (Nat.le_refl _) _
      have hx5 : W5.heap[wr.heap.size]? = some (.cells #[.int .i64 a.kind, .int .i64 a.epoch, .int .i64 a.addr, .slice aob a.data.length capb] 31 (0, 0)) := by rw [hW5]; exact heap_alloc_new _ _
      have hd5 := hdru.old hb5
      have HCP := Lib.hid hd5.copy
      have HAA : Hid (UAAt w (fun j => j < w.heap.size) a (.slice aob a.data.length capb)) := Lib.hid haa
      have hok : UOk U := hdru.ok
      have HQL : Hid (q + 1 < wr.heap.size) := Lib.hid (by obtain ⟨_, h⟩ := hdru.un; exact h.ult)
      have hmk := ustep_marks U a
      have hel := ustep_elder (U := U) (a := a)
      have HMAY := Lib.hid (fun h f hf => ustep_may hok haa.byte (a := a) h (f := f) hf)
      have HST : Hid (UOk (ustep U a)) := Lib.hid (ustep_ok hok haa.byte)
      have HDO : Hid (∀ (W : World) (u2 m2 : Nat), Duo w W (q + 1) q u2 m2 U U → a.data.length ≤ 300 → Calls Try.prog 10 #[.pointer (some ⟨q + 1, 0, none⟩), .agg #[.int .i64 0, .int .i64 0, .slice none 0 0], .agg #[.int .i64 a.kind, .int .i64 a.epoch, .int .i64 a.addr, .slice aob a.data.length capb]] W fun e w' => ∃ dv b, e = .returned (.tuple #[dv, .bool b]) ∧ Duo w w' (q + 1) q u2 m2 (ustep U a) U ∧ Fr (fun j => j = q + 1 ∨ j = q) W w') := Lib.hid fun W u2 m2 hd hl =>
        hd.do ⟨HAA.out.data.keep (kept_below hd.dru.below), HAA.out.byte, HAA.out.kind, HAA.out.epoch, HAA.out.addr⟩ hl
      obtain ⟨U', hU'⟩ : ∃ U', U' = ustep U a := ⟨_, rfl⟩
      rw [← hU'] at hmk hel HMAY HST HDO
      have HEL : Hid (¬ (IntKind.u64.wrap a.kind).tmod 8 = 0 → a.epoch < U.epoch → sameUS U' U = true) := Lib.hid fun h1 h2 => by rw [hel h1 h2]; exact sameUS_self _
      have HOK := Lib.hid hok
      obtain ⟨kind, epoch, addr, data⟩ := a
      simp only at e0 e1 e2 e3 HDO hx5 hW5 HEL HMAY
      have HX5 := Lib.hid hx5
      have HMK := Lib.hid hmk
      have HW5 := Lib.hid hW5
      have HB5 := Lib.hid hb5
      have HBW := Lib.hid hbw
      clear hdru ha hbl hbw haa hb5 hx5 hd5 hok hU' hW5 hmk hel
      by_cases h300 : (300 : Int) < (data.length : Int)
      · go_wp2
        go_ret
        exact ⟨rfl, HBW.out.trans ((by rw [← HW5.out]; exact HB5.out : Below wr.heap.size wr _).mono HBW.out.size)⟩
      have H300 : Hid (data.length ≤ 300) := Lib.hid (by omega)
      go_wp2_with fail
      rw [← HW5.out]
      clear h300 e0 e1 e2 e3
      refine HCP.out.mono ?_
      rintro e w6 ⟨u2, m2, rfl, hduo, hb6⟩
      have hbx : wr.heap.size < W5.heap.size := (Array.getElem?_eq_some_iff.1 HX5.out).1
      obtain ⟨x0, x1, x2, x3⟩ := four_cells ((hb6.block _ hbx).trans HX5.out)
      have HBX := Lib.hid ((hb6.block _ hbx).trans HX5.out)
      have HDO6 := Lib.hid (HDO.out w6 u2 m2 hduo H300.out)
      obtain ⟨km, hkm⟩ : ∃ z, z = (IntKind.u64.wrap kind).tmod 8 := ⟨_, rfl⟩
      rw [← hkm] at HEL HMAY
      have HKM := Lib.hid hkm
      clear hduo hb6 hbx hkm
      go_wp2_with fail
      rw [← HKM.out]
      refine HDO6.out.mono ?_
      rintro e w7 ⟨dv, bb, rfl, hd7, hf7⟩
      have hx7 := (hf7.block wr.heap.size (Array.getElem?_eq_some_iff.1 HBX.out).1 (by have := HQL.out; omega)).trans HBX.out
      obtain ⟨ep, hep⟩ : ∃ z, z = U.epoch := ⟨_, rfl⟩
      obtain ⟨lo, hlo⟩ : ∃ z, z = U.low := ⟨_, rfl⟩
      obtain ⟨ep', hep'⟩ : ∃ z, z = U'.epoch := ⟨_, rfl⟩
      obtain ⟨lo', hlo'⟩ : ∃ z, z = U'.low := ⟨_, rfl⟩
      have hmk := HMK.out
      obtain ⟨h1, h2, h3, h4, h5, h6, h7⟩ := hd7.epochs
      rw [← hep, ← hep', ← hlo, ← hlo'] at hmk
      rw [← hep'] at h1 h7
      rw [← hep] at h2 HEL
      rw [← hlo'] at h3
      rw [← hlo] at h4
      have hdr : ∀ n, Below w7.heap.size w7 (w7.drewN n) := fun n => ⟨rfl, rfl, rfl, Nat.le_refl _, fun _ _ => rfl⟩
      have hd1 : Below w7.heap.size w7 w7.drew := ⟨rfl, rfl, rfl, Nat.le_refl _, fun _ _ => rfl⟩
      have HEU := Lib.hid (fun n => h1 _ (hdr n))
      have HEW := Lib.hid (fun n => h2 _ (hdr n))
      have HLU := Lib.hid (fun n => h3 _ (hdr n))
      have HLW := Lib.hid (fun n => h4 _ (hdr n))
      have HEUd := Lib.hid (h1 _ hd1)
      have HEWd := Lib.hid (h2 _ hd1)
      have HLUd := Lib.hid (h3 _ hd1)
      have HLWd := Lib.hid (h4 _ hd1)
      have HSMd := Lib.hid (h5 _ hd1)
      have HEN := Lib.hid h6
      have HRE := Lib.hid h7
      have HEUA := Lib.hid h1
      have HD7 := Lib.hid hd7
      have p1 : decide (ep' < ep) = false := decide_eq_false (by omega)
      have p2 : decide (lo' < lo) = false := decide_eq_false (by omega)
      obtain ⟨x0, x1, x2, x3⟩ := four_cells hx7
      have HX7 : Hid (wr.heap.size < w7.heap.size) := Lib.hid (Array.getElem?_eq_some_iff.1 hx7).1
      clear hd7 hf7 hx7 hep hlo hep' hlo' hmk h1 h2 h3 h4 h5 h6 h7 hdr hd1
      go_upto_region 14 with fail
      go_cut [20, 69] from 20 to 100 (fun i c wx => i = .int .i64 (k : Int) ∧ c = .bool false ∧ Below w7.heap.size w7 wx)
      case first =>
        by_cases hk0 : km = 0
        · have p3 : (km != 0) = false := by simp [hk0]
          clear hk0
          go_wp2_with fail
          go_quiet (first
          | (go_at_call 23; first | (with_reducible exact Calls.quiet_of_same (HEU.out _)) | (with_reducible exact Calls.quiet_of_same (HEW.out _)))
          | (go_at_call 24; first | (with_reducible exact Calls.quiet_of_same (HLU.out _)) | (with_reducible exact Calls.quiet_of_same (HLW.out _))))
          go_wp2
          go_meet
          case rel => exact ⟨rfl, rfl, ⟨rfl, rfl, rfl, Nat.le_refl _, fun _ _ => rfl⟩⟩
        have p3 : (km != 0) = true := by simp [hk0]
        by_cases hel : epoch < ep
        rotate_left
        · have p4 : decide (epoch < ep) = false := decide_eq_false hel
          clear hk0 hel
          go_wp2_with fail
          go_quiet (first
          | (go_at_call 23; first | (with_reducible exact Calls.quiet_of_same (HEU.out _)) | (with_reducible exact Calls.quiet_of_same (HEW.out _)))
          | (go_at_call 24; first | (with_reducible exact Calls.quiet_of_same (HLU.out _)) | (with_reducible exact Calls.quiet_of_same (HLW.out _))))
          go_wp2
          go_meet
          case rel => exact ⟨rfl, rfl, ⟨rfl, rfl, rfl, Nat.le_refl _, fun _ _ => rfl⟩⟩
        have p4 : decide (epoch < ep) = true := decide_eq_true hel
        have HSM := HSMd.out
        rw [HEL.out hk0 hel] at HSM
        have HSMe := Lib.hid HSM
        clear hk0 hel HSM
        go_wp2_with fail
        go_region_held3 (fun w' => w'.cell? ⟨wr.heap.size, 1, none⟩ = some (.int .i64 epoch)) (go_keep) (first
          | (go_at_call 16
             refine HSMe.out.mono ?_
             rintro r w8 ⟨rfl, hb8⟩
             have HB8 : Hid (Below w7.heap.size w7 w8) := Lib.hid ⟨hb8.os, hb8.tape, hb8.output, hb8.size, hb8.block⟩
             have x1 := (HB8.out.cell (p := ⟨wr.heap.size, 1, none⟩) HX7.out).trans x1
             clear hb8)
          | (go_at_call 23; (first | (with_reducible refine HEUd.out.mono ?_) | (with_reducible refine HEWd.out.mono ?_)); rintro r w8 ⟨rfl, rfl⟩)
          | (go_at_call 24; (first | (with_reducible refine HLUd.out.mono ?_) | (with_reducible refine HLWd.out.mono ?_)); rintro r w8 ⟨rfl, rfl⟩))
        all_goals
          go_wp2
          go_meet
          case rel => exact ⟨rfl, rfl, HB8.out⟩
      case rest =>
        obtain ⟨rfl, rfl, hbc⟩ := hcut
        have HBC := Lib.hid hbc
        have HEW9 := Lib.hid (HEN.out wc hbc)
        clear hbc p1 p2 x0 x1 x2 x3
        go_wp2_with fail
        refine HEW9.out.mono ?_
        rintro e w8 ⟨v8, rfl, ho8, hb8⟩
        obtain ⟨ao8, cap8, rfl⟩ := ho8.val
        have HE8 := Lib.hid ho8.at'
        have HB8 := Lib.hid (HBC.out.trans (hb8.mono HBC.out.size))
        have HD8 := Lib.hid ((HD7.out.old HBC.out).old hb8)
        obtain ⟨n, hn⟩ : ∃ n, n = U.cells.length := ⟨_, rfl⟩
        rw [← hn] at HE8
        rw [← hn]
        have HNE := Lib.hid hn
        have HN9 : Hid (n ≤ 9223372036854775807) := Lib.hid (by have := HOK.out.len; omega)
        clear ho8 hb8 hn
        go_wp2
        go_loopw [73] (fun i wz => ∃ j : Nat, j ≤ n ∧ i = .int .i64 (j : Int) ∧ Below w8.heap.size w8 wz)
          (fun i _ => n - (intOf i).toNat)
        case atStart => exact ⟨0, Nat.zero_le _, rfl, Below.refl _ _⟩
        case round =>
          obtain ⟨j, hj, rfl, hbz⟩ := hrel
          have HBZ := Lib.hid hbz
          by_cases hjt : j < n
          · obtain ⟨f, hf⟩ : ∃ f, U.cells[j]? = some f := ⟨_, List.getElem?_eq_getElem (by rw [← HNE.out]; exact hjt)⟩
            have hmem := List.mem_of_getElem? hf
            obtain ⟨b2, off2, dv2, rfl, hb2, _, d0, d1, d2, hat2⟩ := HE8.out.at hf
            obtain ⟨ao2, cap2, rfl, _, _, _⟩ := hat2.reads.val
            replace d0 := (hbz.cell (p := ⟨b2, off2 + j * 3, none⟩) hb2).trans d0
            replace d1 := (hbz.cell (p := ⟨b2, off2 + j * 3 + 1, none⟩) hb2).trans d1
            replace d2 := (hbz.cell (p := ⟨b2, off2 + j * 3 + 2, none⟩) hb2).trans d2
            have hfa := HOK.out.at' f hmem
            have hlo := HOK.out.low
            have hrange : 0 ≤ f.1 ∧ f.1 ≤ 1048575 := ⟨by omega, hfa.2.1⟩
            have HMY := Lib.hid (fun h => HMAY.out h f hmem)
            have hjti : (j : Int) < n := by omega
            have HJ := Lib.hid hjt
            obtain ⟨W9, hW9⟩ : ∃ W9, W9 = wr.alloc (.cells #[.int .i64 f.1, .int .i64 f.2.1, .slice ao2 f.2.2.length cap2] 51) := ⟨_, rfl⟩
            have hb9 : Below wr.heap.size wr W9 := by rw [hW9]; exact (Below.refl _ _).alloc (Nat.le_refl _) _
            have hx9 : W9.heap[wr.heap.size]? = some (.cells #[.int .i64 f.1, .int .i64 f.2.1, .slice ao2 f.2.2.length cap2] 51 (0, 0)) := by rw [hW9]; exact heap_alloc_new _ _
            have hd9 := (HD8.out.old hbz).old hb9
            have HB89 : Hid (Below w8.heap.size w8 W9) := Lib.hid (hbz.trans (hb9.mono hbz.size))
            obtain ⟨h1, _, _, _, _, _, h7⟩ := hd9.epochs
            have HAT9 := Lib.hid ((hat2.keep (kept_new hbz _)).keep (kept_new hb9 _))
            have hrd := uread_self (U := U') hrange
            obtain ⟨ep', hep'⟩ : ∃ z, z = U'.epoch := ⟨_, rfl⟩
            rw [← hep'] at h1 h7 hrd
            have hd1 : Below W9.heap.size W9 (W9.alloc (.cells #[.int .i64 0, .slice none 0 0] 49)).drew := ((Below.refl _ _).alloc (Nat.le_refl _) _).drew
            have HZ10 : Hid ((W9.alloc (.cells #[.int .i64 0, .slice none 0 0] 49)).heap[W9.heap.size]? = some (.cells #[.int .i64 0, .slice none 0 0] 49 (0, 0))) := Lib.hid (heap_alloc_new _ _)
            have HD10 := Lib.hid hd1
            have HEd := Lib.hid (h1 _ hd1)
            have HEe := Lib.hid (h1 W9.drew ⟨rfl, rfl, rfl, Nat.le_refl _, fun _ _ => rfl⟩)
            have hrd9 := h7 _ hd1 f.1 ⟨by omega, by omega⟩
            rw [hrd] at hrd9
            have HRd := Lib.hid hrd9
            have hrd8 := h7 W9.drew ⟨rfl, rfl, rfl, Nat.le_refl _, fun _ _ => rfl⟩ f.1 ⟨by omega, by omega⟩
            rw [hrd] at hrd8
            have HRe := Lib.hid hrd8
            have HD9 := Lib.hid hd9
            obtain ⟨y0, y1, y2, _⟩ := three_cells hx9
            have HX9 := Lib.hid hx9
            have HY := Lib.hid (And.intro y1 y2)
            have HF8 : Hid (∀ y ∈ f.2.2, y < 256) := Lib.hid hfa.2.2.2.2
            have HU8 : Hid (∀ y ∈ (uat U' f.1).2, y < 256) := Lib.hid (by
              unfold uat
              split
              · intro y hy; cases hy
              · cases hg : iget U'.cells f.1 with
                | none => intro y hy; cases hy
                | some c => exact (HST.out.at' _ (iget_some hg)).2.2.2.2)
            obtain ⟨⟨kc, dc⟩, hcc⟩ : ∃ c, c = uat U' f.1 := ⟨_, rfl⟩
            rw [← hcc] at HRd HRe HU8 HMY
            have HW9 := Lib.hid hW9
            have HXL : Hid (wr.heap.size < W9.heap.size) := Lib.hid (Array.getElem?_eq_some_iff.1 hx9).1
            clear hf hmem hb2 hat2 hfa hlo hrange hb9 hx9 hd9 h1 h7 hrd hep' hd1 hrd9 hrd8 hcc hbz hW9
            obtain ⟨fa, fk, fd⟩ := f
            simp only at *
            generalize fd.length = n3 at *
            go_wp2_with fail
            rw [← HW9.out]
            have hnw := World.new_ne W9 ⟨wr.heap.size, 0, none⟩ y0
            go_region_held3 (fun w' => w'.cell? ⟨wr.heap.size, 0, none⟩ = some (.int .i64 fa)) (go_keep) (first
              | (go_at_call 23; (first | (with_reducible refine HEd.out.mono ?_) | (with_reducible refine HEe.out.mono ?_)); rintro r w10 ⟨rfl, rfl⟩)
              | (go_at_call 25
                 with_reducible refine HRd.out.mono ?_
                 rintro r w10 ⟨dv10, rfl, ho10, hb10⟩
                 have HB10 : Hid (Below W9.heap.size W9 w10) := Lib.hid (HD10.out.trans (hb10.mono HD10.out.size))
                 have hz10 := (hb10.block W9.heap.size (Array.getElem?_eq_some_iff.1 HZ10.out).1).trans HZ10.out
                 obtain ⟨z0, z1, zf⟩ := two_cells hz10
                 have y0 := (HB10.out.cell (p := ⟨wr.heap.size, 0, none⟩) HXL.out).trans y0
                 have y1 := (HB10.out.cell (p := ⟨wr.heap.size, 1, none⟩) HXL.out).trans y1
                 have y2 := (HB10.out.cell (p := ⟨wr.heap.size, 2, none⟩) HXL.out).trans y2
                 obtain ⟨ao10, cap10, rfl, _, _, _⟩ := ho10.reads.val
                 have HP : Hid (Below W9.heap.size W9 ((w10.setCell ⟨W9.heap.size, 0, none⟩ (.int .i64 kc)).setCell ⟨W9.heap.size, 1, none⟩ (.slice ao10 dc.length cap10)) ∧ Reads ((w10.setCell ⟨W9.heap.size, 0, none⟩ (.int .i64 kc)).setCell ⟨W9.heap.size, 1, none⟩ (.slice ao10 dc.length cap10)) .u8 (.slice ao10 dc.length cap10) dc) := Lib.hid ⟨(HB10.out.setCell (Nat.le_refl _) _).setCell (Nat.le_refl _) _, (ho10.set2 (fun j hj e => by
                   have := (ho10.lt j hj).1
                   simp at this
                   omega) _ _).reads⟩
                 have hne1 : ¬ wr.heap.size = W9.heap.size := Nat.ne_of_lt HXL.out
                 have hne2 : ¬ W9.heap.size = wr.heap.size := fun e => hne1 e.symm
                 clear ho10 hb10 hz10)
              | (go_at_call 25
                 with_reducible refine HRe.out.mono ?_
                 rintro r w10 ⟨dv10, rfl, ho10, hb10⟩
                 have HB10 : Hid (Below W9.heap.size W9 w10) := Lib.hid ⟨hb10.os, hb10.tape, hb10.output, hb10.size, hb10.block⟩
                 have y0 := (HB10.out.cell (p := ⟨wr.heap.size, 0, none⟩) HXL.out).trans y0
                 have y1 := (HB10.out.cell (p := ⟨wr.heap.size, 1, none⟩) HXL.out).trans y1
                 have y2 := (HB10.out.cell (p := ⟨wr.heap.size, 2, none⟩) HXL.out).trans y2
                 obtain ⟨ao10, cap10, rfl, _, _, _⟩ := ho10.reads.val
                 have HP : Hid (Below W9.heap.size W9 (w10.alloc (.cells #[.int .i64 kc, .slice ao10 dc.length cap10] 49)) ∧ Reads (w10.alloc (.cells #[.int .i64 kc, .slice ao10 dc.length cap10] 49)) .u8 (.slice ao10 dc.length cap10) dc) := Lib.hid ⟨HB10.out.alloc HB10.out.size _, ho10.reads.new ((Below.refl _ _).alloc (Nat.le_refl _) _)⟩
                 have hne1 : ¬ wr.heap.size = w10.heap.size := Nat.ne_of_lt (Nat.lt_of_lt_of_le HXL.out HB10.out.size)
                 have hne2 : ¬ w10.heap.size = wr.heap.size := fun e => hne1 e.symm
                 have hnw := World.new_ne w10 ⟨wr.heap.size, 0, none⟩ y0
                 clear ho10 hb10))
            all_goals
              rw [errV_zero]
              have q1 := (HP.out.1.cell (p := ⟨wr.heap.size, 1, none⟩) HXL.out).trans HY.out.1
              have q2 := (HP.out.1.cell (p := ⟨wr.heap.size, 2, none⟩) HXL.out).trans HY.out.2
              have HPB : Hid (Below w8.heap.size w8 _) := Lib.hid (HB89.out.trans (HP.out.1.mono HB89.out.size))
              by_cases h6 : km = 6
              · have p5 : (km != 6) = false := by simp [h6]
                clear h6
                go_wp2
                go_roundw
                case rel => exact ⟨j + 1, HJ.out, (by first | exact uinc_eq HJ.out HN9.out | rfl), HPB.out⟩
                case measure => first | exact uinc_meas HJ.out HN9.out | (have := HJ.out; simp [intOf]; omega)
              · have p5 : (km != 6) = true := by simp [h6]
                have HMC := may_any fk kc _ _ fd dc _ (HAT9.out.keep (kept_new HP.out.1 _)).reads HP.out.2 HF8.out HU8.out
                rw [HMY.out h6] at HMC
                have HMD := Lib.hid HMC
                clear h6 HMC
                go_wp2_with fail
                refine HMD.out.mono ?_
                rintro e wy ⟨rfl, hby⟩
                have HPC := Lib.hid (HPB.out.trans (hby.mono HPB.out.size))
                clear hby
                go_wp2
                go_roundw
                case rel => exact ⟨j + 1, HJ.out, (by first | exact uinc_eq HJ.out HN9.out | rfl), HPC.out⟩
                case measure => first | exact uinc_meas HJ.out HN9.out | (have := HJ.out; simp [intOf]; omega)
          · obtain rfl : j = n := by omega
            have HDF := Lib.hid (HD8.out.old hbz).dru
            clear hbz
            go_wp2
            go_roundw
            case rel => exact ⟨k + 1, U', HK.out, (by first | exact uinc_eq HK.out HAL.out | rfl), HDF.out⟩
            case measure => first | exact uinc_meas HK.out HAL.out | (have := HK.out; simp [intOf]; omega)
    · obtain rfl : k = acts.length := by omega
      have HBF := Lib.hid hdru.below
      clear hdru
      go_wp2
      go_ret
      exact ⟨rfl, HBF.out⟩
end Go.Proofs.Ytnhffeppbliabaa
