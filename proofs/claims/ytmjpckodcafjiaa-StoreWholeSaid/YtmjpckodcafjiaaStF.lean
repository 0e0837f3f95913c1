/- Long of layer 7. -/
import Derived.Test.YtmjpckodcafjiaaStE
namespace Go.Proofs.Ytmjpckodcafjiaa
open Go.RowKit

set_option maxHeartbeats 4000000 in
set_option maxRecDepth 100000 in
theorem longD7_any (v : Value) (acts : List Act7) (most : Int) (w : World) (B : Nat → Prop) (hr : Acts7At w B v acts) (hl : acts.length ≤ 9223372036854775807) :
    Calls Try.prog 10 #[v, .int .i64 most] w fun e w' => e = .returned (.bool (longD7 acts most)) ∧ Below w.heap.size w w' := by
  obtain ⟨ao, cap, rfl, _, _, _⟩ := hr.val
  have HR := Lib.hid hr
  clear hr
  go_enter Try.func10, Try.ntmps10
  go_wp2
  go_loopw [9] (fun i wr => ∃ k : Nat, k ≤ acts.length ∧ i = .int .i64 (k : Int) ∧ (acts.take k).any longA7 = false ∧ Below w.heap.size w wr)
    (fun i _ => acts.length - (intOf i).toNat)
  case atStart => exact ⟨0, Nat.zero_le _, rfl, rfl, Below.refl _ _⟩
  case round =>
    obtain ⟨k, hk, rfl, hno, hb⟩ := hrel
    have HB := Lib.hid hb
    have HNO := Lib.hid hno
    by_cases hlt : k < acts.length
    · obtain ⟨a, ha⟩ : ∃ a, acts[k]? = some a := ⟨_, List.getElem?_eq_getElem hlt⟩
      obtain ⟨b, off, bv, dv, dk, kv, rfl, e0, e1, e2, e3, e4, e5, e6, e7, e8, e9, hat⟩ := (HR.out.kept (w' := wr) (kept_new hb B)).at ha
      obtain ⟨aob, capb, rfl, _, _, _⟩ := hat.bytes.reads.val
      obtain ⟨aok, capk, rfl, _, _, _⟩ := id hat.keep
      have hkl : (a.keep.map Value.bool).length = a.keep.length := List.length_map _
      rw [hkl] at e9
      have HANY := Lib.hid (any_take7 ha)
      have HA := Lib.hid ha
      have HACT := Lib.hid hat.act
      obtain ⟨s1, hs1⟩ : ∃ s1 : ByteArray, nmV a.name = .string s1 ∧ s1.size = a.name.length := ⟨_, rfl, size_nm _⟩
      obtain ⟨s2, hs2⟩ : ∃ s2 : ByteArray, nmV a.act.name = .string s2 := ⟨_, rfl⟩
      obtain ⟨s3, hs3⟩ : ∃ s3 : ByteArray, nmV a.act.to = .string s3 := ⟨_, rfl⟩
      rw [hs1.1] at e1
      rw [hs2] at e4
      rw [hs3] at e5
      have l1 := hs1.2
      have HS2 := Lib.hid hs2
      have HS3 := Lib.hid hs3
      have hlti : (k : Int) < acts.length := by omega
      have HK := Lib.hid hlt
      obtain ⟨kind, name, bytes, act, keep⟩ := a
      simp only [] at e0 e2 e3 e6 e7 e8 e9 l1
      obtain ⟨dn, hdn⟩ : ∃ dn, act.n = dn := ⟨_, rfl⟩
      obtain ⟨dki, hdki⟩ : ∃ dki, act.kind = dki := ⟨_, rfl⟩
      rw [hdn] at e7
      rw [hdki] at e3
      have HDN := Lib.hid hdn
      have HDKI := Lib.hid hdki
      have hact := hat.act
      obtain ⟨aod, capd, hdv, _, _, _⟩ := hact.bytes.reads.val
      obtain ⟨aoe, cape, hde, _, _, _⟩ := id hact.keep
      simp only [] at hdv hde
      obtain ⟨nd, hnd⟩ : ∃ nd, nd = act.bytes.length := ⟨_, rfl⟩
      obtain ⟨ne, hne⟩ : ∃ ne, ne = (act.keep.map Value.bool).length := ⟨_, rfl⟩
      rw [← hnd] at hdv
      rw [← hne] at hde
      subst hdv
      subst hde
      clear hno hat ha hkl hs1 hs2 hs3 hact hnd hne hdn hdki
      by_cases q1 : 60 < name.length
      · have p1 : decide ((60 : Int) < (name.length : Int)) = true := decide_eq_true (by omega)
        have HE := Lib.hid (show longD7 acts most = true from longD7_hit HA.out (by unfold longA7 longB7; simp only []; rw [decide_eq_true q1]; simp))
        go_wp2
        go_ret
        exact ⟨by rw [HE.out]; rfl, HB.out.alloc HB.out.size _⟩
      have p1 : decide ((60 : Int) < (name.length : Int)) = false := decide_eq_false (by omega)
      by_cases q3 : 60 < keep.length
      · have p3 : decide ((60 : Int) < (keep.length : Int)) = true := decide_eq_true (by omega)
        have HE := Lib.hid (show longD7 acts most = true from longD7_hit HA.out (by unfold longA7 longB7; simp only []; rw [decide_eq_true q3]; simp))
        go_wp2
        go_ret
        exact ⟨by rw [HE.out]; rfl, HB.out.alloc HB.out.size _⟩
      have p3 : decide ((60 : Int) < (keep.length : Int)) = false := decide_eq_false (by omega)
      by_cases q4 : 300 < bytes.length
      · have p4 : decide ((300 : Int) < (bytes.length : Int)) = true := decide_eq_true (by omega)
        by_cases q5 : bytes.length ≤ 65536
        · have p5 : decide ((bytes.length : Int) ≤ 65536) = true := decide_eq_true (by omega)
          have HE := Lib.hid (show longD7 acts most = true from longD7_hit HA.out (by unfold longA7 longB7; simp only []; rw [decide_eq_true q4, decide_eq_true q5]; simp))
          go_wp2
          go_ret
          exact ⟨by rw [HE.out]; rfl, HB.out.alloc HB.out.size _⟩
        · have p5 : decide ((bytes.length : Int) ≤ 65536) = false := decide_eq_false (by omega)
          by_cases q6 : 66000 < bytes.length
          · have p6 : decide ((66000 : Int) < (bytes.length : Int)) = true := decide_eq_true (by omega)
            have HE := Lib.hid (show longD7 acts most = true from longD7_hit HA.out (by unfold longA7 longB7; simp only []; rw [decide_eq_true q6]; simp))
            go_wp2
            go_ret
            exact ⟨by rw [HE.out]; rfl, HB.out.alloc HB.out.size _⟩
          · have p6 : decide ((66000 : Int) < (bytes.length : Int)) = false := decide_eq_false (by omega)
            have HF := Lib.hid (show longB7 ⟨kind, name, bytes, act, keep⟩ = false by unfold longB7; simp only []; rw [decide_eq_false q1, decide_eq_false q3, decide_eq_false q5, decide_eq_false q6]; simp)
            obtain ⟨W5, hW5⟩ : ∃ W5, W5 = wr.alloc (.cells #[.int .i64 kind, .string s1, .slice aob bytes.length capb, .int .i64 dki, .string s2, .string s3, .slice aod nd capd, .int .i64 dn, .slice aoe ne cape, .slice aok keep.length capk] 41) := ⟨_, rfl⟩
            obtain ⟨W6, hW6⟩ : ∃ W6, W6 = W5.alloc (.cells #[.int .i64 dki, .string s2, .string s3, .slice aod nd capd, .int .i64 dn, .slice aoe ne cape] 39) := ⟨_, rfl⟩
            have hb6 : Below w.heap.size w W6 := by rw [hW6, hW5]; exact (HB.out.alloc HB.out.size _).alloc (Nat.le_trans HB.out.size (by simp)) _
            have hbr : Below wr.heap.size wr W6 := by rw [hW6, hW5]; exact ((Below.refl _ _).alloc (Nat.le_refl _) _).alloc (by simp) _
            have hx6 : W6.heap[W5.heap.size]? = some (.cells #[.int .i64 dki, .string s2, .string s3, .slice aod nd capd, .int .i64 dn, .slice aoe ne cape] 39 (0, 0)) := by rw [hW6]; exact heap_alloc_new _ _
            rw [show W5.heap.size = wr.heap.size + 1 from by rw [hW5]; simp] at hx6
            have hrec : ActsAt W6 (fun j => j < W6.heap.size) (.slice (some ⟨wr.heap.size + 1, 0, none⟩) 1 1) [act] := by
              refine ⟨[actRow act (.slice aod nd capd) (.slice aoe ne cape)], ?_, rfl, fun i a hi => ?_⟩
              · have h1 : actRow act (.slice aod nd capd) (.slice aoe ne cape) = [.int .i64 dki, .string s2, .string s3, .slice aod nd capd, .int .i64 dn, .slice aoe ne cape] := by unfold actRow; rw [HDN.out, HDKI.out, HS2.out, HS3.out]
                rw [h1]
                exact (rec_lone (k := 6) hx6).mono fun j hj _ => hj
              · cases i with
                | zero =>
                  obtain rfl : act = a := by simpa using hi
                  exact ⟨_, _, rfl, (HACT.out.kept (w' := W6) (kept_new hbr _)).mono fun j hj _ => hj⟩
                | succ i => simp at hi
            have HCALL := Lib.hid (longD_any _ [act] 1 W6 (fun j => j < W6.heap.size) hrec (fun j hj => hj) (by simp))
            have HB6 := Lib.hid hb6
            have HW6 := Lib.hid hW6
            have HW5 := Lib.hid hW5
            clear hb6 hbr hx6 hrec hW6 hW5
            go_wp2_with fail
            rw [← HW5.out, ← HW6.out]
            refine HCALL.out.mono ?_
            rintro e w7 ⟨rfl, hb7⟩
            have HB7 := Lib.hid (HB6.out.trans (hb7.mono HB6.out.size))
            clear hb7
            cases hlg : longD [act] 1
            rotate_left
            · have HE := Lib.hid (show longD7 acts most = true from longD7_hit HA.out (by unfold longA7; simp only []; rw [hlg]; simp))
              clear hlg
              go_wp2
              go_ret
              exact ⟨by rw [HE.out]; rfl, HB7.out⟩
            · have HF2 := Lib.hid (show (acts.take (k + 1)).any longA7 = false by rw [HANY.out, HNO.out]; unfold longA7; rw [HF.out]; simp only []; rw [hlg]; rfl)
              clear hlg
              go_wp2
              go_roundw
              case rel => exact ⟨k + 1, HK.out, by first | exact inc_eq HK.out hl | rfl, HF2.out, HB7.out⟩
              case measure => first | exact inc_meas HK.out hl | (have := HK.out; simp [intOf]; omega)
      · have p4 : decide ((300 : Int) < (bytes.length : Int)) = false := decide_eq_false (by omega)
        have p6 : decide ((66000 : Int) < (bytes.length : Int)) = false := decide_eq_false (by omega)
        have HF := Lib.hid (show longB7 ⟨kind, name, bytes, act, keep⟩ = false by unfold longB7; simp only []; rw [decide_eq_false q1, decide_eq_false q3, decide_eq_false q4, decide_eq_false (p := 66000 < bytes.length) (by omega)]; simp)
        obtain ⟨W5, hW5⟩ : ∃ W5, W5 = wr.alloc (.cells #[.int .i64 kind, .string s1, .slice aob bytes.length capb, .int .i64 dki, .string s2, .string s3, .slice aod nd capd, .int .i64 dn, .slice aoe ne cape, .slice aok keep.length capk] 41) := ⟨_, rfl⟩
        obtain ⟨W6, hW6⟩ : ∃ W6, W6 = W5.alloc (.cells #[.int .i64 dki, .string s2, .string s3, .slice aod nd capd, .int .i64 dn, .slice aoe ne cape] 39) := ⟨_, rfl⟩
        have hb6 : Below w.heap.size w W6 := by rw [hW6, hW5]; exact (HB.out.alloc HB.out.size _).alloc (Nat.le_trans HB.out.size (by simp)) _
        have hbr : Below wr.heap.size wr W6 := by rw [hW6, hW5]; exact ((Below.refl _ _).alloc (Nat.le_refl _) _).alloc (by simp) _
        have hx6 : W6.heap[W5.heap.size]? = some (.cells #[.int .i64 dki, .string s2, .string s3, .slice aod nd capd, .int .i64 dn, .slice aoe ne cape] 39 (0, 0)) := by rw [hW6]; exact heap_alloc_new _ _
        rw [show W5.heap.size = wr.heap.size + 1 from by rw [hW5]; simp] at hx6
        have hrec : ActsAt W6 (fun j => j < W6.heap.size) (.slice (some ⟨wr.heap.size + 1, 0, none⟩) 1 1) [act] := by
          refine ⟨[actRow act (.slice aod nd capd) (.slice aoe ne cape)], ?_, rfl, fun i a hi => ?_⟩
          · have h1 : actRow act (.slice aod nd capd) (.slice aoe ne cape) = [.int .i64 dki, .string s2, .string s3, .slice aod nd capd, .int .i64 dn, .slice aoe ne cape] := by unfold actRow; rw [HDN.out, HDKI.out, HS2.out, HS3.out]
            rw [h1]
            exact (rec_lone (k := 6) hx6).mono fun j hj _ => hj
          · cases i with
            | zero =>
              obtain rfl : act = a := by simpa using hi
              exact ⟨_, _, rfl, (HACT.out.kept (w' := W6) (kept_new hbr _)).mono fun j hj _ => hj⟩
            | succ i => simp at hi
        have HCALL := Lib.hid (longD_any _ [act] 1 W6 (fun j => j < W6.heap.size) hrec (fun j hj => hj) (by simp))
        have HB6 := Lib.hid hb6
        have HW6 := Lib.hid hW6
        have HW5 := Lib.hid hW5
        clear hb6 hbr hx6 hrec hW6 hW5
        go_wp2_with fail
        rw [← HW5.out, ← HW6.out]
        refine HCALL.out.mono ?_
        rintro e w7 ⟨rfl, hb7⟩
        have HB7 := Lib.hid (HB6.out.trans (hb7.mono HB6.out.size))
        clear hb7
        cases hlg : longD [act] 1
        rotate_left
        · have HE := Lib.hid (show longD7 acts most = true from longD7_hit HA.out (by unfold longA7; simp only []; rw [hlg]; simp))
          clear hlg
          go_wp2
          go_ret
          exact ⟨by rw [HE.out]; rfl, HB7.out⟩
        · have HF2 := Lib.hid (show (acts.take (k + 1)).any longA7 = false by rw [HANY.out, HNO.out]; unfold longA7; rw [HF.out]; simp only []; rw [hlg]; rfl)
          clear hlg
          go_wp2
          go_roundw
          case rel => exact ⟨k + 1, HK.out, by first | exact inc_eq HK.out hl | rfl, HF2.out, HB7.out⟩
          case measure => first | exact inc_meas HK.out hl | (have := HK.out; simp [intOf]; omega)
    · obtain rfl : k = acts.length := by omega
      have HE := Lib.hid (show longD7 acts most = decide (most < (acts.length : Int)) by unfold longD7; rw [List.take_of_length_le (Nat.le_refl _)] at hno; rw [hno]; rfl)
      clear hno hb
      go_wp2
      go_ret
      exact ⟨by rw [HE.out]; rfl, HB.out⟩

end Go.Proofs.Ytmjpckodcafjiaa
