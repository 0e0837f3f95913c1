/- The walk of the statement that what is put is taken as it was, and that what is taken has just those bytes. -/
import Derived.Test.YtlaloddmlkkbgaaSizeA
import Derived.Test.YtlaloddmlkkbgaaApartW
import Derived.Test.YtlaloddmlkkbgaaRdE
import Derived.Deep.RegionHeld3
import Derived.Deep.DrawnRows
namespace Go.Proofs.Ytlaloddmlkkbgaa
open Go.RowKit

theorem zz_zg (n : Nat) : zz (zg (n : Int)) = (n : Int) := by
  unfold zg zz
  split <;> split <;> omega

theorem reads_nil (w : World) (k : IntKind) : Reads w k (.slice none 0 0) [] := ⟨none, 0, rfl, by simp, by simp [maxLen], by simp, .inl rfl⟩

theorem u64_lit {l : List Nat} (h : ∀ n ∈ l, U64 n) {n : Nat} (hn : U64 n) : ∀ x ∈ n :: l, U64 x := by
  intro x hx
  rcases List.mem_cons.1 hx with rfl | hx
  · exact hn
  · exact h x hx

set_option maxHeartbeats 4000000 in
set_option maxRecDepth 100000 in
theorem back_walk (n : Nat) (nv bv : Value) (ns b : List Nat) (w : World) (hn : U64 n) (h1 : Reads w .u64 nv ns) (hu : ∀ n ∈ ns, U64 n) (h2 : Reads w .u8 bv b) (hb : ∀ y ∈ b, y < 256) (s1 : b.length ≤ 100) (s2 : ns.length ≤ 40) :
    Calls Try.prog 6 #[.int .u64 (n : Int), nv, bv] w fun e w' => e = .returned (.bool true) ∧ Below w.heap.size w w' := by
  obtain ⟨an, capn, rfl, _, _, _⟩ := h1.val
  obtain ⟨ab, capb, rfl, hbc, _, _⟩ := h2.val
  have HU := Lib.hid hu
  have HB := Lib.hid hb
  have H1 := Lib.hid h1
  have H2 := Lib.hid h2
  clear hu hb h1 h2
  have hl10 := enc_len10 hn
  have hl1 := enc_pos n
  go_enter Try.func6, Try.ntmps6
  go_wp2_with fail
  refine (alive_any w).mono ?_
  rintro e w0 ⟨rfl, hb0⟩
  go_wp2_with fail
  refine (put_any _ _ [] [n] _ (reads_nil _ _) (reads_lit _ _ _ n) (by intro x hx; simp at hx; subst hx; exact hn) (by simp)).mono ?_
  rintro e w1 ⟨v7, rfl, ho7, hb1⟩
  have hd1 : Below w.heap.size w w1 := hb0.trans ((((Below.refl _ _).alloc (Nat.le_refl _) _).trans (hb1.mono (by simp))).mono hb0.size)
  have hr7 : Reads w1 .u8 v7 (enc n) := by have := ho7.reads; simpa [encs] using this
  clear ho7 hb1 hb0
  obtain ⟨a7, cap7, rfl, _, _, _⟩ := hr7.val
  go_wp2_with (at_builtin; go_must (refine wpList_app _ rfl _ _ 22 rfl w1.heap.size 5 (.int .u8 0) 1 Try.underlying22 Try.info5 rfl .u8 _ [] rfl (owns_empty w1 w1.heap.size 5 .u8 (Nat.le_refl _)) _ (enc n) rfl (hr7.below ((Below.refl _ _).alloc (Nat.le_refl _) _) (Nat.le_refl _)) (by decide) ?c1 ?c3 ?_))
  case c1 => (try simp); omega
  case c3 => simp
  intro v31 w2 ho31 hg2
  have hb2 : Below w1.heap.size w1 w2 := ((Below.refl _ _).alloc (Nat.le_refl _) _).grown hg2 (by simp) (fun j hj => by simp [Value.ownBlock] at hj; omega)
  have hd2 := hd1.trans (hb2.mono hd1.size)
  have hr72 := hr7.below hb2 (Nat.le_refl _)
  clear hg2 hr7
  go_wp2_with (at_builtin; go_must (refine wpList_app _ rfl _ _ 22 rfl w1.heap.size 5 (.int .u8 0) 1 Try.underlying22 Try.info5 rfl .u8 _ (enc n) rfl ho31 _ b rfl (H2.out.below hd2 (Nat.le_refl _)) (by decide) ?c1 ?c3 ?_))
  case c1 => (try simp); omega
  case c3 => exact hb2.size
  intro v33 w3 ho33 hg3
  have hb13 := hb2.grown hg3 hb2.size (fun j hj => (ho31.lt j hj).1)
  have hd3 := hd1.trans (hb13.mono hd1.size)
  clear hg3 ho31 hr72 hd2 hb2 hb13 hd1
  go_wp2_with fail
  have ht : Taken (enc n ++ b) n (enc n).length (true = true) := .inl ⟨rfl, hn, List.prefix_append _ _, rfl⟩
  refine (take_at ht _ _ ho33.reads (app_byte (enc_u64 hn) HB.out)).mono ?_
  rintro e w4 ⟨rfl, rfl⟩
  have hf : formIf true = .nilIface := rfl
  clear ht ho33
  go_wp2_with fail
  refine (size_any n _ hn).mono ?_
  rintro e w5 ⟨rfl, rfl⟩
  go_wp2_with fail
  refine (zagzig_any n _ hn).mono ?_
  rintro e w5 ⟨rfl, rfl⟩
  have hzz := zz_zg n
  have hzr : -9223372036854775808 ≤ zg (n : Int) ∧ zg (n : Int) ≤ 9223372036854775807 := by have := hn.int; unfold zg; split <;> omega
  generalize zg (n : Int) = Z at hzz hzr
  have HZZ := Lib.hid hzz
  clear hzz
  go_wp2_with fail
  refine (zigzag_any Z _ hzr.1 hzr.2).mono ?_
  rintro e w5 ⟨rfl, rfl⟩
  rw [HZZ.out]
  clear hzr
  have hbl10 := enc_len10 (u64_of_le (n := b.length) (by omega))
  have hnl10 := enc_len10 (u64_of_le (n := ns.length) (by omega))
  have hel := encs_len HU.out
  go_wp2_with fail
  refine (putList_any _ _ [] ns _ (reads_nil _ _) (H1.out.below hd3 (Nat.le_refl _)) HU.out (by simp; omega)).mono ?_
  rintro e w5 ⟨v5, rfl, ho5, hb5⟩
  have hr5 : Reads w5 .u8 v5 (enc ns.length ++ encs ns) := by have := ho5.reads; simpa using this
  have hd5 := hd3.trans (hb5.mono hd3.size)
  clear ho5 hb5 hd3
  go_wp2_with fail
  refine (putText_any _ _ (enc ns.length ++ encs ns) b _ hr5 (H2.out.below hd5 (Nat.le_refl _)) (by simp; omega)).mono ?_
  rintro e w6 ⟨v6, rfl, ho6, hb6⟩
  have hr6 : Reads w6 .u8 v6 (enc ns.length ++ (encs ns ++ (enc b.length ++ b))) := by have := ho6.reads; simpa using this
  have hd6 := hd5.trans (hb6.mono hd5.size)
  clear ho6 hb6 hd5 hr5
  have hbyte : ∀ y ∈ enc ns.length ++ (encs ns ++ (enc b.length ++ b)), y < 256 := app_byte (enc_u64 (u64_of_le (by omega))) (app_byte (encs_u64 HU.out) (app_byte (enc_u64 (u64_of_le (by omega))) HB.out))
  have hrowl : (enc ns.length ++ (encs ns ++ (enc b.length ++ b))).length ≤ 10000 := by simp; omega
  have n1 : NumRel (enc ns.length ++ (encs ns ++ (enc b.length ++ b))) 0 ns.length (encs ns ++ (enc b.length ++ b)) 0 := .inr (.inl ⟨rfl, u64_of_le (by omega), rfl, rfl⟩)
  have n2 : RunRel (encs ns ++ (enc b.length ++ b)) 0 ns.length ns (enc b.length ++ b) 0 := .inr (.inl ⟨rfl, ns, rfl, HU.out, rfl, rfl, rfl⟩)
  have n3 : NumRel (enc b.length ++ b) 0 b.length b 0 := .inr (.inl ⟨rfl, u64_of_le (by omega), rfl, rfl⟩)
  have n4 : FixRel b 0 (b.length : Int) b [] 0 := .inr (.inr ⟨rfl, by omega, by omega, by simp, by simp, rfl⟩)
  have m1 := many_good (n := ns.length) (c := 0) (most := 40) (by omega)
  have m2 := many_good (n := b.length) (c := 0) (most := 100) (by omega)
  have N1 := Lib.hid n1
  have N2 := Lib.hid n2
  have N3 := Lib.hid n3
  have N4 := Lib.hid n4
  have M1 := Lib.hid m1
  have M2 := Lib.hid m2
  clear n1 n2 n3 n4 m1 m2
  generalize enc ns.length ++ (encs ns ++ (enc b.length ++ b)) = row at *
  go_wp2_with fail
  refine (new_any _ row _ hr6 hbyte (by omega)).mono ?_
  rintro e w7 ⟨p, rv, rfl, hrd7, hb7, hp7, _⟩
  have hd7 := hd6.trans (hb7.mono hd6.size)
  have hpw : w.heap.size ≤ p := Nat.le_trans hd6.size hp7
  clear hr6 hb7 hp7 hd6 hbyte
  go_wp2_with fail
  refine (list_any hrd7 40 (by omega) (by omega) (by omega)).mono ?_
  rintro e w8 ⟨v8, out8, x8, pl1, c8, pl8, d8, rfl, q1, q2, ho8, hrd8, hg8⟩
  obtain ⟨rfl, hr1, rfl⟩ := q1.unique N1.out
  rw [M1.out.1, M1.out.2, hr1] at q2
  obtain ⟨rfl, hr2, rfl⟩ := q2.unique N2.out
  clear q1 q2 hr1
  have hd8 := hd7.grown hg8 hd7.size (fun j hj => by simp at hj; omega)
  have hp8 := hrd7.lt
  clear hrd7 hg8 hd7
  go_wp2_with fail
  refine (text_any hrd8 100 (by omega) (by omega)).mono ?_
  rintro e w9 ⟨v9, out9, x9, pl2, c9, pl9, d9, rfl, q1, q2, ho9, hrd9, hg9⟩
  rw [hr2] at q1
  obtain ⟨rfl, hr3, rfl⟩ := q1.unique N3.out
  rw [M2.out.1, M2.out.2, hr3] at q2
  obtain ⟨rfl, hr4, rfl⟩ := q2.unique N4.out
  clear q1 q2 hr2 hr3
  have hd9 := hd8.grown hg9 hd8.size (fun j hj => by simp at hj; omega)
  have ho89 := ho8.grown hg9 (by
    cases hv : v8.ownBlock with
    | none => exact .inl rfl
    | some g => right; intro e; have := (ho8.lt g hv).1; simp at e; omega)
  clear hrd8 hg9 hd8 ho8 hp8
  have hle9 : row.length - pl9 = 0 := by have := congrArg List.length hr4; simpa using this
  go_wp2_with fail
  refine (end_any hrd9).mono ?_
  rintro e w10 ⟨rfl, nd, rfl⟩
  rw [hle9, show endC 0 0 = 0 from rfl, errV_zero]
  have hr8 := ho89.reads.drewN nd
  have hr9 := ho9.reads.drewN nd
  have hd10 : Below w.heap.size w (w9.drewN nd) := hd9.trans ⟨rfl, rfl, rfl, Nat.le_refl _, fun _ _ => rfl⟩
  generalize w9.drewN nd = w10 at hr8 hr9 hd10
  clear ho89 ho9 hrd9 hd9 hle9 hr4
  go_wp2_with fail
  refine (wide_any _ _ _ _ _ hr8 (H1.out.below hd10 (Nat.le_refl _))).mono ?_
  rintro e w11 ⟨rfl, hb11⟩
  rw [decide_eq_true rfl]
  have hd11 := hd10.trans (hb11.mono hd10.size)
  have hr911 := hr9.below hb11 (Nat.le_refl _)
  clear hr8 hr9 hd10 hb11
  go_wp2_with fail
  refine (numBytes_any _ _ _ _ _ hr911 (H2.out.below hd11 (Nat.le_refl _)) HB.out HB.out).mono ?_
  rintro e w12 ⟨rfl, rfl⟩
  rw [decide_eq_true rfl]
  clear hr911
  go_wp2_with fail
  refine (take_any _ _ _ (H2.out.below hd11 (Nat.le_refl _)) HB.out).mono ?_
  rintro e w13 ⟨y, k, ok, rfl, hty, rfl⟩
  cases ok
  · rcases hty with ⟨h, _⟩ | ⟨_, rfl, rfl, _⟩
    · simp at h
    · have hf2 : formIf false = .iface 48 (.int .i64 2) := rfl
      go_wp2
      go_ret
      exact ⟨rfl, hd11⟩
  · rcases hty with ⟨_, hy, hp, rfl⟩ | ⟨h, _⟩
    · have hpl := hp.length_le
      have hy1 := enc_pos y
      have hy10 := enc_len10 hy
      have htk := List.prefix_iff_eq_take.1 hp
      have HTK := Lib.hid htk
      clear hp htk
      have hr13 := H2.out.below hd11 (Nat.le_refl _)
      obtain ⟨bb, ob, rfl, _, _⟩ := hr13.at (i := 0) (by omega)
      have hcut := hr13.take hpl (by omega)
      have HC := Lib.hid hcut
      have HD := Lib.hid hd11
      clear hcut hr13 hd11
      have t1 : decide ((enc y).length ≤ List.length _) = true := decide_eq_true hpl
      have q1 : ((enc y).length : Int) ≤ (capb : Int) := by omega
      have q2 : (0 : Int) ≤ ((enc y).length : Int) := by omega
      have q3 : ¬ capb = 0 := by omega
      have hcy : Reads w11 .u8 (.slice (some ⟨bb, ob, none⟩) (enc y).length capb) (enc y) := by have := HC.out; rw [← HTK.out] at this; exact this
      have HCY := Lib.hid hcy
      have HYB := Lib.hid (enc_u64 hy)
      clear hcy hl10 hl1 hbl10 hnl10 hel hrowl hy1 hy10 hbc
      go_wp2_with fail
      go_region_held3 (fun _ => True) (trivial) (first
        | (go_at_call 17; refine (put_any _ _ [] [y] _ (reads_nil _ _) (by exact reads_lit _ _ _ y) (by intro x hx; simp at hx; subst hx; exact hy) (by simp)).mono ?_; rintro e wp ⟨vp, rfl, hop, hbp⟩
           have hrp : Reads wp .u8 vp (enc y) := by have := hop.reads; simpa [encs] using this
           have hbw : Below w11.heap.size w11 wp := (((Below.refl _ _).drew).alloc (Nat.le_refl _) _).trans (hbp.mono (by simp))
           have HRP := Lib.hid hrp
           have HBW := Lib.hid hbw
           clear hop hbp hrp hbw)
        | (go_at_call 16; refine (numBytes_any _ _ (enc y) (enc y) _ (by exact HRP.out) (by exact HCY.out.below HBW.out (Nat.le_refl _)) HYB.out HYB.out).mono ?_; rintro e wq ⟨rfl, rfl⟩; rw [decide_eq_true rfl]))
      go_wp2
      go_ret
      exact ⟨rfl, HD.out.trans (HBW.out.mono HD.out.size)⟩
    · simp at h

set_option maxHeartbeats 400000 in
set_option maxRecDepth 100000 in
theorem back_all (n : Nat) (nv bv : Value) (ns b : List Nat) (w : World) (hn : U64 n) (h1 : Reads w .u64 nv ns) (hu : ∀ n ∈ ns, U64 n) (h2 : Reads w .u8 bv b) (hb : ∀ y ∈ b, y < 256) :
    Calls Try.prog 6 #[.int .u64 (n : Int), nv, bv] w fun e w' => e = .returned (.bool true) ∧ Below w.heap.size w w' := by
  by_cases s : b.length ≤ 100 ∧ ns.length ≤ 40
  · exact back_walk n nv bv ns b w hn h1 hu h2 hb s.1 s.2
  · obtain ⟨ao, acap, rfl, _, _, _⟩ := h1.val
    obtain ⟨bo, bcap, rfl, _, _, _⟩ := h2.val
    clear h1 h2 hu hb hn
    have hs : 100 < b.length ∨ (b.length ≤ 100 ∧ 40 < ns.length) := by omega
    clear s
    rcases hs with s1 | ⟨s1, s2⟩
    all_goals
      go_enter Try.func6, Try.ntmps6
      go_wp2_with fail
      refine (alive_any w).mono ?_
      rintro e w0 ⟨rfl, hb0⟩
      go_wp2
      go_ret
      exact ⟨rfl, hb0⟩

end Go.Proofs.Ytlaloddmlkkbgaa
