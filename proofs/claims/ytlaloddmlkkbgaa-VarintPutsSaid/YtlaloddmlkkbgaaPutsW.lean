/- The walk of the statement on Put, PutText, PutList and Size. -/
import Derived.Test.YtlaloddmlkkbgaaSizeA
namespace Go.Proofs.Ytlaloddmlkkbgaa
open Go.RowKit

set_option maxHeartbeats 4000000 in
set_option maxRecDepth 100000 in
theorem puts_walk (v nv tv : Value) (b ns ts : List Nat) (w : World) (hr : Reads w .u8 v b) (hb : ∀ y ∈ b, y < 256) (hn : Reads w .u64 nv ns) (hu : ∀ n ∈ ns, U64 n) (ht : Reads w .u8 tv ts) (hts : ∀ y ∈ ts, y < 256)
    (s1 : b.length ≤ 100) (s2 : ns.length ≤ 40) (s3 : ts.length ≤ 300) :
    Calls Try.prog 3 #[v, nv, tv] w fun e w' => e = .returned (.bool true) ∧ Below w.heap.size w w' := by
  obtain ⟨ao, cap, rfl, _, _, _⟩ := hr.val
  obtain ⟨an, capn, rfl, _, _, _⟩ := hn.val
  obtain ⟨at_, capt, rfl, _, _, _⟩ := ht.val
  have HU := Lib.hid hu
  clear hu
  go_enter Try.func3, Try.ntmps3
  go_wp2_with fail
  refine (alive_any w).mono ?_
  rintro e w0 ⟨rfl, hb0⟩
  have hr0 := hr.below hb0 (Nat.le_refl _)
  have hn0 := hn.below hb0 (Nat.le_refl _)
  have ht0 := ht.below hb0 (Nat.le_refl _)
  clear hr hn ht
  go_wp2_with (at_builtin; go_must (refine wpList_app _ rfl _ _ 22 rfl w0.heap.size 5 (.int .u8 0) 1 Try.underlying22 Try.info5 rfl .u8 _ [] rfl (owns_empty w0 w0.heap.size 5 .u8 (Nat.le_refl _)) _ b rfl (hr0.below ((Below.refl _ _).alloc (Nat.le_refl _) _) (Nat.le_refl _)) (by decide) ?c1 ?c3 ?_))
  case c1 => (try simp); omega
  case c3 => simp
  intro v7 w1 ho7 hg1
  have hb1 : Below w0.heap.size w0 w1 := ((Below.refl _ _).alloc (Nat.le_refl _) _).grown hg1 (by simp) (fun j hj => by simp [Value.ownBlock] at hj; omega)
  have hr1 := hr0.below hb1 (Nat.le_refl _)
  have hn1 := hn0.below hb1 (Nat.le_refl _)
  have ht1 := ht0.below hb1 (Nat.le_refl _)
  clear hr0 hn0 ht0 hg1
  have HB1 := Lib.hid (hb0.trans (hb1.mono hb0.size))
  clear hb0 hb1
  go_wp2_with (at_builtin; go_must (refine wpList_app _ rfl _ _ 22 rfl w1.heap.size 5 (.int .u8 0) 1 Try.underlying22 Try.info5 rfl .u8 _ [] rfl (owns_empty w1 w1.heap.size 5 .u8 (Nat.le_refl _)) _ b rfl (hr1.below ((Below.refl _ _).alloc (Nat.le_refl _) _) (Nat.le_refl _)) (by decide) ?c1 ?c3 ?_))
  case c1 => (try simp); omega
  case c3 => simp
  intro v8 w2 ho8 hg2
  have hb2 : Below w1.heap.size w1 w2 := ((Below.refl _ _).alloc (Nat.le_refl _) _).grown hg2 (by simp) (fun j hj => by simp [Value.ownBlock] at hj; omega)
  clear hg2
  have HN := Lib.hid hn1
  have HR := Lib.hid hr1
  have HT := Lib.hid ht1
  have HO7 := Lib.hid ho7
  clear hn1 hr1 ht1 ho7
  go_wp2
  go_loopw [8, 10, 36] (fun v j i wr => ∃ k : Nat, k ≤ ns.length ∧ i = .int .i64 (k : Int) ∧ Owns wr w1.heap.size 5 .u8 v (b ++ encs (ns.take k)) ∧ Below w1.heap.size w1 wr)
    (fun _ _ i _ => ns.length - (intOf i).toNat)
  case atStart => exact ⟨0, Nat.zero_le _, rfl, by simpa [encs] using ho8, hb2⟩
  case round =>
    clear hb2 ho8
    obtain ⟨k, hk, rfl, hok, hbk⟩ := hrel
    by_cases hlt : k < ns.length
    · obtain ⟨bl, off, rfl, hbl, hc⟩ := HN.out.at hlt
      have hcc := (hbk.cell (p := ⟨bl, off + k, none⟩) hbl).trans (hc k hlt)
      have hts' := take_snoc ns k hlt
      have hxm := HU.out _ (getD_mem ns k hlt)
      have hel := encs_len (l := ns.take k) fun n hn => HU.out n (List.mem_of_mem_take hn)
      have hel2 : (ns.take k).length ≤ k := List.length_take_le _ _
      generalize ns.getD k 0 = x at hcc hts' hxm
      have HTS := Lib.hid hts'
      clear hts' hc
      have hl10 := enc_len10 hxm
      go_wp2_with fail
      refine (size_any x _ hxm).mono ?_
      rintro e w3 ⟨rfl, rfl⟩
      go_wp2_with fail
      refine (refBytes_any x _ hxm).mono ?_
      rintro e w4 ⟨v4, rfl, ho4, hb4⟩
      obtain ⟨a4, cap4, rfl, _, _, _⟩ := ho4.reads.val
      clear ho4
      have hok4 := hok.below hb4 (Nat.le_refl _)
      have hbk4 := hbk.trans (hb4.mono hbk.size)
      clear hok hbk hb4 hcc
      go_wp2_with fail
      refine (refBytes_any x _ hxm).mono ?_
      rintro e w5 ⟨v5, rfl, ho5, hb5⟩
      have hok5 := hok4.below hb5 (Nat.le_refl _)
      have hbk5 := hbk4.trans (hb5.mono hbk4.size)
      clear hok4 hbk4 hb5
      go_wp2_with (at_builtin; go_must (refine wpList_app _ rfl _ _ 22 rfl w1.heap.size 5 (.int .u8 0) 1 Try.underlying22 Try.info5 rfl .u8 _ (b ++ encs (ns.take k)) rfl hok5 _ (enc x) rfl ho5.reads (by decide) ?c1 ?c3 ?_))
      case c1 => (try simp); omega
      case c3 => exact hbk5.size
      intro v6 w6 ho6 hg6
      have hbk6 := hbk5.grown hg6 hbk5.size (fun j hj => (hok5.lt j hj).1)
      clear hg6 hok5
      go_wp2
      go_roundw
      case rel => exact ⟨k + 1, by omega, by go_num, by rw [HTS.out, encs_snoc]; simpa using ho6, hbk6⟩
      case measure => simp [intOf]; omega
    · obtain rfl : k = ns.length := by omega
      rw [List.take_length] at hok
      have hel := encs_len HU.out
      have hr7 := (HO7.out.below hbk (Nat.le_refl _)).reads
      go_wp2_with fail
      refine (put_any _ _ b ns _ hr7 (HN.out.below hbk (Nat.le_refl _)) HU.out (by omega)).mono ?_
      rintro e w3 ⟨v3, rfl, ho3, hb3⟩
      go_wp2_with fail
      refine (numBytes_any _ _ _ _ _ ho3.reads (hok.below hb3 (Nat.le_refl _)).reads (app_byte hb (encs_u64 HU.out)) (app_byte hb (encs_u64 HU.out))).mono ?_
      rintro e w4 ⟨rfl, rfl⟩
      rw [decide_eq_true rfl]
      have hbk3 := hbk.trans (hb3.mono hbk.size)
      clear hok hbk hb3 ho3 hr7
      go_wp2_with fail
      refine (putText_any _ _ b ts _ (HO7.out.below hbk3 (Nat.le_refl _)).reads (HT.out.below hbk3 (Nat.le_refl _)) (by omega)).mono ?_
      rintro e w5 ⟨v5, rfl, ho5, hb5⟩
      have hbk5 := hbk3.trans (hb5.mono hbk3.size)
      clear hbk3 hb5
      go_wp2_with fail
      refine (putList_any _ _ b ns _ (HO7.out.below hbk5 (Nat.le_refl _)).reads (HN.out.below hbk5 (Nat.le_refl _)) HU.out (by omega)).mono ?_
      rintro e w6 ⟨v6, rfl, ho6, hb6⟩
      have ho56 := ho5.below hb6 (Nat.le_refl _)
      have hbk6 := hbk5.trans (hb6.mono hbk5.size)
      clear hbk5 hb6 ho5
      have hte : U64 ts.length := u64_of_le (by omega)
      have hne : U64 ns.length := u64_of_le (by omega)
      have htl := enc_len10 hte
      have hnl := enc_len10 hne
      have HRB := HR.out.below hbk6 (Nat.le_refl _)
      go_wp2_with (at_builtin; go_must (refine wpList_app _ rfl _ _ 22 rfl w6.heap.size 5 (.int .u8 0) 1 Try.underlying22 Try.info5 rfl .u8 _ [] rfl (owns_empty w6 w6.heap.size 5 .u8 (Nat.le_refl _)) _ b rfl (HRB.below ((Below.refl _ _).alloc (Nat.le_refl _) _) (Nat.le_refl _)) (by decide) ?c1 ?c3 ?_))
      case c1 => (try simp); omega
      case c3 => simp
      intro va7 w7 ho7 hg7
      have hc7 : Below w6.heap.size w6 w7 := ((Below.refl _ _).alloc (Nat.le_refl _) _).grown hg7 (by simp) (fun j hj => by simp [Value.ownBlock] at hj; omega)
      clear hg7 HRB
      go_wp2_with fail
      refine (refText_any _ ts _ ((HT.out.below hbk6 (Nat.le_refl _)).below hc7 (Nat.le_refl _)) (by omega)).mono ?_
      rintro e w8 ⟨va8, rfl, ho8, hb8⟩
      have ho7' := ho7.below hb8 (Nat.le_refl _)
      have hc8 := hc7.trans (hb8.mono hc7.size)
      clear hb8 ho7
      go_wp2_with (at_builtin; go_must (refine wpList_app _ rfl _ _ 22 rfl w6.heap.size 5 (.int .u8 0) 1 Try.underlying22 Try.info5 rfl .u8 _ b rfl ho7' _ (enc ts.length ++ ts) rfl ho8.reads (by decide) ?c1 ?c3 ?_))
      case c1 => (try simp); omega
      case c3 => exact hc8.size
      intro va9 w9 ho9 hg9
      have hc9 := hc8.grown hg9 hc8.size (fun j hj => (ho7'.lt j hj).1)
      clear hg9 ho7' ho8 hc8 hc7
      have ho59 := ho56.below hc9 (Nat.le_refl _)
      have ho69 := ho6.below hc9 (Nat.le_refl _)
      have hbk9 := hbk6.trans (hc9.mono hbk6.size)
      clear ho56 ho6 hc9 hbk6
      go_wp2_with fail
      refine (numBytes_any _ _ _ _ _ ho59.reads ho9.reads (app_byte (app_byte hb (enc_u64 hte)) hts) (app_byte hb (app_byte (enc_u64 hte) hts))).mono ?_
      rintro e w10 ⟨rfl, rfl⟩
      rw [decide_eq_true (List.append_assoc _ _ _)]
      clear ho59 ho9
      have HRB := HR.out.below hbk9 (Nat.le_refl _)
      go_wp2_with (at_builtin; go_must (refine wpList_app _ rfl _ _ 22 rfl w9.heap.size 5 (.int .u8 0) 1 Try.underlying22 Try.info5 rfl .u8 _ [] rfl (owns_empty w9 w9.heap.size 5 .u8 (Nat.le_refl _)) _ b rfl (HRB.below ((Below.refl _ _).alloc (Nat.le_refl _) _) (Nat.le_refl _)) (by decide) ?c1 ?c3 ?_))
      case c1 => (try simp); omega
      case c3 => simp
      intro va11 w11 ho11 hg11
      have hc11 : Below w9.heap.size w9 w11 := ((Below.refl _ _).alloc (Nat.le_refl _) _).grown hg11 (by simp) (fun j hj => by simp [Value.ownBlock] at hj; omega)
      clear hg11 HRB
      go_wp2_with fail
      refine (refList_any _ ns _ ((HN.out.below hbk9 (Nat.le_refl _)).below hc11 (Nat.le_refl _)) HU.out (by omega)).mono ?_
      rintro e w12 ⟨va12, rfl, ho12, hb12⟩
      have ho11' := ho11.below hb12 (Nat.le_refl _)
      have hc12 := hc11.trans (hb12.mono hc11.size)
      clear hb12 ho11
      go_wp2_with (at_builtin; go_must (refine wpList_app _ rfl _ _ 22 rfl w9.heap.size 5 (.int .u8 0) 1 Try.underlying22 Try.info5 rfl .u8 _ b rfl ho11' _ (enc ns.length ++ encs ns) rfl ho12.reads (by decide) ?c1 ?c3 ?_))
      case c1 => (try simp); omega
      case c3 => exact hc12.size
      intro va13 w13 ho13 hg13
      have hc13 := hc12.grown hg13 hc12.size (fun j hj => (ho11'.lt j hj).1)
      clear hg13 ho11' ho12 hc12 hc11
      have ho613 := ho69.below hc13 (Nat.le_refl _)
      have hbk13 := hbk9.trans (hc13.mono hbk9.size)
      clear ho69 hc13 hbk9
      have hr13 := HR.out.below hbk13 (Nat.le_refl _)
      have ho713 := HO7.out.below hbk13 (Nat.le_refl _)
      go_wp2_with fail
      refine (numBytes_any _ _ _ _ _ ho613.reads ho13.reads (app_byte (app_byte hb (enc_u64 hne)) (encs_u64 HU.out)) (app_byte hb (app_byte (enc_u64 hne) (encs_u64 HU.out)))).mono ?_
      rintro e w14 ⟨rfl, rfl⟩
      rw [decide_eq_true (List.append_assoc _ _ _)]
      go_wp2_with fail
      refine (numBytes_any _ _ _ _ _ ho713.reads hr13 hb hb).mono ?_
      rintro e w14 ⟨rfl, rfl⟩
      rw [decide_eq_true rfl]
      go_wp2
      go_ret
      exact ⟨rfl, HB1.out.trans (hbk13.mono HB1.out.size)⟩

set_option maxHeartbeats 400000 in
set_option maxRecDepth 100000 in
theorem puts_big (v nv tv : Value) (b ns ts : List Nat) (w : World) (hr : Reads w .u8 v b) (hn : Reads w .u64 nv ns) (ht : Reads w .u8 tv ts)
    (s : ¬ (b.length ≤ 100 ∧ ns.length ≤ 40 ∧ ts.length ≤ 300)) :
    Calls Try.prog 3 #[v, nv, tv] w fun e w' => e = .returned (.bool true) ∧ Below w.heap.size w w' := by
  obtain ⟨ao, cap, rfl, _, _, _⟩ := hr.val
  obtain ⟨an, capn, rfl, _, _, _⟩ := hn.val
  obtain ⟨at_, capt, rfl, _, _, _⟩ := ht.val
  clear hr hn ht
  have hs : (100 < b.length) ∨ (b.length ≤ 100 ∧ 40 < ns.length) ∨ (b.length ≤ 100 ∧ ns.length ≤ 40 ∧ 300 < ts.length) := by omega
  clear s
  rcases hs with s1 | ⟨s1, s2⟩ | ⟨s1, s2, s3⟩
  all_goals
    go_enter Try.func3, Try.ntmps3
    go_wp2_with fail
    refine (alive_any w).mono ?_
    rintro e w0 ⟨rfl, hb0⟩
    go_wp2
    go_ret
    exact ⟨rfl, hb0⟩

theorem puts_all (v nv tv : Value) (b ns ts : List Nat) (w : World) (hr : Reads w .u8 v b) (hb : ∀ y ∈ b, y < 256) (hn : Reads w .u64 nv ns) (hu : ∀ n ∈ ns, U64 n) (ht : Reads w .u8 tv ts) (hts : ∀ y ∈ ts, y < 256) :
    Calls Try.prog 3 #[v, nv, tv] w fun e w' => e = .returned (.bool true) ∧ Below w.heap.size w w' := by
  by_cases s : b.length ≤ 100 ∧ ns.length ≤ 40 ∧ ts.length ≤ 300
  · exact puts_walk v nv tv b ns ts w hr hb hn hu ht hts s.1 s.2.1 s.2.2
  · exact puts_big v nv tv b ns ts w hr hn ht s

end Go.Proofs.Ytlaloddmlkkbgaa
