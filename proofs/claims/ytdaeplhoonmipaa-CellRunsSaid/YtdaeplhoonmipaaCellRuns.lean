/- CellRuns, walked. -/
import Derived.Test.YtdaeplhoonmipaaCelX
import Derived.Test.YtdaeplhoonmipaaCelT
namespace Go.Proofs.Ytdaeplhoonmipaa
open Go.RowKit

/-- The first error of cells, but for how many there are. -/
def firstBad (l : List IC) : Nat := (l.map fun c => chk c.1 c.2.length).foldr (fun e r => if e = 0 then r else e) 0
theorem firstBad_snoc (l : List IC) (c : IC) : firstBad (l ++ [c]) = if firstBad l = 0 then chk c.1 c.2.length else firstBad l := by
  unfold firstBad
  induction l with
  | nil =>
    by_cases h : chk c.1 c.2.length = 0 <;> simp [h]
  | cons x l ih =>
    simp only [List.cons_append, List.map_cons, List.foldr_cons]
    by_cases h : chk x.1 x.2.length = 0
    · rw [if_pos h, if_pos h]; exact ih
    · rw [if_neg h, if_neg h, if_neg h]

theorem items_byte : ∀ (n : Nat) (run : List CC) (last : List Nat), run.length = n → n ≤ 64 → (∀ c ∈ run, okC c) → ∀ y ∈ items last run, y < 256 := by
  intro n
  induction n using Nat.strongRecOn with
  | _ n ih =>
    intro run last hn h64 hok
    match run, hn, hok with
    | [], _, _ => rw [items_nil]; simp
    | (k, d) :: r, hn, hok =>
      rw [List.length_cons] at hn
      obtain ⟨hk3, hd64, _, h8⟩ := hok (k, d) (by simp)
      simp only at hk3 hd64 h8
      by_cases hk1 : k = 1
      · subst hk1
        rw [items_data]
        have h1 := ih (n - 1) (by omega) r d (by omega) (by omega) (fun c hc => hok c (by simp [hc]))
        have hc := com_le_left d last
        exact app_byte (enc_u64 (by unfold U64; omega)) (app_byte (enc_u64 (by unfold U64; omega)) (app_byte (enc_u64 (by unfold U64; omega)) (app_byte (fun y hy => h8 y (List.mem_of_mem_drop hy)) h1)))
      · rw [items_row _ _ _ _ hk1]
        have hle := lead_le k r
        have h1 := ih (n - (lead k r + 1)) (by omega) (r.drop (lead k r)) last (by rw [List.length_drop]; omega) (by omega) (fun c hc => hok c (by simp [List.mem_of_mem_drop hc]))
        exact app_byte (enc_u64 (by unfold U64; omega)) (app_byte (enc_u64 (by unfold U64; omega)) h1)
theorem rbytes_byte {run : List CC} (hl : run.length ≤ 64) (hok : ∀ c ∈ run, okC c) : ∀ y ∈ rbytes run, y < 256 :=
  app_byte (enc_u64 (by unfold U64; omega)) (items_byte _ run [] rfl hl hok)

set_option maxHeartbeats 4000000 in
set_option maxRecDepth 100000 in
theorem runs_walk (bv v : Value) (b : List Nat) (cs : List IC) (w : World) (B : Nat → Prop) (hb : Reads w .u8 bv b) (h8b : ∀ y ∈ b, y < 256) (hr : CellsAt w B v cs) (h8 : ∀ c ∈ cs, ∀ y ∈ c.2, y < 256) (hlen : cs.length ≤ 9223372036854775807) :
    Calls Try.prog 4 #[bv, v] w fun e w' => e = .returned (.bool true) ∧ Below w.heap.size w w' := by
  obtain ⟨aob, capb, rfl, _, _, _⟩ := hb.val
  obtain ⟨ao, cap, rfl, _, _, _⟩ := hr.val
  have H8B := Lib.hid h8b
  have H8 := Lib.hid h8
  clear h8b h8
  go_enter Try.func4, Try.ntmps4
  go_wp2_with fail
  refine (alive5_any w).mono ?_
  rintro e w1 ⟨rfl, hb1⟩
  have HB1 := Lib.hid hb1
  have HR1 := Lib.hid (hr.old hb1)
  have HRB1 := Lib.hid (hb.new hb1)
  clear hb1 hr hb
  by_cases hbl : (100 : Int) < (b.length : Int)
  · go_wp2
    go_ret
    exact ⟨rfl, HB1.out⟩
  go_wp2_with fail
  refine (long_any _ cs 80 w1 B HR1.out hlen).mono ?_
  rintro e w2 ⟨rfl, hb2⟩
  have HB2 := Lib.hid (HB1.out.trans (hb2.mono HB1.out.size))
  have HR2 := Lib.hid (HR1.out.old hb2)
  have HRB2 := Lib.hid (HRB1.out.new hb2)
  clear hb2 HB1 HR1 HRB1 hlen
  cases hlg : longB cs 80
  rotate_left
  · go_wp2
    go_ret
    exact ⟨rfl, HB2.out⟩
  have hcl : cs.length ≤ 80 := by
    unfold longB at hlg
    simp only [Bool.or_eq_false_iff, decide_eq_false_iff_not] at hlg
    omega
  clear hlg
  have HE := Lib.hid (owns_empty w2 w2.heap.size 5 .u8 (Nat.le_refl _))
  have hal : Below w2.heap.size w2 (w2.alloc (.cells #[] 5)) := (Below.refl _ _).alloc (Nat.le_refl _) _
  have HAL := Lib.hid hal
  clear hal
  go_wp2_with (at_builtin; go_must (refine wpList_app _ rfl _ _ 22 rfl w2.heap.size 5 (.int .u8 0) 1 Try.underlying22 Try.info5 rfl .u8 _ [] rfl HE.out _ b rfl (HRB2.out.new HAL.out) (by decide) (by simp; omega) HAL.out.size ?_))
  intro v3 w3 ho3 hg3
  have hb23 : Below w2.heap.size w2 w3 := HAL.out.grown hg3 HAL.out.size (fun j hj => (HE.out.lt j hj).1)
  have HO3 : Hid (Owns w3 w2.heap.size 5 .u8 v3 b) := Lib.hid (by simpa using ho3)
  have HB3 := Lib.hid (HB2.out.trans (hb23.mono HB2.out.size))
  have HR3 := Lib.hid (HR2.out.old hb23)
  have HRB3 := Lib.hid (HRB2.out.new hb23)
  clear ho3 hg3 hb23 HE HAL HR2 HRB2
  obtain ⟨ao3, cap3, rfl, _, _, _⟩ := HO3.out.reads.val
  go_wp2_with fail
  refine (putRun_any _ _ b cs w3 B HO3.out.reads HR3.out H8.out (by omega)).mono ?_
  rintro e w4 ⟨v4, out, rfl, ho4, hout, hb4⟩
  have HB4 := Lib.hid (HB3.out.trans (hb4.mono HB3.out.size))
  have HR4 := Lib.hid (HR3.out.old hb4)
  have HRB4 := Lib.hid (HRB3.out.new hb4)
  have HRO4 := Lib.hid (HO3.out.reads.new hb4)
  have HO4 := Lib.hid ho4
  have HOUT := Lib.hid hout
  obtain ⟨ao4, cap4, rfl, _, _, _⟩ := ho4.reads.val
  clear ho4 hb4 hout HB3 HR3 HRB3 HO3 HB2
  obtain ⟨bad, hbad⟩ : ∃ bad, bad = chkRun cs := ⟨_, rfl⟩
  rw [← hbad]
  rw [← hbad] at HOUT
  have HBAD := Lib.hid hbad
  clear hbad
  obtain ⟨ev, hev⟩ : ∃ ev, ev = errV bad := ⟨_, rfl⟩
  rw [← hev]
  have HEV := Lib.hid hev
  clear hev
  go_wp2_with fail
  refine (documents_any _ cs w4 B HR4.out (by omega)).mono ?_
  rintro e w5 ⟨v5, rfl, ho5, hb5⟩
  have HB5 := Lib.hid (HB4.out.trans (hb5.mono HB4.out.size))
  have HRB5 := Lib.hid (HRB4.out.new hb5)
  have HRO5 := Lib.hid (HRO4.out.new hb5)
  have HP5 := Lib.hid (HO4.out.reads.new hb5)
  have HM5 := Lib.hid ho5
  obtain ⟨ao5, cap5, rfl⟩ := ho5.form
  clear ho5 hb5 HB4 HR4 HRB4 HRO4 HO4
  have hq : ∃ q : Nat, q = (if 64 < cs.length then 3 else 0) := ⟨_, rfl⟩
  obtain ⟨q, hq⟩ := hq
  have HQ := Lib.hid hq
  have hcase : ((64 : Int) < (cs.length : Int) ∧ q = 3) ∨ (¬ (64 : Int) < (cs.length : Int) ∧ q = 0) := by
    by_cases h : 64 < cs.length
    · left; exact ⟨by omega, by rw [hq, if_pos h]⟩
    · right; exact ⟨by omega, by rw [hq, if_neg h]⟩
  clear hq
  rcases hcase with ⟨h64, rfl⟩ | ⟨h64, rfl⟩
  all_goals
    go_wp2
    go_loopw [9, 11, 37] (fun bv _ i wr => ∃ k z : Nat, k ≤ cs.length ∧ i = .int .i64 (k : Int) ∧ bv = .int .i64 (z : Int) ∧ z = (if 64 < cs.length then 3 else firstBad (cs.take k)) ∧ Below w5.heap.size w5 wr)
      (fun _ _ i _ => cs.length - (intOf i).toNat)
    case atStart => exact ⟨0, _, Nat.zero_le _, rfl, rfl, (by first | rw [if_pos (by omega)] | (rw [if_neg (by omega)]; rfl)), Below.refl _ _⟩
    case round =>
      obtain ⟨k, z, hk, rfl, rfl, hz, hbr⟩ := hrel
      have HBR := Lib.hid hbr
      have HZ := Lib.hid hz
      clear hbr hz
      by_cases hlt : k < cs.length
      · obtain ⟨g, rfl, hg, c0, c1⟩ := (HM5.out.below HBR.out).at hlt
        have HTK := Lib.hid (take_snocI cs k hlt)
        generalize cs.getD k (0, []) = c at c0 c1 HTK
        obtain ⟨kk, d⟩ := c
        simp only at c0 c1
        have HSN : Hid (firstBad (cs.take (k + 1)) = if firstBad (cs.take k) = 0 then chk kk d.length else firstBad (cs.take k)) := Lib.hid (by rw [HTK.out, firstBad_snoc])
        have hlti : (k : Int) < (cs.length : Int) := by omega
        have hal : Below wr.heap.size wr (wr.alloc (.cells #[.int .i64 kk, .string (S8 d)] 29)) := (Below.refl _ _).alloc (Nat.le_refl _) _
        have HAL := Lib.hid (HBR.out.trans (hal.mono HBR.out.size))
        clear hal HTK
        by_cases hz0 : z = 0
        · subst hz0
          have HNL : Hid (¬ 64 < cs.length ∧ firstBad (cs.take k) = 0) := Lib.hid (by
            have := HZ.out
            by_cases h : 64 < cs.length
            · rw [if_pos h] at this; cases this
            · rw [if_neg h] at this; exact ⟨h, this.symm⟩)
          clear HZ
          go_wp2_with fail
          refine (refCheck_any kk (S8 d) _).mono ?_
          rintro e w6 ⟨rfl, hb6⟩
          rw [S8_size]
          have HB6 := Lib.hid (HAL.out.trans (hb6.mono HAL.out.size))
          have HNEW : Hid (chk kk d.length = (if 64 < cs.length then 3 else firstBad (cs.take (k + 1)))) := Lib.hid (by
            rw [if_neg HNL.out.1, HSN.out, if_pos HNL.out.2])
          clear hb6 HAL HSN HNL c0 c1
          generalize chk kk d.length = z' at HNEW
          go_wp2
          go_roundw
          case rel => exact ⟨k + 1, z', by omega, by go_num, rfl, HNEW.out, HB6.out⟩
          case measure => simp [intOf]; omega
        · have hzi : ((z : Int) == 0) = false := by rw [beq_eq_false_iff_ne]; omega
          have HNEW : Hid (z = (if 64 < cs.length then 3 else firstBad (cs.take (k + 1)))) := Lib.hid (by
            have := HZ.out
            by_cases h : 64 < cs.length
            · rw [if_pos h] at this ⊢; exact this
            · rw [if_neg h] at this ⊢; rw [HSN.out, if_neg (by rw [← this]; exact hz0)]; exact this)
          clear HZ HSN hz0
          go_wp2
          go_roundw
          case rel => exact ⟨k + 1, z, by omega, by go_num, rfl, HNEW.out, HAL.out⟩
          case measure => simp [intOf]; omega
      · obtain rfl : k = cs.length := by omega
        have hzb : z = bad := by rw [HBAD.out, HZ.out, List.take_length]; rfl
        subst hzb
        have HRB6 := Lib.hid (HRB5.out.new HBR.out)
        have HRO6 := Lib.hid (HRO5.out.new HBR.out)
        have HP6 := Lib.hid (HP5.out.new HBR.out)
        have HM6 := Lib.hid (HM5.out.below HBR.out)
        have HB6 := Lib.hid (HB5.out.trans (HBR.out.mono HB5.out.size))
        have HPW6 : Hid (At wr (fun j => j < wr.heap.size) .u8 (.slice ao4 out.length cap4) out) := Lib.hid (HP6.out.at')
        have HW0 := Lib.hid HB6.out.size
        clear HRB5 HRO5 HP5 HM5 HB5 HBR HZ
        go_wp2_with fail
        rw [HEV.out]
        refine (num_any z wr).mono ?_
        rintro e w7 ⟨rfl, rfl⟩
        go_wp2_with fail
        refine (numBytes_any _ _ b b wr HRO6.out HRB6.out H8B.out H8B.out).mono ?_
        rintro e w7 ⟨rfl, rfl⟩
        rw [decide_eq_true rfl]
        by_cases hz0 : z = 0
        · have hout : out = b ++ rbytes (cs.map toCC) := by rw [HOUT.out, if_pos hz0]
          subst hz0
          obtain ⟨hl64, hok⟩ := chkRun_zero HBAD.out.symm
          have hoks : ∀ c ∈ cs.map toCC, okC c := fun c hc => by
            obtain ⟨x, hxm, rfl⟩ := List.mem_map.1 hc
            exact okC_toCC (hok x hxm) (H8.out x hxm)
          have HM7 : Hid (OwnsD wr w4.heap.size (.slice ao5 cs.length cap5) ((cs.map toCC).map toIC)) := Lib.hid (by rw [← run_toCC hok]; exact HM6.out)
          have HOKS := Lib.hid hoks
          have hrl := rbytes_len (run := cs.map toCC) (by rw [List.length_map]; exact hl64) hoks
          have hmlen : (cs.map toCC).length ≤ 64 := by rw [List.length_map]; exact hl64
          have h8r : ∀ y ∈ rbytes (cs.map toCC), y < 256 := rbytes_byte hmlen hoks
          have H8R := Lib.hid h8r
          have HOUT2 := Lib.hid hout
          have HE := Lib.hid (owns_empty wr wr.heap.size 5 .u8 (Nat.le_refl _))
          have hal : Below wr.heap.size wr (wr.alloc (.cells #[] 5)) := (Below.refl _ _).alloc (Nat.le_refl _) _
          have HAL := Lib.hid hal
          clear hal hok hoks hout h8r HOUT
          go_wp2_with (at_builtin; go_must (refine wpList_app _ rfl _ _ 22 rfl wr.heap.size 5 (.int .u8 0) 1 Try.underlying22 Try.info5 rfl .u8 _ [] rfl HE.out _ b rfl (HRB6.out.new HAL.out) (by decide) (by simp; omega) HAL.out.size ?_))
          intro v8 w8 ho8 hg8
          have hb8 : Below wr.heap.size wr w8 := HAL.out.grown hg8 HAL.out.size (fun j hj => (HE.out.lt j hj).1)
          have HO8 : Hid (Owns w8 wr.heap.size 5 .u8 v8 b) := Lib.hid (by simpa using ho8)
          have HM8 := Lib.hid (HM7.out.below hb8)
          have HPW8 := Lib.hid (HPW6.out.old hb8)
          have HB8 := Lib.hid (HB6.out.trans (hb8.mono HB6.out.size))
          have HS8 := Lib.hid hb8.size
          obtain ⟨ao8, cap8, rfl, _, _, _⟩ := HO8.out.reads.val
          clear ho8 hg8 hb8 HE HAL HM7 HP6 HPW6 HB6 HM6
          go_wp2_with fail
          refine (rrun_any _ (cs.map toCC) w8 _ HM8.out HOKS.out hmlen).mono ?_
          rintro e w9 ⟨v9, rfl, ho9, hb9⟩
          have HR9 := Lib.hid ho9.reads
          have HO9 := Lib.hid (HO8.out.below hb9 (Nat.le_refl _))
          have HPW := Lib.hid (HPW8.out.old hb9)
          have HB9 := Lib.hid (HB8.out.trans (hb9.mono HB8.out.size))
          have HS9 := Lib.hid (Nat.le_trans HS8.out hb9.size)
          clear ho9 hb9 HO8 HPW8 HB8 HM8
          go_wp2_with (at_builtin; go_must (refine wpList_app _ rfl _ _ 22 rfl wr.heap.size 5 (.int .u8 0) 1 Try.underlying22 Try.info5 rfl .u8 _ b rfl HO9.out _ (rbytes (cs.map toCC)) rfl HR9.out (by decide) (by omega) HS9.out ?_))
          intro v10 w10 ho10 hg10
          have HO10 := Lib.hid ho10.reads
          have HPAT : Hid (At w9 (fun j => j < wr.heap.size) .u8 (.slice ao4 out.length cap4) out) := Lib.hid (HPW.out)
          have HWR : Hid (∀ j, Value.ownBlock (.slice ao8 b.length cap8) = some j → wr.heap.size ≤ j) := Lib.hid (fun j hj => (HO9.out.lt j hj).1)
          have HP10 : Hid (Reads w10 .u8 (.slice ao4 out.length cap4) out) := Lib.hid (by
            have hk : Kept (fun j => j < wr.heap.size) w9 w10 := ⟨hg10.size, fun j hj hlt => hg10.block j hj (fun e => by have := HWR.out _ e.symm; omega)⟩
            exact (HPAT.out.keep hk).reads)
          have HB10 := Lib.hid (HB9.out.grown hg10 HB9.out.size (fun j hj => Nat.le_trans HW0.out (HWR.out j hj)))
          clear ho10 hg10 HO9 HB9
          go_wp2_with fail
          refine (numBytes_any _ _ out (b ++ rbytes (cs.map toCC)) w10 HP10.out HO10.out (by rw [HOUT2.out]; exact app_byte H8B.out H8R.out) (app_byte H8B.out H8R.out)).mono ?_
          rintro e w11 ⟨rfl, rfl⟩
          rw [decide_eq_true HOUT2.out]
          go_wp2
          go_ret
          exact ⟨rfl, HB10.out⟩
        · have hout : out = [] := by rw [HOUT.out, if_neg hz0]
          subst hout
          have hzn : ((z : Int) != 0) = true := by rw [bne_iff_ne]; omega
          go_wp2
          go_ret
          exact ⟨rfl, HB6.out⟩

end Go.Proofs.Ytdaeplhoonmipaa
