/- CellBack, walked: what is put is taken as it was, and what is taken has just those bytes. -/
import Derived.Test.YtbihammpdjkonaaTakesM
import Derived.Test.YtbihammpdjkonaaCelT
namespace Go.Proofs.Ytbihammpdjkonaa
open Go.RowKit

theorem items_byteB : ∀ (n : Nat) (run : List CC) (last : List Nat), run.length = n → n ≤ 64 → (∀ c ∈ run, okC c) → ∀ y ∈ items last run, y < 256 := by
  intro n
  induction n using Nat.strongRecOn with
  | _ n ih =>
    intro run last hn h64 hok
    match run, hn, hok with
    | [], _, _ => rw [items_nil]; simp
    | (k, d) :: r, hn, hok =>
      rw [List.length_cons] at hn
      obtain ⟨hk3, hd64, _, h8⟩ := hok (k, d) (by simp)
      simp only at hk3 hd64 h8
      by_cases hk1 : k = 1
      · subst hk1
        rw [items_data]
        have h1 := ih (n - 1) (by omega) r d (by omega) (by omega) (fun c hc => hok c (by simp [hc]))
        have hc := com_le_left d last
        exact app_byte (enc_u64 (by unfold U64; omega)) (app_byte (enc_u64 (by unfold U64; omega)) (app_byte (enc_u64 (by unfold U64; omega)) (app_byte (fun y hy => h8 y (List.mem_of_mem_drop hy)) h1)))
      · rw [items_row _ _ _ _ hk1]
        have hle := lead_le k r
        have h1 := ih (n - (lead k r + 1)) (by omega) (r.drop (lead k r)) last (by rw [List.length_drop]; omega) (by omega) (fun c hc => hok c (by simp [List.mem_of_mem_drop hc]))
        exact app_byte (enc_u64 (by unfold U64; omega)) (app_byte (enc_u64 (by unfold U64; omega)) h1)
theorem rbytes_byteB {run : List CC} (hl : run.length ≤ 64) (hok : ∀ c ∈ run, okC c) : ∀ y ∈ rbytes run, y < 256 :=
  app_byte (enc_u64 (by unfold U64; omega)) (items_byteB _ run [] rfl hl hok)

theorem cbytes_byteB {c : CC} (h : okC c) : ∀ y ∈ cbytes c, y < 256 := by
  obtain ⟨h3, h64, _, h8⟩ := h
  unfold cbytes
  split
  · exact app_byte (enc_u64 (by unfold U64; omega)) (app_byte (enc_u64 (by unfold U64; omega)) h8)
  · exact enc_u64 (by unfold U64; omega)
theorem cbytes_lenB {c : CC} (h : okC c) : (cbytes c).length ≤ 100 := by
  obtain ⟨h3, h64, _, _⟩ := h
  unfold cbytes
  have e1 := enc_len10 (n := 1) (by unfold U64; omega)
  have e2 := enc_len10 (n := c.2.length) (by unfold U64; omega)
  have e3 := enc_len10 (n := c.1) (by unfold U64; omega)
  split
  · rw [List.length_append, List.length_append]; omega
  · omega

theorem rbytes_lenB {run : List CC} (hl : run.length ≤ 64) (hok : ∀ c ∈ run, okC c) : (rbytes run).length ≤ 6410 := by
  have h1 := items_len _ run [] rfl hl hok
  have h2 := enc_len10 (n := run.length) (by unfold U64; omega)
  unfold rbytes
  rw [List.length_append]
  omega

/-- A cell's bytes are taken as that cell. -/
theorem tcell_cbytes {c : CC} (h : okC c) (rest : List Nat) : TCell (cbytes c ++ rest) 0 c.1 c.2 0 rest := by
  obtain ⟨k, d⟩ := c
  obtain ⟨h3, h64, hn, _⟩ := h
  simp only at h3 h64 hn
  unfold cbytes
  by_cases hk : k = 1
  · subst hk
    rw [if_pos rfl, List.append_assoc, List.append_assoc]
    obtain ⟨g1, g2⟩ := many_good (n := d.length) (c := 0) (most := 64) (by omega)
    refine ⟨1, enc d.length ++ (d ++ rest), 0, num_of (u64_64 (by omega)) _, .inr ⟨rfl, d.length, d ++ rest, 0, d, rest, 0, num_of (u64_64 (by omega)) _, ?_, .inr ⟨rfl, rfl, rfl, rfl, rfl⟩⟩⟩
    rw [g1, g2]
    exact .inr (.inr ⟨rfl, by omega, by simp; omega, by simp, by simp, rfl⟩)
  · rw [if_neg hk]
    obtain ⟨_, g2⟩ := within_good (n := k) (c := 0) (most := 3) (by omega)
    exact ⟨k, rest, 0, num_of (u64_64 (by omega)) _, .inl ⟨hk, .inr ⟨g2, rfl, hn hk, rfl, rfl⟩⟩⟩
theorem sameC_self (k : Int) (d : List Nat) : sameC k d k d = true := by unfold sameC; simp
theorem nil_left {row : List Nat} {place : Nat} (h : row.drop place = []) : row.length - place = 0 := by
  have := congrArg List.length h
  simpa using this
theorem endC_zero : endC 0 0 = 0 := by unfold endC; simp
theorem cells_true {w : World} {v : Value} {cs : List IC} (h : CellsAt w (fun _ => True) v cs) : CellsAt w (fun j => j < w.heap.size) v cs := h.mono fun _ hj _ => hj

theorem wrap_succ80 (k : Nat) (h : k ≤ 80) : wrap64 ((k : Int) + 1) = ((k + 1 : Nat) : Int) := by
  have h2 : ((k : Int) + 1 + 9223372036854775808) % 18446744073709551616 = (k : Int) + 1 + 9223372036854775808 := Int.emod_eq_of_lt (by omega) (by omega)
  simp only [wrap64, h2]
  omega
theorem meas_succ80 {k n : Nat} (h : k < n) (hk : k ≤ 80) : n - (intOf (.int .i64 (wrap64 ((k : Int) + 1)))).toNat < n - (intOf (.int .i64 (k : Int))).toNat := by
  rw [wrap_succ80 k hk]
  show n - (((k + 1 : Nat) : Int)).toNat < n - ((k : Int)).toNat
  omega
theorem left_take {b l fin : List Nat} {p : Nat} (h : b = l ++ fin) (hd : b.drop p = fin) : l.length + (b.length - p) = b.length ∧ b.take l.length = l := by
  have h1 := congrArg List.length hd
  have h2 := congrArg List.length h
  rw [List.length_drop] at h1
  rw [List.length_append] at h2
  exact ⟨by omega, by rw [h]; simp⟩
/-- A slice's head, up to a difference. -/
theorem slice_diff {w : World} {a : Option Addr} {n c m l : Nat} (h : m + l = n) (hc : n ≤ c) : (Instr.slice 22 (.slice a n c) none (some (.int .i64 ((n : Int) - (l : Int)))) none).run Try.prog w = .ok (.slice a m c) w := by
  rw [show (n : Int) - (l : Int) = (m : Int) by omega]
  exact slice_head w a n c m (by omega)
theorem toCC_map (run : List CC) : (run.map toIC).map toCC = run := by
  rw [List.map_map]
  conv => rhs; rw [← List.map_id run]
  exact List.map_congr_left fun c _ => by simp [toIC, toCC]
theorem trun_fail {rest fin : List Nat} {run : List CC} {c : Nat} (hc : c ≠ 0) (h : TRun rest 0 run c fin) : run = [] := by
  obtain ⟨n, r1, c1, hn, h⟩ := h
  rcases h with ⟨_, rfl, _⟩ | ⟨_, _, rfl, _⟩ | ⟨_, _, run1, c2, fin1, ht, rfl, rfl, _⟩
  · rfl
  · rfl
  · rw [if_neg hc]

set_option maxHeartbeats 8000000 in
set_option maxRecDepth 100000 in
theorem cellBack_walk (v bv : Value) (cs : List IC) (b : List Nat) (w : World) (hr : CellsAt w (fun _ => True) v cs) (h8 : ∀ c ∈ cs, ∀ y ∈ c.2, y < 256) (hlen : cs.length ≤ 9223372036854775807) (hb : Reads w .u8 bv b) (h8b : ∀ y ∈ b, y < 256) :
    Calls Try.prog 6 #[v, bv] w fun e w' => e = .returned (.bool true) ∧ Below w.heap.size w w' := by
  obtain ⟨aob, capb, rfl, hcb1, hcb2, _⟩ := hb.val
  obtain ⟨ao, cap, rfl, _, _, _⟩ := hr.val
  have H8B := Lib.hid h8b
  have H8 := Lib.hid h8
  clear h8b h8
  go_enter Try.func6, Try.ntmps6
  go_wp2_with fail
  refine (alive5_any w).mono ?_
  rintro e w1 ⟨rfl, hb1⟩
  have HB1 := Lib.hid hb1
  have HR := Lib.hid (cells_true hr)
  have HRB := Lib.hid hb
  clear hb1 hr hb
  go_wp2_with fail
  refine (long_any _ cs 80 w1 _ (HR.out.old HB1.out) hlen).mono ?_
  rintro e w2 ⟨rfl, hb2⟩
  have HB2 := Lib.hid (HB1.out.trans (hb2.mono HB1.out.size))
  clear hb2 HB1 hlen
  cases hlg : longB cs 80
  rotate_left
  · go_wp2
    go_ret
    exact ⟨rfl, HB2.out⟩
  have hcl : cs.length ≤ 80 := by
    unfold longB at hlg
    simp only [Bool.or_eq_false_iff, decide_eq_false_iff_not] at hlg
    omega
  have HCL := Lib.hid hcl
  clear hlg hcl
  by_cases hbl : (3000 : Int) < (b.length : Int)
  · go_wp2
    go_ret
    exact ⟨rfl, HB2.out⟩
  have HBL : Hid (b.length ≤ 3000) := Lib.hid (by omega)
  go_wp2_with fail
  refine (putRun_any _ _ [] cs w2 _ (reads_none _ _) (HR.out.old HB2.out) H8.out (by simp)).mono ?_
  rintro e wT ⟨v3, out, rfl, ho3, hout, hb3⟩
  have HBT := Lib.hid (HB2.out.trans (hb3.mono HB2.out.size))
  obtain ⟨ao3, cap3, rfl, _, _, _⟩ := ho3.reads.val
  have HO3 := Lib.hid ho3
  have HOUT := Lib.hid hout
  clear ho3 hout hb3
  cases hchk : chkRun cs
  case zero =>
    obtain ⟨hl64, hok⟩ := chkRun_zero hchk
    have hout2 : out = rbytes (cs.map toCC) := by rw [HOUT.out, if_pos hchk]; rfl
    have hokc : ∀ c ∈ cs.map toCC, okC c := fun c hc => by
      obtain ⟨x, hx, rfl⟩ := List.mem_map.1 hc
      exact okC_toCC (hok x hx) (H8.out x hx)
    have HCS := Lib.hid (run_toCC hok)
    have HB8 : Hid (∀ y ∈ out, y < 256) := Lib.hid (by rw [hout2]; exact rbytes_byteB (by rw [List.length_map]; exact hl64) hokc)
    have HOL : Hid (out.length ≤ 90000000000000) := Lib.hid (by rw [hout2]; have := rbytes_lenB (run := cs.map toCC) (by rw [List.length_map]; exact hl64) hokc; omega)
    have HTR : Hid (TRun out 0 (cs.map toCC) 0 []) := Lib.hid (by
      have := trun_rbytes (run := cs.map toCC) (by rw [List.length_map]; exact hl64) hokc []
      rw [List.append_nil, ← hout2] at this
      exact this)
    clear hchk hl64 hok hout2 hokc
    simp only [errV_zero]
    go_wp2_with fail
    refine (vnew_any _ out _ HO3.out.reads HB8.out HOL.out).mono ?_
    rintro e w4 ⟨p, rv, rfl, hrd4, hb4, hp4, _⟩
    have HRD4 := Lib.hid hrd4
    have HBT4 := Lib.hid (HBT.out.trans (hb4.mono HBT.out.size))
    have HP4 := Lib.hid hp4
    have HB34 := Lib.hid hb4.size
    clear hrd4 hb4 hp4
    go_wp2_with fail
    refine (takeRun_any HRD4.out).mono ?_
    rintro e w5 ⟨v5, run, pl5, c5, fin5, rfl, ht5, hrd5, hf5, hg5, hce5, _⟩
    obtain ⟨hrn, hcc, hfin⟩ := (show TRun out 0 run c5 fin5 by simpa using ht5).unique HTR.out
    subst hcc hfin
    rw [hrn, ← HCS.out] at hce5
    obtain ⟨ao5, cap5, rfl, _, _, _⟩ := hce5.val
    have HRD5 := Lib.hid hrd5
    have HEN : Hid (endC (out.length - pl5) 0 = 0) := Lib.hid (by rw [nil_left (hf5 rfl)]; exact endC_zero)
    have HCE5 := Lib.hid (hce5.mono (C := fun j => j < w5.heap.size) fun j hj _ => hj)
    have HBT5 := Lib.hid (HBT4.out.grown hg5 HBT4.out.size (fun j hj => by cases hj; exact Nat.le_trans HBT.out.size HP4.out))
    clear ht5 hf5 hg5 hce5 hrn hrd5 HTR
    go_wp2_with fail
    refine (end_any HRD5.out).mono ?_
    rintro e w6 ⟨rfl, q, hw6⟩
    rw [HEN.out, errV_zero]
    have HB56 : Hid (Below w5.heap.size w5 w6) := Lib.hid (by rw [hw6]; exact ⟨rfl, rfl, rfl, Nat.le_refl _, fun _ _ => rfl⟩)
    have HBT6 := Lib.hid (HBT5.out.trans (HB56.out.mono HBT5.out.size))
    clear hw6
    go_wp2_with fail
    refine (documents_any _ cs w6 _ (HR.out.old HBT6.out) (by have := HCL.out; omega)).mono ?_
    rintro e w7 ⟨v7, rfl, ho7, hb7⟩
    have HO7 := Lib.hid ho7
    have HBT7 := Lib.hid (HBT6.out.trans (hb7.mono HBT6.out.size))
    have HCE7 := Lib.hid ((HCE5.out.old HB56.out).old hb7)
    obtain ⟨ao7, cap7, rfl⟩ := ho7.form
    clear ho7 hb7
    go_wp2_with fail
    refine (are_any _ _ cs w7 _ _ HCE7.out HO7.out (by have := HCL.out; omega)).mono ?_
    rintro e wT ⟨rfl, hb8⟩
    have HBT := Lib.hid (HBT7.out.trans (hb8.mono HBT7.out.size))
    clear hb8
    have HJ := Lib.hid HBT.out
    clear HBT HBT4 HBT5 HBT6 HBT7 HB56 HB34 HEN HCE5 HCE7 HO7 HP4 HRD4 HRD5 HOL HB8 HCS HO3 HB2
    go_wp2
    go_loopw [10, 11, 12, 13, 50] (fun _ _ _ _ i wr => ∃ k : Nat, k ≤ cs.length ∧ i = .int .i64 (k : Int) ∧ Below w.heap.size w wr)
      (fun _ _ _ _ i _ => cs.length - (intOf i).toNat)
    case atStart => exact ⟨0, Nat.zero_le _, rfl, HJ.out⟩
    case round =>
      obtain ⟨k, hk, rfl, hb⟩ := hrel
      have HB := Lib.hid hb
      clear hb HJ
      by_cases hlt : k < cs.length
      · obtain ⟨b', off, x, rfl, hbb, _, c0, c1, hat⟩ := HR.out.at hlt
        have d0 := (HB.out.cell (p := ⟨b', off + k * 2, none⟩) hbb).trans c0
        have d1 := (HB.out.cell (p := ⟨b', off + k * 2 + 1, none⟩) hbb).trans c1
        have hd8 : ∀ y ∈ (cs.getD k (0, [])).2, y < 256 := H8.out _ (by rw [show cs.getD k (0, []) = cs[k] by simp [List.getD, List.getElem?_eq_getElem hlt]]; exact List.getElem_mem hlt)
        generalize hg : cs.getD k (0, []) = gg at d0 d1 hat hd8
        obtain ⟨kk, d⟩ := gg
        simp only at d0 hat hd8
        obtain ⟨aot, capt, rfl, _, _, _⟩ := hat.reads.val
        have HAT := Lib.hid hat
        have HD8 := Lib.hid hd8
        clear hg hat c0 c1 hbb hd8
        have hlti : (k : Int) < cs.length := by omega
        have HKL := Lib.hid hlt
        obtain ⟨W0, hW0⟩ : ∃ W0, W0 = wr.alloc (.cells #[.int .i64 kk, .slice aot d.length capt] 24) := ⟨_, rfl⟩
        have hal : Below wr.heap.size wr W0 := by rw [hW0]; exact (Below.refl _ _).alloc (Nat.le_refl _) _
        have hx : W0.heap[wr.heap.size]? = some (.cells #[.int .i64 kk, .slice aot d.length capt] 24 (0, 0)) := by rw [hW0]; exact heap_alloc_new _ _
        have HB0 := Lib.hid (HB.out.trans (hal.mono HB.out.size))
        have HX := Lib.hid hx
        have HW0 := Lib.hid hW0
        have HWS := Lib.hid hal.size
        have HBS := Lib.hid HB.out.size
        clear hal hx hW0 HB
        go_wp2_with fail
        rw [← HW0.out]
        have hrd0 : Reads W0 .u8 (.slice aot d.length capt) d := (HAT.out.keep (kept_below HB0.out)).reads
        refine (cput_any _ _ [] kk d W0 (reads_none _ _) hrd0 (by simp)).mono ?_
        rintro e w1 ⟨v3, out1, rfl, ho1, hout1, hb1⟩
        have HB1 := Lib.hid (HB0.out.trans (hb1.mono HB0.out.size))
        have hlx : wr.heap.size < W0.heap.size := (Array.getElem?_eq_some_iff.1 HX.out).1
        have HX1 := Lib.hid ((hb1.block _ hlx).trans HX.out)
        have HO1 := Lib.hid ho1
        have HS1 := Lib.hid hb1.size
        have HLX := Lib.hid hlx
        obtain ⟨ao1, cap1, rfl, _, _, _⟩ := ho1.reads.val
        clear hrd0 ho1 hb1 hlx d0 d1 HX HB0 HW0
        cases hck : chk kk d.length
        case zero =>
          obtain ⟨hk0, _, _, _⟩ := chk_zero hck
          have hokc := okC_toCC (c := (kk, d)) hck HD8.out
          rw [if_pos hck, List.nil_append] at hout1
          obtain ⟨m, rfl⟩ : ∃ m : Nat, kk = (m : Int) := ⟨kk.toNat, (Int.toNat_of_nonneg hk0).symm⟩
          rw [Int.toNat_natCast] at hout1
          have hokm : okC (m, d) := hokc
          have HTC : Hid (TCell out1 0 m d 0 []) := Lib.hid (by
            have := tcell_cbytes hokm []
            rw [List.append_nil, ← hout1] at this
            exact this)
          have HO8 : Hid (∀ y ∈ out1, y < 256) := Lib.hid (by rw [hout1]; exact cbytes_byteB hokm)
          have HOL1 : Hid (out1.length ≤ 90000000000000) := Lib.hid (by rw [hout1]; have := cbytes_lenB hokm; omega)
          clear hout1 hokc hokm hck hk0
          simp only [errV_zero]
          go_wp2_with fail
          refine (vnew_any _ out1 _ HO1.out.reads HO8.out HOL1.out).mono ?_
          rintro e w2 ⟨p1, rv1, rfl, hrd2, hb2, hp2, _⟩
          have HB2 := Lib.hid (HB1.out.trans (hb2.mono HB1.out.size))
          have hl1 : wr.heap.size < w1.heap.size := Nat.lt_of_lt_of_le HLX.out HS1.out
          have hx2 := (hb2.block _ hl1).trans HX1.out
          have HX2 := Lib.hid hx2
          have HL2 := Lib.hid (Nat.lt_of_lt_of_le hl1 hb2.size)
          have HRD2 := Lib.hid hrd2
          have HP2 : Hid (wr.heap.size < p1) := Lib.hid (Nat.lt_of_lt_of_le hl1 hp2)
          obtain ⟨g0, g1, _, _⟩ := blk2 hx2
          clear hrd2 hb2 hp2 hx2 hl1 HX1 HO1 HOL1 HB1
          go_wp2_with fail
          go_region_held3 (fun w' => w'.cell? ⟨wr.heap.size, 0, none⟩ = some (.int .i64 (m : Int)) ∧ w'.cell? ⟨wr.heap.size, 1, none⟩ = some (.slice aot d.length capt)) (go_keep) (first
            | (go_at_call 28; refine (cellTake_any (HRD2.out.below (by first | exact Below.refl _ _ | exact below_dN (Below.refl _ _)) (Nat.le_refl _))).mono ?_; rintro e wx ⟨v5, k5, d5, pl5, c5, fin5, rfl, ht5, hrd5, hf5, ho5, hg5⟩
               obtain ⟨hk5, hd5, hc5, hfin5⟩ := (show TCell out1 0 k5 d5 c5 fin5 by simpa using ht5).unique HTC.out
               subst hk5 hd5 hc5 hfin5
               have HRD := Lib.hid hrd5
               have HEN : Hid (endC (out1.length - pl5) 0 = 0) := Lib.hid (by rw [nil_left (hf5 rfl)]; exact endC_zero)
               have HV := Lib.hid ho5
               have hg6 : w2.grownBy wx (some p1) := ⟨hg5.os, hg5.tape, hg5.output, hg5.size, hg5.block⟩
               have hbx := hg6.block _ HL2.out (fun e => by have := HP2.out; cases e; omega)
               obtain ⟨g0, g1, _, _⟩ := blk2 (hbx.trans HX2.out)
               have HXX := Lib.hid (hbx.trans HX2.out)
               have HD := Lib.hid (HB2.out.grown hg6 HB2.out.size (fun j hj => by cases hj; have := HP2.out; have := HBS.out; omega))
               clear ht5 hrd5 hf5 ho5 hg5 hg6 hbx)
            | (go_at_call 15; refine (same_any _ _ _ _ _ _ _ (by first | exact HV.out.reads | exact HV.out.reads.drewN _) (by first | exact (HAT.out.keep (kept_below HD.out)).reads | exact (HAT.out.keep (kept_below HD.out)).reads.drewN _) HD8.out HD8.out).mono ?_; rw [sameC_self]; rintro e wy ⟨rfl, hby⟩
               have hbz : Below wx.heap.size wx wy := by first | exact hby | exact ⟨hby.os, hby.tape, hby.output, hby.size, hby.block⟩
               have HRD := Lib.hid (HRD.out.below hbz (Nat.le_refl _))
               have hxx := (hbz.block _ (Array.getElem?_eq_some_iff.1 HXX.out).1).trans HXX.out
               obtain ⟨g0, g1, _, _⟩ := blk2 hxx
               have HD := Lib.hid (HD.out.trans (hbz.mono HD.out.size))
               have HXX := Lib.hid hxx
               clear hby hbz hxx)
            | (go_at_call 31; refine (end_any (HRD.out.below (by first | exact Below.refl _ _ | exact below_dN (Below.refl _ _)) (Nat.le_refl _))).mono ?_; rw [HEN.out, errV_zero]; rintro e wz ⟨rfl, nn, hwz⟩
               have hbx := below_dN (n := nn) HD.out
               have hby : Below w.heap.size w wz := by first | (rw [hwz]; exact hbx) | (rw [hwz]; exact ⟨hbx.os, hbx.tape, hbx.output, hbx.size, hbx.block⟩)
               have HD := Lib.hid hby
               have hcc : ∀ i, wz.cell? ⟨wr.heap.size, i, none⟩ = wy.cell? ⟨wr.heap.size, i, none⟩ := fun i => by rw [hwz]; rfl
               have g0 := (hcc 0).trans g0
               have g1 := (hcc 1).trans g1
               clear hbx hby hwz hcc))
          all_goals
            have HF := Lib.hid HD.out
            clear g0 g1 HD HRD HXX HEN HV HRD2 HX2 HB2 HTC HO8
            go_wp2
            go_roundw
            case rel => exact ⟨k + 1, Nat.succ_le_of_lt HKL.out, congrArg (Value.int .i64) (wrap_succ80 k (Nat.le_trans (Nat.le_of_lt HKL.out) HCL.out)), HF.out⟩
            case measure => exact meas_succ80 HKL.out (Nat.le_trans (Nat.le_of_lt HKL.out) HCL.out)
        case succ m1 =>
          have hne : chk kk d.length ≠ 0 := by rw [hck]; simp
          rw [if_neg hne] at hout1
          subst hout1
          clear hck hne
          rw [errV_pos (Nat.succ_ne_zero m1)]
          go_wp2_with fail
          refine (vnew_any _ [] _ HO1.out.reads (by simp) (by simp)).mono ?_
          rintro e w2 ⟨p1, rv1, rfl, hrd2, hb2, hp2, _⟩
          have HB2 := Lib.hid (HB1.out.trans (hb2.mono HB1.out.size))
          clear hrd2 hb2 hp2 HX1 HO1 HB1
          go_wp2_with fail
          go_quiet (fail)
          go_wp2
          go_roundw
          case rel => exact ⟨k + 1, Nat.succ_le_of_lt HKL.out, congrArg (Value.int .i64) (wrap_succ80 k (Nat.le_trans (Nat.le_of_lt HKL.out) HCL.out)), by first | exact HB2.out | exact below_dN HB2.out⟩
          case measure => exact meas_succ80 HKL.out (Nat.le_trans (Nat.le_of_lt HKL.out) HCL.out)
      · obtain rfl : k = cs.length := by omega
        clear HCL
        go_wp2_with fail
        refine (vnew_any _ b wr (HRB.out.new HB.out) H8B.out (by have := HBL.out; omega)).mono ?_
        rintro e w8 ⟨p8, rv8, rfl, hrd8, hb8, hp8, _⟩
        have HRD8 := Lib.hid hrd8
        have HB8 := Lib.hid (HB.out.trans (hb8.mono HB.out.size))
        have HP8 : Hid (w.heap.size ≤ p8) := Lib.hid (Nat.le_trans HB.out.size hp8)
        clear hrd8 hb8 hp8 HB
        go_wp2_with fail
        refine (takeRun_any HRD8.out).mono ?_
        rintro e w9 ⟨v9, run9, pl9, c9, fin9, rfl, ht9, hrd9, hf9, hg9, hce9, _⟩
        obtain ⟨ics, hics⟩ : ∃ ics, ics = run9.map toIC := ⟨_, rfl⟩
        rw [← hics] at hce9
        obtain ⟨ao9, cap9, rfl, _, _, _⟩ := hce9.val
        have HT9 : Hid (TRun b 0 run9 c9 fin9) := Lib.hid (by simpa using ht9)
        have HRD9 := Lib.hid hrd9
        have HF9 := Lib.hid hf9
        have HCE9 := Lib.hid hce9
        have HICS := Lib.hid hics
        have HB9 := Lib.hid (HB8.out.grown hg9 HB8.out.size (fun j hj => by cases hj; exact HP8.out))
        clear ht9 hrd9 hf9 hg9 hce9 hics HRD8 HB8 HP8
        go_wp2_with fail
        refine (err_any HRD9.out).mono ?_
        rintro e wx ⟨rfl, rfl⟩
        by_cases hc : c9 = 0
        · subst hc
          obtain ⟨e1, e2, e3⟩ := rbytes_trun H8B.out HT9.out
          obtain ⟨f1, f3⟩ := left_take e1 (HF9.out rfl)
          have HC0 : Hid (chkRun ics = 0) := Lib.hid (by rw [HICS.out]; exact chkRun_okC e2 e3)
          have HI8 : Hid (∀ c ∈ ics, ∀ y ∈ c.2, y < 256) := Lib.hid (by
            rw [HICS.out]
            intro c hcm
            obtain ⟨x, hx, rfl⟩ := List.mem_map.1 hcm
            exact (e3 x hx).2.2.2)
          have HBY : Hid (∀ y ∈ rbytes run9, y < 256) := Lib.hid (rbytes_byteB e2 e3)
          have HF1 := Lib.hid f1
          have HF2 := Lib.hid (show (rbytes run9).length ≤ b.length by omega)
          have HF3 := Lib.hid f3
          clear e1 e2 e3 f1 f3
          rw [errV_zero]
          go_wp2_with fail
          refine (putRun_any _ _ [] ics _ _ (reads_none _ _) HCE9.out HI8.out (by simp)).mono ?_
          rintro e w10 ⟨v10, out10, rfl, ho10, hout10, hb10⟩
          rw [HC0.out, errV_zero]
          rw [if_pos HC0.out, List.nil_append, HICS.out, toCC_map] at hout10
          have HO10 := Lib.hid ho10
          have HOUT10 := Lib.hid hout10
          have HB10 := Lib.hid (HB9.out.trans (hb10.mono HB9.out.size))
          have HRD10 := Lib.hid (HRD9.out.below hb10 (Nat.le_refl _))
          obtain ⟨ao10, cap10, rfl, _, _, _⟩ := ho10.reads.val
          clear ho10 hout10 hb10
          go_wp2_with fail
          refine (left_ok HRD10.out).mono ?_
          rintro e w11 ⟨rfl, q, hw11⟩
          obtain ⟨L, hL⟩ : ∃ L, L = b.length - pl9 := ⟨_, rfl⟩
          obtain ⟨M, hM⟩ : ∃ M, M = (rbytes run9).length := ⟨_, rfl⟩
          have hro : Reads w11 .u8 (.slice ao10 out10.length cap10) out10 := by rw [hw11]; exact HO10.out.reads.drewN q
          have hb11 : Below w.heap.size w w11 := by rw [hw11]; exact below_dN HB10.out
          have hri := (HRB.out.new hb11).head (m := M) (by rw [hM]; exact HF2.out)
          rw [hM, HF3.out, ← hM] at hri
          have hsl := fun w => slice_diff (w := w) (a := aob) (n := b.length) (c := capb) (m := M) (l := L) (by rw [hM, hL]; exact HF1.out) hcb1
          rw [← hL]
          have HB11 := Lib.hid hb11
          have HRO := Lib.hid hro
          have HRI := Lib.hid hri
          have hbl' := HBL.out
          have hLb : L ≤ b.length := by rw [hL]; omega
          clear hro hri hb11 hw11 hL hM HF1 HF2 HF3
          go_wp2_with fail
          refine (numBytes_any _ _ out10 (rbytes run9) _ HRO.out HRI.out (by rw [HOUT10.out]; exact HBY.out) HBY.out).mono ?_
          rintro e wx ⟨rfl, rfl⟩
          rw [decide_eq_true HOUT10.out]
          go_wp2
          go_ret
          exact ⟨rfl, HB11.out⟩
        · obtain rfl := trun_fail hc HT9.out
          have HE : Hid (ics = []) := Lib.hid HICS.out
          rw [HE.out]
          rw [errV_pos hc]
          go_wp2
          go_ret
          exact ⟨rfl, HB9.out⟩
  case succ m =>
    have HJ := Lib.hid HBT.out
    clear HBT HO3 HB2 HOUT hchk
    rw [errV_pos (Nat.succ_ne_zero m)]
    go_wp2
    go_loopw [10, 11, 12, 13, 50] (fun _ _ _ _ i wr => ∃ k : Nat, k ≤ cs.length ∧ i = .int .i64 (k : Int) ∧ Below w.heap.size w wr)
      (fun _ _ _ _ i _ => cs.length - (intOf i).toNat)
    case atStart => exact ⟨0, Nat.zero_le _, rfl, HJ.out⟩
    case round =>
      obtain ⟨k, hk, rfl, hb⟩ := hrel
      have HB := Lib.hid hb
      clear hb HJ
      by_cases hlt : k < cs.length
      · obtain ⟨b', off, x, rfl, hbb, _, c0, c1, hat⟩ := HR.out.at hlt
        have d0 := (HB.out.cell (p := ⟨b', off + k * 2, none⟩) hbb).trans c0
        have d1 := (HB.out.cell (p := ⟨b', off + k * 2 + 1, none⟩) hbb).trans c1
        have hd8 : ∀ y ∈ (cs.getD k (0, [])).2, y < 256 := H8.out _ (by rw [show cs.getD k (0, []) = cs[k] by simp [List.getD, List.getElem?_eq_getElem hlt]]; exact List.getElem_mem hlt)
        generalize hg : cs.getD k (0, []) = gg at d0 d1 hat hd8
        obtain ⟨kk, d⟩ := gg
        simp only at d0 hat hd8
        obtain ⟨aot, capt, rfl, _, _, _⟩ := hat.reads.val
        have HAT := Lib.hid hat
        have HD8 := Lib.hid hd8
        clear hg hat c0 c1 hbb hd8
        have hlti : (k : Int) < cs.length := by omega
        have HKL := Lib.hid hlt
        obtain ⟨W0, hW0⟩ : ∃ W0, W0 = wr.alloc (.cells #[.int .i64 kk, .slice aot d.length capt] 24) := ⟨_, rfl⟩
        have hal : Below wr.heap.size wr W0 := by rw [hW0]; exact (Below.refl _ _).alloc (Nat.le_refl _) _
        have hx : W0.heap[wr.heap.size]? = some (.cells #[.int .i64 kk, .slice aot d.length capt] 24 (0, 0)) := by rw [hW0]; exact heap_alloc_new _ _
        have HB0 := Lib.hid (HB.out.trans (hal.mono HB.out.size))
        have HX := Lib.hid hx
        have HW0 := Lib.hid hW0
        have HWS := Lib.hid hal.size
        have HBS := Lib.hid HB.out.size
        clear hal hx hW0 HB
        go_wp2_with fail
        rw [← HW0.out]
        have hrd0 : Reads W0 .u8 (.slice aot d.length capt) d := (HAT.out.keep (kept_below HB0.out)).reads
        refine (cput_any _ _ [] kk d W0 (reads_none _ _) hrd0 (by simp)).mono ?_
        rintro e w1 ⟨v3, out1, rfl, ho1, hout1, hb1⟩
        have HB1 := Lib.hid (HB0.out.trans (hb1.mono HB0.out.size))
        have hlx : wr.heap.size < W0.heap.size := (Array.getElem?_eq_some_iff.1 HX.out).1
        have HX1 := Lib.hid ((hb1.block _ hlx).trans HX.out)
        have HO1 := Lib.hid ho1
        have HS1 := Lib.hid hb1.size
        have HLX := Lib.hid hlx
        obtain ⟨ao1, cap1, rfl, _, _, _⟩ := ho1.reads.val
        clear hrd0 ho1 hb1 hlx d0 d1 HX HB0 HW0
        cases hck : chk kk d.length
        case zero =>
          obtain ⟨hk0, _, _, _⟩ := chk_zero hck
          have hokc := okC_toCC (c := (kk, d)) hck HD8.out
          rw [if_pos hck, List.nil_append] at hout1
          obtain ⟨m, rfl⟩ : ∃ m : Nat, kk = (m : Int) := ⟨kk.toNat, (Int.toNat_of_nonneg hk0).symm⟩
          rw [Int.toNat_natCast] at hout1
          have hokm : okC (m, d) := hokc
          have HTC : Hid (TCell out1 0 m d 0 []) := Lib.hid (by
            have := tcell_cbytes hokm []
            rw [List.append_nil, ← hout1] at this
            exact this)
          have HO8 : Hid (∀ y ∈ out1, y < 256) := Lib.hid (by rw [hout1]; exact cbytes_byteB hokm)
          have HOL1 : Hid (out1.length ≤ 90000000000000) := Lib.hid (by rw [hout1]; have := cbytes_lenB hokm; omega)
          clear hout1 hokc hokm hck hk0
          simp only [errV_zero]
          go_wp2_with fail
          refine (vnew_any _ out1 _ HO1.out.reads HO8.out HOL1.out).mono ?_
          rintro e w2 ⟨p1, rv1, rfl, hrd2, hb2, hp2, _⟩
          have HB2 := Lib.hid (HB1.out.trans (hb2.mono HB1.out.size))
          have hl1 : wr.heap.size < w1.heap.size := Nat.lt_of_lt_of_le HLX.out HS1.out
          have hx2 := (hb2.block _ hl1).trans HX1.out
          have HX2 := Lib.hid hx2
          have HL2 := Lib.hid (Nat.lt_of_lt_of_le hl1 hb2.size)
          have HRD2 := Lib.hid hrd2
          have HP2 : Hid (wr.heap.size < p1) := Lib.hid (Nat.lt_of_lt_of_le hl1 hp2)
          obtain ⟨g0, g1, _, _⟩ := blk2 hx2
          clear hrd2 hb2 hp2 hx2 hl1 HX1 HO1 HOL1 HB1
          go_wp2_with fail
          go_region_held3 (fun w' => w'.cell? ⟨wr.heap.size, 0, none⟩ = some (.int .i64 (m : Int)) ∧ w'.cell? ⟨wr.heap.size, 1, none⟩ = some (.slice aot d.length capt)) (go_keep) (first
            | (go_at_call 28; refine (cellTake_any (HRD2.out.below (by first | exact Below.refl _ _ | exact below_dN (Below.refl _ _)) (Nat.le_refl _))).mono ?_; rintro e wx ⟨v5, k5, d5, pl5, c5, fin5, rfl, ht5, hrd5, hf5, ho5, hg5⟩
               obtain ⟨hk5, hd5, hc5, hfin5⟩ := (show TCell out1 0 k5 d5 c5 fin5 by simpa using ht5).unique HTC.out
               subst hk5 hd5 hc5 hfin5
               have HRD := Lib.hid hrd5
               have HEN : Hid (endC (out1.length - pl5) 0 = 0) := Lib.hid (by rw [nil_left (hf5 rfl)]; exact endC_zero)
               have HV := Lib.hid ho5
               have hg6 : w2.grownBy wx (some p1) := ⟨hg5.os, hg5.tape, hg5.output, hg5.size, hg5.block⟩
               have hbx := hg6.block _ HL2.out (fun e => by have := HP2.out; cases e; omega)
               obtain ⟨g0, g1, _, _⟩ := blk2 (hbx.trans HX2.out)
               have HXX := Lib.hid (hbx.trans HX2.out)
               have HD := Lib.hid (HB2.out.grown hg6 HB2.out.size (fun j hj => by cases hj; have := HP2.out; have := HBS.out; omega))
               clear ht5 hrd5 hf5 ho5 hg5 hg6 hbx)
            | (go_at_call 15; refine (same_any _ _ _ _ _ _ _ (by first | exact HV.out.reads | exact HV.out.reads.drewN _) (by first | exact (HAT.out.keep (kept_below HD.out)).reads | exact (HAT.out.keep (kept_below HD.out)).reads.drewN _) HD8.out HD8.out).mono ?_; rw [sameC_self]; rintro e wy ⟨rfl, hby⟩
               have hbz : Below wx.heap.size wx wy := by first | exact hby | exact ⟨hby.os, hby.tape, hby.output, hby.size, hby.block⟩
               have HRD := Lib.hid (HRD.out.below hbz (Nat.le_refl _))
               have hxx := (hbz.block _ (Array.getElem?_eq_some_iff.1 HXX.out).1).trans HXX.out
               obtain ⟨g0, g1, _, _⟩ := blk2 hxx
               have HD := Lib.hid (HD.out.trans (hbz.mono HD.out.size))
               have HXX := Lib.hid hxx
               clear hby hbz hxx)
            | (go_at_call 31; refine (end_any (HRD.out.below (by first | exact Below.refl _ _ | exact below_dN (Below.refl _ _)) (Nat.le_refl _))).mono ?_; rw [HEN.out, errV_zero]; rintro e wz ⟨rfl, nn, hwz⟩
               have hbx := below_dN (n := nn) HD.out
               have hby : Below w.heap.size w wz := by first | (rw [hwz]; exact hbx) | (rw [hwz]; exact ⟨hbx.os, hbx.tape, hbx.output, hbx.size, hbx.block⟩)
               have HD := Lib.hid hby
               have hcc : ∀ i, wz.cell? ⟨wr.heap.size, i, none⟩ = wy.cell? ⟨wr.heap.size, i, none⟩ := fun i => by rw [hwz]; rfl
               have g0 := (hcc 0).trans g0
               have g1 := (hcc 1).trans g1
               clear hbx hby hwz hcc))
          all_goals
            have HF := Lib.hid HD.out
            clear g0 g1 HD HRD HXX HEN HV HRD2 HX2 HB2 HTC HO8
            go_wp2
            go_roundw
            case rel => exact ⟨k + 1, Nat.succ_le_of_lt HKL.out, congrArg (Value.int .i64) (wrap_succ80 k (Nat.le_trans (Nat.le_of_lt HKL.out) HCL.out)), HF.out⟩
            case measure => exact meas_succ80 HKL.out (Nat.le_trans (Nat.le_of_lt HKL.out) HCL.out)
        case succ m1 =>
          have hne : chk kk d.length ≠ 0 := by rw [hck]; simp
          rw [if_neg hne] at hout1
          subst hout1
          clear hck hne
          rw [errV_pos (Nat.succ_ne_zero m1)]
          go_wp2_with fail
          refine (vnew_any _ [] _ HO1.out.reads (by simp) (by simp)).mono ?_
          rintro e w2 ⟨p1, rv1, rfl, hrd2, hb2, hp2, _⟩
          have HB2 := Lib.hid (HB1.out.trans (hb2.mono HB1.out.size))
          clear hrd2 hb2 hp2 HX1 HO1 HB1
          go_wp2_with fail
          go_quiet (fail)
          go_wp2
          go_roundw
          case rel => exact ⟨k + 1, Nat.succ_le_of_lt HKL.out, congrArg (Value.int .i64) (wrap_succ80 k (Nat.le_trans (Nat.le_of_lt HKL.out) HCL.out)), by first | exact HB2.out | exact below_dN HB2.out⟩
          case measure => exact meas_succ80 HKL.out (Nat.le_trans (Nat.le_of_lt HKL.out) HCL.out)
      · obtain rfl : k = cs.length := by omega
        clear HCL
        go_wp2_with fail
        refine (vnew_any _ b wr (HRB.out.new HB.out) H8B.out (by have := HBL.out; omega)).mono ?_
        rintro e w8 ⟨p8, rv8, rfl, hrd8, hb8, hp8, _⟩
        have HRD8 := Lib.hid hrd8
        have HB8 := Lib.hid (HB.out.trans (hb8.mono HB.out.size))
        have HP8 : Hid (w.heap.size ≤ p8) := Lib.hid (Nat.le_trans HB.out.size hp8)
        clear hrd8 hb8 hp8 HB
        go_wp2_with fail
        refine (takeRun_any HRD8.out).mono ?_
        rintro e w9 ⟨v9, run9, pl9, c9, fin9, rfl, ht9, hrd9, hf9, hg9, hce9, _⟩
        obtain ⟨ics, hics⟩ : ∃ ics, ics = run9.map toIC := ⟨_, rfl⟩
        rw [← hics] at hce9
        obtain ⟨ao9, cap9, rfl, _, _, _⟩ := hce9.val
        have HT9 : Hid (TRun b 0 run9 c9 fin9) := Lib.hid (by simpa using ht9)
        have HRD9 := Lib.hid hrd9
        have HF9 := Lib.hid hf9
        have HCE9 := Lib.hid hce9
        have HICS := Lib.hid hics
        have HB9 := Lib.hid (HB8.out.grown hg9 HB8.out.size (fun j hj => by cases hj; exact HP8.out))
        clear ht9 hrd9 hf9 hg9 hce9 hics HRD8 HB8 HP8
        go_wp2_with fail
        refine (err_any HRD9.out).mono ?_
        rintro e wx ⟨rfl, rfl⟩
        by_cases hc : c9 = 0
        · subst hc
          obtain ⟨e1, e2, e3⟩ := rbytes_trun H8B.out HT9.out
          obtain ⟨f1, f3⟩ := left_take e1 (HF9.out rfl)
          have HC0 : Hid (chkRun ics = 0) := Lib.hid (by rw [HICS.out]; exact chkRun_okC e2 e3)
          have HI8 : Hid (∀ c ∈ ics, ∀ y ∈ c.2, y < 256) := Lib.hid (by
            rw [HICS.out]
            intro c hcm
            obtain ⟨x, hx, rfl⟩ := List.mem_map.1 hcm
            exact (e3 x hx).2.2.2)
          have HBY : Hid (∀ y ∈ rbytes run9, y < 256) := Lib.hid (rbytes_byteB e2 e3)
          have HF1 := Lib.hid f1
          have HF2 := Lib.hid (show (rbytes run9).length ≤ b.length by omega)
          have HF3 := Lib.hid f3
          clear e1 e2 e3 f1 f3
          rw [errV_zero]
          go_wp2_with fail
          refine (putRun_any _ _ [] ics _ _ (reads_none _ _) HCE9.out HI8.out (by simp)).mono ?_
          rintro e w10 ⟨v10, out10, rfl, ho10, hout10, hb10⟩
          rw [HC0.out, errV_zero]
          rw [if_pos HC0.out, List.nil_append, HICS.out, toCC_map] at hout10
          have HO10 := Lib.hid ho10
          have HOUT10 := Lib.hid hout10
          have HB10 := Lib.hid (HB9.out.trans (hb10.mono HB9.out.size))
          have HRD10 := Lib.hid (HRD9.out.below hb10 (Nat.le_refl _))
          obtain ⟨ao10, cap10, rfl, _, _, _⟩ := ho10.reads.val
          clear ho10 hout10 hb10
          go_wp2_with fail
          refine (left_ok HRD10.out).mono ?_
          rintro e w11 ⟨rfl, q, hw11⟩
          obtain ⟨L, hL⟩ : ∃ L, L = b.length - pl9 := ⟨_, rfl⟩
          obtain ⟨M, hM⟩ : ∃ M, M = (rbytes run9).length := ⟨_, rfl⟩
          have hro : Reads w11 .u8 (.slice ao10 out10.length cap10) out10 := by rw [hw11]; exact HO10.out.reads.drewN q
          have hb11 : Below w.heap.size w w11 := by rw [hw11]; exact below_dN HB10.out
          have hri := (HRB.out.new hb11).head (m := M) (by rw [hM]; exact HF2.out)
          rw [hM, HF3.out, ← hM] at hri
          have hsl := fun w => slice_diff (w := w) (a := aob) (n := b.length) (c := capb) (m := M) (l := L) (by rw [hM, hL]; exact HF1.out) hcb1
          rw [← hL]
          have HB11 := Lib.hid hb11
          have HRO := Lib.hid hro
          have HRI := Lib.hid hri
          have hbl' := HBL.out
          have hLb : L ≤ b.length := by rw [hL]; omega
          clear hro hri hb11 hw11 hL hM HF1 HF2 HF3
          go_wp2_with fail
          refine (numBytes_any _ _ out10 (rbytes run9) _ HRO.out HRI.out (by rw [HOUT10.out]; exact HBY.out) HBY.out).mono ?_
          rintro e wx ⟨rfl, rfl⟩
          rw [decide_eq_true HOUT10.out]
          go_wp2
          go_ret
          exact ⟨rfl, HB11.out⟩
        · obtain rfl := trun_fail hc HT9.out
          have HE : Hid (ics = []) := Lib.hid HICS.out
          rw [HE.out]
          rw [errV_pos hc]
          go_wp2
          go_ret
          exact ⟨rfl, HB9.out⟩

end Go.Proofs.Ytbihammpdjkonaa
