/- The contract of package cell's PutRun. -/
import Derived.Test.YtbihammpdjkonaaCelR
import Derived.Test.YtbihammpdjkonaaCelD
namespace Go.Proofs.Ytbihammpdjkonaa
open Go.RowKit

set_option maxHeartbeats 4000000 in
set_option maxRecDepth 100000 in
theorem putRun_good (bv v : Value) (b : List Nat) (run : List CC) (w : World) (B : Nat → Prop) (hb : Reads w .u8 bv b) (hr : CellsAt w B v (run.map toIC)) (hok : ∀ c ∈ run, okC c) (hl : run.length ≤ 64) (hx : b.length ≤ 60000000000000) :
    Calls Try.prog 24 #[bv, v] w fun e w' => ∃ v', e = .returned (.tuple #[v', .nilIface]) ∧ Owns w' w.heap.size 5 .u8 v' (b ++ rbytes run) ∧ Below w.heap.size w w' := by
  obtain ⟨ao, cap, rfl, h1, h2, h3⟩ := hr.val
  obtain ⟨aob, capb, rfl, _, _, _⟩ := hb.val
  have hr2 := hr.mono (C := fun j => j < w.heap.size) fun j hj _ => hj
  have hmap : (run.map toIC).length = run.length := List.length_map _
  rw [hmap] at hr2 ⊢
  have HR := Lib.hid hr2
  have HRB := Lib.hid hb
  have HOK := Lib.hid hok
  have HITL : Hid ((items [] run).length ≤ 6400) := Lib.hid (by have := items_len _ run [] rfl hl hok; omega)
  clear hr hr2 hb h1 h2 h3 hmap hok
  go_enter Try.func24, Try.ntmps24
  go_wp2_with fail
  refine (checkRun_any _ (run.map toIC) w _ HR.out).mono ?_
  rintro e w1 ⟨rfl, hb1⟩
  rw [chkRun_okC hl HOK.out, errV_zero]
  have HB1 := Lib.hid hb1
  clear hb1
  have hwr : IntKind.u64.wrap (run.length : Int) = (run.length : Int) := IntWalk.u64_in _ (by omega)
  have hun : ∀ x ∈ [run.length], U64 x := by
    intro x hx
    rw [List.mem_singleton.1 hx]
    unfold U64; omega
  go_wp2_with fail
  refine (put_any _ _ [] [run.length] _ (reads_none _ _) (reads_new w1 .u64 75 run.length) hun (by simp)).mono ?_
  rintro e w2 ⟨v2, rfl, ho2, hb2⟩
  have hb12 : Below w1.heap.size w1 w2 := ((Below.refl _ _).alloc (Nat.le_refl _) _).trans (hb2.mono (by simp))
  have HB2 : Hid (Below w.heap.size w w2) := Lib.hid (HB1.out.trans (hb12.mono HB1.out.size))
  have HO2 : Hid (Owns w2 w.heap.size 5 .u8 v2 (enc run.length ++ [])) := Lib.hid ((show Owns w2 (w1.heap.size + 1) 5 .u8 v2 (enc run.length ++ []) by simpa [encs] using ho2).mono (by have := HB1.out.size; omega))
  have hel : (enc run.length).length ≤ 10 := enc_len10 (by unfold U64; omega)
  clear hb2 hb12 ho2 hun HB1
  go_wp2
  go_loopw [1, 7, 8, 9, 10] (fun rv ov lv _ _ wr => ∃ (rest : List CC) (done last : List Nat) (ar : Option Addr) (n capr : Nat), rv = .slice ar n capr ∧ n = rest.length ∧ CellsAt w (fun j => j < w.heap.size) (.slice ar n capr) (rest.map toIC) ∧ (∀ c ∈ rest, okC c) ∧ n ≤ 64 ∧
      items [] run = done ++ items last rest ∧ Owns wr w.heap.size 5 .u8 ov (enc run.length ++ done) ∧ At wr (fun j => j < w.heap.size) .u8 lv last ∧ last.length ≤ 64 ∧ Below w.heap.size w wr)
    (fun rv _ _ _ _ _ => lenOf rv)
  case atStart => exact ⟨run, [], [], ao, run.length, cap, rfl, rfl, HR.out, HOK.out, hl, rfl, HO2.out, ⟨reads_none _ _, .inl rfl⟩, by simp, HB2.out⟩
  case round =>
    clear HO2 HB2 HR
    obtain ⟨rest, done, last, ar, n, capr, rfl, hn, hca, hokr, hn64, hit, ho, hat, hll, hb⟩ := hrel
    have HN := Lib.hid hn
    have HCA := Lib.hid hca
    have HOKR := Lib.hid hokr
    have HIT := Lib.hid hit
    have HO := Lib.hid ho
    have HAT := Lib.hid hat
    have HB := Lib.hid hb
    obtain ⟨aol, capl, rfl, _, _, _⟩ := hat.reads.val
    have hdl : done.length ≤ 6400 := by
      have := HITL.out
      rw [hit, List.length_append] at this
      omega
    have hol : (enc run.length ++ done).length ≤ 6500 := by rw [List.length_append]; omega
    clear hca hokr hit ho hat hb hdl hn
    match rest, HN, HCA, HOKR, HIT with
    | [], HN, HCA, HOKR, HIT =>
      have hn0 : n = 0 := HN.out
      subst hn0
      have HE : Hid (enc run.length ++ done = rbytes run) := Lib.hid (by
        unfold rbytes
        rw [HIT.out, items_nil, List.append_nil])
      have hpos := rbytes_pos run
      rw [← HE.out] at hpos
      generalize enc run.length ++ done = own at HO HE hol hpos
      obtain ⟨aoo, capo, rfl, _, _, _⟩ := HO.out.reads.val
      have HRB2 : Hid (Reads wr .u8 (.slice aob b.length capb) b) := Lib.hid (HRB.out.below HB.out (Nat.le_refl _))
      have hal : Below wr.heap.size wr (wr.alloc (.cells #[.slice aob b.length capb, .slice aoo own.length capo] 22)) := (Below.refl _ _).alloc (Nat.le_refl _) _
      have HAL := Lib.hid hal
      clear hal HN HCA HAT
      go_wp2_with fail
      refine (concat_any _ [b, own] (b ++ own) _ _ (txs_two wr _ _ _ b own HRB2.out HO.out.reads) (by simp) (by rw [List.length_append]; omega) (by rw [List.length_append]; omega) (by simp)).mono ?_
      rintro e w4 ⟨v4, rfl, ho4, hb4⟩
      have HO4 : Hid (Owns w4 w.heap.size 5 .u8 v4 (b ++ own)) := Lib.hid (ho4.mono (by have := HB.out.size; simp; omega))
      have HB4 : Hid (Below w.heap.size w w4) := Lib.hid ((HB.out.alloc HB.out.size _).trans (hb4.mono (by have := HB.out.size; simp; omega)))
      clear ho4 hb4
      go_wp2
      go_ret2
      exact ⟨_, rfl, by rw [← HE.out]; exact HO4.out, HB4.out⟩
    | (k, d) :: r, HN, HCA, HOKR, HIT =>
      obtain ⟨hk3, hd64, hdn, _⟩ := HOKR.out (k, d) (by simp)
      simp only at hk3 hd64 hdn
      obtain ⟨bb, off, x, rfl, hbb, _, c0, c1, hatx⟩ := HCA.out.at (i := 0) (by simp)
      have hgd : (((k, d) :: r).map toIC).getD 0 (0, []) = ((k : Int), d) := rfl
      rw [hgd] at c0 hatx
      simp only [Nat.zero_mul, Nat.add_zero] at c0 c1 hatx
      obtain ⟨aox, capx, rfl, _, _, _⟩ := hatx.reads.val
      have d0 := (HB.out.cell (p := ⟨bb, off, none⟩) hbb).trans c0
      have d1 := (HB.out.cell (p := ⟨bb, off + 1, none⟩) hbb).trans c1
      have HATX := Lib.hid hatx
      have HNR : Hid (n = r.length + 1) := HN
      have h0n : (0 : Int) < (n : Int) := by have := HNR.out; omega
      have HDN := Lib.hid hdn
      obtain ⟨W, hW⟩ : ∃ W, W = wr.alloc (.cells #[.int .i64 (k : Int), .slice aox d.length capx] 24) := ⟨_, rfl⟩
      have hal : Below wr.heap.size wr W := by rw [hW]; exact (Below.refl _ _).alloc (Nat.le_refl _) _
      have hbox : W.heap[wr.heap.size]? = some (.cells #[.int .i64 (k : Int), .slice aox d.length capx] 24 (0, 0)) := by rw [hW]; exact heap_alloc_new _ _
      have HBW := Lib.hid (HB.out.trans (hal.mono HB.out.size))
      have HOW := Lib.hid (HO.out.below hal (Nat.le_refl _))
      have HOLT := Lib.hid HO.out.lt
      have HATW := Lib.hid (HAT.out.old hal)
      have HBOX := Lib.hid hbox
      have HW := Lib.hid hW
      have HSZ : Hid (w.heap.size ≤ wr.heap.size) := Lib.hid HB.out.size
      clear hatx c0 c1 hal hbox hW HB HO HAT HN hdn
      by_cases hk1 : k = 1
      · subst hk1
        have HW1 : Hid (W = wr.alloc (.cells #[.int .i64 1, .slice aox d.length capx] 24)) := HW
        have hb2 : W.heap[wr.heap.size]? = some (.cells #[.int .i64 1, .slice aox d.length capx] 24 (0, 0)) := HBOX.out
        rw [HW1.out] at hb2
        obtain ⟨x0, x1, _, _⟩ := blk2 hb2
        clear hb2
        go_wp2_with fail
        rw [← HW1.out]
        refine (dataItem_any _ _ last d W HATW.out.reads (HATX.out.keep (kept_below HBW.out)).reads hll hd64).mono ?_
        rintro e w3 ⟨v3, rfl, ho3, hb3⟩
        have HB3 := Lib.hid (HBW.out.trans (hb3.mono HBW.out.size))
        have HO3 := Lib.hid (HOW.out.below hb3 (Nat.le_refl _))
        have HBX3 := Lib.hid ((hb3.block _ (Array.getElem?_eq_some_iff.1 HBOX.out).1).trans HBOX.out)
        have HDI := Lib.hid ho3.reads
        have hdil := ditem_len (last := last) hd64
        have HIT2 : Hid (items [] run = (done ++ ditem last d) ++ items d r) := Lib.hid (by
          rw [HIT.out, items_data]
          unfold ditem
          simp [List.append_assoc])
        clear ho3 hb3 HBW HOW HATW HBOX d0 d1 x0 x1
        generalize ditem last d = it at HDI hdil HIT2
        obtain ⟨ao3, cap3, rfl, _, _, _⟩ := HDI.out.val
        go_wp2_with (at_builtin; go_must (refine wpList_app _ rfl _ _ 22 rfl w.heap.size 5 (.int .u8 0) 1 Try.underlying22 Try.info5 rfl .u8 _ (enc run.length ++ done) rfl HO3.out _ it rfl HDI.out (by decide) ?c1 ?c3 ?_))
        case c1 => omega
        case c3 => exact HB3.out.size
        intro v4 w4 ho4 hg4
        have HB4 := Lib.hid (HB3.out.grown hg4 HB3.out.size (fun j hj => (HO3.out.lt j hj).1))
        have HO4 : Hid (Owns w4 w.heap.size 5 .u8 v4 (enc run.length ++ (done ++ it))) := Lib.hid (by simpa [List.append_assoc] using ho4)
        have hb4 : w4.heap[wr.heap.size]? = some (.cells #[.int .i64 1, .slice aox d.length capx] 24 (0, 0)) :=
          (hg4.block _ (Array.getElem?_eq_some_iff.1 HBX3.out).1 (fun e => by have := (HOLT.out _ e.symm).2; omega)).trans HBX3.out
        obtain ⟨y0, y1, _, _⟩ := blk2 hb4
        have hsl : ∀ W, (Instr.slice 27 (.slice (some ⟨bb, off, none⟩) n capr) (some (.int .i64 1)) none none).run Try.prog W = .ok (.slice (if capr = 1 then some ⟨bb, off, none⟩ else (some ⟨bb, off, none⟩ : Option Addr).map fun x => x.add (1 * 2)) (n - 1) (capr - 1)) W := fun W => slice_tailC W _ n capr 1 (by have := HNR.out; omega)
        have HTL := Lib.hid (HCA.out.tail (m := 1) (by simp))
        generalize (if capr = 1 then some ⟨bb, off, none⟩ else (some ⟨bb, off, none⟩ : Option Addr).map fun x => x.add (1 * 2)) = atl at hsl HTL
        have HAT4 := Lib.hid (HATX.out.keep (kept_below HB4.out))
        clear ho4 hg4 hb4 HB3 HO3 HBX3 HDI HOLT
        go_wp2
        go_roundw
        case rel => exact ⟨r, done ++ it, d, atl, n - 1, capr - 1, by go_num, by have := HNR.out; omega, HTL.out, fun c hc => HOKR.out c (by simp [hc]), by omega, HIT2.out, HO4.out, HAT4.out, hd64, HB4.out⟩
        case measure => have := HNR.out; simp [lenOf]; omega
      · have hk1i : ((k : Int) == 1) = false := by rw [beq_eq_false_iff_ne]; omega
        have hb2 := HBOX.out
        rw [HW.out] at hb2
        obtain ⟨x0, x1, _, _⟩ := blk2 hb2
        clear hb2
        have hlead : lead ((((k, d) :: r).getD 0 (0, [])).1) ((k, d) :: r) = lead k r + 1 := by
          show lead k ((k, d) :: r) = _
          conv => lhs; unfold lead
          rw [if_pos rfl]
        have hle := lead_le k r
        go_wp2_with fail
        rw [← HW.out]
        refine (alikeCells_any _ ((k, d) :: r) W _ (HCA.out.keep (kept_below HBW.out)) (by simp) (by have := HNR.out; simp; omega)).mono ?_
        rw [hlead]
        rintro e w3 ⟨rfl, hb3⟩
        have HB3 := Lib.hid (HBW.out.trans (hb3.mono HBW.out.size))
        have HO3 := Lib.hid (HOW.out.below hb3 (Nat.le_refl _))
        have HAT3 := Lib.hid (HATW.out.old hb3)
        have HBX3 := Lib.hid ((hb3.block _ (Array.getElem?_eq_some_iff.1 HBOX.out).1).trans HBOX.out)
        have HIT2 : Hid (items [] run = (done ++ (enc (lead k r + 1) ++ enc k)) ++ items last (r.drop (lead k r))) := Lib.hid (by
          rw [HIT.out, items_row _ _ _ _ hk1]
          simp [List.append_assoc])
        have HTL := Lib.hid (HCA.out.tail (m := lead k r + 1) (by simp; omega))
        have HRD : Hid ((((k, d) :: r).map toIC).drop (lead k r + 1) = (r.drop (lead k r)).map toIC) := Lib.hid (by rw [List.map_cons, List.drop_succ_cons, List.map_drop])
        have HRL : Hid ((r.drop (lead k r)).length = n - (lead k r + 1)) := Lib.hid (by have := HNR.out; rw [List.length_drop]; omega)
        obtain ⟨m, hm⟩ : ∃ m, m = lead k r + 1 := ⟨_, rfl⟩
        rw [← hm] at HTL HIT2 HRD HRL ⊢
        have hmn : m ≤ n := by have := HNR.out; omega
        have hm0 : 0 < m := by omega
        obtain ⟨r2, hr2⟩ : ∃ r2, r2 = r.drop (lead k r) := ⟨_, rfl⟩
        rw [← hr2] at HIT2 HRD HRL
        have HOKR2 : Hid (∀ c ∈ r2, okC c) := Lib.hid (fun c hc => HOKR.out c (by rw [hr2] at hc; simp [List.mem_of_mem_drop hc]))
        clear hm hr2 hle hlead hb3 HBW HOW HATW HBOX d0 d1 x0 x1 hk1
        obtain ⟨y0, y1, _, _⟩ := blk2 HBX3.out
        have hw1 : IntKind.u64.wrap (m : Int) = (m : Int) := IntWalk.u64_in _ (by omega)
        have hw2 : IntKind.u64.wrap (k : Int) = (k : Int) := IntWalk.u64_in _ (by omega)
        have hun : ∀ x ∈ [m, k], U64 x := by
          intro x hx
          simp only [List.mem_cons, List.not_mem_nil, or_false] at hx
          unfold U64
          omega
        have HUN := Lib.hid hun
        have HLIT := Lib.hid (reads_marked w3 75 .u64 [m, k] #[.int .u64 (m : Int), .int .u64 (k : Int)] (0, 0) rfl (by simp [maxLen]))
        have hal : Below w3.heap.size w3 (w3.alloc (.cells #[.int .u64 (m : Int), .int .u64 (k : Int)] 75)) := (Below.refl _ _).alloc (Nat.le_refl _) _
        have HAL := Lib.hid hal
        clear hun hal
        go_wp2_with fail
        refine (put_any _ _ [] [m, k] _ (reads_none _ _) HLIT.out HUN.out (by simp)).mono ?_
        rintro e w5 ⟨v5, rfl, ho5, hb5⟩
        have hb35 := HAL.out.trans (hb5.mono HAL.out.size)
        have HB5 := Lib.hid (HB3.out.trans (hb35.mono HB3.out.size))
        have HO5 := Lib.hid (HO3.out.below hb35 (Nat.le_refl _))
        have HAT5 := Lib.hid (HAT3.out.old hb35)
        have HDI : Hid (Reads w5 .u8 v5 (enc m ++ enc k)) := Lib.hid (by simpa [encs] using ho5.reads)
        have hdil : (enc m ++ enc k).length ≤ 20 := by
          have e1 := enc_len10 (n := m) (by unfold U64; omega)
          have e2 := enc_len10 (n := k) (by unfold U64; omega)
          rw [List.length_append]; omega
        clear ho5 hb5 hb35 HB3 HO3 HAT3 HAL HLIT HUN HBX3 y0 y1
        generalize enc m ++ enc k = it at HDI hdil HIT2
        obtain ⟨ao3, cap3, rfl, _, _, _⟩ := HDI.out.val
        go_wp2_with (at_builtin; go_must (refine wpList_app _ rfl _ _ 22 rfl w.heap.size 5 (.int .u8 0) 1 Try.underlying22 Try.info5 rfl .u8 _ (enc run.length ++ done) rfl HO5.out _ it rfl HDI.out (by decide) ?c5 ?c6 ?_))
        case c5 => omega
        case c6 => exact HB5.out.size
        intro v4 w4 ho4 hg4
        have HB4 := Lib.hid (HB5.out.grown hg4 HB5.out.size (fun j hj => (HO5.out.lt j hj).1))
        have HO4 : Hid (Owns w4 w.heap.size 5 .u8 v4 (enc run.length ++ (done ++ it))) := Lib.hid (by simpa [List.append_assoc] using ho4)
        have hk4 : Kept (fun j => j < w.heap.size) w5 w4 := ⟨hg4.size, fun j hj hlt => hg4.block j hj (fun e => by have := (HO5.out.lt j e.symm).1; omega)⟩
        have HAT4 := Lib.hid (HAT5.out.keep hk4)
        have hsl := fun W => slice_tailC W (some ⟨bb, off, none⟩) n capr m hmn
        have HCD : Hid (CellsAt w (fun j => j < w.heap.size) _ (r2.map toIC)) := Lib.hid (by have := HTL.out; rw [HRD.out] at this; exact this)
        generalize (if capr = m then some ⟨bb, off, none⟩ else (some ⟨bb, off, none⟩ : Option Addr).map fun x => x.add (m * 2)) = atl at hsl HCD
        clear ho4 hg4 hk4 HB5 HO5 HAT5 HDI HOLT HTL HRD
        have hmi : (m : Int) ≤ (n : Int) := by omega
        go_wp2
        go_roundw
        case rel => exact ⟨r2, done ++ it, last, atl, n - m, capr - m, by go_num, HRL.out.symm, HCD.out, HOKR2.out, by omega, HIT2.out, HO4.out, HAT4.out, hll, HB4.out⟩
        case measure => simp [lenOf]; omega

end Go.Proofs.Ytbihammpdjkonaa
