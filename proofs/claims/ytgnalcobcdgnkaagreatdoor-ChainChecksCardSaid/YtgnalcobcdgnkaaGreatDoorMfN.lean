/- The law's own Document and PartOf; the document's Same. -/
import Derived.Test.YtgnalcobcdgnkaaGreatDoorQe
import Derived.Test.YtgnalcobcdgnkaaGreatDoorQf
import Derived.Test.YtgnalcobcdgnkaaGreatDoorQg
namespace Go.Proofs.YtgnalcobcdgnkaaGreatDoor
open Go.RowKit

theorem fold_shift (o : Nat) : ∀ (l : List Value) (k : Nat) (Z : Array Value), List.foldl (fun (cs : Array Value) (x : Value × Nat) => cs.setIfInBounds (o + x.2) x.1) Z (l.zipIdx k) = List.foldl (fun (cs : Array Value) (x : Value × Nat) => cs.setIfInBounds x.2 x.1) Z (l.zipIdx (o + k))
  | [], _, _ => rfl
  | v :: r, k, Z => by
    rw [List.zipIdx_cons, List.zipIdx_cons, List.foldl_cons, List.foldl_cons, fold_shift o r (k + 1)]
    rfl
theorem fold_part (f mm ss : Int) {sum : List Nat} (h : sum.length = 32) : List.foldl (fun (cs : Array Value) (x : Value × Nat) => cs.setIfInBounds (3 + x.2) x.1) #[.int .i64 f, .int .i64 mm, .int .i64 ss, .int .u8 0, .int .u8 0, .int .u8 0, .int .u8 0, .int .u8 0, .int .u8 0, .int .u8 0, .int .u8 0, .int .u8 0, .int .u8 0, .int .u8 0, .int .u8 0, .int .u8 0, .int .u8 0, .int .u8 0, .int .u8 0, .int .u8 0, .int .u8 0, .int .u8 0, .int .u8 0, .int .u8 0, .int .u8 0, .int .u8 0, .int .u8 0, .int .u8 0, .int .u8 0, .int .u8 0, .int .u8 0, .int .u8 0, .int .u8 0, .int .u8 0, .int .u8 0] (vals .u8 sum).zipIdx = (ptRow (f, mm, ss, sum)).toArray := by
  rw [fold_shift 3 (vals .u8 sum) 0]
  apply Array.toList_inj.1
  rw [fold_put_aux _ _ _ (by rw [vals_length, h]; simp), vals_length, h]
  unfold ptRow
  simp
theorem fold_man (a b c d : Int) {prev : List Nat} (h : prev.length = 32) : List.foldl (fun (cs : Array Value) (x : Value × Nat) => cs.setIfInBounds (4 + x.2) x.1) #[.int .i64 a, .int .i64 b, .int .i64 c, .int .i64 d, .int .u8 0, .int .u8 0, .int .u8 0, .int .u8 0, .int .u8 0, .int .u8 0, .int .u8 0, .int .u8 0, .int .u8 0, .int .u8 0, .int .u8 0, .int .u8 0, .int .u8 0, .int .u8 0, .int .u8 0, .int .u8 0, .int .u8 0, .int .u8 0, .int .u8 0, .int .u8 0, .int .u8 0, .int .u8 0, .int .u8 0, .int .u8 0, .int .u8 0, .int .u8 0, .int .u8 0, .int .u8 0, .int .u8 0, .int .u8 0, .int .u8 0, .int .u8 0, .slice none 0 0] (vals .u8 prev).zipIdx = (mfRow ⟨a, b, c, d, prev, []⟩ (.slice none 0 0)).toArray := by
  rw [fold_shift 4 (vals .u8 prev) 0]
  apply Array.toList_inj.1
  rw [fold_put_aux _ _ _ (by rw [vals_length, h]; simp), vals_length, h]
  unfold mfRow
  simp
theorem pt0_cells : (ptRow (0, 0, 0, zero32)).toArray = #[.int .i64 0, .int .i64 0, .int .i64 0, .int .u8 0, .int .u8 0, .int .u8 0, .int .u8 0, .int .u8 0, .int .u8 0, .int .u8 0, .int .u8 0, .int .u8 0, .int .u8 0, .int .u8 0, .int .u8 0, .int .u8 0, .int .u8 0, .int .u8 0, .int .u8 0, .int .u8 0, .int .u8 0, .int .u8 0, .int .u8 0, .int .u8 0, .int .u8 0, .int .u8 0, .int .u8 0, .int .u8 0, .int .u8 0, .int .u8 0, .int .u8 0, .int .u8 0, .int .u8 0, .int .u8 0, .int .u8 0] := by rfl

set_option maxHeartbeats 4000000 in
set_option maxRecDepth 100000 in
theorem partOf_any (p : PT) (w : World) (hd : Dg p.2.2.2) :
    Calls Tryz.prog 29 #[.agg (ptRow p).toArray] w fun e w' => e = .returned (.agg (ptRow p).toArray) ∧ Below w.heap.size w w' := by
  obtain ⟨W1, hW1⟩ : ∃ W1, W1 = w.alloc (.cells (ptRow p).toArray 67) := ⟨_, rfl⟩
  have hb1 : Below w.heap.size w W1 := by rw [hW1]; exact (Below.refl _ _).alloc (Nat.le_refl _) _
  have hx1 : PB W1 w.heap.size p 67 := by rw [hW1]; exact pb_new _ _ _
  obtain ⟨W2, hW2⟩ : ∃ W2, W2 = W1.alloc (.cells (ptRow (0, 0, 0, zero32)).toArray 73) := ⟨_, rfl⟩
  have hb2 : Below W1.heap.size W1 W2 := by rw [hW2]; exact (Below.refl _ _).alloc (Nat.le_refl _) _
  have hs1 : W1.heap.size = w.heap.size + 1 := by rw [hW1]; simp
  have hx2 := hx1.old hb2
  have hz2 : W2.heap[w.heap.size + 1]? = some (.cells (ptRow (0, 0, 0, zero32)).toArray 73 (0, 0)) := by rw [hW2, ← hs1]; exact heap_alloc_new _ _
  obtain ⟨x0, x1, x2⟩ := hx2.x
  have HSUM := Lib.hid hx2.sum
  have HZ2 := Lib.hid hz2
  have HB2 : Hid (Below w.heap.size w W2) := Lib.hid (hb1.trans (hb2.mono hb1.size))
  have HDS : Hid ((Tryz.prog.info? 34).map (·.size) = some (vals .u8 p.2.2.2).length) := Lib.hid (by rw [vals_length, hd.1]; exact Tryz.sizeDG)
  have HSZ : Hid ((Tryz.prog.info? 73).map (·.size) = some (ptRow p).toArray.size) := Lib.hid (by rw [ptRow_size hd]; exact Tryz.sizePTD)
  have HS2 : Hid ((ptRow (0, 0, 0, zero32)).toArray.size = (ptRow p).toArray.size) := Lib.hid (by rw [ptRow_size dg_zero, ptRow_size hd])
  have HAL := Lib.hid (all_one (ptRow_one p))
  have HDG := Lib.hid hd
  have hv32 : (vals .u8 p.2.2.2).length = 32 := by rw [vals_length, hd.1]
  have hW2' := hW2
  rw [hW1, pt0_cells] at hW2'
  obtain ⟨A, hA⟩ : ∃ A, A = (ptRow p).toArray := ⟨_, rfl⟩
  rw [← hA] at hW2' HSZ HS2 HAL ⊢
  have HA := Lib.hid hA
  have HW2 := Lib.hid hW2'
  obtain ⟨f, mm, ss, sum⟩ := p
  simp only at x0 x1 x2 hv32
  have HFO := Lib.hid (fold_part f mm ss (sum := sum) HDG.out.1)
  clear hb1 hx1 hW1 hW2 hb2 hs1 hx2 hz2 hA hd
  rw [hW2'] at x0 x1 x2
  clear hW2'
  go_enter Tryz.func29, Tryz.ntmps29
  go_wp2_with (first
    | ((with_reducible show wpList _ _ _ (Oper.mk (some 10) _ _ _ _ _ :: _) _ _); rw [← HW2.out]; go_must (refine wpList_load_at rfl 34 (.tmp 9) rfl w.heap.size 3 rfl (vals .u8 sum) _ HSUM.out Tryz.underlying34 rfl HDS.out ?_))
    | ((with_reducible show wpList _ _ _ (Oper.mk none _ _ _ _ _ :: _) _ _); rw [HFO.out, ← HA.out]; go_must (refine wpList_store_box rfl 73 (.tmp 2) (.tmp 11) rfl (w.heap.size + 1) A rfl rfl _ _ HZ2.out HSZ.out HS2.out HAL.out ?_)))
  intro W3 hq3 hb3 _
  have HQ3 := Lib.hid hq3
  have HB3 : Hid (Below w.heap.size w W3) := Lib.hid (HB2.out.trans (hb3.mono (Nat.le_succ _)))
  clear hq3 hb3 x0 x1 x2
  go_wp2
  refine bodyPost_ret (v := .agg A) (results_cell_row (p := 2) rfl _ _ (w.heap.size + 1) _ _ _ _ rfl HQ3.out Tryz.underlying73 rfl HSZ.out) rfl ?_
  exact ⟨rfl, HB3.out⟩

theorem step_appRecM {P : Program} {w : World} {ops : Array Oper} {o : Oper} {a : Act} {K : Act → World → Prop} {Q : Exit → Act → World → Prop} {E : Prop} (hgd : o.guard = none) (s x : Operand) (t : TypeId)
    (ho : o.op = .call { callee := .builtin .append, args := #[s, x], argTypes := #[t, t] })
    (base : Nat) (e : TypeId) (z : Value) (k bytes : Nat) (ht : P.underlying t = some (.slice e)) (hinfo : (P.info? e).map (fun i => (i.zero, i.size, i.bytes)) = some (some z, k, bytes)) (hzs : z.cells.size = k) (hk0 : 0 < k)
    (v : Value) (rows : List (List Value)) (hs : a.eval s = v) (hown : RecOwn w base e k v rows)
    (r : List Value) (hr : r.length = k) (h1c : ∀ u ∈ r, u.oneCell' = true) (ad : Addr) (hx : a.eval x = .slice (some ad) 1 1) (hcell : ∀ j u, r[j]? = some u → w.cell? (ad.add j) = some u)
    (hlen : rows.length + 1 ≤ maxLen) (hbytes : (rows.length + 1) * bytes ≤ 140737488355328) (hbase : base ≤ w.heap.size)
    (h : ∀ g cap w', RecOwn w' base e k (.slice (some ⟨g, 0, none⟩) (rows.length + 1) cap) (rows ++ [r]) → w.grownBy w' v.ownBlock → (v.ownBlock = some g ∨ g = w.heap.size) → K (a.put o.dst (.slice (some ⟨g, 0, none⟩) (rows.length + 1) cap)) w') :
    if Region.wanted o (yielded ops a.tmps) = true then Oper.wp P o a w K Q else E := by
  obtain ⟨i, hi, hz, hsz, hby⟩ := info_parts hinfo
  refine step_append_lies w hgd s x t ho base e i z k bytes ht hi hz hsz hby hzs hk0 v rows.length rows.flatten hs hown.2 ad 1 1 r hx (by rw [hr]; omega) hcell h1c (by decide) hlen hbytes hbase _ rfl ?_
  intro g cap w' ho' hg hloc _
  refine h g cap w' ⟨?_, ?_⟩ hg hloc
  · intro y hy
    rcases List.mem_append.1 hy with hy | hy
    · exact hown.1 y hy
    · obtain rfl : y = r := by simpa using hy
      exact hr
  · rw [List.length_append, List.flatten_append]
    simpa using ho'

/-- How far Document has come. -/
structure DcL (w wr : World) (m : MF) (bs : Nat) (lo : Option Addr) (lc k : Nat) : Prop where
  res : MB wr (w.heap.size + 1) mf0 (.slice none 0 0) 54
  out : MB wr (w.heap.size + 2) m (.slice lo k lc) 54
  rows : RecOwn wr bs 73 35 (.slice lo k lc) ((m.ps.take k).map ptRow)
  b : Below w.heap.size w wr
  pb : w.heap.size + 2 < bs
  sz : bs ≤ wr.heap.size
theorem Tryz.infoPartN : (Tryz.prog.info? 73).map (fun i => (i.zero, i.size, i.bytes)) = some (some (.agg (ptRow (0, 0, 0, zero32)).toArray), 35, 56) := by kernel_rfl

set_option maxHeartbeats 8000000 in
set_option maxRecDepth 100000 in
theorem document15_any (m : MF) (v : Value) (w : World) (B : Nat → Prop) (h : PsAt w B v m.ps) (hd : Dg m.prev) (hl : m.ps.length ≤ 1000000) :
    Calls Tryz.prog 18 #[.agg (mfRow m v).toArray] w fun e w' => ∃ ao cap, e = .returned (.agg (mfRow m (.slice ao m.ps.length cap)).toArray) ∧ PsAt w' (fun j => w.heap.size ≤ j) (.slice ao m.ps.length cap) m.ps ∧ Below w.heap.size w w' := by
  obtain ⟨ao, cap, rfl, l1, m1, _⟩ := h.val
  obtain ⟨n, hn⟩ : ∃ n, n = m.ps.length := ⟨_, rfl⟩
  rw [← hn] at h ⊢
  replace h : PsAt w (fun j => j < w.heap.size) (.slice ao n cap) m.ps := h.mono fun j hj _ => hj
  obtain ⟨W1, hW1⟩ : ∃ W1, W1 = w.alloc (.cells (mfRow m (.slice ao n cap)).toArray 43) := ⟨_, rfl⟩
  have hb1 : Below w.heap.size w W1 := by rw [hW1]; exact (Below.refl _ _).alloc (Nat.le_refl _) _
  have hs1 : W1.heap.size = w.heap.size + 1 := by rw [hW1]; simp
  have hx1 : MB W1 w.heap.size m (.slice ao n cap) 43 := by rw [hW1]; exact mb_new _ _ _ _
  obtain ⟨W2, hW2⟩ : ∃ W2, W2 = W1.alloc (.cells (mfRow mf0 (.slice none 0 0)).toArray 54) := ⟨_, rfl⟩
  have hb2 : Below W1.heap.size W1 W2 := by rw [hW2]; exact (Below.refl _ _).alloc (Nat.le_refl _) _
  have hs2 : W2.heap.size = w.heap.size + 2 := by rw [hW2]; simp [hs1]
  have hr2 : MB W2 (w.heap.size + 1) mf0 (.slice none 0 0) 54 := by rw [hW2, ← hs1]; exact mb_new _ _ _ _
  have hx2 := hx1.old hb2
  obtain ⟨x0, x1, x2, x3, x36⟩ := hx2.x hd
  have HPV := Lib.hid hx2.prev
  have HDS : Hid ((Tryz.prog.info? 34).map (·.size) = some (vals .u8 m.prev).length) := Lib.hid (by rw [vals_length, hd.1]; exact Tryz.sizeDG)
  have HMS : Hid ((Tryz.prog.info? 54).map (·.size) = some (mfRow m (.slice none 0 0)).toArray.size) := Lib.hid (by rw [mfRow_size hd]; exact Tryz.sizeMFD)
  have HMX : Hid (Tryz.prog.follows .mixedOrders = true) := Lib.hid (by kernel_rfl)
  have HD := Lib.hid hd
  have HN := Lib.hid hn
  have HNL : Hid (n ≤ 1000000) := Lib.hid (by rw [hn]; exact hl)
  have hv32 : (vals .u8 m.prev).length = 32 := by rw [vals_length, hd.1]
  have HFO := Lib.hid (fold_man m.num m.fro m.upto m.trim (prev := m.prev) hd.1)
  have HMQ : Hid ((mfRow ⟨m.num, m.fro, m.upto, m.trim, m.prev, []⟩ (.slice none 0 0)).toArray = (mfRow m (.slice none 0 0)).toArray) := Lib.hid rfl
  have HR := Lib.hid ((h.old hb1).old hb2)
  have HB2 : Hid (Below w.heap.size w W2) := Lib.hid (hb1.trans (hb2.mono hb1.size))
  have HX2 := Lib.hid hx2
  have HR2 := Lib.hid hr2
  have HS2 := Lib.hid hs2
  have hW2' := hW2
  rw [hW1, mf0_cells] at hW2'
  obtain ⟨A, hA⟩ : ∃ A, A = (mfRow m (.slice ao n cap)).toArray := ⟨_, rfl⟩
  rw [← hA] at hW2' ⊢
  have HW2 := Lib.hid hW2'
  clear hb1 hx1 hW1 hW2 hb2 hs1 hx2 hr2 hs2 hA hd h l1 m1 hn hl
  rw [hW2'] at x0 x1 x2 x3 x36
  clear hW2'
  go_enter Tryz.func18, Tryz.ntmps18
  go_wp2_with (first
    | ((with_reducible show wpList _ _ _ (Oper.mk (some 15) _ _ _ _ _ :: _) _ _); rw [← HW2.out]; go_must (refine wpList_load_at rfl 34 (.tmp 14) rfl w.heap.size 4 rfl (vals .u8 m.prev) _ HPV.out Tryz.underlying34 rfl HDS.out ?_))
    | ((with_reducible show wpList _ _ _ (Oper.mk none _ _ _ _ _ :: _) _ _); rw [HFO.out, HMQ.out]; go_must (refine wpList_store_new rfl 54 (.tmp 3) (.tmp 16) rfl W2 _ (mfRow m (.slice none 0 0)).toArray rfl rfl _ HMS.out (by rw [mfRow_size HD.out]; rfl) (all_one (mfRow_one _ rfl)) ?_)))
  intro W3 hq3 hb3 hs3
  rw [HS2.out] at hq3 hb3 hs3 ⊢
  clear x0 x1 x2 x3 x36
  have hq3 : MB W3 (w.heap.size + 2) m (.slice none 0 0) 54 := hq3
  have HB3 : Hid (Below w.heap.size w W3) := Lib.hid (HB2.out.trans (hb3.mono (by omega)))
  have HDL : Hid (DcL w W3 m W3.heap.size none 0 0) := Lib.hid ⟨HR2.out.low hb3 (by omega), hq3, by rw [List.take_zero]; exact recOwn_nil _ _ _ _, HB3.out, by omega, Nat.le_refl _⟩
  have HR3 := Lib.hid (HR.out.keep ⟨Nat.le_trans (Nat.le_of_eq HS2.out) (by omega), fun j hj _ => hb3.block j (by have := HS2.out; omega)⟩)
  obtain ⟨_, _, _, _, x36⟩ := (HX2.out.low hb3 (by omega)).x HD.out
  have HSZ3 := Lib.hid hs3
  obtain ⟨bs, hbs⟩ : ∃ bs, bs = W3.heap.size := ⟨_, rfl⟩
  rw [← hbs] at HDL
  have HBS := Lib.hid hbs
  have hn6 : (n : Int) ≤ 1000000 := by have := HNL.out; omega
  clear hq3 hb3 hs3 hbs
  go_wp2
  clear x36
  go_loopw [5, 20] (fun _ iv wr => ∃ (k : Nat) (lo : Option Addr) (lc : Nat), k ≤ n ∧ iv = .int .i64 (k : Int) ∧ DcL w wr m bs lo lc k ∧ PsAt wr (fun j => j < w.heap.size) (.slice ao n cap) m.ps)
    (fun _ iv _ => n - (intOf iv).toNat)
  case atStart => exact ⟨0, none, 0, Nat.zero_le _, rfl, HDL.out, HR3.out⟩
  case round =>
    obtain ⟨k, lo, lc, hk, rfl, hdl, hps⟩ := hrel
    have HL := Lib.hid hdl
    by_cases hlt : k < n
    rotate_left
    · obtain rfl : k = n := by omega
      have hps2 : PsAt wr (fun j => bs ≤ j) (.slice lo k lc) m.ps := ⟨by
        have := hdl.rows.at'.mono (C := fun j => bs ≤ j) fun j _ hj => hj.2
        rw [HN.out, List.take_length] at this
        rwa [HN.out], HR.out.2⟩
      have HP2 := Lib.hid hps2
      have HMK : Hid ((Tryz.prog.info? 54).map (·.size) = some (mfRow m (.slice lo k lc)).toArray.size) := Lib.hid (by rw [mfRow_size HD.out]; exact Tryz.sizeMFD)
      have HSQ : Hid ((mfRow mf0 (.slice none 0 0)).toArray.size = (mfRow m (.slice lo k lc)).toArray.size) := Lib.hid (by rw [mfRow_size dg_zero, mfRow_size HD.out])
      clear hdl hps hps2
      go_wp2_with (first
        | ((with_reducible show wpList _ _ _ (Oper.mk (some 32) _ _ _ _ _ :: _) _ _); go_must (refine wpList_load_row rfl 54 (.tmp 3) rfl (w.heap.size + 2) rfl _ (mfRow m (.slice lo k lc)).toArray _ _ HL.out.out Tryz.underlying54 rfl HMK.out ?_))
        | ((with_reducible show wpList _ _ _ (Oper.mk none _ _ _ _ _ :: _) _ _); go_must (refine wpList_store_box rfl 54 (.tmp 2) (.tmp 32) rfl (w.heap.size + 1) (mfRow m (.slice lo k lc)).toArray rfl rfl _ _ HL.out.res HMK.out HSQ.out (all_one (mfRow_one _ rfl)) ?_)))
      intro WE hqe hbe hoe
      have HQE := Lib.hid hqe
      have HBE : Hid (Below w.heap.size w WE) := Lib.hid (HL.out.b.trans (hbe.mono (Nat.le_succ _)))
      have HPE : Hid (PsAt WE (fun j => w.heap.size ≤ j) (.slice lo k lc) m.ps) := Lib.hid ((HP2.out.keep ⟨hbe.size, fun j hj hB => hoe j (by have := HL.out.pb; omega)⟩).mono fun j _ hB => by have := HL.out.pb; omega)
      clear hqe hbe hoe
      go_wp2
      refine bodyPost_ret (v := .agg (mfRow m (.slice lo k lc)).toArray) (results_cell_row (p := 2) rfl _ _ (w.heap.size + 1) _ _ _ _ rfl HQE.out Tryz.underlying54 rfl HMK.out) rfl ?_
      exact ⟨lo, lc, rfl, HPE.out, HBE.out⟩
    have hltp : k < m.ps.length := by rw [← HN.out]; exact hlt
    obtain ⟨b, off, rfl, _, hblt, hdg, hcell⟩ := hps.at hltp
    have HTK := Lib.hid (take_snocP hltp)
    generalize m.ps.getD k (0, 0, 0, []) = p at hdg hcell HTK
    have HPS := Lib.hid hps
    have HLEN : Hid ((Tryz.prog.info? 67).map (·.size) = some (ptRow p).length) := Lib.hid (by rw [ptRow_len hdg]; exact Tryz.sizePT)
    have HSZ : Hid ((Tryz.prog.info? 67).map (·.size) = some (ptRow p).toArray.size) := Lib.hid (by rw [ptRow_size hdg]; exact Tryz.sizePT)
    have HCELL := Lib.hid hcell
    have HALL := Lib.hid (all_one (ptRow_one p))
    have HS35 := Lib.hid (ptRow_size hdg)
    have HDP := Lib.hid hdg
    have hlti : (k : Int) < (n : Int) := by omega
    have HKL : Hid (k + 1 ≤ n) := Lib.hid hlt
    clear hdl hps hdg hcell hltp hblt
    go_wp2_with (first
      | ((with_reducible show wpList _ _ _ (Oper.mk (some 23) _ _ _ _ _ :: _) _ _); go_must (refine wpList_load_at rfl 67 (.tmp 22) rfl b (off + k * 35) rfl (ptRow p) _ HCELL.out Tryz.underlying67 rfl HLEN.out ?_))
      | ((with_reducible show wpList _ _ _ (Oper.mk none _ _ _ _ _ :: _) _ _); go_must (refine wpList_store_new rfl 67 (.tmp 5) (.tmp 23) rfl wr _ (ptRow p).toArray rfl rfl _ HSZ.out (by rw [HS35.out]; rfl) HALL.out ?_)))
    intro V0 hp0 hb0 hs0
    have hl0 : DcL w V0 m bs lo lc k := ⟨HL.out.res.old hb0, HL.out.out.old hb0, HL.out.rows.keep fun j hj => hb0.block j (HL.out.rows.block hj).2.1, HL.out.b.trans (hb0.mono HL.out.b.size), HL.out.pb, Nat.le_trans HL.out.sz (by omega)⟩
    obtain ⟨g, hg⟩ : ∃ g, g = wr.heap.size := ⟨_, rfl⟩
    rw [← hg] at hp0 ⊢
    have HGG : Hid (bs ≤ g) := Lib.hid (by rw [hg]; exact HL.out.sz)
    have HP0 : Hid (PB V0 g p 67) := Lib.hid hp0
    have HL0 := Lib.hid hl0
    have HPS0 : Hid (PsAt V0 (fun j => j < w.heap.size) (.slice (some ⟨b, off, none⟩) n cap) m.ps) := Lib.hid (HPS.out.old hb0)
    have HPO : Hid (∀ W, Calls Tryz.prog 29 #[.agg (ptRow p).toArray] W fun e w' => e = .returned (.agg (ptRow p).toArray) ∧ Below W.heap.size W w') := Lib.hid fun W => partOf_any p W HDP.out
    have hr35 : (ptRow p).length = 35 := ptRow_len HDP.out
    have HRL := Lib.hid (fold_put35 hr35)
    have HLN : Hid (((m.ps.take k).map ptRow).length + 1 ≤ maxLen ∧ (((m.ps.take k).map ptRow).length + 1) * 56 ≤ 140737488355328) := Lib.hid (by
      rw [List.length_map, List.length_take]
      have := HKL.out; have := HNL.out
      unfold maxLen
      omega)
    have HKE : Hid (((m.ps.take k).map ptRow).length = k) := Lib.hid (by rw [List.length_map, List.length_take]; have := HKL.out; have := HN.out; omega)
    clear hp0 hb0 hs0 hl0 hg
    go_upto_region 5 with fail

    have HXX : Hid (∀ W, Below V0.heap.size V0 W → W.cell? ⟨w.heap.size + 2, 36, none⟩ = some (.slice lo k lc) ∧ True ∧ W.heap[g]? = some (.cells (ptRow p).toArray 67 (0, 0))) := Lib.hid fun W hb => by
      obtain ⟨_, _, _, _, e⟩ := (HL0.out.out.old hb).x HD.out
      exact ⟨e, trivial, HP0.out.old hb⟩
    have HROW : Hid (∀ W, Below V0.heap.size V0 W → RecOwn W bs 73 35 (.slice lo k lc) ((m.ps.take k).map ptRow)) := Lib.hid fun W hb => HL0.out.rows.keep fun j hj => hb.block j (HL0.out.rows.block hj).2.1
    refine wp_region_any (by kernel_rfl) ?_
    try (change wpAny _ _ _ _ _ _ _ (World.drew _))
    refine wpAny_take (i := 0) (v := .pointer (some ⟨w.heap.size + 2, 36, none⟩)) rfl (by kernel_rfl) (by kernel_rfl) (by kernel_rfl) (fun _ _ _ h => h) (Or.inl ⟨by rfl, fun W => by go_simp⟩) ?_
    refine wpAny_ready (rs := [1, 2]) (by kernel_rfl) (by simp) (AllReady.cons rfl (fun K hK => ?_) (AllReady.cons rfl (fun K hK => ?_) AllReady.nil))
    · skip
      rw [if_pos (by rfl)]
      have y36 := (HXX.out _ (Below.refl V0.heap.size V0).drew).1
      go_simp
      clear y36
      refine hK _ _ ?_
      clear hK K
      refine wpAny_ready (rs := [2]) (by kernel_rfl) (by simp) (AllReady.cons rfl (fun K hK => ?_) AllReady.nil)
      rw [if_pos (by rfl)]
      refine wp_load_row 67 (.tmp 5) rfl g rfl _ (ptRow p).toArray _ _ (HXX.out _ (Below.refl V0.heap.size V0).drew).2.2 Tryz.underlying67 rfl HSZ.out ?_
      refine hK _ _ ?_
      clear hK K
      refine wpAny_ready (rs := [3]) (by kernel_rfl) (by simp) (AllReady.cons rfl (fun K hK => ?_) AllReady.nil)
      rw [if_pos (by rfl)]
      go_simp
      go_at_call 29
      refine (HPO.out _).mono ?_
      rintro e W1 ⟨rfl, hb1⟩
      have HB1 : Hid (Below V0.heap.size V0 W1) := Lib.hid ((Below.refl V0.heap.size V0).drew.trans hb1)
      clear hb1
      refine hK _ _ ?_
      clear hK K
      refine wpAny_ready (rs := [4]) (by kernel_rfl) (by simp) (AllReady.cons rfl (fun K hK => ?_) AllReady.nil)
      rw [if_pos (by rfl)]
      go_simp
      rw [HRL.out]
      refine hK _ _ ?_
      clear hK K
      refine wpAny_ready (rs := [5]) (by kernel_rfl) (by simp) (AllReady.cons rfl (fun K hK => ?_) AllReady.nil)
      have HR1 := Lib.hid (HROW.out _ (HB1.out.alloc HB1.out.size (.cells (ptRow p).toArray 73)))
      refine step_appRecM (by rfl) _ _ 52 (by rfl) bs 73 (.agg (ptRow (0, 0, 0, zero32)).toArray) 35 56 Tryz.underlying52 Tryz.infoPartN rfl (by decide) (.slice lo k lc) ((m.ps.take k).map ptRow) (by rfl) HR1.out (ptRow p) hr35 (ptRow_one _) ⟨W1.heap.size, 0, none⟩ (by rfl) (rec_cell W1 _ _) HLN.out.1 HLN.out.2 (by have := HB1.out.size; have := HL0.out.sz; simp; omega) ?_
      intro g6 cap6 w6 ho6 hg6 hl6
      rw [HKE.out] at ho6 ⊢
      have hbw : Below bs V0 w6 := ((HB1.out.mono HL0.out.sz).alloc (Nat.le_trans HL0.out.sz HB1.out.size) _).grown hg6 (by have := HB1.out.size; have := HL0.out.sz; simp; omega) (fun j hj => (HL0.out.rows.block hj).1)
      have ho6m := HL0.out.out.low hbw HL0.out.pb
      have HO6 := Lib.hid ho6
      have HBW := Lib.hid hbw
      have HOM := Lib.hid ho6m
      obtain ⟨_, _, _, _, z36⟩ := ho6m.x HD.out
      have zf := ho6m.fz 36
      clear ho6 hg6 hl6 hbw ho6m
      refine hK _ _ ?_
      clear hK K
      refine wpAny_take (i := 6) (v := .pointer (some ⟨w.heap.size + 2, 36, none⟩)) rfl (by kernel_rfl) (by kernel_rfl) (by kernel_rfl) (fun _ _ _ h => h) (Or.inl ⟨by rfl, fun W => by go_simp⟩) ?_
      refine wpAny_ready (rs := [7]) (by kernel_rfl) (by simp) (AllReady.cons rfl (fun K hK => ?_) AllReady.nil)
      rw [if_pos (by rfl)]
      go_simp
      clear z36 zf
      refine hK _ _ ?_
      clear hK K
      refine wpAny_done (by kernel_rfl) ?_ _
      have HDL2 : Hid (DcL w (w6.setCell ⟨w.heap.size + 2, 36, none⟩ (.slice (some ⟨g6, 0, none⟩) (k + 1) cap6)) m bs (some ⟨g6, 0, none⟩) cap6 (k + 1)) := Lib.hid (by
        have hpb := HL0.out.pb
        refine ⟨?_, HOM.out.set36 HD.out.1 _, ?_, ?_, hpb, ?_⟩
        · exact (heap_setCell_other _ _ _ _ (by show w.heap.size + 1 ≠ w.heap.size + 2; omega)).trans (HL0.out.res.low HBW.out (by omega))
        · rw [HTK.out, List.map_append]
          exact RecOwn.keep HO6.out fun j hj => heap_setCell_other _ _ _ _ (by have := (RecOwn.block HO6.out hj).1; show j ≠ w.heap.size + 2; omega)
        · exact (HL0.out.b.trans (HBW.out.mono (by omega))).setCell (by show w.heap.size ≤ w.heap.size + 2; omega) _
        · have := HBW.out.size; have := HL0.out.sz; simp; omega)
      have HPS2 : Hid (PsAt (w6.setCell ⟨w.heap.size + 2, 36, none⟩ (.slice (some ⟨g6, 0, none⟩) (k + 1) cap6)) (fun j => j < w.heap.size) (.slice (some ⟨b, off, none⟩) n cap) m.ps) := Lib.hid (HPS0.out.keep ⟨by have := HBW.out.size; simpa using this, fun j hj hB => (heap_setCell_other _ _ _ _ (by show j ≠ w.heap.size + 2; omega)).trans (HBW.out.block j (by have := HL0.out.pb; omega))⟩)
      go_wp2
      go_roundw
      case rel => exact ⟨k + 1, some ⟨g6, 0, none⟩, cap6, HKL.out, by go_num, HDL2.out, HPS2.out⟩
      case measure => have := HKL.out; simp [intOf]; omega
    · skip
      rw [if_pos (by rfl)]
      refine wp_load_row 67 (.tmp 5) rfl g rfl _ (ptRow p).toArray _ _ (HXX.out _ (Below.refl V0.heap.size V0).drew).2.2 Tryz.underlying67 rfl HSZ.out ?_
      refine hK _ _ ?_
      clear hK K
      refine wpAny_ready (rs := [1, 3]) (by kernel_rfl) (by simp) (AllReady.cons rfl (fun K hK => ?_) (AllReady.cons rfl (fun K hK => ?_) AllReady.nil))
      · skip
        rw [if_pos (by rfl)]
        have y36 := (HXX.out _ (Below.refl V0.heap.size V0).drew).1
        go_simp
        clear y36
        refine hK _ _ ?_
        clear hK K
        refine wpAny_ready (rs := [3]) (by kernel_rfl) (by simp) (AllReady.cons rfl (fun K hK => ?_) AllReady.nil)
        rw [if_pos (by rfl)]
        go_simp
        go_at_call 29
        refine (HPO.out _).mono ?_
        rintro e W1 ⟨rfl, hb1⟩
        have HB1 : Hid (Below V0.heap.size V0 W1) := Lib.hid ((Below.refl V0.heap.size V0).drew.trans hb1)
        clear hb1
        refine hK _ _ ?_
        clear hK K
        refine wpAny_ready (rs := [4]) (by kernel_rfl) (by simp) (AllReady.cons rfl (fun K hK => ?_) AllReady.nil)
        rw [if_pos (by rfl)]
        go_simp
        rw [HRL.out]
        refine hK _ _ ?_
        clear hK K
        refine wpAny_ready (rs := [5]) (by kernel_rfl) (by simp) (AllReady.cons rfl (fun K hK => ?_) AllReady.nil)
        have HR1 := Lib.hid (HROW.out _ (HB1.out.alloc HB1.out.size (.cells (ptRow p).toArray 73)))
        refine step_appRecM (by rfl) _ _ 52 (by rfl) bs 73 (.agg (ptRow (0, 0, 0, zero32)).toArray) 35 56 Tryz.underlying52 Tryz.infoPartN rfl (by decide) (.slice lo k lc) ((m.ps.take k).map ptRow) (by rfl) HR1.out (ptRow p) hr35 (ptRow_one _) ⟨W1.heap.size, 0, none⟩ (by rfl) (rec_cell W1 _ _) HLN.out.1 HLN.out.2 (by have := HB1.out.size; have := HL0.out.sz; simp; omega) ?_
        intro g6 cap6 w6 ho6 hg6 hl6
        rw [HKE.out] at ho6 ⊢
        have hbw : Below bs V0 w6 := ((HB1.out.mono HL0.out.sz).alloc (Nat.le_trans HL0.out.sz HB1.out.size) _).grown hg6 (by have := HB1.out.size; have := HL0.out.sz; simp; omega) (fun j hj => (HL0.out.rows.block hj).1)
        have ho6m := HL0.out.out.low hbw HL0.out.pb
        have HO6 := Lib.hid ho6
        have HBW := Lib.hid hbw
        have HOM := Lib.hid ho6m
        obtain ⟨_, _, _, _, z36⟩ := ho6m.x HD.out
        have zf := ho6m.fz 36
        clear ho6 hg6 hl6 hbw ho6m
        refine hK _ _ ?_
        clear hK K
        refine wpAny_take (i := 6) (v := .pointer (some ⟨w.heap.size + 2, 36, none⟩)) rfl (by kernel_rfl) (by kernel_rfl) (by kernel_rfl) (fun _ _ _ h => h) (Or.inl ⟨by rfl, fun W => by go_simp⟩) ?_
        refine wpAny_ready (rs := [7]) (by kernel_rfl) (by simp) (AllReady.cons rfl (fun K hK => ?_) AllReady.nil)
        rw [if_pos (by rfl)]
        go_simp
        clear z36 zf
        refine hK _ _ ?_
        clear hK K
        refine wpAny_done (by kernel_rfl) ?_ _
        have HDL2 : Hid (DcL w (w6.setCell ⟨w.heap.size + 2, 36, none⟩ (.slice (some ⟨g6, 0, none⟩) (k + 1) cap6)) m bs (some ⟨g6, 0, none⟩) cap6 (k + 1)) := Lib.hid (by
          have hpb := HL0.out.pb
          refine ⟨?_, HOM.out.set36 HD.out.1 _, ?_, ?_, hpb, ?_⟩
          · exact (heap_setCell_other _ _ _ _ (by show w.heap.size + 1 ≠ w.heap.size + 2; omega)).trans (HL0.out.res.low HBW.out (by omega))
          · rw [HTK.out, List.map_append]
            exact RecOwn.keep HO6.out fun j hj => heap_setCell_other _ _ _ _ (by have := (RecOwn.block HO6.out hj).1; show j ≠ w.heap.size + 2; omega)
          · exact (HL0.out.b.trans (HBW.out.mono (by omega))).setCell (by show w.heap.size ≤ w.heap.size + 2; omega) _
          · have := HBW.out.size; have := HL0.out.sz; simp; omega)
        have HPS2 : Hid (PsAt (w6.setCell ⟨w.heap.size + 2, 36, none⟩ (.slice (some ⟨g6, 0, none⟩) (k + 1) cap6)) (fun j => j < w.heap.size) (.slice (some ⟨b, off, none⟩) n cap) m.ps) := Lib.hid (HPS0.out.keep ⟨by have := HBW.out.size; simpa using this, fun j hj hB => (heap_setCell_other _ _ _ _ (by show j ≠ w.heap.size + 2; omega)).trans (HBW.out.block j (by have := HL0.out.pb; omega))⟩)
        go_wp2
        go_roundw
        case rel => exact ⟨k + 1, some ⟨g6, 0, none⟩, cap6, HKL.out, by go_num, HDL2.out, HPS2.out⟩
        case measure => have := HKL.out; simp [intOf]; omega
      · skip
        rw [if_pos (by rfl)]
        go_simp
        go_at_call 29
        refine (HPO.out _).mono ?_
        rintro e W1 ⟨rfl, hb1⟩
        have HB1 : Hid (Below V0.heap.size V0 W1) := Lib.hid ((Below.refl V0.heap.size V0).drew.trans hb1)
        clear hb1
        refine hK _ _ ?_
        clear hK K
        refine wpAny_ready (rs := [1, 4]) (by kernel_rfl) (by simp) (AllReady.cons rfl (fun K hK => ?_) (AllReady.cons rfl (fun K hK => ?_) AllReady.nil))
        · skip
          rw [if_pos (by rfl)]
          have y36 := (HXX.out _ HB1.out).1
          go_simp
          clear y36
          refine hK _ _ ?_
          clear hK K
          refine wpAny_ready (rs := [4]) (by kernel_rfl) (by simp) (AllReady.cons rfl (fun K hK => ?_) AllReady.nil)
          rw [if_pos (by rfl)]
          go_simp
          rw [HRL.out]
          refine hK _ _ ?_
          clear hK K
          refine wpAny_ready (rs := [5]) (by kernel_rfl) (by simp) (AllReady.cons rfl (fun K hK => ?_) AllReady.nil)
          have HR1 := Lib.hid (HROW.out _ (HB1.out.alloc HB1.out.size (.cells (ptRow p).toArray 73)))
          refine step_appRecM (by rfl) _ _ 52 (by rfl) bs 73 (.agg (ptRow (0, 0, 0, zero32)).toArray) 35 56 Tryz.underlying52 Tryz.infoPartN rfl (by decide) (.slice lo k lc) ((m.ps.take k).map ptRow) (by rfl) HR1.out (ptRow p) hr35 (ptRow_one _) ⟨W1.heap.size, 0, none⟩ (by rfl) (rec_cell W1 _ _) HLN.out.1 HLN.out.2 (by have := HB1.out.size; have := HL0.out.sz; simp; omega) ?_
          intro g6 cap6 w6 ho6 hg6 hl6
          rw [HKE.out] at ho6 ⊢
          have hbw : Below bs V0 w6 := ((HB1.out.mono HL0.out.sz).alloc (Nat.le_trans HL0.out.sz HB1.out.size) _).grown hg6 (by have := HB1.out.size; have := HL0.out.sz; simp; omega) (fun j hj => (HL0.out.rows.block hj).1)
          have ho6m := HL0.out.out.low hbw HL0.out.pb
          have HO6 := Lib.hid ho6
          have HBW := Lib.hid hbw
          have HOM := Lib.hid ho6m
          obtain ⟨_, _, _, _, z36⟩ := ho6m.x HD.out
          have zf := ho6m.fz 36
          clear ho6 hg6 hl6 hbw ho6m
          refine hK _ _ ?_
          clear hK K
          refine wpAny_take (i := 6) (v := .pointer (some ⟨w.heap.size + 2, 36, none⟩)) rfl (by kernel_rfl) (by kernel_rfl) (by kernel_rfl) (fun _ _ _ h => h) (Or.inl ⟨by rfl, fun W => by go_simp⟩) ?_
          refine wpAny_ready (rs := [7]) (by kernel_rfl) (by simp) (AllReady.cons rfl (fun K hK => ?_) AllReady.nil)
          rw [if_pos (by rfl)]
          go_simp
          clear z36 zf
          refine hK _ _ ?_
          clear hK K
          refine wpAny_done (by kernel_rfl) ?_ _
          have HDL2 : Hid (DcL w (w6.setCell ⟨w.heap.size + 2, 36, none⟩ (.slice (some ⟨g6, 0, none⟩) (k + 1) cap6)) m bs (some ⟨g6, 0, none⟩) cap6 (k + 1)) := Lib.hid (by
            have hpb := HL0.out.pb
            refine ⟨?_, HOM.out.set36 HD.out.1 _, ?_, ?_, hpb, ?_⟩
            · exact (heap_setCell_other _ _ _ _ (by show w.heap.size + 1 ≠ w.heap.size + 2; omega)).trans (HL0.out.res.low HBW.out (by omega))
            · rw [HTK.out, List.map_append]
              exact RecOwn.keep HO6.out fun j hj => heap_setCell_other _ _ _ _ (by have := (RecOwn.block HO6.out hj).1; show j ≠ w.heap.size + 2; omega)
            · exact (HL0.out.b.trans (HBW.out.mono (by omega))).setCell (by show w.heap.size ≤ w.heap.size + 2; omega) _
            · have := HBW.out.size; have := HL0.out.sz; simp; omega)
          have HPS2 : Hid (PsAt (w6.setCell ⟨w.heap.size + 2, 36, none⟩ (.slice (some ⟨g6, 0, none⟩) (k + 1) cap6)) (fun j => j < w.heap.size) (.slice (some ⟨b, off, none⟩) n cap) m.ps) := Lib.hid (HPS0.out.keep ⟨by have := HBW.out.size; simpa using this, fun j hj hB => (heap_setCell_other _ _ _ _ (by show j ≠ w.heap.size + 2; omega)).trans (HBW.out.block j (by have := HL0.out.pb; omega))⟩)
          go_wp2
          go_roundw
          case rel => exact ⟨k + 1, some ⟨g6, 0, none⟩, cap6, HKL.out, by go_num, HDL2.out, HPS2.out⟩
          case measure => have := HKL.out; simp [intOf]; omega
        · skip
          rw [if_pos (by rfl)]
          go_simp
          rw [HRL.out]
          refine hK _ _ ?_
          clear hK K
          refine wpAny_ready (rs := [1]) (by kernel_rfl) (by simp) (AllReady.cons rfl (fun K hK => ?_) AllReady.nil)
          rw [if_pos (by rfl)]
          have y36 := (HXX.out _ (HB1.out.alloc HB1.out.size (.cells (ptRow p).toArray 73))).1
          go_simp
          clear y36
          refine hK _ _ ?_
          clear hK K
          refine wpAny_ready (rs := [5]) (by kernel_rfl) (by simp) (AllReady.cons rfl (fun K hK => ?_) AllReady.nil)
          have HR1 := Lib.hid (HROW.out _ (HB1.out.alloc HB1.out.size (.cells (ptRow p).toArray 73)))
          refine step_appRecM (by rfl) _ _ 52 (by rfl) bs 73 (.agg (ptRow (0, 0, 0, zero32)).toArray) 35 56 Tryz.underlying52 Tryz.infoPartN rfl (by decide) (.slice lo k lc) ((m.ps.take k).map ptRow) (by rfl) HR1.out (ptRow p) hr35 (ptRow_one _) ⟨W1.heap.size, 0, none⟩ (by rfl) (rec_cell W1 _ _) HLN.out.1 HLN.out.2 (by have := HB1.out.size; have := HL0.out.sz; simp; omega) ?_
          intro g6 cap6 w6 ho6 hg6 hl6
          rw [HKE.out] at ho6 ⊢
          have hbw : Below bs V0 w6 := ((HB1.out.mono HL0.out.sz).alloc (Nat.le_trans HL0.out.sz HB1.out.size) _).grown hg6 (by have := HB1.out.size; have := HL0.out.sz; simp; omega) (fun j hj => (HL0.out.rows.block hj).1)
          have ho6m := HL0.out.out.low hbw HL0.out.pb
          have HO6 := Lib.hid ho6
          have HBW := Lib.hid hbw
          have HOM := Lib.hid ho6m
          obtain ⟨_, _, _, _, z36⟩ := ho6m.x HD.out
          have zf := ho6m.fz 36
          clear ho6 hg6 hl6 hbw ho6m
          refine hK _ _ ?_
          clear hK K
          refine wpAny_take (i := 6) (v := .pointer (some ⟨w.heap.size + 2, 36, none⟩)) rfl (by kernel_rfl) (by kernel_rfl) (by kernel_rfl) (fun _ _ _ h => h) (Or.inl ⟨by rfl, fun W => by go_simp⟩) ?_
          refine wpAny_ready (rs := [7]) (by kernel_rfl) (by simp) (AllReady.cons rfl (fun K hK => ?_) AllReady.nil)
          rw [if_pos (by rfl)]
          go_simp
          clear z36 zf
          refine hK _ _ ?_
          clear hK K
          refine wpAny_done (by kernel_rfl) ?_ _
          have HDL2 : Hid (DcL w (w6.setCell ⟨w.heap.size + 2, 36, none⟩ (.slice (some ⟨g6, 0, none⟩) (k + 1) cap6)) m bs (some ⟨g6, 0, none⟩) cap6 (k + 1)) := Lib.hid (by
            have hpb := HL0.out.pb
            refine ⟨?_, HOM.out.set36 HD.out.1 _, ?_, ?_, hpb, ?_⟩
            · exact (heap_setCell_other _ _ _ _ (by show w.heap.size + 1 ≠ w.heap.size + 2; omega)).trans (HL0.out.res.low HBW.out (by omega))
            · rw [HTK.out, List.map_append]
              exact RecOwn.keep HO6.out fun j hj => heap_setCell_other _ _ _ _ (by have := (RecOwn.block HO6.out hj).1; show j ≠ w.heap.size + 2; omega)
            · exact (HL0.out.b.trans (HBW.out.mono (by omega))).setCell (by show w.heap.size ≤ w.heap.size + 2; omega) _
            · have := HBW.out.size; have := HL0.out.sz; simp; omega)
          have HPS2 : Hid (PsAt (w6.setCell ⟨w.heap.size + 2, 36, none⟩ (.slice (some ⟨g6, 0, none⟩) (k + 1) cap6)) (fun j => j < w.heap.size) (.slice (some ⟨b, off, none⟩) n cap) m.ps) := Lib.hid (HPS0.out.keep ⟨by have := HBW.out.size; simpa using this, fun j hj hB => (heap_setCell_other _ _ _ _ (by show j ≠ w.heap.size + 2; omega)).trans (HBW.out.block j (by have := HL0.out.pb; omega))⟩)
          go_wp2
          go_roundw
          case rel => exact ⟨k + 1, some ⟨g6, 0, none⟩, cap6, HKL.out, by go_num, HDL2.out, HPS2.out⟩
          case measure => have := HKL.out; simp [intOf]; omega

end Go.Proofs.YtgnalcobcdgnkaaGreatDoor
