/- The document's own manifests: a digest, taken. -/
import Derived.Test.YtpebmmhokigglaaMfJ
import Derived.Test.YtpebmmhokigglaaMfF
import Derived.Test.YtpebmmhokigglaaRrP
import Derived.Test.YtpebmmhokigglaaExtB
namespace Go.Proofs.Ytpebmmhokigglaa
open Go.RowKit

/-- Two results that both lie in cells. -/
theorem results_row_row {P : Program} {fn : Func} {p s : Tmp} {ty ty2 : TypeId} (h : fn.results = #[.cell p ty, .cell s ty2]) (tmps : Array Value) (w : World) (g g2 : Nat) (t t2 : TypeId) (cs cs2 : Array Value) (fr fr2 : Nat × Nat) (d d2 : TypeDesc)
    (hp : tmps.getD p undef = .pointer (some ⟨g, 0, none⟩)) (hs : tmps.getD s undef = .pointer (some ⟨g2, 0, none⟩)) (hg : w.heap[g]? = some (.cells cs t fr)) (hg2 : w.heap[g2]? = some (.cells cs2 t2 fr2))
    (hu : P.underlying ty = some d) (hd : (match d with | .struct _ | .array _ _ => true | _ => false) = true) (hi : (P.info? ty).map (·.size) = some cs.size)
    (hu2 : P.underlying ty2 = some d2) (hd2 : (match d2 with | .struct _ | .array _ _ => true | _ => false) = true) (hi2 : (P.info? ty2).map (·.size) = some cs2.size) :
    (results fn tmps).run P w = .ok (.tuple #[.agg cs, .agg cs2]) w := by
  have hp' : tmps[p]?.getD undef = .pointer (some ⟨g, 0, none⟩) := by simpa using hp
  have hs' : tmps[s]?.getD undef = .pointer (some ⟨g2, 0, none⟩) := by simpa using hs
  simp [results, h, hp', hs', asAddr, run_loadVar_row w g t ty cs fr d hg hu hd hi, run_loadVar_row w g2 t2 ty2 cs2 fr2 d2 hg2 hu2 hd2 hi2]
/-- A digest as far as it is copied. -/
def part32 (out : List Nat) (k : Nat) : List Nat := out.take k ++ List.replicate (32 - k) 0
theorem part32_zero (out : List Nat) : part32 out 0 = zero32 := by simp [part32, zero32]
theorem part32_len {out : List Nat} {k : Nat} (h : k ≤ out.length) (h2 : out.length ≤ 32) : (part32 out k).length = 32 := by unfold part32; rw [List.length_append, List.length_take, List.length_replicate]; omega
theorem part32_all (out : List Nat) : part32 out out.length = dig out := by unfold part32 dig; rw [List.take_length]
theorem part32_set {out : List Nat} {k : Nat} (h : k < out.length) (h2 : out.length ≤ 32) : (vals .u8 (part32 out k)).toArray.setIfInBounds k (.int .u8 ((out.getD k 0 : Nat) : Int)) = (vals .u8 (part32 out (k + 1))).toArray := by
  have e : (vals .u8 (part32 out k)).set k (.int .u8 ((out.getD k 0 : Nat) : Int)) = vals .u8 (part32 out (k + 1)) := by
    unfold vals
    rw [← List.map_set (f := fun (n : Nat) => Value.int .u8 (n : Int))]
    congr 1
    unfold part32
    rw [show 32 - k = (32 - (k + 1)) + 1 by omega, List.replicate_succ, List.set_append_right _ _ (by rw [List.length_take]; omega)]
    rw [show k - (out.take k).length = 0 by rw [List.length_take]; omega, List.set_cons_zero, List.take_succ_eq_append_getElem h, List.getD_eq_getElem?_getD, List.getElem?_eq_getElem h, List.append_assoc]
    rfl
  rw [← e]; simp
theorem part32_get {out : List Nat} {k : Nat} (h : k ≤ out.length) (h2 : k < 32) (h3 : out.length ≤ 32) : (vals .u8 (part32 out k)).toArray[k]? = some (.int .u8 0) := by
  rw [List.getElem?_toArray, vals_get .u8 _ k (by rw [part32_len h h3]; exact h2)]
  congr 2
  unfold part32
  rw [List.getD_eq_getElem?_getD, List.getElem?_append_right (by rw [List.length_take]; omega), List.length_take, List.getElem?_replicate]
  rw [if_pos (by omega)]
  rfl

/-- What the document's own digest answers. -/
def RDigPost (B : Nat) (rest : List Nat) (c : Nat) (w : World) (e : Ending) (w' : World) : Prop :=
  ∃ (out : List Nat) (ao : Option Addr) (cap : Nat) (rest' : List Nat) (c' : Nat), e = .returned (.tuple #[.agg (vals .u8 (dig out)).toArray, .agg #[.slice ao rest'.length cap, .int .i64 (c' : Int)]]) ∧
    FixRel rest c 32 out rest' c' ∧ RdU w' B (.slice ao rest'.length cap) rest' ∧ Below w.heap.size w w'
/-- What holds while the answer is stored. -/
structure DgS (w : World) (D : List Nat) (x y : Value) (W : World) : Prop where
  b : Below w.heap.size w W
  d : W.heap[w.heap.size + 3]? = some (.cells (vals .u8 D).toArray 33 (0, 0))
  r : W.heap[w.heap.size]? = some (.cells #[x, y] 64 (0, 0))
  a : ∃ cs, W.heap[w.heap.size + 1]? = some (.cells cs 33 (0, 0)) ∧ cs.size = 32
  e : ∃ u v, W.heap[w.heap.size + 2]? = some (.cells #[u, v] 64 (0, 0))
theorem q_cellsK {w : World} {p : Nat} {a b : Value} {t : TypeId} (h : w.heap[p]? = some (.cells #[a, b] t (0, 0))) :
    w.cell? ⟨p, 0, none⟩ = some a ∧ w.cell? ⟨p, 1, none⟩ = some b ∧ w.frozen? ⟨p, 0, none⟩ = false ∧ w.frozen? ⟨p, 1, none⟩ = false :=
  ⟨by rw [cell_of_row w p 0 _ _ _ h]; rfl, by rw [cell_of_row w p 1 _ _ _ h]; rfl, frozen_of_row w p 0 _ _ h, frozen_of_row w p 1 _ _ h⟩
theorem set_both {w : World} {p : Nat} {a b x y : Value} {t : TypeId} (h : w.heap[p]? = some (.cells #[a, b] t (0, 0))) : ((w.setCell ⟨p, 0, none⟩ x).setCell ⟨p, 1, none⟩ y).heap[p]? = some (.cells #[x, y] t (0, 0)) := by
  rw [heap_setCell_same _ _ 1 _ _ _ (heap_setCell_same _ _ 0 _ _ _ h)]; rfl

set_option maxHeartbeats 8000000 in
set_option maxRecDepth 100000 in
theorem rdigest_any (B : Nat) (ao : Option Addr) (cap : Nat) (rest : List Nat) (c : Nat) (w : World) (hBs : B ≤ w.heap.size) (hru : RdU w B (.slice ao rest.length cap) rest) :
    Calls Try.prog 24 #[.agg #[.slice ao rest.length cap, .int .i64 (c : Int)]] w (RDigPost B rest c w) := by
  obtain ⟨n, hn⟩ : ∃ n, n = rest.length := ⟨_, rfl⟩
  obtain ⟨W3, hW3⟩ : ∃ W, W = ((w.alloc (.cells #[.slice ao n cap, .int .i64 (c : Int)] 64)).alloc (.cells (vals .u8 zero32).toArray 33)).alloc (.cells #[.slice none 0 0, .int .i64 0] 64) := ⟨_, rfl⟩
  have hb3 : Below w.heap.size w W3 := by rw [hW3]; exact (((Below.refl _ _).alloc (Nat.le_refl _) _).alloc (by simp) _).alloc (by simp; omega) _
  have hs3 : W3.heap.size = w.heap.size + 3 := by rw [hW3]; simp
  have h0 : W3.heap[w.heap.size]? = some (.cells #[.slice ao n cap, .int .i64 (c : Int)] 64 (0, 0)) := by
    rw [hW3, Below.heap_alloc _ _ _ (by simp; omega), Below.heap_alloc _ _ _ (by simp)]; exact heap_alloc_new _ _
  have h1 : W3.heap[w.heap.size + 1]? = some (.cells (vals .u8 zero32).toArray 33 (0, 0)) := by
    have := heap_alloc_new (w.alloc (.cells #[.slice ao n cap, .int .i64 (c : Int)] 64)) (.cells (vals .u8 zero32).toArray 33)
    rw [hW3, Below.heap_alloc _ _ _ (by simp)]; simpa using this
  have h2 : W3.heap[w.heap.size + 2]? = some (.cells #[.slice none 0 0, .int .i64 0] 64 (0, 0)) := by
    have := heap_alloc_new ((w.alloc (.cells #[.slice ao n cap, .int .i64 (c : Int)] 64)).alloc (.cells (vals .u8 zero32).toArray 33)) (.cells #[.slice none 0 0, .int .i64 0] 64)
    rw [hW3]; simpa using this
  rw [zero_valsM] at hW3
  have HMX : Hid (Try.prog.follows .mixedOrders = true) := Lib.hid (by kernel_rfl)
  rw [← hn] at hru ⊢
  have HRU3 := Lib.hid (hru.below (hb3.mono hBs))
  have HFA : Hid (∀ W, B ≤ W.heap.size → RdU W B (.slice ao n cap) rest → Calls Try.prog 49 #[.agg #[.slice ao n cap, .int .i64 (c : Int)], .int .i64 32] W (RFixPost B rest c 32 W)) := Lib.hid fun W h1 h2 => by
    rw [hn] at h2 ⊢
    exact rfixed_any B ao cap rest c 32 W h1 h2
  have HSZ : Hid ((Try.prog.info? 33).map (·.size) = some (vals .u8 zero32).toArray.size) := Lib.hid (by rw [List.size_toArray, vals_length]; exact Try.sizeDGD)
  have HB3 := Lib.hid hb3
  have HS3 := Lib.hid hs3
  have H0 := Lib.hid h0
  have H1 := Lib.hid h1
  have H2 := Lib.hid h2
  have HW3 := Lib.hid hW3
  have HBS := Lib.hid hBs
  clear hru hb3 hs3 h0 h1 h2 hW3 hBs hn
  go_enter Try.func24, Try.ntmps24
  go_wp2_with (((with_reducible show wpList _ _ _ (Oper.mk none _ _ _ _ _ :: _) _ _); rw [← HW3.out]; go_must (refine wpList_store_new rfl 33 (.tmp 4) (.tmp 7) rfl W3 _ (vals .u8 zero32).toArray (by rw [HS3.out]; rfl) rfl _ HSZ.out rfl (all_one (vals_one8 _)) ?_)))
  intro W4 hd4 hb4 hs4
  rw [HS3.out] at hd4 hb4 hs4
  have HD4 := Lib.hid hd4
  have hr4 := (hb4.block _ (by omega)).trans H0.out
  have HA4 := Lib.hid ((hb4.block _ (by omega)).trans H1.out)
  have HE4 := Lib.hid ((hb4.block _ (by omega)).trans H2.out)
  have HB4 : Hid (Below w.heap.size w W4) := Lib.hid (HB3.out.trans (hb4.mono (by omega)))
  have HFX := Lib.hid (HFA.out W4 (by have := HBS.out; omega) (HRU3.out.below (hb4.mono (by have := HBS.out; omega))))
  obtain ⟨x0, x1, f0, f1⟩ := q_cellsK hr4
  have HR4 := Lib.hid hr4
  have HS4 := Lib.hid hs4
  clear hd4 hb4 hs4 hr4 HRU3
  go_wp2_with fail
  clear x0 x1 f0 f1
  refine HFX.out.mono ?_
  rintro r w5 ⟨ov, out, ao5, cap5, r5, c5, rfl, hfx, hou, hru, hb5⟩
  obtain ⟨aoo, no, capo, rfl, _⟩ := hou.2
  obtain ⟨aoo2, capo2, hv, _, _, _⟩ := hou.reads.val
  simp only [Value.slice.injEq] at hv
  obtain ⟨rfl, rfl, rfl⟩ := hv
  have hl := fix_len32 hfx
  have hl32 : out.length ≤ 32 := by rcases hl with rfl | h; simp; omega
  obtain ⟨n5, hn5⟩ : ∃ n, n = r5.length := ⟨_, rfl⟩
  rw [← hn5] at hru ⊢
  obtain ⟨W6, hW6⟩ : ∃ W, W = (w5.setCell ⟨w.heap.size, 0, none⟩ (.slice ao5 n5 cap5)).setCell ⟨w.heap.size, 1, none⟩ (.int .i64 (c5 : Int)) := ⟨_, rfl⟩
  have hr5 := (hb5.block _ (Array.getElem?_eq_some_iff.1 HR4.out).1).trans HR4.out
  have hr6 : W6.heap[w.heap.size]? = some (.cells #[.slice ao5 n5 cap5, .int .i64 (c5 : Int)] 64 (0, 0)) := by rw [hW6]; exact set_both hr5
  have ho6 : ∀ j, j ≠ w.heap.size → W6.heap[j]? = w5.heap[j]? := fun j hj => by rw [hW6, heap_setCell_other _ _ _ _ hj, heap_setCell_other _ _ _ _ hj]
  have hb6 : Below w.heap.size w5 W6 := by rw [hW6]; exact ((Below.refl _ _).setCell (show w.heap.size ≤ w.heap.size from Nat.le_refl _) _).setCell (show w.heap.size ≤ w.heap.size from Nat.le_refl _) _
  have HD6 : Hid (W6.heap[w.heap.size + 3]? = some (.cells (vals .u8 (part32 out 0)).toArray 33 (0, 0))) := Lib.hid (by rw [part32_zero]; exact (ho6 _ (by omega)).trans ((hb5.block _ (Array.getElem?_eq_some_iff.1 HD4.out).1).trans HD4.out))
  have HA6 := Lib.hid ((ho6 (w.heap.size + 1) (by omega)).trans ((hb5.block _ (Array.getElem?_eq_some_iff.1 HA4.out).1).trans HA4.out))
  have HE6 := Lib.hid ((ho6 (w.heap.size + 2) (by omega)).trans ((hb5.block _ (Array.getElem?_eq_some_iff.1 HE4.out).1).trans HE4.out))
  have HB6 : Hid (Below w.heap.size w W6) := Lib.hid ((HB4.out.trans (hb5.mono HB4.out.size)).trans hb6)
  have HOU6 : Hid (RdU W6 B (.slice aoo out.length capo) out) := Lib.hid (hou.below (hb6.mono HBS.out))
  have HRU6 := Lib.hid (hru.below (hb6.mono HBS.out))
  have HR6 := Lib.hid hr6
  have HFX5 := Lib.hid hfx
  have HN5 := Lib.hid hn5
  have HL32 := Lib.hid hl32
  obtain ⟨x0, x1, f0, f1⟩ := q_cellsK hr5
  obtain ⟨no, hno⟩ : ∃ n, n = out.length := ⟨_, rfl⟩
  rw [← hno] at HOU6 ⊢
  have HNO := Lib.hid hno
  have HW6 := Lib.hid hW6
  have hno32 : (no : Int) ≤ 32 := by omega
  clear hfx hou hru hb5 hl hl32 hn5 hr5 hr6 ho6 hb6 hno hW6
  go_wp2
  rw [← HW6.out]
  clear x0 x1 f0 f1
  go_loopw [6] (fun iv wr => ∃ k : Nat, k ≤ no ∧ iv = .int .i64 (k : Int) ∧ wr.heap[w.heap.size + 3]? = some (.cells (vals .u8 (part32 out k)).toArray 33 (0, 0)) ∧ Below (w.heap.size + 3) W6 wr)
    (fun iv _ => no - (intOf iv).toNat)
  case atStart => exact ⟨0, Nat.zero_le _, rfl, HD6.out, Below.refl _ _⟩
  case round =>
    obtain ⟨k, hk, rfl, hd, hb⟩ := hrel
    have HB := Lib.hid hb
    have HD := Lib.hid hd
    by_cases hlt : k < no
    · have hlo : k < out.length := by rw [← HNO.out]; exact hlt
      have hrd : Reads wr .u8 (.slice aoo out.length capo) out := by
        have := (HOU6.out.below (hb.mono (by have := HBS.out; omega))).reads
        rw [HNO.out] at this
        exact this
      obtain ⟨b2, off2, rfl, _, hc2⟩ := hrd.at hlo
      have hcc := hc2 k hlo
      have HST := Lib.hid (part32_set hlo HL32.out)
      generalize out.getD k 0 = x at hcc HST
      have hcd : wr.cell? ⟨w.heap.size + 3, k, none⟩ = some (.int .u8 0) := by
        rw [cell_of_row _ _ k _ _ _ hd]
        exact part32_get (by omega) (by have := HL32.out; omega) HL32.out
      have hfd : wr.frozen? ⟨w.heap.size + 3, k, none⟩ = false := frozen_of_row _ _ k _ _ hd
      have hki : (k : Int) < (no : Int) := by omega
      have hk32 : (k : Int) < 32 := by omega
      have HKL : Hid (k + 1 ≤ no) := Lib.hid hlt
      have HD1 : Hid ((wr.setCell ⟨w.heap.size + 3, k, none⟩ (.int .u8 (x : Int))).heap[w.heap.size + 3]? = some (.cells (vals .u8 (part32 out (k + 1))).toArray 33 (0, 0))) := Lib.hid (by rw [heap_setCell_same _ _ k _ _ _ hd, HST.out])
      have HB1 : Hid (Below (w.heap.size + 3) W6 (wr.setCell ⟨w.heap.size + 3, k, none⟩ (.int .u8 (x : Int)))) := Lib.hid (HB.out.setCell (Nat.le_refl _) _)
      clear hb hd hrd hc2 hlo
      go_wp2
      go_roundw
      case rel => exact ⟨k + 1, HKL.out, by go_num, HD1.out, HB1.out⟩
      case measure => have := HKL.out; simp [intOf]; omega
    · obtain rfl : k = no := by omega
      have hkd : part32 out k = dig out := by rw [HNO.out]; exact part32_all out
      rw [hkd] at hd
      obtain ⟨D, hD⟩ : ∃ D, D = dig out := ⟨_, rfl⟩
      rw [← hD] at hd
      have HDD := Lib.hid hD
      have hDl : D.length = 32 := by rw [hD]; exact dig_length HL32.out
      have HDL := Lib.hid hDl
      have HSD : Hid ((Try.prog.info? 33).map (·.size) = some (vals .u8 D).toArray.size) := Lib.hid (by rw [List.size_toArray, vals_length, hDl]; exact Try.sizeDGD)
      have HI64 : Hid ((Try.prog.info? 64).map (·.size) = some 2) := Lib.hid (by kernel_rfl)
      obtain ⟨x, hx⟩ : ∃ x, x = Value.slice ao5 n5 cap5 := ⟨_, rfl⟩
      obtain ⟨y, hy⟩ : ∃ y, y = Value.int .i64 (c5 : Int) := ⟨_, rfl⟩
      have hS : DgS w D x y wr := ⟨HB6.out.trans (hb.mono (by omega)), hd, by rw [hx, hy]; exact (hb.block _ (by omega)).trans HR6.out, ⟨_, (hb.block _ (by omega)).trans HA6.out, by simp [vals, zero32]⟩, ⟨_, _, (hb.block _ (by omega)).trans HE6.out⟩⟩
      have hox : x.oneCell' = true ∧ y.oneCell' = true := by rw [hx, hy]; exact ⟨rfl, rfl⟩
      have HOX := Lib.hid hox
      have HXY := Lib.hid (And.intro hx hy)
      have HRUF : Hid (RdU wr B (.slice ao5 n5 cap5) r5) := Lib.hid (HRU6.out.below (hb.mono (by have := HBS.out; omega)))
      have HFIN : Hid (∀ W, DgS w D x y W → W.heap[w.heap.size + 1]? = some (.cells (vals .u8 D).toArray 33 (0, 0)) → W.heap[w.heap.size + 2]? = some (.cells #[x, y] 64 (0, 0)) → RdU W B (.slice ao5 n5 cap5) r5 → True) := Lib.hid fun _ _ _ _ _ => trivial
      have HS := Lib.hid hS
      clear hd hb hkd hDl hS hox hx hy
      go_upto_region 7 with fail
      refine wp_region_extS (fun W => DgS w D x y W ∧ RdU W B (.slice ao5 n5 cap5) r5) ⟨⟨HS.out.b.drew, HS.out.d, HS.out.r, HS.out.a, HS.out.e⟩, HRUF.out.below (Below.refl B wr).drew⟩ HMX.out ?_
      refine extS_take (i := 0) (d := 25) (v := .agg (vals .u8 D).toArray) rfl rfl (by kernel_rfl) (by kernel_rfl) (by kernel_rfl) (fun _ _ _ h => h) (by rfl) (fun W hS => load_gives 33 (.tmp 4) rfl (w.heap.size + 3) rfl _ (vals .u8 D).toArray (0, 0) _ hS.1.d Try.underlying33 rfl HSD.out ⟨Below.refl _ _, hS⟩) ?_
      simp only [List.setIfInBounds_toArray, List.set_cons_zero, List.set_cons_succ]
      refine extS_take (i := 1) (d := 26) (v := .agg #[x, y]) rfl rfl (by kernel_rfl) (by kernel_rfl) (by kernel_rfl) (fun _ _ _ h => h) (by rfl) (fun W hS => load_gives 64 (.tmp 1) rfl w.heap.size rfl _ #[x, y] (0, 0) _ hS.1.r Try.underlying64 rfl HI64.out ⟨Below.refl _ _, hS⟩) ?_
      simp only [List.setIfInBounds_toArray, List.set_cons_zero, List.set_cons_succ]
      refine extS_one (i := 2) (by kernel_rfl) rfl (fun W7 hb7 hS7 => ?_)
      intro K hK
      rw [if_pos (by rfl)]
      obtain ⟨cs7, hcs7, hcl7⟩ := hS7.1.a
      refine wp_store_row 33 (.tmp 2) (.tmp 25) rfl (w.heap.size + 1) (vals .u8 D).toArray rfl rfl _ cs7 hcs7 HSD.out (by rw [hcl7, List.size_toArray, vals_length, HDL.out]) (all_one (vals_one8 D)) ?_
      obtain ⟨W8, hW8⟩ : ∃ W, W = W7.setRow (w.heap.size + 1) (vals .u8 D).toArray := ⟨_, rfl⟩
      have ho8 : ∀ j, j ≠ w.heap.size + 1 → W8.heap[j]? = W7.heap[j]? := fun j hj => by rw [hW8]; exact setRow_other _ _ j _ hj
      have hA8 : W8.heap[w.heap.size + 1]? = some (.cells (vals .u8 D).toArray 33 (0, 0)) := by rw [hW8]; exact setRow_heap _ _ _ _ _ _ hcs7
      have hb8 : Below w.heap.size W7 W8 := by rw [hW8]; exact ⟨rfl, rfl, rfl, by simp [World.setRow], fun k hk => setRow_other _ _ k _ (by omega)⟩
      have hS8 : DgS w D x y W8 ∧ RdU W8 B (.slice ao5 n5 cap5) r5 := by
        obtain ⟨u, v, he⟩ := hS7.1.e
        exact ⟨⟨hS7.1.b.trans hb8, (ho8 _ (by omega)).trans hS7.1.d, (ho8 _ (by omega)).trans hS7.1.r, ⟨_, hA8, by rw [List.size_toArray, vals_length, HDL.out]⟩, ⟨u, v, (ho8 _ (by omega)).trans he⟩⟩, hS7.2.below (hb8.mono HBS.out)⟩
      rw [← hW8]
      refine hK _ _ hS8 ?_
      clear hK K hcs7 hS7 hb7 ho8 hW8 hb8
      refine extS_one (i := 3) (by kernel_rfl) rfl (fun W9 hb9 hS9 => ?_)
      have hA9 := (hb9.block _ (Array.getElem?_eq_some_iff.1 hA8).1).trans hA8
      intro K hK
      rw [if_pos (by rfl)]
      obtain ⟨u9, v9, he9⟩ := hS9.1.e
      refine wp_store_row 64 (.tmp 3) (.tmp 26) rfl (w.heap.size + 2) #[x, y] rfl rfl _ #[u9, v9] he9 HI64.out rfl (by simp [HOX.out.1, HOX.out.2]) ?_
      obtain ⟨W10, hW10⟩ : ∃ W, W = W9.setRow (w.heap.size + 2) #[x, y] := ⟨_, rfl⟩
      have ho10 : ∀ j, j ≠ w.heap.size + 2 → W10.heap[j]? = W9.heap[j]? := fun j hj => by rw [hW10]; exact setRow_other _ _ j _ hj
      have hE10 : W10.heap[w.heap.size + 2]? = some (.cells #[x, y] 64 (0, 0)) := by rw [hW10]; exact setRow_heap _ _ _ _ _ _ he9
      have hA10 := (ho10 (w.heap.size + 1) (by omega)).trans hA9
      have hb10 : Below w.heap.size W9 W10 := by rw [hW10]; exact ⟨rfl, rfl, rfl, by simp [World.setRow], fun k hk => setRow_other _ _ k _ (by omega)⟩
      have hS10 : DgS w D x y W10 ∧ RdU W10 B (.slice ao5 n5 cap5) r5 :=
        ⟨⟨hS9.1.b.trans hb10, (ho10 _ (by omega)).trans hS9.1.d, (ho10 _ (by omega)).trans hS9.1.r, ⟨_, hA10, by rw [List.size_toArray, vals_length, HDL.out]⟩, ⟨x, y, hE10⟩⟩, hS9.2.below (hb10.mono HBS.out)⟩
      rw [← hW10]
      refine hK _ _ hS10 ?_
      clear hK K he9 hS9 hb9 ho10 hW10 hb10 hA8 hA9
      refine extS_done (by kernel_rfl) (fun w11 hb11 hS11 => ?_) _
      have HA11 := Lib.hid ((hb11.block _ (Array.getElem?_eq_some_iff.1 hA10).1).trans hA10)
      have HE11 := Lib.hid ((hb11.block _ (Array.getElem?_eq_some_iff.1 hE10).1).trans hE10)
      have HS11 := Lib.hid hS11
      clear hb11 hS11 hA10 hE10
      go_wp2
      refine bodyPost_ret (v := .tuple #[.agg (vals .u8 D).toArray, .agg #[x, y]]) (results_row_row rfl _ _ (w.heap.size + 1) (w.heap.size + 2) _ _ _ _ _ _ _ _ rfl rfl HA11.out HE11.out Try.underlying33 rfl HSD.out Try.underlying64 rfl HI64.out) rfl ?_
      have h5 := HS11.out.2
      rw [HN5.out] at h5
      refine ⟨out, ao5, cap5, r5, c5, ?_, HFX5.out, h5, HS11.out.1.b⟩
      rw [HDD.out, HXY.out.1, HXY.out.2, HN5.out]

end Go.Proofs.Ytpebmmhokigglaa
