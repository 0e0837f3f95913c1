/- Package chain: Begin, Find; law 16: Documents. · The document's own chains: Check, Head. -/
import Derived.Test.YtgnalcobcdgnkaaGreatDoorQza
import Derived.Test.YtgnalcobcdgnkaaGreatDoorQx
namespace Go.Proofs.YtgnalcobcdgnkaaGreatDoor
open Go.RowKit

set_option maxHeartbeats 2000000 in
set_option maxRecDepth 100000 in
theorem cbegin_any (v : Value) (rs : List MV) (w : World) (B : Nat → Prop) (h : MsAt w B v rs) :
    Calls Tryz.prog 12 #[v] w fun e w' => e = .returned (.int .i64 (mfd (msOf rs) 0).fro) ∧ Below w.heap.size w w' := by
  obtain ⟨ao, cap, rfl, l1, m1, _⟩ := h.val
  have hmd : mfd (msOf rs) 0 = (mvd rs 0).1 := by unfold mfd; exact mvd_fst rs 0
  rw [hmd]
  by_cases h0 : rs.length = 0
  · obtain rfl : rs = [] := List.length_eq_zero_iff.1 h0
    clear h h0 hmd
    go_enter Tryz.func12, Tryz.ntmps12
    go_wp2
    go_ret
    exact ⟨rfl, Below.refl _ _⟩
  · obtain ⟨b, off, rfl, _, _, hcell⟩ := h.at (i := 0) (by omega)
    have hc := hcell 1 (.int .i64 (mvd rs 0).1.fro) rfl
    rw [Nat.zero_mul, Nat.add_zero] at hc
    obtain ⟨n, hn⟩ : ∃ n, n = rs.length := ⟨_, rfl⟩
    rw [← hn] at h0 ⊢
    have h0b : ((n : Int) == 0) = false := by simp; omega
    have hni : (0 : Int) < (n : Int) := by omega
    clear h hcell hn hmd m1 l1
    go_enter Tryz.func12, Tryz.ntmps12
    go_wp2
    go_ret
    exact ⟨rfl, Below.refl _ _⟩

/-- What Find answers of many. -/
def CFind (rs : List MV) (x : Int) (i k : Int) (b : Bool) : Prop :=
  (∃ j : Nat, j < rs.length ∧ i = (j : Int) ∧ b = true ∧ FindPost (mvd rs j).1.ps x k true ∧ ∀ q, q < j → ∃ z, FindPost (mvd rs q).1.ps x z false) ∨ (i = 0 ∧ k = 0 ∧ b = false ∧ ∀ q, q < rs.length → ∃ z, FindPost (mvd rs q).1.ps x z false)
/-- What Find finds is one only. -/
theorem FindPost.unique {ps : List PT} {x i i' : Int} {b b' : Bool} (h : FindPost ps x i b) (h' : FindPost ps x i' b') : i = i' ∧ b = b' := by
  rcases h with ⟨k, hk, h1, h2, rfl, rfl⟩ | ⟨h1, rfl, rfl⟩ <;> rcases h' with ⟨k', hk', h1', h2', rfl, rfl⟩ | ⟨h1', rfl, rfl⟩
  · rcases Nat.lt_trichotomy k k' with h | h | h
    · rw [h2' k h] at h1; cases h1
    · subst h; exact ⟨rfl, rfl⟩
    · rw [h2 k' h] at h1'; cases h1'
  · rw [h1' k hk] at h1; cases h1
  · rw [h1 k' hk'] at h1'; cases h1'
  · exact ⟨rfl, rfl⟩
def CFindPost (rs : List MV) (x : Int) (w : World) (e : Ending) (w' : World) : Prop := ∃ i k b, CFind rs x i k b ∧ e = .returned (.tuple #[.int .i64 i, .int .i64 k, .bool b]) ∧ Below w.heap.size w w'

set_option maxHeartbeats 4000000 in
set_option maxRecDepth 100000 in
theorem cfind_any (v : Value) (rs : List MV) (x : Int) (w : World) (B : Nat → Prop) (h : MsAt w B v rs) :
    Calls Tryz.prog 15 #[v, .int .i64 x] w (CFindPost rs x w) := by
  obtain ⟨ao, cap, rfl, l1, m1, _⟩ := h.val
  obtain ⟨n, hn⟩ : ∃ n, n = rs.length := ⟨_, rfl⟩
  rw [← hn] at h ⊢
  have HR := Lib.hid h
  have HN := Lib.hid hn
  have hnm : (n : Int) ≤ 9223372036854775807 := by unfold maxLen at m1; omega
  clear h hn l1 m1
  go_enter Tryz.func15, Tryz.ntmps15
  go_wp2
  go_loopw [7, 8, 9, 10, 13] (fun _ _ _ _ iv wr => ∃ k : Nat, k ≤ n ∧ iv = .int .i64 (k : Int) ∧ (∀ q, q < k → ∃ z, FindPost (mvd rs q).1.ps x z false) ∧ Below w.heap.size w wr)
    (fun _ _ _ _ iv _ => n - (intOf iv).toNat)
  case atStart => exact ⟨0, Nat.zero_le _, rfl, fun j hj => absurd hj (Nat.not_lt_zero j), Below.refl _ _⟩
  case round =>
    obtain ⟨k, hk, rfl, hno, hb⟩ := hrel
    have HB := Lib.hid hb
    have HNO := Lib.hid hno
    by_cases hlt : k < n
    rotate_left
    · obtain rfl : k = n := by omega
      clear hb hno
      go_wp2
      go_ret3
      exact ⟨0, 0, false, .inr ⟨rfl, rfl, rfl, fun q hq => HNO.out q (by rw [HN.out]; exact hq)⟩, rfl, HB.out⟩
    have hltr : k < rs.length := by rw [← HN.out]; exact hlt
    have hrr := HR.out.old hb
    obtain ⟨b, off, rfl, _, _, hcell⟩ := hrr.at hltr
    have HCELL := Lib.hid hcell
    have hdg : Dg (mvd rs k).1.prev := hrr.dg k
    have HON := Lib.hid (hrr.one k)
    have HMS : Hid ((Tryz.prog.info? 43).map (·.size) = some (mvRow (mvd rs k)).toArray.size) := Lib.hid (by rw [mvRow_size hdg]; exact Tryz.sizeMF)
    have HML : Hid ((Tryz.prog.info? 43).map (·.size) = some (mvRow (mvd rs k)).length) := Lib.hid (by rw [mvRow_len hdg]; exact Tryz.sizeMF)
    have HSS : Hid ((mvRow (mvd rs k)).toArray.size = 37) := Lib.hid (mvRow_size hdg)
    have HFI : Hid (∀ W, Below wr.heap.size wr W → Calls Tryz.prog 16 #[.agg (mvRow (mvd rs k)).toArray, .int .i64 x] W fun e w' => ∃ i b, FindPost (mvd rs k).1.ps x i b ∧ e = .returned (.tuple #[.int .i64 i, .bool b]) ∧ Below W.heap.size W w') := Lib.hid fun W hb2 => mfind_any _ _ x W B ((hrr.old hb2).ps k) hdg
    obtain ⟨R, hR⟩ : ∃ R, R = mvRow (mvd rs k) := ⟨_, rfl⟩
    rw [← hR] at HCELL HON HMS HML HSS HFI
    have hlti : (k : Int) < (n : Int) := by omega
    have HKL : Hid (k + 1 ≤ n) := Lib.hid hlt
    have HLT : Hid (k < rs.length) := Lib.hid hltr
    clear hb hno hltr hrr hcell hdg hR
    go_wp2_with (first
      | ((with_reducible show wpList _ _ _ (Oper.mk (some 17) _ _ _ _ _ :: _) _ _); go_must (refine wpList_load_at rfl 43 (.tmp 16) rfl b (off + k * 37) rfl R _ HCELL.out Tryz.underlying43 rfl HML.out ?_))
      | ((with_reducible show wpList _ _ _ (Oper.mk none _ _ _ _ _ :: _) _ _); go_must (refine wpList_store_new rfl 43 (.tmp 8) (.tmp 17) rfl wr _ R.toArray rfl rfl _ HMS.out (by rw [HSS.out]; rfl) HON.out ?_)))
    intro W2 hq2 hb2 hs2
    have HQ2 := Lib.hid hq2
    have HB2 := Lib.hid (HB.out.trans (hb2.mono HB.out.size))
    have HF2 := Lib.hid (HFI.out W2 hb2)
    clear hq2 hb2 hs2
    go_wp2_with ((with_reducible show wpList _ _ _ (Oper.mk (some 19) _ _ _ _ _ :: _) _ _); go_must (refine wpList_load_row rfl 43 (.tmp 8) rfl wr.heap.size rfl _ R.toArray _ _ HQ2.out Tryz.underlying43 rfl HMS.out ?_))
    refine HF2.out.mono ?_
    rintro e w3 ⟨i, z, hfp, rfl, hb3⟩
    have HFP := Lib.hid hfp
    have HB3 := Lib.hid (HB2.out.trans (hb3.mono HB2.out.size))
    clear hb3 hfp
    cases z
    · have HNX : Hid (∀ q, q < k + 1 → ∃ z, FindPost (mvd rs q).1.ps x z false) := Lib.hid fun q hq => by
        by_cases hqk : q < k
        · exact HNO.out q hqk
        · obtain rfl : q = k := by omega
          exact ⟨_, HFP.out⟩
      go_wp2
      go_roundw
      case rel => exact ⟨k + 1, HKL.out, by go_num, HNX.out, HB3.out⟩
      case measure => have := HKL.out; simp [intOf]; omega
    · go_wp2
      go_ret3
      exact ⟨(k : Int), i, true, .inl ⟨k, HLT.out, rfl, rfl, HFP.out, HNO.out⟩, rfl, HB3.out⟩

theorem Tryz.infoMFD : (Tryz.prog.info? 54).map (fun i => (i.zero, i.size, i.bytes)) = some (some (.agg (mfRow mf0 (.slice none 0 0)).toArray), 37, 88) := by kernel_rfl
def DocsPost (rs : List MV) (w : World) (e : Ending) (w' : World) : Prop := ∃ v' rs', e = .returned v' ∧ msOf rs' = msOf rs ∧ MsAt w' (fun _ => True) v' rs' ∧ Below w.heap.size w w'
theorem msOf_snoc_take {rs rs' : List MV} {k : Nat} {u : Value} (h : msOf rs' = (msOf rs).take k) (hk : k < rs.length) : msOf (rs' ++ [((mvd rs k).1, u)]) = (msOf rs).take (k + 1) := by
  rw [msOf_app, h, List.take_succ_eq_append_getElem (by rw [msOf_length]; exact hk)]
  congr 1
  have := mvd_get hk
  unfold msOf
  simp only [List.map_cons, List.map_nil, List.getElem_map]
  rw [List.getElem?_eq_getElem hk] at this
  rw [Option.some.inj this]

set_option maxHeartbeats 8000000 in
set_option maxRecDepth 100000 in
theorem documents16_any (v : Value) (rs : List MV) (w : World) (B : Nat → Prop) (h : MsAt w B v rs) (hl : rs.length ≤ 12) (hp : ∀ m ∈ msOf rs, m.ps.length ≤ 12) :
    Calls Tryz.prog 6 #[v] w (DocsPost rs w) := by
  obtain ⟨ao, cap, rfl, l1, m1, _⟩ := h.val
  obtain ⟨n, hn⟩ : ∃ n, n = rs.length := ⟨_, rfl⟩
  rw [← hn] at h hl ⊢
  obtain ⟨W1, hW1⟩ : ∃ W, W = w.alloc (.cells #[] 54) := ⟨_, rfl⟩
  have hb1 : Below w.heap.size w W1 := by rw [hW1]; exact (Below.refl _ _).alloc (Nat.le_refl _) _
  have he1 : MsOwn W1 w.heap.size 54 (.slice (some ⟨w.heap.size, 0, none⟩) 0 0) [] := ⟨by rw [hW1]; exact recOwn_empty w w.heap.size 54 37 (Nat.le_refl _), by simp⟩
  have HE1 := Lib.hid he1
  have HB1 := Lib.hid hb1
  have HR := Lib.hid h
  have HN := Lib.hid hn
  have HL := Lib.hid hl
  have HP := Lib.hid hp
  have hn12 : (n : Int) ≤ 12 := by omega
  have HW1 := Lib.hid hW1
  clear h hn l1 m1 hW1 hb1 he1 hl hp
  go_enter Tryz.func6, Tryz.ntmps6
  go_wp2
  rw [← HW1.out]
  go_loopw [3, 5, 9] (fun tv _ iv wr => ∃ (k : Nat) (rs' : List MV), k ≤ n ∧ iv = .int .i64 (k : Int) ∧ rs'.length = k ∧ msOf rs' = (msOf rs).take k ∧ MsOwn wr w.heap.size 54 tv rs' ∧ Below w.heap.size w wr)
    (fun _ _ iv _ => n - (intOf iv).toNat)
  case atStart => exact ⟨0, [], Nat.zero_le _, rfl, rfl, by rw [List.take_zero]; rfl, HE1.out, HB1.out⟩
  case round =>
    obtain ⟨k, rs', hk, rfl, hlen, hms, hown, hb⟩ := hrel
    have HB := Lib.hid hb
    have HMS' := Lib.hid hms
    have HOW := Lib.hid hown
    have HLEN := Lib.hid hlen
    by_cases hlt : k < n
    rotate_left
    · obtain rfl : k = n := by omega
      have HFIN : Hid (msOf rs' = msOf rs) := Lib.hid (by rw [HMS'.out, HN.out, ← msOf_length, List.take_length])
      clear hb hms hown hlen
      go_wp2
      go_ret
      exact ⟨_, rs', rfl, HFIN.out, HOW.out.all, HB.out⟩
    obtain ⟨aot, capt, htv, _, _, _⟩ := hown.rows.val
    rw [List.length_map, hlen] at htv
    subst htv
    have hltr : k < rs.length := by rw [← HN.out]; exact hlt
    have hrr := HR.out.old hb
    obtain ⟨b, off, rfl, _, _, hcell⟩ := hrr.at hltr
    have HCELL := Lib.hid hcell
    have hdg : Dg (mvd rs k).1.prev := hrr.dg k
    have HDG := Lib.hid hdg
    have HON := Lib.hid (hrr.one k)
    have HMS : Hid ((Tryz.prog.info? 43).map (·.size) = some (mvRow (mvd rs k)).toArray.size) := Lib.hid (by rw [mvRow_size hdg]; exact Tryz.sizeMF)
    have HML : Hid ((Tryz.prog.info? 43).map (·.size) = some (mvRow (mvd rs k)).length) := Lib.hid (by rw [mvRow_len hdg]; exact Tryz.sizeMF)
    have HSS : Hid ((mvRow (mvd rs k)).toArray.size = 37) := Lib.hid (mvRow_size hdg)
    have HDO : Hid (∀ W, Below wr.heap.size wr W → Calls Tryz.prog 18 #[.agg (mvRow (mvd rs k)).toArray] W fun e w' => ∃ ao cap, e = .returned (.agg (mfRow (mvd rs k).1 (.slice ao (mvd rs k).1.ps.length cap)).toArray) ∧ PsAt w' (fun j => W.heap.size ≤ j) (.slice ao (mvd rs k).1.ps.length cap) (mvd rs k).1.ps ∧ Below W.heap.size W w') := Lib.hid fun W hb2 => document15_any _ _ W B ((hrr.old hb2).ps k) hdg (by
      have := HP.out (mvd rs k).1 (List.mem_map_of_mem (mvd_mem hltr))
      omega)
    have HSN : Hid (∀ u, msOf (rs' ++ [((mvd rs k).1, u)]) = (msOf rs).take (k + 1)) := Lib.hid fun u => msOf_snoc_take HMS'.out hltr
    obtain ⟨R, hR⟩ : ∃ R, R = mvRow (mvd rs k) := ⟨_, rfl⟩
    rw [← hR] at HCELL HON HMS HML HSS HDO
    generalize (mvd rs k).1 = M at HDG HDO HSN
    have hlti : (k : Int) < (n : Int) := by omega
    have HKL : Hid (k + 1 ≤ n) := Lib.hid hlt
    clear hb hms hown hltr hrr hcell hdg hR hlen
    go_wp2_with (first
      | ((with_reducible show wpList _ _ _ (Oper.mk (some 12) _ _ _ _ _ :: _) _ _); go_must (refine wpList_load_at rfl 43 (.tmp 11) rfl b (off + k * 37) rfl R _ HCELL.out Tryz.underlying43 rfl HML.out ?_))
      | ((with_reducible show wpList _ _ _ (Oper.mk none _ _ _ _ _ :: _) _ _); go_must (refine wpList_store_new rfl 43 (.tmp 5) (.tmp 12) rfl wr _ R.toArray rfl rfl _ HMS.out (by rw [HSS.out]; rfl) HON.out ?_)))
    intro W2 hq2 hb2 hs2
    have HQ2 := Lib.hid hq2
    have HB2 := Lib.hid (HB.out.trans (hb2.mono HB.out.size))
    have HO2 := Lib.hid (HOW.out.old hb2)
    have HD2 := Lib.hid (HDO.out W2 hb2)
    clear hq2 hb2 hs2
    go_wp2_with ((with_reducible show wpList _ _ _ (Oper.mk (some 14) _ _ _ _ _ :: _) _ _); go_must (refine wpList_load_row rfl 43 (.tmp 5) rfl wr.heap.size rfl _ R.toArray _ _ HQ2.out Tryz.underlying43 rfl HMS.out ?_))
    refine HD2.out.mono ?_
    rintro e w3 ⟨o3, c3, rfl, hps3, hb3⟩
    obtain ⟨np, hnp⟩ : ∃ j, j = M.ps.length := ⟨_, rfl⟩
    rw [← hnp] at hps3 ⊢
    obtain ⟨Q, hQ⟩ : ∃ Q, Q = mfRow M (.slice o3 np c3) := ⟨_, rfl⟩
    have hr37 : Q.length = 37 := by rw [hQ, mfRow_len _ HDG.out]
    have HRL := Lib.hid (fold_put37 hr37)
    obtain ⟨W4, hW4⟩ : ∃ W, W = w3.alloc (.cells Q.toArray 54) := ⟨_, rfl⟩
    have hb4 : Below w3.heap.size w3 W4 := by rw [hW4]; exact (Below.refl _ _).alloc (Nat.le_refl _) _
    have HO4 := Lib.hid ((HO2.out.old hb3).old hb4)
    have HPS4 := Lib.hid (hps3.old hb4)
    have HB4 := Lib.hid ((HB2.out.trans (hb3.mono HB2.out.size)).trans (hb4.mono (Nat.le_trans HB2.out.size hb3.size)))
    have HRC : Hid (∀ j u, Q[j]? = some u → W4.cell? ((⟨w3.heap.size, 0, none⟩ : Addr).add j) = some u) := Lib.hid (by rw [hW4]; exact rec_cell w3 Q _)
    have HQ1 : Hid (∀ u ∈ Q, u.oneCell' = true) := Lib.hid (by rw [hQ]; exact mfRow_one _ rfl)
    have HLN : Hid ((rs'.map mvRow).length + 1 ≤ maxLen ∧ ((rs'.map mvRow).length + 1) * 88 ≤ 140737488355328) := Lib.hid (by rw [List.length_map, HLEN.out]; have := HKL.out; have := HL.out; unfold maxLen; omega)
    have HW4 := Lib.hid hW4
    have HQE := Lib.hid hQ
    have HNPE := Lib.hid hnp
    have HSZ2 : Hid (w.heap.size ≤ W2.heap.size) := Lib.hid HB2.out.size
    have HOB2 : Hid (∀ j, (Value.slice aot k capt).ownBlock = some j → j < W2.heap.size) := Lib.hid fun j hj => (HO2.out.rows.block hj).2.1
    rw [← hQ]
    clear hps3 hb3 hQ hW4 hb4 hnp
    go_wp2_with (at_builtin; rw [HRL.out, ← HW4.out]; go_must (refine wpList_appRec _ rfl _ _ 25 rfl w.heap.size 54 (.agg (mfRow mf0 (.slice none 0 0)).toArray) 37 88 Tryz.underlying25 Tryz.infoMFD (by kernel_rfl) (by decide) (.slice aot k capt) (rs'.map mvRow) rfl HO4.out.rows Q hr37 HQ1.out ⟨w3.heap.size, 0, none⟩ rfl HRC.out HLN.out.1 HLN.out.2 HB4.out.size ?_))
    intro v5 w5 ho5 hg5 hl5
    have HM5 : Hid (MsOwn w5 w.heap.size 54 v5 (rs' ++ [(M, .slice o3 np c3)])) := Lib.hid (HO4.out.app (by
      rw [List.map_append]
      rw [HQE.out] at ho5
      exact ho5) hg5 hl5 (fun r hr => by
      obtain rfl := List.mem_singleton.1 hr
      exact ⟨by
        rw [HNPE.out] at HPS4 ⊢
        exact HPS4.out.mono fun j _ hj e => by have := HOB2.out j e; omega, HDG.out⟩))
    have HB5 := Lib.hid (HB4.out.grown hg5 HB4.out.size (fun j hj => (HO4.out.rows.block hj).1))
    clear ho5 hg5 hl5 hr37
    go_wp2
    go_roundw
    case rel => exact ⟨k + 1, _, HKL.out, by go_num, by rw [List.length_append, HLEN.out]; rfl, HSN.out _, HM5.out, HB5.out⟩
    case measure => have := HKL.out; simp [intOf]; omega

end Go.Proofs.YtgnalcobcdgnkaaGreatDoor

namespace Go.Proofs.YtgnalcobcdgnkaaGreatDoor
open Go.RowKit

theorem folD_zero {l : List MF} : folD l 0 ↔ (mfd l 0).num = 0 := by
  unfold folD
  constructor
  · rintro ⟨h, _⟩; exact h
  · intro h; exact ⟨h, .inl rfl⟩
theorem folD_pos {l : List MF} {k : Nat} (hk : k ≠ 0) : folD l k ↔ (mfd l k).num = (k : Int) ∧ (mfd l k).fro = (mfd l (k - 1)).upto ∧ (mfd l (k - 1)).trim ≤ (mfd l k).trim ∧ (mfd l k).prev = mdig (mfd l (k - 1)) := by
  unfold folD
  constructor
  · rintro ⟨h1, h2 | h2⟩
    · exact absurd h2 hk
    · exact ⟨h1, h2⟩
  · rintro ⟨h1, h2⟩; exact ⟨h1, .inr h2⟩
instance (l : List MF) (k : Nat) : Decidable (folD l k) := by unfold folD; exact inferInstance
theorem eql_digestsD (a b : List Nat) (ha : a.length = 32) (hb : b.length = 32) (w : World) : (binOp .eql 37 (.agg (vals .u8 a).toArray) (.agg (vals .u8 b).toArray)).run Tryz.prog w = .ok (.bool (a == b)) w := by
  have this : (Op.equal 37 (.agg (vals .u8 a).toArray) (.agg (vals .u8 b).toArray)).run Tryz.prog w = .ok (a == b) w := eq_digestsD a b ha hb w
  simp [binOp, this]
def RChkPost (l : List MF) (w : World) (e : Ending) (w' : World) : Prop := ∃ n c : Nat, CChk l n c ∧ e = .returned (.tuple #[.int .i64 (n : Int), .int .i64 (c : Int)]) ∧ Below w.heap.size w w'

set_option maxHeartbeats 16000000 in
set_option maxRecDepth 100000 in
theorem rccheck_any (v : Value) (rs : List MV) (w : World) (B : Nat → Prop) (h : MsAt w B v rs) (hl : rs.length ≤ 12) :
    Calls Tryz.prog 8 #[v] w (RChkPost (msOf rs) w) := by
  obtain ⟨ao, cap, rfl, l1, m1, _⟩ := h.val
  obtain ⟨l, hll⟩ : ∃ l, l = msOf rs := ⟨_, rfl⟩
  obtain ⟨n, hn⟩ : ∃ n, n = rs.length := ⟨_, rfl⟩
  have hlen : l.length = n := by rw [hll, hn, msOf_length]
  rw [← hll]
  rw [← hn] at h hl ⊢
  have HR := Lib.hid h
  have HN := Lib.hid hn
  have HLE := Lib.hid hlen
  have HM : Hid (∀ i, mfd l i = (mvd rs i).1) := Lib.hid fun i => by rw [hll]; unfold mfd; exact mvd_fst rs i
  have HMX : Hid (Tryz.prog.follows .mixedOrders = true) := Lib.hid (by kernel_rfl)
  have hn12 : (n : Int) ≤ 12 := by omega
  clear h hn l1 m1 hlen hll hl
  go_enter Tryz.func8, Tryz.ntmps8
  go_wp2
  go_loopw [4, 5, 6, 7] (fun iv _ _ _ wr => ∃ k : Nat, k ≤ n ∧ iv = .int .i64 (k : Int) ∧ (∀ j, j < k → cerr l j = 0) ∧ Below w.heap.size w wr)
    (fun iv _ _ _ _ => n - (intOf iv).toNat)
  case atStart => exact ⟨0, Nat.zero_le _, rfl, fun j hj => absurd hj (Nat.not_lt_zero j), Below.refl _ _⟩
  case round =>
    obtain ⟨k, hk, rfl, hno, hb⟩ := hrel
    have HB := Lib.hid hb
    have HNO := Lib.hid hno
    by_cases hlt : k < n
    rotate_left
    · obtain rfl : k = n := by omega
      have HFIN : Hid (CChk l k 0) := Lib.hid ⟨HNO.out, .inl ⟨HLE.out.symm, rfl⟩⟩
      clear hb hno
      go_wp2
      go_ret2
      exact ⟨k, 0, HFIN.out, rfl, HB.out⟩
    have hltr : k < rs.length := by rw [← HN.out]; exact hlt
    have hrr := HR.out.old hb
    obtain ⟨b, off, rfl, hq, _, hcell⟩ := hrr.at hltr
    have HCELL := Lib.hid hcell
    have HRR := Lib.hid hrr
    have hdg : Dg (mvd rs k).1.prev := hrr.dg k
    have HML : Hid ((Tryz.prog.info? 54).map (·.size) = some (mvRow (mvd rs k)).length) := Lib.hid (by rw [mvRow_len hdg]; exact Tryz.sizeMFD)
    have HCK := Lib.hid (rmcheck_any (mvd rs k).1 (mvd rs k).2 wr B (hrr.ps k) hdg)
    have HC : Hid (∀ W, Below wr.heap.size wr W → ∀ j u, (mvRow (mvd rs k))[j]? = some u → W.cell? ⟨b, off + k * 37 + j, none⟩ = some u) := Lib.hid fun W hb j u hu => (hb.cell (p := ⟨b, off + k * 37 + j, none⟩) hq).trans (hcell j u hu)
    have HQL := Lib.hid hq
    have hlti : (k : Int) < (n : Int) := by omega
    have HKL : Hid (k + 1 ≤ n) := Lib.hid hlt
    have HKB : Hid (k < l.length) := Lib.hid (by rw [HLE.out]; exact hlt)
    have HLR := Lib.hid hltr
    obtain ⟨z, hz⟩ : ∃ z, z = mchk (mvd rs k).1 := ⟨_, rfl⟩
    rw [← hz] at HCK
    have HZ : Hid (z = mchk (mfd l k)) := Lib.hid (by rw [HM.out]; exact hz)
    have HDG := Lib.hid hdg
    have HCK' : Hid (Calls Tryz.prog 21 #[.agg (mvRow (mvd rs k)).toArray] wr fun e w' => e = .returned (.int .i64 (z : Int)) ∧ Below wr.heap.size wr w') := Lib.hid HCK.out
    obtain ⟨R, hR⟩ : ∃ R, R = mvRow (mvd rs k) := ⟨_, rfl⟩
    rw [← hR] at HCELL HML HCK'
    clear hb hno hrr hcell hdg hR hz HCK hq hltr
    go_wp2_with ((with_reducible show wpList _ _ _ (Oper.mk (some 17) _ _ _ _ _ :: _) _ _); go_must (refine wpList_load_at rfl 54 (.tmp 16) rfl b (off + k * 37) rfl R _ HCELL.out Tryz.underlying54 rfl HML.out ?_))
    refine HCK'.out.mono ?_
    rintro e w4 ⟨rfl, hb4⟩
    have HB4 := Lib.hid hb4
    have HBW4 := Lib.hid (HB.out.trans (hb4.mono HB.out.size))
    by_cases hz0 : z = 0
    rotate_left
    · have hzb : ((z : Int) != 0) = true := by simp; omega
      have HFIN : Hid (CChk l k z) := Lib.hid ⟨HNO.out, .inr ⟨HKB.out, by rw [cerr_bad (by rw [← HZ.out]; exact hz0), HZ.out], hz0⟩⟩
      clear hb4 hz0
      go_wp2
      go_ret2
      exact ⟨k, z, HFIN.out, rfl, HBW4.out⟩
    have HZ0 : Hid (mchk (mfd l k) = 0) := Lib.hid (by rw [← HZ.out]; exact hz0)
    have hzb : ((z : Int) != 0) = false := by simp [hz0]
    have hc0 := HC.out w4 hb4 0 (.int .i64 (mvd rs k).1.num) rfl
    rw [Nat.add_zero] at hc0
    obtain ⟨M, hM⟩ : ∃ M, M = (mvd rs k).1 := ⟨_, rfl⟩
    rw [← hM] at hc0
    have HMM : Hid (mfd l k = M) := Lib.hid (by rw [HM.out, hM])
    have HME := Lib.hid hM
    have HMG : Hid (Dg M.prev) := Lib.hid (by rw [hM]; exact HDG.out)
    obtain ⟨Y, hY⟩ : ∃ Y, Y = decide (folD l k) := ⟨_, rfl⟩
    have HYY := Lib.hid hY
    clear hb4 hz0 hM hY
    go_upto_if 31 with fail
    go_cut [6] from 7 to 71 (fun ov wx => ov = .bool Y ∧ Below wr.heap.size wr wx)
    case first =>
      by_cases hk0 : k = 0
      · have HY : Hid (Y = (M.num == 0)) := Lib.hid (by
          rw [HYY.out, hk0, Bool.eq_iff_iff, decide_eq_true_iff, folD_zero, ← hk0, HMM.out]
          simp)
        have hkg : ¬ (0 : Int) < (k : Int) := by omega
        subst hk0
        clear hc0
        go_wp2
        go_meet
        case rel => exact ⟨by rw [HY.out], HB4.out⟩
      have hkp : (0 : Int) < (k : Int) := by omega
      have HK0 := Lib.hid hk0
      have HFP := Lib.hid (folD_pos (l := l) hk0)
      have hl1 : k - 1 < rs.length := by have := HLR.out; omega
      obtain ⟨b', off', hbo, hq', _, hcell'⟩ := (HRR.out.old HB4.out).at hl1
      cases hbo
      have hdg' : Dg (mvd rs (k - 1)).1.prev := HRR.out.dg _
      have HCELL' := Lib.hid hcell'
      have HPL : Hid ((Tryz.prog.info? 54).map (·.size) = some (mvRow (mvd rs (k - 1))).length) := Lib.hid (by rw [mvRow_len hdg']; exact Tryz.sizeMFD)
      have HPM : Hid ((Tryz.prog.info? 54).map (·.size) = some (mvRow (mvd rs (k - 1))).toArray.size) := Lib.hid (by rw [mvRow_size hdg']; exact Tryz.sizeMFD)
      have HPS : Hid ((mvRow (mvd rs (k - 1))).toArray.size = 37) := Lib.hid (mvRow_size hdg')
      have HPO := Lib.hid (HRR.out.one (k - 1))
      have HPE : Hid (mvRow (mvd rs (k - 1)) = mfRow (mvd rs (k - 1)).1 (mvd rs (k - 1)).2) := Lib.hid rfl
      have hwk : wrap64 ((k : Int) - 1) = ((k - 1 : Nat) : Int) := by rw [IntWalk.wrap64_in _ (by omega)]; omega
      have hk1 : ((k - 1 : Nat) : Int) < (n : Int) := by omega
      have hk2 : (k : Int) - 1 < (n : Int) := by omega
      have hk3 : 0 ≤ (k : Int) - 1 := by omega
      obtain ⟨P, hP⟩ : ∃ P, P = mvRow (mvd rs (k - 1)) := ⟨_, rfl⟩
      rw [← hP] at HCELL' HPL HPM HPS HPO HPE
      have HPS' : Hid (∀ W, Below w4.heap.size w4 W → PsAt W B (mvd rs (k - 1)).2 (mvd rs (k - 1)).1.ps) := Lib.hid fun W hb => ((HRR.out.old HB4.out).old hb).ps _
      have HMD' := Lib.hid hdg'
      clear hcell' hdg' hP hq' hl1
      go_wp2_with (first
        | ((with_reducible show wpList _ _ _ (Oper.mk (some 36) _ _ _ _ _ :: _) _ _); go_must (refine wpList_load_at rfl 54 (.tmp 35) rfl b (off + (k - 1) * 37) rfl P _ HCELL'.out Tryz.underlying54 rfl HPL.out ?_))
        | ((with_reducible show wpList _ _ _ (Oper.mk none _ _ _ _ _ :: _) _ _); go_must (refine wpList_store_new rfl 54 (.tmp 7) (.tmp 36) rfl w4 _ P.toArray rfl rfl _ HPM.out (by rw [HPS.out]; rfl) HPO.out ?_)))
      intro w6 hq6 hb6 hs6
      have HB46 := Lib.hid hb6
      have HB6 := Lib.hid (HB4.out.trans (hb6.mono HB4.out.size))
      obtain ⟨q7, hq7⟩ : ∃ q, q = w4.heap.size := ⟨_, rfl⟩
      rw [← hq7] at hq6 ⊢
      have HQP : Hid (∀ W, Below w6.heap.size w6 W → W.heap[q7]? = some (.cells P.toArray 54 (0, 0))) := Lib.hid fun W hb => (hb.block _ (by omega)).trans hq6
      have hpm : mfd l (k - 1) = (mvd rs (k - 1)).1 := HM.out _
      have HMZ' : Hid (mchk (mfd l (k - 1)) = 0) := Lib.hid (cerr_zero (HNO.out (k - 1) (by have := HK0.out; omega))).1
      obtain ⟨M', hM'⟩ : ∃ M, M = (mvd rs (k - 1)).1 := ⟨_, rfl⟩
      rw [← hM'] at hpm HPS' HMD' HPE
      rw [hpm] at HMZ' HFP
      rw [HMM.out] at HFP
      have HPS'' := Lib.hid fun W (hb : Below w6.heap.size w6 W) => HPS'.out W (HB46.out.trans (hb.mono HB46.out.size))
      clear HPS'
      have HPS' := HPS''
      have HPUT : Hid (∀ W, Below w6.heap.size w6 W → Calls Tryz.prog 23 #[.agg P.toArray] W fun e w' => ∃ v', e = .returned v' ∧ Owns w' W.heap.size 5 .u8 v' (fr (mtext M')) ∧ Below W.heap.size W w') := Lib.hid fun W hb => by
        rw [HPE.out]
        exact rmput_any M' _ W B (HPS'.out W hb) HMD'.out HMZ'.out
      have HCS : Hid (∀ W, Below w6.heap.size w6 W → W.cell? ⟨b, off + k * 37 + 1, none⟩ = some (.int .i64 M.fro) ∧ W.cell? ⟨b, off + k * 37 + 3, none⟩ = some (.int .i64 M.trim) ∧ W.cell? ⟨q7, 2, none⟩ = some (.int .i64 M'.upto) ∧ W.cell? ⟨q7, 3, none⟩ = some (.int .i64 M'.trim)) := Lib.hid fun W hb => by
        have hbw : Below wr.heap.size wr W := HB6.out.trans (hb.mono HB6.out.size)
        have hmb : MB W q7 M' (mvd rs (k - 1)).2 54 := by
          have := HQP.out W hb
          rw [HPE.out] at this
          exact this
        obtain ⟨_, _, c2, c3, _⟩ := hmb.x HMD'.out
        refine ⟨?_, ?_, c2, c3⟩
        · rw [HME.out]; exact HC.out W hbw 1 _ rfl
        · rw [HME.out]; exact HC.out W hbw 3 _ rfl
      have HPV : Hid (∀ W, Below w6.heap.size w6 W → ∀ j u, (vals .u8 M.prev)[j]? = some u → W.cell? ⟨b, off + k * 37 + 4 + j, none⟩ = some u) := Lib.hid fun W hb j u hu => by
        rw [Nat.add_assoc]
        refine HC.out W (HB6.out.trans (hb.mono HB6.out.size)) (4 + j) u ?_
        rw [HME.out] at hu
        exact mfRow_prev _ j u hu
      have HDS : Hid ((Tryz.prog.info? 37).map (·.size) = some (vals .u8 M.prev).length) := Lib.hid (by rw [vals_length, HMG.out.1]; exact Tryz.sizeDGD)
      have HBY' := Lib.hid (man_bytes HMZ'.out ⟨HMD'.out, (HPS'.out w6 (Below.refl _ _)).2⟩)
      obtain ⟨G, hG⟩ : ∃ G, G = mdig M' := ⟨_, rfl⟩
      have HGE : Hid (shaOf shaK shaH (fr (mtext M')) = G) := Lib.hid hG.symm
      have HEQ := Lib.hid fun W => eql_digestsD M.prev G HMG.out.1 (by rw [hG]; exact (mdig_dg _).1) W
      rw [← hG] at HFP
      obtain ⟨pq, hpq⟩ : ∃ x, x = (M.prev == G) := ⟨_, rfl⟩
      rw [← hpq] at HEQ
      have HPQ := Lib.hid hpq
      clear hq6 hb6 hs6 hq7 hpm hM' hG hpq hc0 hwk hk2 hk3 hk1
      by_cases g1 : M.num = (k : Int)
      rotate_left
      · have g1b : (M.num == (k : Int)) = false := by simp [g1]
        have HY : Hid (Y = false) := Lib.hid (by rw [HYY.out]; exact decide_eq_false fun h => g1 (HFP.out.1 h).1)
        clear g1
        rw [g1b]
        go_upto_region 10 with fail
        refine wp_region_extS (fun W => Below w6.heap.size w6 W) (Below.refl _ _).drew HMX.out ?_
        refine extS_take (i := 0) (d := 37) (v := ?_) rfl rfl (by kernel_rfl) (by kernel_rfl) (by kernel_rfl) (fun _ _ _ h => h) (by rfl) (fun W hS => ?_) ?_
        rotate_left
        · skip
          refine gives_value (w := W) ⟨Below.refl _ _, hS⟩ ?_; go_simp; try with_reducible rfl
        simp only [List.setIfInBounds_toArray, List.set_cons_zero, List.set_cons_succ]
        refine extS_take (i := 1) (d := 38) (v := ?_) rfl rfl (by kernel_rfl) (by kernel_rfl) (by kernel_rfl) (fun _ _ _ h => h) (by rfl) (fun W hS => ?_) ?_
        rotate_left
        · skip
          refine gives_value (w := W) ⟨Below.refl _ _, hS⟩ ?_; go_simp; try with_reducible rfl
        simp only [List.setIfInBounds_toArray, List.set_cons_zero, List.set_cons_succ]
        refine extS_skip (i := 2) (d := 39) rfl rfl (by kernel_rfl) (by kernel_rfl) (by kernel_rfl) (fun _ _ _ h => h) (by rfl) ?_
        simp only [List.setIfInBounds_toArray, List.set_cons_zero, List.set_cons_succ]
        refine extS_skip (i := 3) (d := 40) rfl rfl (by kernel_rfl) (by kernel_rfl) (by kernel_rfl) (fun _ _ _ h => h) (by rfl) ?_
        simp only [List.setIfInBounds_toArray, List.set_cons_zero, List.set_cons_succ]
        refine extS_skip (i := 4) (d := 41) rfl rfl (by kernel_rfl) (by kernel_rfl) (by kernel_rfl) (fun _ _ _ h => h) (by rfl) ?_
        simp only [List.setIfInBounds_toArray, List.set_cons_zero, List.set_cons_succ]
        refine extS_skip (i := 5) (d := 42) rfl rfl (by kernel_rfl) (by kernel_rfl) (by kernel_rfl) (fun _ _ _ h => h) (by rfl) ?_
        simp only [List.setIfInBounds_toArray, List.set_cons_zero, List.set_cons_succ]
        refine extS_skip (i := 6) (d := 43) rfl rfl (by kernel_rfl) (by kernel_rfl) (by kernel_rfl) (fun _ _ _ h => h) (by rfl) ?_
        simp only [List.setIfInBounds_toArray, List.set_cons_zero, List.set_cons_succ]
        refine extS_skip (i := 7) (d := 44) rfl rfl (by kernel_rfl) (by kernel_rfl) (by kernel_rfl) (fun _ _ _ h => h) (by rfl) ?_
        simp only [List.setIfInBounds_toArray, List.set_cons_zero, List.set_cons_succ]
        refine extS_skip (i := 8) (d := 45) rfl rfl (by kernel_rfl) (by kernel_rfl) (by kernel_rfl) (fun _ _ _ h => h) (by rfl) ?_
        simp only [List.setIfInBounds_toArray, List.set_cons_zero, List.set_cons_succ]
        refine extS_skip (i := 9) (d := 46) rfl rfl (by kernel_rfl) (by kernel_rfl) (by kernel_rfl) (fun _ _ _ h => h) (by rfl) ?_
        simp only [List.setIfInBounds_toArray, List.set_cons_zero, List.set_cons_succ]
        refine extS_take (i := 10) (d := 47) (v := ?_) rfl rfl (by kernel_rfl) (by kernel_rfl) (by kernel_rfl) (fun _ _ _ h => h) (by rfl) (fun W hS => ?_) ?_
        rotate_left
        · skip
          refine gives_value (w := W) ⟨Below.refl _ _, hS⟩ ?_; go_simp; try with_reducible rfl
        simp only [List.setIfInBounds_toArray, List.set_cons_zero, List.set_cons_succ]
        refine extS_take (i := 11) (d := 48) (v := ?_) rfl rfl (by kernel_rfl) (by kernel_rfl) (by kernel_rfl) (fun _ _ _ h => h) (by rfl) (fun W hS => ?_) ?_
        rotate_left
        · skip
          refine gives_value (w := W) ⟨Below.refl _ _, hS⟩ ?_; go_simp; try with_reducible rfl
        simp only [List.setIfInBounds_toArray, List.set_cons_zero, List.set_cons_succ]
        refine extS_skip (i := 12) (d := 49) rfl rfl (by kernel_rfl) (by kernel_rfl) (by kernel_rfl) (fun _ _ _ h => h) (by rfl) ?_
        simp only [List.setIfInBounds_toArray, List.set_cons_zero, List.set_cons_succ]
        refine extS_skip (i := 13) (d := 50) rfl rfl (by kernel_rfl) (by kernel_rfl) (by kernel_rfl) (fun _ _ _ h => h) (by rfl) ?_
        simp only [List.setIfInBounds_toArray, List.set_cons_zero, List.set_cons_succ]
        refine extS_skip (i := 14) (d := 51) rfl rfl (by kernel_rfl) (by kernel_rfl) (by kernel_rfl) (fun _ _ _ h => h) (by rfl) ?_
        simp only [List.setIfInBounds_toArray, List.set_cons_zero, List.set_cons_succ]
        refine extS_skip (i := 15) (d := 52) rfl rfl (by kernel_rfl) (by kernel_rfl) (by kernel_rfl) (fun _ _ _ h => h) (by rfl) ?_
        simp only [List.setIfInBounds_toArray, List.set_cons_zero, List.set_cons_succ]
        refine extS_skip (i := 16) (d := 53) rfl rfl (by kernel_rfl) (by kernel_rfl) (by kernel_rfl) (fun _ _ _ h => h) (by rfl) ?_
        simp only [List.setIfInBounds_toArray, List.set_cons_zero, List.set_cons_succ]
        refine extS_skip (i := 17) (d := 54) rfl rfl (by kernel_rfl) (by kernel_rfl) (by kernel_rfl) (fun _ _ _ h => h) (by rfl) ?_
        simp only [List.setIfInBounds_toArray, List.set_cons_zero, List.set_cons_succ]
        refine extS_skip (i := 18) (d := 55) rfl rfl (by kernel_rfl) (by kernel_rfl) (by kernel_rfl) (fun _ _ _ h => h) (by rfl) ?_
        simp only [List.setIfInBounds_toArray, List.set_cons_zero, List.set_cons_succ]
        refine extS_skip (i := 19) (d := 56) rfl rfl (by kernel_rfl) (by kernel_rfl) (by kernel_rfl) (fun _ _ _ h => h) (by rfl) ?_
        simp only [List.setIfInBounds_toArray, List.set_cons_zero, List.set_cons_succ]
        refine extS_take (i := 20) (d := 57) (v := ?_) rfl rfl (by kernel_rfl) (by kernel_rfl) (by kernel_rfl) (fun _ _ _ h => h) (by rfl) (fun W hS => ?_) ?_
        rotate_left
        · skip
          refine gives_value (w := W) ⟨Below.refl _ _, hS⟩ ?_; go_simp; try with_reducible rfl
        simp only [List.setIfInBounds_toArray, List.set_cons_zero, List.set_cons_succ]
        refine extS_take (i := 21) (d := 58) (v := ?_) rfl rfl (by kernel_rfl) (by kernel_rfl) (by kernel_rfl) (fun _ _ _ h => h) (by rfl) (fun W hS => ?_) ?_
        rotate_left
        · skip
          refine gives_value (w := W) ⟨Below.refl _ _, hS⟩ ?_; go_simp; try with_reducible rfl
        simp only [List.setIfInBounds_toArray, List.set_cons_zero, List.set_cons_succ]
        refine extS_skip (i := 22) (d := 59) rfl rfl (by kernel_rfl) (by kernel_rfl) (by kernel_rfl) (fun _ _ _ h => h) (by rfl) ?_
        simp only [List.setIfInBounds_toArray, List.set_cons_zero, List.set_cons_succ]
        refine extS_skip (i := 23) (d := 60) rfl rfl (by kernel_rfl) (by kernel_rfl) (by kernel_rfl) (fun _ _ _ h => h) (by rfl) ?_
        simp only [List.setIfInBounds_toArray, List.set_cons_zero, List.set_cons_succ]
        refine extS_skip (i := 24) (d := 61) rfl rfl (by kernel_rfl) (by kernel_rfl) (by kernel_rfl) (fun _ _ _ h => h) (by rfl) ?_
        simp only [List.setIfInBounds_toArray, List.set_cons_zero, List.set_cons_succ]
        refine extS_skip (i := 25) (d := 62) rfl rfl (by kernel_rfl) (by kernel_rfl) (by kernel_rfl) (fun _ _ _ h => h) (by rfl) ?_
        simp only [List.setIfInBounds_toArray, List.set_cons_zero, List.set_cons_succ]
        refine extS_skip (i := 26) (d := 63) rfl rfl (by kernel_rfl) (by kernel_rfl) (by kernel_rfl) (fun _ _ _ h => h) (by rfl) ?_
        simp only [List.setIfInBounds_toArray, List.set_cons_zero, List.set_cons_succ]
        refine extS_skip (i := 27) (d := 64) rfl rfl (by kernel_rfl) (by kernel_rfl) (by kernel_rfl) (fun _ _ _ h => h) (by rfl) ?_
        simp only [List.setIfInBounds_toArray, List.set_cons_zero, List.set_cons_succ]
        refine extS_skip (i := 28) (d := 65) rfl rfl (by kernel_rfl) (by kernel_rfl) (by kernel_rfl) (fun _ _ _ h => h) (by rfl) ?_
        simp only [List.setIfInBounds_toArray, List.set_cons_zero, List.set_cons_succ]
        refine extS_skip (i := 29) (d := 66) rfl rfl (by kernel_rfl) (by kernel_rfl) (by kernel_rfl) (fun _ _ _ h => h) (by rfl) ?_
        simp only [List.setIfInBounds_toArray, List.set_cons_zero, List.set_cons_succ]
        refine extS_skip (i := 30) (d := 67) rfl rfl (by kernel_rfl) (by kernel_rfl) (by kernel_rfl) (fun _ _ _ h => h) (by rfl) ?_
        simp only [List.setIfInBounds_toArray, List.set_cons_zero, List.set_cons_succ]
        refine extS_take (i := 31) (d := 68) (v := ?_) rfl rfl (by kernel_rfl) (by kernel_rfl) (by kernel_rfl) (fun _ _ _ h => h) (by rfl) (fun W hS => ?_) ?_
        rotate_left
        · skip
          refine gives_value (w := W) ⟨Below.refl _ _, hS⟩ ?_; go_simp; try with_reducible rfl
        simp only [List.setIfInBounds_toArray, List.set_cons_zero, List.set_cons_succ]
        refine extS_take (i := 32) (d := 6) (v := ?_) rfl rfl (by kernel_rfl) (by kernel_rfl) (by kernel_rfl) (fun _ _ _ h => h) (by rfl) (fun W hS => ?_) ?_
        rotate_left
        · skip
          refine gives_value (w := W) ⟨Below.refl _ _, hS⟩ ?_; go_simp; try with_reducible rfl
        simp only [List.setIfInBounds_toArray, List.set_cons_zero, List.set_cons_succ]
        refine extS_done (by kernel_rfl) (fun w8 _ hS8 => ?_) _
        have HS8 := Lib.hid (HB6.out.trans (hS8.mono HB6.out.size))
        clear hS8
        go_wp2
        go_meet
        case rel => exact ⟨by rw [HY.out], HS8.out⟩
      have g1b : (M.num == (k : Int)) = true := by simp [g1]
      rw [g1b]
      have HG1 := Lib.hid g1
      clear g1 g1b
      by_cases g2 : M.fro = M'.upto
      rotate_left
      · have g2b : (M.fro == M'.upto) = false := by simp [g2]
        have HY : Hid (Y = false) := Lib.hid (by rw [HYY.out]; exact decide_eq_false fun h => g2 (HFP.out.1 h).2.1)
        clear g2
        go_upto_region 10 with fail
        refine wp_region_extS (fun W => Below w6.heap.size w6 W) (Below.refl _ _).drew HMX.out ?_
        refine extS_take (i := 0) (d := 37) (v := ?_) rfl rfl (by kernel_rfl) (by kernel_rfl) (by kernel_rfl) (fun _ _ _ h => h) (by rfl) (fun W hS => ?_) ?_
        rotate_left
        · skip
          refine gives_value (w := W) ⟨Below.refl _ _, hS⟩ ?_; go_simp; try with_reducible rfl
        simp only [List.setIfInBounds_toArray, List.set_cons_zero, List.set_cons_succ]
        refine extS_take (i := 1) (d := 38) (v := ?_) rfl rfl (by kernel_rfl) (by kernel_rfl) (by kernel_rfl) (fun _ _ _ h => h) (by rfl) (fun W hS => ?_) ?_
        rotate_left
        · skip
          refine gives_value (w := W) ⟨Below.refl _ _, hS⟩ ?_; go_simp; try with_reducible rfl
        simp only [List.setIfInBounds_toArray, List.set_cons_zero, List.set_cons_succ]
        refine extS_take (i := 2) (d := 39) (v := ?_) rfl rfl (by kernel_rfl) (by kernel_rfl) (by kernel_rfl) (fun _ _ _ h => h) (by rfl) (fun W hS => ?_) ?_
        rotate_left
        · skip
          refine gives_value (w := W) ⟨Below.refl _ _, hS⟩ ?_; go_simp; try with_reducible rfl
        simp only [List.setIfInBounds_toArray, List.set_cons_zero, List.set_cons_succ]
        refine extS_take (i := 3) (d := 40) (v := ?_) rfl rfl (by kernel_rfl) (by kernel_rfl) (by kernel_rfl) (fun _ _ _ h => h) (by rfl) (fun W hS => ?_) ?_
        rotate_left
        · skip
          refine gives_value (w := W) ⟨Below.refl _ _, hS⟩ ?_; go_simp; try with_reducible rfl
        simp only [List.setIfInBounds_toArray, List.set_cons_zero, List.set_cons_succ]
        refine extS_take (i := 4) (d := 41) (v := ?_) rfl rfl (by kernel_rfl) (by kernel_rfl) (by kernel_rfl) (fun _ _ _ h => h) (by rfl) (fun W hS => ?_) ?_
        rotate_left
        · skip
          refine gives_value (w := W) ⟨Below.refl _ _, hS⟩ ?_; go_simp; try with_reducible rfl
        simp only [List.setIfInBounds_toArray, List.set_cons_zero, List.set_cons_succ]
        refine extS_take (i := 5) (d := 42) (v := ?_) rfl rfl (by kernel_rfl) (by kernel_rfl) (by kernel_rfl) (fun _ _ _ h => h) (by rfl) (fun W hS => ?_) ?_
        rotate_left
        · skip
          refine gives_value (w := W) ⟨Below.refl _ _, hS⟩ ?_; go_simp; try with_reducible rfl
        simp only [List.setIfInBounds_toArray, List.set_cons_zero, List.set_cons_succ]
        refine extS_take (i := 6) (d := 43) (v := ?_) rfl rfl (by kernel_rfl) (by kernel_rfl) (by kernel_rfl) (fun _ _ _ h => h) (by rfl) (fun W hS => ?_) ?_
        rotate_left
        · skip
          obtain ⟨y1, y3, z2, z3⟩ := HCS.out W hS
          refine gives_value (w := W) ⟨Below.refl _ _, hS⟩ ?_; go_simp; try with_reducible rfl
        simp only [List.setIfInBounds_toArray, List.set_cons_zero, List.set_cons_succ]
        refine extS_take (i := 7) (d := 44) (v := ?_) rfl rfl (by kernel_rfl) (by kernel_rfl) (by kernel_rfl) (fun _ _ _ h => h) (by rfl) (fun W hS => ?_) ?_
        rotate_left
        · skip
          refine gives_value (w := W) ⟨Below.refl _ _, hS⟩ ?_; go_simp; try with_reducible rfl
        simp only [List.setIfInBounds_toArray, List.set_cons_zero, List.set_cons_succ]
        refine extS_take (i := 8) (d := 45) (v := ?_) rfl rfl (by kernel_rfl) (by kernel_rfl) (by kernel_rfl) (fun _ _ _ h => h) (by rfl) (fun W hS => ?_) ?_
        rotate_left
        · skip
          obtain ⟨y1, y3, z2, z3⟩ := HCS.out W hS
          refine gives_value (w := W) ⟨Below.refl _ _, hS⟩ ?_; go_simp; try with_reducible rfl
        simp only [List.setIfInBounds_toArray, List.set_cons_zero, List.set_cons_succ]
        refine extS_take (i := 9) (d := 46) (v := ?_) rfl rfl (by kernel_rfl) (by kernel_rfl) (by kernel_rfl) (fun _ _ _ h => h) (by rfl) (fun W hS => ?_) ?_
        rotate_left
        · skip
          refine gives_value (w := W) ⟨Below.refl _ _, hS⟩ ?_; go_simp; try with_reducible rfl
        simp only [List.setIfInBounds_toArray, List.set_cons_zero, List.set_cons_succ]
        refine extS_take (i := 10) (d := 47) (v := ?_) rfl rfl (by kernel_rfl) (by kernel_rfl) (by kernel_rfl) (fun _ _ _ h => h) (by rfl) (fun W hS => ?_) ?_
        rotate_left
        · skip
          refine gives_value (w := W) ⟨Below.refl _ _, hS⟩ ?_; go_simp; try with_reducible rfl
        simp only [List.setIfInBounds_toArray, List.set_cons_zero, List.set_cons_succ]
        refine extS_take (i := 11) (d := 48) (v := ?_) rfl rfl (by kernel_rfl) (by kernel_rfl) (by kernel_rfl) (fun _ _ _ h => h) (by rfl) (fun W hS => ?_) ?_
        rotate_left
        · skip
          refine gives_value (w := W) ⟨Below.refl _ _, hS⟩ ?_; go_simp; try with_reducible rfl
        simp only [List.setIfInBounds_toArray, List.set_cons_zero, List.set_cons_succ]
        refine extS_skip (i := 12) (d := 49) rfl rfl (by kernel_rfl) (by kernel_rfl) (by kernel_rfl) (fun _ _ _ h => h) (by rfl) ?_
        simp only [List.setIfInBounds_toArray, List.set_cons_zero, List.set_cons_succ]
        refine extS_skip (i := 13) (d := 50) rfl rfl (by kernel_rfl) (by kernel_rfl) (by kernel_rfl) (fun _ _ _ h => h) (by rfl) ?_
        simp only [List.setIfInBounds_toArray, List.set_cons_zero, List.set_cons_succ]
        refine extS_skip (i := 14) (d := 51) rfl rfl (by kernel_rfl) (by kernel_rfl) (by kernel_rfl) (fun _ _ _ h => h) (by rfl) ?_
        simp only [List.setIfInBounds_toArray, List.set_cons_zero, List.set_cons_succ]
        refine extS_skip (i := 15) (d := 52) rfl rfl (by kernel_rfl) (by kernel_rfl) (by kernel_rfl) (fun _ _ _ h => h) (by rfl) ?_
        simp only [List.setIfInBounds_toArray, List.set_cons_zero, List.set_cons_succ]
        refine extS_skip (i := 16) (d := 53) rfl rfl (by kernel_rfl) (by kernel_rfl) (by kernel_rfl) (fun _ _ _ h => h) (by rfl) ?_
        simp only [List.setIfInBounds_toArray, List.set_cons_zero, List.set_cons_succ]
        refine extS_skip (i := 17) (d := 54) rfl rfl (by kernel_rfl) (by kernel_rfl) (by kernel_rfl) (fun _ _ _ h => h) (by rfl) ?_
        simp only [List.setIfInBounds_toArray, List.set_cons_zero, List.set_cons_succ]
        refine extS_skip (i := 18) (d := 55) rfl rfl (by kernel_rfl) (by kernel_rfl) (by kernel_rfl) (fun _ _ _ h => h) (by rfl) ?_
        simp only [List.setIfInBounds_toArray, List.set_cons_zero, List.set_cons_succ]
        refine extS_skip (i := 19) (d := 56) rfl rfl (by kernel_rfl) (by kernel_rfl) (by kernel_rfl) (fun _ _ _ h => h) (by rfl) ?_
        simp only [List.setIfInBounds_toArray, List.set_cons_zero, List.set_cons_succ]
        refine extS_take (i := 20) (d := 57) (v := ?_) rfl rfl (by kernel_rfl) (by kernel_rfl) (by kernel_rfl) (fun _ _ _ h => h) (by rfl) (fun W hS => ?_) ?_
        rotate_left
        · skip
          refine gives_value (w := W) ⟨Below.refl _ _, hS⟩ ?_; go_simp; try with_reducible rfl
        simp only [List.setIfInBounds_toArray, List.set_cons_zero, List.set_cons_succ]
        refine extS_take (i := 21) (d := 58) (v := ?_) rfl rfl (by kernel_rfl) (by kernel_rfl) (by kernel_rfl) (fun _ _ _ h => h) (by rfl) (fun W hS => ?_) ?_
        rotate_left
        · skip
          refine gives_value (w := W) ⟨Below.refl _ _, hS⟩ ?_; go_simp; try with_reducible rfl
        simp only [List.setIfInBounds_toArray, List.set_cons_zero, List.set_cons_succ]
        refine extS_skip (i := 22) (d := 59) rfl rfl (by kernel_rfl) (by kernel_rfl) (by kernel_rfl) (fun _ _ _ h => h) (by rfl) ?_
        simp only [List.setIfInBounds_toArray, List.set_cons_zero, List.set_cons_succ]
        refine extS_skip (i := 23) (d := 60) rfl rfl (by kernel_rfl) (by kernel_rfl) (by kernel_rfl) (fun _ _ _ h => h) (by rfl) ?_
        simp only [List.setIfInBounds_toArray, List.set_cons_zero, List.set_cons_succ]
        refine extS_skip (i := 24) (d := 61) rfl rfl (by kernel_rfl) (by kernel_rfl) (by kernel_rfl) (fun _ _ _ h => h) (by rfl) ?_
        simp only [List.setIfInBounds_toArray, List.set_cons_zero, List.set_cons_succ]
        refine extS_skip (i := 25) (d := 62) rfl rfl (by kernel_rfl) (by kernel_rfl) (by kernel_rfl) (fun _ _ _ h => h) (by rfl) ?_
        simp only [List.setIfInBounds_toArray, List.set_cons_zero, List.set_cons_succ]
        refine extS_skip (i := 26) (d := 63) rfl rfl (by kernel_rfl) (by kernel_rfl) (by kernel_rfl) (fun _ _ _ h => h) (by rfl) ?_
        simp only [List.setIfInBounds_toArray, List.set_cons_zero, List.set_cons_succ]
        refine extS_skip (i := 27) (d := 64) rfl rfl (by kernel_rfl) (by kernel_rfl) (by kernel_rfl) (fun _ _ _ h => h) (by rfl) ?_
        simp only [List.setIfInBounds_toArray, List.set_cons_zero, List.set_cons_succ]
        refine extS_skip (i := 28) (d := 65) rfl rfl (by kernel_rfl) (by kernel_rfl) (by kernel_rfl) (fun _ _ _ h => h) (by rfl) ?_
        simp only [List.setIfInBounds_toArray, List.set_cons_zero, List.set_cons_succ]
        refine extS_skip (i := 29) (d := 66) rfl rfl (by kernel_rfl) (by kernel_rfl) (by kernel_rfl) (fun _ _ _ h => h) (by rfl) ?_
        simp only [List.setIfInBounds_toArray, List.set_cons_zero, List.set_cons_succ]
        refine extS_skip (i := 30) (d := 67) rfl rfl (by kernel_rfl) (by kernel_rfl) (by kernel_rfl) (fun _ _ _ h => h) (by rfl) ?_
        simp only [List.setIfInBounds_toArray, List.set_cons_zero, List.set_cons_succ]
        refine extS_take (i := 31) (d := 68) (v := ?_) rfl rfl (by kernel_rfl) (by kernel_rfl) (by kernel_rfl) (fun _ _ _ h => h) (by rfl) (fun W hS => ?_) ?_
        rotate_left
        · skip
          refine gives_value (w := W) ⟨Below.refl _ _, hS⟩ ?_; go_simp; try with_reducible rfl
        simp only [List.setIfInBounds_toArray, List.set_cons_zero, List.set_cons_succ]
        refine extS_take (i := 32) (d := 6) (v := ?_) rfl rfl (by kernel_rfl) (by kernel_rfl) (by kernel_rfl) (fun _ _ _ h => h) (by rfl) (fun W hS => ?_) ?_
        rotate_left
        · skip
          refine gives_value (w := W) ⟨Below.refl _ _, hS⟩ ?_; go_simp; try with_reducible rfl
        simp only [List.setIfInBounds_toArray, List.set_cons_zero, List.set_cons_succ]
        refine extS_done (by kernel_rfl) (fun w8 _ hS8 => ?_) _
        have HS8 := Lib.hid (HB6.out.trans (hS8.mono HB6.out.size))
        clear hS8
        go_wp2
        go_meet
        case rel => exact ⟨by rw [HY.out], HS8.out⟩
      have g2b : (M.fro == M'.upto) = true := by simp [g2]
      have HG2 := Lib.hid g2
      clear g2
      by_cases g3 : M'.trim ≤ M.trim
      rotate_left
      · have g3b : decide (M'.trim ≤ M.trim) = false := decide_eq_false g3
        have HY : Hid (Y = false) := Lib.hid (by rw [HYY.out]; exact decide_eq_false fun h => g3 (HFP.out.1 h).2.2.1)
        clear g3
        go_upto_region 10 with fail
        refine wp_region_extS (fun W => Below w6.heap.size w6 W) (Below.refl _ _).drew HMX.out ?_
        refine extS_take (i := 0) (d := 37) (v := ?_) rfl rfl (by kernel_rfl) (by kernel_rfl) (by kernel_rfl) (fun _ _ _ h => h) (by rfl) (fun W hS => ?_) ?_
        rotate_left
        · skip
          refine gives_value (w := W) ⟨Below.refl _ _, hS⟩ ?_; go_simp; try with_reducible rfl
        simp only [List.setIfInBounds_toArray, List.set_cons_zero, List.set_cons_succ]
        refine extS_take (i := 1) (d := 38) (v := ?_) rfl rfl (by kernel_rfl) (by kernel_rfl) (by kernel_rfl) (fun _ _ _ h => h) (by rfl) (fun W hS => ?_) ?_
        rotate_left
        · skip
          refine gives_value (w := W) ⟨Below.refl _ _, hS⟩ ?_; go_simp; try with_reducible rfl
        simp only [List.setIfInBounds_toArray, List.set_cons_zero, List.set_cons_succ]
        refine extS_take (i := 2) (d := 39) (v := ?_) rfl rfl (by kernel_rfl) (by kernel_rfl) (by kernel_rfl) (fun _ _ _ h => h) (by rfl) (fun W hS => ?_) ?_
        rotate_left
        · skip
          refine gives_value (w := W) ⟨Below.refl _ _, hS⟩ ?_; go_simp; try with_reducible rfl
        simp only [List.setIfInBounds_toArray, List.set_cons_zero, List.set_cons_succ]
        refine extS_take (i := 3) (d := 40) (v := ?_) rfl rfl (by kernel_rfl) (by kernel_rfl) (by kernel_rfl) (fun _ _ _ h => h) (by rfl) (fun W hS => ?_) ?_
        rotate_left
        · skip
          refine gives_value (w := W) ⟨Below.refl _ _, hS⟩ ?_; go_simp; try with_reducible rfl
        simp only [List.setIfInBounds_toArray, List.set_cons_zero, List.set_cons_succ]
        refine extS_take (i := 4) (d := 41) (v := ?_) rfl rfl (by kernel_rfl) (by kernel_rfl) (by kernel_rfl) (fun _ _ _ h => h) (by rfl) (fun W hS => ?_) ?_
        rotate_left
        · skip
          refine gives_value (w := W) ⟨Below.refl _ _, hS⟩ ?_; go_simp; try with_reducible rfl
        simp only [List.setIfInBounds_toArray, List.set_cons_zero, List.set_cons_succ]
        refine extS_take (i := 5) (d := 42) (v := ?_) rfl rfl (by kernel_rfl) (by kernel_rfl) (by kernel_rfl) (fun _ _ _ h => h) (by rfl) (fun W hS => ?_) ?_
        rotate_left
        · skip
          refine gives_value (w := W) ⟨Below.refl _ _, hS⟩ ?_; go_simp; try with_reducible rfl
        simp only [List.setIfInBounds_toArray, List.set_cons_zero, List.set_cons_succ]
        refine extS_take (i := 6) (d := 43) (v := ?_) rfl rfl (by kernel_rfl) (by kernel_rfl) (by kernel_rfl) (fun _ _ _ h => h) (by rfl) (fun W hS => ?_) ?_
        rotate_left
        · skip
          obtain ⟨y1, y3, z2, z3⟩ := HCS.out W hS
          refine gives_value (w := W) ⟨Below.refl _ _, hS⟩ ?_; go_simp; try with_reducible rfl
        simp only [List.setIfInBounds_toArray, List.set_cons_zero, List.set_cons_succ]
        refine extS_take (i := 7) (d := 44) (v := ?_) rfl rfl (by kernel_rfl) (by kernel_rfl) (by kernel_rfl) (fun _ _ _ h => h) (by rfl) (fun W hS => ?_) ?_
        rotate_left
        · skip
          refine gives_value (w := W) ⟨Below.refl _ _, hS⟩ ?_; go_simp; try with_reducible rfl
        simp only [List.setIfInBounds_toArray, List.set_cons_zero, List.set_cons_succ]
        refine extS_take (i := 8) (d := 45) (v := ?_) rfl rfl (by kernel_rfl) (by kernel_rfl) (by kernel_rfl) (fun _ _ _ h => h) (by rfl) (fun W hS => ?_) ?_
        rotate_left
        · skip
          obtain ⟨y1, y3, z2, z3⟩ := HCS.out W hS
          refine gives_value (w := W) ⟨Below.refl _ _, hS⟩ ?_; go_simp; try with_reducible rfl
        simp only [List.setIfInBounds_toArray, List.set_cons_zero, List.set_cons_succ]
        refine extS_take (i := 9) (d := 46) (v := ?_) rfl rfl (by kernel_rfl) (by kernel_rfl) (by kernel_rfl) (fun _ _ _ h => h) (by rfl) (fun W hS => ?_) ?_
        rotate_left
        · skip
          refine gives_value (w := W) ⟨Below.refl _ _, hS⟩ ?_; go_simp; try with_reducible rfl
        simp only [List.setIfInBounds_toArray, List.set_cons_zero, List.set_cons_succ]
        refine extS_take (i := 10) (d := 47) (v := ?_) rfl rfl (by kernel_rfl) (by kernel_rfl) (by kernel_rfl) (fun _ _ _ h => h) (by rfl) (fun W hS => ?_) ?_
        rotate_left
        · skip
          refine gives_value (w := W) ⟨Below.refl _ _, hS⟩ ?_; go_simp; try with_reducible rfl
        simp only [List.setIfInBounds_toArray, List.set_cons_zero, List.set_cons_succ]
        refine extS_take (i := 11) (d := 48) (v := ?_) rfl rfl (by kernel_rfl) (by kernel_rfl) (by kernel_rfl) (fun _ _ _ h => h) (by rfl) (fun W hS => ?_) ?_
        rotate_left
        · skip
          refine gives_value (w := W) ⟨Below.refl _ _, hS⟩ ?_; go_simp; try with_reducible rfl
        simp only [List.setIfInBounds_toArray, List.set_cons_zero, List.set_cons_succ]
        refine extS_take (i := 12) (d := 49) (v := ?_) rfl rfl (by kernel_rfl) (by kernel_rfl) (by kernel_rfl) (fun _ _ _ h => h) (by rfl) (fun W hS => ?_) ?_
        rotate_left
        · skip
          refine gives_value (w := W) ⟨Below.refl _ _, hS⟩ ?_; go_simp; try with_reducible rfl
        simp only [List.setIfInBounds_toArray, List.set_cons_zero, List.set_cons_succ]
        refine extS_take (i := 13) (d := 50) (v := ?_) rfl rfl (by kernel_rfl) (by kernel_rfl) (by kernel_rfl) (fun _ _ _ h => h) (by rfl) (fun W hS => ?_) ?_
        rotate_left
        · skip
          refine gives_value (w := W) ⟨Below.refl _ _, hS⟩ ?_; go_simp; try with_reducible rfl
        simp only [List.setIfInBounds_toArray, List.set_cons_zero, List.set_cons_succ]
        refine extS_take (i := 14) (d := 51) (v := ?_) rfl rfl (by kernel_rfl) (by kernel_rfl) (by kernel_rfl) (fun _ _ _ h => h) (by rfl) (fun W hS => ?_) ?_
        rotate_left
        · skip
          refine gives_value (w := W) ⟨Below.refl _ _, hS⟩ ?_; go_simp; try with_reducible rfl
        simp only [List.setIfInBounds_toArray, List.set_cons_zero, List.set_cons_succ]
        refine extS_take (i := 15) (d := 52) (v := ?_) rfl rfl (by kernel_rfl) (by kernel_rfl) (by kernel_rfl) (fun _ _ _ h => h) (by rfl) (fun W hS => ?_) ?_
        rotate_left
        · skip
          refine gives_value (w := W) ⟨Below.refl _ _, hS⟩ ?_; go_simp; try with_reducible rfl
        simp only [List.setIfInBounds_toArray, List.set_cons_zero, List.set_cons_succ]
        refine extS_take (i := 16) (d := 53) (v := ?_) rfl rfl (by kernel_rfl) (by kernel_rfl) (by kernel_rfl) (fun _ _ _ h => h) (by rfl) (fun W hS => ?_) ?_
        rotate_left
        · skip
          obtain ⟨y1, y3, z2, z3⟩ := HCS.out W hS
          refine gives_value (w := W) ⟨Below.refl _ _, hS⟩ ?_; go_simp; try with_reducible rfl
        simp only [List.setIfInBounds_toArray, List.set_cons_zero, List.set_cons_succ]
        refine extS_take (i := 17) (d := 54) (v := ?_) rfl rfl (by kernel_rfl) (by kernel_rfl) (by kernel_rfl) (fun _ _ _ h => h) (by rfl) (fun W hS => ?_) ?_
        rotate_left
        · skip
          refine gives_value (w := W) ⟨Below.refl _ _, hS⟩ ?_; go_simp; try with_reducible rfl
        simp only [List.setIfInBounds_toArray, List.set_cons_zero, List.set_cons_succ]
        refine extS_take (i := 18) (d := 55) (v := ?_) rfl rfl (by kernel_rfl) (by kernel_rfl) (by kernel_rfl) (fun _ _ _ h => h) (by rfl) (fun W hS => ?_) ?_
        rotate_left
        · skip
          obtain ⟨y1, y3, z2, z3⟩ := HCS.out W hS
          refine gives_value (w := W) ⟨Below.refl _ _, hS⟩ ?_; go_simp; try with_reducible rfl
        simp only [List.setIfInBounds_toArray, List.set_cons_zero, List.set_cons_succ]
        refine extS_take (i := 19) (d := 56) (v := ?_) rfl rfl (by kernel_rfl) (by kernel_rfl) (by kernel_rfl) (fun _ _ _ h => h) (by rfl) (fun W hS => ?_) ?_
        rotate_left
        · skip
          refine gives_value (w := W) ⟨Below.refl _ _, hS⟩ ?_; go_simp; try with_reducible rfl
        simp only [List.setIfInBounds_toArray, List.set_cons_zero, List.set_cons_succ]
        refine extS_take (i := 20) (d := 57) (v := ?_) rfl rfl (by kernel_rfl) (by kernel_rfl) (by kernel_rfl) (fun _ _ _ h => h) (by rfl) (fun W hS => ?_) ?_
        rotate_left
        · skip
          refine gives_value (w := W) ⟨Below.refl _ _, hS⟩ ?_; go_simp; try with_reducible rfl
        simp only [List.setIfInBounds_toArray, List.set_cons_zero, List.set_cons_succ]
        refine extS_take (i := 21) (d := 58) (v := ?_) rfl rfl (by kernel_rfl) (by kernel_rfl) (by kernel_rfl) (fun _ _ _ h => h) (by rfl) (fun W hS => ?_) ?_
        rotate_left
        · skip
          refine gives_value (w := W) ⟨Below.refl _ _, hS⟩ ?_; go_simp; try with_reducible rfl
        simp only [List.setIfInBounds_toArray, List.set_cons_zero, List.set_cons_succ]
        refine extS_skip (i := 22) (d := 59) rfl rfl (by kernel_rfl) (by kernel_rfl) (by kernel_rfl) (fun _ _ _ h => h) (by rfl) ?_
        simp only [List.setIfInBounds_toArray, List.set_cons_zero, List.set_cons_succ]
        refine extS_skip (i := 23) (d := 60) rfl rfl (by kernel_rfl) (by kernel_rfl) (by kernel_rfl) (fun _ _ _ h => h) (by rfl) ?_
        simp only [List.setIfInBounds_toArray, List.set_cons_zero, List.set_cons_succ]
        refine extS_skip (i := 24) (d := 61) rfl rfl (by kernel_rfl) (by kernel_rfl) (by kernel_rfl) (fun _ _ _ h => h) (by rfl) ?_
        simp only [List.setIfInBounds_toArray, List.set_cons_zero, List.set_cons_succ]
        refine extS_skip (i := 25) (d := 62) rfl rfl (by kernel_rfl) (by kernel_rfl) (by kernel_rfl) (fun _ _ _ h => h) (by rfl) ?_
        simp only [List.setIfInBounds_toArray, List.set_cons_zero, List.set_cons_succ]
        refine extS_skip (i := 26) (d := 63) rfl rfl (by kernel_rfl) (by kernel_rfl) (by kernel_rfl) (fun _ _ _ h => h) (by rfl) ?_
        simp only [List.setIfInBounds_toArray, List.set_cons_zero, List.set_cons_succ]
        refine extS_skip (i := 27) (d := 64) rfl rfl (by kernel_rfl) (by kernel_rfl) (by kernel_rfl) (fun _ _ _ h => h) (by rfl) ?_
        simp only [List.setIfInBounds_toArray, List.set_cons_zero, List.set_cons_succ]
        refine extS_skip (i := 28) (d := 65) rfl rfl (by kernel_rfl) (by kernel_rfl) (by kernel_rfl) (fun _ _ _ h => h) (by rfl) ?_
        simp only [List.setIfInBounds_toArray, List.set_cons_zero, List.set_cons_succ]
        refine extS_skip (i := 29) (d := 66) rfl rfl (by kernel_rfl) (by kernel_rfl) (by kernel_rfl) (fun _ _ _ h => h) (by rfl) ?_
        simp only [List.setIfInBounds_toArray, List.set_cons_zero, List.set_cons_succ]
        refine extS_skip (i := 30) (d := 67) rfl rfl (by kernel_rfl) (by kernel_rfl) (by kernel_rfl) (fun _ _ _ h => h) (by rfl) ?_
        simp only [List.setIfInBounds_toArray, List.set_cons_zero, List.set_cons_succ]
        refine extS_take (i := 31) (d := 68) (v := ?_) rfl rfl (by kernel_rfl) (by kernel_rfl) (by kernel_rfl) (fun _ _ _ h => h) (by rfl) (fun W hS => ?_) ?_
        rotate_left
        · skip
          refine gives_value (w := W) ⟨Below.refl _ _, hS⟩ ?_; go_simp; try with_reducible rfl
        simp only [List.setIfInBounds_toArray, List.set_cons_zero, List.set_cons_succ]
        refine extS_take (i := 32) (d := 6) (v := ?_) rfl rfl (by kernel_rfl) (by kernel_rfl) (by kernel_rfl) (fun _ _ _ h => h) (by rfl) (fun W hS => ?_) ?_
        rotate_left
        · skip
          refine gives_value (w := W) ⟨Below.refl _ _, hS⟩ ?_; go_simp; try with_reducible rfl
        simp only [List.setIfInBounds_toArray, List.set_cons_zero, List.set_cons_succ]
        refine extS_done (by kernel_rfl) (fun w8 _ hS8 => ?_) _
        have HS8 := Lib.hid (HB6.out.trans (hS8.mono HB6.out.size))
        clear hS8
        go_wp2
        go_meet
        case rel => exact ⟨by rw [HY.out], HS8.out⟩
      have g3b : decide (M'.trim ≤ M.trim) = true := decide_eq_true g3
      have HY : Hid (Y = pq) := Lib.hid (by
        rw [HYY.out, HPQ.out, Bool.eq_iff_iff, decide_eq_true_iff, HFP.out]
        constructor
        · rintro ⟨_, _, _, h⟩; simp [h]
        · intro h; exact ⟨HG1.out, HG2.out, g3, by simpa using h⟩)
      go_upto_region 10 with fail
      refine wp_region_extS (fun W => Below w6.heap.size w6 W) (Below.refl _ _).drew HMX.out ?_
      refine extS_take (i := 0) (d := 37) (v := ?_) rfl rfl (by kernel_rfl) (by kernel_rfl) (by kernel_rfl) (fun _ _ _ h => h) (by rfl) (fun W hS => ?_) ?_
      rotate_left
      · skip
        refine gives_value (w := W) ⟨Below.refl _ _, hS⟩ ?_; go_simp; try with_reducible rfl
      simp only [List.setIfInBounds_toArray, List.set_cons_zero, List.set_cons_succ]
      refine extS_take (i := 1) (d := 38) (v := ?_) rfl rfl (by kernel_rfl) (by kernel_rfl) (by kernel_rfl) (fun _ _ _ h => h) (by rfl) (fun W hS => ?_) ?_
      rotate_left
      · skip
        refine gives_value (w := W) ⟨Below.refl _ _, hS⟩ ?_; go_simp; try with_reducible rfl
      simp only [List.setIfInBounds_toArray, List.set_cons_zero, List.set_cons_succ]
      refine extS_take (i := 2) (d := 39) (v := ?_) rfl rfl (by kernel_rfl) (by kernel_rfl) (by kernel_rfl) (fun _ _ _ h => h) (by rfl) (fun W hS => ?_) ?_
      rotate_left
      · skip
        refine gives_value (w := W) ⟨Below.refl _ _, hS⟩ ?_; go_simp; try with_reducible rfl
      simp only [List.setIfInBounds_toArray, List.set_cons_zero, List.set_cons_succ]
      refine extS_take (i := 3) (d := 40) (v := ?_) rfl rfl (by kernel_rfl) (by kernel_rfl) (by kernel_rfl) (fun _ _ _ h => h) (by rfl) (fun W hS => ?_) ?_
      rotate_left
      · skip
        refine gives_value (w := W) ⟨Below.refl _ _, hS⟩ ?_; go_simp; try with_reducible rfl
      simp only [List.setIfInBounds_toArray, List.set_cons_zero, List.set_cons_succ]
      refine extS_take (i := 4) (d := 41) (v := ?_) rfl rfl (by kernel_rfl) (by kernel_rfl) (by kernel_rfl) (fun _ _ _ h => h) (by rfl) (fun W hS => ?_) ?_
      rotate_left
      · skip
        refine gives_value (w := W) ⟨Below.refl _ _, hS⟩ ?_; go_simp; try with_reducible rfl
      simp only [List.setIfInBounds_toArray, List.set_cons_zero, List.set_cons_succ]
      refine extS_take (i := 5) (d := 42) (v := ?_) rfl rfl (by kernel_rfl) (by kernel_rfl) (by kernel_rfl) (fun _ _ _ h => h) (by rfl) (fun W hS => ?_) ?_
      rotate_left
      · skip
        refine gives_value (w := W) ⟨Below.refl _ _, hS⟩ ?_; go_simp; try with_reducible rfl
      simp only [List.setIfInBounds_toArray, List.set_cons_zero, List.set_cons_succ]
      refine extS_take (i := 6) (d := 43) (v := ?_) rfl rfl (by kernel_rfl) (by kernel_rfl) (by kernel_rfl) (fun _ _ _ h => h) (by rfl) (fun W hS => ?_) ?_
      rotate_left
      · skip
        obtain ⟨y1, y3, z2, z3⟩ := HCS.out W hS
        refine gives_value (w := W) ⟨Below.refl _ _, hS⟩ ?_; go_simp; try with_reducible rfl
      simp only [List.setIfInBounds_toArray, List.set_cons_zero, List.set_cons_succ]
      refine extS_take (i := 7) (d := 44) (v := ?_) rfl rfl (by kernel_rfl) (by kernel_rfl) (by kernel_rfl) (fun _ _ _ h => h) (by rfl) (fun W hS => ?_) ?_
      rotate_left
      · skip
        refine gives_value (w := W) ⟨Below.refl _ _, hS⟩ ?_; go_simp; try with_reducible rfl
      simp only [List.setIfInBounds_toArray, List.set_cons_zero, List.set_cons_succ]
      refine extS_take (i := 8) (d := 45) (v := ?_) rfl rfl (by kernel_rfl) (by kernel_rfl) (by kernel_rfl) (fun _ _ _ h => h) (by rfl) (fun W hS => ?_) ?_
      rotate_left
      · skip
        obtain ⟨y1, y3, z2, z3⟩ := HCS.out W hS
        refine gives_value (w := W) ⟨Below.refl _ _, hS⟩ ?_; go_simp; try with_reducible rfl
      simp only [List.setIfInBounds_toArray, List.set_cons_zero, List.set_cons_succ]
      refine extS_take (i := 9) (d := 46) (v := ?_) rfl rfl (by kernel_rfl) (by kernel_rfl) (by kernel_rfl) (fun _ _ _ h => h) (by rfl) (fun W hS => ?_) ?_
      rotate_left
      · skip
        refine gives_value (w := W) ⟨Below.refl _ _, hS⟩ ?_; go_simp; try with_reducible rfl
      simp only [List.setIfInBounds_toArray, List.set_cons_zero, List.set_cons_succ]
      refine extS_take (i := 10) (d := 47) (v := ?_) rfl rfl (by kernel_rfl) (by kernel_rfl) (by kernel_rfl) (fun _ _ _ h => h) (by rfl) (fun W hS => ?_) ?_
      rotate_left
      · skip
        refine gives_value (w := W) ⟨Below.refl _ _, hS⟩ ?_; go_simp; try with_reducible rfl
      simp only [List.setIfInBounds_toArray, List.set_cons_zero, List.set_cons_succ]
      refine extS_take (i := 11) (d := 48) (v := ?_) rfl rfl (by kernel_rfl) (by kernel_rfl) (by kernel_rfl) (fun _ _ _ h => h) (by rfl) (fun W hS => ?_) ?_
      rotate_left
      · skip
        refine gives_value (w := W) ⟨Below.refl _ _, hS⟩ ?_; go_simp; try with_reducible rfl
      simp only [List.setIfInBounds_toArray, List.set_cons_zero, List.set_cons_succ]
      refine extS_take (i := 12) (d := 49) (v := ?_) rfl rfl (by kernel_rfl) (by kernel_rfl) (by kernel_rfl) (fun _ _ _ h => h) (by rfl) (fun W hS => ?_) ?_
      rotate_left
      · skip
        refine gives_value (w := W) ⟨Below.refl _ _, hS⟩ ?_; go_simp; try with_reducible rfl
      simp only [List.setIfInBounds_toArray, List.set_cons_zero, List.set_cons_succ]
      refine extS_take (i := 13) (d := 50) (v := ?_) rfl rfl (by kernel_rfl) (by kernel_rfl) (by kernel_rfl) (fun _ _ _ h => h) (by rfl) (fun W hS => ?_) ?_
      rotate_left
      · skip
        refine gives_value (w := W) ⟨Below.refl _ _, hS⟩ ?_; go_simp; try with_reducible rfl
      simp only [List.setIfInBounds_toArray, List.set_cons_zero, List.set_cons_succ]
      refine extS_take (i := 14) (d := 51) (v := ?_) rfl rfl (by kernel_rfl) (by kernel_rfl) (by kernel_rfl) (fun _ _ _ h => h) (by rfl) (fun W hS => ?_) ?_
      rotate_left
      · skip
        refine gives_value (w := W) ⟨Below.refl _ _, hS⟩ ?_; go_simp; try with_reducible rfl
      simp only [List.setIfInBounds_toArray, List.set_cons_zero, List.set_cons_succ]
      refine extS_take (i := 15) (d := 52) (v := ?_) rfl rfl (by kernel_rfl) (by kernel_rfl) (by kernel_rfl) (fun _ _ _ h => h) (by rfl) (fun W hS => ?_) ?_
      rotate_left
      · skip
        refine gives_value (w := W) ⟨Below.refl _ _, hS⟩ ?_; go_simp; try with_reducible rfl
      simp only [List.setIfInBounds_toArray, List.set_cons_zero, List.set_cons_succ]
      refine extS_take (i := 16) (d := 53) (v := ?_) rfl rfl (by kernel_rfl) (by kernel_rfl) (by kernel_rfl) (fun _ _ _ h => h) (by rfl) (fun W hS => ?_) ?_
      rotate_left
      · skip
        obtain ⟨y1, y3, z2, z3⟩ := HCS.out W hS
        refine gives_value (w := W) ⟨Below.refl _ _, hS⟩ ?_; go_simp; try with_reducible rfl
      simp only [List.setIfInBounds_toArray, List.set_cons_zero, List.set_cons_succ]
      refine extS_take (i := 17) (d := 54) (v := ?_) rfl rfl (by kernel_rfl) (by kernel_rfl) (by kernel_rfl) (fun _ _ _ h => h) (by rfl) (fun W hS => ?_) ?_
      rotate_left
      · skip
        refine gives_value (w := W) ⟨Below.refl _ _, hS⟩ ?_; go_simp; try with_reducible rfl
      simp only [List.setIfInBounds_toArray, List.set_cons_zero, List.set_cons_succ]
      refine extS_take (i := 18) (d := 55) (v := ?_) rfl rfl (by kernel_rfl) (by kernel_rfl) (by kernel_rfl) (fun _ _ _ h => h) (by rfl) (fun W hS => ?_) ?_
      rotate_left
      · skip
        obtain ⟨y1, y3, z2, z3⟩ := HCS.out W hS
        refine gives_value (w := W) ⟨Below.refl _ _, hS⟩ ?_; go_simp; try with_reducible rfl
      simp only [List.setIfInBounds_toArray, List.set_cons_zero, List.set_cons_succ]
      refine extS_take (i := 19) (d := 56) (v := ?_) rfl rfl (by kernel_rfl) (by kernel_rfl) (by kernel_rfl) (fun _ _ _ h => h) (by rfl) (fun W hS => ?_) ?_
      rotate_left
      · skip
        refine gives_value (w := W) ⟨Below.refl _ _, hS⟩ ?_; go_simp; try with_reducible rfl
      simp only [List.setIfInBounds_toArray, List.set_cons_zero, List.set_cons_succ]
      refine extS_take (i := 20) (d := 57) (v := ?_) rfl rfl (by kernel_rfl) (by kernel_rfl) (by kernel_rfl) (fun _ _ _ h => h) (by rfl) (fun W hS => ?_) ?_
      rotate_left
      · skip
        refine gives_value (w := W) ⟨Below.refl _ _, hS⟩ ?_; go_simp; try with_reducible rfl
      simp only [List.setIfInBounds_toArray, List.set_cons_zero, List.set_cons_succ]
      refine extS_take (i := 21) (d := 58) (v := ?_) rfl rfl (by kernel_rfl) (by kernel_rfl) (by kernel_rfl) (fun _ _ _ h => h) (by rfl) (fun W hS => ?_) ?_
      rotate_left
      · skip
        refine gives_value (w := W) ⟨Below.refl _ _, hS⟩ ?_; go_simp; try with_reducible rfl
      simp only [List.setIfInBounds_toArray, List.set_cons_zero, List.set_cons_succ]
      refine extS_take (i := 22) (d := 59) (v := ?_) rfl rfl (by kernel_rfl) (by kernel_rfl) (by kernel_rfl) (fun _ _ _ h => h) (by rfl) (fun W hS => ?_) ?_
      rotate_left
      · skip
        refine gives_value (w := W) ⟨Below.refl _ _, hS⟩ ?_; go_simp; try with_reducible rfl
      simp only [List.setIfInBounds_toArray, List.set_cons_zero, List.set_cons_succ]
      refine extS_take (i := 23) (d := 60) (v := ?_) rfl rfl (by kernel_rfl) (by kernel_rfl) (by kernel_rfl) (fun _ _ _ h => h) (by rfl) (fun W hS => ?_) ?_
      rotate_left
      · skip
        refine gives_value (w := W) ⟨Below.refl _ _, hS⟩ ?_; go_simp; try with_reducible rfl
      simp only [List.setIfInBounds_toArray, List.set_cons_zero, List.set_cons_succ]
      refine extS_take (i := 24) (d := 61) (v := ?_) rfl rfl (by kernel_rfl) (by kernel_rfl) (by kernel_rfl) (fun _ _ _ h => h) (by rfl) (fun W hS => ?_) ?_
      rotate_left
      · skip
        refine gives_value (w := W) ⟨Below.refl _ _, hS⟩ ?_; go_simp; try with_reducible rfl
      simp only [List.setIfInBounds_toArray, List.set_cons_zero, List.set_cons_succ]
      refine extS_take (i := 25) (d := 62) (v := ?_) rfl rfl (by kernel_rfl) (by kernel_rfl) (by kernel_rfl) (fun _ _ _ h => h) (by rfl) (fun W hS => ?_) ?_
      rotate_left
      · skip
        refine gives_value (w := W) ⟨Below.refl _ _, hS⟩ ?_; go_simp; try with_reducible rfl
      simp only [List.setIfInBounds_toArray, List.set_cons_zero, List.set_cons_succ]
      refine extS_take (i := 26) (d := 63) (v := ?_) rfl rfl (by kernel_rfl) (by kernel_rfl) (by kernel_rfl) (fun _ _ _ h => h) (by rfl) (fun W hS => ?_) ?_
      rotate_left
      · skip
        (refine load_gives_at 37 (.tmp 62) ?_ b (off + k * 37 + 4) ?_ (vals .u8 M.prev) _ (HPV.out W hS) Tryz.underlying37 rfl HDS.out ?_ <;> first | rfl | exact ⟨Below.refl _ _, hS⟩)
      simp only [List.setIfInBounds_toArray, List.set_cons_zero, List.set_cons_succ]
      refine extS_take (i := 27) (d := 64) (v := ?_) rfl rfl (by kernel_rfl) (by kernel_rfl) (by kernel_rfl) (fun _ _ _ h => h) (by rfl) (fun W hS => ?_) ?_
      rotate_left
      · skip
        (refine load_gives 54 (.tmp 7) ?_ q7 ?_ _ P.toArray (0, 0) _ (HQP.out W hS) Tryz.underlying54 rfl HPM.out ?_ <;> first | rfl | exact ⟨Below.refl _ _, hS⟩)
      simp only [List.setIfInBounds_toArray, List.set_cons_zero, List.set_cons_succ]
      refine extS_one (i := 28) (by kernel_rfl) rfl (fun wa hbwa hSwa => ?_)
      intro K hK
      go_simp
      refine (HPUT.out wa hSwa).mono ?_
      rintro e wb ⟨vb, rfl, hob, hbx⟩
      have hSwb := hSwa.trans (hbx.mono hSwa.size)
      have HOB := Lib.hid hob
      obtain ⟨ob, cb, rfl, _, _, _⟩ := hob.reads.val
      refine hK _ _ hSwb ?_
      clear hK K hbx hob
      try simp only [List.setIfInBounds_toArray, List.set_cons_zero, List.set_cons_succ]
      refine extS_one (i := 29) (by kernel_rfl) rfl (fun wc hbwc hSwc => ?_)
      intro K hK
      go_simp
      refine (rshaOf_any _ _ wc (HOB.out.below hbwc (Nat.le_refl _)).reads HBY'.out.1 (by have := HBY'.out.2; omega)).mono ?_
      rintro e wd ⟨rfl, hbx⟩
      have hSwd := hSwc.trans (hbx.mono hSwc.size)
      rw [HGE.out]
      refine hK _ _ hSwd ?_
      clear hK K hbx HOB
      try simp only [List.setIfInBounds_toArray, List.set_cons_zero, List.set_cons_succ]
      refine extS_take (i := 30) (d := 67) (v := ?_) rfl rfl (by kernel_rfl) (by kernel_rfl) (by kernel_rfl) (fun _ _ _ h => h) (by rfl) (fun W hS => ?_) ?_
      rotate_left
      · skip
        refine gives_value (w := W) ⟨Below.refl _ _, hS⟩ ?_; refine (exec_eqsM rfl ?_ ?_ (by kernel_rfl) (HEQ.out W)).trans ?_ <;> rfl
      simp only [List.setIfInBounds_toArray, List.set_cons_zero, List.set_cons_succ]
      refine extS_take (i := 31) (d := 68) (v := ?_) rfl rfl (by kernel_rfl) (by kernel_rfl) (by kernel_rfl) (fun _ _ _ h => h) (by rfl) (fun W hS => ?_) ?_
      rotate_left
      · skip
        refine gives_value (w := W) ⟨Below.refl _ _, hS⟩ ?_; go_simp; try with_reducible rfl
      simp only [List.setIfInBounds_toArray, List.set_cons_zero, List.set_cons_succ]
      refine extS_take (i := 32) (d := 6) (v := ?_) rfl rfl (by kernel_rfl) (by kernel_rfl) (by kernel_rfl) (fun _ _ _ h => h) (by rfl) (fun W hS => ?_) ?_
      rotate_left
      · skip
        refine gives_value (w := W) ⟨Below.refl _ _, hS⟩ ?_; go_simp; try with_reducible rfl
      simp only [List.setIfInBounds_toArray, List.set_cons_zero, List.set_cons_succ]
      refine extS_done (by kernel_rfl) (fun w8 _ hS8 => ?_) _
      have HS8 := Lib.hid (HB6.out.trans (hS8.mono HB6.out.size))
      clear hS8
      go_wp2
      go_meet
      case rel => exact ⟨by rw [HY.out], HS8.out⟩
    case rest =>
    obtain ⟨rfl, hbc⟩ := hcut
    have HBC := Lib.hid (HB.out.trans (hbc.mono HB.out.size))
    clear hbc hc0
    cases Y
    · have HFIN : Hid (CChk l k 12) := Lib.hid ⟨HNO.out, .inr ⟨HKB.out, (cerr_off HZ0.out (fun h => of_decide_eq_false HYY.out.symm ((folD_iff HKB.out HZ0.out).2 h))).symm, by decide⟩⟩
      go_wp2
      go_ret2
      exact ⟨k, 12, HFIN.out, rfl, HBC.out⟩
    · have HNX : Hid (∀ j, j < k + 1 → cerr l j = 0) := Lib.hid fun j hj => by
        by_cases hjk : j < k
        · exact HNO.out j hjk
        · obtain rfl : j = k := by omega
          exact cerr_good HZ0.out ((folD_iff HKB.out HZ0.out).1 (of_decide_eq_true HYY.out.symm))
      go_wp2
      go_roundw
      case rel => exact ⟨k + 1, HKL.out, by go_num, HNX.out, HBC.out⟩
      case measure => have := HKL.out; simp [intOf]; omega

def RHeadPost (l : List MF) (w : World) (e : Ending) (w' : World) : Prop := e = .returned (.tuple #[.agg (vals .u8 (headR l)).toArray, .int .i64 (headC l : Int)]) ∧ Below w.heap.size w w'

set_option maxHeartbeats 8000000 in
set_option maxRecDepth 100000 in
theorem rchead_any (v : Value) (rs : List MV) (w : World) (B : Nat → Prop) (h : MsAt w B v rs) (hl : rs.length ≤ 12) :
    Calls Tryz.prog 10 #[v] w (RHeadPost (msOf rs) w) := by
  obtain ⟨ao, cap, rfl, l1, m1, _⟩ := h.val
  obtain ⟨W1, hW1⟩ : ∃ W1, W1 = w.alloc (.cells (vals .u8 zero32).toArray 37) := ⟨_, rfl⟩
  have hb1 : Below w.heap.size w W1 := by rw [hW1]; exact (Below.refl _ _).alloc (Nat.le_refl _) _
  have hz1 : W1.heap[w.heap.size]? = some (.cells (vals .u8 zero32).toArray 37 (0, 0)) := by rw [hW1]; exact heap_alloc_new _ _
  have hs1 : W1.heap.size = w.heap.size + 1 := by rw [hW1]; simp
  have hh1 := h.old hb1
  have hdg : Dg (lastV rs).1.prev := h.dg _
  have HDG := Lib.hid hdg
  have HMS : Hid ((Tryz.prog.info? 54).map (·.size) = some (mvRow (lastV rs)).toArray.size) := Lib.hid (by rw [mvRow_size hdg]; exact Tryz.sizeMFD)
  have HML : Hid ((Tryz.prog.info? 54).map (·.size) = some (mvRow (lastV rs)).length) := Lib.hid (by rw [mvRow_len hdg]; exact Tryz.sizeMFD)
  have HSS : Hid ((mvRow (lastV rs)).toArray.size = 37) := Lib.hid (mvRow_size hdg)
  have HON : Hid ((mvRow (lastV rs)).toArray.all (·.oneCell') = true) := Lib.hid (h.one _)
  have HDZ : Hid ((Tryz.prog.info? 37).map (·.size) = some (vals .u8 zero32).toArray.size) := Lib.hid (by rw [List.size_toArray, vals_length]; exact Tryz.sizeDGD)
  have HB1 := Lib.hid hb1
  have HZ1 := Lib.hid hz1
  have HS1 := Lib.hid hs1
  have HFS := Lib.hid (lastV_fst rs)
  have HRR := Lib.hid hh1
  have HLL := Lib.hid (msOf_length rs)
  rw [rsha_zero] at hW1
  have HW1 := Lib.hid hW1
  by_cases h0 : rs.length = 0
  · obtain rfl : rs = [] := List.length_eq_zero_iff.1 h0
    have HP : Hid (headR (msOf []) = zero32 ∧ headC (msOf []) = 0) := Lib.hid ⟨rfl, rfl⟩
    clear h hb1 hz1 hs1 hh1 hdg hW1 l1 m1 h0 hl
    go_enter Tryz.func10, Tryz.ntmps10
    go_wp2_with ((with_reducible show wpList _ _ _ (Oper.mk none _ _ _ _ _ :: _) _ _); rw [← HW1.out, ← rsha_zero]; go_must (refine wpList_store_box rfl 37 (.tmp 2) (.tmp 9) rfl w.heap.size (vals .u8 zero32).toArray rfl rfl _ _ HZ1.out HDZ.out rfl (all_one (ptRow_valsQ zero32)) ?_))
    intro W4 hq4 hb4 _
    have HQ4 := Lib.hid hq4
    have HB4 := Lib.hid (HB1.out.trans hb4)
    clear hq4 hb4
    go_wp2
    refine bodyPost_ret (v := .tuple #[.agg (vals .u8 zero32).toArray, .int .i64 0]) (results_row_tmp (p := 2) rfl _ _ w.heap.size _ _ _ _ _ rfl rfl HQ4.out Tryz.underlying37 rfl HDZ.out) rfl ?_
    exact ⟨by rw [HP.out.1, HP.out.2]; rfl, HB4.out⟩
  obtain ⟨k, hk⟩ : ∃ k, rs.length = k + 1 := ⟨rs.length - 1, by omega⟩
  obtain ⟨b, off, rfl, _, _, hcell⟩ := hh1.at (i := k) (by omega)
  have hlv : lastV rs = mvd rs k := by unfold lastV; rw [hk]; rfl
  rw [← hlv] at hcell
  have HPS : Hid (∀ W, Below W1.heap.size W1 W → PsAt W B (lastV rs).2 (lastV rs).1.ps) := Lib.hid fun W hb => (HRR.out.old hb).ps _
  have HRC : Hid (∀ W, Below W1.heap.size W1 W → Calls Tryz.prog 21 #[.agg (mvRow (lastV rs)).toArray] W fun e w' => e = .returned (.int .i64 (mchk (lastV rs).1 : Int)) ∧ Below W.heap.size W w') := Lib.hid fun W hb => rmcheck_any _ _ W B (HPS.out W hb) HDG.out
  have HPU : Hid (∀ W, Below W1.heap.size W1 W → mchk (lastV rs).1 = 0 → Calls Tryz.prog 23 #[.agg (mvRow (lastV rs)).toArray] W fun e w' => ∃ v', e = .returned v' ∧ Owns w' W.heap.size 5 .u8 v' (fr (mtext (lastV rs).1)) ∧ Below W.heap.size W w') := Lib.hid fun W hb hz => rmput_any _ _ W B (HPS.out W hb) HDG.out hz
  have hcd : headC (msOf rs) = mchk (lastV rs).1 := by unfold headC; rw [HLL.out, if_neg h0, HFS.out]
  have HP : Hid (headC (msOf rs) = mchk (lastV rs).1 ∧ (mchk (lastV rs).1 = 0 → headR (msOf rs) = mdig (lastV rs).1) ∧ (mchk (lastV rs).1 ≠ 0 → headR (msOf rs) = zero32)) := Lib.hid (by
    refine ⟨hcd, fun hz => ?_, fun hz => ?_⟩
    · unfold headR headM
      rw [if_neg (by rw [hcd, hz]; simp), HLL.out, if_neg h0, HFS.out]
    · unfold headR
      rw [if_pos (by rw [hcd]; exact hz)])
  have HOKM : Hid (MOk (lastV rs).1) := Lib.hid ⟨HDG.out, (HPS.out W1 (Below.refl _ _)).2⟩
  obtain ⟨n, hn⟩ : ∃ n, n = rs.length := ⟨_, rfl⟩
  rw [← hn] at hk h0 l1 hl ⊢
  have hwr : wrap64 ((n : Int) - 1) = (k : Int) := by rw [IntWalk.wrap64_in _ (by omega)]; omega
  have hki : (k : Int) < (n : Int) := by omega
  have h0b : ((n : Int) == 0) = false := by simp; omega
  have hkn : k = n - 1 := by omega
  obtain ⟨M, hM⟩ : ∃ M, M = (lastV rs).1 := ⟨_, rfl⟩
  obtain ⟨R, hR⟩ : ∃ R, R = mvRow (lastV rs) := ⟨_, rfl⟩
  rw [← hM] at HRC HPU HP HOKM
  rw [← hR] at HMS HML HSS HON HRC HPU hcell
  rw [hkn] at hcell
  have HCELL := Lib.hid hcell
  have HNN : Hid (n ≤ 12) := Lib.hid hl
  clear h hb1 hz1 hs1 hh1 hdg hcell hlv hcd hn hM hR hW1 hk hkn l1 m1 h0
  go_enter Tryz.func10, Tryz.ntmps10
  go_wp2_with (first
    | ((with_reducible show wpList _ _ _ (Oper.mk (some 15) _ _ _ _ _ :: _) _ _); rw [← HW1.out]; go_must (refine wpList_load_at rfl 54 (.tmp 14) rfl b (off + (n - 1) * 37) rfl R _ HCELL.out Tryz.underlying54 rfl HML.out ?_))
    | ((with_reducible show wpList _ _ _ (Oper.mk none _ _ _ _ _ :: _) _ _); go_must (refine wpList_store_new rfl 54 (.tmp 4) (.tmp 15) rfl W1 _ R.toArray rfl rfl _ HMS.out (by rw [HSS.out]; rfl) HON.out ?_)))
  intro W3 hq3 hb3 hs3
  have HQ3 := Lib.hid hq3
  have HB3 := Lib.hid hb3
  have HZ3 := Lib.hid ((hb3.block _ (by have := HS1.out; omega)).trans HZ1.out)
  have HRC3 := Lib.hid (HRC.out W3 hb3)
  have HS3 : Hid (W1.heap.size < W3.heap.size) := Lib.hid (by omega)
  obtain ⟨q4, hq4⟩ : ∃ q, q = W1.heap.size := ⟨_, rfl⟩
  rw [← hq4] at HQ3 ⊢
  have HQ4E := Lib.hid hq4
  clear hq3 hb3 hs3 hq4
  go_wp2_with ((with_reducible show wpList _ _ _ (Oper.mk (some 16) _ _ _ _ _ :: _) _ _); go_must (refine wpList_load_row rfl 54 (.tmp 4) rfl q4 rfl _ R.toArray _ _ HQ3.out Tryz.underlying54 rfl HMS.out ?_))
  refine HRC3.out.mono ?_
  rintro e w4 ⟨rfl, hb4⟩
  have HB4 := Lib.hid (HB3.out.trans (hb4.mono HB3.out.size))
  have HBW4 := Lib.hid (HB1.out.trans (HB4.out.mono HB1.out.size))
  have HQ4 := Lib.hid ((hb4.block _ (by have := HS3.out; have := HQ4E.out; omega)).trans HQ3.out)
  have HZ4 := Lib.hid ((hb4.block _ (by have := HS1.out; have := HS3.out; omega)).trans HZ3.out)
  have HS4 : Hid (w.heap.size < w4.heap.size) := Lib.hid (by have := HS1.out; have := HB4.out.size; omega)
  clear hb4
  obtain ⟨z, hz⟩ : ∃ z, z = mchk M := ⟨_, rfl⟩
  rw [← hz]
  by_cases hz0 : z = 0
  rotate_left
  · have hzb : ((z : Int) != 0) = true := by simp; omega
    have HPZ : Hid (headR (msOf rs) = zero32 ∧ headC (msOf rs) = z) := Lib.hid ⟨HP.out.2.2 (by rw [← hz]; exact hz0), by rw [HP.out.1, hz]⟩
    clear hz hz0
    go_wp2_with ((with_reducible show wpList _ _ _ (Oper.mk none _ _ _ _ _ :: _) _ _); rw [← rsha_zero]; go_must (refine wpList_store_box rfl 37 (.tmp 2) (.tmp 20) rfl w.heap.size (vals .u8 zero32).toArray rfl rfl _ _ HZ4.out HDZ.out rfl (all_one (ptRow_valsQ zero32)) ?_))
    intro W5 hq5 hb5 _
    have HQ5 := Lib.hid hq5
    have HB5 := Lib.hid (HBW4.out.trans hb5)
    clear hq5 hb5
    go_wp2
    refine bodyPost_ret (v := .tuple #[.agg (vals .u8 zero32).toArray, .int .i64 (z : Int)]) (results_row_tmp (p := 2) rfl _ _ w.heap.size _ _ _ _ _ rfl rfl HQ5.out Tryz.underlying37 rfl HDZ.out) rfl ?_
    exact ⟨by rw [HPZ.out.1, HPZ.out.2], HB5.out⟩
  have hzb : ((z : Int) != 0) = false := by simp [hz0]
  have HMZ : Hid (mchk M = 0) := Lib.hid (by rw [← hz]; exact hz0)
  have HPZ : Hid (headR (msOf rs) = mdig M ∧ headC (msOf rs) = 0) := Lib.hid ⟨HP.out.2.1 HMZ.out, by rw [HP.out.1]; exact HMZ.out⟩
  have HPU4 := Lib.hid (HPU.out w4 HB4.out HMZ.out)
  have HBY := Lib.hid (man_bytes HMZ.out HOKM.out)
  clear hz hz0
  go_wp2_with ((with_reducible show wpList _ _ _ (Oper.mk (some 22) _ _ _ _ _ :: _) _ _); go_must (refine wpList_load_row rfl 54 (.tmp 4) rfl q4 rfl _ R.toArray _ _ HQ4.out Tryz.underlying54 rfl HMS.out ?_))
  refine HPU4.out.mono ?_
  rintro e w5 ⟨v5, rfl, ho5, hb5⟩
  have HB5 := Lib.hid (HBW4.out.trans (hb5.mono HBW4.out.size))
  have HZ5 := Lib.hid ((hb5.block _ HS4.out).trans HZ4.out)
  have HS5 : Hid (w.heap.size < w5.heap.size) := Lib.hid (Nat.lt_of_lt_of_le HS4.out hb5.size)
  have HSH := Lib.hid (rshaOf_any _ _ w5 ho5.reads HBY.out.1 (by have := HBY.out.2; omega))
  obtain ⟨o5, c5, rfl, _, _, _⟩ := ho5.reads.val
  obtain ⟨D, hD⟩ : ∃ D, D = mdig M := ⟨_, rfl⟩
  have hd32 : D.length = 32 := by rw [hD]; exact (mdig_dg _).1
  have HDD : Hid ((Tryz.prog.info? 37).map (·.size) = some (vals .u8 D).toArray.size) := Lib.hid (by rw [List.size_toArray, vals_length, hd32]; exact Tryz.sizeDGD)
  have HD0 : Hid ((vals .u8 zero32).toArray.size = (vals .u8 D).toArray.size) := Lib.hid (by rw [List.size_toArray, List.size_toArray, vals_length, vals_length, hd32]; rfl)
  rw [show shaOf shaK shaH (fr (mtext M)) = D from hD.symm] at HSH
  rw [← hD] at HPZ
  obtain ⟨nb, hnb⟩ : ∃ j, j = (fr (mtext M)).length := ⟨_, rfl⟩
  rw [← hnb] at HSH ⊢
  clear ho5 hb5 hD hd32 hnb
  go_wp2_with fail
  refine HSH.out.mono ?_
  rintro e w6 ⟨rfl, hb6⟩
  have HB6 := Lib.hid (HB5.out.trans (hb6.mono HB5.out.size))
  have HZ6 := Lib.hid ((hb6.block _ HS5.out).trans HZ5.out)
  clear hb6
  go_wp2_with ((with_reducible show wpList _ _ _ (Oper.mk none _ _ _ _ _ :: _) _ _); go_must (refine wpList_store_box rfl 37 (.tmp 2) (.tmp 24) rfl w.heap.size (vals .u8 D).toArray rfl rfl _ _ HZ6.out HDD.out HD0.out (all_one (ptRow_valsQ D)) ?_))
  intro W7 hq7 hb7 _
  have HQ7 := Lib.hid hq7
  have HB7 := Lib.hid (HB6.out.trans hb7)
  clear hq7 hb7
  go_wp2
  refine bodyPost_ret (v := .tuple #[.agg (vals .u8 D).toArray, .int .i64 0]) (results_row_tmp (p := 2) rfl _ _ w.heap.size _ _ _ _ _ rfl rfl HQ7.out Tryz.underlying37 rfl HDD.out) rfl ?_
  exact ⟨by rw [HPZ.out.1, HPZ.out.2]; rfl, HB7.out⟩

end Go.Proofs.YtgnalcobcdgnkaaGreatDoor
