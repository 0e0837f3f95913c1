/- A unit's bytes, one entry behind the other: the mathematics. · A unit's bytes: PutUnit, by the program. · A unit's bytes: PutUnit, by the document. -/
import Derived.Test.YtlckadlkgjfjcaaGreatDoorRvP
import Derived.Test.YtlckadlkgjfjcaaGreatDoorRaP
import Derived.Deep.CutBlock
import Derived.Deep.RegionHeld3
namespace Go.Proofs.YtlckadlkgjfjcaaGreatDoor
open Go.RowKit

/-- The first address that an entry might have behind others. -/
def nxt : Int → Im IC → Int
  | first, [] => first
  | _, f :: r => nxt (f.1 + 1) r
theorem etext_app : ∀ (l m : Im IC) (first : Int), etext first (l ++ m) = etext first l ++ etext (nxt first l) m
  | [], _, _ => rfl
  | f :: r, m, first => by
    show enc _ ++ (cbytes _ ++ etext _ (r ++ m)) = (enc _ ++ (cbytes _ ++ etext _ r)) ++ etext (nxt (f.1 + 1) r) m
    rw [etext_app r m (f.1 + 1)]
    simp only [List.append_assoc]
theorem nxt_app : ∀ (l m : Im IC) (first : Int), nxt first (l ++ m) = nxt (nxt first l) m
  | [], _, _ => rfl
  | f :: r, m, _ => nxt_app r m (f.1 + 1)
theorem nxt_snoc (l : Im IC) (f : Int × IC) (first : Int) : nxt first (l ++ [f]) = f.1 + 1 := by rw [nxt_app]; rfl
theorem etext_snoc (l : Im IC) (f : Int × IC) (first : Int) : etext first (l ++ [f]) = etext first l ++ (enc (f.1 - nxt first l).toNat ++ cbytes (toCC f.2)) := by
  rw [etext_app]
  show etext first l ++ (enc _ ++ (cbytes _ ++ [])) = _
  rw [List.append_nil]
theorem nxt_take {l : Im IC} {k : Nat} {f : Int × IC} (h : l[k]? = some f) (first : Int) : nxt first (l.take (k + 1)) = f.1 + 1 := by rw [take_snocU h, nxt_snoc]
theorem etext_take {l : Im IC} {k : Nat} {f : Int × IC} (h : l[k]? = some f) (first : Int) : etext first (l.take (k + 1)) = etext first (l.take k) ++ (enc (f.1 - nxt first (l.take k)).toNat ++ cbytes (toCC f.2)) := by
  rw [take_snocU h, etext_snoc]
/-- Where the next one may lie, of entries that rise. -/
theorem nxt_le {l : Im IC} {k : Nat} {f : Int × IC} {first : Int} (hf : ∀ g ∈ l, first ≤ g.1) (hr : IRise l) (h : l[k]? = some f) : nxt first (l.take k) ≤ f.1 ∧ first ≤ nxt first (l.take k) := by
  cases k with
  | zero => exact ⟨hf f (List.mem_of_getElem? h), Int.le_refl _⟩
  | succ k =>
    have hk : k < l.length := by have := (List.getElem?_eq_some_iff.1 h).1; omega
    have hg : l[k]? = some l[k] := List.getElem?_eq_getElem hk
    rw [nxt_take hg]
    have h1 := up_rise hr k _ _ hg h
    have h2 := hf _ (List.mem_of_getElem? hg)
    omega
theorem okC_len {c : CC} (h : okC c) : (cbytes c).length ≤ 84 := by
  obtain ⟨h3, h64, _, _⟩ := h
  have e1 := enc_len10 (n := 1) (by unfold U64; omega)
  have e2 := enc_len10 (n := c.2.length) (by unfold U64; omega)
  have e3 := enc_len10 (n := c.1) (by unfold U64; omega)
  unfold cbytes
  split
  · simp only [List.length_append]; omega
  · omega
theorem okC_byte {c : CC} (h : okC c) : ∀ y ∈ cbytes c, y < 256 := by
  obtain ⟨h3, h64, _, h8⟩ := h
  unfold cbytes
  split
  · exact app_byte (enc_u64 (by unfold U64; omega)) (app_byte (enc_u64 (by unfold U64; omega)) h8)
  · exact enc_u64 (by unfold U64; omega)
theorem etext_len : ∀ {l : Im IC} {first : Int}, 0 ≤ first → (∀ f ∈ l, 0 ≤ f.1 ∧ f.1 ≤ 1048575 ∧ okU f.2) → (etext first l).length ≤ 94 * l.length
  | [], _, _, _ => Nat.le_refl _
  | f :: r, first, h0, h => by
    obtain ⟨h1, h2, h3⟩ := h f (by simp)
    have ih := etext_len (l := r) (first := f.1 + 1) (by omega) fun g hg => h g (by simp [hg])
    have e1 := enc_len10 (n := (f.1 - first).toNat) (by unfold U64; omega)
    have e2 := okC_len (okU_cc h3)
    unfold etext
    simp only [List.length_append, List.length_cons]
    omega
theorem etext_byte : ∀ {l : Im IC} {first : Int}, 0 ≤ first → (∀ f ∈ l, 0 ≤ f.1 ∧ f.1 ≤ 1048575 ∧ okU f.2) → ∀ y ∈ etext first l, y < 256
  | [], _, _, _ => by unfold etext; simp
  | f :: r, first, h0, h => by
    obtain ⟨h1, h2, h3⟩ := h f (by simp)
    have ih := etext_byte (l := r) (first := f.1 + 1) (by omega) fun g hg => h g (by simp [hg])
    unfold etext
    exact app_byte (enc_u64 (by unfold U64; omega)) (app_byte (okC_byte (okU_cc h3)) ih)
/-- What stands ahead of the entries. -/
def uhead (U : US) : List Nat := enc U.epoch.toNat ++ (enc U.low.toNat ++ enc U.cells.length)
theorem utext_head (U : US) : utext U = uhead U ++ etext U.low U.cells := by unfold utext uhead; simp only [List.append_assoc]
theorem UOk.at0 {U : US} (h : UOk U) : ∀ f ∈ U.cells, 0 ≤ f.1 ∧ f.1 ≤ 1048575 ∧ okU f.2 := fun f hf => by
  obtain ⟨h1, h2, h3⟩ := h.at' f hf
  have := h.low
  exact ⟨by omega, h2, h3⟩
theorem uhead_len {U : US} (h : UOk U) (hl : U.cells.length ≤ 1048576) : (uhead U).length ≤ 30 ∧ ∀ y ∈ uhead U, y < 256 := by
  have h1 := h.epoch
  have h2 := h.low
  have u1 : U64 U.epoch.toNat := by unfold U64; omega
  have u2 : U64 U.low.toNat := by unfold U64; omega
  have u3 : U64 U.cells.length := by unfold U64; omega
  have e1 := enc_len10 u1
  have e2 := enc_len10 u2
  have e3 := enc_len10 u3
  unfold uhead
  refine ⟨by simp only [List.length_append]; omega, app_byte (enc_u64 u1) (app_byte (enc_u64 u2) (enc_u64 u3))⟩
theorem utext_len {U : US} (h : UOk U) (hl : U.cells.length ≤ 1048576) : (utext U).length ≤ 30 + 94 * U.cells.length ∧ ∀ y ∈ utext U, y < 256 := by
  obtain ⟨h1, h2⟩ := uhead_len h hl
  rw [utext_head]
  refine ⟨?_, app_byte h2 (etext_byte h.low.1 h.at0)⟩
  rw [List.length_append]
  have := etext_len h.low.1 h.at0
  omega
end Go.Proofs.YtlckadlkgjfjcaaGreatDoor

namespace Go.Proofs.YtlckadlkgjfjcaaGreatDoor
open Go.RowKit

/-- What PutUnit answers. -/
def PutUPost (err : Nat → Value) (U : US) (w : World) (r : Ending) (w' : World) : Prop :=
  Below w.heap.size w w' ∧ (((utext U).length ≤ 65536 ∧ ∃ v', r = .returned (.tuple #[v', err 0]) ∧ Owns w' w.heap.size 5 .u8 v' (fr (utext U))) ∨
    (65536 < (utext U).length ∧ r = .returned (.tuple #[.slice none 0 0, err 3])))
theorem uhead_encs (U : US) : encs [U.epoch.toNat, U.low.toNat, U.cells.length] = uhead U := by unfold encs uhead; simp
theorem wrap_u64n {n : Nat} (h : n ≤ 1099511627776) : IntKind.u64.wrap (n : Int) = (n : Int) := by rw [IntKind.wrap_u64]; omega
theorem wrap_i64n {n : Nat} (h : n ≤ 1099511627776) : IntKind.i64.wrap (n : Int) = (n : Int) := by rw [IntKind.wrap_i64]; omega
theorem puts_sub {a nx : Int} (h : nx ≤ a) (h0 : 0 ≤ nx) (h1 : a ≤ 1048575) : a - nx = (((a - nx).toNat : Nat) : Int) ∧ (a - nx).toNat ≤ 1048575 := by omega
theorem wrap_nx {a : Int} (h0 : 0 ≤ a) (h1 : a ≤ 1048575) : wrap64 (a + 1) = a + 1 := by simp only [wrap64]; omega

set_option maxHeartbeats 8000000 in
set_option maxRecDepth 100000 in
theorem putUnit_any {w : World} {B : Nat → Prop} {u m : Nat} {U : US} (h : Un w B u m U) : Calls Tryz.prog 99 #[.pointer (some ⟨u, 0, none⟩)] w (PutUPost errV U w) := by
  have HEN := Lib.hid (uentries_any h)
  have HUE := Lib.hid (fun (W : World) (hb : Below w.heap.size w W) => uepoch_any (h.old hb))
  have HUL := Lib.hid (fun (W : World) (hb : Below w.heap.size w W) => ulow_any (h.old hb))
  have HOK := Lib.hid h.ok
  have HLN : Hid (U.cells.length ≤ 1048576) := Lib.hid h.ok.len
  obtain ⟨en, hen⟩ : ∃ n : Nat, n = U.epoch.toNat := ⟨_, rfl⟩
  obtain ⟨ln, hln⟩ : ∃ n : Nat, n = U.low.toNat := ⟨_, rfl⟩
  obtain ⟨cn, hcn⟩ : ∃ n : Nat, n = U.cells.length := ⟨_, rfl⟩
  have hee : U.epoch = (en : Int) := by have := h.ok.epoch; omega
  have hll : U.low = (ln : Int) := by have := h.ok.low; omega
  have HEB : Hid (en ≤ 1099511627776) := Lib.hid (by have := h.ok.epoch; omega)
  have HLB : Hid (ln ≤ 1048576) := Lib.hid (by have := h.ok.low; omega)
  have HCB : Hid (cn ≤ 1048576) := Lib.hid (by rw [hcn]; exact h.ok.len)
  have hwe := wrap_u64n HEB.out
  have hwl := wrap_u64n (n := ln) (by have := HLB.out; omega)
  have hwc := wrap_u64n (n := cn) (by have := HCB.out; omega)
  have HH : Hid (encs [en, ln, cn] = uhead U) := Lib.hid (by rw [hen, hln, hcn]; exact uhead_encs U)
  have HLL := Lib.hid hll
  have HCN := Lib.hid hcn
  rw [hee] at HUE
  rw [hll] at HUL
  clear h hen hln hcn hee hll
  go_enter Tryz.func99, Tryz.ntmps99
  go_wp2_with fail
  refine HEN.out.mono ?_
  rintro r w1 ⟨v1, rfl, he1, hb1⟩
  obtain ⟨ao1, cap1, rfl⟩ := he1.val
  rw [← HCN.out]
  have HB1 := Lib.hid hb1
  have HE1 := Lib.hid he1.at'
  have HUE1 := Lib.hid (HUE.out w1 hb1)
  have HUL1 := Lib.hid (HUL.out w1 hb1)
  rw [← HCN.out] at HE1
  clear he1 hb1
  obtain ⟨W2, hW2⟩ : ∃ W, W = w1.alloc (.cells #[.int .u64 (en : Int), .int .u64 (ln : Int), .int .u64 (cn : Int)] 200) := ⟨_, rfl⟩
  have hb2 : Below w1.heap.size w1 W2 := by rw [hW2]; exact (Below.refl _ _).alloc (Nat.le_refl _) _
  have hr2 : Reads W2 .u64 (.slice (some ⟨w1.heap.size, 0, none⟩) 3 3) [en, ln, cn] := by rw [hW2]; exact reads_litN w1 200 .u64 [en, ln, cn] _ (0, 0) rfl (by simp [maxLen])
  have HPU := Lib.hid (put_any (.slice none 0 0) _ [] [en, ln, cn] W2 (reads_none _ _) hr2 (by
    have h1 := HEB.out; have h2 := HLB.out; have h3 := HCB.out
    intro x hx
    simp only [List.mem_cons, List.not_mem_nil, or_false] at hx
    unfold U64
    rcases hx with rfl | rfl | rfl <;> omega) (by simp))
  have HE2 := Lib.hid (HE1.out.keep (kept_new hb2 _))
  have HB2 : Hid (Below w.heap.size w W2) := Lib.hid (HB1.out.trans (hb2.mono HB1.out.size))
  have HUL2 := Lib.hid (HUL.out W2 HB2.out)
  have HW2 := Lib.hid hW2
  clear hb2 hr2 hW2
  go_wp2_with fail
  refine HUE1.out.mono ?_
  rintro r w1' ⟨rfl, hw⟩
  subst hw
  go_wp2_with fail
  refine HUL1.out.mono ?_
  rintro r w1' ⟨rfl, hw⟩
  subst hw
  go_wp2_with fail
  rw [← HW2.out]
  refine HPU.out.mono ?_
  rintro r w3 ⟨v3, rfl, ho3, hb3⟩
  have HO3 : Hid (Owns w3 W2.heap.size 5 .u8 v3 (uhead U)) := Lib.hid (by rw [← HH.out]; exact ho3)
  have HB3 : Hid (Below W2.heap.size W2 w3) := Lib.hid hb3
  have HUL3 := Lib.hid (HUL.out w3 (HB2.out.trans (hb3.mono HB2.out.size)))
  clear ho3 hb3
  go_wp2_with fail
  refine HUL3.out.mono ?_
  rintro r w3' ⟨rfl, hw⟩
  subst hw
  obtain ⟨bs, hbs⟩ : ∃ x, x = W2.heap.size := ⟨_, rfl⟩
  have HBS := Lib.hid hbs
  obtain ⟨ao3, cap3, hv3, _, _, _⟩ := HO3.out.reads.val
  subst hv3
  obtain ⟨n3, hn3⟩ : ∃ n, n = (uhead U).length := ⟨_, rfl⟩
  rw [← hn3] at HO3 ⊢
  clear hbs hwe hwl hwc hn3
  go_wp2
  go_loopw [5, 6, 31] (fun tv fv i wr => ∃ k : Nat, k ≤ cn ∧ i = .int .i64 (k : Int) ∧ fv = .int .i64 (nxt U.low (U.cells.take k)) ∧ Owns wr bs 5 .u8 tv (uhead U ++ etext U.low (U.cells.take k)) ∧ Below bs W2 wr)
    (fun _ _ i _ => cn - (intOf i).toNat)
  case atStart => exact ⟨0, Nat.zero_le _, rfl, by first | rfl | exact congrArg _ HLL.out.symm, by rw [HBS.out]; show Owns _ _ _ _ _ (uhead U ++ []); rw [List.append_nil]; exact HO3.out, by rw [HBS.out]; exact HB3.out⟩
  case round =>
    obtain ⟨k, hk, rfl, rfl, ho, hb⟩ := hrel
    obtain ⟨aot, capt, rfl, _, _, _⟩ := ho.reads.val
    obtain ⟨nt, hnt⟩ : ∃ n, n = (uhead U ++ etext U.low (U.cells.take k)).length := ⟨_, rfl⟩
    rw [← hnt] at ho ⊢
    have HO := Lib.hid ho
    have HB := Lib.hid hb
    have HNT := Lib.hid hnt
    have HKC : Hid (k ≤ cn) := Lib.hid hk
    have HWR : Hid (bs ≤ wr.heap.size) := Lib.hid (by have := hb.size; rw [HBS.out]; exact this)
    clear ho hb hnt hk
    by_cases hlt : k < cn
    · have hkU : k < U.cells.length := by rw [← HCN.out]; exact hlt
      obtain ⟨f, hf⟩ : ∃ f, U.cells[k]? = some f := ⟨_, List.getElem?_eq_getElem hkU⟩
      obtain ⟨fb, off, dv, rfl, hbl, _, e0, e1, e2, hat⟩ := HE2.out.at hf
      have hbb : Below W2.heap.size W2 wr := by rw [← HBS.out]; exact HB.out
      have e0 := (hbb.cell (p := ⟨fb, off + k * 3, none⟩) hbl).trans e0
      have e1 := (hbb.cell (p := ⟨fb, off + k * 3 + 1, none⟩) hbl).trans e1
      have e2 := (hbb.cell (p := ⟨fb, off + k * 3 + 2, none⟩) hbl).trans e2
      have hatr := hat.old hbb
      obtain ⟨hf1, hf2, hf3⟩ := HOK.out.at0 f (List.mem_of_getElem? hf)
      have hnx := nxt_le (fun g hg => (HOK.out.at' g hg).1) HOK.out.rise hf
      have hlow := HOK.out.low.1
      obtain ⟨hsub, hz⟩ := puts_sub hnx.1 (by omega) hf2
      have hwn := wrap_nx hf1 hf2
      have HTX := Lib.hid (etext_take hf U.low)
      have HNX := Lib.hid (nxt_take hf U.low)
      have HCK : Hid (chk f.2.1 f.2.2.length = 0) := Lib.hid hf3.2.1
      have HC84 := Lib.hid (okC_len (okU_cc hf3))
      have HDL : Hid (f.2.2.length ≤ 64) := Lib.hid (chk_zero hf3.2.1).2.2.1
      obtain ⟨z, hzz⟩ : ∃ z, z = (f.1 - nxt U.low (U.cells.take k)).toNat := ⟨_, rfl⟩
      rw [← hzz] at hsub hz HTX
      obtain ⟨nx, hnxe⟩ : ∃ x, x = nxt U.low (U.cells.take k) := ⟨_, rfl⟩
      rw [← hnxe] at hsub hnx ⊢
      obtain ⟨a, kd, dc⟩ := f
      simp only at e0 e1 e2 hatr hf1 hf2 hf3 hnx hsub hz hwn HTX HNX HCK HC84 HDL
      have hna : nx ≤ a := hnx.1
      have hn0 : 0 ≤ nx := by omega
      have hwz := wrap_u64n (n := z) (by omega)
      have hwi := wrap_i64n (n := z) (by omega)
      have HZU : Hid (U64 z) := Lib.hid (by unfold U64; omega)
      obtain ⟨aod, capd, rfl, _, _, _⟩ := hatr.reads.val
      obtain ⟨nd, hnd⟩ : ∃ n, n = dc.length := ⟨_, rfl⟩
      rw [← hnd] at e2 hatr HCK HDL
      obtain ⟨W4, hW4⟩ : ∃ W, W = wr.alloc (.cells #[.int .i64 a, .int .i64 kd, .slice aod nd capd] 178) := ⟨_, rfl⟩
      have hb4 : Below wr.heap.size wr W4 := by rw [hW4]; exact (Below.refl _ _).alloc (Nat.le_refl _) _
      have hx4 : W4.heap[wr.heap.size]? = some (.cells #[.int .i64 a, .int .i64 kd, .slice aod nd capd] 178 (0, 0)) := by rw [hW4]; exact heap_alloc_new _ _
      obtain ⟨q, hq⟩ : ∃ q, q = wr.heap.size := ⟨_, rfl⟩
      have HRD4 := Lib.hid (hatr.reads.new hb4)
      have HB4 := Lib.hid hb4
      rw [← hq] at hx4
      have HX : Hid (∀ W, Below W4.heap.size W4 W → W.cell? ⟨q, 0, none⟩ = some (.int .i64 a) ∧ W.cell? ⟨q, 1, none⟩ = some (.int .i64 kd) ∧ W.cell? ⟨q, 2, none⟩ = some (.slice aod nd capd)) := Lib.hid fun W hb => by
        have h := (hb.block _ (Array.getElem?_eq_some_iff.1 hx4).1).trans hx4
        exact ⟨by rw [cell_of_row _ _ 0 _ _ _ h]; rfl, by rw [cell_of_row _ _ 1 _ _ _ h]; rfl, by rw [cell_of_row _ _ 2 _ _ _ h]; rfl⟩
      have HQ := Lib.hid hq
      have HW4 := Lib.hid hW4
      have HND := Lib.hid hnd
      have HK := Lib.hid hlt
      have hlti : (k : Int) < (cn : Int) := by omega
      obtain ⟨x0, x1, x2⟩ := HX.out W4 (Below.refl _ _)
      rw [hW4, hq] at x0 x1 x2
      have HNXE := Lib.hid hnxe
      clear hkU hf hbl hbb hat hatr hf3 hnx hlow hzz hnxe hnd hb4 hx4 hq hW4 hlt
      go_upto_region 9 with fail
      rw [← HW4.out, ← HQ.out]
      clear x0 x1 x2 e0 e1 e2
      obtain ⟨x0, x1, x2⟩ := HX.out W4 (Below.refl _ _)
      have HSELF : Hid (Below W4.heap.size W4 W4) := Lib.hid (Below.refl _ _)
      have HPUT : Hid (Calls Tryz.prog 143 #[.slice none 0 0, .slice (some ⟨W4.heap.size, 0, none⟩) 1 1] (W4.alloc (.cells #[.int .u64 (z : Int)] 200)).drew fun r w' => ∃ vp, r = .returned vp ∧ Reads w' .u8 vp (enc z) ∧ Below W4.heap.size W4 w') := Lib.hid (by
        have h0 : Below W4.heap.size W4 (W4.alloc (.cells #[.int .u64 (z : Int)] 200)).drew := ((Below.refl _ _).alloc (Nat.le_refl _) _).drew
        refine (put_any _ _ [] [z] _ (reads_none _ _) ((reads_lit W4 .u64 200 z).below ((Below.refl _ _).drew) (Nat.le_refl _)) (by intro x hx; rw [List.mem_singleton.1 hx]; exact HZU.out) (by simp)).mono ?_
        rintro r wp ⟨vp, rfl, hop, hbp⟩
        exact ⟨vp, rfl, by have := hop.reads; simpa [encs] using this, h0.trans (hbp.mono h0.size)⟩)
      go_cut [9, 10] from 32 to 57 (fun ov ev wx => ∃ v', ov = v' ∧ ev = .nilIface ∧ Owns wx W4.heap.size 5 .u8 v' (enc z ++ cbytes (toCC (kd, dc))) ∧ Below W4.heap.size W4 wx)
      case first =>
        go_region_held3 (fun w' => w'.cell? ⟨q, 0, none⟩ = some (.int .i64 a) ∧ w'.cell? ⟨q, 1, none⟩ = some (.int .i64 kd) ∧ w'.cell? ⟨q, 2, none⟩ = some (.slice aod nd capd)) (go_keep) (first
          | (go_at_call 143
             refine HPUT.out.mono ?_
             rintro r wp ⟨vp, rfl, hrp, hbw⟩
             have HCP := Lib.hid (fun (W : World) (hb : Below wp.heap.size wp W) => cput_any vp _ (enc z) kd dc W (hrp.new hb) ((HRD4.out.new hbw).new hb) (by have := enc_len10 HZU.out; omega))
             obtain ⟨aop, capp, hvp, _, _, _⟩ := hrp.val
             subst hvp
             have HBW := Lib.hid hbw
             obtain ⟨x0, x1, x2⟩ := HX.out wp hbw
             clear hrp hbw)
          | (go_at_call 145
             refine (HCP.out _ ?hbc).mono ?_
             case hbc => first | exact Below.refl _ _ | exact ⟨rfl, rfl, rfl, Nat.le_refl _, fun _ _ => rfl⟩
             rintro r wc2 ⟨v', out, hre, hoc, hout, hbc⟩
             rw [← HND.out, HCK.out, errV_zero] at hre
             rw [← HND.out, HCK.out] at hout
             subst hre
             have HOC := Lib.hid hoc
             have HOUT := Lib.hid hout
             have HBC : Hid (Below W4.heap.size W4 wc2) := Lib.hid (HBW.out.trans (hbc.mono HBW.out.size))
             have HSZ : Hid (W4.heap.size ≤ wp.heap.size) := Lib.hid HBW.out.size
             obtain ⟨x0, x1, x2⟩ := HX.out wc2 HBC.out
             clear hoc hout hbc))
        all_goals
          go_wp2
          go_meet
          case rel => exact ⟨v', rfl, rfl, by rw [← show out = enc z ++ cbytes (toCC (kd, dc)) by rw [HOUT.out]; first | rw [if_pos rfl]; rfl | rw [if_pos trivial]; rfl]; exact HOC.out.mono HSZ.out, HBC.out⟩
      case rest =>
        obtain ⟨v', rfl, rfl, hov, hbv⟩ := hcut
        obtain ⟨aov, capv, hvv, _, _, _⟩ := hov.reads.val
        subst hvv
        have HRV := Lib.hid hov.reads
        have HBV := Lib.hid hbv
        have HBWR : Hid (Below wr.heap.size wr wc) := Lib.hid (HB4.out.trans (hbv.mono HB4.out.size))
        have HOV := Lib.hid (HO.out.below HBWR.out (Nat.le_refl _))
        obtain ⟨y0, y1, y2⟩ := HX.out wc hbv
        have HLEN : Hid ((uhead U ++ etext U.low (U.cells.take k)).length + (enc z ++ cbytes (toCC (kd, dc))).length ≤ 100000000000) := Lib.hid (by
          have h1 := (uhead_len HOK.out HLN.out).1
          have h2 := etext_len (l := U.cells.take k) HOK.out.low.1 (fun g hg => HOK.out.at0 g (List.mem_of_mem_take hg))
          have h3 : (U.cells.take k).length ≤ 1048576 := by rw [List.length_take]; have := HLN.out; omega
          have h4 := enc_len10 HZU.out
          have h5 := HC84.out
          rw [List.length_append, List.length_append]
          omega)
        have HBSW : Hid (bs ≤ wc.heap.size) := Lib.hid (Nat.le_trans HWR.out HBWR.out.size)
        obtain ⟨nv, hnv⟩ : ∃ n, n = (enc z ++ cbytes (toCC (kd, dc))).length := ⟨_, rfl⟩
        rw [← hnv] at HRV ⊢
        clear hov hbv hnv
        go_wp2_with (at_builtin; go_must (refine wpList_app _ rfl _ _ 22 rfl bs 5 (.int .u8 0) 1 Tryz.underlying22 Tryz.info5 rfl .u8 _ (uhead U ++ etext U.low (U.cells.take k)) rfl HOV.out _ (enc z ++ cbytes (toCC (kd, dc))) rfl HRV.out (by decide) (by have := HLEN.out; omega) HBSW.out ?_))
        intro v9 w9 ho9 hg9
        have HO9 : Hid (Owns w9 bs 5 .u8 v9 (uhead U ++ etext U.low (U.cells.take (k + 1)))) := Lib.hid (by rw [HTX.out]; first | exact ho9 | (rw [← List.append_assoc]; exact ho9))
        have HB9 : Hid (Below bs W2 w9) := Lib.hid (by
          have h1 : Below bs W2 wc := HB.out.trans (HBWR.out.mono HWR.out)
          exact h1.grown hg9 HBSW.out fun j hj => (HOV.out.lt j hj).1)
        have HXX : Hid (w9.cell? ⟨q, 0, none⟩ = some (.int .i64 a)) := Lib.hid (by
          have hh : w9.heap[q]? = wc.heap[q]? := hg9.block q (World.block_lt_of_cell? wc _ y0) (fun e => by
            have h1 := (HO.out.lt q e.symm).2
            rw [HQ.out] at h1
            exact Nat.lt_irrefl _ h1)
          exact (World.cell?_of_block hh).trans y0)
        clear ho9 hg9
        have x0 := HXX.out
        go_wp2
        go_roundw
        case rel => exact ⟨k + 1, HK.out, uinc_eq HK.out (by have := HCB.out; omega), by rw [HNX.out], HO9.out, HB9.out⟩
        case measure => exact uinc_meas HK.out (by have := HCB.out; omega)
    · obtain rfl : k = cn := by have := HKC.out; omega
      have htk : U.cells.take k = U.cells := by rw [HCN.out, List.take_length]
      have HUT : Hid (Reads wr .u8 (.slice aot nt capt) (utext U)) := Lib.hid (by rw [utext_head]; have h := HO.out.reads; rw [htk] at h; exact h)
      have HTL := Lib.hid (utext_len HOK.out HLN.out)
      have HBB : Hid (Below w.heap.size w wr) := Lib.hid (HB2.out.trans (HB.out.mono (by rw [HBS.out]; exact HB2.out.size)))
      clear htk
      by_cases hlong : (utext U).length ≤ 65536
      · have HPT := Lib.hid (put_good (.slice none 0 0) _ [] (utext U) wr (reads_none _ _) HUT.out HTL.out.2 hlong (by simp))
        have HLG := Lib.hid hlong
        clear hlong
        go_wp2_with fail
        refine HPT.out.mono ?_
        rintro r w9 ⟨v9, rfl, ho9, hb9⟩
        have HO9 : Hid (Owns w9 w.heap.size 5 .u8 v9 (fr (utext U))) := Lib.hid ((show Owns w9 wr.heap.size 5 .u8 v9 (fr (utext U)) from ho9).mono HBB.out.size)
        have HB9 : Hid (Below w.heap.size w w9) := Lib.hid (HBB.out.trans (hb9.mono HBB.out.size))
        clear ho9 hb9
        go_wp2
        go_ret2
        exact ⟨HB9.out, .inl ⟨HLG.out, _, rfl, HO9.out⟩⟩
      · have HLG : Hid (65536 < (utext U).length) := Lib.hid (by omega)
        have HPT := Lib.hid (put_long (.slice none 0 0) _ [] (utext U) wr (reads_none _ _) HUT.out HTL.out.2 HLG.out (by have h1 := HTL.out.1; have h2 := HLN.out; omega))
        clear hlong
        go_wp2_with fail
        refine HPT.out.mono ?_
        rintro r w9 ⟨rfl, hb9⟩
        have HB9 : Hid (Below w.heap.size w w9) := Lib.hid (HBB.out.trans (hb9.mono HBB.out.size))
        clear hb9
        go_wp2
        go_ret2
        exact ⟨HB9.out, .inr ⟨HLG.out, rfl⟩⟩
end Go.Proofs.YtlckadlkgjfjcaaGreatDoor

namespace Go.Proofs.YtlckadlkgjfjcaaGreatDoor
open Go.RowKit

end Go.Proofs.YtlckadlkgjfjcaaGreatDoor
