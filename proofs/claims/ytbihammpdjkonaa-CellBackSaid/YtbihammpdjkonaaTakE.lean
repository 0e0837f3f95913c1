/- The contract of a taker's takeData. -/
import Derived.Test.YtbihammpdjkonaaTakD
import Derived.Test.YtbihammpdjkonaaGrowB
import Derived.Deep.RegionHeld3
namespace Go.Proofs.Ytbihammpdjkonaa
open Go.RowKit

/-- A data cell, taken behind its nought: the text, the error, what is left. -/
def DataRel (last rest : List Nat) (c : Nat) (text rest' : List Nat) (c' : Nat) : Prop :=
  ∃ size r1 c1 s r2 c2 out c3, NumRel rest c size r1 c1 ∧ NumRel r1 (upC size c1 64 3) s r2 c2 ∧
    FixRel r2 (upC s c2 (min (upR size 64) last.length) 2) ((upR size 64 : Int) - (upR s (min (upR size 64) last.length) : Int)) out rest' c3 ∧
    text = last.take (upR s (min (upR size 64) last.length)) ++ out ∧ c' = (if upR s (min (upR size 64) last.length) < com last text then (if c3 = 0 then 2 else c3) else c3)

def DataPost (base t p : Nat) (rv : Value) (row : List Nat) (place c : Nat) (cs : List CC) (last : List Nat) (w : World) (e : Ending) (w' : World) : Prop :=
  ∃ (text : List Nat) (place' c' : Nat) (rnv' lsv' : Value) (acc' : List (Int × Value)), e = .returned (.tuple #[]) ∧ DataRel last (row.drop place) c text (row.drop place') c' ∧
    TkS w' base t p rv row place' c' rnv' lsv' acc' (if c' = 0 then cs ++ [(1, text)] else cs) (if c' = 0 then text else last) ∧ Gr base p w w'

theorem fix_len {rest : List Nat} {c : Nat} {many : Int} {out rest' : List Nat} {c' : Nat} (h : FixRel rest c many out rest' c') (hm : many ≤ 64) : out.length ≤ 64 := by
  rcases h with ⟨_, rfl, _⟩ | ⟨_, _, rfl, _⟩ | ⟨_, h0, _, rfl, _⟩
  · simp
  · simp
  · rw [List.length_take]; omega
theorem upR_le (n most : Nat) : upR n most ≤ most := by unfold upR; split <;> omega

set_option maxHeartbeats 4000000 in
set_option maxRecDepth 100000 in
theorem takeData_any {w : World} {base t p : Nat} {rv rnv lsv : Value} {row : List Nat} {place c : Nat} {acc : List (Int × Value)} {cs : List CC} {last : List Nat}
    (h : TkS w base t p rv row place c rnv lsv acc cs last) (hcs : cs.length < 64) (hbase : base ≤ w.heap.size) (hll : last.length ≤ 64) :
    Calls Try.prog 66 #[.pointer (some ⟨t, 0, none⟩)] w (DataPost base t p rv row place c cs last w) := by
  have e3 : Value.iface 72 (.int .i64 3) = errV 3 := (errV_pos (by decide)).symm
  have e2 : Value.iface 72 (.int .i64 2) = errV 2 := (errV_pos (by decide)).symm
  have E3 := Lib.hid e3
  have E2 := Lib.hid e2
  have H := Lib.hid h
  have HBS := Lib.hid hbase
  clear e3 e2 h hbase
  obtain ⟨aol, capl, rfl, _, _, _⟩ := H.out.lst.reads.val
  go_enter Try.func66, Try.ntmps66
  go_wp2_with fail
  rw [E3.out]
  refine (upTo_any H.out.tk H.out.rd 64 3 (by decide) (by decide)).mono ?_
  rintro e w1 ⟨size, pl1, c1, rfl, hn, hrd, hg⟩
  have HN1 := Lib.hid hn
  have H1 := Lib.hid (H.out.read hg hrd)
  have HG1 : Hid (Gr base p w w1) := Lib.hid (gr_grown hg HBS.out (fun j hj => .inl (by simpa using hj.symm)))
  have HB1 : Hid (base ≤ w1.heap.size) := Lib.hid (Nat.le_trans HBS.out hg.size)
  have hz64 := upR_le size 64
  obtain ⟨z, hz⟩ : ∃ z, z = upR size 64 := ⟨_, rfl⟩
  rw [← hz] at hz64 ⊢
  have HZ := Lib.hid hz
  have t2 := H1.out.tk.c2
  clear hn hrd hg H HBS hz
  obtain ⟨m, hm⟩ : ∃ m, m = min z last.length := ⟨_, rfl⟩
  have hmi : min (z : Int) (last.length : Int) = (m : Int) := by omega
  have HM := Lib.hid hm
  have hm64 : m ≤ 64 := by omega
  have hmz : m ≤ z := by omega
  have hml : m ≤ last.length := by omega
  clear hm
  go_wp2_with fail
  rw [E2.out]
  refine (upTo_any H1.out.tk H1.out.rd m 2 (by omega) (by decide)).mono ?_
  rintro e w2 ⟨s0, pl2, c2, rfl, hn, hrd, hg⟩
  have HN2 := Lib.hid hn
  have H2 := Lib.hid (H1.out.read hg hrd)
  have HG2 := Lib.hid (HG1.out.trans (gr_grown hg HB1.out (fun j hj => .inl (by simpa using hj.symm))))
  have HB2 : Hid (base ≤ w2.heap.size) := Lib.hid (Nat.le_trans HB1.out hg.size)
  have hsm := upR_le s0 m
  obtain ⟨s, hs⟩ : ∃ s, s = upR s0 m := ⟨_, rfl⟩
  rw [← hs] at hsm ⊢
  have HS := Lib.hid hs
  clear hn hrd hg H1 HG1 HB1 hs t2
  have t0 := H2.out.tk.c0
  have t2 := H2.out.tk.c2
  have hsl : s ≤ last.length := by omega
  have hslc : (s : Int) ≤ (capl : Int) := by
    obtain ⟨ao, cap, hv, h1, _⟩ := H2.out.lst.reads
    simp only [Value.slice.injEq] at hv
    omega
  have hzs : IntKind.i64.wrap ((z : Int) - (s : Int)) = (z : Int) - (s : Int) := IntWalk.i64_in _ (by omega)
  have HLS : Hid (Reads w2 .u8 (.slice aol s capl) (last.take s)) := Lib.hid (H2.out.lst.reads.head hsl)
  go_wp2_with fail
  go_region_held3 (fun w' => w'.cell? ⟨t, 0, none⟩ = some (.pointer (some ⟨p, 0, none⟩)) ∧ w'.cell? ⟨t, 2, none⟩ = some (.slice aol last.length capl)) (go_keep) (first
    | (go_at_call 40; refine (concat_all _ [last.take s, out] (last.take s ++ out) _ _ (txs_two w3 _ _ _ (last.take s) out HLS3.out HO3.out.reads) (by simp) (by have := HOL3.out; rw [List.length_append, List.length_take]; omega) (by simp)).mono ?_; rintro e w4 ⟨v4, rfl, ho4, hb4⟩
       obtain ⟨tx, htx⟩ : ∃ tx, tx = last.take s ++ out := ⟨_, rfl⟩
       rw [← htx] at ho4
       have HTX := Lib.hid htx
       obtain ⟨ao4, cap4, rfl, _, _, _⟩ := ho4.reads.val
       have HB34 : Hid (Below w3.heap.size w3 w4) := Lib.hid (((Below.refl _ _).alloc (Nat.le_refl _) _).trans (hb4.mono (by simp)))
       have HO4 : Hid (Owns w4 w3.heap.size 5 .u8 (.slice ao4 tx.length cap4) tx) := Lib.hid (ho4.mono (by simp))
       have H4 := Lib.hid (H3.out.more HB34.out)
       have n0 := H4.out.tk.c0
       have n2 := H4.out.tk.c2
       clear ho4 hb4 htx)
    | (go_at_call 62; refine (fixed_any (by first | exact H2.out.rd | exact H2.out.rd.drew) ((z : Int) - (s : Int))).mono ?_; rintro e w3 ⟨v3, out, pl3, c3, rfl, hf3, ho3, hrd3, hg3⟩
       obtain ⟨ao3, cap3, rfl, _, _, _⟩ := ho3.reads.val
       have HF3 := Lib.hid hf3
       have HO3 := Lib.hid ho3
       have HG3 : Hid (w2.grownBy w3 (some p)) := Lib.hid (by first | exact hg3 | exact ⟨hg3.os, hg3.tape, hg3.output, hg3.size, hg3.block⟩)
       have H3 := Lib.hid (H2.out.read HG3.out hrd3)
       have HLS3 : Hid (Reads w3 .u8 (.slice aol s capl) (last.take s)) := Lib.hid (H3.out.lst.reads.head hsl)
       have HOL3 : Hid (out.length ≤ 64) := Lib.hid (fix_len hf3 (by omega))
       have m0 := H3.out.tk.c0
       have m2 := H3.out.tk.c2
       clear hf3 ho3 hrd3 hg3))
  have HAT4 : Hid (At w4 (Own w4 base 5) .u8 (.slice ao4 tx.length cap4) tx) := Lib.hid (HO4.out.at'.mono (fun j _ hB => ⟨Nat.le_trans (Nat.le_trans HB2.out HG3.out.size) hB.1, hB.2⟩))
  have HGR4 : Hid (Gr base p w w4) := Lib.hid ((HG2.out.trans (gr_grown HG3.out HB2.out (fun j hj => .inl (by simpa using hj.symm)))).trans (gr_below HB34.out (Nat.le_trans HB2.out HG3.out.size)))
  have HB4 : Hid (base ≤ w4.heap.size) := Lib.hid (Nat.le_trans (Nat.le_trans HB2.out HG3.out.size) HB34.out.size)
  have HREL : Hid (∀ q, q = com last tx → DataRel last (row.drop place) c tx (row.drop pl3) (if s < q then (if c3 = 0 then 2 else c3) else c3)) := Lib.hid (fun q hq => by
    subst hq
    refine ⟨size, row.drop pl1, c1, s0, row.drop pl2, c2, out, c3, HN1.out, HN2.out, ?_, ?_, ?_⟩
    · rw [← HZ.out, ← HM.out, ← HS.out]; exact HF3.out
    · rw [← HZ.out, ← HM.out, ← HS.out]; exact HTX.out
    · rw [← HZ.out, ← HM.out, ← HS.out])
  clear t0 t2 m0 m2 n0 n2 HB34 HG3 HG2 HB2 H2 H3 HO4 HO3 HLS3 HF3 HLS
  have t0 := H4.out.tk.c0
  have t2 := H4.out.tk.c2
  go_wp2_with fail
  refine (alikeBytes_any _ _ last tx w4 H4.out.lst.reads HAT4.out.reads (by omega)).mono ?_
  rintro e w5 ⟨rfl, hb5⟩
  obtain ⟨q, hq⟩ : ∃ q, q = com last tx := ⟨_, rfl⟩
  rw [← hq]
  have HRL := Lib.hid (HREL.out q hq)
  have H5 := Lib.hid (H4.out.more hb5)
  have HAT5 := Lib.hid (HAT4.out.own (kept_new hb5 _))
  have HGR5 := Lib.hid (HGR4.out.trans (gr_below hb5 HB4.out))
  have HB5 : Hid (base ≤ w5.heap.size) := Lib.hid (Nat.le_trans HB4.out hb5.size)
  clear hq hb5 H4 HAT4 HGR4 HB4 HREL t0 t2
  have t0 := H5.out.tk.c0
  by_cases hlt : (s : Int) < (q : Int)
  · have hlt2 : s < q := by omega
    rw [if_pos hlt2] at HRL
    clear hlt2
    go_wp2_with fail
    rw [E2.out]
    refine (fail_any H5.out.rd 2).mono ?_
    rintro e w6 ⟨rfl, hrd6, hg6⟩
    have H6 := Lib.hid (H5.out.read hg6 hrd6)
    have HG6 := Lib.hid (HGR5.out.trans (gr_grown hg6 HB5.out (fun j hj => .inl (by simpa using hj.symm))))
    have hcf : (if c3 = 0 then 2 else c3) ≠ 0 := by split <;> omega
    generalize (if c3 = 0 then 2 else c3) = cf at H6 HRL hcf
    have t6 := H6.out.tk.c0
    have HCF := Lib.hid hcf
    clear hrd6 hg6 t0 hcf
    go_wp2_with fail
    refine (err_any H6.out.rd).mono ?_
    rintro e w7 ⟨rfl, rfl⟩
    rw [errV_pos HCF.out]
    go_wp2
    exact bodyPost_ret (results_none rfl _ _ _) rfl ⟨tx, pl3, cf, rnv, _, acc, rfl, HRL.out, by rw [if_neg HCF.out, if_neg HCF.out]; exact H6.out, HG6.out⟩
  · rw [if_neg (by omega)] at HRL
    go_wp2_with fail
    refine (err_any H5.out.rd).mono ?_
    rintro e w7 ⟨rfl, rfl⟩
    by_cases h0 : c3 = 0
    · subst h0
      rw [errV_zero]
      obtain ⟨aor, capr, hv⟩ := H5.out.own.form
      subst hv
      have t1 := H5.out.tk.c1
      obtain ⟨W2, hW2⟩ : ∃ W2, W2 = w5.alloc (.cells #[.int .i64 1, .slice ao4 tx.length cap4] 24) := ⟨_, rfl⟩
      have hal2 : Below w5.heap.size w5 W2 := by rw [hW2]; exact (Below.refl _ _).alloc (Nat.le_refl _) _
      have HT2 := Lib.hid (H5.out.more hal2)
      have HA2 := Lib.hid (HAT5.out.own (kept_new hal2 _))
      have HG2 := Lib.hid (HGR5.out.trans (gr_below hal2 HB5.out))
      have HB2 : Hid (base ≤ W2.heap.size) := Lib.hid (Nat.le_trans HB5.out hal2.size)
      have hacl : acc.length ≤ 100 := by have := H5.out.len; omega
      rw [hW2] at HT2 HG2 HB2 HA2
      clear hal2 hW2
      go_wp2_with (at_builtin; go_must (refine wpList_appI _ rfl _ _ rfl base _ acc rfl HT2.out.own 1 (.slice ao4 tx.length cap4) rfl w5 rfl rfl (by omega) HB2.out ?_))
      intro v8 w8 ho8 hg8
      obtain ⟨ao8, cap8, hv8⟩ := ho8.form
      rw [show (acc ++ [((1 : Int), Value.slice ao4 tx.length cap4)]).length = acc.length + 1 by simp] at hv8
      subst hv8
      have hp := HT2.out.push (k := 1) hg8 ho8 HA2.out
      have HP := Lib.hid (hp.setLast (v' := .slice ao4 tx.length cap4) (d := tx) ((HA2.out.own (kept_u8 hg8 (fun j hj => by
        obtain ⟨q1, h1⟩ := HT2.out.own.ty hj
        rintro ⟨q2, h2⟩
        have := h1.symm.trans h2
        cases this))).own (kept_u8 (grown_set w8 t 1 _) (fun j hj => by
        cases hj
        rintro ⟨q2, h2⟩
        have := h2.symm.trans (HT2.out.tk.grown hg8 (fun e => HT2.out.own.ne_tk HT2.out.tk e.symm))
        cases this))))
      have hts : Tkr w8 t p (.slice aor acc.length capr) (.slice aol last.length capl) := HT2.out.tk.grown hg8 (fun e => HT2.out.own.ne_tk HT2.out.tk e.symm)
      have u1 := hts.c1
      have u2 := hts.fz 1
      have hts2 := hp.tk
      have u3 := hts2.c2
      have u4 := hts2.fz 2
      have HGF := Lib.hid (((HG2.out.trans (gr_grown hg8 HB2.out (fun j hj => .inr (HT2.out.own.lt j hj).1))).trans (gr_grown (grown_set w8 t 1 (.slice ao8 (acc.length + 1) cap8)) (Nat.le_trans HB2.out hg8.size) (fun j hj => .inr (by have := HT2.out.bt; simp at hj; omega)))).trans (gr_grown (grown_set _ t 2 (.slice ao4 tx.length cap4)) (by have := Nat.le_trans HB2.out hg8.size; simpa using this) (fun j hj => .inr (by have := HT2.out.bt; simp at hj; omega))))
      clear ho8 hg8 hts hts2 hp HT2 HG2 HB2 HA2 t0 t1
      go_wp2
      exact bodyPost_ret (results_none rfl _ _ _) rfl ⟨tx, pl3, 0, _, _, _, rfl, HRL.out, by rw [if_pos rfl, if_pos rfl]; exact HP.out, HGF.out⟩
    · have H0 := Lib.hid h0
      rw [errV_pos h0]
      clear h0
      go_wp2
      exact bodyPost_ret (results_none rfl _ _ _) rfl ⟨tx, pl3, c3, rnv, _, acc, rfl, HRL.out, by rw [if_neg H0.out, if_neg H0.out]; exact H5.out, HGR5.out⟩

end Go.Proofs.Ytbihammpdjkonaa
