/- Sure: the files that are sure, by their names. -/
import Derived.Test.YtmjpckodcafjiaaGreatDskV
namespace Go.Proofs.YtmjpckodcafjiaaGreat
open Go.RowKit

theorem Tryz.infoFile : (Tryz.prog.info? 100).map (fun i => (i.zero, i.size, i.bytes)) = some (some (.agg #[.string { data := #[] }, .slice none 0 0]), 2, 40) := by kernel_rfl

/-- Files by their names, sorted. -/
def fsort (l : Fm (List Nat)) : List (Nm × List Nat) := (srt (l.map (·.1))).map fun n => (n, (fget l n).getD [])
theorem fsort_length (l : Fm (List Nat)) : (fsort l).length = l.length := by unfold fsort; rw [List.length_map, srt_length, List.length_map]

/-- One more. -/
theorem FilesO.snoc {w W w3 : World} {base : Nat} {lv v' : Value} {ps : List ((Nm × List Nat) × Value)} {f : Nm × List Nat}
    (h2 : RecOwn w base 100 2 lv (ps.map fileRow)) (h3 : ∀ x ∈ ps, At w (Typ w (fun j => base ≤ j) 5) .u8 x.2 x.1.2) (hv : At w (Typ w (fun j => base ≤ j) 5) .u8 v' f.2)
    (hW : Below w.heap.size w W) (hg : W.grownBy w3 lv.ownBlock) {lv3 : Value} (ho : RecOwn w3 base 100 2 lv3 (ps.map fileRow ++ [fileRow (f, v')])) :
    FilesO w3 base lv3 (ps.map (·.1) ++ [f]) := by
  have hk : Kept (Typ w (fun j => base ≤ j) 5) w w3 := by
    refine ⟨Nat.le_trans hW.size hg.size, fun j hj hT => ?_⟩
    have hne : some j ≠ lv.ownBlock := fun e => by
      obtain ⟨_, _, cs, hcs⟩ := h2.block e.symm
      exact typ_not_other hcs (by decide) hT
    exact (hg.block j (Nat.lt_of_lt_of_le hj hW.size) hne).trans (hW.block j hj)
  refine ⟨ps ++ [(f, v')], by simp, by simpa using ho, fun x hx => ?_⟩
  rcases List.mem_append.1 hx with hx | hx
  · exact (h3 x hx).typ hk fun _ h => h
  · obtain rfl : x = (f, v') := by simpa using hx
    exact hv.typ hk fun _ h => h

set_option maxHeartbeats 2000000 in
set_option maxRecDepth 100000 in
theorem sureD_any {w : World} {S : Nat → Prop} {p : Nat} {d : DS} (h : Dk w S p d) (hsz : d.sz ≤ 1000000) :
    Calls Tryz.prog 55 #[.pointer (some ⟨p, 0, none⟩)] w fun e w' => ∃ v, e = .returned v ∧ FilesO w' w.heap.size v (fsort d.sure) ∧ Below w.heap.size w w' := by
  obtain ⟨m1, m2, cv, h⟩ := h
  have c1 := h.c1
  have HPL := Lib.hid h.plt
  obtain ⟨es, hm, hz, _⟩ := h.sure
  have hls : d.sure.length ≤ 1000000 := Nat.le_trans (Nat.le_add_right _ _) hsz
  have HL : Hid (es.length ≤ 1000000000) := Lib.hid (by rw [hz.length]; omega)
  have HNS : Hid (es.map (·.1) = d.sure.map (·.1)) := Lib.hid hz.names
  have HNL : Hid (∀ n ∈ srt (es.map (·.1)), n.length ≤ maxLen) := Lib.hid fun n hn => by
    have h1 : n ∈ es.map (·.1) := List.mem_mergeSort.1 hn
    obtain ⟨f, hf, rfl⟩ := List.mem_map.1 h1
    exact hm.named f hf
  have HFS : Hid (∀ n, fsz d.sure n ≤ 65536) := Lib.hid fun n => fsz_le (fun f hf => (h.small f hf).1) n
  have HM := Lib.hid hm
  have HZ := Lib.hid hz
  have HC1 := Lib.hid c1
  have HMB : Hid (∀ b, m1 = some b → b < w.heap.size) := Lib.hid fun b e => by subst e; exact h.sure.lt
  have HSL := Lib.hid hls
  clear h hm hz hls hsz
  go_enter Tryz.func55, Tryz.ntmps55
  go_wp2_with fail
  refine (names_any c1 HM.out HL.out).mono ?_
  rintro e w1 ⟨v, rfl, ho, hb⟩
  obtain ⟨ns, hns⟩ : ∃ ns, ns = srt (es.map (·.1)) := ⟨_, rfl⟩
  have hnl := HNL.out
  rw [← hns] at ho hnl
  have HNLE : Hid (ns.length ≤ 1000000) := Lib.hid (by rw [hns, srt_length, List.length_map, ← List.length_map (f := (·.1)), HNS.out, List.length_map]; exact HSL.out)
  have HF : Hid (fsort d.sure = ns.map fun n => (n, (fget d.sure n).getD [])) := Lib.hid (by unfold fsort; rw [← HNS.out, ← hns])
  have HO := Lib.hid ho
  have HB := Lib.hid hb
  have HN := Lib.hid hnl
  obtain ⟨ao, cap, rfl⟩ := ho.val
  clear ho hb hns hnl HNL HL c1
  go_wp2
  go_loopw [3, 5, 13] (fun lv _ i wr => ∃ k : Nat, k ≤ ns.length ∧ i = .int .i64 (k : Int) ∧ FilesO wr w1.heap.size lv ((ns.take k).map fun n => (n, (fget d.sure n).getD [])) ∧ Below w1.heap.size w1 wr)
    (fun _ _ i _ => ns.length - (intOf i).toNat)
  case atStart => exact ⟨0, Nat.zero_le _, rfl, files_nil _ _, Below.refl _ _⟩
  case round =>
    obtain ⟨k, hk, rfl, hfo, hbr⟩ := hrel
    have HFO := Lib.hid hfo
    have HBR := Lib.hid hbr
    by_cases hlt : k < ns.length
    · obtain ⟨x, hx⟩ : ∃ x, ns[k]? = some x := ⟨_, List.getElem?_eq_getElem hlt⟩
      obtain ⟨g, rfl, _, hgl, e0⟩ := HO.out.at hx
      have e0 := (hbr.cell (p := ⟨g, k, none⟩) hgl).trans e0
      have HXL : Hid (x.length ≤ maxLen) := Lib.hid (HN.out x (List.mem_of_getElem? hx))
      have HTS := Lib.hid (take_snoc hx)
      obtain ⟨s, hs⟩ : ∃ s : ByteArray, nmV x = .string s := ⟨_, rfl⟩
      rw [hs] at e0
      have HS := Lib.hid hs
      have hbw : Below w.heap.size w wr := HB.out.trans (hbr.mono HB.out.size)
      have c1 := (hbw.cell (p := ⟨p, 1, none⟩) HPL.out).trans HC1.out
      have hcall := text_any (w := wr) (p := p) (o := 1) c1 (HM.out.keep fun b e => hbw.block b (HMB.out b e)) (HZ.out.mono fun a b hat => hat.keep (kept_new hbw _)) HXL.out (Nat.le_trans (HFS.out x) (by decide))
      rw [hs] at hcall
      obtain ⟨lao, lcap, rfl, _, _, _⟩ := hfo.val
      have hlti : (k : Int) < ns.length := by omega
      have HKL := Lib.hid hlt
      have hmk : (ns.take k).length = k := by rw [List.length_take]; omega
      have HMK := Lib.hid hmk
      clear hfo hbr hx hgl hs hbw c1 hmk
      rw [List.length_map, HMK.out]
      go_wp2_with fail
      refine hcall.mono ?_
      rintro e w2 ⟨v', rfl, ho2, hb2⟩
      obtain ⟨ao2, cap2, rfl, _, _, _⟩ := ho2.reads.val
      obtain ⟨ps, hps, hro, hat⟩ := HFO.out.below hb2
      have HB2 := Lib.hid (HBR.out.trans (hb2.mono HBR.out.size))
      have HV2 : Hid (At w2 (Typ w2 (fun j => w1.heap.size ≤ j) 5) .u8 (.slice ao2 ((fget d.sure x).getD []).length cap2) ((fget d.sure x).getD [])) := Lib.hid (ho2.typ fun j h1 _ => Nat.le_trans HBR.out.size h1)
      generalize hby : (fget d.sure x).getD [] = by2 at HV2
      have HBY := Lib.hid hby
      have HPS := Lib.hid hps
      rw [List.length_map, HMK.out] at hro
      have HRO := Lib.hid hro
      have HAT := Lib.hid hat
      have HPL2 : Hid (ps.length = k) := Lib.hid (by rw [← List.length_map (f := (·.1)), hps, List.length_map, HMK.out])
      have HK2 : Hid (k ≤ 1000000) := Lib.hid (Nat.le_trans (Nat.le_of_lt hlt) HNLE.out)
      have HW12 := Lib.hid HB2.out.size
      clear ho2 hb2 hps hro hat hby hcall HFO HBR
      go_wp2_with (at_builtin; go_must (refine wpList_appRec _ rfl _ _ 96 rfl w1.heap.size 100 _ 2 40 Tryz.underlying96 Tryz.infoFile rfl (by decide) _ (ps.map fileRow) rfl (HRO.out.alloc _) [.string s, .slice ao2 by2.length cap2] rfl (by simp [Value.oneCell']) ⟨w2.heap.size, 0, none⟩ rfl (rec_cell w2 [.string s, .slice ao2 by2.length cap2] _) (by rw [List.length_map, HPL2.out]; have := HK2.out; simp only [maxLen]; omega) (by rw [List.length_map, HPL2.out]; have := HK2.out; omega) (by have := HW12.out; simp; omega) ?_))
      intro v3 w3 ho3 hg3 _
      have hal : Below w2.heap.size w2 (w2.alloc (.cells [Value.string s, .slice ao2 by2.length cap2].toArray 100)) := (Below.refl _ _).alloc (Nat.le_refl _) _
      have hfo3 : FilesO w3 w1.heap.size v3 (ps.map (·.1) ++ [(x, by2)]) := FilesO.snoc (f := (x, by2)) HRO.out HAT.out HV2.out hal hg3 (by
        have e : fileRow ((x, by2), .slice ao2 by2.length cap2) = [.string s, .slice ao2 by2.length cap2] := by unfold fileRow; rw [HS.out]
        rw [e]; exact ho3)
      rw [HPS.out, ← HBY.out] at hfo3
      have hb3 : Below w1.heap.size w1 w3 := (HB2.out.trans (hal.mono HW12.out)).grown hg3 (by have := HW12.out; simp; omega) (fun j hj => (HRO.out.block hj).1)
      have HFO3 : Hid (FilesO w3 w1.heap.size v3 ((ns.take (k + 1)).map fun n => (n, (fget d.sure n).getD []))) := Lib.hid (by
        rw [HTS.out, List.map_append]; exact hfo3)
      have HB3 := Lib.hid hb3
      clear ho3 hg3 hal hfo3 hb3
      go_wp2
      go_roundw
      case rel => exact ⟨k + 1, Nat.succ_le_of_lt HKL.out, congrArg (Value.int .i64) (wrap_succM k (Nat.le_trans HK2.out (by decide))), HFO3.out, HB3.out⟩
      case measure => exact meas_succM HKL.out (Nat.le_trans HK2.out (by decide))
    · obtain rfl : k = ns.length := by omega
      rw [List.take_length] at hfo
      go_wp2
      go_ret
      exact ⟨_, rfl, by rw [HF.out]; exact hfo.base HB.out.size, HB.out.trans (hbr.mono HB.out.size)⟩

end Go.Proofs.YtmjpckodcafjiaaGreat
