/- A unit's addresses, sorted. · A unit's Entries. -/
import Derived.Test.YtlckadlkgjfjcaaGreatDoorSrtI
import Derived.Test.YtlckadlkgjfjcaaGreatDoorUnP
import Derived.Test.YtlckadlkgjfjcaaGreatDoorDbP
namespace Go.Proofs.YtlckadlkgjfjcaaGreatDoor
open Go.RowKit Go.Maps Go.Sort Go.Shelf

theorem sortsI (m : Nat) : AnyZI.SortsIn Tryz.prog Tryz.sortedI_ren Fence.wide m :=
  ⟨fun blk off cap ss W hH hblk hsz => callsIn_wide.2 (AnyM.slices_Sort_int Tryz.sortI blk off cap ss W hH hblk hsz),
   fun p cap W => callsIn_wide.2 (AnyM.slices_Sort_int_none Tryz.sortI p cap W)⟩

theorem intKeys_ent (es : Im Value) : intKeys (DataW.map (es.map entI)) = es.map (·.1) := by
  unfold intKeys
  simp only [List.map_map]
  rfl
/-- A slice of addresses, of the call's own. -/
def AdrO (w : World) (base : Nat) (v : Value) (ads : List Int) : Prop := w.ownsRow base 3 1 v ads.length (ads.map (Value.int .i64))
theorem sorted_rise {es : Im Value} (h : IRise es) {ss : List Int} (hp : ss.Perm (es.map (·.1))) : ss.mergeSort (fun x y => decide (x ≤ y)) = es.map (·.1) := by
  have h1 : (es.map (·.1)).Pairwise (fun a b : Int => a < b) := List.pairwise_map.2 h
  have h2 : ss.mergeSort leI = (es.map (·.1)).mergeSort leI := mergeSort_of_perm_i hp
  have h3 : (es.map (·.1)).mergeSort leI = es.map (·.1) := List.mergeSort_of_pairwise (h1.imp fun {a b} hab => by simp only [leI, decide_eq_true_eq]; omega)
  exact h2.trans h3

section
variable {w : World} {m : Nat} {es : Im Value}
theorem keysU_any (w : World) (m : Nat) : Calls Tryz.prog 209 #[.map (some m)] w fun e w' => e = .returned (.func (.func 272) #[] #[.pointer (some ⟨w.heap.size, 0, none⟩)]) ∧ w' = w.alloc (.cells #[.map (some m)] 168) :=
  (callsIn_wide (n := 5)).1 (AnyZI.keys_in Tryz.keysI Fence.wide 5 trivial rfl (some m) w)

set_option maxHeartbeats 1000000 in
set_option maxRecDepth 100000 in
theorem sortedU_any (hm : MapU w m es) (hr : IRise es) (hl : es.length ≤ 1048576) :
    Calls Tryz.prog 208 #[.func (.func 272) #[] #[.pointer (some ⟨w.heap.size, 0, none⟩)]] (w.alloc (.cells #[.map (some m)] 168)) fun e w' => ∃ v, e = .returned v ∧ AdrO w' w.heap.size v (es.map (·.1)) ∧ Below w.heap.size w w' := by
  have hm' : w.ownsMap Tryz.prog 3 hvU m es.length (.map (es.map entI)) := hm
  have hbl := hm'.lt
  have hseq : SeqGives Fence.wide 2 Tryz.prog 272 #[.pointer (some ⟨w.heap.size, 0, none⟩)] encZ (fun ss => ss.Perm (intKeys (DataW.map (es.map entI)))) (Maps.size (DataW.map (es.map entI))) (w.alloc (.cells #[.map (some m)] 168)) :=
    AnyZI.keys_gives (ρ := Tryz.keysI_ren) { Tryz.keysI with } Fence.wide _ trivial rfl (by omega) w.heap.size m es.length _ _ (by simp) (by simp) (by
      obtain ⟨es', clock, hb, Ft, hs, hD⟩ := hm'
      exact ⟨es', clock, (Below.heap_alloc _ _ m hbl).trans hb, Ft, hs, hD⟩)
  have hN : Maps.size (DataW.map (es.map entI)) ≤ 1048576 := by simp only [Maps.size, List.length_map]; exact hl
  have cS := AnyZI.sorted_in Tryz.sortedI Fence.wide 5 trivial trivial trivial trivial rfl (by omega) (sortsI _) (enters_of Tryz.func73 (by kernel_rfl) rfl) 272 #[.pointer (some ⟨w.heap.size, 0, none⟩)] trivial (enters_of Tryz.func272 (by kernel_rfl) rfl) _ _ (by simp only [maxLen]; omega) (by omega) _ hseq
  refine ((callsIn_wide (n := 5)).1 cS).mono ?_
  rintro e w' ⟨v, ss, rfl, hSs, hrow, hnil, hb⟩
  rw [intKeys_ent] at hSs
  have h3 := ownsRow_base_a hrow (by simp : w.heap.size ≤ _)
  have h4 := sorted_rise hr hSs
  refine ⟨v, rfl, ?_, ((Below.refl _ w).alloc (Nat.le_refl _) _).trans (hb.mono (by simp))⟩
  unfold AdrO
  rw [← h4, List.length_mergeSort]
  exact h3
end
theorem AdrO.val {w : World} {base : Nat} {v : Value} {ads : List Int} (h : AdrO w base v ads) : ∃ ao cap, v = .slice ao ads.length cap := by
  rcases h.2 with ⟨rfl, hn⟩ | ⟨g, cap, cur, rfl, _⟩
  · exact ⟨none, 0, by rw [hn]⟩
  · exact ⟨_, cap, rfl⟩
theorem AdrO.at {w : World} {base : Nat} {ao : Option Addr} {n cap : Nat} {ads : List Int} (h : AdrO w base (.slice ao n cap) ads) {i : Nat} {x : Int} (hi : ads[i]? = some x) :
    ∃ g, ao = some ⟨g, 0, none⟩ ∧ base ≤ g ∧ g < w.heap.size ∧ w.cell? ⟨g, i, none⟩ = some (.int .i64 x) := by
  have h0 := h
  rcases h.2 with ⟨_, hn⟩ | ⟨g, cap', cur, hv, hb, hg, _⟩
  · obtain rfl : ads = [] := List.length_eq_zero_iff.1 hn
    cases hi
  · cases hv
    refine ⟨g, rfl, hb, (Array.getElem?_eq_some_iff.1 hg).1, ?_⟩
    have := World.ownsRow.cells h0 (g := g) rfl i (.int .i64 x) (by rw [List.getElem?_map, hi]; rfl)
    rw [Addr.add_lit, Nat.zero_add] at this
    exact this

end Go.Proofs.YtlckadlkgjfjcaaGreatDoor

namespace Go.Proofs.YtlckadlkgjfjcaaGreatDoor
open Go.RowKit

def eRow (f : Int × IC) (dv : Value) : List Value := [.int .i64 f.1, .int .i64 f.2.1, dv]
/-- A slice of entries, all of it of the call's own. -/
def EntO (w : World) (base : Nat) (v : Value) (l : Im IC) : Prop :=
  ∃ rows : List (List Value), RecOwn w base 178 3 v rows ∧ rows.length = l.length ∧ ∀ (i : Nat) (f : Int × IC), l[i]? = some f → ∃ dv, rows[i]? = some (eRow f dv) ∧ At w (Own w base 5) .u8 dv f.2.2
theorem entO_nil (w : World) (base : Nat) : EntO w base (.slice none 0 0) [] := ⟨[], recOwn_nil _ _ _ _, rfl, fun i f hf => by simp at hf⟩
theorem EntO.val {w : World} {base : Nat} {v : Value} {l : Im IC} (h : EntO w base v l) : ∃ ao cap, v = .slice ao l.length cap := by
  obtain ⟨rows, h1, h2, _⟩ := h
  obtain ⟨ao, cap, hv, _⟩ := h1.val
  exact ⟨ao, cap, by rw [hv, h2]⟩
theorem recOwn_ne {w : World} {base k : Nat} {e e' : TypeId} {v : Value} {rows : List (List Value)} (h : RecOwn w base e' k v rows) (he : e ≠ e') {j : Nat} (hj : Own w base e j) : some j ≠ v.ownBlock := by
  intro hv
  rcases h.2.2 with ⟨rfl, _⟩ | ⟨g, cap, cur, rfl, _, hg, _⟩
  · cases hv
  · cases hv
    obtain ⟨_, cs, hc⟩ := hj
    rw [hg] at hc
    cases hc
    exact he rfl
/-- Behind what leaves all that is the row's own and the data's. -/
theorem EntO.grown {w w' : World} {base : Nat} {v : Value} {l : Im IC} (h : EntO w base v l) (hb : Below w.heap.size w w') : EntO w' base v l := by
  obtain ⟨rows, h1, h2, h3⟩ := h
  refine ⟨rows, h1.keep fun j hj => hb.block j (h1.block hj).2.1, h2, fun i f hf => ?_⟩
  obtain ⟨dv, h4, h5⟩ := h3 i f hf
  exact ⟨dv, h4, h5.own (kept_new hb _)⟩
theorem EntO.mono {w : World} {base b2 : Nat} {v : Value} {l : Im IC} (h : EntO w base v l) (hb : b2 ≤ base) : EntO w b2 v l := by
  obtain ⟨rows, h1, h2, h3⟩ := h
  refine ⟨rows, h1.mono hb, h2, fun i f hf => ?_⟩
  obtain ⟨dv, h4, h5⟩ := h3 i f hf
  exact ⟨dv, h4, h5.mono fun _ _ hj => ⟨Nat.le_trans hb hj.1, hj.2⟩⟩
theorem Tryz.infoEnt : (Tryz.prog.info? 178).map (fun i => (i.zero, i.size, i.bytes)) = some (some (.agg #[.int .i64 0, .int .i64 0, .slice none 0 0]), 3, 40) := by kernel_rfl
/-- An append of one entry. -/
theorem wpList_appE (w : World) {ops : Array Oper} {rest : List Oper} {o : Oper} {a : Act} {Q : Exit → Act → World → Prop} (hgd : o.guard = none) (s x : Operand)
    (ho : o.op = .call { callee := .builtin .append, args := #[s, x], argTypes := #[175, 175] })
    (base : Nat) (v : Value) (l : Im IC) (hs : a.eval s = v) (W : World) (f : Int × IC) (dv : Value) (hone : dv.oneCell' = true) (hW : w = W.alloc (.cells #[.int .i64 f.1, .int .i64 f.2.1, dv] 178)) (hown : EntO W base v l) (hdv : At W (Own W base 5) .u8 dv f.2.2)
    (hx : a.eval x = .slice (some ⟨W.heap.size, 0, none⟩) 1 1) (hlen : l.length ≤ 1048576) (hbase : base ≤ W.heap.size)
    (h : ∀ v' w', EntO w' base v' (l ++ [f]) → Below base W w' → wpList Tryz.prog ops Q rest (a.put o.dst v') w') : wpList Tryz.prog ops Q (o :: rest) a w := by
  subst hW
  obtain ⟨rows, h1, h2, h3⟩ := hown
  have hal : Below W.heap.size W (W.alloc (.cells #[.int .i64 f.1, .int .i64 f.2.1, dv] 178)) := (Below.refl _ _).alloc (Nat.le_refl _) _
  have h1' : RecOwn (W.alloc (.cells #[.int .i64 f.1, .int .i64 f.2.1, dv] 178)) base 178 3 v rows := h1.keep fun j hj => hal.block j (h1.block hj).2.1
  refine wpList_appRec _ hgd s x 175 ho base 178 _ 3 40 Tryz.underlying175 Tryz.infoEnt rfl (by decide) v rows hs h1' (eRow f dv) rfl (by
    intro y hy
    simp only [eRow, List.mem_cons, List.not_mem_nil, or_false] at hy
    rcases hy with rfl | rfl | rfl
    · rfl
    · rfl
    · exact hone) ⟨W.heap.size, 0, none⟩ hx (rec_cell W (eRow f dv) _) (by rw [h2]; simp only [maxLen]; omega) (by rw [h2]; omega) (by simp; omega) ?_
  intro v' w' ho' hg' _
  have hk : Kept (Own (W.alloc (.cells #[.int .i64 f.1, .int .i64 f.2.1, dv] 178)) base 5) (W.alloc (.cells #[.int .i64 f.1, .int .i64 f.2.1, dv] 178)) w' :=
    ⟨hg'.size, fun j hj hB => hg'.block j hj (recOwn_ne h1' (by decide) hB)⟩
  refine h v' w' ⟨rows ++ [eRow f dv], ho', by simp [h2], fun i g hi => ?_⟩ (hal.mono hbase |>.grown hg' (Nat.le_trans hbase (by simp)) fun j hj => (h1.block hj).1)
  by_cases hil : i < l.length
  · rw [List.getElem?_append_left hil] at hi
    obtain ⟨dv', h4, h5⟩ := h3 i g hi
    exact ⟨dv', by rw [List.getElem?_append_left (by omega)]; exact h4, (h5.own (kept_new hal _)).own hk⟩
  · rw [List.getElem?_append_right (by omega)] at hi
    have hi0 : i - l.length = 0 := by
      by_cases h0 : i - l.length = 0
      · exact h0
      · rw [List.getElem?_eq_none (by simp; omega)] at hi; cases hi
    rw [hi0] at hi
    obtain rfl : f = g := by simpa using hi
    refine ⟨dv, ?_, (hdv.own (kept_new hal _)).own hk⟩
    rw [List.getElem?_append_right (by omega), h2, hi0]
    rfl
theorem uinc {k n : Nat} (hk : k < n) (hn : n ≤ 9223372036854775807) : wrap64 ((k : Int) + 1) = ((k + 1 : Nat) : Int) := by simp only [wrap64]; omega
theorem uinc_eq {k n : Nat} (hk : k < n) (hn : n ≤ 9223372036854775807) : Value.int .i64 (wrap64 ((k : Int) + 1)) = .int .i64 ((k + 1 : Nat) : Int) := by rw [uinc hk hn]
theorem uinc_meas {k n : Nat} (hk : k < n) (hn : n ≤ 9223372036854775807) : n - (intOf (.int .i64 (wrap64 ((k : Int) + 1)))).toNat < n - (intOf (.int .i64 (k : Int))).toNat := by
  rw [uinc hk hn]
  show n - (((k + 1 : Nat) : Int)).toNat < n - ((k : Int)).toNat
  omega
theorem take_snocU {α : Type} {l : List α} {k : Nat} {x : α} (h : l[k]? = some x) : l.take (k + 1) = l.take k ++ [x] := by rw [List.take_add_one, h]; rfl

section
variable {w : World} {B : Nat → Prop} {u m : Nat} {U : US}
set_option maxHeartbeats 4000000 in
set_option maxRecDepth 100000 in
theorem uentries_any (h : Un w B u m U) : Calls Tryz.prog 142 #[.pointer (some ⟨u, 0, none⟩)] w fun r w' => ∃ v, r = .returned v ∧ EntO w' w.heap.size v U.cells ∧ Below w.heap.size w w' := by
  obtain ⟨c0, c1, c2, cf⟩ := h.c
  obtain ⟨es, hm, hz⟩ := h.map
  have hre := hz.rise h.ok.rise
  have HKE := Lib.hid (keysU_any w m)
  have HSO := Lib.hid (sortedU_any hm hre (by rw [hz.length]; exact h.ok.len))
  have hkeys := hz.keys
  rw [hkeys] at HSO
  obtain ⟨ads, hads⟩ : ∃ a, a = U.cells.map (·.1) := ⟨_, rfl⟩
  rw [← hads] at HSO
  have HADL : Hid (ads.length = U.cells.length) := Lib.hid (by rw [hads, List.length_map])
  have HADS := Lib.hid hads
  have H := Lib.hid h
  have HLEN : Hid (U.cells.length ≤ 1048576) := Lib.hid h.ok.len
  have HAD : Hid (ads.length ≤ 9223372036854775807) := Lib.hid (by rw [HADL.out]; have := HLEN.out; omega)
  clear h hm hz hre hkeys hads
  go_enter Tryz.func142, Tryz.ntmps142
  go_wp2_with fail
  refine HKE.out.mono ?_
  rintro r w1 ⟨rfl, rfl⟩
  go_wp2_with fail
  refine HSO.out.mono ?_
  rintro r w2 ⟨v2, rfl, ho2, hb2⟩
  obtain ⟨ao2, cap2, rfl⟩ := ho2.val
  have HO2 := Lib.hid ho2
  have HB2 := Lib.hid hb2
  have HL2 : Hid (∀ g, (Value.slice ao2 ads.length cap2).ownBlock = some g → g < w2.heap.size) := Lib.hid fun g hg => (World.ownsRow.lt ho2 g hg).2
  obtain ⟨bs, hbs⟩ : ∃ b, b = w2.heap.size := ⟨_, rfl⟩
  have HBS := Lib.hid hbs
  clear ho2 hb2 c0 c1 c2 cf hbs
  go_wp2
  go_loopw [3, 15] (fun lv i wr => ∃ k : Nat, k ≤ ads.length ∧ i = .int .i64 (k : Int) ∧ EntO wr bs lv (U.cells.take k) ∧ Below bs w2 wr)
    (fun _ i _ => ads.length - (intOf i).toNat)
  case atStart => exact ⟨0, Nat.zero_le _, rfl, entO_nil _ _, Below.refl _ _⟩
  case round =>
    obtain ⟨k, hk, rfl, hen, hbr⟩ := hrel
    obtain ⟨lo, lc, rfl⟩ := hen.val
    obtain ⟨nl, hnl⟩ : ∃ n, n = (U.cells.take k).length := ⟨_, rfl⟩
    rw [← hnl] at hen ⊢
    have HEN := Lib.hid hen
    have hbr : Below w2.heap.size w2 wr := by rw [← HBS.out]; exact hbr
    have HBR := Lib.hid hbr
    clear hnl
    by_cases hlt : k < ads.length
    · have hkU : k < U.cells.length := by rw [← HADL.out]; exact hlt
      obtain ⟨f, hf⟩ : ∃ f, U.cells[k]? = some f := ⟨_, List.getElem?_eq_getElem hkU⟩
      have hx : ads[k]? = some f.1 := by rw [HADS.out, List.getElem?_map, hf]; rfl
      obtain ⟨g, rfl, _, hgl, e0⟩ := HO2.out.at hx
      have e0 := (hbr.cell (p := ⟨g, k, none⟩) (HL2.out g rfl)).trans e0
      have hmem := List.mem_of_getElem? hf
      have hok := H.out.ok.at' f hmem
      have hlow := H.out.ok.low
      have hur := H.out.old (HB2.out.trans (hbr.mono HB2.out.size))
      obtain ⟨d0, d1, d2, _⟩ := hur.c
      obtain ⟨es, hm, hz⟩ := hur.map
      have hix : I64 f.1 := ⟨by omega, by omega⟩
      have hl := hm.look hix
      obtain ⟨dv, hdv, hat⟩ := zip_cell hz f.1
      rw [hdv] at hl
      rw [iget_mem H.out.ok.rise hmem, Option.getD_some] at hl hat
      have HC := Lib.hid (copy_any f.2.1 dv f.2.2 wr hat.reads (by have := (chk_zero hok.2.2.2.1).2.2.1; omega))
      obtain ⟨ao, cap, rfl, _, _, _⟩ := hat.reads.val
      have HTK := Lib.hid (take_snocU hf)
      have HK := Lib.hid hlt
      have HLT : Hid ((U.cells.take k).length ≤ 1048576) := Lib.hid (by rw [List.length_take]; have := HLEN.out; omega)
      have hlti : (k : Int) < ads.length := by omega
      have HWB : Hid (bs ≤ wr.heap.size) := Lib.hid (by rw [HBS.out]; exact hbr.size)
      obtain ⟨a, kc, dc⟩ := f
      simp only [] at e0 hl HC HTK
      clear hen hbr hkU hf hx hgl hmem hok hlow hur d0 d1 hm hz hix hdv hat
      go_wp2_with fail
      refine HC.out.mono ?_
      rintro r w4 ⟨v4, rfl, ho4, hb4⟩
      have hat4 : At w4 (Own w4 bs 5) .u8 v4 dc := ho4.at'.mono fun _ _ hj => ⟨Nat.le_trans HWB.out hj.1, hj.2⟩
      obtain ⟨ao4, cap4, rfl, _, _, _⟩ := ho4.reads.val
      have HAT4 := Lib.hid hat4
      have HEN4 := Lib.hid (HEN.out.grown hb4)
      have HB4 := Lib.hid (HBR.out.trans (hb4.mono HBR.out.size))
      have HW4 : Hid (bs ≤ w4.heap.size) := Lib.hid (Nat.le_trans HWB.out hb4.size)
      clear ho4 hb4 hat4 e0 hl d2
      go_wp2_with (at_builtin; go_must (refine wpList_appE _ rfl _ _ rfl bs _ _ rfl w4 (a, kc, dc) (.slice ao4 dc.length cap4) rfl rfl HEN4.out HAT4.out rfl HLT.out HW4.out ?_))
      intro v5 w5 he5 hb5
      rw [← HTK.out] at he5
      have HE5 := Lib.hid he5
      have HB5 := Lib.hid hb5
      clear he5 hb5
      go_wp2
      go_roundw
      case rel =>
        refine ⟨k + 1, HK.out, uinc_eq HK.out HAD.out, HE5.out, ?_⟩
        have h4 := HB4.out
        rw [← HBS.out] at h4
        exact h4.trans HB5.out
      case measure => exact uinc_meas HK.out HAD.out
    · obtain rfl : k = ads.length := by omega
      have HT : Hid (EntO wr w.heap.size (.slice lo nl lc) U.cells) := Lib.hid (by
        have h1 := hen
        rw [HADL.out, List.take_length] at h1
        exact h1.mono (by rw [HBS.out]; exact HB2.out.size))
      clear hen hbr
      go_wp2
      go_ret
      exact ⟨_, rfl, HT.out, HB2.out.trans (HBR.out.mono HB2.out.size)⟩
end

end Go.Proofs.YtlckadlkgjfjcaaGreatDoor
