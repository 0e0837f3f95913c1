/- The program's digest of parts. -/
import Derived.Test.YtjhipfgmiilmdaaDoorShaW
import Derived.Test.YtjhipfgmiilmdaaDoorShaS
import Derived.Test.YtjhipfgmiilmdaaDoorShaT
namespace Go.Proofs.YtjhipfgmiilmdaaDoor
open Go.RowKit Go.Shelf

attribute [local go_sem] Oper.semAt_some

/-- The call's own blocks, blocks xs having come: the answer, the state. -/
structure Sd (w wr : World) (xs : List (List Nat)) : Prop where
  below : Below w.heap.size w wr
  size : w.heap.size + 2 ≤ wr.heap.size
  res : wr.heap[w.heap.size]? = some (.cells zeros32d 29 (0, 0))
  st : wr.heap[w.heap.size + 1]? = some (.cells (vals .u32 (behindAll shaK xs shaH)).toArray 59 (0, 0))

theorem Sd.stay {w wr w' : World} {xs : List (List Nat)} {S : Nat → Prop} (h : Sd w wr xs) (hs : Stay S wr w') (hS : ∀ k, k < w.heap.size + 2 → S k) : Sd w w' xs :=
  ⟨h.below.trans (hs.below h.below.size fun k hk => hS k (by omega)), Nat.le_trans h.size hs.size, hs.at h.res (hS _ (by omega)), hs.at h.st (hS _ (by omega))⟩

def zeros32l : Array Value := #[.int .u8 0, .int .u8 0, .int .u8 0, .int .u8 0, .int .u8 0, .int .u8 0, .int .u8 0, .int .u8 0, .int .u8 0, .int .u8 0, .int .u8 0, .int .u8 0, .int .u8 0, .int .u8 0, .int .u8 0, .int .u8 0, .int .u8 0, .int .u8 0, .int .u8 0, .int .u8 0, .int .u8 0, .int .u8 0, .int .u8 0, .int .u8 0, .int .u8 0, .int .u8 0, .int .u8 0, .int .u8 0, .int .u8 0, .int .u8 0, .int .u8 0, .int .u8 0]
theorem zeros32l_eq : zeros32l = zeros32d := rfl
theorem Sd.new (w : World) : Sd w (((w.alloc (.cells zeros32l 29)).alloc (.cells zeros8 59)).setRow (w.heap.size + 1) (vals .u32 shaH).toArray) [] := by
  have h1 := heap_alloc_new w (.cells zeros32l 29)
  generalize hw1 : w.alloc (.cells zeros32l 29) = w1 at h1 ⊢
  have s1 : w1.heap.size = w.heap.size + 1 := by rw [← hw1]; simp
  have b1 : Below w.heap.size w w1 := by rw [← hw1]; exact (Below.refl _ _).alloc (Nat.le_refl _) _
  have h2 := heap_alloc_new w1 (.cells zeros8 59)
  rw [s1] at h2
  have k1 : (w1.alloc (.cells zeros8 59)).heap[w.heap.size]? = some (.cells zeros32l 29 (0, 0)) := by rw [Below.heap_alloc _ _ _ (by omega)]; exact h1
  have b2 : Below w.heap.size w (w1.alloc (.cells zeros8 59)) := b1.alloc (by omega) _
  have s2 : (w1.alloc (.cells zeros8 59)).heap.size = w.heap.size + 2 := by simp [s1]
  generalize w1.alloc (.cells zeros8 59) = w2 at h2 k1 b2 s2 ⊢
  exact ⟨b2.trans ⟨rfl, rfl, rfl, by simp [World.setRow], fun k hk => setRow_other _ _ k _ (by omega)⟩, by simp [World.setRow]; omega, by rw [setRow_other _ _ _ _ (by omega)]; exact k1, setRow_heap _ _ _ _ _ _ h2⟩
theorem two_new (w : World) : ((w.alloc (.cells zeros32l 29)).alloc (.cells zeros8 59)).heap[w.heap.size + 1]? = some (.cells zeros8 59 (0, 0)) := by
  have h := heap_alloc_new (w.alloc (.cells zeros32l 29)) (.cells zeros8 59)
  rwa [World.size_alloc] at h

set_option maxHeartbeats 400000 in
set_option maxRecDepth 100000 in
theorem ppadded_any (a : Option Addr) (n c : Nat) (w : World) : Calls Tryd.prog 27 #[.slice a n c] w fun e w' => e = .returned (.func (.func 34) #[] #[.pointer (some ⟨w.heap.size, 0, none⟩)]) ∧ w.alloc (.cells #[.slice a n c] 54) = w' := by
  go_enter Tryd.func27, Tryd.ntmps27
  go_wp2
  go_ret
  exact ⟨rfl, rfl⟩
set_option maxHeartbeats 400000 in
set_option maxRecDepth 100000 in
theorem pblocks_any (f : Fn) (a b : Array Value) (w : World) : Calls Tryd.prog 26 #[.func f a b] w fun e w' => e = .returned (.func (.func 33) #[] #[.pointer (some ⟨w.heap.size, 0, none⟩)]) ∧ w.alloc (.cells #[.func f a b] 64) = w' := by
  go_enter Tryd.func26, Tryd.ntmps26
  go_wp2
  go_ret
  exact ⟨rfl, rfl⟩

theorem new_row (w : World) (t : TypeId) (z cs : Array Value) : Stay (fun _ => True) w ((w.alloc (.cells z t)).setRow w.heap.size cs) ∧ ((w.alloc (.cells z t)).setRow w.heap.size cs).heap[w.heap.size]? = some (.cells cs t (0, 0)) ∧ ((w.alloc (.cells z t)).setRow w.heap.size cs).heap.size = w.heap.size + 1 :=
  ⟨⟨rfl, rfl, rfl, by simp [World.setRow], fun k hk _ => by rw [setRow_other _ _ _ _ (by omega), Below.heap_alloc _ _ _ hk]⟩, setRow_heap _ _ _ _ _ _ (heap_alloc_new _ _), by simp [World.setRow]⟩

theorem Sd.next {w wr : World} {xs : List (List Nat)} (h : Sd w wr xs) (x : List Nat) : Sd w (wr.setRow (w.heap.size + 1) (vals .u32 (addSt (behindAll shaK xs shaH) (rnds shaK (words x 0 64) (stOf (behindAll shaK xs shaH)) 64))).toArray) (xs ++ [x]) :=
  ⟨h.below.trans ⟨rfl, rfl, rfl, by simp [World.setRow], fun k hk => setRow_other _ _ k _ (by omega)⟩, by have := h.size; simpa [World.setRow] using this, by rw [setRow_other _ _ _ _ (by omega)]; exact h.res, by rw [behindAll_snoc]; exact setRow_heap _ _ _ _ _ _ h.st⟩

theorem st_size (xs : List (List Nat)) : (Tryd.prog.info? 59).map (·.size) = some (vals .u32 (behindAll shaK xs shaH)).toArray.size := by
  rw [List.size_toArray, vals_length, behindAll_len shaK xs rfl]
  kernel_rfl

set_option maxHeartbeats 4000000 in
set_option maxRecDepth 100000 in
theorem of_aux (v : Value) (ps : List (List Nat)) (w : World) (hP : Pieces w v ps) (hx : ps.flatten.length ≤ 100000) (hpb : ∀ p ∈ ps, ∀ y ∈ p, y < 256) (hpl : ps.length ≤ 1000000) (hld : Laid w) :
    Calls Tryd.prog 12 #[v] w fun e w' => e = .returned (.agg (vals .u8 (bytesOf (behindAll shaK (chunks (ps ++ [padOf ps.flatten.length]).flatten) shaH))).toArray) ∧ Below w.heap.size w w' := by
  obtain ⟨tF, frF, hF⟩ := hld.h
  have hF2 : ∀ o : Obj, (w.alloc o).heap[0]? = some (.cells (vals .u32 shaH).toArray tF frF) := fun o => by
    rw [Below.heap_alloc _ _ _ (by have := hld.size; omega)]; exact hF
  have hH8 : (Tryd.prog.info? 58).map (·.size) = some (vals .u32 shaH).toArray.size := by kernel_rfl
  have HF := Lib.hid hF2
  have h20 := two_new w
  have h21 := Sd.new w
  unfold zeros8 zeros32l at h20
  unfold zeros8 zeros32l at h21
  have H20 := Lib.hid h20
  have H21 := Lib.hid h21
  have hst8 : (Tryd.prog.info? 59).map (·.size) = some (vals .u32 shaH).toArray.size := by kernel_rfl
  clear h20 h21
  obtain ⟨ao, cap, rfl, _, _⟩ := hP.val
  have HP := Lib.hid hP
  have HLD := Lib.hid hld
  clear hF hF2 hP hld
  refine (callsIn_wide (n := 9)).1 ?_
  refine callsIn_of_wp_marks Tryd.func12 rfl trivial ?_ rfl
  simp only [Tryd.ntmps12, List.size_toArray, List.length_cons, List.length_nil, Nat.reduceAdd, Nat.reduceSub, Array.replicate_succ, Array.replicate_zero, List.push_toArray, List.append_toArray, List.nil_append, List.cons_append]
  gi_wp2_with (first
    | ((with_reducible show wpListIn _ _ _ _ _ (Oper.mk (some 5) _ _ _ _ _ :: _) _ _); go_must (refine wpListIn_load_row rfl 58 (.global 0) rfl 0 rfl tF (vals .u32 shaH).toArray _ _ (HF.out _) Tryd.underlying58 rfl hH8 ?_))
    | ((with_reducible show wpListIn _ _ _ _ _ (Oper.mk none _ _ _ _ _ :: _) _ _); go_must (refine wpListIn_store_row rfl 59 (.tmp 3) (.tmp 5) rfl (w.heap.size + 1) (vals .u32 shaH).toArray rfl rfl _ _ H20.out hst8 rfl (row_one _ _) ?_); generalize World.setRow _ _ _ = w1 at H21 ⊢)
    | (refine ⟨trivial, ?_⟩; gi_at_call 27; (with_reducible refine (callsIn_wide.2 (ppadded_any _ _ _ _)).mono ?_); rintro e w' ⟨rfl, rfl⟩)
    | (refine ⟨trivial, ?_⟩; gi_at_call 26; (with_reducible refine (callsIn_wide.2 (pblocks_any _ _ _ _)).mono ?_); rintro e w' ⟨rfl, rfl⟩))
  have hz1 := H21.out.size
  have hstz : Stay (fun _ => True) w1 ((w1.alloc (.cells #[.slice ao ps.length cap] 54)).alloc (.cells #[.func (.func 34) #[] #[.pointer (some ⟨w1.heap.size, 0, none⟩)]] 64)) := ((Stay.refl _ w1).alloc _).alloc _
  have hszz : ((w1.alloc (.cells #[.slice ao ps.length cap] 54)).alloc (.cells #[.func (.func 34) #[] #[.pointer (some ⟨w1.heap.size, 0, none⟩)]] 64)).heap.size = w1.heap.size + 2 := by simp
  have hcb : ((w1.alloc (.cells #[.slice ao ps.length cap] 54)).alloc (.cells #[.func (.func 34) #[] #[.pointer (some ⟨w1.heap.size, 0, none⟩)]] 64)).heap[w1.heap.size]? = some (.cells #[.slice ao ps.length cap] 54 (0, 0)) := by
    rw [Below.heap_alloc _ _ _ (by simp)]; exact heap_alloc_new _ _
  have hcp : ((w1.alloc (.cells #[.slice ao ps.length cap] 54)).alloc (.cells #[.func (.func 34) #[] #[.pointer (some ⟨w1.heap.size, 0, none⟩)]] 64)).heap[w1.heap.size + 1]? = some (.cells #[.func (.func 34) #[] #[.pointer (some ⟨w1.heap.size, 0, none⟩)]] 64 (0, 0)) := by
    have h := heap_alloc_new (w1.alloc (.cells #[.slice ao ps.length cap] 54)) (.cells #[.func (.func 34) #[] #[.pointer (some ⟨w1.heap.size, 0, none⟩)]] 64)
    rwa [World.size_alloc] at h
  have HZ : Hid _ := Lib.hid (And.intro hstz (And.intro hszz (And.intro hcb hcp)))
  clear hstz hszz hcb hcp
  generalize (w1.alloc (.cells #[.slice ao ps.length cap] 54)).alloc (.cells #[.func (.func 34) #[] #[.pointer (some ⟨w1.heap.size, 0, none⟩)]] 64) = wz at HZ ⊢
  obtain ⟨hst, hsz, hcb, hcp⟩ := HZ.out
  have hsd : Sd w wz [] := H21.out.stay hst (fun _ _ => trivial)
  refine wpIn_range (m := 8) (gf := 33) (lb := #[.pointer (some ⟨w1.heap.size + 1, 0, none⟩)]) rfl (enters_of Tryd.func33 (by kernel_rfl) rfl) (encs := fun x : List Nat => #[.agg (vals .u8 x).toArray]) (fun _ => rfl)
    (fun k => k = w.heap.size + 1) (fun k h => by omega)
    (fun _ x _ => x.length = 64 ∧ ∀ y ∈ x, y < 256) (fun xs => xs = chunks (ps ++ [padOf ps.flatten.length]).flatten)
    ?hseq
    (fun xs wr => Sd w wr xs)
    (fun s A B h k => h.stay k (fun i hi => by omega))
    hsd ?hround ?hdone
  case hseq =>
    intro J W2 st2 sz2 hJ hJz hY h0
    refine (blocks1_any (wz.heap.size + 1) w1.heap.size (w1.heap.size + 1) w W2 _ ps HP.out hx hpb hpl (fun k => k = w.heap.size + 1) ?_ (by omega) (by omega) J hJ hJz ?_ ?_ ?_ ?_ h0).mono ?_
    · rintro k (h | h)
      · exact ⟨by omega, by omega, by omega, by omega⟩
      · exact ⟨by omega, by omega, by omega, by omega⟩
    · exact (Stay.of_below hsd.below).trans (st2.mono fun _ _ _ => trivial)
    · exact cell_of_heap (st2.at hcb trivial)
    · exact cell_of_heap (st2.at hcp trivial)
    · exact fun pre x W1 hj h1 h2 => hY pre x W1 hj ⟨h1, h2⟩
    · rintro e w' ⟨hv, hj⟩
      exact ⟨hv, _, rfl, hj⟩
  case hdone =>
    rintro xs wr rfl hsd2 hz hD
    obtain ⟨S, hSe⟩ : ∃ S, S = behindAll shaK (chunks (ps ++ [padOf ps.flatten.length]).flatten) shaH := ⟨_, rfl⟩
    have hSl : S.length = 8 := by rw [hSe]; exact behindAll_len shaK _ rfl
    have hSb : ∀ y ∈ S, y < 4294967296 := by rw [hSe]; exact behindAll_lt shaK _ (by decide)
    have HST : Hid (wr.heap[w.heap.size + 1]? = some (.cells (vals .u32 S).toArray 59 (0, 0))) := Lib.hid (by rw [hSe]; exact hsd2.st)
    have hss : (Tryd.prog.info? 59).map (·.size) = some (vals .u32 S).toArray.size := by rw [hSe]; exact st_size _
    have HSE := Lib.hid hSe
    have HS2 := Lib.hid hsd2
    have HD := Lib.hid hD
    have hAl : (vals .u8 (bytesOf S)).toArray.size = 32 := by rw [List.size_toArray, vals_length]; simp [bytesOf]
    have hAs : (Tryd.prog.info? 29).map (·.size) = some (vals .u8 (bytesOf S)).toArray.size := by rw [hAl]; kernel_rfl
    have hAz : zeros32d.size = (vals .u8 (bytesOf S)).toArray.size := by rw [hAl]; exact Array.size_replicate
    have hwzs : w.heap.size + 4 ≤ wz.heap.size := by omega
    clear hSe hsd2 hD hsd hst hcb hcp HZ hAl
    gi_wp2_with (first
      | ((with_reducible show wpListIn _ _ _ _ _ (Oper.mk (some 14) _ _ _ _ _ :: _) _ _); go_must (refine wpListIn_load_row rfl 59 (.tmp 3) rfl (w.heap.size + 1) rfl _ (vals .u32 S).toArray _ _ HST.out Tryd.underlying59 rfl hss ?_))
      | (refine ⟨trivial, ?_⟩; gi_at_call 30; (with_reducible refine (callsIn_wide.2 (pdigest_any S _ hSb hSl)).mono ?_); rintro e w6 ⟨rfl, hb6⟩; have HB6 := Lib.hid hb6; clear hb6)
      | ((with_reducible show wpListIn _ _ _ _ _ (Oper.mk none _ _ _ _ _ :: _) _ _); go_must (refine wpListIn_store_row rfl 29 (.tmp 2) (.tmp 15) rfl w.heap.size (vals .u8 (bytesOf S)).toArray rfl rfl _ _ (HS2.out.stay (Stay.of_below HB6.out) (fun k hk => Nat.lt_of_lt_of_le hk HS2.out.size)).res hAs hAz (row_one _ _) ?_)))
    have hDk : (w6.setRow w.heap.size (vals .u8 (bytesOf S)).toArray).heap[w1.heap.size + 2]? = some (.deferred (some [])) := by
      rw [setRow_other _ _ _ _ (by omega), HB6.out.block _ (by omega), ← hsz]
      exact HD.out
    have hrk : ((w6.setRow w.heap.size (vals .u8 (bytesOf S)).toArray).putObj (w1.heap.size + 2) (.deferred none)).heap[w.heap.size]? = some (.cells (vals .u8 (bytesOf S)).toArray 29 (0, 0)) := by
      rw [World.putObj_heap_other (by omega)]
      exact setRow_heap _ _ _ _ _ _ (HS2.out.stay (Stay.of_below HB6.out) (fun k hk => Nat.lt_of_lt_of_le hk HS2.out.size)).res
    refine ⟨by simp, .inl ⟨_, _, rfl, run_takeDeferred hDk, ?_⟩⟩
    refine ⟨.agg (vals .u8 (bytesOf S)).toArray, results_cell_row (p := 2) rfl _ _ w.heap.size _ _ _ _ rfl hrk Tryd.underlying29 rfl hAs, by rw [HSE.out], ?_⟩
    have hb1 : Below w.heap.size w w6 := HS2.out.below.trans (HB6.out.mono (by have := HS2.out.size; omega))
    have hb2 : Stay (fun k => k < w.heap.size) w6 ((w6.setRow w.heap.size (vals .u8 (bytesOf S)).toArray).putObj (w1.heap.size + 2) (.deferred none)) := ((Stay.refl _ w6).setRow _ _ (by omega)).put _ _ (by omega)
    exact hb1.trans (hb2.below (by have := hb1.size; omega) (fun k hk => hk))
  case hround =>
    rintro pre x W3 hsd3 hz3 ⟨hxl, hxb⟩
    have hbs : (Tryd.prog.info? 67).map (·.size) = some (vals .u8 x).toArray.size := by rw [List.size_toArray, vals_length, hxl]; kernel_rfl
    have hnew := heap_alloc_new W3 (.cells zeros64b 67)
    have hnr := new_row W3 67 zeros64b (vals .u8 x).toArray
    have hzl : zeros64b.size = (vals .u8 x).toArray.size := by
      have h : (vals .u8 x).toArray.size = 64 := by rw [List.size_toArray, vals_length, hxl]
      rw [h]; rfl
    unfold zeros64b at hnew
    unfold zeros64b at hnr
    unfold zeros64b at hzl
    have HNEW := Lib.hid hnew
    have HNR := Lib.hid hnr
    have HS3 := Lib.hid hsd3
    clear hnew hnr hsd3 hsd hst hcb hcp HZ
    gi_wp2_with ((with_reducible show wpListIn _ _ _ _ _ (Oper.mk none _ _ _ _ _ :: _) _ _); go_must (refine wpListIn_store_row rfl 67 (.tmp 4) (.tmp 9) rfl W3.heap.size (vals .u8 x).toArray rfl rfl _ _ HNEW.out hbs hzl (row_one _ _) ?_); generalize World.setRow _ _ _ = W4 at HNR ⊢)
    refine ⟨HNR.out.1, fun W5 hs5 hz5 => ?_⟩
    have HS5 : Hid (Sd w W5 pre) := Lib.hid ((HS3.out.stay HNR.out.1 (fun _ _ => trivial)).stay hs5 (fun k hk => by omega))
    have HBX : Hid (W5.heap[W3.heap.size]? = some (.cells (vals .u8 x).toArray 67 (0, 0))) := Lib.hid (hs5.at HNR.out.2.1 (by omega))
    clear hs5 hz5 HNR HNEW HS3
    have hmx : Tryd.prog.follows .mixedOrders = true := by kernel_rfl
    have eg29 : ∀ args w, (callFunc 29 args).run Tryd.prog w = .ok (.enter 29 args) w := enters_of Tryd.func29 (by kernel_rfl) rfl
    have eg28 : ∀ args w, (callFunc 28 args).run Tryd.prog w = .ok (.enter 28 args) w := enters_of Tryd.func28 (by kernel_rfl) rfl
    gi_wp2
    have hnext : (Tryd.prog.info? 59).map (·.size) = some (vals .u32 (addSt (behindAll shaK pre shaH) (rnds shaK (words x 0 64) (stOf (behindAll shaK pre shaH)) 64))).toArray.size := by
      rw [List.size_toArray, vals_length, addSt_length]; kernel_rfl
    have hold : (vals .u32 (behindAll shaK pre shaH)).toArray.size = (vals .u32 (addSt (behindAll shaK pre shaH) (rnds shaK (words x 0 64) (stOf (behindAll shaK pre shaH)) 64))).toArray.size := by
      rw [List.size_toArray, List.size_toArray, vals_length, vals_length, addSt_length, behindAll_len shaK pre rfl]
    refine wpIn_region_any hmx ?_
    change wpAnyIn _ _ _ _ _ _ _ _ _ (World.drew _)
    refine wpAnyIn_ready (rs := [0, 1]) (by kernel_rfl) (by simp) (AllReadyIn.cons rfl (fun K hK => ?_) (AllReadyIn.cons rfl (fun K hK => ?_) AllReadyIn.nil))
    · refine opIn_load_row rfl 59 (.tmp 3) rfl (w.heap.size + 1) rfl _ (vals .u32 (behindAll shaK pre shaH)).toArray _ _ HS5.out.st Tryd.underlying59 rfl (st_size _) ?_
      refine hK _ _ ?_
      clear hK K
      refine wpAnyIn_ready (rs := [1]) (by kernel_rfl) (by simp) (AllReadyIn.cons rfl (fun K hK => ?_) AllReadyIn.nil)
      refine opIn_load_row rfl 67 (.tmp 4) rfl W3.heap.size rfl _ (vals .u8 x).toArray _ _ HBX.out Tryd.underlying67 rfl hbs ?_
      refine hK _ _ ?_
      clear hK K
      refine wpAnyIn_ready (rs := [2]) (by kernel_rfl) (by simp) (AllReadyIn.cons rfl (fun K hK => ?_) AllReadyIn.nil)
      refine opIn_call rfl rfl eg29 (map1 _ _ _ rfl) (words_any x _ hxb hxl) ?_
      rintro e w6 ⟨rfl, hb6⟩
      refine ⟨_, rfl, hK _ _ ?_⟩
      clear hK K
      have hs6 : Stay (fun _ => True) W5 w6 := (Stay.refl _ W5).drew.more hb6
      have HS6 := Lib.hid (HS5.out.stay hs6 (fun _ _ => trivial))
      refine wpAnyIn_ready (rs := [3]) (by kernel_rfl) (by simp) (AllReadyIn.cons rfl (fun K hK => ?_) AllReadyIn.nil)
      refine opIn_call rfl rfl eg28 (map2 _ _ _ _ _ rfl rfl) (behind_any (behindAll shaK pre shaH) (words x 0 64) _ (behindAll_lt shaK pre (by decide)) (behindAll_len shaK pre rfl) (words_lt hxb 0 64) (words_length x 0 64) (HLD.out.next HS6.out.below)) ?_
      rintro e w7 ⟨rfl, hb7⟩
      refine ⟨_, rfl, hK _ _ ?_⟩
      clear hK K
      have hs7 : Stay (fun _ => True) W5 w7 := hs6.more hb7
      have HS7 := Lib.hid (HS5.out.stay hs7 (fun _ _ => trivial))
      refine wpAnyIn_ready (rs := [4]) (by kernel_rfl) (by simp) (AllReadyIn.cons rfl (fun K hK => ?_) AllReadyIn.nil)
      refine opIn_store_row rfl 59 (.tmp 3) (.tmp 13) rfl (w.heap.size + 1) (vals .u32 (addSt (behindAll shaK pre shaH) (rnds shaK (words x 0 64) (stOf (behindAll shaK pre shaH)) 64))).toArray rfl rfl _ _ HS7.out.st hnext hold (row_one _ _) ?_
      refine hK _ _ ?_
      clear hK K
      refine wpAnyIn_done (by kernel_rfl) ?_ _
      exact ⟨(hs7.mono fun _ _ _ => trivial).setRow _ _ (fun h => h rfl), HS7.out.next x⟩
    · refine opIn_load_row rfl 67 (.tmp 4) rfl W3.heap.size rfl _ (vals .u8 x).toArray _ _ HBX.out Tryd.underlying67 rfl hbs ?_
      refine hK _ _ ?_
      clear hK K
      refine wpAnyIn_ready (rs := [0, 2]) (by kernel_rfl) (by simp) (AllReadyIn.cons rfl (fun K hK => ?_) (AllReadyIn.cons rfl (fun K hK => ?_) AllReadyIn.nil))
      · refine opIn_load_row rfl 59 (.tmp 3) rfl (w.heap.size + 1) rfl _ (vals .u32 (behindAll shaK pre shaH)).toArray _ _ HS5.out.st Tryd.underlying59 rfl (st_size _) ?_
        refine hK _ _ ?_
        clear hK K
        refine wpAnyIn_ready (rs := [2]) (by kernel_rfl) (by simp) (AllReadyIn.cons rfl (fun K hK => ?_) AllReadyIn.nil)
        refine opIn_call rfl rfl eg29 (map1 _ _ _ rfl) (words_any x _ hxb hxl) ?_
        rintro e w6 ⟨rfl, hb6⟩
        refine ⟨_, rfl, hK _ _ ?_⟩
        clear hK K
        have hs6 : Stay (fun _ => True) W5 w6 := (Stay.refl _ W5).drew.more hb6
        have HS6 := Lib.hid (HS5.out.stay hs6 (fun _ _ => trivial))
        refine wpAnyIn_ready (rs := [3]) (by kernel_rfl) (by simp) (AllReadyIn.cons rfl (fun K hK => ?_) AllReadyIn.nil)
        refine opIn_call rfl rfl eg28 (map2 _ _ _ _ _ rfl rfl) (behind_any (behindAll shaK pre shaH) (words x 0 64) _ (behindAll_lt shaK pre (by decide)) (behindAll_len shaK pre rfl) (words_lt hxb 0 64) (words_length x 0 64) (HLD.out.next HS6.out.below)) ?_
        rintro e w7 ⟨rfl, hb7⟩
        refine ⟨_, rfl, hK _ _ ?_⟩
        clear hK K
        have hs7 : Stay (fun _ => True) W5 w7 := hs6.more hb7
        have HS7 := Lib.hid (HS5.out.stay hs7 (fun _ _ => trivial))
        refine wpAnyIn_ready (rs := [4]) (by kernel_rfl) (by simp) (AllReadyIn.cons rfl (fun K hK => ?_) AllReadyIn.nil)
        refine opIn_store_row rfl 59 (.tmp 3) (.tmp 13) rfl (w.heap.size + 1) (vals .u32 (addSt (behindAll shaK pre shaH) (rnds shaK (words x 0 64) (stOf (behindAll shaK pre shaH)) 64))).toArray rfl rfl _ _ HS7.out.st hnext hold (row_one _ _) ?_
        refine hK _ _ ?_
        clear hK K
        refine wpAnyIn_done (by kernel_rfl) ?_ _
        exact ⟨(hs7.mono fun _ _ _ => trivial).setRow _ _ (fun h => h rfl), HS7.out.next x⟩
      · refine opIn_call rfl rfl eg29 (map1 _ _ _ rfl) (words_any x _ hxb hxl) ?_
        rintro e w6 ⟨rfl, hb6⟩
        refine ⟨_, rfl, hK _ _ ?_⟩
        clear hK K
        have hs6 : Stay (fun _ => True) W5 w6 := (Stay.refl _ W5).drew.more hb6
        have HS6 := Lib.hid (HS5.out.stay hs6 (fun _ _ => trivial))
        refine wpAnyIn_ready (rs := [0]) (by kernel_rfl) (by simp) (AllReadyIn.cons rfl (fun K hK => ?_) AllReadyIn.nil)
        refine opIn_load_row rfl 59 (.tmp 3) rfl (w.heap.size + 1) rfl _ (vals .u32 (behindAll shaK pre shaH)).toArray _ _ HS6.out.st Tryd.underlying59 rfl (st_size _) ?_
        refine hK _ _ ?_
        clear hK K
        refine wpAnyIn_ready (rs := [3]) (by kernel_rfl) (by simp) (AllReadyIn.cons rfl (fun K hK => ?_) AllReadyIn.nil)
        refine opIn_call rfl rfl eg28 (map2 _ _ _ _ _ rfl rfl) (behind_any (behindAll shaK pre shaH) (words x 0 64) _ (behindAll_lt shaK pre (by decide)) (behindAll_len shaK pre rfl) (words_lt hxb 0 64) (words_length x 0 64) (HLD.out.next HS6.out.below)) ?_
        rintro e w7 ⟨rfl, hb7⟩
        refine ⟨_, rfl, hK _ _ ?_⟩
        clear hK K
        have hs7 : Stay (fun _ => True) W5 w7 := hs6.more hb7
        have HS7 := Lib.hid (HS5.out.stay hs7 (fun _ _ => trivial))
        refine wpAnyIn_ready (rs := [4]) (by kernel_rfl) (by simp) (AllReadyIn.cons rfl (fun K hK => ?_) AllReadyIn.nil)
        refine opIn_store_row rfl 59 (.tmp 3) (.tmp 13) rfl (w.heap.size + 1) (vals .u32 (addSt (behindAll shaK pre shaH) (rnds shaK (words x 0 64) (stOf (behindAll shaK pre shaH)) 64))).toArray rfl rfl _ _ HS7.out.st hnext hold (row_one _ _) ?_
        refine hK _ _ ?_
        clear hK K
        refine wpAnyIn_done (by kernel_rfl) ?_ _
        exact ⟨(hs7.mono fun _ _ _ => trivial).setRow _ _ (fun h => h rfl), HS7.out.next x⟩
    
/-- **The digest of parts: that of the text that they are.** -/
theorem of_any (v : Value) (ps : List (List Nat)) (w : World) (hP : Pieces w v ps) (hx : ps.flatten.length ≤ 100000) (hpb : ∀ p ∈ ps, ∀ y ∈ p, y < 256) (hpl : ps.length ≤ 1000000) (hld : Laid w) :
    Calls Tryd.prog 12 #[v] w fun e w' => e = .returned (.agg (vals .u8 (shaOf shaK shaH ps.flatten)).toArray) ∧ Below w.heap.size w w' := by
  have h : bytesOf (behindAll shaK (chunks (ps ++ [padOf ps.flatten.length]).flatten) shaH) = shaOf shaK shaH ps.flatten := by
    rw [behindAll_all, List.flatten_append, show [padOf ps.flatten.length].flatten = padOf ps.flatten.length from by simp, ← padded_pad]
    rfl
  rw [← h]
  exact of_aux v ps w hP hx hpb hpl hld

theorem res_new (w : World) : (w.alloc (.cells zeros32l 29)).heap[w.heap.size]? = some (.cells zeros32l 29 (0, 0)) ∧ (w.alloc (.cells zeros32l 29)).heap.size = w.heap.size + 1 ∧ Below w.heap.size w (w.alloc (.cells zeros32l 29)) :=
  ⟨heap_alloc_new _ _, by simp, (Below.refl _ _).alloc (Nat.le_refl _) _⟩
/-- The answer's block: laid, and what the callee answered stored into it. -/
theorem res_put {w W1 w2 : World} {A : Array Value} (h1 : W1.heap.size = w.heap.size + 1) (hb1 : Below w.heap.size w W1) (hb2 : Below W1.heap.size W1 w2) : Below w.heap.size w (w2.setRow w.heap.size A) :=
  (hb1.trans (hb2.mono (by omega))).trans ⟨rfl, rfl, rfl, by simp [World.setRow], fun k hk => setRow_other _ _ k _ (by omega)⟩

set_option maxHeartbeats 1000000 in
set_option maxRecDepth 100000 in
theorem sum_any (v : Value) (l : List Nat) (w : World) (hr : Reads w .u8 v l) (hx : l.length ≤ 100000) (hl : ∀ y ∈ l, y < 256) (hld : Laid w) :
    Calls Tryd.prog 9 #[v] w fun e w' => e = .returned (.agg (vals .u8 (shaOf shaK shaH l)).toArray) ∧ Below w.heap.size w w' := by
  obtain ⟨ao, cap, rfl, _, _, _⟩ := hr.val
  have hf : [l].flatten = l := by simp
  have ho := fun (w : World) (hr : Reads w .u8 (.slice ao l.length cap) l) (hld : Laid w) => of_any _ [l] _ (pieces_one w 22 _ l hr) (by rw [hf]; exact hx) (by intro p hp y hy; obtain rfl := List.mem_singleton.1 hp; exact hl y hy) (by simp) (hld.next ((Below.refl _ _).alloc (Nat.le_refl _) _))
  rw [hf] at ho
  obtain ⟨D, hD⟩ : ∃ D, D = shaOf shaK shaH l := ⟨_, rfl⟩
  have hDl : D.length = 32 := by rw [hD]; simp [shaOf, bytesOf]
  rw [← hD] at ho ⊢
  have hAs : (Tryd.prog.info? 29).map (·.size) = some (vals .u8 D).toArray.size := by rw [List.size_toArray, vals_length, hDl]; kernel_rfl
  have HO := Lib.hid ho
  clear ho hf hD
  go_enter Tryd.func9, Tryd.ntmps9
  have hres := res_new w
  unfold zeros32l at hres
  have HRES := Lib.hid hres
  clear hres
  go_wp2_with fail
  generalize w.alloc (.cells _ 29) = W1 at HRES ⊢
  obtain ⟨hc1, hs1, hb1⟩ := HRES.out
  have hO := HO.out W1 (hr.below hb1 (Nat.le_refl _)) (hld.next hb1)
  rw [hs1] at hO
  have HC1 := Lib.hid hc1
  have HS1 := Lib.hid hs1
  have HB1 := Lib.hid hb1
  clear hc1 hs1 hb1 HO HRES
  refine hO.mono ?_
  rintro e w2 ⟨rfl, hb2⟩
  have hb2' : Below W1.heap.size W1 w2 := ((Below.refl W1.heap.size W1).alloc (Nat.le_refl _) _).trans (hb2.mono (by simp))
  have HR2 : Hid (w2.heap[w.heap.size]? = _) := Lib.hid ((hb2'.block w.heap.size (by have := HS1.out; omega)).trans HC1.out)
  have HB2 := Lib.hid hb2'
  have hAz : (#[.int .u8 0, .int .u8 0, .int .u8 0, .int .u8 0, .int .u8 0, .int .u8 0, .int .u8 0, .int .u8 0, .int .u8 0, .int .u8 0, .int .u8 0, .int .u8 0, .int .u8 0, .int .u8 0, .int .u8 0, .int .u8 0, .int .u8 0, .int .u8 0, .int .u8 0, .int .u8 0, .int .u8 0, .int .u8 0, .int .u8 0, .int .u8 0, .int .u8 0, .int .u8 0, .int .u8 0, .int .u8 0, .int .u8 0, .int .u8 0, .int .u8 0, .int .u8 0] : Array Value).size = (vals .u8 D).toArray.size := by
    have h : (vals .u8 D).toArray.size = 32 := by rw [List.size_toArray, vals_length, hDl]
    rw [h]; rfl
  clear hb2 hb2' hO
  go_wp2_with ((with_reducible show wpList _ _ _ (Oper.mk none _ _ _ _ _ :: _) _ _); go_must (refine wpList_store_row rfl 29 (.tmp 2) (.tmp 5) rfl w.heap.size (vals .u8 D).toArray rfl rfl _ _ HR2.out hAs hAz (row_one _ _) ?_))
  refine bodyPost_ret (v := .agg (vals .u8 D).toArray) (results_cell_row (p := 2) rfl _ _ w.heap.size _ _ _ _ rfl (setRow_heap _ _ _ _ _ _ HR2.out) Tryd.underlying29 rfl hAs) rfl ?_
  exact ⟨rfl, res_put HS1.out HB1.out HB2.out⟩

end Go.Proofs.YtjhipfgmiilmdaaDoor
