/- The document's digest of a text; a segment's part and its bytes: the program's Of and the document's. · A segment's part and its bytes: the program's Of and the document's. -/
import Derived.Test.YtpebmmhokigglaaGreatDoorMfN
import Derived.Test.YtpebmmhokigglaaGreatDoorSgU
import Derived.Test.YtpebmmhokigglaaGreatDoorQn
import Derived.Test.YtpebmmhokigglaaGreatDoorQr
import Derived.Test.YtpebmmhokigglaaGreatDoorShaI
import Derived.Test.YtpebmmhokigglaaGreatDoorQh
namespace Go.Proofs.YtpebmmhokigglaaGreatDoor
open Go.RowKit

theorem seg_bytesM {f : Int} {cs : List IC} (h : sgC f cs = 0) (h8 : ∀ c ∈ cs, ∀ y ∈ c.2, y < 256) : (∀ y ∈ fr (sgtext f cs), y < 256) ∧ (fr (sgtext f cs)).length ≤ 7000 := by
  obtain ⟨h1, h2⟩ := sgtext_len h h8
  have hu : U64 (sgtext f cs).length := by unfold U64; omega
  refine ⟨fr_byte h2 hu, ?_⟩
  rw [fr_length]
  have := enc_len10 hu
  unfold fsize
  omega
theorem sha_len (l : List Nat) : (shaOf shaK shaH l).length = 32 := by simp [shaOf, bytesOf]
theorem sha_dg (l : List Nat) : Dg (shaOf shaK shaH l) := ⟨sha_len l, by
  intro y hy
  simp only [shaOf, bytesOf] at hy
  simp at hy
  obtain ⟨i, _, rfl⟩ := hy
  omega⟩
theorem q_cellsQ {w : World} {p : Nat} {a b : Value} {t : TypeId} (h : w.heap[p]? = some (.cells #[a, b] t (0, 0))) :
    w.cell? ⟨p, 0, none⟩ = some a ∧ w.cell? ⟨p, 1, none⟩ = some b :=
  ⟨(blk2 h).1, (blk2 h).2.1⟩
/-- Three results, the first one in cells. -/
theorem results_row_tmp2 {P : Program} {fn : Func} {p s s2 : Tmp} {ty : TypeId} (h : fn.results = #[.cell p ty, .tmp s, .tmp s2]) (tmps : Array Value) (w : World) (g : Nat) (t : TypeId) (cs : Array Value) (fr : Nat × Nat) (d : TypeDesc) (u u2 : Value)
    (hp : tmps.getD p undef = .pointer (some ⟨g, 0, none⟩)) (hs : tmps.getD s undef = u) (hs2 : tmps.getD s2 undef = u2) (hg : w.heap[g]? = some (.cells cs t fr))
    (hu : P.underlying ty = some d) (hd : (match d with | .struct _ | .array _ _ => true | _ => false) = true) (hi : (P.info? ty).map (·.size) = some cs.size) :
    (results fn tmps).run P w = .ok (.tuple #[.agg cs, u, u2]) w := by
  have hp' : tmps[p]?.getD undef = .pointer (some ⟨g, 0, none⟩) := by simpa using hp
  have hs' : tmps[s]?.getD undef = u := by simpa using hs
  have hs2' : tmps[s2]?.getD undef = u2 := by simpa using hs2
  simp [results, h, hp', hs', hs2', asAddr, run_loadVar_row w g t ty cs fr d hg hu hd hi]

theorem ptRow_valsQ (D : List Nat) : ∀ u ∈ vals .u8 D, u.oneCell' = true := fun u hu => by
  obtain ⟨x, _, rfl⟩ := List.mem_map.1 hu
  rfl
theorem rsha_zero : (vals .u8 zero32).toArray = #[.int .u8 0, .int .u8 0, .int .u8 0, .int .u8 0, .int .u8 0, .int .u8 0, .int .u8 0, .int .u8 0, .int .u8 0, .int .u8 0, .int .u8 0, .int .u8 0, .int .u8 0, .int .u8 0, .int .u8 0, .int .u8 0, .int .u8 0, .int .u8 0, .int .u8 0, .int .u8 0, .int .u8 0, .int .u8 0, .int .u8 0, .int .u8 0, .int .u8 0, .int .u8 0, .int .u8 0, .int .u8 0, .int .u8 0, .int .u8 0, .int .u8 0, .int .u8 0] := by rfl
theorem Tryz.sizeRD : (Tryz.prog.info? 42).map (·.size) = some 32 := by kernel_rfl

set_option maxHeartbeats 4000000 in
set_option maxRecDepth 100000 in
theorem rshaOf_any (v : Value) (l : List Nat) (w : World) (hr : Reads w .u8 v l) (hl : ∀ y ∈ l, y < 256) (hx : l.length ≤ 100000) :
    Calls Tryz.prog 24 #[v] w fun e w' => e = .returned (.agg (vals .u8 (shaOf shaK shaH l)).toArray) ∧ Below w.heap.size w w' := by
  obtain ⟨ao, cap, rfl, _, _, _⟩ := hr.val
  obtain ⟨W1, hW1⟩ : ∃ W1, W1 = w.alloc (.cells (vals .u8 zero32).toArray 42) := ⟨_, rfl⟩
  have hb1 : Below w.heap.size w W1 := by rw [hW1]; exact (Below.refl _ _).alloc (Nat.le_refl _) _
  have hz1 : W1.heap[w.heap.size]? = some (.cells (vals .u8 zero32).toArray 42 (0, 0)) := by rw [hW1]; exact heap_alloc_new _ _
  have hs1 : W1.heap.size = w.heap.size + 1 := by rw [hW1]; simp
  have HT := Lib.hid (tables_any W1)
  have HR1 := Lib.hid (hr.new hb1)
  have HB1 := Lib.hid hb1
  have HZ1 := Lib.hid hz1
  have HS1 := Lib.hid hs1
  have HL := Lib.hid hl
  have HX := Lib.hid hx
  rw [rsha_zero] at hW1
  have HW1 := Lib.hid hW1
  obtain ⟨D, hD⟩ : ∃ D, D = shaOf shaK shaH l := ⟨_, rfl⟩
  have HDL : Hid ((Tryz.prog.info? 42).map (·.size) = some (vals .u8 D).toArray.size) := Lib.hid (by rw [List.size_toArray, vals_length, hD, sha_len]; exact Tryz.sizeRD)
  have HD0 : Hid ((vals .u8 zero32).toArray.size = (vals .u8 D).toArray.size) := Lib.hid (by rw [List.size_toArray, List.size_toArray, vals_length, vals_length, hD, sha_len]; rfl)
  rw [← hD]
  have HD := Lib.hid hD
  obtain ⟨n, hn⟩ : ∃ n, n = l.length := ⟨_, rfl⟩
  rw [← hn] at HR1 ⊢
  clear hr hb1 hz1 hs1 hW1 hl hx hD hn
  go_enter Tryz.func24, Tryz.ntmps24
  go_wp2_with fail
  rw [← HW1.out]
  refine HT.out.mono ?_
  rintro e w2 ⟨v1, v2, rfl, ho1, ho2, hb2⟩
  have HS := Lib.hid (refSha_any _ v1 v2 l w2 (HR1.out.new hb2) HL.out HX.out ho1.reads ho2.reads)
  have HZ2 := Lib.hid ((hb2.block _ (by have := HS1.out; omega)).trans HZ1.out)
  have HB2 := Lib.hid (HB1.out.trans (hb2.mono HB1.out.size))
  have HS2 : Hid (w.heap.size < w2.heap.size) := Lib.hid (by have := hb2.size; have := HS1.out; omega)
  rw [← HD.out] at HS
  clear ho1 ho2 hb2
  go_wp2_with fail
  refine HS.out.mono ?_
  rintro e w3 ⟨rfl, hb3⟩
  have HZ3 := Lib.hid ((hb3.block _ HS2.out).trans HZ2.out)
  have HB3 := Lib.hid (HB2.out.trans (hb3.mono (Nat.le_of_lt HS2.out)))
  clear hb3
  go_wp2_with ((with_reducible show wpList _ _ _ (Oper.mk none _ _ _ _ _ :: _) _ _); go_must (refine wpList_store_box rfl 42 (.tmp 2) (.tmp 12) rfl w.heap.size (vals .u8 D).toArray rfl rfl _ _ HZ3.out HDL.out HD0.out (all_one (ptRow_valsQ D)) ?_))
  intro W4 hq4 hb4 _
  have HQ4 := Lib.hid hq4
  have HB4 := Lib.hid (HB3.out.trans hb4)
  clear hq4 hb4
  go_wp2
  refine bodyPost_ret (v := .agg (vals .u8 D).toArray) (results_cell_row (p := 2) rfl _ _ w.heap.size _ _ _ _ rfl HQ4.out Tryz.underlying42 rfl HDL.out) rfl ?_
  exact ⟨rfl, HB4.out⟩

/-- What Of answers first: an error's number. -/
def mofC (f : Int) (cs : List IC) : Nat := if sgC f cs = 0 then (if cs.length = 0 then 2 else 0) else sgC f cs
def mofP (f : Int) (cs : List IC) : PT := (f, (cs.length : Int), ((fr (sgtext f cs)).length : Int), shaOf shaK shaH (fr (sgtext f cs)))
theorem mofP_dg (f : Int) (cs : List IC) : Dg (mofP f cs).2.2.2 := sha_dg _
def MOfPost (f : Int) (cs : List IC) (w : World) (e : Ending) (w' : World) : Prop :=
  Below w.heap.size w w' ∧ ((mofC f cs = 0 ∧ ∃ v', e = .returned (.tuple #[.agg (ptRow (mofP f cs)).toArray, v', .nilIface]) ∧ Owns w' w.heap.size 5 .u8 v' (fr (sgtext f cs))) ∨
    (mofC f cs ≠ 0 ∧ e = .returned (.tuple #[.agg (ptRow (0, 0, 0, zero32)).toArray, .slice none 0 0, errV (mofC f cs)])))
/-- What holds while the answer is made. -/
structure OfS (w : World) (x y v : Value) (l : List Nat) (T TP : TypeId) (ld : Bool) (W : World) : Prop where
  b : Below w.heap.size w W
  s : W.heap[w.heap.size]? = some (.cells #[x, y] T (0, 0))
  r : ∃ cs : Array Value, W.heap[w.heap.size + 1]? = some (.cells cs TP (0, 0)) ∧ cs.size = 35
  d : Owns W (w.heap.size + 2) 5 .u8 v l
  k : ld = true → Laid W
theorem OfS.old {w W W' : World} {x y v : Value} {l : List Nat} {T TP : TypeId} {ld : Bool} (h : OfS w x y v l T TP ld W) (hb : Below W.heap.size W W') : OfS w x y v l T TP ld W' := by
  have lt : ∀ {q : Nat} {c : Obj}, W.heap[q]? = some c → q < W.heap.size := fun h => (Array.getElem?_eq_some_iff.1 h).1
  obtain ⟨cs, h1, h2⟩ := h.r
  exact ⟨h.b.trans (hb.mono h.b.size), (hb.block _ (lt h.s)).trans h.s, ⟨cs, (hb.block _ (lt h1)).trans h1, h2⟩, h.d.keep hb, fun e => (h.k e).next hb⟩
theorem OfS.put {w W : World} {x y v : Value} {l : List Nat} {T TP : TypeId} {ld : Bool} (h : OfS w x y v l T TP ld W) (A : Array Value) (hA : A.size = 35) (h2 : 2 ≤ w.heap.size ∨ ld = false) : OfS w x y v l T TP ld (W.setRow (w.heap.size + 1) A) := by
  obtain ⟨cs, h1, h3⟩ := h.r
  have hs : (W.setRow (w.heap.size + 1) A).heap.size = W.heap.size := by simp [World.setRow]
  have hbw : Below (w.heap.size + 1) W (W.setRow (w.heap.size + 1) A) := ⟨rfl, rfl, rfl, Nat.le_of_eq hs.symm, fun k hk => setRow_other _ _ k _ (by omega)⟩
  refine ⟨h.b.trans (hbw.mono (Nat.le_succ _)), (hbw.block _ (Nat.lt_succ_self _)).trans h.s, ⟨A, setRow_heap _ _ _ _ _ _ h1, hA⟩, ?_, fun e => ?_⟩
  · exact h.d.maker (p := w.heap.size + 1) (by omega) ⟨rfl, rfl, rfl, Nat.le_of_eq hs.symm, fun k _ hk => setRow_other _ _ k _ (fun e => hk (by rw [e]))⟩
  · rcases h2 with h2 | h2
    · exact (h.k e).below hbw (by omega)
    · rw [h2] at e; cases e

end Go.Proofs.YtpebmmhokigglaaGreatDoor

namespace Go.Proofs.YtpebmmhokigglaaGreatDoor
open Go.RowKit

theorem Owns.form2Q {w : World} {base : Nat} {e : TypeId} {k : IntKind} {v : Value} {l : List Nat} (h : Owns w base e k v l) : ∃ ao cap, v = .slice ao l.length cap := by
  obtain ⟨ao, cap, h1, _⟩ := h.reads.val
  exact ⟨ao, cap, h1⟩

set_option maxHeartbeats 8000000 in
set_option maxRecDepth 100000 in
theorem mof_any (f : Int) (v : Value) (cs : List IC) (w : World) (B : Nat → Prop) (h : CellsAt w B v cs) (h8 : ∀ c ∈ cs, ∀ y ∈ c.2, y < 256) (hld : Laid w) :
    Calls Tryz.prog 8 #[.agg #[.int .i64 f, v]] w (MOfPost f cs w) := by
  obtain ⟨ao, cap, rfl, _, _, _⟩ := h.val
  obtain ⟨W1, hW1⟩ : ∃ W1, W1 = (w.alloc (.cells #[.int .i64 f, .slice ao cs.length cap] 24)).alloc (.cells (ptRow (0, 0, 0, zero32)).toArray 28) := ⟨_, rfl⟩
  have hb1 : Below w.heap.size w W1 := by rw [hW1]; exact ((Below.refl _ _).alloc (Nat.le_refl _) _).alloc (by simp) _
  have hx1 : W1.heap[w.heap.size]? = some (.cells #[.int .i64 f, .slice ao cs.length cap] 24 (0, 0)) := by rw [hW1, Below.heap_alloc _ _ _ (by simp)]; exact heap_alloc_new _ _
  have hz1 : W1.heap[w.heap.size + 1]? = some (.cells (ptRow (0, 0, 0, zero32)).toArray 28 (0, 0)) := by
    have := heap_alloc_new (w.alloc (.cells #[.int .i64 f, .slice ao cs.length cap] 24)) (.cells (ptRow (0, 0, 0, zero32)).toArray 28)
    rw [hW1]; simpa using this
  have hs1 : W1.heap.size = w.heap.size + 2 := by rw [hW1]; simp
  have HPUT := Lib.hid (sgput_any f _ cs W1 B (h.old hb1) h8)
  have HLD1 := Lib.hid (hld.next hb1)
  have H8 := Lib.hid h8
  have HB1 := Lib.hid hb1
  have HX1 := Lib.hid hx1
  have HZ1 := Lib.hid hz1
  have HS1 := Lib.hid hs1
  rw [pt0_cells] at hW1
  have HSZ0 : Hid ((Tryz.prog.info? 28).map (·.size) = some (ptRow (0, 0, 0, zero32)).toArray.size) := Lib.hid (by rw [ptRow_size dg_zero]; exact Tryz.sizePT)
  have HSZ : Hid ((Tryz.prog.info? 28).map (·.size) = some (ptRow (mofP f cs)).toArray.size) := Lib.hid (by rw [ptRow_size (mofP_dg f cs)]; exact Tryz.sizePT)
  obtain ⟨n, hn⟩ : ∃ n, n = cs.length := ⟨_, rfl⟩
  rw [← hn] at HX1 hW1 HPUT ⊢
  have HN := Lib.hid hn
  have HW1 := Lib.hid hW1
  have HL2 := Lib.hid hld.size
  clear h h8 hld hb1 hx1 hz1 hs1 hn hW1
  go_enter Tryz.func8, Tryz.ntmps8
  go_wp2_with fail
  rw [← HW1.out]
  refine HPUT.out.mono ?_
  rintro e w2 ⟨hb2, h2⟩
  have HX2 := Lib.hid ((hb2.block _ (by have := HS1.out; omega)).trans HX1.out)
  have HZ2 := Lib.hid ((hb2.block _ (by have := HS1.out; omega)).trans HZ1.out)
  have HB2 := Lib.hid (HB1.out.trans (hb2.mono HB1.out.size))
  have HLD2 := Lib.hid (HLD1.out.next hb2)
  clear hb2
  rcases h2 with ⟨hz, v', rfl, ho⟩ | ⟨hz, rfl⟩
  rotate_left
  · have HC : Hid (mofC f cs = sgC f cs) := Lib.hid (if_neg hz)
    have HNZ := Lib.hid hz
    rw [errV_pos hz]
    clear hz
    go_wp2_with ((with_reducible show wpList _ _ _ (Oper.mk none _ _ _ _ _ :: _) _ _); go_must (refine wpList_store_box rfl 28 (.tmp 2) (.tmp 14) rfl (w.heap.size + 1) (ptRow (0, 0, 0, zero32)).toArray rfl rfl _ _ HZ2.out HSZ0.out rfl (all_one (ptRow_one _)) ?_))
    intro W4 hq4 hb4 _
    have HQ4 := Lib.hid hq4
    have HB4 := Lib.hid (HB2.out.trans (hb4.mono (Nat.le_succ _)))
    clear hq4 hb4
    go_wp2
    refine bodyPost_ret (v := .tuple #[.agg (ptRow (0, 0, 0, zero32)).toArray, .slice none 0 0, .iface 68 (.int .i64 (sgC f cs : Int))]) (results_row_tmp2 (p := 2) rfl _ _ (w.heap.size + 1) _ _ _ _ _ _ rfl rfl rfl HQ4.out Tryz.underlying28 rfl HSZ0.out) rfl ?_
    exact ⟨HB4.out, .inr ⟨by rw [HC.out]; exact HNZ.out, by rw [HC.out, errV_pos HNZ.out]⟩⟩
  obtain ⟨ap, cp, rfl⟩ := ho.form2Q
  have HZC := Lib.hid hz
  have HSB := Lib.hid (seg_bytesM hz H8.out)
  have HO2 := Lib.hid ho
  obtain ⟨nb, hnb⟩ : ∃ n, n = (fr (sgtext f cs)).length := ⟨_, rfl⟩
  rw [← hnb] at HO2 ⊢
  have HNB := Lib.hid hnb
  obtain ⟨x0, x1⟩ := q_cellsQ HX2.out
  clear hz ho hnb
  by_cases g : (n : Int) = 0
  · have HC : Hid (mofC f cs = 2) := Lib.hid (by unfold mofC; rw [if_pos HZC.out, if_pos (by have := HN.out; omega)])
    go_wp2_with ((with_reducible show wpList _ _ _ (Oper.mk none _ _ _ _ _ :: _) _ _); go_must (refine wpList_store_box rfl 28 (.tmp 2) (.tmp 20) rfl (w.heap.size + 1) (ptRow (0, 0, 0, zero32)).toArray rfl rfl _ _ HZ2.out HSZ0.out rfl (all_one (ptRow_one _)) ?_))
    intro W4 hq4 hb4 _
    have HQ4 := Lib.hid hq4
    have HB4 := Lib.hid (HB2.out.trans (hb4.mono (Nat.le_succ _)))
    clear hq4 hb4
    go_wp2
    refine bodyPost_ret (v := .tuple #[.agg (ptRow (0, 0, 0, zero32)).toArray, .slice none 0 0, .iface 68 (.int .i64 2)]) (results_row_tmp2 (p := 2) rfl _ _ (w.heap.size + 1) _ _ _ _ _ _ rfl rfl rfl HQ4.out Tryz.underlying28 rfl HSZ0.out) rfl ?_
    exact ⟨HB4.out, .inr ⟨by rw [HC.out]; decide, by rw [HC.out]; rfl⟩⟩
  have HG : Hid (n ≠ 0) := Lib.hid (by omega)
  go_upto_region 6 with fail
  have HC : Hid (mofC f cs = 0) := Lib.hid (by unfold mofC; rw [if_pos HZC.out, if_neg (by have := HN.out; have := HG.out; omega)])
  have HSS : Hid (OfS w (.int .i64 f) (.slice ao n cap) (.slice ap nb cp) (fr (sgtext f cs)) 24 28 true w2) := Lib.hid ⟨HB2.out, HX2.out, ⟨_, HZ2.out, ptRow_size dg_zero⟩, by have := HO2.out; rwa [HS1.out] at this, fun _ => HLD2.out⟩
  have HFO := Lib.hid (fold_part f (n : Int) (nb : Int) (sum := shaOf shaK shaH (fr (sgtext f cs))) (sha_len _))
  have HOP : Hid ((f, (n : Int), (nb : Int), shaOf shaK shaH (fr (sgtext f cs))) = mofP f cs) := Lib.hid (by unfold mofP; rw [HN.out, HNB.out])

  obtain ⟨DS, hDS⟩ : ∃ D, D = shaOf shaK shaH (fr (sgtext f cs)) := ⟨_, rfl⟩
  have hd32 : (vals .u8 DS).length = 32 := by rw [vals_length, hDS, sha_len]
  have HSUM : Hid (∀ W, OfS w (.int .i64 f) (.slice ao n cap) (.slice ap nb cp) (fr (sgtext f cs)) 24 28 true W → Calls Tryz.prog 21 #[.slice ap nb cp] W fun e w' => e = .returned (.agg (vals .u8 DS).toArray) ∧ Below W.heap.size W w') := Lib.hid fun W hS => by
    rw [hDS]
    exact sumS_any _ _ W hS.d.reads (by have := HSB.out.2; omega) HSB.out.1 (hS.k rfl)
  rw [← hDS] at HFO HOP
  obtain ⟨pt, hpt⟩ : ∃ p, p = mofP f cs := ⟨_, rfl⟩
  have HPD : Hid (Dg pt.2.2.2) := Lib.hid (by rw [hpt]; exact mofP_dg f cs)
  rw [← hpt] at HOP HSZ
  have HPT := Lib.hid hpt
  clear hDS hpt
  refine wp_region_extS (OfS w (.int .i64 f) (.slice ao n cap) (.slice ap nb cp) (fr (sgtext f cs)) 24 28 true) (HSS.out.old (Below.refl _ _).drew) (by kernel_rfl) ?_
  refine extS_take (i := 0) (d := 22) (v := ?_) rfl rfl (by kernel_rfl) (by kernel_rfl) (by kernel_rfl) (fun _ _ _ h => h) (by rfl) (fun W hS => ?_) ?_
  rotate_left
  · skip
    obtain ⟨x0, x1⟩ := q_cellsQ hS.s; refine gives_value (w := W) ⟨Below.refl _ _, hS⟩ ?_; go_simp; try with_reducible rfl
  simp only [List.setIfInBounds_toArray, List.set_cons_zero, List.set_cons_succ]
  refine extS_take (i := 1) (d := 23) (v := ?_) rfl rfl (by kernel_rfl) (by kernel_rfl) (by kernel_rfl) (fun _ _ _ h => h) (by rfl) (fun W hS => ?_) ?_
  rotate_left
  · skip
    obtain ⟨x0, x1⟩ := q_cellsQ hS.s; refine gives_value (w := W) ⟨Below.refl _ _, hS⟩ ?_; go_simp; try with_reducible rfl
  simp only [List.setIfInBounds_toArray, List.set_cons_zero, List.set_cons_succ]
  refine extS_take (i := 2) (d := 24) (v := ?_) rfl rfl (by kernel_rfl) (by kernel_rfl) (by kernel_rfl) (fun _ _ _ h => h) (by rfl) (fun W hS => ?_) ?_
  rotate_left
  · skip
    obtain ⟨x0, x1⟩ := q_cellsQ hS.s; refine gives_value (w := W) ⟨Below.refl _ _, hS⟩ ?_; go_simp; try with_reducible rfl
  simp only [List.setIfInBounds_toArray, List.set_cons_zero, List.set_cons_succ]
  refine extS_take (i := 3) (d := 25) (v := ?_) rfl rfl (by kernel_rfl) (by kernel_rfl) (by kernel_rfl) (fun _ _ _ h => h) (by rfl) (fun W hS => ?_) ?_
  rotate_left
  · skip
    obtain ⟨x0, x1⟩ := q_cellsQ hS.s; refine gives_value (w := W) ⟨Below.refl _ _, hS⟩ ?_; go_simp; try with_reducible rfl
  simp only [List.setIfInBounds_toArray, List.set_cons_zero, List.set_cons_succ]
  refine extS_take (i := 4) (d := 26) (v := ?_) rfl rfl (by kernel_rfl) (by kernel_rfl) (by kernel_rfl) (fun _ _ _ h => h) (by rfl) (fun W hS => ?_) ?_
  rotate_left
  · skip
    obtain ⟨x0, x1⟩ := q_cellsQ hS.s; refine gives_value (w := W) ⟨Below.refl _ _, hS⟩ ?_; go_simp; try with_reducible rfl
  simp only [List.setIfInBounds_toArray, List.set_cons_zero, List.set_cons_succ]
  refine extS_take (i := 5) (d := 27) (v := ?_) rfl rfl (by kernel_rfl) (by kernel_rfl) (by kernel_rfl) (fun _ _ _ h => h) (by rfl) (fun W hS => ?_) ?_
  rotate_left
  · skip
    obtain ⟨x0, x1⟩ := q_cellsQ hS.s; refine gives_value (w := W) ⟨Below.refl _ _, hS⟩ ?_; go_simp; try with_reducible rfl
  simp only [List.setIfInBounds_toArray, List.set_cons_zero, List.set_cons_succ]
  refine extS_take (i := 6) (d := 28) (v := ?_) rfl rfl (by kernel_rfl) (by kernel_rfl) (by kernel_rfl) (fun _ _ _ h => h) (by rfl) (fun W hS => ?_) ?_
  rotate_left
  · skip
    obtain ⟨x0, x1⟩ := q_cellsQ hS.s; refine gives_value (w := W) ⟨Below.refl _ _, hS⟩ ?_; go_simp; try with_reducible rfl
  simp only [List.setIfInBounds_toArray, List.set_cons_zero, List.set_cons_succ]
  refine extS_take (i := 7) (d := 29) (v := ?_) rfl rfl (by kernel_rfl) (by kernel_rfl) (by kernel_rfl) (fun _ _ _ h => h) (by rfl) (fun W hS => ?_) ?_
  rotate_left
  · skip
    obtain ⟨x0, x1⟩ := q_cellsQ hS.s; refine gives_value (w := W) ⟨Below.refl _ _, hS⟩ ?_; go_simp; try with_reducible rfl
  simp only [List.setIfInBounds_toArray, List.set_cons_zero, List.set_cons_succ]
  refine extS_take (i := 8) (d := 30) (v := ?_) rfl rfl (by kernel_rfl) (by kernel_rfl) (by kernel_rfl) (fun _ _ _ h => h) (by rfl) (fun W hS => ?_) ?_
  rotate_left
  · skip
    go_simp; refine Gives.enter ((HSUM.out W hS).mono ?_); rintro e wn ⟨rfl, hbn⟩; refine ⟨?_, hbn, hS.old hbn⟩; with_reducible rfl
  simp only [List.setIfInBounds_toArray, List.set_cons_zero, List.set_cons_succ]
  refine extS_take (i := 9) (d := 31) (v := .agg (ptRow pt).toArray) rfl rfl (by kernel_rfl) (by kernel_rfl) (by kernel_rfl) (fun _ _ _ h => h) (by rfl) (fun W hS => ?_) ?_
  · refine gives_value (w := W) ⟨Below.refl _ _, hS⟩ ?_
    go_simp
    rw [HFO.out, HOP.out]
  simp only [List.setIfInBounds_toArray, List.set_cons_zero, List.set_cons_succ]
  refine extS_take (i := 10) (d := 32) (v := ?_) rfl rfl (by kernel_rfl) (by kernel_rfl) (by kernel_rfl) (fun _ _ _ h => h) (by rfl) (fun W hS => ?_) ?_
  rotate_left
  · skip
    obtain ⟨x0, x1⟩ := q_cellsQ hS.s; refine gives_value (w := W) ⟨Below.refl _ _, hS⟩ ?_; go_simp; try with_reducible rfl
  simp only [List.setIfInBounds_toArray, List.set_cons_zero, List.set_cons_succ]
  refine extS_one (i := 11) (by kernel_rfl) rfl (fun W9 hb9 hS9 => ?_)
  intro K hK
  rw [if_pos (by rfl)]
  obtain ⟨old, hold, ho35⟩ := hS9.r
  refine wp_store_row 28 (.tmp 2) (.tmp 31) rfl (w.heap.size + 1) (ptRow pt).toArray rfl rfl _ old hold HSZ.out (by rw [ho35, ptRow_size HPD.out]) (all_one (ptRow_one _)) ?_
  have HSE := Lib.hid (hS9.put (ptRow pt).toArray (ptRow_size HPD.out) (.inl HL2.out))
  have HQE : Hid ((W9.setRow (w.heap.size + 1) (ptRow pt).toArray).heap[w.heap.size + 1]? = some (.cells (ptRow pt).toArray 28 (0, 0))) := Lib.hid (setRow_heap _ _ _ _ _ _ hold)
  refine hK _ _ HSE.out ?_
  clear hK K hold
  simp only [Act.put]
  refine extS_take (i := 12) (d := 3) (v := ?_) rfl rfl (by kernel_rfl) (by kernel_rfl) (by kernel_rfl) (fun _ _ _ h => h) (by rfl) (fun W hS => ?_) ?_
  rotate_left
  · skip
    refine gives_value (w := W) ⟨Below.refl _ _, hS⟩ ?_; go_simp; try with_reducible rfl
  simp only [List.setIfInBounds_toArray, List.set_cons_zero, List.set_cons_succ]
  refine extS_take (i := 13) (d := 4) (v := ?_) rfl rfl (by kernel_rfl) (by kernel_rfl) (by kernel_rfl) (fun _ _ _ h => h) (by rfl) (fun W hS => ?_) ?_
  rotate_left
  · skip
    refine gives_value (w := W) ⟨Below.refl _ _, hS⟩ ?_; go_simp; try with_reducible rfl
  simp only [List.setIfInBounds_toArray, List.set_cons_zero, List.set_cons_succ]
  refine extS_done (by kernel_rfl) (fun W20 hb20 hS20 => ?_) _
  have HQ := Lib.hid ((hb20.block _ (Array.getElem?_eq_some_iff.1 HQE.out).1).trans HQE.out)
  have HS20 := Lib.hid hS20
  clear hS20 hb20
  go_wp2
  rw [HPT.out] at HQ HSZ
  refine bodyPost_ret (v := .tuple #[.agg (ptRow (mofP f cs)).toArray, .slice ap nb cp, .nilIface]) (results_row_tmp2 (p := 2) rfl _ _ (w.heap.size + 1) _ _ _ _ _ _ rfl rfl rfl HQ.out Tryz.underlying28 rfl HSZ.out) rfl ?_
  exact ⟨HS20.out.b, .inl ⟨HC.out, _, rfl, HS20.out.d.mono (by omega)⟩⟩

set_option maxHeartbeats 8000000 in
set_option maxRecDepth 100000 in
theorem rof_any (f : Int) (v : Value) (cs : List IC) (w : World) (base : Nat) (h : OwnsD w base v cs) (hz : sgC f cs = 0) (h8 : ∀ c ∈ cs, ∀ y ∈ c.2, y < 256) :
    Calls Tryz.prog 11 #[.agg #[.int .i64 f, v]] w fun e w' => ∃ v', e = .returned (.tuple #[.agg (ptRow (mofP f cs)).toArray, v']) ∧ Owns w' w.heap.size 5 .u8 v' (fr (sgtext f cs)) ∧ Below w.heap.size w w' := by
  obtain ⟨ao, cap, rfl⟩ := h.form
  obtain ⟨W1, hW1⟩ : ∃ W1, W1 = (w.alloc (.cells #[.int .i64 f, .slice ao cs.length cap] 34)).alloc (.cells (ptRow (0, 0, 0, zero32)).toArray 44) := ⟨_, rfl⟩
  have hb1 : Below w.heap.size w W1 := by rw [hW1]; exact ((Below.refl _ _).alloc (Nat.le_refl _) _).alloc (by simp) _
  have hx1 : W1.heap[w.heap.size]? = some (.cells #[.int .i64 f, .slice ao cs.length cap] 34 (0, 0)) := by rw [hW1, Below.heap_alloc _ _ _ (by simp)]; exact heap_alloc_new _ _
  have hz1 : W1.heap[w.heap.size + 1]? = some (.cells (ptRow (0, 0, 0, zero32)).toArray 44 (0, 0)) := by
    have := heap_alloc_new (w.alloc (.cells #[.int .i64 f, .slice ao cs.length cap] 34)) (.cells (ptRow (0, 0, 0, zero32)).toArray 44)
    rw [hW1]; simpa using this
  have hs1 : W1.heap.size = w.heap.size + 2 := by rw [hW1]; simp
  have HPUT := Lib.hid (rsgput_any f _ cs W1 base (h.below hb1) hz h8)
  have HZC := Lib.hid hz
  have H8 := Lib.hid h8
  have HB1 := Lib.hid hb1
  have HX1 := Lib.hid hx1
  have HZ1 := Lib.hid hz1
  have HS1 := Lib.hid hs1
  rw [pt0_cells] at hW1
  have HSZ0 : Hid ((Tryz.prog.info? 44).map (·.size) = some (ptRow (0, 0, 0, zero32)).toArray.size) := Lib.hid (by rw [ptRow_size dg_zero]; exact Tryz.sizePTD)
  have HSZ : Hid ((Tryz.prog.info? 44).map (·.size) = some (ptRow (mofP f cs)).toArray.size) := Lib.hid (by rw [ptRow_size (mofP_dg f cs)]; exact Tryz.sizePTD)
  obtain ⟨n, hn⟩ : ∃ n, n = cs.length := ⟨_, rfl⟩
  rw [← hn] at HX1 hW1 HPUT ⊢
  have HN := Lib.hid hn
  have HW1 := Lib.hid hW1
  clear h h8 hz hb1 hx1 hz1 hs1 hn hW1
  go_enter Tryz.func11, Tryz.ntmps11
  go_wp2_with fail
  rw [← HW1.out]
  refine HPUT.out.mono ?_
  rintro e w2 ⟨v', rfl, ho, hb2⟩
  have HX2 := Lib.hid ((hb2.block _ (by have := HS1.out; omega)).trans HX1.out)
  have HZ2 := Lib.hid ((hb2.block _ (by have := HS1.out; omega)).trans HZ1.out)
  have HB2 := Lib.hid (HB1.out.trans (hb2.mono HB1.out.size))
  clear hb2
  obtain ⟨ap, cp, rfl⟩ := ho.form2Q
  have HSB := Lib.hid (seg_bytesM HZC.out H8.out)
  have HO2 := Lib.hid ho
  obtain ⟨nb, hnb⟩ : ∃ n, n = (fr (sgtext f cs)).length := ⟨_, rfl⟩
  rw [← hnb] at HO2 ⊢
  have HNB := Lib.hid hnb
  clear ho hnb
  go_upto_region 2 with fail
  have HSS : Hid (OfS w (.int .i64 f) (.slice ao n cap) (.slice ap nb cp) (fr (sgtext f cs)) 34 44 false w2) := Lib.hid ⟨HB2.out, HX2.out, ⟨_, HZ2.out, ptRow_size dg_zero⟩, by have := HO2.out; rwa [HS1.out] at this, fun e => by cases e⟩
  have HFO := Lib.hid (fold_part f (n : Int) (nb : Int) (sum := shaOf shaK shaH (fr (sgtext f cs))) (sha_len _))
  have HOP : Hid ((f, (n : Int), (nb : Int), shaOf shaK shaH (fr (sgtext f cs))) = mofP f cs) := Lib.hid (by unfold mofP; rw [HN.out, HNB.out])

  obtain ⟨DS, hDS⟩ : ∃ D, D = shaOf shaK shaH (fr (sgtext f cs)) := ⟨_, rfl⟩
  have hd32 : (vals .u8 DS).length = 32 := by rw [vals_length, hDS, sha_len]
  have HSUM : Hid (∀ W, OfS w (.int .i64 f) (.slice ao n cap) (.slice ap nb cp) (fr (sgtext f cs)) 34 44 false W → Calls Tryz.prog 24 #[.slice ap nb cp] W fun e w' => e = .returned (.agg (vals .u8 DS).toArray) ∧ Below W.heap.size W w') := Lib.hid fun W hS => by
    rw [hDS]
    exact rshaOf_any _ _ W hS.d.reads HSB.out.1 (by have := HSB.out.2; omega)
  rw [← hDS] at HFO HOP
  obtain ⟨pt, hpt⟩ : ∃ p, p = mofP f cs := ⟨_, rfl⟩
  have HPD : Hid (Dg pt.2.2.2) := Lib.hid (by rw [hpt]; exact mofP_dg f cs)
  rw [← hpt] at HOP HSZ
  have HPT := Lib.hid hpt
  clear hDS hpt
  refine wp_region_extS (OfS w (.int .i64 f) (.slice ao n cap) (.slice ap nb cp) (fr (sgtext f cs)) 34 44 false) (HSS.out.old (Below.refl _ _).drew) (by kernel_rfl) ?_
  refine extS_take (i := 0) (d := 7) (v := ?_) rfl rfl (by kernel_rfl) (by kernel_rfl) (by kernel_rfl) (fun _ _ _ h => h) (by rfl) (fun W hS => ?_) ?_
  rotate_left
  · skip
    obtain ⟨x0, x1⟩ := q_cellsQ hS.s; refine gives_value (w := W) ⟨Below.refl _ _, hS⟩ ?_; go_simp; try with_reducible rfl
  simp only [List.setIfInBounds_toArray, List.set_cons_zero, List.set_cons_succ]
  refine extS_take (i := 1) (d := 8) (v := ?_) rfl rfl (by kernel_rfl) (by kernel_rfl) (by kernel_rfl) (fun _ _ _ h => h) (by rfl) (fun W hS => ?_) ?_
  rotate_left
  · skip
    obtain ⟨x0, x1⟩ := q_cellsQ hS.s; refine gives_value (w := W) ⟨Below.refl _ _, hS⟩ ?_; go_simp; try with_reducible rfl
  simp only [List.setIfInBounds_toArray, List.set_cons_zero, List.set_cons_succ]
  refine extS_take (i := 2) (d := 9) (v := ?_) rfl rfl (by kernel_rfl) (by kernel_rfl) (by kernel_rfl) (fun _ _ _ h => h) (by rfl) (fun W hS => ?_) ?_
  rotate_left
  · skip
    obtain ⟨x0, x1⟩ := q_cellsQ hS.s; refine gives_value (w := W) ⟨Below.refl _ _, hS⟩ ?_; go_simp; try with_reducible rfl
  simp only [List.setIfInBounds_toArray, List.set_cons_zero, List.set_cons_succ]
  refine extS_take (i := 3) (d := 10) (v := ?_) rfl rfl (by kernel_rfl) (by kernel_rfl) (by kernel_rfl) (fun _ _ _ h => h) (by rfl) (fun W hS => ?_) ?_
  rotate_left
  · skip
    obtain ⟨x0, x1⟩ := q_cellsQ hS.s; refine gives_value (w := W) ⟨Below.refl _ _, hS⟩ ?_; go_simp; try with_reducible rfl
  simp only [List.setIfInBounds_toArray, List.set_cons_zero, List.set_cons_succ]
  refine extS_take (i := 4) (d := 11) (v := ?_) rfl rfl (by kernel_rfl) (by kernel_rfl) (by kernel_rfl) (fun _ _ _ h => h) (by rfl) (fun W hS => ?_) ?_
  rotate_left
  · skip
    obtain ⟨x0, x1⟩ := q_cellsQ hS.s; refine gives_value (w := W) ⟨Below.refl _ _, hS⟩ ?_; go_simp; try with_reducible rfl
  simp only [List.setIfInBounds_toArray, List.set_cons_zero, List.set_cons_succ]
  refine extS_take (i := 5) (d := 12) (v := ?_) rfl rfl (by kernel_rfl) (by kernel_rfl) (by kernel_rfl) (fun _ _ _ h => h) (by rfl) (fun W hS => ?_) ?_
  rotate_left
  · skip
    obtain ⟨x0, x1⟩ := q_cellsQ hS.s; refine gives_value (w := W) ⟨Below.refl _ _, hS⟩ ?_; go_simp; try with_reducible rfl
  simp only [List.setIfInBounds_toArray, List.set_cons_zero, List.set_cons_succ]
  refine extS_take (i := 6) (d := 13) (v := ?_) rfl rfl (by kernel_rfl) (by kernel_rfl) (by kernel_rfl) (fun _ _ _ h => h) (by rfl) (fun W hS => ?_) ?_
  rotate_left
  · skip
    obtain ⟨x0, x1⟩ := q_cellsQ hS.s; refine gives_value (w := W) ⟨Below.refl _ _, hS⟩ ?_; go_simp; try with_reducible rfl
  simp only [List.setIfInBounds_toArray, List.set_cons_zero, List.set_cons_succ]
  refine extS_take (i := 7) (d := 14) (v := ?_) rfl rfl (by kernel_rfl) (by kernel_rfl) (by kernel_rfl) (fun _ _ _ h => h) (by rfl) (fun W hS => ?_) ?_
  rotate_left
  · skip
    obtain ⟨x0, x1⟩ := q_cellsQ hS.s; refine gives_value (w := W) ⟨Below.refl _ _, hS⟩ ?_; go_simp; try with_reducible rfl
  simp only [List.setIfInBounds_toArray, List.set_cons_zero, List.set_cons_succ]
  refine extS_take (i := 8) (d := 15) (v := ?_) rfl rfl (by kernel_rfl) (by kernel_rfl) (by kernel_rfl) (fun _ _ _ h => h) (by rfl) (fun W hS => ?_) ?_
  rotate_left
  · skip
    go_simp; refine Gives.enter ((HSUM.out W hS).mono ?_); rintro e wn ⟨rfl, hbn⟩; refine ⟨?_, hbn, hS.old hbn⟩; with_reducible rfl
  simp only [List.setIfInBounds_toArray, List.set_cons_zero, List.set_cons_succ]
  refine extS_take (i := 9) (d := 16) (v := .agg (ptRow pt).toArray) rfl rfl (by kernel_rfl) (by kernel_rfl) (by kernel_rfl) (fun _ _ _ h => h) (by rfl) (fun W hS => ?_) ?_
  · refine gives_value (w := W) ⟨Below.refl _ _, hS⟩ ?_
    go_simp
    rw [HFO.out, HOP.out]
  simp only [List.setIfInBounds_toArray, List.set_cons_zero, List.set_cons_succ]
  refine extS_take (i := 10) (d := 17) (v := ?_) rfl rfl (by kernel_rfl) (by kernel_rfl) (by kernel_rfl) (fun _ _ _ h => h) (by rfl) (fun W hS => ?_) ?_
  rotate_left
  · skip
    obtain ⟨x0, x1⟩ := q_cellsQ hS.s; refine gives_value (w := W) ⟨Below.refl _ _, hS⟩ ?_; go_simp; try with_reducible rfl
  simp only [List.setIfInBounds_toArray, List.set_cons_zero, List.set_cons_succ]
  refine extS_one (i := 11) (by kernel_rfl) rfl (fun W9 hb9 hS9 => ?_)
  intro K hK
  rw [if_pos (by rfl)]
  obtain ⟨old, hold, ho35⟩ := hS9.r
  refine wp_store_row 44 (.tmp 2) (.tmp 16) rfl (w.heap.size + 1) (ptRow pt).toArray rfl rfl _ old hold HSZ.out (by rw [ho35, ptRow_size HPD.out]) (all_one (ptRow_one _)) ?_
  have HSE := Lib.hid (hS9.put (ptRow pt).toArray (ptRow_size HPD.out) (.inr rfl))
  have HQE : Hid ((W9.setRow (w.heap.size + 1) (ptRow pt).toArray).heap[w.heap.size + 1]? = some (.cells (ptRow pt).toArray 44 (0, 0))) := Lib.hid (setRow_heap _ _ _ _ _ _ hold)
  refine hK _ _ HSE.out ?_
  clear hK K hold
  simp only [Act.put]
  refine extS_take (i := 12) (d := 3) (v := ?_) rfl rfl (by kernel_rfl) (by kernel_rfl) (by kernel_rfl) (fun _ _ _ h => h) (by rfl) (fun W hS => ?_) ?_
  rotate_left
  · skip
    refine gives_value (w := W) ⟨Below.refl _ _, hS⟩ ?_; go_simp; try with_reducible rfl
  simp only [List.setIfInBounds_toArray, List.set_cons_zero, List.set_cons_succ]
  refine extS_done (by kernel_rfl) (fun W20 hb20 hS20 => ?_) _
  have HQ := Lib.hid ((hb20.block _ (Array.getElem?_eq_some_iff.1 HQE.out).1).trans HQE.out)
  have HS20 := Lib.hid hS20
  clear hS20 hb20
  go_wp2
  rw [HPT.out] at HQ HSZ
  refine bodyPost_ret (v := .tuple #[.agg (ptRow (mofP f cs)).toArray, .slice ap nb cp]) (results_row_tmp (p := 2) rfl _ _ (w.heap.size + 1) _ _ _ _ _ rfl rfl HQ.out Tryz.underlying44 rfl HSZ.out) rfl ?_
  exact ⟨_, rfl, HS20.out.d.mono (by omega), HS20.out.b⟩

end Go.Proofs.YtpebmmhokigglaaGreatDoor
