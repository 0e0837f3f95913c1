/- The program's iterator over a text's blocks. -/
import Derived.Test.YtjhipfgmiilmdaaDoorShaV
import Derived.Test.YtjhipfgmiilmdaaDoorChunk
import Derived.Test.YtjhipfgmiilmdaaDoorRowIn
import Derived.Test.YtjhipfgmiilmdaaDoorStillIn
namespace Go.Proofs.YtjhipfgmiilmdaaDoor
open Go.RowKit Go.Shelf

attribute [local go_sem] Oper.semAt_some

/-- The blocks of a call of the iterator: yield, the buffer, how much it has, T having come. -/
structure Bf (W wr : World) (l : Nat) (T : List Nat) : Prop where
  size : W.heap.size + 3 ≤ wr.heap.size
  yld : wr.heap[W.heap.size]? = some (.cells #[.func (.yield l) #[] #[]] 77 (0, 0))
  buf : ∃ cs : List Nat, cs.length = 64 ∧ (∀ y ∈ cs, y < 256) ∧ wr.heap[W.heap.size + 1]? = some (.cells (vals .u8 cs).toArray 67 (0, 0)) ∧ cs.take (T.length % 64) = T.drop (64 * (T.length / 64))
  hav : wr.heap[W.heap.size + 1 + 1]? = some (.cells #[.int .i64 ((T.length % 64 : Nat) : Int)] 3 (0, 0))

theorem Bf.stay {W wr w' : World} {l : Nat} {T : List Nat} {S : Nat → Prop} (h : Bf W wr l T) (hs : Stay S wr w') (h0 : S W.heap.size) (h1 : S (W.heap.size + 1)) (h2 : S (W.heap.size + 1 + 1)) : Bf W w' l T := by
  obtain ⟨cs, c1, c2, c3, c4⟩ := h.buf
  exact ⟨Nat.le_trans h.size hs.size, hs.at h.yld h0, ⟨cs, c1, c2, hs.at c3 h1, c4⟩, hs.at h.hav h2⟩

def zeros64b : Array Value := #[.int .u8 0, .int .u8 0, .int .u8 0, .int .u8 0, .int .u8 0, .int .u8 0, .int .u8 0, .int .u8 0, .int .u8 0, .int .u8 0, .int .u8 0, .int .u8 0, .int .u8 0, .int .u8 0, .int .u8 0, .int .u8 0, .int .u8 0, .int .u8 0, .int .u8 0, .int .u8 0, .int .u8 0, .int .u8 0, .int .u8 0, .int .u8 0, .int .u8 0, .int .u8 0, .int .u8 0, .int .u8 0, .int .u8 0, .int .u8 0, .int .u8 0, .int .u8 0, .int .u8 0, .int .u8 0, .int .u8 0, .int .u8 0, .int .u8 0, .int .u8 0, .int .u8 0, .int .u8 0, .int .u8 0, .int .u8 0, .int .u8 0, .int .u8 0, .int .u8 0, .int .u8 0, .int .u8 0, .int .u8 0, .int .u8 0, .int .u8 0, .int .u8 0, .int .u8 0, .int .u8 0, .int .u8 0, .int .u8 0, .int .u8 0, .int .u8 0, .int .u8 0, .int .u8 0, .int .u8 0, .int .u8 0, .int .u8 0, .int .u8 0, .int .u8 0]
theorem zeros64b_eq : zeros64b = (vals .u8 (List.replicate 64 0)).toArray := rfl

theorem cell_of_heap {w : World} {g : Nat} {v : Value} {t : TypeId} (h : w.heap[g]? = some (.cells #[v] t (0, 0))) : w.cell? ⟨g, 0, none⟩ = some v := by simp [World.cell?, h]
theorem splice_vals (cs q : List Nat) (h m : Nat) (X : List Value) (hX : X = vals .u8 q) (hl : X.length = m) : ((vals .u8 cs).toArray.toList.take h ++ X ++ (vals .u8 cs).toArray.toList.drop (h + X.length)) = vals .u8 (cs.take h ++ q ++ cs.drop (h + m)) := by
  rw [hl, hX]
  simp [vals, List.map_take, List.map_drop]

/-- What the buffer holds when m more bytes have come. -/
theorem fill_buf {cs T q : List Nat} {h m : Nat} (hcs : cs.length = 64) (hT : T.length % 64 = h) (hpre : cs.take h = T.drop (64 * (T.length / 64))) (hq : q.length = m) (hm : h + m ≤ 64) :
    (cs.take h ++ q ++ cs.drop (h + m)).length = 64 ∧ (cs.take h ++ q ++ cs.drop (h + m)).take (h + m) = (T ++ q).drop (64 * (T.length / 64)) := by
  have h1 : (cs.take h).length = h := by rw [List.length_take]; omega
  have h2 : (cs.take h ++ q).length = h + m := by rw [List.length_append]; omega
  refine ⟨by rw [List.length_append, List.length_drop]; omega, ?_⟩
  rw [List.take_append_of_le_length (by omega), List.take_of_length_le (by omega), List.drop_append_of_le_length (by omega), hpre]

theorem slice_buf (g h : Nat) (hh : h < 64) (w : World) : (Instr.sliceAt 67 (.pointer (some ⟨g, 0, none⟩)) (some (.int .i64 (h : Int))) none none).run Tryd.prog w = .ok (.slice (some ⟨g, h, none⟩) (64 - h) (64 - h)) w := by
  have ha : Tryd.prog.arrayLen 67 = 64 := by kernel_rfl
  rw [run_sliceAt_array_l w 67 _ (by kernel_rfl) .i64 (h : Int) (by omega) (by rw [ha]; omega)]
  have hs : (sizeOf (Tryd.prog.elem 67)).run Tryd.prog w = .ok 1 w := by kernel_rfl
  rw [hs, ha]
  simp only [Result.andThen, slicedAt, Int.toNat_natCast, Nat.mul_one, Addr.add_lit, Nat.zero_add]
  rw [if_neg (by omega)]

def lenV : Value → Nat
  | .slice _ n _ => n
  | _ => 0
theorem Reads.stayAt {S : Nat → Prop} {w w' : World} {k : IntKind} {v : Value} {l : List Nat} (h : Reads w k v l) (hs : Stay S w w') (hS : l ≠ [] → ∀ b off n cap, v = .slice (some ⟨b, off, none⟩) n cap → S b) : Reads w' k v l := by
  obtain ⟨ao, cap, hv, h1, h2, h3, h4⟩ := h
  refine ⟨ao, cap, hv, h1, h2, h3, ?_⟩
  by_cases hl : l = []
  · exact .inl hl
  rcases h4 with h4 | ⟨b, off, ha, hlt, hc⟩
  · exact .inl h4
  · have hSb := hS hl b off _ cap (by rw [hv, ha])
    exact .inr ⟨b, off, ha, Nat.lt_of_lt_of_le hlt hs.size, fun i hi => (hs.cell (p := ⟨b, off + i, none⟩) hlt hSb).trans (hc i hi)⟩
/-- What is left of a piece lies where a round turns nothing. -/
def Lies (B C : Nat) (v : Value) (l : List Nat) : Prop := l ≠ [] → ∃ b off n cap, v = .slice (some ⟨b, off, none⟩) n cap ∧ (b < B ∨ C ≤ b)
theorem Lies.at {B C : Nat} {v : Value} {l : List Nat} (h : Lies B C v l) {S : Nat → Prop} (hS : ∀ b, (b < B ∨ C ≤ b) → S b) : l ≠ [] → ∀ b off n cap, v = .slice (some ⟨b, off, none⟩) n cap → S b := by
  intro hl b off n cap hv
  obtain ⟨b', off', n', cap', hv', hb⟩ := h hl
  rw [hv] at hv'
  simp only [Value.slice.injEq, Option.some.injEq, Addr.mk.injEq] at hv'
  rw [hv'.1.1]
  exact hS _ hb

/-- What has come, one piece behind the other. -/
def flat2 (xs : List (Value × List Nat)) : List Nat := (xs.map fun x => x.2).flatten
theorem flat2_snoc (xs : List (Value × List Nat)) (v : Value) (p : List Nat) : flat2 (xs ++ [(v, p)]) = flat2 xs ++ p := by simp [flat2]

theorem grow3 (W : World) (o1 o2 o3 : Obj) : (((W.alloc o1).alloc o2).alloc o3).heap.size = W.heap.size + 3 := by simp
theorem Bf.new (W : World) (l : Nat) : Bf W (((W.alloc (.cells #[.func (.yield l) #[] #[]] 77)).alloc (.cells zeros64b 67)).alloc (.cells #[.int .i64 0] 3)) l [] := by
  have h1 := heap_alloc_new W (.cells #[.func (.yield l) #[] #[]] 77)
  generalize hw1 : W.alloc (.cells #[.func (.yield l) #[] #[]] 77) = w1 at h1 ⊢
  have s1 : w1.heap.size = W.heap.size + 1 := by rw [← hw1]; simp
  have h2 := heap_alloc_new w1 (.cells zeros64b 67)
  generalize hw2 : w1.alloc (.cells zeros64b 67) = w2 at h2 ⊢
  have s2 : w2.heap.size = W.heap.size + 1 + 1 := by rw [← hw2]; simp [s1]
  have k1 : w2.heap[W.heap.size]? = some (.cells #[.func (.yield l) #[] #[]] 77 (0, 0)) := by rw [← hw2, Below.heap_alloc _ _ _ (by omega)]; exact h1
  have h3 := heap_alloc_new w2 (.cells #[.int .i64 0] 3)
  rw [s1] at h2
  rw [s2] at h3
  refine ⟨by simp; omega, ?_, ⟨List.replicate 64 0, by simp, by simp, ?_, by simp⟩, ?_⟩
  · rw [Below.heap_alloc _ _ _ (by omega)]; exact k1
  · rw [Below.heap_alloc _ _ _ (by omega), ← zeros64b_eq]; exact h2
  · exact h3

set_option maxHeartbeats 4000000 in
set_option maxRecDepth 100000 in
theorem blocks1_any (l bx px : Nat) (w0 W : World) (v : Value) (ps : List (List Nat)) (hP : Pieces w0 v ps) (hx : ps.flatten.length ≤ 100000) (hpb : ∀ p ∈ ps, ∀ y ∈ p, y < 256) (hpl : ps.length ≤ 1000000)
    (M : Nat → Prop) (hM : ∀ k, M k ∨ k = l → w0.heap.size ≤ k ∧ k ≠ bx ∧ k ≠ px ∧ k < W.heap.size) (hbx : bx < W.heap.size) (hpx : px < W.heap.size) (J : List (List Nat) → World → Prop)
    (hJ : ∀ s A B, J s A → Stay (fun k => k < W.heap.size) A B → J s B) (hJz : ∀ s A, J s A → W.heap.size ≤ A.heap.size)
    (hst : Stay (fun k => k < w0.heap.size) w0 W) (hc : W.cell? ⟨bx, 0, none⟩ = some v) (hq : W.cell? ⟨px, 0, none⟩ = some (.func (.func 34) #[] #[.pointer (some ⟨bx, 0, none⟩)]))
    (hY : ∀ pre x W1, J pre W1 → x.length = 64 → (∀ y ∈ x, y < 256) → Yields Tryd.prog l #[.agg (vals .u8 x).toArray] W1 fun e W' => e = .returned (.bool true) ∧ J (pre ++ [x]) W' ∧ Stay (fun k => ¬ M k ∧ k ≠ l) W1 W')
    (h0 : J [] W) :
    Calls Tryd.prog 33 #[.func (.yield l) #[] #[], .pointer (some ⟨px, 0, none⟩)] W fun e W' => (∃ v, e = .returned v) ∧ J (chunks (ps ++ [padOf ps.flatten.length]).flatten) W' := by
  have hq2 : ∀ o1 o2 o3 : Obj, (((W.alloc o1).alloc o2).alloc o3).cell? ⟨px, 0, none⟩ = some (.func (.func 34) #[] #[.pointer (some ⟨bx, 0, none⟩)]) := fun o1 o2 o3 =>
    ((((Stay.refl (fun _ => True) W).alloc o1).alloc o2).alloc o3).cell (p := ⟨px, 0, none⟩) hpx trivial |>.trans hq
  have hB : _ ∧ _ ∧ _ := ⟨Bf.new W l, (((Stay.refl (fun _ => True) W).alloc (.cells #[.func (.yield l) #[] #[]] 77)).alloc (.cells zeros64b 67)).alloc (.cells #[.int .i64 0] 3), grow3 W (.cells #[.func (.yield l) #[] #[]] 77) (.cells zeros64b 67) (.cells #[.int .i64 0] 3)⟩
  unfold zeros64b at hB
  have HB := Lib.hid hB
  clear hq hB
  refine (callsIn_wide (n := 9)).1 ?_
  refine callsIn_of_wp_marks Tryd.func33 rfl trivial ?_ rfl
  simp only [Tryd.ntmps33, List.size_toArray, List.length_cons, List.length_nil, Nat.reduceAdd, Nat.reduceSub, Array.replicate_succ, Array.replicate_zero, List.push_toArray, List.append_toArray, List.nil_append, List.cons_append]
  gi_wp2
  generalize ((W.alloc _).alloc _).alloc _ = w2 at HB ⊢
  obtain ⟨hb2, hs2, hz2⟩ := HB.out
  clear HB hq2
  have hj2 : J [] w2 := hJ _ _ _ h0 (hs2.mono fun _ _ _ => trivial)
  have hzW := hJz _ _ hj2
  have hc2 : w2.cell? ⟨bx, 0, none⟩ = some v := (hs2.cell (p := ⟨bx, 0, none⟩) hbx trivial).trans hc
  have hM1 : ∀ k, M k → k < W.heap.size := fun k h => (hM k (.inl h)).2.2.2
  have hl1 : l < W.heap.size := (hM l (.inr rfl)).2.2.2
  have hl0 := (hM l (.inr rfl)).1
  have hw0 : w0.heap.size ≤ W.heap.size := by omega
  have hMlt : ∀ k, (M k ∨ k = l ∨ (W.heap.size ≤ k ∧ k < w2.heap.size)) → k < w2.heap.size := by
    rintro k (h | h | h)
    · have := hM1 k h
      omega
    · omega
    · exact h.2
  refine wpIn_range (m := 8) (gf := 34) (lb := #[.pointer (some ⟨bx, 0, none⟩)]) rfl (enters_of Tryd.func34 (by kernel_rfl) rfl) (encs := fun x : Value × List Nat => #[x.1]) (fun _ => rfl)
    (fun k => M k ∨ k = l ∨ (W.heap.size ≤ k ∧ k < w2.heap.size)) hMlt
    (fun _ x w => PieceOk w0.heap.size (w2.heap.size + 2) x w) (fun xs => xs.map (·.2) = ps ++ [padOf ps.flatten.length])
    ?hseq
    (fun xs wr => J (chunks (flat2 xs)) wr ∧ Bf W wr l (flat2 xs))
    (fun s A B h k => ⟨hJ _ _ _ h.1 (k.mono fun i _ hi => by omega), h.2.stay k (by omega) (by omega) (by omega)⟩)
    ⟨show J (chunks []) w2 from hj2, show Bf W w2 l [] from hb2⟩ ?hround ?hdone
  case hseq =>
    intro J2 W2 st2 sz2 hJ2 hJ2z hY2 h02
    refine padded1_any (w2.heap.size + 1) bx w0 W2 v ps hP hx hpb hpl (fun k => M k ∨ k = l ∨ (W.heap.size ≤ k ∧ k < w2.heap.size)) ?_ J2 hJ2 hJ2z (hst.trans ((hs2.mono fun _ _ _ => trivial).trans (st2.mono fun _ _ _ => trivial))) ((st2.cell (p := ⟨bx, 0, none⟩) (by show bx < _; omega) trivial).trans hc2) ?_ h02
    · rintro k ((h | h | h) | h)
      · have := hM k (.inl h); exact ⟨this.1, this.2.1⟩
      · have := hM k (.inr h); exact ⟨this.1, this.2.1⟩
      · exact ⟨by omega, by omega⟩
      · exact ⟨by omega, by omega⟩
    · intro pre x W1 hj hok
      exact hY2 pre x W1 hj (sz2 ▸ hok)
  case hdone =>
    rintro xs wr hxs ⟨hj, hb⟩ hz hD
    rw [flat2, hxs] at hj
    gi_wp2
    refine ⟨by simp, .inl ⟨_, _, rfl, run_takeDeferred hD, ?_⟩⟩
    exact ⟨_, results_none rfl _ _ _, ⟨_, rfl⟩, hJ _ _ _ hj ((Stay.refl _ wr).put _ _ (by omega))⟩
  case hround =>
    rintro pre ⟨xv, p⟩ W3 ⟨hj, hb⟩ hz ⟨hr, hpby, hplen, hwh⟩
    have HJ := Lib.hid hj
    have HBF := Lib.hid hb
    have HR := Lib.hid hr
    have HPB := Lib.hid hpby
    have HWH := Lib.hid hwh
    have HZ2 := Lib.hid hz2
    clear hj hb hr hpby hwh hz2 hj2 hc2 hb2 hc h0 hs2 hMlt hst
    gi_wp2
    refine ⟨Stay.refl _ _, fun W4 hs4 hz4 => ?_⟩
    have HJ4 : Hid (J (chunks (flat2 pre)) W4) := Lib.hid (hJ _ _ _ HJ.out (hs4.mono fun k _ hk => by have := HZ2.out; omega))
    have HB4 : Hid (Bf W W4 l (flat2 pre)) := Lib.hid (HBF.out.stay hs4 (by have := HZ2.out; omega) (by have := HZ2.out; omega) (by have := HZ2.out; omega))
    have HL4 : Hid (Lies w0.heap.size (w2.heap.size + 2) xv p) := HWH
    have HR4 : Hid (Reads W4 .u8 xv p) := Lib.hid (HR.out.stayAt hs4 (HL4.out.at fun b hb => by have := HZ2.out; omega))
    have hz5 : w2.heap.size + 2 ≤ W4.heap.size := by omega
    have HF : Hid (flat2 (pre ++ [(xv, p)]) = flat2 pre ++ p) := Lib.hid (flat2_snoc _ _ _)
    generalize flat2 pre = T0 at HJ4 HB4 HF
    clear HJ HBF HR HWH hs4 hz4 hz
    have HM : Hid (∀ k, M k ∨ k = l → w0.heap.size ≤ k ∧ k ≠ bx ∧ k ≠ px ∧ k < W.heap.size) := Lib.hid hM
    have HY := Lib.hid hY
    have HJS := Lib.hid hJ
    clear hM hY hJ hJz hM1
    gi_wp2
    gi_loopw [5] (fun pv wr => ∃ j, j ≤ p.length ∧ Reads wr .u8 pv (p.drop j) ∧ Lies w0.heap.size (w2.heap.size + 2) pv (p.drop j) ∧ J (chunks (T0 ++ p.take j)) wr ∧ Bf W wr l (T0 ++ p.take j) ∧ Stay (fun k => ¬ (M k ∨ k = l ∨ (W.heap.size ≤ k ∧ k < w2.heap.size))) W4 wr)
      (fun pv _ => lenV pv)
    case atStart => exact ⟨0, Nat.zero_le _, by simpa using HR4.out, by simpa using HL4.out, by simpa using HJ4.out, by simpa using HB4.out, Stay.refl _ _⟩
    case round =>
      obtain ⟨j, hj, hr, hli, hjj, hbf, hst5⟩ := hrel
      have HR5 := Lib.hid hr
      have HLI := Lib.hid hli
      have HJJ := Lib.hid hjj
      have HBF := Lib.hid hbf
      have HST := Lib.hid hst5
      obtain ⟨ao, cap, rfl, hcap, hcm, _⟩ := hr.val
      have hdl : (p.drop j).length = p.length - j := List.length_drop
      by_cases hlt : j < p.length
      · obtain ⟨b, off, rfl, hb, hcells⟩ := hr.at (i := 0) (by omega)
        obtain ⟨cs, hcl, hcb, hbuf, hpre⟩ := HBF.out.buf
        have hav := HBF.out.hav
        have hcav : wr.cell? ⟨W.heap.size + 1 + 1, 0, none⟩ = some (.int .i64 (((T0 ++ p.take j).length % 64 : Nat) : Int)) := cell_of_heap hav
        have hfav : wr.frozen? ⟨W.heap.size + 1 + 1, 0, none⟩ = false := by simp [World.frozen?, hav]
        obtain ⟨h, hh⟩ : ∃ h, (T0 ++ p.take j).length % 64 = h := ⟨_, rfl⟩
        have hh64 : h < 64 := by omega
        rw [hh] at hcav
        rw [hdl]
        obtain ⟨r, hr1⟩ : ∃ r, p.length - j = r := ⟨_, rfl⟩
        rw [hr1]
        have hr0 : 0 < r := by omega
        have hh64i : (h : Int) < 64 := by omega
        have hh0i : (0 : Int) ≤ (h : Int) := by omega
        have HH := Lib.hid hh
        have HR1 := Lib.hid hr1
        have HPRE := Lib.hid hpre
        have HBUF := Lib.hid hbuf
        have HCB := Lib.hid hcb
        have HCL := Lib.hid hcl
        have HCELLS := Lib.hid hcells
        clear hr hli hjj hbf hst5 hh hr1 hpre hbuf hcb hcl hcells hav hdl
        have hslb := fun w => slice_buf (W.heap.size + 1) h hh64 w
        obtain ⟨m, hm⟩ : ∃ m, Nat.min r (64 - h) = m := ⟨_, rfl⟩
        have hm1 : m ≤ r := by rw [← hm]; exact Nat.min_le_left _ _
        have hm2 : m ≤ 64 - h := by rw [← hm]; exact Nat.min_le_right _ _
        have hm3 : m = r ∨ m = 64 - h := by rw [← hm]; exact (Nat.le_total r (64 - h)).imp (fun h => Nat.min_eq_left h) (fun h => Nat.min_eq_right h)
        obtain ⟨V5, hV5⟩ : ∃ V5, V5 = Value.slice (if cap = m then some ⟨b, off, none⟩ else (some (⟨b, off, none⟩ : Addr)).map fun x => x.add m) (r - m) (cap - m) := ⟨_, rfl⟩
        have hslp : ∀ w, (Instr.slice 22 (.slice (some ⟨b, off, none⟩) r cap) (some (.int .i64 (m : Int))) none none).run Tryd.prog w = .ok V5 w := fun w => by rw [hV5]; exact slice_tail w _ _ _ _ hm1
        obtain ⟨X, hX⟩ : ∃ X, X = vals .u8 ((p.drop j).take m) := ⟨_, rfl⟩
        have hXl : X.length = m := by rw [hX, vals_length, List.length_take, List.length_drop, HR1.out]; omega
        have hX1 : ∀ u ∈ X, u.oneCell' = true := by rw [hX]; exact vals_oneCell _ _
        have hXs : ∀ i u, X[i]? = some u → wr.cell? ((⟨b, off, none⟩ : Addr).add i) = some u := by
          intro i u hu
          have hi : i < X.length := (List.getElem?_eq_some_iff.1 hu).1
          have hi2 : i < (p.drop j).length := by rw [List.length_drop, HR1.out]; omega
          rw [Addr.add_lit, HCELLS.out i hi2]
          rw [hX, vals_get _ _ _ (by rw [List.length_take]; omega), List.getD_eq_getElem?_getD, List.getElem?_take, if_pos (by omega), ← List.getD_eq_getElem?_getD] at hu
          exact hu
        have HM3 := Lib.hid hm3
        have HMM := Lib.hid hm
        have HV5 := Lib.hid hV5
        have HXE := Lib.hid hX
        have HXL := Lib.hid hXl
        have HX1 := Lib.hid hX1
        have HXS := Lib.hid hXs
        have hsz1 : (Tryd.prog.info? 5).map (·.size) = some 1 := by kernel_rfl
        clear hm hm3 hV5 hX hXl hX1 hXs
        gi_wp2_with ((with_reducible show wpListIn _ _ _ _ _ (Oper.mk (some 15) _ _ _ _ _ :: _) _ _); go_must (refine wpListIn_copy_own rfl (.tmp 13) (.tmp 14) 22 22 rfl 5 Tryd.underlying22 hsz1 (W.heap.size + 1) h (64 - h) (64 - h) ⟨b, off, none⟩ r cap rfl rfl (vals .u8 cs).toArray 67 HBUF.out X (HXL.out.trans HMM.out.symm) HXS.out (by rw [List.size_toArray, vals_length, HXL.out, HCL.out]; omega) HX1.out ?_); have HS6 := Lib.hid (((Stay.refl (fun k => k ≠ W.heap.size + 1) wr).setRow (W.heap.size + 1) (((vals .u8 cs).toArray.toList.take h ++ X ++ (vals .u8 cs).toArray.toList.drop (h + X.length)).toArray)) (fun hk => hk rfl)); have HB6 := Lib.hid (setRow_heap wr (W.heap.size + 1) _ (((vals .u8 cs).toArray.toList.take h ++ X ++ (vals .u8 cs).toArray.toList.drop (h + X.length)).toArray) _ _ HBUF.out); have hc6 := (HS6.out.cell (p := ⟨W.heap.size + 1 + 1, 0, none⟩) (by have := HBF.out.size; show W.heap.size + 1 + 1 < _; omega) (by show W.heap.size + 1 + 1 ≠ W.heap.size + 1; omega)).trans hcav; have hf6 : (wr.setRow (W.heap.size + 1) (((vals .u8 cs).toArray.toList.take h ++ X ++ (vals .u8 cs).toArray.toList.drop (h + X.length)).toArray)).frozen? ⟨W.heap.size + 1 + 1, 0, none⟩ = false := (World.frozen?_of_block (HS6.out.block _ (by have := HBF.out.size; show W.heap.size + 1 + 1 < _; omega) (by show W.heap.size + 1 + 1 ≠ W.heap.size + 1; omega))).trans hfav; generalize wr.setRow _ _ = w6 at HS6 HB6 hc6 hf6 ⊢; rw [show goInt X.length = Value.int .i64 (m : Int) from by rw [HXL.out]; rfl])
        have hs0 : (0 : Int) ≤ (h : Int) + (m : Int) := by omega
        have hs64 : (h : Int) + (m : Int) ≤ 64 := by omega
        have hmx : Tryd.prog.follows .mixedOrders = true := by kernel_rfl
        refine Go.wpIn_mono (Q := fun e a' w' => e = .normal ∧ a' = (⟨#[.func (.yield l) #[] #[], .pointer (some ⟨px, 0, none⟩), .pointer (some ⟨W.heap.size, 0, none⟩), .pointer (some ⟨W.heap.size + 1, 0, none⟩), .pointer (some ⟨W.heap.size + 1 + 1, 0, none⟩), V5, .int .i64 (m : Int), .func (.func 34) #[] #[.pointer (some ⟨bx, 0, none⟩)], xv, .slice (some ⟨b, off, none⟩) r cap, .int .i64 (r : Int), .bool true, .int .i64 (h : Int), .slice (some ⟨W.heap.size + 1, h, none⟩) (64 - h) (64 - h), .slice (some ⟨b, off, none⟩) r cap, .int .i64 (m : Int), .int .i64 (h : Int), .int .i64 (m : Int), .int .i64 ((h : Int) + (m : Int)), .slice (some ⟨b, off, none⟩) r cap, .int .i64 (m : Int), V5, u22, u23, u24, u25, u26, u27], []⟩ : Act) ∧ w' = (w6.setCell ⟨W.heap.size + 1 + 1, 0, none⟩ (.int .i64 ((h : Int) + (m : Int)))).drew) ?reg ?next
        case reg =>
          have hws : IntKind.i64.wrap ((h : Int) + (m : Int)) = (h : Int) + (m : Int) := IntWalk.i64_in _ (by omega)
          refine wpIn_region_any hmx (wpAnyIn_of (deferless_spec (by kernel_rfl)) (by rintro ⟨_, _, h, _⟩; cases h) _ _ _ _ ?_)
          change wpAny _ _ _ _ _ _ _ (World.drew _)
          refine wpAny_take (i := 1) (v := ?_) rfl (by kernel_rfl) (by kernel_rfl) (by kernel_rfl) (fun _ _ _ h => by cases h.1) (Or.inl ⟨by rfl, ?_⟩) ?_
          rotate_left
          · intro w
            go_simp
            try with_reducible rfl
          refine wpAny_take (i := 3) (v := ?_) rfl (by kernel_rfl) (by kernel_rfl) (by kernel_rfl) (fun _ _ _ h => by cases h.1) (Or.inl ⟨by rfl, ?_⟩) ?_
          rotate_left
          · intro w
            go_simp
            try with_reducible rfl
          refine wpAny_take (i := 4) (v := ?_) rfl (by kernel_rfl) (by kernel_rfl) (by kernel_rfl) (fun _ _ _ h => by cases h.1) (Or.inl ⟨by rfl, ?_⟩) ?_
          rotate_left
          · intro w
            go_simp
            try with_reducible rfl
          refine wpAny_take (i := 5) (v := ?_) rfl (by kernel_rfl) (by kernel_rfl) (by kernel_rfl) (fun _ _ _ h => by cases h.1) (Or.inl ⟨by rfl, ?_⟩) ?_
          rotate_left
          · intro w
            go_simp
            try with_reducible rfl
          refine wpAny_ready (rs := [0]) (by kernel_rfl) (by simp) (AllReady.cons rfl (fun K hK => ?_) AllReady.nil)
          go_simp
          refine hK _ _ ?_
          clear hK K
          refine wpAny_take (i := 2) (v := ?_) rfl (by kernel_rfl) (by kernel_rfl) (by kernel_rfl) (fun _ _ _ h => by cases h.1) (Or.inl ⟨by rfl, ?_⟩) ?_
          rotate_left
          · intro w
            go_simp
            try with_reducible rfl
          refine wpAny_ready (rs := [6]) (by kernel_rfl) (by simp) (AllReady.cons rfl (fun K hK => ?_) AllReady.nil)
          go_simp
          refine hK _ _ ?_
          clear hK K
          refine wpAny_take (i := 7) (v := ?_) rfl (by kernel_rfl) (by kernel_rfl) (by kernel_rfl) (fun _ _ _ h => by cases h.1) (Or.inl ⟨by rfl, ?_⟩) ?_
          rotate_left
          · intro w
            go_simp
            try with_reducible rfl
          refine wpAny_done (by kernel_rfl) ?_ _
          exact ⟨rfl, rfl, rfl⟩
        rintro e a7 w7 ⟨rfl, rfl, rfl⟩
        have HS7 := Lib.hid (((HS6.out.mono (T := fun k => k ≠ W.heap.size + 1 ∧ k ≠ W.heap.size + 1 + 1) (fun k _ hk => hk.1)).setCell ⟨W.heap.size + 1 + 1, 0, none⟩ (.int .i64 ((h : Int) + (m : Int))) (fun hk => hk.2 rfl)).drew)
        have HB7 : Hid ((w6.setCell ⟨W.heap.size + 1 + 1, 0, none⟩ (.int .i64 ((h : Int) + (m : Int)))).drew.heap[W.heap.size + 1]? = _) := Lib.hid ((Below.heap_setCell w6 _ _ _ (by show W.heap.size + 1 ≠ W.heap.size + 1 + 1; omega)).trans HB6.out)
        have HH7 : Hid ((w6.setCell ⟨W.heap.size + 1 + 1, 0, none⟩ (.int .i64 ((h : Int) + (m : Int)))).drew.heap[W.heap.size + 1 + 1]? = some (.cells #[.int .i64 ((h : Int) + (m : Int))] 3 (0, 0))) := Lib.hid (heap_setCell_row w6 _ _ _ _ _ (HS6.out.at HBF.out.hav (by omega)))
        have hc7 : (w6.setCell ⟨W.heap.size + 1 + 1, 0, none⟩ (.int .i64 ((h : Int) + (m : Int)))).drew.cell? ⟨W.heap.size + 1 + 1, 0, none⟩ = some (.int .i64 ((h : Int) + (m : Int))) := cell_of_heap HH7.out
        generalize (w6.setCell ⟨W.heap.size + 1 + 1, 0, none⟩ (.int .i64 ((h : Int) + (m : Int)))).drew = w7 at HS7 HB7 HH7 hc7 ⊢
        clear hc6 hf6 hcav hfav hslp hslb
        have hm0 : 0 < m := by have := HM3.out; omega
        obtain ⟨q, hqe⟩ : ∃ q, q = (p.drop j).take m := ⟨_, rfl⟩
        have hql : q.length = m := by rw [hqe, List.length_take, List.length_drop, HR1.out]; omega
        have htk : p.take (j + m) = p.take j ++ q := by rw [hqe, List.take_add]
        have hdr : (p.drop j).drop m = p.drop (j + m) := by rw [List.drop_drop]
        have hqb : ∀ y ∈ q, y < 256 := fun y hy => HPB.out y (List.mem_of_mem_drop (List.mem_of_mem_take (hqe ▸ hy)))
        obtain ⟨cs2, hcs2⟩ : ∃ cs2, cs2 = cs.take h ++ q ++ cs.drop (h + m) := ⟨_, rfl⟩
        have hfb := fill_buf HCL.out HH.out (HH.out ▸ HPRE.out) hql (by omega)
        rw [← hcs2] at hfb
        have hcb2 : ∀ y ∈ cs2, y < 256 := by
          intro y hy
          rw [hcs2] at hy
          rcases List.mem_append.1 hy with hy | hy
          · rcases List.mem_append.1 hy with hy | hy
            · exact HCB.out y (List.mem_of_mem_take hy)
            · exact hqb y hy
          · exact HCB.out y (List.mem_of_mem_drop hy)
        have HB8 : Hid (w7.heap[W.heap.size + 1]? = some (.cells (vals .u8 cs2).toArray 67 (0, 0))) := Lib.hid (by rw [hcs2, ← splice_vals cs q h m X (by rw [HXE.out, hqe]) HXL.out]; exact HB7.out)
        have HT2 : Hid (T0 ++ p.take (j + m) = (T0 ++ p.take j) ++ q) := Lib.hid (by rw [htk, List.append_assoc])
        have hr9 : (p.drop j).length - m = r - m := by rw [List.length_drop, HR1.out]
        have HS67 : Hid (Stay (fun k => k ≠ W.heap.size + 1 ∧ k ≠ W.heap.size + 1 + 1) wr w7) := HS7
        have HR7 : Hid (Reads w7 .u8 V5 (p.drop (j + m))) := Lib.hid (by
          have h1 := (HR5.out.stayAt HS67.out (HLI.out.at fun b hb => by have := HZ2.out; omega)).tail (m := m) (by rw [List.length_drop, HR1.out]; exact hm1)
          rw [← hdr]
          rw [hr9, ← HV5.out] at h1
          exact h1)
        have HL7 : Hid (Lies w0.heap.size (w2.heap.size + 2) V5 (p.drop (j + m))) := Lib.hid (fun hne => by
          have hlt9 : m < r := by
            have : (p.drop (j + m)).length ≠ 0 := fun h => hne (List.length_eq_zero_iff.1 h)
            rw [List.length_drop] at this
            have := HR1.out
            omega
          obtain ⟨b', off', n', cap', hv', hb'⟩ := HLI.out (fun h => by have h2 := congrArg List.length h; rw [List.length_drop, HR1.out] at h2; simp at h2; omega)
          simp only [Value.slice.injEq, Option.some.injEq, Addr.mk.injEq] at hv'
          obtain ⟨⟨rfl, _, _⟩, _, _⟩ := hv'
          refine ⟨b, off + m, r - m, cap - m, ?_, hb'⟩
          rw [HV5.out, if_neg (by omega), Option.map_some, Addr.add_lit])
        have HJ7 : Hid (J (chunks (T0 ++ p.take j)) w7) := Lib.hid (HJS.out _ _ _ HJJ.out (HS67.out.mono fun k _ hk => by omega))
        have HT7 : Hid (Stay (fun k => ¬ (M k ∨ k = l ∨ (W.heap.size ≤ k ∧ k < w2.heap.size))) W4 w7) := Lib.hid (HST.out.trans (HS67.out.mono fun k _ hk => ⟨fun h => hk (.inr (.inr (by have := HZ2.out; omega))), fun h => hk (.inr (.inr (by have := HZ2.out; omega)))⟩))
        have hmeas : lenV V5 < r := by rw [HV5.out]; show r - m < r; omega
        have HY7 : Hid (w7.heap[W.heap.size]? = some (.cells #[.func (.yield l) #[] #[]] 77 (0, 0))) := Lib.hid (HS67.out.at HBF.out.yld (by omega))
        have hz7 : W.heap.size + 3 ≤ w7.heap.size := Nat.le_trans HBF.out.size HS67.out.size
        have hj2 : j + m ≤ p.length := by have := HR1.out; omega
        have HFB := Lib.hid hfb
        have HCB2 := Lib.hid hcb2
        have HQL := Lib.hid hql
        clear hqe hql htk hdr hqb hcs2 hfb hcb2 HXE HXL HX1 HXS HCELLS HBUF HR5 HLI HJJ HBF HST HPRE HCB HCL HS6 HB6 HS7 HB7
        by_cases hful : h + m < 64
        · have hfuli : (h : Int) + (m : Int) < 64 := by omega
          gi_wp2
          go_roundw
          case rel =>
            have hTl : (T0 ++ p.take j ++ q).length = (T0 ++ p.take j).length + m := by rw [List.length_append, HQL.out]
            have hd : (T0 ++ p.take j ++ q).length / 64 = (T0 ++ p.take j).length / 64 := by have := HH.out; omega
            have hmd : (T0 ++ p.take j ++ q).length % 64 = h + m := by have := HH.out; omega
            refine ⟨j + m, hj2, HR7.out, HL7.out, ?_, ⟨hz7, HY7.out, ⟨cs2, HFB.out.1, HCB2.out, HB8.out, ?_⟩, ?_⟩, HT7.out⟩
            · rw [HT2.out, chunks_same _ _ hd]; exact HJ7.out
            · rw [HT2.out, hd, hmd]; exact HFB.out.2
            · rw [HT2.out, hmd, Int.natCast_add]; exact HH7.out
          case measure => exact hmeas
        · have hfuli : (h : Int) + (m : Int) = 64 := by omega
          have hyc : w7.cell? ⟨W.heap.size, 0, none⟩ = some (.func (.yield l) #[] #[]) := cell_of_heap HY7.out
          obtain ⟨fn, tmps, assign, body, hy, hR⟩ := HY.out _ cs2 w7 HJ7.out HFB.out.1 HCB2.out 7
          have hAs : (Tryd.prog.info? 67).map (·.size) = some (vals .u8 cs2).toArray.size := by rw [List.size_toArray, vals_length, HFB.out.1]; kernel_rfl
          gi_wp2_with ((with_reducible show wpListIn _ _ _ _ _ (Oper.mk (some 25) _ _ _ _ _ :: _) _ _); go_must (refine wpListIn_load_row rfl 67 (.tmp 3) rfl (W.heap.size + 1) rfl _ (vals .u8 cs2).toArray _ _ HB8.out Tryd.underlying67 rfl hAs ?_))
          refine RoundIn.mono (F := Fence.wide.inRound (w2.heap.size + 1)) hR ?_
          rintro e w8 ⟨rfl, hJ8, hs8⟩
          have hM3 : ∀ k, W.heap.size ≤ k → ¬ M k ∧ k ≠ l := fun k hk => ⟨fun h => by have := (HM.out k (.inl h)).2.2.2; omega, fun h => by have := (HM.out k (.inr h)).2.2.2; omega⟩
          have HH8 : Hid (w8.heap[W.heap.size + 1 + 1]? = some (.cells #[.int .i64 ((h : Int) + (m : Int))] 3 (0, 0))) := Lib.hid (hs8.at HH7.out (hM3 _ (by omega)))
          have hc8 := cell_of_heap HH8.out
          have hf8 : w8.frozen? ⟨W.heap.size + 1 + 1, 0, none⟩ = false := by simp [World.frozen?, HH8.out]
          have HY8 : Hid (w8.heap[W.heap.size]? = _) := Lib.hid (hs8.at HY7.out (hM3 _ (by omega)))
          have HBB8 : Hid (w8.heap[W.heap.size + 1]? = _) := Lib.hid (hs8.at HB8.out (hM3 _ (by omega)))
          have HS8 := Lib.hid hs8
          have HJ8 := Lib.hid hJ8
          clear hs8 hJ8 hR hy hyc hc7
          gi_wp2
          go_roundw
          case rel =>
            have hTl : (T0 ++ p.take j ++ q).length = (T0 ++ p.take j).length + m := by rw [List.length_append, HQL.out]
            have hd : (T0 ++ p.take j ++ q).length = 64 * ((T0 ++ p.take j).length / 64 + 1) := by have := HH.out; omega
            have hmd : (T0 ++ p.take j ++ q).length % 64 = 0 := by omega
            have hd2 : 64 * ((T0 ++ p.take j ++ q).length / 64) = (T0 ++ p.take j ++ q).length := by omega
            have hc64 : cs2.take (h + m) = cs2 := List.take_of_length_le (by have := HFB.out.1; omega)
            have hS9 : Stay (fun k => k ≠ W.heap.size + 1 + 1) w8 (w8.setCell ⟨W.heap.size + 1 + 1, 0, none⟩ (.int .i64 0)) := (Stay.refl _ w8).setCell _ _ (fun h => h rfl)
            have hS8 : Stay (fun k => ¬ M k ∧ k ≠ l ∧ k ≠ W.heap.size + 1 + 1) w7 (w8.setCell ⟨W.heap.size + 1 + 1, 0, none⟩ (.int .i64 0)) := (HS8.out.mono fun k _ hk => ⟨hk.1, hk.2.1⟩).trans (hS9.mono fun k _ hk => hk.2.2)
            refine ⟨j + m, hj2, HR7.out.stayAt hS8 (HL7.out.at fun b hb => ?_), HL7.out, ?_, ⟨Nat.le_trans hz7 hS8.size, hS9.at HY8.out (by omega), ⟨cs2, HFB.out.1, HCB2.out, hS9.at HBB8.out (by omega), ?_⟩, ?_⟩, HT7.out.trans (hS8.mono fun k _ hk => ⟨fun h => hk (.inl h), fun h => hk (.inr (.inl h)), fun h => hk (.inr (.inr (by have := HZ2.out; omega)))⟩)⟩
            · have := HZ2.out
              refine ⟨fun h => ?_, ?_, by omega⟩
              · have := HM.out b (.inl h)
                omega
              · omega
            · rw [HT2.out, chunks_next _ _ hd, ← HFB.out.2, hc64]
              exact HJS.out _ _ _ HJ8.out (hS9.mono fun k _ hk => by omega)
            · rw [HT2.out, hmd, hd2, List.take_zero, List.drop_length]
            · rw [HT2.out, hmd]
              exact heap_setCell_row w8 _ _ _ _ _ HH8.out
          case measure => exact hmeas
      · obtain rfl : j = p.length := by omega
        have h0 : (p.drop p.length).length = 0 := by simp
        rw [h0]
        clear hr hli hjj hbf hst5
        gi_wp2
        rw [List.take_length] at HJJ HBF
        exact ⟨HST.out, by rw [HF.out]; exact HJJ.out, by rw [HF.out]; exact HBF.out⟩

end Go.Proofs.YtjhipfgmiilmdaaDoor
