/- The walk of the statement on joined texts. -/
import Derived.Test.YtlaloddmlkkbgaaCrcC
import Derived.Laws.Cover1
import Derived.Deep.RegionHeldLaw
import Derived.Deep.RegionHeld3
import Derived.Deep.AppendLies
namespace Go.Proofs.Ytlaloddmlkkbgaa
open Go.RowKit

/-- The first m cells of what reads, nil or not. -/
theorem Reads.head {w : World} {k : IntKind} {ao : Option Addr} {n cap : Nat} {l : List Nat} (h : Reads w k (.slice ao n cap) l) {m : Nat} (hm : m ≤ l.length) : Reads w k (.slice ao m cap) (l.take m) := by
  obtain ⟨ao', cap', hv, h1, h2, h3, h4⟩ := h
  simp only [Value.slice.injEq] at hv
  obtain ⟨rfl, rfl, rfl⟩ := hv
  have hlen : (l.take m).length = m := by rw [List.length_take]; omega
  refine ⟨ao, cap, by rw [hlen], by omega, h2, h3, ?_⟩
  rcases h4 with rfl | ⟨b, off, ha, hb, hc⟩
  · exact .inl (by simp)
  · refine .inr ⟨b, off, ha, hb, fun i hi => ?_⟩
    rw [hlen] at hi
    rw [hc i (by omega), List.getD_eq_getElem?_getD, List.getD_eq_getElem?_getD, List.getElem?_take, if_pos hi]

set_option maxRecDepth 100000 in
/-- A slice's head as a slice, nil or not. -/
theorem slice_head (w : World) (a : Option Addr) (n c m : Nat) (h : m ≤ c) : (Instr.slice 22 (.slice a n c) none (some (.int .i64 (m : Int))) none).run Try.prog w = .ok (.slice a m c) w := by
  rw [run_slice_h w 22 a n c (by kernel_rfl) .i64 (m : Int) (by omega) (by omega)]
  have hs : (sizeOf (Try.prog.elem 22)).run Try.prog w = .ok 1 w := by kernel_rfl
  rw [hs]
  simp only [Result.andThen, sliced]
  congr 1
  have : (a.map fun x => x.add (0 * 1)) = a := by cases a <;> simp [Addr.add]
  rw [this]
  simp

theorem below_grown {B p : Nat} {w w' : World} (hg : w.grownBy w' (some p)) (hB : B ≤ p) (hs : B ≤ w.heap.size) : Below B w w' := (Below.refl B w).grown hg hs (fun j hj => by simp at hj; omega)

/-- An append of one number, at a step of a region that draws. -/
theorem step_app {P : Program} {w : World} {ops : Array Oper} {o : Oper} {a : Act} {K : Act → World → Prop} {Q : Exit → Act → World → Prop} {E : Prop} (hgd : o.guard = none) (s x : Operand) (t : TypeId)
    (ho : o.op = .call { callee := .builtin .append, args := #[s, x], argTypes := #[t, t] })
    (base : Nat) (e : TypeId) (z : Value) (bytes : Nat) (ht : P.underlying t = some (.slice e)) (hinfo : (P.info? e).map (fun i => (i.zero, i.size, i.bytes)) = some (some z, 1, bytes)) (hzs : z.cells.size = 1)
    (k : IntKind) (v : Value) (xs : List Nat) (hs : a.eval s = v) (hown : Owns w base e k v xs)
    (ad : Addr) (n : Nat) (hx : a.eval x = .slice (some ad) 1 1) (hr : w.cell? ad = some (.int k (n : Int)))
    (hbytes : (xs.length + 1) * bytes ≤ 140737488355328) (hb0 : 0 < bytes) (hbase : base ≤ w.heap.size)
    (h : ∀ v' w', Owns w' base e k v' (xs ++ [n]) → w.grownBy w' v.ownBlock → K (a.put o.dst v') w') :
    if Region.wanted o (yielded ops a.tmps) = true then Oper.wp P o a w K Q else E := by
  obtain ⟨i, hi, hz, hsz, hby⟩ := info_parts hinfo
  have h63 : xs.length + 1 ≤ 140737488355328 := Nat.le_trans (Nat.le_mul_of_pos_right _ hb0) hbytes
  refine step_append_lies w hgd s x t ho base e i z 1 bytes ht hi hz hsz hby hzs (by decide) v xs.length (vals k xs) hs hown ad 1 1 [.int k (n : Int)] hx rfl ?_ ?_ (by decide) (by simp only [maxLen]; omega) hbytes hbase _ rfl ?_
  · intro j u hu
    match j with
    | 0 =>
      simp only [List.getElem?_cons_zero, Option.some.injEq] at hu
      subst hu
      simpa [Addr.add] using hr
    | j + 1 => simp at hu
  · intro u hu
    simp only [List.mem_singleton] at hu
    subst hu
    exact vals_oneCell k [n] _ (by simp [vals])
  · intro g cap w' ho' hg _ _
    refine h _ w' ?_ hg
    unfold Owns
    rw [List.length_append, vals_append]
    exact ho'

theorem join3_append : ∀ (a b c a' b' c' : List Nat), b.length = a.length → c.length = a.length → join3 (a ++ a') (b ++ b') (c ++ c') = join3 a b c ++ join3 a' b' c'
  | [], [], [], _, _, _, _, _ => rfl
  | x :: a, y :: b, z :: c, a', b', c', h1, h2 => by
    show _ :: join3 (a ++ a') (b ++ b') (c ++ c') = _ :: (join3 a b c ++ join3 a' b' c')
    rw [join3_append a b c a' b' c' (by simpa using h1) (by simpa using h2)]

theorem join3_length : ∀ (a b c : List Nat), b.length = a.length → c.length = a.length → (join3 a b c).length = a.length
  | [], [], [], _, _ => rfl
  | x :: a, y :: b, z :: c, h1, h2 => by
    show (join3 a b c).length + 1 = a.length + 1
    rw [join3_length a b c (by simpa using h1) (by simpa using h2)]

theorem join3_byte : ∀ (a b c : List Nat), (∀ y ∈ a, y < 256) → (∀ y ∈ b, y < 256) → (∀ y ∈ c, y < 256) → ∀ y ∈ join3 a b c, y < 256
  | x :: a, y :: b, z :: c, h1, h2, h3, u, hu => by
    rcases List.mem_cons.1 hu with h | h
    · subst h
      exact Nat.xor_lt_two_pow (n := 8) (Nat.xor_lt_two_pow (n := 8) (h1 x (by simp)) (h2 y (by simp))) (h3 z (by simp))
    · exact join3_byte a b c (fun v hv => h1 v (by simp [hv])) (fun v hv => h2 v (by simp [hv])) (fun v hv => h3 v (by simp [hv])) u h
  | [], _, _, _, _, _, u, hu => by simp [join3] at hu
  | _ :: _, [], _, _, _, _, u, hu => by simp [join3] at hu
  | _ :: _, _ :: _, [], _, _, _, u, hu => by simp [join3] at hu

theorem take_one (l : List Nat) (k : Nat) (h : k < l.length) : l.take (k + 1) = l.take k ++ [l.getD k 0] := by
  rw [List.take_succ_eq_append_getElem h, List.getD_eq_getElem?_getD, List.getElem?_eq_getElem h]
  rfl

theorem join3_snoc (a b c : List Nat) (k : Nat) (h1 : k < a.length) (h2 : k < b.length) (h3 : k < c.length) :
    join3 (a.take (k + 1)) (b.take (k + 1)) (c.take (k + 1)) = join3 (a.take k) (b.take k) (c.take k) ++ [a.getD k 0 ^^^ b.getD k 0 ^^^ c.getD k 0] := by
  rw [take_one a k h1, take_one b k h2, take_one c k h3, join3_append _ _ _ _ _ _ (by simp; omega) (by simp; omega)]
  rfl

set_option maxHeartbeats 400000 in
set_option maxRecDepth 100000 in
theorem linear_walk (v1 v2 v3 : Value) (a b c : List Nat) (w : World) (ha : Reads w .u8 v1 a) (hb : Reads w .u8 v2 b) (hc : Reads w .u8 v3 c) (ba : ∀ y ∈ a, y < 256) (bb : ∀ y ∈ b, y < 256) (bc : ∀ y ∈ c, y < 256) :
    Calls Try.prog 12 #[v1, v2, v3] w fun e w' => e = .returned (.bool true) ∧ Below w.heap.size w w' := by
  obtain ⟨ao1, cap1, rfl, l1, m1, _⟩ := ha.val
  obtain ⟨ao2, cap2, rfl, l2, m2, _⟩ := hb.val
  obtain ⟨ao3, cap3, rfl, l3, m3, _⟩ := hc.val
  go_enter Try.func12, Try.ntmps12
  go_wp2_with fail
  refine (alive2_any w).mono ?_
  rintro e w0 ⟨rfl, hb0⟩
  obtain ⟨N, hN, na, nb, nc⟩ : ∃ N : Nat, (if (c.length : Int) < (if (b.length : Int) < a.length then (b.length : Int) else a.length) then (c.length : Int) else (if (b.length : Int) < a.length then (b.length : Int) else a.length)) = (N : Int) ∧ N ≤ a.length ∧ N ≤ b.length ∧ N ≤ c.length := by
    refine ⟨min c.length (min b.length a.length), ?_, by omega, by omega, by omega⟩
    (repeat' split) <;> omega
  have hmin : ∀ (w : World) (ts : Array TypeId) (t : TypeId), (Builtin.min_ ts t #[.int .i64 (a.length : Int), .int .i64 (b.length : Int), .int .i64 (c.length : Int)]).run Try.prog w = .ok (.int .i64 (N : Int)) w := fun w ts t => by rw [run_min_int3, hN]
  have HNN := Lib.hid hN; clear hN
  by_cases hbig : 500 < (N : Int)
  · go_wp2
    go_ret
    exact ⟨rfl, hb0⟩
  · go_wp2
    have ha0 := ha.below hb0 (Nat.le_refl _)
    have hb0' := hb.below hb0 (Nat.le_refl _)
    have hc0 := hc.below hb0 (Nat.le_refl _)
    clear ha hb hc
    go_loopw [8, 9] (fun v i wr => ∃ k : Nat, k ≤ N ∧ i = .int .i64 (k : Int) ∧ Owns wr w0.heap.size 5 .u8 v (join3 (a.take k) (b.take k) (c.take k)) ∧ Below w0.heap.size w0 wr)
      (fun _ i _ => N - (intOf i).toNat)
    case atStart => exact ⟨0, Nat.zero_le _, rfl, owns_empty _ _ _ _ (Nat.le_refl _), (Below.refl _ _).alloc (Nat.le_refl _) _⟩
    case round =>
      obtain ⟨k, hk, rfl, ho, hd⟩ := hrel
      by_cases hlt : (k : Int) < N
      · obtain ⟨p1, o1, rfl, q1, c1⟩ := ha0.at (show k < a.length by omega)
        obtain ⟨p2, o2, rfl, q2, c2⟩ := hb0'.at (show k < b.length by omega)
        obtain ⟨p3, o3, rfl, q3, c3⟩ := hc0.at (show k < c.length by omega)
        have F1 := Lib.hid (c1 k (by omega))
        have F2 := Lib.hid (c2 k (by omega))
        have F3 := Lib.hid (c3 k (by omega))
        have d1 := (hd.cell (p := ⟨p1, o1 + k, none⟩) q1).trans F1.out
        have d2 := (hd.cell (p := ⟨p2, o2 + k, none⟩) q2).trans F2.out
        have d3 := (hd.cell (p := ⟨p3, o3 + k, none⟩) q3).trans F3.out
        have x1 := byte_get ba k
        have x2 := byte_get bb k
        have x3 := byte_get bc k
        have i1 : (k : Int) < a.length := by omega
        have i2 : (k : Int) < b.length := by omega
        have i3 : (k : Int) < c.length := by omega
        have HJ := Lib.hid (join3_snoc a b c k (by omega) (by omega) (by omega))
        clear c1 c2 c3
        generalize a.getD k 0 = A at d1 x1 HJ F1
        generalize b.getD k 0 = B at d2 x2 HJ F2
        generalize c.getD k 0 = C at d3 x3 HJ F3
        have y1 := u8_xor_nat A B x1 x2
        have y2 := u8_xor_nat (A ^^^ B) C (Nat.xor_lt_two_pow (n := 8) x1 x2) x3
        have ll : (join3 (a.take k) (b.take k) (c.take k)).length ≤ 500 := by rw [join3_length _ _ _ (by simp; omega) (by simp; omega)]; simp; omega
        go_wp2_with fail
        go_region_held_law (fun w' => w'.cell? ⟨p1, o1 + k, none⟩ = some (.int .u8 (A : Int)) ∧ w'.cell? ⟨p2, o2 + k, none⟩ = some (.int .u8 (B : Int)) ∧ w'.cell? ⟨p3, o3 + k, none⟩ = some (.int .u8 (C : Int))) (first | go_keep | exact ⟨s1, s2, s3⟩)
          ((refine step_app (by rfl) _ _ _ (by rfl) w0.heap.size 5 (.int .u8 0) 1 Try.underlying22 Try.info5 rfl .u8 _ _ (by rfl) (by first | exact ho.alloc _ | exact (ho.alloc _).drew | exact ho) _ (A ^^^ B ^^^ C) (by rfl) (by simp) (by omega) (by decide) (by have := hd.size; simp; omega) ?_; intro v' w1 ho1 hg
            have hd1 : Below w0.heap.size w0 w1 := by
              have hs := hd.size
              first
                | exact (hd.alloc (by omega) _).drew.grown hg (by simp; omega) (fun j hj => (ho.lt j hj).1)
                | exact (hd.drew.alloc (by simpa using hs) _).grown hg (by simp; omega) (fun j hj => (ho.lt j hj).1)
            have s1 := (hd1.cell (p := ⟨p1, o1 + k, none⟩) q1).trans F1.out
            have s2 := (hd1.cell (p := ⟨p2, o2 + k, none⟩) q2).trans F2.out
            have s3 := (hd1.cell (p := ⟨p3, o3 + k, none⟩) q3).trans F3.out))
        go_wp2
        go_roundw
        case rel =>
          refine ⟨k + 1, by omega, by go_num, ?_, ?_⟩
          · rw [HJ.out]; exact ho1
          · exact hd1
        case measure => simp [intOf]; omega
      · obtain rfl : k = N := by omega
        have HO := Lib.hid ho
        have HA0 := Lib.hid ha0
        have HB0 := Lib.hid hb0'
        have HC0 := Lib.hid hc0
        clear ho ha0 hb0' hc0
        go_wp2_with fail
        refine (new_any _).mono ?_
        rintro e w2 ⟨p, rfl, hp, hm, hb2⟩
        have HP := Lib.hid hp
        have HB2 := Lib.hid hb2
        have HM0 := Lib.hid hm
        clear hp hb2 hm
        have hja := join3_length (a.take k) (b.take k) (c.take k) (by simp; omega) (by simp; omega)
        go_wp2_with fail
        have hsl1 := fun w => slice_head w ao1 a.length cap1 k (by omega)
        have hsl2 := fun w => slice_head w ao2 b.length cap2 k (by omega)
        have hsl3 := fun w => slice_head w ao3 c.length cap3 k (by omega)
        have HX0 : Hid (Below wr.heap.size wr w2) := HB2
        have HD := Lib.hid hd
        have rd1 : ∀ (w'' : World), Below wr.heap.size wr w'' → Reads w'' .u8 (.slice ao1 k cap1) (a.take k) := fun _ hx => (HA0.out.head (by omega)).below (HD.out.trans (hx.mono HD.out.size)) (Nat.le_refl _)
        have rd2 : ∀ (w'' : World), Below wr.heap.size wr w'' → Reads w'' .u8 (.slice ao2 k cap2) (b.take k) := fun _ hx => (HB0.out.head (by omega)).below (HD.out.trans (hx.mono HD.out.size)) (Nat.le_refl _)
        have rd3 : ∀ (w'' : World), Below wr.heap.size wr w'' → Reads w'' .u8 (.slice ao3 k cap3) (c.take k) := fun _ hx => (HC0.out.head (by omega)).below (HD.out.trans (hx.mono HD.out.size)) (Nat.le_refl _)
        have rd4 : ∀ (w'' : World), Below wr.heap.size wr w'' → Reads w'' .u8 u8 (join3 (a.take k) (b.take k) (c.take k)) := fun _ hx => HO.out.reads.below hx (Nat.le_refl _)
        have B1 : ∀ y ∈ a.take k, y < 256 := fun y hy => ba y (List.mem_of_mem_take hy)
        have B2 : ∀ y ∈ b.take k, y < 256 := fun y hy => bb y (List.mem_of_mem_take hy)
        have B3 : ∀ y ∈ c.take k, y < 256 := fun y hy => bc y (List.mem_of_mem_take hy)
        have B4 := join3_byte (a.take k) (b.take k) (c.take k) B1 B2 B3
        have HEQ := Lib.hid (crcx_join (s := 0) (a := a.take k) (b := b.take k) (c := c.take k) (by simp; omega) (by simp; omega))
        have q1 : crcx 0 (a.take k) < 4294967296 := crcx_lt (by decide) B1
        have q2 : crcx 0 (b.take k) < 4294967296 := crcx_lt (by decide) B2
        have q3 : crcx 0 (c.take k) < 4294967296 := crcx_lt (by decide) B3
        have x1 := u32_xor_nat _ _ q1 q2
        have x2 := u32_xor_nat _ _ (Nat.xor_lt_two_pow (n := 32) q1 q2) q3
        have RD1 := Lib.hid rd1
        have RD2 := Lib.hid rd2
        have RD3 := Lib.hid rd3
        have RD4 := Lib.hid rd4
        clear hd rd1 rd2 rd3 rd4
        go_region_held3 (fun _ => True) (trivial) (first
          | (go_at_call 43; refine (sum_any p 3 _ (join3 (a.take k) (b.take k) (c.take k)) _ (by first | exact HM3.out | exact HM3.out.drew) (by omega) (by first | exact RD4.out _ HX3.out | exact RD4.out _ HX3.out.drew) B4).mono ?_; rintro e w9 ⟨rfl, hm, hg⟩
             have hx : Below wr.heap.size wr w9 := by first | exact HX3.out.trans (below_grown hg HP.out HX3.out.size) | exact HX3.out.drew.trans (below_grown hg HP.out (by simpa using HX3.out.size))
             have HM4 := Lib.hid hm
             have HX4 := Lib.hid hx
             clear hm hg hx)
          | (go_at_call 43; refine (sum_any p 2 _ (c.take k) _ (by first | exact HM2.out | exact HM2.out.drew) (by omega) (by first | exact RD3.out _ HX2.out | exact RD3.out _ HX2.out.drew) B3).mono ?_; rintro e w8 ⟨rfl, hm, hg⟩
             have hx : Below wr.heap.size wr w8 := by first | exact HX2.out.trans (below_grown hg HP.out HX2.out.size) | exact HX2.out.drew.trans (below_grown hg HP.out (by simpa using HX2.out.size))
             have HM3 := Lib.hid hm
             have HX3 := Lib.hid hx
             clear hm hg hx)
          | (go_at_call 43; refine (sum_any p 1 _ (b.take k) _ (by first | exact HM1.out | exact HM1.out.drew) (by omega) (by first | exact RD2.out _ HX1.out | exact RD2.out _ HX1.out.drew) B2).mono ?_; rintro e w7 ⟨rfl, hm, hg⟩
             have hx : Below wr.heap.size wr w7 := by first | exact HX1.out.trans (below_grown hg HP.out HX1.out.size) | exact HX1.out.drew.trans (below_grown hg HP.out (by simpa using HX1.out.size))
             have HM2 := Lib.hid hm
             have HX2 := Lib.hid hx
             clear hm hg hx)
          | (go_at_call 43; refine (sum_any p 0 _ (a.take k) _ (by first | exact HM0.out | exact HM0.out.drew) (by omega) (by first | exact RD1.out _ HX0.out | exact RD1.out _ HX0.out.drew) B1).mono ?_; rintro e w6 ⟨rfl, hm, hg⟩
             have hx : Below wr.heap.size wr w6 := by first | exact HX0.out.trans (below_grown hg HP.out HX0.out.size) | exact HX0.out.drew.trans (below_grown hg HP.out (by simpa using HX0.out.size))
             have HM1 := Lib.hid hm
             have HX1 := Lib.hid hx
             clear hm hg hx))
        have hfin : ((crcx 0 (a.take k) ^^^ crcx 0 (b.take k) ^^^ crcx 0 (c.take k) : Nat) : Int) = ((crcx 0 (join3 (a.take k) (b.take k) (c.take k)) : Nat) : Int) := by rw [HEQ.out]
        rw [hfin, beq_self_eq_true]
        clear hfin
        go_wp2
        go_ret
        exact ⟨rfl, hb0.trans ((HD.out.trans (HX4.out.mono HD.out.size)).mono hb0.size)⟩

end Go.Proofs.Ytlaloddmlkkbgaa
