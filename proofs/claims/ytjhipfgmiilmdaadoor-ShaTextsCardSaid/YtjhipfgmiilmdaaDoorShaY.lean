/- The program's Hex. -/
import Derived.Test.YtjhipfgmiilmdaaDoorShaX
import Derived.Test.YtjhipfgmiilmdaaDoorShaP
import Derived.Test.YtjhipfgmiilmdaaDoorStepA
import Derived.WalkSpells
namespace Go.Proofs.YtjhipfgmiilmdaaDoor
open Go.RowKit

/-- An append of what reads as numbers, at a step of a region that draws. -/
theorem step_apps {P : Program} {w : World} {ops : Array Oper} {o : Oper} {a : Act} {K : Act → World → Prop} {Q : Exit → Act → World → Prop} {E : Prop} (hgd : o.guard = none) (s x : Operand) (t : TypeId)
    (ho : o.op = .call { callee := .builtin .append, args := #[s, x], argTypes := #[t, t] })
    (base : Nat) (e : TypeId) (z : Value) (bytes : Nat) (ht : P.underlying t = some (.slice e)) (hinfo : (P.info? e).map (fun i => (i.zero, i.size, i.bytes)) = some (some z, 1, bytes)) (hzs : z.cells.size = 1)
    (k : IntKind) (v : Value) (xs : List Nat) (hs : a.eval s = v) (hown : Owns w base e k v xs)
    (g off m c : Nat) (l : List Nat) (hx : a.eval x = .slice (some ⟨g, off, none⟩) m c) (hm : l.length = m) (hm0 : 0 < m) (hr : ∀ i, i < l.length → w.cell? ⟨g, off + i, none⟩ = some (.int k ((l.getD i 0 : Nat) : Int)))
    (hbytes : (xs.length + m) * bytes ≤ 140737488355328) (hb0 : 0 < bytes) (hbase : base ≤ w.heap.size)
    (h : ∀ v' w', Owns w' base e k v' (xs ++ l) → w.grownBy w' v.ownBlock → K (a.put o.dst v') w') :
    if Region.wanted o (yielded ops a.tmps) = true then Oper.wp P o a w K Q else E := by
  obtain ⟨i, hi, hz, hsz, hby⟩ := info_parts hinfo
  have h63 : xs.length + m ≤ 140737488355328 := Nat.le_trans (Nat.le_mul_of_pos_right _ hb0) hbytes
  refine step_append_lies w hgd s x t ho base e i z 1 bytes ht hi hz hsz hby hzs (by decide) v xs.length (vals k xs) hs hown ⟨g, off, none⟩ m c (vals k l) hx (by rw [vals_length, hm, Nat.mul_one]) ?_ (vals_oneCell k l) ?_ (by simp only [maxLen]; omega) hbytes hbase _ rfl ?_
  · intro j u hu
    have hj : j < l.length := by
      have := (List.getElem?_eq_some_iff.1 hu).1
      simpa [vals_length] using this
    rw [vals_get k l j hj] at hu
    rw [Addr.add_lit, hr j hj]
    exact hu
  · exact hm0
  · intro g cap w' ho' hg _ _
    refine h _ w' ?_ hg
    unfold Owns
    rw [List.length_append, vals_append, hm]
    exact ho'

theorem and15 : ∀ c : Nat, c < 256 → bits .and .u8 (c : Int) 15 = ((c % 16 : Nat) : Int) := by decide +kernel
theorem sign_at : ∀ d, d < 16 → signsB.data.toList.getD d 0 = (sgn d).toUInt8 := by decide
theorem run_sign (d : Nat) (hd : d < 16) (w : World) : (Instr.index 9 (.string { data := #[48, 49, 50, 51, 52, 53, 54, 55, 56, 57, 97, 98, 99, 100, 101, 102] }) (.int .u8 (d : Int))).run Tryd.prog w = .ok (.int .u8 ((sgn d : Nat) : Int)) w := by
  rw [run_index_string w 9 _ .u8 (d : Int) Tryd.underlying9, dif_pos ⟨by omega, by show (d : Int) < 16; omega⟩]
  congr 2
  simp only [Int.toNat_natCast]
  match d, hd with
  | 0, _ => rfl
  | 1, _ => rfl
  | 2, _ => rfl
  | 3, _ => rfl
  | 4, _ => rfl
  | 5, _ => rfl
  | 6, _ => rfl
  | 7, _ => rfl
  | 8, _ => rfl
  | 9, _ => rfl
  | 10, _ => rfl
  | 11, _ => rfl
  | 12, _ => rfl
  | 13, _ => rfl
  | 14, _ => rfl
  | 15, _ => rfl
  | n + 16, h => exact absurd h (by omega)

theorem box_new (w : World) (A : Array Value) (t : TypeId) : (w.alloc (.cells A t)).heap[w.heap.size]? = some (.cells A t (0, 0)) ∧ (w.alloc (.cells A t)).heap.size = w.heap.size + 1 ∧ Below w.heap.size w (w.alloc (.cells A t)) :=
  ⟨heap_alloc_new _ _, by simp, (Below.refl _ _).alloc (Nat.le_refl _) _⟩

set_option maxHeartbeats 2000000 in
set_option maxRecDepth 100000 in
theorem hex_any (l : List Nat) (w : World) (hl : ∀ y ∈ l, y < 256) (hl32 : l.length = 32) :
    Calls Tryd.prog 20 #[.agg (vals .u8 l).toArray] w fun e w' => e = .returned (.string (strN (hexS l))) ∧ Below w.heap.size w w' := by
  have hmk : ∀ w, (Instr.makeSlice 22 (.int .i64 0) (.int .i64 64)).run Tryd.prog w = .ok (.slice (some ⟨w.heap.size, 0, none⟩) 0 64) (w.alloc (.cells (madeCells #[.int .u8 0] 64) 5)) := fun w =>
    run_make_bytes (P := Tryd.prog) (k := .u8) Tryd.underlying22 Tryd.info5 .i64 .i64 0 64 (by decide) (by decide) (by decide) w
  have hbx := box_new w (vals .u8 l).toArray 29
  have hds : (Tryd.prog.info? 29).map (·.size) = some (vals .u8 l).toArray.size := by rw [List.size_toArray, vals_length, hl32]; kernel_rfl
  have hsz1 : ∀ w, (sizeOf 5).run Tryd.prog w = .ok 1 w := fun w => by kernel_rfl
  have HBX := Lib.hid hbx
  clear hbx
  go_enter Tryd.func20, Tryd.ntmps20
  go_wp2_with ((with_reducible show wpList _ _ _ (Oper.mk (some 7) _ _ _ _ _ :: _) _ _); go_must (refine wpList_load_row rfl 29 (.tmp 1) rfl w.heap.size rfl _ (vals .u8 l).toArray _ _ ((Below.heap_alloc _ _ _ (by simp)).trans HBX.out.1) Tryd.underlying29 rfl hds ?_))
  generalize w.alloc (.cells (vals .u8 l).toArray _) = w1 at HBX ⊢
  obtain ⟨_, hs1, hb1⟩ := HBX.out
  have HO0 := Lib.hid (owns_made w1 w.heap.size 5 .u8 0 64 (by decide) (by decide) (by omega))
  have HB0 : Hid (Below w.heap.size w (w1.alloc (.cells (madeCells #[.int .u8 0] 64) 5))) := Lib.hid (hb1.alloc (by omega) _)
  have HS1 := Lib.hid hs1
  clear hs1 hb1 HBX
  go_loopw [3, 8] (fun v iv wr => ∃ i : Nat, i ≤ 32 ∧ iv = .int .i64 (i : Int) ∧ Owns wr w.heap.size 5 .u8 v (hexS (l.take i)) ∧ Below w.heap.size w wr) (fun _ iv _ => 32 - (intOf iv).toNat)
  case atStart => exact ⟨0, by decide, rfl, by have h := HO0.out; rw [HS1.out] at h; exact h, HB0.out⟩
  case round =>
    obtain ⟨i, hi, rfl, ho, hb⟩ := hrel
    have HO := Lib.hid ho
    have HB := Lib.hid hb
    clear ho hb HO0 HB0
    by_cases hlt : i < 32
    · have hlti : (i : Int) < 32 := by omega
      have hix := run_index_row (P := Tryd.prog) (k := .u8) (l := l) Tryd.underlying29 (by kernel_rfl) hsz1 hl32 i hlt
      have hc := getD_lt hl (by decide) i
      have HT : Hid (hexS (l.take (i + 1)) = hexS (l.take i) ++ [sgn (l.getD i 0 / 16), sgn (l.getD i 0 % 16)]) := Lib.hid (by rw [take_snoc l i (by omega), hexS_append]; rfl)
      have hlen : (hexS (l.take i)).length ≤ 64 := by rw [hexS_length, List.length_take]; omega
      generalize l.getD i 0 = c at hix hc HT
      generalize hexS (l.take i) = T at HO HT hlen
      have hand := and15 c hc
      have hdiv : (c : Int) / 16 = ((c / 16 : Nat) : Int) := by omega
      have hd1 : c / 16 < 16 := by omega
      have hd2 : c % 16 < 16 := Nat.mod_lt _ (by decide)
      generalize c / 16 = h1 at hdiv HT hd1
      generalize c % 16 = h2 at hand HT hd2
      have r1 := fun w => run_sign h1 hd1 w
      have r2 := fun w => run_sign h2 hd2 w
      go_wp2_with fail
      have hmx : Tryd.prog.follows .mixedOrders = true := by kernel_rfl
      refine wp_region_any hmx ?_
      change wpAny _ _ _ _ _ _ _ (World.drew _)
      refine wpAny_take (i := 0) (v := ?_) rfl (by kernel_rfl) (by kernel_rfl) (by kernel_rfl) (fun _ _ _ h => h) (Or.inl ⟨by rfl, ?_⟩) ?_
      rotate_left
      · intro w
        go_simp
        try with_reducible rfl
      refine wpAny_take (i := 1) (v := ?_) rfl (by kernel_rfl) (by kernel_rfl) (by kernel_rfl) (fun _ _ _ h => h) (Or.inl ⟨by rfl, ?_⟩) ?_
      rotate_left
      · intro w
        go_simp
        try with_reducible rfl
      refine wpAny_take (i := 2) (v := ?_) rfl (by kernel_rfl) (by kernel_rfl) (by kernel_rfl) (fun _ _ _ h => h) (Or.inl ⟨by rfl, ?_⟩) ?_
      rotate_left
      · intro w
        go_simp
        try with_reducible rfl
      refine wpAny_take (i := 3) (v := ?_) rfl (by kernel_rfl) (by kernel_rfl) (by kernel_rfl) (fun _ _ _ h => h) (Or.inl ⟨by rfl, ?_⟩) ?_
      rotate_left
      · intro w
        go_simp
        try with_reducible rfl
      refine wpAny_take (i := 4) (v := ?_) rfl (by kernel_rfl) (by kernel_rfl) (by kernel_rfl) (fun _ _ _ h => h) (Or.inl ⟨by rfl, ?_⟩) ?_
      rotate_left
      · intro w
        go_simp
        try with_reducible rfl
      refine wpAny_take (i := 5) (v := ?_) rfl (by kernel_rfl) (by kernel_rfl) (by kernel_rfl) (fun _ _ _ h => h) (Or.inl ⟨by rfl, ?_⟩) ?_
      rotate_left
      · intro w
        go_simp
        try with_reducible rfl
      refine wpAny_take (i := 6) (v := ?_) rfl (by kernel_rfl) (by kernel_rfl) (by kernel_rfl) (fun _ _ _ h => h) (Or.inl ⟨by rfl, ?_⟩) ?_
      rotate_left
      · intro w
        go_simp
        try with_reducible rfl
      refine wpAny_ready (rs := [7]) (by kernel_rfl) (by simp) (AllReady.cons rfl (fun K hK => ?_) AllReady.nil)
      go_simp
      refine hK _ _ ?_
      clear hK K
      generalize hWW : World.drew (World.alloc _ _) = W1
      have hnb : W1.heap[wr.heap.size]? = some (.cells #[.int .u8 ((sgn h1 : Nat) : Int), .int .u8 ((sgn h2 : Nat) : Int)] 5 (0, 0)) := by
        rw [← hWW]; exact heap_alloc_new _ _
      have hO1 : Owns W1 w.heap.size 5 .u8 u3 T := by rw [← hWW]; exact (HO.out.alloc _).drew
      have hB1 : Below w.heap.size w W1 := by rw [← hWW]; exact (HB.out.alloc HB.out.size _).drew
      have HW1 := Lib.hid hWW
      clear hWW
      refine wpAny_ready (rs := [8]) (by kernel_rfl) (by simp) (AllReady.cons rfl (fun K hK => ?_) AllReady.nil)
      refine step_apps rfl (.tmp 11) (.tmp 18) 22 rfl w.heap.size 5 (.int .u8 0) 1 Tryd.underlying22 Tryd.info5 rfl .u8 u3 T (by rfl) hO1 wr.heap.size 0 2 2 [sgn h1, sgn h2] (by rfl) rfl (by decide) ?_ (by omega) (by decide) (Nat.le_trans (by omega) hB1.size) (fun v' w' ho' hg => hK _ _ ?_)
      · intro i hi
        simp only [World.cell?, hnb]
        match i, hi with
        | 0, _ => rfl
        | 1, _ => rfl
      clear hK K
      have hB2 : Below w.heap.size w w' := hB1.grown hg hB1.size (fun j hj => (hO1.lt j hj).1)
      rw [← HT.out] at ho'
      refine wpAny_take (i := 9) (v := v') rfl (by kernel_rfl) (by kernel_rfl) (by kernel_rfl) (fun _ _ _ h => h) (Or.inl ⟨by rfl, ?_⟩) ?_
      · intro w
        rfl
      refine wpAny_done (by kernel_rfl) ?_ _
      go_wp2_with fail
      go_roundw
      · refine ⟨i + 1, by omega, rfl, ho', hB2⟩
      · simp only [intOf, Int.toNat_natCast]; omega
    · have hi : i = 32 := by omega
      subst hi
      rw [List.take_of_length_le (by omega)] at HO
      have hcv := conv_reads u3 (hexS l) wr HO.out.reads
      have hne : ¬ ((32 : Nat) : Int) < 32 := by decide
      go_wp2_with fail
      go_ret
      exact ⟨rfl, HB.out⟩

end Go.Proofs.YtjhipfgmiilmdaaDoor
