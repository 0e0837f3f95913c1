/- The contracts of the document's own cells: Check, May, Bytes, common. · The contracts of the document's own cells: common, Document, fail, Bytes. · Rows of the document's own cells; an append of one; a string's head. · Acts as they are recorded: which there are. -/
import Derived.Test.YtpebmmhokigglaaGreatDoorDaP
import Derived.Test.YtpebmmhokigglaaGreatDoorEnP
import Derived.Test.YtpebmmhokigglaaGreatDoorRrP
import Derived.Laws.StructEq
import Derived.Laws.BytesArg
import Derived.BigQuiet
namespace Go.Proofs.YtpebmmhokigglaaGreatDoor
open Go.RowKit

/-- Bytes as a string. -/
def S8 (l : List Nat) : ByteArray := strOfNums (l.map (fun n : Nat => (n : Int)))
theorem S8_size (l : List Nat) : (S8 l).size = l.length := by unfold S8; rw [strOfNums_size, List.length_map]

/-- A cell's error by its number. -/
def chk (k : Int) (n : Nat) : Nat := if k < 0 ∨ 3 < k then 1 else if 64 < n then 3 else if k ≠ 1 ∧ 0 < n then 2 else 0

set_option maxHeartbeats 400000 in
set_option maxRecDepth 100000 in
theorem refCheck_any (k : Int) (s : ByteArray) (w : World) :
    Calls Tryz.prog 27 #[.agg #[.int .i64 k, .string s]] w fun e w' => e = .returned (.int .i64 (chk k s.size : Nat)) ∧ Below w.heap.size w w' := by
  unfold chk
  by_cases h1 : k < 0
  · rw [if_pos (.inl h1)]
    go_enter Tryz.func27, Tryz.ntmps27
    go_wp2
    go_ret
    exact ⟨rfl, (Below.refl _ _).alloc (Nat.le_refl _) _⟩
  by_cases h2 : 3 < k
  · rw [if_pos (.inr h2)]
    go_enter Tryz.func27, Tryz.ntmps27
    go_wp2
    go_ret
    exact ⟨rfl, (Below.refl _ _).alloc (Nat.le_refl _) _⟩
  rw [if_neg (by omega)]
  by_cases h3 : (64 : Int) < (s.size : Int)
  · rw [if_pos (by omega)]
    go_enter Tryz.func27, Tryz.ntmps27
    go_wp2
    go_ret
    exact ⟨rfl, (Below.refl _ _).alloc (Nat.le_refl _) _⟩
  rw [if_neg (by omega)]
  by_cases h4 : (k != 1) = true
  · have hk : k ≠ 1 := by simpa using h4
    by_cases h5 : (0 : Int) < (s.size : Int)
    · rw [if_pos ⟨hk, by omega⟩]
      go_enter Tryz.func27, Tryz.ntmps27
      go_wp2
      go_ret
      exact ⟨rfl, (Below.refl _ _).alloc (Nat.le_refl _) _⟩
    · rw [if_neg (by omega)]
      go_enter Tryz.func27, Tryz.ntmps27
      go_wp2
      go_ret
      exact ⟨rfl, (Below.refl _ _).alloc (Nat.le_refl _) _⟩
  · have hk : k = 1 := by simpa using h4
    rw [if_neg (by omega)]
    subst hk
    go_enter Tryz.func27, Tryz.ntmps27
    go_wp2
    go_ret
    exact ⟨rfl, (Below.refl _ _).alloc (Nat.le_refl _) _⟩

set_option maxRecDepth 100000 in
theorem eql_cells (k1 k2 : Int) (s1 s2 : ByteArray) (w : World) :
    (binOp .eql 77 (.agg #[.int .i64 k1, .string s1]) (.agg #[.int .i64 k2, .string s2])).run Tryz.prog w = .ok (.bool (k1 == k2 && s1.toList == s2.toList)) w := by
  have ht : Tryz.prog.underlying 77 = some (.struct (Tryz.prog.fieldsOf 77)) := by kernel_rfl
  have hp : Tryz.prog.stoodInHeld 77 = false := by kernel_rfl
  have h1 : Tryz.prog.underlying 3 = some (.int .i64) := Tryz.underlying3
  have h2 : Tryz.prog.underlying 9 = some .string := Tryz.underlying9
  obtain ⟨L, hL⟩ : ∃ L, L = (Tryz.prog.fieldsOf 77).toList := ⟨_, rfl⟩
  have hm : (L.map fun f => (f.name, f.type, f.offset)) = [("Kind", 3, 0), ("Data", 9, 1)] := by rw [hL]; kernel_rfl
  obtain ⟨f0, f1, hf, n0, hf0, g0, n1, hf1, g1⟩ : ∃ f0 f1, L = [f0, f1] ∧ f0.name = "Kind" ∧ f0.type = 3 ∧ f0.offset = 0 ∧ f1.name = "Data" ∧ f1.type = 9 ∧ f1.offset = 1 := by
    rcases L with _ | ⟨f0, _ | ⟨f1, _ | ⟨f2, r⟩⟩⟩
    · have := congrArg List.length hm; simp at this
    · have := congrArg List.length hm; simp at this
    · simp only [List.map_cons, List.map_nil, List.cons.injEq, Prod.mk.injEq, and_true] at hm
      exact ⟨f0, f1, rfl, hm.1.1, hm.1.2.1, hm.1.2.2, hm.2.1, hm.2.2.1, hm.2.2.2⟩
    · have := congrArg List.length hm
      simp at this
  rw [hL] at hf
  clear hm hL
  have hn0 : ¬ f0.name = "_" := by rw [n0]; decide
  have hn1 : ¬ f1.name = "_" := by rw [n1]; decide
  clear n0 n1
  rw [run_eql_struct, run_equalIn_agg _ _ _ _ _ ht hp, hf]
  go_simp
  by_cases e1 : k1 = k2
  · by_cases e2 : s1.toList = s2.toList
    · simp [e1, e2]
    · simp [e1, e2]
  · simp [e1]

end Go.Proofs.YtpebmmhokigglaaGreatDoor

namespace Go.Proofs.YtpebmmhokigglaaGreatDoor
open Go.RowKit

theorem S8_at (l : List Nat) (i : Nat) (hi : i < l.length) (hb : ∀ y ∈ l, y < 256) : ((S8 l)[i]'(by rw [S8_size]; exact hi)).toNat = l.getD i 0 := by
  have h1 : (S8 l).data.toList = (l.map (fun n : Nat => (n : Int))).map (fun n : Int => UInt8.ofNat n.toNat) := strOfNums_data _
  have h2 : ((S8 l)[i]'(by rw [S8_size]; exact hi)) = (S8 l).data.toList[i]'(by rw [h1]; simpa using hi) := by
    show (S8 l).data[i]'_ = _
    simp
  rw [h2]
  simp only [h1, List.getElem_map]
  have hy : l[i] < 256 := hb _ (List.getElem_mem hi)
  rw [List.getD_eq_getElem?_getD, List.getElem?_eq_getElem hi]
  simp [Nat.mod_eq_of_lt hy]

theorem run_S8 (l : List Nat) (i : Nat) (hi : i < l.length) (hb : ∀ y ∈ l, y < 256) (w : World) : (Instr.index 9 (.string (S8 l)) (.int .i64 (i : Int))).run Tryz.prog w = .ok (.int .u8 ((l.getD i 0 : Nat) : Int)) w := by
  rw [run_index_string w 9 _ .i64 (i : Int) Tryz.underlying9, dif_pos ⟨by omega, by rw [S8_size]; omega⟩]
  have := S8_at l i hi hb
  simp only [Int.toNat_natCast]
  rw [this]

theorem com_step {a b : List Nat} {k : Nat} (ha : k < a.length) (h : a.take k = b.take k) (hp : ¬ (b.length ≤ k) ∧ a.getD k 0 = b.getD k 0) : a.take (k + 1) = b.take (k + 1) := by
  rw [take_snoc a k ha, take_snoc b k (by omega), h, hp.2]

set_option maxHeartbeats 400000 in
set_option maxRecDepth 100000 in
theorem refCommon_any (a b : List Nat) (w : World) (ha : ∀ y ∈ a, y < 256) (hb : ∀ y ∈ b, y < 256) (hl : a.length ≤ 1000000) (hl2 : b.length ≤ 1000000) :
    Calls Tryz.prog 90 #[.string (S8 a), .string (S8 b)] w fun e w' => e = .returned (.int .i64 (com a b : Nat)) ∧ Below w.heap.size w w' := by
  have HA := Lib.hid (S8_size a)
  have hsa : ((S8 a).size : Int) = (a.length : Int) := by rw [S8_size]
  have hsb : ((S8 b).size : Int) = (b.length : Int) := by rw [S8_size]
  have HX := Lib.hid (fun i hi => run_S8 a i hi ha)
  have HY := Lib.hid (fun i hi => run_S8 b i hi hb)
  generalize S8 a = sa at *
  generalize S8 b = sb at *
  go_enter Tryz.func90, Tryz.ntmps90
  go_wp2
  go_loopw [5] (fun i wr => ∃ k d : Nat, k ≤ a.length ∧ k ≤ b.length ∧ i = .int .i64 (k : Int) ∧ a.take k = b.take k ∧ wr = w.drewN d)
    (fun i _ => a.length - (intOf i).toNat)
  case atStart => exact ⟨0, 0, by omega, by omega, rfl, by simp, rfl⟩
  case round =>
    obtain ⟨k, d, hk, hkb, rfl, hp, rfl⟩ := hrel
    have HP := Lib.hid hp; clear hp
    have hki : (k : Int) ≤ 1000000 := by omega
    by_cases hlt : (k : Int) < (a.length : Int)
    · by_cases hlb : (b.length : Int) ≤ (k : Int)
      · have HE : Hid (com a b = k) := Lib.hid (com_eq a b k hk (by omega) HP.out (.inr (.inl (by omega))))
        go_wp2_with fail
        go_quiet (fail)
        go_wp2
        go_ret
        exact ⟨by rw [HE.out]; rfl, rfl, rfl, rfl, Nat.le_refl _, fun _ _ => rfl⟩
      · have hd : decide (b.length ≤ k) = false := by rw [decide_eq_false_iff_not]; omega
        have hx := HX.out k (by omega)
        have hy := HY.out k (by omega)
        have HEQ : Hid (a.getD k 0 = b.getD k 0 → a.take (k + 1) = b.take (k + 1)) := Lib.hid fun h => com_step (by omega) HP.out ⟨by omega, h⟩
        have HNE : Hid (a.getD k 0 ≠ b.getD k 0 → com a b = k) := Lib.hid fun h => com_eq a b k hk hkb HP.out (.inr (.inr h))
        generalize a.getD k 0 = x at hx HEQ HNE
        generalize b.getD k 0 = y at hy HEQ HNE
        by_cases hxy : x = y
        · have HS := Lib.hid (HEQ.out hxy)
          have hne : ((x : Int) != (y : Int)) = false := by rw [bne_eq_false_iff_eq, hxy]
          clear hxy HEQ HNE
          go_wp2_with fail
          go_quiet (fail)
          go_wp2
          go_roundw
          case rel => exact ⟨k + 1, _, by omega, by omega, by go_num, HS.out, rfl⟩
          case measure => simp [intOf]; omega
        · have HE := Lib.hid (HNE.out hxy)
          have hne : ((x : Int) != (y : Int)) = true := by rw [bne_iff_ne]; omega
          clear hxy HEQ HNE
          go_wp2_with fail
          go_quiet (fail)
          go_wp2
          go_ret
          exact ⟨by rw [HE.out]; rfl, rfl, rfl, rfl, Nat.le_refl _, fun _ _ => rfl⟩
    · obtain rfl : k = a.length := by omega
      have HE : Hid (com a b = a.length) := Lib.hid (com_eq a b _ (Nat.le_refl _) hkb HP.out (.inl rfl))
      go_wp2
      go_ret
      exact ⟨by rw [HE.out]; rfl, rfl, rfl, rfl, Nat.le_refl _, fun _ _ => rfl⟩

set_option maxHeartbeats 400000 in
set_option maxRecDepth 100000 in
theorem document_any (k : Int) (v : Value) (d : List Nat) (w : World) (hr : Reads w .u8 v d) :
    Calls Tryz.prog 46 #[.agg #[.int .i64 k, v]] w fun e w' => e = .returned (.agg #[.int .i64 k, .string (S8 d)]) ∧ Below w.heap.size w w' := by
  obtain ⟨ao, cap, rfl, _, _, _⟩ := hr.val
  have hb0 : Below w.heap.size w ((w.alloc (.cells #[.int .i64 k, .slice ao d.length cap] 72)).alloc (.cells #[.int .i64 0, .string { data := #[] }] 77)) := ((Below.refl _ _).alloc (Nat.le_refl _) _).alloc (by simp) _
  have hcv := conv_reads _ d _ (hr.new hb0)
  have hblk := heap_alloc_new (w.alloc (.cells #[.int .i64 k, .slice ao d.length cap] 72)) (.cells #[.int .i64 0, .string { data := #[] }] 77)
  obtain ⟨g1, g2, g3, g4⟩ := blk2 hblk
  go_enter Tryz.func46, Tryz.ntmps46
  go_wp2
  exact bodyPost_ret (v := .agg #[.int .i64 k, .string (S8 d)]) (by simp [results, Tryz.results46, go_sem, S8]) rfl ⟨rfl, ((Below.refl _ _).alloc (Nat.le_refl _) _).alloc (by simp) _⟩

set_option maxHeartbeats 400000 in
set_option maxRecDepth 100000 in
/-- The document's own fail of a run. -/
theorem rfail5_any (ao : Option Addr) (n cap c code : Nat) (w : World) :
    Calls Tryz.prog 96 #[.agg #[.slice ao n cap, .int .i64 (c : Int)], .int .i64 (code : Int)] w fun e w' =>
      e = .returned (.tuple #[.slice none 0 0, .agg #[.slice ao n cap, .int .i64 ((if c = 0 then code else c : Nat) : Int)]]) ∧ Below w.heap.size w w' := by
  have hblk := heap_alloc_new (w.alloc (.cells #[.slice ao n cap, .int .i64 (c : Int)] 111)) (.cells #[.slice none 0 0, .int .i64 0] 111)
  obtain ⟨g1, g2, g3, g4⟩ := blk2 hblk
  by_cases hc : c = 0
  · subst hc
    rw [if_pos rfl]
    go_enter Tryz.func96, Tryz.ntmps96
    go_wp2_with fail
    go_region
    all_goals go_wp2
    all_goals exact bodyPost_ret (v := .tuple #[.slice none 0 0, .agg #[.slice ao n cap, .int .i64 (code : Int)]]) (by simp [results, Tryz.results96, go_sem]) rfl ⟨rfl, by (repeat (first | exact Below.refl _ _ | (refine Below.setCell ?_ (by first | (simp; done) | (simp; omega)) _) | (refine Below.alloc ?_ (by first | (simp; done) | (simp; omega)) _) | (refine Below.drew ?_)))⟩
  · have h1 : ((c : Int) == 0) = false := by rw [beq_eq_false_iff_ne]; omega
    rw [if_neg hc]
    go_enter Tryz.func96, Tryz.ntmps96
    go_wp2_with fail
    go_region
    all_goals go_wp2
    all_goals exact bodyPost_ret (v := .tuple #[.slice none 0 0, .agg #[.slice ao n cap, .int .i64 (c : Int)]]) (by simp [results, Tryz.results96, go_sem]) rfl ⟨rfl, by (repeat (first | exact Below.refl _ _ | (refine Below.setCell ?_ (by first | (simp; done) | (simp; omega)) _) | (refine Below.alloc ?_ (by first | (simp; done) | (simp; omega)) _) | (refine Below.drew ?_)))⟩

end Go.Proofs.YtpebmmhokigglaaGreatDoor

namespace Go.Proofs.YtpebmmhokigglaaGreatDoor
open Go.RowKit

/-- A cell's values. -/
def cval (c : CC) : List Value := [.int .i64 (c.1 : Int), .string (S8 c.2)]
/-- Cells' values, one behind the other. -/
def cvals (l : List CC) : List Value := l.flatMap cval
theorem cvals_append (a b : List CC) : cvals (a ++ b) = cvals a ++ cvals b := by simp [cvals]
theorem cvals_one (c : CC) : cvals [c] = cval c := by simp [cvals]

theorem Tryz.infoC : (Tryz.prog.info? 77).map (fun i => (i.zero, i.size, i.bytes)) = some (some (.agg #[.int .i64 0, .string { data := #[] }]), 2, 24) := by kernel_rfl

/-- A row of cells of the call's own. -/
def OwnsC (w : World) (base : Nat) (v : Value) (l : List CC) : Prop := w.ownsRow base 77 2 v l.length (cvals l)

/-- An append of one cell that is written out. -/
theorem wpList_appC (w : World) {ops : Array Oper} {rest : List Oper} {o : Oper} {a : Act} {Q : Exit → Act → World → Prop} (hgd : o.guard = none) (s x : Operand)
    (ho : o.op = .call { callee := .builtin .append, args := #[s, x], argTypes := #[32, 32] })
    (base : Nat) (v : Value) (xs : List CC) (hs : a.eval s = v) (hown : OwnsC w base v xs) (c : CC)
    (W : World) (hW : w = W.alloc (.cells #[.int .i64 (c.1 : Int), .string (S8 c.2)] 77)) (hx : a.eval x = .slice (some ⟨W.heap.size, 0, none⟩) 1 1)
    (hbytes : xs.length ≤ 1000000) (hbase : base ≤ w.heap.size)
    (h : ∀ v' w', OwnsC w' base v' (xs ++ [c]) → w.grownBy w' v.ownBlock → wpList Tryz.prog ops Q rest (a.put o.dst v') w') : wpList Tryz.prog ops Q (o :: rest) a w := by
  obtain ⟨i, hi, hz, hsz, hby⟩ := info_parts Tryz.infoC
  refine wpList_append_own w hgd s x 32 ho base 77 i _ 2 24 Tryz.underlying32 hi hz hsz hby rfl (by decide) v xs.length (cvals xs) hs hown ⟨W.heap.size, 0, none⟩ 1 1 (cval c) hx rfl ?_ ?_ (by simp only [maxLen]; omega) (by omega) hbase ?_
  · intro j u hu
    subst hW
    rw [Addr.add_lit, Nat.zero_add, World.cell?_alloc_mark]
    match j with
    | 0 => simpa [cval] using hu
    | 1 => simpa [cval] using hu
    | j + 2 => simp [cval] at hu
  · intro u hu
    simp only [cval, List.mem_cons, List.not_mem_nil, or_false] at hu
    rcases hu with rfl | rfl <;> rfl
  · intro v' w' hown' hg _
    refine h v' w' ?_ hg
    unfold OwnsC
    rw [List.length_append, cvals_append, cvals_one]
    exact hown'

theorem S8_list (l : List Nat) : (S8 l).data.toList = (l.map (fun n : Nat => (n : Int))).map (fun n : Int => UInt8.ofNat n.toNat) := strOfNums_data _
theorem S8_ext {s : ByteArray} {l : List Nat} (h : s.data.toList = (S8 l).data.toList) : s = S8 l := ByteArray.ext (Array.toList_inj.1 h)
theorem S8_take (l : List Nat) (n : Nat) : (S8 l).extract 0 n = S8 (l.take n) := by
  apply S8_ext
  rw [S8_list, ByteArray.data_extract, Array.toList_extract, S8_list]
  simp [List.extract, List.map_take]
theorem S8_drop (l : List Nat) (n : Nat) : (S8 l).extract n (S8 l).size = S8 (l.drop n) := by
  apply S8_ext
  rw [S8_list, ByteArray.data_extract, Array.toList_extract, S8_list, S8_size]
  simp only [List.extract, List.map_drop]
  rw [List.take_of_length_le (by simp)]
theorem S8_app (a b : List Nat) : S8 a ++ S8 b = S8 (a ++ b) := by
  apply S8_ext
  rw [ByteArray.data_append, Array.toList_append]
  simp only [S8_list, List.map_append]

/-- A string's head. -/
theorem slice_S8 (l : List Nat) (n : Nat) (hn : n ≤ l.length) (w : World) : (Instr.slice 9 (.string (S8 l)) none (some (.int .u64 (n : Int))) none).run Tryz.prog w = .ok (.string (S8 (l.take n))) w := by
  rw [run_slice_string_h w 9 (S8 l) Tryz.underlying9 .u64 (n : Int) (by omega) (by rw [S8_size]; omega)]
  rw [Int.toNat_natCast, S8_take l n]

end Go.Proofs.YtpebmmhokigglaaGreatDoor

namespace Go.Proofs.YtpebmmhokigglaaGreatDoor
open Go.RowKit

def rmost (k : Int) : Int := if k = 2 ∨ k = 3 then 1048575 else 1048576
/-- An error's number of an act. -/
def rchk (k e a : Int) (n : Nat) : Nat :=
  if k < 1 ∨ 5 < k ∨ e < 0 ∨ 1099511627776 < e ∨ a < 0 ∨ rmost k < a then 1 else if 64 < n then 3 else if a ≠ 0 ∧ k = 1 ∨ 0 < n ∧ k ≠ 2 then 2 else 0
end Go.Proofs.YtpebmmhokigglaaGreatDoor
