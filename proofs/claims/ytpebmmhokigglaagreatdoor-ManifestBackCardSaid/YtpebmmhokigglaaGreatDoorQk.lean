/- Rows of the document's own cells, whatever their kinds; the law's own Documents. · The contract of the document's own Run. · The contract of the document's own Run: the walk. · CellRuns, walked. -/
import Derived.Test.YtpebmmhokigglaaGreatDoorUvQ
import Derived.Test.YtpebmmhokigglaaGreatDoorQa
import Derived.Lib.AppendStr
namespace Go.Proofs.YtpebmmhokigglaaGreatDoor
open Go.RowKit

/-- The document's cells' values, one behind the other. -/
def dvals (l : List IC) : List Value := l.flatMap fun c => [.int .i64 c.1, .string (S8 c.2)]
theorem dvals_append (a b : List IC) : dvals (a ++ b) = dvals a ++ dvals b := by simp [dvals]
theorem dvals_get (l : List IC) (i : Nat) (hi : i < l.length) : (dvals l)[i * 2]? = some (.int .i64 (l.getD i (0, [])).1) ∧ (dvals l)[i * 2 + 1]? = some (.string (S8 (l.getD i (0, [])).2)) := by
  induction l generalizing i with
  | nil => simp at hi
  | cons x l ih =>
    match i with
    | 0 => simp [dvals]
    | i + 1 =>
      obtain ⟨h1, h2⟩ := ih i (by simpa using hi)
      simp only [dvals, List.flatMap_cons, List.cons_append, List.nil_append, List.getD_cons_succ] at *
      rw [show (i + 1) * 2 = i * 2 + 1 + 1 by omega]
      simp only [List.getElem?_cons_succ]
      exact ⟨h1, h2⟩
theorem cvals_dvals (l : List CC) : cvals l = dvals (l.map toIC) := by
  induction l with
  | nil => rfl
  | cons c l ih => show cval c ++ cvals l = _; rw [ih]; rfl

/-- A row of the document's cells, of the call's own. -/
def OwnsD (w : World) (base : Nat) (v : Value) (l : List IC) : Prop := w.ownsRow base 77 2 v l.length (dvals l)
theorem OwnsC.toD {w : World} {base : Nat} {v : Value} {l : List CC} (h : OwnsC w base v l) : OwnsD w base v (l.map toIC) := by
  unfold OwnsD
  rw [List.length_map, ← cvals_dvals]
  exact h
theorem OwnsD.below {w w' : World} {base : Nat} {v : Value} {l : List IC} (h : OwnsD w base v l) (hb : Below w.heap.size w w') : OwnsD w' base v l :=
  h.kept (row := none) ⟨hb.os, hb.tape, hb.output, hb.size, fun j hj _ => hb.block j hj⟩ (by cases v.ownBlock <;> simp)
theorem OwnsD.form {w : World} {base : Nat} {v : Value} {l : List IC} (h : OwnsD w base v l) : ∃ ao cap, v = .slice ao l.length cap := by
  rcases h.2 with ⟨rfl, h2⟩ | ⟨g, cap, cur, rfl, _⟩
  · exact ⟨none, 0, by rw [h2]⟩
  · exact ⟨_, cap, rfl⟩
theorem OwnsD.lt {w : World} {base : Nat} {v : Value} {l : List IC} (h : OwnsD w base v l) : ∀ j, v.ownBlock = some j → base ≤ j ∧ j < w.heap.size := World.ownsRow.lt h
theorem OwnsD.grown {w w' : World} {base : Nat} {v : Value} {l : List IC} {row : Option Nat} (h : OwnsD w base v l) (hg : w.grownBy w' row) (hne : v.ownBlock = none ∨ v.ownBlock ≠ row) : OwnsD w' base v l := World.ownsRow.kept h hg hne
theorem OwnsD.mono {w : World} {base base' : Nat} {v : Value} {l : List IC} (h : OwnsD w base v l) (hb : base' ≤ base) : OwnsD w base' v l := by
  refine ⟨h.1, ?_⟩
  rcases h.2 with h2 | ⟨g, cap, cur, h1, h2, r⟩
  · exact .inl h2
  · exact .inr ⟨g, cap, cur, h1, Nat.le_trans hb h2, r⟩
theorem ownsD_empty (w : World) (base : Nat) (hb : base ≤ w.heap.size) : OwnsD (w.alloc (.cells #[] 77)) base (.slice (some ⟨w.heap.size, 0, none⟩) 0 0) [] :=
  World.ownsRow_lit w #[] 0 hb (by simp [maxLen]) rfl
/-- The cells of what is owned. -/
theorem OwnsD.at {w : World} {base : Nat} {ao : Option Addr} {n cap : Nat} {l : List IC} (h : OwnsD w base (.slice ao n cap) l) {i : Nat} (hi : i < l.length) :
    ∃ g, ao = some ⟨g, 0, none⟩ ∧ g < w.heap.size ∧ w.cell? ⟨g, i * 2, none⟩ = some (.int .i64 (l.getD i (0, [])).1) ∧ w.cell? ⟨g, i * 2 + 1, none⟩ = some (.string (S8 (l.getD i (0, [])).2)) := by
  have h0 := h
  unfold OwnsD at h0
  rcases h.2 with ⟨_, hn⟩ | ⟨g, cap', cur, hv, hb, hg, _⟩
  · omega
  · cases hv
    obtain ⟨g1, g2⟩ := dvals_get l i hi
    exact ⟨g, rfl, (Array.getElem?_eq_some_iff.1 hg).1, by rw [h0.cellAt (i * 2) (by omega), g1], by rw [h0.cellAt (i * 2 + 1) (by omega), g2]⟩

/-- An append of one cell of the document's that is written out. -/
theorem wpList_appD (w : World) {ops : Array Oper} {rest : List Oper} {o : Oper} {a : Act} {Q : Exit → Act → World → Prop} (hgd : o.guard = none) (s x : Operand)
    (ho : o.op = .call { callee := .builtin .append, args := #[s, x], argTypes := #[32, 32] })
    (base : Nat) (v : Value) (xs : List IC) (hs : a.eval s = v) (hown : OwnsD w base v xs) (c : IC)
    (W : World) (hW : w = W.alloc (.cells #[.int .i64 c.1, .string (S8 c.2)] 77)) (hx : a.eval x = .slice (some ⟨W.heap.size, 0, none⟩) 1 1)
    (hbytes : xs.length ≤ 1000000) (hbase : base ≤ w.heap.size)
    (h : ∀ v' w', OwnsD w' base v' (xs ++ [c]) → w.grownBy w' v.ownBlock → wpList Tryz.prog ops Q rest (a.put o.dst v') w') : wpList Tryz.prog ops Q (o :: rest) a w := by
  obtain ⟨i, hi, hz, hsz, hby⟩ := info_parts Tryz.infoC
  refine wpList_append_own w hgd s x 32 ho base 77 i _ 2 24 Tryz.underlying32 hi hz hsz hby rfl (by decide) v xs.length (dvals xs) hs hown ⟨W.heap.size, 0, none⟩ 1 1 [.int .i64 c.1, .string (S8 c.2)] hx rfl ?_ ?_ (by simp only [maxLen]; omega) (by omega) hbase ?_
  · intro j u hu
    subst hW
    rw [Addr.add_lit, Nat.zero_add, World.cell?_alloc_mark]
    match j with
    | 0 => simpa using hu
    | 1 => simpa using hu
    | j + 2 => simp at hu
  · intro u hu
    simp only [List.mem_cons, List.not_mem_nil, or_false] at hu
    rcases hu with rfl | rfl <;> rfl
  · intro v' w' hown' hg _
    refine h v' w' ?_ hg
    unfold OwnsD
    rw [List.length_append, dvals_append]
    exact hown'

theorem take_snocI (l : List IC) (k : Nat) (h : k < l.length) : l.take (k + 1) = l.take k ++ [l.getD k (0, [])] := by
  rw [List.take_add_one, List.getElem?_eq_getElem h]; simp [List.getD, List.getElem?_eq_getElem h]

set_option maxHeartbeats 1000000 in
set_option maxRecDepth 100000 in
theorem documents_any (v : Value) (cs : List IC) (w : World) (B : Nat → Prop) (hr : CellsAt w B v cs) (hl : cs.length ≤ 1000000) :
    Calls Tryz.prog 25 #[v] w fun e w' => ∃ v', e = .returned v' ∧ OwnsD w' w.heap.size v' cs ∧ Below w.heap.size w w' := by
  obtain ⟨ao, cap, rfl, h1, h2, h3⟩ := hr.val
  have HR := Lib.hid (hr.mono (C := fun j => j < w.heap.size) fun j hj _ => hj)
  have HE := Lib.hid (ownsD_empty w w.heap.size (Nat.le_refl _))
  clear hr
  go_enter Tryz.func25, Tryz.ntmps25
  go_wp2
  go_loopw [3, 5, 9] (fun rv _ i wr => ∃ k : Nat, k ≤ cs.length ∧ i = .int .i64 (k : Int) ∧ OwnsD wr w.heap.size rv (cs.take k) ∧ Below w.heap.size w wr)
    (fun _ _ i _ => cs.length - (intOf i).toNat)
  case atStart => exact ⟨0, Nat.zero_le _, rfl, HE.out, (Below.refl _ _).alloc (Nat.le_refl _) _⟩
  case round =>
    clear HE
    obtain ⟨k, hk, rfl, hown, hb⟩ := hrel
    have HB := Lib.hid hb
    have HOW := Lib.hid hown
    clear hb hown
    by_cases hlt : k < cs.length
    · obtain ⟨b, off, x, rfl, hbb, _, c0, c1, hat⟩ := HR.out.at hlt
      have d0 := (HB.out.cell (p := ⟨b, off + k * 2, none⟩) hbb).trans c0
      have d1 := (HB.out.cell (p := ⟨b, off + k * 2 + 1, none⟩) hbb).trans c1
      have HTK := Lib.hid (take_snocI cs k hlt)
      generalize hg : cs.getD k (0, []) = g at d0 d1 hat
      rw [hg] at HTK
      obtain ⟨kk, d⟩ := g
      simp only at d0 hat
      obtain ⟨aot, capt, rfl, _, _, _⟩ := hat.reads.val
      have HAT := Lib.hid (hat.keep (kept_below HB.out))
      clear hg hat c0 c1
      have hlti : (k : Int) < cs.length := by omega
      have hal : Below wr.heap.size wr (wr.alloc (.cells #[.int .i64 kk, .slice aot d.length capt] 72)) := (Below.refl _ _).alloc (Nat.le_refl _) _
      have HAL := Lib.hid hal
      clear hal
      go_wp2_with fail
      refine (document_any kk _ d _ (HAT.out.old HAL.out).reads).mono ?_
      rintro e w1 ⟨rfl, hb1⟩
      have hb01 := HAL.out.trans (hb1.mono HAL.out.size)
      have HB1 := Lib.hid (HB.out.trans (hb01.mono HB.out.size))
      have HO1 := Lib.hid (HOW.out.below hb01)
      have hal2 : Below w1.heap.size w1 (w1.alloc (.cells #[.int .i64 kk, .string (S8 d)] 77)) := (Below.refl _ _).alloc (Nat.le_refl _) _
      have HO2 := Lib.hid (HO1.out.below hal2)
      have HB2 := Lib.hid (HB1.out.trans (hal2.mono HB1.out.size))
      clear hb1 hb01 hal2 HB HOW HAL HAT d0 d1 HO1
      obtain ⟨aor, capr, hv⟩ := HO2.out.form
      have hmk : (cs.take k).length = k := by rw [List.length_take]; omega
      rw [hmk] at hv
      subst hv
      go_wp2_with (at_builtin; go_must (refine wpList_appD _ rfl _ _ rfl w.heap.size _ (cs.take k) rfl HO2.out (kk, d) w1 rfl rfl ?c1 ?c3 ?_))
      case c1 => omega
      case c3 => exact HB2.out.size
      rw [← HTK.out]
      intro v3 w3 ho3 hg3
      have HO3 := Lib.hid ho3
      have HB3 := Lib.hid (HB2.out.grown hg3 HB2.out.size (fun j hj => (HO2.out.lt _ hj).1))
      clear ho3 hg3 HO2 HB2
      go_wp2
      go_roundw
      case rel => exact ⟨k + 1, by omega, by go_num, HO3.out, HB3.out⟩
      case measure => simp [intOf]; omega
    · obtain rfl : k = cs.length := by omega
      rw [List.take_length] at HOW
      go_wp2
      go_ret
      exact ⟨_, rfl, HOW.out, HB.out⟩

end Go.Proofs.YtpebmmhokigglaaGreatDoor

namespace Go.Proofs.YtpebmmhokigglaaGreatDoor
open Go.RowKit

theorem strCells_S8 (l : List Nat) (h : ∀ y ∈ l, y < 256) : Lib.strCells (S8 l) = vals .u8 l := by
  unfold Lib.strCells
  rw [S8_list, List.map_map, List.map_map]
  unfold vals
  refine List.map_congr_left fun y hy => ?_
  have := h y hy
  simp [Nat.mod_eq_of_lt this]

/-- A string's tail. -/
theorem slice_S8l (l : List Nat) (n : Nat) (hn : n ≤ l.length) (w : World) : (Instr.slice 9 (.string (S8 l)) (some (.int .i64 (n : Int))) none none).run Tryz.prog w = .ok (.string (S8 (l.drop n))) w := by
  rw [run_slice_string_l w 9 (S8 l) Tryz.underlying9 .i64 (n : Int) (by omega) (by rw [S8_size]; omega)]
  rw [Int.toNat_natCast, S8_drop l n]

/-- What is left of a run behind a cell of a kind: no more cells of its row. -/
def aft (p : Option Nat) (rest : List CC) : List CC :=
  match p with
  | none => rest
  | some k => if k = 1 then rest else rest.drop (lead k rest)
theorem aft_other {p : Option Nat} {k : Nat} {d : List Nat} {r : List CC} (h : p = some k → k = 1) : aft p ((k, d) :: r) = (k, d) :: r := by
  unfold aft
  match p, h with
  | none, _ => rfl
  | some j, h =>
    simp only
    by_cases hj : j = 1
    · rw [if_pos hj]
    · rw [if_neg hj]
      have : lead j ((k, d) :: r) = 0 := by
        unfold lead
        rw [if_neg]
        rintro rfl
        exact hj (h rfl)
      rw [this]
      rfl
theorem aft_same {k : Nat} {d : List Nat} {r : List CC} (hk : k ≠ 1) : aft (some k) ((k, d) :: r) = aft (some k) r := by
  unfold aft
  simp only
  rw [if_neg hk, if_neg hk]
  have : lead k ((k, d) :: r) = lead k r + 1 := by
    conv => lhs; unfold lead
    rw [if_pos rfl]
  rw [this, List.drop_succ_cons]

theorem drop_cons (run : List CC) (i : Nat) (h : i < run.length) : run.drop i = run.getD i (0, []) :: run.drop (i + 1) := by
  rw [List.drop_eq_getElem_cons h]
  simp [List.getD, h]
theorem getD_drop (run : List CC) (i j : Nat) : (run.drop i).getD j (0, []) = run.getD (i + j) (0, []) := by
  rw [List.getD_eq_getElem?_getD, List.getElem?_drop, ← List.getD_eq_getElem?_getD]

theorem ditem_eq {last d : List Nat} (hd : d.length ≤ 64) : ditem last d = [0, d.length, com d last] ++ d.drop (com d last) := by
  have := com_le_left d last
  unfold ditem
  rw [enc_small (n := 0) (by omega), enc_small (n := d.length) (by omega), enc_small (n := com d last) (by omega)]
  rfl

/-- The kind of the cell ahead. -/
def prevK (run : List CC) (i : Nat) : Option Nat := if i = 0 then none else some (run.getD (i - 1) (0, [])).1

end Go.Proofs.YtpebmmhokigglaaGreatDoor

namespace Go.Proofs.YtpebmmhokigglaaGreatDoor
open Go.RowKit

theorem rbytes_len {run : List CC} (hl : run.length ≤ 64) (hok : ∀ c ∈ run, okC c) : (rbytes run).length ≤ 6410 := by
  have h1 := items_len _ run [] rfl hl hok
  have h2 := enc_len10 (n := run.length) (by unfold U64; omega)
  unfold rbytes
  rw [List.length_append]
  omega

theorem lit_two (wr : World) (o : Obj) (q m kk : Nat) : Reads (((wr.alloc o).drewN q).alloc (.cells #[.int .u8 (m : Int), .int .u8 (kk : Int)] 5)) .u8 (.slice (some ⟨wr.heap.size + 1, 0, none⟩) 2 2) [m, kk] := by
  have h := reads_marked ((wr.alloc o).drewN q) 5 .u8 [m, kk] #[.int .u8 (m : Int), .int .u8 (kk : Int)] (0, 0) rfl (by simp [maxLen])
  have e : ((wr.alloc o).drewN q).heap.size = wr.heap.size + 1 := by show (wr.alloc o).heap.size = _; simp
  rw [e] at h
  exact h

set_option maxHeartbeats 4000000 in
set_option maxRecDepth 100000 in
theorem rrun_any (v : Value) (run : List CC) (w : World) (base : Nat) (hown : OwnsD w base v (run.map toIC)) (hok : ∀ c ∈ run, okC c) (hl : run.length ≤ 64) :
    Calls Tryz.prog 51 #[v] w fun e w' => ∃ v', e = .returned v' ∧ Owns w' w.heap.size 5 .u8 v' (rbytes run) ∧ Below w.heap.size w w' := by
  obtain ⟨ao, cap, hv⟩ := hown.form
  rw [List.length_map] at hv
  subst hv
  obtain ⟨i5, hi5, hz5, hs5, hb5⟩ := info_parts Tryz.info5
  have HI5 := Lib.hid hi5
  have HZ5 := Lib.hid hz5
  have HS5 := Lib.hid hs5
  have HBY5 := Lib.hid hb5
  have HR := Lib.hid hown
  have HOK := Lib.hid hok
  have HRL := Lib.hid (rbytes_len hl hok)
  have hwr : IntKind.u64.wrap (run.length : Int) = (run.length : Int) := IntWalk.u64_in _ (by omega)
  clear hown hok hi5 hz5 hs5 hb5
  go_enter Tryz.func51, Tryz.ntmps51
  go_wp2_with fail
  refine (refBytes_any run.length w (by unfold U64; omega)).mono ?_
  rintro e w1 ⟨v1, rfl, ho1, hb1⟩
  have HO1 := Lib.hid ho1
  have HB1 := Lib.hid hb1
  clear ho1 hb1
  go_wp2
  go_loopw [3, 4, 5, 6, 7, 8] (fun ov lv i _ _ _ wr => ∃ (k : Nat) (done last : List Nat), k ≤ run.length ∧ i = .int .i64 (k : Int) ∧ lv = .string (S8 last) ∧ last.length ≤ 64 ∧ (∀ y ∈ last, y < 256) ∧
      rbytes run = done ++ items last (aft (prevK run k) (run.drop k)) ∧ Owns wr w.heap.size 5 .u8 ov done ∧ Below w.heap.size w wr)
    (fun _ _ i _ _ _ _ => run.length - (intOf i).toNat)
  case atStart => exact ⟨0, enc run.length, [], Nat.zero_le _, rfl, rfl, by simp, by simp, rfl, HO1.out, HB1.out⟩
  case round =>
    clear HO1 HB1
    obtain ⟨k, done, last, hk, rfl, rfl, hll, hl8, hit, ho, hb⟩ := hrel
    have HIT := Lib.hid hit
    have HO := Lib.hid ho
    have HB := Lib.hid hb
    have HL8 := Lib.hid hl8
    have hdl : done.length ≤ 6410 := by have := HRL.out; rw [hit, List.length_append] at this; omega
    clear hit ho hb hl8
    by_cases hlt : k < run.length
    · obtain ⟨g, rfl, hg, c0, c1⟩ := HR.out.at (i := k) (by simpa using hlt)
      rw [getD_toIC _ _ hlt] at c0 c1
      have d0 := (HB.out.cell (p := ⟨g, k * 2, none⟩) hg).trans c0
      have d1 := (HB.out.cell (p := ⟨g, k * 2 + 1, none⟩) hg).trans c1
      have HDC := Lib.hid (drop_cons run k hlt)
      have hmem : run.getD k (0, []) ∈ run := by rw [List.getD_eq_getElem?_getD, List.getElem?_eq_getElem hlt]; exact List.getElem_mem hlt
      have hokc := HOK.out _ hmem
      have HPK : Hid (prevK run (k + 1) = some (run.getD k (0, [])).1) := Lib.hid rfl
      generalize hgd : run.getD k (0, []) = c at d0 d1 hokc
      rw [hgd] at HDC HPK
      have HGD := Lib.hid hgd
      obtain ⟨kk, d⟩ := c
      simp only [toIC] at d0 d1
      obtain ⟨hk3, hd64, hdn, hd8⟩ := hokc
      simp only at hk3 hd64 hdn hd8
      have HDN := Lib.hid hdn
      have HD8 := Lib.hid hd8
      clear hgd hmem c0 c1 hdn hd8
      have hlti : (k : Int) < (run.length : Int) := by omega
      obtain ⟨W, hW⟩ : ∃ W, W = wr.alloc (.cells #[.int .i64 (kk : Int), .string (S8 d)] 77) := ⟨_, rfl⟩
      have hal : Below wr.heap.size wr W := by rw [hW]; exact (Below.refl _ _).alloc (Nat.le_refl _) _
      have hbox : W.heap[wr.heap.size]? = some (.cells #[.int .i64 (kk : Int), .string (S8 d)] 77 (0, 0)) := by rw [hW]; exact heap_alloc_new _ _
      have HBW := Lib.hid (HB.out.trans (hal.mono HB.out.size))
      have HOW := Lib.hid (HO.out.below hal (Nat.le_refl _))
      have HOLT := Lib.hid HO.out.lt
      have HBOX := Lib.hid hbox
      have HW := Lib.hid hW
      have hsd : ((S8 d).size : Int) = (d.length : Int) := by rw [S8_size]
      clear hal hbox hW HB HO
      by_cases hk1 : kk = 1
      · subst hk1
        have HW1 : Hid (W = wr.alloc (.cells #[.int .i64 1, .string (S8 d)] 77)) := HW
        have HBX1 : Hid (W.heap[wr.heap.size]? = some (.cells #[.int .i64 1, .string (S8 d)] 77 (0, 0))) := HBOX
        have d0' : wr.cell? ⟨g, k * 2, none⟩ = some (.int .i64 1) := d0
        have hcl := com_le_left d last
        have HIT2 : Hid (rbytes run = (done ++ ([0, d.length, com d last] ++ d.drop (com d last))) ++ items d (aft (prevK run (k + 1)) (run.drop (k + 1)))) := Lib.hid (by
          rw [HIT.out, HDC.out, aft_other (fun h => rfl), items_data, HPK.out]
          have := ditem_eq (last := last) hd64
          unfold ditem at this
          unfold aft
          simp only [if_true]
          rw [List.append_assoc, ← this]
          simp [List.append_assoc])
        have hb2 := HBX1.out
        rw [HW1.out] at hb2
        obtain ⟨x0, x1, _, _⟩ := blk2 hb2
        clear hb2 d0 HBOX HW
        go_wp2_with fail
        rw [← HW1.out]
        refine (refCommon_any d last W HD8.out HL8.out (by omega) (by omega)).mono ?_
        rintro e w3 ⟨rfl, hb3⟩
        have HB3 := Lib.hid (HBW.out.trans (hb3.mono HBW.out.size))
        have HO3 := Lib.hid (HOW.out.below hb3 (Nat.le_refl _))
        have HBX3 := Lib.hid ((hb3.block _ (Array.getElem?_eq_some_iff.1 HBX1.out).1).trans HBX1.out)
        clear hb3 HBW HOW HBX1 x0 x1 d0' d1
        generalize com d last = s at hcl HIT2
        obtain ⟨x0, x1, _, _⟩ := blk2 HBX3.out
        have hw1 : IntKind.u8.wrap (d.length : Int) = (d.length : Int) := IntWalk.u8_in _ (by omega)
        have hw2 : IntKind.u8.wrap (s : Int) = (s : Int) := IntWalk.u8_in _ (by omega)
        have HLIT := Lib.hid (reads_marked w3 5 .u8 [0, d.length, s] #[.int .u8 0, .int .u8 (d.length : Int), .int .u8 (s : Int)] (0, 0) rfl (by simp [maxLen]))
        have hal : Below w3.heap.size w3 (w3.alloc (.cells #[.int .u8 0, .int .u8 (d.length : Int), .int .u8 (s : Int)] 5)) := (Below.refl _ _).alloc (Nat.le_refl _) _
        have HO4 := Lib.hid (HO3.out.below hal (Nat.le_refl _))
        have HB4 := Lib.hid (HB3.out.trans (hal.mono HB3.out.size))
        have HBX4 := Lib.hid ((hal.block _ (Array.getElem?_eq_some_iff.1 HBX3.out).1).trans HBX3.out)
        clear hal
        go_wp2_with (at_builtin; go_must (refine wpList_app _ rfl _ _ 29 rfl w.heap.size 5 (.int .u8 0) 1 Tryz.underlying29 Tryz.info5 rfl .u8 _ done rfl HO4.out _ [0, d.length, s] rfl HLIT.out (by decide) ?c1 ?c3 ?_))
        case c1 => simp only [List.length_cons, List.length_nil]; omega
        case c3 => exact HB4.out.size
        intro v5 w5 ho5 hg5
        have HB5 := Lib.hid (HB4.out.grown hg5 HB4.out.size (fun j hj => (HO4.out.lt j hj).1))
        have HO5 := Lib.hid ho5
        have hb5 := (hg5.block _ (Array.getElem?_eq_some_iff.1 HBX4.out).1 (fun e => by have := (HOLT.out _ e.symm).2; omega)).trans HBX4.out
        have HBX5 := Lib.hid hb5
        have HLT5 : Hid (∀ j, v5.ownBlock = some j → j ≠ wr.heap.size) := Lib.hid (fun j hj he => by
          subst he
          rcases HO5.out.2 with ⟨rfl, _⟩ | ⟨g', cap', cur, rfl, _, hg', _⟩
          · cases hj
          · cases hj
            have hcon := hb5.symm.trans hg'
            cases hcon)
        clear ho5 hg5 hb5 HO4 HB4 HBX4 HO3 HB3 HBX3 HLIT x0 x1
        obtain ⟨x0, x1, _, _⟩ := blk2 HBX5.out
        have hsl := fun W => slice_S8l d s hcl W
        have hst : Lib.strCells (S8 (d.drop s)) = vals .u8 (d.drop s) := strCells_S8 _ (fun y hy => HD8.out y (List.mem_of_mem_drop hy))
        have hss := S8_size (d.drop s)
        have hdd : (d.drop s).length ≤ 64 := by rw [List.length_drop]; omega
        have HST := Lib.hid hst
        have HSS := Lib.hid hss
        clear hst hss
        go_wp2_with (at_builtin; go_must (refine Lib.wpList_append_own_string _ rfl _ _ 29 9 rfl w.heap.size 5 i5 Tryz.underlying29 Tryz.underlying9 HI5.out HZ5.out HS5.out HBY5.out _ (done ++ [0, d.length, s]).length (vals .u8 (done ++ [0, d.length, s])) rfl HO5.out (S8 (d.drop s)) rfl ?c5 ?c6 ?c7 ?_))
        case c5 => rw [HSS.out]; simp only [maxLen, List.length_append, List.length_cons, List.length_nil]; omega
        case c6 => rw [HSS.out]; simp only [List.length_append, List.length_cons, List.length_nil]; omega
        case c7 => exact HB5.out.size
        rw [HST.out, HSS.out]
        intro v6 w6 ho6 hg6 _
        have HB6 := Lib.hid (HB5.out.grown hg6 HB5.out.size (fun j hj => (HO5.out.lt j hj).1))
        have HO6 : Hid (Owns w6 w.heap.size 5 .u8 v6 (done ++ ([0, d.length, s] ++ d.drop s))) := Lib.hid (by
          have e : (done ++ ([0, d.length, s] ++ d.drop s)).length = done.length + 3 + (d.drop s).length := by simp; omega
          unfold Owns
          rw [e, ← List.append_assoc, vals_append]
          exact ho6)
        have HBX6 := Lib.hid ((hg6.block _ (Array.getElem?_eq_some_iff.1 HBX5.out).1 (fun e => HLT5.out _ e.symm rfl)).trans HBX5.out)
        clear ho6 hg6 HB5 HO5 HBX5 x0 x1 HST HSS
        obtain ⟨x0, x1, _, _⟩ := blk2 HBX6.out
        go_wp2
        go_roundw
        case rel => exact ⟨k + 1, done ++ ([0, d.length, s] ++ d.drop s), d, by omega, by go_num, rfl, hd64, HD8.out, HIT2.out, HO6.out, HB6.out⟩
        case measure => simp [intOf]; omega
      · have hk1i : ((kk : Int) == 1) = false := by rw [beq_eq_false_iff_ne]; omega
        by_cases hs : prevK run k = some kk
        · have hk0 : k ≠ 0 := by
            rintro rfl
            cases hs
          obtain ⟨j, rfl⟩ : ∃ j, k = j + 1 := ⟨k - 1, by omega⟩
          have hpk : (run.getD j (0, [])).1 = kk := Option.some.inj hs
          obtain ⟨g2, hg2, _, e0, _⟩ := HR.out.at (i := j) (by simp; omega)
          obtain rfl : g = g2 := by cases hg2; rfl
          rw [getD_toIC _ _ (by omega)] at e0
          have f0 := (HBW.out.cell (p := ⟨g, j * 2, none⟩) hg).trans e0
          simp only [toIC, hpk] at f0
          have HIT2 : Hid (rbytes run = done ++ items last (aft (prevK run (j + 1 + 1)) (run.drop (j + 1 + 1)))) := Lib.hid (by
            rw [HIT.out, HDC.out, hs, aft_same hk1, HPK.out])
          have hb2 := HBOX.out
          rw [HW.out] at hb2 f0
          obtain ⟨x0, x1, _, _⟩ := blk2 hb2
          rw [HW.out] at HBW HOW
          have hj0 : (0 : Int) < ((j : Int) + 1) := by omega
          have hjl : (j : Int) < (run.length : Int) := by omega
          clear hb2 hpk hg2 e0 hs HBOX
          go_wp2_with fail
          go_quiet (fail)
          go_wp2
          go_roundw
          case rel => exact ⟨j + 1 + 1, done, last, by omega, by go_num, rfl, hll, HL8.out, HIT2.out, HOW.out.below (below_dN (Below.refl _ _)) (Nat.le_refl _), below_dN HBW.out⟩
          case measure => simp [intOf]; omega
        · have hb2 := HBOX.out
          rw [HW.out] at hb2 HBW HOW
          obtain ⟨x0, x1, _, _⟩ := blk2 hb2
          have HS := Lib.hid hs
          have HIT2 : Hid (rbytes run = done ++ items last ((kk, d) :: run.drop (k + 1))) := Lib.hid (by
            rw [HIT.out, HDC.out, aft_other (fun h => absurd h HS.out)])
          clear hb2 hs HBOX
          have hkw : IntKind.u8.wrap (kk : Int) = (kk : Int) := IntWalk.u8_in _ (by omega)
          have HKN : Hid (prevK run (k + 1) = some kk) := HPK
          by_cases hk0 : k = 0
          · have hkd : decide (0 < k) = false := by rw [decide_eq_false_iff_not]; omega
            have HK0 := Lib.hid hk0
            clear hk0
            go_wp2_with fail
            go_quiet (fail)
            go_wp2
            go_loopw [8] (fun nv wr2 => ∃ (m q : Nat), 1 ≤ m ∧ k + m ≤ run.length ∧ nv = .int .i64 (m : Int) ∧ (∀ c ∈ (run.drop (k + 1)).take (m - 1), c.1 = kk) ∧ wr2 = (wr.alloc (.cells #[.int .i64 (kk : Int), .string (S8 d)] 77)).drewN q)
              (fun nv _ => run.length - (intOf nv).toNat)
            case atStart => exact ⟨1, _, by omega, by omega, rfl, by simp, rfl⟩
            case round =>
              obtain ⟨m, q, hm1, hkm, rfl, hpre, rfl⟩ := hrel
              have HPRE := Lib.hid hpre
              clear hpre
              by_cases hlen : k + m < run.length
              · obtain ⟨g3, hg3, _, e1, _⟩ := HR.out.at (i := k + m) (by simp; omega)
                obtain rfl : g = g3 := by cases hg3; rfl
                rw [getD_toIC _ _ hlen] at e1
                have f1 := (HBW.out.cell (p := ⟨g, (k + m) * 2, none⟩) hg).trans e1
                have HTK : Hid ((run.drop (k + 1)).take m = (run.drop (k + 1)).take (m - 1) ++ [run.getD (k + m) (0, [])]) := Lib.hid (by
                  have := take_snocC (run.drop (k + 1)) (m - 1) (by rw [List.length_drop]; omega)
                  rw [getD_drop, show m - 1 + 1 = m by omega, show k + 1 + (m - 1) = k + m by omega] at this
                  exact this)
                have HST : Hid ((run.getD (k + m) (0, [])).1 ≠ kk → lead kk (run.drop (k + 1)) = m - 1) := Lib.hid (fun h =>
                  lead_step (n := m - 1) (by rw [List.length_drop]; omega) HPRE.out (by rw [getD_drop, show k + 1 + (m - 1) = k + m by omega]; exact h))
                simp only [toIC] at f1
                generalize run.getD (k + m) (0, []) = c2 at f1 HTK HST
                obtain ⟨pk2, d2⟩ := c2
                simp only at f1
                have hdt : decide (k + m < run.length) = true := decide_eq_true hlen
                have hli : (((k : Int) + (m : Int)) : Int) < (run.length : Int) := by omega
                clear hg3 e1
                by_cases hpe : pk2 = kk
                · have hbe : ((pk2 : Int) == (kk : Int)) = true := by rw [beq_iff_eq, hpe]
                  have HN : Hid (∀ c ∈ (run.drop (k + 1)).take (m + 1 - 1), c.1 = kk) := Lib.hid (by
                    rw [Nat.add_sub_cancel, HTK.out]
                    intro c hc
                    rcases List.mem_append.1 hc with hc | hc
                    · exact HPRE.out c hc
                    · rw [List.mem_singleton.1 hc]; exact hpe)
                  clear HTK HST hpe
                  go_wp2_with fail
                  go_quiet (fail)
                  go_wp2
                  go_roundw
                  case rel => exact ⟨m + 1, _, by omega, by omega, by go_num, HN.out, rfl⟩
                  case measure => simp [intOf]; omega
                · have hbe : ((pk2 : Int) == (kk : Int)) = false := by rw [beq_eq_false_iff_ne]; omega
                  have HLD := Lib.hid (HST.out hpe)
                  clear HTK HST hpe hlen
                  have HIT3 : Hid (rbytes run = (done ++ [m, kk]) ++ items last (aft (prevK run (k + 1)) (run.drop (k + 1)))) := Lib.hid (by
                    rw [HIT2.out, items_row _ _ _ _ hk1, HLD.out, HKN.out, show m - 1 + 1 = m by omega, enc_small (n := m) (by omega), enc_small (n := kk) (by omega)]
                    unfold aft
                    simp only
                    rw [if_neg hk1, HLD.out]
                    simp)
                  have HLIT : ∀ q : Nat, Reads (((wr.alloc (.cells #[.int .i64 (kk : Int), .string (S8 d)] 77)).drewN q).alloc (.cells #[.int .u8 (m : Int), .int .u8 (kk : Int)] 5)) .u8 (.slice (some ⟨wr.heap.size + 1, 0, none⟩) 2 2) [m, kk] := fun q => lit_two wr _ q m kk
                  have hmw : IntKind.u8.wrap (m : Int) = (m : Int) := IntWalk.u8_in _ (by omega)
                  clear HLD HIT2
                  go_wp2_with fail
                  go_quiet (fail)
                  go_wp2_with (at_builtin; go_must (refine wpList_app _ rfl _ _ 29 rfl w.heap.size 5 (.int .u8 0) 1 Tryz.underlying29 Tryz.info5 rfl .u8 _ done rfl (HOW.out.below (below_dN ((Below.refl _ _))) (Nat.le_refl _) |>.alloc _) _ [m, kk] rfl (HLIT _) (by decide) (by simp only [List.length_cons, List.length_nil]; omega) (by have := HBW.out.size; simp at this ⊢; omega) ?_))
                  intro v5 w5 ho5 hg5
                  have HB5 := Lib.hid (((below_dN HBW.out).alloc (by have := HBW.out.size; simp at this ⊢; omega) _).grown hg5 (by have := HBW.out.size; simp at this ⊢; omega) (fun j hj => (HOW.out.lt j hj).1))
                  have HO5 := Lib.hid ho5
                  clear ho5 hg5
                  go_wp2
                  go_roundw
                  case rel => exact ⟨k + 1, done ++ [m, kk], last, by omega, by go_num, rfl, hll, HL8.out, HIT3.out, HO5.out, HB5.out⟩
                  case measure => simp [intOf]; omega
              · have HLD : Hid (lead kk (run.drop (k + 1)) = m - 1) := Lib.hid (by
                  have hm : m - 1 = (run.drop (k + 1)).length := by rw [List.length_drop]; omega
                  rw [hm]
                  refine lead_all (fun c hc => HPRE.out c ?_)
                  rw [hm, List.take_length]
                  exact hc)
                have hdt : decide (k + m < run.length) = false := decide_eq_false hlen
                have hdi : ¬ ((((k : Int) + (m : Int)) : Int) < (run.length : Int)) := by omega
                have hdj : decide ((((k : Int) + (m : Int)) : Int) < (run.length : Int)) = false := decide_eq_false hdi
                clear hlen
                have HIT3 : Hid (rbytes run = (done ++ [m, kk]) ++ items last (aft (prevK run (k + 1)) (run.drop (k + 1)))) := Lib.hid (by
                  rw [HIT2.out, items_row _ _ _ _ hk1, HLD.out, HKN.out, show m - 1 + 1 = m by omega, enc_small (n := m) (by omega), enc_small (n := kk) (by omega)]
                  unfold aft
                  simp only
                  rw [if_neg hk1, HLD.out]
                  simp)
                have HLIT : ∀ q : Nat, Reads (((wr.alloc (.cells #[.int .i64 (kk : Int), .string (S8 d)] 77)).drewN q).alloc (.cells #[.int .u8 (m : Int), .int .u8 (kk : Int)] 5)) .u8 (.slice (some ⟨wr.heap.size + 1, 0, none⟩) 2 2) [m, kk] := fun q => lit_two wr _ q m kk
                have hmw : IntKind.u8.wrap (m : Int) = (m : Int) := IntWalk.u8_in _ (by omega)
                clear HLD HIT2
                go_wp2_with fail
                go_quiet (fail)
                go_wp2_with (at_builtin; go_must (refine wpList_app _ rfl _ _ 29 rfl w.heap.size 5 (.int .u8 0) 1 Tryz.underlying29 Tryz.info5 rfl .u8 _ done rfl (HOW.out.below (below_dN ((Below.refl _ _))) (Nat.le_refl _) |>.alloc _) _ [m, kk] rfl (HLIT _) (by decide) (by simp only [List.length_cons, List.length_nil]; omega) (by have := HBW.out.size; simp at this ⊢; omega) ?_))
                intro v5 w5 ho5 hg5
                have HB5 := Lib.hid (((below_dN HBW.out).alloc (by have := HBW.out.size; simp at this ⊢; omega) _).grown hg5 (by have := HBW.out.size; simp at this ⊢; omega) (fun j hj => (HOW.out.lt j hj).1))
                have HO5 := Lib.hid ho5
                clear ho5 hg5
                go_wp2
                go_roundw
                case rel => exact ⟨k + 1, done ++ [m, kk], last, by omega, by go_num, rfl, hll, HL8.out, HIT3.out, HO5.out, HB5.out⟩
                case measure => simp [intOf]; omega
          · obtain ⟨j, rfl⟩ : ∃ j, k = j + 1 := ⟨k - 1, by omega⟩
            have hpk : (((run.getD j (0, [])).1 : Int) == (kk : Int)) = false := by
              rw [beq_eq_false_iff_ne]
              intro he
              refine HS.out ?_
              unfold prevK
              rw [if_neg (by omega)]
              congr 1
              show (run.getD j (0, [])).1 = kk
              omega
            obtain ⟨g2, hg2, _, e0, _⟩ := HR.out.at (i := j) (by simp; omega)
            obtain rfl : g = g2 := by cases hg2; rfl
            rw [getD_toIC _ _ (by omega)] at e0
            have f0 := (HBW.out.cell (p := ⟨g, j * 2, none⟩) hg).trans e0
            simp only [toIC] at f0
            generalize (run.getD j (0, [])).1 = pk at hpk f0
            have hj0 : (0 : Int) < ((j : Int) + 1) := by omega
            have hjl : (j : Int) < (run.length : Int) := by omega
            clear hg2 e0 hk0
            go_wp2_with fail
            go_quiet (fail)
            go_wp2
            go_loopw [8] (fun nv wr2 => ∃ (m q : Nat), 1 ≤ m ∧ (j + 1) + m ≤ run.length ∧ nv = .int .i64 (m : Int) ∧ (∀ c ∈ (run.drop ((j + 1) + 1)).take (m - 1), c.1 = kk) ∧ wr2 = (wr.alloc (.cells #[.int .i64 (kk : Int), .string (S8 d)] 77)).drewN q)
              (fun nv _ => run.length - (intOf nv).toNat)
            case atStart => exact ⟨1, _, by omega, by omega, rfl, by simp, rfl⟩
            case round =>
              obtain ⟨m, q, hm1, hkm, rfl, hpre, rfl⟩ := hrel
              have HPRE := Lib.hid hpre
              clear hpre
              by_cases hlen : (j + 1) + m < run.length
              · obtain ⟨g3, hg3, _, e1, _⟩ := HR.out.at (i := (j + 1) + m) (by simp; omega)
                obtain rfl : g = g3 := by cases hg3; rfl
                rw [getD_toIC _ _ hlen] at e1
                have f1 := (HBW.out.cell (p := ⟨g, ((j + 1) + m) * 2, none⟩) hg).trans e1
                have HTK : Hid ((run.drop ((j + 1) + 1)).take m = (run.drop ((j + 1) + 1)).take (m - 1) ++ [run.getD ((j + 1) + m) (0, [])]) := Lib.hid (by
                  have := take_snocC (run.drop ((j + 1) + 1)) (m - 1) (by rw [List.length_drop]; omega)
                  rw [getD_drop, show m - 1 + 1 = m by omega, show (j + 1) + 1 + (m - 1) = (j + 1) + m by omega] at this
                  exact this)
                have HST : Hid ((run.getD ((j + 1) + m) (0, [])).1 ≠ kk → lead kk (run.drop ((j + 1) + 1)) = m - 1) := Lib.hid (fun h =>
                  lead_step (n := m - 1) (by rw [List.length_drop]; omega) HPRE.out (by rw [getD_drop, show (j + 1) + 1 + (m - 1) = (j + 1) + m by omega]; exact h))
                simp only [toIC] at f1
                generalize run.getD ((j + 1) + m) (0, []) = c2 at f1 HTK HST
                obtain ⟨pk2, d2⟩ := c2
                simp only at f1
                have hdt : decide ((j + 1) + m < run.length) = true := decide_eq_true hlen
                have hli : (((j : Int) + 1 + (m : Int)) : Int) < (run.length : Int) := by omega
                clear hg3 e1
                by_cases hpe : pk2 = kk
                · have hbe : ((pk2 : Int) == (kk : Int)) = true := by rw [beq_iff_eq, hpe]
                  have HN : Hid (∀ c ∈ (run.drop ((j + 1) + 1)).take (m + 1 - 1), c.1 = kk) := Lib.hid (by
                    rw [Nat.add_sub_cancel, HTK.out]
                    intro c hc
                    rcases List.mem_append.1 hc with hc | hc
                    · exact HPRE.out c hc
                    · rw [List.mem_singleton.1 hc]; exact hpe)
                  clear HTK HST hpe
                  go_wp2_with fail
                  go_quiet (fail)
                  go_wp2
                  go_roundw
                  case rel => exact ⟨m + 1, _, by omega, by omega, by go_num, HN.out, rfl⟩
                  case measure => simp [intOf]; omega
                · have hbe : ((pk2 : Int) == (kk : Int)) = false := by rw [beq_eq_false_iff_ne]; omega
                  have HLD := Lib.hid (HST.out hpe)
                  clear HTK HST hpe hlen
                  have HIT3 : Hid (rbytes run = (done ++ [m, kk]) ++ items last (aft (prevK run ((j + 1) + 1)) (run.drop ((j + 1) + 1)))) := Lib.hid (by
                    rw [HIT2.out, items_row _ _ _ _ hk1, HLD.out, HKN.out, show m - 1 + 1 = m by omega, enc_small (n := m) (by omega), enc_small (n := kk) (by omega)]
                    unfold aft
                    simp only
                    rw [if_neg hk1, HLD.out]
                    simp)
                  have HLIT : ∀ q : Nat, Reads (((wr.alloc (.cells #[.int .i64 (kk : Int), .string (S8 d)] 77)).drewN q).alloc (.cells #[.int .u8 (m : Int), .int .u8 (kk : Int)] 5)) .u8 (.slice (some ⟨wr.heap.size + 1, 0, none⟩) 2 2) [m, kk] := fun q => lit_two wr _ q m kk
                  have hmw : IntKind.u8.wrap (m : Int) = (m : Int) := IntWalk.u8_in _ (by omega)
                  clear HLD HIT2
                  go_wp2_with fail
                  go_quiet (fail)
                  go_wp2_with (at_builtin; go_must (refine wpList_app _ rfl _ _ 29 rfl w.heap.size 5 (.int .u8 0) 1 Tryz.underlying29 Tryz.info5 rfl .u8 _ done rfl (HOW.out.below (below_dN ((Below.refl _ _))) (Nat.le_refl _) |>.alloc _) _ [m, kk] rfl (HLIT _) (by decide) (by simp only [List.length_cons, List.length_nil]; omega) (by have := HBW.out.size; simp at this ⊢; omega) ?_))
                  intro v5 w5 ho5 hg5
                  have HB5 := Lib.hid (((below_dN HBW.out).alloc (by have := HBW.out.size; simp at this ⊢; omega) _).grown hg5 (by have := HBW.out.size; simp at this ⊢; omega) (fun j hj => (HOW.out.lt j hj).1))
                  have HO5 := Lib.hid ho5
                  clear ho5 hg5
                  go_wp2
                  go_roundw
                  case rel => exact ⟨(j + 1) + 1, done ++ [m, kk], last, by omega, by go_num, rfl, hll, HL8.out, HIT3.out, HO5.out, HB5.out⟩
                  case measure => simp [intOf]; omega
              · have HLD : Hid (lead kk (run.drop ((j + 1) + 1)) = m - 1) := Lib.hid (by
                  have hm : m - 1 = (run.drop ((j + 1) + 1)).length := by rw [List.length_drop]; omega
                  rw [hm]
                  refine lead_all (fun c hc => HPRE.out c ?_)
                  rw [hm, List.take_length]
                  exact hc)
                have hdt : decide ((j + 1) + m < run.length) = false := decide_eq_false hlen
                have hdi : ¬ ((((j : Int) + 1 + (m : Int)) : Int) < (run.length : Int)) := by omega
                have hdj : decide ((((j : Int) + 1 + (m : Int)) : Int) < (run.length : Int)) = false := decide_eq_false hdi
                clear hlen
                have HIT3 : Hid (rbytes run = (done ++ [m, kk]) ++ items last (aft (prevK run ((j + 1) + 1)) (run.drop ((j + 1) + 1)))) := Lib.hid (by
                  rw [HIT2.out, items_row _ _ _ _ hk1, HLD.out, HKN.out, show m - 1 + 1 = m by omega, enc_small (n := m) (by omega), enc_small (n := kk) (by omega)]
                  unfold aft
                  simp only
                  rw [if_neg hk1, HLD.out]
                  simp)
                have HLIT : ∀ q : Nat, Reads (((wr.alloc (.cells #[.int .i64 (kk : Int), .string (S8 d)] 77)).drewN q).alloc (.cells #[.int .u8 (m : Int), .int .u8 (kk : Int)] 5)) .u8 (.slice (some ⟨wr.heap.size + 1, 0, none⟩) 2 2) [m, kk] := fun q => lit_two wr _ q m kk
                have hmw : IntKind.u8.wrap (m : Int) = (m : Int) := IntWalk.u8_in _ (by omega)
                clear HLD HIT2
                go_wp2_with fail
                go_quiet (fail)
                go_wp2_with (at_builtin; go_must (refine wpList_app _ rfl _ _ 29 rfl w.heap.size 5 (.int .u8 0) 1 Tryz.underlying29 Tryz.info5 rfl .u8 _ done rfl (HOW.out.below (below_dN ((Below.refl _ _))) (Nat.le_refl _) |>.alloc _) _ [m, kk] rfl (HLIT _) (by decide) (by simp only [List.length_cons, List.length_nil]; omega) (by have := HBW.out.size; simp at this ⊢; omega) ?_))
                intro v5 w5 ho5 hg5
                have HB5 := Lib.hid (((below_dN HBW.out).alloc (by have := HBW.out.size; simp at this ⊢; omega) _).grown hg5 (by have := HBW.out.size; simp at this ⊢; omega) (fun j hj => (HOW.out.lt j hj).1))
                have HO5 := Lib.hid ho5
                clear ho5 hg5
                go_wp2
                go_roundw
                case rel => exact ⟨(j + 1) + 1, done ++ [m, kk], last, by omega, by go_num, rfl, hll, HL8.out, HIT3.out, HO5.out, HB5.out⟩
                case measure => simp [intOf]; omega
    · obtain rfl : k = run.length := by omega
      have HE : Hid (done = rbytes run) := Lib.hid (by
        rw [HIT.out, List.drop_length]
        have : aft (prevK run run.length) [] = [] := by
          unfold aft prevK
          split
          · rfl
          · split <;> simp
        rw [this, items_nil, List.append_nil])
      go_wp2
      go_ret
      exact ⟨_, rfl, by rw [← HE.out]; exact HO.out, HB.out⟩

end Go.Proofs.YtpebmmhokigglaaGreatDoor

namespace Go.Proofs.YtpebmmhokigglaaGreatDoor
open Go.RowKit

/-- The first error of cells, but for how many there are. -/
def firstBad (l : List IC) : Nat := (l.map fun c => chk c.1 c.2.length).foldr (fun e r => if e = 0 then r else e) 0
theorem items_byte : ∀ (n : Nat) (run : List CC) (last : List Nat), run.length = n → n ≤ 64 → (∀ c ∈ run, okC c) → ∀ y ∈ items last run, y < 256 := by
  intro n
  induction n using Nat.strongRecOn with
  | _ n ih =>
    intro run last hn h64 hok
    match run, hn, hok with
    | [], _, _ => rw [items_nil]; simp
    | (k, d) :: r, hn, hok =>
      rw [List.length_cons] at hn
      obtain ⟨hk3, hd64, _, h8⟩ := hok (k, d) (by simp)
      simp only at hk3 hd64 h8
      by_cases hk1 : k = 1
      · subst hk1
        rw [items_data]
        have h1 := ih (n - 1) (by omega) r d (by omega) (by omega) (fun c hc => hok c (by simp [hc]))
        have hc := com_le_left d last
        exact app_byte (enc_u64 (by unfold U64; omega)) (app_byte (enc_u64 (by unfold U64; omega)) (app_byte (enc_u64 (by unfold U64; omega)) (app_byte (fun y hy => h8 y (List.mem_of_mem_drop hy)) h1)))
      · rw [items_row _ _ _ _ hk1]
        have hle := lead_le k r
        have h1 := ih (n - (lead k r + 1)) (by omega) (r.drop (lead k r)) last (by rw [List.length_drop]; omega) (by omega) (fun c hc => hok c (by simp [List.mem_of_mem_drop hc]))
        exact app_byte (enc_u64 (by unfold U64; omega)) (app_byte (enc_u64 (by unfold U64; omega)) h1)
theorem rbytes_byte {run : List CC} (hl : run.length ≤ 64) (hok : ∀ c ∈ run, okC c) : ∀ y ∈ rbytes run, y < 256 :=
  app_byte (enc_u64 (by unfold U64; omega)) (items_byte _ run [] rfl hl hok)

end Go.Proofs.YtpebmmhokigglaaGreatDoor
