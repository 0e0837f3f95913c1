/- The contracts of package cell's checkRun, alikeBytes, alikeCells, dataItem. -/
import Derived.Test.YtbihammpdjkonaaCelK
namespace Go.Proofs.Ytbihammpdjkonaa
open Go.RowKit

theorem com_comm : ∀ a b, com a b = com b a
  | [], [] => rfl
  | [], _ :: _ => rfl
  | _ :: _, [] => rfl
  | x :: a, y :: b => by
    unfold com
    by_cases h : x = y
    · rw [if_pos h, if_pos h.symm, com_comm a b]
    · rw [if_neg h, if_neg (fun e => h e.symm)]

set_option maxHeartbeats 1000000 in
set_option maxRecDepth 100000 in
theorem alikeBytes_any (v1 v2 : Value) (a b : List Nat) (w : World) (h1 : Reads w .u8 v1 a) (h2 : Reads w .u8 v2 b) (hl1 : a.length ≤ 100000000000000) :
    Calls Try.prog 59 #[v1, v2] w fun e w' => e = .returned (.int .i64 (com a b : Nat)) ∧ Below w.heap.size w w' := by
  obtain ⟨ao1, cap1, rfl, c1, c2, _⟩ := h1.val
  obtain ⟨ao2, cap2, rfl, c3, c4, _⟩ := h2.val
  have H1 := Lib.hid h1; clear h1
  have H2 := Lib.hid h2; clear h2
  obtain ⟨m, hm⟩ : ∃ m, m = min a.length b.length := ⟨_, rfl⟩
  have hma : m ≤ a.length := by omega
  have hmb : m ≤ b.length := by omega
  have hmi : min (a.length : Int) (b.length : Int) = (m : Int) := by omega
  have HM := Lib.hid hm
  clear hm
  go_enter Try.func59, Try.ntmps59
  go_wp2
  go_loopw [5, 11] (fun _ i wr => ∃ k d : Nat, k ≤ m ∧ i = .int .i64 (k : Int) ∧ a.take k = b.take k ∧ wr = w.drewN d)
    (fun _ i _ => m - (intOf i).toNat)
  case atStart => exact ⟨0, 0, Nat.zero_le _, rfl, by simp, rfl⟩
  case round =>
    obtain ⟨k, d, hk, rfl, hp, rfl⟩ := hrel
    have HP := Lib.hid hp; clear hp
    by_cases hlt : (k : Int) < (m : Int)
    · obtain ⟨b1, o1, rfl, _, hc1⟩ := H1.out.at (show k < a.length by omega)
      obtain ⟨b2, o2, rfl, _, hc2⟩ := H2.out.at (show k < b.length by omega)
      have hx := hc1 k (by omega)
      have hy := hc2 k (by omega)
      have HEQ : Hid (a.getD k 0 = b.getD k 0 → a.take (k + 1) = b.take (k + 1)) := Lib.hid fun h => com_step (by omega) HP.out ⟨by omega, h⟩
      have HNE : Hid (a.getD k 0 ≠ b.getD k 0 → com a b = k) := Lib.hid fun h => com_eq a b k (by omega) (by omega) HP.out (.inr (.inr h))
      clear hc1 hc2
      generalize a.getD k 0 = x at hx HEQ HNE
      generalize b.getD k 0 = y at hy HEQ HNE
      have hka : (k : Int) < (a.length : Int) := by omega
      have hkb : (k : Int) < (b.length : Int) := by omega
      by_cases hxy : x = y
      · have HS := Lib.hid (HEQ.out hxy)
        have hne : ((x : Int) != (y : Int)) = false := by rw [bne_eq_false_iff_eq, hxy]
        clear hxy HEQ HNE
        go_wp2_with fail
        go_quiet (fail)
        go_wp2
        go_roundw
        case rel => exact ⟨k + 1, _, by omega, by go_num, HS.out, rfl⟩
        case measure => simp [intOf]; omega
      · have HE := Lib.hid (HNE.out hxy)
        have hne : ((x : Int) != (y : Int)) = true := by rw [bne_iff_ne]; omega
        clear hxy HEQ HNE
        go_wp2_with fail
        go_quiet (fail)
        go_wp2
        go_ret
        exact ⟨by rw [HE.out]; rfl, rfl, rfl, rfl, Nat.le_refl _, fun _ _ => rfl⟩
    · obtain rfl : k = m := by omega
      have HE : Hid (com a b = k) := Lib.hid (com_eq a b k hma hmb HP.out (by have := HM.out; omega))
      go_wp2
      go_ret
      exact ⟨by rw [HE.out]; rfl, rfl, rfl, rfl, Nat.le_refl _, fun _ _ => rfl⟩

/-- A run's first error. -/
def chkRun (cs : List IC) : Nat := if 64 < cs.length then 3 else (cs.map fun c => chk c.1 c.2.length).foldr (fun e r => if e = 0 then r else e) 0

theorem fold_zero {l : List Nat} (h : ∀ e ∈ l, e = 0) (r : List Nat) : (l ++ r).foldr (fun e r => if e = 0 then r else e) 0 = r.foldr (fun e r => if e = 0 then r else e) 0 := by
  induction l with
  | nil => rfl
  | cons x l ih =>
    rw [List.cons_append, List.foldr_cons, if_pos (h x (by simp))]
    exact ih fun e he => h e (by simp [he])
theorem chkRun_stop {cs : List IC} {k : Nat} (hl : cs.length ≤ 64) (hk : k < cs.length) (h : ∀ c ∈ cs.take k, chk c.1 c.2.length = 0) (hc : chk (cs.getD k (0, [])).1 (cs.getD k (0, [])).2.length ≠ 0) : chkRun cs = chk (cs.getD k (0, [])).1 (cs.getD k (0, [])).2.length := by
  unfold chkRun
  rw [if_neg (by omega)]
  have e : cs = cs.take k ++ (cs.getD k (0, []) :: cs.drop (k + 1)) := by
    conv => lhs; rw [← List.take_append_drop k cs]
    congr 1
    rw [List.drop_eq_getElem_cons hk]
    simp [List.getD, hk]
  conv => lhs; rw [e]
  rw [List.map_append, fold_zero (by intro x hx; obtain ⟨c, hc, rfl⟩ := List.mem_map.1 hx; exact h c hc), List.map_cons, List.foldr_cons, if_neg hc]
theorem chkRun_zero {cs : List IC} (h : chkRun cs = 0) : cs.length ≤ 64 ∧ ∀ c ∈ cs, chk c.1 c.2.length = 0 := by
  unfold chkRun at h
  split at h
  · cases h
  · refine ⟨by omega, ?_⟩
    induction cs with
    | nil => simp
    | cons x l ih =>
      rw [List.map_cons, List.foldr_cons] at h
      split at h
      · next h0 =>
        intro c hc
        rcases List.mem_cons.1 hc with rfl | hc
        · exact h0
        · exact ih (by simp at *; omega) h c hc
      · next h0 => exact absurd h h0
theorem chkRun_good {cs : List IC} (hl : cs.length ≤ 64) (h : ∀ c ∈ cs, chk c.1 c.2.length = 0) : chkRun cs = 0 := by
  unfold chkRun
  rw [if_neg (by omega)]
  have := fold_zero (l := cs.map fun c => chk c.1 c.2.length) (by intro x hx; obtain ⟨c, hc, rfl⟩ := List.mem_map.1 hx; exact h c hc) []
  rw [List.append_nil] at this
  exact this

set_option maxHeartbeats 1000000 in
set_option maxRecDepth 100000 in
theorem checkRun_any (v : Value) (cs : List IC) (w : World) (B : Nat → Prop) (hr : CellsAt w B v cs) :
    Calls Try.prog 43 #[v] w fun e w' => e = .returned (errV (chkRun cs)) ∧ Below w.heap.size w w' := by
  obtain ⟨ao, cap, rfl, h1, h2, h3⟩ := hr.val
  have HR := Lib.hid hr; clear hr
  by_cases hlong : (64 : Int) < (cs.length : Int)
  · have he : Value.iface 72 (.int .i64 3) = errV (chkRun cs) := by
      unfold chkRun; rw [if_pos (by omega)]; exact (errV_pos (by decide)).symm
    rw [← he]
    clear he
    go_enter Try.func43, Try.ntmps43
    go_wp2
    go_ret
    exact ⟨rfl, Below.refl _ _⟩
  go_enter Try.func43, Try.ntmps43
  go_wp2
  go_loopw [4, 5, 12] (fun _ _ i wr => ∃ k : Nat, k ≤ cs.length ∧ i = .int .i64 (k : Int) ∧ (∀ c ∈ cs.take k, chk c.1 c.2.length = 0) ∧ Below w.heap.size w wr)
    (fun _ _ i _ => cs.length - (intOf i).toNat)
  case atStart => exact ⟨0, Nat.zero_le _, rfl, by simp, Below.refl _ _⟩
  case round =>
    obtain ⟨k, hk, rfl, hno, hb⟩ := hrel
    have HB := Lib.hid hb
    have HNO := Lib.hid hno
    clear hb hno
    by_cases hlt : k < cs.length
    · obtain ⟨b, off, x, rfl, _, _, c0, c1, hat⟩ := (HR.out.old HB.out).at hlt
      have HST := Lib.hid (chkRun_stop (cs := cs) (k := k) (by omega) hlt HNO.out)
      have HTK : Hid (cs.take (k + 1) = cs.take k ++ [cs.getD k (0, [])]) := Lib.hid (by
        have e : cs.getD k (0, []) = cs[k] := by simp [List.getD, List.getElem?_eq_getElem hlt]
        rw [List.take_add_one, List.getElem?_eq_getElem hlt, e, Option.toList_some])
      generalize hg : cs.getD k (0, []) = g at c0 c1 hat
      rw [hg] at HST HTK
      obtain ⟨kk, d⟩ := g
      simp only at c0 hat
      obtain ⟨aot, capt, rfl, _, _, _⟩ := hat.reads.val
      have HD := Lib.hid hat.reads
      clear hg hat
      have hlti : (k : Int) < cs.length := by omega
      have hal : Below wr.heap.size wr (wr.alloc (.cells #[.int .i64 kk, .slice aot d.length capt] 24)) := (Below.refl _ _).alloc (Nat.le_refl _) _
      have HD2 := Lib.hid (HD.out.new hal)
      have HAL := Lib.hid (HB.out.trans (hal.mono HB.out.size))
      clear hal HD
      go_wp2_with fail
      refine (check_any kk _ d _ HD2.out).mono ?_
      rintro e w1 ⟨rfl, hb1⟩
      have HB1 := Lib.hid (HAL.out.trans (hb1.mono HAL.out.size))
      clear hb1 HD2 HAL c0 c1
      by_cases hc : chk kk d.length = 0
      · have HN : Hid (∀ c ∈ cs.take (k + 1), chk c.1 c.2.length = 0) := Lib.hid (by
          intro c hcm
          rw [HTK.out] at hcm
          rcases List.mem_append.1 hcm with hcm | hcm
          · exact HNO.out c hcm
          · obtain rfl := List.mem_singleton.1 hcm
            exact hc)
        rw [hc, errV_zero]
        clear hc HST
        go_wp2
        go_roundw
        case rel => exact ⟨k + 1, by omega, by go_num, HN.out, HB1.out⟩
        case measure => simp [intOf]; omega
      · have HE : Hid (chkRun cs = chk kk d.length) := Lib.hid (HST.out hc)
        have he := errV_pos hc
        rw [he]
        clear HST hc
        go_wp2
        go_ret
        exact ⟨by rw [HE.out, he]; rfl, HB1.out⟩
    · obtain rfl : k = cs.length := by omega
      have HE : Hid (Value.nilIface = errV (chkRun cs)) := Lib.hid (by
        have := HNO.out
        rw [List.take_length] at this
        rw [chkRun_good (by omega) this, errV_zero])
      go_wp2
      go_ret
      exact ⟨by rw [← HE.out]; rfl, HB.out⟩

end Go.Proofs.Ytbihammpdjkonaa
