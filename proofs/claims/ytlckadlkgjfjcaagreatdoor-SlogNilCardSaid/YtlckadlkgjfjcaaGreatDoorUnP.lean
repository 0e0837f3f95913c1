/- A unit's small calls: asked, takes, at, Epoch, Low; and those of no unit. · A range over a unit's cells; the tail. · A cell is stored into a unit; Write, Fill. · Calls at no unit; Tail; the chapter's example. · A unit's Fill, Seal, Read. · Cells dropped from a unit's map: maps.DeleteFunc at it, drop. · A unit's drop, Trim, Cut, Read. · A unit's Trim, Cut, Read. -/
import Derived.Test.YtlckadlkgjfjcaaGreatDoorUmP
import Derived.Maps.RangeWalk
import Derived.Test.YtlckadlkgjfjcaaGreatDoorDaP
import Derived.Test.YtlckadlkgjfjcaaGreatDoorIsA
import Derived.Lib.SlBytesConst
namespace Go.Proofs.YtlckadlkgjfjcaaGreatDoor
open Go.RowKit

theorem cellR_zero (w : World) (B : Nat → Prop) (k : Int) : CellR w B (.agg #[.int .i64 k, .slice none 0 0]) (k, []) := ⟨_, rfl, ⟨none, 0, rfl, by simp, by simp [maxLen], fun _ => rfl, .inl rfl⟩, .inl rfl⟩
theorem zip_cell {w : World} {B : Nat → Prop} {es : Im Value} {l : Im IC} (hz : IZip (CellR w B) es l) (n : Int) : CellR w B ((iget es n).getD (.agg #[.int .i64 0, .slice none 0 0])) ((iget l n).getD (0, [])) := by
  rcases hz.get n with ⟨h1, h2⟩ | ⟨a, b, h1, h2, h⟩
  · rw [h1, h2]; exact cellR_zero w B 0
  · rw [h1, h2]; exact h

section
variable {w : World} {B : Nat → Prop} {u m : Nat} {U : US}
set_option maxRecDepth 100000 in
theorem uasked_any (h : Un w B u m U) (e : Int) : Calls Tryz.prog 228 #[.pointer (some ⟨u, 0, none⟩), .int .i64 e] w fun r w' => r = .returned (errV (ucur U e)) ∧ w' = w := by
  obtain ⟨c0, c1, c2, _⟩ := h.c
  unfold ucur
  clear h
  by_cases h1 : e < U.epoch
  · rw [if_pos h1, show errV 6 = .iface 41 (.int .i64 6) from errV_pos (by decide)]
    go_enter Tryz.func228, Tryz.ntmps228
    go_wp2
    go_ret
    exact ⟨rfl, rfl⟩
  · rw [if_neg h1]
    by_cases h2 : U.epoch < e
    · rw [if_pos h2, show errV 7 = .iface 41 (.int .i64 7) from errV_pos (by decide)]
      go_enter Tryz.func228, Tryz.ntmps228
      go_wp2
      go_ret
      exact ⟨rfl, rfl⟩
    · rw [if_neg h2, errV_zero]
      go_enter Tryz.func228, Tryz.ntmps228
      go_wp2
      go_ret
      exact ⟨rfl, rfl⟩

/-- What is wrong with a call of that epoch at a number that may be from 0 to most. -/
def utakes (U : US) (e n most : Int) : Nat := if n < 0 ∨ most < n then 1 else ucur U e
set_option maxRecDepth 100000 in
theorem utakes_any (h : Un w B u m U) (e n most : Int) : Calls Tryz.prog 157 #[.pointer (some ⟨u, 0, none⟩), .int .i64 e, .int .i64 n, .int .i64 most] w fun r w' => r = .returned (errV (utakes U e n most)) ∧ w' = w := by
  have HA := Lib.hid (fun e => uasked_any h e)
  have HW := Lib.hid (fun W => uwithin_any n most W)
  unfold utakes
  clear h
  by_cases h1 : n < 0 ∨ most < n
  · rw [if_pos h1, show errV 1 = .iface 41 (.int .i64 1) from errV_pos (by decide)]
    have hb : (decide (0 ≤ n) && decide (n ≤ most)) = false := by
      rw [Bool.and_eq_false_iff, decide_eq_false_iff_not, decide_eq_false_iff_not]; omega
    simp only [hb] at HW
    clear h1 hb
    go_enter Tryz.func157, Tryz.ntmps157
    go_wp2_with fail
    refine (HW.out _).mono ?_
    rintro r w' ⟨rfl, rfl⟩
    go_wp2
    go_ret
    exact ⟨rfl, rfl⟩
  · rw [if_neg h1]
    have hb : (decide (0 ≤ n) && decide (n ≤ most)) = true := by
      rw [Bool.and_eq_true, decide_eq_true_iff, decide_eq_true_iff]; omega
    simp only [hb] at HW
    clear h1 hb
    obtain ⟨c, hc⟩ : ∃ c, c = ucur U e := ⟨_, rfl⟩
    have HA := Lib.hid (HA.out e)
    rw [← hc] at HA ⊢
    clear hc
    go_enter Tryz.func157, Tryz.ntmps157
    go_wp2_with fail
    refine (HW.out _).mono ?_
    rintro r w' ⟨rfl, rfl⟩
    go_wp2_with fail
    refine HA.out.mono ?_
    rintro r w' ⟨rfl, rfl⟩
    go_wp2
    go_ret
    exact ⟨rfl, rfl⟩

theorem cellR_new {w : World} {B : Nat → Prop} {k : Int} {x : Value} {d : List Nat} (hx : At w B .u8 x d) (o : Obj) :
    CellR (w.alloc o) B (.agg #[.int .i64 k, x]) (k, d) ∧ Below w.heap.size w (w.alloc o) := by
  have hb : Below w.heap.size w (w.alloc o) := (Below.refl _ _).alloc (Nat.le_refl _) _
  exact ⟨⟨x, rfl, hx.keep (kept_new hb B)⟩, hb⟩
set_option maxRecDepth 100000 in
theorem uat_any (h : Un w B u m U) {a : Int} (ha : I64 a) : Calls Tryz.prog 159 #[.pointer (some ⟨u, 0, none⟩), .int .i64 a] w fun r w' => ∃ v, r = .returned v ∧ CellR w' B v (uat U a) ∧ Below w.heap.size w w' := by
  obtain ⟨W1, hW1⟩ : ∃ W1, W1 = w.alloc (.cells #[.int .i64 0, .slice none 0 0] 24) := ⟨_, rfl⟩
  have hb1 : Below w.heap.size w W1 := by rw [hW1]; exact (Below.refl _ _).alloc (Nat.le_refl _) _
  obtain ⟨c0, c1, c2, _⟩ := (h.old hb1).c
  obtain ⟨es, hm, hz⟩ := h.map
  have hl := (hm.keep (hb1.block m h.mlt)).look ha
  obtain ⟨dv, hdv, hat⟩ := zip_cell hz a
  rw [hdv] at hl
  unfold uat
  obtain ⟨c, hc⟩ : ∃ c, c = (iget U.cells a).getD (0, []) := ⟨_, rfl⟩
  rw [← hc] at hl hat ⊢
  obtain ⟨ao, cap, rfl, _, _, _⟩ := hat.reads.val
  have HAT := Lib.hid hat
  obtain ⟨kc, dc⟩ := c
  simp only [] at hl HAT
  clear h hm hz hdv hat hc hb1
  subst hW1
  by_cases h1 : a < U.low
  · rw [if_pos h1]
    go_enter Tryz.func159, Tryz.ntmps159
    go_wp2
    exact bodyPost_ret (v := .agg #[.int .i64 3, .slice none 0 0]) (by simp [results, Tryz.results159, go_sem]) rfl ⟨_, rfl, cellR_new ⟨⟨none, 0, rfl, by simp, by simp [maxLen], fun _ => rfl, .inl rfl⟩, .inl rfl⟩ _⟩
  · rw [if_neg h1]
    go_enter Tryz.func159, Tryz.ntmps159
    go_wp2
    exact bodyPost_ret (v := .agg #[.int .i64 kc, .slice ao dc.length cap]) (by simp [results, Tryz.results159, go_sem]) rfl ⟨_, rfl, cellR_new HAT.out _⟩

set_option maxRecDepth 100000 in
theorem uepoch_any (h : Un w B u m U) : Calls Tryz.prog 144 #[.pointer (some ⟨u, 0, none⟩)] w fun r w' => r = .returned (.int .i64 U.epoch) ∧ w' = w := by
  obtain ⟨c0, c1, c2, _⟩ := h.c
  clear h
  go_enter Tryz.func144, Tryz.ntmps144
  go_wp2
  go_ret
  exact ⟨rfl, rfl⟩
set_option maxRecDepth 100000 in
theorem ulow_any (h : Un w B u m U) : Calls Tryz.prog 76 #[.pointer (some ⟨u, 0, none⟩)] w fun r w' => r = .returned (.int .i64 U.low) ∧ w' = w := by
  obtain ⟨c0, c1, c2, _⟩ := h.c
  clear h
  go_enter Tryz.func76, Tryz.ntmps76
  go_wp2
  go_ret
  exact ⟨rfl, rfl⟩
end

end Go.Proofs.YtlckadlkgjfjcaaGreatDoor

namespace Go.Proofs.YtlckadlkgjfjcaaGreatDoor
open Go.RowKit

/-- The next entry of a range over a map of cells. -/
theorem wpList_nextU (w : World) {ops : Array Oper} {rest : List Oper} {o : Oper} {a : Act} {Q : Exit → Act → World → Prop} (hg : o.guard = none) (it : Operand) (hop : o.op = Op.next it false) (b r n : Nat) (es : Im Value) (left : Lit → Bool) (cnt : Nat)
    (hit : a.eval it = .pointer (some ⟨r, 0, none⟩)) (h : w.ranges Tryz.prog 3 hvU b r n (.map (es.map entI)) left cnt)
    (hDone : cnt = 0 → (∀ kl, left kl = false) → wpList Tryz.prog ops Q rest (a.put o.dst (.tuple #[.bool false])) w)
    (hMore : ∀ (x : Int) (c : Value) (w' : World) (cnt' : Nat), I64 x → left (.int .i64 x) = true → iget es x = some c → w'.ranges Tryz.prog 3 hvU b r n (.map (es.map entI)) (fun z => left z && !z.sameKey (.int .i64 x)) cnt' → cnt' < cnt →
      w.grownBy w' (some r) → w'.heap.size = w.heap.size → (Instr.entry (.pointer (some ⟨r, 0, none⟩))).run Tryz.prog w' = .ok (.tuple #[.int .i64 x, c]) w' → wpList Tryz.prog ops Q rest (a.put o.dst (.tuple #[.bool true, .int .i64 x, c])) w') :
    wpList Tryz.prog ops Q (o :: rest) a w := by
  refine wpList_next_ranges w hg it hop 3 keyed_int hvU (Value.int .i64) (id : Value → Value) (fun key kl hkey => by obtain ⟨x, rfl, _⟩ := Maps.keyOf_int_inv Tryz.underlying3 hkey; exact ⟨x, rfl⟩) (fun v y _ => ⟨v, rfl⟩) b r n _ left cnt hit h hDone ?_
  intro x c kl y w' cnt' hkey hlk hv hat hrg hlt hgr hsz hen
  obtain ⟨x', ex, rfl, hwx⟩ := Maps.keyOf_int_inv Tryz.underlying3 hkey
  cases ex
  have hc : y = (.held c, []) := by
    have : some (DataW.held c, ([] : List MemPlace)) = some y := hv
    exact (Option.some.inj this).symm
  subst hc
  have hat' : ∀ z : Value, DataW.held ((iget es x).getD z) = DataW.held c := fun z => by rw [← atKey_entI]; exact hat _
  have hget : iget es x = some c := by
    cases hg : iget es x with
    | none =>
      have a1 := hat' (.bool true)
      have a2 := hat' (.bool false)
      rw [hg] at a1 a2
      have a3 := a1.trans a2.symm
      cases a3
    | some u =>
      have a1 := hat' (.bool true)
      rw [hg] at a1
      have : u = c := by injection a1
      rw [this]
  refine hMore x c w' cnt' ?_ hlk hget hrg hlt hgr hsz hen
  simp [Lit.wf, IntKind.min, IntKind.max, IntKind.signed, IntKind.bits] at hwx
  exact ⟨by omega, by omega⟩
theorem hasU (es : Im Value) (n : Int) : Maps.has (.map (es.map entI)) (.int .i64 n) = ihas es n := by
  rw [Maps.has_eq]
  unfold ihas
  rw [List.any_map]
  refine congrArg (List.any es) (funext fun f => same_i f.1 n)

theorem utail_eq {U : US} (h : UOk U) {t : Int} (_ : U.low ≤ t) (h1 : ∀ f ∈ U.cells, f.1 + 1 ≤ t) (h2 : t = U.low ∨ ∃ f ∈ U.cells, t = f.1 + 1) : utail U = t := by
  unfold utail
  cases hg : U.cells.getLast? with
  | none =>
    have e : U.cells = [] := List.getLast?_eq_none_iff.1 hg
    rcases h2 with h2 | ⟨f, hf, _⟩
    · exact h2.symm
    · rw [e] at hf; cases hf
  | some x =>
    obtain ⟨r, hr⟩ := List.getLast?_eq_some_iff.1 hg
    have hx : x ∈ U.cells := by rw [hr]; simp
    have h3 := h1 x hx
    have h4 : ∀ f ∈ U.cells, f.1 ≤ x.1 := fun f hf => by
      have hR := h.rise
      unfold IRise at hR
      rw [hr] at hR hf
      rcases List.mem_append.1 hf with hf | hf
      · exact Int.le_of_lt ((List.pairwise_append.1 hR).2.2 f hf x (by simp))
      · rw [List.mem_singleton.1 hf]; exact Int.le_refl _
    have h5 := (h.at' x hx).1
    simp only
    rcases h2 with h2 | ⟨f, hf, h2⟩
    · omega
    · have := h4 f hf; omega

section
variable {w : World} {B : Nat → Prop} {u m : Nat} {U : US}
set_option maxHeartbeats 1000000 in
set_option maxRecDepth 100000 in
theorem utail_any (h : Un w B u m U) : Calls Tryz.prog 267 #[.pointer (some ⟨u, 0, none⟩)] w fun r w' => r = .returned (.int .i64 (utail U)) ∧ Below w.heap.size w w' := by
  obtain ⟨c0, c1, c2, _⟩ := h.c
  obtain ⟨es, hm, hz⟩ := h.map
  have HES : Hid (w.ownsMap Tryz.prog 3 hvU m es.length (.map (es.map entI))) := Lib.hid hm
  have HOK := Lib.hid h.ok
  have HZ := Lib.hid hz
  have HLOW : Hid (0 ≤ U.low ∧ U.low ≤ 1048576) := Lib.hid h.ok.low
  obtain ⟨lo, hlo⟩ : ∃ z, z = U.low := ⟨_, rfl⟩
  rw [← hlo] at c1
  have HLO := Lib.hid hlo
  clear h hm hz hlo
  go_enter Tryz.func267, Tryz.ntmps267
  go_wp2_with (at_range; go_must (refine wpList_range_own _ rfl _ 168 rfl 3 24 keyed_int Tryz.underlying168 hvU m es.length _ rfl HES.out ?_))
  intro w7 hrg7 hg7 hs7
  try go_frame
  have hb7 : Below w.heap.size w w7 := ⟨hg7.os, hg7.tape, hg7.output, hg7.size, fun j hj => hg7.block j hj (by simp)⟩
  obtain ⟨r, hr⟩ : ∃ r, r = w.heap.size := ⟨_, rfl⟩
  rw [← hr] at hrg7
  have HR7 := Lib.hid hrg7
  have HB7 := Lib.hid hb7
  have HRE := Lib.hid hr
  clear hrg7 hg7 hs7 hb7 hr HES c0 c1 c2
  rw [← HRE.out]
  go_wp2
  go_loopw [3, 4] (fun t _ wz => ∃ (z : Int) (left : Lit → Bool) (cnt : Nat), t = .int .i64 z ∧ wz.ranges Tryz.prog 3 hvU m r es.length (.map (es.map entI)) left cnt ∧ Below w.heap.size w wz ∧ lo ≤ z ∧ (∀ f ∈ U.cells, left (.int .i64 f.1) = true ∨ f.1 + 1 ≤ z) ∧ (z = lo ∨ ∃ f ∈ U.cells, z = f.1 + 1))
    (fun _ _ wz => wz.rangeLeft m r)
  case atStart =>
    refine ⟨lo, _, _, rfl, HR7.out, HB7.out, Int.le_refl _, fun f hf => .inl ?_, .inl rfl⟩
    rw [hasU, ihas_get]
    rcases HZ.out.get f.1 with ⟨_, h2⟩ | ⟨a, b, h1, _, _⟩
    · rw [iget_mem HOK.out.rise hf] at h2; cases h2
    · rw [h1]; rfl
  case round =>
    obtain ⟨z, left, cnt, rfl, hrg, hbz, hz0, hz1, hz2⟩ := hrel
    have HBZ := Lib.hid hbz
    have HRG := Lib.hid hrg
    have HZ0 := Lib.hid hz0
    have HZ1 := Lib.hid hz1
    have HZ2 := Lib.hid hz2
    clear hbz hz0 hz1 hz2
    go_wp2_with (at_next; go_must (refine wpList_nextU _ rfl _ rfl m r es.length es left cnt rfl hrg ?_ ?_))
    · intro _ hl0
      have HF : Hid (utail U = z) := Lib.hid (utail_eq HOK.out (by rw [← HLO.out]; exact HZ0.out) (fun f hf => by
        rcases HZ1.out f hf with h | h
        · rw [hl0] at h; cases h
        · exact h) (by rw [← HLO.out]; exact HZ2.out))
      clear hl0
      go_wp2
      go_ret
      exact ⟨by rw [HF.out]; rfl, HBZ.out⟩
    · intro x c w1 cnt1 hx hlx hget hrg1 hlt hg1 hs1 hen
      have HCNT := Lib.hid hlt
      have hmem : ∃ cc, (x, cc) ∈ U.cells := by
        rcases HZ.out.get x with ⟨h1, _⟩ | ⟨a, b, _, h2, _⟩
        · rw [hget] at h1; cases h1
        · exact ⟨b, iget_some h2⟩
      obtain ⟨cc, hmem⟩ := hmem
      have hxr := (HOK.out.at' _ hmem)
      have HMEM := Lib.hid hmem
      have HRX : Hid (0 ≤ x ∧ x ≤ 1048575) := Lib.hid ⟨by have := HLOW.out; have := hxr.1; omega, hxr.2.1⟩
      have HWX : Hid (wrap64 (x + 1) = x + 1) := Lib.hid (by have := HRX.out; simp only [wrap64]; omega)
      have HB1 := Lib.hid (HBZ.out.grown hg1 HBZ.out.size (fun j hj => by cases hj; rw [HRE.out]; exact Nat.le_refl _))
      have HRG1 := Lib.hid hrg1
      clear hx hlx hget hrg1 hlt hg1 hs1 hmem hxr
      go_wp2
      go_roundw
      case rel =>
        refine ⟨if z < x + 1 then x + 1 else z, _, cnt1, by rw [HWX.out], HRG1.out, HB1.out, ?_, fun f hf => ?_, ?_⟩
        · have := HZ0.out; split <;> omega
        · by_cases hfx : f.1 = x
          · right; rw [hfx]; split <;> omega
          · rcases HZ1.out f hf with h | h
            · left
              have e : (f.1 == x) = false := beq_eq_false_iff_ne.2 hfx
              simp only [h, same_i, e, Bool.not_false, Bool.and_true]
            · right; split <;> omega
        · split
          · exact .inr ⟨_, HMEM.out, rfl⟩
          · exact HZ2.out
      case measure => rw [HRG1.out.left_eq, HRG.out.left_eq]; exact HCNT.out
end

end Go.Proofs.YtlckadlkgjfjcaaGreatDoor

namespace Go.Proofs.YtlckadlkgjfjcaaGreatDoor
open Go.RowKit

theorem IRise.len {α : Type} : ∀ {l : Im α} {lo hi : Int} (_ : IRise l) (_ : ∀ f ∈ l, lo ≤ f.1 ∧ f.1 ≤ hi), lo ≤ hi + 1 → (l.length : Int) ≤ hi + 1 - lo
  | [], lo, hi, _, _, h => by simp; omega
  | x :: r, lo, hi, h, hr, _ => by
    have h2 := List.pairwise_cons.1 h
    have hx := hr x (by simp)
    have h3 := IRise.len (l := r) (lo := x.1 + 1) (hi := hi) h2.2 (fun f hf => ⟨by have := h2.1 f hf; omega, (hr f (by simp [hf])).2⟩) (by omega)
    simp only [List.length_cons]
    omega
theorem UOk.len {U : US} (h : UOk U) : U.cells.length ≤ 1048576 := by
  have h1 := IRise.len (lo := 0) (hi := 1048575) h.rise (fun f hf => ⟨by have := h.at' f hf; have := h.low; omega, (h.at' f hf).2.1⟩) (by omega)
  omega

section
variable {w : World} {B : Nat → Prop} {u m : Nat} {U : US}
/-- A cell is stored. -/
theorem Un.update (h : Un w B u m U) {a : Int} (h1 : a ≤ 1048575) (hl : U.low ≤ a) {v : Value} {c : IC} (hv : CellR w B v c) (hc : okU c) :
    ∃ w', (Instr.mapUpdate 168 (.map (some m)) (.int .i64 a) v).run Tryz.prog w = .ok () w' ∧ Un w' B u m { U with cells := iput U.cells a c } ∧ w.grownBy w' (some m) := by
  obtain ⟨es, hm, hz⟩ := h.map
  have h0 : w.ownsMap Tryz.prog 3 hvU m es.length (.map (es.map entI)) := hm
  have hl0 := h.ok.low
  obtain ⟨w', hrun, r1, r2⟩ := h0.update keyed_int Tryz.underlying168 (by have := h.ok.len; rw [hz.length]; simp only [maxLen]; omega) (key_i (n := a) ⟨by omega, by omega⟩) (val := v) (d := .held v) (ps := []) rfl
  rw [put_entI] at r1
  have hk : Kept B w w' := ⟨r2.size, fun j hj hB => r2.block j hj (fun e => by cases e; exact h.nm hB)⟩
  exact ⟨w', hrun, ⟨(r2.block u h.ult (fun e => by cases e; exact h.ne rfl)).trans h.box, ⟨_, tightU r1, (hz.mono fun _ _ hr => hr.keep hk).put a (hv.keep hk)⟩, h.ok.putD h1 hl hc, h.ne, h.nu, h.nm⟩, r2⟩

theorem ufield (k : Int) (ao : Option Addr) (l cap : Nat) (w : World) : (Instr.field 24 (.agg #[.int .i64 k, .slice ao l cap]) 0).run Tryz.prog w = .ok (.int .i64 k) w := by kernel_rfl
/-- What a call on a unit leaves: the unit, and all that isn't its map. -/
def UPost (w : World) (B : Nat → Prop) (u m : Nat) (U : US) (w' : World) : Prop := Un w' (fun j => B j ∨ w.heap.size ≤ j) u m U ∧ Fr (fun j => j = u ∨ j = m) w w'
theorem UPost.same {w' : World} (h : Un w B u m U) (hb : Below w.heap.size w w') : UPost w B u m U w' :=
  ⟨(h.old hb).more (fun _ _ hB => .inl hB) (fun hc => hc.elim h.nu fun h9 => absurd h.ult (Nat.not_lt.2 h9)) (fun hc => hc.elim h.nm fun h9 => absurd h.mlt (Nat.not_lt.2 h9)), fr_below hb _⟩
theorem Un.wide {w' : World} (h : Un w B u m U) (hb : Below w.heap.size w w') : Un w' (fun j => B j ∨ w.heap.size ≤ j) u m U := (UPost.same h hb).1

set_option maxHeartbeats 2000000 in
set_option maxRecDepth 100000 in
theorem uwrite_any (h : Un w B u m U) (e : Int) {a : Int} (ha : I64 a) {dv : Value} {d : List Nat} (hd : Reads w .u8 dv d) (hd8 : ∀ y ∈ d, y < 256) :
    Calls Tryz.prog 204 #[.pointer (some ⟨u, 0, none⟩), .int .i64 e, .int .i64 a, dv] w fun r w' => r = .returned (errV (uwrite U e a d).2) ∧ UPost w B u m (uwrite U e a d).1 w' := by
  obtain ⟨ao, cap, rfl, _, _, _⟩ := hd.val
  have HWI := Lib.hid (fun W => uwithin_any a 1048575 W)
  have HAS := Lib.hid (uasked_any h e)
  have HAT := Lib.hid (uat_any h ha)
  have HSM : Hid (UPost w B u m U w) := Lib.hid (UPost.same h (Below.refl _ _))
  have HW : Hid (uwrite U e a d = if a < 0 ∨ 1048575 < a then (U, 1) else if 64 < d.length then (U, 3) else if ucur U e ≠ 0 then (U, ucur U e) else if (uat U a).1 = 3 then (U, 9) else if (uat U a).1 = 0 then ({ U with cells := iput U.cells a (1, d) }, 0) else (U, 8)) := Lib.hid rfl
  obtain ⟨k0, hk0⟩ : ∃ k, k = (uat U a).1 := ⟨_, rfl⟩
  obtain ⟨cu, hcu⟩ : ∃ k, k = ucur U e := ⟨_, rfl⟩
  rw [← hk0, ← hcu] at HW
  rw [← hcu] at HAS
  have HK0 := Lib.hid hk0
  have H := Lib.hid h
  have HD := Lib.hid hd
  have HD8 := Lib.hid hd8
  clear h hd hd8 hk0 hcu
  go_enter Tryz.func204, Tryz.ntmps204
  by_cases h1 : a < 0 ∨ 1048575 < a
  · have HE : Hid (uwrite U e a d = (U, 1)) := Lib.hid (by rw [HW.out, if_pos h1])
    have hb : (decide (0 ≤ a) && decide (a ≤ 1048575)) = false := by rw [Bool.and_eq_false_iff, decide_eq_false_iff_not, decide_eq_false_iff_not]; omega
    simp only [hb] at HWI
    clear h1 hb
    go_wp2_with fail
    refine (HWI.out _).mono ?_
    rintro r w ⟨rfl, rfl⟩
    go_wp2
    go_ret
    rw [HE.out]
    exact ⟨by rw [show errV 1 = .iface 41 (.int .i64 1) from errV_pos (by decide)]; rfl, HSM.out⟩
  have HR : Hid (0 ≤ a ∧ a ≤ 1048575) := Lib.hid (by omega)
  have HW1 : Hid (uwrite U e a d = if 64 < d.length then (U, 3) else if cu ≠ 0 then (U, cu) else if k0 = 3 then (U, 9) else if k0 = 0 then ({ U with cells := iput U.cells a (1, d) }, 0) else (U, 8)) := Lib.hid (by rw [HW.out, if_neg h1])
  have hb : (decide (0 ≤ a) && decide (a ≤ 1048575)) = true := by rw [Bool.and_eq_true, decide_eq_true_iff, decide_eq_true_iff]; omega
  simp only [hb] at HWI
  clear h1 hb
  go_wp2_with fail
  refine (HWI.out _).mono ?_
  rintro r w ⟨rfl, rfl⟩
  by_cases h2 : 64 < d.length
  · have HE : Hid (uwrite U e a d = (U, 3)) := Lib.hid (by rw [HW1.out, if_pos h2])
    have h2i : (64 : Int) < (d.length : Int) := by omega
    clear h2
    go_wp2
    go_ret
    rw [HE.out]
    exact ⟨by rw [show errV 3 = .iface 41 (.int .i64 3) from errV_pos (by decide)]; rfl, HSM.out⟩
  have HDL : Hid (d.length ≤ 64) := Lib.hid (by omega)
  have HW2 : Hid (uwrite U e a d = if cu ≠ 0 then (U, cu) else if k0 = 3 then (U, 9) else if k0 = 0 then ({ U with cells := iput U.cells a (1, d) }, 0) else (U, 8)) := Lib.hid (by rw [HW1.out, if_neg h2])
  have h2i : ¬ (64 : Int) < (d.length : Int) := by omega
  clear h2
  go_wp2_with fail
  refine HAS.out.mono ?_
  rintro r w ⟨rfl, rfl⟩
  clear h2i
  by_cases h3 : cu = 0
  rotate_left
  · have HE : Hid (uwrite U e a d = (U, cu)) := Lib.hid (by rw [HW2.out, if_pos h3])
    rw [errV_pos h3]
    have H3 := Lib.hid h3
    clear h3
    go_wp2
    go_ret
    rw [HE.out]
    exact ⟨by rw [errV_pos H3.out]; rfl, HSM.out⟩
  have HW3 : Hid (uwrite U e a d = if k0 = 3 then (U, 9) else if k0 = 0 then ({ U with cells := iput U.cells a (1, d) }, 0) else (U, 8)) := Lib.hid (by rw [HW2.out, if_neg (by omega)])
  rw [h3, errV_zero]
  clear h3
  go_wp2_with fail
  refine HAT.out.mono ?_
  rintro r w3 ⟨v3, rfl, ⟨dv3, rfl, hat3⟩, hb3⟩
  obtain ⟨ao3, cap3, rfl, _, _, _⟩ := hat3.reads.val
  clear hat3
  generalize (uat U a).2.length = l3
  have hfd := ufield k0 ao3 l3 cap3 w3
  rw [← HK0.out]
  have HB3 := Lib.hid hb3
  clear hb3
  by_cases h4 : k0 = 3
  · have HE : Hid (uwrite U e a d = (U, 9)) := Lib.hid (by rw [HW3.out, if_pos h4])
    subst h4
    go_wp2
    go_ret
    rw [HE.out]
    exact ⟨by rw [show errV 9 = .iface 41 (.int .i64 9) from errV_pos (by decide)]; rfl, UPost.same H.out HB3.out⟩
  by_cases h5 : k0 = 0
  rotate_left
  · have HE : Hid (uwrite U e a d = (U, 8)) := Lib.hid (by rw [HW3.out, if_neg h4, if_neg h5])
    have p4 : (k0 == 3) = false := beq_eq_false_iff_ne.2 h4
    have p5 : (k0 == 0) = false := beq_eq_false_iff_ne.2 h5
    clear h4 h5
    go_wp2
    go_ret
    rw [HE.out]
    exact ⟨by rw [show errV 8 = .iface 41 (.int .i64 8) from errV_pos (by decide)]; rfl, UPost.same H.out HB3.out⟩
  have HE : Hid (uwrite U e a d = ({ U with cells := iput U.cells a (1, d) }, 0)) := Lib.hid (by rw [HW3.out, if_neg h4, if_pos h5])
  have HLO : Hid (U.low ≤ a) := Lib.hid (uat_kind H.out.ok (by rw [← HK0.out]; exact h5)).1
  subst h5
  clear h4
  have HCL := Lib.hid (fun W (hb : Below w3.heap.size w3 W) => clone_any (.slice ao d.length cap) d W ((HD.out.new (HB3.out.trans (hb.mono HB3.out.size)))) (by have := HDL.out; omega))
  have HUP : Hid (∀ W v4, Below w3.heap.size w3 W → Owns W w3.heap.size 5 .u8 v4 d → ∃ w', (Instr.mapUpdate 168 (.map (some m)) (.int .i64 a) (.agg #[.int .i64 1, v4])).run Tryz.prog W = .ok () w' ∧ UPost w B u m { U with cells := iput U.cells a (1, d) } w') := Lib.hid fun W v4 hb ho => by
    have hbw := HB3.out.trans (hb.mono HB3.out.size)
    have hat : At W (fun j => B j ∨ w.heap.size ≤ j) .u8 v4 d := by
      refine ⟨ho.reads, ?_⟩
      rcases ho.2 with ⟨_, hn⟩ | ⟨g, c4, cur, hv, hg, _⟩
      · exact .inl (List.length_eq_zero_iff.1 hn)
      · exact .inr ⟨g, 0, _, c4, hv, .inr (Nat.le_trans HB3.out.size hg)⟩
    obtain ⟨w', h1, h2, h3⟩ := (H.out.wide hbw).update HR.out.2 HLO.out (c := (1, d)) ⟨v4, rfl, hat⟩ ⟨.inl rfl, by
      have := HDL.out
      unfold chk
      rw [if_neg (by simp), if_neg (by simp only; omega), if_neg (by simp)], HD8.out⟩
    exact ⟨w', h1, h2, (fr_below hbw (fun _ => False)).trans (fr_grown h3) (fun _ _ h => h.elim) fun j _ hj => .inr (by cases hj; rfl)⟩
  obtain ⟨c0, c1, c2, _⟩ := (H.out.old HB3.out).c
  have HD3 : Hid (Below w3.heap.size w3 w3.drew) := Lib.hid ⟨rfl, rfl, rfl, Nat.le_refl _, fun _ _ => rfl⟩
  have HC2 : Hid (∀ W, Below w3.heap.size w3 W → W.cell? ⟨u, 2, none⟩ = some (.map (some m))) := Lib.hid fun W hb => ((H.out.old HB3.out).old hb).c.2.2.1
  go_wp2_with fail
  go_region_with (first
    | (go_at_call 210
       refine (HCL.out _ HD3.out).mono ?_
       rintro r w4 ⟨v4, rfl, ho4, hb4⟩
       have hb4' : Below w3.heap.size w3 w4 := HD3.out.trans (hb4.mono HD3.out.size)
       obtain ⟨w5, q5, hp5⟩ := HUP.out w4 v4 hb4' ho4
       have d2 := HC2.out w4 hb4'
       obtain ⟨ao4, cap4, rfl, _, _, _⟩ := ho4.reads.val
       have HP5 := Lib.hid hp5
       clear ho4 hb4 hb4' hp5))
  all_goals
    go_wp2
    go_ret
    rw [HE.out]
    exact ⟨by rw [errV_zero]; rfl, HP5.out⟩

end
end Go.Proofs.YtlckadlkgjfjcaaGreatDoor

namespace Go.Proofs.YtlckadlkgjfjcaaGreatDoor
open Go.RowKit

abbrev err4 : Value := .iface 41 (.int .i64 4)
section
variable {w : World} {B : Nat → Prop} {u m : Nat} {U : US}
end

/-! ### The chapter's example -/
end Go.Proofs.YtlckadlkgjfjcaaGreatDoor

namespace Go.Proofs.YtlckadlkgjfjcaaGreatDoor
open Go.RowKit

section
variable {w : World} {B : Nat → Prop} {u m : Nat} {U : US}
set_option maxHeartbeats 2000000 in
set_option maxRecDepth 100000 in
theorem ufill_any (h : Un w B u m U) (e : Int) {a : Int} (ha : I64 a) :
    Calls Tryz.prog 205 #[.pointer (some ⟨u, 0, none⟩), .int .i64 e, .int .i64 a] w fun r w' => r = .returned (errV (ufill U e a).2) ∧ UPost w B u m (ufill U e a).1 w' := by
  have HTK := Lib.hid (utakes_any h e a 1048575)
  have HAT := Lib.hid (uat_any h ha)
  have HSM : Hid (UPost w B u m U w) := Lib.hid (UPost.same h (Below.refl _ _))
  obtain ⟨k0, hk0⟩ : ∃ k, k = (uat U a).1 := ⟨_, rfl⟩
  obtain ⟨cu, hcu⟩ : ∃ k, k = utakes U e a 1048575 := ⟨_, rfl⟩
  have HW : Hid (ufill U e a = if cu ≠ 0 then (U, cu) else if k0 = 3 then (U, 9) else if k0 = 1 then (U, 8) else ({ U with cells := iput U.cells a (2, []) }, 0)) := Lib.hid (by
    rw [hk0, hcu]
    unfold ufill utakes
    by_cases h1 : a < 0 ∨ 1048575 < a
    · rw [if_pos h1, if_pos h1, if_pos (by decide)]
    · rw [if_neg h1, if_neg h1])
  have HR : Hid (cu = 0 → 0 ≤ a ∧ a ≤ 1048575) := Lib.hid fun hz => by
    rw [hcu] at hz
    unfold utakes at hz
    split at hz
    · cases hz
    · omega
  rw [← hcu] at HTK
  have HK0 := Lib.hid hk0
  have H := Lib.hid h
  clear h hk0 hcu
  go_enter Tryz.func205, Tryz.ntmps205
  go_wp2_with fail
  refine HTK.out.mono ?_
  rintro r w ⟨rfl, rfl⟩
  by_cases h3 : cu = 0
  rotate_left
  · have HE : Hid (ufill U e a = (U, cu)) := Lib.hid (by rw [HW.out, if_pos h3])
    rw [errV_pos h3]
    have H3 := Lib.hid h3
    clear h3
    go_wp2
    go_ret
    rw [HE.out]
    exact ⟨by rw [errV_pos H3.out]; rfl, HSM.out⟩
  have HR2 := Lib.hid (HR.out h3)
  have HW3 : Hid (ufill U e a = if k0 = 3 then (U, 9) else if k0 = 1 then (U, 8) else ({ U with cells := iput U.cells a (2, []) }, 0)) := Lib.hid (by rw [HW.out, if_neg (by omega)])
  rw [h3, errV_zero]
  clear h3
  go_wp2_with fail
  refine HAT.out.mono ?_
  rintro r w3 ⟨v3, rfl, ⟨dv3, rfl, hat3⟩, hb3⟩
  obtain ⟨ao3, cap3, rfl, _, _, _⟩ := hat3.reads.val
  clear hat3
  generalize (uat U a).2.length = l3
  rw [← HK0.out]
  have hfd := ufield k0 ao3 l3 cap3 w3
  have HB3 := Lib.hid hb3
  clear hb3
  by_cases h4 : k0 = 3
  · have HE : Hid (ufill U e a = (U, 9)) := Lib.hid (by rw [HW3.out, if_pos h4])
    subst h4
    go_wp2
    go_ret
    rw [HE.out]
    exact ⟨by rw [show errV 9 = .iface 41 (.int .i64 9) from errV_pos (by decide)]; rfl, UPost.same H.out HB3.out⟩
  by_cases h5 : k0 = 1
  · have HE : Hid (ufill U e a = (U, 8)) := Lib.hid (by rw [HW3.out, if_neg h4, if_pos h5])
    subst h5
    clear h4
    go_wp2
    go_ret
    rw [HE.out]
    exact ⟨by rw [show errV 8 = .iface 41 (.int .i64 8) from errV_pos (by decide)]; rfl, UPost.same H.out HB3.out⟩
  have HE : Hid (ufill U e a = ({ U with cells := iput U.cells a (2, []) }, 0)) := Lib.hid (by rw [HW3.out, if_neg h4, if_neg h5])
  have HLO : Hid (U.low ≤ a) := Lib.hid (by
    have h6 := HK0.out
    unfold uat at h6
    split at h6
    · exact absurd h6 h4
    · omega)
  have p4 : (k0 == 3) = false := beq_eq_false_iff_ne.2 h4
  have p5 : (k0 == 1) = false := beq_eq_false_iff_ne.2 h5
  clear h4 h5
  have hu3 := H.out.wide HB3.out
  obtain ⟨w5, q5, hu5, hg5⟩ := hu3.update HR2.out.2 HLO.out (v := .agg #[.int .i64 2, .slice none 0 0]) (c := (2, [])) (cellR_zero _ _ 2) ⟨.inr rfl, by decide, fun y hy => by cases hy⟩
  obtain ⟨c0, c1, c2, _⟩ := hu3.c
  have HP5 : Hid (UPost w B u m { U with cells := iput U.cells a (2, []) } w5) := Lib.hid ⟨hu5, (fr_below HB3.out (fun _ => False)).trans (fr_grown hg5) (fun _ _ h => h.elim) fun j _ hj => .inr (by cases hj; rfl)⟩
  clear hu3 hu5 hg5
  go_wp2
  go_ret
  rw [HE.out]
  exact ⟨by rw [errV_zero]; rfl, HP5.out⟩

theorem Un.seal (h : Un w B u m U) (e : Int) (he : 0 ≤ e ∧ e ≤ 1099511627776) : Un (w.setCell ⟨u, 0, none⟩ (.int .i64 e)) B u m { U with epoch := e } := by
  obtain ⟨es, hm, hz⟩ := h.map
  have hf := fr_set w u 0 (.int .i64 e)
  have hne := h.ne
  refine ⟨heap_setCell_same w u 0 _ _ _ h.box, ⟨es, hm.keep (hf.block m h.mlt fun e => hne e.symm), hz.mono fun _ _ hr => hr.keep (hf.kept B fun j _ hB e => h.nu (e ▸ hB))⟩, ⟨he, h.ok.low, h.ok.at', h.ok.rise⟩, h.ne, h.nu, h.nm⟩

set_option maxHeartbeats 2000000 in
set_option maxRecDepth 100000 in
theorem useal_any (h : Un w B u m U) (e : Int) :
    Calls Tryz.prog 203 #[.pointer (some ⟨u, 0, none⟩), .int .i64 e] w fun r w' => r = .returned (.tuple #[.int .i64 (useal U e).1, errV (useal U e).2.2]) ∧ UPost w B u m (useal U e).2.1 w' := by
  have HWI := Lib.hid (fun W => uwithin_any e 1099511627776 W)
  have HSM : Hid (UPost w B u m U w) := Lib.hid (UPost.same h (Below.refl _ _))
  have HW : Hid (useal U e = if e < 0 ∨ 1099511627776 < e then (0, U, 1) else if e ≤ U.epoch then (0, U, 6) else (utail { U with epoch := e }, { U with epoch := e }, 0)) := Lib.hid rfl
  have H := Lib.hid h
  obtain ⟨c0, c1, c2, cf⟩ := h.c
  clear h
  go_enter Tryz.func203, Tryz.ntmps203
  by_cases h1 : e < 0 ∨ 1099511627776 < e
  · have HE : Hid (useal U e = (0, U, 1)) := Lib.hid (by rw [HW.out, if_pos h1])
    have hb : (decide (0 ≤ e) && decide (e ≤ 1099511627776)) = false := by rw [Bool.and_eq_false_iff, decide_eq_false_iff_not, decide_eq_false_iff_not]; omega
    simp only [hb] at HWI
    clear h1 hb
    go_wp2_with fail
    refine (HWI.out _).mono ?_
    rintro r w ⟨rfl, rfl⟩
    go_wp2
    go_ret2
    rw [HE.out]
    exact ⟨by rw [show errV 1 = .iface 41 (.int .i64 1) from errV_pos (by decide)]; rfl, HSM.out⟩
  have HR : Hid (0 ≤ e ∧ e ≤ 1099511627776) := Lib.hid (by omega)
  have hb : (decide (0 ≤ e) && decide (e ≤ 1099511627776)) = true := by rw [Bool.and_eq_true, decide_eq_true_iff, decide_eq_true_iff]; omega
  simp only [hb] at HWI
  clear hb
  go_wp2_with fail
  refine (HWI.out _).mono ?_
  rintro r w ⟨rfl, rfl⟩
  by_cases h2 : e ≤ U.epoch
  · have HE : Hid (useal U e = (0, U, 6)) := Lib.hid (by rw [HW.out, if_neg h1, if_pos h2])
    clear h1
    go_wp2
    go_ret2
    rw [HE.out]
    exact ⟨by rw [show errV 6 = .iface 41 (.int .i64 6) from errV_pos (by decide)]; rfl, HSM.out⟩
  have HE : Hid (useal U e = (utail { U with epoch := e }, { U with epoch := e }, 0)) := Lib.hid (by rw [HW.out, if_neg h1, if_neg h2])
  clear h1
  obtain ⟨W5, hW5⟩ : ∃ W5, W5 = w.setCell ⟨u, 0, none⟩ (.int .i64 e) := ⟨_, rfl⟩
  have hu5 : Un W5 B u m { U with epoch := e } := by rw [hW5]; exact H.out.seal e HR.out
  have hf5 : Fr (fun j => j = u ∨ j = m) w W5 := by rw [hW5]; exact (fr_set w u 0 _).mono fun _ _ h => .inl h
  have HT := Lib.hid (utail_any hu5)
  have HU5 := Lib.hid hu5
  have HF5 := Lib.hid hf5
  have HW5 := Lib.hid hW5
  clear hu5 hf5 hW5
  go_wp2_with fail
  rw [← HW5.out]
  refine HT.out.mono ?_
  rintro r w6 ⟨rfl, hb6⟩
  have HB6 := Lib.hid hb6
  clear hb6 c0 c1 c2 cf h2
  go_wp2
  go_ret2
  rw [HE.out]
  have h5 := HU5.out
  have hs := HF5.out.size
  exact ⟨by rw [errV_zero]; rfl, (h5.old HB6.out).more (fun _ _ hB => .inl hB) (fun hc => hc.elim h5.nu fun h9 => absurd H.out.ult (Nat.not_lt.2 h9)) (fun hc => hc.elim h5.nm fun h9 => absurd H.out.mlt (Nat.not_lt.2 h9)), HF5.out.trans (fr_below HB6.out (fun _ => False)) (fun _ _ h => h) fun _ _ h => h.elim⟩
end

end Go.Proofs.YtlckadlkgjfjcaaGreatDoor

namespace Go.Proofs.YtlckadlkgjfjcaaGreatDoor
open Go.RowKit

/-- What is there while some are still left to be looked at. -/
def FkU (p : Int → Bool) (es : Im Value) (left : Lit → Bool) : Im Value := es.filter fun f => left (.int .i64 f.1) || !p f.1
theorem fkU_start {p : Int → Bool} {es : Im Value} {left : Lit → Bool} (h : ∀ f ∈ es, left (.int .i64 f.1) = true) : FkU p es left = es := List.filter_eq_self.2 fun f hf => by rw [h f hf]; rfl
theorem fkU_end {p : Int → Bool} {es : Im Value} {left : Lit → Bool} (h : ∀ l, left l = false) : FkU p es left = es.filter fun f => !p f.1 := List.filter_congr fun f _ => by rw [h]; rfl
theorem fkU_stays {p : Int → Bool} {es : Im Value} {left : Lit → Bool} {x : Int} (hp : p x = false) : FkU p es (fun z => left z && !z.sameKey (.int .i64 x)) = FkU p es left := List.filter_congr fun f _ => by
  simp only [same_i]
  by_cases hx : f.1 = x
  · rw [hx, hp]; simp
  · rw [show (f.1 == x) = false from beq_eq_false_iff_ne.2 hx]; simp
theorem fkU_struck {p : Int → Bool} {es : Im Value} {left : Lit → Bool} {x : Int} (hp : p x = true) : FkU p es (fun z => left z && !z.sameKey (.int .i64 x)) = idel (FkU p es left) x := by
  unfold FkU idel
  rw [List.filter_filter]
  refine List.filter_congr fun f _ => ?_
  simp only [same_i]
  by_cases hx : f.1 = x
  · rw [hx, hp]; simp
  · rw [show (f.1 == x) = false from beq_eq_false_iff_ne.2 hx]; simp
theorem fkU_get {p : Int → Bool} {es : Im Value} {left : Lit → Bool} {x : Int} {c : Value} (h : iget (FkU p es left) x = some c) : (x, c) ∈ es := (List.mem_filter.1 (iget_some h)).1

/-- What says which are dropped, in whatever world that has come of w by turns of block m alone. -/
def PredU (w : World) (gb m : Nat) (p : Int → Bool) : Prop :=
  ∀ (W : World) (x k : Int) (ao : Option Addr) (l c : Nat), I64 x → Fr (fun j => j = m) w W → Calls Tryz.prog 304 #[.int .i64 x, .agg #[.int .i64 k, .slice ao l c], .pointer (some ⟨gb, 0, none⟩)] W fun r w' => r = .returned (.bool (p x)) ∧ Below W.heap.size W w'

theorem below_grown2 {w w' : World} (h : Below w.heap.size w w') (row : Option Nat) : w.grownBy w' row := ⟨h.os, h.tape, h.output, h.size, fun j hj _ => h.block j hj⟩

set_option maxHeartbeats 4000000 in
set_option maxRecDepth 100000 in
theorem deleteU_any {w : World} {B : Nat → Prop} {m gb : Nat} {es : Im Value} {l : Im IC} {p : Int → Bool} (hm : MapU w m es) (hz : IZip (CellR w B) es l) (hr : IRise l) (hp : PredU w gb m p) :
    Calls Tryz.prog 303 #[.map (some m), .func (.func 304) #[] #[.pointer (some ⟨gb, 0, none⟩)]] w fun r w' => r = .returned (.tuple #[]) ∧ MapU w' m (es.filter fun f => !p f.1) ∧ Fr (fun j => j = m) w w' := by
  have HES : Hid (w.ownsMap Tryz.prog 3 hvU m es.length (.map (es.map entI))) := Lib.hid hm
  have HZ := Lib.hid hz
  have HP := Lib.hid hp
  have HRI := Lib.hid (hz.rise hr)
  clear hm hz hp hr
  go_enter Tryz.func303, Tryz.ntmps303
  go_wp2_with (at_range; go_must (refine wpList_range_own _ rfl _ 168 rfl 3 24 keyed_int Tryz.underlying168 hvU m es.length _ rfl HES.out ?_))
  intro w7 hrg7 hg7 hs7
  try go_frame
  have hb7 : Below w.heap.size w w7 := ⟨hg7.os, hg7.tape, hg7.output, hg7.size, fun j hj => hg7.block j hj (by simp)⟩
  obtain ⟨r, hrr⟩ : ∃ r, r = w.heap.size := ⟨_, rfl⟩
  rw [← hrr] at hrg7
  have HR7 := Lib.hid hrg7
  have HF7 : Hid (Fr (fun j => j = m) w w7) := Lib.hid (fr_below hb7 _)
  have HRE := Lib.hid hrr
  clear hrg7 hg7 hs7 hb7 hrr HES
  rw [← HRE.out]
  go_wp2
  go_loopw [4, 5] (fun _ _ wz => ∃ (left : Lit → Bool) (cnt : Nat), wz.ranges Tryz.prog 3 hvU m r es.length (.map ((FkU p es left).map entI)) left cnt ∧ Fr (fun j => j = m) w wz)
    (fun _ _ wz => wz.rangeLeft m r)
  case atStart =>
    refine ⟨Maps.has (.map (es.map entI)), Maps.size (.map (es.map entI)), ?_, HF7.out⟩
    rw [fkU_start fun f hf => by rw [hasU, ihas_get, iget_mem HRI.out hf]; rfl]
    exact HR7.out
  case round =>
    obtain ⟨left, cnt, hrg, hfz⟩ := hrel
    have HFZ := Lib.hid hfz
    have HRG := Lib.hid hrg
    clear hfz
    go_wp2_with (at_next; go_must (refine wpList_nextU _ rfl _ rfl m r es.length (FkU p es left) left cnt rfl hrg ?_ ?_))
    · intro _ hl0
      have HE : Hid (MapU wr m (es.filter fun f => !p f.1)) := Lib.hid (by
        have h1 := hrg.owns
        rw [fkU_end hl0] at h1
        exact tightU h1)
      clear hl0 hrg
      go_wp2
      first | go_end0 | (simp only [Exit.inBlock, Exit.then]; refine bodyPost_ret (results_none rfl _ _ _) rfl ?_) | refine bodyPost_ret (results_none rfl _ _ _) rfl ?_
      exact ⟨rfl, HE.out, HFZ.out⟩
    · intro x c w1 cnt1 hx hlx hget hrg1 hlt hg1 hs1 hen
      obtain ⟨cc, hcc⟩ : ∃ cc, CellR w B c cc := by
        have hmem := fkU_get hget
        rcases HZ.out.get x with ⟨h1, _⟩ | ⟨a, b, h1, _, h3⟩
        · rw [iget_mem HRI.out hmem] at h1; cases h1
        · rw [iget_mem HRI.out hmem] at h1
          cases h1
          exact ⟨b, h3⟩
      obtain ⟨dv, rfl, hat⟩ := hcc
      obtain ⟨ao, cap, rfl, _, _, _⟩ := hat.reads.val
      have HCNT := Lib.hid hlt
      have HF1 : Hid (Fr (fun j => j = m) w w1) := Lib.hid (HFZ.out.trans (fr_grown hg1) (fun _ _ h => h) fun j hj he => by
        cases he
        exact absurd hj (by rw [HRE.out]; exact Nat.lt_irrefl _))
      have HRG1 := Lib.hid hrg1
      have HX := Lib.hid hx
      generalize cc.1 = kc at *
      generalize cc.2.length = lc at *
      obtain ⟨W2, hW2⟩ : ∃ W2, W2 = w1.alloc (.cells #[.int .i64 kc, .slice ao lc cap] 24) := ⟨_, rfl⟩
      have hb2 : Below w1.heap.size w1 W2 := by rw [hW2]; exact (Below.refl _ _).alloc (Nat.le_refl _) _
      have HF2 : Hid (Fr (fun j => j = m) w W2) := Lib.hid (HF1.out.trans (fr_below hb2 (fun _ => False)) (fun _ _ h => h) fun _ _ h => h.elim)
      have HRG2 := Lib.hid (hrg1.kept (below_grown2 hb2 none) (by simp) (by simp))
      have HC := Lib.hid (HP.out W2 x kc ao lc cap hx HF2.out)
      have HW2 := Lib.hid hW2
      clear hx hlx hget hrg1 hlt hg1 hs1 hat hrg hW2 hb2
      go_wp2_with fail
      rw [← HW2.out]
      refine HC.out.mono ?_
      rintro e w3 ⟨rfl, hb3⟩
      have HF3 : Hid (Fr (fun j => j = m) w w3) := Lib.hid (HF2.out.trans (fr_below hb3 (fun _ => False)) (fun _ _ h => h) fun _ _ h => h.elim)
      have HRG3 := Lib.hid (HRG2.out.kept (below_grown2 hb3 none) (by simp) (by simp))
      clear hb3
      cases hpx : p x
      · have HN : Hid (w3.ranges Tryz.prog 3 hvU m r es.length (.map ((FkU p es (fun z => left z && !z.sameKey (.int .i64 x))).map entI)) (fun z => left z && !z.sameKey (.int .i64 x)) cnt1) := Lib.hid (by rw [fkU_stays hpx]; exact HRG3.out)
        clear hpx
        go_wp2
        go_roundw
        case rel => exact ⟨_, cnt1, HN.out, HF3.out⟩
        case measure => rw [HN.out.left_eq, HRG.out.left_eq]; exact HCNT.out
      · have HPX := Lib.hid hpx
        clear hpx
        go_wp2_with (at_delete; go_must (refine wpList_delete_ranges _ rfl _ _ 168 3 rfl 24 keyed_int Tryz.underlying168 hvU m r es.length _ _ _ rfl HRG3.out _ _ rfl (key_i HX.out) ?_))
        intro w4 cnt4 hrg4 hle hturn
        rw [del_entI, ← fkU_struck HPX.out] at hrg4
        have HRG4 := Lib.hid hrg4
        have HLE := Lib.hid hle
        have HF4 : Hid (Fr (fun j => j = m) w w4) := Lib.hid (HF3.out.trans (fr_grown hturn.grown) (fun _ _ h => h) fun j _ he => by cases he; rfl)
        clear hrg4 hle hturn
        try go_frame
        go_wp2
        go_roundw
        case rel => exact ⟨_, cnt4, HRG4.out, HF4.out⟩
        case measure => rw [HRG4.out.left_eq, HRG.out.left_eq]; exact Nat.lt_of_le_of_lt HLE.out HCNT.out

end Go.Proofs.YtlckadlkgjfjcaaGreatDoor

namespace Go.Proofs.YtlckadlkgjfjcaaGreatDoor
open Go.RowKit

theorem one_cell {w : World} {b : Nat} {x : Value} {T : TypeId} (h : w.heap[b]? = some (.cells #[x] T (0, 0))) : w.cell? ⟨b, 0, none⟩ = some x := by rw [cell_of_row _ _ 0 _ _ _ h]; rfl

set_option maxHeartbeats 2000000 in
set_option maxRecDepth 100000 in
theorem drop_any {w : World} {B : Nat → Prop} {u m : Nat} {es : Im Value} {l : Im IC} {p : Int → Bool} {K : Fn} {cb : Nat} (hc2 : w.cell? ⟨u, 2, none⟩ = some (.map (some m))) (hu : u < w.heap.size) (hne : u ≠ m) (hm : MapU w m es) (hz : IZip (CellR w B) es l) (hr : IRise l) (hl : l.length ≤ 1048576)
    (hp : PredU (w.alloc (.cells #[.func K #[] #[.pointer (some ⟨cb, 0, none⟩)]] 47)) w.heap.size m p) :
    Calls Tryz.prog 268 #[.pointer (some ⟨u, 0, none⟩), .func K #[] #[.pointer (some ⟨cb, 0, none⟩)]] w fun r w' => r = .returned (.int .i64 ((l.length : Int) - ((l.filter fun f => !p f.1).length : Int))) ∧ MapU w' m (es.filter fun f => !p f.1) ∧ Fr (fun j => j = m) w w' := by
  obtain ⟨W1, hW1⟩ : ∃ W1, W1 = w.alloc (.cells #[.func K #[] #[.pointer (some ⟨cb, 0, none⟩)]] 47) := ⟨_, rfl⟩
  rw [← hW1] at hp
  have hb1 : Below w.heap.size w W1 := by rw [hW1]; exact (Below.refl _ _).alloc (Nat.le_refl _) _
  have hm1 := hm.keep (hb1.block m hm.lt)
  have c2 : W1.cell? ⟨u, 2, none⟩ = some (.map (some m)) := (World.cell?_of_block (a := ⟨u, 2, none⟩) (hb1.block u hu)).trans hc2
  have hlen := fun ty => hm1.len ty
  have hzf := hz.filter fun x => !p x
  have HLE : Hid (es.length = l.length ∧ (es.filter fun f => !p f.1).length = (l.filter fun f => !p f.1).length ∧ (l.filter fun f => !p f.1).length ≤ l.length ∧ l.length ≤ 1048576) := Lib.hid ⟨hz.length, hzf.length, List.length_filter_le _ _, hl⟩
  have HDF := Lib.hid (deleteU_any (B := B) hm1 (hz.mono fun _ _ h => h.keep (kept_new hb1 B)) hr hp)
  have HF1 : Hid (Fr (fun j => j = m) w W1) := Lib.hid (fr_below hb1 _)
  have HUM : Hid (u < W1.heap.size ∧ u ≠ m) := Lib.hid ⟨Nat.lt_of_lt_of_le hu hb1.size, hne⟩
  have HC2 := Lib.hid c2
  have HW1 := Lib.hid hW1
  obtain ⟨n1, hn1⟩ : ∃ n, n = es.length := ⟨_, rfl⟩
  rw [← hn1] at hlen HLE
  clear hp hb1 hm1 hzf hm hz hr hl hn1 hc2 hu hne
  subst hW1
  go_enter Tryz.func268, Tryz.ntmps268
  go_wp2_with fail
  refine HDF.out.mono ?_
  rintro r w2 ⟨rfl, hm2, hf2⟩
  have c3 : w2.cell? ⟨u, 2, none⟩ = some (.map (some m)) := (World.cell?_of_block (a := ⟨u, 2, none⟩) (hf2.block u HUM.out.1 HUM.out.2)).trans HC2.out
  have hlen2 := fun ty => hm2.len ty
  rw [HLE.out.2.1] at hlen2
  obtain ⟨n2, hn2⟩ : ∃ n, n = (l.filter fun f => !p f.1).length := ⟨_, rfl⟩
  rw [← hn2] at hlen2
  have HN2 := Lib.hid hn2
  have HWR : Hid (wrap64 ((n1 : Int) - (n2 : Int)) = (l.length : Int) - ((l.filter fun f => !p f.1).length : Int)) := Lib.hid (by
    have h := HLE.out
    rw [← hn2] at h ⊢
    simp only [wrap64]
    omega)
  have HM2 := Lib.hid hm2
  have HF2 := Lib.hid hf2
  clear hm2 hf2 hn2 hlen c2
  go_wp2
  go_ret
  exact ⟨by rw [← HWR.out]; rfl, HM2.out, HF1.out.trans HF2.out (fun _ _ h => h) fun _ _ h => h⟩

/-- Which addresses Trim drops. -/
theorem trim_pred {w : World} {u m ub : Nat} {lo : Int} (hub : w.cell? ⟨ub, 0, none⟩ = some (.pointer (some ⟨u, 0, none⟩))) (hubl : ub < w.heap.size) (hubm : ub ≠ m) (hc1 : w.cell? ⟨u, 1, none⟩ = some (.int .i64 lo)) (hu : u < w.heap.size) (hne : u ≠ m) (hm : m < w.heap.size) :
    PredU (w.alloc (.cells #[.func (.func 269) #[] #[.pointer (some ⟨ub, 0, none⟩)]] 47)) w.heap.size m fun x => decide (x < lo) := by
  intro W x k ao l c hx hf
  have hb1 : Below w.heap.size w (w.alloc (.cells #[.func (.func 269) #[] #[.pointer (some ⟨ub, 0, none⟩)]] 47)) := (Below.refl _ _).alloc (Nat.le_refl _) _
  have hg := heap_alloc_new w (.cells #[.func (.func 269) #[] #[.pointer (some ⟨ub, 0, none⟩)]] 47)
  generalize w.alloc (.cells #[.func (.func 269) #[] #[.pointer (some ⟨ub, 0, none⟩)]] 47) = W1 at hf hb1 hg
  have hgl : w.heap.size < W1.heap.size := (Array.getElem?_eq_some_iff.1 hg).1
  have hgW := (hf.block w.heap.size hgl (by omega)).trans hg
  have u0 : W.cell? ⟨ub, 0, none⟩ = some (.pointer (some ⟨u, 0, none⟩)) := ((World.cell?_of_block (a := ⟨ub, 0, none⟩) ((hf.block ub (by omega) hubm).trans (hb1.block ub hubl)))).trans hub
  have u1 : W.cell? ⟨u, 1, none⟩ = some (.int .i64 lo) := ((World.cell?_of_block (a := ⟨u, 1, none⟩) ((hf.block u (by omega) hne).trans (hb1.block u hu)))).trans hc1
  have HT : Hid (∀ W2, Below W.heap.size W W2 → Calls Tryz.prog 269 #[.int .i64 x, .pointer (some ⟨ub, 0, none⟩)] W2 fun r w' => r = .returned (.bool (decide (x < lo))) ∧ w' = W2) := Lib.hid fun W2 hb2 => by
    have hs := hf.size
    have v0 := (World.cell?_of_block (a := ⟨ub, 0, none⟩) (hb2.block ub (by omega))).trans u0
    have v1 := (World.cell?_of_block (a := ⟨u, 1, none⟩) (hb2.block u (by omega))).trans u1
    clear hb2 u0 u1 hgW hgl hg hf hb1 hub hubl hubm hc1 hu hne hm hs
    go_enter Tryz.func269, Tryz.ntmps269
    go_wp2
    go_ret
    exact ⟨rfl, rfl⟩
  obtain ⟨W3, hW3⟩ : ∃ W3, W3 = W.alloc (.cells #[.int .i64 k, .slice ao l c] 24) := ⟨_, rfl⟩
  have hb3 : Below W.heap.size W W3 := by rw [hW3]; exact (Below.refl _ _).alloc (Nat.le_refl _) _
  have g0 : W3.cell? ⟨w.heap.size, 0, none⟩ = some (.func (.func 269) #[] #[.pointer (some ⟨ub, 0, none⟩)]) := (World.cell?_of_block (a := ⟨w.heap.size, 0, none⟩) (hb3.block w.heap.size (by have := hf.size; omega))).trans (one_cell hgW)
  have HB3 := Lib.hid hb3
  clear u0 u1 hgW hgl hg hf hb1 hub hubl hubm hc1 hu hne hm hb3
  subst hW3
  go_enter Tryz.func304, Tryz.ntmps304
  go_wp2_with fail
  refine (HT.out _ HB3.out).mono ?_
  rintro r w5 ⟨rfl, rfl⟩
  go_wp2
  go_ret
  exact ⟨rfl, HB3.out⟩

/-- Which addresses Cut drops. -/
theorem cut_pred {w : World} {m fb : Nat} {fr : Int} (hfb : w.cell? ⟨fb, 0, none⟩ = some (.int .i64 fr)) (hfl : fb < w.heap.size) (hfm : fb ≠ m) (hm : m < w.heap.size) :
    PredU (w.alloc (.cells #[.func (.func 270) #[] #[.pointer (some ⟨fb, 0, none⟩)]] 47)) w.heap.size m fun x => decide (fr ≤ x) := by
  intro W x k ao l c hx hf
  have hb1 : Below w.heap.size w (w.alloc (.cells #[.func (.func 270) #[] #[.pointer (some ⟨fb, 0, none⟩)]] 47)) := (Below.refl _ _).alloc (Nat.le_refl _) _
  have hg := heap_alloc_new w (.cells #[.func (.func 270) #[] #[.pointer (some ⟨fb, 0, none⟩)]] 47)
  generalize w.alloc (.cells #[.func (.func 270) #[] #[.pointer (some ⟨fb, 0, none⟩)]] 47) = W1 at hf hb1 hg
  have hgl : w.heap.size < W1.heap.size := (Array.getElem?_eq_some_iff.1 hg).1
  have hgW := (hf.block w.heap.size hgl (by omega)).trans hg
  have u0 : W.cell? ⟨fb, 0, none⟩ = some (.int .i64 fr) := ((World.cell?_of_block (a := ⟨fb, 0, none⟩) ((hf.block fb (by omega) hfm).trans (hb1.block fb hfl)))).trans hfb
  have HT : Hid (∀ W2, Below W.heap.size W W2 → Calls Tryz.prog 270 #[.int .i64 x, .pointer (some ⟨fb, 0, none⟩)] W2 fun r w' => r = .returned (.bool (decide (fr ≤ x))) ∧ w' = W2) := Lib.hid fun W2 hb2 => by
    have hs := hf.size
    have v0 := (World.cell?_of_block (a := ⟨fb, 0, none⟩) (hb2.block fb (by omega))).trans u0
    clear hb2 u0 hgW hgl hg hf hb1 hfb hfl hfm hm hs
    go_enter Tryz.func270, Tryz.ntmps270
    go_wp2
    go_ret
    exact ⟨rfl, rfl⟩
  obtain ⟨W3, hW3⟩ : ∃ W3, W3 = W.alloc (.cells #[.int .i64 k, .slice ao l c] 24) := ⟨_, rfl⟩
  have hb3 : Below W.heap.size W W3 := by rw [hW3]; exact (Below.refl _ _).alloc (Nat.le_refl _) _
  have g0 : W3.cell? ⟨w.heap.size, 0, none⟩ = some (.func (.func 270) #[] #[.pointer (some ⟨fb, 0, none⟩)]) := (World.cell?_of_block (a := ⟨w.heap.size, 0, none⟩) (hb3.block w.heap.size (by have := hf.size; omega))).trans (one_cell hgW)
  have HB3 := Lib.hid hb3
  clear u0 hgW hgl hg hf hb1 hfb hfl hfm hm hb3
  subst hW3
  go_enter Tryz.func304, Tryz.ntmps304
  go_wp2_with fail
  refine (HT.out _ HB3.out).mono ?_
  rintro r w5 ⟨rfl, rfl⟩
  go_wp2
  go_ret
  exact ⟨rfl, HB3.out⟩

end Go.Proofs.YtlckadlkgjfjcaaGreatDoor

namespace Go.Proofs.YtlckadlkgjfjcaaGreatDoor
open Go.RowKit

section
variable {w : World} {B : Nat → Prop} {u m : Nat} {U : US}
set_option maxHeartbeats 4000000 in
set_option maxRecDepth 100000 in
theorem utrim_any (h : Un w B u m U) (e b : Int) :
    Calls Tryz.prog 206 #[.pointer (some ⟨u, 0, none⟩), .int .i64 e, .int .i64 b] w fun r w' => r = .returned (errV (utrim U e b).2) ∧ UPost w B u m (utrim U e b).1 w' := by
  obtain ⟨W1, hW1⟩ : ∃ W1, W1 = w.alloc (.cells #[.pointer (some ⟨u, 0, none⟩)] 48) := ⟨_, rfl⟩
  have hb1 : Below w.heap.size w W1 := by rw [hW1]; exact (Below.refl _ _).alloc (Nat.le_refl _) _
  have hx1 : W1.heap[w.heap.size]? = some (.cells #[.pointer (some ⟨u, 0, none⟩)] 48 (0, 0)) := by rw [hW1]; exact heap_alloc_new _ _
  have q0 := one_cell hx1
  have hu1 := h.old hb1
  have HTK := Lib.hid (utakes_any hu1 e b 1048576)
  have HSM : Hid (UPost w B u m U W1) := Lib.hid (UPost.same h hb1)
  obtain ⟨cu, hcu⟩ : ∃ k, k = utakes U e b 1048576 := ⟨_, rfl⟩
  have HW : Hid (utrim U e b = if cu ≠ 0 then (U, cu) else ({ U with low := max U.low b, cells := U.cells.filter fun f => !decide (f.1 < max U.low b) }, 0)) := Lib.hid (by
    rw [hcu]
    unfold utrim utakes
    by_cases h1 : b < 0 ∨ 1048576 < b
    · rw [if_pos h1, if_pos h1, if_pos (by decide)]
    · rw [if_neg h1, if_neg h1])
  have HR : Hid (cu = 0 → 0 ≤ b ∧ b ≤ 1048576) := Lib.hid fun hz => by
    rw [hcu] at hz
    unfold utakes at hz
    split at hz
    · cases hz
    · omega
  rw [← hcu] at HTK
  obtain ⟨c0, c1, c2, cf⟩ := hu1.c
  obtain ⟨lo, hlo⟩ : ∃ z, z = if U.low < b then b else U.low := ⟨_, rfl⟩
  have HLO : Hid (lo = max U.low b) := Lib.hid (by rw [hlo]; split <;> omega)
  have hult := h.ult
  have hmlt := h.mlt
  obtain ⟨X, hX⟩ : ∃ X, X = W1.setCell ⟨u, 1, none⟩ (.int .i64 lo) := ⟨_, rfl⟩
  have hfX : Fr (fun j => j = u) W1 X := by rw [hX]; exact fr_set W1 u 1 _
  have hbX : X.heap[u]? = some (.cells #[.int .i64 U.epoch, .int .i64 lo, .map (some m)] 170 (0, 0)) := by rw [hX]; exact heap_setCell_same W1 u 1 _ _ _ hu1.box
  have hs1 := hb1.size
  have hubl : w.heap.size < W1.heap.size := (Array.getElem?_eq_some_iff.1 hx1).1
  have hqX : X.heap[w.heap.size]? = some (.cells #[.pointer (some ⟨u, 0, none⟩)] 48 (0, 0)) := (hfX.block w.heap.size hubl (by omega)).trans hx1
  have HDR : Hid (∀ W, Below X.heap.size X W → cu = 0 → Calls Tryz.prog 268 #[.pointer (some ⟨u, 0, none⟩), .func (.func 269) #[] #[.pointer (some ⟨w.heap.size, 0, none⟩)]] W fun r w' => (∃ z, r = .returned (.int .i64 z)) ∧ UPost w B u m (utrim U e b).1 w') := Lib.hid fun W hb hz => by
    have hne := h.ne
    have hsX := hfX.size
    have hsW := hb.size
    have hboxW := (hb.block u (by omega)).trans hbX
    obtain ⟨es, hm, hzz⟩ := h.map
    have hmW : MapU W m es := (hm.keep (hb1.block m hmlt)).keep ((hb.block m (by omega)).trans (hfX.block m (by omega) fun e => hne e.symm))
    have hk : Kept B w W := by
      have k1 := kept_new hb1 B
      refine ⟨by omega, fun j hj hB => (hb.block j (by omega)).trans ((hfX.block j (by omega) fun e => h.nu (e ▸ hB)).trans (k1.block j hj hB))⟩
    have d1 : W.cell? ⟨u, 1, none⟩ = some (.int .i64 lo) := by rw [cell_of_row _ _ 1 _ _ _ hboxW]; rfl
    have d2 : W.cell? ⟨u, 2, none⟩ = some (.map (some m)) := by rw [cell_of_row _ _ 2 _ _ _ hboxW]; rfl
    have hqW := one_cell ((hb.block w.heap.size (by omega)).trans hqX)
    refine (drop_any d2 (by omega) hne hmW (hzz.mono fun _ _ hr => hr.keep hk) h.ok.rise h.ok.len (trim_pred hqW (by omega) (by omega) d1 (by omega) hne (by omega))).mono fun r w' hp => ⟨⟨_, hp.1⟩, ?_⟩
    obtain ⟨_, hm', hf'⟩ := hp
    have e1 : utrim U e b = ({ U with low := lo, cells := U.cells.filter fun f => !decide (f.1 < lo) }, 0) := by rw [HW.out, if_neg (by omega), HLO.out]
    have hok := utrim_ok h.ok e b
    rw [e1] at hok ⊢
    have hkw : Kept B w w' := ⟨Nat.le_trans hk.size hf'.size, fun j hj hB => (hf'.block j (by omega) fun e => h.nm (e ▸ hB)).trans (hk.block j hj hB)⟩
    refine ⟨⟨(hf'.block u (by omega) hne).trans hboxW, ⟨_, hm', (hzz.mono fun _ _ hr => (hr.keep hkw).mono fun _ _ hB => .inl hB).filter fun x => !decide (x < lo)⟩, hok, hne, fun hc => hc.elim h.nu fun h9 => by omega, fun hc => hc.elim h.nm fun h9 => by omega⟩, ?_⟩
    have f1 : Fr (fun j => j = u ∨ j = m) w W1 := fr_below hb1 _
    have f2 := f1.trans hfX (U := fun j => j = u ∨ j = m) (fun _ _ h => h) fun _ _ h => .inl h
    have f3 := f2.trans (fr_below hb (fun _ => False)) (U := fun j => j = u ∨ j = m) (fun _ _ h => h) fun _ _ h => h.elim
    exact f3.trans hf' (fun _ _ h => h) fun _ _ h => .inr h
  have HX := Lib.hid hX
  have HW1 := Lib.hid hW1
  have HLE := Lib.hid hlo
  clear h hW1 hb1 hx1 hu1 hcu hult hmlt hfX hbX hs1 hubl hqX hX hlo
  go_enter Tryz.func206, Tryz.ntmps206
  go_wp2_with fail
  rw [← HW1.out]
  refine HTK.out.mono ?_
  rintro r w3 ⟨rfl, rfl⟩
  by_cases h3 : cu = 0
  rotate_left
  · have HE : Hid (utrim U e b = (U, cu)) := Lib.hid (by rw [HW.out, if_pos h3])
    rw [errV_pos h3]
    have H3 := Lib.hid h3
    clear h3
    go_wp2
    go_ret
    rw [HE.out]
    exact ⟨by rw [errV_pos H3.out]; rfl, HSM.out⟩
  have HDX := Lib.hid (fun W hb => HDR.out W hb h3)
  have HE : Hid ((utrim U e b).2 = 0) := Lib.hid (by rw [HW.out, if_neg (by omega)])
  rw [h3, errV_zero]
  clear h3
  by_cases hlb : U.low < b
  · have HX2 : Hid (X = w3.setCell ⟨u, 1, none⟩ (.int .i64 b)) := Lib.hid (by rw [HX.out, HLE.out, if_pos hlb])
    go_wp2_with fail
    go_region
    all_goals
      go_wp2_with fail
      rw [← HX2.out]
      refine (HDX.out X.drew ⟨rfl, rfl, rfl, Nat.le_refl _, fun _ _ => rfl⟩).mono ?_
      rintro r w5 ⟨⟨z, rfl⟩, hp5⟩
      have HP5 := Lib.hid hp5
      clear hp5
      go_wp2
      go_ret
      exact ⟨by rw [HE.out, errV_zero]; rfl, HP5.out.1, HP5.out.2⟩
  · have HX2 : Hid (X = w3.setCell ⟨u, 1, none⟩ (.int .i64 U.low)) := Lib.hid (by rw [HX.out, HLE.out, if_neg hlb])
    go_wp2_with fail
    go_region
    all_goals
      go_wp2_with fail
      rw [← HX2.out]
      refine (HDX.out X.drew ⟨rfl, rfl, rfl, Nat.le_refl _, fun _ _ => rfl⟩).mono ?_
      rintro r w5 ⟨⟨z, rfl⟩, hp5⟩
      have HP5 := Lib.hid hp5
      clear hp5
      go_wp2
      go_ret
      exact ⟨by rw [HE.out, errV_zero]; rfl, HP5.out.1, HP5.out.2⟩

set_option maxHeartbeats 4000000 in
set_option maxRecDepth 100000 in
theorem ucut_any (h : Un w B u m U) (e b : Int) :
    Calls Tryz.prog 207 #[.pointer (some ⟨u, 0, none⟩), .int .i64 e, .int .i64 b] w fun r w' => r = .returned (.tuple #[.int .i64 (ucut U e b).1, errV (ucut U e b).2.2]) ∧ UPost w B u m (ucut U e b).2.1 w' := by
  obtain ⟨W1, hW1⟩ : ∃ W1, W1 = w.alloc (.cells #[.int .i64 b] 3) := ⟨_, rfl⟩
  have hb1 : Below w.heap.size w W1 := by rw [hW1]; exact (Below.refl _ _).alloc (Nat.le_refl _) _
  have hx1 : W1.heap[w.heap.size]? = some (.cells #[.int .i64 b] 3 (0, 0)) := by rw [hW1]; exact heap_alloc_new _ _
  have q0 := one_cell hx1
  have hu1 := h.old hb1
  have HTK := Lib.hid (utakes_any hu1 e b 1048576)
  have HSM : Hid (UPost w B u m U W1) := Lib.hid (UPost.same h hb1)
  have HSD : Hid (UPost w B u m U W1.drew) := Lib.hid (UPost.same h (hb1.trans (Below.mono (show Below W1.heap.size W1 W1.drew from ⟨rfl, rfl, rfl, Nat.le_refl _, fun _ _ => rfl⟩) hb1.size)))
  obtain ⟨cu, hcu⟩ : ∃ k, k = utakes U e b 1048576 := ⟨_, rfl⟩
  obtain ⟨n, hn⟩ : ∃ n, n = (U.cells.length : Int) - ((U.cells.filter fun f => !decide (b ≤ f.1)).length : Int) := ⟨_, rfl⟩
  have HW : Hid (ucut U e b = if cu ≠ 0 then (0, U, cu) else if b < U.low then (0, U, 9) else (n, { U with cells := U.cells.filter fun f => !decide (b ≤ f.1) }, 0)) := Lib.hid (by
    rw [hcu, hn]
    unfold ucut utakes
    by_cases h1 : b < 0 ∨ 1048576 < b
    · rw [if_pos h1, if_pos h1, if_pos (by decide)]
    · rw [if_neg h1, if_neg h1])
  rw [← hcu] at HTK
  obtain ⟨c0, c1, c2, cf⟩ := hu1.c
  have hult := h.ult
  have hmlt := h.mlt
  have hs1 := hb1.size
  have hubl : w.heap.size < W1.heap.size := (Array.getElem?_eq_some_iff.1 hx1).1
  have HDR : Hid (∀ W, Below W1.heap.size W1 W → cu = 0 → ¬ b < U.low → Calls Tryz.prog 268 #[.pointer (some ⟨u, 0, none⟩), .func (.func 270) #[] #[.pointer (some ⟨w.heap.size, 0, none⟩)]] W fun r w' => r = .returned (.int .i64 n) ∧ UPost w B u m { U with cells := U.cells.filter fun f => !decide (b ≤ f.1) } w') := Lib.hid fun W hb hz hlow => by
    have hne := h.ne
    have hsW := hb.size
    have hbw := hb1.trans (hb.mono hs1)
    have huW := h.old hbw
    obtain ⟨_, _, d2, _⟩ := huW.c
    obtain ⟨es, hm, hzz⟩ := huW.map
    have hqW := one_cell ((hb.block w.heap.size (by omega)).trans hx1)
    refine (drop_any d2 (by omega) hne hm hzz h.ok.rise h.ok.len (cut_pred hqW (by omega) (by omega) (by omega))).mono fun r w' hp => ⟨by rw [hn]; exact hp.1, ?_⟩
    obtain ⟨_, hm', hf'⟩ := hp
    have hok := ucut_ok h.ok e b
    rw [show (ucut U e b).2.1 = { U with cells := U.cells.filter fun f => !decide (b ≤ f.1) } from by rw [HW.out, if_neg (by omega), if_neg hlow]] at hok
    have hkw : Kept B W w' := hf'.kept B fun j _ hB e => h.nm (e ▸ hB)
    refine ⟨⟨(hf'.block u (by omega) hne).trans huW.box, ⟨_, hm', (hzz.mono fun _ _ hr => (hr.keep hkw).mono fun _ _ hB => .inl hB).filter fun x => !decide (b ≤ x)⟩, hok, hne, fun hc => hc.elim h.nu fun h9 => by omega, fun hc => hc.elim h.nm fun h9 => by omega⟩, ?_⟩
    exact (fr_below hbw (fun j => j = u ∨ j = m)).trans hf' (fun _ _ h => h) fun _ _ h => .inr h
  have HW1 := Lib.hid hW1
  clear h hW1 hb1 hx1 hu1 hcu hn hult hmlt hs1 hubl
  go_enter Tryz.func207, Tryz.ntmps207
  go_wp2_with fail
  rw [← HW1.out]
  refine HTK.out.mono ?_
  rintro r w3 ⟨rfl, rfl⟩
  by_cases h3 : cu = 0
  rotate_left
  · have HE : Hid (ucut U e b = (0, U, cu)) := Lib.hid (by rw [HW.out, if_pos h3])
    rw [errV_pos h3]
    have H3 := Lib.hid h3
    clear h3
    go_wp2
    go_ret2
    rw [HE.out]
    exact ⟨by rw [errV_pos H3.out]; rfl, HSM.out⟩
  have HDX := Lib.hid (fun W hb => HDR.out W hb h3)
  have HW3 : Hid (ucut U e b = if b < U.low then (0, U, 9) else (n, { U with cells := U.cells.filter fun f => !decide (b ≤ f.1) }, 0)) := Lib.hid (by rw [HW.out, if_neg (by omega)])
  rw [h3, errV_zero]
  clear h3
  by_cases hlb : b < U.low
  · have HE : Hid (ucut U e b = (0, U, 9)) := Lib.hid (by rw [HW3.out, if_pos hlb])
    go_wp2_with fail
    go_region
    all_goals
      go_wp2
      go_ret2
      rw [HE.out]
      exact ⟨by rw [show errV 9 = .iface 41 (.int .i64 9) from errV_pos (by decide)]; rfl, HSD.out⟩
  · have HE : Hid (ucut U e b = (n, { U with cells := U.cells.filter fun f => !decide (b ≤ f.1) }, 0)) := Lib.hid (by rw [HW3.out, if_neg hlb])
    have HNL := Lib.hid hlb
    go_wp2_with fail
    go_region
    all_goals
      go_wp2_with fail
      refine (HDX.out w3.drew ⟨rfl, rfl, rfl, Nat.le_refl _, fun _ _ => rfl⟩ HNL.out).mono ?_
      rintro r w5 ⟨rfl, hp5⟩
      have HP5 := Lib.hid hp5
      clear hp5
      go_wp2
      go_ret2
      rw [HE.out]
      exact ⟨by rw [errV_zero]; rfl, HP5.out.1, HP5.out.2⟩

/-- What Read answers. -/
def UReadPost (w : World) (r : IC × Nat) (e : Ending) (w' : World) : Prop := ∃ dv, e = .returned (.tuple #[.agg #[.int .i64 r.1.1, dv], errV r.2]) ∧ Owns w' w.heap.size 5 .u8 dv r.1.2 ∧ Below w.heap.size w w'
set_option maxHeartbeats 4000000 in
set_option maxRecDepth 100000 in
theorem uread_any (h : Un w B u m U) (e : Int) {a : Int} (ha : I64 a) :
    Calls Tryz.prog 114 #[.pointer (some ⟨u, 0, none⟩), .int .i64 e, .int .i64 a] w (UReadPost w (uread U e a)) := by
  obtain ⟨W1, hW1⟩ : ∃ W1, W1 = w.alloc (.cells #[.int .i64 0, .slice none 0 0] 24) := ⟨_, rfl⟩
  have hb1 : Below w.heap.size w W1 := by rw [hW1]; exact (Below.refl _ _).alloc (Nat.le_refl _) _
  have hx1 : W1.heap[w.heap.size]? = some (.cells #[.int .i64 0, .slice none 0 0] 24 (0, 0)) := by rw [hW1]; exact heap_alloc_new _ _
  have hu1 := h.old hb1
  have HTK := Lib.hid (utakes_any hu1 e a 1048575)
  have HAT := Lib.hid (uat_any hu1 ha)
  obtain ⟨cu, hcu⟩ : ∃ k, k = utakes U e a 1048575 := ⟨_, rfl⟩
  have hsz : (uat U a).2.length ≤ 64 := by
    unfold uat
    split
    · simp
    · cases hg : iget U.cells a with
      | none => simp
      | some c => exact (chk_zero (h.ok.at' _ (iget_some hg)).2.2.2.1).2.2.1
  obtain ⟨cc, hcc⟩ : ∃ c, c = uat U a := ⟨_, rfl⟩
  have HW : Hid (uread U e a = if cu ≠ 0 then ((0, []), cu) else (cc, 0)) := Lib.hid (by
    rw [hcu, hcc]
    unfold uread utakes
    by_cases h1 : a < 0 ∨ 1048575 < a
    · rw [if_pos h1, if_pos h1, if_pos (by decide)]
    · rw [if_neg h1, if_neg h1])
  rw [← hcu] at HTK
  rw [← hcc] at HAT hsz
  obtain ⟨b0, b1, b2, b3⟩ := blk2 hx1
  have HB1 := Lib.hid hb1
  have HX1 := Lib.hid hx1
  have HSZ := Lib.hid hsz
  have HL1 : Hid (w.heap.size < W1.heap.size) := Lib.hid (Array.getElem?_eq_some_iff.1 hx1).1
  have HW1 := Lib.hid hW1
  clear h hW1 hb1 hx1 hu1 hcu hcc hsz
  go_enter Tryz.func114, Tryz.ntmps114
  go_wp2_with fail
  rw [← HW1.out]
  refine HTK.out.mono ?_
  rintro r w3 ⟨rfl, rfl⟩
  by_cases h3 : cu = 0
  rotate_left
  · have HE : Hid (uread U e a = ((0, []), cu)) := Lib.hid (by rw [HW.out, if_pos h3])
    rw [errV_pos h3]
    have H3 := Lib.hid h3
    clear h3
    go_wp2
    obtain ⟨q0, q1, _, _⟩ := blk2 (set2 (x := .int .i64 0) (y := .slice none 0 0) HX1.out)
    refine bodyPost_ret (v := .tuple #[.agg #[.int .i64 0, .slice none 0 0], .iface 41 (.int .i64 (cu : Int))]) (by simp [results, Tryz.results114, go_sem, q0, q1]) rfl ?_
    unfold UReadPost
    rw [HE.out]
    exact ⟨_, by rw [errV_pos H3.out], World.ownsRow_nil _ _ _ _, (HB1.out.setCell (by simp) _).setCell (by simp) _⟩
  have HE : Hid (uread U e a = (cc, 0)) := Lib.hid (by rw [HW.out, if_neg (by omega)])
  rw [h3, errV_zero]
  clear h3 b0 b1 b2 b3
  go_wp2_with fail
  refine HAT.out.mono ?_
  rintro r w4 ⟨v4, rfl, ⟨dv4, rfl, hat4⟩, hb4⟩
  have HC := Lib.hid (copy_any cc.1 dv4 cc.2 w4 hat4.reads (by have := HSZ.out; omega))
  obtain ⟨ao4, cap4, rfl, _, _, _⟩ := hat4.reads.val
  have HB4 := Lib.hid hb4
  clear hb4 hat4
  obtain ⟨kc, dc⟩ := cc
  simp only [] at HC ⊢
  go_wp2_with fail
  refine HC.out.mono ?_
  rintro r w5 ⟨v5, rfl, ho5, hb5⟩
  obtain ⟨ao5, cap5, rfl, _, _, _⟩ := ho5.reads.val
  have hb35 := HB4.out.trans (hb5.mono HB4.out.size)
  have hx5 := (hb35.block w.heap.size HL1.out).trans HX1.out
  obtain ⟨b0, b1, b2, b3⟩ := blk2 hx5
  have HX5 := Lib.hid hx5
  have HO5 := Lib.hid ho5
  have HB5 := Lib.hid hb35
  have HS4 : Hid (w.heap.size < w4.heap.size) := Lib.hid (Nat.lt_of_lt_of_le HL1.out HB4.out.size)
  clear ho5 hb5 hb35 hx5
  go_wp2
  obtain ⟨q0, q1, _, _⟩ := blk2 (set2 (x := .int .i64 kc) (y := .slice ao5 dc.length cap5) HX5.out)
  refine bodyPost_ret (v := .tuple #[.agg #[.int .i64 kc, .slice ao5 dc.length cap5], .nilIface]) (by simp [results, Tryz.results114, go_sem, q0, q1]) rfl ?_
  unfold UReadPost
  rw [HE.out]
  have hb := HB1.out.trans (HB5.out.mono HB1.out.size)
  refine ⟨.slice ao5 dc.length cap5, by rw [errV_zero], ?_, (hb.setCell (by simp) _).setCell (by simp) _⟩
  have h1 : Owns w5 w.heap.size 5 .u8 (.slice ao5 dc.length cap5) dc := HO5.out.mono (Nat.le_of_lt HS4.out)
  refine h1.set2 (fun j hj e => ?_) _ _
  have := (HO5.out.lt j hj).1
  have := HS4.out
  omega
end

end Go.Proofs.YtlckadlkgjfjcaaGreatDoor
