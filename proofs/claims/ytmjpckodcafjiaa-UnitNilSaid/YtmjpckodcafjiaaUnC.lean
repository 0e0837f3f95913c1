/- A range over a unit's cells; the tail. -/
import Derived.Test.YtmjpckodcafjiaaUnB
import Derived.Maps.RangeWalk
namespace Go.Proofs.Ytmjpckodcafjiaa
open Go.RowKit

/-- The next entry of a range over a map of cells. -/
theorem wpList_nextU (w : World) {ops : Array Oper} {rest : List Oper} {o : Oper} {a : Act} {Q : Exit → Act → World → Prop} (hg : o.guard = none) (it : Operand) (hop : o.op = Op.next it false) (b r n : Nat) (es : Im Value) (left : Lit → Bool) (cnt : Nat)
    (hit : a.eval it = .pointer (some ⟨r, 0, none⟩)) (h : w.ranges Try.prog 3 hvU b r n (.map (es.map entI)) left cnt)
    (hDone : cnt = 0 → (∀ kl, left kl = false) → wpList Try.prog ops Q rest (a.put o.dst (.tuple #[.bool false])) w)
    (hMore : ∀ (x : Int) (c : Value) (w' : World) (cnt' : Nat), I64 x → left (.int .i64 x) = true → iget es x = some c → w'.ranges Try.prog 3 hvU b r n (.map (es.map entI)) (fun z => left z && !z.sameKey (.int .i64 x)) cnt' → cnt' < cnt →
      w.grownBy w' (some r) → w'.heap.size = w.heap.size → (Instr.entry (.pointer (some ⟨r, 0, none⟩))).run Try.prog w' = .ok (.tuple #[.int .i64 x, c]) w' → wpList Try.prog ops Q rest (a.put o.dst (.tuple #[.bool true, .int .i64 x, c])) w') :
    wpList Try.prog ops Q (o :: rest) a w := by
  refine wpList_next_ranges w hg it hop 3 keyed_int hvU (Value.int .i64) (id : Value → Value) (fun key kl hkey => by obtain ⟨x, rfl, _⟩ := Maps.keyOf_int_inv Try.underlying3 hkey; exact ⟨x, rfl⟩) (fun v y _ => ⟨v, rfl⟩) b r n _ left cnt hit h hDone ?_
  intro x c kl y w' cnt' hkey hlk hv hat hrg hlt hgr hsz hen
  obtain ⟨x', ex, rfl, hwx⟩ := Maps.keyOf_int_inv Try.underlying3 hkey
  cases ex
  have hc : y = (.held c, []) := by
    have : some (DataW.held c, ([] : List MemPlace)) = some y := hv
    exact (Option.some.inj this).symm
  subst hc
  have hat' : ∀ z : Value, DataW.held ((iget es x).getD z) = DataW.held c := fun z => by rw [← atKey_entI]; exact hat _
  have hget : iget es x = some c := by
    cases hg : iget es x with
    | none =>
      have a1 := hat' (.bool true)
      have a2 := hat' (.bool false)
      rw [hg] at a1 a2
      have a3 := a1.trans a2.symm
      cases a3
    | some u =>
      have a1 := hat' (.bool true)
      rw [hg] at a1
      have : u = c := by injection a1
      rw [this]
  refine hMore x c w' cnt' ?_ hlk hget hrg hlt hgr hsz hen
  simp [Lit.wf, IntKind.min, IntKind.max, IntKind.signed, IntKind.bits] at hwx
  exact ⟨by omega, by omega⟩
theorem hasU (es : Im Value) (n : Int) : Maps.has (.map (es.map entI)) (.int .i64 n) = ihas es n := by
  rw [Maps.has_eq]
  unfold ihas
  rw [List.any_map]
  refine congrArg (List.any es) (funext fun f => same_i f.1 n)

theorem utail_eq {U : US} (h : UOk U) {t : Int} (_ : U.low ≤ t) (h1 : ∀ f ∈ U.cells, f.1 + 1 ≤ t) (h2 : t = U.low ∨ ∃ f ∈ U.cells, t = f.1 + 1) : utail U = t := by
  unfold utail
  cases hg : U.cells.getLast? with
  | none =>
    have e : U.cells = [] := List.getLast?_eq_none_iff.1 hg
    rcases h2 with h2 | ⟨f, hf, _⟩
    · exact h2.symm
    · rw [e] at hf; cases hf
  | some x =>
    obtain ⟨r, hr⟩ := List.getLast?_eq_some_iff.1 hg
    have hx : x ∈ U.cells := by rw [hr]; simp
    have h3 := h1 x hx
    have h4 : ∀ f ∈ U.cells, f.1 ≤ x.1 := fun f hf => by
      have hR := h.rise
      unfold IRise at hR
      rw [hr] at hR hf
      rcases List.mem_append.1 hf with hf | hf
      · exact Int.le_of_lt ((List.pairwise_append.1 hR).2.2 f hf x (by simp))
      · rw [List.mem_singleton.1 hf]; exact Int.le_refl _
    have h5 := (h.at' x hx).1
    simp only
    rcases h2 with h2 | ⟨f, hf, h2⟩
    · omega
    · have := h4 f hf; omega

section
variable {w : World} {B : Nat → Prop} {u m : Nat} {U : US}
set_option maxHeartbeats 1000000 in
set_option maxRecDepth 100000 in
theorem utail_any (h : Un w B u m U) : Calls Try.prog 80 #[.pointer (some ⟨u, 0, none⟩)] w fun r w' => r = .returned (.int .i64 (utail U)) ∧ Below w.heap.size w w' := by
  obtain ⟨c0, c1, c2, _⟩ := h.c
  obtain ⟨es, hm, hz⟩ := h.map
  have HES : Hid (w.ownsMap Try.prog 3 hvU m es.length (.map (es.map entI))) := Lib.hid hm
  have HOK := Lib.hid h.ok
  have HZ := Lib.hid hz
  have HLOW : Hid (0 ≤ U.low ∧ U.low ≤ 1048576) := Lib.hid h.ok.low
  obtain ⟨lo, hlo⟩ : ∃ z, z = U.low := ⟨_, rfl⟩
  rw [← hlo] at c1
  have HLO := Lib.hid hlo
  clear h hm hz hlo
  go_enter Try.func80, Try.ntmps80
  go_wp2_with (at_range; go_must (refine wpList_range_own _ rfl _ 110 rfl 3 77 keyed_int Try.underlying110 hvU m es.length _ rfl HES.out ?_))
  intro w7 hrg7 hg7 hs7
  try go_frame
  have hb7 : Below w.heap.size w w7 := ⟨hg7.os, hg7.tape, hg7.output, hg7.size, fun j hj => hg7.block j hj (by simp)⟩
  obtain ⟨r, hr⟩ : ∃ r, r = w.heap.size := ⟨_, rfl⟩
  rw [← hr] at hrg7
  have HR7 := Lib.hid hrg7
  have HB7 := Lib.hid hb7
  have HRE := Lib.hid hr
  clear hrg7 hg7 hs7 hb7 hr HES c0 c1 c2
  rw [← HRE.out]
  go_wp2
  go_loopw [3, 4] (fun t _ wz => ∃ (z : Int) (left : Lit → Bool) (cnt : Nat), t = .int .i64 z ∧ wz.ranges Try.prog 3 hvU m r es.length (.map (es.map entI)) left cnt ∧ Below w.heap.size w wz ∧ lo ≤ z ∧ (∀ f ∈ U.cells, left (.int .i64 f.1) = true ∨ f.1 + 1 ≤ z) ∧ (z = lo ∨ ∃ f ∈ U.cells, z = f.1 + 1))
    (fun _ _ wz => wz.rangeLeft m r)
  case atStart =>
    refine ⟨lo, _, _, rfl, HR7.out, HB7.out, Int.le_refl _, fun f hf => .inl ?_, .inl rfl⟩
    rw [hasU, ihas_get]
    rcases HZ.out.get f.1 with ⟨_, h2⟩ | ⟨a, b, h1, _, _⟩
    · rw [iget_mem HOK.out.rise hf] at h2; cases h2
    · rw [h1]; rfl
  case round =>
    obtain ⟨z, left, cnt, rfl, hrg, hbz, hz0, hz1, hz2⟩ := hrel
    have HBZ := Lib.hid hbz
    have HRG := Lib.hid hrg
    have HZ0 := Lib.hid hz0
    have HZ1 := Lib.hid hz1
    have HZ2 := Lib.hid hz2
    clear hbz hz0 hz1 hz2
    go_wp2_with (at_next; go_must (refine wpList_nextU _ rfl _ rfl m r es.length es left cnt rfl hrg ?_ ?_))
    · intro _ hl0
      have HF : Hid (utail U = z) := Lib.hid (utail_eq HOK.out (by rw [← HLO.out]; exact HZ0.out) (fun f hf => by
        rcases HZ1.out f hf with h | h
        · rw [hl0] at h; cases h
        · exact h) (by rw [← HLO.out]; exact HZ2.out))
      clear hl0
      go_wp2
      go_ret
      exact ⟨by rw [HF.out]; rfl, HBZ.out⟩
    · intro x c w1 cnt1 hx hlx hget hrg1 hlt hg1 hs1 hen
      have HCNT := Lib.hid hlt
      have hmem : ∃ cc, (x, cc) ∈ U.cells := by
        rcases HZ.out.get x with ⟨h1, _⟩ | ⟨a, b, _, h2, _⟩
        · rw [hget] at h1; cases h1
        · exact ⟨b, iget_some h2⟩
      obtain ⟨cc, hmem⟩ := hmem
      have hxr := (HOK.out.at' _ hmem)
      have HMEM := Lib.hid hmem
      have HRX : Hid (0 ≤ x ∧ x ≤ 1048575) := Lib.hid ⟨by have := HLOW.out; have := hxr.1; omega, hxr.2.1⟩
      have HWX : Hid (wrap64 (x + 1) = x + 1) := Lib.hid (by have := HRX.out; simp only [wrap64]; omega)
      have HB1 := Lib.hid (HBZ.out.grown hg1 HBZ.out.size (fun j hj => by cases hj; rw [HRE.out]; exact Nat.le_refl _))
      have HRG1 := Lib.hid hrg1
      clear hx hlx hget hrg1 hlt hg1 hs1 hmem hxr
      go_wp2
      go_roundw
      case rel =>
        refine ⟨if z < x + 1 then x + 1 else z, _, cnt1, by rw [HWX.out], HRG1.out, HB1.out, ?_, fun f hf => ?_, ?_⟩
        · have := HZ0.out; split <;> omega
        · by_cases hfx : f.1 = x
          · right; rw [hfx]; split <;> omega
          · rcases HZ1.out f hf with h | h
            · left
              have e : (f.1 == x) = false := beq_eq_false_iff_ne.2 hfx
              simp only [h, same_i, e, Bool.not_false, Bool.and_true]
            · right; split <;> omega
        · split
          · exact .inr ⟨_, HMEM.out, rfl⟩
          · exact HZ2.out
      case measure => rw [HRG1.out.left_eq, HRG.out.left_eq]; exact HCNT.out
end

end Go.Proofs.Ytmjpckodcafjiaa
