/- A cell is stored into a unit; Write, Fill. -/
import Derived.Test.YtmjpckodcafjiaaUnC
import Derived.Test.YtmjpckodcafjiaaCloneA
namespace Go.Proofs.Ytmjpckodcafjiaa
open Go.RowKit

theorem IRise.len {α : Type} : ∀ {l : Im α} {lo hi : Int} (_ : IRise l) (_ : ∀ f ∈ l, lo ≤ f.1 ∧ f.1 ≤ hi), lo ≤ hi + 1 → (l.length : Int) ≤ hi + 1 - lo
  | [], lo, hi, _, _, h => by simp; omega
  | x :: r, lo, hi, h, hr, _ => by
    have h2 := List.pairwise_cons.1 h
    have hx := hr x (by simp)
    have h3 := IRise.len (l := r) (lo := x.1 + 1) (hi := hi) h2.2 (fun f hf => ⟨by have := h2.1 f hf; omega, (hr f (by simp [hf])).2⟩) (by omega)
    simp only [List.length_cons]
    omega
theorem UOk.len {U : US} (h : UOk U) : U.cells.length ≤ 1048576 := by
  have h1 := IRise.len (lo := 0) (hi := 1048575) h.rise (fun f hf => ⟨by have := h.at' f hf; have := h.low; omega, (h.at' f hf).2.1⟩) (by omega)
  omega

section
variable {w : World} {B : Nat → Prop} {u m : Nat} {U : US}
/-- A cell is stored. -/
theorem Un.update (h : Un w B u m U) {a : Int} (h1 : a ≤ 1048575) (hl : U.low ≤ a) {v : Value} {c : IC} (hv : CellR w B v c) (hc : okU c) :
    ∃ w', (Instr.mapUpdate 110 (.map (some m)) (.int .i64 a) v).run Try.prog w = .ok () w' ∧ Un w' B u m { U with cells := iput U.cells a c } ∧ w.grownBy w' (some m) := by
  obtain ⟨es, hm, hz⟩ := h.map
  have h0 : w.ownsMap Try.prog 3 hvU m es.length (.map (es.map entI)) := hm
  have hl0 := h.ok.low
  obtain ⟨w', hrun, r1, r2⟩ := h0.update keyed_int Try.underlying110 (by have := h.ok.len; rw [hz.length]; simp only [maxLen]; omega) (key_i (n := a) ⟨by omega, by omega⟩) (val := v) (d := .held v) (ps := []) rfl
  rw [put_entI] at r1
  have hk : Kept B w w' := ⟨r2.size, fun j hj hB => r2.block j hj (fun e => by cases e; exact h.nm hB)⟩
  exact ⟨w', hrun, ⟨(r2.block u h.ult (fun e => by cases e; exact h.ne rfl)).trans h.box, ⟨_, tightU r1, (hz.mono fun _ _ hr => hr.keep hk).put a (hv.keep hk)⟩, h.ok.putD h1 hl hc, h.ne, h.nu, h.nm⟩, r2⟩

theorem ufield (k : Int) (ao : Option Addr) (l cap : Nat) (w : World) : (Instr.field 77 (.agg #[.int .i64 k, .slice ao l cap]) 0).run Try.prog w = .ok (.int .i64 k) w := by kernel_rfl
/-- What a call on a unit leaves: the unit, and all that isn't its map. -/
def UPost (w : World) (B : Nat → Prop) (u m : Nat) (U : US) (w' : World) : Prop := Un w' (fun j => B j ∨ w.heap.size ≤ j) u m U ∧ Fr (fun j => j = u ∨ j = m) w w'
theorem UPost.same {w' : World} (h : Un w B u m U) (hb : Below w.heap.size w w') : UPost w B u m U w' :=
  ⟨(h.old hb).more (fun _ _ hB => .inl hB) (fun hc => hc.elim h.nu fun h9 => absurd h.ult (Nat.not_lt.2 h9)) (fun hc => hc.elim h.nm fun h9 => absurd h.mlt (Nat.not_lt.2 h9)), fr_below hb _⟩
theorem Un.wide {w' : World} (h : Un w B u m U) (hb : Below w.heap.size w w') : Un w' (fun j => B j ∨ w.heap.size ≤ j) u m U := (UPost.same h hb).1

set_option maxHeartbeats 2000000 in
set_option maxRecDepth 100000 in
theorem uwrite_any (h : Un w B u m U) (e : Int) {a : Int} (ha : I64 a) {dv : Value} {d : List Nat} (hd : Reads w .u8 dv d) (hd8 : ∀ y ∈ d, y < 256) :
    Calls Try.prog 40 #[.pointer (some ⟨u, 0, none⟩), .int .i64 e, .int .i64 a, dv] w fun r w' => r = .returned (errV (uwrite U e a d).2) ∧ UPost w B u m (uwrite U e a d).1 w' := by
  obtain ⟨ao, cap, rfl, _, _, _⟩ := hd.val
  have HWI := Lib.hid (fun W => uwithin_any a 1048575 W)
  have HAS := Lib.hid (uasked_any h e)
  have HAT := Lib.hid (uat_any h ha)
  have HSM : Hid (UPost w B u m U w) := Lib.hid (UPost.same h (Below.refl _ _))
  have HW : Hid (uwrite U e a d = if a < 0 ∨ 1048575 < a then (U, 1) else if 64 < d.length then (U, 3) else if ucur U e ≠ 0 then (U, ucur U e) else if (uat U a).1 = 3 then (U, 9) else if (uat U a).1 = 0 then ({ U with cells := iput U.cells a (1, d) }, 0) else (U, 8)) := Lib.hid rfl
  obtain ⟨k0, hk0⟩ : ∃ k, k = (uat U a).1 := ⟨_, rfl⟩
  obtain ⟨cu, hcu⟩ : ∃ k, k = ucur U e := ⟨_, rfl⟩
  rw [← hk0, ← hcu] at HW
  rw [← hcu] at HAS
  have HK0 := Lib.hid hk0
  have H := Lib.hid h
  have HD := Lib.hid hd
  have HD8 := Lib.hid hd8
  clear h hd hd8 hk0 hcu
  go_enter Try.func40, Try.ntmps40
  by_cases h1 : a < 0 ∨ 1048575 < a
  · have HE : Hid (uwrite U e a d = (U, 1)) := Lib.hid (by rw [HW.out, if_pos h1])
    have hb : (decide (0 ≤ a) && decide (a ≤ 1048575)) = false := by rw [Bool.and_eq_false_iff, decide_eq_false_iff_not, decide_eq_false_iff_not]; omega
    simp only [hb] at HWI
    clear h1 hb
    go_wp2_with fail
    refine (HWI.out _).mono ?_
    rintro r w ⟨rfl, rfl⟩
    go_wp2
    go_ret
    rw [HE.out]
    exact ⟨by rw [show errV 1 = .iface 46 (.int .i64 1) from errV_pos (by decide)]; rfl, HSM.out⟩
  have HR : Hid (0 ≤ a ∧ a ≤ 1048575) := Lib.hid (by omega)
  have HW1 : Hid (uwrite U e a d = if 64 < d.length then (U, 3) else if cu ≠ 0 then (U, cu) else if k0 = 3 then (U, 9) else if k0 = 0 then ({ U with cells := iput U.cells a (1, d) }, 0) else (U, 8)) := Lib.hid (by rw [HW.out, if_neg h1])
  have hb : (decide (0 ≤ a) && decide (a ≤ 1048575)) = true := by rw [Bool.and_eq_true, decide_eq_true_iff, decide_eq_true_iff]; omega
  simp only [hb] at HWI
  clear h1 hb
  go_wp2_with fail
  refine (HWI.out _).mono ?_
  rintro r w ⟨rfl, rfl⟩
  by_cases h2 : 64 < d.length
  · have HE : Hid (uwrite U e a d = (U, 3)) := Lib.hid (by rw [HW1.out, if_pos h2])
    have h2i : (64 : Int) < (d.length : Int) := by omega
    clear h2
    go_wp2
    go_ret
    rw [HE.out]
    exact ⟨by rw [show errV 3 = .iface 46 (.int .i64 3) from errV_pos (by decide)]; rfl, HSM.out⟩
  have HDL : Hid (d.length ≤ 64) := Lib.hid (by omega)
  have HW2 : Hid (uwrite U e a d = if cu ≠ 0 then (U, cu) else if k0 = 3 then (U, 9) else if k0 = 0 then ({ U with cells := iput U.cells a (1, d) }, 0) else (U, 8)) := Lib.hid (by rw [HW1.out, if_neg h2])
  have h2i : ¬ (64 : Int) < (d.length : Int) := by omega
  clear h2
  go_wp2_with fail
  refine HAS.out.mono ?_
  rintro r w ⟨rfl, rfl⟩
  clear h2i
  by_cases h3 : cu = 0
  rotate_left
  · have HE : Hid (uwrite U e a d = (U, cu)) := Lib.hid (by rw [HW2.out, if_pos h3])
    rw [errV_pos h3]
    have H3 := Lib.hid h3
    clear h3
    go_wp2
    go_ret
    rw [HE.out]
    exact ⟨by rw [errV_pos H3.out]; rfl, HSM.out⟩
  have HW3 : Hid (uwrite U e a d = if k0 = 3 then (U, 9) else if k0 = 0 then ({ U with cells := iput U.cells a (1, d) }, 0) else (U, 8)) := Lib.hid (by rw [HW2.out, if_neg (by omega)])
  rw [h3, errV_zero]
  clear h3
  go_wp2_with fail
  refine HAT.out.mono ?_
  rintro r w3 ⟨v3, rfl, ⟨dv3, rfl, hat3⟩, hb3⟩
  obtain ⟨ao3, cap3, rfl, _, _, _⟩ := hat3.reads.val
  clear hat3
  generalize (uat U a).2.length = l3
  have hfd := ufield k0 ao3 l3 cap3 w3
  rw [← HK0.out]
  have HB3 := Lib.hid hb3
  clear hb3
  by_cases h4 : k0 = 3
  · have HE : Hid (uwrite U e a d = (U, 9)) := Lib.hid (by rw [HW3.out, if_pos h4])
    subst h4
    go_wp2
    go_ret
    rw [HE.out]
    exact ⟨by rw [show errV 9 = .iface 46 (.int .i64 9) from errV_pos (by decide)]; rfl, UPost.same H.out HB3.out⟩
  by_cases h5 : k0 = 0
  rotate_left
  · have HE : Hid (uwrite U e a d = (U, 8)) := Lib.hid (by rw [HW3.out, if_neg h4, if_neg h5])
    have p4 : (k0 == 3) = false := beq_eq_false_iff_ne.2 h4
    have p5 : (k0 == 0) = false := beq_eq_false_iff_ne.2 h5
    clear h4 h5
    go_wp2
    go_ret
    rw [HE.out]
    exact ⟨by rw [show errV 8 = .iface 46 (.int .i64 8) from errV_pos (by decide)]; rfl, UPost.same H.out HB3.out⟩
  have HE : Hid (uwrite U e a d = ({ U with cells := iput U.cells a (1, d) }, 0)) := Lib.hid (by rw [HW3.out, if_neg h4, if_pos h5])
  have HLO : Hid (U.low ≤ a) := Lib.hid (uat_kind H.out.ok (by rw [← HK0.out]; exact h5)).1
  subst h5
  clear h4
  have HCL := Lib.hid (fun W (hb : Below w3.heap.size w3 W) => clone_any (.slice ao d.length cap) d W ((HD.out.new (HB3.out.trans (hb.mono HB3.out.size)))) (by have := HDL.out; omega))
  have HUP : Hid (∀ W v4, Below w3.heap.size w3 W → Owns W w3.heap.size 5 .u8 v4 d → ∃ w', (Instr.mapUpdate 110 (.map (some m)) (.int .i64 a) (.agg #[.int .i64 1, v4])).run Try.prog W = .ok () w' ∧ UPost w B u m { U with cells := iput U.cells a (1, d) } w') := Lib.hid fun W v4 hb ho => by
    have hbw := HB3.out.trans (hb.mono HB3.out.size)
    have hat : At W (fun j => B j ∨ w.heap.size ≤ j) .u8 v4 d := by
      refine ⟨ho.reads, ?_⟩
      rcases ho.2 with ⟨_, hn⟩ | ⟨g, c4, cur, hv, hg, _⟩
      · exact .inl (List.length_eq_zero_iff.1 hn)
      · exact .inr ⟨g, 0, _, c4, hv, .inr (Nat.le_trans HB3.out.size hg)⟩
    obtain ⟨w', h1, h2, h3⟩ := (H.out.wide hbw).update HR.out.2 HLO.out (c := (1, d)) ⟨v4, rfl, hat⟩ ⟨.inl rfl, by
      have := HDL.out
      unfold chk
      rw [if_neg (by simp), if_neg (by simp only; omega), if_neg (by simp)], HD8.out⟩
    exact ⟨w', h1, h2, (fr_below hbw (fun _ => False)).trans (fr_grown h3) (fun _ _ h => h.elim) fun j _ hj => .inr (by cases hj; rfl)⟩
  obtain ⟨c0, c1, c2, _⟩ := (H.out.old HB3.out).c
  have HD3 : Hid (Below w3.heap.size w3 w3.drew) := Lib.hid ⟨rfl, rfl, rfl, Nat.le_refl _, fun _ _ => rfl⟩
  have HC2 : Hid (∀ W, Below w3.heap.size w3 W → W.cell? ⟨u, 2, none⟩ = some (.map (some m))) := Lib.hid fun W hb => ((H.out.old HB3.out).old hb).c.2.2.1
  go_wp2_with fail
  go_region_with (first
    | (go_at_call 84
       refine (HCL.out _ HD3.out).mono ?_
       rintro r w4 ⟨v4, rfl, ho4, hb4⟩
       have hb4' : Below w3.heap.size w3 w4 := HD3.out.trans (hb4.mono HD3.out.size)
       obtain ⟨w5, q5, hp5⟩ := HUP.out w4 v4 hb4' ho4
       have d2 := HC2.out w4 hb4'
       obtain ⟨ao4, cap4, rfl, _, _, _⟩ := ho4.reads.val
       have HP5 := Lib.hid hp5
       clear ho4 hb4 hb4' hp5))
  all_goals
    go_wp2
    go_ret
    rw [HE.out]
    exact ⟨by rw [errV_zero]; rfl, HP5.out⟩

end
end Go.Proofs.Ytmjpckodcafjiaa
