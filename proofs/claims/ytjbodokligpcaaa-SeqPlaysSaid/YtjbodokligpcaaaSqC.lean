/- Law 12: acts that came in. -/
import Derived.Test.YtjbodokligpcaaaRec
import Derived.Test.YtjbodokligpcaaaRows
import Derived.ProofKit
import Derived.Deep.Slices
import Derived.Deep.Grids
import Derived.Deep.Strs
import Derived.ChangeSame
namespace Go.Proofs.Ytjbodokligpcaaa
open Go.RowKit Go.ChangeShapes Go.WideShapes Go.Deep

/-- An act of law 12. -/
structure QA where
  kind : Int
  epoch : Int
  n : Int
instance : Inhabited QA := ⟨⟨0, 0, 0⟩⟩
def qaRow (a : QA) : List Value := [.int .i64 a.kind, .int .i64 a.epoch, .int .i64 a.n]
/-- What a variable may hold. -/
def QI (n : Int) : Prop := -9223372036854775808 ≤ n ∧ n ≤ 9223372036854775807
def QIs (a : QA) : Prop := QI a.kind ∧ QI a.epoch ∧ QI a.n
def QActs (w : World) (B : Nat → Prop) (v : Value) (l : List QA) : Prop := RecAt w B 3 v (l.map qaRow) ∧ ∀ a ∈ l, QIs a
theorem QActs.keep {w w' : World} {B : Nat → Prop} {v : Value} {l : List QA} (h : QActs w B v l) (hk : Kept B w w') : QActs w' B v l := ⟨h.1.keep hk, h.2⟩
theorem QActs.old {w w' : World} {B : Nat → Prop} {v : Value} {l : List QA} (h : QActs w B v l) (hb : Below w.heap.size w w') : QActs w' B v l := h.keep (kept_new hb B)
theorem QActs.val {w : World} {B : Nat → Prop} {v : Value} {l : List QA} (h : QActs w B v l) : ∃ ao cap, v = .slice ao l.length cap ∧ l.length ≤ cap ∧ cap ≤ maxLen ∧ (ao = none → cap = 0) := by
  obtain ⟨ao, cap, h1, h2, h3, h4⟩ := h.1.val
  rw [List.length_map] at h1 h2
  exact ⟨ao, cap, h1, h2, h3, h4⟩
theorem QActs.at {w : World} {B : Nat → Prop} {ao : Option Addr} {n cap : Nat} {l : List QA} (h : QActs w B (.slice ao n cap) l) {i : Nat} (hi : i < l.length) :
    ∃ b off, ao = some ⟨b, off, none⟩ ∧ b < w.heap.size ∧ B b ∧ w.cell? ⟨b, off + i * 3, none⟩ = some (.int .i64 l[i].kind) ∧ w.cell? ⟨b, off + i * 3 + 1, none⟩ = some (.int .i64 l[i].epoch) ∧ w.cell? ⟨b, off + i * 3 + 2, none⟩ = some (.int .i64 l[i].n) := by
  obtain ⟨b, off, ha, hb, hB, hc⟩ := h.1.at (i := i) (r := qaRow l[i]) (by rw [List.getElem?_map, List.getElem?_eq_getElem hi]; rfl)
  exact ⟨b, off, ha, hb, hB, hc 0 _ rfl, hc 1 _ rfl, hc 2 _ rfl⟩

theorem qint_in {H : Type} {enc : TypeId × Value → H} {W : World} {base : Nat} {held : Bool} {fuel : Nat} {v : Value} {x : DataW H × List MemPlace}
    (h : DataW.trod enc Try.prog W base (fun _ => true) held fuel 3 [v] = some x) : ∃ n : Int, v = .int .i64 n ∧ QI n := by
  obtain ⟨n, hv, _, hw⟩ := DataW.trod_int Try.underlying3 h
  rw [List.singleton_inj] at hv
  have := wf_i64 hw
  exact ⟨n, hv, this.1, this.2⟩
theorem qpick_n {α : Type} {R : Nat → α → Prop} (n : Nat) (h : ∀ i, i < n → ∃ l, R i l) : ∃ ls : List α, ls.length = n ∧ ∀ i a, ls[i]? = some a → R i a := by
  induction n with
  | zero => exact ⟨[], rfl, by simp⟩
  | succ n ih =>
    obtain ⟨ls, hl, hr⟩ := ih fun i hi => h i (by omega)
    obtain ⟨l, hlr⟩ := h n (by omega)
    refine ⟨ls ++ [l], by simp [hl], fun i a hi => ?_⟩
    by_cases hin : i < n
    · rw [List.getElem?_append_left (by omega)] at hi
      exact hr i a hi
    · obtain rfl : i = n := by have := (List.getElem?_eq_some_iff.1 hi).1; simp at this; omega
      rw [List.getElem?_append_right (by omega), hl] at hi
      simp at hi
      rw [← hi]
      exact hlr
theorem qrecs_in {α : Type} {W : World} {k n m : Nat} {x : Addr} {row : α → List Value} {R : α → Prop} (_ : 0 < k) (hm : n ≤ m) (hmx : m ≤ maxLen) (hrow : ∀ a, 0 < (row a).length)
    (each : ∀ i, i < n → ∃ q : α, (∀ j u, (row q)[j]? = some u → W.cell? (x.add (i * k + j)) = some u) ∧ R q) :
    ∃ qs : List α, qs.length = n ∧ RecAt W (fun j => j < W.heap.size) k (.slice (some x) n m) (qs.map row) ∧ ∀ q ∈ qs, R q := by
  obtain ⟨qs, hlen, hqs⟩ := qpick_n n each
  refine ⟨qs, hlen, ⟨some x, m, by simp [hlen], by simp [hlen]; omega, hmx, by simp, ?_⟩, fun q hq => ?_⟩
  · by_cases h0 : n = 0
    · exact .inl (List.length_eq_zero_iff.1 (by simp [hlen, h0]))
    · right
      obtain ⟨q0, hq0⟩ : ∃ q0, qs[0]? = some q0 := ⟨_, List.getElem?_eq_getElem (by omega)⟩
      obtain ⟨u0, hu0⟩ : ∃ u0, (row q0)[0]? = some u0 := ⟨_, List.getElem?_eq_getElem (hrow q0)⟩
      have c0 := (hqs 0 q0 hq0).1 0 _ hu0
      obtain ⟨b, off, spot⟩ := x
      obtain rfl : spot = none := by simpa [Addr.add] using World.cell?_spot c0
      have hlt := World.block_lt_of_cell? W _ c0
      refine ⟨b, off, rfl, by simpa [Addr.add] using hlt, by simpa [Addr.add] using hlt, fun i r hr j u hu => ?_⟩
      rw [List.getElem?_map] at hr
      obtain ⟨q, hq, rfl⟩ := Option.map_eq_some_iff.1 hr
      have := (hqs i q hq).1 j u hu
      rw [Addr.add_lit] at this
      rw [← this, Nat.add_assoc]
  · obtain ⟨i, hi⟩ := List.getElem?_of_mem hq
    exact (hqs i q hi).2

set_option maxRecDepth 100000 in
theorem qacts_of_trod {H : Type} {enc : TypeId × Value → H} {W : World} {base : Nat} {held : Bool} {a : Option Addr} {len cap : Nat} {d : DataW H} {p : List MemPlace}
    (h : DataW.Trod enc Try.prog W base (fun _ => true) held 22 (.slice a len cap) d p) :
    ∃ acts : List QA, acts.length = len ∧ QActs W (fun j => j < W.heap.size) (.slice a len cap) acts := by
  obtain ⟨fuel, hf⟩ := h
  rcases open_slice Try.underlying22 hf with ⟨hcs, _⟩ | ⟨x, l, c, m, n, D, Pl, hcs, hb, hl, hm, hmm, _, hi⟩
  · simp [Value.cells] at hcs
    obtain ⟨rfl, rfl, rfl⟩ := hcs
    exact ⟨[], rfl, recAt_nil _ _ _, by simp⟩
  · simp [Value.cells] at hcs
    obtain ⟨rfl, rfl, rfl⟩ := hcs
    simp only [if_true] at hmm
    subst hmm
    have C3 : Try.prog.cellsOf 38 = 3 := by kernel_rfl
    have k1 : Try.prog.cellsOf 3 = 1 := by kernel_rfl
    rw [C3] at hi
    obtain ⟨qs, hq1, hq2, hq3⟩ := qrecs_in (W := W) (k := 3) (n := len) (m := m) (x := x) (row := qaRow) (R := QIs) (by decide) (by omega) hm (fun _ => by simp [qaRow]) (by
      intro i hil
      obtain ⟨cs', hc, ht⟩ := hi i (by omega)
      obtain ⟨y0, y1, y2, k, _, hcl, h0, h1, h2⟩ := trod_struct3 Try.underlying38 ht
      rw [C3] at hcl
      match cs', hcl with
      | [c0, c1, c2], _ =>
        simp only [k1, List.drop_succ_cons, List.drop_zero, List.take_succ_cons, List.take_zero] at h0 h1 h2
        obtain ⟨kind, rfl, hk⟩ := qint_in h0
        obtain ⟨epoch, rfl, he⟩ := qint_in h1
        obtain ⟨num, rfl, ha⟩ := qint_in h2
        refine ⟨⟨kind, epoch, num⟩, fun j u hj => ?_, ⟨hk, he, ha⟩⟩
        obtain ⟨_, _, hat⟩ := World.cells?_some hc
        have hj3 : j < 3 := (List.getElem?_eq_some_iff.1 hj).1
        have := hat j hj3
        rw [Go.Deep.add_add] at this
        rw [this]
        exact hj)
    exact ⟨qs, hq1, hq2, hq3⟩

end Go.Proofs.Ytjbodokligpcaaa
