/- The contract of a taker's endsWith. -/
import Derived.Test.YtbihammpdjkonaaTakA
namespace Go.Proofs.Ytbihammpdjkonaa
open Go.RowKit

/-- Does a run end with a cell of this kind? -/
def endB (acc : List (Int × Value)) (k : Int) : Bool := match acc.getLast? with | none => false | some x => x.1 == k

theorem OwnsI.at {w : World} {base : Nat} {ao : Option Addr} {n cap : Nat} {l : List (Int × Value)} (h : OwnsI w base (.slice ao n cap) l) {i : Nat} (hi : i < l.length) :
    ∃ g, ao = some ⟨g, 0, none⟩ ∧ g < w.heap.size ∧ w.cell? ⟨g, i * 2, none⟩ = some (.int .i64 l[i].1) ∧ w.cell? ⟨g, i * 2 + 1, none⟩ = some l[i].2 := by
  have h0 := h
  unfold OwnsI at h0
  rcases h.2 with ⟨_, hn⟩ | ⟨g, cap', cur, hv, hb, hg, _⟩
  · omega
  · cases hv
    obtain ⟨g1, g2⟩ := ivals_get l i hi
    exact ⟨g, rfl, (Array.getElem?_eq_some_iff.1 hg).1, by rw [h0.cellAt (i * 2) (by omega), g1], by rw [h0.cellAt (i * 2 + 1) (by omega), g2]⟩

set_option maxHeartbeats 1000000 in
set_option maxRecDepth 100000 in
theorem endsWith_any {w : World} {t p base : Nat} {rnv lsv : Value} {acc : List (Int × Value)} (ht : Tkr w t p rnv lsv) (ho : OwnsI w base rnv acc) (hl : acc.length ≤ 100) (k : Int) :
    Calls Try.prog 70 #[.pointer (some ⟨t, 0, none⟩), .int .i64 k] w fun e w' => e = .returned (.bool (endB acc k)) ∧ w = w' := by
  obtain ⟨ao, cap, hv⟩ := ho.form
  subst hv
  have t1 := ht.c1
  rcases Nat.eq_zero_or_pos acc.length with h0 | h0
  · obtain rfl : acc = [] := List.length_eq_zero_iff.1 h0
    clear ho ht h0
    go_enter Try.func70, Try.ntmps70
    go_wp2
    go_ret
    exact ⟨rfl, rfl⟩
  · obtain ⟨m, hm⟩ : ∃ m, acc.length = m + 1 := ⟨acc.length - 1, by omega⟩
    obtain ⟨g, rfl, hg, c0, _⟩ := ho.at (i := m) (by omega)
    have HE : Hid (endB acc k = (acc[m].1 == k)) := Lib.hid (by
      have e : acc.getLast? = some (acc[m]) := by
        rw [List.getLast?_eq_getElem?]
        have : acc.length - 1 = m := by omega
        rw [this, List.getElem?_eq_getElem (by omega)]
      unfold endB
      rw [e])
    generalize acc[m].1 = z at c0 HE
    rw [hm] at t1
    have HM := Lib.hid hm
    clear ho ht h0 hg
    go_enter Try.func70, Try.ntmps70
    go_wp2
    go_ret
    exact ⟨by rw [HE.out]; rfl, rfl⟩

end Go.Proofs.Ytbihammpdjkonaa
