/- A unit's addresses, sorted. · A unit's Entries. -/
import Derived.Test.YtojndpelilolkaaSrtI
import Derived.Test.YtojndpelilolkaaUnP
import Derived.Test.YtojndpelilolkaaDbP
namespace Go.Proofs.Ytojndpelilolkaa
open Go.RowKit Go.Maps Go.Sort Go.Shelf

theorem intKeys_ent (es : Im Value) : intKeys (DataW.map (es.map entI)) = es.map (·.1) := by
  unfold intKeys
  simp only [List.map_map]
  rfl
/-- A slice of addresses, of the call's own. -/
def AdrO (w : World) (base : Nat) (v : Value) (ads : List Int) : Prop := w.ownsRow base 3 1 v ads.length (ads.map (Value.int .i64))
theorem sorted_rise {es : Im Value} (h : IRise es) {ss : List Int} (hp : ss.Perm (es.map (·.1))) : ss.mergeSort (fun x y => decide (x ≤ y)) = es.map (·.1) := by
  have h1 : (es.map (·.1)).Pairwise (fun a b : Int => a < b) := List.pairwise_map.2 h
  have h2 : ss.mergeSort leI = (es.map (·.1)).mergeSort leI := mergeSort_of_perm_i hp
  have h3 : (es.map (·.1)).mergeSort leI = es.map (·.1) := List.mergeSort_of_pairwise (h1.imp fun {a b} hab => by simp only [leI, decide_eq_true_eq]; omega)
  exact h2.trans h3

section
variable {w : World} {m : Nat} {es : Im Value}
end
theorem AdrO.val {w : World} {base : Nat} {v : Value} {ads : List Int} (h : AdrO w base v ads) : ∃ ao cap, v = .slice ao ads.length cap := by
  rcases h.2 with ⟨rfl, hn⟩ | ⟨g, cap, cur, rfl, _⟩
  · exact ⟨none, 0, by rw [hn]⟩
  · exact ⟨_, cap, rfl⟩
theorem AdrO.at {w : World} {base : Nat} {ao : Option Addr} {n cap : Nat} {ads : List Int} (h : AdrO w base (.slice ao n cap) ads) {i : Nat} {x : Int} (hi : ads[i]? = some x) :
    ∃ g, ao = some ⟨g, 0, none⟩ ∧ base ≤ g ∧ g < w.heap.size ∧ w.cell? ⟨g, i, none⟩ = some (.int .i64 x) := by
  have h0 := h
  rcases h.2 with ⟨_, hn⟩ | ⟨g, cap', cur, hv, hb, hg, _⟩
  · obtain rfl : ads = [] := List.length_eq_zero_iff.1 hn
    cases hi
  · cases hv
    refine ⟨g, rfl, hb, (Array.getElem?_eq_some_iff.1 hg).1, ?_⟩
    have := World.ownsRow.cells h0 (g := g) rfl i (.int .i64 x) (by rw [List.getElem?_map, hi]; rfl)
    rw [Addr.add_lit, Nat.zero_add] at this
    exact this

end Go.Proofs.Ytojndpelilolkaa

namespace Go.Proofs.Ytojndpelilolkaa
open Go.RowKit

def eRow (f : Int × IC) (dv : Value) : List Value := [.int .i64 f.1, .int .i64 f.2.1, dv]
theorem recOwn_ne {w : World} {base k : Nat} {e e' : TypeId} {v : Value} {rows : List (List Value)} (h : RecOwn w base e' k v rows) (he : e ≠ e') {j : Nat} (hj : Own w base e j) : some j ≠ v.ownBlock := by
  intro hv
  rcases h.2.2 with ⟨rfl, _⟩ | ⟨g, cap, cur, rfl, _, hg, _⟩
  · cases hv
  · cases hv
    obtain ⟨_, cs, hc⟩ := hj
    rw [hg] at hc
    cases hc
    exact he rfl
theorem own_mono {w : World} {base : Nat} {e : TypeId} {W : World} {b2 : Nat} {v : Value} {d : List Nat} (h : Owns W b2 e .u8 v d) (hb : base ≤ b2) (_ : w = w) : At W (Own W base e) .u8 v d := h.at'.mono fun _ _ hj => ⟨Nat.le_trans hb hj.1, hj.2⟩
theorem uinc {k n : Nat} (hk : k < n) (hn : n ≤ 9223372036854775807) : wrap64 ((k : Int) + 1) = ((k + 1 : Nat) : Int) := by simp only [wrap64]; omega
theorem uinc_eq {k n : Nat} (hk : k < n) (hn : n ≤ 9223372036854775807) : Value.int .i64 (wrap64 ((k : Int) + 1)) = .int .i64 ((k + 1 : Nat) : Int) := by rw [uinc hk hn]
theorem uinc_meas {k n : Nat} (hk : k < n) (hn : n ≤ 9223372036854775807) : n - (intOf (.int .i64 (wrap64 ((k : Int) + 1)))).toNat < n - (intOf (.int .i64 (k : Int))).toNat := by
  rw [uinc hk hn]
  show n - (((k + 1 : Nat) : Int)).toNat < n - ((k : Int)).toNat
  omega
theorem take_snocU {α : Type} {l : List α} {k : Nat} {x : α} (h : l[k]? = some x) : l.take (k + 1) = l.take k ++ [x] := by rw [List.take_add_one, h]; rfl

section
variable {w : World} {B : Nat → Prop} {u m : Nat} {U : US}
end

end Go.Proofs.Ytojndpelilolkaa
