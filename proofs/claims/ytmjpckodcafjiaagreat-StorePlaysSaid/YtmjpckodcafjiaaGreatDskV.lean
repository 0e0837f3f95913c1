/- List and Sure: the names, and the files that are sure, sorted. -/
import Derived.Test.YtmjpckodcafjiaaGreatSrtA
import Derived.Test.YtmjpckodcafjiaaGreatDskU
import Derived.Test.YtmjpckodcafjiaaGreatStepR
namespace Go.Proofs.YtmjpckodcafjiaaGreat
open Go.RowKit

theorem wrap_succM (k : Nat) (h : k ≤ 1000000000) : wrap64 ((k : Int) + 1) = ((k + 1 : Nat) : Int) := by
  have h2 : ((k : Int) + 1 + 9223372036854775808) % 18446744073709551616 = (k : Int) + 1 + 9223372036854775808 := Int.emod_eq_of_lt (by omega) (by omega)
  simp only [wrap64, h2]
  omega
theorem meas_succM {k n : Nat} (h : k < n) (hk : k ≤ 1000000000) : n - (intOf (.int .i64 (wrap64 ((k : Int) + 1)))).toNat < n - (intOf (.int .i64 (k : Int))).toNat := by
  rw [wrap_succM k hk]
  show n - (((k + 1 : Nat) : Int)).toNat < n - ((k : Int)).toNat
  omega
theorem MapV.named {w : World} {mb : Option Nat} {es : Fm Value} (h : MapV w mb es) : ∀ f ∈ es, f.1.length ≤ maxLen := by
  cases mb with
  | none => obtain rfl : es = [] := h; simp
  | some b =>
    intro f hf
    obtain ⟨l, hl, hk⟩ := World.ownsMap.keysOf h
    cases hl
    obtain ⟨v, hv⟩ := hk (ent f) (List.mem_map_of_mem hf)
    obtain ⟨x, _, e2, e3⟩ := Maps.keyOf_str Tryz.underlying9 hv
    have e4 : f.1 = x := by
      have : Lit.string f.1 = Lit.string x := e2
      cases this; rfl
    rw [e4]; exact e3

/-! ### Names -/
theorem NmsO.val {w : World} {base : Nat} {v : Value} {ns : List Nm} (h : NmsO w base v ns) : ∃ ao cap, v = .slice ao ns.length cap := by
  rcases h.2 with ⟨rfl, hn⟩ | ⟨g, cap, cur, rfl, _⟩
  · exact ⟨none, 0, by rw [hn]⟩
  · exact ⟨_, cap, rfl⟩
theorem NmsO.at {w : World} {base : Nat} {ao : Option Addr} {n cap : Nat} {ns : List Nm} (h : NmsO w base (.slice ao n cap) ns) {i : Nat} {x : Nm} (hi : ns[i]? = some x) :
    ∃ g, ao = some ⟨g, 0, none⟩ ∧ base ≤ g ∧ g < w.heap.size ∧ w.cell? ⟨g, i, none⟩ = some (nmV x) := by
  have h0 := h
  rcases h.2 with ⟨_, hn⟩ | ⟨g, cap', cur, hv, hb, hg, _⟩
  · obtain rfl : ns = [] := List.length_eq_zero_iff.1 hn
    cases hi
  · cases hv
    refine ⟨g, rfl, hb, (Array.getElem?_eq_some_iff.1 hg).1, ?_⟩
    have := World.ownsRow.cells h0 (g := g) rfl i (nmV x) (by rw [List.getElem?_map, hi]; rfl)
    rw [Addr.add_lit] at this
    simpa using this
theorem NmsO.below {w w' : World} {base : Nat} {v : Value} {ns : List Nm} (h : NmsO w base v ns) (hb : Below w.heap.size w w') : NmsO w' base v ns := by
  refine ⟨h.1, ?_⟩
  rcases h.2 with h2 | ⟨g, cap, cur, rfl, hbb, hg, r⟩
  · exact .inl h2
  · exact .inr ⟨g, cap, cur, rfl, hbb, (hb.block g (Array.getElem?_eq_some_iff.1 hg).1).trans hg, r⟩
theorem nms_nil (w : World) (base : Nat) : NmsO w base (.slice none 0 0) [] := World.ownsRow_nil w base _ 1

def dlist (d : DS) : List Nm × Nat := if d.down = true then ([], 14) else (srt (d.shown.map (·.1)), 0)
def ListPost (r : List Nm × Nat) (w : World) (e : Ending) (w' : World) : Prop := ∃ v, e = .returned (.tuple #[v, errV r.2]) ∧ NmsO w' w.heap.size v r.1 ∧ Below w.heap.size w w'

set_option maxHeartbeats 1000000 in
set_option maxRecDepth 100000 in
theorem listD_any {w : World} {S : Nat → Prop} {p : Nat} {d : DS} (h : Dk w S p d) (hsz : d.sz ≤ 1000000) :
    Calls Tryz.prog 39 #[.pointer (some ⟨p, 0, none⟩)] w (ListPost (dlist d) w) := by
  obtain ⟨m1, m2, cv, h⟩ := h
  have H := Lib.hid h
  have c3 := h.c3
  obtain ⟨es, hm, hz, _⟩ := h.shown
  have hls := lenShown d
  have HL : Hid (es.length ≤ 1000000000) := Lib.hid (by rw [hz.length]; omega)
  have HNS : Hid (es.map (·.1) = d.shown.map (·.1)) := Lib.hid hz.names
  have HM := Lib.hid hm
  clear h hm hz hls
  go_enter Tryz.func39, Tryz.ntmps39
  go_wp2_with fail
  refine (able_any H.out).mono ?_
  rintro e w ⟨rfl, rfl⟩
  cases hd : d.down
  · have HE : Hid (dlist d = (srt (es.map (·.1)), 0)) := Lib.hid (by unfold dlist; rw [if_neg (by rw [hd]; decide), HNS.out])
    clear hd
    rw [if_neg (by decide), errV_zero]
    go_wp2_with fail
    refine (names_any c3 HM.out HL.out).mono ?_
    rintro e w2 ⟨v, rfl, ho, hb⟩
    have HO := Lib.hid ho
    have HB := Lib.hid hb
    obtain ⟨ao, cap, rfl⟩ := ho.val
    clear ho hb
    go_wp2
    go_ret2
    unfold ListPost
    rw [HE.out]
    exact ⟨_, rfl, HO.out, HB.out⟩
  · have HE : Hid (dlist d = ([], 14)) := Lib.hid (by unfold dlist; rw [if_pos hd])
    clear hd
    rw [if_pos rfl, ← errV_if 14 (by decide)]
    go_wp2
    go_ret2
    unfold ListPost
    rw [HE.out, ← errV_if 14 (by decide)]
    exact ⟨_, rfl, nms_nil _ _, Below.refl _ _⟩

/-! ### Files -/
def fileRow (x : (Nm × List Nat) × Value) : List Value := [nmV x.1.1, x.2]
/-- Files that a call handed back: their names, their bytes, all in new blocks. -/
def FilesO (w : World) (base : Nat) (v : Value) (l : List (Nm × List Nat)) : Prop :=
  ∃ ps : List ((Nm × List Nat) × Value), ps.map (·.1) = l ∧ RecOwn w base 100 2 v (ps.map fileRow) ∧ ∀ x ∈ ps, At w (Typ w (fun j => base ≤ j) 5) .u8 x.2 x.1.2
theorem FilesO.below {w w' : World} {base : Nat} {v : Value} {l : List (Nm × List Nat)} (h : FilesO w base v l) (hb : Below w.heap.size w w') : FilesO w' base v l := by
  obtain ⟨ps, h1, h2, h3⟩ := h
  exact ⟨ps, h1, h2.keep fun j hj => hb.block j (h2.block hj).2.1, fun x hx => (h3 x hx).typ (kept_new hb _) fun _ h => h⟩
theorem FilesO.base {w : World} {base base' : Nat} {v : Value} {l : List (Nm × List Nat)} (h : FilesO w base v l) (hb : base' ≤ base) : FilesO w base' v l := by
  obtain ⟨ps, h1, h2, h3⟩ := h
  exact ⟨ps, h1, h2.mono hb, fun x hx => (h3 x hx).mono fun j _ hB => ⟨Nat.le_trans hb hB.1, hB.2⟩⟩
theorem files_nil (w : World) (base : Nat) : FilesO w base (.slice none 0 0) [] := ⟨[], rfl, recOwn_nil _ _ _ _, by simp⟩
theorem FilesO.val {w : World} {base : Nat} {v : Value} {l : List (Nm × List Nat)} (h : FilesO w base v l) : ∃ ao cap, v = .slice ao l.length cap ∧ l.length ≤ cap ∧ cap ≤ maxLen ∧ (ao = none → cap = 0) := by
  obtain ⟨ps, rfl, h2, h3⟩ := h
  have := h2.val
  simpa using this
theorem FilesO.at {w : World} {base : Nat} {ao : Option Addr} {n cap : Nat} {l : List (Nm × List Nat)} (h : FilesO w base (.slice ao n cap) l) {i : Nat} {f : Nm × List Nat} (hi : l[i]? = some f) :
    ∃ g v', ao = some ⟨g, 0, none⟩ ∧ base ≤ g ∧ g < w.heap.size ∧ w.cell? ⟨g, i * 2, none⟩ = some (nmV f.1) ∧ w.cell? ⟨g, i * 2 + 1, none⟩ = some v' ∧ At w (Typ w (fun j => base ≤ j) 5) .u8 v' f.2 := by
  obtain ⟨ps, rfl, h2, h3⟩ := h
  rw [List.getElem?_map] at hi
  obtain ⟨x, hx, rfl⟩ := Option.map_eq_some_iff.1 hi
  obtain ⟨g, cap', hv, hc⟩ := h2.at (i := i) (r := fileRow x) (by rw [List.getElem?_map, hx]; rfl)
  cases hv
  have hb := h2.block (j := g) rfl
  exact ⟨g, x.2, rfl, hb.1, hb.2.1, hc 0 _ rfl, hc 1 _ rfl, h3 x (List.mem_of_getElem? hx)⟩

end Go.Proofs.YtmjpckodcafjiaaGreat
