/- For DiskKeeps: maps of texts and of bools, files that came in, and what no change names. -/
import Derived.Test.YtmjpckodcafjiaaGreatDskX
import Derived.Test.YtmjpckodcafjiaaGreatDskT
namespace Go.Proofs.YtmjpckodcafjiaaGreat
open Go.RowKit Go.ChangeShapes Go.WideShapes Go.Deep

/-! ### What no change names is as it was -/
theorem fget_del_other {α : Type} {l : Fm α} {n m : Nm} (h : m ≠ n) : fget (fdel l m) n = fget l n := by
  unfold fget fdel
  induction l with
  | nil => rfl
  | cons x r ih =>
    by_cases hx : x.1 == m
    · rw [List.filter_cons_of_neg (by simp [hx])]
      have hxm : x.1 = m := by simpa using hx
      rw [List.find?_cons_of_neg (by rw [hxm]; simpa using h)]
      exact ih
    · rw [List.filter_cons_of_pos (by simp [hx])]
      rw [List.find?_cons, List.find?_cons]
      cases hn : x.1 == n
      · exact ih
      · rfl
theorem fget_ins_other {α : Type} {n m : Nm} (h : m ≠ n) (t : α) : ∀ l : Fm α, fget (fins m t l) n = fget l n
  | [] => by unfold fget fins; simp [h]
  | x :: r => by
    have ih := fget_ins_other h t r
    unfold fget at ih ⊢
    unfold fins
    split
    · rw [List.find?_cons_of_neg (by simpa using h)]
    · rw [List.find?_cons, List.find?_cons]
      cases hn : x.1 == n
      · exact ih
      · rfl
theorem fget_put_other {α : Type} {l : Fm α} {n m : Nm} (h : m ≠ n) (t : α) : fget (fput l m t) n = fget l n := by
  unfold fput
  rw [fget_ins_other h, fget_del_other h]
/-- The names that changes name are all of T. -/
def Named (T : Nm → Bool) (chs : List Ch) : Prop := ∀ c ∈ chs, T c.name = true ∧ (c.kind = 1 → T c.to = true)
theorem capply_other {T : Nm → Bool} {l : Fm (List Nat)} {c : Ch} {n : Nm} (h1 : T c.name = true) (h2 : c.kind = 1 → T c.to = true) (hn : T n = false) : fget (capply l c) n = fget l n := by
  have e1 : c.name ≠ n := fun e => by rw [e, hn] at h1; cases h1
  unfold capply
  split
  · exact fget_put_other e1 _
  · split
    · rfl
    · split
      · rename_i hk
        have e2 : c.to ≠ n := fun e => by have := h2 hk; rw [e, hn] at this; cases this
        rw [fget_put_other e2, fget_del_other e1]
      · exact fget_del_other e1
theorem picked_other {T : Nm → Bool} {n : Nm} (hn : T n = false) : ∀ (chs : List Ch) (_ : Named T chs) (l : Fm (List Nat)) (ks : List Bool), fget (picked l chs ks) n = fget l n
  | [], _, l, ks => by cases ks <;> rfl
  | c :: cs, h, l, [] => rfl
  | c :: cs, h, l, k :: ks => by
    obtain ⟨h1, h2⟩ := h c (by simp)
    have ih := picked_other hn cs (fun x hx => h x (by simp [hx])) (if k then capply l c else l) ks
    show fget (picked (if k then capply l c else l) cs ks) n = fget l n
    rw [ih]
    cases k
    · rfl
    · exact capply_other h1 h2 hn
theorem Named.mono {T T' : Nm → Bool} {chs : List Ch} (h : Named T chs) (ht : ∀ n, T n = true → T' n = true) : Named T' chs := fun c hc => ⟨ht _ (h c hc).1, fun e => ht _ ((h c hc).2 e)⟩
theorem Named.snoc {T : Nm → Bool} {chs : List Ch} (h : Named T chs) {c : Ch} (h1 : T c.name = true) (h2 : c.kind = 1 → T c.to = true) : Named T (chs ++ [c]) := fun x hx => by
  rcases List.mem_append.1 hx with hx | hx
  · exact h x hx
  · obtain rfl : x = c := by simpa using hx
    exact ⟨h1, h2⟩

/-- What an operation leaves of changes: none where it fails, one where not. -/
theorem dwork_keeps (d : DS) : (dwork d).1.sure = d.sure ∧ (dwork d).1.chs = d.chs := by unfold dwork; split <;> exact ⟨rfl, rfl⟩
theorem dwrite_keeps (d : DS) (n : Nm) (b : List Nat) : (dwrite d n b).1.sure = d.sure ∧ (((dwrite d n b).2 = 0 ∧ (dwrite d n b).1.chs = d.chs ++ [⟨0, n, [], b⟩]) ∨ ((dwrite d n b).2 ≠ 0 ∧ (dwrite d n b).1.chs = d.chs)) := by
  obtain ⟨h1, h2⟩ := dwork_keeps d
  unfold dwrite
  split
  · rename_i h; exact ⟨h1, .inr ⟨h, h2⟩⟩
  · split
    · exact ⟨h1, .inr ⟨by simp, h2⟩⟩
    · split
      · exact ⟨h1, .inr ⟨by simp, h2⟩⟩
      · split
        · exact ⟨h1, .inr ⟨by simp, h2⟩⟩
        · exact ⟨h1, .inl ⟨rfl, by show (dwork d).1.chs ++ _ = _; rw [h2]⟩⟩
theorem drename_keeps (d : DS) (a b : Nm) : (drename d a b).1.sure = d.sure ∧ (((drename d a b).2 = 0 ∧ (drename d a b).1.chs = d.chs ++ [⟨1, a, b, []⟩]) ∨ ((drename d a b).2 ≠ 0 ∧ (drename d a b).1.chs = d.chs)) := by
  obtain ⟨h1, h2⟩ := dwork_keeps d
  unfold drename
  split
  · rename_i h; exact ⟨h1, .inr ⟨h, h2⟩⟩
  · split
    · exact ⟨h1, .inr ⟨by simp, h2⟩⟩
    · split
      · exact ⟨h1, .inr ⟨by simp, h2⟩⟩
      · exact ⟨h1, .inl ⟨rfl, by show (dwork d).1.chs ++ _ = _; rw [h2]⟩⟩
theorem dremove_keeps (d : DS) (a : Nm) : (dremove d a).1.sure = d.sure ∧ (((dremove d a).2 = 0 ∧ (dremove d a).1.chs = d.chs ++ [⟨2, a, [], []⟩]) ∨ ((dremove d a).2 ≠ 0 ∧ (dremove d a).1.chs = d.chs)) := by
  obtain ⟨h1, h2⟩ := dwork_keeps d
  unfold dremove
  split
  · rename_i h; exact ⟨h1, .inr ⟨h, h2⟩⟩
  · split
    · exact ⟨h1, .inr ⟨by simp, h2⟩⟩
    · split
      · exact ⟨h1, .inr ⟨by simp, h2⟩⟩
      · exact ⟨h1, .inl ⟨rfl, by show (dwork d).1.chs ++ _ = _; rw [h2]⟩⟩

/-! ### The law's own maps -/
def txt (t : List Nat) : ByteArray := strOfNums (t.map fun n : Nat => (n : Int))
/-- A map of texts: the files that it names. -/
def WasV (w : World) (b : Nat) (l : Fm (List Nat)) : Prop := ∃ es, MapV w (some b) es ∧ Zip (fun v t => v = Value.string (txt t)) es l
/-- A map of bools, all true. -/
def TchV (w : World) (b c : Nat) (T : Nm → Bool) : Prop := ∃ es : Fm Value, MapV w (some b) es ∧ (∀ f ∈ es, f.2 = Value.bool true) ∧ T = fhas es ∧ es.length ≤ c
theorem WasV.keep {w w' : World} {b : Nat} {l : Fm (List Nat)} (h : WasV w b l) (hk : w'.heap[b]? = w.heap[b]?) : WasV w' b l := by
  obtain ⟨es, h1, h2⟩ := h
  exact ⟨es, h1.keep fun b' e => by cases e; exact hk, h2⟩
theorem TchV.keep {w w' : World} {b c : Nat} {T : Nm → Bool} (h : TchV w b c T) (hk : w'.heap[b]? = w.heap[b]?) : TchV w' b c T := by
  obtain ⟨es, h1, h2⟩ := h
  exact ⟨es, h1.keep fun b' e => by cases e; exact hk, h2⟩
theorem WasV.lt {w : World} {b : Nat} {l : Fm (List Nat)} (h : WasV w b l) : b < w.heap.size := by obtain ⟨es, h1, _⟩ := h; exact h1.lt
theorem TchV.lt {w : World} {b c : Nat} {T : Nm → Bool} (h : TchV w b c T) : b < w.heap.size := by obtain ⟨es, h1, _⟩ := h; exact h1.lt
theorem zeroB (w : World) : (zeroValue 4).run Tryz.prog w = .ok (.bool false) w := by kernel_rfl
theorem zeroS (w : World) : (zeroValue 9).run Tryz.prog w = .ok (.string ⟨#[]⟩) w := by kernel_rfl
def FilesAt (w : World) (v : Value) (fs : List (Nm × List Nat)) : Prop :=
  ∃ vs : List ((Nm × List Nat) × Value), vs.map (·.1) = fs ∧ RecAt w (fun j => j < w.heap.size) 2 v (vs.map fileRow) ∧ ∀ x ∈ vs, At w (fun j => j < w.heap.size) .u8 x.2 x.1.2 ∧ (∀ y ∈ x.1.2, y < 256) ∧ x.1.1.length ≤ 9223372036854775807
theorem FilesAt.val {w : World} {v : Value} {fs : List (Nm × List Nat)} (h : FilesAt w v fs) : ∃ ao cap, v = .slice ao fs.length cap ∧ fs.length ≤ cap ∧ cap ≤ maxLen ∧ (ao = none → cap = 0) := by
  obtain ⟨vs, rfl, h2, _⟩ := h
  have := h2.val
  simpa using this
theorem FilesAt.at {w : World} {ao : Option Addr} {n cap : Nat} {fs : List (Nm × List Nat)} (h : FilesAt w (.slice ao n cap) fs) {i : Nat} {f : Nm × List Nat} (hi : fs[i]? = some f) :
    ∃ g off v', ao = some ⟨g, off, none⟩ ∧ g < w.heap.size ∧ w.cell? ⟨g, off + i * 2, none⟩ = some (nmV f.1) ∧ w.cell? ⟨g, off + i * 2 + 1, none⟩ = some v' ∧ At w (fun j => j < w.heap.size) .u8 v' f.2 ∧ (∀ y ∈ f.2, y < 256) ∧ f.1.length ≤ 9223372036854775807 := by
  obtain ⟨vs, rfl, h2, h3⟩ := h
  rw [List.getElem?_map] at hi
  obtain ⟨x, hx, rfl⟩ := Option.map_eq_some_iff.1 hi
  obtain ⟨g, off, hv, hg, _, hc⟩ := h2.at (i := i) (r := fileRow x) (by rw [List.getElem?_map, hx]; rfl)
  have := h3 x (List.mem_of_getElem? hx)
  exact ⟨g, off, x.2, hv, hg, hc 0 _ rfl, hc 1 _ rfl, this⟩

section
variable {H : Type} {enc : TypeId × Value → H} {P : Program} {w : World} {base : Nat} {spare : Nat → Bool} {held : Bool}
theorem trod_struct2D {t : TypeId} {f0 f1 : Field} {fuel : Nat} {cs : List Value} {x : DataW H × List MemPlace} (ht : P.underlying t = some (.struct #[f0, f1])) (h : DataW.trod enc P w base spare held fuel t cs = some x) :
    ∃ y0 y1 n, cs.length = P.cellsOf t ∧ DataW.trod enc P w base spare held n f0.type ((cs.drop f0.offset).take (P.cellsOf f0.type)) = some y0 ∧ DataW.trod enc P w base spare held n f1.type ((cs.drop f1.offset).take (P.cellsOf f1.type)) = some y1 := by
  obtain ⟨xs, n, _, rfl, hl, hlen, hf⟩ := DataW.trod_struct ht h
  match xs, hlen with
  | [y0, y1], _ => exact ⟨y0, y1, n, hl, by simpa using hf 0 f0 rfl, by simpa using hf 1 f1 rfl⟩
end

set_option maxRecDepth 100000 in
theorem filesD_of_trod {H : Type} {enc : TypeId × Value → H} {W : World} {base : Nat} {held : Bool} {a : Option Addr} {len cap : Nat} {d : DataW H} {p : List MemPlace}
    (h : DataW.Trod enc Tryz.prog W base (fun _ => true) held 96 (.slice a len cap) d p) :
    ∃ fs : List (Nm × List Nat), fs.length = len ∧ FilesAt W (.slice a len cap) fs := by
  obtain ⟨fuel, hf⟩ := h
  rcases open_slice Tryz.underlying96 hf with ⟨hcs, _⟩ | ⟨x, l, c, m, n, D, Pl, hcs, hb, hl, hm, hmm, _, hi⟩
  · simp [Value.cells] at hcs
    obtain ⟨rfl, rfl, rfl⟩ := hcs
    exact ⟨[], rfl, [], rfl, recAt_nil _ _ _, by simp⟩
  · simp [Value.cells] at hcs
    obtain ⟨rfl, rfl, rfl⟩ := hcs
    simp only [if_true] at hmm
    subst hmm
    have C2 : Tryz.prog.cellsOf 100 = 2 := by kernel_rfl
    have k2 : Tryz.prog.cellsOf 9 = 1 := by kernel_rfl
    have k3 : Tryz.prog.cellsOf 41 = 1 := by kernel_rfl
    rw [C2] at hi
    have each : ∀ i, i < len → ∃ q : (Nm × List Nat) × Value, (∀ j u, (fileRow q)[j]? = some u → W.cell? (x.add (i * 2 + j)) = some u) ∧ (At W (fun j => j < W.heap.size) .u8 q.2 q.1.2 ∧ (∀ y ∈ q.1.2, y < 256) ∧ q.1.1.length ≤ 9223372036854775807) := by
      intro i hil
      obtain ⟨cs', hc, ht⟩ := hi i (by omega)
      obtain ⟨y0, y1, k, hcl, h0, h1⟩ := trod_struct2D Tryz.underlying100 ht
      rw [C2] at hcl
      match cs', hcl with
      | [c0, c1], _ =>
        simp only [k2, k3, List.drop_succ_cons, List.drop_zero, List.take_succ_cons, List.take_zero] at h0 h1
        obtain ⟨name, rfl, hn⟩ := text_in h0
        obtain ⟨bs, hbs, h8⟩ := bytes_in h1
        refine ⟨((name, bs), c1), fun j u hj => ?_, ⟨hbs, h8, hn⟩⟩
        obtain ⟨_, _, hat⟩ := World.cells?_some hc
        have hj6 : j < 2 := (List.getElem?_eq_some_iff.1 hj).1
        have := hat j hj6
        rw [Go.Deep.add_add] at this
        rw [this]
        exact hj
    obtain ⟨qs, hlen, hqs⟩ := pick_n len each
    refine ⟨qs.map (·.1), by simpa using hlen, qs, rfl, ⟨some x, m, by simp [hlen], by simp [hlen]; omega, hm, by simp, ?_⟩, fun q hq => ?_⟩
    · by_cases h0 : len = 0
      · exact .inl (List.length_eq_zero_iff.1 (by simp [hlen, h0]))
      · right
        obtain ⟨q0, hq0⟩ : ∃ q0, qs[0]? = some q0 := ⟨_, List.getElem?_eq_getElem (by omega)⟩
        have c0 := (hqs 0 q0 hq0).1 0 _ rfl
        obtain ⟨b, off, spot⟩ := x
        obtain rfl : spot = none := by simpa [Addr.add] using World.cell?_spot c0
        have hlt := World.block_lt_of_cell? W _ c0
        refine ⟨b, off, rfl, by simpa [Addr.add] using hlt, by simpa [Addr.add] using hlt, fun i r hr j u hu => ?_⟩
        rw [List.getElem?_map] at hr
        obtain ⟨q, hq, rfl⟩ := Option.map_eq_some_iff.1 hr
        have := (hqs i q hq).1 j u hu
        rw [Addr.add_lit] at this
        rw [← this, Nat.add_assoc]
    · obtain ⟨i, hi'⟩ := List.getElem?_of_mem hq
      exact (hqs i q hi').2

end Go.Proofs.YtmjpckodcafjiaaGreat
