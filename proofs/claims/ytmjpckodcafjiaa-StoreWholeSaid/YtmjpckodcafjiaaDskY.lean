/- For DiskKeeps: maps of texts and of bools, files that came in, and what no change names. -/
import Derived.Test.YtmjpckodcafjiaaDskX
import Derived.Test.YtmjpckodcafjiaaDskT
namespace Go.Proofs.Ytmjpckodcafjiaa
open Go.RowKit Go.ChangeShapes Go.WideShapes Go.Deep

/-! ### What no change names is as it was -/
theorem fget_del_other {α : Type} {l : Fm α} {n m : Nm} (h : m ≠ n) : fget (fdel l m) n = fget l n := by
  unfold fget fdel
  induction l with
  | nil => rfl
  | cons x r ih =>
    by_cases hx : x.1 == m
    · rw [List.filter_cons_of_neg (by simp [hx])]
      have hxm : x.1 = m := by simpa using hx
      rw [List.find?_cons_of_neg (by rw [hxm]; simpa using h)]
      exact ih
    · rw [List.filter_cons_of_pos (by simp [hx])]
      rw [List.find?_cons, List.find?_cons]
      cases hn : x.1 == n
      · exact ih
      · rfl
theorem fget_ins_other {α : Type} {n m : Nm} (h : m ≠ n) (t : α) : ∀ l : Fm α, fget (fins m t l) n = fget l n
  | [] => by unfold fget fins; simp [h]
  | x :: r => by
    have ih := fget_ins_other h t r
    unfold fget at ih ⊢
    unfold fins
    split
    · rw [List.find?_cons_of_neg (by simpa using h)]
    · rw [List.find?_cons, List.find?_cons]
      cases hn : x.1 == n
      · exact ih
      · rfl
theorem fget_put_other {α : Type} {l : Fm α} {n m : Nm} (h : m ≠ n) (t : α) : fget (fput l m t) n = fget l n := by
  unfold fput
  rw [fget_ins_other h, fget_del_other h]
/-- The names that changes name are all of T. -/
def Named (T : Nm → Bool) (chs : List Ch) : Prop := ∀ c ∈ chs, T c.name = true ∧ (c.kind = 1 → T c.to = true)
theorem capply_other {T : Nm → Bool} {l : Fm (List Nat)} {c : Ch} {n : Nm} (h1 : T c.name = true) (h2 : c.kind = 1 → T c.to = true) (hn : T n = false) : fget (capply l c) n = fget l n := by
  have e1 : c.name ≠ n := fun e => by rw [e, hn] at h1; cases h1
  unfold capply
  split
  · exact fget_put_other e1 _
  · split
    · rfl
    · split
      · rename_i hk
        have e2 : c.to ≠ n := fun e => by have := h2 hk; rw [e, hn] at this; cases this
        rw [fget_put_other e2, fget_del_other e1]
      · exact fget_del_other e1
theorem picked_other {T : Nm → Bool} {n : Nm} (hn : T n = false) : ∀ (chs : List Ch) (_ : Named T chs) (l : Fm (List Nat)) (ks : List Bool), fget (picked l chs ks) n = fget l n
  | [], _, l, ks => by cases ks <;> rfl
  | c :: cs, h, l, [] => rfl
  | c :: cs, h, l, k :: ks => by
    obtain ⟨h1, h2⟩ := h c (by simp)
    have ih := picked_other hn cs (fun x hx => h x (by simp [hx])) (if k then capply l c else l) ks
    show fget (picked (if k then capply l c else l) cs ks) n = fget l n
    rw [ih]
    cases k
    · rfl
    · exact capply_other h1 h2 hn
theorem Named.mono {T T' : Nm → Bool} {chs : List Ch} (h : Named T chs) (ht : ∀ n, T n = true → T' n = true) : Named T' chs := fun c hc => ⟨ht _ (h c hc).1, fun e => ht _ ((h c hc).2 e)⟩
theorem Named.snoc {T : Nm → Bool} {chs : List Ch} (h : Named T chs) {c : Ch} (h1 : T c.name = true) (h2 : c.kind = 1 → T c.to = true) : Named T (chs ++ [c]) := fun x hx => by
  rcases List.mem_append.1 hx with hx | hx
  · exact h x hx
  · obtain rfl : x = c := by simpa using hx
    exact ⟨h1, h2⟩

/-- What an operation leaves of changes: none where it fails, one where not. -/
theorem dwork_keeps (d : DS) : (dwork d).1.sure = d.sure ∧ (dwork d).1.chs = d.chs := by unfold dwork; split <;> exact ⟨rfl, rfl⟩
theorem dwrite_keeps (d : DS) (n : Nm) (b : List Nat) : (dwrite d n b).1.sure = d.sure ∧ (((dwrite d n b).2 = 0 ∧ (dwrite d n b).1.chs = d.chs ++ [⟨0, n, [], b⟩]) ∨ ((dwrite d n b).2 ≠ 0 ∧ (dwrite d n b).1.chs = d.chs)) := by
  obtain ⟨h1, h2⟩ := dwork_keeps d
  unfold dwrite
  split
  · rename_i h; exact ⟨h1, .inr ⟨h, h2⟩⟩
  · split
    · exact ⟨h1, .inr ⟨by simp, h2⟩⟩
    · split
      · exact ⟨h1, .inr ⟨by simp, h2⟩⟩
      · split
        · exact ⟨h1, .inr ⟨by simp, h2⟩⟩
        · exact ⟨h1, .inl ⟨rfl, by show (dwork d).1.chs ++ _ = _; rw [h2]⟩⟩
theorem drename_keeps (d : DS) (a b : Nm) : (drename d a b).1.sure = d.sure ∧ (((drename d a b).2 = 0 ∧ (drename d a b).1.chs = d.chs ++ [⟨1, a, b, []⟩]) ∨ ((drename d a b).2 ≠ 0 ∧ (drename d a b).1.chs = d.chs)) := by
  obtain ⟨h1, h2⟩ := dwork_keeps d
  unfold drename
  split
  · rename_i h; exact ⟨h1, .inr ⟨h, h2⟩⟩
  · split
    · exact ⟨h1, .inr ⟨by simp, h2⟩⟩
    · split
      · exact ⟨h1, .inr ⟨by simp, h2⟩⟩
      · exact ⟨h1, .inl ⟨rfl, by show (dwork d).1.chs ++ _ = _; rw [h2]⟩⟩
theorem dremove_keeps (d : DS) (a : Nm) : (dremove d a).1.sure = d.sure ∧ (((dremove d a).2 = 0 ∧ (dremove d a).1.chs = d.chs ++ [⟨2, a, [], []⟩]) ∨ ((dremove d a).2 ≠ 0 ∧ (dremove d a).1.chs = d.chs)) := by
  obtain ⟨h1, h2⟩ := dwork_keeps d
  unfold dremove
  split
  · rename_i h; exact ⟨h1, .inr ⟨h, h2⟩⟩
  · split
    · exact ⟨h1, .inr ⟨by simp, h2⟩⟩
    · split
      · exact ⟨h1, .inr ⟨by simp, h2⟩⟩
      · exact ⟨h1, .inl ⟨rfl, by show (dwork d).1.chs ++ _ = _; rw [h2]⟩⟩

/-! ### The law's own maps -/
def txt (t : List Nat) : ByteArray := strOfNums (t.map fun n : Nat => (n : Int))
/-- A map of texts: the files that it names. -/
def WasV (w : World) (b : Nat) (l : Fm (List Nat)) : Prop := ∃ es, MapV w (some b) es ∧ Zip (fun v t => v = Value.string (txt t)) es l
/-- A map of bools, all true. -/
def TchV (w : World) (b c : Nat) (T : Nm → Bool) : Prop := ∃ es : Fm Value, MapV w (some b) es ∧ (∀ f ∈ es, f.2 = Value.bool true) ∧ T = fhas es ∧ es.length ≤ c
theorem WasV.keep {w w' : World} {b : Nat} {l : Fm (List Nat)} (h : WasV w b l) (hk : w'.heap[b]? = w.heap[b]?) : WasV w' b l := by
  obtain ⟨es, h1, h2⟩ := h
  exact ⟨es, h1.keep fun b' e => by cases e; exact hk, h2⟩
theorem TchV.keep {w w' : World} {b c : Nat} {T : Nm → Bool} (h : TchV w b c T) (hk : w'.heap[b]? = w.heap[b]?) : TchV w' b c T := by
  obtain ⟨es, h1, h2⟩ := h
  exact ⟨es, h1.keep fun b' e => by cases e; exact hk, h2⟩
theorem WasV.lt {w : World} {b : Nat} {l : Fm (List Nat)} (h : WasV w b l) : b < w.heap.size := by obtain ⟨es, h1, _⟩ := h; exact h1.lt
theorem TchV.lt {w : World} {b c : Nat} {T : Nm → Bool} (h : TchV w b c T) : b < w.heap.size := by obtain ⟨es, h1, _⟩ := h; exact h1.lt
theorem zeroB (w : World) : (zeroValue 4).run Try.prog w = .ok (.bool false) w := by kernel_rfl
theorem zeroS (w : World) : (zeroValue 9).run Try.prog w = .ok (.string ⟨#[]⟩) w := by kernel_rfl
theorem WasV.lookOk {w : World} {b : Nat} {l : Fm (List Nat)} (h : WasV w b l) {n : Nm} (hn : n.length ≤ maxLen) :
    ∃ u, (Instr.lookup 36 (.map (some b)) (nmV n) true).run Try.prog w = .ok (.tuple #[u, .bool (fhas l n)]) w := by
  obtain ⟨es, h1, h2⟩ := h
  obtain ⟨v, ps, hr, hd⟩ := World.ownsMap.look_ok (show w.ownsMap Try.prog 9 hv b es.length (.map (es.map ent)) from h1) keyed_str Try.underlying36 (zeroS w) (zd := .held (.string ⟨#[]⟩)) (zp := []) rfl (key_nm hn)
  rw [has_ent, h2.has n] at hr
  exact ⟨v, hr⟩

/-! ### Files that came in -/
def FilesAt (w : World) (v : Value) (fs : List (Nm × List Nat)) : Prop :=
  ∃ vs : List ((Nm × List Nat) × Value), vs.map (·.1) = fs ∧ RecAt w (fun j => j < w.heap.size) 2 v (vs.map fileRow) ∧ ∀ x ∈ vs, At w (fun j => j < w.heap.size) .u8 x.2 x.1.2 ∧ (∀ y ∈ x.1.2, y < 256) ∧ x.1.1.length ≤ 9223372036854775807
theorem FilesAt.val {w : World} {v : Value} {fs : List (Nm × List Nat)} (h : FilesAt w v fs) : ∃ ao cap, v = .slice ao fs.length cap ∧ fs.length ≤ cap ∧ cap ≤ maxLen ∧ (ao = none → cap = 0) := by
  obtain ⟨vs, rfl, h2, _⟩ := h
  have := h2.val
  simpa using this
theorem FilesAt.at {w : World} {ao : Option Addr} {n cap : Nat} {fs : List (Nm × List Nat)} (h : FilesAt w (.slice ao n cap) fs) {i : Nat} {f : Nm × List Nat} (hi : fs[i]? = some f) :
    ∃ g off v', ao = some ⟨g, off, none⟩ ∧ g < w.heap.size ∧ w.cell? ⟨g, off + i * 2, none⟩ = some (nmV f.1) ∧ w.cell? ⟨g, off + i * 2 + 1, none⟩ = some v' ∧ At w (fun j => j < w.heap.size) .u8 v' f.2 ∧ (∀ y ∈ f.2, y < 256) ∧ f.1.length ≤ 9223372036854775807 := by
  obtain ⟨vs, rfl, h2, h3⟩ := h
  rw [List.getElem?_map] at hi
  obtain ⟨x, hx, rfl⟩ := Option.map_eq_some_iff.1 hi
  obtain ⟨g, off, hv, hg, _, hc⟩ := h2.at (i := i) (r := fileRow x) (by rw [List.getElem?_map, hx]; rfl)
  have := h3 x (List.mem_of_getElem? hx)
  exact ⟨g, off, x.2, hv, hg, hc 0 _ rfl, hc 1 _ rfl, this⟩

section
variable {H : Type} {enc : TypeId × Value → H} {P : Program} {w : World} {base : Nat} {spare : Nat → Bool} {held : Bool}
theorem trod_struct2D {t : TypeId} {f0 f1 : Field} {fuel : Nat} {cs : List Value} {x : DataW H × List MemPlace} (ht : P.underlying t = some (.struct #[f0, f1])) (h : DataW.trod enc P w base spare held fuel t cs = some x) :
    ∃ y0 y1 n, cs.length = P.cellsOf t ∧ DataW.trod enc P w base spare held n f0.type ((cs.drop f0.offset).take (P.cellsOf f0.type)) = some y0 ∧ DataW.trod enc P w base spare held n f1.type ((cs.drop f1.offset).take (P.cellsOf f1.type)) = some y1 := by
  obtain ⟨xs, n, _, rfl, hl, hlen, hf⟩ := DataW.trod_struct ht h
  match xs, hlen with
  | [y0, y1], _ => exact ⟨y0, y1, n, hl, by simpa using hf 0 f0 rfl, by simpa using hf 1 f1 rfl⟩
end

end Go.Proofs.Ytmjpckodcafjiaa
