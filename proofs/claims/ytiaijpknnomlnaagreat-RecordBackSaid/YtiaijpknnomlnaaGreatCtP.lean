/- The contracts of package cell's dataItem, PutRun. · The contract of package cell's PutRun. · The contract of package cell's PutRun, whatever the run; an append of one cell. -/
import Derived.Test.YtiaijpknnomlnaaGreatCjP
import Derived.Test.YtiaijpknnomlnaaGreatCdP
namespace Go.Proofs.YtiaijpknnomlnaaGreat
open Go.RowKit

/-- A data cell's item. -/
def ditem (last d : List Nat) : List Nat := enc 0 ++ (enc d.length ++ (enc (com d last) ++ d.drop (com d last)))

theorem ditem_len {last d : List Nat} (h1 : d.length ≤ 64) : (ditem last d).length ≤ 100 := by
  have hc := com_le_left d last
  have e0 := enc_len10 (n := 0) (by unfold U64; omega)
  have e1 := enc_len10 (n := d.length) (by unfold U64; omega)
  have e2 := enc_len10 (n := com d last) (by unfold U64; omega)
  unfold ditem
  rw [List.length_append, List.length_append, List.length_append, List.length_drop]
  omega
theorem items_len : ∀ (n : Nat) (run : List CC) (last : List Nat), run.length = n → n ≤ 64 → (∀ c ∈ run, okC c) → (items last run).length ≤ 100 * n := by
  intro n
  induction n using Nat.strongRecOn with
  | _ n ih =>
    intro run last hn h64 hok
    match run, hn, hok with
    | [], _, _ => rw [items_nil]; simp
    | (k, d) :: r, hn, hok =>
      rw [List.length_cons] at hn
      obtain ⟨hk3, hd64, _, _⟩ := hok (k, d) (by simp)
      simp only at hk3 hd64
      by_cases hk1 : k = 1
      · subst hk1
        rw [items_data]
        have h1 := ih (n - 1) (by omega) r d (by omega) (by omega) (fun c hc => hok c (by simp [hc]))
        have h2 := ditem_len (last := last) hd64
        unfold ditem at h2
        simp only [List.length_append] at h2 ⊢
        omega
      · rw [items_row _ _ _ _ hk1]
        have hle := lead_le k r
        have h1 := ih (n - (lead k r + 1)) (by omega) (r.drop (lead k r)) last (by rw [List.length_drop]; omega) (by omega) (fun c hc => hok c (by simp [List.mem_of_mem_drop hc]))
        have e1 := enc_len10 (n := lead k r + 1) (by unfold U64; omega)
        have e2 := enc_len10 (n := k) (by unfold U64; omega)
        rw [List.length_append, List.length_append]
        omega

theorem rbytes_pos (run : List CC) : 0 < (rbytes run).length := by
  unfold rbytes
  rw [List.length_append]
  have := enc_pos run.length
  omega

theorem chk_okC {c : CC} (h : okC c) : chk (c.1 : Int) c.2.length = 0 := by
  obtain ⟨a, b, n, _⟩ := h
  unfold chk
  rw [if_neg (by omega), if_neg (by omega), if_neg]
  rintro ⟨h1, h2⟩
  have := n (by omega)
  rw [this] at h2
  simp at h2
theorem chkRun_okC {run : List CC} (hl : run.length ≤ 64) (h : ∀ c ∈ run, okC c) : chkRun (run.map toIC) = 0 :=
  chkRun_good (by rw [List.length_map]; exact hl) fun c hc => by
    obtain ⟨x, hx, rfl⟩ := List.mem_map.1 hc
    exact chk_okC (h x hx)

end Go.Proofs.YtiaijpknnomlnaaGreat

namespace Go.Proofs.YtiaijpknnomlnaaGreat
open Go.RowKit

end Go.Proofs.YtiaijpknnomlnaaGreat

namespace Go.Proofs.YtiaijpknnomlnaaGreat
open Go.RowKit

/-- What PutRun answers. -/
def RunPost (b : List Nat) (cs : List IC) (w : World) (e : Ending) (w' : World) : Prop :=
  ∃ v' out, e = .returned (.tuple #[v', errV (chkRun cs)]) ∧ Owns w' w.heap.size 5 .u8 v' out ∧ out = (if chkRun cs = 0 then b ++ rbytes (cs.map toCC) else []) ∧ Below w.heap.size w w'

/-- Cells' values as the program has them, one behind the other. -/
def ivals (l : List (Int × Value)) : List Value := l.flatMap fun x => [.int .i64 x.1, x.2]
theorem ivals_length (l : List (Int × Value)) : (ivals l).length = l.length * 2 := by
  induction l with
  | nil => rfl
  | cons c l ih => show (([.int .i64 c.1, c.2] : List Value) ++ ivals l).length = _; rw [List.length_append, ih, List.length_cons]; simp; omega
theorem ivals_append (a b : List (Int × Value)) : ivals (a ++ b) = ivals a ++ ivals b := by simp [ivals]
theorem ivals_get (l : List (Int × Value)) (i : Nat) (hi : i < l.length) : (ivals l)[i * 2]? = some (.int .i64 l[i].1) ∧ (ivals l)[i * 2 + 1]? = some l[i].2 := by
  induction l generalizing i with
  | nil => simp at hi
  | cons x l ih =>
    match i with
    | 0 => simp [ivals]
    | i + 1 =>
      obtain ⟨h1, h2⟩ := ih i (by simpa using hi)
      simp only [ivals, List.flatMap_cons, List.cons_append, List.nil_append, List.getElem_cons_succ] at *
      rw [show (i + 1) * 2 = i * 2 + 1 + 1 by omega]
      simp only [List.getElem?_cons_succ]
      exact ⟨h1, h2⟩

theorem Tryz.infoIC : (Tryz.prog.info? 99).map (fun i => (i.zero, i.size, i.bytes)) = some (some (.agg #[.int .i64 0, .slice none 0 0]), 2, 32) := by kernel_rfl

/-- A row of cells of the call's own. -/
def OwnsI (w : World) (base : Nat) (v : Value) (l : List (Int × Value)) : Prop := w.ownsRow base 99 2 v l.length (ivals l)

theorem ownsI_nil (w : World) (base : Nat) : OwnsI w base (.slice none 0 0) [] := World.ownsRow_nil _ _ _ _
theorem ownsI_empty (w : World) (base : Nat) (hb : base ≤ w.heap.size) : OwnsI (w.alloc (.cells #[] 99)) base (.slice (some ⟨w.heap.size, 0, none⟩) 0 0) [] :=
  World.ownsRow_lit w #[] 0 hb (by simp [maxLen]) rfl
theorem OwnsI.below {w w' : World} {base : Nat} {v : Value} {l : List (Int × Value)} (h : OwnsI w base v l) (hb : Below w.heap.size w w') : OwnsI w' base v l :=
  h.kept (row := none) ⟨hb.os, hb.tape, hb.output, hb.size, fun j hj _ => hb.block j hj⟩ (by cases v.ownBlock <;> simp)
theorem OwnsI.grown {w w' : World} {base : Nat} {v : Value} {l : List (Int × Value)} {row : Option Nat} (h : OwnsI w base v l) (hg : w.grownBy w' row) (hne : v.ownBlock = none ∨ v.ownBlock ≠ row) : OwnsI w' base v l := World.ownsRow.kept h hg hne
theorem OwnsI.form {w : World} {base : Nat} {v : Value} {l : List (Int × Value)} (h : OwnsI w base v l) : ∃ ao cap, v = .slice ao l.length cap := by
  rcases h.2 with ⟨rfl, h2⟩ | ⟨g, cap, cur, rfl, _⟩
  · exact ⟨none, 0, by rw [h2]⟩
  · exact ⟨_, cap, rfl⟩
theorem OwnsI.lt {w : World} {base : Nat} {v : Value} {l : List (Int × Value)} (h : OwnsI w base v l) : ∀ j, v.ownBlock = some j → base ≤ j ∧ j < w.heap.size := World.ownsRow.lt h

/-- What is owned reads as cells, if their bytes do. -/
theorem OwnsI.cells {w : World} {base : Nat} {v : Value} {l : List (Int × Value)} (h : OwnsI w base v l) (cs : List IC) (B : Nat → Prop) (hlen : cs.length = l.length)
    (hB : ∀ j, v.ownBlock = some j → B j) (hc : ∀ i, (hi : i < l.length) → l[i].1 = (cs.getD i (0, [])).1 ∧ At w B .u8 l[i].2 (cs.getD i (0, [])).2) : CellsAt w B v cs := by
  have h0 := h
  unfold OwnsI at h0
  rcases h.2 with ⟨rfl, hn⟩ | ⟨g, cap, cur, rfl, hb, hg, hnc, hm, hs, ht⟩
  · exact ⟨none, 0, by rw [hlen, hn], by omega, by simp [maxLen], fun _ => rfl, .inl (List.length_eq_zero_iff.1 (by omega))⟩
  · refine ⟨_, cap, by rw [hlen], by omega, hm, by simp, .inr ⟨g, 0, rfl, (Array.getElem?_eq_some_iff.1 hg).1, hB g rfl, fun i hi => ?_⟩⟩
    have hil : i < l.length := by omega
    obtain ⟨g1, g2⟩ := ivals_get l i hil
    obtain ⟨c1, c2⟩ := hc i hil
    refine ⟨l[i].2, ?_, ?_, c2⟩
    · rw [Nat.zero_add, h0.cellAt (i * 2) (by omega), g1, c1]
    · rw [Nat.zero_add, h0.cellAt (i * 2 + 1) (by omega), g2]

end Go.Proofs.YtiaijpknnomlnaaGreat
