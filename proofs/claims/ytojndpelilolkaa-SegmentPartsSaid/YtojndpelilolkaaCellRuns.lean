/- CellRuns, walked. -/
import Derived.Test.YtojndpelilolkaaCelX
import Derived.Test.YtojndpelilolkaaUvQ
namespace Go.Proofs.Ytojndpelilolkaa
open Go.RowKit

/-- The first error of cells, but for how many there are. -/
def firstBad (l : List IC) : Nat := (l.map fun c => chk c.1 c.2.length).foldr (fun e r => if e = 0 then r else e) 0
theorem firstBad_snoc (l : List IC) (c : IC) : firstBad (l ++ [c]) = if firstBad l = 0 then chk c.1 c.2.length else firstBad l := by
  unfold firstBad
  induction l with
  | nil =>
    by_cases h : chk c.1 c.2.length = 0 <;> simp [h]
  | cons x l ih =>
    simp only [List.cons_append, List.map_cons, List.foldr_cons]
    by_cases h : chk x.1 x.2.length = 0
    · rw [if_pos h, if_pos h]; exact ih
    · rw [if_neg h, if_neg h, if_neg h]

theorem items_byte : ∀ (n : Nat) (run : List CC) (last : List Nat), run.length = n → n ≤ 64 → (∀ c ∈ run, okC c) → ∀ y ∈ items last run, y < 256 := by
  intro n
  induction n using Nat.strongRecOn with
  | _ n ih =>
    intro run last hn h64 hok
    match run, hn, hok with
    | [], _, _ => rw [items_nil]; simp
    | (k, d) :: r, hn, hok =>
      rw [List.length_cons] at hn
      obtain ⟨hk3, hd64, _, h8⟩ := hok (k, d) (by simp)
      simp only at hk3 hd64 h8
      by_cases hk1 : k = 1
      · subst hk1
        rw [items_data]
        have h1 := ih (n - 1) (by omega) r d (by omega) (by omega) (fun c hc => hok c (by simp [hc]))
        have hc := com_le_left d last
        exact app_byte (enc_u64 (by unfold U64; omega)) (app_byte (enc_u64 (by unfold U64; omega)) (app_byte (enc_u64 (by unfold U64; omega)) (app_byte (fun y hy => h8 y (List.mem_of_mem_drop hy)) h1)))
      · rw [items_row _ _ _ _ hk1]
        have hle := lead_le k r
        have h1 := ih (n - (lead k r + 1)) (by omega) (r.drop (lead k r)) last (by rw [List.length_drop]; omega) (by omega) (fun c hc => hok c (by simp [List.mem_of_mem_drop hc]))
        exact app_byte (enc_u64 (by unfold U64; omega)) (app_byte (enc_u64 (by unfold U64; omega)) h1)
theorem rbytes_byte {run : List CC} (hl : run.length ≤ 64) (hok : ∀ c ∈ run, okC c) : ∀ y ∈ rbytes run, y < 256 :=
  app_byte (enc_u64 (by unfold U64; omega)) (items_byte _ run [] rfl hl hok)

end Go.Proofs.Ytojndpelilolkaa
