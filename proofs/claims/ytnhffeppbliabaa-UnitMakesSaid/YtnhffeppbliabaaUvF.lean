/- Laws of layer 8: the mathematics of the tail, and of what a cell becomes. -/
import Derived.Test.YtnhffeppbliabaaUrP
import Derived.Test.YtnhffeppbliabaaCelL
namespace Go.Proofs.Ytnhffeppbliabaa
open Go.RowKit

theorem ucur_self (U : US) : ucur U U.epoch = 0 := by
  unfold ucur
  rw [if_neg (by omega), if_neg (by omega)]
theorem utail_snoc (e lo : Int) (l : Im IC) (x : Int × IC) : utail ⟨e, lo, l ++ [x]⟩ = x.1 + 1 := by
  unfold utail
  simp
theorem utail_bound {U : US} (h : UOk U) : U.low ≤ utail U ∧ utail U ≤ 1048576 ∧ ∀ f ∈ U.cells, f.1 < utail U := by
  obtain ⟨e, lo, cs⟩ := U
  rcases List.eq_nil_or_concat cs with rfl | ⟨l, x, rfl⟩
  · have := h.low
    exact ⟨Int.le_refl _, this.2, fun f hf => by cases hf⟩
  · have hx : lo ≤ x.1 ∧ x.1 ≤ 1048575 := ⟨(h.at' x (by simp)).1, (h.at' x (by simp)).2.1⟩
    have hr := h.rise
    rw [List.concat_eq_append] at hr ⊢
    rw [utail_snoc]
    refine ⟨by show lo ≤ _; omega, by omega, fun f hf => ?_⟩
    rcases List.mem_append.1 hf with hf | hf
    · have := (List.pairwise_append.1 hr).2.2 f hf x (by simp)
      omega
    · obtain rfl : f = x := by simpa using hf
      omega
theorem ucut_tail {U : US} (h : UOk U) : ucut U U.epoch (utail U) = (0, U, 0) := by
  obtain ⟨h1, h2, h3⟩ := utail_bound h
  have hl := h.low
  have hf : (U.cells.filter fun f => !decide (utail U ≤ f.1)) = U.cells := List.filter_eq_self.2 fun f hf => by
    have := h3 f hf
    simp
    omega
  unfold ucut
  rw [if_neg (by omega), if_neg (by rw [ucur_self]; decide), if_neg (by omega), hf]
  simp
theorem utailc_self (U : US) : utailc U U.epoch = (utail U, 0) := by
  unfold utailc
  rw [if_neg (by rw [ucur_self]; decide)]
/-- The tail of the first k. -/
def uwant (U : US) (k : Nat) : Int := utail ⟨U.epoch, U.low, U.cells.take k⟩
theorem uwant_zero (U : US) : uwant U 0 = U.low := rfl
theorem uwant_succ {U : US} {k : Nat} {f : Int × IC} (h : U.cells[k]? = some f) : uwant U (k + 1) = f.1 + 1 := by
  unfold uwant
  rw [take_snocU h, utail_snoc]
theorem uwant_end (U : US) : uwant U U.cells.length = utail U := by
  unfold uwant
  rw [List.take_length]

theorem uwrite_elder {U : US} {e : Int} (he : e < U.epoch) (a : Int) (d : List Nat) : (uwrite U e a d).1 = U := by
  have hc : ucur U e = 6 := by unfold ucur; rw [if_pos he]
  unfold uwrite
  rw [hc]
  split
  · rfl
  · split
    · rfl
    · rw [if_pos (by decide)]
theorem ufill_elder {U : US} {e : Int} (he : e < U.epoch) (a : Int) : (ufill U e a).1 = U := by
  have hc : ucur U e = 6 := by unfold ucur; rw [if_pos he]
  unfold ufill
  rw [hc]
  split
  · rfl
  · rw [if_pos (by decide)]
theorem utrim_elder {U : US} {e : Int} (he : e < U.epoch) (a : Int) : (utrim U e a).1 = U := by
  have hc : ucur U e = 6 := by unfold ucur; rw [if_pos he]
  unfold utrim
  rw [hc]
  split
  · rfl
  · rw [if_pos (by decide)]
theorem ucut_elder {U : US} {e : Int} (he : e < U.epoch) (a : Int) : (ucut U e a).2.1 = U := by
  have hc : ucur U e = 6 := by unfold ucur; rw [if_pos he]
  unfold ucut
  rw [hc]
  split
  · rfl
  · rw [if_pos (by decide)]
/-- Who tells an elder epoch changes nothing. -/
theorem ustep_elder {U : US} {a : UA} (hk : ¬ (IntKind.u64.wrap a.kind).tmod 8 = 0) (he : a.epoch < U.epoch) : ustep U a = U := by
  unfold ustep
  rw [if_neg (by simpa using hk)]
  repeat' split
  · exact uwrite_elder he _ _
  · exact uwrite_elder he _ _
  · exact ufill_elder he _
  · rfl
  · exact utrim_elder he _
  · exact ucut_elder he _
  · rfl
theorem uwrite_marks (U : US) (e a : Int) (d : List Nat) : (uwrite U e a d).1.epoch = U.epoch ∧ (uwrite U e a d).1.low = U.low := by
  unfold uwrite
  repeat' split
  all_goals exact ⟨rfl, rfl⟩
theorem ufill_marks (U : US) (e a : Int) : (ufill U e a).1.epoch = U.epoch ∧ (ufill U e a).1.low = U.low := by
  unfold ufill
  repeat' split
  all_goals exact ⟨rfl, rfl⟩
theorem ucut_marks (U : US) (e a : Int) : (ucut U e a).2.1.epoch = U.epoch ∧ (ucut U e a).2.1.low = U.low := by
  unfold ucut
  repeat' split
  all_goals exact ⟨rfl, rfl⟩
/-- Epochs and low marks never fall. -/
theorem ustep_marks (U : US) (a : UA) : U.epoch ≤ (ustep U a).epoch ∧ U.low ≤ (ustep U a).low := by
  unfold ustep
  repeat' split
  · unfold useal
    repeat' split
    · exact ⟨Int.le_refl _, Int.le_refl _⟩
    · exact ⟨Int.le_refl _, Int.le_refl _⟩
    · exact ⟨by simp only; omega, Int.le_refl _⟩
  · rw [(uwrite_marks U _ _ _).1, (uwrite_marks U _ _ _).2]; exact ⟨Int.le_refl _, Int.le_refl _⟩
  · rw [(uwrite_marks U _ _ _).1, (uwrite_marks U _ _ _).2]; exact ⟨Int.le_refl _, Int.le_refl _⟩
  · rw [(ufill_marks U _ _).1, (ufill_marks U _ _).2]; exact ⟨Int.le_refl _, Int.le_refl _⟩
  · exact ⟨Int.le_refl _, Int.le_refl _⟩
  · unfold utrim
    repeat' split
    · exact ⟨Int.le_refl _, Int.le_refl _⟩
    · exact ⟨Int.le_refl _, Int.le_refl _⟩
    · exact ⟨Int.le_refl _, by simp only; omega⟩
  · rw [(ucut_marks U _ _).1, (ucut_marks U _ _).2]; exact ⟨Int.le_refl _, Int.le_refl _⟩
  · exact ⟨Int.le_refl _, Int.le_refl _⟩
theorem mem_idel {α : Type} {l : Im α} {n : Int} {f : Int × α} (h : f ∈ l) (hn : f.1 ≠ n) : f ∈ idel l n := List.mem_filter.2 ⟨h, by simpa using hn⟩
theorem uat_of {U : US} (h : UOk U) {f : Int × IC} (hf : f ∈ U.cells) : uat U f.1 = f.2 := by
  unfold uat
  rw [if_neg (by have := h.at' f hf; omega), iget_mem h.rise hf]
  rfl
/-- A cell only becomes what it may become. -/
theorem ustep_may {U : US} (h : UOk U) {a : UA} (h8 : ∀ y ∈ a.data, y < 256) (hk : ¬ (IntKind.u64.wrap a.kind).tmod 8 = 6) {f : Int × IC} (hf : f ∈ U.cells) :
    mayC f.2.1 f.2.2 (uat (ustep U a) f.1).1 (uat (ustep U a) f.1).2 = true := by
  have hok := h.at' f hf
  have hself : mayC f.2.1 f.2.2 f.2.1 f.2.2 = true := by rw [may_self, decide_eq_true_iff]; exact hok.2.2.2.1
  have hw : ∀ c : IC, UOk { U with cells := iput U.cells a.addr c } → f.1 ≠ a.addr → uat { U with cells := iput U.cells a.addr c } f.1 = f.2 := fun c hc hn => uat_of hc (mem_iins.2 (.inr (mem_idel hf hn)))
  have hwr : mayC f.2.1 f.2.2 (uat (uwrite U a.epoch a.addr a.data).1 f.1).1 (uat (uwrite U a.epoch a.addr a.data).1 f.1).2 = true := by
    have h1 := uwrite_ok h a.epoch a.addr h8
    unfold uwrite at h1 ⊢
    repeat' split
    all_goals try (rw [uat_of h hf]; exact hself)
    rename_i h2 h3 h4 h5 h6
    rw [if_neg h2, if_neg h3, if_neg h4, if_neg h5, if_pos h6] at h1
    rw [hw _ h1 fun e => ?_]
    · exact hself
    · have := (uat_kind h h6).2
      rw [← e, iget_mem h.rise hf] at this
      cases this
  have hfi : mayC f.2.1 f.2.2 (uat (ufill U a.epoch a.addr).1 f.1).1 (uat (ufill U a.epoch a.addr).1 f.1).2 = true := by
    have h1 := ufill_ok h a.epoch a.addr
    unfold ufill at h1 ⊢
    repeat' split
    all_goals try (rw [uat_of h hf]; exact hself)
    rename_i h2 h3 h4 h5
    rw [if_neg h2, if_neg h3, if_neg h4, if_neg h5] at h1
    by_cases e : f.1 = a.addr
    · have hg : uat U a.addr = f.2 := by rw [← e]; exact uat_of h hf
      rw [hg] at h4 h5
      have hk2 : f.2.1 = 2 := by rcases hok.2.2.1 with h9 | h9 <;> omega
      have hd : f.2.2 = [] := chk_none hok.2.2.2.1 (by omega)
      have hm : (f.1, ((2, []) : IC)) ∈ iput U.cells a.addr ((2, []) : IC) := mem_iins.2 (.inl (by rw [e]))
      have := uat_of h1 hm
      simp only at this
      rw [this, hk2, hd]
      rfl
    · rw [hw _ h1 e]
      exact hself
  unfold ustep
  repeat' split
  · have : (useal U a.epoch).2.1.cells = U.cells := by
      unfold useal
      repeat' split
      all_goals rfl
    rw [uat_of (useal_ok h a.epoch) (by rw [this]; exact hf)]
    exact hself
  · exact hwr
  · exact hwr
  · exact hfi
  · rw [uat_of h hf]; exact hself
  · have h1 := utrim_ok h a.epoch a.addr
    unfold utrim at h1 ⊢
    repeat' split
    · rw [uat_of h hf]; exact hself
    · rw [uat_of h hf]; exact hself
    · by_cases hl : f.1 < max U.low a.addr
      · unfold uat
        rw [if_pos hl]
        exact may_iff.2 ⟨hok.2.2.2.1, by decide, .inr (.inl rfl)⟩
      · rename_i h2 h3
        rw [if_neg h2, if_neg h3] at h1
        rw [uat_of h1 (List.mem_filter.2 ⟨hf, by simpa using hl⟩)]
        exact hself
  · rename_i h6
    exact absurd (by simpa using h6) hk
  · rw [uat_of h hf]; exact hself
theorem uread_self {U : US} {a : Int} (ha : 0 ≤ a ∧ a ≤ 1048575) : uread U U.epoch a = (uat U a, 0) := by
  unfold uread
  rw [if_neg (by omega), if_neg (by rw [ucur_self]; decide)]

end Go.Proofs.Ytnhffeppbliabaa
