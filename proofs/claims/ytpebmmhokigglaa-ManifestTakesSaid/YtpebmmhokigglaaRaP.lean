/- Acts as they are recorded: their bytes. · The contract of the document's own Bytes of a cell. · A region that draws its order, walked by hand under a condition on the world. · Acts as they are recorded: the document's own bytes; an act as the document's. · The contract of a number's size: math/bits.Len64, and Size. · The contracts of package frame's Take, All, Prefix, One and Size. -/
import Derived.Test.YtpebmmhokigglaaRcA
import Derived.Test.YtpebmmhokigglaaFbP
import Derived.Test.YtpebmmhokigglaaPrA
import Derived.Test.YtpebmmhokigglaaCaP
import Derived.Lib.AtoiErrMem
import Derived.Test.YtpebmmhokigglaaBase
import Derived.OrdersHeld
import Derived.Laws.Rows
import Derived.Laws.AppendOwnNone
import Derived.Deep.RegionLaw
import Derived.Deep.RegionHeld3
import Derived.Test.YtpebmmhokigglaaRows
import Derived.WalkSpells
namespace Go.Proofs.Ytpebmmhokigglaa
open Go.RowKit

theorem reads_litN (w : World) (e : TypeId) (k : IntKind) (l : List Nat) (cs : Array Value) (fr : Nat × Nat) (hc : cs.toList = vals k l) (hm : l.length ≤ maxLen) :
    Reads (w.alloc (.cells cs e fr)) k (.slice (some ⟨w.heap.size, 0, none⟩) l.length l.length) l :=
  ⟨_, _, rfl, Nat.le_refl _, hm, by simp, .inr ⟨w.heap.size, 0, rfl, by simp, fun i hi => by
    rw [Nat.zero_add, World.cell?_alloc_mark, ← Array.getElem?_toList, hc, vals_get k l i hi]⟩⟩
/-- An act's text. -/
def rtext (k e a : Nat) (d : List Nat) : List Nat := (enc k ++ enc e ++ if 1 < k then enc a else []) ++ if k = 2 then enc d.length ++ d else []
theorem rtext_le {k e a : Nat} {d : List Nat} (hk : U64 k) (he : U64 e) (ha : U64 a) (hd : d.length ≤ 64) : (rtext k e a d).length ≤ 110 := by
  have h1 := enc_len10 hk
  have h2 := enc_len10 he
  have h3 := enc_len10 ha
  have h4 := enc_len10 (u64_of_le (n := d.length) (by omega))
  unfold rtext
  rw [List.length_append, List.length_append, List.length_append]
  split <;> split <;> simp <;> omega
theorem rtext_byte {k e a : Nat} {d : List Nat} (hk : U64 k) (he : U64 e) (ha : U64 a) (hd : ∀ y ∈ d, y < 256) (hl : d.length ≤ 64) : ∀ y ∈ rtext k e a d, y < 256 := by
  have h1 := enc_u64 hk
  have h2 := enc_u64 he
  have h3 := enc_u64 ha
  have h4 := enc_u64 (u64_of_le (n := d.length) (by omega))
  unfold rtext
  refine app_byte (app_byte (app_byte h1 h2) ?_) ?_
  · split
    · exact h3
    · simp
  · split
    · exact app_byte h4 hd
    · simp

end Go.Proofs.Ytpebmmhokigglaa

namespace Go.Proofs.Ytpebmmhokigglaa
open Go.RowKit

/-- What a string's bytes are as a new row. -/
theorem bytesWorld_reads (w : World) (e : TypeId) (d : List Nat) (hd : ∀ y ∈ d, y < 256) (hl : d.length ≤ maxLen) :
    Reads (Lib.bytesWorld w e (S8 d)) .u8 (.slice (some ⟨w.heap.size, 0, none⟩) (S8 d).size (grownCap w (S8 d).size 0 e)) d := by
  refine ⟨some ⟨w.heap.size, 0, none⟩, grownCap w (S8 d).size 0 e, ?_, ?_, ?_, ?_, .inr ⟨w.heap.size, 0, rfl, by rw [Lib.bytesWorld_size]; omega, fun i hi => ?_⟩⟩
  · rw [S8_size]
  · have := grownCap_ge w (S8 d).size 0 e
    rw [S8_size] at this ⊢
    exact this
  · exact grownCap_le_maxLen _ _ _ _ (by rw [S8_size]; exact hl)
  · intro h
    cases h
  rw [Nat.zero_add, Lib.bytesWorld_cell _ _ _ _ (by rw [S8_size]; exact hi), S8_list]
  have hy : d.getD i 0 < 256 := by
    rw [show d.getD i 0 = d[i] by simp [List.getD, hi]]
    exact hd _ (List.getElem_mem hi)
  have : (((d.map (fun n : Nat => (n : Int))).map (fun n : Int => UInt8.ofNat n.toNat)).getD i 0).toNat = d.getD i 0 := by
    simp [List.getD, hi] at hy ⊢
    omega
  rw [this]

/-- A literal of one byte. -/
theorem owns_one8 (w : World) (base : Nat) (e : TypeId) (n : Nat) (hb : base ≤ w.heap.size) : Owns (w.alloc (.cells #[.int .u8 (n : Int)] e)) base e .u8 (.slice (some ⟨w.heap.size, 0, none⟩) 1 1) [n] :=
  World.ownsRow_lit w #[.int .u8 (n : Int)] 1 hb (by simp [maxLen]) rfl

end Go.Proofs.Ytpebmmhokigglaa

namespace Go.Proofs.Ytpebmmhokigglaa
open Go.RowKit

section
variable {P : Program} {md : Region.Mode} {ops : Array Oper} {Q : Exit → Act → World → Prop} {S : World → Prop}

/-- The only operation that may come up now. -/
theorem held_one {i : Nat} {oi : Oper} {fuel : Nat} {listed : Array Bool} {a : Act} {w : World} (hr : Region.ready md ops listed = [i]) (hi : ops[i]? = some oi)
    (h : ∀ K : Act → World → Prop, (∀ a' w', S w' → wpAnyH P md ops Q S fuel (listed.setIfInBounds i true) a' w' → K a' w') →
      if Region.wanted oi (yielded ops a.tmps) = true then Oper.wp P oi a w K Q else K (a.put oi.dst undef) w) : wpAnyH P md ops Q S (fuel + 1) listed a w := by
  refine wpAnyH_all hr (by simp) fun j hj => ?_
  obtain rfl := List.mem_singleton.1 hj
  have := h (fun a' w' => S w' ∧ wpAnyH P md ops Q S fuel (listed.setIfInBounds j true) a' w') (fun a' w' h1 h2 => ⟨h1, h2⟩)
  unfold wpOp
  simp only [hi]
  split
  · rename_i hw
    rw [if_pos hw] at this
    exact .inl this
  · rename_i hw
    rw [if_neg hw] at this
    exact this

/-- Two operations may come up now. -/
theorem held_two {i j : Nat} {oi oj : Oper} {fuel : Nat} {listed : Array Bool} {a : Act} {w : World} (hr : Region.ready md ops listed = [i, j]) (hi : ops[i]? = some oi) (hj : ops[j]? = some oj)
    (h1 : ∀ K : Act → World → Prop, (∀ a' w', S w' → wpAnyH P md ops Q S fuel (listed.setIfInBounds i true) a' w' → K a' w') →
      if Region.wanted oi (yielded ops a.tmps) = true then Oper.wp P oi a w K Q else K (a.put oi.dst undef) w)
    (h2 : ∀ K : Act → World → Prop, (∀ a' w', S w' → wpAnyH P md ops Q S fuel (listed.setIfInBounds j true) a' w' → K a' w') →
      if Region.wanted oj (yielded ops a.tmps) = true then Oper.wp P oj a w K Q else K (a.put oj.dst undef) w) : wpAnyH P md ops Q S (fuel + 1) listed a w := by
  refine wpAnyH_all hr (by simp) fun k hk => ?_
  simp only [List.mem_cons, List.not_mem_nil, or_false] at hk
  rcases hk with rfl | rfl
  · have := h1 (fun a' w' => S w' ∧ wpAnyH P md ops Q S fuel (listed.setIfInBounds k true) a' w') (fun a' w' h1 h2 => ⟨h1, h2⟩)
    unfold wpOp
    simp only [hi]
    split
    · rename_i hw
      rw [if_pos hw] at this
      exact .inl this
    · rename_i hw
      rw [if_neg hw] at this
      exact this
  · have := h2 (fun a' w' => S w' ∧ wpAnyH P md ops Q S fuel (listed.setIfInBounds k true) a' w') (fun a' w' h1 h2 => ⟨h1, h2⟩)
    unfold wpOp
    simp only [hj]
    split
    · rename_i hw
      rw [if_pos hw] at this
      exact .inl this
    · rename_i hw
      rw [if_neg hw] at this
      exact this

theorem Owns.keep {w w' : World} {base : Nat} {e : TypeId} {k : IntKind} {v : Value} {l : List Nat} (h : Owns w base e k v l) (hb : Below w.heap.size w w') : Owns w' base e k v l := by
  unfold Owns World.ownsRow at *
  obtain ⟨hl, h | ⟨g, cap, cur, hv, hbg, hg, r⟩⟩ := h
  · exact ⟨hl, .inl h⟩
  · exact ⟨hl, .inr ⟨g, cap, cur, hv, hbg, (hb.block g (Array.getElem?_eq_some_iff.1 hg).1).trans hg, r⟩⟩

/-- An append of what reads, nil or not, at a step of a region that draws. -/
theorem step_app_reads {w : World} {o : Oper} {a : Act} {K : Act → World → Prop} {E : Prop} (hgd : o.guard = none) (s x : Operand) (t : TypeId)
    (ho : o.op = .call { callee := .builtin .append, args := #[s, x], argTypes := #[t, t] })
    (base : Nat) (e : TypeId) (z : Value) (bytes : Nat) (ht : P.underlying t = some (.slice e)) (hinfo : (P.info? e).map (fun i => (i.zero, i.size, i.bytes)) = some (some z, 1, bytes)) (hzs : z.cells.size = 1)
    (k : IntKind) (v : Value) (xs : List Nat) (hs : a.eval s = v) (hown : Owns w base e k v xs)
    (sv : Value) (l : List Nat) (hx : a.eval x = sv) (hr : Reads w k sv l)
    (hb0 : 0 < bytes) (hbytes : (xs.length + l.length) * bytes ≤ 140737488355328) (hbase : base ≤ w.heap.size)
    (h : ∀ v' w', Owns w' base e k v' (xs ++ l) → w.grownBy w' v.ownBlock → K (a.put o.dst v') w') : if Region.wanted o (yielded ops a.tmps) = true then Oper.wp P o a w K Q else E := by
  rw [if_pos (by simp only [Region.wanted, hgd])]
  obtain ⟨i, hi, hz, hsz, hby⟩ := info_parts hinfo
  have h63 : xs.length + l.length ≤ 140737488355328 := Nat.le_trans (Nat.le_mul_of_pos_right _ hb0) hbytes
  obtain ⟨ao, cap, rfl, h1, h2, h3, h4⟩ := hr
  cases ao with
  | none =>
    have hl : l = [] := by
      have := h3 rfl
      exact List.length_eq_zero_iff.1 (by omega)
    subst hl
    have hc := h3 rfl
    subst hc
    have hrun := run_append_owned_none (P := P) (w := w) base t o.type e i 1 ht hi v xs.length (vals k xs) hown
    have hK := h v w (by simpa using hown) (World.grownBy.refl _ _)
    have hx' : a.eval x = .slice none 0 0 := hx
    unfold Oper.wp
    simp [execOp, ho, resolve, invoke, builtin, hs, hx', hrun, Result.andThen]
    exact hK
  | some ad =>
    refine wp_append_own w s x t ho base e i z 1 bytes ht hi hz hsz hby hzs (by decide) v xs.length (vals k xs) hs hown ad l.length cap (vals k l) hx (by simp [vals_length]) ?_ (vals_oneCell k l) (by simp only [maxLen]; omega) hbytes hbase ?_
    · intro j u hu
      have hj : j < l.length := by
        have := (List.getElem?_eq_some_iff.1 hu).1
        simpa [vals_length] using this
      rcases h4 with rfl | ⟨b, off, ha, _, hc⟩
      · simp at hj
      · obtain rfl := Option.some.inj ha
        rw [vals_get k l j hj] at hu
        rw [Addr.add_lit, hc j hj]
        exact hu
    · intro v' w' hown' hg _
      exact h v' w' (by unfold Owns; simpa [vals_append] using hown') hg

/-- What a load of a whole row yields. -/
theorem load_yields {o : Oper} {a : Act} {w : World} (ty : TypeId) (x : Operand) (ho : o.op = .load ty x)
    (g : Nat) (hx : a.eval x = .pointer (some ⟨g, 0, none⟩)) (t : TypeId) (cs : Array Value) (fr : Nat × Nat) (d : TypeDesc) (hg : w.heap[g]? = some (.cells cs t fr))
    (hu : P.underlying ty = some d) (hd : (match d with | .struct _ | .array _ _ => true | _ => false) = true) (hi : (P.info? ty).map (·.size) = some cs.size) :
    (execOp a.eval o).run P w = .ok (.value (.agg cs)) w := by
  unfold execOp
  simp only [ho, hx, Instr.loadAt, Instr.sureAddr, Sem.run_bind, Sem.run_pure, Result.andThen_ok, run_loadVar_row w g t ty cs fr d hg hu hd hi]
end

end Go.Proofs.Ytpebmmhokigglaa

namespace Go.Proofs.Ytpebmmhokigglaa
open Go.RowKit

end Go.Proofs.Ytpebmmhokigglaa

namespace Go.Proofs.Ytpebmmhokigglaa
open Go.RowKit
set_option linter.unusedVariables false

/-- r is the number of n's bits. -/
def BL (n r : Nat) : Prop := n < 2 ^ r ∧ (r = 0 ∨ 2 ^ (r - 1) ≤ n)

/-- A table of the numbers of bits of 0 to 255. -/
def okTab (bs : ByteArray) : Bool := (List.range 256).all fun i => decide ((bs.data.getD i 0).toNat ≤ 8) && decide (i < 2 ^ (bs.data.getD i 0).toNat) && (decide ((bs.data.getD i 0).toNat = 0) || decide (2 ^ ((bs.data.getD i 0).toNat - 1) ≤ i))

theorem tab_at (bs : ByteArray) (hok : okTab bs = true) (j : Nat) (h : j < bs.size) (h256 : j < 256) : (bs[j]'h).toNat ≤ 8 ∧ BL j (bs[j]'h).toNat := by
  have := List.all_eq_true.1 hok j (List.mem_range.2 h256)
  have e : bs.data.getD j 0 = bs[j]'h := by
    simp only [Array.getD]
    rw [dif_pos (show j < bs.data.size from h)]
    rfl
  rw [e] at this
  simp only [Bool.and_eq_true, Bool.or_eq_true, decide_eq_true_eq] at this
  exact ⟨this.1.1, this.1.2, this.2⟩

theorem BL.up {n s j t : Nat} (h : BL j t) (h1 : 2 ^ s * j ≤ n) (h2 : n < 2 ^ s * (j + 1)) (h0 : s = 0 ∨ 1 ≤ j) : BL n (s + t) := by
  obtain ⟨a, b⟩ := h
  rcases h0 with rfl | h0
  · simp only [Nat.pow_zero, Nat.one_mul, Nat.zero_add] at *
    obtain rfl : n = j := by omega
    exact ⟨a, b⟩
  · have ht : t ≠ 0 := by rintro rfl; simp at a; omega
    refine ⟨?_, .inr ?_⟩
    · rw [Nat.pow_add]
      exact Nat.lt_of_lt_of_le h2 (Nat.mul_le_mul_left _ (by omega))
    · rcases b with b | b
      · exact absurd b ht
      · rw [show s + t - 1 = s + (t - 1) from by omega, Nat.pow_add]
        exact Nat.le_trans (Nat.mul_le_mul_left _ b) h1

/-- What Len64 hands back. -/
def LenPost (n : Nat) (w : World) (e : Ending) (w' : World) : Prop := ∃ r : Nat, e = .returned (.int .i64 (r : Int)) ∧ BL n r ∧ r ≤ 64 ∧ w = w'

theorem len_fin {n : Nat} {w : World} (s j : Nat) (S : Int) (bs : ByteArray) (h : j < bs.size) (hok : okTab bs = true) (hS : S = (s : Int)) (hs : s ≤ 56) (h256 : j < 256) (h1 : 2 ^ s * j ≤ n) (h2 : n < 2 ^ s * (j + 1)) (h0 : s = 0 ∨ 1 ≤ j) :
    LenPost n w (.returned (.int .i64 (wrap64 (S + wrap64 ((bs[j]'h).toNat : Int))))) w := by
  obtain ⟨t1, t2⟩ := tab_at bs hok j h h256
  subst hS
  refine ⟨s + (bs[j]'h).toNat, ?_, t2.up h1 h2 h0, by omega, rfl⟩
  rw [IntWalk.wrap64_in ((bs[j]'h).toNat : Int) (by omega), IntWalk.wrap64_in _ (by omega)]
  simp

theorem len_fin0 {n : Nat} {w : World} (bs : ByteArray) (h : n < bs.size) (hok : okTab bs = true) (h256 : n < 256) :
    LenPost n w (.returned (.int .i64 (wrap64 (wrap64 ((bs[n]'h).toNat : Int))))) w := by
  obtain ⟨t1, t2⟩ := tab_at bs hok n h h256
  refine ⟨(bs[n]'h).toNat, ?_, t2, by omega, rfl⟩
  rw [IntWalk.wrap64_in ((bs[n]'h).toNat : Int) (by omega), IntWalk.wrap64_in _ (by omega)]

theorem enc_bits (n r : Nat) (h : BL n r) (hr : r ≤ 64) : (enc n).length = max 1 ((r + 6) / 7) := by
  obtain ⟨h1, h2⟩ := h
  have key : ∀ k, ∀ n, 128 ^ k ≤ n → n < 128 ^ (k + 1) → (enc n).length = k + 1 := by
    intro k
    induction k with
    | zero => intro n _ hb; rw [enc_small (by simpa using hb)]; rfl
    | succ k ih =>
      intro n ha hb
      have hp : 0 < 128 ^ k := Nat.pow_pos (by decide)
      rw [Nat.pow_succ] at ha hb
      rw [Nat.pow_succ] at hb
      rw [enc_big (by omega), List.length_cons, ih (n / 128) (by omega) (by rw [Nat.pow_succ]; omega)]
  by_cases h0 : r = 0
  · subst h0
    obtain rfl : n = 0 := by simpa using h1
    rw [enc_small (by decide)]; rfl
  · have h3 : 2 ^ (r - 1) ≤ n := by rcases h2 with h2 | h2; exact absurd h2 h0; exact h2
    have e : (r + 6) / 7 = (r - 1) / 7 + 1 := by omega
    rw [e, key ((r - 1) / 7) n]
    · omega
    · rw [← pow7]
      exact Nat.le_trans (Nat.pow_le_pow_right (by decide) (by omega)) h3
    · rw [← pow7]
      exact Nat.lt_of_lt_of_le h1 (Nat.pow_le_pow_right (by decide) (by omega))

end Go.Proofs.Ytpebmmhokigglaa

namespace Go.Proofs.Ytpebmmhokigglaa
open Go.RowKit

/-- What the program's Take answers. -/
def FTook (b : List Nat) (w : World) (e : Ending) (w' : World) : Prop :=
  ∃ (v' : Value) (t : List Nat) (s c : Nat), e = .returned (.tuple #[v', .int .i64 (s : Int), errV c]) ∧ FT b t s c ∧ At w' (Own w' w.heap.size 5) .u8 v' t ∧ Below w.heap.size w w'

set_option maxHeartbeats 400000 in
set_option maxRecDepth 100000 in
theorem frameTake_any (v : Value) (b : List Nat) (w : World) (hr : Reads w .u8 v b) (hb : ∀ y ∈ b, y < 256) (hx : b.length ≤ 90000000000000) :
    Calls Try.prog 37 #[v] w (FTook b w) := by
  go_enter Try.func37, Try.ntmps37
  go_wp2_with fail
  refine (newC_any w).mono ?_
  rintro e w1 ⟨p, rfl, hp, hm1, hb1⟩
  have HB1 := Lib.hid hb1
  have HP := Lib.hid hp
  have hr1 := hr.new hb1
  clear hb1 hp
  go_wp2_with fail
  refine (frTake_any p 0 _ b w1 hm1 (by decide) hr1 hb hx).mono ?_
  rintro e w2 ⟨v2, t, s, c, rfl, hft, hat, _, hg2⟩
  go_wp2
  go_ret3
  exact ⟨v2, t, s, c, rfl, hft, hat.mono fun j _ hB => ⟨Nat.le_trans HB1.out.size hB.1, hB.2⟩, HB1.out.grown hg2 HB1.out.size (fun j hj => by cases hj; exact HP.out)⟩

/-- What the program's One answers: the text, the error's number. -/
def FO (b t : List Nat) (c : Nat) : Prop := ∃ t1 s1 c1, FT b t1 s1 c1 ∧ if c1 ≠ 0 then t = [] ∧ c = c1 else if s1 < b.length then t = [] ∧ c = 2 else t = t1 ∧ c = 0

set_option maxHeartbeats 400000 in
set_option maxRecDepth 100000 in
theorem frameOne_any (v : Value) (b : List Nat) (w : World) (hr : Reads w .u8 v b) (hb : ∀ y ∈ b, y < 256) (hx : b.length ≤ 90000000000000) :
    Calls Try.prog 16 #[v] w fun e w' => ∃ (v' : Value) (t : List Nat) (c : Nat), e = .returned (.tuple #[v', errV c]) ∧ FO b t c ∧ At w' (Own w' w.heap.size 5) .u8 v' t ∧ Below w.heap.size w w' := by
  obtain ⟨ao, cap, rfl, h1, h2, h3⟩ := hr.val
  go_enter Try.func16, Try.ntmps16
  go_wp2_with fail
  refine (frameTake_any _ b w hr hb hx).mono ?_
  rintro e w1 ⟨v1, t, s, c, rfl, hft, hat, hb1⟩
  have HA := Lib.hid hat
  have HB := Lib.hid hb1
  have HF := Lib.hid hft
  clear hat hb1
  by_cases hc : c = 0
  · subst hc
    clear hft
    rw [errV_zero]
    by_cases hl : (s : Int) < (b.length : Int)
    · go_wp2
      go_ret2
      exact ⟨_, [], 2, rfl, ⟨t, s, 0, HF.out, by rw [if_neg (by simp), if_pos (by omega)]; exact ⟨rfl, rfl⟩⟩, (owns_nil w1 w.heap.size 5 .u8).at', HB.out⟩
    · go_wp2
      go_ret2
      exact ⟨_, t, 0, rfl, ⟨t, s, 0, HF.out, by rw [if_neg (by simp), if_neg (by omega)]; exact ⟨rfl, rfl⟩⟩, HA.out, HB.out⟩
  · obtain ⟨rfl, rfl⟩ := hft.bad hc
    have he := errV_pos hc
    clear hft
    rw [he]
    go_wp2
    go_ret2
    exact ⟨_, [], c, by rw [he]; rfl, ⟨[], 0, c, HF.out, by rw [if_pos hc]; exact ⟨rfl, rfl⟩⟩, (owns_nil w1 w.heap.size 5 .u8).at', HB.out⟩

end Go.Proofs.Ytpebmmhokigglaa
