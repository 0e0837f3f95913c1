/- The program's iterator over a text's parts, and what is padded behind them. -/
import Derived.Test.YtjhipfgmiilmdaaDoorShaU
import Derived.Test.YtjhipfgmiilmdaaDoorPartA
import Derived.Lib.Hide
import Derived.Outline
namespace Go.Proofs.YtjhipfgmiilmdaaDoor
open Go.RowKit Go.Shelf

attribute [local go_sem] Oper.semAt_some

theorem flat_snoc {ls : List (List Nat)} {k : Nat} (h : k < ls.length) : (ls.take (k + 1)).flatten = (ls.take k).flatten ++ ls.getD k [] := by
  rw [List.take_succ_eq_append_getElem h, List.flatten_append, List.getD_eq_getElem?_getD, List.getElem?_eq_getElem h]
  simp
theorem take_snoc' {α : Type} {ls : List α} {k : Nat} (d : α) (h : k < ls.length) : ls.take (k + 1) = ls.take k ++ [ls.getD k d] := by
  rw [List.take_succ_eq_append_getElem h, List.getD_eq_getElem?_getD, List.getElem?_eq_getElem h]
  rfl
theorem flat_le {ls : List (List Nat)} (k : Nat) : (ls.take k).flatten.length ≤ ls.flatten.length := by
  have h : ls.flatten = (ls.take k).flatten ++ (ls.drop k).flatten := by rw [← List.flatten_append, List.take_append_drop]
  rw [h, List.length_append]
  omega

/-- What a round is told of its piece. -/
def PieceOk (B C : Nat) (x : Value × List Nat) (w : World) : Prop := Reads w .u8 x.1 x.2 ∧ (∀ y ∈ x.2, y < 256) ∧ x.2.length ≤ 1000000 ∧ (x.2 ≠ [] → ∃ b off n cap, x.1 = .slice (some ⟨b, off, none⟩) n cap ∧ (b < B ∨ C ≤ b))

theorem reads_where {w : World} {k : IntKind} {v : Value} {l : List Nat} (h : Reads w k v l) (hl : l ≠ []) : ∃ b off n cap, v = .slice (some ⟨b, off, none⟩) n cap ∧ b < w.heap.size := by
  obtain ⟨ao, cap, hv, _, _, _, h4⟩ := h
  rcases h4 with h4 | ⟨b, off, rfl, hb, _⟩
  · exact absurd h4 hl
  · exact ⟨b, off, _, cap, hv, hb⟩
theorem owns_where {w : World} {base : Nat} {e : TypeId} {k : IntKind} {v : Value} {l : List Nat} (h : Owns w base e k v l) (hl : l ≠ []) : ∃ b off n cap, v = .slice (some ⟨b, off, none⟩) n cap ∧ base ≤ b := by
  rcases h.2 with ⟨_, h2⟩ | ⟨g, cap, cur, h1, h2, _⟩
  · exact absurd (List.length_eq_zero_iff.1 h2) hl
  · exact ⟨g, 0, _, cap, h1, h2⟩

theorem padOf_byte (n : Nat) : ∀ y ∈ padOf n, y < 256 := by
  intro y hy
  simp only [padOf, List.mem_append, List.mem_cons, List.mem_replicate, eight, List.not_mem_nil, or_false] at hy
  rcases hy with (rfl | ⟨_, rfl⟩) | hy
  · decide
  · decide
  · rcases hy with rfl | rfl | rfl | rfl | rfl | rfl | rfl | rfl <;> exact Nat.mod_lt _ (by decide)
theorem padOf_len (n : Nat) : (padOf n).length ≤ 80 := by
  have : noughts (n + 1) < 64 := Nat.mod_lt _ (by decide)
  simp [padOf, eight]
  omega

set_option maxHeartbeats 2000000 in
set_option maxRecDepth 100000 in
theorem padded1_any (l bx : Nat) (w0 W : World) (v : Value) (ps : List (List Nat)) (hP : Pieces w0 v ps) (hx : ps.flatten.length ≤ 100000) (hpb : ∀ p ∈ ps, ∀ y ∈ p, y < 256) (hpl : ps.length ≤ 1000000)
    (M : Nat → Prop) (hM : ∀ k, M k ∨ k = l → w0.heap.size ≤ k ∧ k ≠ bx) (J : List (Value × List Nat) → World → Prop)
    (hJ : ∀ s A B, J s A → Stay (fun k => k < W.heap.size) A B → J s B) (hJz : ∀ s A, J s A → W.heap.size ≤ A.heap.size)
    (hst : Stay (fun k => k < w0.heap.size) w0 W) (hc : W.cell? ⟨bx, 0, none⟩ = some v)
    (hY : ∀ pre x W1, J pre W1 → PieceOk w0.heap.size W.heap.size x W1 → Yields Tryd.prog l #[x.1] W1 fun e W' => e = .returned (.bool true) ∧ J (pre ++ [x]) W' ∧ Stay (fun k => ¬ M k ∧ k ≠ l) W1 W')
    (h0 : J [] W) :
    Calls Tryd.prog 34 #[.func (.yield l) #[] #[], .pointer (some ⟨bx, 0, none⟩)] W fun e W' => (∃ v, e = .returned v) ∧ ∃ xs, xs.map (·.2) = ps ++ [padOf ps.flatten.length] ∧ J xs W' := by
  obtain ⟨ao, cap, rfl, hcap, hcm⟩ := hP.val
  have hcm' : ps.length ≤ 140737488355328 := by omega
  refine (callsIn_wide (n := 9)).1 ?_
  refine callsIn_of_wp Tryd.func34 rfl trivial ?_ rfl
  simp only [Tryd.ntmps34, List.size_toArray, List.length_cons, List.length_nil, Nat.reduceAdd, Nat.reduceSub, Array.replicate_succ, Array.replicate_zero, List.push_toArray, List.append_toArray, List.nil_append, List.cons_append]
  gi_wp2
  gi_loopw [3, 8] (fun sv iv wr => ∃ i : Nat, i ≤ ps.length ∧ iv = .int .i64 (i : Int) ∧ sv = .int .u64 (((ps.take i).flatten.length : Nat) : Int) ∧ (∃ xs, xs.map (·.2) = ps.take i ∧ J xs wr) ∧ Stay (fun k => k < w0.heap.size) w0 wr)
    (fun _ iv _ => ps.length - (intOf iv).toNat)
  case atStart => exact ⟨0, Nat.zero_le _, rfl, by simp, ⟨[], rfl, h0⟩, hst⟩
  case round =>
    obtain ⟨i, hi, rfl, rfl, ⟨xs, hxs, hj⟩, hs⟩ := hrel
    by_cases hlt : i < ps.length
    · have hlti : (i : Int) < ps.length := by omega
      obtain ⟨b, off, x, rfl, hb, hcx, hrx⟩ := hP.at hlt
      have hcell : wr.cell? ⟨b, off + i, none⟩ = some x := (hs.cell (p := ⟨b, off + i, none⟩) hb hb).trans hcx
      have hrd : Reads wr .u8 x (ps.getD i []) := hrx.stay hs (fun j hj => hj)
      have hmem : ps.getD i [] ∈ ps := by rw [List.getD_eq_getElem?_getD, List.getElem?_eq_getElem hlt]; exact List.getElem_mem hlt
      have hfl := flat_le (ls := ps) (i + 1)
      have hsn := flat_snoc hlt
      rw [hsn, List.length_append] at hfl
      have hok : PieceOk w0.heap.size W.heap.size (x, ps.getD i []) wr := ⟨hrd, hpb _ hmem, (by show (ps.getD i []).length ≤ 1000000; omega), fun hne => by obtain ⟨b, off, n, cap, h1, h2⟩ := reads_where hrx hne; exact ⟨b, off, n, cap, h1, .inl h2⟩⟩
      obtain ⟨fn, tmps, assign, body, hy, hR⟩ := hY xs _ wr hj hok 8
      obtain ⟨axo, cx, rfl, _, _, _⟩ := hrd.val
      dsimp only at hy
      have HS := Lib.hid hs
      have HXS := Lib.hid hxs
      have HSN := Lib.hid hsn
      have HTK := Lib.hid (take_snoc' [] hlt)
      generalize ps.getD i [] = q at *
      clear hs hxs hsn hok hrd hrx hcx
      have hq1 : (((ps.take i).flatten.length : Nat) : Int) + (q.length : Int) ≤ 100000 := by omega
      generalize hL : (ps.take i).flatten.length = L at hfl hq1 HSN
      have HL := Lib.hid hL
      clear hL
      gi_wp2
      refine hR.mono ?_
      rintro e W3 ⟨rfl, hJ3, hk3⟩
      have HJ3 := Lib.hid hJ3
      have HK3 := Lib.hid hk3
      clear hJ3 hk3 hR hy
      gi_wp2
      go_roundw
      case rel =>
        refine ⟨i + 1, by omega, by go_num, ?_, ⟨xs ++ [_], ?_, HJ3.out⟩, ?_⟩
        · rw [HSN.out, List.length_append, HL.out, Int.natCast_add]
        · rw [List.map_append, HXS.out, HTK.out]; rfl
        · exact HS.out.trans (HK3.out.mono fun k hk hlt2 => ⟨fun h => by have := (hM k (.inl h)).1; omega, fun h => by have := (hM k (.inr h)).1; omega⟩)
      case measure => simp [intOf]; omega
    · obtain rfl : i = ps.length := by omega
      rw [List.take_length] at hxs
      rw [List.take_length]
      have HXS := Lib.hid hxs
      generalize hF : ps.flatten.length = F at hx
      clear hxs hlt hs
      have hx1 : F ≤ 1000000 := by omega
      gi_wp2_with (refine ⟨trivial, ?_⟩; gi_at_call 35; (with_reducible refine (callsIn_wide.2 (padding_any F wr hx1)).mono ?_); rintro e w' ⟨vp, rfl, hop, hbp⟩)
      have hj2 : J xs w' := hJ _ _ _ hj ((Stay.of_below hbp).mono fun k _ hk => Nat.lt_of_lt_of_le hk (hJz _ _ hj))
      have hok : PieceOk w0.heap.size W.heap.size (vp, padOf F) w' := ⟨hop.reads, padOf_byte F, (by have := padOf_len F; show (padOf F).length ≤ 1000000; omega), fun hne => by obtain ⟨b, off, n, cap, h1, h2⟩ := owns_where hop hne; exact ⟨b, off, n, cap, h1, .inr (Nat.le_trans (hJz _ _ hj) h2)⟩⟩
      obtain ⟨fn, tmps, assign, body, hy, hR⟩ := hY xs _ w' hj2 hok 8
      dsimp only at hy
      have HF := Lib.hid hF
      clear hF hok hj2 hop hbp hj
      rw [hy]
      gi_wp2
      refine hR.mono ?_
      rintro e W3 ⟨rfl, hJ3, hk3⟩
      have HJ3 := Lib.hid hJ3
      clear hJ3 hk3 hR hy
      gi_wp2
      go_end0
      exact ⟨⟨_, rfl⟩, xs ++ [_], by rw [List.map_append, HXS.out, HF.out]; rfl, HJ3.out⟩

end Go.Proofs.YtjhipfgmiilmdaaDoor
