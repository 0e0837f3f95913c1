/- Whole rows loaded, and copied into, within a round. · A region that draws its order, within a round: what is shown of it outside of rounds holds in one, too. · The program's iterator over a text's parts, and what is padded behind them. · The program's iterator over a text's blocks. · The program's digest of parts. -/
import Derived.Test.YtgnalcobcdgnkaaGreatDoorQc
import Derived.Laws.CopyOwn
import Derived.Laws.Rows
import Derived.StillTailTactics
import Derived.Test.YtgnalcobcdgnkaaGreatDoorQq
import Derived.Lib.Hide
import Derived.Outline
import Derived.Test.YtgnalcobcdgnkaaGreatDoorQp
namespace Go.Proofs.YtgnalcobcdgnkaaGreatDoor
open Go.RowKit

variable {F : Fence} {n : Nat} {P : Program} {ops : Array Oper} {rest : List Oper} {o : Oper} {a : Act} {w w' : World} {Q : Exit → Act → World → Prop}

/-- An operation that yields a value, within a round as anywhere. -/
theorem wpListIn_op (v : Value) (hg : o.guard = none) (hd : ∀ c, o.op ≠ .defer c) (hab : o.about P w a.eval = none) (hrun : (execOp a.eval o).run P w = .ok (.value v) w') (h : wpListIn F n P ops Q rest (a.put o.dst v) w') : wpListIn F n P ops Q (o :: rest) a w := by
  refine wpListIn_plain hg fun K hK => ?_
  unfold Oper.wpIn
  refine ⟨(by rw [hab]; intro f h; cases h), ?_⟩
  rw [Oper.semAt_plain F _ _ hd, hrun]
  exact hK _ _ h

theorem wpListIn_load_row (hgd : o.guard = none) (ty : TypeId) (x : Operand) (ho : o.op = .load ty x)
    (g : Nat) (hx : a.eval x = .pointer (some ⟨g, 0, none⟩)) (t : TypeId) (cs : Array Value) (fr : Nat × Nat) (d : TypeDesc) (hg : w.heap[g]? = some (.cells cs t fr))
    (hu : P.underlying ty = some d) (hd : (match d with | .struct _ | .array _ _ => true | _ => false) = true) (hi : (P.info? ty).map (·.size) = some cs.size)
    (h : wpListIn F n P ops Q rest (a.put o.dst (.agg cs)) w) : wpListIn F n P ops Q (o :: rest) a w := by
  refine wpListIn_op (.agg cs) hgd (by rw [ho]; intro c hc; cases hc) (by simp [Oper.about, ho]) ?_ h
  unfold execOp
  simp only [ho, hx, Instr.loadAt, Instr.sureAddr, Sem.run_bind, Sem.run_pure, Result.andThen_ok, run_loadVar_row w g t ty cs fr d hg hu hd hi]

theorem wpListIn_copy_own (hgd : o.guard = none) (d s : Operand) (dT sT : TypeId)
    (ho : o.op = .call { callee := .builtin .copy, args := #[d, s], argTypes := #[dT, sT] }) (elem : TypeId) (hu : P.underlying dT = some (.slice elem)) (hsz : (P.info? elem).map (·.size) = some 1)
    (g off dLen dCap : Nat) (ad : Addr) (sLen sCap : Nat) (hd : a.eval d = .slice (some ⟨g, off, none⟩) dLen dCap) (hs : a.eval s = .slice (some ad) sLen sCap)
    (cur : Array Value) (t : TypeId) (hg : w.heap[g]? = some (.cells cur t (0, 0))) (cs : List Value) (hn : cs.length = Nat.min sLen dLen)
    (hsrc : ∀ j v, cs[j]? = some v → w.cell? (ad.add j) = some v) (hfit : off + cs.length ≤ cur.size) (h1 : ∀ v ∈ cs, v.oneCell' = true)
    (h : wpListIn F n P ops Q rest (a.put o.dst (goInt cs.length)) (w.setRow g (cur.toList.take off ++ cs ++ cur.toList.drop (off + cs.length)).toArray)) : wpListIn F n P ops Q (o :: rest) a w := by
  have hrun := run_copy_row (P := P) w dT sT o.type elem g off dLen dCap ad sLen sCap cur t cs hu hsz hg hn hsrc hfit h1
  refine wpListIn_op _ hgd (by rw [ho]; intro c hc; cases hc) ?_ ?_ h
  · simp [Oper.about, ho, resolve, Target.leads, Sem.run_pure]
  · simp [execOp, ho, resolve, invoke, builtin, hd, hs, hrun, Result.andThen]

theorem wpListIn_store_row (hgd : o.guard = none) (ty : TypeId) (x y : Operand) (ho : o.op = .store ty x y)
    (g : Nat) (cells : Array Value) (hx : a.eval x = .pointer (some ⟨g, 0, none⟩)) (hy : a.eval y = .agg cells)
    (t : TypeId) (old : Array Value) (hg : w.heap[g]? = some (.cells old t (0, 0))) (hi : (P.info? ty).map (·.size) = some cells.size)
    (hold : old.size = cells.size) (h1 : cells.all (·.oneCell') = true)
    (h : wpListIn F n P ops Q rest (a.put o.dst undef) (w.setRow g cells)) : wpListIn F n P ops Q (o :: rest) a w := by
  refine wpListIn_plain hgd fun K hK => ?_
  unfold Oper.wpIn
  refine ⟨(by simp [Oper.about, ho]), ?_⟩
  rw [Oper.semAt_plain F _ _ (by rw [ho]; intro c hc; cases hc)]
  unfold execOp
  simp only [ho, hx, hy, Instr.storeAt, Instr.sureAddr, Sem.run_bind, Sem.run_pure, Result.andThen_ok, run_storeVar_row w g t ty old cells hg hi hold h1]
  exact hK _ _ h

/-! One operation of a region that draws its order. -/
variable {K : Act → World → Prop} {E : Prop}
theorem opIn_load_row (hgd : o.guard = none) (ty : TypeId) (x : Operand) (ho : o.op = .load ty x)
    (g : Nat) (hx : a.eval x = .pointer (some ⟨g, 0, none⟩)) (t : TypeId) (cs : Array Value) (fr : Nat × Nat) (d : TypeDesc) (hg : w.heap[g]? = some (.cells cs t fr))
    (hu : P.underlying ty = some d) (hd : (match d with | .struct _ | .array _ _ => true | _ => false) = true) (hi : (P.info? ty).map (·.size) = some cs.size)
    (h : K (a.put o.dst (.agg cs)) w) : if Region.wanted o (yielded ops a.tmps) = true then Oper.wpIn F n P o a w K Q else E := by
  simp only [Region.wanted, hgd, if_true]
  unfold Oper.wpIn
  refine ⟨(by simp [Oper.about, ho]), ?_⟩
  rw [Oper.semAt_plain F _ _ (by rw [ho]; intro c hc; cases hc)]
  unfold execOp
  simp only [ho, hx, Instr.loadAt, Instr.sureAddr, Sem.run_bind, Sem.run_pure, Result.andThen_ok, run_loadVar_row w g t ty cs fr d hg hu hd hi]
  exact h
theorem opIn_store_row (hgd : o.guard = none) (ty : TypeId) (x y : Operand) (ho : o.op = .store ty x y)
    (g : Nat) (cells : Array Value) (hx : a.eval x = .pointer (some ⟨g, 0, none⟩)) (hy : a.eval y = .agg cells)
    (t : TypeId) (old : Array Value) (hg : w.heap[g]? = some (.cells old t (0, 0))) (hi : (P.info? ty).map (·.size) = some cells.size)
    (hold : old.size = cells.size) (h1 : cells.all (·.oneCell') = true)
    (h : K (a.put o.dst undef) (w.setRow g cells)) : if Region.wanted o (yielded ops a.tmps) = true then Oper.wpIn F n P o a w K Q else E := by
  simp only [Region.wanted, hgd, if_true]
  unfold Oper.wpIn
  refine ⟨(by simp [Oper.about, ho]), ?_⟩
  rw [Oper.semAt_plain F _ _ (by rw [ho]; intro c hc; cases hc)]
  unfold execOp
  simp only [ho, hx, hy, Instr.storeAt, Instr.sureAddr, Sem.run_bind, Sem.run_pure, Result.andThen_ok, run_storeVar_row w g t ty old cells hg hi hold h1]
  exact h
theorem map1 (f : Operand → Value) (x : Operand) (v : Value) (h : f x = v) : (#[x] : Array Operand).map f = #[v] := by simp [h]
theorem map2 (f : Operand → Value) (x y : Operand) (u v : Value) (h : f x = u) (k : f y = v) : (#[x, y] : Array Operand).map f = #[u, v] := by simp [h, k]
theorem opIn_call {l k : Nat} {args : Array Operand} {ts : Array TypeId} (hgd : o.guard = none) (ho : o.op = .call { callee := .value (.func k), args := args, argTypes := ts })
    (eg : ∀ args w, (callFunc k args).run P w = .ok (.enter k args) w) {R : Ending → World → Prop} {vs : Array Value} (hvs : args.map a.eval = vs) (hc : Calls P k vs w R)
    (h : ∀ e w', R e w' → ∃ v, e = .returned v ∧ K (a.put o.dst v) w') : if Region.wanted o (yielded ops a.tmps) = true then Oper.wpIn (Fence.wide.inRound l) n P o a w K Q else E := by
  subst hvs
  simp only [Region.wanted, hgd, if_true]
  unfold Oper.wpIn
  refine ⟨fun f _ => trivial, ?_⟩
  rw [Oper.semAt_plain _ _ _ (by rw [ho]; intro c hc; cases hc)]
  have hr : (execOp a.eval o).run P w = .ok (.enter k (args.map a.eval)) w := by
    unfold execOp
    simp [ho, resolve, invoke, Act.eval, go_sem, eg]
  rw [hr]
  refine ⟨fun h => by simp [Fence.wide, Fence.inRound] at h, CallsIn.inRound l ((callsIn_wide.2 hc).mono ?_)⟩
  intro e w' hR
  obtain ⟨v, rfl, hK⟩ := h e w' hR
  exact hK

end Go.Proofs.YtgnalcobcdgnkaaGreatDoor

namespace Go.Proofs.YtgnalcobcdgnkaaGreatDoor
open Go.RowKit

variable {P : Program} {ops : Array Oper} {md : Region.Mode} {Q : Exit → Act → World → Prop} {l m : Nat}

/-- An operation that defers nothing does within a round what it does elsewhere. -/
theorem wpIn_of_wp {o : Oper} {a : Act} {w : World} {next next' : Act → World → Prop} (hd : ∀ c, o.op ≠ .defer c) (hn : ∀ a w, next a w → next' a w) (h : o.wp P a w next Q) : o.wpIn (Fence.wide.inRound l) m P a w next' Q := by
  unfold Oper.wpIn
  refine ⟨fun f _ => trivial, ?_⟩
  rw [Oper.semAt_plain _ _ _ hd]
  unfold Oper.wp at h
  have hz : (Fence.wide.inRound l).depth.isSome = true → 1 ≤ m := fun h => by simp [Fence.wide, Fence.inRound] at h
  generalize (execOp a.eval o).run P w = r at h
  match r, h with
  | .ok (.value v) w', h => exact hn _ _ h
  | .ok .skip w', h => exact hn _ _ h
  | .ok (.defer d) w', h => exact hn _ _ h
  | .ok (.enter f args) w', h =>
    refine ⟨hz, CallsIn.inRound l ((callsIn_wide.2 h).mono ?_)⟩
    intro e w2 he
    cases e with
    | returned v => exact hn _ _ he
    | panicked c => exact he
    | outgrown => exact he
  | .ok (.row row args) w', h =>
    refine ⟨hz, fun c cs _ => ?_⟩
    obtain ⟨v, w2, r, s⟩ := h c cs
    exact ⟨v, w2, hn _ _ r, stepsIn_wide.2 s⟩
  | .ok (.round ..) w', h => exact h.elim
  | .halt (.panic v) w', h => exact h

theorem wpAnyIn_of (hdf : ∀ (i : Nat) (o : Oper), ops[i]? = some o → ∀ c, o.op ≠ .defer c) (hlo : ¬ LetsOut Q) : ∀ (fuel : Nat) (listed : Array Bool) (a : Act) (w : World), wpAny P md ops Q fuel listed a w → wpAnyIn (Fence.wide.inRound l) m P md ops Q fuel listed a w
  | 0, _, _, _, h => h
  | fuel + 1, listed, a, w, h => by
    refine ⟨h.1, fun i hi => ?_⟩
    have h1 := h.2 i hi
    unfold wpOp at h1
    unfold wpOpIn
    cases ho : ops[i]? with
    | none =>
      rw [ho] at h1
      exact wpAnyIn_of hdf hlo fuel _ _ _ h1
    | some o =>
      rw [ho] at h1
      simp only at h1 ⊢
      by_cases hw : Region.wanted o (yielded ops a.tmps) = true
      · rw [if_pos hw] at h1 ⊢
        rcases h1 with h1 | h1
        · exact wpIn_of_wp (hdf i o ho) (fun a w h => wpAnyIn_of hdf hlo fuel _ _ _ h) h1
        · exact absurd h1.2 hlo
      · rw [if_neg hw] at h1 ⊢
        exact ⟨fun f _ => trivial, wpAnyIn_of hdf hlo fuel _ _ _ h1⟩

/-- No operation of a region defers. -/
def deferless (l : List Oper) : Bool := l.all fun o => match o.op with | .defer _ => false | _ => true
theorem deferless_spec {l : List Oper} (h : deferless l = true) : ∀ (i : Nat) (o : Oper), l.toArray[i]? = some o → ∀ c, o.op ≠ .defer c := by
  intro i o ho c hc
  have hm : o ∈ l := by
    rw [List.getElem?_toArray] at ho
    exact List.mem_of_getElem? ho
  have := List.all_eq_true.1 h o hm
  rw [hc] at this
  cases this

end Go.Proofs.YtgnalcobcdgnkaaGreatDoor

namespace Go.Proofs.YtgnalcobcdgnkaaGreatDoor
open Go.RowKit Go.Shelf

attribute [local go_sem] Oper.semAt_some

theorem flat_snoc {ls : List (List Nat)} {k : Nat} (h : k < ls.length) : (ls.take (k + 1)).flatten = (ls.take k).flatten ++ ls.getD k [] := by
  rw [List.take_succ_eq_append_getElem h, List.flatten_append, List.getD_eq_getElem?_getD, List.getElem?_eq_getElem h]
  simp
theorem take_snoc' {α : Type} {ls : List α} {k : Nat} (d : α) (h : k < ls.length) : ls.take (k + 1) = ls.take k ++ [ls.getD k d] := by
  rw [List.take_succ_eq_append_getElem h, List.getD_eq_getElem?_getD, List.getElem?_eq_getElem h]
  rfl
theorem flat_le {ls : List (List Nat)} (k : Nat) : (ls.take k).flatten.length ≤ ls.flatten.length := by
  have h : ls.flatten = (ls.take k).flatten ++ (ls.drop k).flatten := by rw [← List.flatten_append, List.take_append_drop]
  rw [h, List.length_append]
  omega

/-- What a round is told of its piece. -/
def PieceOk (B C : Nat) (x : Value × List Nat) (w : World) : Prop := Reads w .u8 x.1 x.2 ∧ (∀ y ∈ x.2, y < 256) ∧ x.2.length ≤ 1000000 ∧ (x.2 ≠ [] → ∃ b off n cap, x.1 = .slice (some ⟨b, off, none⟩) n cap ∧ (b < B ∨ C ≤ b))

theorem reads_where {w : World} {k : IntKind} {v : Value} {l : List Nat} (h : Reads w k v l) (hl : l ≠ []) : ∃ b off n cap, v = .slice (some ⟨b, off, none⟩) n cap ∧ b < w.heap.size := by
  obtain ⟨ao, cap, hv, _, _, _, h4⟩ := h
  rcases h4 with h4 | ⟨b, off, rfl, hb, _⟩
  · exact absurd h4 hl
  · exact ⟨b, off, _, cap, hv, hb⟩
theorem owns_where {w : World} {base : Nat} {e : TypeId} {k : IntKind} {v : Value} {l : List Nat} (h : Owns w base e k v l) (hl : l ≠ []) : ∃ b off n cap, v = .slice (some ⟨b, off, none⟩) n cap ∧ base ≤ b := by
  rcases h.2 with ⟨_, h2⟩ | ⟨g, cap, cur, h1, h2, _⟩
  · exact absurd (List.length_eq_zero_iff.1 h2) hl
  · exact ⟨g, 0, _, cap, h1, h2⟩

theorem padOf_byte (n : Nat) : ∀ y ∈ padOf n, y < 256 := by
  intro y hy
  simp only [padOf, List.mem_append, List.mem_cons, List.mem_replicate, eight, List.not_mem_nil, or_false] at hy
  rcases hy with (rfl | ⟨_, rfl⟩) | hy
  · decide
  · decide
  · rcases hy with rfl | rfl | rfl | rfl | rfl | rfl | rfl | rfl <;> exact Nat.mod_lt _ (by decide)
theorem padOf_len (n : Nat) : (padOf n).length ≤ 80 := by
  have : noughts (n + 1) < 64 := Nat.mod_lt _ (by decide)
  simp [padOf, eight]
  omega

set_option maxHeartbeats 2000000 in
set_option maxRecDepth 100000 in
theorem padded1_any (l bx : Nat) (w0 W : World) (v : Value) (ps : List (List Nat)) (hP : Pieces w0 v ps) (hx : ps.flatten.length ≤ 100000) (hpb : ∀ p ∈ ps, ∀ y ∈ p, y < 256) (hpl : ps.length ≤ 1000000)
    (M : Nat → Prop) (hM : ∀ k, M k ∨ k = l → w0.heap.size ≤ k ∧ k ≠ bx) (J : List (Value × List Nat) → World → Prop)
    (hJ : ∀ s A B, J s A → Stay (fun k => k < W.heap.size) A B → J s B) (hJz : ∀ s A, J s A → W.heap.size ≤ A.heap.size)
    (hst : Stay (fun k => k < w0.heap.size) w0 W) (hc : W.cell? ⟨bx, 0, none⟩ = some v)
    (hY : ∀ pre x W1, J pre W1 → PieceOk w0.heap.size W.heap.size x W1 → Yields Tryz.prog l #[x.1] W1 fun e W' => e = .returned (.bool true) ∧ J (pre ++ [x]) W' ∧ Stay (fun k => ¬ M k ∧ k ≠ l) W1 W')
    (h0 : J [] W) :
    Calls Tryz.prog 67 #[.func (.yield l) #[] #[], .pointer (some ⟨bx, 0, none⟩)] W fun e W' => (∃ v, e = .returned v) ∧ ∃ xs, xs.map (·.2) = ps ++ [padOf ps.flatten.length] ∧ J xs W' := by
  obtain ⟨ao, cap, rfl, hcap, hcm⟩ := hP.val
  have hcm' : ps.length ≤ 140737488355328 := by omega
  refine (callsIn_wide (n := 9)).1 ?_
  refine callsIn_of_wp Tryz.func67 rfl trivial ?_ rfl
  simp only [Tryz.ntmps67, List.size_toArray, List.length_cons, List.length_nil, Nat.reduceAdd, Nat.reduceSub, Array.replicate_succ, Array.replicate_zero, List.push_toArray, List.append_toArray, List.nil_append, List.cons_append]
  gi_wp2
  gi_loopw [3, 8] (fun sv iv wr => ∃ i : Nat, i ≤ ps.length ∧ iv = .int .i64 (i : Int) ∧ sv = .int .u64 (((ps.take i).flatten.length : Nat) : Int) ∧ (∃ xs, xs.map (·.2) = ps.take i ∧ J xs wr) ∧ Stay (fun k => k < w0.heap.size) w0 wr)
    (fun _ iv _ => ps.length - (intOf iv).toNat)
  case atStart => exact ⟨0, Nat.zero_le _, rfl, by simp, ⟨[], rfl, h0⟩, hst⟩
  case round =>
    obtain ⟨i, hi, rfl, rfl, ⟨xs, hxs, hj⟩, hs⟩ := hrel
    by_cases hlt : i < ps.length
    · have hlti : (i : Int) < ps.length := by omega
      obtain ⟨b, off, x, rfl, hb, hcx, hrx⟩ := hP.at hlt
      have hcell : wr.cell? ⟨b, off + i, none⟩ = some x := (hs.cell (p := ⟨b, off + i, none⟩) hb hb).trans hcx
      have hrd : Reads wr .u8 x (ps.getD i []) := hrx.stay hs (fun j hj => hj)
      have hmem : ps.getD i [] ∈ ps := by rw [List.getD_eq_getElem?_getD, List.getElem?_eq_getElem hlt]; exact List.getElem_mem hlt
      have hfl := flat_le (ls := ps) (i + 1)
      have hsn := flat_snoc hlt
      rw [hsn, List.length_append] at hfl
      have hok : PieceOk w0.heap.size W.heap.size (x, ps.getD i []) wr := ⟨hrd, hpb _ hmem, (by show (ps.getD i []).length ≤ 1000000; omega), fun hne => by obtain ⟨b, off, n, cap, h1, h2⟩ := reads_where hrx hne; exact ⟨b, off, n, cap, h1, .inl h2⟩⟩
      obtain ⟨fn, tmps, assign, body, hy, hR⟩ := hY xs _ wr hj hok 8
      obtain ⟨axo, cx, rfl, _, _, _⟩ := hrd.val
      dsimp only at hy
      have HS := Lib.hid hs
      have HXS := Lib.hid hxs
      have HSN := Lib.hid hsn
      have HTK := Lib.hid (take_snoc' [] hlt)
      generalize ps.getD i [] = q at *
      clear hs hxs hsn hok hrd hrx hcx
      have hq1 : (((ps.take i).flatten.length : Nat) : Int) + (q.length : Int) ≤ 100000 := by omega
      generalize hL : (ps.take i).flatten.length = L at hfl hq1 HSN
      have HL := Lib.hid hL
      clear hL
      gi_wp2
      refine hR.mono ?_
      rintro e W3 ⟨rfl, hJ3, hk3⟩
      have HJ3 := Lib.hid hJ3
      have HK3 := Lib.hid hk3
      clear hJ3 hk3 hR hy
      gi_wp2
      go_roundw
      case rel =>
        refine ⟨i + 1, by omega, by go_num, ?_, ⟨xs ++ [_], ?_, HJ3.out⟩, ?_⟩
        · rw [HSN.out, List.length_append, HL.out, Int.natCast_add]
        · rw [List.map_append, HXS.out, HTK.out]; rfl
        · exact HS.out.trans (HK3.out.mono fun k hk hlt2 => ⟨fun h => by have := (hM k (.inl h)).1; omega, fun h => by have := (hM k (.inr h)).1; omega⟩)
      case measure => simp [intOf]; omega
    · obtain rfl : i = ps.length := by omega
      rw [List.take_length] at hxs
      rw [List.take_length]
      have HXS := Lib.hid hxs
      generalize hF : ps.flatten.length = F at hx
      clear hxs hlt hs
      have hx1 : F ≤ 1000000 := by omega
      gi_wp2_with (refine ⟨trivial, ?_⟩; gi_at_call 68; (with_reducible refine (callsIn_wide.2 (padding_any F wr hx1)).mono ?_); rintro e w' ⟨vp, rfl, hop, hbp⟩)
      have hj2 : J xs w' := hJ _ _ _ hj ((Stay.of_below hbp).mono fun k _ hk => Nat.lt_of_lt_of_le hk (hJz _ _ hj))
      have hok : PieceOk w0.heap.size W.heap.size (vp, padOf F) w' := ⟨hop.reads, padOf_byte F, (by have := padOf_len F; show (padOf F).length ≤ 1000000; omega), fun hne => by obtain ⟨b, off, n, cap, h1, h2⟩ := owns_where hop hne; exact ⟨b, off, n, cap, h1, .inr (Nat.le_trans (hJz _ _ hj) h2)⟩⟩
      obtain ⟨fn, tmps, assign, body, hy, hR⟩ := hY xs _ w' hj2 hok 8
      dsimp only at hy
      have HF := Lib.hid hF
      clear hF hok hj2 hop hbp hj
      rw [hy]
      gi_wp2
      refine hR.mono ?_
      rintro e W3 ⟨rfl, hJ3, hk3⟩
      have HJ3 := Lib.hid hJ3
      clear hJ3 hk3 hR hy
      gi_wp2
      go_end0
      exact ⟨⟨_, rfl⟩, xs ++ [_], by rw [List.map_append, HXS.out, HF.out]; rfl, HJ3.out⟩

end Go.Proofs.YtgnalcobcdgnkaaGreatDoor

namespace Go.Proofs.YtgnalcobcdgnkaaGreatDoor
open Go.RowKit Go.Shelf

attribute [local go_sem] Oper.semAt_some

/-- The blocks of a call of the iterator: yield, the buffer, how much it has, T having come. -/
structure Bf (W wr : World) (l : Nat) (T : List Nat) : Prop where
  size : W.heap.size + 3 ≤ wr.heap.size
  yld : wr.heap[W.heap.size]? = some (.cells #[.func (.yield l) #[] #[]] 128 (0, 0))
  buf : ∃ cs : List Nat, cs.length = 64 ∧ (∀ y ∈ cs, y < 256) ∧ wr.heap[W.heap.size + 1]? = some (.cells (vals .u8 cs).toArray 116 (0, 0)) ∧ cs.take (T.length % 64) = T.drop (64 * (T.length / 64))
  hav : wr.heap[W.heap.size + 1 + 1]? = some (.cells #[.int .i64 ((T.length % 64 : Nat) : Int)] 3 (0, 0))

theorem Bf.stay {W wr w' : World} {l : Nat} {T : List Nat} {S : Nat → Prop} (h : Bf W wr l T) (hs : Stay S wr w') (h0 : S W.heap.size) (h1 : S (W.heap.size + 1)) (h2 : S (W.heap.size + 1 + 1)) : Bf W w' l T := by
  obtain ⟨cs, c1, c2, c3, c4⟩ := h.buf
  exact ⟨Nat.le_trans h.size hs.size, hs.at h.yld h0, ⟨cs, c1, c2, hs.at c3 h1, c4⟩, hs.at h.hav h2⟩

def zeros64b : Array Value := #[.int .u8 0, .int .u8 0, .int .u8 0, .int .u8 0, .int .u8 0, .int .u8 0, .int .u8 0, .int .u8 0, .int .u8 0, .int .u8 0, .int .u8 0, .int .u8 0, .int .u8 0, .int .u8 0, .int .u8 0, .int .u8 0, .int .u8 0, .int .u8 0, .int .u8 0, .int .u8 0, .int .u8 0, .int .u8 0, .int .u8 0, .int .u8 0, .int .u8 0, .int .u8 0, .int .u8 0, .int .u8 0, .int .u8 0, .int .u8 0, .int .u8 0, .int .u8 0, .int .u8 0, .int .u8 0, .int .u8 0, .int .u8 0, .int .u8 0, .int .u8 0, .int .u8 0, .int .u8 0, .int .u8 0, .int .u8 0, .int .u8 0, .int .u8 0, .int .u8 0, .int .u8 0, .int .u8 0, .int .u8 0, .int .u8 0, .int .u8 0, .int .u8 0, .int .u8 0, .int .u8 0, .int .u8 0, .int .u8 0, .int .u8 0, .int .u8 0, .int .u8 0, .int .u8 0, .int .u8 0, .int .u8 0, .int .u8 0, .int .u8 0, .int .u8 0]
theorem zeros64b_eq : zeros64b = (vals .u8 (List.replicate 64 0)).toArray := rfl

theorem cell_of_heap {w : World} {g : Nat} {v : Value} {t : TypeId} (h : w.heap[g]? = some (.cells #[v] t (0, 0))) : w.cell? ⟨g, 0, none⟩ = some v := by simp [World.cell?, h]
theorem splice_vals (cs q : List Nat) (h m : Nat) (X : List Value) (hX : X = vals .u8 q) (hl : X.length = m) : ((vals .u8 cs).toArray.toList.take h ++ X ++ (vals .u8 cs).toArray.toList.drop (h + X.length)) = vals .u8 (cs.take h ++ q ++ cs.drop (h + m)) := by
  rw [hl, hX]
  simp [vals, List.map_take, List.map_drop]

/-- What the buffer holds when m more bytes have come. -/
theorem fill_buf {cs T q : List Nat} {h m : Nat} (hcs : cs.length = 64) (hT : T.length % 64 = h) (hpre : cs.take h = T.drop (64 * (T.length / 64))) (hq : q.length = m) (hm : h + m ≤ 64) :
    (cs.take h ++ q ++ cs.drop (h + m)).length = 64 ∧ (cs.take h ++ q ++ cs.drop (h + m)).take (h + m) = (T ++ q).drop (64 * (T.length / 64)) := by
  have h1 : (cs.take h).length = h := by rw [List.length_take]; omega
  have h2 : (cs.take h ++ q).length = h + m := by rw [List.length_append]; omega
  refine ⟨by rw [List.length_append, List.length_drop]; omega, ?_⟩
  rw [List.take_append_of_le_length (by omega), List.take_of_length_le (by omega), List.drop_append_of_le_length (by omega), hpre]

theorem slice_buf (g h : Nat) (hh : h < 64) (w : World) : (Instr.sliceAt 116 (.pointer (some ⟨g, 0, none⟩)) (some (.int .i64 (h : Int))) none none).run Tryz.prog w = .ok (.slice (some ⟨g, h, none⟩) (64 - h) (64 - h)) w := by
  have ha : Tryz.prog.arrayLen 116 = 64 := by kernel_rfl
  rw [run_sliceAt_array_l w 116 _ (by kernel_rfl) .i64 (h : Int) (by omega) (by rw [ha]; omega)]
  have hs : (sizeOf (Tryz.prog.elem 116)).run Tryz.prog w = .ok 1 w := by kernel_rfl
  rw [hs, ha]
  simp only [Result.andThen, slicedAt, Int.toNat_natCast, Nat.mul_one, Addr.add_lit, Nat.zero_add]
  rw [if_neg (by omega)]

def lenV : Value → Nat
  | .slice _ n _ => n
  | _ => 0
theorem Reads.stayAt {S : Nat → Prop} {w w' : World} {k : IntKind} {v : Value} {l : List Nat} (h : Reads w k v l) (hs : Stay S w w') (hS : l ≠ [] → ∀ b off n cap, v = .slice (some ⟨b, off, none⟩) n cap → S b) : Reads w' k v l := by
  obtain ⟨ao, cap, hv, h1, h2, h3, h4⟩ := h
  refine ⟨ao, cap, hv, h1, h2, h3, ?_⟩
  by_cases hl : l = []
  · exact .inl hl
  rcases h4 with h4 | ⟨b, off, ha, hlt, hc⟩
  · exact .inl h4
  · have hSb := hS hl b off _ cap (by rw [hv, ha])
    exact .inr ⟨b, off, ha, Nat.lt_of_lt_of_le hlt hs.size, fun i hi => (hs.cell (p := ⟨b, off + i, none⟩) hlt hSb).trans (hc i hi)⟩
/-- What is left of a piece lies where a round turns nothing. -/
def Lies (B C : Nat) (v : Value) (l : List Nat) : Prop := l ≠ [] → ∃ b off n cap, v = .slice (some ⟨b, off, none⟩) n cap ∧ (b < B ∨ C ≤ b)
theorem Lies.at {B C : Nat} {v : Value} {l : List Nat} (h : Lies B C v l) {S : Nat → Prop} (hS : ∀ b, (b < B ∨ C ≤ b) → S b) : l ≠ [] → ∀ b off n cap, v = .slice (some ⟨b, off, none⟩) n cap → S b := by
  intro hl b off n cap hv
  obtain ⟨b', off', n', cap', hv', hb⟩ := h hl
  rw [hv] at hv'
  simp only [Value.slice.injEq, Option.some.injEq, Addr.mk.injEq] at hv'
  rw [hv'.1.1]
  exact hS _ hb

/-- What has come, one piece behind the other. -/
def flat2 (xs : List (Value × List Nat)) : List Nat := (xs.map fun x => x.2).flatten
theorem flat2_snoc (xs : List (Value × List Nat)) (v : Value) (p : List Nat) : flat2 (xs ++ [(v, p)]) = flat2 xs ++ p := by simp [flat2]

theorem grow3 (W : World) (o1 o2 o3 : Obj) : (((W.alloc o1).alloc o2).alloc o3).heap.size = W.heap.size + 3 := by simp
theorem Bf.new (W : World) (l : Nat) : Bf W (((W.alloc (.cells #[.func (.yield l) #[] #[]] 128)).alloc (.cells zeros64b 116)).alloc (.cells #[.int .i64 0] 3)) l [] := by
  have h1 := heap_alloc_new W (.cells #[.func (.yield l) #[] #[]] 128)
  generalize hw1 : W.alloc (.cells #[.func (.yield l) #[] #[]] 128) = w1 at h1 ⊢
  have s1 : w1.heap.size = W.heap.size + 1 := by rw [← hw1]; simp
  have h2 := heap_alloc_new w1 (.cells zeros64b 116)
  generalize hw2 : w1.alloc (.cells zeros64b 116) = w2 at h2 ⊢
  have s2 : w2.heap.size = W.heap.size + 1 + 1 := by rw [← hw2]; simp [s1]
  have k1 : w2.heap[W.heap.size]? = some (.cells #[.func (.yield l) #[] #[]] 128 (0, 0)) := by rw [← hw2, Below.heap_alloc _ _ _ (by omega)]; exact h1
  have h3 := heap_alloc_new w2 (.cells #[.int .i64 0] 3)
  rw [s1] at h2
  rw [s2] at h3
  refine ⟨by simp; omega, ?_, ⟨List.replicate 64 0, by simp, by simp, ?_, by simp⟩, ?_⟩
  · rw [Below.heap_alloc _ _ _ (by omega)]; exact k1
  · rw [Below.heap_alloc _ _ _ (by omega), ← zeros64b_eq]; exact h2
  · exact h3

set_option maxHeartbeats 4000000 in
set_option maxRecDepth 100000 in
theorem blocks1_any (l bx px : Nat) (w0 W : World) (v : Value) (ps : List (List Nat)) (hP : Pieces w0 v ps) (hx : ps.flatten.length ≤ 100000) (hpb : ∀ p ∈ ps, ∀ y ∈ p, y < 256) (hpl : ps.length ≤ 1000000)
    (M : Nat → Prop) (hM : ∀ k, M k ∨ k = l → w0.heap.size ≤ k ∧ k ≠ bx ∧ k ≠ px ∧ k < W.heap.size) (hbx : bx < W.heap.size) (hpx : px < W.heap.size) (J : List (List Nat) → World → Prop)
    (hJ : ∀ s A B, J s A → Stay (fun k => k < W.heap.size) A B → J s B) (hJz : ∀ s A, J s A → W.heap.size ≤ A.heap.size)
    (hst : Stay (fun k => k < w0.heap.size) w0 W) (hc : W.cell? ⟨bx, 0, none⟩ = some v) (hq : W.cell? ⟨px, 0, none⟩ = some (.func (.func 67) #[] #[.pointer (some ⟨bx, 0, none⟩)]))
    (hY : ∀ pre x W1, J pre W1 → x.length = 64 → (∀ y ∈ x, y < 256) → Yields Tryz.prog l #[.agg (vals .u8 x).toArray] W1 fun e W' => e = .returned (.bool true) ∧ J (pre ++ [x]) W' ∧ Stay (fun k => ¬ M k ∧ k ≠ l) W1 W')
    (h0 : J [] W) :
    Calls Tryz.prog 66 #[.func (.yield l) #[] #[], .pointer (some ⟨px, 0, none⟩)] W fun e W' => (∃ v, e = .returned v) ∧ J (chunks (ps ++ [padOf ps.flatten.length]).flatten) W' := by
  have hq2 : ∀ o1 o2 o3 : Obj, (((W.alloc o1).alloc o2).alloc o3).cell? ⟨px, 0, none⟩ = some (.func (.func 67) #[] #[.pointer (some ⟨bx, 0, none⟩)]) := fun o1 o2 o3 =>
    ((((Stay.refl (fun _ => True) W).alloc o1).alloc o2).alloc o3).cell (p := ⟨px, 0, none⟩) hpx trivial |>.trans hq
  have hB : _ ∧ _ ∧ _ := ⟨Bf.new W l, (((Stay.refl (fun _ => True) W).alloc (.cells #[.func (.yield l) #[] #[]] 128)).alloc (.cells zeros64b 116)).alloc (.cells #[.int .i64 0] 3), grow3 W (.cells #[.func (.yield l) #[] #[]] 128) (.cells zeros64b 116) (.cells #[.int .i64 0] 3)⟩
  unfold zeros64b at hB
  have HB := Lib.hid hB
  clear hq hB
  refine (callsIn_wide (n := 9)).1 ?_
  refine callsIn_of_wp_marks Tryz.func66 rfl trivial ?_ rfl
  simp only [Tryz.ntmps66, List.size_toArray, List.length_cons, List.length_nil, Nat.reduceAdd, Nat.reduceSub, Array.replicate_succ, Array.replicate_zero, List.push_toArray, List.append_toArray, List.nil_append, List.cons_append]
  gi_wp2
  generalize ((W.alloc _).alloc _).alloc _ = w2 at HB ⊢
  obtain ⟨hb2, hs2, hz2⟩ := HB.out
  clear HB hq2
  have hj2 : J [] w2 := hJ _ _ _ h0 (hs2.mono fun _ _ _ => trivial)
  have hzW := hJz _ _ hj2
  have hc2 : w2.cell? ⟨bx, 0, none⟩ = some v := (hs2.cell (p := ⟨bx, 0, none⟩) hbx trivial).trans hc
  have hM1 : ∀ k, M k → k < W.heap.size := fun k h => (hM k (.inl h)).2.2.2
  have hl1 : l < W.heap.size := (hM l (.inr rfl)).2.2.2
  have hl0 := (hM l (.inr rfl)).1
  have hw0 : w0.heap.size ≤ W.heap.size := by omega
  have hMlt : ∀ k, (M k ∨ k = l ∨ (W.heap.size ≤ k ∧ k < w2.heap.size)) → k < w2.heap.size := by
    rintro k (h | h | h)
    · have := hM1 k h
      omega
    · omega
    · exact h.2
  refine wpIn_range (m := 8) (gf := 67) (lb := #[.pointer (some ⟨bx, 0, none⟩)]) rfl (enters_of Tryz.func67 (by kernel_rfl) rfl) (encs := fun x : Value × List Nat => #[x.1]) (fun _ => rfl)
    (fun k => M k ∨ k = l ∨ (W.heap.size ≤ k ∧ k < w2.heap.size)) hMlt
    (fun _ x w => PieceOk w0.heap.size (w2.heap.size + 2) x w) (fun xs => xs.map (·.2) = ps ++ [padOf ps.flatten.length])
    ?hseq
    (fun xs wr => J (chunks (flat2 xs)) wr ∧ Bf W wr l (flat2 xs))
    (fun s A B h k => ⟨hJ _ _ _ h.1 (k.mono fun i _ hi => by omega), h.2.stay k (by omega) (by omega) (by omega)⟩)
    ⟨show J (chunks []) w2 from hj2, show Bf W w2 l [] from hb2⟩ ?hround ?hdone
  case hseq =>
    intro J2 W2 st2 sz2 hJ2 hJ2z hY2 h02
    refine padded1_any (w2.heap.size + 1) bx w0 W2 v ps hP hx hpb hpl (fun k => M k ∨ k = l ∨ (W.heap.size ≤ k ∧ k < w2.heap.size)) ?_ J2 hJ2 hJ2z (hst.trans ((hs2.mono fun _ _ _ => trivial).trans (st2.mono fun _ _ _ => trivial))) ((st2.cell (p := ⟨bx, 0, none⟩) (by show bx < _; omega) trivial).trans hc2) ?_ h02
    · rintro k ((h | h | h) | h)
      · have := hM k (.inl h); exact ⟨this.1, this.2.1⟩
      · have := hM k (.inr h); exact ⟨this.1, this.2.1⟩
      · exact ⟨by omega, by omega⟩
      · exact ⟨by omega, by omega⟩
    · intro pre x W1 hj hok
      exact hY2 pre x W1 hj (sz2 ▸ hok)
  case hdone =>
    rintro xs wr hxs ⟨hj, hb⟩ hz hD
    rw [flat2, hxs] at hj
    gi_wp2
    refine ⟨by simp, .inl ⟨_, _, rfl, run_takeDeferred hD, ?_⟩⟩
    exact ⟨_, results_none rfl _ _ _, ⟨_, rfl⟩, hJ _ _ _ hj ((Stay.refl _ wr).put _ _ (by omega))⟩
  case hround =>
    rintro pre ⟨xv, p⟩ W3 ⟨hj, hb⟩ hz ⟨hr, hpby, hplen, hwh⟩
    have HJ := Lib.hid hj
    have HBF := Lib.hid hb
    have HR := Lib.hid hr
    have HPB := Lib.hid hpby
    have HWH := Lib.hid hwh
    have HZ2 := Lib.hid hz2
    clear hj hb hr hpby hwh hz2 hj2 hc2 hb2 hc h0 hs2 hMlt hst
    gi_wp2
    refine ⟨Stay.refl _ _, fun W4 hs4 hz4 => ?_⟩
    have HJ4 : Hid (J (chunks (flat2 pre)) W4) := Lib.hid (hJ _ _ _ HJ.out (hs4.mono fun k _ hk => by have := HZ2.out; omega))
    have HB4 : Hid (Bf W W4 l (flat2 pre)) := Lib.hid (HBF.out.stay hs4 (by have := HZ2.out; omega) (by have := HZ2.out; omega) (by have := HZ2.out; omega))
    have HL4 : Hid (Lies w0.heap.size (w2.heap.size + 2) xv p) := HWH
    have HR4 : Hid (Reads W4 .u8 xv p) := Lib.hid (HR.out.stayAt hs4 (HL4.out.at fun b hb => by have := HZ2.out; omega))
    have hz5 : w2.heap.size + 2 ≤ W4.heap.size := by omega
    have HF : Hid (flat2 (pre ++ [(xv, p)]) = flat2 pre ++ p) := Lib.hid (flat2_snoc _ _ _)
    generalize flat2 pre = T0 at HJ4 HB4 HF
    clear HJ HBF HR HWH hs4 hz4 hz
    have HM : Hid (∀ k, M k ∨ k = l → w0.heap.size ≤ k ∧ k ≠ bx ∧ k ≠ px ∧ k < W.heap.size) := Lib.hid hM
    have HY := Lib.hid hY
    have HJS := Lib.hid hJ
    clear hM hY hJ hJz hM1
    gi_wp2
    gi_loopw [5] (fun pv wr => ∃ j, j ≤ p.length ∧ Reads wr .u8 pv (p.drop j) ∧ Lies w0.heap.size (w2.heap.size + 2) pv (p.drop j) ∧ J (chunks (T0 ++ p.take j)) wr ∧ Bf W wr l (T0 ++ p.take j) ∧ Stay (fun k => ¬ (M k ∨ k = l ∨ (W.heap.size ≤ k ∧ k < w2.heap.size))) W4 wr)
      (fun pv _ => lenV pv)
    case atStart => exact ⟨0, Nat.zero_le _, by simpa using HR4.out, by simpa using HL4.out, by simpa using HJ4.out, by simpa using HB4.out, Stay.refl _ _⟩
    case round =>
      obtain ⟨j, hj, hr, hli, hjj, hbf, hst5⟩ := hrel
      have HR5 := Lib.hid hr
      have HLI := Lib.hid hli
      have HJJ := Lib.hid hjj
      have HBF := Lib.hid hbf
      have HST := Lib.hid hst5
      obtain ⟨ao, cap, rfl, hcap, hcm, _⟩ := hr.val
      have hdl : (p.drop j).length = p.length - j := List.length_drop
      by_cases hlt : j < p.length
      · obtain ⟨b, off, rfl, hb, hcells⟩ := hr.at (i := 0) (by omega)
        obtain ⟨cs, hcl, hcb, hbuf, hpre⟩ := HBF.out.buf
        have hav := HBF.out.hav
        have hcav : wr.cell? ⟨W.heap.size + 1 + 1, 0, none⟩ = some (.int .i64 (((T0 ++ p.take j).length % 64 : Nat) : Int)) := cell_of_heap hav
        have hfav : wr.frozen? ⟨W.heap.size + 1 + 1, 0, none⟩ = false := by simp [World.frozen?, hav]
        obtain ⟨h, hh⟩ : ∃ h, (T0 ++ p.take j).length % 64 = h := ⟨_, rfl⟩
        have hh64 : h < 64 := by omega
        rw [hh] at hcav
        rw [hdl]
        obtain ⟨r, hr1⟩ : ∃ r, p.length - j = r := ⟨_, rfl⟩
        rw [hr1]
        have hr0 : 0 < r := by omega
        have hh64i : (h : Int) < 64 := by omega
        have hh0i : (0 : Int) ≤ (h : Int) := by omega
        have HH := Lib.hid hh
        have HR1 := Lib.hid hr1
        have HPRE := Lib.hid hpre
        have HBUF := Lib.hid hbuf
        have HCB := Lib.hid hcb
        have HCL := Lib.hid hcl
        have HCELLS := Lib.hid hcells
        clear hr hli hjj hbf hst5 hh hr1 hpre hbuf hcb hcl hcells hav hdl
        have hslb := fun w => slice_buf (W.heap.size + 1) h hh64 w
        obtain ⟨m, hm⟩ : ∃ m, Nat.min r (64 - h) = m := ⟨_, rfl⟩
        have hm1 : m ≤ r := by rw [← hm]; exact Nat.min_le_left _ _
        have hm2 : m ≤ 64 - h := by rw [← hm]; exact Nat.min_le_right _ _
        have hm3 : m = r ∨ m = 64 - h := by rw [← hm]; exact (Nat.le_total r (64 - h)).imp (fun h => Nat.min_eq_left h) (fun h => Nat.min_eq_right h)
        obtain ⟨V5, hV5⟩ : ∃ V5, V5 = Value.slice (if cap = m then some ⟨b, off, none⟩ else (some (⟨b, off, none⟩ : Addr)).map fun x => x.add m) (r - m) (cap - m) := ⟨_, rfl⟩
        have hslp : ∀ w, (Instr.slice 61 (.slice (some ⟨b, off, none⟩) r cap) (some (.int .i64 (m : Int))) none none).run Tryz.prog w = .ok V5 w := fun w => by rw [hV5]; exact slice_tail w _ _ _ _ hm1
        obtain ⟨X, hX⟩ : ∃ X, X = vals .u8 ((p.drop j).take m) := ⟨_, rfl⟩
        have hXl : X.length = m := by rw [hX, vals_length, List.length_take, List.length_drop, HR1.out]; omega
        have hX1 : ∀ u ∈ X, u.oneCell' = true := by rw [hX]; exact vals_oneCell _ _
        have hXs : ∀ i u, X[i]? = some u → wr.cell? ((⟨b, off, none⟩ : Addr).add i) = some u := by
          intro i u hu
          have hi : i < X.length := (List.getElem?_eq_some_iff.1 hu).1
          have hi2 : i < (p.drop j).length := by rw [List.length_drop, HR1.out]; omega
          rw [Addr.add_lit, HCELLS.out i hi2]
          rw [hX, vals_get _ _ _ (by rw [List.length_take]; omega), List.getD_eq_getElem?_getD, List.getElem?_take, if_pos (by omega), ← List.getD_eq_getElem?_getD] at hu
          exact hu
        have HM3 := Lib.hid hm3
        have HMM := Lib.hid hm
        have HV5 := Lib.hid hV5
        have HXE := Lib.hid hX
        have HXL := Lib.hid hXl
        have HX1 := Lib.hid hX1
        have HXS := Lib.hid hXs
        have hsz1 : (Tryz.prog.info? 5).map (·.size) = some 1 := by kernel_rfl
        clear hm hm3 hV5 hX hXl hX1 hXs
        gi_wp2_with ((with_reducible show wpListIn _ _ _ _ _ (Oper.mk (some 15) _ _ _ _ _ :: _) _ _); go_must (refine wpListIn_copy_own rfl (.tmp 13) (.tmp 14) 61 61 rfl 5 Tryz.underlying61 hsz1 (W.heap.size + 1) h (64 - h) (64 - h) ⟨b, off, none⟩ r cap rfl rfl (vals .u8 cs).toArray 116 HBUF.out X (HXL.out.trans HMM.out.symm) HXS.out (by rw [List.size_toArray, vals_length, HXL.out, HCL.out]; omega) HX1.out ?_); have HS6 := Lib.hid (((Stay.refl (fun k => k ≠ W.heap.size + 1) wr).setRow (W.heap.size + 1) (((vals .u8 cs).toArray.toList.take h ++ X ++ (vals .u8 cs).toArray.toList.drop (h + X.length)).toArray)) (fun hk => hk rfl)); have HB6 := Lib.hid (setRow_heap wr (W.heap.size + 1) _ (((vals .u8 cs).toArray.toList.take h ++ X ++ (vals .u8 cs).toArray.toList.drop (h + X.length)).toArray) _ _ HBUF.out); have hc6 := (HS6.out.cell (p := ⟨W.heap.size + 1 + 1, 0, none⟩) (by have := HBF.out.size; show W.heap.size + 1 + 1 < _; omega) (by show W.heap.size + 1 + 1 ≠ W.heap.size + 1; omega)).trans hcav; have hf6 : (wr.setRow (W.heap.size + 1) (((vals .u8 cs).toArray.toList.take h ++ X ++ (vals .u8 cs).toArray.toList.drop (h + X.length)).toArray)).frozen? ⟨W.heap.size + 1 + 1, 0, none⟩ = false := (World.frozen?_of_block (HS6.out.block _ (by have := HBF.out.size; show W.heap.size + 1 + 1 < _; omega) (by show W.heap.size + 1 + 1 ≠ W.heap.size + 1; omega))).trans hfav; generalize wr.setRow _ _ = w6 at HS6 HB6 hc6 hf6 ⊢; rw [show goInt X.length = Value.int .i64 (m : Int) from by rw [HXL.out]; rfl])
        have hs0 : (0 : Int) ≤ (h : Int) + (m : Int) := by omega
        have hs64 : (h : Int) + (m : Int) ≤ 64 := by omega
        have hmx : Tryz.prog.follows .mixedOrders = true := by kernel_rfl
        refine Go.wpIn_mono (Q := fun e a' w' => e = .normal ∧ a' = (⟨#[.func (.yield l) #[] #[], .pointer (some ⟨px, 0, none⟩), .pointer (some ⟨W.heap.size, 0, none⟩), .pointer (some ⟨W.heap.size + 1, 0, none⟩), .pointer (some ⟨W.heap.size + 1 + 1, 0, none⟩), V5, .int .i64 (m : Int), .func (.func 67) #[] #[.pointer (some ⟨bx, 0, none⟩)], xv, .slice (some ⟨b, off, none⟩) r cap, .int .i64 (r : Int), .bool true, .int .i64 (h : Int), .slice (some ⟨W.heap.size + 1, h, none⟩) (64 - h) (64 - h), .slice (some ⟨b, off, none⟩) r cap, .int .i64 (m : Int), .int .i64 (h : Int), .int .i64 (m : Int), .int .i64 ((h : Int) + (m : Int)), .slice (some ⟨b, off, none⟩) r cap, .int .i64 (m : Int), V5, u22, u23, u24, u25, u26, u27], []⟩ : Act) ∧ w' = (w6.setCell ⟨W.heap.size + 1 + 1, 0, none⟩ (.int .i64 ((h : Int) + (m : Int)))).drew) ?reg ?next
        case reg =>
          have hws : IntKind.i64.wrap ((h : Int) + (m : Int)) = (h : Int) + (m : Int) := IntWalk.i64_in _ (by omega)
          refine wpIn_region_any hmx (wpAnyIn_of (deferless_spec (by kernel_rfl)) (by rintro ⟨_, _, h, _⟩; cases h) _ _ _ _ ?_)
          change wpAny _ _ _ _ _ _ _ (World.drew _)
          refine wpAny_take (i := 1) (v := ?_) rfl (by kernel_rfl) (by kernel_rfl) (by kernel_rfl) (fun _ _ _ h => by cases h.1) (Or.inl ⟨by rfl, ?_⟩) ?_
          rotate_left
          · intro w
            go_simp
            try with_reducible rfl
          refine wpAny_take (i := 3) (v := ?_) rfl (by kernel_rfl) (by kernel_rfl) (by kernel_rfl) (fun _ _ _ h => by cases h.1) (Or.inl ⟨by rfl, ?_⟩) ?_
          rotate_left
          · intro w
            go_simp
            try with_reducible rfl
          refine wpAny_take (i := 4) (v := ?_) rfl (by kernel_rfl) (by kernel_rfl) (by kernel_rfl) (fun _ _ _ h => by cases h.1) (Or.inl ⟨by rfl, ?_⟩) ?_
          rotate_left
          · intro w
            go_simp
            try with_reducible rfl
          refine wpAny_take (i := 5) (v := ?_) rfl (by kernel_rfl) (by kernel_rfl) (by kernel_rfl) (fun _ _ _ h => by cases h.1) (Or.inl ⟨by rfl, ?_⟩) ?_
          rotate_left
          · intro w
            go_simp
            try with_reducible rfl
          refine wpAny_ready (rs := [0]) (by kernel_rfl) (by simp) (AllReady.cons rfl (fun K hK => ?_) AllReady.nil)
          go_simp
          refine hK _ _ ?_
          clear hK K
          refine wpAny_take (i := 2) (v := ?_) rfl (by kernel_rfl) (by kernel_rfl) (by kernel_rfl) (fun _ _ _ h => by cases h.1) (Or.inl ⟨by rfl, ?_⟩) ?_
          rotate_left
          · intro w
            go_simp
            try with_reducible rfl
          refine wpAny_ready (rs := [6]) (by kernel_rfl) (by simp) (AllReady.cons rfl (fun K hK => ?_) AllReady.nil)
          go_simp
          refine hK _ _ ?_
          clear hK K
          refine wpAny_take (i := 7) (v := ?_) rfl (by kernel_rfl) (by kernel_rfl) (by kernel_rfl) (fun _ _ _ h => by cases h.1) (Or.inl ⟨by rfl, ?_⟩) ?_
          rotate_left
          · intro w
            go_simp
            try with_reducible rfl
          refine wpAny_done (by kernel_rfl) ?_ _
          exact ⟨rfl, rfl, rfl⟩
        rintro e a7 w7 ⟨rfl, rfl, rfl⟩
        have HS7 := Lib.hid (((HS6.out.mono (T := fun k => k ≠ W.heap.size + 1 ∧ k ≠ W.heap.size + 1 + 1) (fun k _ hk => hk.1)).setCell ⟨W.heap.size + 1 + 1, 0, none⟩ (.int .i64 ((h : Int) + (m : Int))) (fun hk => hk.2 rfl)).drew)
        have HB7 : Hid ((w6.setCell ⟨W.heap.size + 1 + 1, 0, none⟩ (.int .i64 ((h : Int) + (m : Int)))).drew.heap[W.heap.size + 1]? = _) := Lib.hid ((Below.heap_setCell w6 _ _ _ (by show W.heap.size + 1 ≠ W.heap.size + 1 + 1; omega)).trans HB6.out)
        have HH7 : Hid ((w6.setCell ⟨W.heap.size + 1 + 1, 0, none⟩ (.int .i64 ((h : Int) + (m : Int)))).drew.heap[W.heap.size + 1 + 1]? = some (.cells #[.int .i64 ((h : Int) + (m : Int))] 3 (0, 0))) := Lib.hid (heap_setCell_row w6 _ _ _ _ _ (HS6.out.at HBF.out.hav (by omega)))
        have hc7 : (w6.setCell ⟨W.heap.size + 1 + 1, 0, none⟩ (.int .i64 ((h : Int) + (m : Int)))).drew.cell? ⟨W.heap.size + 1 + 1, 0, none⟩ = some (.int .i64 ((h : Int) + (m : Int))) := cell_of_heap HH7.out
        generalize (w6.setCell ⟨W.heap.size + 1 + 1, 0, none⟩ (.int .i64 ((h : Int) + (m : Int)))).drew = w7 at HS7 HB7 HH7 hc7 ⊢
        clear hc6 hf6 hcav hfav hslp hslb
        have hm0 : 0 < m := by have := HM3.out; omega
        obtain ⟨q, hqe⟩ : ∃ q, q = (p.drop j).take m := ⟨_, rfl⟩
        have hql : q.length = m := by rw [hqe, List.length_take, List.length_drop, HR1.out]; omega
        have htk : p.take (j + m) = p.take j ++ q := by rw [hqe, List.take_add]
        have hdr : (p.drop j).drop m = p.drop (j + m) := by rw [List.drop_drop]
        have hqb : ∀ y ∈ q, y < 256 := fun y hy => HPB.out y (List.mem_of_mem_drop (List.mem_of_mem_take (hqe ▸ hy)))
        obtain ⟨cs2, hcs2⟩ : ∃ cs2, cs2 = cs.take h ++ q ++ cs.drop (h + m) := ⟨_, rfl⟩
        have hfb := fill_buf HCL.out HH.out (HH.out ▸ HPRE.out) hql (by omega)
        rw [← hcs2] at hfb
        have hcb2 : ∀ y ∈ cs2, y < 256 := by
          intro y hy
          rw [hcs2] at hy
          rcases List.mem_append.1 hy with hy | hy
          · rcases List.mem_append.1 hy with hy | hy
            · exact HCB.out y (List.mem_of_mem_take hy)
            · exact hqb y hy
          · exact HCB.out y (List.mem_of_mem_drop hy)
        have HB8 : Hid (w7.heap[W.heap.size + 1]? = some (.cells (vals .u8 cs2).toArray 116 (0, 0))) := Lib.hid (by rw [hcs2, ← splice_vals cs q h m X (by rw [HXE.out, hqe]) HXL.out]; exact HB7.out)
        have HT2 : Hid (T0 ++ p.take (j + m) = (T0 ++ p.take j) ++ q) := Lib.hid (by rw [htk, List.append_assoc])
        have hr9 : (p.drop j).length - m = r - m := by rw [List.length_drop, HR1.out]
        have HS67 : Hid (Stay (fun k => k ≠ W.heap.size + 1 ∧ k ≠ W.heap.size + 1 + 1) wr w7) := HS7
        have HR7 : Hid (Reads w7 .u8 V5 (p.drop (j + m))) := Lib.hid (by
          have h1 := (HR5.out.stayAt HS67.out (HLI.out.at fun b hb => by have := HZ2.out; omega)).tail (m := m) (by rw [List.length_drop, HR1.out]; exact hm1)
          rw [← hdr]
          rw [hr9, ← HV5.out] at h1
          exact h1)
        have HL7 : Hid (Lies w0.heap.size (w2.heap.size + 2) V5 (p.drop (j + m))) := Lib.hid (fun hne => by
          have hlt9 : m < r := by
            have : (p.drop (j + m)).length ≠ 0 := fun h => hne (List.length_eq_zero_iff.1 h)
            rw [List.length_drop] at this
            have := HR1.out
            omega
          obtain ⟨b', off', n', cap', hv', hb'⟩ := HLI.out (fun h => by have h2 := congrArg List.length h; rw [List.length_drop, HR1.out] at h2; simp at h2; omega)
          simp only [Value.slice.injEq, Option.some.injEq, Addr.mk.injEq] at hv'
          obtain ⟨⟨rfl, _, _⟩, _, _⟩ := hv'
          refine ⟨b, off + m, r - m, cap - m, ?_, hb'⟩
          rw [HV5.out, if_neg (by omega), Option.map_some, Addr.add_lit])
        have HJ7 : Hid (J (chunks (T0 ++ p.take j)) w7) := Lib.hid (HJS.out _ _ _ HJJ.out (HS67.out.mono fun k _ hk => by omega))
        have HT7 : Hid (Stay (fun k => ¬ (M k ∨ k = l ∨ (W.heap.size ≤ k ∧ k < w2.heap.size))) W4 w7) := Lib.hid (HST.out.trans (HS67.out.mono fun k _ hk => ⟨fun h => hk (.inr (.inr (by have := HZ2.out; omega))), fun h => hk (.inr (.inr (by have := HZ2.out; omega)))⟩))
        have hmeas : lenV V5 < r := by rw [HV5.out]; show r - m < r; omega
        have HY7 : Hid (w7.heap[W.heap.size]? = some (.cells #[.func (.yield l) #[] #[]] 128 (0, 0))) := Lib.hid (HS67.out.at HBF.out.yld (by omega))
        have hz7 : W.heap.size + 3 ≤ w7.heap.size := Nat.le_trans HBF.out.size HS67.out.size
        have hj2 : j + m ≤ p.length := by have := HR1.out; omega
        have HFB := Lib.hid hfb
        have HCB2 := Lib.hid hcb2
        have HQL := Lib.hid hql
        clear hqe hql htk hdr hqb hcs2 hfb hcb2 HXE HXL HX1 HXS HCELLS HBUF HR5 HLI HJJ HBF HST HPRE HCB HCL HS6 HB6 HS7 HB7
        by_cases hful : h + m < 64
        · have hfuli : (h : Int) + (m : Int) < 64 := by omega
          gi_wp2
          go_roundw
          case rel =>
            have hTl : (T0 ++ p.take j ++ q).length = (T0 ++ p.take j).length + m := by rw [List.length_append, HQL.out]
            have hd : (T0 ++ p.take j ++ q).length / 64 = (T0 ++ p.take j).length / 64 := by have := HH.out; omega
            have hmd : (T0 ++ p.take j ++ q).length % 64 = h + m := by have := HH.out; omega
            refine ⟨j + m, hj2, HR7.out, HL7.out, ?_, ⟨hz7, HY7.out, ⟨cs2, HFB.out.1, HCB2.out, HB8.out, ?_⟩, ?_⟩, HT7.out⟩
            · rw [HT2.out, chunks_same _ _ hd]; exact HJ7.out
            · rw [HT2.out, hd, hmd]; exact HFB.out.2
            · rw [HT2.out, hmd, Int.natCast_add]; exact HH7.out
          case measure => exact hmeas
        · have hfuli : (h : Int) + (m : Int) = 64 := by omega
          have hyc : w7.cell? ⟨W.heap.size, 0, none⟩ = some (.func (.yield l) #[] #[]) := cell_of_heap HY7.out
          obtain ⟨fn, tmps, assign, body, hy, hR⟩ := HY.out _ cs2 w7 HJ7.out HFB.out.1 HCB2.out 7
          have hAs : (Tryz.prog.info? 116).map (·.size) = some (vals .u8 cs2).toArray.size := by rw [List.size_toArray, vals_length, HFB.out.1]; kernel_rfl
          gi_wp2_with ((with_reducible show wpListIn _ _ _ _ _ (Oper.mk (some 25) _ _ _ _ _ :: _) _ _); go_must (refine wpListIn_load_row rfl 116 (.tmp 3) rfl (W.heap.size + 1) rfl _ (vals .u8 cs2).toArray _ _ HB8.out Tryz.underlying116 rfl hAs ?_))
          refine RoundIn.mono (F := Fence.wide.inRound (w2.heap.size + 1)) hR ?_
          rintro e w8 ⟨rfl, hJ8, hs8⟩
          have hM3 : ∀ k, W.heap.size ≤ k → ¬ M k ∧ k ≠ l := fun k hk => ⟨fun h => by have := (HM.out k (.inl h)).2.2.2; omega, fun h => by have := (HM.out k (.inr h)).2.2.2; omega⟩
          have HH8 : Hid (w8.heap[W.heap.size + 1 + 1]? = some (.cells #[.int .i64 ((h : Int) + (m : Int))] 3 (0, 0))) := Lib.hid (hs8.at HH7.out (hM3 _ (by omega)))
          have hc8 := cell_of_heap HH8.out
          have hf8 : w8.frozen? ⟨W.heap.size + 1 + 1, 0, none⟩ = false := by simp [World.frozen?, HH8.out]
          have HY8 : Hid (w8.heap[W.heap.size]? = _) := Lib.hid (hs8.at HY7.out (hM3 _ (by omega)))
          have HBB8 : Hid (w8.heap[W.heap.size + 1]? = _) := Lib.hid (hs8.at HB8.out (hM3 _ (by omega)))
          have HS8 := Lib.hid hs8
          have HJ8 := Lib.hid hJ8
          clear hs8 hJ8 hR hy hyc hc7
          gi_wp2
          go_roundw
          case rel =>
            have hTl : (T0 ++ p.take j ++ q).length = (T0 ++ p.take j).length + m := by rw [List.length_append, HQL.out]
            have hd : (T0 ++ p.take j ++ q).length = 64 * ((T0 ++ p.take j).length / 64 + 1) := by have := HH.out; omega
            have hmd : (T0 ++ p.take j ++ q).length % 64 = 0 := by omega
            have hd2 : 64 * ((T0 ++ p.take j ++ q).length / 64) = (T0 ++ p.take j ++ q).length := by omega
            have hc64 : cs2.take (h + m) = cs2 := List.take_of_length_le (by have := HFB.out.1; omega)
            have hS9 : Stay (fun k => k ≠ W.heap.size + 1 + 1) w8 (w8.setCell ⟨W.heap.size + 1 + 1, 0, none⟩ (.int .i64 0)) := (Stay.refl _ w8).setCell _ _ (fun h => h rfl)
            have hS8 : Stay (fun k => ¬ M k ∧ k ≠ l ∧ k ≠ W.heap.size + 1 + 1) w7 (w8.setCell ⟨W.heap.size + 1 + 1, 0, none⟩ (.int .i64 0)) := (HS8.out.mono fun k _ hk => ⟨hk.1, hk.2.1⟩).trans (hS9.mono fun k _ hk => hk.2.2)
            refine ⟨j + m, hj2, HR7.out.stayAt hS8 (HL7.out.at fun b hb => ?_), HL7.out, ?_, ⟨Nat.le_trans hz7 hS8.size, hS9.at HY8.out (by omega), ⟨cs2, HFB.out.1, HCB2.out, hS9.at HBB8.out (by omega), ?_⟩, ?_⟩, HT7.out.trans (hS8.mono fun k _ hk => ⟨fun h => hk (.inl h), fun h => hk (.inr (.inl h)), fun h => hk (.inr (.inr (by have := HZ2.out; omega)))⟩)⟩
            · have := HZ2.out
              refine ⟨fun h => ?_, ?_, by omega⟩
              · have := HM.out b (.inl h)
                omega
              · omega
            · rw [HT2.out, chunks_next _ _ hd, ← HFB.out.2, hc64]
              exact HJS.out _ _ _ HJ8.out (hS9.mono fun k _ hk => by omega)
            · rw [HT2.out, hmd, hd2, List.take_zero, List.drop_length]
            · rw [HT2.out, hmd]
              exact heap_setCell_row w8 _ _ _ _ _ HH8.out
          case measure => exact hmeas
      · obtain rfl : j = p.length := by omega
        have h0 : (p.drop p.length).length = 0 := by simp
        rw [h0]
        clear hr hli hjj hbf hst5
        gi_wp2
        rw [List.take_length] at HJJ HBF
        exact ⟨HST.out, by rw [HF.out]; exact HJJ.out, by rw [HF.out]; exact HBF.out⟩

end Go.Proofs.YtgnalcobcdgnkaaGreatDoor

namespace Go.Proofs.YtgnalcobcdgnkaaGreatDoor
open Go.RowKit Go.Shelf

attribute [local go_sem] Oper.semAt_some

/-- The call's own blocks, blocks xs having come: the answer, the state. -/
structure Sd (w wr : World) (xs : List (List Nat)) : Prop where
  below : Below w.heap.size w wr
  size : w.heap.size + 2 ≤ wr.heap.size
  res : wr.heap[w.heap.size]? = some (.cells zeros32d 34 (0, 0))
  st : wr.heap[w.heap.size + 1]? = some (.cells (vals .u32 (behindAll shaK xs shaH)).toArray 108 (0, 0))

theorem Sd.stay {w wr w' : World} {xs : List (List Nat)} {S : Nat → Prop} (h : Sd w wr xs) (hs : Stay S wr w') (hS : ∀ k, k < w.heap.size + 2 → S k) : Sd w w' xs :=
  ⟨h.below.trans (hs.below h.below.size fun k hk => hS k (by omega)), Nat.le_trans h.size hs.size, hs.at h.res (hS _ (by omega)), hs.at h.st (hS _ (by omega))⟩

def zeros32l : Array Value := #[.int .u8 0, .int .u8 0, .int .u8 0, .int .u8 0, .int .u8 0, .int .u8 0, .int .u8 0, .int .u8 0, .int .u8 0, .int .u8 0, .int .u8 0, .int .u8 0, .int .u8 0, .int .u8 0, .int .u8 0, .int .u8 0, .int .u8 0, .int .u8 0, .int .u8 0, .int .u8 0, .int .u8 0, .int .u8 0, .int .u8 0, .int .u8 0, .int .u8 0, .int .u8 0, .int .u8 0, .int .u8 0, .int .u8 0, .int .u8 0, .int .u8 0, .int .u8 0]
theorem Sd.new (w : World) : Sd w (((w.alloc (.cells zeros32l 34)).alloc (.cells zeros8 108)).setRow (w.heap.size + 1) (vals .u32 shaH).toArray) [] := by
  have h1 := heap_alloc_new w (.cells zeros32l 34)
  generalize hw1 : w.alloc (.cells zeros32l 34) = w1 at h1 ⊢
  have s1 : w1.heap.size = w.heap.size + 1 := by rw [← hw1]; simp
  have b1 : Below w.heap.size w w1 := by rw [← hw1]; exact (Below.refl _ _).alloc (Nat.le_refl _) _
  have h2 := heap_alloc_new w1 (.cells zeros8 108)
  rw [s1] at h2
  have k1 : (w1.alloc (.cells zeros8 108)).heap[w.heap.size]? = some (.cells zeros32l 34 (0, 0)) := by rw [Below.heap_alloc _ _ _ (by omega)]; exact h1
  have b2 : Below w.heap.size w (w1.alloc (.cells zeros8 108)) := b1.alloc (by omega) _
  have s2 : (w1.alloc (.cells zeros8 108)).heap.size = w.heap.size + 2 := by simp [s1]
  generalize w1.alloc (.cells zeros8 108) = w2 at h2 k1 b2 s2 ⊢
  exact ⟨b2.trans ⟨rfl, rfl, rfl, by simp [World.setRow], fun k hk => setRow_other _ _ k _ (by omega)⟩, by simp [World.setRow]; omega, by rw [setRow_other _ _ _ _ (by omega)]; exact k1, setRow_heap _ _ _ _ _ _ h2⟩
theorem two_new (w : World) : ((w.alloc (.cells zeros32l 34)).alloc (.cells zeros8 108)).heap[w.heap.size + 1]? = some (.cells zeros8 108 (0, 0)) := by
  have h := heap_alloc_new (w.alloc (.cells zeros32l 34)) (.cells zeros8 108)
  rwa [World.size_alloc] at h

set_option maxHeartbeats 400000 in
set_option maxRecDepth 100000 in
theorem ppadded_any (a : Option Addr) (n c : Nat) (w : World) : Calls Tryz.prog 56 #[.slice a n c] w fun e w' => e = .returned (.func (.func 67) #[] #[.pointer (some ⟨w.heap.size, 0, none⟩)]) ∧ w.alloc (.cells #[.slice a n c] 106) = w' := by
  go_enter Tryz.func56, Tryz.ntmps56
  go_wp2
  go_ret
  exact ⟨rfl, rfl⟩
set_option maxHeartbeats 400000 in
set_option maxRecDepth 100000 in
theorem pblocks_any (f : Fn) (a b : Array Value) (w : World) : Calls Tryz.prog 55 #[.func f a b] w fun e w' => e = .returned (.func (.func 66) #[] #[.pointer (some ⟨w.heap.size, 0, none⟩)]) ∧ w.alloc (.cells #[.func f a b] 113) = w' := by
  go_enter Tryz.func55, Tryz.ntmps55
  go_wp2
  go_ret
  exact ⟨rfl, rfl⟩

theorem new_row (w : World) (t : TypeId) (z cs : Array Value) : Stay (fun _ => True) w ((w.alloc (.cells z t)).setRow w.heap.size cs) ∧ ((w.alloc (.cells z t)).setRow w.heap.size cs).heap[w.heap.size]? = some (.cells cs t (0, 0)) ∧ ((w.alloc (.cells z t)).setRow w.heap.size cs).heap.size = w.heap.size + 1 :=
  ⟨⟨rfl, rfl, rfl, by simp [World.setRow], fun k hk _ => by rw [setRow_other _ _ _ _ (by omega), Below.heap_alloc _ _ _ hk]⟩, setRow_heap _ _ _ _ _ _ (heap_alloc_new _ _), by simp [World.setRow]⟩

theorem Sd.next {w wr : World} {xs : List (List Nat)} (h : Sd w wr xs) (x : List Nat) : Sd w (wr.setRow (w.heap.size + 1) (vals .u32 (addSt (behindAll shaK xs shaH) (rnds shaK (words x 0 64) (stOf (behindAll shaK xs shaH)) 64))).toArray) (xs ++ [x]) :=
  ⟨h.below.trans ⟨rfl, rfl, rfl, by simp [World.setRow], fun k hk => setRow_other _ _ k _ (by omega)⟩, by have := h.size; simpa [World.setRow] using this, by rw [setRow_other _ _ _ _ (by omega)]; exact h.res, by rw [behindAll_snoc]; exact setRow_heap _ _ _ _ _ _ h.st⟩

theorem st_size (xs : List (List Nat)) : (Tryz.prog.info? 108).map (·.size) = some (vals .u32 (behindAll shaK xs shaH)).toArray.size := by
  rw [List.size_toArray, vals_length, behindAll_len shaK xs rfl]
  kernel_rfl

set_option maxHeartbeats 4000000 in
set_option maxRecDepth 100000 in
theorem of_aux (v : Value) (ps : List (List Nat)) (w : World) (hP : Pieces w v ps) (hx : ps.flatten.length ≤ 100000) (hpb : ∀ p ∈ ps, ∀ y ∈ p, y < 256) (hpl : ps.length ≤ 1000000) (hld : Laid w) :
    Calls Tryz.prog 43 #[v] w fun e w' => e = .returned (.agg (vals .u8 (bytesOf (behindAll shaK (chunks (ps ++ [padOf ps.flatten.length]).flatten) shaH))).toArray) ∧ Below w.heap.size w w' := by
  obtain ⟨tF, frF, hF⟩ := hld.h
  have hF2 : ∀ o : Obj, (w.alloc o).heap[0]? = some (.cells (vals .u32 shaH).toArray tF frF) := fun o => by
    rw [Below.heap_alloc _ _ _ (by have := hld.size; omega)]; exact hF
  have hH8 : (Tryz.prog.info? 107).map (·.size) = some (vals .u32 shaH).toArray.size := by kernel_rfl
  have HF := Lib.hid hF2
  have h20 := two_new w
  have h21 := Sd.new w
  unfold zeros8 zeros32l at h20
  unfold zeros8 zeros32l at h21
  have H20 := Lib.hid h20
  have H21 := Lib.hid h21
  have hst8 : (Tryz.prog.info? 108).map (·.size) = some (vals .u32 shaH).toArray.size := by kernel_rfl
  clear h20 h21
  obtain ⟨ao, cap, rfl, _, _⟩ := hP.val
  have HP := Lib.hid hP
  have HLD := Lib.hid hld
  clear hF hF2 hP hld
  refine (callsIn_wide (n := 9)).1 ?_
  refine callsIn_of_wp_marks Tryz.func43 rfl trivial ?_ rfl
  simp only [Tryz.ntmps43, List.size_toArray, List.length_cons, List.length_nil, Nat.reduceAdd, Nat.reduceSub, Array.replicate_succ, Array.replicate_zero, List.push_toArray, List.append_toArray, List.nil_append, List.cons_append]
  gi_wp2_with (first
    | ((with_reducible show wpListIn _ _ _ _ _ (Oper.mk (some 5) _ _ _ _ _ :: _) _ _); go_must (refine wpListIn_load_row rfl 107 (.global 0) rfl 0 rfl tF (vals .u32 shaH).toArray _ _ (HF.out _) Tryz.underlying107 rfl hH8 ?_))
    | ((with_reducible show wpListIn _ _ _ _ _ (Oper.mk none _ _ _ _ _ :: _) _ _); go_must (refine wpListIn_store_row rfl 108 (.tmp 3) (.tmp 5) rfl (w.heap.size + 1) (vals .u32 shaH).toArray rfl rfl _ _ H20.out hst8 rfl (srow_one _ _) ?_); generalize World.setRow _ _ _ = w1 at H21 ⊢)
    | (refine ⟨trivial, ?_⟩; gi_at_call 56; (with_reducible refine (callsIn_wide.2 (ppadded_any _ _ _ _)).mono ?_); rintro e w' ⟨rfl, rfl⟩)
    | (refine ⟨trivial, ?_⟩; gi_at_call 55; (with_reducible refine (callsIn_wide.2 (pblocks_any _ _ _ _)).mono ?_); rintro e w' ⟨rfl, rfl⟩))
  have hz1 := H21.out.size
  have hstz : Stay (fun _ => True) w1 ((w1.alloc (.cells #[.slice ao ps.length cap] 106)).alloc (.cells #[.func (.func 67) #[] #[.pointer (some ⟨w1.heap.size, 0, none⟩)]] 113)) := ((Stay.refl _ w1).alloc _).alloc _
  have hszz : ((w1.alloc (.cells #[.slice ao ps.length cap] 106)).alloc (.cells #[.func (.func 67) #[] #[.pointer (some ⟨w1.heap.size, 0, none⟩)]] 113)).heap.size = w1.heap.size + 2 := by simp
  have hcb : ((w1.alloc (.cells #[.slice ao ps.length cap] 106)).alloc (.cells #[.func (.func 67) #[] #[.pointer (some ⟨w1.heap.size, 0, none⟩)]] 113)).heap[w1.heap.size]? = some (.cells #[.slice ao ps.length cap] 106 (0, 0)) := by
    rw [Below.heap_alloc _ _ _ (by simp)]; exact heap_alloc_new _ _
  have hcp : ((w1.alloc (.cells #[.slice ao ps.length cap] 106)).alloc (.cells #[.func (.func 67) #[] #[.pointer (some ⟨w1.heap.size, 0, none⟩)]] 113)).heap[w1.heap.size + 1]? = some (.cells #[.func (.func 67) #[] #[.pointer (some ⟨w1.heap.size, 0, none⟩)]] 113 (0, 0)) := by
    have h := heap_alloc_new (w1.alloc (.cells #[.slice ao ps.length cap] 106)) (.cells #[.func (.func 67) #[] #[.pointer (some ⟨w1.heap.size, 0, none⟩)]] 113)
    rwa [World.size_alloc] at h
  have HZ : Hid _ := Lib.hid (And.intro hstz (And.intro hszz (And.intro hcb hcp)))
  clear hstz hszz hcb hcp
  generalize (w1.alloc (.cells #[.slice ao ps.length cap] 106)).alloc (.cells #[.func (.func 67) #[] #[.pointer (some ⟨w1.heap.size, 0, none⟩)]] 113) = wz at HZ ⊢
  obtain ⟨hst, hsz, hcb, hcp⟩ := HZ.out
  have hsd : Sd w wz [] := H21.out.stay hst (fun _ _ => trivial)
  refine wpIn_range (m := 8) (gf := 66) (lb := #[.pointer (some ⟨w1.heap.size + 1, 0, none⟩)]) rfl (enters_of Tryz.func66 (by kernel_rfl) rfl) (encs := fun x : List Nat => #[.agg (vals .u8 x).toArray]) (fun _ => rfl)
    (fun k => k = w.heap.size + 1) (fun k h => by omega)
    (fun _ x _ => x.length = 64 ∧ ∀ y ∈ x, y < 256) (fun xs => xs = chunks (ps ++ [padOf ps.flatten.length]).flatten)
    ?hseq
    (fun xs wr => Sd w wr xs)
    (fun s A B h k => h.stay k (fun i hi => by omega))
    hsd ?hround ?hdone
  case hseq =>
    intro J W2 st2 sz2 hJ hJz hY h0
    refine (blocks1_any (wz.heap.size + 1) w1.heap.size (w1.heap.size + 1) w W2 _ ps HP.out hx hpb hpl (fun k => k = w.heap.size + 1) ?_ (by omega) (by omega) J hJ hJz ?_ ?_ ?_ ?_ h0).mono ?_
    · rintro k (h | h)
      · exact ⟨by omega, by omega, by omega, by omega⟩
      · exact ⟨by omega, by omega, by omega, by omega⟩
    · exact (Stay.of_below hsd.below).trans (st2.mono fun _ _ _ => trivial)
    · exact cell_of_heap (st2.at hcb trivial)
    · exact cell_of_heap (st2.at hcp trivial)
    · exact fun pre x W1 hj h1 h2 => hY pre x W1 hj ⟨h1, h2⟩
    · rintro e w' ⟨hv, hj⟩
      exact ⟨hv, _, rfl, hj⟩
  case hdone =>
    rintro xs wr rfl hsd2 hz hD
    obtain ⟨S, hSe⟩ : ∃ S, S = behindAll shaK (chunks (ps ++ [padOf ps.flatten.length]).flatten) shaH := ⟨_, rfl⟩
    have hSl : S.length = 8 := by rw [hSe]; exact behindAll_len shaK _ rfl
    have hSb : ∀ y ∈ S, y < 4294967296 := by rw [hSe]; exact behindAll_lt shaK _ (by decide)
    have HST : Hid (wr.heap[w.heap.size + 1]? = some (.cells (vals .u32 S).toArray 108 (0, 0))) := Lib.hid (by rw [hSe]; exact hsd2.st)
    have hss : (Tryz.prog.info? 108).map (·.size) = some (vals .u32 S).toArray.size := by rw [hSe]; exact st_size _
    have HSE := Lib.hid hSe
    have HS2 := Lib.hid hsd2
    have HD := Lib.hid hD
    have hAl : (vals .u8 (bytesOf S)).toArray.size = 32 := by rw [List.size_toArray, vals_length]; simp [bytesOf]
    have hAs : (Tryz.prog.info? 34).map (·.size) = some (vals .u8 (bytesOf S)).toArray.size := by rw [hAl]; kernel_rfl
    have hAz : zeros32d.size = (vals .u8 (bytesOf S)).toArray.size := by rw [hAl]; exact Array.size_replicate
    have hwzs : w.heap.size + 4 ≤ wz.heap.size := by omega
    clear hSe hsd2 hD hsd hst hcb hcp HZ hAl
    gi_wp2_with (first
      | ((with_reducible show wpListIn _ _ _ _ _ (Oper.mk (some 14) _ _ _ _ _ :: _) _ _); go_must (refine wpListIn_load_row rfl 108 (.tmp 3) rfl (w.heap.size + 1) rfl _ (vals .u32 S).toArray _ _ HST.out Tryz.underlying108 rfl hss ?_))
      | (refine ⟨trivial, ?_⟩; gi_at_call 59; (with_reducible refine (callsIn_wide.2 (pdigest_any S _ hSb hSl)).mono ?_); rintro e w6 ⟨rfl, hb6⟩; have HB6 := Lib.hid hb6; clear hb6)
      | ((with_reducible show wpListIn _ _ _ _ _ (Oper.mk none _ _ _ _ _ :: _) _ _); go_must (refine wpListIn_store_row rfl 34 (.tmp 2) (.tmp 15) rfl w.heap.size (vals .u8 (bytesOf S)).toArray rfl rfl _ _ (HS2.out.stay (Stay.of_below HB6.out) (fun k hk => Nat.lt_of_lt_of_le hk HS2.out.size)).res hAs hAz (srow_one _ _) ?_)))
    have hDk : (w6.setRow w.heap.size (vals .u8 (bytesOf S)).toArray).heap[w1.heap.size + 2]? = some (.deferred (some [])) := by
      rw [setRow_other _ _ _ _ (by omega), HB6.out.block _ (by omega), ← hsz]
      exact HD.out
    have hrk : ((w6.setRow w.heap.size (vals .u8 (bytesOf S)).toArray).putObj (w1.heap.size + 2) (.deferred none)).heap[w.heap.size]? = some (.cells (vals .u8 (bytesOf S)).toArray 34 (0, 0)) := by
      rw [World.putObj_heap_other (by omega)]
      exact setRow_heap _ _ _ _ _ _ (HS2.out.stay (Stay.of_below HB6.out) (fun k hk => Nat.lt_of_lt_of_le hk HS2.out.size)).res
    refine ⟨by simp, .inl ⟨_, _, rfl, run_takeDeferred hDk, ?_⟩⟩
    refine ⟨.agg (vals .u8 (bytesOf S)).toArray, results_cell_row (p := 2) rfl _ _ w.heap.size _ _ _ _ rfl hrk Tryz.underlying34 rfl hAs, by rw [HSE.out], ?_⟩
    have hb1 : Below w.heap.size w w6 := HS2.out.below.trans (HB6.out.mono (by have := HS2.out.size; omega))
    have hb2 : Stay (fun k => k < w.heap.size) w6 ((w6.setRow w.heap.size (vals .u8 (bytesOf S)).toArray).putObj (w1.heap.size + 2) (.deferred none)) := ((Stay.refl _ w6).setRow _ _ (by omega)).put _ _ (by omega)
    exact hb1.trans (hb2.below (by have := hb1.size; omega) (fun k hk => hk))
  case hround =>
    rintro pre x W3 hsd3 hz3 ⟨hxl, hxb⟩
    have hbs : (Tryz.prog.info? 116).map (·.size) = some (vals .u8 x).toArray.size := by rw [List.size_toArray, vals_length, hxl]; kernel_rfl
    have hnew := heap_alloc_new W3 (.cells zeros64b 116)
    have hnr := new_row W3 116 zeros64b (vals .u8 x).toArray
    have hzl : zeros64b.size = (vals .u8 x).toArray.size := by
      have h : (vals .u8 x).toArray.size = 64 := by rw [List.size_toArray, vals_length, hxl]
      rw [h]; rfl
    unfold zeros64b at hnew
    unfold zeros64b at hnr
    unfold zeros64b at hzl
    have HNEW := Lib.hid hnew
    have HNR := Lib.hid hnr
    have HS3 := Lib.hid hsd3
    clear hnew hnr hsd3 hsd hst hcb hcp HZ
    gi_wp2_with ((with_reducible show wpListIn _ _ _ _ _ (Oper.mk none _ _ _ _ _ :: _) _ _); go_must (refine wpListIn_store_row rfl 116 (.tmp 4) (.tmp 9) rfl W3.heap.size (vals .u8 x).toArray rfl rfl _ _ HNEW.out hbs hzl (srow_one _ _) ?_); generalize World.setRow _ _ _ = W4 at HNR ⊢)
    refine ⟨HNR.out.1, fun W5 hs5 hz5 => ?_⟩
    have HS5 : Hid (Sd w W5 pre) := Lib.hid ((HS3.out.stay HNR.out.1 (fun _ _ => trivial)).stay hs5 (fun k hk => by omega))
    have HBX : Hid (W5.heap[W3.heap.size]? = some (.cells (vals .u8 x).toArray 116 (0, 0))) := Lib.hid (hs5.at HNR.out.2.1 (by omega))
    clear hs5 hz5 HNR HNEW HS3
    have hmx : Tryz.prog.follows .mixedOrders = true := by kernel_rfl
    have eg29 : ∀ args w, (callFunc 58 args).run Tryz.prog w = .ok (.enter 58 args) w := enters_of Tryz.func58 (by kernel_rfl) rfl
    have eg28 : ∀ args w, (callFunc 57 args).run Tryz.prog w = .ok (.enter 57 args) w := enters_of Tryz.func57 (by kernel_rfl) rfl
    gi_wp2
    have hnext : (Tryz.prog.info? 108).map (·.size) = some (vals .u32 (addSt (behindAll shaK pre shaH) (rnds shaK (words x 0 64) (stOf (behindAll shaK pre shaH)) 64))).toArray.size := by
      rw [List.size_toArray, vals_length, addSt_length]; kernel_rfl
    have hold : (vals .u32 (behindAll shaK pre shaH)).toArray.size = (vals .u32 (addSt (behindAll shaK pre shaH) (rnds shaK (words x 0 64) (stOf (behindAll shaK pre shaH)) 64))).toArray.size := by
      rw [List.size_toArray, List.size_toArray, vals_length, vals_length, addSt_length, behindAll_len shaK pre rfl]
    refine wpIn_region_any hmx ?_
    change wpAnyIn _ _ _ _ _ _ _ _ _ (World.drew _)
    refine wpAnyIn_ready (rs := [0, 1]) (by kernel_rfl) (by simp) (AllReadyIn.cons rfl (fun K hK => ?_) (AllReadyIn.cons rfl (fun K hK => ?_) AllReadyIn.nil))
    · refine opIn_load_row rfl 108 (.tmp 3) rfl (w.heap.size + 1) rfl _ (vals .u32 (behindAll shaK pre shaH)).toArray _ _ HS5.out.st Tryz.underlying108 rfl (st_size _) ?_
      refine hK _ _ ?_
      clear hK K
      refine wpAnyIn_ready (rs := [1]) (by kernel_rfl) (by simp) (AllReadyIn.cons rfl (fun K hK => ?_) AllReadyIn.nil)
      refine opIn_load_row rfl 116 (.tmp 4) rfl W3.heap.size rfl _ (vals .u8 x).toArray _ _ HBX.out Tryz.underlying116 rfl hbs ?_
      refine hK _ _ ?_
      clear hK K
      refine wpAnyIn_ready (rs := [2]) (by kernel_rfl) (by simp) (AllReadyIn.cons rfl (fun K hK => ?_) AllReadyIn.nil)
      refine opIn_call rfl rfl eg29 (map1 _ _ _ rfl) (words_any x _ hxb hxl) ?_
      rintro e w6 ⟨rfl, hb6⟩
      refine ⟨_, rfl, hK _ _ ?_⟩
      clear hK K
      have hs6 : Stay (fun _ => True) W5 w6 := (Stay.refl _ W5).drew.more hb6
      have HS6 := Lib.hid (HS5.out.stay hs6 (fun _ _ => trivial))
      refine wpAnyIn_ready (rs := [3]) (by kernel_rfl) (by simp) (AllReadyIn.cons rfl (fun K hK => ?_) AllReadyIn.nil)
      refine opIn_call rfl rfl eg28 (map2 _ _ _ _ _ rfl rfl) (behind_any (behindAll shaK pre shaH) (words x 0 64) _ (behindAll_lt shaK pre (by decide)) (behindAll_len shaK pre rfl) (words_lt hxb 0 64) (words_length x 0 64) (HLD.out.next HS6.out.below)) ?_
      rintro e w7 ⟨rfl, hb7⟩
      refine ⟨_, rfl, hK _ _ ?_⟩
      clear hK K
      have hs7 : Stay (fun _ => True) W5 w7 := hs6.more hb7
      have HS7 := Lib.hid (HS5.out.stay hs7 (fun _ _ => trivial))
      refine wpAnyIn_ready (rs := [4]) (by kernel_rfl) (by simp) (AllReadyIn.cons rfl (fun K hK => ?_) AllReadyIn.nil)
      refine opIn_store_row rfl 108 (.tmp 3) (.tmp 13) rfl (w.heap.size + 1) (vals .u32 (addSt (behindAll shaK pre shaH) (rnds shaK (words x 0 64) (stOf (behindAll shaK pre shaH)) 64))).toArray rfl rfl _ _ HS7.out.st hnext hold (srow_one _ _) ?_
      refine hK _ _ ?_
      clear hK K
      refine wpAnyIn_done (by kernel_rfl) ?_ _
      exact ⟨(hs7.mono fun _ _ _ => trivial).setRow _ _ (fun h => h rfl), HS7.out.next x⟩
    · refine opIn_load_row rfl 116 (.tmp 4) rfl W3.heap.size rfl _ (vals .u8 x).toArray _ _ HBX.out Tryz.underlying116 rfl hbs ?_
      refine hK _ _ ?_
      clear hK K
      refine wpAnyIn_ready (rs := [0, 2]) (by kernel_rfl) (by simp) (AllReadyIn.cons rfl (fun K hK => ?_) (AllReadyIn.cons rfl (fun K hK => ?_) AllReadyIn.nil))
      · refine opIn_load_row rfl 108 (.tmp 3) rfl (w.heap.size + 1) rfl _ (vals .u32 (behindAll shaK pre shaH)).toArray _ _ HS5.out.st Tryz.underlying108 rfl (st_size _) ?_
        refine hK _ _ ?_
        clear hK K
        refine wpAnyIn_ready (rs := [2]) (by kernel_rfl) (by simp) (AllReadyIn.cons rfl (fun K hK => ?_) AllReadyIn.nil)
        refine opIn_call rfl rfl eg29 (map1 _ _ _ rfl) (words_any x _ hxb hxl) ?_
        rintro e w6 ⟨rfl, hb6⟩
        refine ⟨_, rfl, hK _ _ ?_⟩
        clear hK K
        have hs6 : Stay (fun _ => True) W5 w6 := (Stay.refl _ W5).drew.more hb6
        have HS6 := Lib.hid (HS5.out.stay hs6 (fun _ _ => trivial))
        refine wpAnyIn_ready (rs := [3]) (by kernel_rfl) (by simp) (AllReadyIn.cons rfl (fun K hK => ?_) AllReadyIn.nil)
        refine opIn_call rfl rfl eg28 (map2 _ _ _ _ _ rfl rfl) (behind_any (behindAll shaK pre shaH) (words x 0 64) _ (behindAll_lt shaK pre (by decide)) (behindAll_len shaK pre rfl) (words_lt hxb 0 64) (words_length x 0 64) (HLD.out.next HS6.out.below)) ?_
        rintro e w7 ⟨rfl, hb7⟩
        refine ⟨_, rfl, hK _ _ ?_⟩
        clear hK K
        have hs7 : Stay (fun _ => True) W5 w7 := hs6.more hb7
        have HS7 := Lib.hid (HS5.out.stay hs7 (fun _ _ => trivial))
        refine wpAnyIn_ready (rs := [4]) (by kernel_rfl) (by simp) (AllReadyIn.cons rfl (fun K hK => ?_) AllReadyIn.nil)
        refine opIn_store_row rfl 108 (.tmp 3) (.tmp 13) rfl (w.heap.size + 1) (vals .u32 (addSt (behindAll shaK pre shaH) (rnds shaK (words x 0 64) (stOf (behindAll shaK pre shaH)) 64))).toArray rfl rfl _ _ HS7.out.st hnext hold (srow_one _ _) ?_
        refine hK _ _ ?_
        clear hK K
        refine wpAnyIn_done (by kernel_rfl) ?_ _
        exact ⟨(hs7.mono fun _ _ _ => trivial).setRow _ _ (fun h => h rfl), HS7.out.next x⟩
      · refine opIn_call rfl rfl eg29 (map1 _ _ _ rfl) (words_any x _ hxb hxl) ?_
        rintro e w6 ⟨rfl, hb6⟩
        refine ⟨_, rfl, hK _ _ ?_⟩
        clear hK K
        have hs6 : Stay (fun _ => True) W5 w6 := (Stay.refl _ W5).drew.more hb6
        have HS6 := Lib.hid (HS5.out.stay hs6 (fun _ _ => trivial))
        refine wpAnyIn_ready (rs := [0]) (by kernel_rfl) (by simp) (AllReadyIn.cons rfl (fun K hK => ?_) AllReadyIn.nil)
        refine opIn_load_row rfl 108 (.tmp 3) rfl (w.heap.size + 1) rfl _ (vals .u32 (behindAll shaK pre shaH)).toArray _ _ HS6.out.st Tryz.underlying108 rfl (st_size _) ?_
        refine hK _ _ ?_
        clear hK K
        refine wpAnyIn_ready (rs := [3]) (by kernel_rfl) (by simp) (AllReadyIn.cons rfl (fun K hK => ?_) AllReadyIn.nil)
        refine opIn_call rfl rfl eg28 (map2 _ _ _ _ _ rfl rfl) (behind_any (behindAll shaK pre shaH) (words x 0 64) _ (behindAll_lt shaK pre (by decide)) (behindAll_len shaK pre rfl) (words_lt hxb 0 64) (words_length x 0 64) (HLD.out.next HS6.out.below)) ?_
        rintro e w7 ⟨rfl, hb7⟩
        refine ⟨_, rfl, hK _ _ ?_⟩
        clear hK K
        have hs7 : Stay (fun _ => True) W5 w7 := hs6.more hb7
        have HS7 := Lib.hid (HS5.out.stay hs7 (fun _ _ => trivial))
        refine wpAnyIn_ready (rs := [4]) (by kernel_rfl) (by simp) (AllReadyIn.cons rfl (fun K hK => ?_) AllReadyIn.nil)
        refine opIn_store_row rfl 108 (.tmp 3) (.tmp 13) rfl (w.heap.size + 1) (vals .u32 (addSt (behindAll shaK pre shaH) (rnds shaK (words x 0 64) (stOf (behindAll shaK pre shaH)) 64))).toArray rfl rfl _ _ HS7.out.st hnext hold (srow_one _ _) ?_
        refine hK _ _ ?_
        clear hK K
        refine wpAnyIn_done (by kernel_rfl) ?_ _
        exact ⟨(hs7.mono fun _ _ _ => trivial).setRow _ _ (fun h => h rfl), HS7.out.next x⟩
    
/-- **The digest of parts: that of the text that they are.** -/
theorem ofS_any (v : Value) (ps : List (List Nat)) (w : World) (hP : Pieces w v ps) (hx : ps.flatten.length ≤ 100000) (hpb : ∀ p ∈ ps, ∀ y ∈ p, y < 256) (hpl : ps.length ≤ 1000000) (hld : Laid w) :
    Calls Tryz.prog 43 #[v] w fun e w' => e = .returned (.agg (vals .u8 (shaOf shaK shaH ps.flatten)).toArray) ∧ Below w.heap.size w w' := by
  have h : bytesOf (behindAll shaK (chunks (ps ++ [padOf ps.flatten.length]).flatten) shaH) = shaOf shaK shaH ps.flatten := by
    rw [behindAll_all, List.flatten_append, show [padOf ps.flatten.length].flatten = padOf ps.flatten.length from by simp, ← padded_pad]
    rfl
  rw [← h]
  exact of_aux v ps w hP hx hpb hpl hld

theorem res_new (w : World) : (w.alloc (.cells zeros32l 34)).heap[w.heap.size]? = some (.cells zeros32l 34 (0, 0)) ∧ (w.alloc (.cells zeros32l 34)).heap.size = w.heap.size + 1 ∧ Below w.heap.size w (w.alloc (.cells zeros32l 34)) :=
  ⟨heap_alloc_new _ _, by simp, (Below.refl _ _).alloc (Nat.le_refl _) _⟩
/-- The answer's block: laid, and what the callee answered stored into it. -/
theorem res_put {w W1 w2 : World} {A : Array Value} (h1 : W1.heap.size = w.heap.size + 1) (hb1 : Below w.heap.size w W1) (hb2 : Below W1.heap.size W1 w2) : Below w.heap.size w (w2.setRow w.heap.size A) :=
  (hb1.trans (hb2.mono (by omega))).trans ⟨rfl, rfl, rfl, by simp [World.setRow], fun k hk => setRow_other _ _ k _ (by omega)⟩

set_option maxHeartbeats 1000000 in
set_option maxRecDepth 100000 in
theorem sumS_any (v : Value) (l : List Nat) (w : World) (hr : Reads w .u8 v l) (hx : l.length ≤ 100000) (hl : ∀ y ∈ l, y < 256) (hld : Laid w) :
    Calls Tryz.prog 31 #[v] w fun e w' => e = .returned (.agg (vals .u8 (shaOf shaK shaH l)).toArray) ∧ Below w.heap.size w w' := by
  obtain ⟨ao, cap, rfl, _, _, _⟩ := hr.val
  have hf : [l].flatten = l := by simp
  have ho := fun (w : World) (hr : Reads w .u8 (.slice ao l.length cap) l) (hld : Laid w) => ofS_any _ [l] _ (pieces_one w 61 _ l hr) (by rw [hf]; exact hx) (by intro p hp y hy; obtain rfl := List.mem_singleton.1 hp; exact hl y hy) (by simp) (hld.next ((Below.refl _ _).alloc (Nat.le_refl _) _))
  rw [hf] at ho
  obtain ⟨D, hD⟩ : ∃ D, D = shaOf shaK shaH l := ⟨_, rfl⟩
  have hDl : D.length = 32 := by rw [hD]; simp [shaOf, bytesOf]
  rw [← hD] at ho ⊢
  have hAs : (Tryz.prog.info? 34).map (·.size) = some (vals .u8 D).toArray.size := by rw [List.size_toArray, vals_length, hDl]; kernel_rfl
  have HO := Lib.hid ho
  clear ho hf hD
  go_enter Tryz.func31, Tryz.ntmps31
  have hres := res_new w
  unfold zeros32l at hres
  have HRES := Lib.hid hres
  clear hres
  go_wp2_with fail
  generalize w.alloc (.cells _ 34) = W1 at HRES ⊢
  obtain ⟨hc1, hs1, hb1⟩ := HRES.out
  have hO := HO.out W1 (hr.below hb1 (Nat.le_refl _)) (hld.next hb1)
  rw [hs1] at hO
  have HC1 := Lib.hid hc1
  have HS1 := Lib.hid hs1
  have HB1 := Lib.hid hb1
  clear hc1 hs1 hb1 HO HRES
  refine hO.mono ?_
  rintro e w2 ⟨rfl, hb2⟩
  have hb2' : Below W1.heap.size W1 w2 := ((Below.refl W1.heap.size W1).alloc (Nat.le_refl _) _).trans (hb2.mono (by simp))
  have HR2 : Hid (w2.heap[w.heap.size]? = _) := Lib.hid ((hb2'.block w.heap.size (by have := HS1.out; omega)).trans HC1.out)
  have HB2 := Lib.hid hb2'
  have hAz : (#[.int .u8 0, .int .u8 0, .int .u8 0, .int .u8 0, .int .u8 0, .int .u8 0, .int .u8 0, .int .u8 0, .int .u8 0, .int .u8 0, .int .u8 0, .int .u8 0, .int .u8 0, .int .u8 0, .int .u8 0, .int .u8 0, .int .u8 0, .int .u8 0, .int .u8 0, .int .u8 0, .int .u8 0, .int .u8 0, .int .u8 0, .int .u8 0, .int .u8 0, .int .u8 0, .int .u8 0, .int .u8 0, .int .u8 0, .int .u8 0, .int .u8 0, .int .u8 0] : Array Value).size = (vals .u8 D).toArray.size := by
    have h : (vals .u8 D).toArray.size = 32 := by rw [List.size_toArray, vals_length, hDl]
    rw [h]; rfl
  clear hb2 hb2' hO
  go_wp2_with ((with_reducible show wpList _ _ _ (Oper.mk none _ _ _ _ _ :: _) _ _); go_must (refine wpList_store_row rfl 34 (.tmp 2) (.tmp 5) rfl w.heap.size (vals .u8 D).toArray rfl rfl _ _ HR2.out hAs hAz (srow_one _ _) ?_))
  refine bodyPost_ret (v := .agg (vals .u8 D).toArray) (results_cell_row (p := 2) rfl _ _ w.heap.size _ _ _ _ rfl (setRow_heap _ _ _ _ _ _ HR2.out) Tryz.underlying34 rfl hAs) rfl ?_
  exact ⟨rfl, res_put HS1.out HB1.out HB2.out⟩

end Go.Proofs.YtgnalcobcdgnkaaGreatDoor
