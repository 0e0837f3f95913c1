/- The document's own tables (the reference package). -/
import Derived.Test.YtjhipfgmiilmdaaDoorShaA
import Derived.Maps.AppendAt
namespace Go.Proofs.YtjhipfgmiilmdaaDoor
open Go.RowKit

/-- A walk of an append onto a row that the call owns, and where the row lies then. -/
theorem wpList_app_at {P : Program} (w : World) {ops : Array Oper} {rest : List Oper} {o : Oper} {a : Act} {Q : Exit → Act → World → Prop} (hgd : o.guard = none) (s x : Operand) (t : TypeId)
    (ho : o.op = .call { callee := .builtin .append, args := #[s, x], argTypes := #[t, t] })
    (base : Nat) (e : TypeId) (z : Value) (bytes : Nat) (ht : P.underlying t = some (.slice e)) (hinfo : (P.info? e).map (fun i => (i.zero, i.size, i.bytes)) = some (some z, 1, bytes)) (hzs : z.cells.size = 1)
    (k : IntKind) (v : Value) (xs : List Nat) (hs : a.eval s = v) (hown : Owns w base e k v xs)
    (ad : Addr) (c : Nat) (n : Nat) (hx : a.eval x = .slice (some ad) 1 c) (hr : w.cell? ad = some (.int k (n : Int)))
    (hb0 : 0 < bytes) (hbytes : (xs.length + 1) * bytes ≤ 140737488355328) (hbase : base ≤ w.heap.size)
    (h : ∀ v' w', Owns w' base e k v' (xs ++ [n]) → w.grownBy w' v.ownBlock → (v'.ownBlock = v.ownBlock ∨ v'.ownBlock = some w.heap.size) → wpList P ops Q rest (a.put o.dst v') w') : wpList P ops Q (o :: rest) a w := by
  obtain ⟨i, hi, hz, hsz, hby⟩ := info_parts hinfo
  have h63 : xs.length + 1 ≤ 140737488355328 := Nat.le_trans (Nat.le_mul_of_pos_right _ hb0) hbytes
  refine wpList_append_own_at w hgd s x t ho base e i z 1 bytes ht hi hz hsz hby hzs (by decide) v xs.length (vals k xs) hs hown ad 1 c [.int k (n : Int)] hx rfl ?_ ?_ (by simp only [maxLen]; omega) hbytes hbase ?_
  · intro j u hu
    match j with
    | 0 =>
      simp only [List.getElem?_cons_zero, Option.some.injEq] at hu
      subst hu
      simpa [Addr.add] using hr
    | j + 1 => simp at hu
  · intro u hu
    simp only [List.mem_singleton] at hu
    subst hu
    exact vals_oneCell k [n] _ (by simp [vals])
  · intro v' w' hown' hg _ hat
    refine h v' w' ?_ hg hat
    unfold Owns
    rw [List.length_append, vals_append]
    exact hown'

theorem info_u32 : (Tryd.prog.info? 37).map (fun i => (i.zero, i.size, i.bytes)) = some (some (.int .u32 0), 1, 4) := by kernel_rfl

theorem take_snoc (l : List Nat) (k : Nat) (h : k < l.length) : l.take (k + 1) = l.take k ++ [l.getD k 0] := by
  rw [List.take_succ_eq_append_getElem h, List.getD_eq_getElem?_getD, List.getElem?_eq_getElem h]
  rfl

theorem cell_one (w : World) (e : TypeId) (k : IntKind) (n : Nat) : (w.alloc (.cells #[.int k (n : Int)] e)).cell? ⟨w.heap.size, 0, none⟩ = some (.int k (n : Int)) := by
  rw [World.cell?_alloc_at _ _ _ _ rfl]; rfl

set_option maxHeartbeats 400000 in
set_option maxRecDepth 100000 in
theorem tables_any (w : World) :
    Calls Tryd.prog 8 #[] w fun e w' => ∃ v1 v2, e = .returned (.tuple #[v1, v2]) ∧ Owns w' w.heap.size 37 .u32 v1 shaK ∧ Owns w' w.heap.size 37 .u32 v2 shaH ∧ Below w.heap.size w w' := by
  go_enter Tryd.func8, Tryd.ntmps8
  go_wp2
  go_loopw [2, 4] (fun v iv wr => ∃ i : Nat, i ≤ 64 ∧ iv = .int .i64 (i : Int) ∧ Owns wr w.heap.size 37 .u32 v (shaK.take i) ∧ v.ownBlock ≠ some (w.heap.size + 1) ∧ Owns wr w.heap.size 37 .u32 (.slice (some ⟨w.heap.size + 1, 0, none⟩) 0 0) [] ∧ w.heap.size + 2 ≤ wr.heap.size ∧ Below w.heap.size w wr)
    (fun _ iv _ => 64 - (intOf iv).toNat)
  case atStart =>
    refine ⟨0, by omega, rfl, ?_, ?_, ?_, ?_, ?_⟩
    · exact (owns_empty w w.heap.size 37 .u32 (Nat.le_refl _)).alloc _
    · simp [Value.ownBlock]
    · have := owns_empty (w.alloc (.cells #[] 37)) w.heap.size 37 .u32 (by simp)
      simpa using this
    · simp
    · exact ((Below.refl _ _).alloc (Nat.le_refl _) _).alloc (by simp) _
  case round =>
    obtain ⟨i, hi, rfl, ho, hne, ho2, hsz, hd⟩ := hrel
    by_cases hlt : i < 64
    · have hlti : (i : Int) < 64 := by omega
      have HT := Lib.hid (take_snoc shaK i (by rw [show shaK.length = 64 from rfl]; exact hlt))
      have HC := Lib.hid (cube_is i hlt)
      generalize shaK.getD i 0 = c at HT HC
      have hpr := prime_any i hlt wr
      generalize primesQ.getD (i + 1) 0 = q at hpr HC
      have HPR := Lib.hid hpr; clear hpr
      have hlen : (shaK.take i).length ≤ 64 := by rw [List.length_take]; omega
      generalize shaK.take i = K at ho hlen HT
      go_wp2_with fail
      refine HPR.out.mono ?_
      rintro e w' ⟨rfl, rfl⟩
      go_wp2_with fail
      refine (cube_any _ wr).mono ?_
      rw [HC.out]
      rintro e w' ⟨rfl, rfl⟩
      go_wp2_with (at_builtin; go_must (refine wpList_app_at _ rfl _ _ 25 rfl w.heap.size 37 (.int .u32 0) 4 Tryd.underlying25 info_u32 rfl .u32 _ K rfl (ho.alloc _) ⟨wr.heap.size, 0, none⟩ _ c rfl (cell_one _ _ _ _) (by decide) ?c1 ?c3 ?_))
      case c1 => omega
      case c3 => simp; omega
      intro v' w1 ho1 hg hat
      have hne1 : v'.ownBlock ≠ some (w.heap.size + 1) := by
        rcases hat with h | h
        · rw [h]; exact hne
        · rw [h]; simp; omega
      have ho21 := (ho2.alloc (.cells #[.int .u32 (c : Int)] 37)).grown hg (.inr (fun h => hne h.symm))
      have hd1 : Below w.heap.size w w1 := (hd.alloc (by omega) _).grown hg (by simp; omega) (fun j hj => (ho.lt j hj).1)
      have hs1 : w.heap.size + 2 ≤ w1.heap.size := Nat.le_trans (by simp; omega) hg.size
      go_wp2
      go_roundw
      case rel => exact ⟨i + 1, by omega, by go_num, by rw [HT.out]; exact ho1, hne1, ho21, hs1, hd1⟩
      case measure => simp [intOf]; omega
    · have h64 : i = 64 := by omega
      rw [h64, show shaK.take 64 = shaK from rfl] at ho
      have hii : (i : Int) = 64 := by omega
      rw [hii]
      clear hii h64 hi hlt
      have HO := Lib.hid ho
      have HO2 := Lib.hid ho2
      have HD := Lib.hid hd
      have HNE := Lib.hid hne
      clear ho ho2 hd hne
      go_wp2
      go_loopw [3, 5] (fun v2 iv wr2 => ∃ i : Nat, i ≤ 8 ∧ iv = .int .i64 (i : Int) ∧ Owns wr2 w.heap.size 37 .u32 v2 (shaH.take i) ∧ v2.ownBlock ≠ u2.ownBlock ∧ Owns wr2 w.heap.size 37 .u32 u2 shaK ∧ w.heap.size + 2 ≤ wr2.heap.size ∧ Below w.heap.size w wr2)
        (fun _ iv _ => 8 - (intOf iv).toNat)
      case atStart => exact ⟨0, by omega, rfl, HO2.out, fun h => HNE.out (h.symm.trans rfl), HO.out, hsz, HD.out⟩
      case round =>
        obtain ⟨i, hi, rfl, ho, hne, ho2, hsz, hd⟩ := hrel
        by_cases hlt : i < 8
        · have hlti : (i : Int) < 8 := by omega
          have HT := Lib.hid (take_snoc shaH i (by rw [show shaH.length = 8 from rfl]; exact hlt))
          have HC := Lib.hid (square_is i hlt)
          generalize shaH.getD i 0 = c at HT HC
          have hpr := prime_any i (by omega) wr
          generalize primesQ.getD (i + 1) 0 = q at hpr HC
          have HPR := Lib.hid hpr; clear hpr
          have hlen : (shaH.take i).length ≤ 8 := by rw [List.length_take]; omega
          generalize shaH.take i = K at ho hlen HT
          go_wp2_with fail
          refine HPR.out.mono ?_
          rintro e w' ⟨rfl, rfl⟩
          go_wp2_with fail
          refine (square_any _ wr).mono ?_
          rw [HC.out]
          rintro e w' ⟨rfl, rfl⟩
          go_wp2_with (at_builtin; go_must (refine wpList_app_at _ rfl _ _ 25 rfl w.heap.size 37 (.int .u32 0) 4 Tryd.underlying25 info_u32 rfl .u32 _ K rfl (ho.alloc _) ⟨wr.heap.size, 0, none⟩ _ c rfl (cell_one _ _ _ _) (by decide) ?c1 ?c3 ?_))
          case c1 => omega
          case c3 => simp; omega
          intro v' w1 ho1 hg hat
          have hne1 : v'.ownBlock ≠ u2.ownBlock := by
            rcases hat with h | h
            · rw [h]; exact hne
            · rw [h]
              intro h2
              have := (ho2.lt _ h2.symm).2
              first | omega | (simp at this; done) | (simp at this; omega)
          have ho21 := (ho2.alloc (.cells #[.int .u32 (c : Int)] 37)).grown hg (.inr (fun h => hne h.symm))
          have hd1 : Below w.heap.size w w1 := (hd.alloc (by omega) _).grown hg (by simp; omega) (fun j hj => (ho.lt j hj).1)
          have hs1 : w.heap.size + 2 ≤ w1.heap.size := Nat.le_trans (by simp; omega) hg.size
          go_wp2
          go_roundw
          case rel => exact ⟨i + 1, by omega, by go_num, by rw [HT.out]; exact ho1, hne1, ho21, hs1, hd1⟩
          case measure => simp [intOf]; omega
        · obtain rfl : i = 8 := by omega
          rw [show shaH.take 8 = shaH from rfl] at ho
          have HO := Lib.hid ho
          have HO2 := Lib.hid ho2
          have HD := Lib.hid hd
          clear ho ho2 hd hne
          go_wp2
          go_ret2
          exact ⟨_, _, rfl, HO2.out, HO.out, HD.out⟩

end Go.Proofs.YtjhipfgmiilmdaaDoor
