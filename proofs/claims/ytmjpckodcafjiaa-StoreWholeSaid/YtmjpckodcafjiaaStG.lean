/- The store's List, Has and Disk. -/
import Derived.Test.YtmjpckodcafjiaaStD
import Derived.Test.YtmjpckodcafjiaaRec
namespace Go.Proofs.Ytmjpckodcafjiaa
open Go.RowKit

theorem infoStrN : (Try.prog.info? 9).map (fun i => (i.zero, i.size, i.bytes)) = some (some (.string { data := #[] }), 1, 16) := by kernel_rfl
theorem nms_flat : ∀ ns : List Nm, (ns.map fun x => [nmV x]).flatten = ns.map nmV
  | [] => rfl
  | x :: r => by simp [nms_flat r]
theorem nms_own {w : World} {base : Nat} {v : Value} {ns : List Nm} : NmsO w base v ns ↔ RecOwn w base 9 1 v (ns.map fun x => [nmV x]) := by
  unfold RecOwn
  rw [List.length_map, nms_flat]
  exact ⟨fun h => ⟨by simp, h⟩, fun h => h.2⟩
theorem wpList_appN (w : World) {ops : Array Oper} {rest : List Oper} {o : Oper} {a : Act} {Q : Exit → Act → World → Prop} (hgd : o.guard = none) (s x : Operand)
    (ho : o.op = .call { callee := .builtin .append, args := #[s, x], argTypes := #[50, 50] })
    (base : Nat) (v : Value) (l : List Nm) (hs : a.eval s = v) (W : World) (f : Nm) (hW : w = W.alloc (.cells #[nmV f] 9)) (hown : NmsO W base v l)
    (hx : a.eval x = .slice (some ⟨W.heap.size, 0, none⟩) 1 1) (hlen : l.length ≤ 1000000) (hbase : base ≤ W.heap.size)
    (h : ∀ v' w', NmsO w' base v' (l ++ [f]) → Below base W w' → wpList Try.prog ops Q rest (a.put o.dst v') w') : wpList Try.prog ops Q (o :: rest) a w := by
  subst hW
  have h0 := nms_own.1 hown
  refine wpList_appRec _ hgd s x 50 ho base 9 _ 1 16 Try.underlying50 infoStrN rfl (by decide) v (l.map fun x => [nmV x]) hs (RecOwn.keep h0 fun j hj => Below.heap_alloc _ _ _ (RecOwn.block h0 hj).2.1) [nmV f] rfl (by simp [Value.oneCell', nmV]) ⟨W.heap.size, 0, none⟩ hx (rec_cell W [nmV f] _) (by rw [List.length_map]; simp only [maxLen]; omega) (by rw [List.length_map]; omega) (by simp; omega) ?_
  intro v' w' ho' hg' _
  refine h v' w' (nms_own.2 (by rw [List.map_append]; exact ho')) ?_
  have hal : Below base W (W.alloc (.cells #[nmV f] 9)) := (Below.refl _ _).alloc hbase _
  exact hal.grown hg' (Nat.le_trans hbase (by simp)) fun j hj => (RecOwn.block h0 hj).1

def beginB (b x : Nm) : Bool := decide (b.length ≤ x.length) && x.take b.length == b
def listP (b x : Nm) : Bool := snamed x && beginB b x
def slist (d : DS) (b : Nm) : List Nm × Nat := if (dlist d).2 ≠ 0 then ([], (dlist d).2) else ((dlist d).1.filter (listP b), 0)
theorem take_next {ns : List Nm} {k : Nat} {x : Nm} (h : ns[k]? = some x) : ns.take (k + 1) = ns.take k ++ [x] := by rw [List.take_add_one, h]; rfl

set_option maxHeartbeats 4000000 in
set_option maxRecDepth 100000 in
theorem list_store {w : World} {S : Nat → Prop} {p q : Nat} {d : DS} (h : Dk w S p d) (hs : AtS w q p) (hsz : d.sz ≤ 500000) (b : Nm) :
    Calls Try.prog 20 #[.pointer (some ⟨q, 0, none⟩), nmV b] w (ListPost (slist d b) w) := by
  have HL := Lib.hid (listD_any h (by omega))
  have HNM := Lib.hid h.names
  have HNL : Hid ((dlist d).1.length ≤ 500000) := Lib.hid (Nat.le_trans (dlist_length d) hsz)
  obtain ⟨ns, hns⟩ : ∃ ns, ns = (dlist d).1 := ⟨_, rfl⟩
  obtain ⟨c, hc⟩ : ∃ c, c = (dlist d).2 := ⟨_, rfl⟩
  have hdl : dlist d = (ns, c) := by rw [hns, hc]
  rw [← hns] at HNM HNL
  rw [hdl] at HL
  have HSO : Hid (slist d b = if c ≠ 0 then ([], c) else (ns.filter (listP b), 0)) := Lib.hid (by unfold slist; rw [hdl])
  have c0 := hs.1
  obtain ⟨sb, hsb⟩ : ∃ sb : ByteArray, nmV b = .string sb := ⟨_, rfl⟩
  have HSB := Lib.hid hsb
  rw [hsb]
  clear h hs hsz hns hc hdl hsb
  go_enter Try.func20, Try.ntmps20
  go_wp2_with fail
  refine HL.out.mono ?_
  rintro e w1 ⟨v, rfl, ho, hb⟩
  obtain ⟨ao, cap, rfl⟩ := ho.val
  have HO := Lib.hid ho
  have HB := Lib.hid hb
  clear ho hb
  by_cases hz : c ≠ 0
  · have HE : Hid (slist d b = ([], c)) := Lib.hid (by rw [HSO.out, if_pos hz])
    simp only []
    rw [errV_pos hz]
    have HZ := Lib.hid hz
    clear hz c0
    go_wp2
    go_ret2
    rw [HE.out]
    exact ⟨.slice none 0 0, by rw [errV_pos HZ.out]; rfl, World.ownsRow_nil _ _ _ _, HB.out⟩
  · have hz0 : c = 0 := by omega
    have HE : Hid (slist d b = (ns.filter (listP b), 0)) := Lib.hid (by rw [HSO.out, if_neg hz])
    simp only []
    rw [hz0, errV_zero]
    obtain ⟨bs, hbs⟩ : ∃ bs, bs = w1.heap.size := ⟨_, rfl⟩
    have HBS := Lib.hid hbs
    have HN0 : Hid (NmsO w1 bs (.slice none 0 0) []) := Lib.hid (nms_nil w1 bs)
    clear hz hz0 c0 hbs
    go_wp2
    go_loopw [8, 10, 27] (fun ov _ i wr => ∃ k : Nat, k ≤ ns.length ∧ i = .int .i64 (k : Int) ∧ NmsO wr bs ov ((ns.take k).filter (listP b)) ∧ Below bs w1 wr)
      (fun _ _ i _ => ns.length - (intOf i).toNat)
    case atStart => exact ⟨0, Nat.zero_le _, rfl, HN0.out, Below.refl _ _⟩
    case round =>
      obtain ⟨k, hk, rfl, hout, hbz⟩ := hrel
      obtain ⟨oo, oc, rfl⟩ := hout.val
      have HOU := Lib.hid hout
      have HBZ := Lib.hid hbz
      by_cases hlt : k < ns.length
      · obtain ⟨x, hx⟩ : ∃ x, ns[k]? = some x := ⟨_, List.getElem?_eq_getElem hlt⟩
        obtain ⟨g, rfl, _, hgl, e0⟩ := HO.out.at hx
        have e0 := (hbz.cell (p := ⟨g, k, none⟩) (by rw [HBS.out]; exact hgl)).trans e0
        have hxl := HNM.out x (List.mem_of_getElem? hx)
        have hnm := fun W => snamed_any x hxl W
        have hpf := fun W => hasPrefix_any x b W
        obtain ⟨s, hs⟩ : ∃ s : ByteArray, nmV x = .string s := ⟨_, rfl⟩
        rw [hs] at e0
        simp only [hs] at hnm
        simp only [hs, HSB.out] at hpf
        have hpf' : ∀ W, Calls Try.prog 57 #[.string s, .string sb] W fun e w' => e = .returned (.bool (beginB b x)) ∧ w' = W := hpf
        have htk := take_next hx
        have HTK : Hid ((ns.take (k + 1)).filter (listP b) = (ns.take k).filter (listP b) ++ (if listP b x then [x] else [])) := Lib.hid (by
          rw [htk, List.filter_append]
          congr 1
          by_cases hp : listP b x = true
          · rw [if_pos hp, List.filter_cons_of_pos hp]; rfl
          · rw [if_neg hp, List.filter_cons_of_neg hp]; rfl)
        have HLEN : Hid (((ns.take k).filter (listP b)).length ≤ 1000000) := Lib.hid (Nat.le_trans (List.length_filter_le _ _) (by rw [List.length_take]; have := HNL.out; omega))
        have hlti : (k : Int) < ns.length := by omega
        have HNMX := Lib.hid hnm
        have HPF := Lib.hid hpf'
        have HS := Lib.hid hs
        have HK := Lib.hid hlt
        have HPD : Hid (listP b x = (snamed x && beginB b x)) := Lib.hid rfl
        clear hx hgl hxl hnm hpf hpf' htk hs hout hbz
        go_wp2_with fail
        refine (HNMX.out _).mono ?_
        rintro e wr ⟨rfl, rfl⟩
        cases hsn : snamed x
        · have HT : Hid (NmsO wr bs (.slice oo ((ns.take k).filter (listP b)).length oc) ((ns.take (k + 1)).filter (listP b))) := Lib.hid (by rw [HTK.out, HPD.out, hsn]; simpa using HOU.out)
          clear hsn
          go_wp2
          go_roundw
          case rel => exact ⟨k + 1, HK.out, congrArg (Value.int .i64) (wrap_succM k (Nat.le_trans (Nat.le_of_lt HK.out) (Nat.le_trans HNL.out (by decide)))), HT.out, HBZ.out⟩
          case measure => exact meas_succM HK.out (Nat.le_trans (Nat.le_of_lt HK.out) (Nat.le_trans HNL.out (by decide)))
        · have HSN := Lib.hid hsn
          clear hsn
          go_wp2_with fail
          refine (HPF.out _).mono ?_
          rintro e wr ⟨rfl, rfl⟩
          cases hbg : beginB b x
          · have HT : Hid (NmsO wr bs (.slice oo ((ns.take k).filter (listP b)).length oc) ((ns.take (k + 1)).filter (listP b))) := Lib.hid (by rw [HTK.out, HPD.out, HSN.out, hbg]; simpa using HOU.out)
            clear hbg
            go_wp2
            go_roundw
            case rel => exact ⟨k + 1, HK.out, congrArg (Value.int .i64) (wrap_succM k (Nat.le_trans (Nat.le_of_lt HK.out) (Nat.le_trans HNL.out (by decide)))), HT.out, HBZ.out⟩
            case measure => exact meas_succM HK.out (Nat.le_trans (Nat.le_of_lt HK.out) (Nat.le_trans HNL.out (by decide)))
          · have HT : Hid ((ns.take (k + 1)).filter (listP b) = (ns.take k).filter (listP b) ++ [x]) := Lib.hid (by rw [HTK.out, HPD.out, HSN.out, hbg]; rfl)
            clear hbg
            go_wp2_with (at_builtin; go_must (refine wpList_appN _ rfl _ _ rfl bs _ _ rfl wr x (by rw [HS.out]) HOU.out rfl HLEN.out (by rw [HBS.out]; exact HBZ.out.size) ?_))
            intro v2 w2 ho2 hb2
            rw [← HT.out] at ho2
            have HO2 := Lib.hid ho2
            have HB2 := Lib.hid (HBZ.out.trans hb2)
            clear ho2 hb2
            go_wp2
            go_roundw
            case rel => exact ⟨k + 1, HK.out, congrArg (Value.int .i64) (wrap_succM k (Nat.le_trans (Nat.le_of_lt HK.out) (Nat.le_trans HNL.out (by decide)))), HO2.out, HB2.out⟩
            case measure => exact meas_succM HK.out (Nat.le_trans (Nat.le_of_lt HK.out) (Nat.le_trans HNL.out (by decide)))
      · obtain rfl : k = ns.length := by omega
        have HT : Hid (NmsO wr bs (.slice oo ((ns.take ns.length).filter (listP b)).length oc) (ns.filter (listP b))) := Lib.hid (by have := hout; rwa [List.take_length] at this ⊢)
        clear hout hbz
        go_wp2
        go_ret2
        rw [HE.out]
        refine ⟨_, rfl, ?_, ?_⟩
        · have h1 := HT.out
          have h2 := HB.out.size
          have h3 := HBS.out
          exact nms_own.2 ((nms_own.1 h1).mono (by omega))
        · exact HB.out.trans (HBZ.out.mono (by rw [HBS.out]; exact HB.out.size))

theorem Sd.list {w0 w : World} {p q : Nat} {d : DS} (h : Sd w0 w p q d) (hsz : d.sz ≤ 500000) (b : Nm) :
    Calls Try.prog 20 #[.pointer (some ⟨q, 0, none⟩), nmV b] w (ListPost (slist d b) w) := by
  obtain ⟨S, h1, h2, h3, h4, h5⟩ := h
  exact list_store h1 h4 hsz b

end Go.Proofs.Ytmjpckodcafjiaa
