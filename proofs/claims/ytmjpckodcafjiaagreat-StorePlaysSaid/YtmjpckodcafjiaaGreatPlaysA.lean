/- Acts of layer 7: what a slice of them reads as, how one that came in is opened; Long. · Long of layer 7. · The document's disk: Names, Cut. · The document's disk: Cut. · Does a disk show the document's: the contract of Shows. · One act on a disk and the document's: the contract of Do. · DiskPlays, walked. · The store's List, Has and Disk. · Calls at no store, and Open of no disk. · The store's Has and Disk (a seat that lacks them leaves this text out). · The document's store: Named, Get. · The document's store: Delete, Put. -/
import Derived.Test.YtmjpckodcafjiaaGreatDskT
import Derived.Test.YtmjpckodcafjiaaGreatRfH
import Derived.Test.YtmjpckodcafjiaaGreatDskSy
import Derived.Test.YtmjpckodcafjiaaGreatRfF
import Derived.Deep.CutBlock
import Derived.Test.YtmjpckodcafjiaaGreatStD
import Derived.Test.YtmjpckodcafjiaaGreatRec
import Derived.Test.YtmjpckodcafjiaaGreatStB
import Derived.Test.YtmjpckodcafjiaaGreatRfG
import Derived.Test.YtmjpckodcafjiaaGreatDskU
namespace Go.Proofs.YtmjpckodcafjiaaGreat
open Go.RowKit Go.ChangeShapes Go.WideShapes Go.Deep

structure Act7 where
  kind : Int
  name : Nm
  bytes : List Nat
  act : ActR
  keep : List Bool
instance : Inhabited Act7 := ⟨⟨0, [], [], default, []⟩⟩
def act7Row (a : Act7) (v : Value × Value × Value × Value) : List Value := [.int .i64 a.kind, nmV a.name, v.1, .int .i64 a.act.kind, nmV a.act.name, nmV a.act.to, v.2.1, .int .i64 a.act.n, v.2.2.1, v.2.2.2]
structure Act7At (w : World) (B : Nat → Prop) (a : Act7) (v : Value × Value × Value × Value) : Prop where
  bytes : At w B .u8 v.1 a.bytes
  byte : ∀ y ∈ a.bytes, y < 256
  act : ActAt w B a.act v.2.1 v.2.2.1
  keep : RowV w B v.2.2.2 (a.keep.map Value.bool)
  kind : -9223372036854775808 ≤ a.kind ∧ a.kind ≤ 9223372036854775807
  name : a.name.length ≤ 9223372036854775807
theorem Act7At.kept {w w' : World} {B : Nat → Prop} {a : Act7} {v : Value × Value × Value × Value} (h : Act7At w B a v) (hk : Kept B w w') : Act7At w' B a v := ⟨h.bytes.keep hk, h.byte, h.act.kept hk, h.keep.keep hk, h.kind, h.name⟩

def Acts7At (w : World) (B : Nat → Prop) (v : Value) (acts : List Act7) : Prop :=
  ∃ rows : List (List Value), RecAt w B 10 v rows ∧ rows.length = acts.length ∧ ∀ (i : Nat) (a : Act7), acts[i]? = some a → ∃ u, rows[i]? = some (act7Row a u) ∧ Act7At w B a u
theorem Acts7At.kept {w w' : World} {B : Nat → Prop} {v : Value} {acts : List Act7} (h : Acts7At w B v acts) (hk : Kept B w w') : Acts7At w' B v acts := by
  obtain ⟨rows, h1, h2, h3⟩ := h
  refine ⟨rows, h1.keep hk, h2, fun i a hi => ?_⟩
  obtain ⟨u, h4, h5⟩ := h3 i a hi
  exact ⟨u, h4, h5.kept hk⟩
theorem Acts7At.val {w : World} {B : Nat → Prop} {v : Value} {acts : List Act7} (h : Acts7At w B v acts) : ∃ ao cap, v = .slice ao acts.length cap ∧ acts.length ≤ cap ∧ cap ≤ maxLen ∧ (ao = none → cap = 0) := by
  obtain ⟨rows, h1, h2, _⟩ := h
  have := h1.val
  rw [h2] at this
  exact this
theorem Acts7At.at {w : World} {B : Nat → Prop} {ao : Option Addr} {n cap : Nat} {acts : List Act7} (h : Acts7At w B (.slice ao n cap) acts) {i : Nat} {a : Act7} (hi : acts[i]? = some a) :
    ∃ b off bv dv dk kv, ao = some ⟨b, off, none⟩ ∧ w.cell? ⟨b, off + i * 10, none⟩ = some (.int .i64 a.kind) ∧ w.cell? ⟨b, off + i * 10 + 1, none⟩ = some (nmV a.name) ∧ w.cell? ⟨b, off + i * 10 + 2, none⟩ = some bv ∧
      w.cell? ⟨b, off + i * 10 + 3, none⟩ = some (.int .i64 a.act.kind) ∧ w.cell? ⟨b, off + i * 10 + 4, none⟩ = some (nmV a.act.name) ∧ w.cell? ⟨b, off + i * 10 + 5, none⟩ = some (nmV a.act.to) ∧ w.cell? ⟨b, off + i * 10 + 6, none⟩ = some dv ∧
      w.cell? ⟨b, off + i * 10 + 7, none⟩ = some (.int .i64 a.act.n) ∧ w.cell? ⟨b, off + i * 10 + 8, none⟩ = some dk ∧ w.cell? ⟨b, off + i * 10 + 9, none⟩ = some kv ∧ Act7At w B a (bv, dv, dk, kv) := by
  obtain ⟨rows, h1, h2, h3⟩ := h
  obtain ⟨⟨bv, dv, dk, kv⟩, h4, h5⟩ := h3 i a hi
  obtain ⟨b, off, ha, _, _, hc⟩ := h1.at h4
  exact ⟨b, off, bv, dv, dk, kv, ha, hc 0 _ rfl, hc 1 _ rfl, hc 2 _ rfl, hc 3 _ rfl, hc 4 _ rfl, hc 5 _ rfl, hc 6 _ rfl, hc 7 _ rfl, hc 8 _ rfl, hc 9 _ rfl, h5⟩

section
variable {H : Type} {enc : TypeId × Value → H} {P : Program} {w : World} {base : Nat} {spare : Nat → Bool} {held : Bool}
theorem trod_struct5 {t : TypeId} {f0 f1 f2 f3 f4 : Field} {fuel : Nat} {cs : List Value} {x : DataW H × List MemPlace} (ht : P.underlying t = some (.struct #[f0, f1, f2, f3, f4])) (h : DataW.trod enc P w base spare held fuel t cs = some x) :
    ∃ y0 y1 y2 y3 y4 n, cs.length = P.cellsOf t ∧ DataW.trod enc P w base spare held n f0.type ((cs.drop f0.offset).take (P.cellsOf f0.type)) = some y0 ∧
      DataW.trod enc P w base spare held n f1.type ((cs.drop f1.offset).take (P.cellsOf f1.type)) = some y1 ∧ DataW.trod enc P w base spare held n f2.type ((cs.drop f2.offset).take (P.cellsOf f2.type)) = some y2 ∧
      DataW.trod enc P w base spare held n f3.type ((cs.drop f3.offset).take (P.cellsOf f3.type)) = some y3 ∧ DataW.trod enc P w base spare held n f4.type ((cs.drop f4.offset).take (P.cellsOf f4.type)) = some y4 := by
  obtain ⟨xs, n, _, rfl, hl, hlen, hf⟩ := DataW.trod_struct ht h
  match xs, hlen with
  | [y0, y1, y2, y3, y4], _ => exact ⟨y0, y1, y2, y3, y4, n, hl, by simpa using hf 0 f0 rfl, by simpa using hf 1 f1 rfl, by simpa using hf 2 f2 rfl, by simpa using hf 3 f3 rfl, by simpa using hf 4 f4 rfl⟩
end

set_option maxRecDepth 100000 in
theorem acts7D_of_trod {H : Type} {enc : TypeId × Value → H} {W : World} {base : Nat} {held : Bool} {a : Option Addr} {len cap : Nat} {d : DataW H} {p : List MemPlace}
    (h : DataW.Trod enc Tryz.prog W base (fun _ => true) held 22 (.slice a len cap) d p) :
    ∃ acts : List Act7, acts.length = len ∧ Acts7At W (fun j => j < W.heap.size) (.slice a len cap) acts := by
  obtain ⟨fuel, hf⟩ := h
  rcases open_slice Tryz.underlying22 hf with ⟨hcs, _⟩ | ⟨x, l, c, m, n, D, Pl, hcs, hb, hl, hm, hmm, _, hi⟩
  · simp [Value.cells] at hcs
    obtain ⟨rfl, rfl, rfl⟩ := hcs
    exact ⟨[], rfl, [], recAt_nil _ _ _, rfl, by simp⟩
  · simp [Value.cells] at hcs
    obtain ⟨rfl, rfl, rfl⟩ := hcs
    simp only [if_true] at hmm
    subst hmm
    have C10 : Tryz.prog.cellsOf 46 = 10 := by kernel_rfl
    have C6 : Tryz.prog.cellsOf 44 = 6 := by kernel_rfl
    have k1 : Tryz.prog.cellsOf 3 = 1 := by kernel_rfl
    have k2 : Tryz.prog.cellsOf 9 = 1 := by kernel_rfl
    have k3 : Tryz.prog.cellsOf 41 = 1 := by kernel_rfl
    have k4 : Tryz.prog.cellsOf 42 = 1 := by kernel_rfl
    rw [C10] at hi
    have each : ∀ i, i < len → ∃ q : Act7 × (Value × Value × Value × Value), (∀ j u, (act7Row q.1 q.2)[j]? = some u → W.cell? (x.add (i * 10 + j)) = some u) ∧ Act7At W (fun j => j < W.heap.size) q.1 q.2 := by
      intro i hil
      obtain ⟨cs', hc, ht⟩ := hi i (by omega)
      obtain ⟨y0, y1, y2, y3, y4, k, hcl, h0, h1, h2, h3, h4⟩ := trod_struct5 Tryz.underlying46 ht
      rw [C10] at hcl
      match cs', hcl with
      | [c0, c1, c2, c3, c4, c5, c6, c7, c8, c9], _ =>
        simp only [k1, k2, k3, k4, C6, List.drop_succ_cons, List.drop_zero, List.take_succ_cons, List.take_zero] at h0 h1 h2 h3 h4
        obtain ⟨kind, rfl, hk⟩ := int_in h0
        obtain ⟨name, rfl, hn⟩ := text_in h1
        obtain ⟨bs, hbs, h8⟩ := bytes_in h2
        obtain ⟨ks, hks⟩ := bools_in h4
        obtain ⟨z0, z1, z2, z3, z4, z5, k', hcl', g0, g1, g2, g3, g4, g5⟩ := trod_struct6 Tryz.underlying44 h3
        simp only [k1, k2, k3, k4, List.drop_succ_cons, List.drop_zero, List.take_succ_cons, List.take_zero] at g0 g1 g2 g3 g4 g5
        obtain ⟨dkind, rfl, hdk⟩ := int_in g0
        obtain ⟨dname, rfl, hdn⟩ := text_in g1
        obtain ⟨dto, rfl, hdto⟩ := text_in g2
        obtain ⟨dbs, hdbs, hd8⟩ := bytes_in g3
        obtain ⟨dnn, rfl, hdnn⟩ := int_in g4
        obtain ⟨dks, hdks⟩ := bools_in g5
        refine ⟨(⟨kind, name, bs, ⟨dkind, dname, dto, dbs, dnn, dks⟩, ks⟩, (c2, c6, c8, c9)), fun j u hj => ?_, ⟨hbs, h8, ⟨hdbs, hd8, hdks, hdk, hdnn, hdn, hdto⟩, hks, hk, hn⟩⟩
        obtain ⟨_, _, hat⟩ := World.cells?_some hc
        have hj10 : j < 10 := (List.getElem?_eq_some_iff.1 hj).1
        have := hat j hj10
        rw [Go.Deep.add_add] at this
        rw [this]
        exact hj
    obtain ⟨qs, hlen, hqs⟩ := pick_n len each
    refine ⟨qs.map (·.1), by simpa using hlen, qs.map (fun q => act7Row q.1 q.2), ⟨some x, m, by simp [hlen], by simp [hlen]; omega, hm, by simp, ?_⟩, by simp, ?_⟩
    · by_cases h0 : len = 0
      · exact .inl (List.length_eq_zero_iff.1 (by simp [hlen, h0]))
      · right
        obtain ⟨q0, hq0⟩ : ∃ q0, qs[0]? = some q0 := ⟨_, List.getElem?_eq_getElem (by omega)⟩
        have c0 := (hqs 0 q0 hq0).1 0 _ rfl
        obtain ⟨b, off, spot⟩ := x
        obtain rfl : spot = none := by simpa [Addr.add] using World.cell?_spot c0
        have hlt := World.block_lt_of_cell? W _ c0
        refine ⟨b, off, rfl, by simpa [Addr.add] using hlt, by simpa [Addr.add] using hlt, fun i r hr j u hu => ?_⟩
        rw [List.getElem?_map] at hr
        obtain ⟨q, hq, rfl⟩ := Option.map_eq_some_iff.1 hr
        have := (hqs i q hq).1 j u hu
        rw [Addr.add_lit] at this
        rw [← this, Nat.add_assoc]
    · intro i a ha
      rw [List.getElem?_map] at ha
      obtain ⟨q, hq, rfl⟩ := Option.map_eq_some_iff.1 ha
      exact ⟨q.2, by rw [List.getElem?_map, hq]; rfl, (hqs i q hq).2⟩

/-- A slice of one record, laid anew. -/
theorem rec_lone {w : World} {Y : Nat} {r : List Value} {k : Nat} {e : TypeId} {m : Nat × Nat} (h : w.heap[Y]? = some (.cells r.toArray e m)) : RecAt w (fun j => j = Y) k (.slice (some ⟨Y, 0, none⟩) 1 1) [r] := by
  refine ⟨some ⟨Y, 0, none⟩, 1, rfl, by simp, by simp [maxLen], by simp, .inr ⟨Y, 0, rfl, (Array.getElem?_eq_some_iff.1 h).1, rfl, fun i r' hi j u hu => ?_⟩⟩
  cases i with
  | zero =>
    obtain rfl : r = r' := by simpa using hi
    rw [cell_of_row _ _ _ _ _ _ h]
    simpa using hu
  | succ i => simp at hi
def longB7 (a : Act7) : Bool := decide (60 < a.name.length) || decide (60 < a.keep.length) || (decide (300 < a.bytes.length) && decide (a.bytes.length ≤ 65536)) || decide (66000 < a.bytes.length)
def longA7 (a : Act7) : Bool := longB7 a || longD [a.act] 1
def longD7 (acts : List Act7) (most : Int) : Bool := acts.any longA7 || decide (most < (acts.length : Int))
theorem any_take7 {acts : List Act7} {k : Nat} {a : Act7} (h : acts[k]? = some a) : (acts.take (k + 1)).any longA7 = ((acts.take k).any longA7 || longA7 a) := by
  rw [take_snoc h, List.any_append]; simp
theorem longD7_hit {acts : List Act7} {most : Int} {k : Nat} {a : Act7} (h : acts[k]? = some a) (ha : longA7 a = true) : longD7 acts most = true := by
  unfold longD7
  rw [Bool.or_eq_true]
  left
  rw [List.any_eq_true]
  exact ⟨a, List.mem_of_getElem? h, ha⟩


end Go.Proofs.YtmjpckodcafjiaaGreat

namespace Go.Proofs.YtmjpckodcafjiaaGreat
open Go.RowKit

set_option maxHeartbeats 4000000 in
set_option maxRecDepth 100000 in
theorem longD7_any (v : Value) (acts : List Act7) (most : Int) (w : World) (B : Nat → Prop) (hr : Acts7At w B v acts) (hl : acts.length ≤ 9223372036854775807) :
    Calls Tryz.prog 6 #[v, .int .i64 most] w fun e w' => e = .returned (.bool (longD7 acts most)) ∧ Below w.heap.size w w' := by
  obtain ⟨ao, cap, rfl, _, _, _⟩ := hr.val
  have HR := Lib.hid hr
  clear hr
  go_enter Tryz.func6, Tryz.ntmps6
  go_wp2
  go_loopw [9] (fun i wr => ∃ k : Nat, k ≤ acts.length ∧ i = .int .i64 (k : Int) ∧ (acts.take k).any longA7 = false ∧ Below w.heap.size w wr)
    (fun i _ => acts.length - (intOf i).toNat)
  case atStart => exact ⟨0, Nat.zero_le _, rfl, rfl, Below.refl _ _⟩
  case round =>
    obtain ⟨k, hk, rfl, hno, hb⟩ := hrel
    have HB := Lib.hid hb
    have HNO := Lib.hid hno
    by_cases hlt : k < acts.length
    · obtain ⟨a, ha⟩ : ∃ a, acts[k]? = some a := ⟨_, List.getElem?_eq_getElem hlt⟩
      obtain ⟨b, off, bv, dv, dk, kv, rfl, e0, e1, e2, e3, e4, e5, e6, e7, e8, e9, hat⟩ := (HR.out.kept (w' := wr) (kept_new hb B)).at ha
      obtain ⟨aob, capb, rfl, _, _, _⟩ := hat.bytes.reads.val
      obtain ⟨aok, capk, rfl, _, _, _⟩ := id hat.keep
      have hkl : (a.keep.map Value.bool).length = a.keep.length := List.length_map _
      rw [hkl] at e9
      have HANY := Lib.hid (any_take7 ha)
      have HA := Lib.hid ha
      have HACT := Lib.hid hat.act
      obtain ⟨s1, hs1⟩ : ∃ s1 : ByteArray, nmV a.name = .string s1 ∧ s1.size = a.name.length := ⟨_, rfl, size_nm _⟩
      obtain ⟨s2, hs2⟩ : ∃ s2 : ByteArray, nmV a.act.name = .string s2 := ⟨_, rfl⟩
      obtain ⟨s3, hs3⟩ : ∃ s3 : ByteArray, nmV a.act.to = .string s3 := ⟨_, rfl⟩
      rw [hs1.1] at e1
      rw [hs2] at e4
      rw [hs3] at e5
      have l1 := hs1.2
      have HS2 := Lib.hid hs2
      have HS3 := Lib.hid hs3
      have hlti : (k : Int) < acts.length := by omega
      have HK := Lib.hid hlt
      obtain ⟨kind, name, bytes, act, keep⟩ := a
      simp only [] at e0 e2 e3 e6 e7 e8 e9 l1
      obtain ⟨dn, hdn⟩ : ∃ dn, act.n = dn := ⟨_, rfl⟩
      obtain ⟨dki, hdki⟩ : ∃ dki, act.kind = dki := ⟨_, rfl⟩
      rw [hdn] at e7
      rw [hdki] at e3
      have HDN := Lib.hid hdn
      have HDKI := Lib.hid hdki
      have hact := hat.act
      obtain ⟨aod, capd, hdv, _, _, _⟩ := hact.bytes.reads.val
      obtain ⟨aoe, cape, hde, _, _, _⟩ := id hact.keep
      simp only [] at hdv hde
      obtain ⟨nd, hnd⟩ : ∃ nd, nd = act.bytes.length := ⟨_, rfl⟩
      obtain ⟨ne, hne⟩ : ∃ ne, ne = (act.keep.map Value.bool).length := ⟨_, rfl⟩
      rw [← hnd] at hdv
      rw [← hne] at hde
      subst hdv
      subst hde
      clear hno hat ha hkl hs1 hs2 hs3 hact hnd hne hdn hdki
      by_cases q1 : 60 < name.length
      · have p1 : decide ((60 : Int) < (name.length : Int)) = true := decide_eq_true (by omega)
        have HE := Lib.hid (show longD7 acts most = true from longD7_hit HA.out (by unfold longA7 longB7; simp only []; rw [decide_eq_true q1]; simp))
        go_wp2
        go_ret
        exact ⟨by rw [HE.out]; rfl, HB.out.alloc HB.out.size _⟩
      have p1 : decide ((60 : Int) < (name.length : Int)) = false := decide_eq_false (by omega)
      by_cases q3 : 60 < keep.length
      · have p3 : decide ((60 : Int) < (keep.length : Int)) = true := decide_eq_true (by omega)
        have HE := Lib.hid (show longD7 acts most = true from longD7_hit HA.out (by unfold longA7 longB7; simp only []; rw [decide_eq_true q3]; simp))
        go_wp2
        go_ret
        exact ⟨by rw [HE.out]; rfl, HB.out.alloc HB.out.size _⟩
      have p3 : decide ((60 : Int) < (keep.length : Int)) = false := decide_eq_false (by omega)
      by_cases q4 : 300 < bytes.length
      · have p4 : decide ((300 : Int) < (bytes.length : Int)) = true := decide_eq_true (by omega)
        by_cases q5 : bytes.length ≤ 65536
        · have p5 : decide ((bytes.length : Int) ≤ 65536) = true := decide_eq_true (by omega)
          have HE := Lib.hid (show longD7 acts most = true from longD7_hit HA.out (by unfold longA7 longB7; simp only []; rw [decide_eq_true q4, decide_eq_true q5]; simp))
          go_wp2
          go_ret
          exact ⟨by rw [HE.out]; rfl, HB.out.alloc HB.out.size _⟩
        · have p5 : decide ((bytes.length : Int) ≤ 65536) = false := decide_eq_false (by omega)
          by_cases q6 : 66000 < bytes.length
          · have p6 : decide ((66000 : Int) < (bytes.length : Int)) = true := decide_eq_true (by omega)
            have HE := Lib.hid (show longD7 acts most = true from longD7_hit HA.out (by unfold longA7 longB7; simp only []; rw [decide_eq_true q6]; simp))
            go_wp2
            go_ret
            exact ⟨by rw [HE.out]; rfl, HB.out.alloc HB.out.size _⟩
          · have p6 : decide ((66000 : Int) < (bytes.length : Int)) = false := decide_eq_false (by omega)
            have HF := Lib.hid (show longB7 ⟨kind, name, bytes, act, keep⟩ = false by unfold longB7; simp only []; rw [decide_eq_false q1, decide_eq_false q3, decide_eq_false q5, decide_eq_false q6]; simp)
            obtain ⟨W5, hW5⟩ : ∃ W5, W5 = wr.alloc (.cells #[.int .i64 kind, .string s1, .slice aob bytes.length capb, .int .i64 dki, .string s2, .string s3, .slice aod nd capd, .int .i64 dn, .slice aoe ne cape, .slice aok keep.length capk] 46) := ⟨_, rfl⟩
            obtain ⟨W6, hW6⟩ : ∃ W6, W6 = W5.alloc (.cells #[.int .i64 dki, .string s2, .string s3, .slice aod nd capd, .int .i64 dn, .slice aoe ne cape] 44) := ⟨_, rfl⟩
            have hb6 : Below w.heap.size w W6 := by rw [hW6, hW5]; exact (HB.out.alloc HB.out.size _).alloc (Nat.le_trans HB.out.size (by simp)) _
            have hbr : Below wr.heap.size wr W6 := by rw [hW6, hW5]; exact ((Below.refl _ _).alloc (Nat.le_refl _) _).alloc (by simp) _
            have hx6 : W6.heap[W5.heap.size]? = some (.cells #[.int .i64 dki, .string s2, .string s3, .slice aod nd capd, .int .i64 dn, .slice aoe ne cape] 44 (0, 0)) := by rw [hW6]; exact heap_alloc_new _ _
            rw [show W5.heap.size = wr.heap.size + 1 from by rw [hW5]; simp] at hx6
            have hrec : ActsAt W6 (fun j => j < W6.heap.size) (.slice (some ⟨wr.heap.size + 1, 0, none⟩) 1 1) [act] := by
              refine ⟨[actRow act (.slice aod nd capd) (.slice aoe ne cape)], ?_, rfl, fun i a hi => ?_⟩
              · have h1 : actRow act (.slice aod nd capd) (.slice aoe ne cape) = [.int .i64 dki, .string s2, .string s3, .slice aod nd capd, .int .i64 dn, .slice aoe ne cape] := by unfold actRow; rw [HDN.out, HDKI.out, HS2.out, HS3.out]
                rw [h1]
                exact (rec_lone (k := 6) hx6).mono fun j hj _ => hj
              · cases i with
                | zero =>
                  obtain rfl : act = a := by simpa using hi
                  exact ⟨_, _, rfl, (HACT.out.kept (w' := W6) (kept_new hbr _)).mono fun j hj _ => hj⟩
                | succ i => simp at hi
            have HCALL := Lib.hid (longD_any _ [act] 1 W6 (fun j => j < W6.heap.size) hrec (fun j hj => hj) (by simp))
            have HB6 := Lib.hid hb6
            have HW6 := Lib.hid hW6
            have HW5 := Lib.hid hW5
            clear hb6 hbr hx6 hrec hW6 hW5
            go_wp2_with fail
            rw [← HW5.out, ← HW6.out]
            refine HCALL.out.mono ?_
            rintro e w7 ⟨rfl, hb7⟩
            have HB7 := Lib.hid (HB6.out.trans (hb7.mono HB6.out.size))
            clear hb7
            cases hlg : longD [act] 1
            rotate_left
            · have HE := Lib.hid (show longD7 acts most = true from longD7_hit HA.out (by unfold longA7; simp only []; rw [hlg]; simp))
              clear hlg
              go_wp2
              go_ret
              exact ⟨by rw [HE.out]; rfl, HB7.out⟩
            · have HF2 := Lib.hid (show (acts.take (k + 1)).any longA7 = false by rw [HANY.out, HNO.out]; unfold longA7; rw [HF.out]; simp only []; rw [hlg]; rfl)
              clear hlg
              go_wp2
              go_roundw
              case rel => exact ⟨k + 1, HK.out, by first | exact inc_eq HK.out hl | rfl, HF2.out, HB7.out⟩
              case measure => first | exact inc_meas HK.out hl | (have := HK.out; simp [intOf]; omega)
      · have p4 : decide ((300 : Int) < (bytes.length : Int)) = false := decide_eq_false (by omega)
        have p6 : decide ((66000 : Int) < (bytes.length : Int)) = false := decide_eq_false (by omega)
        have HF := Lib.hid (show longB7 ⟨kind, name, bytes, act, keep⟩ = false by unfold longB7; simp only []; rw [decide_eq_false q1, decide_eq_false q3, decide_eq_false q4, decide_eq_false (p := 66000 < bytes.length) (by omega)]; simp)
        obtain ⟨W5, hW5⟩ : ∃ W5, W5 = wr.alloc (.cells #[.int .i64 kind, .string s1, .slice aob bytes.length capb, .int .i64 dki, .string s2, .string s3, .slice aod nd capd, .int .i64 dn, .slice aoe ne cape, .slice aok keep.length capk] 46) := ⟨_, rfl⟩
        obtain ⟨W6, hW6⟩ : ∃ W6, W6 = W5.alloc (.cells #[.int .i64 dki, .string s2, .string s3, .slice aod nd capd, .int .i64 dn, .slice aoe ne cape] 44) := ⟨_, rfl⟩
        have hb6 : Below w.heap.size w W6 := by rw [hW6, hW5]; exact (HB.out.alloc HB.out.size _).alloc (Nat.le_trans HB.out.size (by simp)) _
        have hbr : Below wr.heap.size wr W6 := by rw [hW6, hW5]; exact ((Below.refl _ _).alloc (Nat.le_refl _) _).alloc (by simp) _
        have hx6 : W6.heap[W5.heap.size]? = some (.cells #[.int .i64 dki, .string s2, .string s3, .slice aod nd capd, .int .i64 dn, .slice aoe ne cape] 44 (0, 0)) := by rw [hW6]; exact heap_alloc_new _ _
        rw [show W5.heap.size = wr.heap.size + 1 from by rw [hW5]; simp] at hx6
        have hrec : ActsAt W6 (fun j => j < W6.heap.size) (.slice (some ⟨wr.heap.size + 1, 0, none⟩) 1 1) [act] := by
          refine ⟨[actRow act (.slice aod nd capd) (.slice aoe ne cape)], ?_, rfl, fun i a hi => ?_⟩
          · have h1 : actRow act (.slice aod nd capd) (.slice aoe ne cape) = [.int .i64 dki, .string s2, .string s3, .slice aod nd capd, .int .i64 dn, .slice aoe ne cape] := by unfold actRow; rw [HDN.out, HDKI.out, HS2.out, HS3.out]
            rw [h1]
            exact (rec_lone (k := 6) hx6).mono fun j hj _ => hj
          · cases i with
            | zero =>
              obtain rfl : act = a := by simpa using hi
              exact ⟨_, _, rfl, (HACT.out.kept (w' := W6) (kept_new hbr _)).mono fun j hj _ => hj⟩
            | succ i => simp at hi
        have HCALL := Lib.hid (longD_any _ [act] 1 W6 (fun j => j < W6.heap.size) hrec (fun j hj => hj) (by simp))
        have HB6 := Lib.hid hb6
        have HW6 := Lib.hid hW6
        have HW5 := Lib.hid hW5
        clear hb6 hbr hx6 hrec hW6 hW5
        go_wp2_with fail
        rw [← HW5.out, ← HW6.out]
        refine HCALL.out.mono ?_
        rintro e w7 ⟨rfl, hb7⟩
        have HB7 := Lib.hid (HB6.out.trans (hb7.mono HB6.out.size))
        clear hb7
        cases hlg : longD [act] 1
        rotate_left
        · have HE := Lib.hid (show longD7 acts most = true from longD7_hit HA.out (by unfold longA7; simp only []; rw [hlg]; simp))
          clear hlg
          go_wp2
          go_ret
          exact ⟨by rw [HE.out]; rfl, HB7.out⟩
        · have HF2 := Lib.hid (show (acts.take (k + 1)).any longA7 = false by rw [HANY.out, HNO.out]; unfold longA7; rw [HF.out]; simp only []; rw [hlg]; rfl)
          clear hlg
          go_wp2
          go_roundw
          case rel => exact ⟨k + 1, HK.out, by first | exact inc_eq HK.out hl | rfl, HF2.out, HB7.out⟩
          case measure => first | exact inc_meas HK.out hl | (have := HK.out; simp [intOf]; omega)
    · obtain rfl : k = acts.length := by omega
      have HE := Lib.hid (show longD7 acts most = decide (most < (acts.length : Int)) by unfold longD7; rw [List.take_of_length_le (Nat.le_refl _)] at hno; rw [hno]; rfl)
      clear hno hb
      go_wp2
      go_ret
      exact ⟨by rw [HE.out]; rfl, HB.out⟩

end Go.Proofs.YtmjpckodcafjiaaGreat

namespace Go.Proofs.YtmjpckodcafjiaaGreat
open Go.RowKit

/-- An owned row of names, by records of one cell. -/
theorem nms_rec {w : World} {base : Nat} {v : Value} {ns : List Nm} (h : RecOwn w base 9 1 v (ns.map fun x => [nmV x])) : NmsO w base v ns := by
  have h2 := h.2
  rw [List.length_map] at h2
  have e : ∀ ns : List Nm, (ns.map fun x => [nmV x]).flatten = ns.map nmV := fun ns => by
    induction ns with
    | nil => rfl
    | cons x r ih => simp [ih]
  rw [e] at h2
  exact h2
theorem Tryz.infoStr : (Tryz.prog.info? 9).map (fun i => (i.zero, i.size, i.bytes)) = some (some (.string { data := #[] }), 1, 16) := by kernel_rfl

/-- A row of names that a loop makes: its block is g0, or newer than w3. -/
structure OutS (base g0 : Nat) (w3 w : World) (v : Value) (l : List Nm) : Prop where
  own : RecOwn w base 9 1 v (l.map fun x => [nmV x])
  blk : ∀ j, v.ownBlock = some j → j = g0 ∨ w3.heap.size ≤ j
  fr : Fr (fun j => j = g0) w3 w
theorem OutS.old {base g0 : Nat} {w3 w w' : World} {v : Value} {l : List Nm} (h : OutS base g0 w3 w v l) (hb : Below w.heap.size w w') : OutS base g0 w3 w' v l :=
  ⟨h.own.keep fun j hj => hb.block j (h.own.block hj).2.1, h.blk, h.fr.trans (fr_below hb (fun _ => False)) (fun _ _ h => h) fun _ _ h => h.elim⟩
theorem OutS.val {base g0 : Nat} {w3 w : World} {v : Value} {l : List Nm} (h : OutS base g0 w3 w v l) : ∃ ao cap, v = .slice ao l.length cap := by
  obtain ⟨ao, cap, hv, _⟩ := h.own.val
  rw [List.length_map] at hv
  exact ⟨ao, cap, hv⟩
theorem wpList_appS (w : World) {ops : Array Oper} {rest : List Oper} {o : Oper} {a : Act} {Q : Exit → Act → World → Prop} (hgd : o.guard = none) (s x : Operand)
    (ho : o.op = .call { callee := .builtin .append, args := #[s, x], argTypes := #[54, 54] })
    (base g0 : Nat) (w3 : World) (v : Value) (l : List Nm) (hs : a.eval s = v) (W : World) (f : Nm) (hW : w = W.alloc (.cells #[nmV f] 9)) (hown : OutS base g0 w3 W v l)
    (hx : a.eval x = .slice (some ⟨W.heap.size, 0, none⟩) 1 1) (hlen : l.length ≤ 1000000) (hbase : base ≤ w3.heap.size)
    (h : ∀ v' w', OutS base g0 w3 w' v' (l ++ [f]) → wpList Tryz.prog ops Q rest (a.put o.dst v') w') : wpList Tryz.prog ops Q (o :: rest) a w := by
  subst hW
  refine wpList_appRec _ hgd s x 54 ho base 9 _ 1 16 Tryz.underlying54 Tryz.infoStr rfl (by decide) v (l.map fun x => [nmV x]) hs (RecOwn.keep hown.own fun j hj => Below.heap_alloc _ _ _ (RecOwn.block hown.own hj).2.1) [nmV f] rfl (by simp [Value.oneCell', nmV]) ⟨W.heap.size, 0, none⟩ hx (rec_cell W [nmV f] _) (by rw [List.length_map]; simp only [maxLen]; omega) (by rw [List.length_map]; omega) (by have := hown.fr.size; simp; omega) ?_
  intro v' w' ho' hg' hloc
  have hal : Below W.heap.size W (W.alloc (.cells #[nmV f] 9)) := (Below.refl _ _).alloc (Nat.le_refl _) _
  have hsz := hown.fr.size
  refine h v' w' ⟨by rw [List.map_append]; exact ho', fun j hj => ?_, ?_⟩
  · rcases hloc with e | e
    · exact hown.blk j (e ▸ hj)
    · rw [e] at hj
      cases hj
      have := hal.size
      exact .inr (by simp; omega)
  · refine (hown.fr.trans (fr_below hal (fun _ => False)) (U := fun j => j = g0) (fun _ _ h => h) fun _ _ h => h.elim).trans (fr_grown hg') (fun _ _ h => h) fun j hj e => ?_
    rcases hown.blk j e.symm with h1 | h1
    · exact h1
    · omega

def rnames (d : DS) : List Nm × Nat := if d.down = true then ([], 14) else (d.shown.map (·.1), 0)

set_option maxHeartbeats 2000000 in
set_option maxRecDepth 100000 in
theorem rnames_any {w : World} {B : Nat → Prop} {d : DS} {sv cv : Value} (h : Doc w B d sv cv) (hsz : d.sz ≤ 600000) :
    Calls Tryz.prog 54 #[docV d sv cv] w fun e w' => ∃ v, e = .returned (.tuple #[v, .int .i64 ((rnames d).2 : Int)]) ∧ NmsO w' w.heap.size v (rnames d).1 ∧ Below w.heap.size w w' := by
  obtain ⟨⟨aos, caps, rfl⟩, aoc, capc, rfl⟩ := h.val
  have HBX := Lib.hid (b1_new w d (.slice aos d.sure.length caps) (.slice aoc d.chs.length capc))
  obtain ⟨W1, hW1⟩ : ∃ W1, W1 = w.alloc (.cells #[.int .i64 (d.room : Int), .slice aos d.sure.length caps, .slice aoc d.chs.length capc, .int .i64 d.fuse, .bool d.down] 33) := ⟨_, rfl⟩
  rw [← hW1] at HBX
  obtain ⟨W2, hW2⟩ : ∃ W2, W2 = W1.alloc (.cells #[] 9) := ⟨_, rfl⟩
  have hb2 : Below W1.heap.size W1 W2 := by rw [hW2]; exact (Below.refl _ _).alloc (Nat.le_refl _) _
  have HSO := Lib.hid (rshown_any (((h.mono (C := fun j => j < w.heap.size) fun _ hj _ => hj).old HBX.out.below).old hb2) (Nat.le_trans hsz (by decide)))
  have HB2 : Hid (Below w.heap.size w W2) := Lib.hid (HBX.out.below.trans (hb2.mono HBX.out.below.size))
  have hl1 : w.heap.size < W1.heap.size := (Array.getElem?_eq_some_iff.1 HBX.out.box).1
  have HX2 : Hid (W2.heap[w.heap.size]? = W1.heap[w.heap.size]?) := Lib.hid (hb2.block _ hl1)
  have HO0 : Hid (RecOwn W2 w.heap.size 9 1 (.slice (some ⟨W1.heap.size, 0, none⟩) 0 0) []) := Lib.hid (by rw [hW2]; exact recOwn_empty _ _ _ _ (Nat.le_of_lt hl1))
  have HW1S : Hid (W1.heap.size = w.heap.size + 1 ∧ W2.heap.size = w.heap.size + 1 + 1) := Lib.hid (by rw [hW2, hW1]; simp)
  have HSL : Hid (d.shown.length ≤ 600000) := Lib.hid (Nat.le_trans (lenShown d) hsz)
  unfold docV at HSO ⊢
  have HW1 := Lib.hid hW1
  have HW2 := Lib.hid hW2
  clear h hsz hW1 hW2 hb2 hl1
  cases hd : d.down
  · have HE : Hid (rnames d = (d.shown.map (·.1), 0)) := Lib.hid (by unfold rnames; rw [if_neg (by rw [hd]; decide)])
    rw [hd] at HW1 HSO
    obtain ⟨q0, q1, q2, q3, q4⟩ := (⟨HB2.out, HX2.out.trans HBX.out.box⟩ : B1 w W2 d _ _).c
    obtain ⟨p0, p1, p2, p3, p4⟩ := HBX.out.c
    rw [hd] at q4 p4
    have qn : ∀ o, (W1.alloc o).cell? ⟨w.heap.size, 0, none⟩ = some (.int .i64 (d.room : Int)) := fun o => (World.cell?_of_block (Below.heap_alloc _ _ _ (by have := HW1S.out.1; show w.heap.size < W1.heap.size; omega))).trans p0
    clear hd
    obtain ⟨ns, hns⟩ : ∃ ns, ns = d.shown.map (·.1) := ⟨_, rfl⟩
    have HNL : Hid (ns.length = d.shown.length) := Lib.hid (by rw [hns, List.length_map])
    have HNS := Lib.hid hns
    clear hns
    rw [HE.out]
    go_enter Tryz.func54, Tryz.ntmps54
    go_wp2_with fail
    rw [← HW1.out, ← HW2.out]
    refine HSO.out.mono ?_
    rintro e w3 ⟨lv, rfl, hfs, hb3⟩
    obtain ⟨lo, lc, rfl, _⟩ := hfs.val
    have HFS := Lib.hid hfs
    have HB3 := Lib.hid hb3
    obtain ⟨g0, hg0⟩ : ∃ g0, g0 = w.heap.size + 1 := ⟨_, rfl⟩
    have HG : Hid (W1.heap.size = g0 ∧ w.heap.size < g0 ∧ g0 < w3.heap.size) := Lib.hid (by have := HW1S.out; have := hb3.size; omega)
    rw [← hg0]
    clear hfs hb3 hg0 q0 q1 q2 q3 q4 p0 p1 p2 p3 p4 qn
    have hOut : OutS w.heap.size g0 w3 w3 (.slice (some ⟨g0, 0, none⟩) 0 0) [] := ⟨by
      have h1 := HO0.out.keep fun j hj => HB3.out.block j (HO0.out.block hj).2.1
      rw [HG.out.1] at h1
      exact h1, fun j hj => (by cases hj; exact .inl rfl), Fr.refl _ _⟩
    have HOU := Lib.hid hOut
    have HNE : Hid (∀ j, j < w3.heap.size → (j < w.heap.size ∨ W2.heap.size ≤ j) → j ≠ g0) := Lib.hid fun j hj h => by have := HW1S.out; have := HG.out; omega
    clear hOut
    go_wp2
    go_loopw [4, 13] (fun ov i wr => ∃ k : Nat, k ≤ d.shown.length ∧ i = .int .i64 (k : Int) ∧ OutS w.heap.size g0 w3 wr ov (ns.take k))
      (fun _ i _ => d.shown.length - (intOf i).toNat)
    case atStart => exact ⟨0, Nat.zero_le _, rfl, HOU.out⟩
    case round =>
      obtain ⟨k, hk, rfl, ho⟩ := hrel
      obtain ⟨oo, oc, rfl⟩ := ho.val
      have HO := Lib.hid ho
      by_cases hlt : k < d.shown.length
      · obtain ⟨x, hx⟩ : ∃ x, d.shown[k]? = some x := ⟨_, List.getElem?_eq_getElem hlt⟩
        obtain ⟨b, off, rfl, _, e0, e1⟩ := (HFS.out.keep (ho.fr.kept _ fun j hj hB e => HNE.out j hj hB e)).at hx
        have hlti : (k : Int) < d.shown.length := by omega
        have HK := Lib.hid hlt
        have HSN : Hid (ns.take (k + 1) = ns.take k ++ [x.1]) := Lib.hid (take_snoc (by rw [HNS.out, List.getElem?_map, hx]; rfl))
        have HLN : Hid ((ns.take k).length ≤ 1000000) := Lib.hid (by rw [List.length_take, HNL.out]; have := HSL.out; omega)
        obtain ⟨sx, hsx⟩ : ∃ s, s = txt x.2 := ⟨_, rfl⟩
        obtain ⟨sn, hsn⟩ : ∃ s, Value.string s = nmV x.1 := ⟨_, rfl⟩
        rw [← hsx] at e1
        rw [← hsn] at e0
        obtain ⟨W4, hW4⟩ : ∃ W4, W4 = wr.alloc (.cells #[.string sn, .string sx] 102) := ⟨_, rfl⟩
        have HO4 : Hid (OutS w.heap.size g0 w3 W4 (.slice oo (ns.take k).length oc) (ns.take k)) := Lib.hid (by rw [hW4]; exact ho.old ((Below.refl _ _).alloc (Nat.le_refl _) _))
        have HW4 := Lib.hid hW4
        have HS4 : Hid (W4.heap.size = wr.heap.size + 1) := Lib.hid (by rw [hW4]; simp)
        have HSN2 := Lib.hid hsn
        clear ho hx hsx hsn hW4
        go_wp2_with (at_builtin; rw [← HW4.out]; go_must (refine wpList_appS _ rfl _ _ rfl w.heap.size g0 w3 _ _ rfl W4 x.1 (by rw [← HSN2.out]) HO4.out (by rw [HS4.out]; rfl) HLN.out (Nat.le_of_lt (Nat.lt_trans HG.out.2.1 HG.out.2.2)) ?_))
        intro v5 w5 ho5
        rw [← HSN.out] at ho5
        have HO5 := Lib.hid ho5
        clear ho5
        go_wp2
        go_roundw
        case rel => exact ⟨k + 1, HK.out, (by first | exact inc_eq HK.out (Nat.le_trans HSL.out (by decide)) | rfl), HO5.out⟩
        case measure => first | exact inc_meas HK.out (Nat.le_trans HSL.out (by decide)) | (have := HK.out; simp [intOf]; omega)
      · obtain rfl : k = d.shown.length := by omega
        clear ho
        go_wp2
        go_ret2
        refine ⟨_, rfl, ?_, HB2.out.trans ((HB3.out.mono HB2.out.size).trans (HO.out.fr.below (Nat.le_of_lt (Nat.lt_trans HG.out.2.1 HG.out.2.2)) fun j hj e => by have := HG.out; omega))⟩
        have h := HO.out.own
        rw [← HNL.out, List.take_length] at h
        have h2 := nms_rec h
        rw [← HNL.out, List.take_length, ← HNS.out]
        exact h2
  · have HE : Hid (rnames d = ([], 14)) := Lib.hid (by unfold rnames; rw [if_pos hd])
    rw [hd] at HW1
    clear hd
    rw [HE.out]
    go_enter Tryz.func54, Tryz.ntmps54
    go_wp2
    go_ret2
    exact ⟨_, rfl, nms_nil _ _, (Below.refl _ _).alloc (Nat.le_refl _) _⟩

end Go.Proofs.YtmjpckodcafjiaaGreat

namespace Go.Proofs.YtmjpckodcafjiaaGreat
open Go.RowKit

theorem picked_take : ∀ (cs : List Ch) (l : Fm (List Nat)) (ks : List Bool), picked l (cs.take ks.length) ks = picked l cs ks
  | [], l, ks => by simp
  | c :: cs, l, [] => by simp [picked]
  | c :: cs, l, k :: ks => by
    have := picked_take cs (if k = true then capply l c else l) ks
    simpa [picked] using this
theorem Bx.one {w W : World} {d : DS} {sv cv : Value} (h : Bx w W d sv cv) (l : Fm (List Nat)) (sv' : Value) : Bx w (W.setCell ⟨w.heap.size, 1, none⟩ sv') { d with sure := l } sv' cv := by
  have hf := fr_set W w.heap.size 1 sv'
  have hl := h.lt
  obtain ⟨x0, x1, x2, x3, x4, hr⟩ := h.res
  exact ⟨h.below.trans (hf.below h.below.size fun j hj e => by omega), heap_setCell_same W w.heap.size 1 _ _ sv' h.box, x0, x1, x2, x3, x4, (hf.block _ hl (by omega)).trans hr⟩
theorem Bx.cut {w W : World} {d : DS} {sv cv : Value} (h : Bx w W d sv cv) : Bx w ((W.setCell ⟨w.heap.size, 2, none⟩ (.slice none 0 0)).setCell ⟨w.heap.size, 4, none⟩ (.bool true)) { d with chs := [], down := true } sv (.slice none 0 0) := by
  have hf : Fr (fun j => j = w.heap.size) W ((W.setCell ⟨w.heap.size, 2, none⟩ (.slice none 0 0)).setCell ⟨w.heap.size, 4, none⟩ (.bool true)) := (fr_set W w.heap.size 2 _).trans (fr_set _ w.heap.size 4 _) (fun _ _ h => h) (fun _ _ h => h)
  have hl := h.lt
  obtain ⟨x0, x1, x2, x3, x4, hr⟩ := h.res
  exact ⟨h.below.trans (hf.below h.below.size fun j hj e => by omega), heap_setCell_same _ w.heap.size 4 _ _ _ (heap_setCell_same W w.heap.size 2 _ _ _ h.box), x0, x1, x2, x3, x4, (hf.block _ hl (by omega)).trans hr⟩

theorem doc_fin {w W : World} {B : Nat → Prop} {d d2 : DS} {sv cv sv2 cv2 : Value} (h : Bx w W d sv cv) (hd : DocN w W B d2 sv2 cv2) (a b c x e : Value) :
    Doc (five W (w.heap.size + 1) a b c x e) (fun j => B j ∨ w.heap.size ≤ j) d2 sv2 cv2 ∧ Below w.heap.size w (five W (w.heap.size + 1) a b c x e) :=
  ⟨Doc.mono (hd.five (.inr rfl) a b c x e) fun j _ hj => by
    rcases hj with hj | hj
    · exact .inl hj.1
    · exact .inr (by omega), h.below.trans ((fr_five W (w.heap.size + 1) a b c x e).below h.below.size fun j hj e => by omega)⟩

set_option maxHeartbeats 4000000 in
set_option maxRecDepth 100000 in
theorem rcut_any {w : World} {B : Nat → Prop} {d : DS} {sv cv : Value} (h : Doc w B d sv cv) (hsz : d.sz ≤ 600000) {kv : Value} {ks : List Bool} (hkv : RowV w (fun j => j < w.heap.size) kv (ks.map Value.bool)) :
    Calls Tryz.prog 32 #[docV d sv cv, kv] w fun e w' => ∃ sv' cv', e = .returned (docV (dcut d ks) sv' cv') ∧ Doc w' (fun j => B j ∨ w.heap.size ≤ j) (dcut d ks) sv' cv' ∧ Below w.heap.size w w' := by
  obtain ⟨⟨aos, caps, rfl⟩, aoc, capc, rfl⟩ := h.val
  obtain ⟨aok, capk, rfl, hkl, hkm, _⟩ := id hkv
  have hkl2 : (ks.map Value.bool).length = ks.length := List.length_map _
  have HKV : Hid (RowV w (fun j => j < w.heap.size) (.slice aok ks.length capk) (ks.map Value.bool)) := Lib.hid (by rw [← hkl2]; exact hkv)
  rw [hkl2] at hkl ⊢
  have HKL : Hid (ks.length ≤ 9223372036854775807) := Lib.hid (by simp only [maxLen] at hkm; omega)
  have HBX := Lib.hid (bx_new w d (.slice aos d.sure.length caps) (.slice aoc d.chs.length capc))
  have HDN : Hid (∀ W, Below w.heap.size w W → DocN w W B d (.slice aos d.sure.length caps) (.slice aoc d.chs.length capc)) := Lib.hid fun W hb => DocN.start h hb
  have HSZ := Lib.hid hsz
  have HCL : Hid (d.chs.length ≤ 600000) := Lib.hid (Nat.le_trans (Nat.le_add_left _ _) hsz)
  obtain ⟨zr, hzr⟩ : ∃ zr : Int, zr = (d.room : Int) := ⟨_, rfl⟩
  unfold docV
  rw [← hzr] at HBX ⊢
  obtain ⟨W2, hW2⟩ : ∃ W2, W2 = (w.alloc (.cells #[.int .i64 zr, .slice aos d.sure.length caps, .slice aoc d.chs.length capc, .int .i64 d.fuse, .bool d.down] 33)).alloc (.cells #[.int .i64 0, .slice none 0 0, .slice none 0 0, .int .i64 0, .bool false] 33) := ⟨_, rfl⟩
  rw [← hW2] at HBX
  have HW2 := Lib.hid hW2
  have HZR := Lib.hid hzr
  clear h hsz hkv hkl hkm hkl2 hzr hW2
  go_enter Tryz.func32, Tryz.ntmps32
  go_wp2_with fail
  rw [← HW2.out]
  go_loopw [5] (fun i wr => ∃ (k : Nat) (lv : Value), k ≤ d.chs.length ∧ k ≤ ks.length ∧ i = .int .i64 (k : Int) ∧ Bx w wr { d with sure := picked d.sure (d.chs.take k) ks } lv (.slice aoc d.chs.length capc) ∧ DocN w wr B { d with sure := picked d.sure (d.chs.take k) ks } lv (.slice aoc d.chs.length capc))
    (fun i _ => d.chs.length - (intOf i).toNat)
  case atStart => exact ⟨0, _, Nat.zero_le _, Nat.zero_le _, rfl, by
    have e : ({ d with sure := picked d.sure (d.chs.take 0) ks } : DS) = d := by cases ks <;> rfl
    rw [e]; exact HBX.out, by
    have e : ({ d with sure := picked d.sure (d.chs.take 0) ks } : DS) = d := by cases ks <;> rfl
    rw [e]; exact HDN.out _ HBX.out.below⟩
  case round =>
    obtain ⟨k, lv, hk, hk2, rfl, hbx, hdn⟩ := hrel
    obtain ⟨⟨lo, lc, rfl⟩, _⟩ := hdn.val
    have HDNR := Lib.hid hdn
    have HBXR := Lib.hid hbx
    obtain ⟨q0, q1, q2, q3, q4⟩ := hbx.c
    have qf := hbx.f
    have qg := hbx.g
    simp only [] at q0 q1 q2 q3 q4 lo lc
    by_cases hlt : k < d.chs.length
    · have hlti : (k : Int) < d.chs.length := by omega
      have HK := Lib.hid hlt
      by_cases hlt2 : k < ks.length
      · have hlti2 : (k : Int) < ks.length := by omega
        have HK2 := Lib.hid hlt2
        obtain ⟨c, hc⟩ : ∃ c, d.chs[k]? = some c := ⟨_, List.getElem?_eq_getElem hlt⟩
        obtain ⟨kb, hkb⟩ : ∃ kb, ks[k]? = some kb := ⟨_, List.getElem?_eq_getElem hlt2⟩
        have HPS := Lib.hid (picked_snoc (d.chs.take k) c d.sure ks)
        have hml : (d.chs.take k).length = k := by rw [List.length_take]; omega
        rw [hml, hkb, ← take_snoc hc] at HPS
        have hrow := (HKV.out.keep (kept_below hbx.below)).at (i := k) (by rw [List.length_map]; exact hlt2)
        obtain ⟨bk, offk, rfl, _, _, hcell⟩ := hrow
        have ek := hcell k (by rw [List.length_map]; exact hlt2)
        rw [List.getElem?_map, hkb] at ek
        change _ = some (Value.bool kb) at ek
        have hkn : c.kind ≤ 2 := hdn.kind c (List.mem_of_getElem? hc)
        have hpl : (picked d.sure (d.chs.take k) ks).length ≤ 900000 := Nat.le_trans (picked_length _ _ _) (by have := HSZ.out; unfold DS.sz at this; rw [hml]; omega)
        cases kb
        · have HSAME : Hid (picked d.sure (d.chs.take (k + 1)) ks = picked d.sure (d.chs.take k) ks) := Lib.hid (by rw [HPS.out]; rfl)
          clear hbx hdn hc hkb hml hcell hkn hpl
          go_wp2
          go_roundw
          case rel => exact ⟨k + 1, _, HK.out, HK2.out, (by first | exact inc_eq HK.out (Nat.le_trans HCL.out (by decide)) | rfl), by rw [HSAME.out]; exact HBXR.out, by rw [HSAME.out]; exact HDNR.out⟩
          case measure => first | exact inc_meas HK.out (Nat.le_trans HCL.out (by decide)) | (have := HK.out; simp [intOf]; omega)
        · have HNEXT : Hid (picked d.sure (d.chs.take (k + 1)) ks = capply (picked d.sure (d.chs.take k) ks) c) := Lib.hid (by rw [HPS.out]; rfl)
          obtain ⟨g, offc, rfl, hgl, e0, e1, e2, e3⟩ := hdn.at hc
          have hcall := rapply_any (w := wr.drew) (hdn.sure.keep ⟨Nat.le_refl _, fun _ _ _ => rfl⟩) hkn hpl
          obtain ⟨kind, name, tu, text⟩ := c
          unfold chgV at hcall
          simp only [] at e0 e1 e2 e3 hcall
          obtain ⟨bn, hbn⟩ : ∃ s, Value.string s = nmV name := ⟨_, rfl⟩
          obtain ⟨bt, hbt⟩ : ∃ s, Value.string s = nmV tu := ⟨_, rfl⟩
          obtain ⟨bx, hbx2⟩ : ∃ s, s = txt text := ⟨_, rfl⟩
          rw [← hbn] at e1 hcall
          rw [← hbt] at e2 hcall
          rw [← hbx2] at e3 hcall
          have HCALL := Lib.hid hcall
          have Q2 := Lib.hid q2
          have HGL := Lib.hid hgl
          have E0 := Lib.hid e0
          have E1 := Lib.hid e1
          have E2 := Lib.hid e2
          have E3 := Lib.hid e3
          clear hbx hdn hc hkb hml hcell hkn hpl hcall hbn hbt hbx2 hgl
          go_wp2_with fail
          go_region_with ((first
            | (go_at_call 63; refine HCALL.out.mono ?_
               rintro e w2 ⟨v2, rfl, ho, hb2⟩
               obtain ⟨o2, c2, rfl, _⟩ := ho.val
               have hbx2 := HBXR.out.old (W' := w2) ⟨hb2.os, hb2.tape, hb2.output, hb2.size, hb2.block⟩
               obtain ⟨_, z1, z2, _, _⟩ := hbx2.c
               have zf := hbx2.f
               have HBX2 := Lib.hid hbx2
               have HO2 := Lib.hid ho
               have HB2 := Lib.hid hb2
               clear ho hb2 hbx2)))
          all_goals
            obtain ⟨W4, hW4⟩ : ∃ W4, W4 = w2.setCell ⟨w.heap.size, 1, none⟩ (.slice o2 (capply (picked d.sure (d.chs.take k) ks) ⟨kind, name, tu, text⟩).length c2) := ⟨_, rfl⟩
            have HBX4 : Hid (Bx w W4 { d with sure := picked d.sure (d.chs.take (k + 1)) ks } (.slice o2 (capply (picked d.sure (d.chs.take k) ks) ⟨kind, name, tu, text⟩).length c2) (.slice (some ⟨g, offc, none⟩) d.chs.length capc)) := Lib.hid (by
              rw [hW4, HNEXT.out]
              exact HBX2.out.one _ _)
            have HDN4 : Hid (DocN w W4 B { d with sure := picked d.sure (d.chs.take (k + 1)) ks } (.slice o2 (capply (picked d.sure (d.chs.take k) ks) ⟨kind, name, tu, text⟩).length c2) (.slice (some ⟨g, offc, none⟩) d.chs.length capc)) := Lib.hid (by
              have hk2 : Kept (fun j => (B j ∧ j < w.heap.size) ∨ w.heap.size + 1 < j) w2 W4 := by rw [hW4]; exact (fr_set w2 w.heap.size 1 _).kept _ fun j _ hj e => by omega
              have hl := HBXR.out.lt
              refine ⟨?_, (HDNR.out.chs.keep (w' := w2) (kept_new (show Below wr.heap.size wr w2 from ⟨HB2.out.os, HB2.out.tape, HB2.out.output, HB2.out.size, HB2.out.block⟩) _)).keep hk2, HDNR.out.kind⟩
              have h1 : FsAt w2 (fun j => (B j ∧ j < w.heap.size) ∨ w.heap.size + 1 < j) _ _ := HO2.out.mono fun j _ hj => by
                rcases hj with hj | hj
                · exact hj
                · exact .inr (Nat.lt_of_lt_of_le hl hj)
              show FsAt W4 _ _ (picked d.sure (d.chs.take (k + 1)) ks)
              rw [HNEXT.out]
              exact h1.keep hk2)
            rw [← hW4]
            clear hW4
            go_wp2
            go_roundw
            case rel => exact ⟨k + 1, _, HK.out, HK2.out, (by first | exact inc_eq HK.out (Nat.le_trans HCL.out (by decide)) | rfl), HBX4.out, HDN4.out⟩
            case measure => first | exact inc_meas HK.out (Nat.le_trans HCL.out (by decide)) | (have := HK.out; simp [intOf]; omega)
      · have HKE : Hid (k = ks.length) := Lib.hid (by omega)
        have hlt2' : ¬ (k : Int) < ks.length := by omega
        have HFIN : Hid (({ d with sure := picked d.sure (d.chs.take k) ks, chs := [], down := true } : DS) = dcut d ks) := Lib.hid (by unfold dcut; rw [HKE.out, picked_take])
        clear hbx hdn hlt2
        obtain ⟨x0, x1, x2, x3, x4, y0, y1, y2, y3, y4⟩ := HBXR.out.r
        go_wp2
        refine bodyPost_ret (v := docV (dcut d ks) (.slice lo (picked d.sure (d.chs.take k) ks).length lc) (.slice none 0 0)) (by rw [← HFIN.out]; simp [docV, results, Tryz.results32, go_sem, y0, y1, y2, y3, y4]) rfl ?_
        have hB2 := HBXR.out.cut
        have hD2 : DocN w ((wr.setCell ⟨w.heap.size, 2, none⟩ (.slice none 0 0)).setCell ⟨w.heap.size, 4, none⟩ (.bool true)) B { d with sure := picked d.sure (d.chs.take k) ks, chs := [], down := true } (.slice lo (picked d.sure (d.chs.take k) ks).length lc) (.slice none 0 0) :=
          ⟨HDNR.out.sure.keep (((fr_set wr w.heap.size 2 _).trans (fr_set _ w.heap.size 4 _) (fun _ _ h => h) (fun _ _ h => h)).kept _ fun j _ hj e => by omega), recAt_nil _ _ _, fun c hc => (by cases hc)⟩
        obtain ⟨hdoc3, hbel3⟩ := doc_fin hB2 hD2 (.int .i64 (d.room : Int)) (.slice lo (picked d.sure (d.chs.take k) ks).length lc) (.slice none 0 0) (.int .i64 d.fuse) (.bool true)
        refine ⟨_, _, rfl, ?_, ?_⟩
        · rw [← HFIN.out]
          have hz := HZR.out
          subst hz
          exact ⟨hdoc3.sure, recAt_nil _ _ _, fun c hc => (by cases hc)⟩
        · have hz := HZR.out
          subst hz
          exact hbel3
    · have HKE : Hid (k = d.chs.length) := Lib.hid (by omega)
      have hlt' : ¬ (k : Int) < d.chs.length := by omega
      have HFIN : Hid (({ d with sure := picked d.sure (d.chs.take k) ks, chs := [], down := true } : DS) = dcut d ks) := Lib.hid (by unfold dcut; rw [HKE.out, List.take_length])
      clear hbx hdn hlt
      obtain ⟨x0, x1, x2, x3, x4, y0, y1, y2, y3, y4⟩ := HBXR.out.r
      go_wp2
      refine bodyPost_ret (v := docV (dcut d ks) (.slice lo (picked d.sure (d.chs.take k) ks).length lc) (.slice none 0 0)) (by rw [← HFIN.out]; simp [docV, results, Tryz.results32, go_sem, y0, y1, y2, y3, y4]) rfl ?_
      have hB2 := HBXR.out.cut
      have hD2 : DocN w ((wr.setCell ⟨w.heap.size, 2, none⟩ (.slice none 0 0)).setCell ⟨w.heap.size, 4, none⟩ (.bool true)) B { d with sure := picked d.sure (d.chs.take k) ks, chs := [], down := true } (.slice lo (picked d.sure (d.chs.take k) ks).length lc) (.slice none 0 0) :=
        ⟨HDNR.out.sure.keep (((fr_set wr w.heap.size 2 _).trans (fr_set _ w.heap.size 4 _) (fun _ _ h => h) (fun _ _ h => h)).kept _ fun j _ hj e => by omega), recAt_nil _ _ _, fun c hc => (by cases hc)⟩
      obtain ⟨hdoc3, hbel3⟩ := doc_fin hB2 hD2 (.int .i64 (d.room : Int)) (.slice lo (picked d.sure (d.chs.take k) ks).length lc) (.slice none 0 0) (.int .i64 d.fuse) (.bool true)
      refine ⟨_, _, rfl, ?_, ?_⟩
      · rw [← HFIN.out]
        have hz := HZR.out
        subst hz
        exact ⟨hdoc3.sure, recAt_nil _ _ _, fun c hc => (by cases hc)⟩
      · have hz := HZR.out
        subst hz
        exact hbel3

end Go.Proofs.YtmjpckodcafjiaaGreat

namespace Go.Proofs.YtmjpckodcafjiaaGreat
open Go.RowKit

set_option maxHeartbeats 1000000 in
set_option maxRecDepth 100000 in
theorem texts_quiet {w : World} {b1 b2 : Nat} {v1 v2 : Value} {ns : List Nm} (h1 : NmsO w b1 v1 ns) (h2 : NmsO w b2 v2 ns) (hl : ns.length ≤ 1000000000) :
    Calls Tryz.prog 34 #[v1, v2] w fun e w' => e = .returned (.bool true) ∧ ∃ q, w' = w.drewN q := by
  obtain ⟨ao1, cap1, rfl⟩ := h1.val
  obtain ⟨ao2, cap2, rfl⟩ := h2.val
  have H1 := Lib.hid h1
  have H2 := Lib.hid h2
  have HL := Lib.hid hl
  clear h1 h2 hl
  go_enter Tryz.func34, Tryz.ntmps34
  go_wp2
  go_loopw [5, 13] (fun _ i wr => ∃ (k q : Nat), k ≤ ns.length ∧ i = .int .i64 (k : Int) ∧ wr = w.drewN q)
    (fun _ i _ => ns.length - (intOf i).toNat)
  case atStart => exact ⟨0, 0, Nat.zero_le _, rfl, rfl⟩
  case round =>
    obtain ⟨k, q, hk, rfl, rfl⟩ := hrel
    by_cases hlt : k < ns.length
    · obtain ⟨x, hx⟩ : ∃ x, ns[k]? = some x := ⟨_, List.getElem?_eq_getElem hlt⟩
      obtain ⟨g1, rfl, _, hg1, e1⟩ := H1.out.at hx
      obtain ⟨g2, rfl, _, hg2, e2⟩ := H2.out.at hx
      obtain ⟨s, hs⟩ : ∃ s : ByteArray, nmV x = .string s := ⟨_, rfl⟩
      rw [hs] at e1 e2
      have hlti : (k : Int) < ns.length := by omega
      have HKL := Lib.hid hlt
      clear hx hg1 hg2 hs
      go_wp2_with fail
      go_quiet (fail)
      go_wp2
      go_roundw
      case rel => exact ⟨k + 1, _, Nat.succ_le_of_lt HKL.out, congrArg (Value.int .i64) (wrap_succM k (Nat.le_trans (Nat.le_of_lt HKL.out) HL.out)), rfl⟩
      case measure => exact meas_succM HKL.out (Nat.le_trans (Nat.le_of_lt HKL.out) HL.out)
    · obtain rfl : k = ns.length := by omega
      go_wp2
      go_ret
      exact ⟨rfl, _, rfl⟩

theorem rnames_list {d : DS} (hr : Rises d.sure) : rnames d = dlist d := by
  unfold rnames dlist
  split
  · rfl
  · have h : srt (d.shown.map (·.1)) = d.shown.map (·.1) := (Rises.shown d.chs hr).srt
    rw [h]

set_option maxHeartbeats 4000000 in
set_option maxRecDepth 100000 in
theorem shows_any {w : World} {S B : Nat → Prop} {p : Nat} {d : DS} {sv cv : Value} (h : Dk w S p d) (hd : Doc w B d sv cv) (hsz : d.sz ≤ 600000) (hr : Rises d.sure) :
    Calls Tryz.prog 24 #[.pointer (some ⟨p, 0, none⟩), docV d sv cv] w fun e w' => e = .returned (.bool true) ∧ Below w.heap.size w w' := by
  obtain ⟨⟨aos, caps, rfl⟩, aoc, capc, rfl⟩ := hd.val
  have HBX := Lib.hid (b1_new w d (.slice aos d.sure.length caps) (.slice aoc d.chs.length capc))
  obtain ⟨ns, hns⟩ : ∃ ns, ns = (dlist d).1 := ⟨_, rfl⟩
  obtain ⟨c, hc⟩ : ∃ c, c = (dlist d).2 := ⟨_, rfl⟩
  have hrn : rnames d = (ns, c) := by rw [rnames_list hr, hns, hc]
  have hdl : dlist d = (ns, c) := by rw [hns, hc]
  have HNL : Hid (ns.length ≤ 1000000) := Lib.hid (by
    have := lenShown d
    rw [hns]; unfold dlist
    split
    · simp
    · rw [srt_length, List.length_map]; omega)
  have HFS : Hid (fsort d.sure = d.sure) := Lib.hid hr.fsort
  have HBY : Hid (Small 65536 d.sure) := Lib.hid (by obtain ⟨_, _, _, hk⟩ := h; exact hk.small)
  have HT : Hid (tot d.shown < 4611686018427387904) := Lib.hid (by obtain ⟨_, _, _, hk⟩ := h; exact hk.totShown (by omega))
  obtain ⟨W1, hW1⟩ : ∃ W1, W1 = w.alloc (.cells #[.int .i64 (d.room : Int), .slice aos d.sure.length caps, .slice aoc d.chs.length capc, .int .i64 d.fuse, .bool d.down] 33) := ⟨_, rfl⟩
  rw [← hW1] at HBX
  have HDk : Hid (∀ W, Below W1.heap.size W1 W → Dk W S p d) := Lib.hid fun W hb => (h.keep (kept_new HBX.out.below S)).keep (kept_new hb S)
  have HDoc : Hid (∀ W, Below W1.heap.size W1 W → Doc W B d (.slice aos d.sure.length caps) (.slice aoc d.chs.length capc)) := Lib.hid fun W hb => (hd.old HBX.out.below).old hb
  have HLI : Hid (∀ W, Below W1.heap.size W1 W → Calls Tryz.prog 39 #[.pointer (some ⟨p, 0, none⟩)] W (ListPost (ns, c) W)) := Lib.hid fun W hb => by
    have := listD_any (HDk.out W hb) (by omega)
    rw [hdl] at this
    exact this
  have HNA : Hid (∀ W, Below W1.heap.size W1 W → Calls Tryz.prog 54 #[docV d (.slice aos d.sure.length caps) (.slice aoc d.chs.length capc)] W fun e w' => ∃ v, e = .returned (.tuple #[v, .int .i64 (c : Int)]) ∧ NmsO w' W.heap.size v ns ∧ Below W.heap.size W w') := Lib.hid fun W hb => by
    have := rnames_any (HDoc.out W hb) hsz
    rw [hrn] at this
    exact this
  have HSU : Hid (∀ W, Below W1.heap.size W1 W → Calls Tryz.prog 55 #[.pointer (some ⟨p, 0, none⟩)] W fun e w' => ∃ v, e = .returned v ∧ FilesO w' W.heap.size v d.sure ∧ Below W.heap.size W w') := Lib.hid fun W hb => by
    have := sureD_any (HDk.out W hb) (by omega)
    rw [HFS.out] at this
    exact this
  have HSO : Hid (∀ W, Below W1.heap.size W1 W → Calls Tryz.prog 60 #[docV d (.slice aos d.sure.length caps) (.slice aoc d.chs.length capc)] W (ApPost B W d.shown)) := Lib.hid fun W hb => rshown_any (HDoc.out W hb) (by omega)
  have HSL : Hid (d.sure.length ≤ 600000) := Lib.hid (Nat.le_trans (Nat.le_add_right _ _) hsz)
  have HUD : Hid (∀ W, Below W1.heap.size W1 W → Calls Tryz.prog 58 #[.pointer (some ⟨p, 0, none⟩)] W fun e w' => e = .returned (.int .i64 (tot d.shown : Int)) ∧ w' = W) := Lib.hid fun W hb => used_any (HDk.out W hb)
  unfold docV at HNA HSO ⊢
  have HW1 := Lib.hid hW1
  clear h hd hsz hr hns hc hrn hdl hW1
  go_enter Tryz.func24, Tryz.ntmps24
  go_wp2_with fail
  rw [← HW1.out]
  refine (HLI.out W1 (Below.refl _ _)).mono ?_
  rintro e w2 ⟨v4, rfl, ho4, hb2⟩
  obtain ⟨ao4, cap4, rfl⟩ := ho4.val
  have HO4 := Lib.hid ho4
  have HB2 := Lib.hid hb2
  have hx2 := (hb2.block _ (Array.getElem?_eq_some_iff.1 HBX.out.box).1).trans HBX.out.box
  obtain ⟨q0, q1, q2, q3, q4⟩ := (⟨HBX.out.below.trans (hb2.mono HBX.out.below.size), hx2⟩ : B1 w w2 d _ _).c
  clear ho4 hb2 hx2
  obtain ⟨er, her⟩ : ∃ er, er = errV c := ⟨_, rfl⟩
  simp only [← her]
  have HER := Lib.hid her
  clear her
  go_wp2_with fail
  refine (HNA.out w2 HB2.out).mono ?_
  rintro e w3 ⟨v5, rfl, ho5, hb3⟩
  obtain ⟨ao5, cap5, rfl⟩ := ho5.val
  have HO4 := Lib.hid (HO4.out.below hb3)
  have HO5 := Lib.hid ho5
  have HB3 := Lib.hid (HB2.out.trans (hb3.mono HB2.out.size))
  clear ho5 hb3 q0 q1 q2 q3 q4 HB2
  go_wp2_with fail
  refine (HSU.out w3 HB3.out).mono ?_
  rintro e w4 ⟨v6, rfl, ho6, hb4⟩
  obtain ⟨ao6, cap6, rfl, _⟩ := ho6.val
  have HO4 := Lib.hid (HO4.out.below hb4)
  have HO5 := Lib.hid (HO5.out.below hb4)
  have HO6 := Lib.hid ho6
  have HB4 := Lib.hid (HB3.out.trans (hb4.mono HB3.out.size))
  clear ho6 hb4 HB3
  have hx4 := (HB4.out.block _ (Array.getElem?_eq_some_iff.1 HBX.out.box).1).trans HBX.out.box
  obtain ⟨q0, q1, q2, q3, q4⟩ := (⟨HBX.out.below.trans (HB4.out.mono HBX.out.below.size), hx4⟩ : B1 w w4 d _ _).c
  have HTX : Hid (∀ k, Calls Tryz.prog 34 #[.slice ao4 ns.length cap4, .slice ao5 ns.length cap5] (w4.drewN k) fun e w' => e = .returned (.bool true) ∧ ∃ q, w' = (w4.drewN k).drewN q) := Lib.hid fun k => texts_quiet (HO4.out.below (below_dK (Below.refl _ _))) (HO5.out.below (below_dK (Below.refl _ _))) (Nat.le_trans HNL.out (by decide))
  have HNU : Hid (∀ W, Calls Tryz.prog 9 #[er] W fun e w' => e = .returned (.int .i64 (c : Int)) ∧ w' = W) := Lib.hid fun W => by
    rw [HER.out]
    exact (num_any c W).mono fun e w' hp => ⟨hp.1, hp.2.symm⟩
  have HDO : Hid (∀ k, Calls Tryz.prog 56 #[.pointer (some ⟨p, 0, none⟩)] (w4.drewN k) fun e w' => e = .returned (.bool d.down) ∧ w' = w4.drewN k) := Lib.hid fun k => downD_any (HDk.out _ (below_dK HB4.out))
  have HPE : Hid (∀ k, Calls Tryz.prog 57 #[.pointer (some ⟨p, 0, none⟩)] (w4.drewN k) fun e w' => e = .returned (.int .i64 (d.chs.length : Int)) ∧ w' = w4.drewN k) := Lib.hid fun k => pending_any (HDk.out _ (below_dK HB4.out))
  clear hx4
  go_wp2_with fail
  go_quiet (first
    | (go_at_call 34; exact Calls.quiet_of (HTX.out _))
    | (go_at_call 9; exact Calls.quiet_of_same (HNU.out _))
    | (go_at_call 56; exact Calls.quiet_of_same (HDO.out _))
    | (go_at_call 57; exact Calls.quiet_of_same (HPE.out _)))
  go_wp2
  go_loopw [10, 59] (fun _ i wr => ∃ k : Nat, k ≤ d.sure.length ∧ i = .int .i64 (k : Int) ∧ Below w4.heap.size w4 wr)
    (fun _ i _ => d.sure.length - (intOf i).toNat)
  case atStart => exact ⟨0, Nat.zero_le _, rfl, by first | exact Below.refl _ _ | exact below_dK (Below.refl _ _)⟩
  case round =>
    obtain ⟨k, hk, rfl, hb⟩ := hrel
    have HB := Lib.hid hb
    have HBR : Hid (Below W1.heap.size W1 wr) := Lib.hid (HB4.out.trans (hb.mono HB4.out.size))
    by_cases hlt : k < d.sure.length
    · obtain ⟨f, hf⟩ : ∃ f, d.sure[k]? = some f := ⟨_, List.getElem?_eq_getElem hlt⟩
      have hby := (HBY.out f (List.mem_of_getElem? hf)).2
      obtain ⟨x, y⟩ := f
      simp only [] at hby
      obtain ⟨g7, u7, rfl, _, hg7, a7, b7, hat7⟩ := HO6.out.at hf
      have a7 := (hb.cell (p := ⟨g7, k * 2, none⟩) hg7).trans a7
      have b7 := (hb.cell (p := ⟨g7, k * 2 + 1, none⟩) hg7).trans b7
      have hr7 := (hat7.typ (kept_new hb _) fun _ h => h).reads
      obtain ⟨ba7, bc7, rfl, _, _, _⟩ := hr7.val
      obtain ⟨s, hs⟩ : ∃ s : ByteArray, nmV x = .string s := ⟨_, rfl⟩
      rw [hs] at a7
      obtain ⟨t, ht⟩ : ∃ t : ByteArray, t = txt y := ⟨_, rfl⟩
      obtain ⟨W5, hW5⟩ : ∃ W5, W5 = wr.alloc (.cells #[.string s, .slice ba7 y.length bc7] 100) := ⟨_, rfl⟩
      have hb5 : Below wr.heap.size wr W5 := by rw [hW5]; exact (Below.refl _ _).alloc (Nat.le_refl _) _
      have hx5 : W5.heap[wr.heap.size]? = some (.cells #[.string s, .slice ba7 y.length bc7] 100 (0, 0)) := by rw [hW5]; exact heap_alloc_new _ _
      have c0 : W5.cell? ⟨wr.heap.size, 0, none⟩ = some (.string s) := by rw [cell_of_row _ _ 0 _ _ _ hx5]; rfl
      have c1 : W5.cell? ⟨wr.heap.size, 1, none⟩ = some (.slice ba7 y.length bc7) := by rw [cell_of_row _ _ 1 _ _ _ hx5]; rfl
      have hbW := HBR.out.trans (hb5.mono HBR.out.size)
      obtain ⟨b, off, rfl, _, e0, e1⟩ := (HDoc.out W5 hbW).sure.at hf
      simp only [] at e0 e1
      rw [hs] at e0
      rw [← ht] at e1
      have hxb := (hbW.block _ (Array.getElem?_eq_some_iff.1 HBX.out.box).1).trans HBX.out.box
      have d1 : W5.cell? ⟨w.heap.size, 1, none⟩ = some (.slice (some ⟨b, off, none⟩) d.sure.length caps) := by rw [cell_of_row _ _ 1 _ _ _ hxb]; rfl
      have hr8 : Reads W5 .u8 (.slice ba7 y.length bc7) y := hr7.at'.keep (kept_new hb5 _) |>.reads
      have q3 : ∀ n, (convert 41 9 (.slice ba7 y.length bc7)).run Tryz.prog (W5.drewN n) = .ok (.string t) (W5.drewN n) := by intro n; rw [ht]; exact conv_reads _ _ _ (hr8.drewN n)
      have hlti : (k : Int) < d.sure.length := by omega
      have HKL := Lib.hid hlt
      have HW5 := Lib.hid hW5
      have HB5 : Hid (Below w4.heap.size w4 W5) := Lib.hid (hb.trans (hb5.mono hb.size))
      clear hb hf hby hg7 hat7 hr7 hr8 hs ht hW5 hb5 hx5 hbW hxb q0 q1 q2 q4
      go_wp2_with fail
      rw [← HW5.out]
      go_quiet (fail)
      go_wp2
      go_roundw
      case rel => exact ⟨k + 1, HKL.out, (by first | exact inc_eq HKL.out (Nat.le_trans HSL.out (by decide)) | rfl), by first | exact HB5.out | exact below_dK HB5.out⟩
      case measure => first | exact inc_meas HKL.out (Nat.le_trans HSL.out (by decide)) | (have := HKL.out; simp [intOf]; omega)
    · obtain rfl : k = d.sure.length := by omega
      have hxr := (HBR.out.block _ (Array.getElem?_eq_some_iff.1 HBX.out.box).1).trans HBX.out.box
      obtain ⟨z0, z1, z2, z3, z4⟩ := (⟨HBX.out.below.trans (HBR.out.mono HBX.out.below.size), hxr⟩ : B1 w wr d _ _).c
      have HBRD : Hid (Below W1.heap.size W1 wr.drew) := Lib.hid ⟨HBR.out.os, HBR.out.tape, HBR.out.output, HBR.out.size, HBR.out.block⟩
      clear hb hxr q0 q1 q2 q3 q4
      go_wp2_with fail
      go_region_with (first
        | (go_at_call 58
           refine (HUD.out _ (by first | exact HBRD.out | exact HB7.out)).mono ?_
           rintro e wu ⟨rfl, rfl⟩)
        | (go_at_call 60
           refine (HSO.out _ HBRD.out).mono ?_
           rintro e w7 ⟨lv, rfl, hfs, hb7⟩
           obtain ⟨lo, lc, rfl, _⟩ := hfs.val
           have HFS7 := Lib.hid hfs
           have HB7 := Lib.hid (HBRD.out.trans (hb7.mono HBRD.out.size))
           clear hfs hb7)
        | (go_at_call 59
           refine (rused_any HFS7.out HT.out).mono ?_
           rintro e wv ⟨rfl, rfl⟩))
      all_goals
        go_wp2
        go_ret
        exact ⟨rfl, HBX.out.below.trans (HB7.out.mono HBX.out.below.size)⟩

end Go.Proofs.YtmjpckodcafjiaaGreat

namespace Go.Proofs.YtmjpckodcafjiaaGreat
open Go.RowKit

theorem Tryz.infoU8 : (Tryz.prog.info? 5).map (fun i => (i.zero, i.size, i.bytes)) = some (some (.int .u8 0), 1, 1) := by kernel_rfl
/-- What an act makes of a disk. -/
def dact (d : DS) (a : ActR) : DS :=
  if ((IntKind.u64.wrap a.kind).tmod 10 == 0) = true then (dwrite d a.name a.bytes).1
  else if ((IntKind.u64.wrap a.kind).tmod 10 == 1) = true then (dwrite d a.name a.bytes).1
  else if ((IntKind.u64.wrap a.kind).tmod 10 == 2) = true then (drename d a.name a.to).1
  else if ((IntKind.u64.wrap a.kind).tmod 10 == 3) = true then (dremove d a.name).1
  else if ((IntKind.u64.wrap a.kind).tmod 10 == 4) = true then (dsync d).1
  else if ((IntKind.u64.wrap a.kind).tmod 10 == 5) = true then d
  else if ((IntKind.u64.wrap a.kind).tmod 10 == 6) = true then (if a.n < 0 then d else { d with fuse := a.n })
  else if ((IntKind.u64.wrap a.kind).tmod 10 == 7) = true then dcut d a.keep
  else dstart d
theorem dact_sz (d : DS) (a : ActR) : (dact d a).sz ≤ d.sz + 1 := by
  unfold dact
  repeat' split
  · exact (opOk_write d a.name a.bytes).sz
  · exact (opOk_write d a.name a.bytes).sz
  · exact (opOk_rename d a.name a.to).sz
  · exact (opOk_remove d a.name).sz
  · exact (opOk_sync d).sz
  · omega
  · omega
  · show d.sz ≤ d.sz + 1; omega
  · show (picked d.sure d.chs a.keep).length + 0 ≤ _
    have := picked_length d.chs d.sure a.keep
    unfold DS.sz
    omega
  · show d.sure.length + (if d.down then [] else d.chs).length ≤ _
    unfold DS.sz
    split <;> simp <;> omega
theorem dact_rises {d : DS} (h : Rises d.sure) (a : ActR) : Rises (dact d a).sure := by
  unfold dact
  repeat' split
  · rw [(dwrite_keeps d a.name a.bytes).1]; exact h
  · rw [(dwrite_keeps d a.name a.bytes).1]; exact h
  · rw [(drename_keeps d a.name a.to).1]; exact h
  · rw [(dremove_keeps d a.name).1]; exact h
  · unfold dsync
    split
    · rw [dwork_sure]; exact h
    · exact Rises.shown d.chs h
  · exact h
  · exact h
  · exact h
  · exact Rises.picked d.chs h a.keep
  · exact h

/-- The program's disk and the document's side by side: both are d, and m; nothing of w0 was written. -/
def Both (w0 w : World) (S : Nat → Prop) (p : Nat) (d m : DS) (sv cv : Value) : Prop :=
  Dk w S p d ∧ (∀ j, S j → w0.heap.size ≤ j) ∧ Below w0.heap.size w0 w ∧ Doc w (fun j => ¬ S j) m sv cv

theorem owns_keep {w w' : World} {base : Nat} {e : TypeId} {k : IntKind} {v : Value} {l : List Nat} (h : Owns w base e k v l) (hk : ∀ j, v.ownBlock = some j → w'.heap[j]? = w.heap[j]?) : Owns w' base e k v l := by
  refine ⟨h.1, ?_⟩
  rcases h.2 with h2 | ⟨g, cap, cur, rfl, hb, hg, r⟩
  · exact .inl h2
  · exact .inr ⟨g, cap, cur, rfl, hb, (hk g rfl).trans hg, r⟩
theorem Owns.form2 {w : World} {base : Nat} {e : TypeId} {k : IntKind} {v : Value} {l : List Nat} (h : Owns w base e k v l) : ∃ ao cap, v = .slice ao l.length cap := by
  rcases h.2 with ⟨rfl, hn⟩ | ⟨g, cap, cur, rfl, _⟩
  · exact ⟨none, 0, by rw [hn]⟩
  · exact ⟨_, cap, rfl⟩
/-- A row of bytes of which the first k were turned. -/
def Xs (wA wr : World) (ov : Value) (l : List Nat) (k : Nat) : Prop :=
  Fr (fun j => ov.ownBlock = some j) wA wr ∧ (l = [] ∨ ∃ g cap cur, ov = .slice (some ⟨g, 0, none⟩) l.length cap ∧ wr.heap[g]? = some (.cells cur 5 (0, 0)) ∧ ∀ i, k ≤ i → i < l.length → cur[i]? = some (.int .u8 (l.getD i 0 : Nat)))
theorem Xs.start {w : World} {base : Nat} {v : Value} {l : List Nat} (h : Owns w base 5 .u8 v l) : Xs w w v l 0 := by
  refine ⟨Fr.refl _ _, ?_⟩
  have h0 := h
  rcases h.2 with ⟨_, hn⟩ | ⟨g, cap, cur, rfl, hb, hg, _⟩
  · exact .inl (List.length_eq_zero_iff.1 hn)
  · refine .inr ⟨g, cap, cur, rfl, hg, fun i _ hi => ?_⟩
    have := World.ownsRow.cells h0 (g := g) rfl i (.int .u8 (l.getD i 0 : Nat)) (vals_get .u8 l i hi)
    rw [Addr.add_lit, Nat.zero_add, cell_of_row w g i _ _ _ hg] at this
    exact this
theorem Xs.at {wA wr : World} {ov : Value} {l : List Nat} {k : Nat} (h : Xs wA wr ov l k) (hk : k < l.length) : ∃ g cur, (∃ cap, ov = .slice (some ⟨g, 0, none⟩) l.length cap) ∧ wr.heap[g]? = some (.cells cur 5 (0, 0)) ∧ cur[k]? = some (.int .u8 (l.getD k 0 : Nat)) := by
  rcases h.2 with rfl | ⟨g, cap, cur, hv, hg, hc⟩
  · simp at hk
  · exact ⟨g, cur, ⟨cap, hv⟩, hg, hc k (Nat.le_refl _) hk⟩
theorem Xs.drew {wA wr : World} {ov : Value} {l : List Nat} {k : Nat} (h : Xs wA wr ov l k) (n : Nat) : Xs wA (wr.drewN n) ov l k := ⟨h.1.trans (fr_drew wr n (fun _ => False)) (fun _ _ h => h) fun _ _ h => h.elim, h.2⟩
theorem five_cells {w : World} {p : Nat} {c0 c1 c2 c3 c4 : Value} {e : TypeId} (h : w.heap[p]? = some (.cells #[c0, c1, c2, c3, c4] e (0, 0))) :
    w.cell? ⟨p, 0, none⟩ = some c0 ∧ w.cell? ⟨p, 1, none⟩ = some c1 ∧ w.cell? ⟨p, 2, none⟩ = some c2 ∧ w.cell? ⟨p, 3, none⟩ = some c3 ∧ w.cell? ⟨p, 4, none⟩ = some c4 :=
  ⟨by rw [cell_of_row _ _ 0 _ _ _ h]; rfl, by rw [cell_of_row _ _ 1 _ _ _ h]; rfl, by rw [cell_of_row _ _ 2 _ _ _ h]; rfl, by rw [cell_of_row _ _ 3 _ _ _ h]; rfl, by rw [cell_of_row _ _ 4 _ _ _ h]; rfl⟩
theorem Xs.step {wA wr : World} {g n cap : Nat} {l : List Nat} {k : Nat} (h : Xs wA wr (.slice (some ⟨g, 0, none⟩) n cap) l k) (x : Value) : Xs wA (wr.setCell ⟨g, k, none⟩ x) (.slice (some ⟨g, 0, none⟩) n cap) l (k + 1) := by
  refine ⟨h.1.trans (fr_set wr g k x) (fun _ _ h => h) (fun j _ hj => by subst hj; rfl), ?_⟩
  rcases h.2 with h2 | ⟨g', cap', cur, hv, hg, hc⟩
  · exact .inl h2
  · cases hv
    refine .inr ⟨g, cap, _, rfl, heap_setCell_same wr g k _ _ x hg, fun i h1 h2 => ?_⟩
    rw [Array.getElem?_setIfInBounds_ne (by omega)]
    exact hc i (by omega) h2
/-- What Do keeps at hand, E being the world's size at its beginning: the disk, the document's, the boxes, the bytes of its own. -/
structure DoSt (w0 w : World) (S0 : Nat → Prop) (W : World) (S : Nat → Prop) (p : Nat) (d m : DS) (sv cv : Value) (acts : Array Value) (ov : Value) (own : List Nat) : Prop where
  dk : Dk W S p d
  s0 : ∀ j, S j → w0.heap.size ≤ j
  below : Below w0.heap.size w0 W
  doc : Doc W (fun j => ¬ S j ∧ (j < w.heap.size ∨ w.heap.size + 2 < j) ∧ some j ≠ ov.ownBlock) m sv cv
  box : W.heap[w.heap.size]? = some (.cells #[.int .i64 (m.room : Int), sv, cv, .int .i64 m.fuse, .bool m.down] 33 (0, 0))
  act : W.heap[w.heap.size + 1]? = some (.cells acts 44 (0, 0))
  res : ∃ x0 x1 x2 x3 x4, W.heap[w.heap.size + 2]? = some (.cells #[x0, x1, x2, x3, x4] 33 (0, 0))
  own : Owns W (w.heap.size + 3) 5 .u8 ov own
  nS : ∀ j, S j → (j < w.heap.size ∨ w.heap.size + 2 < j) ∧ some j ≠ ov.ownBlock
  w0w : w0.heap.size ≤ w.heap.size
  fr : Fr S0 w W
  sub : ∀ j, S j → S0 j ∨ w.heap.size ≤ j
section
variable {w0 w W W' : World} {S0 S : Nat → Prop} {p : Nat} {d m d' m' : DS} {sv cv sv' cv' ov : Value} {acts : Array Value} {own : List Nat}
theorem DoSt.lt (h : DoSt w0 w S0 W S p d m sv cv acts ov own) : w.heap.size + 2 < W.heap.size := by
  obtain ⟨_, _, _, _, _, h⟩ := h.res
  exact (Array.getElem?_eq_some_iff.1 h).1
theorem DoSt.old (h : DoSt w0 w S0 W S p d m sv cv acts ov own) (hb : Below W.heap.size W W') : DoSt w0 w S0 W' S p d m sv cv acts ov own := by
  have hl := h.lt
  obtain ⟨x0, x1, x2, x3, x4, hr⟩ := h.res
  exact ⟨h.dk.keep (kept_new hb S), h.s0, h.below.trans (hb.mono h.below.size), h.doc.old hb, (hb.block _ (by omega)).trans h.box, (hb.block _ (by omega)).trans h.act, ⟨x0, x1, x2, x3, x4, (hb.block _ hl).trans hr⟩, owns_keep h.own fun j hj => hb.block j (Owns.lt h.own j hj).2, h.nS, h.w0w, h.fr.trans (fr_below hb (fun _ => False)) (fun _ _ h => h) (fun _ _ h => h.elim), h.sub⟩
/-- Behind an operation of the program. -/
theorem DoSt.prog (h : DoSt w0 w S0 W S p d m sv cv acts ov own) (hp : DPost S p W W' d') : ∃ S', DoSt w0 w S0 W' S' p d' m sv cv acts ov own := by
  obtain ⟨S', hd, hf, hs, ht⟩ := hp
  have hl := h.lt
  obtain ⟨x0, x1, x2, x3, x4, hr⟩ := h.res
  have hn : ∀ j, ¬ S j → j < W.heap.size → ¬ S' j := fun j h1 h2 h3 => by
    rcases ht j h3 with h4 | h4
    · exact h1 h4
    · omega
  have hob : ∀ j, some j = ov.ownBlock → ¬ S j := fun j e hS => (h.nS j hS).2 e
  refine ⟨S', hd, fun j hj => ?_, h.below.trans (hf.below h.below.size fun j hj hS => Nat.not_le_of_lt hj (h.s0 j hS)), ?_, (hf.block _ (by omega) fun hS => by have := (h.nS _ hS).1; omega).trans h.box, (hf.block _ (by omega) fun hS => by have := (h.nS _ hS).1; omega).trans h.act, ⟨x0, x1, x2, x3, x4, (hf.block _ hl fun hS => by have := (h.nS _ hS).1; omega).trans hr⟩, ?_, fun j hj => ?_, h.w0w, h.fr.trans hf (fun _ _ h => h) (fun j hj hS => (h.sub j hS).elim id fun h9 => absurd hj (Nat.not_lt.2 h9)), fun j hj => (ht j hj).elim (h.sub j) fun h9 => .inr (Nat.le_trans h.fr.size h9)⟩
  · rcases ht j hj with h1 | h1
    · exact h.s0 j h1
    · exact Nat.le_trans h.below.size h1
  · exact (h.doc.mono (C := fun j => ¬ S' j ∧ (j < w.heap.size ∨ w.heap.size + 2 < j) ∧ some j ≠ ov.ownBlock) fun j hj hB => ⟨hn j hB.1 hj, hB.2⟩).keep (hf.kept _ fun j _ hj hS => hj.1 (hs j hS))
  · exact owns_keep h.own fun j hj => hf.block j ((Owns.lt h.own j hj).2) (hob j hj.symm)
  · rcases ht j hj with h1 | h1
    · exact h.nS j h1
    · refine ⟨.inr (by omega), fun e => ?_⟩
      have := (Owns.lt h.own j e.symm).2
      omega
/-- Behind an operation of the document's: what it answers lies in the box. -/
theorem DoSt.doc' (h : DoSt w0 w S0 W S p d m sv cv acts ov own) (hb : Below W.heap.size W W') (hd : Doc W' (fun j => (¬ S j ∧ (j < w.heap.size ∨ w.heap.size + 2 < j) ∧ some j ≠ ov.ownBlock) ∨ W.heap.size ≤ j) m' sv' cv') :
    DoSt w0 w S0 (five W' w.heap.size (.int .i64 (m'.room : Int)) sv' cv' (.int .i64 m'.fuse) (.bool m'.down)) S p d m' sv' cv' acts ov own := by
  have h1 := h.old hb
  have hl := h.lt
  have hf := fr_five W' w.heap.size (.int .i64 (m'.room : Int)) sv' cv' (.int .i64 m'.fuse) (.bool m'.down)
  have hob : ov.ownBlock ≠ some w.heap.size := fun e => by have := (Owns.lt h.own _ e).1; omega
  obtain ⟨x0, x1, x2, x3, x4, hr⟩ := h1.res
  have hl1 := h1.lt
  refine ⟨h1.dk.keep (hf.kept S fun j _ hS e => by have := (h.nS j hS).1; omega), h.s0, h1.below.trans (hf.below h1.below.size fun j hj e => by have := h.w0w; omega), ?_, five_blk h1.box _ _ _ _ _, (hf.block _ (by omega) (by omega)).trans h1.act, ⟨x0, x1, x2, x3, x4, (hf.block _ hl1 (by omega)).trans hr⟩,
    owns_keep h1.own fun j hj => hf.block j (Owns.lt h1.own j hj).2 fun e => hob (e ▸ hj), h.nS, h.w0w, h1.fr.trans hf (fun _ _ h => h) (fun j hj e => by omega), h.sub⟩
  refine (hd.mono (C := fun j => ¬ S j ∧ (j < w.heap.size ∨ w.heap.size + 2 < j) ∧ some j ≠ ov.ownBlock) fun j hj hB => ?_).keep (hf.kept _ fun j _ hB e => by omega)
  rcases hB with hB | hB
  · exact hB
  · exact ⟨fun hS => absurd (h.dk.lt hS) (Nat.not_lt.2 hB), .inr (by omega), fun e => absurd (Owns.lt h.own j e.symm).2 (Nat.not_lt.2 hB)⟩
theorem DoSt.ownAt (h : DoSt w0 w S0 W S p d m sv cv acts ov own) : At W (fun j => ¬ S j) .u8 ov own := by
  refine ⟨h.own.reads, ?_⟩
  rcases h.own.2 with ⟨_, hn⟩ | ⟨g, cap, cur, hv, _⟩
  · exact .inl (List.length_eq_zero_iff.1 hn)
  · exact .inr ⟨g, 0, _, cap, hv, fun hS => (h.nS g hS).2 (by rw [hv]; rfl)⟩
theorem DoSt.fuse (h : DoSt w0 w S0 W S p d m sv cv acts ov own) (n : Int) : DoSt w0 w S0 (W.setCell ⟨w.heap.size, 3, none⟩ (.int .i64 n)) S p d { m with fuse := n } sv cv acts ov own := by
  have hl := h.lt
  have hf := fr_set W w.heap.size 3 (.int .i64 n)
  have hob : ov.ownBlock ≠ some w.heap.size := fun e => by have := (Owns.lt h.own _ e).1; omega
  obtain ⟨x0, x1, x2, x3, x4, hr⟩ := h.res
  exact ⟨h.dk.keep (hf.kept S fun j _ hS e => by have := (h.nS j hS).1; omega), h.s0, h.below.trans (hf.below h.below.size fun j hj e => by have := h.w0w; omega), ⟨(h.doc.sure.keep (hf.kept _ fun j _ hB e => by omega)), h.doc.chs.keep (hf.kept _ fun j _ hB e => by omega), h.doc.kind⟩, heap_setCell_same W w.heap.size 3 _ _ _ h.box, (hf.block _ (by omega) (by omega)).trans h.act, ⟨x0, x1, x2, x3, x4, (hf.block _ hl (by omega)).trans hr⟩,
    owns_keep h.own fun j hj => hf.block j (Owns.lt h.own j hj).2 fun e => hob (e ▸ hj), h.nS, h.w0w, h.fr.trans hf (fun _ _ h => h) (fun j hj e => by omega), h.sub⟩
theorem DoSt.dc (h : DoSt w0 w S0 W S p d m sv cv acts ov own) : W.cell? ⟨w.heap.size, 0, none⟩ = some (.int .i64 (m.room : Int)) ∧ W.cell? ⟨w.heap.size, 1, none⟩ = some sv ∧ W.cell? ⟨w.heap.size, 2, none⟩ = some cv ∧ W.cell? ⟨w.heap.size, 3, none⟩ = some (.int .i64 m.fuse) ∧ W.cell? ⟨w.heap.size, 4, none⟩ = some (.bool m.down) ∧ ∀ i, W.frozen? ⟨w.heap.size, i, none⟩ = false :=
  ⟨by rw [cell_of_row _ _ 0 _ _ _ h.box]; rfl, by rw [cell_of_row _ _ 1 _ _ _ h.box]; rfl, by rw [cell_of_row _ _ 2 _ _ _ h.box]; rfl, by rw [cell_of_row _ _ 3 _ _ _ h.box]; rfl, by rw [cell_of_row _ _ 4 _ _ _ h.box]; rfl, fun i => frozen_of_row _ _ i _ _ h.box⟩
theorem DoSt.ac {a0 a1 a2 a3 a4 a5 : Value} (h : DoSt w0 w S0 W S p d m sv cv #[a0, a1, a2, a3, a4, a5] ov own) : W.cell? ⟨w.heap.size + 1, 0, none⟩ = some a0 ∧ W.cell? ⟨w.heap.size + 1, 1, none⟩ = some a1 ∧ W.cell? ⟨w.heap.size + 1, 2, none⟩ = some a2 ∧ W.cell? ⟨w.heap.size + 1, 3, none⟩ = some a3 ∧ W.cell? ⟨w.heap.size + 1, 4, none⟩ = some a4 ∧ W.cell? ⟨w.heap.size + 1, 5, none⟩ = some a5 :=
  six_cells h.act
theorem DoSt.rc (h : DoSt w0 w S0 W S p d m sv cv acts ov own) : ∃ x0 x1 x2 x3 x4, W.cell? ⟨w.heap.size + 1 + 1, 0, none⟩ = some x0 ∧ W.cell? ⟨w.heap.size + 1 + 1, 1, none⟩ = some x1 ∧ W.cell? ⟨w.heap.size + 1 + 1, 2, none⟩ = some x2 ∧ W.cell? ⟨w.heap.size + 1 + 1, 3, none⟩ = some x3 ∧ W.cell? ⟨w.heap.size + 1 + 1, 4, none⟩ = some x4 ∧ ∀ i, W.frozen? ⟨w.heap.size + 1 + 1, i, none⟩ = false := by
  obtain ⟨x0, x1, x2, x3, x4, h⟩ := h.res
  exact ⟨x0, x1, x2, x3, x4, by rw [cell_of_row _ _ 0 _ _ _ h]; rfl, by rw [cell_of_row _ _ 1 _ _ _ h]; rfl, by rw [cell_of_row _ _ 2 _ _ _ h]; rfl, by rw [cell_of_row _ _ 3 _ _ _ h]; rfl, by rw [cell_of_row _ _ 4 _ _ _ h]; rfl, fun i => frozen_of_row _ _ i _ _ h⟩
end

set_option maxHeartbeats 8000000 in
set_option maxRecDepth 100000 in
theorem do_both {w0 w : World} {S : Nat → Prop} {p : Nat} {d : DS} {sv cv : Value} (h : Both w0 w S p d d sv cv) (hsz : d.sz ≤ 500000) (hr : Rises d.sure) {a : ActR} {bv kv : Value} (ha : ActAt w0 (fun j => j < w0.heap.size) a bv kv) (hl : longA a = false) :
    Calls Tryz.prog 22 #[.pointer (some ⟨p, 0, none⟩), docV d sv cv, .agg #[.int .i64 a.kind, nmV a.name, nmV a.to, bv, .int .i64 a.n, kv]] w fun e w' =>
      ∃ S' sv' cv', e = .returned (.tuple #[docV (dact d a) sv' cv', .bool true]) ∧ Both w0 w' S' p (dact d a) (dact d a) sv' cv' ∧ Fr S w w' ∧ (∀ j, S' j → S j ∨ w.heap.size ≤ j) := by
  obtain ⟨hdk, hs0, hb0, hdoc⟩ := h
  obtain ⟨⟨aos, caps, rfl⟩, aoc, capc, rfl⟩ := hdoc.val
  obtain ⟨aob, capb, rfl, _, _, _⟩ := ha.bytes.reads.val
  obtain ⟨aok, capk, rfl, _, _, _⟩ := id ha.keep
  rw [List.length_map]
  have HKV : Hid (RowV w0 (fun j => j < w0.heap.size) (.slice aok a.keep.length capk) (a.keep.map Value.bool)) := Lib.hid (by have := ha.keep; rw [List.length_map] at this; exact this)
  have HBV := Lib.hid ha.bytes
  have HBYT := Lib.hid ha.byte
  have HNL : Hid (a.name.length ≤ 9223372036854775807) := Lib.hid ha.name
  have HTL : Hid (a.to.length ≤ 9223372036854775807) := Lib.hid ha.to
  have HBL : Hid (a.bytes.length ≤ 66000) := Lib.hid (by
    unfold longA at hl
    simp only [Bool.or_eq_false_iff, decide_eq_false_iff_not] at hl
    omega)
  obtain ⟨d', hd'⟩ : ∃ d', d' = dact d a := ⟨_, rfl⟩
  rw [← hd']
  have HN := Lib.hid ha.n
  obtain ⟨kind, name, tu, bytes, nn, keep⟩ := a
  simp only [] at HKV HBV HBYT HNL HTL HBL HN ⊢
  obtain ⟨bn, hbn⟩ : ∃ s, Value.string s = nmV name := ⟨_, rfl⟩
  obtain ⟨bt, hbt⟩ : ∃ s, Value.string s = nmV tu := ⟨_, rfl⟩
  rw [← hbn, ← hbt]
  have HSN := Lib.hid hbn
  have HST := Lib.hid hbt
  have hw0 : w0.heap.size ≤ w.heap.size := hb0.size
  obtain ⟨zr, hzr⟩ : ∃ zr : Int, zr = (d.room : Int) := ⟨_, rfl⟩
  obtain ⟨W4, hW4⟩ : ∃ W4, W4 = (((w.alloc (.cells #[.int .i64 zr, .slice aos d.sure.length caps, .slice aoc d.chs.length capc, .int .i64 d.fuse, .bool d.down] 33)).alloc (.cells #[.int .i64 kind, .string bn, .string bt, .slice aob bytes.length capb, .int .i64 nn, .slice aok keep.length capk] 44)).alloc (.cells #[.int .i64 0, .slice none 0 0, .slice none 0 0, .int .i64 0, .bool false] 33)).alloc (.cells #[] 5) := ⟨_, rfl⟩
  have hb4 : Below w.heap.size w W4 := by rw [hW4]; exact ((((Below.refl _ _).alloc (Nat.le_refl _) _).alloc (by simp) _).alloc (by simp <;> omega) _).alloc (by simp <;> omega) _
  have hs4 : W4.heap.size = w.heap.size + 3 + 1 := by rw [hW4]; simp
  have hD4 : W4.heap[w.heap.size]? = some (.cells #[.int .i64 zr, .slice aos d.sure.length caps, .slice aoc d.chs.length capc, .int .i64 d.fuse, .bool d.down] 33 (0, 0)) := by
    rw [hW4, Below.heap_alloc _ _ _ (by simp <;> omega), Below.heap_alloc _ _ _ (by simp <;> omega), Below.heap_alloc _ _ _ (by simp <;> omega)]
    exact alloc_at _ rfl
  have hA4 : W4.heap[w.heap.size + 1]? = some (.cells #[.int .i64 kind, .string bn, .string bt, .slice aob bytes.length capb, .int .i64 nn, .slice aok keep.length capk] 44 (0, 0)) := by
    rw [hW4, Below.heap_alloc _ _ _ (by simp <;> omega), Below.heap_alloc _ _ _ (by simp <;> omega)]
    exact alloc_at _ (by simp)
  have hR4 : W4.heap[w.heap.size + 2]? = some (.cells #[.int .i64 0, .slice none 0 0, .slice none 0 0, .int .i64 0, .bool false] 33 (0, 0)) := by
    rw [hW4, Below.heap_alloc _ _ _ (by simp <;> omega)]
    exact alloc_at _ (by simp)
  have hO4 : Owns W4 (w.heap.size + 3) 5 .u8 (.slice (some ⟨w.heap.size + 3, 0, none⟩) 0 0) [] := by
    have h3 := owns_empty (((w.alloc (.cells #[.int .i64 zr, .slice aos d.sure.length caps, .slice aoc d.chs.length capc, .int .i64 d.fuse, .bool d.down] 33)).alloc (.cells #[.int .i64 kind, .string bn, .string bt, .slice aob bytes.length capb, .int .i64 nn, .slice aok keep.length capk] 44)).alloc (.cells #[.int .i64 0, .slice none 0 0, .slice none 0 0, .int .i64 0, .bool false] 33)) (w.heap.size + 3) 5 .u8 (by simp)
    rw [hW4]
    simpa using h3
  have HST4 : Hid (∀ ov w5, Owns w5 (w.heap.size + 3) 5 .u8 ov bytes → W4.grownBy w5 (some (w.heap.size + 3)) → DoSt w0 w S w5 S p d d (.slice aos d.sure.length caps) (.slice aoc d.chs.length capc) #[.int .i64 kind, .string bn, .string bt, .slice aob bytes.length capb, .int .i64 nn, .slice aok keep.length capk] ov bytes) := Lib.hid fun ov w5 ho hg => by
    have hb5 : Below w.heap.size w w5 := hb4.grown hg (by omega) (fun j hj => by cases hj; omega)
    have hk : ∀ j, j < w.heap.size + 3 → w5.heap[j]? = W4.heap[j]? := fun j hj => hg.block j (by omega) (fun e => by cases e; omega)
    subst hzr
    exact ⟨hdk.keep (kept_new hb5 S), hs0, hb0.trans (hb5.mono hw0), ((hdoc.mono (C := fun j => ¬ S j ∧ j < w.heap.size) fun j hj hB => ⟨hB, hj⟩).keep (kept_new hb5 _)).mono fun j _ hj => ⟨hj.1, .inl hj.2, fun e => by have := (Owns.lt ho j e.symm).1; omega⟩,
      (hk _ (by omega)).trans hD4, (hk _ (by omega)).trans hA4, ⟨_, _, _, _, _, (hk _ (by omega)).trans hR4⟩, ho, fun j hj => ⟨.inl (hdk.lt hj), fun e => by have := (Owns.lt ho j e.symm).1; have := hdk.lt hj; omega⟩, hw0, fr_below hb5 _, fun _ h => .inl h⟩
  have HRB : Hid (Reads W4 .u8 (.slice aob bytes.length capb) bytes) := Lib.hid (((HBV.out.keep (kept_below hb0)).keep (kept_new hb4 _)).reads)
  have HO4 := Lib.hid hO4
  have HS4 := Lib.hid hs4
  have HW4 := Lib.hid hW4
  have HSZ := Lib.hid hsz
  have HRI := Lib.hid hr
  have HD' := Lib.hid hd'
  have HLN : Hid (name.length ≤ 60) := Lib.hid (by
    unfold longA at hl
    simp only [Bool.or_eq_false_iff, decide_eq_false_iff_not] at hl
    omega)
  have HFU : Hid (-1 ≤ d.fuse ∧ d.fuse ≤ 9223372036854775807) := Lib.hid (by obtain ⟨_, _, _, hk⟩ := hdk; exact hk.fuse)
  have HTO : Hid (∀ n b, b.length ≤ 65536 → tot (fput d.shown n b) < 4611686018427387904) := Lib.hid fun n b hb => by
    obtain ⟨_, _, _, hk⟩ := hdk
    have h1 := tot_put hk.shown.apart n b
    have h2 := small_tot (hk.smallShown) (n := 500000) (Nat.le_trans (lenShown d) hsz) (by decide)
    have h3 := tot_le fun f hf => (hk.smallShown f hf).1
    have h4 : d.shown.length * 65536 ≤ 500000 * 65536 := Nat.mul_le_mul_right _ (Nat.le_trans (lenShown d) hsz)
    omega
  unfold docV
  rw [← hzr]
  have HZR := Lib.hid hzr
  have HSZ' : Hid (d'.sz ≤ 600000) := Lib.hid (by rw [HD'.out]; have := dact_sz d ⟨kind, name, tu, bytes, nn, keep⟩; have := HSZ.out; omega)
  have HRI' : Hid (Rises d'.sure) := Lib.hid (by rw [HD'.out]; exact dact_rises HRI.out _)
  clear ha hl hdk hs0 hb0 hdoc hsz hr hd' hbn hbt hzr hW4 hb4 hs4 hD4 hA4 hR4 hO4
  go_enter Tryz.func22, Tryz.ntmps22
  go_upto_block 0 with (at_builtin; rw [← HW4.out]; go_must (refine wpList_app _ rfl _ _ 41 rfl (w.heap.size + 3) 5 (.int .u8 0) 1 Tryz.underlying41 Tryz.infoU8 rfl .u8 _ [] rfl HO4.out _ bytes rfl HRB.out (by decide) (by have := HBL.out; simp; omega) (by rw [HS4.out]; omega) ?_))
  intro ov w5 ho5 hg5
  have HDS := Lib.hid (HST4.out ov w5 ho5 hg5)
  obtain ⟨aoo, capo, rfl⟩ := Owns.form2 ho5
  clear ho5 hg5
  obtain ⟨q0, q1, q2, q3, q4, qf⟩ := HDS.out.dc
  obtain ⟨a0, a1, a2, a3, a4, a5⟩ := HDS.out.ac
  go_upto_block 0 with fail
  go_cut [8, 9] from 10 (fun ov' ok wx => ok = .bool true ∧ ov' = .slice aoo bytes.length capo ∧ ∃ S' sv' cv', DoSt w0 w S wx S' p d' d' sv' cv' #[.int .i64 kind, .string bn, .string bt, .slice aob bytes.length capb, .int .i64 nn, .slice aok keep.length capk] (.slice aoo bytes.length capo) bytes)
  case first =>
    cases z0 : ((IntKind.u64.wrap kind).tmod 10 == 0)
    rotate_left
    · have HE : Hid (d' = (dwrite d name bytes).1) := Lib.hid (by rw [HD'.out]; unfold dact; simp only []; rw [if_pos z0])
      obtain ⟨c1, hc1⟩ : ∃ c1, c1 = (dwrite d name bytes).2 := ⟨_, rfl⟩
      obtain ⟨bx, hbx⟩ : ∃ s, s = txt bytes := ⟨_, rfl⟩
      have hrd : Reads w5 .u8 (.slice aob bytes.length capb) bytes := (HBV.out.keep (kept_below HDS.out.below)).reads
      have qc : (convert 41 9 (.slice aob bytes.length capb)).run Tryz.prog w5 = .ok (.string bx) w5 := by rw [hbx]; exact conv_reads _ _ _ hrd
      have hcall := rwrite_any (HDS.out.doc) (Nat.le_trans HSZ.out (by decide)) HFU.out name HNL.out bytes (HTO.out name bytes)
      unfold DocPost at hcall
      rw [← HE.out, ← hc1] at hcall
      unfold docV at hcall
      rw [← HSN.out] at hcall
      rw [← hbx] at hcall
      have HC := Lib.hid hcall
      have HC1 := Lib.hid hc1
      have HBXX := Lib.hid hbx
      clear hcall hc1 hbx hrd
      go_wp2_with fail
      refine HC.out.mono ?_
      rintro e w6 ⟨sv1, cv1, rfl, hdoc6, hb6⟩
      obtain ⟨⟨ao1, cap1, rfl⟩, ao2, cap2, rfl⟩ := hdoc6.val
      have hds6 := HDS.out.old hb6
      obtain ⟨W7, hW7⟩ : ∃ W7, W7 = five w6 w.heap.size (.int .i64 (d'.room : Int)) (.slice ao1 d'.sure.length cap1) (.slice ao2 d'.chs.length cap2) (.int .i64 d'.fuse) (.bool d'.down) := ⟨_, rfl⟩
      have HDS7 : Hid (DoSt w0 w S W7 S p d d' (.slice ao1 d'.sure.length cap1) (.slice ao2 d'.chs.length cap2) #[.int .i64 kind, .string bn, .string bt, .slice aob bytes.length capb, .int .i64 nn, .slice aok keep.length capk] (.slice aoo bytes.length capo) bytes) := Lib.hid (by rw [hW7]; exact HDS.out.doc' hb6 hdoc6)
      clear q0 q1 q2 q3 q4 qf a0 a1 a2 a3 a4 a5
      obtain ⟨q0, q1, q2, q3, q4, qf⟩ := hds6.dc
      obtain ⟨a0, a1, a2, a3, a4, a5⟩ := hds6.ac
      have hpc := writeD_any HDS7.out.dk (by have := HSZ.out; omega) (n := name) HNL.out (HDS7.out.ownAt) HBYT.out
      try unfold WPost at hpc
      rw [← HE.out, ← HC1.out] at hpc
      rw [← HSN.out] at hpc
      have HPC := Lib.hid hpc
      unfold five at hW7
      have HW7 := Lib.hid hW7
      clear hpc hW7 hds6 hdoc6 hb6
      go_wp2_with fail
      rw [← HW7.out]
      refine HPC.out.mono ?_
      rintro e w8 ⟨rfl, hp8⟩
      obtain ⟨S', hs8⟩ := HDS7.out.prog hp8
      have HS8 := Lib.hid hs8
      clear hp8 hs8
      go_wp2_with fail
      refine (num_any c1 _).mono ?_
      rintro e w9 ⟨rfl, rfl⟩
      go_wp2
      go_meet
      case rel => exact ⟨rfl, rfl, S', _, _, HS8.out⟩
    cases z1 : ((IntKind.u64.wrap kind).tmod 10 == 1)
    rotate_left
    · have HE : Hid (d' = (dwrite d name bytes).1) := Lib.hid (by rw [HD'.out]; unfold dact; simp only []; rw [if_neg (by rw [z0]; decide), if_pos z1])
      obtain ⟨c1, hc1⟩ : ∃ c1, c1 = (dwrite d name bytes).2 := ⟨_, rfl⟩
      obtain ⟨bx, hbx⟩ : ∃ s, s = txt bytes := ⟨_, rfl⟩
      have hrd : Reads w5 .u8 (.slice aob bytes.length capb) bytes := (HBV.out.keep (kept_below HDS.out.below)).reads
      have qc : (convert 41 9 (.slice aob bytes.length capb)).run Tryz.prog w5 = .ok (.string bx) w5 := by rw [hbx]; exact conv_reads _ _ _ hrd
      have hcall := rwrite_any (HDS.out.doc) (Nat.le_trans HSZ.out (by decide)) HFU.out name HNL.out bytes (HTO.out name bytes)
      unfold DocPost at hcall
      rw [← HE.out, ← hc1] at hcall
      unfold docV at hcall
      rw [← HSN.out] at hcall
      rw [← hbx] at hcall
      have HC := Lib.hid hcall
      have HC1 := Lib.hid hc1
      have HBXX := Lib.hid hbx
      clear hcall hc1 hbx hrd
      go_wp2_with fail
      refine HC.out.mono ?_
      rintro e w6 ⟨sv1, cv1, rfl, hdoc6, hb6⟩
      obtain ⟨⟨ao1, cap1, rfl⟩, ao2, cap2, rfl⟩ := hdoc6.val
      have hds6 := HDS.out.old hb6
      obtain ⟨W7, hW7⟩ : ∃ W7, W7 = five w6 w.heap.size (.int .i64 (d'.room : Int)) (.slice ao1 d'.sure.length cap1) (.slice ao2 d'.chs.length cap2) (.int .i64 d'.fuse) (.bool d'.down) := ⟨_, rfl⟩
      have HDS7 : Hid (DoSt w0 w S W7 S p d d' (.slice ao1 d'.sure.length cap1) (.slice ao2 d'.chs.length cap2) #[.int .i64 kind, .string bn, .string bt, .slice aob bytes.length capb, .int .i64 nn, .slice aok keep.length capk] (.slice aoo bytes.length capo) bytes) := Lib.hid (by rw [hW7]; exact HDS.out.doc' hb6 hdoc6)
      clear q0 q1 q2 q3 q4 qf a0 a1 a2 a3 a4 a5
      obtain ⟨q0, q1, q2, q3, q4, qf⟩ := hds6.dc
      obtain ⟨a0, a1, a2, a3, a4, a5⟩ := hds6.ac
      have hpc := writeD_any HDS7.out.dk (by have := HSZ.out; omega) (n := name) HNL.out (HDS7.out.ownAt) HBYT.out
      try unfold WPost at hpc
      rw [← HE.out, ← HC1.out] at hpc
      rw [← HSN.out] at hpc
      have HPC := Lib.hid hpc
      unfold five at hW7
      have HW7 := Lib.hid hW7
      clear hpc hW7 hds6 hdoc6 hb6
      go_wp2_with fail
      rw [← HW7.out]
      refine HPC.out.mono ?_
      rintro e w8 ⟨rfl, hp8⟩
      obtain ⟨S', hs8⟩ := HDS7.out.prog hp8
      have HS8 := Lib.hid hs8
      clear hp8 hs8
      go_wp2_with fail
      refine (num_any c1 _).mono ?_
      rintro e w9 ⟨rfl, rfl⟩
      go_wp2
      go_meet
      case rel => exact ⟨rfl, rfl, S', _, _, HS8.out⟩
    cases z2 : ((IntKind.u64.wrap kind).tmod 10 == 2)
    rotate_left
    · have HE : Hid (d' = (drename d name tu).1) := Lib.hid (by rw [HD'.out]; unfold dact; simp only []; rw [if_neg (by rw [z0]; decide), if_neg (by rw [z1]; decide), if_pos z2])
      obtain ⟨c1, hc1⟩ : ∃ c1, c1 = (drename d name tu).2 := ⟨_, rfl⟩
      have hcall := rrename_any (HDS.out.doc) (Nat.le_trans HSZ.out (by decide)) HFU.out name tu HNL.out HTL.out
      unfold DocPost at hcall
      rw [← HE.out, ← hc1] at hcall
      unfold docV at hcall
      rw [← HSN.out] at hcall
      rw [← HST.out] at hcall
      have HC := Lib.hid hcall
      have HC1 := Lib.hid hc1
      clear hcall hc1
      go_wp2_with fail
      refine HC.out.mono ?_
      rintro e w6 ⟨sv1, cv1, rfl, hdoc6, hb6⟩
      obtain ⟨⟨ao1, cap1, rfl⟩, ao2, cap2, rfl⟩ := hdoc6.val
      have hds6 := HDS.out.old hb6
      obtain ⟨W7, hW7⟩ : ∃ W7, W7 = five w6 w.heap.size (.int .i64 (d'.room : Int)) (.slice ao1 d'.sure.length cap1) (.slice ao2 d'.chs.length cap2) (.int .i64 d'.fuse) (.bool d'.down) := ⟨_, rfl⟩
      have HDS7 : Hid (DoSt w0 w S W7 S p d d' (.slice ao1 d'.sure.length cap1) (.slice ao2 d'.chs.length cap2) #[.int .i64 kind, .string bn, .string bt, .slice aob bytes.length capb, .int .i64 nn, .slice aok keep.length capk] (.slice aoo bytes.length capo) bytes) := Lib.hid (by rw [hW7]; exact HDS.out.doc' hb6 hdoc6)
      clear q0 q1 q2 q3 q4 qf a0 a1 a2 a3 a4 a5
      obtain ⟨q0, q1, q2, q3, q4, qf⟩ := hds6.dc
      obtain ⟨a0, a1, a2, a3, a4, a5⟩ := hds6.ac
      have hpc := renameD_any HDS7.out.dk (by have := HSZ.out; omega) (n := name) (n2 := tu) HNL.out HTL.out
      try unfold WPost at hpc
      rw [← HE.out, ← HC1.out] at hpc
      rw [← HSN.out] at hpc
      rw [← HST.out] at hpc
      have HPC := Lib.hid hpc
      unfold five at hW7
      have HW7 := Lib.hid hW7
      clear hpc hW7 hds6 hdoc6 hb6
      go_wp2_with fail
      rw [← HW7.out]
      refine HPC.out.mono ?_
      rintro e w8 ⟨rfl, hp8⟩
      obtain ⟨S', hs8⟩ := HDS7.out.prog hp8
      have HS8 := Lib.hid hs8
      clear hp8 hs8
      go_wp2_with fail
      refine (num_any c1 _).mono ?_
      rintro e w9 ⟨rfl, rfl⟩
      go_wp2
      go_meet
      case rel => exact ⟨rfl, rfl, S', _, _, HS8.out⟩
    cases z3 : ((IntKind.u64.wrap kind).tmod 10 == 3)
    rotate_left
    · have HE : Hid (d' = (dremove d name).1) := Lib.hid (by rw [HD'.out]; unfold dact; simp only []; rw [if_neg (by rw [z0]; decide), if_neg (by rw [z1]; decide), if_neg (by rw [z2]; decide), if_pos z3])
      obtain ⟨c1, hc1⟩ : ∃ c1, c1 = (dremove d name).2 := ⟨_, rfl⟩
      have hcall := rremove_any (HDS.out.doc) (Nat.le_trans HSZ.out (by decide)) HFU.out name HNL.out
      unfold DocPost at hcall
      rw [← HE.out, ← hc1] at hcall
      unfold docV at hcall
      rw [← HSN.out] at hcall
      have HC := Lib.hid hcall
      have HC1 := Lib.hid hc1
      clear hcall hc1
      go_wp2_with fail
      refine HC.out.mono ?_
      rintro e w6 ⟨sv1, cv1, rfl, hdoc6, hb6⟩
      obtain ⟨⟨ao1, cap1, rfl⟩, ao2, cap2, rfl⟩ := hdoc6.val
      have hds6 := HDS.out.old hb6
      obtain ⟨W7, hW7⟩ : ∃ W7, W7 = five w6 w.heap.size (.int .i64 (d'.room : Int)) (.slice ao1 d'.sure.length cap1) (.slice ao2 d'.chs.length cap2) (.int .i64 d'.fuse) (.bool d'.down) := ⟨_, rfl⟩
      have HDS7 : Hid (DoSt w0 w S W7 S p d d' (.slice ao1 d'.sure.length cap1) (.slice ao2 d'.chs.length cap2) #[.int .i64 kind, .string bn, .string bt, .slice aob bytes.length capb, .int .i64 nn, .slice aok keep.length capk] (.slice aoo bytes.length capo) bytes) := Lib.hid (by rw [hW7]; exact HDS.out.doc' hb6 hdoc6)
      clear q0 q1 q2 q3 q4 qf a0 a1 a2 a3 a4 a5
      obtain ⟨q0, q1, q2, q3, q4, qf⟩ := hds6.dc
      obtain ⟨a0, a1, a2, a3, a4, a5⟩ := hds6.ac
      have hpc := removeD_any HDS7.out.dk (by have := HSZ.out; omega) (n := name) HNL.out
      try unfold WPost at hpc
      rw [← HE.out, ← HC1.out] at hpc
      rw [← HSN.out] at hpc
      have HPC := Lib.hid hpc
      unfold five at hW7
      have HW7 := Lib.hid hW7
      clear hpc hW7 hds6 hdoc6 hb6
      go_wp2_with fail
      rw [← HW7.out]
      refine HPC.out.mono ?_
      rintro e w8 ⟨rfl, hp8⟩
      obtain ⟨S', hs8⟩ := HDS7.out.prog hp8
      have HS8 := Lib.hid hs8
      clear hp8 hs8
      go_wp2_with fail
      refine (num_any c1 _).mono ?_
      rintro e w9 ⟨rfl, rfl⟩
      go_wp2
      go_meet
      case rel => exact ⟨rfl, rfl, S', _, _, HS8.out⟩
    cases z4 : ((IntKind.u64.wrap kind).tmod 10 == 4)
    rotate_left
    · have HE : Hid (d' = (dsync d).1) := Lib.hid (by rw [HD'.out]; unfold dact; simp only []; rw [if_neg (by rw [z0]; decide), if_neg (by rw [z1]; decide), if_neg (by rw [z2]; decide), if_neg (by rw [z3]; decide), if_pos z4])
      obtain ⟨c1, hc1⟩ : ∃ c1, c1 = (dsync d).2 := ⟨_, rfl⟩
      have hcall := rsync_any (HDS.out.doc) (Nat.le_trans HSZ.out (by decide)) HFU.out
      unfold DocPost at hcall
      rw [← HE.out, ← hc1] at hcall
      unfold docV at hcall
      have HC := Lib.hid hcall
      have HC1 := Lib.hid hc1
      clear hcall hc1
      go_wp2_with fail
      refine HC.out.mono ?_
      rintro e w6 ⟨sv1, cv1, rfl, hdoc6, hb6⟩
      obtain ⟨⟨ao1, cap1, rfl⟩, ao2, cap2, rfl⟩ := hdoc6.val
      have hds6 := HDS.out.old hb6
      obtain ⟨W7, hW7⟩ : ∃ W7, W7 = five w6 w.heap.size (.int .i64 (d'.room : Int)) (.slice ao1 d'.sure.length cap1) (.slice ao2 d'.chs.length cap2) (.int .i64 d'.fuse) (.bool d'.down) := ⟨_, rfl⟩
      have HDS7 : Hid (DoSt w0 w S W7 S p d d' (.slice ao1 d'.sure.length cap1) (.slice ao2 d'.chs.length cap2) #[.int .i64 kind, .string bn, .string bt, .slice aob bytes.length capb, .int .i64 nn, .slice aok keep.length capk] (.slice aoo bytes.length capo) bytes) := Lib.hid (by rw [hW7]; exact HDS.out.doc' hb6 hdoc6)
      clear q0 q1 q2 q3 q4 qf a0 a1 a2 a3 a4 a5
      obtain ⟨q0, q1, q2, q3, q4, qf⟩ := hds6.dc
      obtain ⟨a0, a1, a2, a3, a4, a5⟩ := hds6.ac
      have hpc := syncD_any HDS7.out.dk (by have := HSZ.out; omega)
      try unfold WPost at hpc
      rw [← HE.out, ← HC1.out] at hpc
      have HPC := Lib.hid hpc
      unfold five at hW7
      have HW7 := Lib.hid hW7
      clear hpc hW7 hds6 hdoc6 hb6
      go_wp2_with fail
      rw [← HW7.out]
      refine HPC.out.mono ?_
      rintro e w8 ⟨rfl, hp8⟩
      obtain ⟨S', hs8⟩ := HDS7.out.prog hp8
      have HS8 := Lib.hid hs8
      clear hp8 hs8
      go_wp2_with fail
      refine (num_any c1 _).mono ?_
      rintro e w9 ⟨rfl, rfl⟩
      go_wp2
      go_meet
      case rel => exact ⟨rfl, rfl, S', _, _, HS8.out⟩
    cases z5 : ((IntKind.u64.wrap kind).tmod 10 == 5)
    rotate_left
    · have HE : Hid (d' = d) := Lib.hid (by rw [HD'.out]; unfold dact; simp only []; rw [if_neg (by rw [z0]; decide), if_neg (by rw [z1]; decide), if_neg (by rw [z2]; decide), if_neg (by rw [z3]; decide), if_neg (by rw [z4]; decide), if_pos z5])
      obtain ⟨t, hte⟩ : ∃ t, t = (dread d name).1 := ⟨_, rfl⟩
      obtain ⟨c1, hc1⟩ : ∃ c1, c1 = (dread d name).2 := ⟨_, rfl⟩
      have hcall := rread_any HDS.out.doc (Nat.le_trans HSZ.out (by decide)) name
      rw [← hte, ← hc1] at hcall
      unfold docV at hcall
      rw [← HSN.out] at hcall
      obtain ⟨bx, hbx⟩ : ∃ s, s = txt t := ⟨_, rfl⟩
      rw [← hbx] at hcall
      have HC := Lib.hid hcall
      have hdr : dread d name = (t, c1) := by rw [hte, hc1]
      have HDR := Lib.hid hdr
      have HBXX := Lib.hid hbx
      clear hcall hc1 hte hdr hbx
      go_wp2_with fail
      refine HC.out.mono ?_
      rintro e w6 ⟨rfl, hb6⟩
      have hds6 := HDS.out.old hb6
      have hpc := readD_any hds6.dk (n := name) (by have := HLN.out; omega)
      rw [← HSN.out, HDR.out] at hpc
      have HPC := Lib.hid hpc
      have HDS6 := Lib.hid hds6
      clear q0 q1 q2 q3 q4 qf a0 a1 a2 a3 a4 a5
      obtain ⟨a0, a1, a2, a3, a4, a5⟩ := hds6.ac
      clear hpc hds6 hb6
      go_wp2_with fail
      refine HPC.out.mono ?_
      rintro e w7 ⟨bv, rfl, ho7, hb7⟩
      have hrd := ho7.reads
      have hxs := Xs.start ho7
      obtain ⟨bo, bc, rfl⟩ := Owns.form2 ho7
      have qc : (convert 41 9 (.slice bo t.length bc)).run Tryz.prog w7 = .ok (.string bx) w7 := by rw [HBXX.out]; exact conv_reads _ _ _ hrd
      have HXS := Lib.hid hxs
      have HB7 := Lib.hid hb7
      have HOB : Hid (∀ j, (Value.slice bo t.length bc).ownBlock = some j → w6.heap.size ≤ j) := Lib.hid fun j hj => (Owns.lt ho7 j hj).1
      have HTL2 : Hid (t.length ≤ 9223372036854775807) := Lib.hid (by obtain ⟨_, _, hv, _, hm, _⟩ := hrd.val; cases hv; simp only [maxLen] at *; omega)
      clear ho7 hb7 hrd hxs a0 a1 a2 a3 a4 a5
      obtain ⟨er, her⟩ : ∃ er, er = errV c1 := ⟨_, rfl⟩
      simp only [← her]
      have HER := Lib.hid her
      clear her
      go_wp2_with fail
      rw [HER.out]
      refine (num_any c1 _).mono ?_
      rintro e w9 ⟨rfl, rfl⟩
      go_wp2
      go_loopw [15, 127] (fun _ i wr => ∃ k : Nat, k ≤ t.length ∧ i = .int .i64 (k : Int) ∧ Xs w7 wr (.slice bo t.length bc) t k)
        (fun _ i _ => t.length - (intOf i).toNat)
      case atStart => exact ⟨0, Nat.zero_le _, rfl, HXS.out⟩
      case round =>
        obtain ⟨k, hk, rfl, hx⟩ := hrel
        by_cases hlt : k < t.length
        · obtain ⟨g, cur, hov, hg, hcur⟩ := hx.at hlt
          cases hov
          have e0 : wr.cell? ⟨g, k, none⟩ = some (.int .u8 (t.getD k 0 : Nat)) := by rw [cell_of_row _ _ k _ _ _ hg]; exact hcur
          have f0 : wr.frozen? ⟨g, k, none⟩ = false := frozen_of_row _ _ k _ _ hg
          have hlti : (k : Int) < t.length := by omega
          have HK := Lib.hid hlt
          have HX := Lib.hid hx
          clear hg hcur hx
          go_wp2
          go_roundw
          case rel => exact ⟨k + 1, HK.out, (by first | exact inc_eq HK.out HTL2.out | rfl), HX.out.step _⟩
          case measure => first | exact inc_meas HK.out HTL2.out | (have := HK.out; simp [intOf]; omega)
        · have HF : Hid (Below w6.heap.size w6 wr) := Lib.hid (HB7.out.trans (hx.1.below HB7.out.size fun j hj e => by have := HOB.out j e; omega))
          have hlt' : ¬ (k : Int) < t.length := by omega
          clear hx
          go_wp2
          go_meet
          case rel => exact ⟨rfl, rfl, S, _, _, by rw [HE.out]; exact HDS6.out.old HF.out⟩
    cases z6 : ((IntKind.u64.wrap kind).tmod 10 == 6)
    rotate_left
    · have hfc := fuseD_any HDS.out.dk nn (by have := HN.out; omega)
      by_cases hneg : nn < 0
      · have HE : Hid (d' = d) := Lib.hid (by rw [HD'.out]; unfold dact; simp only []; rw [if_neg (by rw [z0]; decide), if_neg (by rw [z1]; decide), if_neg (by rw [z2]; decide), if_neg (by rw [z3]; decide), if_neg (by rw [z4]; decide), if_neg (by rw [z5]; decide), if_pos z6]; rw [if_pos hneg])
        rw [if_pos hneg, if_pos hneg] at hfc
        have HFC := Lib.hid hfc
        clear hfc
        go_wp2_with fail
        refine HFC.out.mono ?_
        rintro e w6 ⟨rfl, hd6, hf6⟩
        obtain ⟨S', hs8⟩ := HDS.out.prog (DPost.same hd6 (hf6.mono fun j _ hj => by rw [hj]; exact HDS.out.dk.inS))
        have HS8 := Lib.hid hs8
        clear hd6 hf6 q0 q1 q2 q3 q4 qf a0 a1 a2 a3 a4 a5
        obtain ⟨a0, a1, a2, a3, a4, a5⟩ := hs8.ac
        clear hs8
        have hia : ∀ w, Calls Tryz.prog 16 #[errV 1, .int .i64 1] w fun e w' => e = .returned (.bool true) ∧ w = w' := fun w => is_any 1 w
        have HIA := Lib.hid hia
        clear hia
        go_wp2_with fail
        refine (HIA.out _).mono ?_
        rintro e w9 ⟨rfl, rfl⟩
        go_wp2
        go_meet
        case rel => exact ⟨rfl, rfl, S', _, _, by rw [HE.out]; exact HS8.out⟩
      · have HE : Hid (d' = { d with fuse := nn }) := Lib.hid (by rw [HD'.out]; unfold dact; simp only []; rw [if_neg (by rw [z0]; decide), if_neg (by rw [z1]; decide), if_neg (by rw [z2]; decide), if_neg (by rw [z3]; decide), if_neg (by rw [z4]; decide), if_neg (by rw [z5]; decide), if_pos z6]; rw [if_neg hneg])
        rw [if_neg hneg, if_neg hneg, errV_zero] at hfc
        have HFC := Lib.hid hfc
        clear hfc
        go_wp2_with fail
        refine HFC.out.mono ?_
        rintro e w6 ⟨rfl, hd6, hf6⟩
        obtain ⟨S', hs8⟩ := HDS.out.prog (DPost.same hd6 (hf6.mono fun j _ hj => by rw [hj]; exact HDS.out.dk.inS))
        have HS8 := Lib.hid hs8
        clear hd6 hf6 q0 q1 q2 q3 q4 qf a0 a1 a2 a3 a4 a5
        obtain ⟨a0, a1, a2, a3, a4, a5⟩ := hs8.ac
        obtain ⟨q0, q1, q2, q3, q4, qf⟩ := hs8.dc
        clear hs8
        go_wp2_with fail
        go_region
        all_goals
          go_wp2
          go_meet
          case rel => exact ⟨rfl, rfl, S', _, _, by rw [HE.out]; first | exact HS8.out.fuse nn | exact (HS8.out.fuse nn).old (below_dK (Below.refl _ _)) | exact (HS8.out.fuse nn).old ⟨rfl, rfl, rfl, Nat.le_refl _, fun _ _ => rfl⟩⟩
    cases z7 : ((IntKind.u64.wrap kind).tmod 10 == 7)
    rotate_left
    · have HE : Hid (d' = dcut d keep) := Lib.hid (by rw [HD'.out]; unfold dact; simp only []; rw [if_neg (by rw [z0]; decide), if_neg (by rw [z1]; decide), if_neg (by rw [z2]; decide), if_neg (by rw [z3]; decide), if_neg (by rw [z4]; decide), if_neg (by rw [z5]; decide), if_neg (by rw [z6]; decide), if_pos z7])
      have hcall := rcut_any HDS.out.doc (Nat.le_trans HSZ.out (by decide)) ((HKV.out.keep (kept_below HDS.out.below)).mono fun j hj _ => hj)
      rw [← HE.out] at hcall
      unfold docV at hcall
      have HC := Lib.hid hcall
      clear hcall
      go_wp2_with fail
      refine HC.out.mono ?_
      rintro e w6 ⟨sv1, cv1, rfl, hdoc6, hb6⟩
      obtain ⟨⟨ao1, cap1, hv1⟩, ao2, cap2, hv2⟩ := hdoc6.val
      subst hv1 hv2
      have hds6 := HDS.out.old hb6
      obtain ⟨W7, hW7⟩ : ∃ W7, W7 = five w6 w.heap.size (.int .i64 (d'.room : Int)) (.slice ao1 d'.sure.length cap1) (.slice ao2 d'.chs.length cap2) (.int .i64 d'.fuse) (.bool d'.down) := ⟨_, rfl⟩
      have HDS7 : Hid (DoSt w0 w S W7 S p d d' (.slice ao1 d'.sure.length cap1) (.slice ao2 d'.chs.length cap2) #[.int .i64 kind, .string bn, .string bt, .slice aob bytes.length capb, .int .i64 nn, .slice aok keep.length capk] (.slice aoo bytes.length capo) bytes) := Lib.hid (by rw [hW7]; exact HDS.out.doc' hb6 hdoc6)
      clear q0 q1 q2 q3 q4 qf a0 a1 a2 a3 a4 a5
      obtain ⟨q0, q1, q2, q3, q4, qf⟩ := hds6.dc
      obtain ⟨a0, a1, a2, a3, a4, a5⟩ := hds6.ac
      have hpc := cutD_any HDS7.out.dk (by have := HSZ.out; omega) ((HKV.out.keep (kept_below HDS7.out.below)).mono fun j _ hj hS => Nat.not_le_of_lt hj (HDS7.out.s0 j hS))
      rw [← HE.out] at hpc
      have HPC := Lib.hid hpc
      unfold five at hW7
      have HW7 := Lib.hid hW7
      clear hpc hW7 hds6 hdoc6 hb6
      go_wp2_with fail
      rw [← HW7.out]
      refine HPC.out.mono ?_
      rintro e w8 ⟨rfl, hp8⟩
      obtain ⟨S', hs8⟩ := HDS7.out.prog hp8
      have HS8 := Lib.hid hs8
      clear hp8 hs8
      go_wp2
      go_meet
      case rel => exact ⟨rfl, rfl, S', _, _, HS8.out⟩
    have HE : Hid (d' = dstart d) := Lib.hid (by rw [HD'.out]; unfold dact; simp only []; rw [if_neg (by rw [z0]; decide), if_neg (by rw [z1]; decide), if_neg (by rw [z2]; decide), if_neg (by rw [z3]; decide), if_neg (by rw [z4]; decide), if_neg (by rw [z5]; decide), if_neg (by rw [z6]; decide), if_neg (by rw [z7]; decide)])
    have hcall := rstart_any HDS.out.doc
    rw [← HE.out] at hcall
    unfold docV at hcall
    have HC := Lib.hid hcall
    clear hcall
    go_wp2_with fail
    refine HC.out.mono ?_
    rintro e w6 ⟨cv1, rfl, hdoc6, hb6⟩
    obtain ⟨_, ao2, cap2, hv2⟩ := hdoc6.val
    subst hv2
    have hds6 := HDS.out.old hb6
    obtain ⟨W7, hW7⟩ : ∃ W7, W7 = five w6 w.heap.size (.int .i64 (d'.room : Int)) (.slice aos d.sure.length caps) (.slice ao2 d'.chs.length cap2) (.int .i64 d'.fuse) (.bool d'.down) := ⟨_, rfl⟩
    have HDS7 : Hid (DoSt w0 w S W7 S p d d' (.slice aos d.sure.length caps) (.slice ao2 d'.chs.length cap2) #[.int .i64 kind, .string bn, .string bt, .slice aob bytes.length capb, .int .i64 nn, .slice aok keep.length capk] (.slice aoo bytes.length capo) bytes) := Lib.hid (by rw [hW7]; exact HDS.out.doc' hb6 (hdoc6.mono fun _ _ h => .inl h))
    clear q0 q1 q2 q3 q4 qf a0 a1 a2 a3 a4 a5
    obtain ⟨q0, q1, q2, q3, q4, qf⟩ := hds6.dc
    obtain ⟨a0, a1, a2, a3, a4, a5⟩ := hds6.ac
    have hpc := startD_any HDS7.out.dk
    rw [← HE.out] at hpc
    have HPC := Lib.hid hpc
    unfold five at hW7
    have HW7 := Lib.hid hW7
    clear hpc hW7 hds6 hdoc6 hb6
    go_wp2_with fail
    rw [← HW7.out]
    refine HPC.out.mono ?_
    rintro e w8 ⟨rfl, hp8⟩
    obtain ⟨S', hs8⟩ := HDS7.out.prog hp8
    have HS8 := Lib.hid hs8
    clear hp8 hs8
    go_wp2
    go_meet
    case rel => exact ⟨rfl, rfl, S', _, _, HS8.out⟩
  case rest =>
    obtain ⟨rfl, rfl, S', sv1, cv1, hds⟩ := hcut
    have hxs := Xs.start hds.own
    obtain ⟨⟨ao1, cap1, rfl⟩, ao2, cap2, rfl⟩ := hds.doc.val
    have HDS9 := Lib.hid hds
    have HXS := Lib.hid hxs
    have HBA : Hid (At wc (fun j => j < w0.heap.size) .u8 (.slice aob bytes.length capb) bytes) := Lib.hid (HBV.out.keep (kept_below hds.below))
    clear hds hxs q0 q1 q2 q3 q4 qf a0 a1 a2 a3 a4 a5
    go_wp2
    go_loopw [17, 165] (fun _ i wr => ∃ k : Nat, k ≤ bytes.length ∧ i = .int .i64 (k : Int) ∧ Xs wc wr (Value.slice aoo bytes.length capo) bytes k)
      (fun _ i _ => bytes.length - (intOf i).toNat)
    case atStart => exact ⟨0, Nat.zero_le _, rfl, HXS.out⟩
    case round =>
      obtain ⟨k, hk, rfl, hx⟩ := hrel
      have hkS : Kept S' wc wr := hx.1.kept _ fun j _ hS e => (HDS9.out.nS j hS).2 e.symm
      have hob : ∀ j, (Value.slice aoo bytes.length capo).ownBlock = some j → w.heap.size + 3 ≤ j := fun j hj => (Owns.lt HDS9.out.own j hj).1
      have hbxr : wr.heap[w.heap.size]? = _ := (hx.1.block _ (by have := HDS9.out.lt; omega) (fun e => by have := hob _ e; omega)).trans HDS9.out.box
      have hacr : wr.heap[w.heap.size + 1]? = _ := (hx.1.block _ (by have := HDS9.out.lt; omega) (fun e => by have := hob _ e; omega)).trans HDS9.out.act
      obtain ⟨x0, x1, x2, x3, x4, hrs⟩ := HDS9.out.res
      have hrsr : wr.heap[w.heap.size + 1 + 1]? = _ := (hx.1.block _ (by have := HDS9.out.lt; omega) (fun e => by have := hob _ e; omega)).trans hrs
      obtain ⟨a0, a1, a2, a3, a4, a5⟩ := six_cells hacr
      have HX := Lib.hid hx
      by_cases hlt : k < bytes.length
      · obtain ⟨g, cur, ⟨cpo, hov⟩, hg, hcur⟩ := hx.at hlt
        have hgn : w0.heap.size ≤ g := by
          have h1 : (Value.slice aoo bytes.length capo).ownBlock = some g := by rw [hov]; rfl
          have := hob g h1
          have := HDS9.out.w0w
          omega
        have hba : Reads wr .u8 (.slice aob bytes.length capb) bytes := (HBA.out.keep (hx.1.kept _ fun j _ hj e => by have := hob j e; have := HDS9.out.w0w; omega)).reads
        cases hov
        have e0 : wr.cell? ⟨g, k, none⟩ = some (.int .u8 (bytes.getD k 0 : Nat)) := by rw [cell_of_row _ _ k _ _ _ hg]; exact hcur
        have f0 : wr.frozen? ⟨g, k, none⟩ = false := frozen_of_row _ _ k _ _ hg
        obtain ⟨ab, cb, hvb, _, _, _, hrow⟩ := hba
        cases hvb
        rcases hrow with h0 | ⟨b, off, rfl, _, hcb⟩
        · rw [h0] at hlt; simp at hlt
        have e9 := hcb k hlt
        obtain ⟨y, hy⟩ : ∃ y, y = bytes.getD k 0 := ⟨_, rfl⟩
        rw [← hy] at e0 e9
        have hlti : (k : Int) < bytes.length := by omega
        have HK := Lib.hid hlt
        clear hx hkS hob hbxr hacr hrs hrsr hg hcur hgn hcb hy a0 a1 a2 a4 a5
        go_wp2_with fail
        go_quiet (fail)
        go_wp2
        go_roundw
        case rel => exact ⟨k + 1, HK.out, (by first | exact inc_eq HK.out (Nat.le_trans HBL.out (by decide)) | rfl), by first | exact (HX.out.drew _).step _ | exact HX.out.step _⟩
        case measure => first | exact inc_meas HK.out (Nat.le_trans HBL.out (by decide)) | (have := HK.out; simp [intOf]; omega)
      · have hlt' : ¬ (k : Int) < bytes.length := by omega
        have hdk : Dk wr S' p d' := HDS9.out.dk.keep hkS
        have hdc : Doc wr (fun j => ¬ S' j ∧ (j < w.heap.size ∨ w.heap.size + 2 < j) ∧ some j ≠ (Value.slice aoo bytes.length capo).ownBlock) d' (.slice ao1 d'.sure.length cap1) (.slice ao2 d'.chs.length cap2) := HDS9.out.doc.keep (hx.1.kept _ fun j _ hj e => hj.2.2 e.symm)
        have hbel : Below w0.heap.size w0 wr := HDS9.out.below.trans (hx.1.below HDS9.out.below.size fun j hj e => by have := hob j e; have := HDS9.out.w0w; omega)
        have hl2 : w.heap.size + 1 + 1 < wr.heap.size := (Array.getElem?_eq_some_iff.1 hrsr).1
        have HSH : Hid (∀ W, Below wr.heap.size wr W → Calls Tryz.prog 24 #[.pointer (some ⟨p, 0, none⟩), docV d' (.slice ao1 d'.sure.length cap1) (.slice ao2 d'.chs.length cap2)] W fun e w' => e = .returned (.bool true) ∧ Below W.heap.size W w') := Lib.hid fun W hb => shows_any (hdk.keep (kept_new hb _)) (hdc.old hb) HSZ'.out HRI'.out
        unfold docV at HSH
        have HFIN : Hid (∀ W, Below wr.heap.size wr W → ∀ a b c x e, Both w0 (five W (w.heap.size + 1 + 1) a b c x e) S' p d' d' (.slice ao1 d'.sure.length cap1) (.slice ao2 d'.chs.length cap2) ∧ Fr S w (five W (w.heap.size + 1 + 1) a b c x e) ∧ (∀ j, S' j → S j ∨ w.heap.size ≤ j)) := Lib.hid fun W hb a b c x e => by
          have hf := fr_five W (w.heap.size + 1 + 1) a b c x e
          have hw := HDS9.out.w0w
          exact ⟨⟨(hdk.keep (kept_new hb _)).keep (hf.kept _ fun j _ hS e => by have := (HDS9.out.nS j hS).1; omega), HDS9.out.s0, (hbel.trans (hb.mono hbel.size)).trans (hf.below (Nat.le_trans hbel.size hb.size) fun j hj e => by omega),
            ((hdc.old hb).keep (hf.kept _ fun j _ hB e => by have := hB.2.1; omega)).mono fun j _ hB => hB.1⟩,
            ((HDS9.out.fr.trans hx.1 (fun _ _ h => h) (fun j hj e => by have := hob j e; omega)).trans (fr_below hb (fun _ => False)) (fun _ _ h => h) (fun _ _ h => h.elim)).trans hf (fun _ _ h => h) (fun j hj e => by omega), HDS9.out.sub⟩
        have HCL : Hid (∀ W, Below wr.heap.size wr W → W.heap[w.heap.size]? = some (.cells #[.int .i64 (d'.room : Int), .slice ao1 d'.sure.length cap1, .slice ao2 d'.chs.length cap2, .int .i64 d'.fuse, .bool d'.down] 33 (0, 0)) ∧ W.heap[w.heap.size + 1 + 1]? = some (.cells #[x0, x1, x2, x3, x4] 33 (0, 0))) := Lib.hid fun W hb => ⟨(hb.block _ (by omega)).trans hbxr, (hb.block _ hl2).trans hrsr⟩
        obtain ⟨hc1, hc2⟩ := HCL.out wr (Below.refl _ _)
        obtain ⟨q0, q1, q2, q3, q4⟩ := five_cells hc1
        obtain ⟨y0, y1, y2, y3, y4⟩ := five_cells hc2
        have yf : ∀ i, wr.frozen? ⟨w.heap.size + 1 + 1, i, none⟩ = false := fun i => frozen_of_row _ _ i _ _ hc2
        have HD : Hid (Below wr.heap.size wr wr.drew) := Lib.hid ⟨rfl, rfl, rfl, Nat.le_refl _, fun _ _ => rfl⟩
        clear hx hkS hob hbxr hacr hrs hrsr hc1 hc2 hdk hdc hbel hl2 a0 a1 a2 a3 a4 a5 HX
        go_wp2_with fail
        go_region_with (first
          | (go_at_call 24
             refine (HSH.out _ HD.out).mono ?_
             rintro e w9 ⟨rfl, hb9⟩
             have hb9' := HD.out.trans (hb9.mono HD.out.size)
             obtain ⟨hd1, hd2⟩ := HCL.out w9 hb9'
             obtain ⟨p0, p1, p2, p3, p4⟩ := five_cells hd1
             obtain ⟨z0, z1, z2, z3, z4⟩ := five_cells hd2
             have zf : ∀ i, w9.frozen? ⟨w.heap.size + 1 + 1, i, none⟩ = false := fun i => frozen_of_row _ _ i _ _ hd2
             have HB9 := Lib.hid hb9'
             clear hb9 hb9' hd1 hd2))
        all_goals
          go_wp2
          refine bodyPost_ret (v := .tuple #[docV d' (.slice ao1 d'.sure.length cap1) (.slice ao2 d'.chs.length cap2), .bool true]) (by simp [docV, results, Tryz.results22, go_sem, z0, z1, z2, z3, z4]) rfl ?_
          exact ⟨S', _, _, rfl, HFIN.out w9 HB9.out _ _ _ _ _⟩

end Go.Proofs.YtmjpckodcafjiaaGreat

namespace Go.Proofs.YtmjpckodcafjiaaGreat
open Go.RowKit

set_option maxHeartbeats 1000000 in
set_option maxRecDepth 100000 in
theorem rnewBad_any {room : Int} (h : ¬ (0 ≤ room ∧ room ≤ 1073741824)) (w : World) : Calls Tryz.prog 8 #[.int .i64 room] w fun e w' => e = .returned (.tuple #[.agg #[.int .i64 0, .slice none 0 0, .slice none 0 0, .int .i64 0, .bool false], .int .i64 1]) ∧ Below w.heap.size w w' := by
  by_cases h0 : room < 0
  · clear h
    go_enter Tryz.func8, Tryz.ntmps8
    go_wp2
    exact bodyPost_ret (v := .tuple #[.agg #[.int .i64 0, .slice none 0 0, .slice none 0 0, .int .i64 0, .bool false], .int .i64 1]) (by simp [results, Tryz.results8, go_sem]) rfl ⟨rfl, (Below.refl _ _).alloc (Nat.le_refl _) _⟩
  · have h1 : 1073741824 < room := by omega
    clear h
    go_enter Tryz.func8, Tryz.ntmps8
    go_wp2
    exact bodyPost_ret (v := .tuple #[.agg #[.int .i64 0, .slice none 0 0, .slice none 0 0, .int .i64 0, .bool false], .int .i64 1]) (by simp [results, Tryz.results8, go_sem]) rfl ⟨rfl, (Below.refl _ _).alloc (Nat.le_refl _) _⟩

/-- A row of records each of which holds a text lies in no block that holds none. -/
theorem RecAt.textless {w : World} {B : Nat → Prop} {k : Nat} {v : Value} {rows : List (List Value)} (h : RecAt w B k v rows) (hs : ∀ r ∈ rows, ∃ (j : Nat) (s : ByteArray), r[j]? = some (Value.string s)) {q : Nat} {cs : Array Value} {T : TypeId} (hq : w.heap[q]? = some (.cells cs T (0, 0))) (hn : ∀ (i : Nat) (s : ByteArray), cs[i]? ≠ some (Value.string s)) :
    RecAt w (fun j => B j ∧ j ≠ q) k v rows := by
  obtain ⟨ao, cap, hv, h1, h2, h3, h4⟩ := h
  refine ⟨ao, cap, hv, h1, h2, h3, ?_⟩
  rcases h4 with h4 | ⟨b, off, ha, hb, hB, hc⟩
  · exact .inl h4
  · cases rows with
    | nil => exact .inl rfl
    | cons r rs =>
      refine .inr ⟨b, off, ha, hb, ⟨hB, fun e => ?_⟩, hc⟩
      obtain ⟨j, s, hj⟩ := hs r (by simp)
      have := hc 0 r rfl j _ hj
      rw [e, cell_of_row w q _ _ _ _ hq] at this
      exact hn _ _ this
theorem five_textless {z : Int} {ao ao2 : Option Addr} {n c n2 c2 : Nat} {f : Int} {b : Bool} : ∀ (i : Nat) (s : ByteArray), (#[Value.int .i64 z, .slice ao n c, .slice ao2 n2 c2, .int .i64 f, .bool b] : Array Value)[i]? ≠ some (Value.string s) := by
  intro i s h
  match i with
  | 0 => simp at h
  | 1 => simp at h
  | 2 => simp at h
  | 3 => simp at h
  | 4 => simp at h
  | i + 5 => simp at h
theorem Doc.textless {w : World} {B : Nat → Prop} {d : DS} {sv cv : Value} (h : Doc w B d sv cv) {q : Nat} {cs : Array Value} {T : TypeId} (hq : w.heap[q]? = some (.cells cs T (0, 0))) (hn : ∀ (i : Nat) (s : ByteArray), cs[i]? ≠ some (Value.string s)) : Doc w (fun j => B j ∧ j ≠ q) d sv cv :=
  ⟨RecAt.textless h.sure (fun r hr => by
    obtain ⟨f, _, rfl⟩ := List.mem_map.1 hr
    exact ⟨0, _, rfl⟩) hq hn, RecAt.textless h.chs (fun r hr => by
    obtain ⟨f, _, rfl⟩ := List.mem_map.1 hr
    exact ⟨1, _, rfl⟩) hq hn, h.kind⟩

/-- What DiskPlays keeps: both disks, and the box in which the document's lies. -/
structure Play (w W : World) (S : Nat → Prop) (p q k : Nat) (d : DS) (sv cv : Value) : Prop where
  both : Both w W S p d d sv cv
  sz : d.sz ≤ k
  rise : Rises d.sure
  box : W.heap[q]? = some (.cells #[.int .i64 (d.room : Int), sv, cv, .int .i64 d.fuse, .bool d.down] 33 (0, 0))
  qS : ¬ S q
  qw : w.heap.size ≤ q
theorem Play.old {w W W' : World} {S : Nat → Prop} {p q k : Nat} {d : DS} {sv cv : Value} (h : Play w W S p q k d sv cv) (hb : Below W.heap.size W W') : Play w W' S p q k d sv cv :=
  ⟨⟨h.both.1.keep (kept_new hb S), h.both.2.1, h.both.2.2.1.trans (hb.mono h.both.2.2.1.size), h.both.2.2.2.old hb⟩, h.sz, h.rise, (hb.block q (Array.getElem?_eq_some_iff.1 h.box).1).trans h.box, h.qS, h.qw⟩
theorem Both.old {w0 w w' : World} {S : Nat → Prop} {p : Nat} {d m : DS} {sv cv : Value} (h : Both w0 w S p d m sv cv) (hb : Below w.heap.size w w') : Both w0 w' S p d m sv cv :=
  ⟨h.1.keep (kept_new hb S), h.2.1, h.2.2.1.trans (hb.mono h.2.2.1.size), h.2.2.2.old hb⟩
theorem Play.put {w W W1 : World} {S S' : Nat → Prop} {p q k : Nat} {d d' : DS} {sv cv sv' cv' : Value} (h : Play w W S p q k d sv cv) (h1 : Both w W1 S' p d' d' sv' cv') (hf : Fr S W W1) (ht : ∀ j, S' j → S j ∨ W.heap.size ≤ j) (hs : d'.sz ≤ k + 1) (hr : Rises d'.sure)
    (hsv : ∃ ao n c, sv = .slice ao n c) (hcv : ∃ ao n c, cv = .slice ao n c) :
    Play w (five W1 q (.int .i64 (d'.room : Int)) sv' cv' (.int .i64 d'.fuse) (.bool d'.down)) S' p q (k + 1) d' sv' cv' := by
  have hql := (Array.getElem?_eq_some_iff.1 h.box).1
  have hbq := (hf.block q hql h.qS).trans h.box
  have hqS : ¬ S' q := fun hS => by
    rcases ht q hS with h2 | h2
    · exact h.qS h2
    · omega
  have h5 := fr_five W1 q (.int .i64 (d'.room : Int)) sv' cv' (.int .i64 d'.fuse) (.bool d'.down)
  obtain ⟨a1, n1, c1, rfl⟩ := hsv
  obtain ⟨a2, n2, c2, rfl⟩ := hcv
  have hd := h1.2.2.2.textless hbq five_textless
  exact ⟨⟨h1.1.keep (h5.kept S' fun j _ hS e => hqS (e ▸ hS)), h1.2.1, h1.2.2.1.trans (h5.below h1.2.2.1.size fun j hj e => by have := h.qw; omega), (hd.keep (h5.kept _ fun j _ hB e => hB.2 e)).mono fun j _ hB => hB.1⟩, hs, hr, five_blk hbq _ _ _ _ _, hqS, h.qw⟩

theorem longA_of {acts : List ActR} {most : Int} (h : longD acts most = false) {k : Nat} {a : ActR} (ha : acts[k]? = some a) : longA a = false := by
  unfold longD at h
  rw [Bool.or_eq_false_iff] at h
  have h2 := List.any_eq_false.1 h.1 a (List.mem_of_getElem? ha)
  simpa using h2

end Go.Proofs.YtmjpckodcafjiaaGreat

namespace Go.Proofs.YtmjpckodcafjiaaGreat
open Go.RowKit

theorem infoStrN : (Tryz.prog.info? 9).map (fun i => (i.zero, i.size, i.bytes)) = some (some (.string { data := #[] }), 1, 16) := by kernel_rfl
theorem nms_flat : ∀ ns : List Nm, (ns.map fun x => [nmV x]).flatten = ns.map nmV
  | [] => rfl
  | x :: r => by simp [nms_flat r]
theorem nms_own {w : World} {base : Nat} {v : Value} {ns : List Nm} : NmsO w base v ns ↔ RecOwn w base 9 1 v (ns.map fun x => [nmV x]) := by
  unfold RecOwn
  rw [List.length_map, nms_flat]
  exact ⟨fun h => ⟨by simp, h⟩, fun h => h.2⟩
theorem wpList_appN (w : World) {ops : Array Oper} {rest : List Oper} {o : Oper} {a : Act} {Q : Exit → Act → World → Prop} (hgd : o.guard = none) (s x : Operand)
    (ho : o.op = .call { callee := .builtin .append, args := #[s, x], argTypes := #[54, 54] })
    (base : Nat) (v : Value) (l : List Nm) (hs : a.eval s = v) (W : World) (f : Nm) (hW : w = W.alloc (.cells #[nmV f] 9)) (hown : NmsO W base v l)
    (hx : a.eval x = .slice (some ⟨W.heap.size, 0, none⟩) 1 1) (hlen : l.length ≤ 1000000) (hbase : base ≤ W.heap.size)
    (h : ∀ v' w', NmsO w' base v' (l ++ [f]) → Below base W w' → wpList Tryz.prog ops Q rest (a.put o.dst v') w') : wpList Tryz.prog ops Q (o :: rest) a w := by
  subst hW
  have h0 := nms_own.1 hown
  refine wpList_appRec _ hgd s x 54 ho base 9 _ 1 16 Tryz.underlying54 infoStrN rfl (by decide) v (l.map fun x => [nmV x]) hs (RecOwn.keep h0 fun j hj => Below.heap_alloc _ _ _ (RecOwn.block h0 hj).2.1) [nmV f] rfl (by simp [Value.oneCell', nmV]) ⟨W.heap.size, 0, none⟩ hx (rec_cell W [nmV f] _) (by rw [List.length_map]; simp only [maxLen]; omega) (by rw [List.length_map]; omega) (by simp; omega) ?_
  intro v' w' ho' hg' _
  refine h v' w' (nms_own.2 (by rw [List.map_append]; exact ho')) ?_
  have hal : Below base W (W.alloc (.cells #[nmV f] 9)) := (Below.refl _ _).alloc hbase _
  exact hal.grown hg' (Nat.le_trans hbase (by simp)) fun j hj => (RecOwn.block h0 hj).1

def beginB (b x : Nm) : Bool := decide (b.length ≤ x.length) && x.take b.length == b
def listP (b x : Nm) : Bool := snamed x && beginB b x
def slist (d : DS) (b : Nm) : List Nm × Nat := if (dlist d).2 ≠ 0 then ([], (dlist d).2) else ((dlist d).1.filter (listP b), 0)
theorem take_next {ns : List Nm} {k : Nat} {x : Nm} (h : ns[k]? = some x) : ns.take (k + 1) = ns.take k ++ [x] := by rw [List.take_add_one, h]; rfl

set_option maxHeartbeats 4000000 in
set_option maxRecDepth 100000 in
theorem list_store {w : World} {S : Nat → Prop} {p q : Nat} {d : DS} (h : Dk w S p d) (hs : AtS w q p) (hsz : d.sz ≤ 500000) (b : Nm) :
    Calls Tryz.prog 15 #[.pointer (some ⟨q, 0, none⟩), nmV b] w (ListPost (slist d b) w) := by
  have HL := Lib.hid (listD_any h (by omega))
  have HNM := Lib.hid h.names
  have HNL : Hid ((dlist d).1.length ≤ 500000) := Lib.hid (Nat.le_trans (dlist_length d) hsz)
  obtain ⟨ns, hns⟩ : ∃ ns, ns = (dlist d).1 := ⟨_, rfl⟩
  obtain ⟨c, hc⟩ : ∃ c, c = (dlist d).2 := ⟨_, rfl⟩
  have hdl : dlist d = (ns, c) := by rw [hns, hc]
  rw [← hns] at HNM HNL
  rw [hdl] at HL
  have HSO : Hid (slist d b = if c ≠ 0 then ([], c) else (ns.filter (listP b), 0)) := Lib.hid (by unfold slist; rw [hdl])
  have c0 := hs.1
  obtain ⟨sb, hsb⟩ : ∃ sb : ByteArray, nmV b = .string sb := ⟨_, rfl⟩
  have HSB := Lib.hid hsb
  rw [hsb]
  clear h hs hsz hns hc hdl hsb
  go_enter Tryz.func15, Tryz.ntmps15
  go_wp2_with fail
  refine HL.out.mono ?_
  rintro e w1 ⟨v, rfl, ho, hb⟩
  obtain ⟨ao, cap, rfl⟩ := ho.val
  have HO := Lib.hid ho
  have HB := Lib.hid hb
  clear ho hb
  by_cases hz : c ≠ 0
  · have HE : Hid (slist d b = ([], c)) := Lib.hid (by rw [HSO.out, if_pos hz])
    simp only []
    rw [errV_pos hz]
    have HZ := Lib.hid hz
    clear hz c0
    go_wp2
    go_ret2
    rw [HE.out]
    exact ⟨.slice none 0 0, by rw [errV_pos HZ.out]; rfl, World.ownsRow_nil _ _ _ _, HB.out⟩
  · have hz0 : c = 0 := by omega
    have HE : Hid (slist d b = (ns.filter (listP b), 0)) := Lib.hid (by rw [HSO.out, if_neg hz])
    simp only []
    rw [hz0, errV_zero]
    obtain ⟨bs, hbs⟩ : ∃ bs, bs = w1.heap.size := ⟨_, rfl⟩
    have HBS := Lib.hid hbs
    have HN0 : Hid (NmsO w1 bs (.slice none 0 0) []) := Lib.hid (nms_nil w1 bs)
    clear hz hz0 c0 hbs
    go_wp2
    go_loopw [8, 10, 27] (fun ov _ i wr => ∃ k : Nat, k ≤ ns.length ∧ i = .int .i64 (k : Int) ∧ NmsO wr bs ov ((ns.take k).filter (listP b)) ∧ Below bs w1 wr)
      (fun _ _ i _ => ns.length - (intOf i).toNat)
    case atStart => exact ⟨0, Nat.zero_le _, rfl, HN0.out, Below.refl _ _⟩
    case round =>
      obtain ⟨k, hk, rfl, hout, hbz⟩ := hrel
      obtain ⟨oo, oc, rfl⟩ := hout.val
      have HOU := Lib.hid hout
      have HBZ := Lib.hid hbz
      by_cases hlt : k < ns.length
      · obtain ⟨x, hx⟩ : ∃ x, ns[k]? = some x := ⟨_, List.getElem?_eq_getElem hlt⟩
        obtain ⟨g, rfl, _, hgl, e0⟩ := HO.out.at hx
        have e0 := (hbz.cell (p := ⟨g, k, none⟩) (by rw [HBS.out]; exact hgl)).trans e0
        have hxl := HNM.out x (List.mem_of_getElem? hx)
        have hnm := fun W => snamed_any x hxl W
        have hpf := fun W => hasPrefix_any x b W
        obtain ⟨s, hs⟩ : ∃ s : ByteArray, nmV x = .string s := ⟨_, rfl⟩
        rw [hs] at e0
        simp only [hs] at hnm
        simp only [hs, HSB.out] at hpf
        have hpf' : ∀ W, Calls Tryz.prog 40 #[.string s, .string sb] W fun e w' => e = .returned (.bool (beginB b x)) ∧ w' = W := hpf
        have htk := take_next hx
        have HTK : Hid ((ns.take (k + 1)).filter (listP b) = (ns.take k).filter (listP b) ++ (if listP b x then [x] else [])) := Lib.hid (by
          rw [htk, List.filter_append]
          congr 1
          by_cases hp : listP b x = true
          · rw [if_pos hp, List.filter_cons_of_pos hp]; rfl
          · rw [if_neg hp, List.filter_cons_of_neg hp]; rfl)
        have HLEN : Hid (((ns.take k).filter (listP b)).length ≤ 1000000) := Lib.hid (Nat.le_trans (List.length_filter_le _ _) (by rw [List.length_take]; have := HNL.out; omega))
        have hlti : (k : Int) < ns.length := by omega
        have HNMX := Lib.hid hnm
        have HPF := Lib.hid hpf'
        have HS := Lib.hid hs
        have HK := Lib.hid hlt
        have HPD : Hid (listP b x = (snamed x && beginB b x)) := Lib.hid rfl
        clear hx hgl hxl hnm hpf hpf' htk hs hout hbz
        go_wp2_with fail
        refine (HNMX.out _).mono ?_
        rintro e wr ⟨rfl, rfl⟩
        cases hsn : snamed x
        · have HT : Hid (NmsO wr bs (.slice oo ((ns.take k).filter (listP b)).length oc) ((ns.take (k + 1)).filter (listP b))) := Lib.hid (by rw [HTK.out, HPD.out, hsn]; simpa using HOU.out)
          clear hsn
          go_wp2
          go_roundw
          case rel => exact ⟨k + 1, HK.out, congrArg (Value.int .i64) (wrap_succM k (Nat.le_trans (Nat.le_of_lt HK.out) (Nat.le_trans HNL.out (by decide)))), HT.out, HBZ.out⟩
          case measure => exact meas_succM HK.out (Nat.le_trans (Nat.le_of_lt HK.out) (Nat.le_trans HNL.out (by decide)))
        · have HSN := Lib.hid hsn
          clear hsn
          go_wp2_with fail
          refine (HPF.out _).mono ?_
          rintro e wr ⟨rfl, rfl⟩
          cases hbg : beginB b x
          · have HT : Hid (NmsO wr bs (.slice oo ((ns.take k).filter (listP b)).length oc) ((ns.take (k + 1)).filter (listP b))) := Lib.hid (by rw [HTK.out, HPD.out, HSN.out, hbg]; simpa using HOU.out)
            clear hbg
            go_wp2
            go_roundw
            case rel => exact ⟨k + 1, HK.out, congrArg (Value.int .i64) (wrap_succM k (Nat.le_trans (Nat.le_of_lt HK.out) (Nat.le_trans HNL.out (by decide)))), HT.out, HBZ.out⟩
            case measure => exact meas_succM HK.out (Nat.le_trans (Nat.le_of_lt HK.out) (Nat.le_trans HNL.out (by decide)))
          · have HT : Hid ((ns.take (k + 1)).filter (listP b) = (ns.take k).filter (listP b) ++ [x]) := Lib.hid (by rw [HTK.out, HPD.out, HSN.out, hbg]; rfl)
            clear hbg
            go_wp2_with (at_builtin; go_must (refine wpList_appN _ rfl _ _ rfl bs _ _ rfl wr x (by rw [HS.out]) HOU.out rfl HLEN.out (by rw [HBS.out]; exact HBZ.out.size) ?_))
            intro v2 w2 ho2 hb2
            rw [← HT.out] at ho2
            have HO2 := Lib.hid ho2
            have HB2 := Lib.hid (HBZ.out.trans hb2)
            clear ho2 hb2
            go_wp2
            go_roundw
            case rel => exact ⟨k + 1, HK.out, congrArg (Value.int .i64) (wrap_succM k (Nat.le_trans (Nat.le_of_lt HK.out) (Nat.le_trans HNL.out (by decide)))), HO2.out, HB2.out⟩
            case measure => exact meas_succM HK.out (Nat.le_trans (Nat.le_of_lt HK.out) (Nat.le_trans HNL.out (by decide)))
      · obtain rfl : k = ns.length := by omega
        have HT : Hid (NmsO wr bs (.slice oo ((ns.take ns.length).filter (listP b)).length oc) (ns.filter (listP b))) := Lib.hid (by have := hout; rwa [List.take_length] at this ⊢)
        clear hout hbz
        go_wp2
        go_ret2
        rw [HE.out]
        refine ⟨_, rfl, ?_, ?_⟩
        · have h1 := HT.out
          have h2 := HB.out.size
          have h3 := HBS.out
          exact nms_own.2 ((nms_own.1 h1).mono (by omega))
        · exact HB.out.trans (HBZ.out.mono (by rw [HBS.out]; exact HB.out.size))

theorem Sd.list {w0 w : World} {p q : Nat} {d : DS} (h : Sd w0 w p q d) (hsz : d.sz ≤ 500000) (b : Nm) :
    Calls Tryz.prog 15 #[.pointer (some ⟨q, 0, none⟩), nmV b] w (ListPost (slist d b) w) := by
  obtain ⟨S, h1, h2, h3, h4, h5⟩ := h
  exact list_store h1 h4 hsz b

end Go.Proofs.YtmjpckodcafjiaaGreat

namespace Go.Proofs.YtmjpckodcafjiaaGreat
open Go.RowKit

/-! ### No store -/
set_option maxRecDepth 100000 in
theorem takes_nostore (s : ByteArray) (w : World) :
    Calls Tryz.prog 37 #[.pointer none, .string s] w fun e w' => e = .returned (.iface 58 (.int .i64 4)) ∧ w' = w := by
  go_enter Tryz.func37, Tryz.ntmps37
  go_wp2
  go_ret
  exact ⟨rfl, rfl⟩
set_option maxRecDepth 100000 in
theorem get_nostore (s : ByteArray) (w : World) :
    Calls Tryz.prog 14 #[.pointer none, .string s] w fun e w' => e = .returned (.tuple #[.slice none 0 0, .iface 58 (.int .i64 4)]) ∧ w' = w := by
  have HT := Lib.hid (takes_nostore s w)
  go_enter Tryz.func14, Tryz.ntmps14
  go_wp2_with fail
  refine HT.out.mono ?_
  rintro e w ⟨rfl, rfl⟩
  go_wp2
  go_ret2
  exact ⟨rfl, rfl⟩
set_option maxRecDepth 100000 in
theorem list_nostore (s : ByteArray) (w : World) :
    Calls Tryz.prog 15 #[.pointer none, .string s] w fun e w' => e = .returned (.tuple #[.slice none 0 0, .iface 58 (.int .i64 4)]) ∧ w' = w := by
  go_enter Tryz.func15, Tryz.ntmps15
  go_wp2
  go_ret2
  exact ⟨rfl, rfl⟩
set_option maxRecDepth 100000 in
theorem put_nostore (s : ByteArray) (ao : Option Addr) (len cap : Nat) (w : World) :
    Calls Tryz.prog 17 #[.pointer none, .string s, .slice ao len cap] w fun e w' => e = .returned (.iface 58 (.int .i64 4)) ∧ w' = w := by
  have HT := Lib.hid (takes_nostore s w)
  go_enter Tryz.func17, Tryz.ntmps17
  go_wp2_with fail
  refine HT.out.mono ?_
  rintro e w ⟨rfl, rfl⟩
  go_wp2
  go_ret
  exact ⟨rfl, rfl⟩
set_option maxRecDepth 100000 in
theorem delete_nostore (s : ByteArray) (w : World) :
    Calls Tryz.prog 18 #[.pointer none, .string s] w fun e w' => e = .returned (.iface 58 (.int .i64 4)) ∧ w' = w := by
  have HT := Lib.hid (takes_nostore s w)
  go_enter Tryz.func18, Tryz.ntmps18
  go_wp2_with fail
  refine HT.out.mono ?_
  rintro e w ⟨rfl, rfl⟩
  go_wp2
  go_ret
  exact ⟨rfl, rfl⟩
set_option maxRecDepth 100000 in
theorem open_nodisk (w : World) :
    Calls Tryz.prog 10 #[.pointer none] w fun e w' => e = .returned (.tuple #[.pointer none, .iface 58 (.int .i64 4)]) ∧ w' = w := by
  go_enter Tryz.func10, Tryz.ntmps10
  go_wp2
  go_ret2
  exact ⟨rfl, rfl⟩

end Go.Proofs.YtmjpckodcafjiaaGreat

namespace Go.Proofs.YtmjpckodcafjiaaGreat
open Go.RowKit

set_option maxHeartbeats 1000000 in
set_option maxRecDepth 100000 in
theorem has_store {w : World} {S : Nat → Prop} {p q : Nat} {d : DS} (h : Dk w S p d) (hs : AtS w q p) {n : Nm} (hn : n.length ≤ 1000) :
    Calls Tryz.prog 19 #[.pointer (some ⟨q, 0, none⟩), nmV n] w fun e w' => e = .returned (.bool (decide ((sget d n).2 = 0))) ∧ Below w.heap.size w w' := by
  have HG := Lib.hid (get_store h hs hn)
  obtain ⟨c, hc⟩ : ∃ c, c = (sget d n).2 := ⟨_, rfl⟩
  have HC := Lib.hid hc
  rw [← hc]
  obtain ⟨s, hs'⟩ : ∃ s : ByteArray, nmV n = .string s := ⟨_, rfl⟩
  rw [hs'] at HG ⊢
  clear h hs hs' hc
  go_enter Tryz.func19, Tryz.ntmps19
  go_wp2_with fail
  refine HG.out.mono ?_
  rintro e w1 ⟨v, rfl, ho, hb⟩
  rw [← HC.out]
  obtain ⟨ao, cap, hv, _⟩ := ho.reads.val
  subst hv
  have HB := Lib.hid hb
  generalize (sget d n).1.length = z
  clear ho hb
  by_cases hz : c = 0
  · subst hz
    rw [errV_zero]
    go_wp2
    go_ret
    exact ⟨rfl, HB.out⟩
  · have HZ : Hid (decide (c = 0) = false) := Lib.hid (decide_eq_false hz)
    rw [errV_pos hz]
    clear hz
    go_wp2
    go_ret
    exact ⟨by rw [HZ.out]; rfl, HB.out⟩
theorem Sd.has {w0 w : World} {p q : Nat} {d : DS} (h : Sd w0 w p q d) {n : Nm} (hn : n.length ≤ 1000) :
    Calls Tryz.prog 19 #[.pointer (some ⟨q, 0, none⟩), nmV n] w fun e w' => e = .returned (.bool (decide ((sget d n).2 = 0))) ∧ Below w.heap.size w w' := by
  obtain ⟨S, h1, h2, h3, h4, h5⟩ := h
  exact has_store h1 h4 hn

set_option maxRecDepth 100000 in
theorem disk_store {w : World} {q p : Nat} (h : w.cell? ⟨q, 0, none⟩ = some (.pointer (some ⟨p, 0, none⟩))) :
    Calls Tryz.prog 11 #[.pointer (some ⟨q, 0, none⟩)] w fun e w' => e = .returned (.pointer (some ⟨p, 0, none⟩)) ∧ w' = w := by
  go_enter Tryz.func11, Tryz.ntmps11
  go_wp2
  go_ret
  exact ⟨rfl, rfl⟩
set_option maxRecDepth 100000 in
theorem disk_nostore (w : World) :
    Calls Tryz.prog 11 #[.pointer none] w fun e w' => e = .returned (.pointer none) ∧ w' = w := by
  go_enter Tryz.func11, Tryz.ntmps11
  go_wp2
  go_ret
  exact ⟨rfl, rfl⟩

set_option maxRecDepth 100000 in
theorem has_nostore (s : ByteArray) (w : World) :
    Calls Tryz.prog 19 #[.pointer none, .string s] w fun e w' => e = .returned (.bool false) ∧ w' = w := by
  have HT := Lib.hid (get_nostore s w)
  go_enter Tryz.func19, Tryz.ntmps19
  go_wp2_with fail
  refine HT.out.mono ?_
  rintro e w ⟨rfl, rfl⟩
  go_wp2
  go_ret
  exact ⟨rfl, rfl⟩

end Go.Proofs.YtmjpckodcafjiaaGreat

namespace Go.Proofs.YtmjpckodcafjiaaGreat
open Go.RowKit

theorem anyT_take {n : Nm} {k : Nat} (h : k < n.length) : hasT (n.take (k + 1)) = (hasT (n.take k) || (n.getD k 0 == 126)) := by
  unfold hasT
  rw [List.take_add_one, List.getElem?_eq_getElem h, Option.toList_some, List.any_append]
  simp [List.getD, List.getElem?_eq_getElem h]
theorem anyT_hit {n : Nm} {k : Nat} (h : k < n.length) (hs : (n.getD k 0 == 126) = true) : hasT n = true := by
  unfold hasT
  rw [List.any_eq_true]
  exact ⟨n[k], List.getElem_mem h, by
    have : n.getD k 0 = n[k] := by rw [List.getD, List.getElem?_eq_getElem h]; rfl
    rw [← this]; exact hs⟩

set_option maxHeartbeats 4000000 in
set_option maxRecDepth 100000 in
theorem named7_any (n : Nm) (hn : n.length ≤ 9223372036854775807) (w : World) : Calls Tryz.prog 21 #[nmV n] w fun e w' => e = .returned (.bool (snamed n)) ∧ w' = w := by
  have hs := size_nm n
  have HNM := Lib.hid (fun W => refNamed_any n hn W)
  unfold nmV at HNM ⊢
  obtain ⟨s, hsn⟩ : ∃ s : ByteArray, s = ⟨n.toArray⟩ := ⟨_, rfl⟩
  rw [← hsn] at hs ⊢
  simp only [← hsn] at HNM
  have HIX : Hid (∀ i, i < n.length → ∀ w : World, (Instr.index 9 (.string s) (.int .i64 (i : Int))).run Tryz.prog w = .ok (.int .u8 ((chN n i : Nat) : Int)) w) := Lib.hid (by rw [hsn]; exact fun i hi w => run_chN n i hi w)
  have HNN := Lib.hid hn
  clear hsn
  go_enter Tryz.func21, Tryz.ntmps21
  go_wp2
  go_loopw [3] (fun i wr => ∃ k : Nat, k ≤ n.length ∧ i = .int .i64 (k : Int) ∧ hasT (n.take k) = false ∧ wr = w)
    (fun i _ => n.length - (intOf i).toNat)
  case atStart => exact ⟨0, Nat.zero_le _, rfl, rfl, rfl⟩
  case round =>
    obtain ⟨k, hk, rfl, hall, rfl⟩ := hrel
    have HALL := Lib.hid hall
    clear hall
    by_cases hlt : k < n.length
    · have hix := HIX.out k hlt
      have hlti : (k : Int) < n.length := by omega
      have HK := Lib.hid hlt
      obtain ⟨c, hc⟩ : ∃ c : Int, ((chN n k : Nat) : Int) = c := ⟨_, rfl⟩
      simp only [hc] at hix
      cases hsg : (n.getD k 0 == 126)
      · have HN : Hid (hasT (n.take (k + 1)) = false) := Lib.hid (by rw [anyT_take hlt, HALL.out, hsg]; rfl)
        have hne : ¬ c = 126 := fun e => by
          have h1 : chN n k = 126 := by omega
          have h2 : n.getD k 0 = 126 := UInt8.toNat_inj.1 h1
          rw [h2] at hsg
          cases hsg
        clear hsg hc
        go_wp2
        go_roundw
        case rel => exact ⟨k + 1, HK.out, by first | exact inc_eq HK.out HNN.out | rfl, HN.out, trivial⟩
        case measure => first | exact inc_meas HK.out HNN.out | (have := HK.out; simp [intOf]; omega)
      · have HF : Hid (snamed n = false) := Lib.hid (by unfold snamed; rw [anyT_hit hlt hsg]; simp)
        have he : c = 126 := by
          have h2 : n.getD k 0 = 126 := by simpa using hsg
          have h1 : chN n k = 126 := by unfold chN; rw [h2]; rfl
          omega
        subst he
        clear hsg hc
        go_wp2
        go_ret
        exact ⟨by rw [HF.out]; rfl, rfl⟩
    · obtain rfl : k = n.length := by omega
      have HT : Hid (hasT n = false) := Lib.hid (by have := HALL.out; rwa [List.take_length] at this)
      by_cases h20 : n.length ≤ 20
      · have h20i : ((n.length : Nat) : Int) ≤ 20 := by omega
        have HE : Hid (snamed n = named n) := Lib.hid (by unfold snamed; rw [decide_eq_true h20, HT.out]; simp)
        go_wp2_with fail
        refine (HNM.out _).mono ?_
        rintro e w' ⟨rfl, rfl⟩
        obtain ⟨bb, hbb⟩ : ∃ bb, bb = named n := ⟨_, rfl⟩
        rw [← hbb]
        have HBB := Lib.hid hbb
        clear hbb
        go_wp2
        go_ret
        exact ⟨by rw [HE.out, ← HBB.out]; rfl, rfl⟩
      · have h20i : ¬ ((n.length : Nat) : Int) ≤ 20 := by omega
        have HE : Hid (snamed n = false) := Lib.hid (by unfold snamed; rw [decide_eq_false h20]; simp)
        go_wp2
        go_ret
        exact ⟨by rw [HE.out]; rfl, rfl⟩

set_option maxHeartbeats 2000000 in
set_option maxRecDepth 100000 in
theorem rget7_any {w : World} {B : Nat → Prop} {d : DS} {sv cv : Value} (h : Doc w B d sv cv) (hsz : d.sz ≤ 600000) (n : Nm) (hn : n.length ≤ 9223372036854775807) :
    Calls Tryz.prog 29 #[docV d sv cv, nmV n] w fun e w' => e = .returned (.tuple #[.string (txt (sget d n).1), .int .i64 ((sget d n).2 : Int)]) ∧ Below w.heap.size w w' := by
  obtain ⟨⟨aos, caps, rfl⟩, aoc, capc, rfl⟩ := h.val
  have HBX := Lib.hid (b1_new w d (.slice aos d.sure.length caps) (.slice aoc d.chs.length capc))
  obtain ⟨W1, hW1⟩ : ∃ W1, W1 = w.alloc (.cells #[.int .i64 (d.room : Int), .slice aos d.sure.length caps, .slice aoc d.chs.length capc, .int .i64 d.fuse, .bool d.down] 33) := ⟨_, rfl⟩
  rw [← hW1] at HBX
  have HRD := Lib.hid (rread_any (h.old HBX.out.below) hsz n)
  have HNM := Lib.hid (named7_any n hn W1)
  obtain ⟨q0, q1, q2, q3, q4⟩ := HBX.out.c
  unfold docV at HRD ⊢
  obtain ⟨s, hs⟩ : ∃ s : ByteArray, nmV n = .string s := ⟨_, rfl⟩
  rw [hs] at HRD HNM ⊢
  have HW1 := Lib.hid hW1
  obtain ⟨rr, hrr⟩ : ∃ rr, rr = dread d n := ⟨_, rfl⟩
  rw [← hrr] at HRD
  have HSG : Hid (sget d n = if snamed n = false then ([], 2) else rr) := Lib.hid (by rw [hrr]; rfl)
  clear h hsz hW1 hs hrr
  go_enter Tryz.func29, Tryz.ntmps29
  go_wp2_with fail
  rw [← HW1.out]
  refine HNM.out.mono ?_
  rintro e w' ⟨rfl, rfl⟩
  cases hsn : snamed n
  · have HE : Hid (sget d n = ([], 2)) := Lib.hid (by rw [HSG.out, if_pos hsn])
    clear hsn
    go_wp2
    go_ret2
    rw [HE.out]
    exact ⟨rfl, HBX.out.below⟩
  · have HE : Hid (sget d n = rr) := Lib.hid (by rw [HSG.out, if_neg (by rw [hsn]; decide)])
    clear hsn
    go_wp2_with fail
    refine HRD.out.mono ?_
    rintro e w2 ⟨rfl, hb2⟩
    have HB2 := Lib.hid (HBX.out.below.trans (hb2.mono HBX.out.below.size))
    clear hb2 q0 q1 q2 q3 q4
    go_wp2
    go_ret2
    rw [HE.out]
    exact ⟨rfl, HB2.out⟩

end Go.Proofs.YtmjpckodcafjiaaGreat

namespace Go.Proofs.YtmjpckodcafjiaaGreat
open Go.RowKit

/-- Bounds that every operation keeps. -/
def FuseOk (d : DS) : Prop := -1 ≤ d.fuse ∧ d.fuse ≤ 9223372036854775807
theorem fuse_work {d : DS} (h : FuseOk d) : FuseOk (dwork d).1 := by
  unfold dwork FuseOk at *
  by_cases hd : d.down = true ∨ d.fuse = 0
  · rw [if_pos hd]; exact h
  · rw [if_neg hd]
    simp only []
    split <;> omega
theorem dwrite_fuse (d : DS) (n : Nm) (b : List Nat) : (dwrite d n b).1.fuse = (dwork d).1.fuse := by unfold dwrite <;> (repeat' split) <;> rfl
theorem drename_fuse (d : DS) (a b : Nm) : (drename d a b).1.fuse = (dwork d).1.fuse := by unfold drename <;> (repeat' split) <;> rfl
theorem dremove_fuse (d : DS) (a : Nm) : (dremove d a).1.fuse = (dwork d).1.fuse := by unfold dremove <;> (repeat' split) <;> rfl
theorem dsync_fuse (d : DS) : (dsync d).1.fuse = (dwork d).1.fuse := by unfold dsync <;> (repeat' split) <;> rfl
theorem fuse_write {d : DS} (h : FuseOk d) (n : Nm) (b : List Nat) : FuseOk (dwrite d n b).1 := by unfold FuseOk; rw [dwrite_fuse]; exact fuse_work h
theorem fuse_rename {d : DS} (h : FuseOk d) (a b : Nm) : FuseOk (drename d a b).1 := by unfold FuseOk; rw [drename_fuse]; exact fuse_work h
theorem fuse_remove {d : DS} (h : FuseOk d) (a : Nm) : FuseOk (dremove d a).1 := by unfold FuseOk; rw [dremove_fuse]; exact fuse_work h
theorem fuse_sync {d : DS} (h : FuseOk d) : FuseOk (dsync d).1 := by unfold FuseOk; rw [dsync_fuse]; exact fuse_work h

/-- Where the document's disk lies while a function of layer 7 runs: its box, its rows. -/
structure In7 (w : World) (B : Nat → Prop) (W : World) (d : DS) (sv cv : Value) : Prop where
  bx : Bx w W d sv cv
  doc : DocN w W B d sv cv
/-- Of which blocks the document's rows may be. -/
def N7 (w : World) (B : Nat → Prop) (j : Nat) : Prop := (B j ∧ j < w.heap.size) ∨ w.heap.size + 1 < j
theorem In7.new {w : World} {B : Nat → Prop} {d : DS} {sv cv : Value} (h : Doc w B d sv cv) : In7 w B ((w.alloc (.cells #[.int .i64 (d.room : Int), sv, cv, .int .i64 d.fuse, .bool d.down] 33)).alloc (.cells #[.int .i64 0, .slice none 0 0, .slice none 0 0, .int .i64 0, .bool false] 33)) d sv cv :=
  ⟨bx_new w d sv cv, DocN.start h (bx_new w d sv cv).below⟩
theorem In7.old {w W W' : World} {B : Nat → Prop} {d : DS} {sv cv : Value} (h : In7 w B W d sv cv) (hb : Below W.heap.size W W') : In7 w B W' d sv cv := ⟨h.bx.old hb, h.doc.old hb⟩
theorem In7.next {w W W' : World} {B : Nat → Prop} {d d' : DS} {sv cv sv' cv' : Value} (h : In7 w B W d sv cv) (hb : Below W.heap.size W W') (hd : Doc W' (fun j => N7 w B j ∨ W.heap.size ≤ j) d' sv' cv') :
    In7 w B (five W' w.heap.size (.int .i64 (d'.room : Int)) sv' cv' (.int .i64 d'.fuse) (.bool d'.down)) d' sv' cv' :=
  ⟨(h.bx.old hb).set d' sv' cv', Doc.keep (Doc.mono hd fun j _ hj => by
    rcases hj with hj | hj
    · exact hj
    · exact .inr (Nat.lt_of_lt_of_le h.bx.lt hj)) ((fr_five W' w.heap.size _ _ _ _ _).kept _ fun j _ hj e => by rcases hj with hj | hj <;> omega)⟩
theorem In7.fin {w W : World} {B : Nat → Prop} {d : DS} {sv cv : Value} (h : In7 w B W d sv cv) (a b c x e : Value) (k : Nat) :
    DocPost B w (d, k) (.returned (.tuple #[docV d sv cv, .int .i64 (k : Int)])) (five W (w.heap.size + 1) a b c x e) := docPost_fin h.bx h.doc a b c x e k

set_option maxHeartbeats 4000000 in
set_option maxRecDepth 100000 in
theorem rdelete7_any {w : World} {B : Nat → Prop} {d : DS} {sv cv : Value} (h : Doc w B d sv cv) (hsz : d.sz ≤ 500000) (hf : FuseOk d) (n : Nm) (hn : n.length ≤ 9223372036854775807) :
    Calls Tryz.prog 28 #[docV d sv cv, nmV n] w (DocPost B w (sdelete d n)) := by
  obtain ⟨⟨aos, caps, rfl⟩, aoc, capc, rfl⟩ := h.val
  have HIN := Lib.hid (In7.new h)
  have HNM := Lib.hid (fun W => named7_any n hn W)
  have HRM := Lib.hid (fun W (hi : In7 w B W d (.slice aos d.sure.length caps) (.slice aoc d.chs.length capc)) => rremove_any hi.doc (Nat.le_trans hsz (by decide)) hf n hn)
  obtain ⟨r, hr⟩ : ∃ r, r = dremove d n := ⟨_, rfl⟩
  have HSD : Hid (sdelete d n = if snamed n = false then (d, 2) else if r.2 ≠ 0 then r else dsync r.1) := Lib.hid (by rw [hr]; rfl)
  have HSZ : Hid (r.1.sz ≤ 600000) := Lib.hid (by rw [hr]; have := (opOk_remove d n).sz; omega)
  have HFU : Hid (FuseOk r.1) := Lib.hid (by rw [hr]; exact fuse_remove hf n)
  simp only [← hr] at HRM
  unfold DocPost docV at HRM
  unfold docV
  obtain ⟨s, hs⟩ : ∃ s : ByteArray, nmV n = .string s := ⟨_, rfl⟩
  rw [hs] at HRM ⊢
  simp only [hs] at HNM
  obtain ⟨W2, hW2⟩ : ∃ W2, W2 = (w.alloc (.cells #[.int .i64 (d.room : Int), .slice aos d.sure.length caps, .slice aoc d.chs.length capc, .int .i64 d.fuse, .bool d.down] 33)).alloc (.cells #[.int .i64 0, .slice none 0 0, .slice none 0 0, .int .i64 0, .bool false] 33) := ⟨_, rfl⟩
  rw [← hW2] at HIN
  have HW2 := Lib.hid hW2
  obtain ⟨q0, q1, q2, q3, q4⟩ := HIN.out.bx.c
  have qf := HIN.out.bx.f
  have qg := HIN.out.bx.g
  obtain ⟨x0, x1, x2, x3, x4, y0, y1, y2, y3, y4⟩ := HIN.out.bx.r
  clear h hsz hf hr hs hW2
  go_enter Tryz.func28, Tryz.ntmps28
  go_wp2_with fail
  rw [← HW2.out]
  refine (HNM.out W2).mono ?_
  rintro e w3 ⟨rfl, rfl⟩
  cases hsn : snamed n
  · have HE : Hid (sdelete d n = (d, 2)) := Lib.hid (by rw [HSD.out, if_pos hsn])
    clear hsn
    go_wp2
    refine bodyPost_ret (v := .tuple #[docV d (.slice aos d.sure.length caps) (.slice aoc d.chs.length capc), .int .i64 ((2 : Nat) : Int)]) (by simp [docV, results, Tryz.results28, go_sem, y0, y1, y2, y3, y4]) rfl ?_
    rw [HE.out]
    exact HIN.out.fin _ _ _ _ _ 2
  · have HE : Hid (sdelete d n = if r.2 ≠ 0 then r else dsync r.1) := Lib.hid (by rw [HSD.out, if_neg (by rw [hsn]; decide)])
    clear hsn
    go_wp2_with fail
    refine (HRM.out _ HIN.out).mono ?_
    rintro e w4 ⟨sv4, cv4, rfl, hd4, hb4⟩
    obtain ⟨⟨ao1, cap1, rfl⟩, ao2, cap2, rfl⟩ := hd4.val
    have hin4 := HIN.out.old hb4
    clear q0 q1 q2 q3 q4 qf qg y0 y1 y2 y3 y4
    obtain ⟨q0, q1, q2, q3, q4⟩ := hin4.bx.c
    have qf := hin4.bx.f
    have qg := hin4.bx.g
    obtain ⟨x0, x1, x2, x3, x4, y0, y1, y2, y3, y4⟩ := hin4.bx.r
    obtain ⟨W5, hW5⟩ : ∃ W5, W5 = five w4 w.heap.size (.int .i64 (r.1.room : Int)) (.slice ao1 r.1.sure.length cap1) (.slice ao2 r.1.chs.length cap2) (.int .i64 r.1.fuse) (.bool r.1.down) := ⟨_, rfl⟩
    have HIN5 : Hid (In7 w B W5 r.1 (.slice ao1 r.1.sure.length cap1) (.slice ao2 r.1.chs.length cap2)) := Lib.hid (by rw [hW5]; exact HIN.out.next hb4 hd4)
    have hW5' := hW5
    unfold five at hW5
    have HW5 := Lib.hid hW5
    have HW5' := Lib.hid hW5'
    clear hW5 hW5' hd4 hb4 hin4
    by_cases hz : r.2 = 0
    rotate_left
    · have HE2 : Hid (sdelete d n = (r.1, r.2)) := Lib.hid (by rw [HE.out, if_pos hz])
      obtain ⟨c, hc⟩ : ∃ c, c = r.2 := ⟨_, rfl⟩
      rw [← hc] at hz HE2 ⊢
      have hzi : ((c : Int) == 0) = false := by simpa using hz
      clear hz hc
      go_wp2
      refine bodyPost_ret (v := .tuple #[docV r.1 (.slice ao1 r.1.sure.length cap1) (.slice ao2 r.1.chs.length cap2), .int .i64 (c : Int)]) (by simp [docV, results, Tryz.results28, go_sem, y0, y1, y2, y3, y4]) rfl ?_
      rw [HE2.out, ← HW5.out]
      exact HIN5.out.fin _ _ _ _ _ c
    · have HE2 : Hid (sdelete d n = dsync r.1) := Lib.hid (by rw [HE.out, if_neg (by omega)])
      have HSY := Lib.hid (rsync_any HIN5.out.doc HSZ.out HFU.out)
      unfold DocPost docV at HSY
      rw [hz]
      clear hz
      go_wp2_with fail
      rw [← HW5.out]
      refine HSY.out.mono ?_
      rintro e w6 ⟨sv6, cv6, rfl, hd6, hb6⟩
      obtain ⟨⟨ao3, cap3, rfl⟩, ao4, cap4, rfl⟩ := hd6.val
      obtain ⟨r2, hr2⟩ : ∃ r2, r2 = dsync r.1 := ⟨_, rfl⟩
      rw [← hr2] at hd6 HE2 ⊢
      have hin6 := HIN5.out.old hb6
      clear q0 q1 q2 q3 q4 qf qg y0 y1 y2 y3 y4
      obtain ⟨q0, q1, q2, q3, q4⟩ := hin6.bx.c
      have qf := hin6.bx.f
      have qg := hin6.bx.g
      obtain ⟨x0, x1, x2, x3, x4, y0, y1, y2, y3, y4⟩ := hin6.bx.r
      have HIN7 := Lib.hid (HIN5.out.next hb6 hd6)
      clear hd6 hb6 hin6 hr2
      go_wp2
      refine bodyPost_ret (v := .tuple #[docV r2.1 (.slice ao3 r2.1.sure.length cap3) (.slice ao4 r2.1.chs.length cap4), .int .i64 (r2.2 : Int)]) (by simp [docV, results, Tryz.results28, go_sem, y0, y1, y2, y3, y4]) rfl ?_
      rw [HE2.out]
      exact HIN7.out.fin _ _ _ _ _ r2.2

end Go.Proofs.YtmjpckodcafjiaaGreat
