/- The document's own digest: the padded text. -/
import Derived.Test.YtgnalcobcdgnkaaGreatDoorShaG
import Derived.Test.YtgnalcobcdgnkaaGreatDoorQp
import Derived.Test.YtgnalcobcdgnkaaGreatDoorDaP
import Derived.Test.YtgnalcobcdgnkaaGreatDoorStepA
import Derived.Deep.QuietTactic
namespace Go.Proofs.YtgnalcobcdgnkaaGreatDoor
open Go.RowKit

def slenOf : Value → Nat
  | .slice _ n _ => n
  | _ => 0

theorem eight_take (n : Nat) {m : Nat} (h : m ≤ 7) : (eight n).take (8 - m) = (eight n).take (8 - (m + 1)) ++ [n / 2 ^ (8 * m) % 256] := by
  match m, h with
  | 0, _ => simp [eight]
  | 1, _ => rfl
  | 2, _ => rfl
  | 3, _ => rfl
  | 4, _ => rfl
  | 5, _ => rfl
  | 6, _ => rfl
  | 7, _ => rfl

theorem sha_length (K H l : List Nat) : (shaOf K H l).length = 32 := by simp [shaOf, bytesOf]

def zeros32 : Array Value := (Array.replicate 32 (.int .u8 0))

/-- What was there stays, and so does the block behind it, made for the answer. -/
structure Wk (w wr : World) : Prop where
  below : Below w.heap.size w wr
  res : wr.heap[w.heap.size]? = some (.cells zeros32 37 (0, 0))

theorem Wk.size {w wr : World} (h : Wk w wr) : w.heap.size + 1 ≤ wr.heap.size := (Array.getElem?_eq_some_iff.1 h.res).1
theorem Wk.alloc {w wr : World} (h : Wk w wr) (o : Obj) : Wk w (wr.alloc o) := ⟨h.below.alloc h.below.size _, by rw [Below.heap_alloc _ _ _ h.size]; exact h.res⟩
theorem Wk.drew {w wr : World} (h : Wk w wr) : Wk w wr.drew := ⟨h.below.drew, h.res⟩
theorem Wk.grown {w wr w' : World} {row : Option Nat} (h : Wk w wr) (hg : wr.grownBy w' row) (hr : ∀ j, row = some j → w.heap.size + 1 ≤ j) : Wk w w' :=
  ⟨h.below.grown hg h.below.size (fun j hj => by have := hr j hj; omega), by rw [hg.block _ h.size (fun he => by have := hr _ he.symm; omega)]; exact h.res⟩
theorem Wk.reads {w wr : World} (h : Wk w wr) {k : IntKind} {v : Value} {l : List Nat} (hr : Reads w k v l) : Reads wr k v l := hr.below h.below (Nat.le_refl _)

theorem Wk.more {w wr w' : World} (h : Wk w wr) (hb : Below wr.heap.size wr w') : Wk w w' := ⟨h.below.trans (hb.mono h.below.size), by rw [hb.block _ h.size]; exact h.res⟩

theorem padded_byte {l : List Nat} (h : ∀ y ∈ l, y < 256) : ∀ y ∈ padded l, y < 256 := by
  intro y hy
  simp only [padded, List.mem_append, List.mem_cons, List.not_mem_nil, or_false, List.mem_replicate, eight] at hy
  rcases hy with ((hy | rfl) | ⟨_, rfl⟩) | hy
  · exact h y hy
  · decide
  · decide
  · rcases hy with rfl | rfl | rfl | rfl | rfl | rfl | rfl | rfl <;> exact Nat.mod_lt _ (by decide)

set_option maxHeartbeats 4000000 in
set_option maxRecDepth 1000000 in
theorem refSha_any (v cv fv : Value) (l : List Nat) (w : World) (hr : Reads w .u8 v l) (hl : ∀ y ∈ l, y < 256) (hx : l.length ≤ 100000) (hc : Reads w .u32 cv shaK) (hf : Reads w .u32 fv shaH) :
    Calls Tryz.prog 33 #[v, cv, fv] w fun e w' => e = .returned (.agg (vals .u8 (shaOf shaK shaH l)).toArray) ∧ Below w.heap.size w w' := by
  obtain ⟨ao, cap, rfl, _, _, _⟩ := hr.val
  obtain ⟨aok, capk, rfl, _, _, _⟩ := hc.val
  obtain ⟨bk, ok, rfl, hbk, hkc⟩ := hc.at (i := 0) (by decide)
  have HKC : Hid (∀ i, i < 64 → w.cell? ⟨bk, ok + i, none⟩ = some (.int .u32 ((shaK.getD i 0 : Nat) : Int))) := Lib.hid hkc
  clear hkc hc
  have hz1 : Wk w (w.alloc (.cells zeros32 37)) := ⟨(Below.refl _ _).alloc (Nat.le_refl _) _, heap_alloc_new _ _⟩
  go_enter Tryz.func33, Tryz.ntmps33
  go_wp2_with (at_builtin; go_must (refine wpList_app _ rfl _ _ 61 rfl (w.heap.size + 1) 5 (.int .u8 0) 1 Tryz.underlying61 Tryz.info5 rfl .u8 _ [] rfl ?ho0 _ l rfl ?hr0 (by decide) ?c1 ?c3 ?_))
  case ho0 =>
    have h := owns_empty (w.alloc (.cells zeros32 37)) (w.heap.size + 1) 5 .u8 (by simp)
    have e : (w.alloc (.cells zeros32 37)).heap.size = w.heap.size + 1 := by simp
    rw [e] at h
    exact h
  case hr0 => exact (hz1.alloc _).reads hr
  case c1 => (try simp); omega
  case c3 => simp
  intro v1 w1 ho1 hg1
  have hw1 : Wk w w1 := (hz1.alloc (.cells #[] 5)).grown hg1 (fun j hj => by simp [Value.ownBlock] at hj; omega)
  have HW1 := Lib.hid hw1
  have HR := Lib.hid hr
  have HF := Lib.hid hf
  have HO1 := Lib.hid ho1
  clear hz1 hw1 hr hf hg1 ho1
  go_wp2_with (at_builtin; go_must (refine wpList_app _ rfl _ _ 61 rfl (w.heap.size + 1) 5 (.int .u8 0) 1 Tryz.underlying61 Tryz.info5 rfl .u8 _ l rfl (HO1.out.alloc _) _ [128] rfl (reads_new _ _ _ 128) (by decide) ?c1 ?c3 ?_))
  case c1 => (try simp); omega
  case c3 => have := HW1.out.size; simp; omega
  intro v2 w2 ho2 hg2
  have HW2 := Lib.hid ((HW1.out.alloc (.cells #[.int .u8 128] 5)).grown hg2 (fun j hj => (HO1.out.lt j hj).1))
  have HO2 := Lib.hid ho2
  clear ho2 hg2
  go_wp2
  go_loopw [7] (fun bv wr => ∃ i, i ≤ noughts (l.length + 1) ∧ Owns wr (w.heap.size + 1) 5 .u8 bv (l ++ [128] ++ List.replicate i 0) ∧ Wk w wr)
    (fun bv _ => l.length + 1 + noughts (l.length + 1) - slenOf bv)
  case atStart => exact ⟨0, Nat.zero_le _, by simpa using HO2.out, HW2.out⟩
  case round =>
    obtain ⟨i, hi, ho, hwk⟩ := hrel
    have hlen : (l ++ [128] ++ List.replicate i 0).length = l.length + 1 + i := by simp; omega
    obtain ⟨g, cap7, rfl, hgb, hlc, hcm⟩ := owns_block ho (by omega)
    have HO := Lib.hid ho
    have HWK := Lib.hid hwk
    have HLEN := Lib.hid hlen
    rw [hlen]
    have hrep : Hid (l ++ [128] ++ List.replicate (i + 1) 0 = (l ++ [128] ++ List.replicate i 0) ++ [0]) := Lib.hid (by rw [List.replicate_succ', ← List.append_assoc])
    generalize hKe : l ++ [128] ++ List.replicate i 0 = K at HO HLEN hrep
    have hKeq := Lib.hid hKe; clear hKe
    clear ho hwk hlen
    by_cases hlt : i < noughts (l.length + 1)
    · have hne : (((l.length : Int) + 1 + (i : Int)) % 64 == 56) = false := by
        rw [beq_eq_false_iff_ne]
        unfold noughts at hlt
        omega
      have hn100 : i < 64 := by unfold noughts at hlt; omega
      have hns : Hid (i + 1 ≤ noughts (l.length + 1)) := Lib.hid hlt
      clear hi hlt
      have HO0 : Hid (Owns (wr.alloc (.cells #[.int .u8 0] 5)) (w.heap.size + 1) 5 .u8 (.slice (some ⟨g, 0, none⟩) (l.length + 1 + i) cap7) K) := Lib.hid (by have h := HO.out.alloc (.cells #[.int .u8 0] 5); rw [HLEN.out] at h; exact h)
      go_wp2_with (at_builtin; go_must (refine wpList_app _ rfl _ _ 61 rfl (w.heap.size + 1) 5 (.int .u8 0) 1 Tryz.underlying61 Tryz.info5 rfl .u8 _ K rfl HO0.out _ [0] rfl (reads_new _ _ _ 0) (by decide) ?c1 ?c3 ?_))
      case c1 => rw [HLEN.out]; (try simp); omega
      case c3 => have := HWK.out.size; simp; omega
      intro v8 w8 ho8 hg8
      have HW8 := Lib.hid ((HWK.out.alloc (.cells #[.int .u8 0] 5)).grown hg8 (fun j hj => (HO0.out.lt j hj).1))
      have hl8 : slenOf v8 = l.length + 1 + (i + 1) := by
        obtain ⟨g8, cap8, rfl, _⟩ := owns_block ho8 (by simp)
        simp [slenOf, HLEN.out]; omega
      have HO8 := Lib.hid ho8
      clear ho8 hg8
      go_wp2
      go_roundw
      case rel => exact ⟨i + 1, hns.out, by rw [hrep.out]; exact HO8.out, HW8.out⟩
      case measure => have := hns.out; rw [hl8]; simp [slenOf]; omega
    · obtain rfl : i = noughts (l.length + 1) := by omega
      have hne : (((l.length : Int) + 1 + (noughts (l.length + 1) : Int)) % 64 != 56) = false := by
        rw [bne_eq_false_iff_eq]
        unfold noughts
        omega
      have hn63 : noughts (l.length + 1) < 64 := Nat.mod_lt _ (by decide)
      have HKK : Hid (l ++ [128] ++ List.replicate (noughts (l.length + 1)) 0 = K) := hKeq
      generalize hz : noughts (l.length + 1) = z at hne hn63 HLEN HKK
      clear hi hlt hrep hKeq
      go_wp2
      go_loopw [7, 9] (fun bv iv wr => ∃ r : Nat, r ≤ 8 ∧ iv = .int .i64 ((r : Int) - 1) ∧ Owns wr (w.heap.size + 1) 5 .u8 bv (K ++ (eight (8 * l.length)).take (8 - r)) ∧ Wk w wr)
        (fun _ iv _ => (intOf iv + 1).toNat)
      case atStart => exact ⟨8, Nat.le_refl _, rfl, by have h := HO.out; rw [HLEN.out] at h; simpa using h, HWK.out⟩
      case round =>
        obtain ⟨r, hr8, rfl, ho, hwk⟩ := hrel
        have HO := Lib.hid ho
        have HWK := Lib.hid hwk
        clear ho hwk
        cases r with
        | zero =>
          have hpad : K ++ (eight (8 * l.length)).take (8 - 0) = padded l := by
            unfold padded
            rw [hz, HKK.out]
            rfl
          have HP := Lib.hid (padded_length l)
          have HPL : Hid ((padded l).length ≤ 200000 ∧ 64 ≤ (padded l).length) := Lib.hid (by
            have h1 := padded_length l
            have h2 : (padded l).length = l.length + 1 + noughts (l.length + 1) + 8 := by simp [padded, eight]; omega
            omega)
          rw [hpad] at HO
          have HPB : Hid (∀ y ∈ padded l, y < 256) := Lib.hid (padded_byte hl)
          have HSH : Hid (shaOf shaK shaH l = bytesOf (blocks shaK (padded l) shaH ((padded l).length / 64))) := Lib.hid rfl
          generalize padded l = P at HO HP HPL HPB HSH
          obtain ⟨gb, capb, hvb, hgb2, hlc2, hcm2⟩ := owns_block HO.out (by have := HPL.out; omega)
          subst hvb
          obtain ⟨L, hL⟩ : ∃ L, P.length = L := ⟨_, rfl⟩
          rw [hL]
          have HLL := Lib.hid hL; clear hL
          have HRP : Hid (Row wr .u8 (.slice (some ⟨gb, 0, none⟩) L capb) P) := Lib.hid (by have h := row_of HO.out (by have := HPL.out; omega); rw [HLL.out] at h; exact h)
          go_wp2_with (at_builtin; go_must (refine wpList_app _ rfl _ _ 79 rfl wr.heap.size 95 (.int .u32 0) 4 Tryz.underlying79 info_u32 rfl .u32 _ [] rfl (owns_empty wr wr.heap.size 95 .u32 (Nat.le_refl _)) fv shaH rfl ((HWK.out.alloc _).reads HF.out) (by decide) ?c1 ?c3 ?_))
          case c1 => (try simp); decide
          case c3 => simp
          intro v10 w10 ho10 hg10
          have hb10 : Below wr.heap.size wr w10 := ((Below.refl _ _).alloc (Nat.le_refl _) _).grown hg10 (by simp) (fun j hj => by simp [Value.ownBlock] at hj; omega)
          have HW10 := Lib.hid (HWK.out.more hb10)
          have HP10 := Lib.hid (HRP.out.below hb10)
          have HS10 := Lib.hid (row_of ho10 (by decide))
          clear ho10 hg10 hb10 HO HRP HWK HF HW1 HO1 HW2 HO2 HR HKK HLEN
          go_wp2
          have hw10s : w.heap.size ≤ w10.heap.size := HW10.out.below.size
          obtain ⟨gb', capb', heb, hgbl, _, _, hpc⟩ := HP10.out.ex
          simp only [Value.slice.injEq, Option.some.injEq, Addr.mk.injEq] at heb
          obtain ⟨⟨rfl, _, _⟩, heb2, _⟩ := heb
          rw [← heb2] at hpc
          have hL64 : L % 64 = 0 := by have := HP.out; rw [HLL.out] at this; exact this
          have hL2 : L ≤ 200000 := by have := HPL.out.1; rw [HLL.out] at this; exact this
          have hLd : P.length / 64 = L / 64 := by rw [HLL.out]
          rw [hLd] at HSH
          refine blocks_loop _ _ _ _ _ _ _ _ _ _ _ _ _ _ _ _ _ _ _ _ _ _ _ _ _ _ _ _ _ _ _ _ _ _ _ _ _ _ _ _ _ _ _ _ _ _ _ _ _ _ _ _ _ _ _ _ _ _ _ _ _ _ _ _ _ _ _ _ _ _ _ _ _ _ _ _ _ _ _ _ _ _ _ _ _ _ _ _ _ _ _ _ _ _ _ _ _ _ _ _ _ _ _ _ _ _ _ _ _ _ _ _ _ _ _ _ _ _ _ _ _ _ _ _ _ _ _ _ _ _ _ _ _ _ _ _ _ _ _ _ _ _ _ _ _ _ _ _ _ _ _ _ _ _ _ _ _ _ _ _ _ _ _ _ _ _ _ _ _ _ _ _ _ _ _ _ _ _ _ _ _ _ _ _ _ _ _ _ _ _ _ _ _ _ _ _ _ _ _ _ _ _ _ _ _ _ _ _ _ _ _ _ _ _ _ _ _ _ _ _ _ _ _ _ _ _ _ _ _ _ _ _ _ _ _ _ _ _ _ _ _ _ _ _ _ _ _ _ _ _ _ _ _ _ _ _ _ _ _ _ _ _ _ _ _ _ _ _ _ _ _ _ _ _ _ _ _ _ _ _ _ _ _ _ _ _ _ _ _ _ _ _ _ _ _ _ _ _ _ _  bk ok _ gb L _ w10.heap.size _ P w10 hL64 hL2 hgbl (Nat.lt_of_lt_of_le hbk hw10s) (Nat.le_refl _) (fun i hi => (HW10.out.below.cell (p := ⟨bk, ok + i, none⟩) hbk).trans (HKC.out i hi)) hpc HPB.out HS10.out _ ?_
          intro y0 y1 y2 y3 y4 y5 y6 y7 y8 y9 y10 y11 y12 y13 y14 y15 y16 y17 y18 y19 y20 y21 y22 y23 y24 y25 y26 y27 y28 y29 y30 y31 y32 y33 y34 y35 y36 y37 y38 y39 y40 y41 y42 y43 y44 y45 y46 y47 y48 y49 y50 y51 y52 y53 y54 y55 y56 y57 y58 y59 y60 y61 y62 y63 y64 y65 y66 y67 y68 y69 y70 y71 y72 y73 y74 y75 y76 y77 y78 y79 y80 y81 y82 y83 y84 y85 y86 y87 y88 y89 y90 y91 y92 y93 y94 y95 y96 y97 y98 y99 y100 y101 y102 y103 y104 y105 y106 y107 y108 y109 y110 y111 y112 y113 y114 y115 y116 y117 y118 y119 y120 y121 y122 y123 y124 y125 y126 y127 y128 y129 y130 y131 y132 y133 y134 y135 y136 y137 y138 y139 y140 y141 y142 y143 y144 y145 y146 y147 y148 y149 y150 y151 y152 y153 y154 y155 y156 y157 y158 y159 y160 y161 y162 y163 y164 y165 y166 y167 y168 y169 y170 y171 y172 y173 y174 y175 y176 y177 y178 y179 y180 y181 y182 y183 y184 y185 y186 y187 y188 y189 y190 y191 y192 y193 y194 y195 y196 y197 y198 y199 y200 y201 y202 y203 y204 y205 y206 y207 y208 y209 y210 y211 y212 y213 y214 y215 y216 y217 y218 y219 y220 y221 y222 y223 y224 y225 y226 y227 y228 y229 y230 y231 y232 y233 y234 y235 y236 s1 w11 hrow hb11
          have HW11 := Lib.hid (HW10.out.more hb11)
          have hS8 : (blocks shaK P shaH (L / 64)).length = 8 := blocks_length _ _ rfl _
          have hSlt : ∀ y ∈ blocks shaK P shaH (L / 64), y < 4294967296 := blocks_lt _ _ (by decide) _
          obtain ⟨gs, caps, rfl, hgs, _, _, hsc⟩ := hrow.ex
          rw [hS8] at hsc ⊢
          generalize blocks shaK P shaH (L / 64) = S at hS8 hSlt hsc HSH
          clear hrow hb11 hpc
          have HSC := Lib.hid hsc
          have HSLT := Lib.hid hSlt
          clear hsc hSlt
          have hz32 : (Tryz.prog.info? 37).map (·.size) = some zeros32.size := by kernel_rfl
          have hz1 : zeros32.all (·.oneCell') = true := by kernel_rfl
          go_wp2_with ((with_reducible show wpList _ _ _ (Oper.mk none (Op.store _ (Operand.tmp 28) (Operand.tmp 284)) _ _ _ _ :: _) _ _); refine wpList_store_row rfl 37 (.tmp 28) (.tmp 284) rfl w11.heap.size zeros32 rfl rfl _ zeros32 (heap_alloc_new w11 _) hz32 rfl hz1 ?_)
          have hbz : Below w11.heap.size w11 ((w11.alloc (.cells #[.int .u8 0, .int .u8 0, .int .u8 0, .int .u8 0, .int .u8 0, .int .u8 0, .int .u8 0, .int .u8 0, .int .u8 0, .int .u8 0, .int .u8 0, .int .u8 0, .int .u8 0, .int .u8 0, .int .u8 0, .int .u8 0, .int .u8 0, .int .u8 0, .int .u8 0, .int .u8 0, .int .u8 0, .int .u8 0, .int .u8 0, .int .u8 0, .int .u8 0, .int .u8 0, .int .u8 0, .int .u8 0, .int .u8 0, .int .u8 0, .int .u8 0, .int .u8 0] 37)).setRow w11.heap.size zeros32) := ((Below.refl w11.heap.size w11).alloc (Nat.le_refl _) _).trans ⟨rfl, rfl, rfl, by simp [World.setRow], fun k hk => setRow_other _ _ k _ (by omega)⟩
          have hgz : ((w11.alloc (.cells #[.int .u8 0, .int .u8 0, .int .u8 0, .int .u8 0, .int .u8 0, .int .u8 0, .int .u8 0, .int .u8 0, .int .u8 0, .int .u8 0, .int .u8 0, .int .u8 0, .int .u8 0, .int .u8 0, .int .u8 0, .int .u8 0, .int .u8 0, .int .u8 0, .int .u8 0, .int .u8 0, .int .u8 0, .int .u8 0, .int .u8 0, .int .u8 0, .int .u8 0, .int .u8 0, .int .u8 0, .int .u8 0, .int .u8 0, .int .u8 0, .int .u8 0, .int .u8 0] 37)).setRow w11.heap.size zeros32).heap[w11.heap.size]? = some (.cells zeros32 37 (0, 0)) := setRow_heap _ _ _ _ _ _ (heap_alloc_new w11 _)
          generalize hwz : (w11.alloc (.cells #[.int .u8 0, .int .u8 0, .int .u8 0, .int .u8 0, .int .u8 0, .int .u8 0, .int .u8 0, .int .u8 0, .int .u8 0, .int .u8 0, .int .u8 0, .int .u8 0, .int .u8 0, .int .u8 0, .int .u8 0, .int .u8 0, .int .u8 0, .int .u8 0, .int .u8 0, .int .u8 0, .int .u8 0, .int .u8 0, .int .u8 0, .int .u8 0, .int .u8 0, .int .u8 0, .int .u8 0, .int .u8 0, .int .u8 0, .int .u8 0, .int .u8 0, .int .u8 0] 37)).setRow w11.heap.size zeros32 = wz at hbz hgz ⊢
          clear hwz
          go_wp2
          refine digest_loop _ _ _ _ _ _ _ _ _ _ _ _ _ _ _ _ _ _ _ _ _ _ _ _ _ _ _ _ _ _ _ _ _ _ _ _ _ _ _ _ _ _ _ _ _ _ _ _ _ _ _ _ _ _ _ _ _ _ _ _ _ _ _ _ _ _ _ _ _ _ _ _ _ _ _ _ _ _ _ _ _ _ _ _ _ _ _ _ _ _ _ _ _ _ _ _ _ _ _ _ _ _ _ _ _ _ _ _ _ _ _ _ _ _ _ _ _ _ _ _ _ _ _ _ _ _ _ _ _ _ _ _ _ _ _ _ _ _ _ _ _ _ _ _ _ _ _ _ _ _ _ _ _ _ _ _ _ _ _ _ _ _ _ _ _ _ _ _ _ _ _ _ _ _ _ _ _ _ _ _ _ _ _ _ _ _ _ _ _ _ _ _ _ _ _ _ _ _ _ _ _ _ _ _ _ _ _ _ _ _ _ _ _ _ _ _ _ _ _ _ _ _ _ _ _ _ _ _ _ _ _ _ _ _ _ _ _ _ _ _ _ _ _ _ _ _ _ _ _ _ _ _ _ _ _ _ _ _ _ _ _ _ _ _ _ _ _ _ _ _ _ _ _ _ _ _ _ _ _ _ _ _ _ _ _ _ _ _ _ _ _ _ _ _ _ _ _ _ _ _ _  gs caps w11.heap.size S _ (Nat.ne_of_lt hgs) HSLT.out (fun i hi => (hbz.cell (p := ⟨gs, i, none⟩) hgs).trans (HSC.out i hi)) (by rw [dig_zero]; exact hgz) _ ?_
          intro x0 x1 x2 x3 x4 x5 x6 x7 x8 x9 x10 x11 x12 x13 x14 x15 x16 x17 w12 hg12 hgr12
          rw [dig_all, ← HSH.out] at hg12
          have HW12 : Hid (Wk w w12) := Lib.hid ((HW11.out.more hbz).grown hgr12 (fun j hj => by have := HW11.out.size; simp at hj; omega))
          have HG12 := Lib.hid hg12
          clear hg12 hgr12
          have hDs : (Tryz.prog.info? 37).map (·.size) = some (vals .u8 (shaOf shaK shaH l)).toArray.size := by
            rw [show (vals .u8 (shaOf shaK shaH l)).toArray.size = 32 from by rw [List.size_toArray, vals_length]; exact sha_length _ _ _]
            kernel_rfl
          have hD1 : (vals .u8 (shaOf shaK shaH l)).toArray.all (·.oneCell') = true := by
            rw [Array.all_eq_true_iff_forall_mem]
            intro u hu
            exact vals_oneCell _ _ u (by simpa using hu)
          have hDz : zeros32.size = (vals .u8 (shaOf shaK shaH l)).toArray.size := by
            rw [show (vals .u8 (shaOf shaK shaH l)).toArray.size = 32 from by rw [List.size_toArray, vals_length]; exact sha_length _ _ _]
            exact Array.size_replicate
          generalize hDe : (vals .u8 (shaOf shaK shaH l)).toArray = D at hDs hD1 hDz HG12
          have HDE := Lib.hid hDe; clear hDe
          go_wp2_with (first
            | ((with_reducible show wpList _ _ _ (Oper.mk (some 303) _ _ _ _ _ :: _) _ _); refine wpList_load_row rfl 37 (.tmp 28) rfl w11.heap.size rfl _ D _ _ HG12.out Tryz.underlying37 rfl hDs ?_)
            | ((with_reducible show wpList _ _ _ (Oper.mk none _ _ _ _ _ :: _) _ _); refine wpList_store_row rfl 37 (.tmp 6) (.tmp 303) rfl w.heap.size D rfl rfl _ zeros32 HW12.out.res hDs hDz hD1 ?_))
          refine bodyPost_ret (results_cell_row rfl _ _ w.heap.size _ D _ _ rfl (setRow_heap _ _ _ _ _ _ HW12.out.res) Tryz.underlying37 rfl hDs) rfl ?_
          exact ⟨by rw [HDE.out], HW12.out.below.trans ⟨rfl, rfl, rfl, by simp [World.setRow], fun k hk => setRow_other _ _ k _ (by omega)⟩⟩
        | succ m =>
          have hmi : (((m + 1 : Nat) : Int) - 1) = (m : Int) := by omega
          rw [hmi]
          have hm7 : m ≤ 7 := by omega
          have HB : Hid ((l.length : Int) * 8 / 2 ^ (8 * m) % 256 = ((8 * l.length / 2 ^ (8 * m) % 256 : Nat) : Int)) := Lib.hid (by
            rw [show (l.length : Int) * 8 = ((8 * l.length : Nat) : Int) from by omega, Int.natCast_emod, Int.natCast_ediv, Int.natCast_pow]
            rfl)
          have HE : Hid ((eight (8 * l.length)).take (8 - m) = (eight (8 * l.length)).take (8 - (m + 1)) ++ [8 * l.length / 2 ^ (8 * m) % 256]) := Lib.hid (eight_take _ hm7)
          have hlen8 : ((eight (8 * l.length)).take (8 - (m + 1))).length ≤ 8 := by rw [List.length_take]; exact Nat.le_trans (Nat.min_le_right _ _) (Nat.le_refl _)
          generalize (eight (8 * l.length)).take (8 - (m + 1)) = T at HO HE hlen8
          generalize 8 * l.length / 2 ^ (8 * m) % 256 = y at HB HE
          go_wp2_with (at_builtin; go_must (refine wpList_app _ rfl _ _ 61 rfl (w.heap.size + 1) 5 (.int .u8 0) 1 Tryz.underlying61 Tryz.info5 rfl .u8 _ (K ++ T) rfl (HO.out.alloc _) _ [y] rfl ?r (by decide) ?c1 ?c3 ?_))
          case r => rw [HB.out]; exact reads_new _ _ _ y
          case c1 => rw [List.length_append, HLEN.out]; (try simp); omega
          case c3 => have := HWK.out.size; simp; omega
          intro v9 w9 ho9 hg9
          have HW9 := Lib.hid ((HWK.out.alloc (.cells #[.int .u8 ((l.length : Int) * 8 / 2 ^ (8 * m) % 256)] 5)).grown hg9 (fun j hj => (HO.out.lt j hj).1))
          have HO9 := Lib.hid ho9
          clear ho9 hg9
          go_wp2
          go_roundw
          case rel => exact ⟨m, by omega, by first | rfl | go_num, by rw [HE.out]; exact HO9.out, HW9.out⟩
          case measure => simp [intOf]

end Go.Proofs.YtgnalcobcdgnkaaGreatDoor
