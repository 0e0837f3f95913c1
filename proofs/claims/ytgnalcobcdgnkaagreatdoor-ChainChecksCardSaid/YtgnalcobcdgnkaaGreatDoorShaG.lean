/- The blocks of a text (the reference package's Sum): the loop by itself. -/
import Derived.Test.YtgnalcobcdgnkaaGreatDoorShaF
import Derived.StillTailTactics
namespace Go.Proofs.YtgnalcobcdgnkaaGreatDoor
open Go.RowKit

noncomputable def blocksBody : Code := ((Tryz.f33.body.map loopsIn).getD []).getD 2 .skip

/-- A row at the head of a block: eight words, say. -/
structure Row (w : World) (k : IntKind) (v : Value) (l : List Nat) : Prop where
  ex : ∃ g cap, v = .slice (some ⟨g, 0, none⟩) l.length cap ∧ g < w.heap.size ∧ l.length ≤ cap ∧ cap ≤ maxLen ∧ ∀ i, i < l.length → w.cell? ⟨g, i, none⟩ = some (.int k ((l.getD i 0 : Nat) : Int))

theorem Row.below {w w' : World} {k : IntKind} {v : Value} {l : List Nat} (h : Row w k v l) (hb : Below w.heap.size w w') : Row w' k v l := by
  obtain ⟨g, cap, h1, h2, h3, h4, h5⟩ := h.ex
  exact ⟨⟨g, cap, h1, Nat.lt_of_lt_of_le h2 hb.size, h3, h4, fun i hi => (hb.cell (p := ⟨g, i, none⟩) h2).trans (h5 i hi)⟩⟩

theorem row_of {w : World} {base : Nat} {e : TypeId} {k : IntKind} {v : Value} {l : List Nat} (h : Owns w base e k v l) (h0 : l.length ≠ 0) : Row w k v l := by
  have h9 := h
  unfold Owns at h9
  rcases h.2 with ⟨_, h2⟩ | ⟨g, cap, cur, rfl, h2, hg, h3, h4, _⟩
  · exact absurd h2 h0
  · exact ⟨⟨g, cap, rfl, (Array.getElem?_eq_some_iff.1 hg).1, h3, h4, fun i hi => (World.ownsRow.cellAt h9 i (by omega)).trans (vals_get k l i hi)⟩⟩

/-- A literal of eight words. -/
theorem row_lit8 (w : World) (e : TypeId) (y0 y1 y2 y3 y4 y5 y6 y7 : Nat) (x0 x1 x2 x3 x4 x5 x6 x7 : Int)
    (p0 : x0 = y0) (p1 : x1 = y1) (p2 : x2 = y2) (p3 : x3 = y3) (p4 : x4 = y4) (p5 : x5 = y5) (p6 : x6 = y6) (p7 : x7 = y7) :
    Row (w.alloc (.cells #[.int .u32 x0, .int .u32 x1, .int .u32 x2, .int .u32 x3, .int .u32 x4, .int .u32 x5, .int .u32 x6, .int .u32 x7] e)) .u32 (.slice (some ⟨w.heap.size, 0, none⟩) 8 8) [y0, y1, y2, y3, y4, y5, y6, y7] := by
  subst p0 p1 p2 p3 p4 p5 p6 p7
  refine ⟨⟨_, _, rfl, by simp, by simp, by simp [maxLen], fun i hi => ?_⟩⟩
  rw [World.cell?_alloc_mark]
  match i, hi with
  | 0, _ => rfl
  | 1, _ => rfl
  | 2, _ => rfl
  | 3, _ => rfl
  | 4, _ => rfl
  | 5, _ => rfl
  | 6, _ => rfl
  | 7, _ => rfl
  | i + 8, hi => exact absurd hi (by simp only [List.length_cons, List.length_nil]; omega)

set_option maxHeartbeats 4000000 in
set_option maxRecDepth 1000000 in
theorem blocks_loop (c0 c2 c3 c4 c5 c6 c8 c9 c28 c29 c30 c31 c32 c33 c34 c35 c36 c37 c38 c39 c40 c41 c42 c43 c44 c45 c46 c47 c48 c49 c50 c51 c52 c53 c54 c55 c56 c57 c58 c59 c60 c61 c62 c284 c285 c286 c287 c288 c289 c290 c291 c292 c293 c294 c295 c296 c297 c298 c299 c300 c301 c302 c303 : Value) (u12 u13 u14 u15 u16 u17 u18 u19 u20 u21 u22 u23 u24 u25 u26 u27 u63 u64 u65 u66 u67 u68 u69 u70 u71 u72 u73 u74 u75 u76 u77 u78 u79 u80 u81 u82 u83 u84 u85 u86 u87 u88 u89 u90 u91 u92 u93 u94 u95 u96 u97 u98 u99 u100 u101 u102 u103 u104 u105 u106 u107 u108 u109 u110 u111 u112 u113 u114 u115 u116 u117 u118 u119 u120 u121 u122 u123 u124 u125 u126 u127 u128 u129 u130 u131 u132 u133 u134 u135 u136 u137 u138 u139 u140 u141 u142 u143 u144 u145 u146 u147 u148 u149 u150 u151 u152 u153 u154 u155 u156 u157 u158 u159 u160 u161 u162 u163 u164 u165 u166 u167 u168 u169 u170 u171 u172 u173 u174 u175 u176 u177 u178 u179 u180 u181 u182 u183 u184 u185 u186 u187 u188 u189 u190 u191 u192 u193 u194 u195 u196 u197 u198 u199 u200 u201 u202 u203 u204 u205 u206 u207 u208 u209 u210 u211 u212 u213 u214 u215 u216 u217 u218 u219 u220 u221 u222 u223 u224 u225 u226 u227 u228 u229 u230 u231 u232 u233 u234 u235 u236 u237 u238 u239 u240 u241 u242 u243 u244 u245 u246 u247 u248 u249 u250 u251 u252 u253 u254 u255 u256 u257 u258 u259 u260 u261 u262 u263 u264 u265 u266 u267 u268 u269 u270 u271 u272 u273 u274 u275 u276 u277 u278 u279 u280 u281 u282 u283 : Value) (bk ok capk gb L capb base : Nat) (s0 : Value) (P : List Nat) (w : World) (hL64 : L % 64 = 0) (hL : L ≤ 200000) (hgb : gb < base) (hbk : bk < base) (hbase : base ≤ w.heap.size)
    (hk : ∀ i, i < 64 → w.cell? ⟨bk, ok + i, none⟩ = some (.int .u32 ((shaK.getD i 0 : Nat) : Int))) (hp : ∀ i, i < L → w.cell? ⟨gb, i, none⟩ = some (.int .u8 ((P.getD i 0 : Nat) : Int))) (hP : ∀ y ∈ P, y < 256) (hs0 : Row w .u32 s0 shaH)
    (Q : Exit → Act → World → Prop) (hexit : ∀ (u12 u13 u14 u15 u16 u17 u18 u19 u20 u21 u22 u23 u24 u25 u26 u27 u63 u64 u65 u66 u67 u68 u69 u70 u71 u72 u73 u74 u75 u76 u77 u78 u79 u80 u81 u82 u83 u84 u85 u86 u87 u88 u89 u90 u91 u92 u93 u94 u95 u96 u97 u98 u99 u100 u101 u102 u103 u104 u105 u106 u107 u108 u109 u110 u111 u112 u113 u114 u115 u116 u117 u118 u119 u120 u121 u122 u123 u124 u125 u126 u127 u128 u129 u130 u131 u132 u133 u134 u135 u136 u137 u138 u139 u140 u141 u142 u143 u144 u145 u146 u147 u148 u149 u150 u151 u152 u153 u154 u155 u156 u157 u158 u159 u160 u161 u162 u163 u164 u165 u166 u167 u168 u169 u170 u171 u172 u173 u174 u175 u176 u177 u178 u179 u180 u181 u182 u183 u184 u185 u186 u187 u188 u189 u190 u191 u192 u193 u194 u195 u196 u197 u198 u199 u200 u201 u202 u203 u204 u205 u206 u207 u208 u209 u210 u211 u212 u213 u214 u215 u216 u217 u218 u219 u220 u221 u222 u223 u224 u225 u226 u227 u228 u229 u230 u231 u232 u233 u234 u235 u236 u237 u238 u239 u240 u241 u242 u243 u244 u245 u246 u247 u248 u249 u250 u251 u252 u253 u254 u255 u256 u257 u258 u259 u260 u261 u262 u263 u264 u265 u266 u267 u268 u269 u270 u271 u272 u273 u274 u275 u276 u277 u278 u279 u280 u281 u282 u283 : Value) (s1 : Value) (w1 : World), Row w1 .u32 s1 (blocks shaK P shaH (L / 64)) → Below base w w1 → Q (.exit 4) ⟨(List.toArray (c0 :: (.slice (some ⟨bk, ok, none⟩) 64 capk) :: c2 :: c3 :: c4 :: c5 :: c6 :: (.slice (some ⟨gb, 0, none⟩) L capb) :: c8 :: c9 :: s1 :: (.int .i64 (L : Int)) :: u12 :: u13 :: u14 :: u15 :: u16 :: u17 :: u18 :: u19 :: u20 :: u21 :: u22 :: u23 :: u24 :: u25 :: u26 :: u27 :: c28 :: c29 :: c30 :: c31 :: c32 :: c33 :: c34 :: c35 :: c36 :: c37 :: c38 :: c39 :: c40 :: c41 :: c42 :: c43 :: c44 :: c45 :: c46 :: c47 :: c48 :: c49 :: c50 :: c51 :: c52 :: c53 :: c54 :: c55 :: c56 :: c57 :: c58 :: c59 :: c60 :: c61 :: c62 :: u63 :: u64 :: u65 :: u66 :: u67 :: u68 :: u69 :: u70 :: u71 :: u72 :: u73 :: u74 :: u75 :: u76 :: u77 :: u78 :: u79 :: u80 :: u81 :: u82 :: u83 :: u84 :: u85 :: u86 :: u87 :: u88 :: u89 :: u90 :: u91 :: u92 :: u93 :: u94 :: u95 :: u96 :: u97 :: u98 :: u99 :: u100 :: u101 :: u102 :: u103 :: u104 :: u105 :: u106 :: u107 :: u108 :: u109 :: u110 :: u111 :: u112 :: u113 :: u114 :: u115 :: u116 :: u117 :: u118 :: u119 :: u120 :: u121 :: u122 :: u123 :: u124 :: u125 :: u126 :: u127 :: u128 :: u129 :: u130 :: u131 :: u132 :: u133 :: u134 :: u135 :: u136 :: u137 :: u138 :: u139 :: u140 :: u141 :: u142 :: u143 :: u144 :: u145 :: u146 :: u147 :: u148 :: u149 :: u150 :: u151 :: u152 :: u153 :: u154 :: u155 :: u156 :: u157 :: u158 :: u159 :: u160 :: u161 :: u162 :: u163 :: u164 :: u165 :: u166 :: u167 :: u168 :: u169 :: u170 :: u171 :: u172 :: u173 :: u174 :: u175 :: u176 :: u177 :: u178 :: u179 :: u180 :: u181 :: u182 :: u183 :: u184 :: u185 :: u186 :: u187 :: u188 :: u189 :: u190 :: u191 :: u192 :: u193 :: u194 :: u195 :: u196 :: u197 :: u198 :: u199 :: u200 :: u201 :: u202 :: u203 :: u204 :: u205 :: u206 :: u207 :: u208 :: u209 :: u210 :: u211 :: u212 :: u213 :: u214 :: u215 :: u216 :: u217 :: u218 :: u219 :: u220 :: u221 :: u222 :: u223 :: u224 :: u225 :: u226 :: u227 :: u228 :: u229 :: u230 :: u231 :: u232 :: u233 :: u234 :: u235 :: u236 :: u237 :: u238 :: u239 :: u240 :: u241 :: u242 :: u243 :: u244 :: u245 :: u246 :: u247 :: u248 :: u249 :: u250 :: u251 :: u252 :: u253 :: u254 :: u255 :: u256 :: u257 :: u258 :: u259 :: u260 :: u261 :: u262 :: u263 :: u264 :: u265 :: u266 :: u267 :: u268 :: u269 :: u270 :: u271 :: u272 :: u273 :: u274 :: u275 :: u276 :: u277 :: u278 :: u279 :: u280 :: u281 :: u282 :: u283 :: c284 :: c285 :: c286 :: c287 :: c288 :: c289 :: c290 :: c291 :: c292 :: c293 :: c294 :: c295 :: c296 :: c297 :: c298 :: c299 :: c300 :: c301 :: c302 :: c303 :: [])), []⟩ w1) :
    Code.wp Tryz.prog (Code.loop blocksBody) Q ⟨(List.toArray (c0 :: (.slice (some ⟨bk, ok, none⟩) 64 capk) :: c2 :: c3 :: c4 :: c5 :: c6 :: (.slice (some ⟨gb, 0, none⟩) L capb) :: c8 :: c9 :: s0 :: (.int .i64 0) :: u12 :: u13 :: u14 :: u15 :: u16 :: u17 :: u18 :: u19 :: u20 :: u21 :: u22 :: u23 :: u24 :: u25 :: u26 :: u27 :: c28 :: c29 :: c30 :: c31 :: c32 :: c33 :: c34 :: c35 :: c36 :: c37 :: c38 :: c39 :: c40 :: c41 :: c42 :: c43 :: c44 :: c45 :: c46 :: c47 :: c48 :: c49 :: c50 :: c51 :: c52 :: c53 :: c54 :: c55 :: c56 :: c57 :: c58 :: c59 :: c60 :: c61 :: c62 :: u63 :: u64 :: u65 :: u66 :: u67 :: u68 :: u69 :: u70 :: u71 :: u72 :: u73 :: u74 :: u75 :: u76 :: u77 :: u78 :: u79 :: u80 :: u81 :: u82 :: u83 :: u84 :: u85 :: u86 :: u87 :: u88 :: u89 :: u90 :: u91 :: u92 :: u93 :: u94 :: u95 :: u96 :: u97 :: u98 :: u99 :: u100 :: u101 :: u102 :: u103 :: u104 :: u105 :: u106 :: u107 :: u108 :: u109 :: u110 :: u111 :: u112 :: u113 :: u114 :: u115 :: u116 :: u117 :: u118 :: u119 :: u120 :: u121 :: u122 :: u123 :: u124 :: u125 :: u126 :: u127 :: u128 :: u129 :: u130 :: u131 :: u132 :: u133 :: u134 :: u135 :: u136 :: u137 :: u138 :: u139 :: u140 :: u141 :: u142 :: u143 :: u144 :: u145 :: u146 :: u147 :: u148 :: u149 :: u150 :: u151 :: u152 :: u153 :: u154 :: u155 :: u156 :: u157 :: u158 :: u159 :: u160 :: u161 :: u162 :: u163 :: u164 :: u165 :: u166 :: u167 :: u168 :: u169 :: u170 :: u171 :: u172 :: u173 :: u174 :: u175 :: u176 :: u177 :: u178 :: u179 :: u180 :: u181 :: u182 :: u183 :: u184 :: u185 :: u186 :: u187 :: u188 :: u189 :: u190 :: u191 :: u192 :: u193 :: u194 :: u195 :: u196 :: u197 :: u198 :: u199 :: u200 :: u201 :: u202 :: u203 :: u204 :: u205 :: u206 :: u207 :: u208 :: u209 :: u210 :: u211 :: u212 :: u213 :: u214 :: u215 :: u216 :: u217 :: u218 :: u219 :: u220 :: u221 :: u222 :: u223 :: u224 :: u225 :: u226 :: u227 :: u228 :: u229 :: u230 :: u231 :: u232 :: u233 :: u234 :: u235 :: u236 :: u237 :: u238 :: u239 :: u240 :: u241 :: u242 :: u243 :: u244 :: u245 :: u246 :: u247 :: u248 :: u249 :: u250 :: u251 :: u252 :: u253 :: u254 :: u255 :: u256 :: u257 :: u258 :: u259 :: u260 :: u261 :: u262 :: u263 :: u264 :: u265 :: u266 :: u267 :: u268 :: u269 :: u270 :: u271 :: u272 :: u273 :: u274 :: u275 :: u276 :: u277 :: u278 :: u279 :: u280 :: u281 :: u282 :: u283 :: c284 :: c285 :: c286 :: c287 :: c288 :: c289 :: c290 :: c291 :: c292 :: c293 :: c294 :: c295 :: c296 :: c297 :: c298 :: c299 :: c300 :: c301 :: c302 :: c303 :: [])), []⟩ w := by
  conv => arg 2; arg 1; whnf
  have HX := Lib.hid hexit
  have HK := Lib.hid hk
  have HPC := Lib.hid hp
  clear hexit hk hp
  go_loopw [10, 11] (fun sv av wr => ∃ (n q : Nat), q = 64 * n ∧ q ≤ L ∧ av = .int .i64 (q : Int) ∧ Row wr .u32 sv (blocks shaK P shaH n) ∧ Below base w wr)
    (fun _ av _ => L - (intOf av).toNat)
  case atStart => exact ⟨0, 0, rfl, Nat.zero_le _, rfl, hs0, Below.refl _ _⟩
  case round =>
    obtain ⟨n, q, hq, hqL, rfl, hs, hd⟩ := hrel
    have HQ := Lib.hid hq
    have HD := Lib.hid hd
    have hS8 : (blocks shaK P shaH n).length = 8 := blocks_length _ _ rfl _
    by_cases hlt : (q : Int) < L
    · have hSlt : ∀ y ∈ blocks shaK P shaH n, y < 4294967296 := blocks_lt _ _ (by decide) _
      have HNX : Hid (addSt (blocks shaK P shaH n) (rnds shaK (words P q 64) (stOf (blocks shaK P shaH n)) 64) = blocks shaK P shaH (n + 1)) := Lib.hid (by rw [hq]; rfl)
      obtain ⟨gs, caps, rfl, hgs, _, _, hsc⟩ := hs.ex
      rw [hS8] at hsc ⊢
      have hqq : q + 64 ≤ L := by omega
      generalize blocks shaK P shaH n = S at hS8 hSlt HNX hsc
      have HSC := Lib.hid hsc
      have HSLT := Lib.hid hSlt
      clear hsc hSlt hs hd hq
      go_wp2_with fail
      refine words_loop _ _ _ _ _ _ _ _ _ _ _ _ _ _ _ _ _ _ _ _ _ _ _ _ _ _ _ _ _ _ _ _ _ _ _ _ _ _ _ _ _ _ _ _ _ _ _ _ _ _ _ _ _ _ _ _ _ _ _ _ _ _ _ _ _ _ _ _ _ _ _ _ _ _ _ _ _ _ _ _ _ _ _ _ _ _ _ _ _ _ _ _ _ _ _ _ _ _ _ _ _ _ _ _ _ _ _ _ _ _ _ _ _ _ _ _ _ _ _ _ _ _ _ _ _ _ _ _ _ _ _ _ _ _ _ _ _ _ _ _ _ _ _ _ _ _ _ _ _ _ _ _ _ _ _ _ _ _ _ _ _ _ _ _ _ _ _ _ _ _ _ _ _ _ _ _ _ _ _ _ _ _ _ _ _ _ _ _ _ _ _ _ _ _ _ _ _ _ _ _ _ _ _ _ _ _ _ _ _ _ _ _ _ _ _ _ _ _ _ _ _ _ _ _ _ _ _ _ _ _ _ _ _ _ _ _ _ _ _ _ _ _ _ _ _ _ _ _ _ _ _ _ _ _ _ _ _ _ _ _ _ _ _ _ _ _ _ _ _ _ _ _ _ _ _ _ _ _ _ _ _ _ _ _ _ _ _ _ _ _ _ _ _ _ _ _ _ _ _ _  gb L capb q wr.heap.size _ P _ hqq hL (Nat.lt_of_lt_of_le hgb (Nat.le_trans hbase HD.out.size)) (by simp) ?hp4 hP ?ho4 _ ?_
      case hp4 =>
        intro i hi
        exact (((Below.refl wr.heap.size wr).alloc (Nat.le_refl _) _).cell (p := ⟨gb, i, none⟩) (Nat.lt_of_lt_of_le hgb (Nat.le_trans hbase HD.out.size))).trans ((HD.out.cell (p := ⟨gb, i, none⟩) hgb).trans (HPC.out i hi))
      case ho4 => exact owns_empty _ _ _ _ (Nat.le_refl _)
      intro z0 z1 z2 z3 z4 z5 z6 z7 z8 z9 z10 z11 z12 z13 z14 z15 z16 z17 z18 z19 z20 z21 z22 z23 z24 z25 z26 z27 z28 z29 z30 z31 z32 z33 z34 z35 z36 z37 z38 z39 z40 z41 z42 z43 z44 z45 z46 z47 z48 z49 z50 z51 z52 z53 z54 z55 z56 z57 z58 z59 z60 z61 z62 z63 z64 z65 z66 z67 z68 z69 z70 z71 z72 z73 z74 z75 z76 z77 z78 z79 z80 z81 z82 z83 z84 z85 z86 v4 w4 ho4 hd4
      have hb4 : Below wr.heap.size wr w4 := ((Below.refl wr.heap.size wr).alloc (Nat.le_refl _) _).trans (hd4.mono (by simp))
      have W64 : (words P q 64).length = 64 := words_length P q 64
      obtain ⟨gw, capw, rfl, hgw, _, _⟩ := owns_block ho4 (by rw [W64]; decide)
      have hwc : ∀ i, i < 64 → w4.cell? ⟨gw, i, none⟩ = some (.int .u32 (((words P q 64).getD i 0 : Nat) : Int)) := fun j hj => (World.ownsRow.cellAt (by have h := ho4; unfold Owns at h; exact h) j (by rw [W64]; omega)).trans (vals_get .u32 _ j (by rw [W64]; omega))
      rw [W64]
      have HWC := Lib.hid hwc
      have HB4 := Lib.hid hb4
      have hwlt := words_lt hP q 64
      have hwbase : base ≤ wr.heap.size := Nat.le_trans hbase HD.out.size
      have hkc : ∀ i, i < 64 → w4.cell? ⟨bk, ok + i, none⟩ = some (.int .u32 ((shaK.getD i 0 : Nat) : Int)) := fun i hi => (hb4.cell (p := ⟨bk, ok + i, none⟩) (Nat.lt_of_lt_of_le hbk hwbase)).trans ((HD.out.cell (p := ⟨bk, ok + i, none⟩) hbk).trans (HK.out i hi))
      have HKC := Lib.hid hkc
      have fs := fun i (hi : i < 8) => (hb4.cell (p := ⟨gs, i, none⟩) hgs).trans (HSC.out i hi)
      have FS := Lib.hid fs
      have f0 := fs 0 (by decide)
      have f1 := fs 1 (by decide)
      have f2 := fs 2 (by decide)
      have f3 := fs 3 (by decide)
      have f4 := fs 4 (by decide)
      have f5 := fs 5 (by decide)
      have f6 := fs 6 (by decide)
      have f7 := fs 7 (by decide)
      have hst := stOf_lt HSLT.out
      have hSTE : stOf S = ⟨S.getD 0 0, S.getD 1 0, S.getD 2 0, S.getD 3 0, S.getD 4 0, S.getD 5 0, S.getD 6 0, S.getD 7 0⟩ := rfl
      have HADD : Hid (∀ s : St, addSt S s = [(S.getD 0 0 + s.a) % 4294967296, (S.getD 1 0 + s.b) % 4294967296, (S.getD 2 0 + s.c) % 4294967296, (S.getD 3 0 + s.d) % 4294967296, (S.getD 4 0 + s.e) % 4294967296, (S.getD 5 0 + s.f) % 4294967296, (S.getD 6 0 + s.g) % 4294967296, (S.getD 7 0 + s.h) % 4294967296]) := Lib.hid (fun _ => rfl)
      rw [hSTE] at hst HNX
      have b0 := hst.a
      have b1 := hst.b
      have b2 := hst.c
      have b3 := hst.d
      have b4 := hst.e
      have b5 := hst.f
      have b6 := hst.g
      have b7 := hst.h
      dsimp only at b0 b1 b2 b3 b4 b5 b6 b7
      have HST := Lib.hid hst
      clear fs hSTE hst hd4 hb4 hwc hkc
      generalize S.getD 0 0 = x0 at f0 b0 HST HNX HADD
      generalize S.getD 1 0 = x1 at f1 b1 HST HNX HADD
      generalize S.getD 2 0 = x2 at f2 b2 HST HNX HADD
      generalize S.getD 3 0 = x3 at f3 b3 HST HNX HADD
      generalize S.getD 4 0 = x4 at f4 b4 HST HNX HADD
      generalize S.getD 5 0 = x5 at f5 b5 HST HNX HADD
      generalize S.getD 6 0 = x6 at f6 b6 HST HNX HADD
      generalize S.getD 7 0 = x7 at f7 b7 HST HNX HADD
      go_wp2_with fail
      go_quiet (fail)
      go_wp2_with fail
      refine rounds_loop _ _ _ _ _ _ _ _ _ _ _ _ _ _ _ _ _ _ _ _ _ _ _ _ _ _ _ _ _ _ _ _ _ _ _ _ _ _ _ _ _ _ _ _ _ _ _ _ _ _ _ _ _ _ _ _ _ _ _ _ _ _ _ _ _ _ _ _ _ _ _ _ _ _ _ _ _ _ _ _ _ _ _ _ _ _ _ _ _ _ _ _ _ _ _ _ _ _ _ _ _ _ _ _ _ _ _ _ _ _ _ _ _ _ _ _ _ _ _ _ _ _ _ _ _ _ _ _ _ _ _ _ _ _ _ _ _ _ _ _ _ _ _ _ _ _ _ _ _ _ _ _ _ _ _ _ _ _ _ _ _ _ _ _ _ _ _ _ _ _ _ _ _ _ _ _ _ _ _ _ _ _ _ _ _ _ _ _ _ _ _ _ _ _ _ _ _ _ _ _ _ _ _ _ _ _ _ _ _ _ _ _ _ _ _ _ _ _ _ _ _ _ _ _ _ _ _ _ _ _ _ _ _ _ _ _ _ _ _ _ _ _ _ _ _ _ _ _ _ _ _ _ _ _ _ _ _ _ _ _ _ _ _ _ _ _ _ _ _ _ _ _ _ _ _ _ _ _ _ _ _ _ _ _ _ _ _ _ _ _ _ _ _  bk ok capk gw capw (words P q 64) ⟨x0, x1, x2, x3, x4, x5, x6, x7⟩ HST.out (w4.drewN nq) HKC.out HWC.out hwlt _ ?_
      intro y0 y1 y2 y3 y4 y5 y6 y7 y8 y9 y10 y11 y12 y13 y14 y15 y16 y17 y18 y19 y20 y21 y22 y23 y24 y25 y26 y27 y28 y29 y30 y31 y32 y33 y34 y35 y36 y37 y38 y39 y40 y41 y42 y43 y44 y45 y46 y47 y48 y49 y50 y51 y52 y53 y54 y55 y56 y57 y58 y59 y60 y61 y62 y63 y64 y65 y66 d5 s5 hs5
      rw [← hs5] at HNX
      have hlt5 : StLt s5 := hs5 ▸ rnds_lt _ _ HST.out 64
      have k0 : ((w4.drewN nq).drewN d5).cell? ⟨gs, 0, none⟩ = _ := f0
      have k1 : ((w4.drewN nq).drewN d5).cell? ⟨gs, 1, none⟩ = _ := f1
      have k2 : ((w4.drewN nq).drewN d5).cell? ⟨gs, 2, none⟩ = _ := f2
      have k3 : ((w4.drewN nq).drewN d5).cell? ⟨gs, 3, none⟩ = _ := f3
      have k4 : ((w4.drewN nq).drewN d5).cell? ⟨gs, 4, none⟩ = _ := f4
      have k5 : ((w4.drewN nq).drewN d5).cell? ⟨gs, 5, none⟩ = _ := f5
      have k6 : ((w4.drewN nq).drewN d5).cell? ⟨gs, 6, none⟩ = _ := f6
      have k7 : ((w4.drewN nq).drewN d5).cell? ⟨gs, 7, none⟩ = _ := f7
      have HBW : Hid (Below wr.heap.size wr ((w4.drewN nq).drewN d5)) := Lib.hid ⟨HB4.out.os, HB4.out.tape, HB4.out.output, HB4.out.size, HB4.out.block⟩
      generalize ((w4.drewN nq).drewN d5) = w5 at k0 k1 k2 k3 k4 k5 k6 k7 HBW ⊢
      rw [HADD.out] at HNX
      obtain ⟨sa, sb, sc, sd, se, sf, sg, sh⟩ := s5
      obtain ⟨la, lb, lc, ld, le, lf, lg, lh⟩ := hlt5
      dsimp only at la lb lc ld le lf lg lh HNX ⊢
      clear hs5 f0 f1 f2 f3 f4 f5 f6 f7 ho4 HST HADD
      go_wp2_with fail
      go_still_tail 40, (by kernel_rfl)
      go_wp2
      go_roundw
      case rel =>
        refine ⟨n + 1, q + 64, by have := HQ.out; omega, hqq, by go_num, ?_, ?_⟩
        · rw [← HNX.out]
          exact row_lit8 w5.drew _ _ _ _ _ _ _ _ _ _ _ _ _ _ _ _ _ (by omega) (by omega) (by omega) (by omega) (by omega) (by omega) (by omega) (by omega)
        · exact (HD.out.trans (HBW.out.mono hwbase)).drew.alloc (by have := HBW.out.size; simp; omega) _
      case measure => simp [intOf]; omega
    · have hLn : q = L := by omega
      subst hLn
      have hn : q / 64 = n := by have := HQ.out; omega
      clear hq
      go_wp2
      exact HX.out _ _ _ _ _ _ _ _ _ _ _ _ _ _ _ _ _ _ _ _ _ _ _ _ _ _ _ _ _ _ _ _ _ _ _ _ _ _ _ _ _ _ _ _ _ _ _ _ _ _ _ _ _ _ _ _ _ _ _ _ _ _ _ _ _ _ _ _ _ _ _ _ _ _ _ _ _ _ _ _ _ _ _ _ _ _ _ _ _ _ _ _ _ _ _ _ _ _ _ _ _ _ _ _ _ _ _ _ _ _ _ _ _ _ _ _ _ _ _ _ _ _ _ _ _ _ _ _ _ _ _ _ _ _ _ _ _ _ _ _ _ _ _ _ _ _ _ _ _ _ _ _ _ _ _ _ _ _ _ _ _ _ _ _ _ _ _ _ _ _ _ _ _ _ _ _ _ _ _ _ _ _ _ _ _ _ _ _ _ _ _ _ _ _ _ _ _ _ _ _ _ _ _ _ _ _ _ _ _ _ _ _ _ _ _ _ _ _ _ _ _ _ _ _ _ _ _ _ _ _ _ _ _ _ _ _ _  _ _ (by rw [hn]; exact hs) hd

end Go.Proofs.YtgnalcobcdgnkaaGreatDoor
