/- The words of a block (the reference package's Sum): the loop by itself. -/
import Derived.Test.YtgnalcobcdgnkaaGreatDoorQp
import Derived.Test.YtgnalcobcdgnkaaGreatDoorStepA
import Derived.Deep.RegionHeld3
import Derived.StillTailTactics
namespace Go.Proofs.YtgnalcobcdgnkaaGreatDoor
open Go.RowKit

noncomputable def wordsBody : Code := ((Tryz.f33.body.map loopsIn).getD []).getD 3 .skip

/-- What is owned and not empty lies in a block. -/
theorem owns_block {w : World} {base : Nat} {e : TypeId} {k : IntKind} {v : Value} {l : List Nat} (h : Owns w base e k v l) (h0 : l.length ≠ 0) : ∃ g cap, v = .slice (some ⟨g, 0, none⟩) l.length cap ∧ base ≤ g ∧ l.length ≤ cap ∧ cap ≤ maxLen := by
  rcases h.2 with ⟨_, h2⟩ | ⟨g, cap, cur, h1, h2, _, h3, h4, _⟩
  · exact absurd h2 h0
  · exact ⟨g, cap, h1, h2, h3, h4⟩

theorem hr_one {w : World} {e : TypeId} {k : IntKind} {E : Int} {y : Nat} (h : E = (y : Int)) : (w.alloc (.cells #[.int k E] e)).cell? ⟨w.heap.size, 0, none⟩ = some (.int k (y : Int)) := by
  subst h
  exact cell_one w e k y

set_option maxHeartbeats 4000000 in
set_option maxRecDepth 1000000 in
theorem words_loop (c0 c1 c2 c3 c4 c5 c6 c8 c9 c10 c17 c18 c19 c20 c21 c22 c23 c24 c25 c26 c27 c28 c29 c30 c31 c32 c33 c34 c35 c36 c37 c38 c39 c40 c41 c42 c43 c44 c45 c46 c47 c48 c49 c50 c51 c52 c53 c54 c55 c56 c57 c58 c59 c60 c61 c62 c63 c64 c65 c66 c67 c68 c69 c154 c155 c156 c157 c158 c159 c160 c161 c162 c163 c164 c165 c166 c167 c168 c169 c170 c171 c172 c173 c174 c175 c176 c177 c178 c179 c180 c181 c182 c183 c184 c185 c186 c187 c188 c189 c190 c191 c192 c193 c194 c195 c196 c197 c198 c199 c200 c201 c202 c203 c204 c205 c206 c207 c208 c209 c210 c211 c212 c213 c214 c215 c216 c217 c218 c219 c220 c221 c222 c223 c224 c225 c226 c227 c228 c229 c230 c231 c232 c233 c234 c235 c236 c237 c238 c239 c240 c241 c242 c243 c244 c245 c246 c247 c248 c249 c250 c251 c252 c253 c254 c255 c256 c257 c258 c259 c260 c261 c262 c263 c264 c265 c266 c267 c268 c269 c270 c271 c272 c273 c274 c275 c276 c277 c278 c279 c280 c281 c282 c283 c284 c285 c286 c287 c288 c289 c290 c291 c292 c293 c294 c295 c296 c297 c298 c299 c300 c301 c302 c303 : Value) (u14 u15 u16 u70 u71 u72 u73 u74 u75 u76 u77 u78 u79 u80 u81 u82 u83 u84 u85 u86 u87 u88 u89 u90 u91 u92 u93 u94 u95 u96 u97 u98 u99 u100 u101 u102 u103 u104 u105 u106 u107 u108 u109 u110 u111 u112 u113 u114 u115 u116 u117 u118 u119 u120 u121 u122 u123 u124 u125 u126 u127 u128 u129 u130 u131 u132 u133 u134 u135 u136 u137 u138 u139 u140 u141 u142 u143 u144 u145 u146 u147 u148 u149 u150 u151 u152 u153 : Value) (gb L capb q base : Nat) (v0 : Value) (P : List Nat) (w : World) (hqq : q + 64 ≤ L) (hL : L ≤ 200000) (hgb : gb < base) (hbase : base ≤ w.heap.size)
    (hp : ∀ i, i < L → w.cell? ⟨gb, i, none⟩ = some (.int .u8 ((P.getD i 0 : Nat) : Int))) (hP : ∀ y ∈ P, y < 256) (ho0 : Owns w base 95 .u32 v0 [])
    (Q : Exit → Act → World → Prop) (hexit : ∀ (u14 u15 u16 u70 u71 u72 u73 u74 u75 u76 u77 u78 u79 u80 u81 u82 u83 u84 u85 u86 u87 u88 u89 u90 u91 u92 u93 u94 u95 u96 u97 u98 u99 u100 u101 u102 u103 u104 u105 u106 u107 u108 u109 u110 u111 u112 u113 u114 u115 u116 u117 u118 u119 u120 u121 u122 u123 u124 u125 u126 u127 u128 u129 u130 u131 u132 u133 u134 u135 u136 u137 u138 u139 u140 u141 u142 u143 u144 u145 u146 u147 u148 u149 u150 u151 u152 u153 : Value) (v1 : Value) (w1 : World), Owns w1 base 95 .u32 v1 (words P q 64) → Below base w w1 → Q (.exit 6) ⟨(List.toArray (c0 :: c1 :: c2 :: c3 :: c4 :: c5 :: c6 :: (.slice (some ⟨gb, 0, none⟩) L capb) :: c8 :: c9 :: c10 :: (.int .i64 (q : Int)) :: v1 :: (.int .i64 64) :: u14 :: u15 :: u16 :: c17 :: c18 :: c19 :: c20 :: c21 :: c22 :: c23 :: c24 :: c25 :: c26 :: c27 :: c28 :: c29 :: c30 :: c31 :: c32 :: c33 :: c34 :: c35 :: c36 :: c37 :: c38 :: c39 :: c40 :: c41 :: c42 :: c43 :: c44 :: c45 :: c46 :: c47 :: c48 :: c49 :: c50 :: c51 :: c52 :: c53 :: c54 :: c55 :: c56 :: c57 :: c58 :: c59 :: c60 :: c61 :: c62 :: c63 :: c64 :: c65 :: c66 :: c67 :: c68 :: c69 :: u70 :: u71 :: u72 :: u73 :: u74 :: u75 :: u76 :: u77 :: u78 :: u79 :: u80 :: u81 :: u82 :: u83 :: u84 :: u85 :: u86 :: u87 :: u88 :: u89 :: u90 :: u91 :: u92 :: u93 :: u94 :: u95 :: u96 :: u97 :: u98 :: u99 :: u100 :: u101 :: u102 :: u103 :: u104 :: u105 :: u106 :: u107 :: u108 :: u109 :: u110 :: u111 :: u112 :: u113 :: u114 :: u115 :: u116 :: u117 :: u118 :: u119 :: u120 :: u121 :: u122 :: u123 :: u124 :: u125 :: u126 :: u127 :: u128 :: u129 :: u130 :: u131 :: u132 :: u133 :: u134 :: u135 :: u136 :: u137 :: u138 :: u139 :: u140 :: u141 :: u142 :: u143 :: u144 :: u145 :: u146 :: u147 :: u148 :: u149 :: u150 :: u151 :: u152 :: u153 :: c154 :: c155 :: c156 :: c157 :: c158 :: c159 :: c160 :: c161 :: c162 :: c163 :: c164 :: c165 :: c166 :: c167 :: c168 :: c169 :: c170 :: c171 :: c172 :: c173 :: c174 :: c175 :: c176 :: c177 :: c178 :: c179 :: c180 :: c181 :: c182 :: c183 :: c184 :: c185 :: c186 :: c187 :: c188 :: c189 :: c190 :: c191 :: c192 :: c193 :: c194 :: c195 :: c196 :: c197 :: c198 :: c199 :: c200 :: c201 :: c202 :: c203 :: c204 :: c205 :: c206 :: c207 :: c208 :: c209 :: c210 :: c211 :: c212 :: c213 :: c214 :: c215 :: c216 :: c217 :: c218 :: c219 :: c220 :: c221 :: c222 :: c223 :: c224 :: c225 :: c226 :: c227 :: c228 :: c229 :: c230 :: c231 :: c232 :: c233 :: c234 :: c235 :: c236 :: c237 :: c238 :: c239 :: c240 :: c241 :: c242 :: c243 :: c244 :: c245 :: c246 :: c247 :: c248 :: c249 :: c250 :: c251 :: c252 :: c253 :: c254 :: c255 :: c256 :: c257 :: c258 :: c259 :: c260 :: c261 :: c262 :: c263 :: c264 :: c265 :: c266 :: c267 :: c268 :: c269 :: c270 :: c271 :: c272 :: c273 :: c274 :: c275 :: c276 :: c277 :: c278 :: c279 :: c280 :: c281 :: c282 :: c283 :: c284 :: c285 :: c286 :: c287 :: c288 :: c289 :: c290 :: c291 :: c292 :: c293 :: c294 :: c295 :: c296 :: c297 :: c298 :: c299 :: c300 :: c301 :: c302 :: c303 :: [])), []⟩ w1) :
    Code.wp Tryz.prog (Code.loop wordsBody) Q ⟨(List.toArray (c0 :: c1 :: c2 :: c3 :: c4 :: c5 :: c6 :: (.slice (some ⟨gb, 0, none⟩) L capb) :: c8 :: c9 :: c10 :: (.int .i64 (q : Int)) :: v0 :: (.int .i64 0) :: u14 :: u15 :: u16 :: c17 :: c18 :: c19 :: c20 :: c21 :: c22 :: c23 :: c24 :: c25 :: c26 :: c27 :: c28 :: c29 :: c30 :: c31 :: c32 :: c33 :: c34 :: c35 :: c36 :: c37 :: c38 :: c39 :: c40 :: c41 :: c42 :: c43 :: c44 :: c45 :: c46 :: c47 :: c48 :: c49 :: c50 :: c51 :: c52 :: c53 :: c54 :: c55 :: c56 :: c57 :: c58 :: c59 :: c60 :: c61 :: c62 :: c63 :: c64 :: c65 :: c66 :: c67 :: c68 :: c69 :: u70 :: u71 :: u72 :: u73 :: u74 :: u75 :: u76 :: u77 :: u78 :: u79 :: u80 :: u81 :: u82 :: u83 :: u84 :: u85 :: u86 :: u87 :: u88 :: u89 :: u90 :: u91 :: u92 :: u93 :: u94 :: u95 :: u96 :: u97 :: u98 :: u99 :: u100 :: u101 :: u102 :: u103 :: u104 :: u105 :: u106 :: u107 :: u108 :: u109 :: u110 :: u111 :: u112 :: u113 :: u114 :: u115 :: u116 :: u117 :: u118 :: u119 :: u120 :: u121 :: u122 :: u123 :: u124 :: u125 :: u126 :: u127 :: u128 :: u129 :: u130 :: u131 :: u132 :: u133 :: u134 :: u135 :: u136 :: u137 :: u138 :: u139 :: u140 :: u141 :: u142 :: u143 :: u144 :: u145 :: u146 :: u147 :: u148 :: u149 :: u150 :: u151 :: u152 :: u153 :: c154 :: c155 :: c156 :: c157 :: c158 :: c159 :: c160 :: c161 :: c162 :: c163 :: c164 :: c165 :: c166 :: c167 :: c168 :: c169 :: c170 :: c171 :: c172 :: c173 :: c174 :: c175 :: c176 :: c177 :: c178 :: c179 :: c180 :: c181 :: c182 :: c183 :: c184 :: c185 :: c186 :: c187 :: c188 :: c189 :: c190 :: c191 :: c192 :: c193 :: c194 :: c195 :: c196 :: c197 :: c198 :: c199 :: c200 :: c201 :: c202 :: c203 :: c204 :: c205 :: c206 :: c207 :: c208 :: c209 :: c210 :: c211 :: c212 :: c213 :: c214 :: c215 :: c216 :: c217 :: c218 :: c219 :: c220 :: c221 :: c222 :: c223 :: c224 :: c225 :: c226 :: c227 :: c228 :: c229 :: c230 :: c231 :: c232 :: c233 :: c234 :: c235 :: c236 :: c237 :: c238 :: c239 :: c240 :: c241 :: c242 :: c243 :: c244 :: c245 :: c246 :: c247 :: c248 :: c249 :: c250 :: c251 :: c252 :: c253 :: c254 :: c255 :: c256 :: c257 :: c258 :: c259 :: c260 :: c261 :: c262 :: c263 :: c264 :: c265 :: c266 :: c267 :: c268 :: c269 :: c270 :: c271 :: c272 :: c273 :: c274 :: c275 :: c276 :: c277 :: c278 :: c279 :: c280 :: c281 :: c282 :: c283 :: c284 :: c285 :: c286 :: c287 :: c288 :: c289 :: c290 :: c291 :: c292 :: c293 :: c294 :: c295 :: c296 :: c297 :: c298 :: c299 :: c300 :: c301 :: c302 :: c303 :: [])), []⟩ w := by
  conv => arg 2; arg 1; whnf
  have HX := Lib.hid hexit
  have HPC := Lib.hid hp
  clear hexit hp
  go_loopw [12, 13] (fun wv tv wr2 => ∃ t : Nat, t ≤ 64 ∧ tv = .int .i64 (t : Int) ∧ Owns wr2 base 95 .u32 wv (words P q t) ∧ Below base w wr2)
    (fun _ tv _ => 64 - (intOf tv).toNat)
  case atStart => exact ⟨0, Nat.zero_le _, rfl, ho0, Below.refl _ _⟩
  case round =>
    obtain ⟨t, ht, rfl, ho, hd⟩ := hrel
    have HO := Lib.hid ho
    have HD := Lib.hid hd
    by_cases ht64 : t < 64
    · have ht64i : (t : Int) < 64 := by omega
      by_cases ht16 : t < 16
      · have ht16i : (t : Int) < 16 := by omega
        obtain ⟨kk, hkk⟩ : ∃ kk, kk = q + 4 * t := ⟨_, rfl⟩
        have HKK : Hid ((q : Int) + 4 * t = (kk : Int)) := Lib.hid (by omega)
        have i3 : (kk : Int) + 3 < L := by omega
        have HWN : Hid (words P q (t + 1) = words P q t ++ [P.getD kk 0 * 16777216 + P.getD (kk + 1) 0 * 65536 + P.getD (kk + 2) 0 * 256 + P.getD (kk + 3) 0]) := Lib.hid (by show words P q t ++ [wordNext P q (words P q t) t] = _; unfold wordNext; rw [if_pos ht16, hkk]; rfl)
        clear hkk
        have d0 := (hd.cell (p := ⟨gb, kk, none⟩) hgb).trans (HPC.out kk (by omega))
        have d1 := (hd.cell (p := ⟨gb, kk + 1, none⟩) hgb).trans (HPC.out (kk + 1) (by omega))
        have d2 := (hd.cell (p := ⟨gb, kk + 2, none⟩) hgb).trans (HPC.out (kk + 2) (by omega))
        have d3 := (hd.cell (p := ⟨gb, kk + 3, none⟩) hgb).trans (HPC.out (kk + 3) (by omega))
        have b0 := getD_lt hP (by decide) kk
        have b1 := getD_lt hP (by decide) (kk + 1)
        have b2 := getD_lt hP (by decide) (kk + 2)
        have b3 := getD_lt hP (by decide) (kk + 3)
        have i0 : (kk : Int) < L := by omega
        have i1 : (kk : Int) + 1 < L := by omega
        have i2 : (kk : Int) + 2 < L := by omega
        have j0 : (0 : Int) ≤ (kk : Int) := by omega
        have j1 : (0 : Int) ≤ (kk : Int) + 1 := by omega
        have j2 : (0 : Int) ≤ (kk : Int) + 2 := by omega
        have j3 : (0 : Int) ≤ (kk : Int) + 3 := by omega
        have w1 : IntKind.i64.wrap ((kk : Int) + 1) = (kk : Int) + 1 := IntWalk.i64_in _ (by omega)
        have w2 : IntKind.i64.wrap ((kk : Int) + 2) = (kk : Int) + 2 := IntWalk.i64_in _ (by omega)
        have w3 : IntKind.i64.wrap ((kk : Int) + 3) = (kk : Int) + 3 := IntWalk.i64_in _ (by omega)
        have n1 : ((kk : Int) + 1).toNat = kk + 1 := by omega
        have n2 : ((kk : Int) + 2).toNat = kk + 2 := by omega
        have n3 : ((kk : Int) + 3).toNat = kk + 3 := by omega
        have hwl : (words P q t).length ≤ 64 := by rw [words_length]; omega
        generalize P.getD kk 0 = c0' at d0 b0 HWN
        generalize P.getD (kk + 1) 0 = c1' at d1 b1 HWN
        generalize P.getD (kk + 2) 0 = c2' at d2 b2 HWN
        generalize P.getD (kk + 3) 0 = c3' at d3 b3 HWN
        generalize words P q t = K4 at HO HWN hwl
        obtain ⟨y, hy⟩ : ∃ y, c0' * 16777216 + c1' * 65536 + c2' * 256 + c3' = y := ⟨_, rfl⟩
        rw [hy] at HWN
        have HY := Lib.hid hy
        have D0 := Lib.hid d0
        have D1 := Lib.hid d1
        have D2 := Lib.hid d2
        have D3 := Lib.hid d3
        clear ho hd hy
        go_wp2_with fail
        rw [HKK.out]
        go_region_held3 (fun w' => w'.cell? ⟨gb, kk, none⟩ = some (.int .u8 (c0' : Int)) ∧ w'.cell? ⟨gb, kk + 1, none⟩ = some (.int .u8 (c1' : Int)) ∧ w'.cell? ⟨gb, kk + 2, none⟩ = some (.int .u8 (c2' : Int)) ∧ w'.cell? ⟨gb, kk + 3, none⟩ = some (.int .u8 (c3' : Int))) (first | go_keep | exact ⟨s0, s1, s2, s3⟩)
          ((refine step_app (by rfl) _ _ _ (by rfl) base 95 (.int .u32 0) 4 Tryz.underlying79 info_u32 rfl .u32 _ _ (by rfl) (by first | exact HO.out.alloc _ | exact (HO.out.alloc _).drew | exact HO.out) _ y (by rfl) (by first | exact hr_one (by have := HY.out; (try simp only [IntKind.wrap_u32]); omega) | (simp; have := HY.out; (try simp only [IntKind.wrap_u32]); omega)) (by omega) (by decide) (by have := HD.out.size; simp; omega) ?_; intro v' w5 ho1 hg
            have hd1 : Below base w w5 := by
              have hs := HD.out.size
              first
                | exact (HD.out.alloc (by omega) _).drew.grown hg (by simp; omega) (fun j hj => (HO.out.lt j hj).1)
                | exact (HD.out.drew.alloc (by simp; omega) _).grown hg (by simp; omega) (fun j hj => (HO.out.lt j hj).1)
            have s0 := (hd1.cell (p := ⟨gb, kk, none⟩) hgb).trans ((HD.out.cell (p := ⟨gb, kk, none⟩) hgb).symm.trans D0.out)
            have s1 := (hd1.cell (p := ⟨gb, kk + 1, none⟩) hgb).trans ((HD.out.cell (p := ⟨gb, kk + 1, none⟩) hgb).symm.trans D1.out)
            have s2 := (hd1.cell (p := ⟨gb, kk + 2, none⟩) hgb).trans ((HD.out.cell (p := ⟨gb, kk + 2, none⟩) hgb).symm.trans D2.out)
            have s3 := (hd1.cell (p := ⟨gb, kk + 3, none⟩) hgb).trans ((HD.out.cell (p := ⟨gb, kk + 3, none⟩) hgb).symm.trans D3.out)))
        go_wp2
        go_roundw
        case rel => exact ⟨t + 1, by omega, by go_num, by rw [HWN.out]; exact ho1, hd1⟩
        case measure => simp [intOf]; omega
      · have ht16i : ¬ (t : Int) < 16 := by omega
        have hwl : (words P q t).length = t := words_length P q t
        obtain ⟨gw, capw, rfl, hgw, _, _⟩ := owns_block ho (by omega)
        have hcl : ∀ j, j < t → wr.cell? ⟨gw, j, none⟩ = some (.int .u32 (((words P q t).getD j 0 : Nat) : Int)) := fun j hj => (World.ownsRow.cellAt (by have h := HO.out; unfold Owns at h; exact h) j (by omega)).trans (vals_get .u32 _ j (by omega))
        have HO2 : Hid (Owns wr base 95 .u32 (.slice (some ⟨gw, 0, none⟩) t capw) (words P q t)) := Lib.hid (by have h := HO.out; rw [hwl] at h; exact h)
        rw [hwl]
        have d15 := hcl (t - 15) (by omega)
        have d2 := hcl (t - 2) (by omega)
        have d16 : wr.cell? ⟨gw, t - 16, none⟩ = _ := hcl (t - 16) (by omega)
        have d7 : wr.cell? ⟨gw, t - 7, none⟩ = _ := hcl (t - 7) (by omega)
        have i15 : (t : Int) - 15 < t := by omega
        have i2 : (t : Int) - 2 < t := by omega
        have i16 : (t : Int) - 16 < t := by omega
        have i7 : (t : Int) - 7 < t := by omega
        have j15 : (0 : Int) ≤ (t : Int) - 15 := by omega
        have j2 : (0 : Int) ≤ (t : Int) - 2 := by omega
        have j16 : (0 : Int) ≤ (t : Int) - 16 := by omega
        have j7 : (0 : Int) ≤ (t : Int) - 7 := by omega
        have n15 : ((t : Int) - 15).toNat = t - 15 := by omega
        have n2 : ((t : Int) - 2).toNat = t - 2 := by omega
        have n16 : ((t : Int) - 16).toNat = t - 16 := by omega
        have n7 : ((t : Int) - 7).toNat = t - 7 := by omega
        have k7 : (7 : Int) ≤ (t : Int) := by omega
        have k15 : (15 : Int) ≤ (t : Int) := by omega
        have k2 : (2 : Int) ≤ (t : Int) := by omega
        have m16 : IntKind.i64.wrap ((t : Int) - 16) = (t : Int) - 16 := IntWalk.i64_in _ (by omega)
        have m7 : IntKind.i64.wrap ((t : Int) - 7) = (t : Int) - 7 := IntWalk.i64_in _ (by omega)
        have h15 := getD_lt (words_lt hP q t) (by decide) (t - 15)
        have h2 := getD_lt (words_lt hP q t) (by decide) (t - 2)
        have h16 := getD_lt (words_lt hP q t) (by decide) (t - 16)
        have h7 := getD_lt (words_lt hP q t) (by decide) (t - 7)
        have HWN : Hid (words P q (t + 1) = words P q t ++ [((words P q t).getD (t - 16) 0 + (words P q t).getD (t - 7) 0 + sig0 ((words P q t).getD (t - 15) 0) + sig1 ((words P q t).getD (t - 2) 0)) % 4294967296]) := Lib.hid (by show words P q t ++ [wordNext P q (words P q t) t] = _; unfold wordNext; rw [if_neg ht16]; rfl)
        generalize (words P q t).getD (t - 15) 0 = x15 at d15 h15 HWN
        generalize (words P q t).getD (t - 2) 0 = x2 at d2 h2 HWN
        generalize (words P q t).getD (t - 16) 0 = x16 at d16 h16 HWN
        generalize (words P q t).getD (t - 7) 0 = x7 at d7 h7 HWN
        have e1 := u32_xor_nat (rot x15 7) (rot x15 18) (rot_lt h15) (rot_lt h15)
        have q1 : (x15 : Int) / 8 = ((x15 / 8 : Nat) : Int) := by omega
        have e2 : bits .xor .u32 ((rot x15 7 ^^^ rot x15 18 : Nat) : Int) ((x15 : Int) / 8) = ((sig0 x15 : Nat) : Int) := by rw [q1]; exact u32_xor_nat _ _ (Nat.xor_lt_two_pow (n := 32) (rot_lt h15) (rot_lt h15)) (by omega)
        have e3 := u32_xor_nat (rot x2 17) (rot x2 19) (rot_lt h2) (rot_lt h2)
        have q2 : (x2 : Int) / 1024 = ((x2 / 1024 : Nat) : Int) := by omega
        have e4 : bits .xor .u32 ((rot x2 17 ^^^ rot x2 19 : Nat) : Int) ((x2 : Int) / 1024) = ((sig1 x2 : Nat) : Int) := by rw [q2]; exact u32_xor_nat _ _ (Nat.xor_lt_two_pow (n := 32) (rot_lt h2) (rot_lt h2)) (by omega)
        have t1 := fun w => turn_lit x15 7 7 rfl w h15 (by decide) (by decide)
        have t2 := fun w => turn_lit x15 18 18 rfl w h15 (by decide) (by decide)
        have t3 := fun w => turn_lit x2 17 17 rfl w h2 (by decide) (by decide)
        have t4 := fun w => turn_lit x2 19 19 rfl w h2 (by decide) (by decide)
        clear q1 q2
        generalize sig0 x15 = g0 at e2 HWN
        generalize sig1 x2 = g1 at e4 HWN
        generalize rot x15 7 ^^^ rot x15 18 = z1 at e1 e2
        generalize rot x2 17 ^^^ rot x2 19 = z2 at e3 e4
        generalize rot x15 7 = y1 at e1 t1
        generalize rot x15 18 = y2 at e1 t2
        generalize rot x2 17 = y3 at e3 t3
        generalize rot x2 19 = y4 at e3 t4
        have T1 := Lib.hid t1
        have T2 := Lib.hid t2
        have T3 := Lib.hid t3
        have T4 := Lib.hid t4
        obtain ⟨y, hy⟩ : ∃ y, (x16 + x7 + g0 + g1) % 4294967296 = y := ⟨_, rfl⟩
        rw [hy] at HWN
        have HY := Lib.hid hy
        have HWL := Lib.hid hwl
        clear ho hd hcl t1 t2 t3 t4 hy hwl
        go_wp2_with fail
        have D16 := Lib.hid d16
        have D7 := Lib.hid d7
        go_region_held3 (fun w' => w'.cell? ⟨gw, t - 16, none⟩ = some (.int .u32 (x16 : Int)) ∧ w'.cell? ⟨gw, t - 7, none⟩ = some (.int .u32 (x7 : Int))) (first | go_keep | exact ⟨s16, s7⟩)
          (first
          | (go_at_call 47; (first | (with_reducible refine (T1.out _).mono ?_) | (with_reducible refine (T2.out _).mono ?_) | (with_reducible refine (T3.out _).mono ?_) | (with_reducible refine (T4.out _).mono ?_)); rintro e w' ⟨rfl, rfl⟩)
          | (refine step_app_keep (by rfl) _ _ _ (by rfl) base 95 (.int .u32 0) 4 Tryz.underlying79 info_u32 rfl .u32 gw t capw (words P q t) HWL.out.symm (by rfl) (by first | exact HO2.out.alloc _ | exact (HO2.out.alloc _).drew | exact HO2.out) _ _ y (by rfl) (by first | exact hr_one (by have := HY.out; (try simp only [IntKind.wrap_u32]); omega) | (simp; have := HY.out; (try simp only [IntKind.wrap_u32]); omega)) (by rw [HWL.out]; omega) (by decide) (by have := HD.out.size; simp; omega) ?_; intro v' w5 ho1 hg hkeep
             have hd1 : Below base w w5 := by
               have hs := HD.out.size
               first
                 | exact (HD.out.alloc (by omega) _).drew.grown hg (by simp; omega) (fun j hj => (HO2.out.lt j (by simpa [Value.ownBlock] using hj)).1)
                 | exact (HD.out.drew.alloc (by simp; omega) _).grown hg (by simp; omega) (fun j hj => (HO2.out.lt j (by simpa [Value.ownBlock] using hj)).1)
             have hgl : gw < wr.heap.size := (HO2.out.lt gw rfl).2
             have s16 : w5.cell? ⟨gw, t - 16, none⟩ = some (.int .u32 (x16 : Int)) := (hkeep (t - 16) (by rw [HWL.out]; omega)).trans (by first | exact (World.cell?_alloc_old _ _ _ hgl).trans D16.out | go_keep)
             have s7 : w5.cell? ⟨gw, t - 7, none⟩ = some (.int .u32 (x7 : Int)) := (hkeep (t - 7) (by rw [HWL.out]; omega)).trans (by first | exact (World.cell?_alloc_old _ _ _ hgl).trans D7.out | go_keep)))
        go_wp2
        go_roundw
        case rel => exact ⟨t + 1, by omega, by go_num, by rw [HWN.out]; exact ho1, hd1⟩
        case measure => simp [intOf]; omega
    · obtain rfl : t = 64 := by omega
      go_wp2
      exact HX.out _ _ _ _ _ _ _ _ _ _ _ _ _ _ _ _ _ _ _ _ _ _ _ _ _ _ _ _ _ _ _ _ _ _ _ _ _ _ _ _ _ _ _ _ _ _ _ _ _ _ _ _ _ _ _ _ _ _ _ _ _ _ _ _ _ _ _ _ _ _ _ _ _ _ _ _ _ _ _ _ _ _ _ _ _ _ _ _ _ ho hd

end Go.Proofs.YtgnalcobcdgnkaaGreatDoor
