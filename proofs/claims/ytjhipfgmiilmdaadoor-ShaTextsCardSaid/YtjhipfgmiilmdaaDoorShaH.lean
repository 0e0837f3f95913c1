/- The digest's bytes (the reference package's Sum): the loop by itself. -/
import Derived.Test.YtjhipfgmiilmdaaDoorShaE
namespace Go.Proofs.YtjhipfgmiilmdaaDoor
open Go.RowKit

noncomputable def digestBody : Code := ((Tryd.f10.body.map loopsIn).getD []).getD 5 .skip

def byteOf (S : List Nat) (i : Nat) : Nat := S.getD (i / 4) 0 / 2 ^ (24 - 8 * (i % 4)) % 256
/-- The first i bytes, and noughts. -/
def dig (S : List Nat) (i : Nat) : Array Value := ((List.range 32).map fun j => Value.int .u8 (((if j < i then byteOf S j else 0) : Nat) : Int)).toArray

theorem dig_size (S : List Nat) (i : Nat) : (dig S i).size = 32 := by simp [dig]
theorem dig_get (S : List Nat) (i j : Nat) (h : j < 32) : (dig S i)[j]? = some (.int .u8 (((if j < i then byteOf S j else 0) : Nat) : Int)) := by
  simp [dig, h]
theorem dig_set (S : List Nat) (i : Nat) (h : i < 32) : (dig S i).setIfInBounds i (.int .u8 ((byteOf S i : Nat) : Int)) = dig S (i + 1) := by
  apply Array.ext_getElem?
  intro j
  by_cases hj : j < 32
  · rw [Array.getElem?_setIfInBounds, dig_get S (i + 1) j hj, dig_get S i j hj]
    by_cases he : i = j
    · subst he
      rw [if_pos rfl, if_pos (by rw [dig_size]; exact h), if_pos (by omega)]
    · rw [if_neg he]
      by_cases h1 : j < i
      · rw [if_pos h1, if_pos (by omega)]
      · rw [if_neg h1, if_neg (by omega)]
  · rw [Array.getElem?_eq_none (by rw [Array.size_setIfInBounds, dig_size]; omega), Array.getElem?_eq_none (by rw [dig_size]; omega)]
theorem dig_zero (S : List Nat) : dig S 0 = Array.replicate 32 (.int .u8 0) := by
  simp [dig]
  rfl
theorem dig_all (S : List Nat) : dig S 32 = (vals .u8 (bytesOf S)).toArray := by
  unfold dig vals bytesOf
  rw [List.map_map]
  congr 1

set_option maxHeartbeats 4000000 in
set_option maxRecDepth 1000000 in
theorem digest_loop (c0 c1 c2 c3 c4 c5 c6 c7 c8 c9 c11 c12 c13 c14 c15 c16 c17 c18 c19 c20 c21 c22 c23 c24 c25 c26 c27 c30 c31 c32 c33 c34 c35 c36 c37 c38 c39 c40 c41 c42 c43 c44 c45 c46 c47 c48 c49 c50 c51 c52 c53 c54 c55 c56 c57 c58 c59 c60 c61 c62 c63 c64 c65 c66 c67 c68 c69 c70 c71 c72 c73 c74 c75 c76 c77 c78 c79 c80 c81 c82 c83 c84 c85 c86 c87 c88 c89 c90 c91 c92 c93 c94 c95 c96 c97 c98 c99 c100 c101 c102 c103 c104 c105 c106 c107 c108 c109 c110 c111 c112 c113 c114 c115 c116 c117 c118 c119 c120 c121 c122 c123 c124 c125 c126 c127 c128 c129 c130 c131 c132 c133 c134 c135 c136 c137 c138 c139 c140 c141 c142 c143 c144 c145 c146 c147 c148 c149 c150 c151 c152 c153 c154 c155 c156 c157 c158 c159 c160 c161 c162 c163 c164 c165 c166 c167 c168 c169 c170 c171 c172 c173 c174 c175 c176 c177 c178 c179 c180 c181 c182 c183 c184 c185 c186 c187 c188 c189 c190 c191 c192 c193 c194 c195 c196 c197 c198 c199 c200 c201 c202 c203 c204 c205 c206 c207 c208 c209 c210 c211 c212 c213 c214 c215 c216 c217 c218 c219 c220 c221 c222 c223 c224 c225 c226 c227 c228 c229 c230 c231 c232 c233 c234 c235 c236 c237 c238 c239 c240 c241 c242 c243 c244 c245 c246 c247 c248 c249 c250 c251 c252 c253 c254 c255 c256 c257 c258 c259 c260 c261 c262 c263 c264 c265 c266 c267 c268 c269 c270 c271 c272 c273 c274 c275 c276 c277 c278 c279 c280 c281 c282 c283 c284 c303 : Value) (u285 u286 u287 u288 u289 u290 u291 u292 u293 u294 u295 u296 u297 u298 u299 u300 u301 u302 : Value) (gs caps gd : Nat) (S : List Nat) (w : World) (hne : gs ≠ gd) (hS : ∀ y ∈ S, y < 4294967296)
    (hs : ∀ i, i < 8 → w.cell? ⟨gs, i, none⟩ = some (.int .u32 ((S.getD i 0 : Nat) : Int))) (hg : w.heap[gd]? = some (.cells (dig S 0) 28 (0, 0)))
    (Q : Exit → Act → World → Prop) (hexit : ∀ (u285 u286 u287 u288 u289 u290 u291 u292 u293 u294 u295 u296 u297 u298 u299 u300 u301 u302 : Value) (w1 : World), w1.heap[gd]? = some (.cells (dig S 32) 28 (0, 0)) → w.grownBy w1 (some gd) → Q (.exit 10) ⟨(List.toArray (c0 :: c1 :: c2 :: c3 :: c4 :: c5 :: c6 :: c7 :: c8 :: c9 :: (.slice (some ⟨gs, 0, none⟩) 8 caps) :: c11 :: c12 :: c13 :: c14 :: c15 :: c16 :: c17 :: c18 :: c19 :: c20 :: c21 :: c22 :: c23 :: c24 :: c25 :: c26 :: c27 :: (.pointer (some ⟨gd, 0, none⟩)) :: (.int .i64 32) :: c30 :: c31 :: c32 :: c33 :: c34 :: c35 :: c36 :: c37 :: c38 :: c39 :: c40 :: c41 :: c42 :: c43 :: c44 :: c45 :: c46 :: c47 :: c48 :: c49 :: c50 :: c51 :: c52 :: c53 :: c54 :: c55 :: c56 :: c57 :: c58 :: c59 :: c60 :: c61 :: c62 :: c63 :: c64 :: c65 :: c66 :: c67 :: c68 :: c69 :: c70 :: c71 :: c72 :: c73 :: c74 :: c75 :: c76 :: c77 :: c78 :: c79 :: c80 :: c81 :: c82 :: c83 :: c84 :: c85 :: c86 :: c87 :: c88 :: c89 :: c90 :: c91 :: c92 :: c93 :: c94 :: c95 :: c96 :: c97 :: c98 :: c99 :: c100 :: c101 :: c102 :: c103 :: c104 :: c105 :: c106 :: c107 :: c108 :: c109 :: c110 :: c111 :: c112 :: c113 :: c114 :: c115 :: c116 :: c117 :: c118 :: c119 :: c120 :: c121 :: c122 :: c123 :: c124 :: c125 :: c126 :: c127 :: c128 :: c129 :: c130 :: c131 :: c132 :: c133 :: c134 :: c135 :: c136 :: c137 :: c138 :: c139 :: c140 :: c141 :: c142 :: c143 :: c144 :: c145 :: c146 :: c147 :: c148 :: c149 :: c150 :: c151 :: c152 :: c153 :: c154 :: c155 :: c156 :: c157 :: c158 :: c159 :: c160 :: c161 :: c162 :: c163 :: c164 :: c165 :: c166 :: c167 :: c168 :: c169 :: c170 :: c171 :: c172 :: c173 :: c174 :: c175 :: c176 :: c177 :: c178 :: c179 :: c180 :: c181 :: c182 :: c183 :: c184 :: c185 :: c186 :: c187 :: c188 :: c189 :: c190 :: c191 :: c192 :: c193 :: c194 :: c195 :: c196 :: c197 :: c198 :: c199 :: c200 :: c201 :: c202 :: c203 :: c204 :: c205 :: c206 :: c207 :: c208 :: c209 :: c210 :: c211 :: c212 :: c213 :: c214 :: c215 :: c216 :: c217 :: c218 :: c219 :: c220 :: c221 :: c222 :: c223 :: c224 :: c225 :: c226 :: c227 :: c228 :: c229 :: c230 :: c231 :: c232 :: c233 :: c234 :: c235 :: c236 :: c237 :: c238 :: c239 :: c240 :: c241 :: c242 :: c243 :: c244 :: c245 :: c246 :: c247 :: c248 :: c249 :: c250 :: c251 :: c252 :: c253 :: c254 :: c255 :: c256 :: c257 :: c258 :: c259 :: c260 :: c261 :: c262 :: c263 :: c264 :: c265 :: c266 :: c267 :: c268 :: c269 :: c270 :: c271 :: c272 :: c273 :: c274 :: c275 :: c276 :: c277 :: c278 :: c279 :: c280 :: c281 :: c282 :: c283 :: c284 :: u285 :: u286 :: u287 :: u288 :: u289 :: u290 :: u291 :: u292 :: u293 :: u294 :: u295 :: u296 :: u297 :: u298 :: u299 :: u300 :: u301 :: u302 :: c303 :: [])), []⟩ w1) :
    Code.wp Tryd.prog (Code.loop digestBody) Q ⟨(List.toArray (c0 :: c1 :: c2 :: c3 :: c4 :: c5 :: c6 :: c7 :: c8 :: c9 :: (.slice (some ⟨gs, 0, none⟩) 8 caps) :: c11 :: c12 :: c13 :: c14 :: c15 :: c16 :: c17 :: c18 :: c19 :: c20 :: c21 :: c22 :: c23 :: c24 :: c25 :: c26 :: c27 :: (.pointer (some ⟨gd, 0, none⟩)) :: (.int .i64 0) :: c30 :: c31 :: c32 :: c33 :: c34 :: c35 :: c36 :: c37 :: c38 :: c39 :: c40 :: c41 :: c42 :: c43 :: c44 :: c45 :: c46 :: c47 :: c48 :: c49 :: c50 :: c51 :: c52 :: c53 :: c54 :: c55 :: c56 :: c57 :: c58 :: c59 :: c60 :: c61 :: c62 :: c63 :: c64 :: c65 :: c66 :: c67 :: c68 :: c69 :: c70 :: c71 :: c72 :: c73 :: c74 :: c75 :: c76 :: c77 :: c78 :: c79 :: c80 :: c81 :: c82 :: c83 :: c84 :: c85 :: c86 :: c87 :: c88 :: c89 :: c90 :: c91 :: c92 :: c93 :: c94 :: c95 :: c96 :: c97 :: c98 :: c99 :: c100 :: c101 :: c102 :: c103 :: c104 :: c105 :: c106 :: c107 :: c108 :: c109 :: c110 :: c111 :: c112 :: c113 :: c114 :: c115 :: c116 :: c117 :: c118 :: c119 :: c120 :: c121 :: c122 :: c123 :: c124 :: c125 :: c126 :: c127 :: c128 :: c129 :: c130 :: c131 :: c132 :: c133 :: c134 :: c135 :: c136 :: c137 :: c138 :: c139 :: c140 :: c141 :: c142 :: c143 :: c144 :: c145 :: c146 :: c147 :: c148 :: c149 :: c150 :: c151 :: c152 :: c153 :: c154 :: c155 :: c156 :: c157 :: c158 :: c159 :: c160 :: c161 :: c162 :: c163 :: c164 :: c165 :: c166 :: c167 :: c168 :: c169 :: c170 :: c171 :: c172 :: c173 :: c174 :: c175 :: c176 :: c177 :: c178 :: c179 :: c180 :: c181 :: c182 :: c183 :: c184 :: c185 :: c186 :: c187 :: c188 :: c189 :: c190 :: c191 :: c192 :: c193 :: c194 :: c195 :: c196 :: c197 :: c198 :: c199 :: c200 :: c201 :: c202 :: c203 :: c204 :: c205 :: c206 :: c207 :: c208 :: c209 :: c210 :: c211 :: c212 :: c213 :: c214 :: c215 :: c216 :: c217 :: c218 :: c219 :: c220 :: c221 :: c222 :: c223 :: c224 :: c225 :: c226 :: c227 :: c228 :: c229 :: c230 :: c231 :: c232 :: c233 :: c234 :: c235 :: c236 :: c237 :: c238 :: c239 :: c240 :: c241 :: c242 :: c243 :: c244 :: c245 :: c246 :: c247 :: c248 :: c249 :: c250 :: c251 :: c252 :: c253 :: c254 :: c255 :: c256 :: c257 :: c258 :: c259 :: c260 :: c261 :: c262 :: c263 :: c264 :: c265 :: c266 :: c267 :: c268 :: c269 :: c270 :: c271 :: c272 :: c273 :: c274 :: c275 :: c276 :: c277 :: c278 :: c279 :: c280 :: c281 :: c282 :: c283 :: c284 :: u285 :: u286 :: u287 :: u288 :: u289 :: u290 :: u291 :: u292 :: u293 :: u294 :: u295 :: u296 :: u297 :: u298 :: u299 :: u300 :: u301 :: u302 :: c303 :: [])), []⟩ w := by
  conv => arg 2; arg 1; whnf
  have HX := Lib.hid hexit
  have HSC := Lib.hid hs
  clear hexit hs
  go_loopw [29] (fun iv wr => ∃ i : Nat, i ≤ 32 ∧ iv = .int .i64 (i : Int) ∧ wr.heap[gd]? = some (.cells (dig S i) 28 (0, 0)) ∧ w.grownBy wr (some gd))
    (fun iv _ => 32 - (intOf iv).toNat)
  case atStart => exact ⟨0, Nat.zero_le _, rfl, hg, World.grownBy.refl _ _⟩
  case round =>
    obtain ⟨i, hi, rfl, hgi, hgr⟩ := hrel
    have HG := Lib.hid hgi
    have HGR := Lib.hid hgr
    by_cases hlt : i < 32
    · have hlti : (i : Int) < 32 := by omega
      obtain ⟨r, hr⟩ : ∃ r, r = i / 4 := ⟨_, rfl⟩
      obtain ⟨m, hm⟩ : ∃ m, m = i % 4 := ⟨_, rfl⟩
      obtain ⟨e, he⟩ : ∃ e, e = 24 - 8 * m := ⟨_, rfl⟩
      have hri : (i : Int) / 4 = (r : Int) := by omega
      have hmi : (i : Int) % 4 = (m : Int) := by omega
      have hm4 : m < 4 := by omega
      have hr8 : r < 8 := by omega
      have hei : (24 : Int) - 8 * (m : Int) = (e : Int) := by omega
      have he24 : e ≤ 24 := by omega
      have hr8i : (r : Int) < 8 := by omega
      have hc := hgr.cell (HSC.out r hr8) (by simpa using hne)
      have hxb := getD_lt hS (by decide) r
      have HB : Hid (byteOf S i = S.getD r 0 / 2 ^ e % 256) := Lib.hid (by unfold byteOf; rw [← hr, ← hm, ← he])
      have hcd : wr.cell? ⟨gd, i, none⟩ = some (.int .u8 (((if i < i then byteOf S i else 0) : Nat) : Int)) := by
        have := dig_get S i i hlt
        simpa [World.cell?, hgi] using this
      have hfd : wr.frozen? ⟨gd, i, none⟩ = false := by simp [World.frozen?, hgi]
      have HR := Lib.hid hr
      have HM := Lib.hid hm
      have HE := Lib.hid he
      generalize S.getD r 0 = x at hc hxb HB
      clear hr hm he hgi hgr
      have hv : (x : Int) / 2 ^ e % 256 = ((byteOf S i : Nat) : Int) := by
        rw [HB.out, Int.natCast_emod, Int.natCast_ediv, Int.natCast_pow]
        rfl
      have HV := Lib.hid hv
      clear hv
      go_wp2
      go_roundw
      case rel =>
        rw [HV.out]
        refine ⟨i + 1, by omega, by go_num, ?_, HGR.out.os, HGR.out.tape, HGR.out.output, by simpa [World.setCell] using HGR.out.size, fun k hk hne2 => ?_⟩
        · rw [← dig_set S i hlt]
          exact heap_setCell_same wr gd i (dig S i) _ _ HG.out
        · rw [heap_setCell_other _ _ _ _ (fun he => hne2 (by rw [he]))]
          exact HGR.out.block k hk hne2
      case measure => simp [intOf]; omega
    · obtain rfl : i = 32 := by omega
      go_wp2
      exact HX.out _ _ _ _ _ _ _ _ _ _ _ _ _ _ _ _ _ _  _ HG.out HGR.out

end Go.Proofs.YtjhipfgmiilmdaaDoor
