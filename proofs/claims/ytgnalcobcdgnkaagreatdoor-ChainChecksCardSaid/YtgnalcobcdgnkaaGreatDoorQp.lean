/- The rounds of a block (the reference package's Sum): the loop by itself. · The program's words of a block. · The program's state behind a block. · The digest's bytes (the reference package's Sum): the loop by itself. · The program's digest of a state. -/
import Derived.Test.YtgnalcobcdgnkaaGreatDoorQo
import Derived.Deep.QuietTactic
import Derived.Laws.Rows
import Derived.Laws.Tables
import Derived.StillTailTactics
import Derived.BigQuiet
import Derived.Outline
import Derived.ChangeKeysEq
namespace Go.Proofs.YtgnalcobcdgnkaaGreatDoor
open Go.RowKit

/-- The loops of a function's text, outer ones first. -/
def loopsIn : Code → List Code
  | .loop c => c :: loopsIn c
  | .seq a b => loopsIn a ++ loopsIn b
  | .block _ c => loopsIn c
  | .scope c => loopsIn c
  | .cond _ a b => loopsIn a ++ loopsIn b
  | _ => []
noncomputable def roundsBody : Code := ((Tryz.f33.body.map loopsIn).getD []).getD 4 .skip

theorem w32_not (s : Nat) (hs : W32 s) : bits .xor .u32 IntKind.u32.max (s : Int) = ((s ^^^ 4294967295 : Nat) : Int) := by
  rw [Nat.xor_comm]
  exact u32_xor_nat 4294967295 s (by decide) hs
theorem u32_eq {a b : Int} (h : a = b) : Value.int .u32 a = .int .u32 b := by rw [h]

set_option maxHeartbeats 4000000 in
set_option maxRecDepth 1000000 in
theorem rounds_loop (c0 c2 c3 c4 c5 c6 c7 c8 c9 c10 c11 c13 c14 c15 c16 c28 c29 c30 c31 c32 c33 c34 c35 c36 c37 c38 c39 c40 c41 c42 c43 c44 c45 c46 c47 c48 c49 c50 c51 c52 c53 c54 c55 c56 c57 c58 c59 c60 c61 c62 c63 c64 c65 c66 c67 c68 c69 c70 c71 c72 c73 c74 c75 c76 c77 c78 c79 c80 c81 c82 c83 c84 c85 c86 c87 c88 c89 c90 c91 c92 c93 c94 c95 c96 c97 c98 c99 c100 c101 c102 c103 c104 c105 c106 c107 c108 c109 c110 c111 c112 c113 c114 c115 c116 c117 c118 c119 c120 c121 c122 c123 c124 c125 c126 c127 c128 c129 c130 c131 c132 c133 c134 c135 c136 c137 c138 c139 c140 c141 c142 c143 c144 c145 c146 c147 c148 c149 c150 c151 c152 c153 c154 c155 c156 c157 c158 c159 c160 c161 c162 c163 c164 c165 c166 c167 c168 c169 c170 c171 c172 c173 c174 c175 c176 c177 c243 c244 c245 c246 c247 c248 c249 c250 c251 c252 c253 c254 c255 c256 c257 c258 c259 c260 c261 c262 c263 c264 c265 c266 c267 c268 c269 c270 c271 c272 c273 c274 c275 c276 c277 c278 c279 c280 c281 c282 c283 c284 c285 c286 c287 c288 c289 c290 c291 c292 c293 c294 c295 c296 c297 c298 c299 c300 c301 c302 c303 : Value) (u26 u27 u178 u179 u180 u181 u182 u183 u184 u185 u186 u187 u188 u189 u190 u191 u192 u193 u194 u195 u196 u197 u198 u199 u200 u201 u202 u203 u204 u205 u206 u207 u208 u209 u210 u211 u212 u213 u214 u215 u216 u217 u218 u219 u220 u221 u222 u223 u224 u225 u226 u227 u228 u229 u230 u231 u232 u233 u234 u235 u236 u237 u238 u239 u240 u241 u242 : Value) (bk ok capk gw capw : Nat) (W : List Nat) (S : St) (hS : StLt S) (w : World)
    (hk : ∀ i, i < 64 → w.cell? ⟨bk, ok + i, none⟩ = some (.int .u32 ((shaK.getD i 0 : Nat) : Int))) (hw : ∀ i, i < 64 → w.cell? ⟨gw, i, none⟩ = some (.int .u32 ((W.getD i 0 : Nat) : Int))) (hW : ∀ y ∈ W, y < 4294967296)
    (Q : Exit → Act → World → Prop) (hexit : ∀ (u26 u27 u178 u179 u180 u181 u182 u183 u184 u185 u186 u187 u188 u189 u190 u191 u192 u193 u194 u195 u196 u197 u198 u199 u200 u201 u202 u203 u204 u205 u206 u207 u208 u209 u210 u211 u212 u213 u214 u215 u216 u217 u218 u219 u220 u221 u222 u223 u224 u225 u226 u227 u228 u229 u230 u231 u232 u233 u234 u235 u236 u237 u238 u239 u240 u241 u242 : Value) (d : Nat) (s : St), s = rnds shaK W S 64 → Q (.exit 8) ⟨(List.toArray (c0 :: (.slice (some ⟨bk, ok, none⟩) 64 capk) :: c2 :: c3 :: c4 :: c5 :: c6 :: c7 :: c8 :: c9 :: c10 :: c11 :: (.slice (some ⟨gw, 0, none⟩) 64 capw) :: c13 :: c14 :: c15 :: c16 :: (.int .u32 (s.a : Int)) :: (.int .u32 (s.b : Int)) :: (.int .u32 (s.c : Int)) :: (.int .u32 (s.d : Int)) :: (.int .u32 (s.e : Int)) :: (.int .u32 (s.f : Int)) :: (.int .u32 (s.g : Int)) :: (.int .u32 (s.h : Int)) :: (.int .i64 64) :: u26 :: u27 :: c28 :: c29 :: c30 :: c31 :: c32 :: c33 :: c34 :: c35 :: c36 :: c37 :: c38 :: c39 :: c40 :: c41 :: c42 :: c43 :: c44 :: c45 :: c46 :: c47 :: c48 :: c49 :: c50 :: c51 :: c52 :: c53 :: c54 :: c55 :: c56 :: c57 :: c58 :: c59 :: c60 :: c61 :: c62 :: c63 :: c64 :: c65 :: c66 :: c67 :: c68 :: c69 :: c70 :: c71 :: c72 :: c73 :: c74 :: c75 :: c76 :: c77 :: c78 :: c79 :: c80 :: c81 :: c82 :: c83 :: c84 :: c85 :: c86 :: c87 :: c88 :: c89 :: c90 :: c91 :: c92 :: c93 :: c94 :: c95 :: c96 :: c97 :: c98 :: c99 :: c100 :: c101 :: c102 :: c103 :: c104 :: c105 :: c106 :: c107 :: c108 :: c109 :: c110 :: c111 :: c112 :: c113 :: c114 :: c115 :: c116 :: c117 :: c118 :: c119 :: c120 :: c121 :: c122 :: c123 :: c124 :: c125 :: c126 :: c127 :: c128 :: c129 :: c130 :: c131 :: c132 :: c133 :: c134 :: c135 :: c136 :: c137 :: c138 :: c139 :: c140 :: c141 :: c142 :: c143 :: c144 :: c145 :: c146 :: c147 :: c148 :: c149 :: c150 :: c151 :: c152 :: c153 :: c154 :: c155 :: c156 :: c157 :: c158 :: c159 :: c160 :: c161 :: c162 :: c163 :: c164 :: c165 :: c166 :: c167 :: c168 :: c169 :: c170 :: c171 :: c172 :: c173 :: c174 :: c175 :: c176 :: c177 :: u178 :: u179 :: u180 :: u181 :: u182 :: u183 :: u184 :: u185 :: u186 :: u187 :: u188 :: u189 :: u190 :: u191 :: u192 :: u193 :: u194 :: u195 :: u196 :: u197 :: u198 :: u199 :: u200 :: u201 :: u202 :: u203 :: u204 :: u205 :: u206 :: u207 :: u208 :: u209 :: u210 :: u211 :: u212 :: u213 :: u214 :: u215 :: u216 :: u217 :: u218 :: u219 :: u220 :: u221 :: u222 :: u223 :: u224 :: u225 :: u226 :: u227 :: u228 :: u229 :: u230 :: u231 :: u232 :: u233 :: u234 :: u235 :: u236 :: u237 :: u238 :: u239 :: u240 :: u241 :: u242 :: c243 :: c244 :: c245 :: c246 :: c247 :: c248 :: c249 :: c250 :: c251 :: c252 :: c253 :: c254 :: c255 :: c256 :: c257 :: c258 :: c259 :: c260 :: c261 :: c262 :: c263 :: c264 :: c265 :: c266 :: c267 :: c268 :: c269 :: c270 :: c271 :: c272 :: c273 :: c274 :: c275 :: c276 :: c277 :: c278 :: c279 :: c280 :: c281 :: c282 :: c283 :: c284 :: c285 :: c286 :: c287 :: c288 :: c289 :: c290 :: c291 :: c292 :: c293 :: c294 :: c295 :: c296 :: c297 :: c298 :: c299 :: c300 :: c301 :: c302 :: c303 :: [])), []⟩ (w.drewN d)) :
    Code.wp Tryz.prog (Code.loop roundsBody) Q ⟨(List.toArray (c0 :: (.slice (some ⟨bk, ok, none⟩) 64 capk) :: c2 :: c3 :: c4 :: c5 :: c6 :: c7 :: c8 :: c9 :: c10 :: c11 :: (.slice (some ⟨gw, 0, none⟩) 64 capw) :: c13 :: c14 :: c15 :: c16 :: (.int .u32 (S.a : Int)) :: (.int .u32 (S.b : Int)) :: (.int .u32 (S.c : Int)) :: (.int .u32 (S.d : Int)) :: (.int .u32 (S.e : Int)) :: (.int .u32 (S.f : Int)) :: (.int .u32 (S.g : Int)) :: (.int .u32 (S.h : Int)) :: (.int .i64 0) :: u26 :: u27 :: c28 :: c29 :: c30 :: c31 :: c32 :: c33 :: c34 :: c35 :: c36 :: c37 :: c38 :: c39 :: c40 :: c41 :: c42 :: c43 :: c44 :: c45 :: c46 :: c47 :: c48 :: c49 :: c50 :: c51 :: c52 :: c53 :: c54 :: c55 :: c56 :: c57 :: c58 :: c59 :: c60 :: c61 :: c62 :: c63 :: c64 :: c65 :: c66 :: c67 :: c68 :: c69 :: c70 :: c71 :: c72 :: c73 :: c74 :: c75 :: c76 :: c77 :: c78 :: c79 :: c80 :: c81 :: c82 :: c83 :: c84 :: c85 :: c86 :: c87 :: c88 :: c89 :: c90 :: c91 :: c92 :: c93 :: c94 :: c95 :: c96 :: c97 :: c98 :: c99 :: c100 :: c101 :: c102 :: c103 :: c104 :: c105 :: c106 :: c107 :: c108 :: c109 :: c110 :: c111 :: c112 :: c113 :: c114 :: c115 :: c116 :: c117 :: c118 :: c119 :: c120 :: c121 :: c122 :: c123 :: c124 :: c125 :: c126 :: c127 :: c128 :: c129 :: c130 :: c131 :: c132 :: c133 :: c134 :: c135 :: c136 :: c137 :: c138 :: c139 :: c140 :: c141 :: c142 :: c143 :: c144 :: c145 :: c146 :: c147 :: c148 :: c149 :: c150 :: c151 :: c152 :: c153 :: c154 :: c155 :: c156 :: c157 :: c158 :: c159 :: c160 :: c161 :: c162 :: c163 :: c164 :: c165 :: c166 :: c167 :: c168 :: c169 :: c170 :: c171 :: c172 :: c173 :: c174 :: c175 :: c176 :: c177 :: u178 :: u179 :: u180 :: u181 :: u182 :: u183 :: u184 :: u185 :: u186 :: u187 :: u188 :: u189 :: u190 :: u191 :: u192 :: u193 :: u194 :: u195 :: u196 :: u197 :: u198 :: u199 :: u200 :: u201 :: u202 :: u203 :: u204 :: u205 :: u206 :: u207 :: u208 :: u209 :: u210 :: u211 :: u212 :: u213 :: u214 :: u215 :: u216 :: u217 :: u218 :: u219 :: u220 :: u221 :: u222 :: u223 :: u224 :: u225 :: u226 :: u227 :: u228 :: u229 :: u230 :: u231 :: u232 :: u233 :: u234 :: u235 :: u236 :: u237 :: u238 :: u239 :: u240 :: u241 :: u242 :: c243 :: c244 :: c245 :: c246 :: c247 :: c248 :: c249 :: c250 :: c251 :: c252 :: c253 :: c254 :: c255 :: c256 :: c257 :: c258 :: c259 :: c260 :: c261 :: c262 :: c263 :: c264 :: c265 :: c266 :: c267 :: c268 :: c269 :: c270 :: c271 :: c272 :: c273 :: c274 :: c275 :: c276 :: c277 :: c278 :: c279 :: c280 :: c281 :: c282 :: c283 :: c284 :: c285 :: c286 :: c287 :: c288 :: c289 :: c290 :: c291 :: c292 :: c293 :: c294 :: c295 :: c296 :: c297 :: c298 :: c299 :: c300 :: c301 :: c302 :: c303 :: [])), []⟩ w := by
  conv => arg 2; arg 1; whnf
  have HX := Lib.hid hexit
  have HK := Lib.hid hk
  have HW := Lib.hid hw
  clear hexit hk hw
  go_loopw [17, 18, 19, 20, 21, 22, 23, 24, 25] (fun va vb vc vd ve vf vg vh tv wr3 => ∃ (t : Nat) (s : St), t ≤ 64 ∧ tv = .int .i64 (t : Int) ∧ s = rnds shaK W S t ∧ va = .int .u32 (s.a : Int) ∧ vb = .int .u32 (s.b : Int) ∧ vc = .int .u32 (s.c : Int) ∧ vd = .int .u32 (s.d : Int) ∧ ve = .int .u32 (s.e : Int) ∧ vf = .int .u32 (s.f : Int) ∧ vg = .int .u32 (s.g : Int) ∧ vh = .int .u32 (s.h : Int) ∧ ∃ d, wr3 = w.drewN d)
    (fun _ _ _ _ _ _ _ _ tv _ => 64 - (intOf tv).toNat)
  case atStart => exact ⟨0, S, Nat.zero_le _, rfl, rfl, rfl, rfl, rfl, rfl, rfl, rfl, rfl, rfl, 0, rfl⟩
  case round =>
    obtain ⟨t, s, ht, rfl, hs, rfl, rfl, rfl, rfl, rfl, rfl, rfl, rfl, d5, rfl⟩ := hrel
    have hlt5 : StLt s := hs ▸ rnds_lt _ _ hS t
    by_cases h64 : t < 64
    · have h64i : (t : Int) < 64 := by omega
      have HN : Hid (rnds shaK W S (t + 1) = rnd s (shaK.getD t 0) (W.getD t 0)) := Lib.hid (by rw [hs]; rfl)
      have kc : (w.drewN d5).cell? ⟨bk, ok + t, none⟩ = _ := HK.out t h64
      have wc : (w.drewN d5).cell? ⟨gw, t, none⟩ = _ := HW.out t h64
      have kb : shaK.getD t 0 < 4294967296 := getD_lt (l := shaK) (by decide) (by decide) t
      have wb : W.getD t 0 < 4294967296 := getD_lt hW (by decide) t
      obtain ⟨sa, sb, sc, sd, se, sf, sg, sh⟩ := s
      obtain ⟨la, lb, lc, ld, le, lf, lg, lh⟩ := hlt5
      dsimp only at la lb lc ld le lf lg lh ⊢
      have HNX : Hid (rnds shaK W S (t + 1) = ⟨((sh + big1 se + chs se sf sg + shaK.getD t 0 + W.getD t 0) % 4294967296 + (big0 sa + maj sa sb sc) % 4294967296) % 4294967296, sa, sb, sc, (sd + (sh + big1 se + chs se sf sg + shaK.getD t 0 + W.getD t 0) % 4294967296) % 4294967296, se, sf, sg⟩) := Lib.hid HN.out
      clear HN hs
      generalize shaK.getD t 0 = kt at kc kb HNX
      generalize W.getD t 0 = wt at wc wb HNX
      have t6 := fun w => turn_lit se 6 6 rfl w le (by decide) (by decide)
      have t11 := fun w => turn_lit se 11 11 rfl w le (by decide) (by decide)
      have t25 := fun w => turn_lit se 25 25 rfl w le (by decide) (by decide)
      have t2 := fun w => turn_lit sa 2 2 rfl w la (by decide) (by decide)
      have t13 := fun w => turn_lit sa 13 13 rfl w la (by decide) (by decide)
      have t22 := fun w => turn_lit sa 22 22 rfl w la (by decide) (by decide)
      have e1 := u32_xor_nat (rot se 6) (rot se 11) (rot_lt le) (rot_lt le)
      have e2 : bits .xor .u32 ((rot se 6 ^^^ rot se 11 : Nat) : Int) ((rot se 25 : Nat) : Int) = ((big1 se : Nat) : Int) := u32_xor_nat _ _ (Nat.xor_lt_two_pow (n := 32) (rot_lt le) (rot_lt le)) (rot_lt le)
      have e3 := u32_xor_nat (rot sa 2) (rot sa 13) (rot_lt la) (rot_lt la)
      have e4 : bits .xor .u32 ((rot sa 2 ^^^ rot sa 13 : Nat) : Int) ((rot sa 22 : Nat) : Int) = ((big0 sa : Nat) : Int) := u32_xor_nat _ _ (Nat.xor_lt_two_pow (n := 32) (rot_lt la) (rot_lt la)) (rot_lt la)
      have f1 := u32_and_nat se sf le lf
      have f2 : bits .xor .u32 (if IntKind.u32.signed = true then -1 else IntKind.u32.max) (se : Int) = ((se ^^^ 4294967295 : Nat) : Int) := w32_not se le
      have lne : se ^^^ 4294967295 < 4294967296 := Nat.xor_lt_two_pow (n := 32) le (by decide)
      have f3 := u32_and_nat (se ^^^ 4294967295) sg lne lg
      have f4 : bits .xor .u32 ((se &&& sf : Nat) : Int) (((se ^^^ 4294967295) &&& sg : Nat) : Int) = ((chs se sf sg : Nat) : Int) := u32_xor_nat _ _ (Nat.and_lt_two_pow (n := 32) _ lf) (Nat.and_lt_two_pow (n := 32) _ lg)
      have g1 := u32_and_nat sa sb la lb
      have g2 := u32_and_nat sa sc la lc
      have g3 := u32_and_nat sb sc lb lc
      have g4 := u32_xor_nat (sa &&& sb) (sa &&& sc) (Nat.and_lt_two_pow (n := 32) _ lb) (Nat.and_lt_two_pow (n := 32) _ lc)
      have g5 : bits .xor .u32 ((sa &&& sb ^^^ sa &&& sc : Nat) : Int) ((sb &&& sc : Nat) : Int) = ((maj sa sb sc : Nat) : Int) := u32_xor_nat _ _ (Nat.xor_lt_two_pow (n := 32) (Nat.and_lt_two_pow (n := 32) _ lb) (Nat.and_lt_two_pow (n := 32) _ lc)) (Nat.and_lt_two_pow (n := 32) _ lc)
      generalize big1 se = B1 at e2 HNX
      generalize big0 sa = B0 at e4 HNX
      generalize chs se sf sg = CH at f4 HNX
      generalize maj sa sb sc = MJ at g5 HNX
      generalize rot se 6 ^^^ rot se 11 = z1 at e1 e2
      generalize rot sa 2 ^^^ rot sa 13 = z2 at e3 e4
      generalize rot se 6 = r6 at t6 e1
      generalize rot se 11 = r11 at t11 e1
      generalize rot se 25 = r25 at t25 e2
      generalize rot sa 2 = r2 at t2 e3
      generalize rot sa 13 = r13 at t13 e3
      generalize rot sa 22 = r22 at t22 e4
      generalize sa &&& sb ^^^ sa &&& sc = m4 at g4 g5
      generalize (se ^^^ 4294967295) &&& sg = n3 at f3 f4
      generalize se ^^^ 4294967295 = n2 at f2 f3
      generalize se &&& sf = n1 at f1 f4
      generalize sa &&& sb = m1 at g1 g4
      generalize sa &&& sc = m2 at g2 g4
      generalize sb &&& sc = m3 at g3 g5
      have T6 := Lib.hid t6
      have T11 := Lib.hid t11
      have T25 := Lib.hid t25
      have T2 := Lib.hid t2
      have T13 := Lib.hid t13
      have T22 := Lib.hid t22
      clear t6 t11 t25 t2 t13 t22 HK HW HX hW lne
      generalize hw5 : w.drewN d5 = w5 at kc wc ⊢
      have HW5 := Lib.hid hw5; clear hw5
      go_wp2_with fail
      go_quiet ((go_at_call 47; first | (with_reducible exact Calls.quiet_of_same (T6.out _)) | (with_reducible exact Calls.quiet_of_same (T11.out _)) | (with_reducible exact Calls.quiet_of_same (T25.out _))))
      go_wp2_with fail
      refine (T2.out _).mono ?_
      rintro e w' ⟨rfl, rfl⟩
      go_wp2_with fail
      refine (T13.out _).mono ?_
      rintro e w' ⟨rfl, rfl⟩
      go_wp2_with fail
      refine (T22.out _).mono ?_
      rintro e w' ⟨rfl, rfl⟩
      go_wp2
      go_roundw
      case rel => exact ⟨t + 1, _, by omega, by go_num, HNX.out.symm, u32_eq (by dsimp only; omega), rfl, rfl, rfl, u32_eq (by dsimp only; omega), rfl, rfl, rfl, d5 + nq, by rw [← HW5.out, World.drewN_drewN]⟩
      case measure => simp [intOf]; omega
    · obtain rfl : t = 64 := by omega
      go_wp2
      exact HX.out _ _ _ _ _ _ _ _ _ _ _ _ _ _ _ _ _ _ _ _ _ _ _ _ _ _ _ _ _ _ _ _ _ _ _ _ _ _ _ _ _ _ _ _ _ _ _ _ _ _ _ _ _ _ _ _ _ _ _ _ _ _ _ _ _ _ _ d5 s hs

end Go.Proofs.YtgnalcobcdgnkaaGreatDoor

namespace Go.Proofs.YtgnalcobcdgnkaaGreatDoor
open Go.RowKit

/-- The first t numbers, and noughts up to 64. -/
def fill64 (W : Nat → Nat) (t : Nat) : Array Value := ((List.range 64).map fun j => Value.int .u32 (((if j < t then W j else 0) : Nat) : Int)).toArray
theorem fill64_size (W : Nat → Nat) (t : Nat) : (fill64 W t).size = 64 := by simp [fill64]
theorem fill64_get (W : Nat → Nat) (t j : Nat) (h : j < 64) : (fill64 W t)[j]? = some (.int .u32 (((if j < t then W j else 0) : Nat) : Int)) := by
  simp [fill64, h]
theorem fill64_set (W : Nat → Nat) (t : Nat) (h : t < 64) : (fill64 W t).setIfInBounds t (.int .u32 ((W t : Nat) : Int)) = fill64 W (t + 1) := by
  apply Array.ext_getElem?
  intro j
  by_cases hj : j < 64
  · rw [Array.getElem?_setIfInBounds, fill64_get W (t + 1) j hj, fill64_get W t j hj]
    by_cases he : t = j
    · subst he
      rw [if_pos rfl, if_pos (by rw [fill64_size]; exact h), if_pos (by omega)]
    · rw [if_neg he]
      by_cases h1 : j < t
      · rw [if_pos h1, if_pos (by omega)]
      · rw [if_neg h1, if_neg (by omega)]
  · rw [Array.getElem?_eq_none (by rw [Array.size_setIfInBounds, fill64_size]; omega), Array.getElem?_eq_none (by rw [fill64_size]; omega)]

/-- Number t of a block's words. -/
def wf (b : List Nat) (t : Nat) : Nat := wordNext b 0 (words b 0 t) t
theorem words_get (b : List Nat) : ∀ t j, j < t → (words b 0 t).getD j 0 = wf b j
  | t + 1, j, h => by
    have e : words b 0 (t + 1) = words b 0 t ++ [wordNext b 0 (words b 0 t) t] := rfl
    rw [e, List.getD_eq_getElem?_getD]
    by_cases hj : j < t
    · rw [List.getElem?_append_left (by rw [words_length]; exact hj), ← List.getD_eq_getElem?_getD]
      exact words_get b t j hj
    · obtain rfl : j = t := by omega
      rw [List.getElem?_append_right (by rw [words_length]; exact Nat.le_refl _), words_length, Nat.sub_self]
      rfl
theorem fill64_all (b : List Nat) : fill64 (wf b) 64 = (vals .u32 (words b 0 64)).toArray := by
  apply Array.ext_getElem?
  intro j
  by_cases hj : j < 64
  · rw [fill64_get _ _ _ hj, List.getElem?_toArray, vals_get _ _ _ (by rw [words_length]; exact hj), words_get b 64 j hj, if_pos hj]
  · rw [Array.getElem?_eq_none (by rw [fill64_size]; omega), Array.getElem?_eq_none (by rw [List.size_toArray, vals_length, words_length]; omega)]
theorem wf_lt {b : List Nat} (h : ∀ y ∈ b, y < 256) (t : Nat) : wf b t < 4294967296 := by
  unfold wf wordNext
  split
  · exact wordAt_lt h 0 t
  · exact Nat.mod_lt _ (by decide)
theorem fill64_zero (W : Nat → Nat) : fill64 W 0 = Array.replicate 64 (.int .u32 0) := by
  simp [fill64]
  rfl

/-- The blocks of a call of words: the block, the answer, the words. -/
structure Wd (w wr : World) (b : List Nat) (t : Nat) : Prop where
  below : Below w.heap.size w wr
  size : w.heap.size + 3 ≤ wr.heap.size
  src : wr.heap[w.heap.size]? = some (.cells (vals .u8 b).toArray 116 (0, 0))
  res : wr.heap[w.heap.size + 1]? = some (.cells (Array.replicate 64 (.int .u32 0)) 118 (0, 0))
  row : wr.heap[w.heap.size + 1 + 1]? = some (.cells (fill64 (wf b) t) 118 (0, 0))

theorem Wd.byte {w wr : World} {b : List Nat} {t : Nat} (h : Wd w wr b t) (i : Nat) (hi : i < b.length) : wr.cell? ⟨w.heap.size, i, none⟩ = some (.int .u8 ((b.getD i 0 : Nat) : Int)) := by
  have := vals_get .u8 b i hi
  simpa [World.cell?, h.src] using this
theorem Wd.word {w wr : World} {b : List Nat} {t : Nat} (h : Wd w wr b t) (i : Nat) (hi : i < 64) : wr.cell? ⟨w.heap.size + 1 + 1, i, none⟩ = some (.int .u32 (((if i < t then wf b i else 0) : Nat) : Int)) := by
  have := fill64_get (wf b) t i hi
  simpa [World.cell?, h.row] using this
theorem Wd.free {w wr : World} {b : List Nat} {t : Nat} (h : Wd w wr b t) (i : Nat) : wr.frozen? ⟨w.heap.size + 1 + 1, i, none⟩ = false := by simp [World.frozen?, h.row]
theorem Wd.drew {w wr : World} {b : List Nat} {t : Nat} (h : Wd w wr b t) : Wd w wr.drew b t := ⟨h.below.drew, h.size, h.src, h.res, h.row⟩
theorem Wd.drewN {w wr : World} {b : List Nat} {t : Nat} (h : Wd w wr b t) (n : Nat) : Wd w (wr.drewN n) b t := ⟨⟨h.below.os, h.below.tape, h.below.output, h.below.size, h.below.block⟩, h.size, h.src, h.res, h.row⟩
theorem heap_setCell_row (w : World) (g i : Nat) (cs : Array Value) (t : TypeId) (v : Value) (hg : w.heap[g]? = some (.cells cs t (0, 0))) : (w.setCell ⟨g, i, none⟩ v).heap[g]? = some (.cells (cs.setIfInBounds i v) t (0, 0)) := by
  rw [setCell_eq_setRow w g i cs t (0, 0) v hg]
  exact setRow_heap w g cs _ t (0, 0) hg
theorem Wd.set {w wr : World} {b : List Nat} {t : Nat} (h : Wd w wr b t) (ht : t < 64) {x : Int} (hx : x = ((wf b t : Nat) : Int)) : Wd w (wr.setCell ⟨w.heap.size + 1 + 1, t, none⟩ (.int .u32 x)) b (t + 1) := by
  subst hx
  refine ⟨h.below.setCell (by show w.heap.size ≤ w.heap.size + 1 + 1; omega) _, by have := h.size; simpa [World.setCell] using this, ?_, ?_, ?_⟩
  · rw [Below.heap_setCell _ _ _ _ (by show w.heap.size ≠ w.heap.size + 1 + 1; omega)]; exact h.src
  · rw [Below.heap_setCell _ _ _ _ (by show w.heap.size + 1 ≠ w.heap.size + 1 + 1; omega)]; exact h.res
  · rw [heap_setCell_row _ _ _ _ _ _ h.row, fill64_set _ _ ht]

theorem Wd.new (w : World) (b : List Nat) : Wd w (((w.alloc (.cells (vals .u8 b).toArray 116)).alloc (.cells (Array.replicate 64 (.int .u32 0)) 118)).alloc (.cells (Array.replicate 64 (.int .u32 0)) 118)) b 0 := by
  have h1 := heap_alloc_new w (.cells (vals .u8 b).toArray 116)
  generalize hw1 : w.alloc (.cells (vals .u8 b).toArray 116) = w1 at h1 ⊢
  have s1 : w1.heap.size = w.heap.size + 1 := by rw [← hw1]; simp
  have b1 : Below w.heap.size w w1 := by rw [← hw1]; exact (Below.refl _ _).alloc (Nat.le_refl _) _
  have h2 := heap_alloc_new w1 (.cells (Array.replicate 64 (.int .u32 0)) 118)
  generalize hw2 : w1.alloc (.cells (Array.replicate 64 (.int .u32 0)) 118) = w2 at h2 ⊢
  have s2 : w2.heap.size = w.heap.size + 1 + 1 := by rw [← hw2]; simp [s1]
  have k1 : w2.heap[w.heap.size]? = some (.cells (vals .u8 b).toArray 116 (0, 0)) := by rw [← hw2, Below.heap_alloc _ _ _ (by omega)]; exact h1
  have b2 : Below w.heap.size w w2 := by rw [← hw2]; exact b1.alloc (by omega) _
  have h3 := heap_alloc_new w2 (.cells (Array.replicate 64 (.int .u32 0)) 118)
  rw [s1] at h2
  rw [s2] at h3
  refine ⟨b2.alloc (by omega) _, by simp; omega, ?_, ?_, ?_⟩
  · rw [Below.heap_alloc _ _ _ (by omega)]; exact k1
  · rw [Below.heap_alloc _ _ _ (by omega)]; exact h2
  · rw [fill64_zero]; exact h3

theorem or_sum (a b : Nat) (k : Nat) (hb : b < 2 ^ k) : a * 2 ^ k ||| b = a * 2 ^ k + b := by
  rw [Nat.mul_comm, Nat.two_pow_add_eq_or_of_lt hb]

set_option maxHeartbeats 2000000 in
set_option maxRecDepth 100000 in
theorem words_any (b : List Nat) (w : World) (hb : ∀ y ∈ b, y < 256) (hl : b.length = 64) :
    Calls Tryz.prog 58 #[.agg (vals .u8 b).toArray] w fun e w' => e = .returned (.agg (vals .u32 (words b 0 64)).toArray) ∧ Below w.heap.size w w' := by
  go_enter Tryz.func58, Tryz.ntmps58
  go_wp2
  have hz := Wd.new w b
  rw [show (Array.replicate 64 (Value.int .u32 0)) = _ from rfl] at hz
  go_loopw [9] (fun iv wr => ∃ t : Nat, t ≤ 16 ∧ iv = .int .i64 (t : Int) ∧ Wd w wr b t) (fun iv _ => 16 - (intOf iv).toNat)
  case atStart => exact ⟨0, Nat.zero_le _, rfl, hz⟩
  case round =>
    clear hz
    obtain ⟨t, ht, rfl, hd⟩ := hrel
    have HD := Lib.hid hd
    by_cases hlt : t < 16
    · have hlti : (t : Int) < 16 := by omega
      obtain ⟨q, hq⟩ : ∃ q, q = 4 * t := ⟨_, rfl⟩
      have HQ : Hid ((t : Int) * 4 = (q : Int)) := Lib.hid (by omega)
      have d0 := hd.byte q (by omega)
      have d1 := hd.byte (q + 1) (by omega)
      have d2 := hd.byte (q + 2) (by omega)
      have d3 := hd.byte (q + 3) (by omega)
      have b0 := getD_lt hb (by decide) q
      have b1 := getD_lt hb (by decide) (q + 1)
      have b2 := getD_lt hb (by decide) (q + 2)
      have b3 := getD_lt hb (by decide) (q + 3)
      have hfz := hd.free t
      have hcl := hd.word t (by omega)
      rw [if_neg (by omega)] at hcl
      have hw0 : Hid (wf b t = b.getD q 0 * 16777216 + b.getD (q + 1) 0 * 65536 + b.getD (q + 2) 0 * 256 + b.getD (q + 3) 0) := Lib.hid (by unfold wf wordNext; rw [if_pos hlt, hq]; unfold wordAt; simp only [Nat.zero_add])
      have i0 : (q : Int) < 64 := by omega
      have i1 : (q : Int) + 1 < 64 := by omega
      have i2 : (q : Int) + 2 < 64 := by omega
      have i3 : (q : Int) + 3 < 64 := by omega
      have j0 : (0 : Int) ≤ (q : Int) := by omega
      have j1 : (0 : Int) ≤ (q : Int) + 1 := by omega
      have j2 : (0 : Int) ≤ (q : Int) + 2 := by omega
      have j3 : (0 : Int) ≤ (q : Int) + 3 := by omega
      have t0 : (0 : Int) ≤ (t : Int) := by omega
      have t64 : (t : Int) < 64 := by omega
      have w1 : IntKind.i64.wrap ((q : Int) + 1) = (q : Int) + 1 := IntWalk.i64_in _ (by omega)
      have w2 : IntKind.i64.wrap ((q : Int) + 2) = (q : Int) + 2 := IntWalk.i64_in _ (by omega)
      have w3 : IntKind.i64.wrap ((q : Int) + 3) = (q : Int) + 3 := IntWalk.i64_in _ (by omega)
      have n1 : ((q : Int) + 1).toNat = q + 1 := by omega
      have n2 : ((q : Int) + 2).toNat = q + 2 := by omega
      have n3 : ((q : Int) + 3).toNat = q + 3 := by omega
      generalize b.getD q 0 = x0 at d0 b0 hw0
      generalize b.getD (q + 1) 0 = x1 at d1 b1 hw0
      generalize b.getD (q + 2) 0 = x2 at d2 b2 hw0
      generalize b.getD (q + 3) 0 = x3 at d3 b3 hw0
      have HV : Hid (bits .or .u32 (bits .or .u32 (bits .or .u32 ((x0 : Int) * 16777216) ((x1 : Int) * 65536)) ((x2 : Int) * 256)) (x3 : Int) = ((wf b t : Nat) : Int)) := Lib.hid (by
        rw [hw0.out]
        have c1 : (x0 : Int) * 16777216 = ((x0 * 16777216 : Nat) : Int) := by omega
        have c2 : (x1 : Int) * 65536 = ((x1 * 65536 : Nat) : Int) := by omega
        have c3 : (x2 : Int) * 256 = ((x2 * 256 : Nat) : Int) := by omega
        rw [c1, c2, c3, u32_or_nat _ _ (by omega) (by omega), show x0 * 16777216 ||| x1 * 65536 = x0 * 16777216 + x1 * 65536 from or_sum x0 (x1 * 65536) 24 (by omega)]
        rw [u32_or_nat _ _ (by omega) (by omega), show x0 * 16777216 + x1 * 65536 ||| x2 * 256 = x0 * 16777216 + x1 * 65536 + x2 * 256 from by
          have := or_sum (x0 * 256 + x1) (x2 * 256) 16 (by omega)
          rw [show (x0 * 256 + x1) * 2 ^ 16 = x0 * 16777216 + x1 * 65536 from by omega] at this
          exact this]
        rw [u32_or_nat _ _ (by omega) (by omega), show x0 * 16777216 + x1 * 65536 + x2 * 256 ||| x3 = x0 * 16777216 + x1 * 65536 + x2 * 256 + x3 from by
          have := or_sum (x0 * 65536 + x1 * 256 + x2) x3 8 (by omega)
          rw [show (x0 * 65536 + x1 * 256 + x2) * 2 ^ 8 = x0 * 16777216 + x1 * 65536 + x2 * 256 from by omega] at this
          exact this])
      clear hd hq
      go_wp2_with fail
      rw [HQ.out]
      go_still_tail 27, (by kernel_rfl)
      go_wp2
      go_roundw
      case rel =>
        exact ⟨t + 1, by omega, by go_num, (HD.out.set (by omega) HV.out).drew⟩
      case measure => simp [intOf]; omega
    · have hti : (t : Int) = 16 := by omega
      have h16 : t = 16 := by omega
      have h0 := HD.out
      rw [h16] at h0
      rw [hti]
      clear hti h16 ht
      generalize wr = w0 at h0 ⊢
      clear hlt hd HD
      go_wp2
      go_loopw [6] (fun iv wr => ∃ t : Nat, 16 ≤ t ∧ t ≤ 64 ∧ iv = .int .i64 (t : Int) ∧ Wd w wr b t) (fun iv _ => 64 - (intOf iv).toNat)
      case atStart => exact ⟨16, by omega, by omega, rfl, h0⟩
      case round =>
        clear h0
        obtain ⟨t, ht16, ht, rfl, hd⟩ := hrel
        have HD := Lib.hid hd
        by_cases hlt : t < 64
        · have hlti : (t : Int) < 64 := by omega
          have d15 := hd.word (t - 15) (by omega)
          have d2 := hd.word (t - 2) (by omega)
          have d16 := hd.word (t - 16) (by omega)
          have d7 := hd.word (t - 7) (by omega)
          rw [if_pos (by omega)] at d15 d2 d16 d7
          have hfz := hd.free t
          have hcl := hd.word t (by omega)
          rw [if_neg (by omega)] at hcl
          have t0 : (0 : Int) ≤ (t : Int) := by omega
          have i15 : (t : Int) - 15 < 64 := by omega
          have i2 : (t : Int) - 2 < 64 := by omega
          have i16 : (t : Int) - 16 < 64 := by omega
          have i7 : (t : Int) - 7 < 64 := by omega
          have j15 : (0 : Int) ≤ (t : Int) - 15 := by omega
          have j2 : (0 : Int) ≤ (t : Int) - 2 := by omega
          have j16 : (0 : Int) ≤ (t : Int) - 16 := by omega
          have j7 : (0 : Int) ≤ (t : Int) - 7 := by omega
          have n15 : ((t : Int) - 15).toNat = t - 15 := by omega
          have n2 : ((t : Int) - 2).toNat = t - 2 := by omega
          have n16 : ((t : Int) - 16).toNat = t - 16 := by omega
          have n7 : ((t : Int) - 7).toNat = t - 7 := by omega
          have k7 : (7 : Int) ≤ (t : Int) := by omega
          have k15 : (15 : Int) ≤ (t : Int) := by omega
          have k2 : (2 : Int) ≤ (t : Int) := by omega
          have k16 : (16 : Int) ≤ (t : Int) := by omega
          have m16 : IntKind.i64.wrap ((t : Int) - 16) = (t : Int) - 16 := IntWalk.i64_in _ (by omega)
          have m7 : IntKind.i64.wrap ((t : Int) - 7) = (t : Int) - 7 := IntWalk.i64_in _ (by omega)
          have m15 : IntKind.i64.wrap ((t : Int) - 15) = (t : Int) - 15 := IntWalk.i64_in _ (by omega)
          have m2 : IntKind.i64.wrap ((t : Int) - 2) = (t : Int) - 2 := IntWalk.i64_in _ (by omega)
          have h15 := wf_lt hb (t - 15)
          have h2 := wf_lt hb (t - 2)
          have h16 := wf_lt hb (t - 16)
          have h7 := wf_lt hb (t - 7)
          have HWN : Hid (wf b t = (wf b (t - 16) + wf b (t - 7) + sig0 (wf b (t - 15)) + sig1 (wf b (t - 2))) % 4294967296) := Lib.hid (by
            rw [← words_get b t (t - 16) (by omega), ← words_get b t (t - 7) (by omega), ← words_get b t (t - 15) (by omega), ← words_get b t (t - 2) (by omega)]
            unfold wf wordNext; rw [if_neg (by omega)]; rfl)
          generalize wf b (t - 15) = x15 at d15 h15 HWN
          generalize wf b (t - 2) = x2 at d2 h2 HWN
          generalize wf b (t - 16) = x16 at d16 h16 HWN
          generalize wf b (t - 7) = x7 at d7 h7 HWN
          have e1 := u32_xor_nat (rot x15 7) (rot x15 18) (rot_lt h15) (rot_lt h15)
          have q1 : (x15 : Int) / 8 = ((x15 / 8 : Nat) : Int) := by omega
          have e2 : bits .xor .u32 ((rot x15 7 ^^^ rot x15 18 : Nat) : Int) ((x15 : Int) / 8) = ((sig0 x15 : Nat) : Int) := by rw [q1]; exact u32_xor_nat _ _ (Nat.xor_lt_two_pow (n := 32) (rot_lt h15) (rot_lt h15)) (by omega)
          have e3 := u32_xor_nat (rot x2 17) (rot x2 19) (rot_lt h2) (rot_lt h2)
          have q2 : (x2 : Int) / 1024 = ((x2 / 1024 : Nat) : Int) := by omega
          have e4 : bits .xor .u32 ((rot x2 17 ^^^ rot x2 19 : Nat) : Int) ((x2 : Int) / 1024) = ((sig1 x2 : Nat) : Int) := by rw [q2]; exact u32_xor_nat _ _ (Nat.xor_lt_two_pow (n := 32) (rot_lt h2) (rot_lt h2)) (by omega)
          have t1 := fun w => pturn_lit x15 7 7 rfl w h15 (by decide) (by decide)
          have t2 := fun w => pturn_lit x15 18 18 rfl w h15 (by decide) (by decide)
          have t3 := fun w => pturn_lit x2 17 17 rfl w h2 (by decide) (by decide)
          have t4 := fun w => pturn_lit x2 19 19 rfl w h2 (by decide) (by decide)
          clear q1 q2
          generalize sig0 x15 = g0 at e2 HWN
          generalize sig1 x2 = g1 at e4 HWN
          generalize rot x15 7 ^^^ rot x15 18 = z1 at e1 e2
          generalize rot x2 17 ^^^ rot x2 19 = z2 at e3 e4
          generalize rot x15 7 = y1 at e1 t1
          generalize rot x15 18 = y2 at e1 t2
          generalize rot x2 17 = y3 at e3 t3
          generalize rot x2 19 = y4 at e3 t4
          have T1 := Lib.hid t1
          have T2 := Lib.hid t2
          have T3 := Lib.hid t3
          have T4 := Lib.hid t4
          have D16 := Lib.hid d16
          have D7 := Lib.hid d7
          have HCL := Lib.hid hcl
          have HFZ := Lib.hid hfz
          clear hd t1 t2 t3 t4 d16 d7 hcl hfz
          go_wp2_with fail
          go_quiet (fail)
          go_wp2_with fail
          refine (T1.out _).mono ?_
          rintro e w' ⟨rfl, rfl⟩
          go_wp2_with fail
          refine (T2.out _).mono ?_
          rintro e w' ⟨rfl, rfl⟩
          go_wp2_with fail
          refine (T3.out _).mono ?_
          rintro e w' ⟨rfl, rfl⟩
          go_wp2_with fail
          refine (T4.out _).mono ?_
          rintro e w' ⟨rfl, rfl⟩
          go_wp2_with fail
          have s16 : (wr.drewN nq).cell? ⟨w.heap.size + 1 + 1, t - 16, none⟩ = _ := D16.out
          have s7 : (wr.drewN nq).cell? ⟨w.heap.size + 1 + 1, t - 7, none⟩ = _ := D7.out
          have sc : (wr.drewN nq).cell? ⟨w.heap.size + 1 + 1, t, none⟩ = _ := HCL.out
          have sf : (wr.drewN nq).frozen? ⟨w.heap.size + 1 + 1, t, none⟩ = _ := HFZ.out
          have HD5 := Lib.hid (HD.out.drewN nq)
          generalize wr.drewN nq = w5 at s16 s7 sc sf HD5 ⊢
          clear HD D16 D7 HCL HFZ e1 e2 e3 e4
          go_still_tail 15, (by kernel_rfl)
          go_wp2
          go_roundw
          case rel =>
            exact ⟨t + 1, by omega, by omega, by go_num, (HD5.out.set (by omega) (by rw [HWN.out]; (try simp only [IntKind.wrap_u32]); omega)).drew⟩
          case measure => simp [intOf]; omega
        · obtain rfl : t = 64 := by omega
          have hW : fill64 (wf b) 64 = (vals .u32 (words b 0 64)).toArray := fill64_all b
          have hrow : wr.heap[w.heap.size + 1 + 1]? = some (.cells (vals .u32 (words b 0 64)).toArray 118 (0, 0)) := by rw [← hW]; exact hd.row
          have hres := hd.res
          have hbel := hd.below
          have hsz := hd.size
          have hA : (vals .u32 (words b 0 64)).toArray.size = 64 := by rw [List.size_toArray, vals_length, words_length]
          have hAs : (Tryz.prog.info? 118).map (·.size) = some (vals .u32 (words b 0 64)).toArray.size := by rw [hA]; kernel_rfl
          have hA1 : (vals .u32 (words b 0 64)).toArray.all (·.oneCell') = true := by
            rw [Array.all_eq_true_iff_forall_mem]
            intro u hu
            exact vals_oneCell _ _ u (by simpa using hu)
          have hAz : (Array.replicate 64 (Value.int .u32 0)).size = (vals .u32 (words b 0 64)).toArray.size := by rw [hA]; exact Array.size_replicate
          generalize hAe : (vals .u32 (words b 0 64)).toArray = A at hrow hAs hA1 hAz
          have HAE := Lib.hid hAe; clear hAe
          have HR := Lib.hid hrow
          have HS := Lib.hid hres
          have HB := Lib.hid hbel
          clear hd HD hrow hres hbel hW hA
          go_wp2_with (first
            | ((with_reducible show wpList _ _ _ (Oper.mk (some 85) _ _ _ _ _ :: _) _ _); refine wpList_load_row rfl 118 (.tmp 3) rfl (w.heap.size + 1 + 1) rfl _ A _ _ HR.out Tryz.underlying118 rfl hAs ?_)
            | ((with_reducible show wpList _ _ _ (Oper.mk none _ _ _ _ _ :: _) _ _); refine wpList_store_row rfl 118 (.tmp 2) (.tmp 85) rfl (w.heap.size + 1) A rfl rfl _ _ HS.out hAs hAz hA1 ?_))
          refine bodyPost_ret (results_cell_row rfl _ _ (w.heap.size + 1) _ A _ _ rfl (setRow_heap _ _ _ _ _ _ HS.out) Tryz.underlying118 rfl hAs) rfl ?_
          exact ⟨by rw [HAE.out], HB.out.trans ⟨rfl, rfl, rfl, by simp [World.setRow], fun k hk => setRow_other _ _ k _ (by omega)⟩⟩

end Go.Proofs.YtgnalcobcdgnkaaGreatDoor

namespace Go.Proofs.YtgnalcobcdgnkaaGreatDoor
open Go.RowKit

/-- The program's table of constants, and its first state, lie where they were laid. -/
structure Laid (w : World) : Prop where
  size : 2 ≤ w.heap.size
  k : ∀ i, i < 64 → w.cell? ⟨1, i, none⟩ = some (.int .u32 ((shaK.getD i 0 : Nat) : Int))
  h : ∃ t fr, w.heap[0]? = some (.cells (vals .u32 shaH).toArray t fr)
theorem Laid.below {B : Nat} {w w' : World} (h : Laid w) (hb : Below B w w') (hB : 2 ≤ B) : Laid w' :=
  ⟨Nat.le_trans h.size hb.size, fun i hi => (hb.cell (p := ⟨1, i, none⟩) (by show (1 : Nat) < B; omega)).trans (h.k i hi), by rw [hb.block 0 (by omega)]; exact h.h⟩
theorem Laid.next {w w' : World} (h : Laid w) (hb : Below w.heap.size w w') : Laid w' := h.below hb h.size
theorem Laid.drewN {w : World} (h : Laid w) (n : Nat) : Laid (w.drewN n) := ⟨h.size, h.k, h.h⟩
theorem Laid.drew {w : World} (h : Laid w) : Laid w.drew := ⟨h.size, h.k, h.h⟩

theorem cell_of_row {w : World} {g : Nat} {k : IntKind} {l : List Nat} {t : TypeId} {fr : Nat × Nat} (h : w.heap[g]? = some (.cells (vals k l).toArray t fr)) (i : Nat) (hi : i < l.length) : w.cell? ⟨g, i, none⟩ = some (.int k ((l.getD i 0 : Nat) : Int)) := by
  have := vals_get k l i hi
  simpa [World.cell?, h] using this

def zeros8 : Array Value := #[.int .u32 0, .int .u32 0, .int .u32 0, .int .u32 0, .int .u32 0, .int .u32 0, .int .u32 0, .int .u32 0]
/-- The blocks of a call of behind: the state, the words, the answer. -/
structure Bd (w wr : World) (S W : List Nat) : Prop where
  below : Below w.heap.size w wr
  size : w.heap.size + 3 ≤ wr.heap.size
  st : wr.heap[w.heap.size]? = some (.cells (vals .u32 S).toArray 108 (0, 0))
  ws : wr.heap[w.heap.size + 1]? = some (.cells (vals .u32 W).toArray 118 (0, 0))
  res : wr.heap[w.heap.size + 1 + 1]? = some (.cells zeros8 108 (0, 0))
theorem Bd.drewN {w wr : World} {S W : List Nat} (h : Bd w wr S W) (n : Nat) : Bd w (wr.drewN n) S W := ⟨⟨h.below.os, h.below.tape, h.below.output, h.below.size, h.below.block⟩, h.size, h.st, h.ws, h.res⟩
theorem Bd.new (w : World) (S W : List Nat) : Bd w (((w.alloc (.cells (vals .u32 S).toArray 108)).alloc (.cells (vals .u32 W).toArray 118)).alloc (.cells zeros8 108)) S W := by
  have h1 := heap_alloc_new w (.cells (vals .u32 S).toArray 108)
  generalize hw1 : w.alloc (.cells (vals .u32 S).toArray 108) = w1 at h1 ⊢
  have s1 : w1.heap.size = w.heap.size + 1 := by rw [← hw1]; simp
  have b1 : Below w.heap.size w w1 := by rw [← hw1]; exact (Below.refl _ _).alloc (Nat.le_refl _) _
  have h2 := heap_alloc_new w1 (.cells (vals .u32 W).toArray 118)
  generalize hw2 : w1.alloc (.cells (vals .u32 W).toArray 118) = w2 at h2 ⊢
  have s2 : w2.heap.size = w.heap.size + 1 + 1 := by rw [← hw2]; simp [s1]
  have k1 : w2.heap[w.heap.size]? = some (.cells (vals .u32 S).toArray 108 (0, 0)) := by rw [← hw2, Below.heap_alloc _ _ _ (by omega)]; exact h1
  have b2 : Below w.heap.size w w2 := by rw [← hw2]; exact b1.alloc (by omega) _
  have h3 := heap_alloc_new w2 (.cells zeros8 108)
  rw [s1] at h2
  rw [s2] at h3
  refine ⟨b2.alloc (by omega) _, by simp; omega, ?_, ?_, ?_⟩
  · rw [Below.heap_alloc _ _ _ (by omega)]; exact k1
  · rw [Below.heap_alloc _ _ _ (by omega)]; exact h2
  · exact h3

theorem nat_sum (x s : Nat) : ((x : Int) + (s : Int)) % 4294967296 = (((x + s) % 4294967296 : Nat) : Int) := by omega
theorem agg8 (x0 x1 x2 x3 x4 x5 x6 x7 sa sb sc sd se sf sg sh : Nat) : (Value.agg #[.int .u32 (((x0 : Int) + (sa : Int)) % 4294967296), .int .u32 (((x1 : Int) + (sb : Int)) % 4294967296), .int .u32 (((x2 : Int) + (sc : Int)) % 4294967296), .int .u32 (((x3 : Int) + (sd : Int)) % 4294967296), .int .u32 (((x4 : Int) + (se : Int)) % 4294967296), .int .u32 (((x5 : Int) + (sf : Int)) % 4294967296), .int .u32 (((x6 : Int) + (sg : Int)) % 4294967296), .int .u32 (((x7 : Int) + (sh : Int)) % 4294967296)]) = .agg (vals .u32 [(x0 + sa) % 4294967296, (x1 + sb) % 4294967296, (x2 + sc) % 4294967296, (x3 + sd) % 4294967296, (x4 + se) % 4294967296, (x5 + sf) % 4294967296, (x6 + sg) % 4294967296, (x7 + sh) % 4294967296]).toArray := by
  simp only [nat_sum]
  rfl
theorem srow_one (k : IntKind) (l : List Nat) : (vals k l).toArray.all (·.oneCell') = true := by
  rw [Array.all_eq_true_iff_forall_mem]
  intro u hu
  exact vals_oneCell _ _ u (by simpa using hu)

theorem getD_bd {l : List Nat} (h : ∀ y ∈ l, y < 4294967296) (i : Nat) : l.getD i 0 < 4294967296 := getD_lt h (by decide) i

set_option maxHeartbeats 4000000 in
set_option maxRecDepth 1000000 in
theorem behind_aux (S W A : List Nat) (w : World) (HA : Hid (A = addSt S (rnds shaK W (stOf S) 64))) (hS : ∀ y ∈ S, y < 4294967296) (hSl : S.length = 8) (hW : ∀ y ∈ W, y < 4294967296) (hWl : W.length = 64) (hk : Laid w) :
    Calls Tryz.prog 57 #[.agg (vals .u32 S).toArray, .agg (vals .u32 W).toArray] w fun e w' => e = .returned (.agg (vals .u32 A).toArray) ∧ Below w.heap.size w w' := by
  go_enter Tryz.func57, Tryz.ntmps57
  go_wp2
  have hz := Bd.new w S W
  unfold zeros8 at hz
  generalize hwz : ((w.alloc (.cells (vals .u32 S).toArray 108)).alloc (.cells (vals .u32 W).toArray 118)).alloc (.cells #[Value.int .u32 0, Value.int .u32 0, Value.int .u32 0, Value.int .u32 0, Value.int .u32 0, Value.int .u32 0, Value.int .u32 0, Value.int .u32 0] 108) = wz at hz ⊢
  have hLD : Laid wz := hk.next hz.below
  have f0 := cell_of_row hz.st 0 (by omega)
  have f1 := cell_of_row hz.st 1 (by omega)
  have f2 := cell_of_row hz.st 2 (by omega)
  have f3 := cell_of_row hz.st 3 (by omega)
  have f4 := cell_of_row hz.st 4 (by omega)
  have f5 := cell_of_row hz.st 5 (by omega)
  have f6 := cell_of_row hz.st 6 (by omega)
  have f7 := cell_of_row hz.st 7 (by omega)
  have hst := stOf_lt hS
  have HADD : Hid (∀ s : St, s = rnds shaK W ⟨S.getD 0 0, S.getD 1 0, S.getD 2 0, S.getD 3 0, S.getD 4 0, S.getD 5 0, S.getD 6 0, S.getD 7 0⟩ 64 → A = [(S.getD 0 0 + s.a) % 4294967296, (S.getD 1 0 + s.b) % 4294967296, (S.getD 2 0 + s.c) % 4294967296, (S.getD 3 0 + s.d) % 4294967296, (S.getD 4 0 + s.e) % 4294967296, (S.getD 5 0 + s.f) % 4294967296, (S.getD 6 0 + s.g) % 4294967296, (S.getD 7 0 + s.h) % 4294967296]) := Lib.hid (fun s hs => by rw [HA.out, hs]; rfl)
  have hSTE : stOf S = ⟨S.getD 0 0, S.getD 1 0, S.getD 2 0, S.getD 3 0, S.getD 4 0, S.getD 5 0, S.getD 6 0, S.getD 7 0⟩ := rfl
  have HST : Hid (StLt ⟨S.getD 0 0, S.getD 1 0, S.getD 2 0, S.getD 3 0, S.getD 4 0, S.getD 5 0, S.getD 6 0, S.getD 7 0⟩) := Lib.hid (by rw [← hSTE]; exact hst)
  have b0 := getD_bd hS 0
  have b1 := getD_bd hS 1
  have b2 := getD_bd hS 2
  have b3 := getD_bd hS 3
  have b4 := getD_bd hS 4
  have b5 := getD_bd hS 5
  have b6 := getD_bd hS 6
  have b7 := getD_bd hS 7
  have HZ := Lib.hid hz
  have HLD := Lib.hid hLD
  clear hSTE hst hz hLD hk hwz
  generalize S.getD 0 0 = x0 at f0 b0 HST HADD
  generalize S.getD 1 0 = x1 at f1 b1 HST HADD
  generalize S.getD 2 0 = x2 at f2 b2 HST HADD
  generalize S.getD 3 0 = x3 at f3 b3 HST HADD
  generalize S.getD 4 0 = x4 at f4 b4 HST HADD
  generalize S.getD 5 0 = x5 at f5 b5 HST HADD
  generalize S.getD 6 0 = x6 at f6 b6 HST HADD
  generalize S.getD 7 0 = x7 at f7 b7 HST HADD
  go_wp2_with fail
  go_quiet (fail)
  go_wp2
  have HZ1 := Lib.hid (HZ.out.drewN nq)
  have HLD1 := Lib.hid (HLD.out.drewN nq)
  have k0 : (wz.drewN nq).cell? ⟨w.heap.size, 0, none⟩ = _ := f0
  have k1 : (wz.drewN nq).cell? ⟨w.heap.size, 1, none⟩ = _ := f1
  have k2 : (wz.drewN nq).cell? ⟨w.heap.size, 2, none⟩ = _ := f2
  have k3 : (wz.drewN nq).cell? ⟨w.heap.size, 3, none⟩ = _ := f3
  have k4 : (wz.drewN nq).cell? ⟨w.heap.size, 4, none⟩ = _ := f4
  have k5 : (wz.drewN nq).cell? ⟨w.heap.size, 5, none⟩ = _ := f5
  have k6 : (wz.drewN nq).cell? ⟨w.heap.size, 6, none⟩ = _ := f6
  have k7 : (wz.drewN nq).cell? ⟨w.heap.size, 7, none⟩ = _ := f7
  generalize wz.drewN nq = w1 at HZ1 HLD1 k0 k1 k2 k3 k4 k5 k6 k7 ⊢
  clear f0 f1 f2 f3 f4 f5 f6 f7 HZ HLD
  have KF := Lib.hid (And.intro k0 (And.intro k1 (And.intro k2 (And.intro k3 (And.intro k4 (And.intro k5 (And.intro k6 k7)))))))
  clear k0 k1 k2 k3 k4 k5 k6 k7
  go_loopw [5, 6, 7, 8, 9, 10, 11, 12, 34] (fun va vb vc vd ve vf vg vh tv wr => ∃ (t : Nat) (s : St), t ≤ 64 ∧ tv = .int .i64 (t : Int) ∧ s = rnds shaK W ⟨x0, x1, x2, x3, x4, x5, x6, x7⟩ t ∧ va = .int .u32 (s.a : Int) ∧ vb = .int .u32 (s.b : Int) ∧ vc = .int .u32 (s.c : Int) ∧ vd = .int .u32 (s.d : Int) ∧ ve = .int .u32 (s.e : Int) ∧ vf = .int .u32 (s.f : Int) ∧ vg = .int .u32 (s.g : Int) ∧ vh = .int .u32 (s.h : Int) ∧ ∃ d, wr = w1.drewN d)
    (fun _ _ _ _ _ _ _ _ tv _ => 64 - (intOf tv).toNat)
  case atStart => exact ⟨0, _, Nat.zero_le _, rfl, rfl, rfl, rfl, rfl, rfl, rfl, rfl, rfl, rfl, 0, rfl⟩
  case round =>
    obtain ⟨t, s, ht, rfl, hs, rfl, rfl, rfl, rfl, rfl, rfl, rfl, rfl, d5, rfl⟩ := hrel
    have hlt5 : StLt s := hs ▸ rnds_lt _ _ HST.out t
    by_cases h64 : t < 64
    · have h64i : (t : Int) < 64 := by omega
      have t0i : (0 : Int) ≤ (t : Int) := by omega
      have HN : Hid (rnds shaK W ⟨x0, x1, x2, x3, x4, x5, x6, x7⟩ (t + 1) = rnd s (shaK.getD t 0) (W.getD t 0)) := Lib.hid (by rw [hs]; rfl)
      have kc : (w1.drewN d5).cell? ⟨1, t, none⟩ = _ := HLD1.out.k t h64
      have wc : (w1.drewN d5).cell? ⟨w.heap.size + 1, t, none⟩ = _ := cell_of_row HZ1.out.ws t (by omega)
      have kb : shaK.getD t 0 < 4294967296 := getD_lt (l := shaK) (by decide) (by decide) t
      have wb : W.getD t 0 < 4294967296 := getD_bd hW t
      obtain ⟨sa, sb, sc, sd, se, sf, sg, sh⟩ := s
      obtain ⟨la, lb, lc, ld, le, lf, lg, lh⟩ := hlt5
      dsimp only at la lb lc ld le lf lg lh ⊢
      have HNX : Hid (rnds shaK W ⟨x0, x1, x2, x3, x4, x5, x6, x7⟩ (t + 1) = ⟨((sh + big1 se + chs se sf sg + shaK.getD t 0 + W.getD t 0) % 4294967296 + (big0 sa + maj sa sb sc) % 4294967296) % 4294967296, sa, sb, sc, (sd + (sh + big1 se + chs se sf sg + shaK.getD t 0 + W.getD t 0) % 4294967296) % 4294967296, se, sf, sg⟩) := Lib.hid HN.out
      clear HN hs
      generalize shaK.getD t 0 = kt at kc kb HNX
      generalize W.getD t 0 = wt at wc wb HNX
      have t6 := fun w => pturn_lit se 6 6 rfl w le (by decide) (by decide)
      have t11 := fun w => pturn_lit se 11 11 rfl w le (by decide) (by decide)
      have t25 := fun w => pturn_lit se 25 25 rfl w le (by decide) (by decide)
      have t2 := fun w => pturn_lit sa 2 2 rfl w la (by decide) (by decide)
      have t13 := fun w => pturn_lit sa 13 13 rfl w la (by decide) (by decide)
      have t22 := fun w => pturn_lit sa 22 22 rfl w la (by decide) (by decide)
      have e1 := u32_xor_nat (rot se 6) (rot se 11) (rot_lt le) (rot_lt le)
      have e2 : bits .xor .u32 ((rot se 6 ^^^ rot se 11 : Nat) : Int) ((rot se 25 : Nat) : Int) = ((big1 se : Nat) : Int) := u32_xor_nat _ _ (Nat.xor_lt_two_pow (n := 32) (rot_lt le) (rot_lt le)) (rot_lt le)
      have e3 := u32_xor_nat (rot sa 2) (rot sa 13) (rot_lt la) (rot_lt la)
      have e4 : bits .xor .u32 ((rot sa 2 ^^^ rot sa 13 : Nat) : Int) ((rot sa 22 : Nat) : Int) = ((big0 sa : Nat) : Int) := u32_xor_nat _ _ (Nat.xor_lt_two_pow (n := 32) (rot_lt la) (rot_lt la)) (rot_lt la)
      have f1 := u32_and_nat se sf le lf
      have f2 : bits .xor .u32 (if IntKind.u32.signed = true then -1 else IntKind.u32.max) (se : Int) = ((se ^^^ 4294967295 : Nat) : Int) := w32_not se le
      have lne : se ^^^ 4294967295 < 4294967296 := Nat.xor_lt_two_pow (n := 32) le (by decide)
      have f3 := u32_and_nat (se ^^^ 4294967295) sg lne lg
      have f4 : bits .xor .u32 ((se &&& sf : Nat) : Int) (((se ^^^ 4294967295) &&& sg : Nat) : Int) = ((chs se sf sg : Nat) : Int) := u32_xor_nat _ _ (Nat.and_lt_two_pow (n := 32) _ lf) (Nat.and_lt_two_pow (n := 32) _ lg)
      have g1 := u32_and_nat sa sb la lb
      have g2 := u32_and_nat sa sc la lc
      have g3 := u32_and_nat sb sc lb lc
      have g4 := u32_xor_nat (sa &&& sb) (sa &&& sc) (Nat.and_lt_two_pow (n := 32) _ lb) (Nat.and_lt_two_pow (n := 32) _ lc)
      have g5 : bits .xor .u32 ((sa &&& sb ^^^ sa &&& sc : Nat) : Int) ((sb &&& sc : Nat) : Int) = ((maj sa sb sc : Nat) : Int) := u32_xor_nat _ _ (Nat.xor_lt_two_pow (n := 32) (Nat.and_lt_two_pow (n := 32) _ lb) (Nat.and_lt_two_pow (n := 32) _ lc)) (Nat.and_lt_two_pow (n := 32) _ lc)
      generalize big1 se = B1 at e2 HNX
      generalize big0 sa = B0 at e4 HNX
      generalize chs se sf sg = CH at f4 HNX
      generalize maj sa sb sc = MJ at g5 HNX
      generalize rot se 6 ^^^ rot se 11 = z1 at e1 e2
      generalize rot sa 2 ^^^ rot sa 13 = z2 at e3 e4
      generalize rot se 6 = r6 at t6 e1
      generalize rot se 11 = r11 at t11 e1
      generalize rot se 25 = r25 at t25 e2
      generalize rot sa 2 = r2 at t2 e3
      generalize rot sa 13 = r13 at t13 e3
      generalize rot sa 22 = r22 at t22 e4
      generalize sa &&& sb ^^^ sa &&& sc = m4 at g4 g5
      generalize (se ^^^ 4294967295) &&& sg = n3 at f3 f4
      generalize se ^^^ 4294967295 = n2 at f2 f3
      generalize se &&& sf = n1 at f1 f4
      generalize sa &&& sb = m1 at g1 g4
      generalize sa &&& sc = m2 at g2 g4
      generalize sb &&& sc = m3 at g3 g5
      have T6 := Lib.hid t6
      have T11 := Lib.hid t11
      have T25 := Lib.hid t25
      have T2 := Lib.hid t2
      have T13 := Lib.hid t13
      have T22 := Lib.hid t22
      clear t6 t11 t25 t2 t13 t22 lne
      generalize hw5 : w1.drewN d5 = w5 at kc wc ⊢
      have HW5 := Lib.hid hw5; clear hw5
      go_wp2_with fail
      go_quiet ((go_at_call 69; first | (with_reducible exact Calls.quiet_of_same (T6.out _)) | (with_reducible exact Calls.quiet_of_same (T11.out _)) | (with_reducible exact Calls.quiet_of_same (T25.out _))))
      go_wp2_with fail
      refine (T2.out _).mono ?_
      rintro e w' ⟨rfl, rfl⟩
      go_wp2_with fail
      refine (T13.out _).mono ?_
      rintro e w' ⟨rfl, rfl⟩
      go_wp2_with fail
      refine (T22.out _).mono ?_
      rintro e w' ⟨rfl, rfl⟩
      go_wp2
      go_roundw
      case rel => exact ⟨t + 1, _, by omega, by go_num, HNX.out.symm, u32_eq (by dsimp only; omega), rfl, rfl, rfl, u32_eq (by dsimp only; omega), rfl, rfl, rfl, d5 + nq, by rw [← HW5.out, World.drewN_drewN]⟩
      case measure => simp [intOf]; omega
    · obtain rfl : t = 64 := by omega
      have HAE := Lib.hid (HADD.out s hs)
      obtain ⟨sa, sb, sc, sd, se, sf, sg, sh⟩ := s
      obtain ⟨la, lb, lc, ld, le, lf, lg, lh⟩ := hlt5
      dsimp only at la lb lc ld le lf lg lh HAE ⊢
      have HZ5 := Lib.hid (HZ1.out.drewN d5)
      obtain ⟨k0, k1, k2, k3, k4, k5, k6, k7⟩ := KF.out
      have f0 : (w1.drewN d5).cell? ⟨w.heap.size, 0, none⟩ = _ := k0
      have f1 : (w1.drewN d5).cell? ⟨w.heap.size, 1, none⟩ = _ := k1
      have f2 : (w1.drewN d5).cell? ⟨w.heap.size, 2, none⟩ = _ := k2
      have f3 : (w1.drewN d5).cell? ⟨w.heap.size, 3, none⟩ = _ := k3
      have f4 : (w1.drewN d5).cell? ⟨w.heap.size, 4, none⟩ = _ := k4
      have f5 : (w1.drewN d5).cell? ⟨w.heap.size, 5, none⟩ = _ := k5
      have f6 : (w1.drewN d5).cell? ⟨w.heap.size, 6, none⟩ = _ := k6
      have f7 : (w1.drewN d5).cell? ⟨w.heap.size, 7, none⟩ = _ := k7
      generalize w1.drewN d5 = w5 at HZ5 f0 f1 f2 f3 f4 f5 f6 f7 ⊢
      clear k0 k1 k2 k3 k4 k5 k6 k7 KF hs HADD HST HZ1 HLD1
      have hAs : (Tryz.prog.info? 108).map (·.size) = some (vals .u32 A).toArray.size := by rw [HAE.out]; kernel_rfl
      have hA1 : (vals .u32 A).toArray.all (·.oneCell') = true := srow_one _ _
      have hAz : zeros8.size = (vals .u32 A).toArray.size := by rw [HAE.out]; rfl
      have hAG := agg8 x0 x1 x2 x3 x4 x5 x6 x7 sa sb sc sd se sf sg sh
      rw [← HAE.out] at hAG
      have HAG := Lib.hid hAG
      clear hAG
      go_wp2_with ((with_reducible show wpList _ _ _ (Oper.mk none _ _ _ _ _ :: _) _ _); refine wpList_store_row rfl 108 (.tmp 4) (.tmp 131) rfl (w.heap.size + 1 + 1) (vals .u32 A).toArray rfl HAG.out _ _ HZ5.out.res hAs hAz hA1 ?_)
      refine bodyPost_ret (v := .agg (vals .u32 A).toArray) (results_cell_row (p := 4) rfl _ _ (w.heap.size + 1 + 1) _ _ _ _ rfl (setRow_heap _ _ _ _ _ _ HZ5.out.res) Tryz.underlying108 rfl hAs) rfl ?_
      exact ⟨rfl, HZ5.out.below.trans ⟨rfl, rfl, rfl, by simp [World.setRow], fun k hk => setRow_other _ _ k _ (by omega)⟩⟩

theorem behind_any (S W : List Nat) (w : World) (hS : ∀ y ∈ S, y < 4294967296) (hSl : S.length = 8) (hW : ∀ y ∈ W, y < 4294967296) (hWl : W.length = 64) (hk : Laid w) :
    Calls Tryz.prog 57 #[.agg (vals .u32 S).toArray, .agg (vals .u32 W).toArray] w fun e w' => e = .returned (.agg (vals .u32 (addSt S (rnds shaK W (stOf S) 64))).toArray) ∧ Below w.heap.size w w' :=
  behind_aux S W _ w (Lib.hid rfl) hS hSl hW hWl hk

end Go.Proofs.YtgnalcobcdgnkaaGreatDoor

namespace Go.Proofs.YtgnalcobcdgnkaaGreatDoor
open Go.RowKit

noncomputable def digestBody : Code := ((Tryz.f33.body.map loopsIn).getD []).getD 5 .skip

def byteOf (S : List Nat) (i : Nat) : Nat := S.getD (i / 4) 0 / 2 ^ (24 - 8 * (i % 4)) % 256
/-- The first i bytes, and noughts. -/
def sdig (S : List Nat) (i : Nat) : Array Value := ((List.range 32).map fun j => Value.int .u8 (((if j < i then byteOf S j else 0) : Nat) : Int)).toArray

theorem dig_size (S : List Nat) (i : Nat) : (sdig S i).size = 32 := by simp [sdig]
theorem dig_get (S : List Nat) (i j : Nat) (h : j < 32) : (sdig S i)[j]? = some (.int .u8 (((if j < i then byteOf S j else 0) : Nat) : Int)) := by
  simp [sdig, h]
theorem dig_set (S : List Nat) (i : Nat) (h : i < 32) : (sdig S i).setIfInBounds i (.int .u8 ((byteOf S i : Nat) : Int)) = sdig S (i + 1) := by
  apply Array.ext_getElem?
  intro j
  by_cases hj : j < 32
  · rw [Array.getElem?_setIfInBounds, dig_get S (i + 1) j hj, dig_get S i j hj]
    by_cases he : i = j
    · subst he
      rw [if_pos rfl, if_pos (by rw [dig_size]; exact h), if_pos (by omega)]
    · rw [if_neg he]
      by_cases h1 : j < i
      · rw [if_pos h1, if_pos (by omega)]
      · rw [if_neg h1, if_neg (by omega)]
  · rw [Array.getElem?_eq_none (by rw [Array.size_setIfInBounds, dig_size]; omega), Array.getElem?_eq_none (by rw [dig_size]; omega)]
theorem dig_zero (S : List Nat) : sdig S 0 = Array.replicate 32 (.int .u8 0) := by
  simp [sdig]
  rfl
theorem dig_all (S : List Nat) : sdig S 32 = (vals .u8 (bytesOf S)).toArray := by
  unfold sdig vals bytesOf
  rw [List.map_map]
  congr 1

set_option maxHeartbeats 4000000 in
set_option maxRecDepth 1000000 in
theorem digest_loop (c0 c1 c2 c3 c4 c5 c6 c7 c8 c9 c11 c12 c13 c14 c15 c16 c17 c18 c19 c20 c21 c22 c23 c24 c25 c26 c27 c30 c31 c32 c33 c34 c35 c36 c37 c38 c39 c40 c41 c42 c43 c44 c45 c46 c47 c48 c49 c50 c51 c52 c53 c54 c55 c56 c57 c58 c59 c60 c61 c62 c63 c64 c65 c66 c67 c68 c69 c70 c71 c72 c73 c74 c75 c76 c77 c78 c79 c80 c81 c82 c83 c84 c85 c86 c87 c88 c89 c90 c91 c92 c93 c94 c95 c96 c97 c98 c99 c100 c101 c102 c103 c104 c105 c106 c107 c108 c109 c110 c111 c112 c113 c114 c115 c116 c117 c118 c119 c120 c121 c122 c123 c124 c125 c126 c127 c128 c129 c130 c131 c132 c133 c134 c135 c136 c137 c138 c139 c140 c141 c142 c143 c144 c145 c146 c147 c148 c149 c150 c151 c152 c153 c154 c155 c156 c157 c158 c159 c160 c161 c162 c163 c164 c165 c166 c167 c168 c169 c170 c171 c172 c173 c174 c175 c176 c177 c178 c179 c180 c181 c182 c183 c184 c185 c186 c187 c188 c189 c190 c191 c192 c193 c194 c195 c196 c197 c198 c199 c200 c201 c202 c203 c204 c205 c206 c207 c208 c209 c210 c211 c212 c213 c214 c215 c216 c217 c218 c219 c220 c221 c222 c223 c224 c225 c226 c227 c228 c229 c230 c231 c232 c233 c234 c235 c236 c237 c238 c239 c240 c241 c242 c243 c244 c245 c246 c247 c248 c249 c250 c251 c252 c253 c254 c255 c256 c257 c258 c259 c260 c261 c262 c263 c264 c265 c266 c267 c268 c269 c270 c271 c272 c273 c274 c275 c276 c277 c278 c279 c280 c281 c282 c283 c284 c303 : Value) (u285 u286 u287 u288 u289 u290 u291 u292 u293 u294 u295 u296 u297 u298 u299 u300 u301 u302 : Value) (gs caps gd : Nat) (S : List Nat) (w : World) (hne : gs ≠ gd) (hS : ∀ y ∈ S, y < 4294967296)
    (hs : ∀ i, i < 8 → w.cell? ⟨gs, i, none⟩ = some (.int .u32 ((S.getD i 0 : Nat) : Int))) (hg : w.heap[gd]? = some (.cells (sdig S 0) 37 (0, 0)))
    (Q : Exit → Act → World → Prop) (hexit : ∀ (u285 u286 u287 u288 u289 u290 u291 u292 u293 u294 u295 u296 u297 u298 u299 u300 u301 u302 : Value) (w1 : World), w1.heap[gd]? = some (.cells (sdig S 32) 37 (0, 0)) → w.grownBy w1 (some gd) → Q (.exit 10) ⟨(List.toArray (c0 :: c1 :: c2 :: c3 :: c4 :: c5 :: c6 :: c7 :: c8 :: c9 :: (.slice (some ⟨gs, 0, none⟩) 8 caps) :: c11 :: c12 :: c13 :: c14 :: c15 :: c16 :: c17 :: c18 :: c19 :: c20 :: c21 :: c22 :: c23 :: c24 :: c25 :: c26 :: c27 :: (.pointer (some ⟨gd, 0, none⟩)) :: (.int .i64 32) :: c30 :: c31 :: c32 :: c33 :: c34 :: c35 :: c36 :: c37 :: c38 :: c39 :: c40 :: c41 :: c42 :: c43 :: c44 :: c45 :: c46 :: c47 :: c48 :: c49 :: c50 :: c51 :: c52 :: c53 :: c54 :: c55 :: c56 :: c57 :: c58 :: c59 :: c60 :: c61 :: c62 :: c63 :: c64 :: c65 :: c66 :: c67 :: c68 :: c69 :: c70 :: c71 :: c72 :: c73 :: c74 :: c75 :: c76 :: c77 :: c78 :: c79 :: c80 :: c81 :: c82 :: c83 :: c84 :: c85 :: c86 :: c87 :: c88 :: c89 :: c90 :: c91 :: c92 :: c93 :: c94 :: c95 :: c96 :: c97 :: c98 :: c99 :: c100 :: c101 :: c102 :: c103 :: c104 :: c105 :: c106 :: c107 :: c108 :: c109 :: c110 :: c111 :: c112 :: c113 :: c114 :: c115 :: c116 :: c117 :: c118 :: c119 :: c120 :: c121 :: c122 :: c123 :: c124 :: c125 :: c126 :: c127 :: c128 :: c129 :: c130 :: c131 :: c132 :: c133 :: c134 :: c135 :: c136 :: c137 :: c138 :: c139 :: c140 :: c141 :: c142 :: c143 :: c144 :: c145 :: c146 :: c147 :: c148 :: c149 :: c150 :: c151 :: c152 :: c153 :: c154 :: c155 :: c156 :: c157 :: c158 :: c159 :: c160 :: c161 :: c162 :: c163 :: c164 :: c165 :: c166 :: c167 :: c168 :: c169 :: c170 :: c171 :: c172 :: c173 :: c174 :: c175 :: c176 :: c177 :: c178 :: c179 :: c180 :: c181 :: c182 :: c183 :: c184 :: c185 :: c186 :: c187 :: c188 :: c189 :: c190 :: c191 :: c192 :: c193 :: c194 :: c195 :: c196 :: c197 :: c198 :: c199 :: c200 :: c201 :: c202 :: c203 :: c204 :: c205 :: c206 :: c207 :: c208 :: c209 :: c210 :: c211 :: c212 :: c213 :: c214 :: c215 :: c216 :: c217 :: c218 :: c219 :: c220 :: c221 :: c222 :: c223 :: c224 :: c225 :: c226 :: c227 :: c228 :: c229 :: c230 :: c231 :: c232 :: c233 :: c234 :: c235 :: c236 :: c237 :: c238 :: c239 :: c240 :: c241 :: c242 :: c243 :: c244 :: c245 :: c246 :: c247 :: c248 :: c249 :: c250 :: c251 :: c252 :: c253 :: c254 :: c255 :: c256 :: c257 :: c258 :: c259 :: c260 :: c261 :: c262 :: c263 :: c264 :: c265 :: c266 :: c267 :: c268 :: c269 :: c270 :: c271 :: c272 :: c273 :: c274 :: c275 :: c276 :: c277 :: c278 :: c279 :: c280 :: c281 :: c282 :: c283 :: c284 :: u285 :: u286 :: u287 :: u288 :: u289 :: u290 :: u291 :: u292 :: u293 :: u294 :: u295 :: u296 :: u297 :: u298 :: u299 :: u300 :: u301 :: u302 :: c303 :: [])), []⟩ w1) :
    Code.wp Tryz.prog (Code.loop digestBody) Q ⟨(List.toArray (c0 :: c1 :: c2 :: c3 :: c4 :: c5 :: c6 :: c7 :: c8 :: c9 :: (.slice (some ⟨gs, 0, none⟩) 8 caps) :: c11 :: c12 :: c13 :: c14 :: c15 :: c16 :: c17 :: c18 :: c19 :: c20 :: c21 :: c22 :: c23 :: c24 :: c25 :: c26 :: c27 :: (.pointer (some ⟨gd, 0, none⟩)) :: (.int .i64 0) :: c30 :: c31 :: c32 :: c33 :: c34 :: c35 :: c36 :: c37 :: c38 :: c39 :: c40 :: c41 :: c42 :: c43 :: c44 :: c45 :: c46 :: c47 :: c48 :: c49 :: c50 :: c51 :: c52 :: c53 :: c54 :: c55 :: c56 :: c57 :: c58 :: c59 :: c60 :: c61 :: c62 :: c63 :: c64 :: c65 :: c66 :: c67 :: c68 :: c69 :: c70 :: c71 :: c72 :: c73 :: c74 :: c75 :: c76 :: c77 :: c78 :: c79 :: c80 :: c81 :: c82 :: c83 :: c84 :: c85 :: c86 :: c87 :: c88 :: c89 :: c90 :: c91 :: c92 :: c93 :: c94 :: c95 :: c96 :: c97 :: c98 :: c99 :: c100 :: c101 :: c102 :: c103 :: c104 :: c105 :: c106 :: c107 :: c108 :: c109 :: c110 :: c111 :: c112 :: c113 :: c114 :: c115 :: c116 :: c117 :: c118 :: c119 :: c120 :: c121 :: c122 :: c123 :: c124 :: c125 :: c126 :: c127 :: c128 :: c129 :: c130 :: c131 :: c132 :: c133 :: c134 :: c135 :: c136 :: c137 :: c138 :: c139 :: c140 :: c141 :: c142 :: c143 :: c144 :: c145 :: c146 :: c147 :: c148 :: c149 :: c150 :: c151 :: c152 :: c153 :: c154 :: c155 :: c156 :: c157 :: c158 :: c159 :: c160 :: c161 :: c162 :: c163 :: c164 :: c165 :: c166 :: c167 :: c168 :: c169 :: c170 :: c171 :: c172 :: c173 :: c174 :: c175 :: c176 :: c177 :: c178 :: c179 :: c180 :: c181 :: c182 :: c183 :: c184 :: c185 :: c186 :: c187 :: c188 :: c189 :: c190 :: c191 :: c192 :: c193 :: c194 :: c195 :: c196 :: c197 :: c198 :: c199 :: c200 :: c201 :: c202 :: c203 :: c204 :: c205 :: c206 :: c207 :: c208 :: c209 :: c210 :: c211 :: c212 :: c213 :: c214 :: c215 :: c216 :: c217 :: c218 :: c219 :: c220 :: c221 :: c222 :: c223 :: c224 :: c225 :: c226 :: c227 :: c228 :: c229 :: c230 :: c231 :: c232 :: c233 :: c234 :: c235 :: c236 :: c237 :: c238 :: c239 :: c240 :: c241 :: c242 :: c243 :: c244 :: c245 :: c246 :: c247 :: c248 :: c249 :: c250 :: c251 :: c252 :: c253 :: c254 :: c255 :: c256 :: c257 :: c258 :: c259 :: c260 :: c261 :: c262 :: c263 :: c264 :: c265 :: c266 :: c267 :: c268 :: c269 :: c270 :: c271 :: c272 :: c273 :: c274 :: c275 :: c276 :: c277 :: c278 :: c279 :: c280 :: c281 :: c282 :: c283 :: c284 :: u285 :: u286 :: u287 :: u288 :: u289 :: u290 :: u291 :: u292 :: u293 :: u294 :: u295 :: u296 :: u297 :: u298 :: u299 :: u300 :: u301 :: u302 :: c303 :: [])), []⟩ w := by
  conv => arg 2; arg 1; whnf
  have HX := Lib.hid hexit
  have HSC := Lib.hid hs
  clear hexit hs
  go_loopw [29] (fun iv wr => ∃ i : Nat, i ≤ 32 ∧ iv = .int .i64 (i : Int) ∧ wr.heap[gd]? = some (.cells (sdig S i) 37 (0, 0)) ∧ w.grownBy wr (some gd))
    (fun iv _ => 32 - (intOf iv).toNat)
  case atStart => exact ⟨0, Nat.zero_le _, rfl, hg, World.grownBy.refl _ _⟩
  case round =>
    obtain ⟨i, hi, rfl, hgi, hgr⟩ := hrel
    have HG := Lib.hid hgi
    have HGR := Lib.hid hgr
    by_cases hlt : i < 32
    · have hlti : (i : Int) < 32 := by omega
      obtain ⟨r, hr⟩ : ∃ r, r = i / 4 := ⟨_, rfl⟩
      obtain ⟨m, hm⟩ : ∃ m, m = i % 4 := ⟨_, rfl⟩
      obtain ⟨e, he⟩ : ∃ e, e = 24 - 8 * m := ⟨_, rfl⟩
      have hri : (i : Int) / 4 = (r : Int) := by omega
      have hmi : (i : Int) % 4 = (m : Int) := by omega
      have hm4 : m < 4 := by omega
      have hr8 : r < 8 := by omega
      have hei : (24 : Int) - 8 * (m : Int) = (e : Int) := by omega
      have he24 : e ≤ 24 := by omega
      have hr8i : (r : Int) < 8 := by omega
      have hc := hgr.cell (HSC.out r hr8) (by simpa using hne)
      have hxb := getD_lt hS (by decide) r
      have HB : Hid (byteOf S i = S.getD r 0 / 2 ^ e % 256) := Lib.hid (by unfold byteOf; rw [← hr, ← hm, ← he])
      have hcd : wr.cell? ⟨gd, i, none⟩ = some (.int .u8 (((if i < i then byteOf S i else 0) : Nat) : Int)) := by
        have := dig_get S i i hlt
        simpa [World.cell?, hgi] using this
      have hfd : wr.frozen? ⟨gd, i, none⟩ = false := by simp [World.frozen?, hgi]
      have HR := Lib.hid hr
      have HM := Lib.hid hm
      have HE := Lib.hid he
      generalize S.getD r 0 = x at hc hxb HB
      clear hr hm he hgi hgr
      have hv : (x : Int) / 2 ^ e % 256 = ((byteOf S i : Nat) : Int) := by
        rw [HB.out, Int.natCast_emod, Int.natCast_ediv, Int.natCast_pow]
        rfl
      have HV := Lib.hid hv
      clear hv
      go_wp2
      go_roundw
      case rel =>
        rw [HV.out]
        refine ⟨i + 1, by omega, by go_num, ?_, HGR.out.os, HGR.out.tape, HGR.out.output, by simpa [World.setCell] using HGR.out.size, fun k hk hne2 => ?_⟩
        · rw [← dig_set S i hlt]
          exact heap_setCell_same wr gd i (sdig S i) _ _ HG.out
        · rw [heap_setCell_other _ _ _ _ (fun he => hne2 (by rw [he]))]
          exact HGR.out.block k hk hne2
      case measure => simp [intOf]; omega
    · obtain rfl : i = 32 := by omega
      go_wp2
      exact HX.out _ _ _ _ _ _ _ _ _ _ _ _ _ _ _ _ _ _  _ HG.out HGR.out

end Go.Proofs.YtgnalcobcdgnkaaGreatDoor

namespace Go.Proofs.YtgnalcobcdgnkaaGreatDoor
open Go.RowKit

/-- An array's element by its number. -/
theorem run_index_row {P : Program} {t e : TypeId} {n : Nat} {k : IntKind} {l : List Nat} (h : P.underlying t = some (.array n e)) (hp : P.plainKey e = true) (hs : ∀ w, (sizeOf e).run P w = .ok 1 w) (hn : l.length = n) (i : Nat) (hi : i < n) (w : World) :
    (Instr.index t (.agg (vals k l).toArray) (.int .i64 (i : Int))).run P w = .ok (.int k ((l.getD i 0 : Nat) : Int)) w := by
  have hb : (0 : Int) ≤ (i : Int) ∧ (i : Int) < (n : Int) := ⟨by omega, by omega⟩
  have hx : (vals k l).toArray[i]? = some (.int k ((l.getD i 0 : Nat) : Int)) := by
    rw [List.getElem?_toArray]; exact vals_get k l i (by omega)
  simp [Instr.index, asIntOf, run_underlying h, hb, hs, Result.andThen, run_part_plain w hp hx]
  intro hc
  omega

/-- A store of one number into a cell. -/
theorem wpList_store_int {P : Program} {ops : Array Oper} {rest : List Oper} {o : Oper} {a : Act} {w : World} {Q : Exit → Act → World → Prop} (hgd : o.guard = none) (ty : TypeId) (x y : Operand) (ho : o.op = .store ty x y)
    (hi : ∀ w, (sizeOf ty).run P w = .ok 1 w) (b off : Nat) (k : IntKind) (n : Int) (hx : a.eval x = .pointer (some ⟨b, off, none⟩)) (hy : a.eval y = .int k n) (hc : ∃ v, w.cell? ⟨b, off, none⟩ = some v) (hf : w.frozen? ⟨b, off, none⟩ = false)
    (h : wpList P ops Q rest (a.put o.dst undef) (w.setCell ⟨b, off, none⟩ (.int k n))) : wpList P ops Q (o :: rest) a w := by
  refine wpList_plain hgd fun K hK => ?_
  obtain ⟨v, hc⟩ := hc
  unfold Oper.wp execOp
  have hst : (storeVar ty ⟨b, off, none⟩ (.int k n)).run P w = .ok () (w.setCell ⟨b, off, none⟩ (.int k n)) := by
    simp [storeVar, hi, Value.cells, storeCells, run_store P w _ (.int k n) .plain rfl, hc, hf, Addr.add]
  simp only [ho, hx, hy, Instr.storeAt, Instr.sureAddr, Sem.run_bind, Sem.run_pure, Result.andThen_ok, hst]
  exact hK _ _ h

def zeros32d : Array Value := Array.replicate 32 (.int .u8 0)
/-- The blocks of a call of digest: the state, the answer, the bytes. -/
structure Dd (w wr : World) (S : List Nat) (i : Nat) : Prop where
  below : Below w.heap.size w wr
  size : w.heap.size + 3 ≤ wr.heap.size
  st : wr.heap[w.heap.size]? = some (.cells (vals .u32 S).toArray 108 (0, 0))
  res : wr.heap[w.heap.size + 1]? = some (.cells zeros32d 34 (0, 0))
  row : wr.heap[w.heap.size + 1 + 1]? = some (.cells (sdig S i) 34 (0, 0))
theorem Dd.new (w : World) (S : List Nat) : Dd w (((w.alloc (.cells (vals .u32 S).toArray 108)).alloc (.cells zeros32d 34)).alloc (.cells zeros32d 34)) S 0 := by
  have h1 := heap_alloc_new w (.cells (vals .u32 S).toArray 108)
  generalize hw1 : w.alloc (.cells (vals .u32 S).toArray 108) = w1 at h1 ⊢
  have s1 : w1.heap.size = w.heap.size + 1 := by rw [← hw1]; simp
  have b1 : Below w.heap.size w w1 := by rw [← hw1]; exact (Below.refl _ _).alloc (Nat.le_refl _) _
  have h2 := heap_alloc_new w1 (.cells zeros32d 34)
  generalize hw2 : w1.alloc (.cells zeros32d 34) = w2 at h2 ⊢
  have s2 : w2.heap.size = w.heap.size + 1 + 1 := by rw [← hw2]; simp [s1]
  have k1 : w2.heap[w.heap.size]? = some (.cells (vals .u32 S).toArray 108 (0, 0)) := by rw [← hw2, Below.heap_alloc _ _ _ (by omega)]; exact h1
  have b2 : Below w.heap.size w w2 := by rw [← hw2]; exact b1.alloc (by omega) _
  have h3 := heap_alloc_new w2 (.cells zeros32d 34)
  rw [s1] at h2
  rw [s2] at h3
  refine ⟨b2.alloc (by omega) _, by simp; omega, ?_, ?_, ?_⟩
  · rw [Below.heap_alloc _ _ _ (by omega)]; exact k1
  · rw [Below.heap_alloc _ _ _ (by omega)]; exact h2
  · rw [dig_zero]; exact h3
theorem Dd.cell {w wr : World} {S : List Nat} {i : Nat} (h : Dd w wr S i) (j : Nat) (hj : j < 32) : ∃ v, wr.cell? ⟨w.heap.size + 1 + 1, j, none⟩ = some v := by
  have := dig_get S i j hj
  exact ⟨_, by simpa [World.cell?, h.row] using this⟩
theorem Dd.free {w wr : World} {S : List Nat} {i : Nat} (h : Dd w wr S i) (j : Nat) : wr.frozen? ⟨w.heap.size + 1 + 1, j, none⟩ = false := by simp [World.frozen?, h.row]
theorem Dd.set {w wr : World} {S : List Nat} {i : Nat} (h : Dd w wr S i) (hi : i < 32) {x : Int} (hx : x = ((byteOf S i : Nat) : Int)) : Dd w (wr.setCell ⟨w.heap.size + 1 + 1, i, none⟩ (.int .u8 x)) S (i + 1) := by
  subst hx
  refine ⟨h.below.setCell (by show w.heap.size ≤ w.heap.size + 1 + 1; omega) _, by have := h.size; simpa [World.setCell] using this, ?_, ?_, ?_⟩
  · rw [Below.heap_setCell _ _ _ _ (by show w.heap.size ≠ w.heap.size + 1 + 1; omega)]; exact h.st
  · rw [Below.heap_setCell _ _ _ _ (by show w.heap.size + 1 ≠ w.heap.size + 1 + 1; omega)]; exact h.res
  · rw [heap_setCell_row _ _ _ _ _ _ h.row, dig_set _ _ hi]

theorem Dd.setAt {w wr : World} {S : List Nat} {i j : Nat} (h : Dd w wr S i) (hj : j = i) (hi : j < 32) {x : Int} (hx : x = ((byteOf S j : Nat) : Int)) : Dd w (wr.setCell ⟨w.heap.size + 1 + 1, j, none⟩ (.int .u8 x)) S (j + 1) := by
  subst hj
  exact h.set hi hx

theorem byteOf_at (S : List Nat) (k j : Nat) (h : j < 4) : byteOf S (k * 4 + j) = S.getD k 0 / 2 ^ (24 - 8 * j) % 256 := by
  unfold byteOf
  rw [show (k * 4 + j) / 4 = k from by omega, show (k * 4 + j) % 4 = j from by omega]

set_option maxHeartbeats 4000000 in
set_option maxRecDepth 1000000 in
theorem pdigest_any (S : List Nat) (w : World) (hS : ∀ y ∈ S, y < 4294967296) (hSl : S.length = 8) :
    Calls Tryz.prog 59 #[.agg (vals .u32 S).toArray] w fun e w' => e = .returned (.agg (vals .u8 (bytesOf S)).toArray) ∧ Below w.heap.size w w' := by
  have hAs0 : (Tryz.prog.info? 108).map (·.size) = some (vals .u32 S).toArray.size := by rw [List.size_toArray, vals_length, hSl]; kernel_rfl
  have hsz4 : ∀ w, (sizeOf 95).run Tryz.prog w = .ok 1 w := fun w => by kernel_rfl
  go_enter Tryz.func59, Tryz.ntmps59
  have hz := Dd.new w S
  have hst := hz.st
  unfold zeros32d at hst
  have HST := Lib.hid hst
  clear hst
  go_wp2_with ((with_reducible show wpList _ _ _ (Oper.mk (some 7) _ _ _ _ _ :: _) _ _); refine wpList_load_row rfl 108 (.tmp 1) rfl w.heap.size rfl _ (vals .u32 S).toArray _ _ HST.out Tryz.underlying108 rfl hAs0 ?_)
  go_loopw [8] (fun iv wr => ∃ i : Nat, i ≤ 8 ∧ iv = .int .i64 (i : Int) ∧ Dd w wr S (i * 4)) (fun iv _ => 8 - (intOf iv).toNat)
  case atStart => exact ⟨0, Nat.zero_le _, rfl, hz⟩
  case round =>
    clear hz
    obtain ⟨i, hi, rfl, hd⟩ := hrel
    have HD := Lib.hid hd
    by_cases hlt : i < 8
    · have hlti : (i : Int) < 8 := by omega
      have hix := run_index_row (P := Tryz.prog) (k := .u32) (l := S) Tryz.underlying108 (by kernel_rfl) hsz4 hSl i hlt
      have hx := getD_bd hS i
      have e0 := byteOf_at S i 0 (by decide)
      have e1 := byteOf_at S i 1 (by decide)
      have e2 := byteOf_at S i 2 (by decide)
      have e3 := byteOf_at S i 3 (by decide)
      generalize S.getD i 0 = x at hix hx e0 e1 e2 e3
      have E0 : Hid ((x : Int) / 16777216 = ((byteOf S (i * 4) : Nat) : Int)) := Lib.hid (by rw [Nat.add_zero] at e0; rw [e0]; show _ = (((x / 16777216 % 256 : Nat)) : Int); omega)
      have E1 : Hid ((x : Int) / 65536 % 256 = ((byteOf S (i * 4 + 1) : Nat) : Int)) := Lib.hid (by rw [e1]; show _ = (((x / 65536 % 256 : Nat)) : Int); omega)
      have E2 : Hid ((x : Int) / 256 % 256 = ((byteOf S (i * 4 + 2) : Nat) : Int)) := Lib.hid (by rw [e2]; show _ = (((x / 256 % 256 : Nat)) : Int); omega)
      have E3 : Hid ((x : Int) % 256 = ((byteOf S (i * 4 + 3) : Nat) : Int)) := Lib.hid (by rw [e3]; show _ = (((x / 1 % 256 : Nat)) : Int); omega)
      have hsz1 : ∀ w, (sizeOf 5).run Tryz.prog w = .ok 1 w := fun w => by kernel_rfl
      have HD0 := HD
      clear hd e0 e1 e2 e3 HD
      go_wp2_with (first
        | ((with_reducible show wpList _ _ _ (Oper.mk none (Op.store _ (Operand.tmp 32) _) _ _ _ _ :: _) _ _); refine wpList_store_int rfl 5 (.tmp 32) (.tmp 23) rfl hsz1 (w.heap.size + 1 + 1) (i * 4) .u8 _ rfl rfl (HD0.out.cell (i * 4) (by omega)) (HD0.out.free (i * 4)) ?_; have HD1 := Lib.hid (HD0.out.setAt (by omega) (by omega) E0.out); generalize wr.setCell _ _ = wr1 at HD1 ⊢)
        | ((with_reducible show wpList _ _ _ (Oper.mk none (Op.store _ (Operand.tmp 33) _) _ _ _ _ :: _) _ _); refine wpList_store_int rfl 5 (.tmp 33) (.tmp 26) rfl hsz1 (w.heap.size + 1 + 1) (i * 4 + 1) .u8 _ rfl rfl (HD1.out.cell (i * 4 + 1) (by omega)) (HD1.out.free (i * 4 + 1)) ?_; have HD2 := Lib.hid (HD1.out.setAt (by omega) (by omega) E1.out); generalize wr1.setCell _ _ = wr2 at HD2 ⊢)
        | ((with_reducible show wpList _ _ _ (Oper.mk none (Op.store _ (Operand.tmp 34) _) _ _ _ _ :: _) _ _); refine wpList_store_int rfl 5 (.tmp 34) (.tmp 29) rfl hsz1 (w.heap.size + 1 + 1) (i * 4 + 2) .u8 _ rfl rfl (HD2.out.cell (i * 4 + 2) (by omega)) (HD2.out.free (i * 4 + 2)) ?_; have HD3 := Lib.hid (HD2.out.setAt (by omega) (by omega) E2.out); generalize wr2.setCell _ _ = wr3 at HD3 ⊢)
        | ((with_reducible show wpList _ _ _ (Oper.mk none (Op.store _ (Operand.tmp 35) _) _ _ _ _ :: _) _ _); refine wpList_store_int rfl 5 (.tmp 35) (.tmp 31) rfl hsz1 (w.heap.size + 1 + 1) (i * 4 + 3) .u8 _ rfl rfl (HD3.out.cell (i * 4 + 3) (by omega)) (HD3.out.free (i * 4 + 3)) ?_; have HD4 := Lib.hid (HD3.out.setAt (by omega) (by omega) E3.out); generalize wr3.setCell _ _ = wr4 at HD4 ⊢))
      go_roundw
      case rel => exact ⟨i + 1, by omega, by go_num, by rw [show (i + 1) * 4 = i * 4 + 3 + 1 from by omega]; exact HD4.out⟩
      case measure => simp [intOf]; omega
    · obtain rfl : i = 8 := by omega
      have hrow : wr.heap[w.heap.size + 1 + 1]? = some (.cells (vals .u8 (bytesOf S)).toArray 34 (0, 0)) := by rw [← dig_all]; exact hd.row
      have hres := hd.res
      have hA : (vals .u8 (bytesOf S)).toArray.size = 32 := by rw [List.size_toArray, vals_length]; simp [bytesOf]
      have hAs : (Tryz.prog.info? 34).map (·.size) = some (vals .u8 (bytesOf S)).toArray.size := by rw [hA]; kernel_rfl
      have hA1 := srow_one .u8 (bytesOf S)
      have hAz : zeros32d.size = (vals .u8 (bytesOf S)).toArray.size := by rw [hA]; exact Array.size_replicate
      have HB := Lib.hid hd.below
      generalize hAe : (vals .u8 (bytesOf S)).toArray = A at hrow hAs hA1 hAz
      have HAE := Lib.hid hAe
      have HR := Lib.hid hrow
      have HS := Lib.hid hres
      clear hd HD hrow hres hA hAe
      go_wp2_with (first
        | ((with_reducible show wpList _ _ _ (Oper.mk (some 37) _ _ _ _ _ :: _) _ _); refine wpList_load_row rfl 34 (.tmp 3) rfl (w.heap.size + 1 + 1) rfl _ A _ _ HR.out Tryz.underlying34 rfl hAs ?_)
        | ((with_reducible show wpList _ _ _ (Oper.mk none _ _ _ _ _ :: _) _ _); refine wpList_store_row rfl 34 (.tmp 2) (.tmp 37) rfl (w.heap.size + 1) A rfl rfl _ _ HS.out hAs hAz hA1 ?_))
      refine bodyPost_ret (v := .agg A) (results_cell_row (p := 2) rfl _ _ (w.heap.size + 1) _ A _ _ rfl (setRow_heap _ _ _ _ _ _ HS.out) Tryz.underlying34 rfl hAs) rfl ?_
      exact ⟨by rw [HAE.out], HB.out.trans ⟨rfl, rfl, rfl, by simp [World.setRow], fun k hk => setRow_other _ _ k _ (by omega)⟩⟩

end Go.Proofs.YtgnalcobcdgnkaaGreatDoor
