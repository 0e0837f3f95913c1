/- The rounds of a block (the reference package's Sum): the loop by itself. -/
import Derived.Test.YtjhipfgmiilmdaaDoorShaC
import Derived.Deep.QuietTactic
namespace Go.Proofs.YtjhipfgmiilmdaaDoor
open Go.RowKit

/-- The loops of a function's text, outer ones first. -/
def loopsIn : Code → List Code
  | .loop c => c :: loopsIn c
  | .seq a b => loopsIn a ++ loopsIn b
  | .block _ c => loopsIn c
  | .scope c => loopsIn c
  | .cond _ a b => loopsIn a ++ loopsIn b
  | _ => []
noncomputable def roundsBody : Code := ((Tryd.f10.body.map loopsIn).getD []).getD 4 .skip

theorem w32_not (s : Nat) (hs : W32 s) : bits .xor .u32 IntKind.u32.max (s : Int) = ((s ^^^ 4294967295 : Nat) : Int) := by
  rw [Nat.xor_comm]
  exact u32_xor_nat 4294967295 s (by decide) hs
theorem u32_eq {a b : Int} (h : a = b) : Value.int .u32 a = .int .u32 b := by rw [h]

set_option maxHeartbeats 4000000 in
set_option maxRecDepth 1000000 in
theorem rounds_loop (c0 c2 c3 c4 c5 c6 c7 c8 c9 c10 c11 c13 c14 c15 c16 c28 c29 c30 c31 c32 c33 c34 c35 c36 c37 c38 c39 c40 c41 c42 c43 c44 c45 c46 c47 c48 c49 c50 c51 c52 c53 c54 c55 c56 c57 c58 c59 c60 c61 c62 c63 c64 c65 c66 c67 c68 c69 c70 c71 c72 c73 c74 c75 c76 c77 c78 c79 c80 c81 c82 c83 c84 c85 c86 c87 c88 c89 c90 c91 c92 c93 c94 c95 c96 c97 c98 c99 c100 c101 c102 c103 c104 c105 c106 c107 c108 c109 c110 c111 c112 c113 c114 c115 c116 c117 c118 c119 c120 c121 c122 c123 c124 c125 c126 c127 c128 c129 c130 c131 c132 c133 c134 c135 c136 c137 c138 c139 c140 c141 c142 c143 c144 c145 c146 c147 c148 c149 c150 c151 c152 c153 c154 c155 c156 c157 c158 c159 c160 c161 c162 c163 c164 c165 c166 c167 c168 c169 c170 c171 c172 c173 c174 c175 c176 c177 c243 c244 c245 c246 c247 c248 c249 c250 c251 c252 c253 c254 c255 c256 c257 c258 c259 c260 c261 c262 c263 c264 c265 c266 c267 c268 c269 c270 c271 c272 c273 c274 c275 c276 c277 c278 c279 c280 c281 c282 c283 c284 c285 c286 c287 c288 c289 c290 c291 c292 c293 c294 c295 c296 c297 c298 c299 c300 c301 c302 c303 : Value) (u26 u27 u178 u179 u180 u181 u182 u183 u184 u185 u186 u187 u188 u189 u190 u191 u192 u193 u194 u195 u196 u197 u198 u199 u200 u201 u202 u203 u204 u205 u206 u207 u208 u209 u210 u211 u212 u213 u214 u215 u216 u217 u218 u219 u220 u221 u222 u223 u224 u225 u226 u227 u228 u229 u230 u231 u232 u233 u234 u235 u236 u237 u238 u239 u240 u241 u242 : Value) (bk ok capk gw capw : Nat) (W : List Nat) (S : St) (hS : StLt S) (w : World)
    (hk : ∀ i, i < 64 → w.cell? ⟨bk, ok + i, none⟩ = some (.int .u32 ((shaK.getD i 0 : Nat) : Int))) (hw : ∀ i, i < 64 → w.cell? ⟨gw, i, none⟩ = some (.int .u32 ((W.getD i 0 : Nat) : Int))) (hW : ∀ y ∈ W, y < 4294967296)
    (Q : Exit → Act → World → Prop) (hexit : ∀ (u26 u27 u178 u179 u180 u181 u182 u183 u184 u185 u186 u187 u188 u189 u190 u191 u192 u193 u194 u195 u196 u197 u198 u199 u200 u201 u202 u203 u204 u205 u206 u207 u208 u209 u210 u211 u212 u213 u214 u215 u216 u217 u218 u219 u220 u221 u222 u223 u224 u225 u226 u227 u228 u229 u230 u231 u232 u233 u234 u235 u236 u237 u238 u239 u240 u241 u242 : Value) (d : Nat) (s : St), s = rnds shaK W S 64 → Q (.exit 8) ⟨(List.toArray (c0 :: (.slice (some ⟨bk, ok, none⟩) 64 capk) :: c2 :: c3 :: c4 :: c5 :: c6 :: c7 :: c8 :: c9 :: c10 :: c11 :: (.slice (some ⟨gw, 0, none⟩) 64 capw) :: c13 :: c14 :: c15 :: c16 :: (.int .u32 (s.a : Int)) :: (.int .u32 (s.b : Int)) :: (.int .u32 (s.c : Int)) :: (.int .u32 (s.d : Int)) :: (.int .u32 (s.e : Int)) :: (.int .u32 (s.f : Int)) :: (.int .u32 (s.g : Int)) :: (.int .u32 (s.h : Int)) :: (.int .i64 64) :: u26 :: u27 :: c28 :: c29 :: c30 :: c31 :: c32 :: c33 :: c34 :: c35 :: c36 :: c37 :: c38 :: c39 :: c40 :: c41 :: c42 :: c43 :: c44 :: c45 :: c46 :: c47 :: c48 :: c49 :: c50 :: c51 :: c52 :: c53 :: c54 :: c55 :: c56 :: c57 :: c58 :: c59 :: c60 :: c61 :: c62 :: c63 :: c64 :: c65 :: c66 :: c67 :: c68 :: c69 :: c70 :: c71 :: c72 :: c73 :: c74 :: c75 :: c76 :: c77 :: c78 :: c79 :: c80 :: c81 :: c82 :: c83 :: c84 :: c85 :: c86 :: c87 :: c88 :: c89 :: c90 :: c91 :: c92 :: c93 :: c94 :: c95 :: c96 :: c97 :: c98 :: c99 :: c100 :: c101 :: c102 :: c103 :: c104 :: c105 :: c106 :: c107 :: c108 :: c109 :: c110 :: c111 :: c112 :: c113 :: c114 :: c115 :: c116 :: c117 :: c118 :: c119 :: c120 :: c121 :: c122 :: c123 :: c124 :: c125 :: c126 :: c127 :: c128 :: c129 :: c130 :: c131 :: c132 :: c133 :: c134 :: c135 :: c136 :: c137 :: c138 :: c139 :: c140 :: c141 :: c142 :: c143 :: c144 :: c145 :: c146 :: c147 :: c148 :: c149 :: c150 :: c151 :: c152 :: c153 :: c154 :: c155 :: c156 :: c157 :: c158 :: c159 :: c160 :: c161 :: c162 :: c163 :: c164 :: c165 :: c166 :: c167 :: c168 :: c169 :: c170 :: c171 :: c172 :: c173 :: c174 :: c175 :: c176 :: c177 :: u178 :: u179 :: u180 :: u181 :: u182 :: u183 :: u184 :: u185 :: u186 :: u187 :: u188 :: u189 :: u190 :: u191 :: u192 :: u193 :: u194 :: u195 :: u196 :: u197 :: u198 :: u199 :: u200 :: u201 :: u202 :: u203 :: u204 :: u205 :: u206 :: u207 :: u208 :: u209 :: u210 :: u211 :: u212 :: u213 :: u214 :: u215 :: u216 :: u217 :: u218 :: u219 :: u220 :: u221 :: u222 :: u223 :: u224 :: u225 :: u226 :: u227 :: u228 :: u229 :: u230 :: u231 :: u232 :: u233 :: u234 :: u235 :: u236 :: u237 :: u238 :: u239 :: u240 :: u241 :: u242 :: c243 :: c244 :: c245 :: c246 :: c247 :: c248 :: c249 :: c250 :: c251 :: c252 :: c253 :: c254 :: c255 :: c256 :: c257 :: c258 :: c259 :: c260 :: c261 :: c262 :: c263 :: c264 :: c265 :: c266 :: c267 :: c268 :: c269 :: c270 :: c271 :: c272 :: c273 :: c274 :: c275 :: c276 :: c277 :: c278 :: c279 :: c280 :: c281 :: c282 :: c283 :: c284 :: c285 :: c286 :: c287 :: c288 :: c289 :: c290 :: c291 :: c292 :: c293 :: c294 :: c295 :: c296 :: c297 :: c298 :: c299 :: c300 :: c301 :: c302 :: c303 :: [])), []⟩ (w.drewN d)) :
    Code.wp Tryd.prog (Code.loop roundsBody) Q ⟨(List.toArray (c0 :: (.slice (some ⟨bk, ok, none⟩) 64 capk) :: c2 :: c3 :: c4 :: c5 :: c6 :: c7 :: c8 :: c9 :: c10 :: c11 :: (.slice (some ⟨gw, 0, none⟩) 64 capw) :: c13 :: c14 :: c15 :: c16 :: (.int .u32 (S.a : Int)) :: (.int .u32 (S.b : Int)) :: (.int .u32 (S.c : Int)) :: (.int .u32 (S.d : Int)) :: (.int .u32 (S.e : Int)) :: (.int .u32 (S.f : Int)) :: (.int .u32 (S.g : Int)) :: (.int .u32 (S.h : Int)) :: (.int .i64 0) :: u26 :: u27 :: c28 :: c29 :: c30 :: c31 :: c32 :: c33 :: c34 :: c35 :: c36 :: c37 :: c38 :: c39 :: c40 :: c41 :: c42 :: c43 :: c44 :: c45 :: c46 :: c47 :: c48 :: c49 :: c50 :: c51 :: c52 :: c53 :: c54 :: c55 :: c56 :: c57 :: c58 :: c59 :: c60 :: c61 :: c62 :: c63 :: c64 :: c65 :: c66 :: c67 :: c68 :: c69 :: c70 :: c71 :: c72 :: c73 :: c74 :: c75 :: c76 :: c77 :: c78 :: c79 :: c80 :: c81 :: c82 :: c83 :: c84 :: c85 :: c86 :: c87 :: c88 :: c89 :: c90 :: c91 :: c92 :: c93 :: c94 :: c95 :: c96 :: c97 :: c98 :: c99 :: c100 :: c101 :: c102 :: c103 :: c104 :: c105 :: c106 :: c107 :: c108 :: c109 :: c110 :: c111 :: c112 :: c113 :: c114 :: c115 :: c116 :: c117 :: c118 :: c119 :: c120 :: c121 :: c122 :: c123 :: c124 :: c125 :: c126 :: c127 :: c128 :: c129 :: c130 :: c131 :: c132 :: c133 :: c134 :: c135 :: c136 :: c137 :: c138 :: c139 :: c140 :: c141 :: c142 :: c143 :: c144 :: c145 :: c146 :: c147 :: c148 :: c149 :: c150 :: c151 :: c152 :: c153 :: c154 :: c155 :: c156 :: c157 :: c158 :: c159 :: c160 :: c161 :: c162 :: c163 :: c164 :: c165 :: c166 :: c167 :: c168 :: c169 :: c170 :: c171 :: c172 :: c173 :: c174 :: c175 :: c176 :: c177 :: u178 :: u179 :: u180 :: u181 :: u182 :: u183 :: u184 :: u185 :: u186 :: u187 :: u188 :: u189 :: u190 :: u191 :: u192 :: u193 :: u194 :: u195 :: u196 :: u197 :: u198 :: u199 :: u200 :: u201 :: u202 :: u203 :: u204 :: u205 :: u206 :: u207 :: u208 :: u209 :: u210 :: u211 :: u212 :: u213 :: u214 :: u215 :: u216 :: u217 :: u218 :: u219 :: u220 :: u221 :: u222 :: u223 :: u224 :: u225 :: u226 :: u227 :: u228 :: u229 :: u230 :: u231 :: u232 :: u233 :: u234 :: u235 :: u236 :: u237 :: u238 :: u239 :: u240 :: u241 :: u242 :: c243 :: c244 :: c245 :: c246 :: c247 :: c248 :: c249 :: c250 :: c251 :: c252 :: c253 :: c254 :: c255 :: c256 :: c257 :: c258 :: c259 :: c260 :: c261 :: c262 :: c263 :: c264 :: c265 :: c266 :: c267 :: c268 :: c269 :: c270 :: c271 :: c272 :: c273 :: c274 :: c275 :: c276 :: c277 :: c278 :: c279 :: c280 :: c281 :: c282 :: c283 :: c284 :: c285 :: c286 :: c287 :: c288 :: c289 :: c290 :: c291 :: c292 :: c293 :: c294 :: c295 :: c296 :: c297 :: c298 :: c299 :: c300 :: c301 :: c302 :: c303 :: [])), []⟩ w := by
  conv => arg 2; arg 1; whnf
  have HX := Lib.hid hexit
  have HK := Lib.hid hk
  have HW := Lib.hid hw
  clear hexit hk hw
  go_loopw [17, 18, 19, 20, 21, 22, 23, 24, 25] (fun va vb vc vd ve vf vg vh tv wr3 => ∃ (t : Nat) (s : St), t ≤ 64 ∧ tv = .int .i64 (t : Int) ∧ s = rnds shaK W S t ∧ va = .int .u32 (s.a : Int) ∧ vb = .int .u32 (s.b : Int) ∧ vc = .int .u32 (s.c : Int) ∧ vd = .int .u32 (s.d : Int) ∧ ve = .int .u32 (s.e : Int) ∧ vf = .int .u32 (s.f : Int) ∧ vg = .int .u32 (s.g : Int) ∧ vh = .int .u32 (s.h : Int) ∧ ∃ d, wr3 = w.drewN d)
    (fun _ _ _ _ _ _ _ _ tv _ => 64 - (intOf tv).toNat)
  case atStart => exact ⟨0, S, Nat.zero_le _, rfl, rfl, rfl, rfl, rfl, rfl, rfl, rfl, rfl, rfl, 0, rfl⟩
  case round =>
    obtain ⟨t, s, ht, rfl, hs, rfl, rfl, rfl, rfl, rfl, rfl, rfl, rfl, d5, rfl⟩ := hrel
    have hlt5 : StLt s := hs ▸ rnds_lt _ _ hS t
    by_cases h64 : t < 64
    · have h64i : (t : Int) < 64 := by omega
      have HN : Hid (rnds shaK W S (t + 1) = rnd s (shaK.getD t 0) (W.getD t 0)) := Lib.hid (by rw [hs]; rfl)
      have kc : (w.drewN d5).cell? ⟨bk, ok + t, none⟩ = _ := HK.out t h64
      have wc : (w.drewN d5).cell? ⟨gw, t, none⟩ = _ := HW.out t h64
      have kb : shaK.getD t 0 < 4294967296 := getD_lt (l := shaK) (by decide) (by decide) t
      have wb : W.getD t 0 < 4294967296 := getD_lt hW (by decide) t
      obtain ⟨sa, sb, sc, sd, se, sf, sg, sh⟩ := s
      obtain ⟨la, lb, lc, ld, le, lf, lg, lh⟩ := hlt5
      dsimp only at la lb lc ld le lf lg lh ⊢
      have HNX : Hid (rnds shaK W S (t + 1) = ⟨((sh + big1 se + chs se sf sg + shaK.getD t 0 + W.getD t 0) % 4294967296 + (big0 sa + maj sa sb sc) % 4294967296) % 4294967296, sa, sb, sc, (sd + (sh + big1 se + chs se sf sg + shaK.getD t 0 + W.getD t 0) % 4294967296) % 4294967296, se, sf, sg⟩) := Lib.hid HN.out
      clear HN hs
      generalize shaK.getD t 0 = kt at kc kb HNX
      generalize W.getD t 0 = wt at wc wb HNX
      have t6 := fun w => turn_lit se 6 6 rfl w le (by decide) (by decide)
      have t11 := fun w => turn_lit se 11 11 rfl w le (by decide) (by decide)
      have t25 := fun w => turn_lit se 25 25 rfl w le (by decide) (by decide)
      have t2 := fun w => turn_lit sa 2 2 rfl w la (by decide) (by decide)
      have t13 := fun w => turn_lit sa 13 13 rfl w la (by decide) (by decide)
      have t22 := fun w => turn_lit sa 22 22 rfl w la (by decide) (by decide)
      have e1 := u32_xor_nat (rot se 6) (rot se 11) (rot_lt le) (rot_lt le)
      have e2 : bits .xor .u32 ((rot se 6 ^^^ rot se 11 : Nat) : Int) ((rot se 25 : Nat) : Int) = ((big1 se : Nat) : Int) := u32_xor_nat _ _ (Nat.xor_lt_two_pow (n := 32) (rot_lt le) (rot_lt le)) (rot_lt le)
      have e3 := u32_xor_nat (rot sa 2) (rot sa 13) (rot_lt la) (rot_lt la)
      have e4 : bits .xor .u32 ((rot sa 2 ^^^ rot sa 13 : Nat) : Int) ((rot sa 22 : Nat) : Int) = ((big0 sa : Nat) : Int) := u32_xor_nat _ _ (Nat.xor_lt_two_pow (n := 32) (rot_lt la) (rot_lt la)) (rot_lt la)
      have f1 := u32_and_nat se sf le lf
      have f2 : bits .xor .u32 (if IntKind.u32.signed = true then -1 else IntKind.u32.max) (se : Int) = ((se ^^^ 4294967295 : Nat) : Int) := w32_not se le
      have lne : se ^^^ 4294967295 < 4294967296 := Nat.xor_lt_two_pow (n := 32) le (by decide)
      have f3 := u32_and_nat (se ^^^ 4294967295) sg lne lg
      have f4 : bits .xor .u32 ((se &&& sf : Nat) : Int) (((se ^^^ 4294967295) &&& sg : Nat) : Int) = ((chs se sf sg : Nat) : Int) := u32_xor_nat _ _ (Nat.and_lt_two_pow (n := 32) _ lf) (Nat.and_lt_two_pow (n := 32) _ lg)
      have g1 := u32_and_nat sa sb la lb
      have g2 := u32_and_nat sa sc la lc
      have g3 := u32_and_nat sb sc lb lc
      have g4 := u32_xor_nat (sa &&& sb) (sa &&& sc) (Nat.and_lt_two_pow (n := 32) _ lb) (Nat.and_lt_two_pow (n := 32) _ lc)
      have g5 : bits .xor .u32 ((sa &&& sb ^^^ sa &&& sc : Nat) : Int) ((sb &&& sc : Nat) : Int) = ((maj sa sb sc : Nat) : Int) := u32_xor_nat _ _ (Nat.xor_lt_two_pow (n := 32) (Nat.and_lt_two_pow (n := 32) _ lb) (Nat.and_lt_two_pow (n := 32) _ lc)) (Nat.and_lt_two_pow (n := 32) _ lc)
      generalize big1 se = B1 at e2 HNX
      generalize big0 sa = B0 at e4 HNX
      generalize chs se sf sg = CH at f4 HNX
      generalize maj sa sb sc = MJ at g5 HNX
      generalize rot se 6 ^^^ rot se 11 = z1 at e1 e2
      generalize rot sa 2 ^^^ rot sa 13 = z2 at e3 e4
      generalize rot se 6 = r6 at t6 e1
      generalize rot se 11 = r11 at t11 e1
      generalize rot se 25 = r25 at t25 e2
      generalize rot sa 2 = r2 at t2 e3
      generalize rot sa 13 = r13 at t13 e3
      generalize rot sa 22 = r22 at t22 e4
      generalize sa &&& sb ^^^ sa &&& sc = m4 at g4 g5
      generalize (se ^^^ 4294967295) &&& sg = n3 at f3 f4
      generalize se ^^^ 4294967295 = n2 at f2 f3
      generalize se &&& sf = n1 at f1 f4
      generalize sa &&& sb = m1 at g1 g4
      generalize sa &&& sc = m2 at g2 g4
      generalize sb &&& sc = m3 at g3 g5
      have T6 := Lib.hid t6
      have T11 := Lib.hid t11
      have T25 := Lib.hid t25
      have T2 := Lib.hid t2
      have T13 := Lib.hid t13
      have T22 := Lib.hid t22
      clear t6 t11 t25 t2 t13 t22 HK HW HX hW lne
      generalize hw5 : w.drewN d5 = w5 at kc wc ⊢
      have HW5 := Lib.hid hw5; clear hw5
      go_wp2_with fail
      go_quiet ((go_at_call 25; first | (with_reducible exact Calls.quiet_of_same (T6.out _)) | (with_reducible exact Calls.quiet_of_same (T11.out _)) | (with_reducible exact Calls.quiet_of_same (T25.out _))))
      go_wp2_with fail
      refine (T2.out _).mono ?_
      rintro e w' ⟨rfl, rfl⟩
      go_wp2_with fail
      refine (T13.out _).mono ?_
      rintro e w' ⟨rfl, rfl⟩
      go_wp2_with fail
      refine (T22.out _).mono ?_
      rintro e w' ⟨rfl, rfl⟩
      go_wp2
      go_roundw
      case rel => exact ⟨t + 1, _, by omega, by go_num, HNX.out.symm, u32_eq (by dsimp only; omega), rfl, rfl, rfl, u32_eq (by dsimp only; omega), rfl, rfl, rfl, d5 + nq, by rw [← HW5.out, World.drewN_drewN]⟩
      case measure => simp [intOf]; omega
    · obtain rfl : t = 64 := by omega
      go_wp2
      exact HX.out _ _ _ _ _ _ _ _ _ _ _ _ _ _ _ _ _ _ _ _ _ _ _ _ _ _ _ _ _ _ _ _ _ _ _ _ _ _ _ _ _ _ _ _ _ _ _ _ _ _ _ _ _ _ _ _ _ _ _ _ _ _ _ _ _ _ _ d5 s hs

end Go.Proofs.YtjhipfgmiilmdaaDoor
