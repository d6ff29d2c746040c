/-
  The rows of a step of keccak.Permute: its inner loop as a declaration of its own. Own work.
-/
import Derived.Test.YtjfpbponjhpdhaaDoorKprm
import Derived.RegionTactic
import Derived.BigRegion
import Derived.BigQuiet
import Derived.Deep.QuietTactic
import Derived.IntWalk
namespace Go.Proofs.YtjfpbponjhpdhaaDoor
open Go.RowKit
set_option linter.unusedVariables false
theorem W_notx (x : Kc.Wd64) : bits BinOp.xor IntKind.u64 (if IntKind.u64.signed = true then -1 else IntKind.u64.max) (Kc.W x) = Kc.W (~~~x) := by
  have e : (if IntKind.u64.signed = true then -1 else IntKind.u64.max : Int) = Kc.W (BitVec.allOnes 64) := by rfl
  rw [e, Kc.W_xor, BitVec.allOnes_xor]
def firstLoop : Code → Option Code
  | .loop c => some c
  | .seq a b => match firstLoop a with
    | some c => some c
    | none => firstLoop b
  | .block _ c => firstLoop c
  | .scope c => firstLoop c
  | .cond _ a b => match firstLoop a with
    | some c => some c
    | none => firstLoop b
  | _ => none
namespace Kc
noncomputable def rowBody : Code := (((Tryd.f95.body.bind firstLoop).bind firstLoop).getD .skip)
set_option maxHeartbeats 40000000 in
set_option maxRecDepth 1000000 in
theorem rows_loop {Q0 : Exit → Act → World → Prop} (q0 q1 q2 : Nat) (bb c : Nat → Wd64) (w : World) (c0 c2 c4 c5 c6 c7 c8 c9 c10 c11 c12 c13 c14 c21 c22 c23 c24 c25 c26 c27 c28 c29 c30 c31 c32 c33 c34 c35 c36 c37 c38 c39 c40 c41 c42 c43 c44 c45 c46 c47 c48 c49 c50 c51 c52 c53 c54 c55 c56 c57 c58 c59 c60 c61 c62 c63 c64 c65 c66 c67 c68 c69 c70 c71 c72 c73 c74 c75 c76 c77 c78 c79 c80 c81 c82 c83 c84 c85 c86 c87 c88 c89 c90 c91 c92 c93 c94 c95 c96 c97 c98 c99 c100 c101 c102 c103 c104 c105 c106 c107 c108 c109 c110 c111 c112 c113 c114 c115 c116 c117 c118 c119 c120 c121 c122 c123 c124 c125 c126 c127 c128 c129 c130 c131 c132 c133 c134 c135 c136 c137 c138 c139 c140 c141 c142 c143 c144 c145 c146 c147 c148 c149 c150 c151 c152 c153 c154 c155 c156 c157 c158 c159 c160 c161 c162 c163 c164 c165 c166 c167 c168 c169 c170 c171 c172 c173 c174 c175 c176 c177 c178 c179 c180 c181 c182 c183 c184 c185 c186 c187 c188 c189 c190 c191 c192 c193 c194 c195 c196 c197 c198 c199 c200 c201 c202 c203 c204 c205 c206 c207 c208 c209 c210 c211 c212 c213 c214 c215 c216 c217 c218 c219 c220 c221 c222 c223 c224 c225 c226 c227 c228 c229 c230 c231 c232 c233 c234 c235 c236 c237 c238 c239 c240 c241 c242 c243 c244 c245 c246 c247 c248 c249 c250 c251 c252 c253 c254 c255 c256 c257 c258 c259 c260 c261 c262 c263 c331 c332 c333 c334 c335 c336 c337 c338 c339 u16 u17 u18 u19 u20 u264 u265 u266 u267 u268 u269 u270 u271 u272 u273 u274 u275 u276 u277 u278 u279 u280 u281 u282 u283 u284 u285 u286 u287 u288 u289 u290 u291 u292 u293 u294 u295 u296 u297 u298 u299 u300 u301 u302 u303 u304 u305 u306 u307 u308 u309 u310 u311 u312 u313 u314 u315 u316 u317 u318 u319 u320 u321 u322 u323 u324 u325 u326 u327 u328 u329 u330 : Value) (z0 : World)
    (hp : Pm w q0 q1 q2 c bb z0)
    (hexit : ∀ (v16 v17 v18 v19 v20 v264 v265 v266 v267 v268 v269 v270 v271 v272 v273 v274 v275 v276 v277 v278 v279 v280 v281 v282 v283 v284 v285 v286 v287 v288 v289 v290 v291 v292 v293 v294 v295 v296 v297 v298 v299 v300 v301 v302 v303 v304 v305 v306 v307 v308 v309 v310 v311 v312 v313 v314 v315 v316 v317 v318 v319 v320 v321 v322 v323 v324 v325 v326 v327 v328 v329 v330 : Value) (z : World), Pm w q0 q1 q2 (chi bb) bb z → Q0 (.exit 2) ⟨(c0 :: Value.pointer (some ⟨q0, 0, none⟩) :: c2 :: Value.pointer (some ⟨q2, 0, none⟩) :: c4 :: c5 :: c6 :: c7 :: c8 :: c9 :: c10 :: c11 :: c12 :: c13 :: c14 :: Value.int .i64 25 :: v16 :: v17 :: v18 :: v19 :: v20 :: c21 :: c22 :: c23 :: c24 :: c25 :: c26 :: c27 :: c28 :: c29 :: c30 :: c31 :: c32 :: c33 :: c34 :: c35 :: c36 :: c37 :: c38 :: c39 :: c40 :: c41 :: c42 :: c43 :: c44 :: c45 :: c46 :: c47 :: c48 :: c49 :: c50 :: c51 :: c52 :: c53 :: c54 :: c55 :: c56 :: c57 :: c58 :: c59 :: c60 :: c61 :: c62 :: c63 :: c64 :: c65 :: c66 :: c67 :: c68 :: c69 :: c70 :: c71 :: c72 :: c73 :: c74 :: c75 :: c76 :: c77 :: c78 :: c79 :: c80 :: c81 :: c82 :: c83 :: c84 :: c85 :: c86 :: c87 :: c88 :: c89 :: c90 :: c91 :: c92 :: c93 :: c94 :: c95 :: c96 :: c97 :: c98 :: c99 :: c100 :: c101 :: c102 :: c103 :: c104 :: c105 :: c106 :: c107 :: c108 :: c109 :: c110 :: c111 :: c112 :: c113 :: c114 :: c115 :: c116 :: c117 :: c118 :: c119 :: c120 :: c121 :: c122 :: c123 :: c124 :: c125 :: c126 :: c127 :: c128 :: c129 :: c130 :: c131 :: c132 :: c133 :: c134 :: c135 :: c136 :: c137 :: c138 :: c139 :: c140 :: c141 :: c142 :: c143 :: c144 :: c145 :: c146 :: c147 :: c148 :: c149 :: c150 :: c151 :: c152 :: c153 :: c154 :: c155 :: c156 :: c157 :: c158 :: c159 :: c160 :: c161 :: c162 :: c163 :: c164 :: c165 :: c166 :: c167 :: c168 :: c169 :: c170 :: c171 :: c172 :: c173 :: c174 :: c175 :: c176 :: c177 :: c178 :: c179 :: c180 :: c181 :: c182 :: c183 :: c184 :: c185 :: c186 :: c187 :: c188 :: c189 :: c190 :: c191 :: c192 :: c193 :: c194 :: c195 :: c196 :: c197 :: c198 :: c199 :: c200 :: c201 :: c202 :: c203 :: c204 :: c205 :: c206 :: c207 :: c208 :: c209 :: c210 :: c211 :: c212 :: c213 :: c214 :: c215 :: c216 :: c217 :: c218 :: c219 :: c220 :: c221 :: c222 :: c223 :: c224 :: c225 :: c226 :: c227 :: c228 :: c229 :: c230 :: c231 :: c232 :: c233 :: c234 :: c235 :: c236 :: c237 :: c238 :: c239 :: c240 :: c241 :: c242 :: c243 :: c244 :: c245 :: c246 :: c247 :: c248 :: c249 :: c250 :: c251 :: c252 :: c253 :: c254 :: c255 :: c256 :: c257 :: c258 :: c259 :: c260 :: c261 :: c262 :: c263 :: v264 :: v265 :: v266 :: v267 :: v268 :: v269 :: v270 :: v271 :: v272 :: v273 :: v274 :: v275 :: v276 :: v277 :: v278 :: v279 :: v280 :: v281 :: v282 :: v283 :: v284 :: v285 :: v286 :: v287 :: v288 :: v289 :: v290 :: v291 :: v292 :: v293 :: v294 :: v295 :: v296 :: v297 :: v298 :: v299 :: v300 :: v301 :: v302 :: v303 :: v304 :: v305 :: v306 :: v307 :: v308 :: v309 :: v310 :: v311 :: v312 :: v313 :: v314 :: v315 :: v316 :: v317 :: v318 :: v319 :: v320 :: v321 :: v322 :: v323 :: v324 :: v325 :: v326 :: v327 :: v328 :: v329 :: v330 :: c331 :: c332 :: c333 :: c334 :: c335 :: c336 :: c337 :: c338 :: c339 :: []).toArray, []⟩ z) :
    Code.wp Tryd.prog (Code.loop rowBody) Q0 ⟨(c0 :: Value.pointer (some ⟨q0, 0, none⟩) :: c2 :: Value.pointer (some ⟨q2, 0, none⟩) :: c4 :: c5 :: c6 :: c7 :: c8 :: c9 :: c10 :: c11 :: c12 :: c13 :: c14 :: Value.int .i64 0 :: u16 :: u17 :: u18 :: u19 :: u20 :: c21 :: c22 :: c23 :: c24 :: c25 :: c26 :: c27 :: c28 :: c29 :: c30 :: c31 :: c32 :: c33 :: c34 :: c35 :: c36 :: c37 :: c38 :: c39 :: c40 :: c41 :: c42 :: c43 :: c44 :: c45 :: c46 :: c47 :: c48 :: c49 :: c50 :: c51 :: c52 :: c53 :: c54 :: c55 :: c56 :: c57 :: c58 :: c59 :: c60 :: c61 :: c62 :: c63 :: c64 :: c65 :: c66 :: c67 :: c68 :: c69 :: c70 :: c71 :: c72 :: c73 :: c74 :: c75 :: c76 :: c77 :: c78 :: c79 :: c80 :: c81 :: c82 :: c83 :: c84 :: c85 :: c86 :: c87 :: c88 :: c89 :: c90 :: c91 :: c92 :: c93 :: c94 :: c95 :: c96 :: c97 :: c98 :: c99 :: c100 :: c101 :: c102 :: c103 :: c104 :: c105 :: c106 :: c107 :: c108 :: c109 :: c110 :: c111 :: c112 :: c113 :: c114 :: c115 :: c116 :: c117 :: c118 :: c119 :: c120 :: c121 :: c122 :: c123 :: c124 :: c125 :: c126 :: c127 :: c128 :: c129 :: c130 :: c131 :: c132 :: c133 :: c134 :: c135 :: c136 :: c137 :: c138 :: c139 :: c140 :: c141 :: c142 :: c143 :: c144 :: c145 :: c146 :: c147 :: c148 :: c149 :: c150 :: c151 :: c152 :: c153 :: c154 :: c155 :: c156 :: c157 :: c158 :: c159 :: c160 :: c161 :: c162 :: c163 :: c164 :: c165 :: c166 :: c167 :: c168 :: c169 :: c170 :: c171 :: c172 :: c173 :: c174 :: c175 :: c176 :: c177 :: c178 :: c179 :: c180 :: c181 :: c182 :: c183 :: c184 :: c185 :: c186 :: c187 :: c188 :: c189 :: c190 :: c191 :: c192 :: c193 :: c194 :: c195 :: c196 :: c197 :: c198 :: c199 :: c200 :: c201 :: c202 :: c203 :: c204 :: c205 :: c206 :: c207 :: c208 :: c209 :: c210 :: c211 :: c212 :: c213 :: c214 :: c215 :: c216 :: c217 :: c218 :: c219 :: c220 :: c221 :: c222 :: c223 :: c224 :: c225 :: c226 :: c227 :: c228 :: c229 :: c230 :: c231 :: c232 :: c233 :: c234 :: c235 :: c236 :: c237 :: c238 :: c239 :: c240 :: c241 :: c242 :: c243 :: c244 :: c245 :: c246 :: c247 :: c248 :: c249 :: c250 :: c251 :: c252 :: c253 :: c254 :: c255 :: c256 :: c257 :: c258 :: c259 :: c260 :: c261 :: c262 :: c263 :: u264 :: u265 :: u266 :: u267 :: u268 :: u269 :: u270 :: u271 :: u272 :: u273 :: u274 :: u275 :: u276 :: u277 :: u278 :: u279 :: u280 :: u281 :: u282 :: u283 :: u284 :: u285 :: u286 :: u287 :: u288 :: u289 :: u290 :: u291 :: u292 :: u293 :: u294 :: u295 :: u296 :: u297 :: u298 :: u299 :: u300 :: u301 :: u302 :: u303 :: u304 :: u305 :: u306 :: u307 :: u308 :: u309 :: u310 :: u311 :: u312 :: u313 :: u314 :: u315 :: u316 :: u317 :: u318 :: u319 :: u320 :: u321 :: u322 :: u323 :: u324 :: u325 :: u326 :: u327 :: u328 :: u329 :: u330 :: c331 :: c332 :: c333 :: c334 :: c335 :: c336 :: c337 :: c338 :: c339 :: []).toArray, []⟩ z0 := by
  conv => arg 2; whnf
  conv => arg 2; arg 1; whnf
  have HEX := Lib.hid hexit
  clear hexit
  have HPP := Lib.hid hp
  clear hp
  go_loopw [15] (fun s z => ∃ r : Nat, r ≤ 25 ∧ Hid (r % 5 = 0) ∧ s = .int .i64 r ∧ Pm w q0 q1 q2 (chiK bb c r) bb z) (fun s _ => 25 - (intOf s).toNat)
  case atStart => exact ⟨0, by decide, Lib.hid rfl, rfl, HPP.out.congA (chiK_zero _ c)⟩
  case round =>
    obtain ⟨r, hr, hr5, rfl, hp⟩ := hrel
    clear HPP
    have HPP := Lib.hid hp
    clear hp
    by_cases hr25 : (r : Int) < 25
    · have hr20 : (r : Int) ≤ 20 := by have := hr5.out; omega
      have b0 := HPP.out.sb.cell r (by omega)
      have b1 := HPP.out.sb.cell (r + 1) (by omega)
      have b2 := HPP.out.sb.cell (r + 2) (by omega)
      have b3 := HPP.out.sb.cell (r + 3) (by omega)
      have b4 := HPP.out.sb.cell (r + 4) (by omega)
      clear hr
      go_upto_region 43 with (fail)
      go_quiet (fail)
      clear b0 b1 b2 b3 b4
      have HP2 := Lib.hid (HPP.out.drewN nq)
      clear HPP
      generalize World.drewN wr nq = s0 at *
      have xr := W_xor
      have xa := W_and
      have xn := W_notx
      have aj := HP2.out.sa.cell r (by omega)
      have fj := HP2.out.sa.fz r
      go_upto_region 45 with (fail)
      have hp2 := HP2.out.setA r (bb r ^^^ (~~~bb (r + 1) &&& bb (r + 2)))
      clear HP2 aj fj
      have HP2 := Lib.hid hp2
      clear hp2
      generalize World.setCell s0 ⟨q0, r, none⟩ (.int .u64 (W (bb r ^^^ (~~~bb (r + 1) &&& bb (r + 2))))) = s1 at *
      have aj := HP2.out.sa.cell (r + 1) (by omega)
      have fj := HP2.out.sa.fz (r + 1)
      go_upto_region 46 with (fail)
      have hp2 := HP2.out.setA (r + 1) (bb (r + 1) ^^^ (~~~bb (r + 2) &&& bb (r + 3)))
      clear HP2 aj fj
      have HP2 := Lib.hid hp2
      clear hp2
      generalize World.setCell s1 ⟨q0, (r + 1), none⟩ (.int .u64 (W (bb (r + 1) ^^^ (~~~bb (r + 2) &&& bb (r + 3))))) = s2 at *
      have aj := HP2.out.sa.cell (r + 2) (by omega)
      have fj := HP2.out.sa.fz (r + 2)
      go_upto_region 47 with (fail)
      have hp2 := HP2.out.setA (r + 2) (bb (r + 2) ^^^ (~~~bb (r + 3) &&& bb (r + 4)))
      clear HP2 aj fj
      have HP2 := Lib.hid hp2
      clear hp2
      generalize World.setCell s2 ⟨q0, (r + 2), none⟩ (.int .u64 (W (bb (r + 2) ^^^ (~~~bb (r + 3) &&& bb (r + 4))))) = s3 at *
      have aj := HP2.out.sa.cell (r + 3) (by omega)
      have fj := HP2.out.sa.fz (r + 3)
      go_upto_region 48 with (fail)
      have hp2 := HP2.out.setA (r + 3) (bb (r + 3) ^^^ (~~~bb (r + 4) &&& bb r))
      clear HP2 aj fj
      have HP2 := Lib.hid hp2
      clear hp2
      generalize World.setCell s3 ⟨q0, (r + 3), none⟩ (.int .u64 (W (bb (r + 3) ^^^ (~~~bb (r + 4) &&& bb r)))) = s4 at *
      have aj := HP2.out.sa.cell (r + 4) (by omega)
      have fj := HP2.out.sa.fz (r + 4)
      go_upto_region 42 with (fail)
      have hp2 := HP2.out.setA (r + 4) (bb (r + 4) ^^^ (~~~bb r &&& bb (r + 1)))
      clear HP2 aj fj
      have HP2 := Lib.hid hp2
      clear hp2
      generalize World.setCell s4 ⟨q0, (r + 4), none⟩ (.int .u64 (W (bb (r + 4) ^^^ (~~~bb r &&& bb (r + 1))))) = s5 at *
      clear xr xa xn
      go_wp2_with fail
      go_roundw
      case rel => exact ⟨r + 5, by omega, Lib.hid (by have := hr5.out; omega), by go_num, HP2.out.congA (row_ok bb c r hr5.out)⟩
      case measure => simp [intOf]; omega

    · obtain rfl : r = 25 := by omega
      have hpx := HPP.out.congA (a' := chi bb) (fun i hi => by unfold chiK; rw [if_pos hi])
      have HPX := Lib.hid hpx
      clear hpx HPP
      go_wp2_with fail
      exact HEX.out _ _ _ _ _ _ _ _ _ _ _ _ _ _ _ _ _ _ _ _ _ _ _ _ _ _ _ _ _ _ _ _ _ _ _ _ _ _ _ _ _ _ _ _ _ _ _ _ _ _ _ _ _ _ _ _ _ _ _ _ _ _ _ _ _ _ _ _ _ _ _ _ _ HPX.out
end Kc
end Go.Proofs.YtjfpbponjhpdhaaDoor
