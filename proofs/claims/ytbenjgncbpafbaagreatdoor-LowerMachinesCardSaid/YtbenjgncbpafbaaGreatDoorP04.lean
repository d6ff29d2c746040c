/- Merged of Eqa Mt App Krows Tks R1 R2. Own work. -/
import Derived.Test.YtbenjgncbpafbaaGreatDoorP02
import Derived.Laws.StructEq
import Derived.Test.YtbenjgncbpafbaaGreatDoorP03
import Derived.Laws.AppendOwn
import Derived.WalkKit
import Derived.Deep.RegionLaw
import Derived.RegionTactic
import Derived.BigRegion
import Derived.BigQuiet
import Derived.Deep.QuietTactic
import Derived.IntWalk
import Derived.OrdersHeld
import Derived.Deep.RegionHeld3
import Derived.StillTail
import Derived.Deep.MidRow
import Derived.WalkSmall
import Derived.Below
import Derived.StillTailTactics
import Derived.Laws.AppendOwnNone
namespace Go.Proofs.YtbenjgncbpafbaaGreatDoor
open Go.RowKit
set_option linter.unusedVariables false
section
variable {P : Program} {md : Region.Mode} {ops : Array Oper} {C : World → Prop}
end
namespace Kc
theorem run_equal_tab {P : Program} (w : World) (d : Nat) (t e : TypeId) (n : Nat) (k : IntKind) (ht : P.underlying t = some (.array n e)) (he : P.underlying e = some (.int k)) (hsz : ∀ w, (sizeOf e).run P w = .ok 1 w) (f g : Nat → Int) :
    (Op.equalIn (d + 2) t (.agg (tab n fun i => .int k (f i))) (.agg (tab n fun i => .int k (g i)))).run P w = .ok ((List.range n).all fun i => f i == g i) w := by
  rw [List.range_eq_range', Op.equalIn]
  simp only [Sem.run_bind, run_underlying ht, Result.andThen_ok, hsz, Std.Legacy.Range.forIn_eq_forIn_range', Std.Legacy.Range.size, Nat.sub_zero, Nat.add_sub_cancel, Nat.div_one]
  have hl : ∀ i ∈ List.range' 0 n 1, i < n := fun i hi => by simpa using (List.mem_range'_1.1 hi).2
  generalize List.range' 0 n 1 = l at hl ⊢
  induction l with
  | nil => simp
  | cons i l ih =>
    have hi : i < n := hl i (by simp)
    have px : ∀ h : Nat → Int, (part e (tab n fun i => .int k (h i)) (i * 1)).run P w = .ok (.int k (h i)) w := fun h => by
      have := tab_at (fun i => Value.int k (h i)) hi
      simp [part, isAgg, run_underlying he, this]
    have pe : (Op.equalIn (d + 1) e (.int k (f i)) (.int k (g i))).run P w = .ok (f i == g i) w := run_equalIn_int w d e k k _ _ he
    simp only [List.forIn_cons, Sem.run_bind, px, pe, Result.andThen_ok, List.all_cons]
    cases hb : (f i == g i)
    · simp
    · simp only [Bool.not_true, Bool.false_eq_true, if_false, Sem.run_pure, Result.andThen_ok, Bool.true_and]
      exact ih fun j hj => hl j (by simp [hj])
theorem sizeU8 (w : World) : (sizeOf 5).run Tryz.prog w = .ok 1 w := by kernel_rfl
theorem undU8 : Tryz.prog.underlying 5 = some (.int .u8) := by kernel_rfl
end Kc
end Go.Proofs.YtbenjgncbpafbaaGreatDoor
namespace Go.Proofs.YtbenjgncbpafbaaGreatDoor
set_option linter.unusedVariables false
namespace Mk
open Kc
abbrev Hx := Nat → Bt
def pr (x y : Hx) : Hx := sum (both x y)
def zero : Nat → Hx
  | 0 => fun _ => 0#8
  | h + 1 => pr (zero h) (zero h)
/-- With another leaf at a place. -/
def put (g : Nat → Hx) (i : Nat) (x : Hx) : Nat → Hx := fun k => if k = i then x else g k
end Mk
end Go.Proofs.YtbenjgncbpafbaaGreatDoor
namespace Go.Proofs.YtbenjgncbpafbaaGreatDoor
open Go.RowKit
section
variable {P : Program} (w : World)
theorem run_append_at (base : Nat) (t ty e : TypeId) (i : TypeInfo) (z : Value) (size bytes : Nat) (ht : P.underlying t = some (.slice e)) (hi : P.info? e = some i) (hz : i.zero = some z)
    (hsize : i.size = size) (hby : i.bytes = bytes) (hzs : z.cells.size = size) (hsz : 0 < size)
    (v : Value) (n : Nat) (xs : List Value) (hown : w.ownsRow base e size v n xs)
    (a : Addr) (m c : Nat) (news : List Value) (hl : news.length = m * size) (hnews : ∀ j u, news[j]? = some u → w.cell? (a.add j) = some u) (h1 : ∀ u ∈ news, u.oneCell' = true)
    (h63 : n + m ≤ maxLen) (hbytes : (n + m) * bytes ≤ 140737488355328) (hbase : base ≤ w.heap.size) :
    ∃ v' w', (Builtin.append_ #[t, t] ty #[v, .slice (some a) m c]).run P w = .ok v' w' ∧ w'.ownsRow base e size v' (n + m) (xs ++ news) ∧ w.grownBy w' v.ownBlock ∧
      (v' = .slice none 0 0 ↔ v = .slice none 0 0 ∧ m = 0) ∧ ∀ k, v'.ownBlock = some k → v.ownBlock = some k ∨ k = w.heap.size := by
  obtain ⟨v', w', hr, h2, h3, h4⟩ := run_append_own (P := P) w base t ty e i z size bytes ht hi hz hsize hby hzs hsz v n xs hown a m c news hl hnews h1 h63 hbytes hbase
  refine ⟨v', w', hr, h2, h3, h4, ?_⟩
  have hsmall : n + m ≤ 9223372036854775807 := by simp only [maxLen] at h63; omega
  have key : ∀ (u : Value) (x : World), (Builtin.append_ #[t, t] ty #[v, .slice (some a) m c]).run P w = .ok u x → v' = u := by
    intro u x hx
    rw [hr] at hx
    injection hx
  subst hsize
  subst hby
  rcases hown.2 with ⟨rfl, rfl⟩ | ⟨g, cap, cur, rfl, hbg, hg, hnc, hcm, hcs, htake⟩
  · by_cases hm : m = 0
    · rw [h4.2 ⟨rfl, hm⟩]
      intro k hk
      simp [Value.ownBlock] at hk
    · have hr2 := run_append_nil (P := P) w t ty e i z ht hi hz a m c news hl hnews (by omega) (by omega) (by have hb := hbytes; simp only [Nat.zero_add] at hb; omega)
      rw [key _ _ hr2]
      intro k hk
      simp [Value.ownBlock] at hk
      exact .inr hk.symm
  · by_cases hroom : n + m ≤ cap
    · have hfit : n * i.size + news.length ≤ cur.size := by rw [hl, hcs, ← Nat.add_mul]; exact Nat.mul_le_mul_right _ hroom
      have hr2 := run_append_room (P := P) w t ty e i ht hi g n cap cur hg a m c news hl hnews h1 hroom hfit
      rw [key _ _ hr2]
      intro k hk
      exact .inl hk
    · have holds : ∀ j u, xs[j]? = some u → w.cell? ((⟨g, 0, none⟩ : Addr).add j) = some u := hown.cells (g := g) rfl
      have hr2 := run_append_grow (P := P) w t ty e i z ht hi hz ⟨g, 0, none⟩ n cap xs hown.1 holds a m c news hl hnews (by omega) (by omega) (growslice_fits (by omega) hbytes)
      rw [key _ _ hr2]
      intro k hk
      simp [Value.ownBlock] at hk
      exact .inr hk.symm
theorem wpList_append_at {ops : Array Oper} {rest : List Oper} {o : Oper} {a : Act} {Q : Exit → Act → World → Prop} (hgd : o.guard = none) (s x : Operand) (t : TypeId)
    (ho : o.op = .call { callee := .builtin .append, args := #[s, x], argTypes := #[t, t] })
    (base : Nat) (e : TypeId) (i : TypeInfo) (z : Value) (size bytes : Nat) (ht : P.underlying t = some (.slice e)) (hi : P.info? e = some i ∧ i.zero = some z ∧ i.size = size ∧ i.bytes = bytes)
    (hzs : z.cells.size = size) (hsz : 0 < size)
    (v : Value) (n : Nat) (xs : List Value) (hs : a.eval s = v) (hown : w.ownsRow base e size v n xs)
    (ad : Addr) (m c : Nat) (news : List Value) (hx : a.eval x = .slice (some ad) m c) (hl : news.length = m * size) (hnews : ∀ j u, news[j]? = some u → w.cell? (ad.add j) = some u) (h1 : ∀ u ∈ news, u.oneCell' = true)
    (h63 : n + m ≤ maxLen) (hbytes : (n + m) * bytes ≤ 140737488355328) (hbase : base ≤ w.heap.size)
    (h : ∀ v' w', w'.ownsRow base e size v' (n + m) (xs ++ news) → w.grownBy w' v.ownBlock → (∀ k, v'.ownBlock = some k → v.ownBlock = some k ∨ k = w.heap.size) → wpList P ops Q rest (a.put o.dst v') w') : wpList P ops Q (o :: rest) a w :=
  wpList_plain hgd fun K hK => by
    obtain ⟨v', w', hr, h2, h3, _, h4⟩ := run_append_at (P := P) w base t o.type e i z size bytes ht hi.1 hi.2.1 hi.2.2.1 hi.2.2.2 hzs hsz v n xs hown ad m c news hl hnews h1 h63 hbytes hbase
    have hh := hK _ _ (h v' w' h2 h3 h4)
    unfold Oper.wp execOp
    simp only [ho, resolve, invoke, builtin, Sem.run_bind, Sem.run_pure, Result.andThen_ok, List.map_toArray, List.map_cons, List.map_nil, hs, hx, hr]
    exact hh
end
/-- A value of the heap that owns its own block at 'b' and the block of a slice at cell 'o' of it. -/
def OwnS (w : World) (b o : Nat) (k : Nat) : Prop := k = b ∨ ∃ V, w.cell? ⟨b, o, none⟩ = some V ∧ V.ownBlock = some k
structure MovesS (b o : Nat) (w w' : World) : Prop where
  kept : Kept (OwnS w b o) w w'
  own : ∀ k, OwnS w' b o k → OwnS w b o k ∨ w.heap.size ≤ k
theorem MovesS.refl (b o : Nat) (w : World) : MovesS b o w w := ⟨Kept.refl _ _, fun _ h => .inl h⟩
theorem MovesS.trans {b o : Nat} {x y z : World} (h : MovesS b o x y) (k : MovesS b o y z) : MovesS b o x z :=
  ⟨h.kept.trans k.kept (fun i hi ho => (h.own i ho).resolve_right (by omega)), fun i ho => by
    rcases k.own i ho with ho | ho
    · exact h.own i ho
    · exact .inr (Nat.le_trans h.kept.size ho)⟩
theorem MovesS.drewN {b o : Nat} {x y : World} (h : MovesS b o x y) (n : Nat) : MovesS b o x (y.drewN n) := ⟨h.kept.drewN n, h.own⟩
theorem MovesS.ofBelow {b o : Nat} {w w' : World} {V : Value} (hV : w.cell? ⟨b, o, none⟩ = some V) (hb : Below w.heap.size w w') : MovesS b o w w' := by
  refine ⟨Kept.ofBelow hb, fun k hk => .inl ?_⟩
  rcases hk with hk | ⟨V', hV', hk⟩
  · exact .inl hk
  · rw [keep1 hb hV] at hV'; injection hV' with e; subst e; exact .inr ⟨_, hV, hk⟩
end Go.Proofs.YtbenjgncbpafbaaGreatDoor
namespace Go.Proofs.YtbenjgncbpafbaaGreatDoor
open Go.RowKit
set_option linter.unusedVariables false
theorem W_notx (x : Kc.Wd64) : bits BinOp.xor IntKind.u64 (if IntKind.u64.signed = true then -1 else IntKind.u64.max) (Kc.W x) = Kc.W (~~~x) := by
  have e : (if IntKind.u64.signed = true then -1 else IntKind.u64.max : Int) = Kc.W (BitVec.allOnes 64) := by rfl
  rw [e, Kc.W_xor, BitVec.allOnes_xor]
def firstLoop : Code → Option Code
  | .loop c => some c
  | .seq a b => match firstLoop a with
    | some c => some c
    | none => firstLoop b
  | .block _ c => firstLoop c
  | .scope c => firstLoop c
  | .cond _ a b => match firstLoop a with
    | some c => some c
    | none => firstLoop b
  | _ => none
namespace Kc
noncomputable def rowBody : Code := (((Tryz.f89.body.bind firstLoop).bind firstLoop).getD .skip)
set_option maxHeartbeats 40000000 in
set_option maxRecDepth 1000000 in
theorem rows_loop {Q0 : Exit → Act → World → Prop} (q0 q1 q2 : Nat) (bb c : Nat → Wd64) (w : World) (c0 c2 c4 c5 c6 c7 c8 c9 c10 c11 c12 c13 c14 c21 c22 c23 c24 c25 c26 c27 c28 c29 c30 c31 c32 c33 c34 c35 c36 c37 c38 c39 c40 c41 c42 c43 c44 c45 c46 c47 c48 c49 c50 c51 c52 c53 c54 c55 c56 c57 c58 c59 c60 c61 c62 c63 c64 c65 c66 c67 c68 c69 c70 c71 c72 c73 c74 c75 c76 c77 c78 c79 c80 c81 c82 c83 c84 c85 c86 c87 c88 c89 c90 c91 c92 c93 c94 c95 c96 c97 c98 c99 c100 c101 c102 c103 c104 c105 c106 c107 c108 c109 c110 c111 c112 c113 c114 c115 c116 c117 c118 c119 c120 c121 c122 c123 c124 c125 c126 c127 c128 c129 c130 c131 c132 c133 c134 c135 c136 c137 c138 c139 c140 c141 c142 c143 c144 c145 c146 c147 c148 c149 c150 c151 c152 c153 c154 c155 c156 c157 c158 c159 c160 c161 c162 c163 c164 c165 c166 c167 c168 c169 c170 c171 c172 c173 c174 c175 c176 c177 c178 c179 c180 c181 c182 c183 c184 c185 c186 c187 c188 c189 c190 c191 c192 c193 c194 c195 c196 c197 c198 c199 c200 c201 c202 c203 c204 c205 c206 c207 c208 c209 c210 c211 c212 c213 c214 c215 c216 c217 c218 c219 c220 c221 c222 c223 c224 c225 c226 c227 c228 c229 c230 c231 c232 c233 c234 c235 c236 c237 c238 c239 c240 c241 c242 c243 c244 c245 c246 c247 c248 c249 c250 c251 c252 c253 c254 c255 c256 c257 c258 c259 c260 c261 c262 c263 c331 c332 c333 c334 c335 c336 c337 c338 c339 u16 u17 u18 u19 u20 u264 u265 u266 u267 u268 u269 u270 u271 u272 u273 u274 u275 u276 u277 u278 u279 u280 u281 u282 u283 u284 u285 u286 u287 u288 u289 u290 u291 u292 u293 u294 u295 u296 u297 u298 u299 u300 u301 u302 u303 u304 u305 u306 u307 u308 u309 u310 u311 u312 u313 u314 u315 u316 u317 u318 u319 u320 u321 u322 u323 u324 u325 u326 u327 u328 u329 u330 : Value) (z0 : World)
    (hp : Pm w q0 q1 q2 c bb z0)
    (hexit : ∀ (v16 v17 v18 v19 v20 v264 v265 v266 v267 v268 v269 v270 v271 v272 v273 v274 v275 v276 v277 v278 v279 v280 v281 v282 v283 v284 v285 v286 v287 v288 v289 v290 v291 v292 v293 v294 v295 v296 v297 v298 v299 v300 v301 v302 v303 v304 v305 v306 v307 v308 v309 v310 v311 v312 v313 v314 v315 v316 v317 v318 v319 v320 v321 v322 v323 v324 v325 v326 v327 v328 v329 v330 : Value) (z : World), Pm w q0 q1 q2 (chi bb) bb z → Q0 (.exit 2) ⟨(c0 :: Value.pointer (some ⟨q0, 0, none⟩) :: c2 :: Value.pointer (some ⟨q2, 0, none⟩) :: c4 :: c5 :: c6 :: c7 :: c8 :: c9 :: c10 :: c11 :: c12 :: c13 :: c14 :: Value.int .i64 25 :: v16 :: v17 :: v18 :: v19 :: v20 :: c21 :: c22 :: c23 :: c24 :: c25 :: c26 :: c27 :: c28 :: c29 :: c30 :: c31 :: c32 :: c33 :: c34 :: c35 :: c36 :: c37 :: c38 :: c39 :: c40 :: c41 :: c42 :: c43 :: c44 :: c45 :: c46 :: c47 :: c48 :: c49 :: c50 :: c51 :: c52 :: c53 :: c54 :: c55 :: c56 :: c57 :: c58 :: c59 :: c60 :: c61 :: c62 :: c63 :: c64 :: c65 :: c66 :: c67 :: c68 :: c69 :: c70 :: c71 :: c72 :: c73 :: c74 :: c75 :: c76 :: c77 :: c78 :: c79 :: c80 :: c81 :: c82 :: c83 :: c84 :: c85 :: c86 :: c87 :: c88 :: c89 :: c90 :: c91 :: c92 :: c93 :: c94 :: c95 :: c96 :: c97 :: c98 :: c99 :: c100 :: c101 :: c102 :: c103 :: c104 :: c105 :: c106 :: c107 :: c108 :: c109 :: c110 :: c111 :: c112 :: c113 :: c114 :: c115 :: c116 :: c117 :: c118 :: c119 :: c120 :: c121 :: c122 :: c123 :: c124 :: c125 :: c126 :: c127 :: c128 :: c129 :: c130 :: c131 :: c132 :: c133 :: c134 :: c135 :: c136 :: c137 :: c138 :: c139 :: c140 :: c141 :: c142 :: c143 :: c144 :: c145 :: c146 :: c147 :: c148 :: c149 :: c150 :: c151 :: c152 :: c153 :: c154 :: c155 :: c156 :: c157 :: c158 :: c159 :: c160 :: c161 :: c162 :: c163 :: c164 :: c165 :: c166 :: c167 :: c168 :: c169 :: c170 :: c171 :: c172 :: c173 :: c174 :: c175 :: c176 :: c177 :: c178 :: c179 :: c180 :: c181 :: c182 :: c183 :: c184 :: c185 :: c186 :: c187 :: c188 :: c189 :: c190 :: c191 :: c192 :: c193 :: c194 :: c195 :: c196 :: c197 :: c198 :: c199 :: c200 :: c201 :: c202 :: c203 :: c204 :: c205 :: c206 :: c207 :: c208 :: c209 :: c210 :: c211 :: c212 :: c213 :: c214 :: c215 :: c216 :: c217 :: c218 :: c219 :: c220 :: c221 :: c222 :: c223 :: c224 :: c225 :: c226 :: c227 :: c228 :: c229 :: c230 :: c231 :: c232 :: c233 :: c234 :: c235 :: c236 :: c237 :: c238 :: c239 :: c240 :: c241 :: c242 :: c243 :: c244 :: c245 :: c246 :: c247 :: c248 :: c249 :: c250 :: c251 :: c252 :: c253 :: c254 :: c255 :: c256 :: c257 :: c258 :: c259 :: c260 :: c261 :: c262 :: c263 :: v264 :: v265 :: v266 :: v267 :: v268 :: v269 :: v270 :: v271 :: v272 :: v273 :: v274 :: v275 :: v276 :: v277 :: v278 :: v279 :: v280 :: v281 :: v282 :: v283 :: v284 :: v285 :: v286 :: v287 :: v288 :: v289 :: v290 :: v291 :: v292 :: v293 :: v294 :: v295 :: v296 :: v297 :: v298 :: v299 :: v300 :: v301 :: v302 :: v303 :: v304 :: v305 :: v306 :: v307 :: v308 :: v309 :: v310 :: v311 :: v312 :: v313 :: v314 :: v315 :: v316 :: v317 :: v318 :: v319 :: v320 :: v321 :: v322 :: v323 :: v324 :: v325 :: v326 :: v327 :: v328 :: v329 :: v330 :: c331 :: c332 :: c333 :: c334 :: c335 :: c336 :: c337 :: c338 :: c339 :: []).toArray, []⟩ z) :
    Code.wp Tryz.prog (Code.loop rowBody) Q0 ⟨(c0 :: Value.pointer (some ⟨q0, 0, none⟩) :: c2 :: Value.pointer (some ⟨q2, 0, none⟩) :: c4 :: c5 :: c6 :: c7 :: c8 :: c9 :: c10 :: c11 :: c12 :: c13 :: c14 :: Value.int .i64 0 :: u16 :: u17 :: u18 :: u19 :: u20 :: c21 :: c22 :: c23 :: c24 :: c25 :: c26 :: c27 :: c28 :: c29 :: c30 :: c31 :: c32 :: c33 :: c34 :: c35 :: c36 :: c37 :: c38 :: c39 :: c40 :: c41 :: c42 :: c43 :: c44 :: c45 :: c46 :: c47 :: c48 :: c49 :: c50 :: c51 :: c52 :: c53 :: c54 :: c55 :: c56 :: c57 :: c58 :: c59 :: c60 :: c61 :: c62 :: c63 :: c64 :: c65 :: c66 :: c67 :: c68 :: c69 :: c70 :: c71 :: c72 :: c73 :: c74 :: c75 :: c76 :: c77 :: c78 :: c79 :: c80 :: c81 :: c82 :: c83 :: c84 :: c85 :: c86 :: c87 :: c88 :: c89 :: c90 :: c91 :: c92 :: c93 :: c94 :: c95 :: c96 :: c97 :: c98 :: c99 :: c100 :: c101 :: c102 :: c103 :: c104 :: c105 :: c106 :: c107 :: c108 :: c109 :: c110 :: c111 :: c112 :: c113 :: c114 :: c115 :: c116 :: c117 :: c118 :: c119 :: c120 :: c121 :: c122 :: c123 :: c124 :: c125 :: c126 :: c127 :: c128 :: c129 :: c130 :: c131 :: c132 :: c133 :: c134 :: c135 :: c136 :: c137 :: c138 :: c139 :: c140 :: c141 :: c142 :: c143 :: c144 :: c145 :: c146 :: c147 :: c148 :: c149 :: c150 :: c151 :: c152 :: c153 :: c154 :: c155 :: c156 :: c157 :: c158 :: c159 :: c160 :: c161 :: c162 :: c163 :: c164 :: c165 :: c166 :: c167 :: c168 :: c169 :: c170 :: c171 :: c172 :: c173 :: c174 :: c175 :: c176 :: c177 :: c178 :: c179 :: c180 :: c181 :: c182 :: c183 :: c184 :: c185 :: c186 :: c187 :: c188 :: c189 :: c190 :: c191 :: c192 :: c193 :: c194 :: c195 :: c196 :: c197 :: c198 :: c199 :: c200 :: c201 :: c202 :: c203 :: c204 :: c205 :: c206 :: c207 :: c208 :: c209 :: c210 :: c211 :: c212 :: c213 :: c214 :: c215 :: c216 :: c217 :: c218 :: c219 :: c220 :: c221 :: c222 :: c223 :: c224 :: c225 :: c226 :: c227 :: c228 :: c229 :: c230 :: c231 :: c232 :: c233 :: c234 :: c235 :: c236 :: c237 :: c238 :: c239 :: c240 :: c241 :: c242 :: c243 :: c244 :: c245 :: c246 :: c247 :: c248 :: c249 :: c250 :: c251 :: c252 :: c253 :: c254 :: c255 :: c256 :: c257 :: c258 :: c259 :: c260 :: c261 :: c262 :: c263 :: u264 :: u265 :: u266 :: u267 :: u268 :: u269 :: u270 :: u271 :: u272 :: u273 :: u274 :: u275 :: u276 :: u277 :: u278 :: u279 :: u280 :: u281 :: u282 :: u283 :: u284 :: u285 :: u286 :: u287 :: u288 :: u289 :: u290 :: u291 :: u292 :: u293 :: u294 :: u295 :: u296 :: u297 :: u298 :: u299 :: u300 :: u301 :: u302 :: u303 :: u304 :: u305 :: u306 :: u307 :: u308 :: u309 :: u310 :: u311 :: u312 :: u313 :: u314 :: u315 :: u316 :: u317 :: u318 :: u319 :: u320 :: u321 :: u322 :: u323 :: u324 :: u325 :: u326 :: u327 :: u328 :: u329 :: u330 :: c331 :: c332 :: c333 :: c334 :: c335 :: c336 :: c337 :: c338 :: c339 :: []).toArray, []⟩ z0 := by
  conv => arg 2; whnf
  conv => arg 2; arg 1; whnf
  have HEX := Lib.hid hexit
  clear hexit
  have HPP := Lib.hid hp
  clear hp
  go_loopw [15] (fun s z => ∃ r : Nat, r ≤ 25 ∧ Hid (r % 5 = 0) ∧ s = .int .i64 r ∧ Pm w q0 q1 q2 (chiK bb c r) bb z) (fun s _ => 25 - (intOf s).toNat)
  case atStart => exact ⟨0, by decide, Lib.hid rfl, rfl, HPP.out.congA (chiK_zero _ c)⟩
  case round =>
    obtain ⟨r, hr, hr5, rfl, hp⟩ := hrel
    clear HPP
    have HPP := Lib.hid hp
    clear hp
    by_cases hr25 : (r : Int) < 25
    · have hr20 : (r : Int) ≤ 20 := by have := hr5.out; omega
      have b0 := HPP.out.sb.cell r (by omega)
      have b1 := HPP.out.sb.cell (r + 1) (by omega)
      have b2 := HPP.out.sb.cell (r + 2) (by omega)
      have b3 := HPP.out.sb.cell (r + 3) (by omega)
      have b4 := HPP.out.sb.cell (r + 4) (by omega)
      clear hr
      go_upto_region 43 with (fail)
      go_quiet (fail)
      clear b0 b1 b2 b3 b4
      have HP2 := Lib.hid (HPP.out.drewN nq)
      clear HPP
      generalize World.drewN wr nq = s0 at *
      have xr := W_xor
      have xa := W_and
      have xn := W_notx
      have aj := HP2.out.sa.cell r (by omega)
      have fj := HP2.out.sa.fz r
      go_upto_region 45 with (fail)
      have hp2 := HP2.out.setA r (bb r ^^^ (~~~bb (r + 1) &&& bb (r + 2)))
      clear HP2 aj fj
      have HP2 := Lib.hid hp2
      clear hp2
      generalize World.setCell s0 ⟨q0, r, none⟩ (.int .u64 (W (bb r ^^^ (~~~bb (r + 1) &&& bb (r + 2))))) = s1 at *
      have aj := HP2.out.sa.cell (r + 1) (by omega)
      have fj := HP2.out.sa.fz (r + 1)
      go_upto_region 46 with (fail)
      have hp2 := HP2.out.setA (r + 1) (bb (r + 1) ^^^ (~~~bb (r + 2) &&& bb (r + 3)))
      clear HP2 aj fj
      have HP2 := Lib.hid hp2
      clear hp2
      generalize World.setCell s1 ⟨q0, (r + 1), none⟩ (.int .u64 (W (bb (r + 1) ^^^ (~~~bb (r + 2) &&& bb (r + 3))))) = s2 at *
      have aj := HP2.out.sa.cell (r + 2) (by omega)
      have fj := HP2.out.sa.fz (r + 2)
      go_upto_region 47 with (fail)
      have hp2 := HP2.out.setA (r + 2) (bb (r + 2) ^^^ (~~~bb (r + 3) &&& bb (r + 4)))
      clear HP2 aj fj
      have HP2 := Lib.hid hp2
      clear hp2
      generalize World.setCell s2 ⟨q0, (r + 2), none⟩ (.int .u64 (W (bb (r + 2) ^^^ (~~~bb (r + 3) &&& bb (r + 4))))) = s3 at *
      have aj := HP2.out.sa.cell (r + 3) (by omega)
      have fj := HP2.out.sa.fz (r + 3)
      go_upto_region 48 with (fail)
      have hp2 := HP2.out.setA (r + 3) (bb (r + 3) ^^^ (~~~bb (r + 4) &&& bb r))
      clear HP2 aj fj
      have HP2 := Lib.hid hp2
      clear hp2
      generalize World.setCell s3 ⟨q0, (r + 3), none⟩ (.int .u64 (W (bb (r + 3) ^^^ (~~~bb (r + 4) &&& bb r)))) = s4 at *
      have aj := HP2.out.sa.cell (r + 4) (by omega)
      have fj := HP2.out.sa.fz (r + 4)
      go_upto_region 42 with (fail)
      have hp2 := HP2.out.setA (r + 4) (bb (r + 4) ^^^ (~~~bb r &&& bb (r + 1)))
      clear HP2 aj fj
      have HP2 := Lib.hid hp2
      clear hp2
      generalize World.setCell s4 ⟨q0, (r + 4), none⟩ (.int .u64 (W (bb (r + 4) ^^^ (~~~bb r &&& bb (r + 1))))) = s5 at *
      clear xr xa xn
      go_wp2_with fail
      go_roundw
      case rel => exact ⟨r + 5, by omega, Lib.hid (by have := hr5.out; omega), by go_num, HP2.out.congA (row_ok bb c r hr5.out)⟩
      case measure => simp [intOf]; omega

    · obtain rfl : r = 25 := by omega
      have hpx := HPP.out.congA (a' := chi bb) (fun i hi => by unfold chiK; rw [if_pos hi])
      have HPX := Lib.hid hpx
      clear hpx HPP
      go_wp2_with fail
      exact HEX.out _ _ _ _ _ _ _ _ _ _ _ _ _ _ _ _ _ _ _ _ _ _ _ _ _ _ _ _ _ _ _ _ _ _ _ _ _ _ _ _ _ _ _ _ _ _ _ _ _ _ _ _ _ _ _ _ _ _ _ _ _ _ _ _ _ _ _ _ _ _ _ _ _ HPX.out
end Kc
end Go.Proofs.YtbenjgncbpafbaaGreatDoor
namespace Go.Proofs.YtbenjgncbpafbaaGreatDoor
set_option linter.unusedVariables false
section
variable {P : Program} {ops : Array Oper} {Q : Exit → Act → World → Prop} {S : World → Prop}
end
end Go.Proofs.YtbenjgncbpafbaaGreatDoor
namespace Go.Proofs.YtbenjgncbpafbaaGreatDoor
open Go.RowKit
set_option linter.unusedVariables false
namespace Kc
def tv (n : Nat) : Value := .int .i64 n
end Kc
end Go.Proofs.YtbenjgncbpafbaaGreatDoor
namespace Go.Proofs.YtbenjgncbpafbaaGreatDoor
open Go.RowKit
set_option linter.unusedVariables false
namespace Kc
end Kc
end Go.Proofs.YtbenjgncbpafbaaGreatDoor
namespace Go.Proofs.YtbenjgncbpafbaaGreatDoor
end Go.Proofs.YtbenjgncbpafbaaGreatDoor
namespace Go.Proofs.YtbenjgncbpafbaaGreatDoor
open Go.RowKit
set_option linter.unusedVariables false
namespace Kc
structure Pf (W : World) (q0 qr q8 q9 qc qt : Nat) (a b c : Nat → Wd64) (y : World) : Prop where
  sa : IsTab y q0 145 25 fun i => wv (a i)
  sr : IsTab y qr 145 25 fun _ => wv 0#64
  sb : IsTab y q8 145 25 fun i => wv (b i)
  sc : IsTab y q9 145 25 fun i => wv (c i)
  cons : ∀ i, i < 24 → y.cell? ⟨qc, i, none⟩ = some (wv (consts.getD i 0#64))
  turn : ∀ j, j < 25 → y.cell? ⟨qt, j, none⟩ = some (tv (turns.getD j 0))
  lc : qc < W.heap.size
  lt : qt < W.heap.size
  g0 : W.heap.size ≤ q0
  o1 : q0 < qr
  o2 : qr < q8
  o3 : q8 < q9
  below : Below W.heap.size W y
namespace Pf
variable {W : World} {q0 qr q8 q9 qc qt : Nat} {a b c : Nat → Wd64} {y : World}
theorem drew (h : Pf W q0 qr q8 q9 qc qt a b c y) : Pf W q0 qr q8 q9 qc qt a b c y.drew := ⟨h.sa, h.sr, h.sb, h.sc, h.cons, h.turn, h.lc, h.lt, h.g0, h.o1, h.o2, h.o3, h.below.drew⟩
theorem cell_old (h : Pf W q0 qr q8 q9 qc qt a b c y) {q i k j : Nat} {v : Value} (hq : W.heap.size ≤ q) (hk : k < W.heap.size) : (y.setCell ⟨q, i, none⟩ v).cell? ⟨k, j, none⟩ = y.cell? ⟨k, j, none⟩ :=
  World.cell?_setCell_other _ _ _ _ (fun e => by have := congrArg Addr.block e; simp only at this; omega)
theorem setA (h : Pf W q0 qr q8 q9 qc qt a b c y) (i : Nat) (x : Wd64) : Pf W q0 qr q8 q9 qc qt (upd a i x) b c (y.setCell ⟨q0, i, none⟩ (wv x)) :=
  ⟨(h.sa.set i _).cong (fun j _ => by unfold updv upd; dsimp only; split <;> rfl), h.sr.keep (by have := h.o1; omega), h.sb.keep (by have := h.o1; have := h.o2; omega), h.sc.keep (by have := h.o1; have := h.o2; have := h.o3; omega),
   fun k hk => by rw [h.cell_old h.g0 h.lc]; exact h.cons k hk, fun k hk => by rw [h.cell_old h.g0 h.lt]; exact h.turn k hk, h.lc, h.lt, h.g0, h.o1, h.o2, h.o3, h.below.setCell h.g0 _⟩
theorem setB (h : Pf W q0 qr q8 q9 qc qt a b c y) (i : Nat) (x : Wd64) : Pf W q0 qr q8 q9 qc qt a (upd b i x) c (y.setCell ⟨q8, i, none⟩ (wv x)) :=
  have g : W.heap.size ≤ q8 := by have := h.g0; have := h.o1; have := h.o2; omega
  ⟨h.sa.keep (by have := h.o1; have := h.o2; omega), h.sr.keep (by have := h.o2; omega), (h.sb.set i _).cong (fun j _ => by unfold updv upd; dsimp only; split <;> rfl), h.sc.keep (by have := h.o3; omega),
   fun k hk => by rw [h.cell_old g h.lc]; exact h.cons k hk, fun k hk => by rw [h.cell_old g h.lt]; exact h.turn k hk, h.lc, h.lt, h.g0, h.o1, h.o2, h.o3, h.below.setCell g _⟩
theorem congA (h : Pf W q0 qr q8 q9 qc qt a b c y) {a' : Nat → Wd64} (e : ∀ i, i < 25 → a i = a' i) : Pf W q0 qr q8 q9 qc qt a' b c y :=
  ⟨h.sa.cong (fun i hi => by rw [e i hi]), h.sr, h.sb, h.sc, h.cons, h.turn, h.lc, h.lt, h.g0, h.o1, h.o2, h.o3, h.below⟩
theorem congB (h : Pf W q0 qr q8 q9 qc qt a b c y) {b' : Nat → Wd64} (e : ∀ i, i < 25 → b i = b' i) : Pf W q0 qr q8 q9 qc qt a b' c y :=
  ⟨h.sa, h.sr, h.sb.cong (fun i hi => by rw [e i hi]), h.sc, h.cons, h.turn, h.lc, h.lt, h.g0, h.o1, h.o2, h.o3, h.below⟩
end Pf
end Kc
end Go.Proofs.YtbenjgncbpafbaaGreatDoor
namespace Go.Proofs.YtbenjgncbpafbaaGreatDoor
open Go.RowKit
set_option linter.unusedVariables false
namespace Kc
end Kc
end Go.Proofs.YtbenjgncbpafbaaGreatDoor
namespace Go.Proofs.YtbenjgncbpafbaaGreatDoor
open Go.RowKit
set_option linter.unusedVariables false
namespace Kc
end Kc
end Go.Proofs.YtbenjgncbpafbaaGreatDoor
namespace Go.Proofs.YtbenjgncbpafbaaGreatDoor
open Go.RowKit
set_option linter.unusedVariables false
namespace Kc
structure Pa (W : World) (q0 qr qc qt : Nat) (a : Nat → Wd64) (y : World) : Prop where
  sa : IsTab y q0 145 25 fun i => wv (a i)
  sr : IsTab y qr 145 25 fun _ => wv 0#64
  cons : ∀ i, i < 24 → y.cell? ⟨qc, i, none⟩ = some (wv (consts.getD i 0#64))
  turn : ∀ j, j < 25 → y.cell? ⟨qt, j, none⟩ = some (tv (turns.getD j 0))
  lc : qc < W.heap.size
  lt : qt < W.heap.size
  g0 : W.heap.size ≤ q0
  o1 : q0 < qr
  below : Below W.heap.size W y
theorem Pa.two {W : World} {q0 qr qc qt : Nat} {a : Nat → Wd64} {y : World} (h : Pa W q0 qr qc qt a y) :
    Pf W q0 qr y.heap.size (y.heap.size + 1) qc qt a (fun _ => 0#64) (fun _ => 0#64) ((y.alloc (.cells (tab 25 fun _ => wv 0#64) 145)).alloc (.cells (tab 25 fun _ => wv 0#64) 145)) := by
  have e1 : (y.alloc (.cells (tab 25 fun _ => wv 0#64) 145)).heap.size = y.heap.size + 1 := by simp
  have hs := h.below.size
  have hb : Below y.heap.size y ((y.alloc (.cells (tab 25 fun _ => wv 0#64) 145)).alloc (.cells (tab 25 fun _ => wv 0#64) 145)) := ((Below.refl _ _).alloc (Nat.le_refl _) _).alloc (by simp) _
  refine ⟨(h.sa.alloc _).alloc _, (h.sr.alloc _).alloc _, (IsTab.new y _ 25 _).alloc _, ?_, fun i hi => keep1 hb (h.cons i hi), fun j hj => keep1 hb (h.turn j hj), h.lc, h.lt, h.g0, h.o1, h.sr.lt, Nat.lt_succ_self _, bl h.below hb⟩
  have := IsTab.new (y.alloc (.cells (tab 25 fun _ => wv 0#64) 145)) 145 25 fun _ => wv 0#64
  rw [e1] at this; exact this
theorem Pf.one {W : World} {q0 qr q8 q9 qc qt : Nat} {a b c : Nat → Wd64} {y : World} (h : Pf W q0 qr q8 q9 qc qt a b c y) : Pa W q0 qr qc qt a y := ⟨h.sa, h.sr, h.cons, h.turn, h.lc, h.lt, h.g0, h.o1, h.below⟩
end Kc
end Go.Proofs.YtbenjgncbpafbaaGreatDoor
namespace Go.Proofs.YtbenjgncbpafbaaGreatDoor
open Go.RowKit
set_option linter.unusedVariables false
namespace Kc
/-- The slice of the constants, and that of the turns. -/
def Two (w : World) (V : Value) (qt : Nat) : Prop := ∃ qc cap, V = .slice (some ⟨qc, 0, none⟩) 24 cap ∧ (∀ i, i < 24 → w.cell? ⟨qc, i, none⟩ = some (wv (consts.getD i 0#64))) ∧ ∀ j, j < 25 → w.cell? ⟨qt, j, none⟩ = some (tv (turns.getD j 0))
theorem Two.below {w w' : World} {V : Value} {qt : Nat} (h : Two w V qt) (hb : Below w.heap.size w w') : Two w' V qt := by
  obtain ⟨qc, cap, h1, h2, h3⟩ := h
  exact ⟨qc, cap, h1, fun i hi => keep1 hb (h2 i hi), fun j hj => keep1 hb (h3 j hj)⟩
def ConsAt (w : World) (V : Value) : Prop := ∃ qc cap, V = .slice (some ⟨qc, 0, none⟩) 24 cap ∧ ∀ i, i < 24 → w.cell? ⟨qc, i, none⟩ = some (wv (consts.getD i 0#64))
def TurnAt (w : World) (V : Value) : Prop := ∃ qt, V = .slice (some ⟨qt, 0, none⟩) 25 25 ∧ ∀ j, j < 25 → w.cell? ⟨qt, j, none⟩ = some (tv (turns.getD j 0))
theorem ConsAt.below {w w' : World} {V : Value} (hb : Below w.heap.size w w') (h : ConsAt w V) : ConsAt w' V := by
  obtain ⟨qc, cap, h1, h2⟩ := h
  exact ⟨qc, cap, h1, fun i hi => keep1 hb (h2 i hi)⟩
theorem TurnAt.below {w w' : World} {V : Value} (hb : Below w.heap.size w w') (h : TurnAt w V) : TurnAt w' V := by
  obtain ⟨qt, h1, h2⟩ := h
  exact ⟨qt, h1, fun i hi => keep1 hb (h2 i hi)⟩
/-- A world with the argument's block and the result's. -/
def Rp (W : World) (q0 q1 : Nat) (a : Nat → Wd64) (y : World) : Prop := IsTab y q0 145 25 (fun i => wv (a i)) ∧ (∃ g, IsTab y q1 145 25 g) ∧ Below W.heap.size W y ∧ W.heap.size ≤ q1 ∧ q0 ≠ q1
theorem Rp.next {W : World} {q0 q1 : Nat} {a : Nat → Wd64} {y y' : World} (h : Rp W q0 q1 a y) (hb : Below y.heap.size y y') : Rp W q0 q1 a y' :=
  ⟨IsTab.below h.1 hb, by obtain ⟨g, hg⟩ := h.2.1; exact ⟨g, IsTab.below hg hb⟩, bl h.2.2.1 hb, h.2.2.2⟩
end Kc
end Go.Proofs.YtbenjgncbpafbaaGreatDoor
namespace Go.Proofs.YtbenjgncbpafbaaGreatDoor
open Go.RowKit
set_option linter.unusedVariables false
namespace Kc
/-- All bytes with the 1 and the noughts behind them, and the last bit. -/
def padN (l : List Bt) : Nat := 136 * (l.length / 136 + 1)
def pad (l : List Bt) : List Bt := l ++ 1#8 :: List.replicate (padN l - l.length - 1) 0#8
/-- The bytes as the sponge takes them. -/
def sponge (l : List Bt) (i : Nat) : Bt := if i = padN l - 1 then (pad l).getD i 0#8 ^^^ 128#8 else (pad l).getD i 0#8
end Kc
end Go.Proofs.YtbenjgncbpafbaaGreatDoor
namespace Go.Proofs.YtbenjgncbpafbaaGreatDoor
open Go.RowKit
set_option linter.unusedVariables false
theorem wpList_append_any {P : Program} {w : World} {ops : Array Oper} {rest : List Oper} {o : Oper} {a : Act} {Q : Exit → Act → World → Prop} (hgd : o.guard = none) (s x : Operand) (t : TypeId)
    (ho : o.op = .call { callee := .builtin .append, args := #[s, x], argTypes := #[t, t] })
    (base : Nat) (e : TypeId) (i : TypeInfo) (z : Value) (size bytes : Nat) (ht : P.underlying t = some (.slice e)) (hi : P.info? e = some i ∧ i.zero = some z ∧ i.size = size ∧ i.bytes = bytes)
    (hzs : z.cells.size = size) (hsz : 0 < size)
    (v : Value) (n : Nat) (xs : List Value) (hs : a.eval s = v) (hown : w.ownsRow base e size v n xs)
    (A : Option Addr) (m c : Nat) (news : List Value) (hx : a.eval x = .slice A m c) (hsrc : (A = none ∧ m = 0 ∧ c = 0 ∧ news = []) ∨ ∃ ad, A = some ad ∧ news.length = m * size ∧ ∀ j u, news[j]? = some u → w.cell? (ad.add j) = some u) (h1 : ∀ u ∈ news, u.oneCell' = true)
    (h63 : n + m ≤ maxLen) (hbytes : (n + m) * bytes ≤ 140737488355328) (hbase : base ≤ w.heap.size)
    (h : ∀ v' w', w'.ownsRow base e size v' (n + m) (xs ++ news) → w.grownBy w' v.ownBlock → (∀ k, v'.ownBlock = some k → v.ownBlock = some k ∨ k = w.heap.size) → wpList P ops Q rest (a.put o.dst v') w') : wpList P ops Q (o :: rest) a w := by
  rcases hsrc with ⟨rfl, rfl, rfl, rfl⟩ | ⟨ad, rfl, hl, hc⟩
  · refine wpList_append_own_none hgd s x t ho base e i size ht hi.1 v n xs hs hown hx ?_
    exact h v w (by simpa using hown) (World.grownBy.refl w _) (fun k hk => .inl hk)
  · exact wpList_append_at w hgd s x t ho base e i z size bytes ht hi hzs hsz v n xs hs hown ad m c news hx hl hc h1 h63 hbytes hbase h
namespace Kc
/-- A block whose first n cells are bytes. -/
def Row8 (w : World) (g n : Nat) (f : Nat → Bt) : Prop := ∃ cur : Array Value, w.heap[g]? = some (.cells cur 5 (0, 0)) ∧ n ≤ cur.size ∧ ∀ i, i < n → cur[i]? = some (bv (f i))
theorem Row8.cell {w : World} {g n : Nat} {f : Nat → Bt} (h : Row8 w g n f) (i : Nat) (hi : i < n) : w.cell? ⟨g, i, none⟩ = some (bv (f i)) := by
  obtain ⟨cur, h1, h2, h3⟩ := h
  rw [cell_of_row w g i _ _ _ h1]; exact h3 i hi
theorem Row8.fz {w : World} {g n : Nat} {f : Nat → Bt} (h : Row8 w g n f) (i : Nat) : w.frozen? ⟨g, i, none⟩ = false := by
  obtain ⟨cur, h1, _⟩ := h
  exact frozen_of_row w g i _ _ h1
theorem Row8.lt {w : World} {g n : Nat} {f : Nat → Bt} (h : Row8 w g n f) : g < w.heap.size := by obtain ⟨cur, h1, _⟩ := h; exact (Array.getElem?_eq_some_iff.1 h1).1
theorem Row8.set {w : World} {g n : Nat} {f : Nat → Bt} (h : Row8 w g n f) (i : Nat) (x : Bt) : Row8 (w.setCell ⟨g, i, none⟩ (bv x)) g n fun j => if j = i then x else f j := by
  obtain ⟨cur, h1, h2, h3⟩ := h
  refine ⟨_, heap_setCell_same w g i _ _ _ h1, by simpa using h2, fun j hj => ?_⟩
  rw [Array.getElem?_setIfInBounds]
  dsimp only
  by_cases e : i = j
  · subst e; rw [if_pos rfl, if_pos (by omega), if_pos rfl]
  · rw [if_neg e, if_neg (fun h : j = i => e h.symm)]; exact h3 j hj
theorem Row8.keep {w : World} {g p i n : Nat} {v : Value} {f : Nat → Bt} (h : Row8 w g n f) (hn : g ≠ p) : Row8 (w.setCell ⟨p, i, none⟩ v) g n f := by
  obtain ⟨cur, h1, h2, h3⟩ := h
  exact ⟨cur, by rw [Below.heap_setCell _ _ _ _ hn]; exact h1, h2, h3⟩
theorem Row8.row {w : World} {g p n : Nat} {cs : Array Value} {f : Nat → Bt} (h : Row8 w g n f) (hn : g ≠ p) : Row8 (w.setRow p cs) g n f := by
  obtain ⟨cur, h1, h2, h3⟩ := h
  exact ⟨cur, by rw [setRow_other _ _ _ _ hn]; exact h1, h2, h3⟩
theorem Row8.drew {w : World} {g n : Nat} {f : Nat → Bt} (h : Row8 w g n f) : Row8 w.drew g n f := h
theorem Row8.below {w w' : World} {g n : Nat} {f : Nat → Bt} (h : Row8 w g n f) (hb : Below w.heap.size w w') : Row8 w' g n f := by
  obtain ⟨cur, h1, h2, h3⟩ := h
  exact ⟨cur, by rw [hb.block g (Array.getElem?_eq_some_iff.1 h1).1]; exact h1, h2, h3⟩
theorem Row8.alloc {w : World} {g n : Nat} {f : Nat → Bt} (h : Row8 w g n f) (o : Obj) : Row8 (w.alloc o) g n f := by
  obtain ⟨cur, h1, h2, h3⟩ := h
  exact ⟨cur, by rw [Below.heap_alloc w o g (Array.getElem?_eq_some_iff.1 h1).1]; exact h1, h2, h3⟩
theorem Row8.cong {w : World} {g n : Nat} {f f' : Nat → Bt} (h : Row8 w g n f) (e : ∀ i, i < n → f i = f' i) : Row8 w g n f' := by
  obtain ⟨cur, h1, h2, h3⟩ := h
  exact ⟨cur, h1, h2, fun i hi => by rw [← e i hi]; exact h3 i hi⟩
end Kc
end Go.Proofs.YtbenjgncbpafbaaGreatDoor
namespace Go.Proofs.YtbenjgncbpafbaaGreatDoor
open Go.RowKit
set_option linter.unusedVariables false
namespace Kc
/-- What a piece is taken into. -/
structure Rs (W : World) (V T : Value) (q g qa : Nat) (n : Nat) (l : List Bt) (c : Nat → Wd64) (y : World) : Prop where
  srow : Row8 y g n (sponge l)
  sa : IsTab y qa 145 25 fun i => wv (c i)
  sres : IsTab y q 80 32 fun _ => bv 0#8
  cons : ConsAt y V
  turn : TurnAt y T
  below : Below W.heap.size W y
  bc : ∀ u v, ConsAt u V → (∀ b o x, b < qa → u.cell? ⟨b, o, none⟩ = some x → v.cell? ⟨b, o, none⟩ = some x) → ConsAt v V
  bt : ∀ u v, TurnAt u T → (∀ b o x, b < qa → u.cell? ⟨b, o, none⟩ = some x → v.cell? ⟨b, o, none⟩ = some x) → TurnAt v T
  o1 : W.heap.size ≤ q
  o2 : q < g
  o3 : g < qa
theorem Rs.next {W : World} {V T : Value} {q g qa n : Nat} {l : List Bt} {c : Nat → Wd64} {y y' : World} (h : Rs W V T q g qa n l c y) (hb : Below y.heap.size y y') : Rs W V T q g qa n l c y' :=
  ⟨h.srow.below hb, h.sa.below hb, h.sres.below hb, ConsAt.below hb h.cons, TurnAt.below hb h.turn, bl h.below hb, h.bc, h.bt, h.o1, h.o2, h.o3⟩
theorem Rs.drew {W : World} {V T : Value} {q g qa n : Nat} {l : List Bt} {c : Nat → Wd64} {y : World} (h : Rs W V T q g qa n l c y) : Rs W V T q g qa n l c y.drew :=
  ⟨h.srow, h.sa, h.sres, h.cons, h.turn, h.below.drew, h.bc, h.bt, h.o1, h.o2, h.o3⟩
theorem Rs.set {W : World} {V T : Value} {q g qa n : Nat} {l : List Bt} {c : Nat → Wd64} {y : World} (h : Rs W V T q g qa n l c y) (i : Nat) (x : Wd64) : Rs W V T q g qa n l (upd c i x) (y.setCell ⟨qa, i, none⟩ (wv x)) :=
  ⟨h.srow.keep (by have := h.o3; omega), (h.sa.set i _).cong (fun j _ => by unfold updv upd; dsimp only; split <;> rfl), h.sres.keep (by have := h.o2; have := h.o3; omega),
   h.bc y _ h.cons (fun b o v hb hv => by rw [World.cell?_setCell_other _ _ _ _ (fun e => by have := congrArg Addr.block e; simp only at this; omega)]; exact hv),
   h.bt y _ h.turn (fun b o v hb hv => by rw [World.cell?_setCell_other _ _ _ _ (fun e => by have := congrArg Addr.block e; simp only at this; omega)]; exact hv),
   h.below.setCell (by have := h.o1; have := h.o2; have := h.o3; show W.heap.size ≤ qa; omega) _, h.bc, h.bt, h.o1, h.o2, h.o3⟩
theorem Rs.row {W : World} {V T : Value} {q g qa n : Nat} {l : List Bt} {c : Nat → Wd64} {y : World} (h : Rs W V T q g qa n l c y) (d : Nat → Wd64) : Rs W V T q g qa n l d (y.setRow qa (words d)) :=
  ⟨h.srow.row (by have := h.o3; omega), h.sa.row, h.sres.rowOther (by have := h.o2; have := h.o3; omega),
   h.bc y _ h.cons (fun b o v hb hv => by rw [cell_setRow_other _ _ _ _ (by simp only; omega)]; exact hv),
   h.bt y _ h.turn (fun b o v hb hv => by rw [cell_setRow_other _ _ _ _ (by simp only; omega)]; exact hv),
   below_setRow h.below (by have := h.o1; have := h.o2; have := h.o3; omega : W.heap.size ≤ qa) _, h.bc, h.bt, h.o1, h.o2, h.o3⟩
theorem Rs.cong {W : World} {V T : Value} {q g qa n : Nat} {l : List Bt} {c d : Nat → Wd64} {y : World} (h : Rs W V T q g qa n l c y) (e : ∀ i, i < 25 → c i = d i) : Rs W V T q g qa n l d y :=
  ⟨h.srow, h.sa.cong (fun i hi => by rw [e i hi]), h.sres, h.cons, h.turn, h.below, h.bc, h.bt, h.o1, h.o2, h.o3⟩
theorem src_of {w : World} (w' : World) {a : Option Addr} {l : List Bt} {cap : Nat} (hB : IsBs w a l) (hnil : a = none → l = [] ∧ cap = 0) (hk : ∀ b o v, w.cell? ⟨b, o, none⟩ = some v → w'.cell? ⟨b, o, none⟩ = some v) :
    (a = none ∧ l.length = 0 ∧ cap = 0 ∧ l.map bv = []) ∨ ∃ ad, a = some ad ∧ (l.map bv).length = l.length * 1 ∧ ∀ j u, (l.map bv)[j]? = some u → w'.cell? (ad.add j) = some u := by
  cases a with
  | none => obtain ⟨rfl, rfl⟩ := hnil rfl; exact .inl ⟨rfl, rfl, rfl, rfl⟩
  | some ad =>
    refine .inr ⟨ad, rfl, by simp, fun j u hu => ?_⟩
    rcases hB with rfl | ⟨b, o, h1, h2⟩
    · simp at hu
    · injection h1 with h1
      subst h1
      rw [List.getElem?_map] at hu
      cases hj : l[j]? with
      | none => rw [hj] at hu; cases hu
      | some x =>
        rw [hj] at hu
        injection hu with hu
        subst hu
        have hlt : j < l.length := (List.getElem?_eq_some_iff.1 hj).1
        have := hk _ _ _ (h2 j hlt)
        rw [add_at, this, List.getD_eq_getElem?_getD, hj]; rfl
end Kc
end Go.Proofs.YtbenjgncbpafbaaGreatDoor
namespace Go.Proofs.YtbenjgncbpafbaaGreatDoor
open Go.RowKit
set_option linter.unusedVariables false
namespace Kc
end Kc
end Go.Proofs.YtbenjgncbpafbaaGreatDoor
