/- Merged of Eqa Mt App Krows. Own work. -/
import Derived.Test.YtcgpdijpppcbiaaGreatDoorQ02
import Derived.Laws.StructEq
import Derived.Test.YtcgpdijpppcbiaaGreatDoorQ03
import Derived.Test.YtcgpdijpppcbiaaGreatDoorQ04
import Derived.Test.YtcgpdijpppcbiaaGreatDoorQ01
import Derived.Laws.AppendOwn
import Derived.WalkKit
import Derived.Deep.RegionLaw
import Derived.RegionTactic
import Derived.BigRegion
import Derived.BigQuiet
import Derived.Deep.QuietTactic
import Derived.IntWalk
namespace Go.Proofs.YtcgpdijpppcbiaaGreatDoor
open Go.RowKit
set_option linter.unusedVariables false
section
variable {P : Program} {md : Region.Mode} {ops : Array Oper} {C : World → Prop}
end
namespace Kc
theorem run_equal_tab {P : Program} (w : World) (d : Nat) (t e : TypeId) (n : Nat) (k : IntKind) (ht : P.underlying t = some (.array n e)) (he : P.underlying e = some (.int k)) (hsz : ∀ w, (sizeOf e).run P w = .ok 1 w) (f g : Nat → Int) :
    (Op.equalIn (d + 2) t (.agg (tab n fun i => .int k (f i))) (.agg (tab n fun i => .int k (g i)))).run P w = .ok ((List.range n).all fun i => f i == g i) w := by
  rw [List.range_eq_range', Op.equalIn]
  simp only [Sem.run_bind, run_underlying ht, Result.andThen_ok, hsz, Std.Legacy.Range.forIn_eq_forIn_range', Std.Legacy.Range.size, Nat.sub_zero, Nat.add_sub_cancel, Nat.div_one]
  have hl : ∀ i ∈ List.range' 0 n 1, i < n := fun i hi => by simpa using (List.mem_range'_1.1 hi).2
  generalize List.range' 0 n 1 = l at hl ⊢
  induction l with
  | nil => simp
  | cons i l ih =>
    have hi : i < n := hl i (by simp)
    have px : ∀ h : Nat → Int, (part e (tab n fun i => .int k (h i)) (i * 1)).run P w = .ok (.int k (h i)) w := fun h => by
      have := tab_at (fun i => Value.int k (h i)) hi
      simp [part, isAgg, run_underlying he, this]
    have pe : (Op.equalIn (d + 1) e (.int k (f i)) (.int k (g i))).run P w = .ok (f i == g i) w := run_equalIn_int w d e k k _ _ he
    simp only [List.forIn_cons, Sem.run_bind, px, pe, Result.andThen_ok, List.all_cons]
    cases hb : (f i == g i)
    · simp
    · simp only [Bool.not_true, Bool.false_eq_true, if_false, Sem.run_pure, Result.andThen_ok, Bool.true_and]
      exact ih fun j hj => hl j (by simp [hj])
theorem run_eql_tab {P : Program} (w : World) (t e : TypeId) (n : Nat) (k : IntKind) (ht : P.underlying t = some (.array n e)) (he : P.underlying e = some (.int k)) (hsz : ∀ w, (sizeOf e).run P w = .ok 1 w) (f g : Nat → Int) :
    (binOp .eql t (.agg (tab n fun i => .int k (f i))) (.agg (tab n fun i => .int k (g i)))).run P w = .ok (.bool ((List.range n).all fun i => f i == g i)) w := by
  rw [run_eql_struct, run_equal_tab w 9998 t e n k ht he hsz]; rfl
def same32 (a b : Nat → Bt) : Bool := (List.range 32).all fun i => Bv (a i) == Bv (b i)
theorem same32_iff (a b : Nat → Bt) : same32 a b = true ↔ ∀ i, i < 32 → a i = b i := by
  unfold same32
  rw [List.all_eq_true]
  constructor
  · intro h i hi
    exact Bv_inj (by simpa using h i (List.mem_range.2 hi))
  · intro h i hi
    rw [h i (List.mem_range.1 hi)]; simp
theorem sizeU8 (w : World) : (sizeOf 5).run Tryz.prog w = .ok 1 w := by kernel_rfl
theorem undU8 : Tryz.prog.underlying 5 = some (.int .u8) := by kernel_rfl
end Kc
end Go.Proofs.YtcgpdijpppcbiaaGreatDoor
namespace Go.Proofs.YtcgpdijpppcbiaaGreatDoor
set_option linter.unusedVariables false
namespace Mk
open Kc
abbrev Hx := Nat → Bt
def pr (x y : Hx) : Hx := sum (both x y)
theorem both_cong {x x' y y' : Hx} (h : ∀ i, i < 32 → x i = x' i) (k : ∀ i, i < 32 → y i = y' i) : both x y = both x' y' := by
  unfold both
  rw [List.map_congr_left (g := x') (fun i hi => h i (by simpa using hi)), List.map_congr_left (g := y') (fun i hi => k i (by simpa using hi))]
def zero : Nat → Hx
  | 0 => fun _ => 0#8
  | h + 1 => pr (zero h) (zero h)
/-- n leaves, and noughts behind. -/
def ext (n : Nat) (f : Nat → Hx) : Nat → Hx := fun k => if k < n then f k else zero 0
/-- A leaf folded with d digests of a path. -/
def fold (i : Nat) (x : Hx) (p : Nat → Hx) : Nat → Hx
  | 0 => x
  | d + 1 => if (i / 2 ^ d) % 2 = 0 then pr (fold i x p d) (p d) else pr (p d) (fold i x p d)
/-- With another leaf at a place. -/
def put (g : Nat → Hx) (i : Nat) (x : Hx) : Nat → Hx := fun k => if k = i then x else g k
theorem fold_cong {i : Nat} {x y : Hx} {p q : Nat → Hx} (hx : x = y) : ∀ d, (∀ h, h < d → p h = q h) → fold i x p d = fold i y q d
  | 0, _ => hx
  | d + 1, h => by unfold fold; rw [fold_cong hx d (fun k hk => h k (by omega)), h d (by omega)]
end Mk
end Go.Proofs.YtcgpdijpppcbiaaGreatDoor
namespace Go.Proofs.YtcgpdijpppcbiaaGreatDoor
open Go.RowKit
section
variable {P : Program} (w : World)
theorem run_append_at (base : Nat) (t ty e : TypeId) (i : TypeInfo) (z : Value) (size bytes : Nat) (ht : P.underlying t = some (.slice e)) (hi : P.info? e = some i) (hz : i.zero = some z)
    (hsize : i.size = size) (hby : i.bytes = bytes) (hzs : z.cells.size = size) (hsz : 0 < size)
    (v : Value) (n : Nat) (xs : List Value) (hown : w.ownsRow base e size v n xs)
    (a : Addr) (m c : Nat) (news : List Value) (hl : news.length = m * size) (hnews : ∀ j u, news[j]? = some u → w.cell? (a.add j) = some u) (h1 : ∀ u ∈ news, u.oneCell' = true)
    (h63 : n + m ≤ maxLen) (hbytes : (n + m) * bytes ≤ 140737488355328) (hbase : base ≤ w.heap.size) :
    ∃ v' w', (Builtin.append_ #[t, t] ty #[v, .slice (some a) m c]).run P w = .ok v' w' ∧ w'.ownsRow base e size v' (n + m) (xs ++ news) ∧ w.grownBy w' v.ownBlock ∧
      (v' = .slice none 0 0 ↔ v = .slice none 0 0 ∧ m = 0) ∧ ∀ k, v'.ownBlock = some k → v.ownBlock = some k ∨ k = w.heap.size := by
  obtain ⟨v', w', hr, h2, h3, h4⟩ := run_append_own (P := P) w base t ty e i z size bytes ht hi hz hsize hby hzs hsz v n xs hown a m c news hl hnews h1 h63 hbytes hbase
  refine ⟨v', w', hr, h2, h3, h4, ?_⟩
  have hsmall : n + m ≤ 9223372036854775807 := by simp only [maxLen] at h63; omega
  have key : ∀ (u : Value) (x : World), (Builtin.append_ #[t, t] ty #[v, .slice (some a) m c]).run P w = .ok u x → v' = u := by
    intro u x hx
    rw [hr] at hx
    injection hx
  subst hsize
  subst hby
  rcases hown.2 with ⟨rfl, rfl⟩ | ⟨g, cap, cur, rfl, hbg, hg, hnc, hcm, hcs, htake⟩
  · by_cases hm : m = 0
    · rw [h4.2 ⟨rfl, hm⟩]
      intro k hk
      simp [Value.ownBlock] at hk
    · have hr2 := run_append_nil (P := P) w t ty e i z ht hi hz a m c news hl hnews (by omega) (by omega) (by have hb := hbytes; simp only [Nat.zero_add] at hb; omega)
      rw [key _ _ hr2]
      intro k hk
      simp [Value.ownBlock] at hk
      exact .inr hk.symm
  · by_cases hroom : n + m ≤ cap
    · have hfit : n * i.size + news.length ≤ cur.size := by rw [hl, hcs, ← Nat.add_mul]; exact Nat.mul_le_mul_right _ hroom
      have hr2 := run_append_room (P := P) w t ty e i ht hi g n cap cur hg a m c news hl hnews h1 hroom hfit
      rw [key _ _ hr2]
      intro k hk
      exact .inl hk
    · have holds : ∀ j u, xs[j]? = some u → w.cell? ((⟨g, 0, none⟩ : Addr).add j) = some u := hown.cells (g := g) rfl
      have hr2 := run_append_grow (P := P) w t ty e i z ht hi hz ⟨g, 0, none⟩ n cap xs hown.1 holds a m c news hl hnews (by omega) (by omega) (growslice_fits (by omega) hbytes)
      rw [key _ _ hr2]
      intro k hk
      simp [Value.ownBlock] at hk
      exact .inr hk.symm
theorem wpList_append_at {ops : Array Oper} {rest : List Oper} {o : Oper} {a : Act} {Q : Exit → Act → World → Prop} (hgd : o.guard = none) (s x : Operand) (t : TypeId)
    (ho : o.op = .call { callee := .builtin .append, args := #[s, x], argTypes := #[t, t] })
    (base : Nat) (e : TypeId) (i : TypeInfo) (z : Value) (size bytes : Nat) (ht : P.underlying t = some (.slice e)) (hi : P.info? e = some i ∧ i.zero = some z ∧ i.size = size ∧ i.bytes = bytes)
    (hzs : z.cells.size = size) (hsz : 0 < size)
    (v : Value) (n : Nat) (xs : List Value) (hs : a.eval s = v) (hown : w.ownsRow base e size v n xs)
    (ad : Addr) (m c : Nat) (news : List Value) (hx : a.eval x = .slice (some ad) m c) (hl : news.length = m * size) (hnews : ∀ j u, news[j]? = some u → w.cell? (ad.add j) = some u) (h1 : ∀ u ∈ news, u.oneCell' = true)
    (h63 : n + m ≤ maxLen) (hbytes : (n + m) * bytes ≤ 140737488355328) (hbase : base ≤ w.heap.size)
    (h : ∀ v' w', w'.ownsRow base e size v' (n + m) (xs ++ news) → w.grownBy w' v.ownBlock → (∀ k, v'.ownBlock = some k → v.ownBlock = some k ∨ k = w.heap.size) → wpList P ops Q rest (a.put o.dst v') w') : wpList P ops Q (o :: rest) a w :=
  wpList_plain hgd fun K hK => by
    obtain ⟨v', w', hr, h2, h3, _, h4⟩ := run_append_at (P := P) w base t o.type e i z size bytes ht hi.1 hi.2.1 hi.2.2.1 hi.2.2.2 hzs hsz v n xs hown ad m c news hl hnews h1 h63 hbytes hbase
    have hh := hK _ _ (h v' w' h2 h3 h4)
    unfold Oper.wp execOp
    simp only [ho, resolve, invoke, builtin, Sem.run_bind, Sem.run_pure, Result.andThen_ok, List.map_toArray, List.map_cons, List.map_nil, hs, hx, hr]
    exact hh
end
/-- A value of the heap that owns its own block at 'b' and the block of a slice at cell 'o' of it. -/
def OwnS (w : World) (b o : Nat) (k : Nat) : Prop := k = b ∨ ∃ V, w.cell? ⟨b, o, none⟩ = some V ∧ V.ownBlock = some k
structure MovesS (b o : Nat) (w w' : World) : Prop where
  kept : Kept (OwnS w b o) w w'
  own : ∀ k, OwnS w' b o k → OwnS w b o k ∨ w.heap.size ≤ k
theorem MovesS.refl (b o : Nat) (w : World) : MovesS b o w w := ⟨Kept.refl _ _, fun _ h => .inl h⟩
theorem MovesS.trans {b o : Nat} {x y z : World} (h : MovesS b o x y) (k : MovesS b o y z) : MovesS b o x z :=
  ⟨h.kept.trans k.kept (fun i hi ho => (h.own i ho).resolve_right (by omega)), fun i ho => by
    rcases k.own i ho with ho | ho
    · exact h.own i ho
    · exact .inr (Nat.le_trans h.kept.size ho)⟩
theorem MovesS.drewN {b o : Nat} {x y : World} (h : MovesS b o x y) (n : Nat) : MovesS b o x (y.drewN n) := ⟨h.kept.drewN n, h.own⟩
theorem MovesS.ofBelow {b o : Nat} {w w' : World} {V : Value} (hV : w.cell? ⟨b, o, none⟩ = some V) (hb : Below w.heap.size w w') : MovesS b o w w' := by
  refine ⟨Kept.ofBelow hb, fun k hk => .inl ?_⟩
  rcases hk with hk | ⟨V', hV', hk⟩
  · exact .inl hk
  · rw [keep1 hb hV] at hV'; injection hV' with e; subst e; exact .inr ⟨_, hV, hk⟩
end Go.Proofs.YtcgpdijpppcbiaaGreatDoor
namespace Go.Proofs.YtcgpdijpppcbiaaGreatDoor
open Go.RowKit
set_option linter.unusedVariables false
theorem W_notx (x : Kc.Wd64) : bits BinOp.xor IntKind.u64 (if IntKind.u64.signed = true then -1 else IntKind.u64.max) (Kc.W x) = Kc.W (~~~x) := by
  have e : (if IntKind.u64.signed = true then -1 else IntKind.u64.max : Int) = Kc.W (BitVec.allOnes 64) := by rfl
  rw [e, Kc.W_xor, BitVec.allOnes_xor]
def firstLoop : Code → Option Code
  | .loop c => some c
  | .seq a b => match firstLoop a with
    | some c => some c
    | none => firstLoop b
  | .block _ c => firstLoop c
  | .scope c => firstLoop c
  | .cond _ a b => match firstLoop a with
    | some c => some c
    | none => firstLoop b
  | _ => none
namespace Kc
noncomputable def rowBody : Code := (((Tryz.f78.body.bind firstLoop).bind firstLoop).getD .skip)
set_option maxHeartbeats 40000000 in
set_option maxRecDepth 1000000 in
theorem rows_loop {Q0 : Exit → Act → World → Prop} (q0 q1 q2 : Nat) (bb c : Nat → Wd64) (w : World) (c0 c2 c4 c5 c6 c7 c8 c9 c10 c11 c12 c13 c14 c21 c22 c23 c24 c25 c26 c27 c28 c29 c30 c31 c32 c33 c34 c35 c36 c37 c38 c39 c40 c41 c42 c43 c44 c45 c46 c47 c48 c49 c50 c51 c52 c53 c54 c55 c56 c57 c58 c59 c60 c61 c62 c63 c64 c65 c66 c67 c68 c69 c70 c71 c72 c73 c74 c75 c76 c77 c78 c79 c80 c81 c82 c83 c84 c85 c86 c87 c88 c89 c90 c91 c92 c93 c94 c95 c96 c97 c98 c99 c100 c101 c102 c103 c104 c105 c106 c107 c108 c109 c110 c111 c112 c113 c114 c115 c116 c117 c118 c119 c120 c121 c122 c123 c124 c125 c126 c127 c128 c129 c130 c131 c132 c133 c134 c135 c136 c137 c138 c139 c140 c141 c142 c143 c144 c145 c146 c147 c148 c149 c150 c151 c152 c153 c154 c155 c156 c157 c158 c159 c160 c161 c162 c163 c164 c165 c166 c167 c168 c169 c170 c171 c172 c173 c174 c175 c176 c177 c178 c179 c180 c181 c182 c183 c184 c185 c186 c187 c188 c189 c190 c191 c192 c193 c194 c195 c196 c197 c198 c199 c200 c201 c202 c203 c204 c205 c206 c207 c208 c209 c210 c211 c212 c213 c214 c215 c216 c217 c218 c219 c220 c221 c222 c223 c224 c225 c226 c227 c228 c229 c230 c231 c232 c233 c234 c235 c236 c237 c238 c239 c240 c241 c242 c243 c244 c245 c246 c247 c248 c249 c250 c251 c252 c253 c254 c255 c256 c257 c258 c259 c260 c261 c262 c263 c331 c332 c333 c334 c335 c336 c337 c338 c339 u16 u17 u18 u19 u20 u264 u265 u266 u267 u268 u269 u270 u271 u272 u273 u274 u275 u276 u277 u278 u279 u280 u281 u282 u283 u284 u285 u286 u287 u288 u289 u290 u291 u292 u293 u294 u295 u296 u297 u298 u299 u300 u301 u302 u303 u304 u305 u306 u307 u308 u309 u310 u311 u312 u313 u314 u315 u316 u317 u318 u319 u320 u321 u322 u323 u324 u325 u326 u327 u328 u329 u330 : Value) (z0 : World)
    (hp : Pm w q0 q1 q2 c bb z0)
    (hexit : ∀ (v16 v17 v18 v19 v20 v264 v265 v266 v267 v268 v269 v270 v271 v272 v273 v274 v275 v276 v277 v278 v279 v280 v281 v282 v283 v284 v285 v286 v287 v288 v289 v290 v291 v292 v293 v294 v295 v296 v297 v298 v299 v300 v301 v302 v303 v304 v305 v306 v307 v308 v309 v310 v311 v312 v313 v314 v315 v316 v317 v318 v319 v320 v321 v322 v323 v324 v325 v326 v327 v328 v329 v330 : Value) (z : World), Pm w q0 q1 q2 (chi bb) bb z → Q0 (.exit 2) ⟨(c0 :: Value.pointer (some ⟨q0, 0, none⟩) :: c2 :: Value.pointer (some ⟨q2, 0, none⟩) :: c4 :: c5 :: c6 :: c7 :: c8 :: c9 :: c10 :: c11 :: c12 :: c13 :: c14 :: Value.int .i64 25 :: v16 :: v17 :: v18 :: v19 :: v20 :: c21 :: c22 :: c23 :: c24 :: c25 :: c26 :: c27 :: c28 :: c29 :: c30 :: c31 :: c32 :: c33 :: c34 :: c35 :: c36 :: c37 :: c38 :: c39 :: c40 :: c41 :: c42 :: c43 :: c44 :: c45 :: c46 :: c47 :: c48 :: c49 :: c50 :: c51 :: c52 :: c53 :: c54 :: c55 :: c56 :: c57 :: c58 :: c59 :: c60 :: c61 :: c62 :: c63 :: c64 :: c65 :: c66 :: c67 :: c68 :: c69 :: c70 :: c71 :: c72 :: c73 :: c74 :: c75 :: c76 :: c77 :: c78 :: c79 :: c80 :: c81 :: c82 :: c83 :: c84 :: c85 :: c86 :: c87 :: c88 :: c89 :: c90 :: c91 :: c92 :: c93 :: c94 :: c95 :: c96 :: c97 :: c98 :: c99 :: c100 :: c101 :: c102 :: c103 :: c104 :: c105 :: c106 :: c107 :: c108 :: c109 :: c110 :: c111 :: c112 :: c113 :: c114 :: c115 :: c116 :: c117 :: c118 :: c119 :: c120 :: c121 :: c122 :: c123 :: c124 :: c125 :: c126 :: c127 :: c128 :: c129 :: c130 :: c131 :: c132 :: c133 :: c134 :: c135 :: c136 :: c137 :: c138 :: c139 :: c140 :: c141 :: c142 :: c143 :: c144 :: c145 :: c146 :: c147 :: c148 :: c149 :: c150 :: c151 :: c152 :: c153 :: c154 :: c155 :: c156 :: c157 :: c158 :: c159 :: c160 :: c161 :: c162 :: c163 :: c164 :: c165 :: c166 :: c167 :: c168 :: c169 :: c170 :: c171 :: c172 :: c173 :: c174 :: c175 :: c176 :: c177 :: c178 :: c179 :: c180 :: c181 :: c182 :: c183 :: c184 :: c185 :: c186 :: c187 :: c188 :: c189 :: c190 :: c191 :: c192 :: c193 :: c194 :: c195 :: c196 :: c197 :: c198 :: c199 :: c200 :: c201 :: c202 :: c203 :: c204 :: c205 :: c206 :: c207 :: c208 :: c209 :: c210 :: c211 :: c212 :: c213 :: c214 :: c215 :: c216 :: c217 :: c218 :: c219 :: c220 :: c221 :: c222 :: c223 :: c224 :: c225 :: c226 :: c227 :: c228 :: c229 :: c230 :: c231 :: c232 :: c233 :: c234 :: c235 :: c236 :: c237 :: c238 :: c239 :: c240 :: c241 :: c242 :: c243 :: c244 :: c245 :: c246 :: c247 :: c248 :: c249 :: c250 :: c251 :: c252 :: c253 :: c254 :: c255 :: c256 :: c257 :: c258 :: c259 :: c260 :: c261 :: c262 :: c263 :: v264 :: v265 :: v266 :: v267 :: v268 :: v269 :: v270 :: v271 :: v272 :: v273 :: v274 :: v275 :: v276 :: v277 :: v278 :: v279 :: v280 :: v281 :: v282 :: v283 :: v284 :: v285 :: v286 :: v287 :: v288 :: v289 :: v290 :: v291 :: v292 :: v293 :: v294 :: v295 :: v296 :: v297 :: v298 :: v299 :: v300 :: v301 :: v302 :: v303 :: v304 :: v305 :: v306 :: v307 :: v308 :: v309 :: v310 :: v311 :: v312 :: v313 :: v314 :: v315 :: v316 :: v317 :: v318 :: v319 :: v320 :: v321 :: v322 :: v323 :: v324 :: v325 :: v326 :: v327 :: v328 :: v329 :: v330 :: c331 :: c332 :: c333 :: c334 :: c335 :: c336 :: c337 :: c338 :: c339 :: []).toArray, []⟩ z) :
    Code.wp Tryz.prog (Code.loop rowBody) Q0 ⟨(c0 :: Value.pointer (some ⟨q0, 0, none⟩) :: c2 :: Value.pointer (some ⟨q2, 0, none⟩) :: c4 :: c5 :: c6 :: c7 :: c8 :: c9 :: c10 :: c11 :: c12 :: c13 :: c14 :: Value.int .i64 0 :: u16 :: u17 :: u18 :: u19 :: u20 :: c21 :: c22 :: c23 :: c24 :: c25 :: c26 :: c27 :: c28 :: c29 :: c30 :: c31 :: c32 :: c33 :: c34 :: c35 :: c36 :: c37 :: c38 :: c39 :: c40 :: c41 :: c42 :: c43 :: c44 :: c45 :: c46 :: c47 :: c48 :: c49 :: c50 :: c51 :: c52 :: c53 :: c54 :: c55 :: c56 :: c57 :: c58 :: c59 :: c60 :: c61 :: c62 :: c63 :: c64 :: c65 :: c66 :: c67 :: c68 :: c69 :: c70 :: c71 :: c72 :: c73 :: c74 :: c75 :: c76 :: c77 :: c78 :: c79 :: c80 :: c81 :: c82 :: c83 :: c84 :: c85 :: c86 :: c87 :: c88 :: c89 :: c90 :: c91 :: c92 :: c93 :: c94 :: c95 :: c96 :: c97 :: c98 :: c99 :: c100 :: c101 :: c102 :: c103 :: c104 :: c105 :: c106 :: c107 :: c108 :: c109 :: c110 :: c111 :: c112 :: c113 :: c114 :: c115 :: c116 :: c117 :: c118 :: c119 :: c120 :: c121 :: c122 :: c123 :: c124 :: c125 :: c126 :: c127 :: c128 :: c129 :: c130 :: c131 :: c132 :: c133 :: c134 :: c135 :: c136 :: c137 :: c138 :: c139 :: c140 :: c141 :: c142 :: c143 :: c144 :: c145 :: c146 :: c147 :: c148 :: c149 :: c150 :: c151 :: c152 :: c153 :: c154 :: c155 :: c156 :: c157 :: c158 :: c159 :: c160 :: c161 :: c162 :: c163 :: c164 :: c165 :: c166 :: c167 :: c168 :: c169 :: c170 :: c171 :: c172 :: c173 :: c174 :: c175 :: c176 :: c177 :: c178 :: c179 :: c180 :: c181 :: c182 :: c183 :: c184 :: c185 :: c186 :: c187 :: c188 :: c189 :: c190 :: c191 :: c192 :: c193 :: c194 :: c195 :: c196 :: c197 :: c198 :: c199 :: c200 :: c201 :: c202 :: c203 :: c204 :: c205 :: c206 :: c207 :: c208 :: c209 :: c210 :: c211 :: c212 :: c213 :: c214 :: c215 :: c216 :: c217 :: c218 :: c219 :: c220 :: c221 :: c222 :: c223 :: c224 :: c225 :: c226 :: c227 :: c228 :: c229 :: c230 :: c231 :: c232 :: c233 :: c234 :: c235 :: c236 :: c237 :: c238 :: c239 :: c240 :: c241 :: c242 :: c243 :: c244 :: c245 :: c246 :: c247 :: c248 :: c249 :: c250 :: c251 :: c252 :: c253 :: c254 :: c255 :: c256 :: c257 :: c258 :: c259 :: c260 :: c261 :: c262 :: c263 :: u264 :: u265 :: u266 :: u267 :: u268 :: u269 :: u270 :: u271 :: u272 :: u273 :: u274 :: u275 :: u276 :: u277 :: u278 :: u279 :: u280 :: u281 :: u282 :: u283 :: u284 :: u285 :: u286 :: u287 :: u288 :: u289 :: u290 :: u291 :: u292 :: u293 :: u294 :: u295 :: u296 :: u297 :: u298 :: u299 :: u300 :: u301 :: u302 :: u303 :: u304 :: u305 :: u306 :: u307 :: u308 :: u309 :: u310 :: u311 :: u312 :: u313 :: u314 :: u315 :: u316 :: u317 :: u318 :: u319 :: u320 :: u321 :: u322 :: u323 :: u324 :: u325 :: u326 :: u327 :: u328 :: u329 :: u330 :: c331 :: c332 :: c333 :: c334 :: c335 :: c336 :: c337 :: c338 :: c339 :: []).toArray, []⟩ z0 := by
  conv => arg 2; whnf
  conv => arg 2; arg 1; whnf
  have HEX := Lib.hid hexit
  clear hexit
  have HPP := Lib.hid hp
  clear hp
  go_loopw [15] (fun s z => ∃ r : Nat, r ≤ 25 ∧ Hid (r % 5 = 0) ∧ s = .int .i64 r ∧ Pm w q0 q1 q2 (chiK bb c r) bb z) (fun s _ => 25 - (intOf s).toNat)
  case atStart => exact ⟨0, by decide, Lib.hid rfl, rfl, HPP.out.congA (chiK_zero _ c)⟩
  case round =>
    obtain ⟨r, hr, hr5, rfl, hp⟩ := hrel
    clear HPP
    have HPP := Lib.hid hp
    clear hp
    by_cases hr25 : (r : Int) < 25
    · have hr20 : (r : Int) ≤ 20 := by have := hr5.out; omega
      have b0 := HPP.out.sb.cell r (by omega)
      have b1 := HPP.out.sb.cell (r + 1) (by omega)
      have b2 := HPP.out.sb.cell (r + 2) (by omega)
      have b3 := HPP.out.sb.cell (r + 3) (by omega)
      have b4 := HPP.out.sb.cell (r + 4) (by omega)
      clear hr
      go_upto_region 43 with (fail)
      go_quiet (fail)
      clear b0 b1 b2 b3 b4
      have HP2 := Lib.hid (HPP.out.drewN nq)
      clear HPP
      generalize World.drewN wr nq = s0 at *
      have xr := W_xor
      have xa := W_and
      have xn := W_notx
      have aj := HP2.out.sa.cell r (by omega)
      have fj := HP2.out.sa.fz r
      go_upto_region 45 with (fail)
      have hp2 := HP2.out.setA r (bb r ^^^ (~~~bb (r + 1) &&& bb (r + 2)))
      clear HP2 aj fj
      have HP2 := Lib.hid hp2
      clear hp2
      generalize World.setCell s0 ⟨q0, r, none⟩ (.int .u64 (W (bb r ^^^ (~~~bb (r + 1) &&& bb (r + 2))))) = s1 at *
      have aj := HP2.out.sa.cell (r + 1) (by omega)
      have fj := HP2.out.sa.fz (r + 1)
      go_upto_region 46 with (fail)
      have hp2 := HP2.out.setA (r + 1) (bb (r + 1) ^^^ (~~~bb (r + 2) &&& bb (r + 3)))
      clear HP2 aj fj
      have HP2 := Lib.hid hp2
      clear hp2
      generalize World.setCell s1 ⟨q0, (r + 1), none⟩ (.int .u64 (W (bb (r + 1) ^^^ (~~~bb (r + 2) &&& bb (r + 3))))) = s2 at *
      have aj := HP2.out.sa.cell (r + 2) (by omega)
      have fj := HP2.out.sa.fz (r + 2)
      go_upto_region 47 with (fail)
      have hp2 := HP2.out.setA (r + 2) (bb (r + 2) ^^^ (~~~bb (r + 3) &&& bb (r + 4)))
      clear HP2 aj fj
      have HP2 := Lib.hid hp2
      clear hp2
      generalize World.setCell s2 ⟨q0, (r + 2), none⟩ (.int .u64 (W (bb (r + 2) ^^^ (~~~bb (r + 3) &&& bb (r + 4))))) = s3 at *
      have aj := HP2.out.sa.cell (r + 3) (by omega)
      have fj := HP2.out.sa.fz (r + 3)
      go_upto_region 48 with (fail)
      have hp2 := HP2.out.setA (r + 3) (bb (r + 3) ^^^ (~~~bb (r + 4) &&& bb r))
      clear HP2 aj fj
      have HP2 := Lib.hid hp2
      clear hp2
      generalize World.setCell s3 ⟨q0, (r + 3), none⟩ (.int .u64 (W (bb (r + 3) ^^^ (~~~bb (r + 4) &&& bb r)))) = s4 at *
      have aj := HP2.out.sa.cell (r + 4) (by omega)
      have fj := HP2.out.sa.fz (r + 4)
      go_upto_region 42 with (fail)
      have hp2 := HP2.out.setA (r + 4) (bb (r + 4) ^^^ (~~~bb r &&& bb (r + 1)))
      clear HP2 aj fj
      have HP2 := Lib.hid hp2
      clear hp2
      generalize World.setCell s4 ⟨q0, (r + 4), none⟩ (.int .u64 (W (bb (r + 4) ^^^ (~~~bb r &&& bb (r + 1))))) = s5 at *
      clear xr xa xn
      go_wp2_with fail
      go_roundw
      case rel => exact ⟨r + 5, by omega, Lib.hid (by have := hr5.out; omega), by go_num, HP2.out.congA (row_ok bb c r hr5.out)⟩
      case measure => simp [intOf]; omega

    · obtain rfl : r = 25 := by omega
      have hpx := HPP.out.congA (a' := chi bb) (fun i hi => by unfold chiK; rw [if_pos hi])
      have HPX := Lib.hid hpx
      clear hpx HPP
      go_wp2_with fail
      exact HEX.out _ _ _ _ _ _ _ _ _ _ _ _ _ _ _ _ _ _ _ _ _ _ _ _ _ _ _ _ _ _ _ _ _ _ _ _ _ _ _ _ _ _ _ _ _ _ _ _ _ _ _ _ _ _ _ _ _ _ _ _ _ _ _ _ _ _ _ _ _ _ _ _ _ HPX.out
end Kc
end Go.Proofs.YtcgpdijpppcbiaaGreatDoor
