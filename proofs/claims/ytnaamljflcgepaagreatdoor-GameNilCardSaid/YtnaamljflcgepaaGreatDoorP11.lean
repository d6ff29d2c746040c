/- Merged of Qj. Own work. -/
import Derived.Test.YtnaamljflcgepaaGreatDoorP10
namespace Go.Proofs.YtnaamljflcgepaaGreatDoor
open Go.RowKit
set_option linter.unusedVariables false
set_option linter.unusedSimpArgs false
namespace Gm
open Kc Mk
theorem buildC (par d i : Int) (v : Hx) (p k us at_ b : Int) (u : World) : (Instr.build 33 #[(0, .int .i64 par), (1, .int .u64 (Cl.pos ⟨par, d, i, v, p, k, us, at_, false, false, false, b⟩)), (2, dv v), (3, .int .i64 p), (4, .int .i64 k), (5, .agg #[.int .u64 us, .int .u64 at_]), (9, .int .i64 b)]).run Tryz.prog u = .ok (.agg (tab 42 (clv ⟨par, d, i, v, p, k, us, at_, false, false, false, b⟩))) u := by kernel_rfl
def GmS.add (G : GmS) (x : Cl) : GmS := { G with cs := G.cs ++ [x] }
/-- The clock of an answer to a claim, and the error. -/
def GmS.nextC (G : GmS) (x : Cl) (now : Int) : Int × Int × Int :=
  if now < x.at_ ∨ 1099511627776 < now then (0, 0, 2) else if G.limit ≤ G.before x + now - x.at_ then (0, 0, 42) else (min (G.before x + now - x.at_) (G.limit - G.grace), now, 0)
theorem next_any (w : World) (G : GmS) (x : Cl) (now : Int) (ok : GOk G) (hm : x ∈ G.cs) :
    Calls Tryz.prog 30 #[.agg #[.int .u64 G.limit, .int .u64 G.grace], .agg #[.int .u64 x.used, .int .u64 x.at_], .int .u64 (G.before x), .int .u64 now] w fun e w' => e = .returned (.tuple #[.agg #[.int .u64 (G.nextC x now).1, .int .u64 (G.nextC x now).2.1], errV (G.nextC x now).2.2]) ∧ Below w.heap.size w w' := by
  have hb := ok.before x
  have hu := ok.cu x hm
  have ha := ok.ca x hm
  unfold GmS.nextC
  by_cases c1 : now < x.at_ ∨ 1099511627776 < now
  · rw [if_pos c1]
    exact Clk.next_far _ _ _ _ _ _ w ok.l0 ok.l1 ok.g1 (by omega)
  · rw [if_neg c1]
    by_cases c2 : G.limit ≤ G.before x + now - x.at_
    · rw [if_pos c2]
      exact Clk.next_out _ _ _ _ _ _ w ok.l0 ok.l1 ok.g1 ha.1 (by omega) (by omega) hu.1 hu.2 hb.1 hb.2 c2
    · rw [if_neg c2]
      exact Clk.next_ok _ _ _ _ _ _ w ok.l0 ok.l1 ok.g0 ok.g1 ha.1 (by omega) (by omega) hu.1 hu.2 hb.1 hb.2 (by omega)
theorem IsGm.clock {w : World} {q a c : Nat} {G : GmS} (h : IsGm w q a c G) : (Instr.loadAt 39 (.pointer (some ⟨q, 1, none⟩))).run Tryz.prog w = .ok (.agg #[.int .u64 G.limit, .int .u64 G.grace]) w := by
  refine run_loadAt_mid w q 1 _ [.int .u64 G.limit, .int .u64 G.grace] _ (fun j v hv => ?_) (show Tryz.prog.underlying 39 = some (.struct (Tryz.prog.fieldsOf 39)) from by kernel_rfl) rfl (by kernel_rfl)
  obtain ⟨hj, rfl⟩ := List.getElem?_eq_some_iff.1 hv
  simp only [List.length_cons, List.length_nil] at hj
  have e : j = 0 ∨ j = 1 := by omega
  rcases e with rfl | rfl
  · exact h.k1
  · exact h.k2
theorem load2 {w : World} {a o : Nat} {u t : Value} (h0 : w.cell? ⟨a, o, none⟩ = some u) (h1 : w.cell? ⟨a, o + 1, none⟩ = some t) : (Instr.loadAt 31 (.pointer (some ⟨a, o, none⟩))).run Tryz.prog w = .ok (.agg #[u, t]) w := by
  refine run_loadAt_mid w a o _ [u, t] _ (fun j v hv => ?_) (show Tryz.prog.underlying 31 = some (.struct (Tryz.prog.fieldsOf 31)) from by kernel_rfl) rfl (by kernel_rfl)
  obtain ⟨hj, rfl⟩ := List.getElem?_eq_some_iff.1 hv
  simp only [List.length_cons, List.length_nil] at hj
  have e : j = 0 ∨ j = 1 := by omega
  rcases e with rfl | rfl
  · exact h0
  · exact h1
def clk (u a : Int) (i : Nat) : Value := if i = 0 then .int .u64 u else .int .u64 a
theorem clk_set {w : World} {q : Nat} {u a u' a' : Int} (h : IsTab w q 31 2 (clk u a)) : IsTab ((w.setCell ⟨q, 0, none⟩ (.int .u64 u')).setCell ⟨q, 1, none⟩ (.int .u64 a')) q 31 2 (clk u' a') :=
  IsTab.cong (IsTab.set (IsTab.set h 0 _) 1 _) fun j hj => by
    have e : j = 0 ∨ j = 1 := by omega
    rcases e with rfl | rfl <;> rfl
/-- Behind the clock's reckoning: the boxes of the place and of the clock, too. -/
structure Mw (W : World) (q a c : Nat) (G : GmS) (L : LedS) (q8 q10 q18 q21 : Nat) (cl : Int) (v : Hx) (pl us at_ : Int) (y : World) : Prop where
  below : Below W.heap.size W y
  game : IsGame y q a c G L
  c8 : y.cell? ⟨q8, 0, none⟩ = some (.int .i64 cl)
  t10 : IsTab y q10 29 32 fun i => bv (v i)
  c18 : y.cell? ⟨q18, 0, none⟩ = some (.int .u64 pl)
  t21 : IsTab y q21 31 2 (clk us at_)
  b8 : W.heap.size ≤ q8
  b10 : W.heap.size ≤ q10
  b18 : W.heap.size ≤ q18
  b21 : W.heap.size ≤ q21
theorem IsGame.other {w w' : World} {q a c : Nat} {G : GmS} {L : LedS} {S : Nat → Prop} (h : IsGame w q a c G L) (hk : Kept S w w') (hq : ¬ S q) (ha : ¬ S a) (hl : ∀ k, OwnL w G.b k → ¬ S k) : IsGame w' q a c G L := by
  obtain ⟨V, hV, hr⟩ := h.led.row
  have hb : ¬ S G.b := hl _ (.inl rfl)
  have own : ∀ k, OwnL w' G.b k → OwnL w G.b k := by
    rintro k (hk' | ⟨V', hV', hk'⟩)
    · exact .inl hk'
    · rw [hk.cell hb hV] at hV'; injection hV' with e; subst e; exact .inr ⟨V, hV, hk'⟩
  exact ⟨h.gm.kept hk hq ha, ⟨⟨fun i hi => hk.cell hb (h.led.bal i hi), ⟨V, hk.cell hb hV, hk.row hr fun k hk' => hl k (.inr ⟨V, hV, hk'⟩)⟩, hk.cell hb h.led.pin, hk.cell hb h.led.pout, hk.cell hb h.led.locked, fun o => by rw [hk.frozen hb (inHeap hV)]; exact h.led.fz o⟩, h.led.ok⟩, fun k hk' => h.sep k (own k hk')⟩
theorem Mw.put {W y : World} {q a c : Nat} {G : GmS} {L : LedS} {q8 q10 q18 q21 : Nat} {cl : Int} {v : Hx} {pl us at_ : Int} (h : Mv W q a c G L q8 q10 cl v y) (h18 : y.cell? ⟨q18, 0, none⟩ = some (.int .u64 pl)) (h21 : IsTab y q21 31 2 (clk 0 0)) (h18b : W.heap.size ≤ q18)
    (ne : q21 ≠ q ∧ q21 ≠ a ∧ q21 ≠ q8 ∧ q21 ≠ q10 ∧ q21 ≠ q18 ∧ ¬ OwnL y G.b q21 ∧ W.heap.size ≤ q21) : Mw W q a c G L q8 q10 q18 q21 cl v pl us at_ ((y.setCell ⟨q21, 0, none⟩ (.int .u64 us)).setCell ⟨q21, 1, none⟩ (.int .u64 at_)) := by
  have hk : Kept (fun k => k = q21) y ((y.setCell ⟨q21, 0, none⟩ (.int .u64 us)).setCell ⟨q21, 1, none⟩ (.int .u64 at_)) := Kept.setCell (S := fun k => k = q21) (p := ⟨q21, 1, none⟩) (Kept.setCell (S := fun k => k = q21) (p := ⟨q21, 0, none⟩) (Kept.refl _ y) (.inl rfl) _) (.inl rfl) _
  obtain ⟨n1, n2, n3, n4, n5, n6, n7⟩ := ne
  exact ⟨(h.below.setCell n7 _).setCell n7 _, h.game.other hk (fun e => n1 e.symm) (fun e => n2 e.symm) (fun k hk' e => n6 (e ▸ hk')), hk.cell (fun e => n3 e.symm) h.c8, (hk.block _ (IsTab.lt h.t10) (fun e => n4 e.symm)).trans h.t10, hk.cell (fun e => n5 e.symm) h18, clk_set h21, h.b8, h.b10, h18b, n7⟩
theorem undSl : Tryz.prog.underlying 72 = some (.slice 33) := by kernel_rfl
theorem infoCl : ∃ i, Tryz.prog.info? 33 = some i ∧ i.zero = some (clV zc) ∧ i.size = 42 ∧ i.bytes = 96 :=
  ⟨(Tryz.prog.info? 33).get (by kernel_rfl), by kernel_rfl, by kernel_rfl, by kernel_rfl, by kernel_rfl⟩
theorem tgt_ok {G : GmS} {x : Cl} {df : Bool} {pl dp : Int} (ht : G.tgt x df = (pl, dp, 0)) : x.d < G.depth ∧ dp = x.d + 1 ∧ pl = (if df then 2 * (x.pos + 1) else 2 * x.pos) ∧ ¬ (df = true ∧ x.i + 1 = 2 ^ x.d.toNat) := by
  unfold GmS.tgt at ht
  by_cases c1 : G.depth ≤ x.d
  · rw [if_pos c1] at ht; injection ht with _ ht; injection ht with _ ht; exact absurd ht (by decide)
  · rw [if_neg c1] at ht
    by_cases c2 : df = true ∧ x.i + 1 = 2 ^ x.d.toNat
    · rw [if_pos c2] at ht; injection ht with _ ht; injection ht with _ ht; exact absurd ht (by decide)
    · rw [if_neg c2] at ht
      injection ht with h1 ht; injection ht with h2 _
      exact ⟨by omega, h2.symm, h1.symm, c2⟩
theorem exec_build {P : Program} {o : Oper} {ev : Operand → Value} {u : World} (t : TypeId) (parts : Array (Nat × Operand)) (ho : o.op = .build t parts) (vs : Array (Nat × Value)) (hx : (parts.map fun (i, x) => (i, ev x)) = vs) (v : Value) (hl : (Instr.build t vs).run P u = .ok v u) : (execOp ev o).run P u = .ok (.value v) u := by
  unfold execOp
  simp only [ho]
  rw [hx]
  simp [hl, Result.andThen]
theorem wp_build1 {P : Program} {op : Oper} {a : Act} {w : World} {K : Act → World → Prop} {Q : Exit → Act → World → Prop} (t : TypeId) (x : Operand) (ho : op.op = .buildSlice t 1 #[(0, x)]) (p v : Value) (hx : a.eval x = p) (w' : World) (hl : (Instr.buildSlice t 1 #[(0, p)]).run P w = .ok v w')
    (h : K (a.put op.dst v) w') : op.wp P a w K Q := by
  unfold Oper.wp execOp
  simp only [ho, List.map_toArray, List.map_cons, List.map_nil, hx]
  simp [hl]
  exact h
/-- An append to the claims, laid down. -/
theorem IsGame.app {y w7 : World} {q a c : Nat} {G : GmS} {L : LedS} (h : IsGame y q a c G L) (x : Cl) (O : Obj) (V' : Value) (hown : w7.ownsRow 0 33 42 V' (G.cs.length + 1) (cls G.cs ++ cl1 x)) (hgr : (y.alloc O).grownBy w7 (some a))
    (hat : ∀ k, V'.ownBlock = some k → some a = some k ∨ k = (y.alloc O).heap.size) : ∃ a' c', V' = .slice (some ⟨a', 0, none⟩) (G.cs.length + 1) c' ∧ IsGame (w7.setCell ⟨q, 36, none⟩ V') q a' c' (G.add x) L ∧ (a' = a ∨ y.heap.size ≤ a') ∧ Kept (fun k => k = q ∨ k = a) y (w7.setCell ⟨q, 36, none⟩ V') ∧ (∀ k, OwnL (w7.setCell ⟨q, 36, none⟩ V') G.b k → OwnL y G.b k) := by
  have hk : Kept (fun k => k = a) y w7 := ((Kept.refl (fun k => k = a) y).alloc O).grown hgr (fun k e => .inl (by injection e with e; exact e.symm))
  obtain ⟨hne, hal, hc, cur, hcur, htk⟩ := h.gm.row
  have hql := h.gm.lt
  rcases ownsRow_forms hown with ⟨_, e⟩ | ⟨g, cap, rfl, _, hg, hcap⟩
  · omega
  have hgq : g ≠ q := by
    rcases hat g rfl with e | e
    · injection e with e; omega
    · have : (y.alloc O).heap.size = y.heap.size + 1 := by simp
      omega
  have hga : g = a ∨ y.heap.size ≤ g := by
    rcases hat g rfl with e | e
    · injection e with e; exact .inl e.symm
    · have : (y.alloc O).heap.size = y.heap.size + 1 := by simp
      exact .inr (by omega)
  have hnq : ¬ (q = a) := fun e => hne e.symm
  have k36 := hk.cell hnq h.gm.kv
  have cc : ∀ j u, j ≠ 36 → y.cell? ⟨q, j, none⟩ = some u → (w7.setCell ⟨q, 36, none⟩ (.slice (some ⟨g, 0, none⟩) (G.cs.length + 1) cap)).cell? ⟨q, j, none⟩ = some u := fun j u hj hu => by
    rw [World.cell?_setCell_other _ _ _ _ (by simp <;> omega)]; exact hk.cell hnq hu
  have hs : Kept (fun k => k = q) w7 (w7.setCell ⟨q, 36, none⟩ (.slice (some ⟨g, 0, none⟩) (G.cs.length + 1) cap)) := Kept.setCell (S := fun k => k = q) (p := ⟨q, 36, none⟩) (Kept.refl _ w7) (.inl rfl) _
  have h2 : Kept (fun k => k = q ∨ k = a) y (w7.setCell ⟨q, 36, none⟩ (.slice (some ⟨g, 0, none⟩) (G.cs.length + 1) cap)) := (hk.mono (T := fun k => k = q ∨ k = a) (fun _ _ e => .inr e)).trans hs (fun _ _ e => .inl e)
  have hlen : (G.add x).cs.length = G.cs.length + 1 := by simp [GmS.add]
  have hnl : ∀ k, OwnL y G.b k → ¬ (k = q ∨ k = a) := fun k hk' e => by
    have := h.sep k hk'
    rcases e with e | e
    · exact this.1 e
    · exact this.2 e
  obtain ⟨V, hV, hr⟩ := h.led.row
  have hb := hnl _ (.inl rfl)
  have own : ∀ k, OwnL (w7.setCell ⟨q, 36, none⟩ (.slice (some ⟨g, 0, none⟩) (G.cs.length + 1) cap)) G.b k → OwnL y G.b k := by
    rintro k (hk' | ⟨V', hV', hk'⟩)
    · exact .inl hk'
    · rw [h2.cell hb hV] at hV'; injection hV' with e; subst e; exact .inr ⟨V, hV, hk'⟩
  refine ⟨g, cap, rfl, ⟨⟨cc 0 _ (by decide) h.gm.k0, cc 1 _ (by decide) h.gm.k1, cc 2 _ (by decide) h.gm.k2, fun i hi => cc _ _ (by omega) (h.gm.ks i hi), cc 35 _ (by decide) h.gm.kb, ?_, hgq, ?_, fun o => ?_⟩, ⟨⟨fun i hi => h2.cell hb (h.led.bal i hi), ⟨V, h2.cell hb hV, h2.row hr fun k hk' => hnl k (.inr ⟨V, hV, hk'⟩)⟩, h2.cell hb h.led.pin, h2.cell hb h.led.pout, h2.cell hb h.led.locked, fun o => (h2.frozen hb (inHeap hV)).trans (h.led.fz o)⟩, h.led.ok⟩, fun k hk' => ⟨(h.sep k (own k hk')).1, fun e => ?_⟩⟩, hga, h2, own⟩
  · rw [hlen]; exact World.cell?_setCell_same _ _ _ k36
  · rw [hlen]
    have := hs.row hown (fun k e => by
      have e2 : g = k := by simpa [Value.ownBlock] using e
      rw [← e2]; exact hgq)
    show World.ownsRow _ _ _ _ _ _ (cls (G.cs ++ [x]))
    rw [cls_app]; exact this
  · have := h.gm.fz o
    rw [← hk.frozen hnq hql] at this
    simpa using this
  · rcases hga with e2 | e2
    · exact (h.sep k (own k hk')).2 (by omega)
    · have := own_lt h.led (own k hk'); omega
/-- A game whose claims lie where they were, or in a new block. -/
def GameAt (w w' : World) (q a : Nat) (G : GmS) (L : LedS) : Prop := ∃ a' c', IsGame w' q a' c' G L ∧ (a' = a ∨ w.heap.size ≤ a')
/-- Behind the lock of the bond. -/
structure Mx (W : World) (q a c : Nat) (G : GmS) (L : LedS) (q8 q10 q18 q21 : Nat) (cl : Int) (v : Hx) (pl us at_ : Int) (y : World) : Prop where
  game : IsGame y q a c G L
  c8 : y.cell? ⟨q8, 0, none⟩ = some (.int .i64 cl)
  t10 : IsTab y q10 29 32 fun i => bv (v i)
  c18 : y.cell? ⟨q18, 0, none⟩ = some (.int .u64 pl)
  t21 : IsTab y q21 31 2 (clk us at_)
  b8 : W.heap.size ≤ q8
  b10 : W.heap.size ≤ q10
  b18 : W.heap.size ≤ q18
  b21 : W.heap.size ≤ q21
  kept : Kept (OwnL W G.b) W y
  own : ∀ k, OwnL y G.b k → OwnL W G.b k ∨ W.heap.size ≤ k
theorem Mx.drew {W y : World} {q a c : Nat} {G : GmS} {L : LedS} {q8 q10 q18 q21 : Nat} {cl : Int} {v : Hx} {pl us at_ : Int} (h : Mx W q a c G L q8 q10 q18 q21 cl v pl us at_ y) : Mx W q a c G L q8 q10 q18 q21 cl v pl us at_ y.drew :=
  ⟨h.game.below (Lk.below ⟨1, rfl⟩), h.c8, IsTab.drew h.t10, h.c18, IsTab.drew h.t21, h.b8, h.b10, h.b18, h.b21, h.kept.drew, h.own⟩
theorem kept_two {W y z : World} {S : Nat → Prop} {q a : Nat} (h : Kept S W y) (k : Kept (fun k => k = q ∨ k = a) y z) : Kept (fun k => k = q ∨ k = a ∨ S k) W z :=
  (h.mono (T := fun k => k = q ∨ k = a ∨ S k) fun _ _ e => .inr (.inr e)).trans k fun _ _ e => e.elim .inl fun e => .inr (.inl e)
theorem Mw.lock {W y z : World} {q a c : Nat} {G : GmS} {L L' : LedS} {q8 q10 q18 q21 : Nat} {cl : Int} {v : Hx} {pl us at_ : Int} (h : Mw W q a c G L q8 q10 q18 q21 cl v pl us at_ y) (h0 : IsGame W q a c G L) (hl : IsLed z G.b L') (hm : Moves G.b y z) : Mx W q a c G L' q8 q10 q18 q21 cl v pl us at_ z := by
  have hw : ∀ k, OwnL y G.b k → OwnL W G.b k := fun k hk => own_below h0.led h.below hk
  have lt : ∀ k, OwnL y G.b k → k < W.heap.size := fun k hk => own_lt h0.led (hw k hk)
  have no : ∀ k, W.heap.size ≤ k → ¬ OwnL y G.b k := fun k hk ho => by have := lt k ho; omega
  refine ⟨⟨h.game.gm.kept hm.kept (fun e => (h.game.sep _ e).1 rfl) (fun e => (h.game.sep _ e).2 rfl), hl, fun k hk => ?_⟩, hm.kept.cell (no _ h.b8) h.c8, (hm.kept.block _ (IsTab.lt h.t10) (no _ h.b10)).trans h.t10, hm.kept.cell (no _ h.b18) h.c18, (hm.kept.block _ (IsTab.lt h.t21) (no _ h.b21)).trans h.t21, h.b8, h.b10, h.b18, h.b21, ?_, fun k hk => ?_⟩
  · rcases hm.own k hk with e | e
    · exact h.game.sep k e
    · have h1 := h.game.gm.lt
      have h2 := h.game.gm.row.2.1
      exact ⟨by omega, by omega⟩
  · exact (Kept.ofBelow h.below).trans hm.kept (fun k _ e => hw k e)
  · rcases hm.own k hk with e | e
    · exact .inl (hw k e)
    · exact .inr (Nat.le_trans h.below.size e)
set_option maxHeartbeats 8000000 in
set_option maxRecDepth 100000 in
theorem move_ok (w : World) (q a c i : Nat) (G : GmS) (L : LedS) (df : Bool) (v : Hx) (p bd now : Int) (h : IsGame w q a c G L) (ok : GOk G) (hi : i < G.cs.length) (hl : G.cs.length < 64) (hlk : (L.lockB p bd).1 = 0) (hr : G.cs[i].resolved = false) (pl dp : Int) (ht : G.tgt G.cs[i] df = (pl, dp, 0)) (hb : bd = dp + 1) (hw : G.cs.any (sameAns i pl v) = false) (us at_ : Int) (hn : G.nextC G.cs[i] now = (us, at_, 0)) :
    Calls Tryz.prog 16 #[.pointer (some ⟨q, 0, none⟩), .int .i64 i, .bool df, dv v, .int .i64 p, .int .u64 bd, .int .u64 now] w fun e w' => e = .returned (.tuple #[.int .i64 G.cs.length, .nilIface]) ∧ GameAt w w' q a (G.add ⟨i, dp, pl - 2 ^ dp.toNat, v, p, L.lockN p bd, us, at_, false, false, false, p⟩) (L.lockB p bd).2 ∧ Kept (fun k => k = q ∨ k = a ∨ OwnL w G.b k) w w' ∧ (∀ k, OwnL w' G.b k → OwnL w G.b k ∨ w.heap.size ≤ k) := by
  have HF := Lib.hid (fun (y : World) (hy : IsGm y q a c G) => find_ok y q a c i G hy hi ok.len)
  have HTG := Lib.hid (fun (y : World) (hy : IsGm y q a c G) => target_walk y q a c i G df hy ok hi)
  have HCL := Lib.hid (fun (y : World) (hy : IsGm y q a c G) (k : Nat) (hk : k < 42) => hy.cl hi hk)
  obtain ⟨x, hx⟩ : ∃ x, G.cs[i] = x := ⟨_, rfl⟩
  rw [hx] at HTG HCL
  rw [hx] at hr ht hn
  rw [ht, show tgtV (pl, dp, 0) = .tuple #[.int .u64 pl, .int .i64 dp, .nilIface] from rfl] at HTG
  have hdp : 1 ≤ dp ∧ dp ≤ 20 := by
    have h1 := ok.cd _ (List.getElem_mem hi)
    have h2 := ok.d1
    have h3 := tgt_ok ht
    rw [hx] at h1
    omega
  have HBD := Lib.hid (fun y : World => Bond_ok dp y (by omega) (by omega))
  obtain ⟨L2, hL2⟩ : ∃ L2, (L.lockB p bd).2 = L2 := ⟨_, rfl⟩
  obtain ⟨kk, hkk⟩ : ∃ kk, L.lockN p bd = kk := ⟨_, rfl⟩
  subst hb
  have HLK := Lib.hid (fun (y : World) (hy : IsLed y G.b L) => Led.lock_to G.b p (dp + 1) y L L2 0 kk .nilIface hy (by omega) (by rw [← hlk, ← hL2]) hkk rfl)
  rw [hL2, hkk]
  have hps : Cl.pos ⟨(i : Int), dp, pl - 2 ^ dp.toNat, v, p, kk, us, at_, false, false, false, p⟩ = pl := by
    show 2 ^ dp.toNat + (pl - 2 ^ dp.toNat) = pl
    generalize (2 : Int) ^ dp.toNat = z
    omega
  have hbc := buildC (i : Int) dp (pl - 2 ^ dp.toNat) v p kk us at_ p
  rw [hps] at hbc
  obtain ⟨nc, hnc⟩ : ∃ nc : Cl, ⟨(i : Int), dp, pl - 2 ^ dp.toNat, v, p, kk, us, at_, false, false, false, p⟩ = nc := ⟨_, rfl⟩
  rw [hnc] at hbc ⊢
  have HLN := Lib.hid hl
  obtain ⟨i0, hi0⟩ := infoCl
  have HI := Lib.hid hi0
  clear hi0 hps hnc hL2 hkk hlk hl hdp
  have HBF := Lib.hid (fun (y : World) (hy : IsGm y q a c G) => before_walk y q a c i G hy ok hi)
  have HNX := Lib.hid (fun y : World => next_any y G G.cs[i] now ok (List.getElem_mem hi))
  have HCN := Lib.hid (fun (y : World) (q8 q18 q10 : Nat) (hy : IsGm y q a c G) he => contains_mv y q a c G i pl v q8 q18 q10 hy ok.len he)
  rw [hw] at HCN
  rw [hx] at HBF HNX
  rw [hn] at HNX
  simp only at HNX
  rw [show errV 0 = .nilIface from rfl] at HNX
  clear hx ht ok hw hn
  obtain ⟨va, hva⟩ : ∃ va, (tab 32 fun i => bv (v i)) = va := ⟨_, rfl⟩
  have H0 := Lib.hid (Mv.start h (i : Int) v va hva)
  rw [show dv v = .agg va from by unfold dv; rw [hva]]
  have HVA := Lib.hid hva
  have HGW := Lib.hid h
  clear hva h hi
  go_enter Tryz.func16, Tryz.ntmps16
  go_upto_region 1 with (fail)
  generalize (w.alloc (.cells #[.int .i64 i] 3)).alloc (.cells va 29) = y0 at *
  obtain ⟨q8, hq8⟩ : ∃ q8, w.heap.size = q8 := ⟨_, rfl⟩
  have HQ8 := Lib.hid hq8
  obtain ⟨q10, hq10⟩ : ∃ q10, q8 + 1 = q10 := ⟨_, rfl⟩
  have HQ10 := Lib.hid hq10
  rw [hq8, hq10] at H0
  rw [hq8, hq10]
  clear hq8 hq10
  have c8 := H0.out.c8
  go_upto_region 4 with (go_at_call 17; (with_reducible refine (HF.out _ H0.out.game.gm).mono ?_); rintro e y1 ⟨he, hy⟩; obtain rfl : e = _ := he; have H1 : Hid (Mv w q a c G L q8 q10 i v y1) := Lib.hid (H0.out.next hy.below); clear hy HF)
  clear c8 H0
  have kr : y1.cell? ⟨a, i * 42 + 39, none⟩ = some (.bool x.resolved) := HCL.out y1 H1.out.game.gm 39 (by decide)
  rw [show dv v = .agg va from by unfold dv; rw [HVA.out]] at hbc
  have HBC := Lib.hid hbc
  clear hbc
  rw [hr] at kr
  clear hr
  go_upto_region 7 with (go_at_call 27; (with_reducible refine (HTG.out _ H1.out.game.gm).mono ?_); rintro e y2 ⟨he, hy⟩; obtain rfl : e = _ := he; have H2 : Hid (Mv w q a c G L q8 q10 i v y2) := Lib.hid (H1.out.next hy.below); clear hy HTG)
  clear kr H1
  have H3 : Hid (Mv w q a c G L q8 q10 i v (y2.alloc (.cells #[.int .u64 pl] 22)) ∧ (y2.alloc (.cells #[.int .u64 pl] 22)).cell? ⟨y2.heap.size, 0, none⟩ = some (.int .u64 pl)) := Lib.hid ⟨H2.out.next (bal _ _), by simp⟩
  have HQ18 : Hid (w.heap.size ≤ y2.heap.size) := Lib.hid H2.out.below.size
  clear H2
  generalize y2.alloc (.cells #[.int .u64 pl] 22) = y3 at *
  generalize y2.heap.size = q18 at *
  have k36 := H3.out.1.game.gm.kv
  go_upto_region 14 with (first
    | (go_at_call 15; (with_reducible refine (HBD.out _).mono ?_); rintro e y4 ⟨he, hy⟩; obtain rfl : e = _ := he; obtain rfl : _ = y4 := hy)
    | (go_at_call 28; (with_reducible refine (HCN.out _ _ _ _ H3.out.1.game.gm ⟨H3.out.1.c8, H3.out.2, H3.out.1.t10⟩).mono ?_); rintro e y4 ⟨he, hb⟩; obtain rfl : e = _ := he; have H4 : Hid (Mv w q a c G L q8 q10 i v y4 ∧ y4.cell? ⟨q18, 0, none⟩ = some (.int .u64 pl)) := Lib.hid ⟨H3.out.1.next hb, keep1 hb H3.out.2⟩; clear hb HCN))
  have H5 : Hid (Mv w q a c G L q8 q10 i v y4.drew ∧ y4.drew.cell? ⟨q18, 0, none⟩ = some (.int .u64 pl)) := Lib.hid ⟨H4.out.1.next (Lk.below ⟨1, rfl⟩), H4.out.2⟩
  clear H4 H3 k36
  refine wp_region_og (fun z : World => IsGm z q a c G) (.take 0 (.take 1 (.take 2 (.take 3 (.take 4 (.take 5 (.take 6 (.take 7 (.take 8 (.take 9 (.take 10 (.take 12 (.two 11 (.two 13 (.take 14 (.take 15 (.take 16 (.one 17 (.one 18 (.take 19 .done)))))) 17 (.one 13 (.take 14 (.take 15 (.take 16 (.one 18 (.take 19 .done))))))) 17 (.one 11 (.one 13 (.take 14 (.take 15 (.take 16 (.one 18 (.take 19 .done)))))))))))))))))))) (by kernel_rfl) (by kernel_rfl) H5.out.1.game.gm ?_
  generalize y4.drew = y5 at *
  refine og_tk (some 62) (.pointer (some ⟨q, 0, none⟩)) rfl rfl (by go_simp) (fun _ _ => by simp [execOp, go_sem]) ?_
  simp only [Act.put, pS]
  refine og_tk (some 63) (.pointer (some ⟨q, 0, none⟩)) rfl rfl (by go_simp) (fun _ _ => by simp [execOp, go_sem]) ?_
  simp only [Act.put, pS]
  refine og_tk (some 64) (.pointer (some ⟨q, 0, none⟩)) rfl rfl (by go_simp) (fun _ _ => by simp [execOp, go_sem]) ?_
  simp only [Act.put, pS]
  refine og_tk (some 65) (.pointer (some ⟨q, 1, none⟩)) rfl rfl (by go_simp) (fun _ _ => by simp [execOp, go_sem]) ?_
  simp only [Act.put, pS]
  refine og_ld (some 66) 39 (.tmp 65) (.pointer (some ⟨q, 1, none⟩)) (.agg #[.int .u64 G.limit, .int .u64 G.grace]) rfl rfl (by go_simp) rfl rfl (fun y hy => IsGm.clock hy) ?_
  simp only [Act.put, pS]
  refine og_tk (some 67) (.pointer (some ⟨a, i * 42, none⟩)) rfl rfl (by go_simp) (fun _ _ => by simp [execOp, go_sem]) ?_
  simp only [Act.put, pS]
  refine og_tk (some 68) (.pointer (some ⟨a, i * 42, none⟩)) rfl rfl (by go_simp) (fun _ _ => by simp [execOp, go_sem]) ?_
  simp only [Act.put, pS]
  refine og_tk (some 69) (.pointer (some ⟨a, i * 42 + 36, none⟩)) rfl rfl (by go_simp) (fun _ _ => by simp [execOp, go_sem]) ?_
  simp only [Act.put, pS]
  refine og_ld (some 70) 31 (.tmp 69) (.pointer (some ⟨a, i * 42 + 36, none⟩)) (.agg #[.int .u64 x.used, .int .u64 x.at_]) rfl rfl (by go_simp) rfl rfl (fun y hy => load2 (HCL.out y hy 36 (by decide)) (HCL.out y hy 37 (by decide))) ?_
  simp only [Act.put, pS]
  refine og_tk (some 71) (.pointer (some ⟨q, 0, none⟩)) rfl rfl (by go_simp) (fun _ _ => by simp [execOp, go_sem]) ?_
  simp only [Act.put, pS]
  refine og_tk (some 72) (.pointer (some ⟨a, i * 42, none⟩)) rfl rfl (by go_simp) (fun _ _ => by simp [execOp, go_sem]) ?_
  simp only [Act.put, pS]
  refine og_tk (some 74) (.int .u64 now) rfl rfl (by go_simp) (fun _ _ => by simp [execOp, go_sem]) ?_
  simp only [Act.put, pS]
  refine og_two ?_ ?_
  · skip
    refine og_of rfl (by go_simp) fun K hK => ?_
    go_simp
    refine (HBF.out _ H5.out.1.game.gm).mono ?_
    rintro e y6 ⟨he, hy⟩
    obtain rfl : e = _ := he
    have H6 : Hid (Mv w q a c G L q8 q10 i v y6 ∧ y6.cell? ⟨q18, 0, none⟩ = some (.int .u64 pl)) := Lib.hid ⟨H5.out.1.next hy.below, keep1 hy.below H5.out.2⟩
    refine hK _ _ H6.out.1.game.gm ?_
    clear hK K hy H5
    try simp only [List.getElem_toArray, List.getElem_cons_succ, List.getElem_cons_zero, Act.put, pS]
    refine og_two ?_ ?_
    · skip
      refine og_of rfl (by go_simp) fun K hK => ?_
      go_simp
      refine (HNX.out _).mono ?_
      rintro e y7 ⟨he, hb⟩
      obtain rfl : e = _ := he
      have H7 : Hid (Mv w q a c G L q8 q10 i v y7 ∧ y7.cell? ⟨q18, 0, none⟩ = some (.int .u64 pl)) := Lib.hid ⟨H6.out.1.next hb, keep1 hb H6.out.2⟩
      refine hK _ _ H7.out.1.game.gm ?_
      clear hK K hb H6
      try simp only [List.getElem_toArray, List.getElem_cons_succ, List.getElem_cons_zero, Act.put, pS]
      refine og_tk (some 61) (.tuple #[.agg #[.int .u64 us, .int .u64 at_], .nilIface]) rfl rfl (by go_simp) (fun _ _ => by simp [execOp, go_sem]) ?_
      simp only [Act.put, pS]
      refine og_tk (some 76) (.agg #[.int .u64 us, .int .u64 at_]) rfl rfl (by go_simp) (fun _ _ => by simp [execOp, go_sem]) ?_
      simp only [Act.put, pS]
      refine og_tk (some 77) (.nilIface) rfl rfl (by go_simp) (fun _ _ => by simp [execOp, go_sem]) ?_
      simp only [Act.put, pS]
      refine og_f rfl (by go_simp) fun K hK => ?_
      go_simp
      have H8p : Hid (Mv w q a c G L q8 q10 i v (y7.alloc (.cells #[.int .u64 0, .int .u64 0] 31)) ∧ (y7.alloc (.cells #[.int .u64 0, .int .u64 0] 31)).cell? ⟨q18, 0, none⟩ = some (.int .u64 pl) ∧ IsTab (y7.alloc (.cells #[.int .u64 0, .int .u64 0] 31)) y7.heap.size 31 2 (clk 0 0)) := Lib.hid ⟨H7.out.1.next (bal _ _), keep1 (bal _ _) H7.out.2, heap_alloc_last y7 _⟩
      have HQ21p : Hid (w.heap.size ≤ y7.heap.size ∧ q18 < y7.heap.size ∧ q < y7.heap.size ∧ a < y7.heap.size ∧ q8 < y7.heap.size ∧ q10 < y7.heap.size ∧ (∀ k, OwnL y7 G.b k → k < y7.heap.size)) := Lib.hid ⟨H7.out.1.below.size, inHeap H7.out.2, H7.out.1.game.gm.lt, H7.out.1.game.gm.row.2.1, inHeap H7.out.1.c8, IsTab.lt H7.out.1.t10, fun k hk => own_lt H7.out.1.game.led hk⟩
      refine hK _ _ H8p.out.1.game.gm ?_
      clear hK K H7
      generalize y7.alloc (.cells #[.int .u64 0, .int .u64 0] 31) = y8 at *
      generalize y7.heap.size = q21 at *
      have H8 := H8p
      clear H8p
      try simp only [List.getElem_toArray, List.getElem_cons_succ, List.getElem_cons_zero, Act.put, pS]
      have m0 : y8.cell? ⟨q21, 0, none⟩ = some (.int .u64 0) := IsTab.cell H8.out.2.2 0 (by decide)
      have m1 : (y8.setCell ⟨q21, 0, none⟩ (.int .u64 us)).cell? ⟨q21, 1, none⟩ = some (.int .u64 0) := IsTab.cell (IsTab.set H8.out.2.2 0 (.int .u64 us)) 1 (by decide)
      have g0 : y8.frozen? ⟨q21, 0, none⟩ = false := IsTab.fz H8.out.2.2 0
      have g1 : (y8.setCell ⟨q21, 0, none⟩ (.int .u64 us)).frozen? ⟨q21, 1, none⟩ = false := IsTab.fz (IsTab.set H8.out.2.2 0 (.int .u64 us)) 1
      have H9p : Hid (Mw w q a c G L q8 q10 q18 q21 i v pl us at_ ((y8.setCell ⟨q21, 0, none⟩ (.int .u64 us)).setCell ⟨q21, 1, none⟩ (.int .u64 at_))) := Lib.hid (Mw.put H8.out.1 H8.out.2.1 H8.out.2.2 HQ18.out (by have := HQ21p.out; exact ⟨by omega, by omega, by omega, by omega, by omega, fun ho => by have h9 := own_lt HGW.out.led (own_below HGW.out.led H8.out.1.below ho); omega, this.1⟩))
      refine og_f rfl (by go_simp) fun K hK => ?_
      go_simp
      refine hK _ _ H9p.out.game.gm ?_
      clear hK K m0 m1 g0 g1 H8
      try simp only [List.getElem_toArray, List.getElem_cons_succ, List.getElem_cons_zero, Act.put, pS]
      generalize (y8.setCell ⟨q21, 0, none⟩ (.int .u64 us)).setCell ⟨q21, 1, none⟩ (.int .u64 at_) = y9 at *
      have H9 := H9p
      clear H9p HQ21p
      refine og_tk (some 17) (.nilIface) rfl rfl (by go_simp) (fun _ _ => by simp [execOp, go_sem]) ?_
      simp only [Act.put, pS]
      refine og_done (NoPanic.normal ?_)
      have k36 := H9.out.game.gm.kv
      have kb := H9.out.game.gm.kb
      have hl9 : decide ((64 : Int) ≤ (G.cs.length : Int)) = false := by have := HLN.out; simp; omega
      go_upto_region 19 with (fail)
      clear hl9 k36
      go_upto_region 22 with ((go_at_call 20; (with_reducible refine (HLK.out _ H9.out.game.led).mono ?_); rintro e y10 ⟨he, hl, hm⟩; obtain rfl : e = _ := he; have H10 : Hid (Mx w q a c G L2 q8 q10 q18 q21 i v pl us at_ y10) := Lib.hid (H9.out.lock HGW.out hl hm); clear hl hm))
      clear kb H9
      have H10d : Hid (Mx w q a c G L2 q8 q10 q18 q21 i v pl us at_ y10.drew) := Lib.hid H10.out.drew
      clear H10
      refine wp_region_oz (fun z : World => z.cell? ⟨q, 36, none⟩ = some (.slice (some ⟨a, 0, none⟩) G.cs.length c) ∧ z.cell? ⟨q8, 0, none⟩ = some (.int .i64 i) ∧ z.cell? ⟨q18, 0, none⟩ = some (.int .u64 pl) ∧ (IsTab z q10 29 32 fun i => bv (v i)) ∧ IsTab z q21 31 2 (clk us at_)) 17 (.take 0 (.take 1 (.take 2 (.take 3 (.take 4 (.take 5 (.take 6 (.take 7 (.take 8 (.take 9 (.take 10 (.take 11 (.take 12 (.one 13 (.one 14 (.free 15 (.take 16 (.one 17 .done)))))))))))))))))) (by kernel_rfl) (by kernel_rfl) ⟨H10d.out.game.gm.kv, H10d.out.c8, H10d.out.c18, H10d.out.t10, H10d.out.t21⟩ ?_
      generalize y10.drew = z0 at *
      have HS0 : Hid ((fun z : World => z.cell? ⟨q, 36, none⟩ = some (.slice (some ⟨a, 0, none⟩) G.cs.length c) ∧ z.cell? ⟨q8, 0, none⟩ = some (.int .i64 i) ∧ z.cell? ⟨q18, 0, none⟩ = some (.int .u64 pl) ∧ (IsTab z q10 29 32 fun i => bv (v i)) ∧ IsTab z q21 31 2 (clk us at_)) z0) := Lib.hid ⟨H10d.out.game.gm.kv, H10d.out.c8, H10d.out.c18, H10d.out.t10, H10d.out.t21⟩
      have HGZ := Lib.hid H10d.out.game
      have HNE : Hid (a ≠ q ∧ q8 ≠ a ∧ q18 ≠ a ∧ q10 ≠ a ∧ q21 ≠ a) := Lib.hid (by
        have h1 := HGW.out.gm.row.2.1
        have h2 := H10d.out.b8
        have h3 := H10d.out.b10
        have h4 := H10d.out.b18
        have h5 := H10d.out.b21
        exact ⟨HGW.out.gm.ne, by omega, by omega, by omega, by omega⟩)
      refine oz_tk (some 101) (.pointer (some ⟨q, 0, none⟩)) rfl rfl (by go_simp) (fun _ _ => by simp [execOp, go_sem]) ?_
      simp only [Act.put, pS]
      refine oz_tk (some 102) (.pointer (some ⟨q, 0, none⟩)) rfl rfl (by go_simp) (fun _ _ => by simp [execOp, go_sem]) ?_
      simp only [Act.put, pS]
      refine oz_tk (some 103) (.pointer (some ⟨q, 0, none⟩)) rfl rfl (by go_simp) (fun _ _ => by simp [execOp, go_sem]) ?_
      simp only [Act.put, pS]
      refine oz_tk (some 104) (.pointer (some ⟨q, 36, none⟩)) rfl rfl (by go_simp) (fun _ _ => by simp [execOp, go_sem]) ?_
      simp only [Act.put, pS]
      refine oz_ld (some 105) 72 (.tmp 104) (.pointer (some ⟨q, 36, none⟩)) (.slice (some ⟨a, 0, none⟩) G.cs.length c) rfl rfl (by go_simp) rfl rfl (fun y hy => by have h := hy.1; simp [Instr.loadAt, go_sem, h, Tryz.underlying72]) ?_
      simp only [Act.put, pS]
      refine oz_ld (some 106) 3 (.tmp 8) (.pointer (some ⟨q8, 0, none⟩)) (.int .i64 i) rfl rfl (by go_simp) rfl rfl (fun y hy => by have h := hy.2.1; simp [Instr.loadAt, go_sem, h, Tryz.underlying3]) ?_
      simp only [Act.put, pS]
      refine oz_ld (some 107) 22 (.tmp 18) (.pointer (some ⟨q18, 0, none⟩)) (.int .u64 pl) rfl rfl (by go_simp) rfl rfl (fun y hy => by have h := hy.2.2.1; simp [Instr.loadAt, go_sem, h, Tryz.underlying22]) ?_
      simp only [Act.put, pS]
      refine oz_ld (some 108) 29 (.tmp 10) (.pointer (some ⟨q10, 0, none⟩)) (.agg va) rfl rfl (by go_simp) rfl rfl (fun y hy => by have h := load32h hy.2.2.2.1; rw [show dv v = .agg va from by unfold dv; rw [HVA.out]] at h; exact h) ?_
      simp only [Act.put, pS]
      refine oz_tk (some 109) (.int .i64 p) rfl rfl (by go_simp) (fun _ _ => by simp [execOp, go_sem]) ?_
      simp only [Act.put, pS]
      refine oz_tk (some 110) (.int .i64 kk) rfl rfl (by go_simp) (fun _ _ => by simp [execOp, go_sem]) ?_
      simp only [Act.put, pS]
      refine oz_ld (some 111) 31 (.tmp 21) (.pointer (some ⟨q21, 0, none⟩)) (.agg #[.int .u64 us, .int .u64 at_]) rfl rfl (by go_simp) rfl rfl (fun y hy => load2 (IsTab.cell hy.2.2.2.2 0 (by decide)) (IsTab.cell hy.2.2.2.2 1 (by decide))) ?_
      simp only [Act.put, pS]
      refine oz_tk (some 112) (.int .i64 p) rfl rfl (by go_simp) (fun _ _ => by simp [execOp, go_sem]) ?_
      simp only [Act.put, pS]
      refine oz_tk (some 113) (.agg (tab 42 (clv nc))) rfl rfl (by go_simp) (fun y _ => exec_build 33 #[(0, .tmp 106), (1, .tmp 107), (2, .tmp 108), (3, .tmp 109), (4, .tmp 110), (5, .tmp 111), (9, .tmp 112)] rfl #[(0, .int .i64 i), (1, .int .u64 pl), (2, .agg va), (3, .int .i64 p), (4, .int .i64 kk), (5, .agg #[.int .u64 us, .int .u64 at_]), (9, .int .i64 p)] (by simp only [List.map_toArray, List.map_cons, List.map_nil]; rfl) _ (HBC.out y)) ?_
      simp only [Act.put, pS]
      refine oz_f rfl (by go_simp) fun K hK => ?_
      simp only [List.getElem_toArray, List.getElem_cons_succ, List.getElem_cons_zero]
      refine wp_build1 72 (.tmp 113) rfl (.agg (tab 42 (clv nc))) (.slice (some ⟨z0.heap.size, 0, none⟩) 1 1) rfl (z0.alloc (.cells (tab 42 (clv nc)) 33)) (bldCl nc z0) ?_
      have H11 : Hid ((fun z : World => z.cell? ⟨q, 36, none⟩ = some (.slice (some ⟨a, 0, none⟩) G.cs.length c) ∧ z.cell? ⟨q8, 0, none⟩ = some (.int .i64 i) ∧ z.cell? ⟨q18, 0, none⟩ = some (.int .u64 pl) ∧ (IsTab z q10 29 32 fun i => bv (v i)) ∧ IsTab z q21 31 2 (clk us at_)) (z0.alloc (.cells (tab 42 (clv nc)) 33))) := Lib.hid ⟨keep1 (bal _ _) HS0.out.1, keep1 (bal _ _) HS0.out.2.1, keep1 (bal _ _) HS0.out.2.2.1, IsTab.alloc HS0.out.2.2.2.1 _, IsTab.alloc HS0.out.2.2.2.2 _⟩
      refine hK _ _ H11.out ?_
      clear hK K
      try simp only [List.getElem_toArray, List.getElem_cons_succ, List.getElem_cons_zero, Act.put, pS]
      have OW := Lib.hid (HGZ.out.gm.own.alloc (.cells (tab 42 (clv nc)) 33))
      have SRC : Hid (((some ⟨z0.heap.size, 0, none⟩ : Option Addr) = none ∧ 1 = 0 ∧ 1 = 0 ∧ cl1 nc = []) ∨ ∃ ad, (some ⟨z0.heap.size, 0, none⟩ : Option Addr) = some ad ∧ (cl1 nc).length = 1 * 42 ∧ ∀ j u, (cl1 nc)[j]? = some u → (z0.alloc (.cells (tab 42 (clv nc)) 33)).cell? (ad.add j) = some u) := Lib.hid (.inr ⟨_, rfl, by rw [cl1_len], fun j u hj => by
        rw [add_at, Nat.zero_add, cell_of_row _ _ _ _ _ _ (heap_alloc_last z0 _)]
        have hj2 : j < 42 := by have := (List.getElem?_eq_some_iff.1 hj).1; rwa [cl1_len] at this
        rw [cl1_at nc hj2] at hj
        rw [tab_at _ hj2]; exact hj⟩)
      have ONE : Hid (∀ u ∈ cl1 nc, u.oneCell' = true) := Lib.hid (by
        intro u hu
        simp only [cl1, List.mem_map] at hu
        obtain ⟨k, _, rfl⟩ := hu
        exact clv_one nc k)
      refine oz_f rfl (by go_simp) fun K hK => ?_
      simp only [List.getElem_toArray, List.getElem_cons_succ, List.getElem_cons_zero]
      with_reducible refine wp_append_any (P := Tryz.prog) (.tmp 105) (.tmp 114) 72 ?_ 0 33 i0 (clV zc) 42 96 undSl HI.out ?_ ?_ (.slice (some ⟨a, 0, none⟩) G.cs.length c) G.cs.length (cls G.cs) ?_ OW.out (some ⟨z0.heap.size, 0, none⟩) 1 1 (cl1 nc) ?_ SRC.out ONE.out ?_ ?_ ?_ ?_
      · exact rfl
      · exact rfl
      · decide
      · exact rfl
      · exact rfl
      · have := HLN.out; unfold maxLen; omega
      · have := HLN.out; omega
      · exact Nat.zero_le _
      intro V7 w7 hown hgr hat
      have hap := HGZ.out.app nc (.cells (tab 42 (clv nc)) 33) V7 hown hgr hat
      obtain ⟨a', c', rfl, hga, hao, hke, hol⟩ := hap
      have H12 : Hid ((fun z : World => z.cell? ⟨q, 36, none⟩ = some (.slice (some ⟨a, 0, none⟩) G.cs.length c) ∧ z.cell? ⟨q8, 0, none⟩ = some (.int .i64 i) ∧ z.cell? ⟨q18, 0, none⟩ = some (.int .u64 pl) ∧ (IsTab z q10 29 32 fun i => bv (v i)) ∧ IsTab z q21 31 2 (clk us at_)) w7 ∧ IsGame (w7.setCell ⟨q, 36, none⟩ (.slice (some ⟨a', 0, none⟩) (G.cs.length + 1) c')) q a' c' (G.add nc) L2 ∧ (a' = a ∨ z0.heap.size ≤ a') ∧ Kept (fun k => k = q ∨ k = a) z0 (w7.setCell ⟨q, 36, none⟩ (.slice (some ⟨a', 0, none⟩) (G.cs.length + 1) c')) ∧ (∀ k, OwnL (w7.setCell ⟨q, 36, none⟩ (.slice (some ⟨a', 0, none⟩) (G.cs.length + 1) c')) G.b k → OwnL z0 G.b k)) := Lib.hid (by
        have hk : Kept (fun k => k = a) (z0.alloc (.cells (tab 42 (clv nc)) 33)) w7 := (Kept.refl (fun k => k = a) _).grown hgr (fun k e => .inl (by injection e with e; exact e.symm))
        have nb := HNE.out
        exact ⟨⟨hk.cell (fun e => nb.1 e.symm) H11.out.1, hk.cell nb.2.1 H11.out.2.1, hk.cell nb.2.2.1 H11.out.2.2.1, (hk.block _ (IsTab.lt H11.out.2.2.2.1) nb.2.2.2.1).trans H11.out.2.2.2.1, (hk.block _ (IsTab.lt H11.out.2.2.2.2) nb.2.2.2.2).trans H11.out.2.2.2.2⟩, hga, hao, hke, hol⟩)
      refine hK _ _ H12.out.1 ?_
      clear hK K hown hgr hat hga hao hke hol OW SRC ONE H11
      try simp only [List.getElem_toArray, List.getElem_cons_succ, List.getElem_cons_zero, Act.put, pS]
      refine oz_fr (some 116) (.pointer (some ⟨q, 0, none⟩)) rfl rfl (by go_simp) (fun _ => by simp [execOp, go_sem]) ?_
      simp only [Act.put, pS]
      refine oz_tk (some 117) (.pointer (some ⟨q, 36, none⟩)) rfl rfl (by go_simp) (fun _ _ => by simp [execOp, go_sem]) ?_
      simp only [Act.put, pS]
      have kd := H12.out.1.1
      have fd : w7.frozen? ⟨q, 36, none⟩ = false := by
        have := H12.out.2.1.gm.fz 36
        simpa using this
      refine oz_z rfl (by go_simp) fun K hK => ?_
      go_simp
      refine hK _ _ ?_
      clear hK K kd fd
      try simp only [List.getElem_toArray, List.getElem_cons_succ, List.getElem_cons_zero, Act.put, pS]
      refine oz_done (NoPanic.normal ?_)
      generalize w7.setCell ⟨q, 36, none⟩ (.slice (some ⟨a', 0, none⟩) (G.cs.length + 1) c') = y13 at *
      have k36 := H12.out.2.1.gm.kv
      rw [show (G.add nc).cs.length = G.cs.length + 1 from by simp [GmS.add]] at k36
      have hw9 : wrap64 (G.cs.length : Int) = G.cs.length := by have := HLN.out; unfold wrap64; omega
      go_wp2_with (fail)
      exact bodyPost_ret (v := .tuple #[.int .i64 G.cs.length, .nilIface]) (by simp [results, Tryz.results16, go_sem, hw9]) rfl ⟨rfl, ⟨a', c', H12.out.2.1, (by
        rcases H12.out.2.2.1 with e | e
        · exact .inl e
        · exact .inr (Nat.le_trans H10d.out.kept.size e))⟩, kept_two H10d.out.kept H12.out.2.2.2.1, fun k hk => H10d.out.own k (H12.out.2.2.2.2 k hk)⟩
    · skip
      refine og_of rfl (by go_simp) fun K hK => ?_
      go_simp
      have H7p : Hid (Mv w q a c G L q8 q10 i v (y6.alloc (.cells #[.int .u64 0, .int .u64 0] 31)) ∧ (y6.alloc (.cells #[.int .u64 0, .int .u64 0] 31)).cell? ⟨q18, 0, none⟩ = some (.int .u64 pl) ∧ IsTab (y6.alloc (.cells #[.int .u64 0, .int .u64 0] 31)) y6.heap.size 31 2 (clk 0 0)) := Lib.hid ⟨H6.out.1.next (bal _ _), keep1 (bal _ _) H6.out.2, heap_alloc_last y6 _⟩
      have HQ21p : Hid (w.heap.size ≤ y6.heap.size ∧ q18 < y6.heap.size ∧ q < y6.heap.size ∧ a < y6.heap.size ∧ q8 < y6.heap.size ∧ q10 < y6.heap.size ∧ (∀ k, OwnL y6 G.b k → k < y6.heap.size)) := Lib.hid ⟨H6.out.1.below.size, inHeap H6.out.2, H6.out.1.game.gm.lt, H6.out.1.game.gm.row.2.1, inHeap H6.out.1.c8, IsTab.lt H6.out.1.t10, fun k hk => own_lt H6.out.1.game.led hk⟩
      refine hK _ _ H7p.out.1.game.gm ?_
      clear hK K H6
      generalize y6.alloc (.cells #[.int .u64 0, .int .u64 0] 31) = y7 at *
      generalize y6.heap.size = q21 at *
      have H7 := H7p
      clear H7p
      try simp only [List.getElem_toArray, List.getElem_cons_succ, List.getElem_cons_zero, Act.put, pS]
      refine og_f rfl (by go_simp) fun K hK => ?_
      go_simp
      refine (HNX.out _).mono ?_
      rintro e y8 ⟨he, hb⟩
      obtain rfl : e = _ := he
      have H8 : Hid (Mv w q a c G L q8 q10 i v y8 ∧ y8.cell? ⟨q18, 0, none⟩ = some (.int .u64 pl) ∧ IsTab y8 q21 31 2 (clk 0 0)) := Lib.hid ⟨H7.out.1.next hb, keep1 hb H7.out.2.1, IsTab.below H7.out.2.2 hb⟩
      refine hK _ _ H8.out.1.game.gm ?_
      clear hK K hb H7
      try simp only [List.getElem_toArray, List.getElem_cons_succ, List.getElem_cons_zero, Act.put, pS]
      refine og_tk (some 61) (.tuple #[.agg #[.int .u64 us, .int .u64 at_], .nilIface]) rfl rfl (by go_simp) (fun _ _ => by simp [execOp, go_sem]) ?_
      simp only [Act.put, pS]
      refine og_tk (some 76) (.agg #[.int .u64 us, .int .u64 at_]) rfl rfl (by go_simp) (fun _ _ => by simp [execOp, go_sem]) ?_
      simp only [Act.put, pS]
      refine og_tk (some 77) (.nilIface) rfl rfl (by go_simp) (fun _ _ => by simp [execOp, go_sem]) ?_
      simp only [Act.put, pS]
      have m0 : y8.cell? ⟨q21, 0, none⟩ = some (.int .u64 0) := IsTab.cell H8.out.2.2 0 (by decide)
      have m1 : (y8.setCell ⟨q21, 0, none⟩ (.int .u64 us)).cell? ⟨q21, 1, none⟩ = some (.int .u64 0) := IsTab.cell (IsTab.set H8.out.2.2 0 (.int .u64 us)) 1 (by decide)
      have g0 : y8.frozen? ⟨q21, 0, none⟩ = false := IsTab.fz H8.out.2.2 0
      have g1 : (y8.setCell ⟨q21, 0, none⟩ (.int .u64 us)).frozen? ⟨q21, 1, none⟩ = false := IsTab.fz (IsTab.set H8.out.2.2 0 (.int .u64 us)) 1
      have H9p : Hid (Mw w q a c G L q8 q10 q18 q21 i v pl us at_ ((y8.setCell ⟨q21, 0, none⟩ (.int .u64 us)).setCell ⟨q21, 1, none⟩ (.int .u64 at_))) := Lib.hid (Mw.put H8.out.1 H8.out.2.1 H8.out.2.2 HQ18.out (by have := HQ21p.out; exact ⟨by omega, by omega, by omega, by omega, by omega, fun ho => by have h9 := own_lt HGW.out.led (own_below HGW.out.led H8.out.1.below ho); omega, this.1⟩))
      refine og_f rfl (by go_simp) fun K hK => ?_
      go_simp
      refine hK _ _ H9p.out.game.gm ?_
      clear hK K m0 m1 g0 g1 H8
      try simp only [List.getElem_toArray, List.getElem_cons_succ, List.getElem_cons_zero, Act.put, pS]
      generalize (y8.setCell ⟨q21, 0, none⟩ (.int .u64 us)).setCell ⟨q21, 1, none⟩ (.int .u64 at_) = y9 at *
      have H9 := H9p
      clear H9p HQ21p
      refine og_tk (some 17) (.nilIface) rfl rfl (by go_simp) (fun _ _ => by simp [execOp, go_sem]) ?_
      simp only [Act.put, pS]
      refine og_done (NoPanic.normal ?_)
      have k36 := H9.out.game.gm.kv
      have kb := H9.out.game.gm.kb
      have hl9 : decide ((64 : Int) ≤ (G.cs.length : Int)) = false := by have := HLN.out; simp; omega
      go_upto_region 19 with (fail)
      clear hl9 k36
      go_upto_region 22 with ((go_at_call 20; (with_reducible refine (HLK.out _ H9.out.game.led).mono ?_); rintro e y10 ⟨he, hl, hm⟩; obtain rfl : e = _ := he; have H10 : Hid (Mx w q a c G L2 q8 q10 q18 q21 i v pl us at_ y10) := Lib.hid (H9.out.lock HGW.out hl hm); clear hl hm))
      clear kb H9
      have H10d : Hid (Mx w q a c G L2 q8 q10 q18 q21 i v pl us at_ y10.drew) := Lib.hid H10.out.drew
      clear H10
      refine wp_region_oz (fun z : World => z.cell? ⟨q, 36, none⟩ = some (.slice (some ⟨a, 0, none⟩) G.cs.length c) ∧ z.cell? ⟨q8, 0, none⟩ = some (.int .i64 i) ∧ z.cell? ⟨q18, 0, none⟩ = some (.int .u64 pl) ∧ (IsTab z q10 29 32 fun i => bv (v i)) ∧ IsTab z q21 31 2 (clk us at_)) 17 (.take 0 (.take 1 (.take 2 (.take 3 (.take 4 (.take 5 (.take 6 (.take 7 (.take 8 (.take 9 (.take 10 (.take 11 (.take 12 (.one 13 (.one 14 (.free 15 (.take 16 (.one 17 .done)))))))))))))))))) (by kernel_rfl) (by kernel_rfl) ⟨H10d.out.game.gm.kv, H10d.out.c8, H10d.out.c18, H10d.out.t10, H10d.out.t21⟩ ?_
      generalize y10.drew = z0 at *
      have HS0 : Hid ((fun z : World => z.cell? ⟨q, 36, none⟩ = some (.slice (some ⟨a, 0, none⟩) G.cs.length c) ∧ z.cell? ⟨q8, 0, none⟩ = some (.int .i64 i) ∧ z.cell? ⟨q18, 0, none⟩ = some (.int .u64 pl) ∧ (IsTab z q10 29 32 fun i => bv (v i)) ∧ IsTab z q21 31 2 (clk us at_)) z0) := Lib.hid ⟨H10d.out.game.gm.kv, H10d.out.c8, H10d.out.c18, H10d.out.t10, H10d.out.t21⟩
      have HGZ := Lib.hid H10d.out.game
      have HNE : Hid (a ≠ q ∧ q8 ≠ a ∧ q18 ≠ a ∧ q10 ≠ a ∧ q21 ≠ a) := Lib.hid (by
        have h1 := HGW.out.gm.row.2.1
        have h2 := H10d.out.b8
        have h3 := H10d.out.b10
        have h4 := H10d.out.b18
        have h5 := H10d.out.b21
        exact ⟨HGW.out.gm.ne, by omega, by omega, by omega, by omega⟩)
      refine oz_tk (some 101) (.pointer (some ⟨q, 0, none⟩)) rfl rfl (by go_simp) (fun _ _ => by simp [execOp, go_sem]) ?_
      simp only [Act.put, pS]
      refine oz_tk (some 102) (.pointer (some ⟨q, 0, none⟩)) rfl rfl (by go_simp) (fun _ _ => by simp [execOp, go_sem]) ?_
      simp only [Act.put, pS]
      refine oz_tk (some 103) (.pointer (some ⟨q, 0, none⟩)) rfl rfl (by go_simp) (fun _ _ => by simp [execOp, go_sem]) ?_
      simp only [Act.put, pS]
      refine oz_tk (some 104) (.pointer (some ⟨q, 36, none⟩)) rfl rfl (by go_simp) (fun _ _ => by simp [execOp, go_sem]) ?_
      simp only [Act.put, pS]
      refine oz_ld (some 105) 72 (.tmp 104) (.pointer (some ⟨q, 36, none⟩)) (.slice (some ⟨a, 0, none⟩) G.cs.length c) rfl rfl (by go_simp) rfl rfl (fun y hy => by have h := hy.1; simp [Instr.loadAt, go_sem, h, Tryz.underlying72]) ?_
      simp only [Act.put, pS]
      refine oz_ld (some 106) 3 (.tmp 8) (.pointer (some ⟨q8, 0, none⟩)) (.int .i64 i) rfl rfl (by go_simp) rfl rfl (fun y hy => by have h := hy.2.1; simp [Instr.loadAt, go_sem, h, Tryz.underlying3]) ?_
      simp only [Act.put, pS]
      refine oz_ld (some 107) 22 (.tmp 18) (.pointer (some ⟨q18, 0, none⟩)) (.int .u64 pl) rfl rfl (by go_simp) rfl rfl (fun y hy => by have h := hy.2.2.1; simp [Instr.loadAt, go_sem, h, Tryz.underlying22]) ?_
      simp only [Act.put, pS]
      refine oz_ld (some 108) 29 (.tmp 10) (.pointer (some ⟨q10, 0, none⟩)) (.agg va) rfl rfl (by go_simp) rfl rfl (fun y hy => by have h := load32h hy.2.2.2.1; rw [show dv v = .agg va from by unfold dv; rw [HVA.out]] at h; exact h) ?_
      simp only [Act.put, pS]
      refine oz_tk (some 109) (.int .i64 p) rfl rfl (by go_simp) (fun _ _ => by simp [execOp, go_sem]) ?_
      simp only [Act.put, pS]
      refine oz_tk (some 110) (.int .i64 kk) rfl rfl (by go_simp) (fun _ _ => by simp [execOp, go_sem]) ?_
      simp only [Act.put, pS]
      refine oz_ld (some 111) 31 (.tmp 21) (.pointer (some ⟨q21, 0, none⟩)) (.agg #[.int .u64 us, .int .u64 at_]) rfl rfl (by go_simp) rfl rfl (fun y hy => load2 (IsTab.cell hy.2.2.2.2 0 (by decide)) (IsTab.cell hy.2.2.2.2 1 (by decide))) ?_
      simp only [Act.put, pS]
      refine oz_tk (some 112) (.int .i64 p) rfl rfl (by go_simp) (fun _ _ => by simp [execOp, go_sem]) ?_
      simp only [Act.put, pS]
      refine oz_tk (some 113) (.agg (tab 42 (clv nc))) rfl rfl (by go_simp) (fun y _ => exec_build 33 #[(0, .tmp 106), (1, .tmp 107), (2, .tmp 108), (3, .tmp 109), (4, .tmp 110), (5, .tmp 111), (9, .tmp 112)] rfl #[(0, .int .i64 i), (1, .int .u64 pl), (2, .agg va), (3, .int .i64 p), (4, .int .i64 kk), (5, .agg #[.int .u64 us, .int .u64 at_]), (9, .int .i64 p)] (by simp only [List.map_toArray, List.map_cons, List.map_nil]; rfl) _ (HBC.out y)) ?_
      simp only [Act.put, pS]
      refine oz_f rfl (by go_simp) fun K hK => ?_
      simp only [List.getElem_toArray, List.getElem_cons_succ, List.getElem_cons_zero]
      refine wp_build1 72 (.tmp 113) rfl (.agg (tab 42 (clv nc))) (.slice (some ⟨z0.heap.size, 0, none⟩) 1 1) rfl (z0.alloc (.cells (tab 42 (clv nc)) 33)) (bldCl nc z0) ?_
      have H11 : Hid ((fun z : World => z.cell? ⟨q, 36, none⟩ = some (.slice (some ⟨a, 0, none⟩) G.cs.length c) ∧ z.cell? ⟨q8, 0, none⟩ = some (.int .i64 i) ∧ z.cell? ⟨q18, 0, none⟩ = some (.int .u64 pl) ∧ (IsTab z q10 29 32 fun i => bv (v i)) ∧ IsTab z q21 31 2 (clk us at_)) (z0.alloc (.cells (tab 42 (clv nc)) 33))) := Lib.hid ⟨keep1 (bal _ _) HS0.out.1, keep1 (bal _ _) HS0.out.2.1, keep1 (bal _ _) HS0.out.2.2.1, IsTab.alloc HS0.out.2.2.2.1 _, IsTab.alloc HS0.out.2.2.2.2 _⟩
      refine hK _ _ H11.out ?_
      clear hK K
      try simp only [List.getElem_toArray, List.getElem_cons_succ, List.getElem_cons_zero, Act.put, pS]
      have OW := Lib.hid (HGZ.out.gm.own.alloc (.cells (tab 42 (clv nc)) 33))
      have SRC : Hid (((some ⟨z0.heap.size, 0, none⟩ : Option Addr) = none ∧ 1 = 0 ∧ 1 = 0 ∧ cl1 nc = []) ∨ ∃ ad, (some ⟨z0.heap.size, 0, none⟩ : Option Addr) = some ad ∧ (cl1 nc).length = 1 * 42 ∧ ∀ j u, (cl1 nc)[j]? = some u → (z0.alloc (.cells (tab 42 (clv nc)) 33)).cell? (ad.add j) = some u) := Lib.hid (.inr ⟨_, rfl, by rw [cl1_len], fun j u hj => by
        rw [add_at, Nat.zero_add, cell_of_row _ _ _ _ _ _ (heap_alloc_last z0 _)]
        have hj2 : j < 42 := by have := (List.getElem?_eq_some_iff.1 hj).1; rwa [cl1_len] at this
        rw [cl1_at nc hj2] at hj
        rw [tab_at _ hj2]; exact hj⟩)
      have ONE : Hid (∀ u ∈ cl1 nc, u.oneCell' = true) := Lib.hid (by
        intro u hu
        simp only [cl1, List.mem_map] at hu
        obtain ⟨k, _, rfl⟩ := hu
        exact clv_one nc k)
      refine oz_f rfl (by go_simp) fun K hK => ?_
      simp only [List.getElem_toArray, List.getElem_cons_succ, List.getElem_cons_zero]
      with_reducible refine wp_append_any (P := Tryz.prog) (.tmp 105) (.tmp 114) 72 ?_ 0 33 i0 (clV zc) 42 96 undSl HI.out ?_ ?_ (.slice (some ⟨a, 0, none⟩) G.cs.length c) G.cs.length (cls G.cs) ?_ OW.out (some ⟨z0.heap.size, 0, none⟩) 1 1 (cl1 nc) ?_ SRC.out ONE.out ?_ ?_ ?_ ?_
      · exact rfl
      · exact rfl
      · decide
      · exact rfl
      · exact rfl
      · have := HLN.out; unfold maxLen; omega
      · have := HLN.out; omega
      · exact Nat.zero_le _
      intro V7 w7 hown hgr hat
      have hap := HGZ.out.app nc (.cells (tab 42 (clv nc)) 33) V7 hown hgr hat
      obtain ⟨a', c', rfl, hga, hao, hke, hol⟩ := hap
      have H12 : Hid ((fun z : World => z.cell? ⟨q, 36, none⟩ = some (.slice (some ⟨a, 0, none⟩) G.cs.length c) ∧ z.cell? ⟨q8, 0, none⟩ = some (.int .i64 i) ∧ z.cell? ⟨q18, 0, none⟩ = some (.int .u64 pl) ∧ (IsTab z q10 29 32 fun i => bv (v i)) ∧ IsTab z q21 31 2 (clk us at_)) w7 ∧ IsGame (w7.setCell ⟨q, 36, none⟩ (.slice (some ⟨a', 0, none⟩) (G.cs.length + 1) c')) q a' c' (G.add nc) L2 ∧ (a' = a ∨ z0.heap.size ≤ a') ∧ Kept (fun k => k = q ∨ k = a) z0 (w7.setCell ⟨q, 36, none⟩ (.slice (some ⟨a', 0, none⟩) (G.cs.length + 1) c')) ∧ (∀ k, OwnL (w7.setCell ⟨q, 36, none⟩ (.slice (some ⟨a', 0, none⟩) (G.cs.length + 1) c')) G.b k → OwnL z0 G.b k)) := Lib.hid (by
        have hk : Kept (fun k => k = a) (z0.alloc (.cells (tab 42 (clv nc)) 33)) w7 := (Kept.refl (fun k => k = a) _).grown hgr (fun k e => .inl (by injection e with e; exact e.symm))
        have nb := HNE.out
        exact ⟨⟨hk.cell (fun e => nb.1 e.symm) H11.out.1, hk.cell nb.2.1 H11.out.2.1, hk.cell nb.2.2.1 H11.out.2.2.1, (hk.block _ (IsTab.lt H11.out.2.2.2.1) nb.2.2.2.1).trans H11.out.2.2.2.1, (hk.block _ (IsTab.lt H11.out.2.2.2.2) nb.2.2.2.2).trans H11.out.2.2.2.2⟩, hga, hao, hke, hol⟩)
      refine hK _ _ H12.out.1 ?_
      clear hK K hown hgr hat hga hao hke hol OW SRC ONE H11
      try simp only [List.getElem_toArray, List.getElem_cons_succ, List.getElem_cons_zero, Act.put, pS]
      refine oz_fr (some 116) (.pointer (some ⟨q, 0, none⟩)) rfl rfl (by go_simp) (fun _ => by simp [execOp, go_sem]) ?_
      simp only [Act.put, pS]
      refine oz_tk (some 117) (.pointer (some ⟨q, 36, none⟩)) rfl rfl (by go_simp) (fun _ _ => by simp [execOp, go_sem]) ?_
      simp only [Act.put, pS]
      have kd := H12.out.1.1
      have fd : w7.frozen? ⟨q, 36, none⟩ = false := by
        have := H12.out.2.1.gm.fz 36
        simpa using this
      refine oz_z rfl (by go_simp) fun K hK => ?_
      go_simp
      refine hK _ _ ?_
      clear hK K kd fd
      try simp only [List.getElem_toArray, List.getElem_cons_succ, List.getElem_cons_zero, Act.put, pS]
      refine oz_done (NoPanic.normal ?_)
      generalize w7.setCell ⟨q, 36, none⟩ (.slice (some ⟨a', 0, none⟩) (G.cs.length + 1) c') = y13 at *
      have k36 := H12.out.2.1.gm.kv
      rw [show (G.add nc).cs.length = G.cs.length + 1 from by simp [GmS.add]] at k36
      have hw9 : wrap64 (G.cs.length : Int) = G.cs.length := by have := HLN.out; unfold wrap64; omega
      go_wp2_with (fail)
      exact bodyPost_ret (v := .tuple #[.int .i64 G.cs.length, .nilIface]) (by simp [results, Tryz.results16, go_sem, hw9]) rfl ⟨rfl, ⟨a', c', H12.out.2.1, (by
        rcases H12.out.2.2.1 with e | e
        · exact .inl e
        · exact .inr (Nat.le_trans H10d.out.kept.size e))⟩, kept_two H10d.out.kept H12.out.2.2.2.1, fun k hk => H10d.out.own k (H12.out.2.2.2.2 k hk)⟩
  · skip
    refine og_of rfl (by go_simp) fun K hK => ?_
    go_simp
    have H6p : Hid (Mv w q a c G L q8 q10 i v (y5.alloc (.cells #[.int .u64 0, .int .u64 0] 31)) ∧ (y5.alloc (.cells #[.int .u64 0, .int .u64 0] 31)).cell? ⟨q18, 0, none⟩ = some (.int .u64 pl) ∧ IsTab (y5.alloc (.cells #[.int .u64 0, .int .u64 0] 31)) y5.heap.size 31 2 (clk 0 0)) := Lib.hid ⟨H5.out.1.next (bal _ _), keep1 (bal _ _) H5.out.2, heap_alloc_last y5 _⟩
    have HQ21p : Hid (w.heap.size ≤ y5.heap.size ∧ q18 < y5.heap.size ∧ q < y5.heap.size ∧ a < y5.heap.size ∧ q8 < y5.heap.size ∧ q10 < y5.heap.size ∧ (∀ k, OwnL y5 G.b k → k < y5.heap.size)) := Lib.hid ⟨H5.out.1.below.size, inHeap H5.out.2, H5.out.1.game.gm.lt, H5.out.1.game.gm.row.2.1, inHeap H5.out.1.c8, IsTab.lt H5.out.1.t10, fun k hk => own_lt H5.out.1.game.led hk⟩
    refine hK _ _ H6p.out.1.game.gm ?_
    clear hK K H5
    generalize y5.alloc (.cells #[.int .u64 0, .int .u64 0] 31) = y6 at *
    generalize y5.heap.size = q21 at *
    have H6 := H6p
    clear H6p
    try simp only [List.getElem_toArray, List.getElem_cons_succ, List.getElem_cons_zero, Act.put, pS]
    refine og_f rfl (by go_simp) fun K hK => ?_
    go_simp
    refine (HBF.out _ H6.out.1.game.gm).mono ?_
    rintro e y7 ⟨he, hy⟩
    obtain rfl : e = _ := he
    have H7 : Hid (Mv w q a c G L q8 q10 i v y7 ∧ y7.cell? ⟨q18, 0, none⟩ = some (.int .u64 pl) ∧ IsTab y7 q21 31 2 (clk 0 0)) := Lib.hid ⟨H6.out.1.next hy.below, keep1 hy.below H6.out.2.1, IsTab.below H6.out.2.2 hy.below⟩
    refine hK _ _ H7.out.1.game.gm ?_
    clear hK K hy H6
    try simp only [List.getElem_toArray, List.getElem_cons_succ, List.getElem_cons_zero, Act.put, pS]
    refine og_f rfl (by go_simp) fun K hK => ?_
    go_simp
    refine (HNX.out _).mono ?_
    rintro e y8 ⟨he, hb⟩
    obtain rfl : e = _ := he
    have H8 : Hid (Mv w q a c G L q8 q10 i v y8 ∧ y8.cell? ⟨q18, 0, none⟩ = some (.int .u64 pl) ∧ IsTab y8 q21 31 2 (clk 0 0)) := Lib.hid ⟨H7.out.1.next hb, keep1 hb H7.out.2.1, IsTab.below H7.out.2.2 hb⟩
    refine hK _ _ H8.out.1.game.gm ?_
    clear hK K hb H7
    try simp only [List.getElem_toArray, List.getElem_cons_succ, List.getElem_cons_zero, Act.put, pS]
    refine og_tk (some 61) (.tuple #[.agg #[.int .u64 us, .int .u64 at_], .nilIface]) rfl rfl (by go_simp) (fun _ _ => by simp [execOp, go_sem]) ?_
    simp only [Act.put, pS]
    refine og_tk (some 76) (.agg #[.int .u64 us, .int .u64 at_]) rfl rfl (by go_simp) (fun _ _ => by simp [execOp, go_sem]) ?_
    simp only [Act.put, pS]
    refine og_tk (some 77) (.nilIface) rfl rfl (by go_simp) (fun _ _ => by simp [execOp, go_sem]) ?_
    simp only [Act.put, pS]
    have m0 : y8.cell? ⟨q21, 0, none⟩ = some (.int .u64 0) := IsTab.cell H8.out.2.2 0 (by decide)
    have m1 : (y8.setCell ⟨q21, 0, none⟩ (.int .u64 us)).cell? ⟨q21, 1, none⟩ = some (.int .u64 0) := IsTab.cell (IsTab.set H8.out.2.2 0 (.int .u64 us)) 1 (by decide)
    have g0 : y8.frozen? ⟨q21, 0, none⟩ = false := IsTab.fz H8.out.2.2 0
    have g1 : (y8.setCell ⟨q21, 0, none⟩ (.int .u64 us)).frozen? ⟨q21, 1, none⟩ = false := IsTab.fz (IsTab.set H8.out.2.2 0 (.int .u64 us)) 1
    have H9p : Hid (Mw w q a c G L q8 q10 q18 q21 i v pl us at_ ((y8.setCell ⟨q21, 0, none⟩ (.int .u64 us)).setCell ⟨q21, 1, none⟩ (.int .u64 at_))) := Lib.hid (Mw.put H8.out.1 H8.out.2.1 H8.out.2.2 HQ18.out (by have := HQ21p.out; exact ⟨by omega, by omega, by omega, by omega, by omega, fun ho => by have h9 := own_lt HGW.out.led (own_below HGW.out.led H8.out.1.below ho); omega, this.1⟩))
    refine og_f rfl (by go_simp) fun K hK => ?_
    go_simp
    refine hK _ _ H9p.out.game.gm ?_
    clear hK K m0 m1 g0 g1 H8
    try simp only [List.getElem_toArray, List.getElem_cons_succ, List.getElem_cons_zero, Act.put, pS]
    generalize (y8.setCell ⟨q21, 0, none⟩ (.int .u64 us)).setCell ⟨q21, 1, none⟩ (.int .u64 at_) = y9 at *
    have H9 := H9p
    clear H9p HQ21p
    refine og_tk (some 17) (.nilIface) rfl rfl (by go_simp) (fun _ _ => by simp [execOp, go_sem]) ?_
    simp only [Act.put, pS]
    refine og_done (NoPanic.normal ?_)
    have k36 := H9.out.game.gm.kv
    have kb := H9.out.game.gm.kb
    have hl9 : decide ((64 : Int) ≤ (G.cs.length : Int)) = false := by have := HLN.out; simp; omega
    go_upto_region 19 with (fail)
    clear hl9 k36
    go_upto_region 22 with ((go_at_call 20; (with_reducible refine (HLK.out _ H9.out.game.led).mono ?_); rintro e y10 ⟨he, hl, hm⟩; obtain rfl : e = _ := he; have H10 : Hid (Mx w q a c G L2 q8 q10 q18 q21 i v pl us at_ y10) := Lib.hid (H9.out.lock HGW.out hl hm); clear hl hm))
    clear kb H9
    have H10d : Hid (Mx w q a c G L2 q8 q10 q18 q21 i v pl us at_ y10.drew) := Lib.hid H10.out.drew
    clear H10
    refine wp_region_oz (fun z : World => z.cell? ⟨q, 36, none⟩ = some (.slice (some ⟨a, 0, none⟩) G.cs.length c) ∧ z.cell? ⟨q8, 0, none⟩ = some (.int .i64 i) ∧ z.cell? ⟨q18, 0, none⟩ = some (.int .u64 pl) ∧ (IsTab z q10 29 32 fun i => bv (v i)) ∧ IsTab z q21 31 2 (clk us at_)) 17 (.take 0 (.take 1 (.take 2 (.take 3 (.take 4 (.take 5 (.take 6 (.take 7 (.take 8 (.take 9 (.take 10 (.take 11 (.take 12 (.one 13 (.one 14 (.free 15 (.take 16 (.one 17 .done)))))))))))))))))) (by kernel_rfl) (by kernel_rfl) ⟨H10d.out.game.gm.kv, H10d.out.c8, H10d.out.c18, H10d.out.t10, H10d.out.t21⟩ ?_
    generalize y10.drew = z0 at *
    have HS0 : Hid ((fun z : World => z.cell? ⟨q, 36, none⟩ = some (.slice (some ⟨a, 0, none⟩) G.cs.length c) ∧ z.cell? ⟨q8, 0, none⟩ = some (.int .i64 i) ∧ z.cell? ⟨q18, 0, none⟩ = some (.int .u64 pl) ∧ (IsTab z q10 29 32 fun i => bv (v i)) ∧ IsTab z q21 31 2 (clk us at_)) z0) := Lib.hid ⟨H10d.out.game.gm.kv, H10d.out.c8, H10d.out.c18, H10d.out.t10, H10d.out.t21⟩
    have HGZ := Lib.hid H10d.out.game
    have HNE : Hid (a ≠ q ∧ q8 ≠ a ∧ q18 ≠ a ∧ q10 ≠ a ∧ q21 ≠ a) := Lib.hid (by
      have h1 := HGW.out.gm.row.2.1
      have h2 := H10d.out.b8
      have h3 := H10d.out.b10
      have h4 := H10d.out.b18
      have h5 := H10d.out.b21
      exact ⟨HGW.out.gm.ne, by omega, by omega, by omega, by omega⟩)
    refine oz_tk (some 101) (.pointer (some ⟨q, 0, none⟩)) rfl rfl (by go_simp) (fun _ _ => by simp [execOp, go_sem]) ?_
    simp only [Act.put, pS]
    refine oz_tk (some 102) (.pointer (some ⟨q, 0, none⟩)) rfl rfl (by go_simp) (fun _ _ => by simp [execOp, go_sem]) ?_
    simp only [Act.put, pS]
    refine oz_tk (some 103) (.pointer (some ⟨q, 0, none⟩)) rfl rfl (by go_simp) (fun _ _ => by simp [execOp, go_sem]) ?_
    simp only [Act.put, pS]
    refine oz_tk (some 104) (.pointer (some ⟨q, 36, none⟩)) rfl rfl (by go_simp) (fun _ _ => by simp [execOp, go_sem]) ?_
    simp only [Act.put, pS]
    refine oz_ld (some 105) 72 (.tmp 104) (.pointer (some ⟨q, 36, none⟩)) (.slice (some ⟨a, 0, none⟩) G.cs.length c) rfl rfl (by go_simp) rfl rfl (fun y hy => by have h := hy.1; simp [Instr.loadAt, go_sem, h, Tryz.underlying72]) ?_
    simp only [Act.put, pS]
    refine oz_ld (some 106) 3 (.tmp 8) (.pointer (some ⟨q8, 0, none⟩)) (.int .i64 i) rfl rfl (by go_simp) rfl rfl (fun y hy => by have h := hy.2.1; simp [Instr.loadAt, go_sem, h, Tryz.underlying3]) ?_
    simp only [Act.put, pS]
    refine oz_ld (some 107) 22 (.tmp 18) (.pointer (some ⟨q18, 0, none⟩)) (.int .u64 pl) rfl rfl (by go_simp) rfl rfl (fun y hy => by have h := hy.2.2.1; simp [Instr.loadAt, go_sem, h, Tryz.underlying22]) ?_
    simp only [Act.put, pS]
    refine oz_ld (some 108) 29 (.tmp 10) (.pointer (some ⟨q10, 0, none⟩)) (.agg va) rfl rfl (by go_simp) rfl rfl (fun y hy => by have h := load32h hy.2.2.2.1; rw [show dv v = .agg va from by unfold dv; rw [HVA.out]] at h; exact h) ?_
    simp only [Act.put, pS]
    refine oz_tk (some 109) (.int .i64 p) rfl rfl (by go_simp) (fun _ _ => by simp [execOp, go_sem]) ?_
    simp only [Act.put, pS]
    refine oz_tk (some 110) (.int .i64 kk) rfl rfl (by go_simp) (fun _ _ => by simp [execOp, go_sem]) ?_
    simp only [Act.put, pS]
    refine oz_ld (some 111) 31 (.tmp 21) (.pointer (some ⟨q21, 0, none⟩)) (.agg #[.int .u64 us, .int .u64 at_]) rfl rfl (by go_simp) rfl rfl (fun y hy => load2 (IsTab.cell hy.2.2.2.2 0 (by decide)) (IsTab.cell hy.2.2.2.2 1 (by decide))) ?_
    simp only [Act.put, pS]
    refine oz_tk (some 112) (.int .i64 p) rfl rfl (by go_simp) (fun _ _ => by simp [execOp, go_sem]) ?_
    simp only [Act.put, pS]
    refine oz_tk (some 113) (.agg (tab 42 (clv nc))) rfl rfl (by go_simp) (fun y _ => exec_build 33 #[(0, .tmp 106), (1, .tmp 107), (2, .tmp 108), (3, .tmp 109), (4, .tmp 110), (5, .tmp 111), (9, .tmp 112)] rfl #[(0, .int .i64 i), (1, .int .u64 pl), (2, .agg va), (3, .int .i64 p), (4, .int .i64 kk), (5, .agg #[.int .u64 us, .int .u64 at_]), (9, .int .i64 p)] (by simp only [List.map_toArray, List.map_cons, List.map_nil]; rfl) _ (HBC.out y)) ?_
    simp only [Act.put, pS]
    refine oz_f rfl (by go_simp) fun K hK => ?_
    simp only [List.getElem_toArray, List.getElem_cons_succ, List.getElem_cons_zero]
    refine wp_build1 72 (.tmp 113) rfl (.agg (tab 42 (clv nc))) (.slice (some ⟨z0.heap.size, 0, none⟩) 1 1) rfl (z0.alloc (.cells (tab 42 (clv nc)) 33)) (bldCl nc z0) ?_
    have H11 : Hid ((fun z : World => z.cell? ⟨q, 36, none⟩ = some (.slice (some ⟨a, 0, none⟩) G.cs.length c) ∧ z.cell? ⟨q8, 0, none⟩ = some (.int .i64 i) ∧ z.cell? ⟨q18, 0, none⟩ = some (.int .u64 pl) ∧ (IsTab z q10 29 32 fun i => bv (v i)) ∧ IsTab z q21 31 2 (clk us at_)) (z0.alloc (.cells (tab 42 (clv nc)) 33))) := Lib.hid ⟨keep1 (bal _ _) HS0.out.1, keep1 (bal _ _) HS0.out.2.1, keep1 (bal _ _) HS0.out.2.2.1, IsTab.alloc HS0.out.2.2.2.1 _, IsTab.alloc HS0.out.2.2.2.2 _⟩
    refine hK _ _ H11.out ?_
    clear hK K
    try simp only [List.getElem_toArray, List.getElem_cons_succ, List.getElem_cons_zero, Act.put, pS]
    have OW := Lib.hid (HGZ.out.gm.own.alloc (.cells (tab 42 (clv nc)) 33))
    have SRC : Hid (((some ⟨z0.heap.size, 0, none⟩ : Option Addr) = none ∧ 1 = 0 ∧ 1 = 0 ∧ cl1 nc = []) ∨ ∃ ad, (some ⟨z0.heap.size, 0, none⟩ : Option Addr) = some ad ∧ (cl1 nc).length = 1 * 42 ∧ ∀ j u, (cl1 nc)[j]? = some u → (z0.alloc (.cells (tab 42 (clv nc)) 33)).cell? (ad.add j) = some u) := Lib.hid (.inr ⟨_, rfl, by rw [cl1_len], fun j u hj => by
      rw [add_at, Nat.zero_add, cell_of_row _ _ _ _ _ _ (heap_alloc_last z0 _)]
      have hj2 : j < 42 := by have := (List.getElem?_eq_some_iff.1 hj).1; rwa [cl1_len] at this
      rw [cl1_at nc hj2] at hj
      rw [tab_at _ hj2]; exact hj⟩)
    have ONE : Hid (∀ u ∈ cl1 nc, u.oneCell' = true) := Lib.hid (by
      intro u hu
      simp only [cl1, List.mem_map] at hu
      obtain ⟨k, _, rfl⟩ := hu
      exact clv_one nc k)
    refine oz_f rfl (by go_simp) fun K hK => ?_
    simp only [List.getElem_toArray, List.getElem_cons_succ, List.getElem_cons_zero]
    with_reducible refine wp_append_any (P := Tryz.prog) (.tmp 105) (.tmp 114) 72 ?_ 0 33 i0 (clV zc) 42 96 undSl HI.out ?_ ?_ (.slice (some ⟨a, 0, none⟩) G.cs.length c) G.cs.length (cls G.cs) ?_ OW.out (some ⟨z0.heap.size, 0, none⟩) 1 1 (cl1 nc) ?_ SRC.out ONE.out ?_ ?_ ?_ ?_
    · exact rfl
    · exact rfl
    · decide
    · exact rfl
    · exact rfl
    · have := HLN.out; unfold maxLen; omega
    · have := HLN.out; omega
    · exact Nat.zero_le _
    intro V7 w7 hown hgr hat
    have hap := HGZ.out.app nc (.cells (tab 42 (clv nc)) 33) V7 hown hgr hat
    obtain ⟨a', c', rfl, hga, hao, hke, hol⟩ := hap
    have H12 : Hid ((fun z : World => z.cell? ⟨q, 36, none⟩ = some (.slice (some ⟨a, 0, none⟩) G.cs.length c) ∧ z.cell? ⟨q8, 0, none⟩ = some (.int .i64 i) ∧ z.cell? ⟨q18, 0, none⟩ = some (.int .u64 pl) ∧ (IsTab z q10 29 32 fun i => bv (v i)) ∧ IsTab z q21 31 2 (clk us at_)) w7 ∧ IsGame (w7.setCell ⟨q, 36, none⟩ (.slice (some ⟨a', 0, none⟩) (G.cs.length + 1) c')) q a' c' (G.add nc) L2 ∧ (a' = a ∨ z0.heap.size ≤ a') ∧ Kept (fun k => k = q ∨ k = a) z0 (w7.setCell ⟨q, 36, none⟩ (.slice (some ⟨a', 0, none⟩) (G.cs.length + 1) c')) ∧ (∀ k, OwnL (w7.setCell ⟨q, 36, none⟩ (.slice (some ⟨a', 0, none⟩) (G.cs.length + 1) c')) G.b k → OwnL z0 G.b k)) := Lib.hid (by
      have hk : Kept (fun k => k = a) (z0.alloc (.cells (tab 42 (clv nc)) 33)) w7 := (Kept.refl (fun k => k = a) _).grown hgr (fun k e => .inl (by injection e with e; exact e.symm))
      have nb := HNE.out
      exact ⟨⟨hk.cell (fun e => nb.1 e.symm) H11.out.1, hk.cell nb.2.1 H11.out.2.1, hk.cell nb.2.2.1 H11.out.2.2.1, (hk.block _ (IsTab.lt H11.out.2.2.2.1) nb.2.2.2.1).trans H11.out.2.2.2.1, (hk.block _ (IsTab.lt H11.out.2.2.2.2) nb.2.2.2.2).trans H11.out.2.2.2.2⟩, hga, hao, hke, hol⟩)
    refine hK _ _ H12.out.1 ?_
    clear hK K hown hgr hat hga hao hke hol OW SRC ONE H11
    try simp only [List.getElem_toArray, List.getElem_cons_succ, List.getElem_cons_zero, Act.put, pS]
    refine oz_fr (some 116) (.pointer (some ⟨q, 0, none⟩)) rfl rfl (by go_simp) (fun _ => by simp [execOp, go_sem]) ?_
    simp only [Act.put, pS]
    refine oz_tk (some 117) (.pointer (some ⟨q, 36, none⟩)) rfl rfl (by go_simp) (fun _ _ => by simp [execOp, go_sem]) ?_
    simp only [Act.put, pS]
    have kd := H12.out.1.1
    have fd : w7.frozen? ⟨q, 36, none⟩ = false := by
      have := H12.out.2.1.gm.fz 36
      simpa using this
    refine oz_z rfl (by go_simp) fun K hK => ?_
    go_simp
    refine hK _ _ ?_
    clear hK K kd fd
    try simp only [List.getElem_toArray, List.getElem_cons_succ, List.getElem_cons_zero, Act.put, pS]
    refine oz_done (NoPanic.normal ?_)
    generalize w7.setCell ⟨q, 36, none⟩ (.slice (some ⟨a', 0, none⟩) (G.cs.length + 1) c') = y13 at *
    have k36 := H12.out.2.1.gm.kv
    rw [show (G.add nc).cs.length = G.cs.length + 1 from by simp [GmS.add]] at k36
    have hw9 : wrap64 (G.cs.length : Int) = G.cs.length := by have := HLN.out; unfold wrap64; omega
    go_wp2_with (fail)
    exact bodyPost_ret (v := .tuple #[.int .i64 G.cs.length, .nilIface]) (by simp [results, Tryz.results16, go_sem, hw9]) rfl ⟨rfl, ⟨a', c', H12.out.2.1, (by
      rcases H12.out.2.2.1 with e | e
      · exact .inl e
      · exact .inr (Nat.le_trans H10d.out.kept.size e))⟩, kept_two H10d.out.kept H12.out.2.2.2.1, fun k hk => H10d.out.own k (H12.out.2.2.2.2 k hk)⟩
end Gm
end Go.Proofs.YtnaamljflcgepaaGreatDoor
