/- Merged of Kept Evb Evc Qin Qtl. Own work. -/
import Derived.Test.YtcgpdijpppcbiaaDoorP01
import Derived.Laws.OwnMore
import Derived.OwnWalk
import Derived.Lib.Hide
import Derived.StillTailTactics
import Derived.Outline
import Derived.BigQuiet
import Derived.Deep.QuietTactic
import Derived.BigRegion
import Derived.RegionTactic
import Derived.WalkKit
import Derived.StillTail
import Derived.Deep.Quiet
namespace Go.Proofs.YtcgpdijpppcbiaaDoor
open Go.RowKit
structure Kept (S : Nat → Prop) (w w' : World) : Prop where
  os : w'.os = w.os
  tape : w'.tape = w.tape
  output : w'.output = w.output
  size : w.heap.size ≤ w'.heap.size
  block : ∀ k, k < w.heap.size → ¬ S k → w'.heap[k]? = w.heap[k]?
namespace Kept
variable {S T : Nat → Prop} {a b c w : World}
theorem refl (S : Nat → Prop) (w : World) : Kept S w w := ⟨rfl, rfl, rfl, Nat.le_refl _, fun _ _ _ => rfl⟩
theorem trans (h : Kept S a b) (k : Kept T b c) (hs : ∀ i, i < a.heap.size → T i → S i) : Kept S a c :=
  ⟨k.os.trans h.os, k.tape.trans h.tape, k.output.trans h.output, Nat.le_trans h.size k.size, fun i hi hn => (k.block i (Nat.lt_of_lt_of_le hi h.size) (fun ht => hn (hs i hi ht))).trans (h.block i hi hn)⟩
theorem mono (h : Kept S a b) (hs : ∀ i, i < a.heap.size → S i → T i) : Kept T a b := ⟨h.os, h.tape, h.output, h.size, fun k hk hn => h.block k hk (fun hh => hn (hs k hk hh))⟩
theorem drewN (h : Kept S a b) (n : Nat) : Kept S a (b.drewN n) := ⟨h.os, h.tape, h.output, h.size, h.block⟩
theorem drew (h : Kept S a b) : Kept S a b.drew := ⟨h.os, h.tape, h.output, h.size, h.block⟩
theorem alloc (h : Kept S a b) (o : Obj) : Kept S a (b.alloc o) :=
  ⟨h.os, h.tape, h.output, by have := h.size; simp; omega, fun k hk hn => by rw [Below.heap_alloc _ _ _ (by have := h.size; omega)]; exact h.block k hk hn⟩
theorem setCell (h : Kept S a b) {p : Addr} (hp : S p.block ∨ a.heap.size ≤ p.block) (u : Value) : Kept S a (b.setCell p u) :=
  ⟨h.os, h.tape, h.output, by have := h.size; simpa [World.setCell] using this, fun k hk hn => by
    rw [Below.heap_setCell _ _ _ _ (fun e => by subst e; rcases hp with hp | hp; exact hn hp; omega)]; exact h.block k hk hn⟩
theorem grown {row : Option Nat} (h : Kept S a b) (hg : b.grownBy c row) (hr : ∀ k, row = some k → S k ∨ a.heap.size ≤ k) : Kept S a c :=
  ⟨hg.os.trans h.os, hg.tape.trans h.tape, hg.output.trans h.output, Nat.le_trans h.size hg.size, fun k hk hn =>
    (hg.block k (by have := h.size; omega) (fun e => by rcases hr k e.symm with hs | hs; exact hn hs; omega)).trans (h.block k hk hn)⟩
theorem below {B : Nat} (h : Kept S a b) (hB : B ≤ a.heap.size) (hs : ∀ k, k < a.heap.size → S k → B ≤ k) : Below B a b :=
  ⟨h.os, h.tape, h.output, h.size, fun k hk => h.block k (by omega) (fun e => by have := hs k (by omega) e; omega)⟩
theorem ofBelow (h : Below a.heap.size a b) : Kept S a b := ⟨h.os, h.tape, h.output, h.size, fun k hk _ => h.block k hk⟩
theorem cell (h : Kept S a b) {k o : Nat} {v : Value} (hn : ¬ S k) (hc : a.cell? ⟨k, o, none⟩ = some v) : b.cell? ⟨k, o, none⟩ = some v := by
  rw [World.cell?_of_block (w := a) (h.block k (inHeap hc) hn)]; exact hc
theorem frozen (h : Kept S a b) {k o : Nat} (hn : ¬ S k) (hk : k < a.heap.size) : b.frozen? ⟨k, o, none⟩ = a.frozen? ⟨k, o, none⟩ := World.frozen?_of_block (w := a) (h.block k hk hn)
theorem row {base : Nat} {e : TypeId} {size : Nat} {v : Value} {n : Nat} {xs : List Value} (h : Kept S a b) (ho : a.ownsRow base e size v n xs) (hn : ∀ k, v.ownBlock = some k → ¬ S k) : b.ownsRow base e size v n xs := by
  refine ⟨ho.1, ?_⟩
  rcases ho.2 with hh | ⟨g, cap, cur, rfl, hb, hgg, rest⟩
  · exact .inl hh
  · refine .inr ⟨g, cap, cur, rfl, hb, ?_, rest⟩
    rw [h.block g (Array.getElem?_eq_some_iff.1 hgg).1 (hn g rfl)]; exact hgg
end Kept
theorem ownsRow_forms {w : World} {base size n : Nat} {e : TypeId} {v : Value} {xs : List Value} (h : w.ownsRow base e size v n xs) : (v = .slice none 0 0 ∧ n = 0) ∨ ∃ g cap, v = .slice (some ⟨g, 0, none⟩) n cap ∧ base ≤ g ∧ g < w.heap.size ∧ n ≤ cap := by
  rcases h.2 with hh | ⟨g, cap, cur, rfl, hbb, hg, hn, _⟩
  · exact .inl hh
  · exact .inr ⟨g, cap, rfl, hbb, (Array.getElem?_eq_some_iff.1 hg).1, hn⟩
theorem size_setCell (w : World) (a : Addr) (v : Value) : (w.setCell a v).heap.size = w.heap.size := by simp [World.setCell]
theorem one_at {w : World} {n : Nat} (hn : n = w.heap.size) (a : Value) (t : TypeId) : ∀ j u, [a][j]? = some u → (w.alloc (.cells #[a] t)).cell? ((⟨n, 0, none⟩ : Addr).add j) = some u := by
  subst hn
  intro j u hu
  cases j with
  | zero => simp at hu; subst hu; simp [Addr.add]
  | succ j => simp at hu
end Go.Proofs.YtcgpdijpppcbiaaDoor
namespace Go.Proofs.YtcgpdijpppcbiaaDoor
open Go.RowKit
set_option linter.unusedVariables false
set_option linter.unusedSimpArgs false
namespace Ir
open Kc
/-- A list of expressions stands in a block, from a place on; D: the blocks of programs. -/
def EfAt (w : World) (D : Nat → Prop) : Ef → Nat → Nat → Prop
  | .nil, _, _ => True
  | .cons op n kids rest, b, o => D b ∧ n < 18446744073709551616 ∧ w.cell? ⟨b, o, none⟩ = some (.int .i64 op) ∧ w.cell? ⟨b, o + 1, none⟩ = some (.int .u64 n) ∧
    (∃ a c, w.cell? ⟨b, o + 2, none⟩ = some (.slice a kids.len c) ∧ kids.len < 1099511627776 ∧ (kids = .nil ∨ ∃ b' o', a = some ⟨b', o', none⟩ ∧ EfAt w D kids b' o')) ∧ EfAt w D rest b (o + 3)
/-- A slice of expressions. -/
def SlE (w : World) (D : Nat → Prop) (V : Value) (x : Ef) : Prop := ∃ a c, V = .slice a x.len c ∧ x.len < 1099511627776 ∧ (x = .nil ∨ ∃ b o, a = some ⟨b, o, none⟩ ∧ EfAt w D x b o)
def SfAt (w : World) (D : Nat → Prop) : Sf → Nat → Nat → Prop
  | .nil, _, _ => True
  | .cons kind n ao an ak bo bn bk body els rest, b, o => D b ∧ an < 18446744073709551616 ∧ bn < 18446744073709551616 ∧ w.cell? ⟨b, o, none⟩ = some (.int .i64 kind) ∧ w.cell? ⟨b, o + 1, none⟩ = some (.int .i64 n) ∧
    w.cell? ⟨b, o + 2, none⟩ = some (.int .i64 ao) ∧ w.cell? ⟨b, o + 3, none⟩ = some (.int .u64 an) ∧ (∃ V, w.cell? ⟨b, o + 4, none⟩ = some V ∧ SlE w D V ak) ∧
    w.cell? ⟨b, o + 5, none⟩ = some (.int .i64 bo) ∧ w.cell? ⟨b, o + 6, none⟩ = some (.int .u64 bn) ∧ (∃ V, w.cell? ⟨b, o + 7, none⟩ = some V ∧ SlE w D V bk) ∧
    (∃ a c, w.cell? ⟨b, o + 8, none⟩ = some (.slice a body.len c) ∧ body.len < 1099511627776 ∧ (body = .nil ∨ ∃ b' o', a = some ⟨b', o', none⟩ ∧ SfAt w D body b' o')) ∧
    (∃ a c, w.cell? ⟨b, o + 9, none⟩ = some (.slice a els.len c) ∧ els.len < 1099511627776 ∧ (els = .nil ∨ ∃ b' o', a = some ⟨b', o', none⟩ ∧ SfAt w D els b' o')) ∧ SfAt w D rest b (o + 10)
/-- A slice of statements. -/
def SlS (w : World) (D : Nat → Prop) (V : Value) (x : Sf) : Prop := ∃ a c, V = .slice a x.len c ∧ x.len < 1099511627776 ∧ (x = .nil ∨ ∃ b o, a = some ⟨b, o, none⟩ ∧ SfAt w D x b o)
def FnAt (w : World) (D : Nat → Prop) (fn : Fn) (b o : Nat) : Prop := D b ∧ w.cell? ⟨b, o, none⟩ = some (.int .i64 fn.params) ∧ w.cell? ⟨b, o + 1, none⟩ = some (.int .i64 fn.locals) ∧ ∃ V, w.cell? ⟨b, o + 2, none⟩ = some V ∧ SlS w D V fn.body
/-- A slice of functions. -/
def SlP (w : World) (D : Nat → Prop) (V : Value) (p : List Fn) : Prop := ∃ a c, V = .slice a p.length c ∧ p.length < 1099511627776 ∧ (p = [] ∨ ∃ b o, a = some ⟨b, o, none⟩ ∧ ∀ i fn, p[i]? = some fn → FnAt w D fn b (o + 3 * i))
section
variable {w w' : World} {D : Nat → Prop} {S : Nat → Prop}
theorem EfAt.kept (hk : Kept S w w') (hn : ∀ k, D k → ¬ S k) : ∀ (x : Ef) (b o : Nat), EfAt w D x b o → EfAt w' D x b o
  | .nil, _, _, _ => trivial
  | .cons op n kids rest, b, o, h => by
    obtain ⟨h1, h2, h3, h4, ⟨a, c, h5, hl, h6⟩, h7⟩ := h
    refine ⟨h1, h2, hk.cell (hn _ h1) h3, hk.cell (hn _ h1) h4, ⟨a, c, hk.cell (hn _ h1) h5, hl, ?_⟩, EfAt.kept hk hn rest b (o + 3) h7⟩
    rcases h6 with h6 | ⟨b', o', rfl, h6⟩
    · exact .inl h6
    · exact .inr ⟨b', o', rfl, EfAt.kept hk hn kids b' o' h6⟩
theorem SlE.kept (hk : Kept S w w') (hn : ∀ k, D k → ¬ S k) {V : Value} {x : Ef} (h : SlE w D V x) : SlE w' D V x := by
  obtain ⟨a, c, rfl, hl, h⟩ := h
  refine ⟨a, c, rfl, hl, ?_⟩
  rcases h with h | ⟨b, o, rfl, h⟩
  · exact .inl h
  · exact .inr ⟨b, o, rfl, EfAt.kept hk hn x b o h⟩
theorem SfAt.kept (hk : Kept S w w') (hn : ∀ k, D k → ¬ S k) : ∀ (x : Sf) (b o : Nat), SfAt w D x b o → SfAt w' D x b o
  | .nil, _, _, _ => trivial
  | .cons kind n ao an ak bo bn bk body els rest, b, o, h => by
    obtain ⟨h1, h2, h3, h4, h5, h6, h7, ⟨V, h8, h9⟩, h10, h11, ⟨U, h12, h13⟩, ⟨a, c, h14, hl, h15⟩, ⟨a', c', h16, hl', h17⟩, h18⟩ := h
    have c := fun {i v} => hk.cell (o := i) (v := v) (hn _ h1)
    refine ⟨h1, h2, h3, c h4, c h5, c h6, c h7, ⟨V, c h8, h9.kept hk hn⟩, c h10, c h11, ⟨U, c h12, h13.kept hk hn⟩, ⟨a, _, c h14, hl, ?_⟩, ⟨a', c', c h16, hl', ?_⟩, SfAt.kept hk hn rest b (o + 10) h18⟩
    · rcases h15 with h | ⟨b', o', rfl, h⟩
      · exact .inl h
      · exact .inr ⟨b', o', rfl, SfAt.kept hk hn body b' o' h⟩
    · rcases h17 with h | ⟨b', o', rfl, h⟩
      · exact .inl h
      · exact .inr ⟨b', o', rfl, SfAt.kept hk hn els b' o' h⟩
theorem SlS.kept (hk : Kept S w w') (hn : ∀ k, D k → ¬ S k) {V : Value} {x : Sf} (h : SlS w D V x) : SlS w' D V x := by
  obtain ⟨a, c, rfl, hl, h⟩ := h
  refine ⟨a, c, rfl, hl, ?_⟩
  rcases h with h | ⟨b, o, rfl, h⟩
  · exact .inl h
  · exact .inr ⟨b, o, rfl, SfAt.kept hk hn x b o h⟩
theorem SlP.kept (hk : Kept S w w') (hn : ∀ k, D k → ¬ S k) {V : Value} {p : List Fn} (h : SlP w D V p) : SlP w' D V p := by
  obtain ⟨a, c, rfl, hl, h⟩ := h
  refine ⟨a, c, rfl, hl, ?_⟩
  rcases h with h | ⟨b, o, rfl, h⟩
  · exact .inl h
  · refine .inr ⟨b, o, rfl, fun i fn hi => ?_⟩
    obtain ⟨h1, h2, h3, U, h4, h5⟩ := h i fn hi
    exact ⟨h1, hk.cell (hn _ h1) h2, hk.cell (hn _ h1) h3, U, hk.cell (hn _ h1) h4, h5.kept hk hn⟩
end
/-- A run in memory: the program, the store, the words, and what was used. -/
def rc (pv sv : Value) (s : Rs) : Nat → Value := fun i =>
  if i = 0 then pv else if i = 1 then sv else if i < 2050 then .int .u64 (s.mem (i - 2)) else if i = 2050 then .int .i64 s.fuel else if i = 2051 then .int .i64 s.used else if i = 2052 then .bool s.dry else .int .u64 s.exit
structure IsRun (w : World) (r : Nat) (pv sv : Value) (s : Rs) : Prop where
  tab : IsTab w r 67 2054 (rc pv sv s)
  mem : ∀ i, s.mem i < 18446744073709551616
  exit : s.exit < 18446744073709551616
  fuel : s.fuel < 4611686018427387904
  used : s.used ≤ s.fuel
/-- A function's frame. -/
def fc (L : Nat → Nat) (v : Nat) : Nat → Value := fun i => if i < 24 then .int .u64 (L i) else .int .u64 v
structure IsFr (w : World) (f : Nat) (L : Nat → Nat) (v : Nat) : Prop where
  tab : IsTab w f 101 25 (fc L v)
  loc : ∀ i, L i < 18446744073709551616
  val : v < 18446744073709551616
theorem IsTab.kept9 {w w' : World} {q T n : Nat} {g : Nat → Value} {S : Nat → Prop} (h : IsTab w q T n g) (hk : Kept S w w') (hn : ¬ S q) : IsTab w' q T n g := (hk.block _ h.lt hn).trans h
section
variable {w w' : World} {r f : Nat} {pv sv : Value} {s : Rs} {L : Nat → Nat} {v : Nat} {S : Nat → Prop}
theorem IsRun.kept (h : IsRun w r pv sv s) (hk : Kept S w w') (hn : ¬ S r) : IsRun w' r pv sv s := ⟨IsTab.kept9 h.tab hk hn, h.mem, h.exit, h.fuel, h.used⟩
theorem IsFr.kept (h : IsFr w f L v) (hk : Kept S w w') (hn : ¬ S f) : IsFr w' f L v := ⟨IsTab.kept9 h.tab hk hn, h.loc, h.val⟩
theorem IsRun.p (h : IsRun w r pv sv s) : w.cell? ⟨r, 0, none⟩ = some pv := h.tab.cell 0 (by decide)
theorem IsRun.st (h : IsRun w r pv sv s) : w.cell? ⟨r, 1, none⟩ = some sv := h.tab.cell 1 (by decide)
theorem IsRun.m (h : IsRun w r pv sv s) {i : Nat} (hi : i < 2048) : w.cell? ⟨r, 2 + i, none⟩ = some (.int .u64 (s.mem i)) := by
  have := h.tab.cell (2 + i) (by omega); rw [this]; unfold rc; rw [if_neg (by omega), if_neg (by omega), if_pos (by omega), show 2 + i - 2 = i from by omega]
theorem IsRun.fu (h : IsRun w r pv sv s) : w.cell? ⟨r, 2050, none⟩ = some (.int .i64 s.fuel) := h.tab.cell 2050 (by decide)
theorem IsRun.us (h : IsRun w r pv sv s) : w.cell? ⟨r, 2051, none⟩ = some (.int .i64 s.used) := h.tab.cell 2051 (by decide)
theorem IsRun.dr (h : IsRun w r pv sv s) : w.cell? ⟨r, 2052, none⟩ = some (.bool s.dry) := h.tab.cell 2052 (by decide)
theorem IsRun.ex (h : IsRun w r pv sv s) : w.cell? ⟨r, 2053, none⟩ = some (.int .u64 s.exit) := h.tab.cell 2053 (by decide)
theorem IsRun.fz (h : IsRun w r pv sv s) (i : Nat) : w.frozen? ⟨r, i, none⟩ = false := IsTab.fz h.tab i
theorem IsRun.lt (h : IsRun w r pv sv s) : r < w.heap.size := h.tab.lt
theorem IsFr.lt (h : IsFr w f L v) : f < w.heap.size := h.tab.lt
theorem IsFr.l (h : IsFr w f L v) {i : Nat} (hi : i < 24) : w.cell? ⟨f, i, none⟩ = some (.int .u64 (L i)) := by
  have := h.tab.cell i (by omega); rw [this]; unfold fc; rw [if_pos hi]
theorem IsFr.vl (h : IsFr w f L v) : w.cell? ⟨f, 24, none⟩ = some (.int .u64 v) := h.tab.cell 24 (by decide)
theorem IsFr.fz (h : IsFr w f L v) (i : Nat) : w.frozen? ⟨f, i, none⟩ = false := IsTab.fz h.tab i
theorem IsRun.setUsed (h : IsRun w r pv sv s) (hu : s.used < s.fuel) : IsRun (w.setCell ⟨r, 2051, none⟩ (.int .i64 ((s.used + 1 : Nat) : Int))) r pv sv s.up :=
  ⟨(h.tab.set 2051 _).cong fun i _ => by
    unfold Kc.updv rc Rs.up
    by_cases e : i = 2051
    · subst e; simp
    · rw [if_neg e]; simp [e], h.mem, h.exit, h.fuel, hu⟩
theorem IsRun.setDry (h : IsRun w r pv sv s) : IsRun (w.setCell ⟨r, 2052, none⟩ (.bool true)) r pv sv s.dried :=
  ⟨(h.tab.set 2052 _).cong fun i _ => by
    unfold Kc.updv rc Rs.dried
    by_cases e : i = 2052
    · subst e; simp
    · rw [if_neg e]; simp [e], h.mem, h.exit, h.fuel, h.used⟩
theorem IsRun.setExit (h : IsRun w r pv sv s) {x : Nat} (hx : x < 18446744073709551616) : IsRun (w.setCell ⟨r, 2053, none⟩ (.int .u64 x)) r pv sv (s.ends x) :=
  ⟨(h.tab.set 2053 _).cong fun i hi => by
    unfold Kc.updv rc Rs.ends
    by_cases e : i = 2053
    · subst e; simp
    · rw [if_neg e]
      have : i < 2053 := by omega
      by_cases h1 : i = 0
      · simp [h1]
      by_cases h2 : i = 1
      · simp [h2]
      by_cases h3 : i < 2050
      · simp [h1, h2, h3]
      by_cases h4 : i = 2050
      · simp [h4]
      by_cases h5 : i = 2051
      · simp [h5]
      have h6 : i = 2052 := by omega
      simp [h6], h.mem, hx, h.fuel, h.used⟩
theorem IsRun.setMem (h : IsRun w r pv sv s) {a x : Nat} (ha : a < 2048) (hx : x < 18446744073709551616) : IsRun (w.setCell ⟨r, 2 + a, none⟩ (.int .u64 x)) r pv sv (s.put a x) :=
  ⟨(h.tab.set (2 + a) _).cong fun i hi => by
    unfold Kc.updv rc Rs.put upd
    by_cases e : i = 2 + a
    · subst e
      rw [if_pos rfl, if_neg (by omega), if_neg (by omega), if_pos (by omega)]
      simp
    · rw [if_neg e]
      by_cases h1 : i = 0
      · simp [h1]
      by_cases h2 : i = 1
      · simp [h2]
      have : ¬ i - 2 = a := by omega
      simp [h1, h2, this], fun i => by unfold Rs.put upd; dsimp only; split; exact hx; exact h.mem i, h.exit, h.fuel, h.used⟩
theorem IsFr.setL (h : IsFr w f L v) {i x : Nat} (hi : i < 24) (hx : x < 18446744073709551616) : IsFr (w.setCell ⟨f, i, none⟩ (.int .u64 x)) f (upd L i x) v :=
  ⟨(h.tab.set i _).cong fun j hj => by
    unfold Kc.updv fc upd
    by_cases e : j = i
    · subst e; simp [hi]
    · simp [e], fun j => by unfold upd; split; exact hx; exact h.loc j, h.val⟩
theorem IsFr.setV (h : IsFr w f L v) {x : Nat} (hx : x < 18446744073709551616) : IsFr (w.setCell ⟨f, 24, none⟩ (.int .u64 x)) f L x :=
  ⟨(h.tab.set 24 _).cong fun j hj => by
    unfold Kc.updv fc
    by_cases e : j = 24
    · subst e; simp
    · rw [if_neg e, if_pos (by omega), if_pos (by omega)], h.loc, hx⟩
theorem kept_drew9 (w : World) : Kept (fun _ => False) w w.drew := (Kept.refl _ w).drew
theorem kept_one {S : Nat → Prop} {W y : World} (h : Kept S W y) (b o : Nat) (hb : S b ∨ W.heap.size ≤ b) (v : Value) : Kept S W (y.setCell ⟨b, o, none⟩ v) := h.setCell hb v
end
end Ir
end Go.Proofs.YtcgpdijpppcbiaaDoor
namespace Go.Proofs.YtcgpdijpppcbiaaDoor
open Go.RowKit
set_option linter.unusedVariables false
set_option linter.unusedSimpArgs false
namespace Ir
open Kc
set_option maxHeartbeats 1000000 in
set_option maxRecDepth 100000 in
theorem spend_yes (w : World) (r : Nat) (pv sv : Value) (s : Rs) (h : IsRun w r pv sv s) (hu : s.used < s.fuel) :
    Calls Tryd.prog 52 #[.pointer (some ⟨r, 0, none⟩)] w fun e w' => e = .returned (.bool true) ∧ IsRun w' r pv sv s.up ∧ Kept (fun k => k = r) w w' := by
  have ku := h.us
  have kf := h.fu
  have fu := h.fz 2051
  have t1 : decide (s.fuel ≤ s.used) = false := by simp; omega
  have hw : wrap64 ((s.used : Int) + 1) = ((s.used + 1 : Nat) : Int) := by have := h.fuel; unfold wrap64; omega
  have hd : ∀ q, IsRun (w.drewN q) r pv sv s := fun q => h.kept (S := fun _ => False) ((Kept.refl _ w).drewN q) id
  have HS := Lib.hid (fun q => (hd q).setUsed hu)
  have HK : Hid (∀ q, Kept (fun k => k = r) w ((w.drewN q).setCell ⟨r, 2051, none⟩ (.int .i64 ((s.used + 1 : Nat) : Int)))) := Lib.hid (fun q => kept_one (S := fun k => k = r) ((Kept.refl _ _).drewN q) r 2051 (.inl rfl) _)
  clear hd h hu
  go_enter Tryd.func52, Tryd.ntmps52
  go_wp2_with (fail)
  go_quiet (fail)
  go_wp2_with (fail)
  exact bodyPost_ret (v := .bool true) (by simp [results, Tryd.results52, go_sem]) rfl ⟨rfl, HS.out _, HK.out _⟩
set_option maxHeartbeats 1000000 in
set_option maxRecDepth 100000 in
theorem spend_no (w : World) (r : Nat) (pv sv : Value) (s : Rs) (h : IsRun w r pv sv s) (hu : ¬ s.used < s.fuel) :
    Calls Tryd.prog 52 #[.pointer (some ⟨r, 0, none⟩)] w fun e w' => e = .returned (.bool false) ∧ IsRun w' r pv sv s.dried ∧ Kept (fun k => k = r) w w' := by
  have ku := h.us
  have kf := h.fu
  have fu := h.fz 2052
  have kd := h.dr
  have t1 : decide (s.fuel ≤ s.used) = true := by simp; omega
  have hd : ∀ q, IsRun (w.drewN q) r pv sv s := fun q => h.kept (S := fun _ => False) ((Kept.refl _ w).drewN q) id
  have HS := Lib.hid (fun q => (hd q).setDry)
  have HK : Hid (∀ q, Kept (fun k => k = r) w ((w.drewN q).setCell ⟨r, 2052, none⟩ (.bool true))) := Lib.hid (fun q => kept_one (S := fun k => k = r) ((Kept.refl _ _).drewN q) r 2052 (.inl rfl) _)
  clear hd h hu
  go_enter Tryd.func52, Tryd.ntmps52
  go_wp2_with (fail)
  go_quiet (fail)
  go_wp2_with (fail)
  exact bodyPost_ret (v := .bool false) (by simp [results, Tryd.results52, go_sem]) rfl ⟨rfl, HS.out _, HK.out _⟩
set_option maxHeartbeats 1000000 in
set_option maxRecDepth 100000 in
theorem end_walk (w : World) (r x : Nat) (pv sv : Value) (s : Rs) (h : IsRun w r pv sv s) (hx : x < 18446744073709551616) :
    Calls Tryd.prog 55 #[.pointer (some ⟨r, 0, none⟩), .int .u64 (x : Int)] w fun e w' => e = .returned (.tuple #[.int .u64 0, .bool false]) ∧ IsRun w' r pv sv (s.ends x) ∧ Kept (fun k => k = r) w w' := by
  have fu := h.fz 2053
  have ke := h.ex
  have HS := Lib.hid (h.setExit hx)
  have HK : Hid (Kept (fun k => k = r) w (w.setCell ⟨r, 2053, none⟩ (.int .u64 x))) := Lib.hid (kept_one (Kept.refl (fun k => k = r) _) r 2053 (.inl rfl) _)
  clear h hx
  go_enter Tryd.func55, Tryd.ntmps55
  go_wp2_with (fail)
  exact bodyPost_ret (v := .tuple #[.int .u64 0, .bool false]) (by simp [results, Tryd.results55, go_sem]) rfl ⟨rfl, HS.out, HK.out⟩
theorem end_wrong (w : World) (r : Nat) (pv sv : Value) (s : Rs) (h : IsRun w r pv sv s) :
    Calls Tryd.prog 55 #[.pointer (some ⟨r, 0, none⟩), .int .u64 18446744073709551614] w fun e w' => e = .returned (.tuple #[.int .u64 0, .bool false]) ∧ IsRun w' r pv sv (s.ends wrong) ∧ Kept (fun k => k = r) w w' :=
  end_walk w r wrong pv sv s h (by decide)
theorem Kept.after {S : Nat → Prop} {a b c : World} (h : Kept (fun _ => False) a b) (k : Kept S b c) : Kept S a c := (h.mono fun _ _ e => e.elim).trans k fun _ _ e => e
end Ir
end Go.Proofs.YtcgpdijpppcbiaaDoor
namespace Go.Proofs.YtcgpdijpppcbiaaDoor
open Go.RowKit
set_option linter.unusedVariables false
/-- A world of the class R. -/
structure Wd (R : World → Prop) where
  val : World
  ok : R val
/-- A contract over worlds of the class, from one that makes memory alone. -/
theorem in_of_below {P : Program} {f : FuncId} {args : Array Value} {v : Value} {R : World → Prop} (s : Wd R) (hR : ∀ y, Below s.val.heap.size s.val y → R y) (h : Calls P f args s.val fun e w' => e = .returned v ∧ Below s.val.heap.size s.val w') :
    Calls P f args s.val fun e w' => e = .returned v ∧ ∃ s' : Wd R, w' = s'.val :=
  h.mono fun e w' ⟨he, hb⟩ => ⟨he, ⟨w', hR w' hb⟩, rfl⟩
theorem in_of_same {P : Program} {f : FuncId} {args : Array Value} {v : Value} {R : World → Prop} (s : Wd R) (h : Calls P f args s.val fun e w' => e = .returned v ∧ s.val = w') :
    Calls P f args s.val fun e w' => e = .returned v ∧ ∃ s' : Wd R, w' = s'.val :=
  h.mono fun e w' ⟨he, hb⟩ => ⟨he, s, hb.symm⟩
end Go.Proofs.YtcgpdijpppcbiaaDoor
namespace Go.Proofs.YtcgpdijpppcbiaaDoor
open Go.RowKit
set_option linter.unusedVariables false
section
variable {P : Program} {md : Region.Mode} {ops : Array Oper} {Q : Exit → Act → World → Prop} {C : World → Prop}
theorem wpAny_more : ∀ (f : Nat) (l : Array Bool) (a : Act) (w : World), wpAny P md ops Q f l a w → wpAny P md ops Q (f + 1) l a w
  | 0, _, _, _, h => ⟨fun _ => h.2, fun i hi => by rw [h.1] at hi; cases hi⟩
  | f + 1, _, _, _, h => ⟨h.1, fun i hi => wpOp_mono (fun a' w' h' => wpAny_more f _ a' w' h') (h.2 i hi)⟩
theorem wpAny_plus {g : Nat} {l : Array Bool} {a : Act} {w : World} (h : wpAny P md ops Q g l a w) : ∀ d, wpAny P md ops Q (d + g) l a w
  | 0 => by rw [Nat.zero_add]; exact h
  | d + 1 => by rw [show d + 1 + g = (d + g) + 1 from by omega]; exact wpAny_more _ _ _ _ (wpAny_plus h d)
/-- Each of the first n waits for earlier ones alone, and has no guard. -/
def backB (ops : Array Oper) (n : Nat) : Bool := (List.range n).all fun i => match ops[i]? with
  | some o => o.guard.isNone && o.after.all fun e => decide (e.on < i)
  | none => false
theorem backB_at {n i : Nat} (h : backB ops n = true) (hi : i < n) : ∃ o, ops[i]? = some o ∧ o.guard = none ∧ ∀ e ∈ o.after, e.on < i := by
  have h1 := List.all_eq_true.1 h i (List.mem_range.2 hi)
  split at h1
  · rename_i o ho
    simp only [Bool.and_eq_true, Option.isNone_iff_eq_none] at h1
    exact ⟨o, ho, h1.1, fun e he => by have := Array.all_eq_true'.1 h1.2 e he; simpa using this⟩
  · cases h1
/-- The first n are listed, the others not. -/
def fullTo (n g : Nat) : Array Bool := (List.replicate n true ++ List.replicate g false).toArray
theorem range_false {l : Array Bool} {j : Nat} (h : l.getD j true = false) : j < l.size := by
  rcases Nat.lt_or_ge j l.size with h' | h'
  · exact h'
  · simp [Array.getElem?_eq_none h'] at h
theorem range_true {l : Array Bool} {j : Nat} (h : l.getD j false = true) : j < l.size := by
  rcases Nat.lt_or_ge j l.size with h' | h'
  · exact h'
  · simp [Array.getElem?_eq_none h'] at h
theorem getD_same {l : Array Bool} {j : Nat} (h : j < l.size) (b c : Bool) : l.getD j b = l.getD j c := by simp [h]
variable {hd : Array Oper} {n g : Nat} {l' l : Array Bool}
theorem head_listed (hh : ∀ i, i < n → hd[i]? = ops[i]?) (hb : backB ops n = true) (hs : l'.size = n) (hr : Region.ready md hd l' = []) : ∀ i, i < n → l'.getD i false = true := by
  intro i
  induction i using Nat.strongRecOn with
  | _ i ih =>
    intro hi
    cases hl : l'.getD i false with
    | true => rfl
    | false =>
      obtain ⟨o, ho, _, hwait⟩ := backB_at hb hi
      have : i ∈ Region.ready md hd l' := mem_ready.2 ⟨by rw [getD_same (by omega) true false]; exact hl, o, by rw [hh i hi]; exact ho, fun e he _ => ih e.on (hwait e he) (by have := hwait e he; omega)⟩
      rw [hr] at this
      cases this
theorem is_full (hsz : l.size = n + g) (hl : ∀ i, i < n → l.getD i false = true) (ht : ∀ t, n ≤ t → t < n + g → l.getD t true = false) : l = fullTo n g := by
  apply Array.ext_getElem?
  intro i
  unfold fullTo
  by_cases h1 : i < n
  · have := hl i h1
    simp [show i < l.size from by omega] at this
    simp [List.getElem?_append, h1, show i < l.size from by omega, this]
  · by_cases h2 : i < n + g
    · have := ht i (by omega) h2
      simp [show i < l.size from by omega] at this
      simp [List.getElem?_append, h1, show i < l.size from by omega, this, show i - n < g from by omega]
    · rw [Array.getElem?_eq_none (by omega)]
      simp [List.getElem?_append, h1, show ¬ i - n < g from by omega]
theorem qOp_hd {i : Nat} (hh : hd[i]? = ops[i]?) {o : Oper} (ho : ops[i]? = some o) (hg : o.guard = none) {K : Act → Prop} {a : Act} (h : qOp P hd C i K a) : qOp P ops C i K a := by
  unfold qOp at *
  rw [hh, ho] at h
  simp only [ho] at h ⊢
  have e1 : ∀ y, Region.wanted o y = true := fun y => by simp [Region.wanted, hg]
  rw [e1, if_pos rfl] at h ⊢
  exact h
theorem any_of_head {Qh : Act → Prop} (hh : ∀ i, i < n → hd[i]? = ops[i]?) (hb : backB ops n = true) (hs : Region.sinkB md ops n = true) (hc : Region.chainB md ops n = true) (hn : n < ops.size) (hsz : ops.size = n + g)
    (hQ : ∀ a w, C w → Qh a → wpAny P md ops Q g (fullTo n g) a w) :
    ∀ (f : Nat) (l' l : Array Bool) (a : Act) (w : World), C w → HeadInv md ops n l → l'.size = n → (∀ j, j < n → l'.getD j false = l.getD j false) → wpAnyQ P md hd C Qh f l' a → wpAny P md ops Q (f + g) l a w := by
  have done : ∀ (l' l : Array Bool) (a : Act) (w : World), C w → HeadInv md ops n l → l'.size = n → (∀ j, j < n → l'.getD j false = l.getD j false) → Region.ready md hd l' = [] → Qh a → wpAny P md ops Q g l a w := by
    intro l' l a w hC inv h1 h2 hr hq
    have hl := head_listed hh hb h1 hr
    rw [is_full (l := l) (g := g) (by rw [inv.size, hsz]) (fun i hi => by rw [← h2 i hi]; exact hl i hi) (fun t h3 h4 => inv.tail t h3 (by omega))]
    exact hQ a w hC hq
  intro f
  induction f with
  | zero => intro l' l a w hC inv h1 h2 h; rw [Nat.zero_add]; exact done l' l a w hC inv h1 h2 h.1 h.2
  | succ f ih =>
    intro l' l a w hC inv h1 h2 h
    by_cases hr : Region.ready md hd l' = []
    · exact wpAny_plus (done l' l a w hC inv h1 h2 hr (h.1 hr)) (f + 1)
    · obtain ⟨i0, hi0⟩ := List.exists_mem_of_ne_nil _ hr
      have up : ∀ i, i ∈ Region.ready md hd l' → i < n ∧ i ∈ Region.ready md ops l := by
        intro i hi
        obtain ⟨k1, o, k2, k3⟩ := mem_ready.1 hi
        have hin : i < n := by have := range_false k1; omega
        refine ⟨hin, mem_ready.2 ⟨?_, o, by rw [← hh i hin]; exact k2, fun e he hbn => ?_⟩⟩
        · rw [getD_same (by rw [inv.size]; omega) true false, ← h2 i hin, getD_same (by omega) false true]; exact k1
        · have := k3 e he hbn
          rw [← h2 e.on (by have := range_true this; omega)]; exact this
      rw [show f + 1 + g = (f + g) + 1 from by omega]
      refine ⟨fun h0 => absurd (h0 ▸ (up i0 hi0).2) (by simp), fun i hi => ?_⟩
      have hin : i < n := by
        rcases Nat.lt_or_ge i n with h3 | h3
        · exact h3
        · exact absurd hi (tail_waits hs hc hn inv _ i0 rfl (up i0 hi0).1 (mem_ready.1 (up i0 hi0).2).1 i h3)
      obtain ⟨o, ho, hg, hwait⟩ := backB_at hb hin
      have hi' : i ∈ Region.ready md hd l' := by
        obtain ⟨k1, o2, k2, k3⟩ := mem_ready.1 hi
        have : o2 = o := Option.some.inj (k2.symm.trans ho)
        subst this
        refine mem_ready.2 ⟨?_, o2, by rw [hh i hin]; exact ho, fun e he hbn => ?_⟩
        · rw [getD_same (by omega) true false, h2 i hin, getD_same (by rw [inv.size]; omega) false true]; exact k1
        · rw [h2 e.on (by have := hwait e he; omega)]; exact k3 e he hbn
      refine wpOp_of_qOp hC (fun a' w' hw' hk => ?_) (qOp_hd (hh i hin) ho hg (h.2 i hi'))
      refine ih (l'.setIfInBounds i true) (l.setIfInBounds i true) a' w' hw' (inv.set hi hin) (by simp [h1]) (fun j hj => ?_) hk
      by_cases hij : i = j
      · subst hij; simp [show i < l'.size from by omega, show i < l.size from by rw [inv.size]; omega]
      · rw [getD_set_ne false hij, getD_set_ne false hij]; exact h2 j hj
/-- What the kernel reckons of such a region. -/
def tailB (md : Region.Mode) (ops : Array Oper) (n : Nat) : Bool :=
  decide (n < ops.size) && backB ops n && Region.sinkB md ops n && Region.chainB md ops n && Region.lexB md (ops.toList.take n).toArray && Region.seqB md ops (ops.size - n) n (fullTo n (ops.size - n))
theorem wp_region_quiet_tail {id : Nat} {a : Act} {w : World} {l : List Oper} (n : Nat) (R : World → Prop) (hm : P.follows .mixedOrders = true) (hB : tailB .any l.toArray n = true) (hR : R w.drew)
    (h : wpQuiet P (l.take n).toArray (fun w' => ∃ s : Wd R, w' = s.val) (fun a' => ∀ w', (∃ s : Wd R, w' = s.val) → wpList P l.toArray Q (l.drop n) a' w') (l.take n) a) : (Code.region id l.toArray true).wp P Q a w := by
  simp only [tailB, Bool.and_eq_true, decide_eq_true_eq] at hB
  obtain ⟨⟨⟨⟨⟨hn, hb⟩, hs⟩, hc⟩, hlex⟩, hseq⟩ := hB
  have hn' : n < l.length := by simpa using hn
  have htl : (l.take n).length = n := by simp; omega
  simp only [Region.lexB, Bool.and_eq_true] at hlex
  have H := wpAnyQ_lex (C := fun w' => ∃ s : Wd R, w' = s.val) (md := .any) hlex.1 (l.take n) 0 (Array.replicate (l.take n).toArray.size false) a (by simp) (by simpa using hlex.2) h
  refine wp_region_any hm ?_
  have inv0 : HeadInv .any l.toArray n (Array.replicate l.toArray.size false) :=
    ⟨by simp, fun j oj _ hl => (by rw [getD_replicate_false] at hl; cases hl), fun t _ ht => getD_in (by simpa using ht) (getD_replicate_false _ _)⟩
  have := any_of_head (P := P) (Q := Q) (C := fun w' => ∃ s : Wd R, w' = s.val) (g := l.toArray.size - n) (fun i hi => by simp [hi]) hb hs hc hn (by omega) (fun a' w' hC hq => by
    have := wpAny_of_seq (md := .any) (Q' := Q) (l.drop n) n (fullTo n (l.toArray.size - n)) a' w' (fun j => by simp [List.getElem?_drop]) (by simpa using hseq) (hq w' hC)
    simpa using this) _ _ _ a w.drew ⟨⟨_, hR⟩, rfl⟩ inv0 (by simp; omega) (fun j hj => by rw [getD_replicate_false, getD_replicate_false]) H
  rw [htl, show n + (l.toArray.size - n) = l.toArray.size by omega] at this
  exact this
/-- A load whose value is known in every world of the class, as a step of the head. -/
theorem wpQuiet_load {Q : Act → Prop} {a : Act} {o : Oper} {rest : List Oper} (ty : TypeId) (x : Operand) (p v : Value) (hg : o.guard = none) (ho : o.op = .load ty x) (hx : a.eval x = p)
    (hl : ∀ w, C w → (Instr.loadAt ty p).run P w = .ok v w) (h : wpQuiet P ops C Q rest (a.put o.dst v)) : wpQuiet P ops C Q (o :: rest) a := by
  have e1 : ∀ y, Region.wanted o y = true := fun y => by simp [Region.wanted, hg]
  unfold wpQuiet
  rw [e1, if_pos rfl]
  refine ⟨v, fun w hw => ?_, h⟩
  unfold Oper.quietAt execOp
  simp only [ho, hx]
  simp [hl w hw, Oper.quietUpon, Result.andThen]
end
end Go.Proofs.YtcgpdijpppcbiaaDoor
