/-
  TxBack: two rows that grow side by side; what comes in. Own work.
-/
import Derived.Test.YtkhdamjjbjmeaaaV9
import Derived.Test.YtkhdamjjbjmeaaaOpn
import Derived.Deep.Slices
namespace Go.Proofs.Ytkhdamjjbjmeaaa
open Go.ChangeShapes Go.WideShapes Go.Deep Go.RowKit
set_option linter.unusedVariables false
set_option linter.unusedSimpArgs false
namespace Rl
theorem gds_app : ∀ (ls : List (List Bt)) (x : List Bt), gds (txts (ls ++ [x])) = gds (txts ls) ++ (isTx false x).toList
  | [], x => by show (isTx false x).toList ++ [] = [] ++ _; simp
  | v :: r, x => by show (isTx false v).toList ++ gds (txts (r ++ [x])) = ((isTx false v).toList ++ gds (txts r)) ++ _; rw [gds_app r x, List.append_assoc]
/-- What the lists hold. -/
structure PLF (ls : List (List Bt)) (fs : List (Nat → Nat)) : Prop where
  eq : (gds (txts ls)).map t6 = fs.map t6
  small : ∀ x ∈ ls, x.length ≤ 120
  few : ls.length ≤ 8
theorem PLF.nil : PLF [] [] := ⟨rfl, fun x h => by simp at h, Nat.zero_le _⟩
theorem PLF.more {ls : List (List Bt)} {fs fs' : List (Nat → Nat)} {x : List Bt} (h : PLF ls fs) (hx : x.length ≤ 120) (h8 : ls.length < 8) (he : ((isTx false x).toList).map t6 = fs'.map t6) : PLF (ls ++ [x]) (fs ++ fs') := by
  refine ⟨by rw [gds_app, List.map_append, List.map_append, h.eq, he], fun y hy => ?_, by simp; omega⟩
  rcases List.mem_append.1 hy with hy | hy
  · exact h.small y hy
  · simp at hy; subst hy; exact hx
theorem PLF.tx {ls : List (List Bt)} {fs : List (Nat → Nat)} {f : Nat → Nat} (h : PLF ls fs) (hf : TxG f) (h8 : ls.length < 8) : PLF (ls ++ [txB f]) (fs ++ [f]) := by
  refine h.more (txB_le f) h8 ?_
  obtain ⟨g, hg, hgf⟩ := txd_txB hf.2 hf.1
  have hi : isTx false (txB f) = some g := by unfold isTx; rw [hg]; rfl
  rw [hi]
  show [t6 g] = [t6 f]
  rw [t6_cong hgf]
theorem PLF.ok {ls : List (List Bt)} {fs : List (Nat → Nat)} {x : List Bt} {g : Nat → Nat} (h : PLF ls fs) (hg : txd x = .ok g) (hx : x.length < 100) (h8 : ls.length < 8) : PLF (ls ++ [x]) (fs ++ [g]) := by
  refine h.more (by omega) h8 ?_
  have hi : isTx false x = some g := by unfold isTx; rw [hg]; rfl
  rw [hi]; rfl
theorem PLF.no {ls : List (List Bt)} {fs : List (Nat → Nat)} {x : List Bt} (h : PLF ls fs) (hg : ∀ g, txd x ≠ .ok g) (hx : x.length < 100) (h8 : ls.length < 8) : PLF (ls ++ [x]) fs := by
  have hi : isTx false x = none := by
    unfold isTx
    cases hT : txd x with
    | ok f => exact absurd hT (hg f)
    | flt p k => rfl
    | num k => rfl
  have := h.more (fs' := []) (x := x) (by omega) h8 (by rw [hi]; rfl)
  simpa using this
theorem PLF.lens {ls : List (List Bt)} {fs : List (Nat → Nat)} (h : PLF ls fs) : (gds (txts ls)).length = fs.length ∧ fs.length + (bds 0 (txts ls)).length = ls.length := by
  have h1 : (gds (txts ls)).length = fs.length := by have := congrArg List.length h.eq; simpa using this
  refine ⟨h1, ?_⟩
  have := both_len (txts ls) 0
  rw [txts_len] at this
  omega
/-- Two rows, of texts and of transactions. -/
structure BkR (w : World) (V1 V2 : Value) (ls : List (List Bt)) (fs : List (Nat → Nat)) (y : World) : Prop where
  below : Below w.heap.size w y
  s : RowS y w.heap.size (fun b => V2.ownBlock = some b) V1 ls
  t : RowT y w.heap.size V2 fs
  ap : ∀ b, V1.ownBlock = some b → V2.ownBlock ≠ some b
section
variable {w : World} {V1 V2 V' : Value} {ls : List (List Bt)} {fs : List (Nat → Nat)} {y y' : World}
theorem BkR.new (w : World) : BkR w (.slice none 0 0) (.slice none 0 0) [] [] w := ⟨Below.refl _ _, RowS.nil _ _ _, rowT_nil _ _, fun b h => by cases h⟩
theorem BkR.next (h : BkR w V1 V2 ls fs y) (hb : Below y.heap.size y y') : BkR w V1 V2 ls fs y' := ⟨bl h.below hb, h.s.next hb, h.t.next hb, h.ap⟩
theorem BkR.putS {x : List Bt} (h : BkR w V1 V2 ls fs y) (hg : y.grownBy y' V1.ownBlock) (hat : ∀ k, V'.ownBlock = some k → V1.ownBlock = some k ∨ k = y.heap.size) (hr : RowS y' w.heap.size (fun b => V2.ownBlock = some b) V' (ls ++ [x])) : BkR w V' V2 (ls ++ [x]) fs y' :=
  ⟨h.below.grown hg h.below.size (fun k hk => (h.s.base hk).1), hr, h.t.grown hg (fun k hk e => h.ap k e hk), fun b hb e => by
    rcases hat b hb with h4 | h4
    · exact h.ap b h4 e
    · have := (h.t.base e).2; omega⟩
theorem BkR.putT {f : Nat → Nat} (h : BkR w V1 V2 ls fs y) (hg : y.grownBy y' V2.ownBlock) (hat : ∀ k, V'.ownBlock = some k → V2.ownBlock = some k ∨ k = y.heap.size) (hr : RowT y' w.heap.size V' (fs ++ [f])) : BkR w V1 V' ls (fs ++ [f]) y' :=
  ⟨h.below.grown hg h.below.size (fun k hk => (h.t.base hk).1), h.s.grownO hg (fun k hk => h.ap k hk) (fun k hk => hk) (fun k hk => (hat k hk).imp id (fun e => by omega)), hr, fun b hb e => by
    rcases hat b e with h4 | h4
    · exact h.ap b hb h4
    · have := (h.s.base hb).2; omega⟩
/-- A text that lies away from both rows. -/
def Txt (V1 V2 : Value) (y : World) (a : Option Addr) (n c : Nat) (x : List Bt) : Prop := IsB (see (Away V1 (fun b => V2.ownBlock = some b)) y) a n c x
theorem Txt.next {a : Option Addr} {n c : Nat} {x : List Bt} (h : Txt V1 V2 y a n c x) (hb : Below y.heap.size y y') : Txt V1 V2 y' a n c x := IsB.keep h (see_below hb)
theorem BkR.new_txt (h : BkR w V1 V2 ls fs y) {a : Option Addr} {n c : Nat} {x : List Bt} (hx : IsB (see (fun b => y.heap.size ≤ b) y') a n c x) : Txt V1 V2 y' a n c x :=
  hx.keep (keep_mono fun b _ hb => ⟨fun e => by have := (h.s.base e).2; omega, fun e => by have := (h.t.base e).2; omega⟩)
theorem BkR.old_txt (h : BkR w V1 V2 ls fs y) {a : Option Addr} {n c : Nat} {x : List Bt} (hx : IsB w a n c x) : Txt V1 V2 y a n c x :=
  hx.keep (fun p v e => by
    obtain ⟨b, o, s⟩ := p
    have hs : s = none := by simpa using World.cell?_spot e
    subst hs
    have hl := inHeap e
    rw [see_in (show Away V1 (fun b => V2.ownBlock = some b) b from ⟨fun e => by have := (h.s.base e).1; omega, fun e => by have := (h.t.base e).1; omega⟩)]
    exact keep1 h.below e)
theorem Txt.putT {U : Value} {a : Option Addr} {n c : Nat} {x : List Bt} (h : Txt V1 V2 y a n c x) (hg : y.grownBy y' V2.ownBlock) (hat : ∀ k, V'.ownBlock = some k → V2.ownBlock = some k ∨ k = y.heap.size) : Txt V1 V' y' a n c x :=
  IsB.keep h (keep_see fun b o v q1 q2 => by
    have hb := inHeap q2
    refine ⟨⟨q1.1, fun e => ?_⟩, (grown_cell hg hb q1.2).trans q2⟩
    rcases hat b e with h | h
    · exact q1.2 h
    · omega)
end
theorem run_appS (w : World) (ty : TypeId) (B : Nat) (O : Nat → Prop) (V : Value) (ls : List (List Bt)) (hr : RowS w B O V ls) (hB : B ≤ w.heap.size)
    (ad : Addr) (c : Nat) (t : List Bt) (a1 : Option Addr) (n1 c1 : Nat) (hc : w.cell? (ad.add 0) = some (.slice a1 n1 c1)) (hv : IsB (see (Away V O) w) a1 n1 c1 t) (hlen : ls.length + 1 ≤ 1073741824) :
    ∃ V' w', (Builtin.append_ #[39, 39] ty #[V, .slice (some ad) 1 c]).run Try.prog w = .ok V' w' ∧ RowS w' B O V' (ls ++ [t]) ∧ w.grownBy w' V.ownBlock ∧ (∀ k, V'.ownBlock = some k → V.ownBlock = some k ∨ k = w.heap.size) := by
  obtain ⟨i, hi⟩ := infoS
  obtain ⟨vs, h1, h2, h3⟩ := hr
  obtain ⟨V', w', hr, g1, g2, _, g3⟩ := run_append_at (P := Try.prog) w B 39 ty 25 i _ 1 24 undS hi.1 hi.2.1 hi.2.2.1 hi.2.2.2 rfl (by decide) V ls.length vs h1 ad 1 c [.slice a1 n1 c1] rfl (by intro j u hu; match j with | 0 => simp at hu; subst hu; exact hc | j + 1 => simp at hu) (by intro u hu; simp at hu; subst hu; rfl) (by unfold maxLen; omega) (by omega) hB
  refine ⟨V', w', hr, ?_, g2, g3⟩
  have hk : Keep (see (Away V O) w) (see (Away V' O) w') := keep_see fun b o v q1 q2 => by
    have hb := inHeap q2
    refine ⟨⟨fun e => ?_, q1.2⟩, (grown_cell g2 hb q1.1).trans q2⟩
    rcases g3 b e with h | h
    · exact q1.1 h
    · omega
  refine ⟨vs ++ [.slice a1 n1 c1], by rw [List.length_append]; exact g1, by simp [h2], fun i x hx => ?_⟩
  by_cases hi : i < ls.length
  · rw [List.getElem?_append_left hi] at hx
    obtain ⟨a, n, c, h4, h5⟩ := h3 i x hx
    exact ⟨a, n, c, by rw [List.getElem?_append_left (by omega)]; exact h4, h5.keep hk⟩
  · rw [List.getElem?_append_right (by omega)] at hx
    have e0 : i - ls.length = 0 := by
      by_cases h0 : i - ls.length = 0
      · exact h0
      · rw [List.getElem?_eq_none (by simp; omega)] at hx; cases hx
    rw [e0] at hx
    simp at hx
    subst hx
    exact ⟨a1, n1, c1, by rw [List.getElem?_append_right (by omega), h2, e0]; rfl, hv.keep hk⟩
/-- append of a text, as one operation. -/
theorem wp_appS {w : World} {o : Oper} {a : Act} {K : Act → World → Prop} {Q : Exit → Act → World → Prop} (d : Option Tmp) (s x : Operand) (hd : o.dst = d)
    (ho : o.op = .call { callee := .builtin .append, args := #[s, x], argTypes := #[39, 39] }) (B : Nat) (O : Nat → Prop) (V : Value) (ls : List (List Bt)) (hs : a.eval s = V) (hr : RowS w B O V ls) (hB : B ≤ w.heap.size)
    (ad : Addr) (c : Nat) (t : List Bt) (a1 : Option Addr) (n1 c1 : Nat) (hx : a.eval x = .slice (some ad) 1 c) (hc : w.cell? (ad.add 0) = some (.slice a1 n1 c1)) (hv : IsB (see (Away V O) w) a1 n1 c1 t) (hlen : ls.length + 1 ≤ 1073741824)
    (h : ∀ V' w', RowS w' B O V' (ls ++ [t]) → w.grownBy w' V.ownBlock → (∀ k, V'.ownBlock = some k → V.ownBlock = some k ∨ k = w.heap.size) → K (a.put d V') w') : Oper.wp Try.prog o a w K Q := by
  obtain ⟨v', w', hr, g1, g2, g3⟩ := run_appS w o.type B O V ls hr hB ad c t a1 n1 c1 hc hv hlen
  subst hd
  have hh := h _ _ g1 g2 g3
  unfold Oper.wp execOp
  simp only [ho, resolve, invoke, builtin, Sem.run_bind, Sem.run_pure, Result.andThen_ok, List.map_toArray, List.map_cons, List.map_nil, hs, hx, hr]
  exact hh
/-- append of a transaction, as one operation. -/
theorem wp_appT {w : World} {o : Oper} {a : Act} {K : Act → World → Prop} {Q : Exit → Act → World → Prop} (d : Option Tmp) (s x : Operand) (hd : o.dst = d)
    (ho : o.op = .call { callee := .builtin .append, args := #[s, x], argTypes := #[35, 35] }) (B : Nat) (V : Value) (fs : List (Nat → Nat)) (hs : a.eval s = V) (hr : RowT w B V fs) (hB : B ≤ w.heap.size)
    (ad : Addr) (c : Nat) (f : Nat → Nat) (hx : a.eval x = .slice (some ad) 1 c) (hc : ∀ j u, (t6 f)[j]? = some u → w.cell? (ad.add j) = some u) (hlen : fs.length + 1 ≤ 1073741824)
    (h : ∀ V' w', RowT w' B V' (fs ++ [f]) → w.grownBy w' V.ownBlock → (∀ k, V'.ownBlock = some k → V.ownBlock = some k ∨ k = w.heap.size) → K (a.put d V') w') : Oper.wp Try.prog o a w K Q := by
  obtain ⟨i, hi⟩ := infoT
  obtain ⟨v', w', hr, g1, g2, _, g3⟩ := run_append_at (P := Try.prog) w B 35 o.type 24 i _ 6 48 undT hi.1 hi.2.1 hi.2.2.1 hi.2.2.2 rfl (by decide) V fs.length _ hr ad 1 c (t6 f) rfl hc (by intro u hu; unfold t6 at hu; simp at hu; rcases hu with rfl | rfl | rfl | rfl | rfl | rfl <;> rfl) (by unfold maxLen; omega) (by omega) hB
  have hrt : RowT w' B v' (fs ++ [f]) := by unfold RowT; rw [List.length_append, List.flatMap_append]; simpa using g1
  subst hd
  have hh := h _ _ hrt g2 g3
  unfold Oper.wp execOp
  simp only [ho, resolve, invoke, builtin, Sem.run_bind, Sem.run_pure, Result.andThen_ok, List.map_toArray, List.map_cons, List.map_nil, hs, hx, hr]
  exact hh
set_option maxRecDepth 100000 in
/-- Texts that come in. -/
theorem texts_in {H : Type} {enc : TypeId × Value → H} {w : World} {r : Reach} {b0 base : Nat} {spare : Nat → Bool} {held : Bool} {v : Value} {d : DataW H} {p : List MemPlace} (hv : Value.okWide Try.prog w r b0 39 v)
    (h : DataW.Trod enc Try.prog w base spare held 39 v d p) : ∃ a n c ls, v = .slice a n c ∧ IsBB w a n c ls := by
  obtain ⟨A, len, cap, rfl⟩ := okWide_slice Try.underlying39 hv
  obtain ⟨fuel, hf⟩ := h
  rcases open_slice Try.underlying39 hf with ⟨h0, _⟩ | ⟨a, len', cap', m, n, D, Pl, hcs, _, hl, hm, hmm, hx, hi⟩
  · simp [Value.cells] at h0
    obtain ⟨rfl, rfl, rfl⟩ := h0
    exact ⟨none, 0, 0, [], rfl, rfl, Nat.le_refl _, by decide, fun _ => rfl, .inl rfl⟩
  · simp [Value.cells] at hcs
    obtain ⟨rfl, rfl, rfl⟩ := hcs
    have hCe : Try.prog.cellsOf 25 = 1 := by kernel_rfl
    have key : ∀ i, ∃ x : List Bt, i < len → ∃ a' n' c', w.cell? (a.add i) = some (.slice a' n' c') ∧ IsB w a' n' c' x := by
      intro i
      by_cases hil : i < len
      · obtain ⟨cs, hc, htr⟩ := hi i (by rw [hmm]; split <;> omega)
        rw [hCe, Nat.mul_one] at hc
        obtain ⟨_, hlen, hat⟩ := World.cells?_some hc
        obtain ⟨a', n', c', bs, e, h1, h2⟩ := bytes_fit Try.underlying25 Try.underlying5 (by kernel_rfl) (by kernel_rfl) htr
        subst e
        refine ⟨bs, fun _ => ⟨a', n', c', ?_, h1⟩⟩
        have h9 := hat 0 (by decide)
        rw [show (a.add i).add 0 = a.add i from by cases (a.add i); rfl] at h9
        simpa using h9
      · exact ⟨[], fun h => absurd h hil⟩
    obtain ⟨f, hf'⟩ := Classical.axiomOfChoice key
    refine ⟨some a, len, cap, (List.range len).map f, rfl, by simp, hl, hm, fun e => (by cases e), ?_⟩
    rcases Nat.eq_zero_or_pos len with e0 | e0
    · exact .inl e0
    · right
      obtain ⟨b, o, s⟩ := a
      have hs : s = none := by
        obtain ⟨a', n', c', hc0, _⟩ := hf' 0 e0
        have e1 : ((⟨b, o, s⟩ : Addr).add 0) = ⟨b, o, s⟩ := by cases s <;> rfl
        rw [e1] at hc0
        simpa using World.cell?_spot hc0
      subst hs
      refine ⟨b, o, rfl, fun j x hj => ?_⟩
      have hjl : j < len := by have := (List.getElem?_eq_some_iff.1 hj).1; simpa using this
      obtain ⟨a', n', c', h1, h2⟩ := hf' j hjl
      rw [add_at] at h1
      have hp : f j = x := by simpa [hjl] using hj
      rw [← hp]
      exact ⟨a', n', c', h1, h2⟩
set_option maxRecDepth 100000 in
/-- Transactions that come in. -/
theorem txs_in {H : Type} {enc : TypeId × Value → H} {w : World} {r : Reach} {b0 base : Nat} {spare : Nat → Bool} {held : Bool} {v : Value} {d : DataW H} {p : List MemPlace} (hv : Value.okWide Try.prog w r b0 35 v)
    (h : DataW.Trod enc Try.prog w base spare held 35 v d p) : ∃ a n c fs, v = .slice a n c ∧ IsT w a n c fs ∧ ∀ f ∈ fs, ∀ i, i < 6 → f i < 18446744073709551616 := by
  obtain ⟨A, len, cap, rfl⟩ := okWide_slice Try.underlying35 hv
  have hrec : IsRecs [.u64, .u64, .u64, .u64, .u64, .u64] w A len cap := by
    refine recs_of (ks := [.u64, .u64, .u64, .u64, .u64, .u64]) Try.underlying35 Try.underlying24 (by kernel_rfl) (by kernel_rfl) rfl (by decide) ?_ h
    intro j k hj
    rcases j with _ | j
    · injection hj with hj; subst hj; exact ⟨_, rfl, by kernel_rfl⟩
    rcases j with _ | j
    · injection hj with hj; subst hj; exact ⟨_, rfl, by kernel_rfl⟩
    rcases j with _ | j
    · injection hj with hj; subst hj; exact ⟨_, rfl, by kernel_rfl⟩
    rcases j with _ | j
    · injection hj with hj; subst hj; exact ⟨_, rfl, by kernel_rfl⟩
    rcases j with _ | j
    · injection hj with hj; subst hj; exact ⟨_, rfl, by kernel_rfl⟩
    rcases j with _ | j
    · injection hj with hj; subst hj; exact ⟨_, rfl, by kernel_rfl⟩
    · simp at hj
  have hnone : A = none → cap = 0 := by
    obtain ⟨fuel, hf⟩ := h
    rcases open_slice Try.underlying35 hf with ⟨h0, _⟩ | ⟨a, len', cap', m, n, D, Pl, hcs, _⟩
    · simp [Value.cells] at h0
      exact fun _ => h0.2.2
    · simp [Value.cells] at hcs
      obtain ⟨rfl, _⟩ := hcs
      exact fun e => by cases e
  rcases hrec with ⟨rfl, rfl, rfl⟩ | ⟨hl, hm, hi⟩
  · exact ⟨none, 0, 0, [], rfl, ⟨rfl, Nat.le_refl _, by decide, fun _ => rfl, .inl rfl⟩, fun f hf => by simp at hf⟩
  · have key : ∀ i, ∃ f : Nat → Nat, i < len → ∃ b o, A = some ⟨b, o, none⟩ ∧ ∀ j, j < 6 → w.cell? ⟨b, o + i * 6 + j, none⟩ = some (.int .u64 (f j)) ∧ f j < 18446744073709551616 := by
      intro i
      by_cases hil : i < len
      · obtain ⟨b, o, e, hc⟩ := hi i hil
        have k2 : ∀ j, ∃ z : Nat, j < 6 → w.cell? ⟨b, o + i * 6 + j, none⟩ = some (.int .u64 (z : Int)) ∧ z < 18446744073709551616 := by
          intro j
          by_cases hj : j < 6
          · obtain ⟨z, h1, h2⟩ := hc j .u64 (by match j, hj with | 0, _ => rfl | 1, _ => rfl | 2, _ => rfl | 3, _ => rfl | 4, _ => rfl | 5, _ => rfl)
            have h3 : 0 ≤ z ∧ z ≤ 18446744073709551615 := by
              have h4 : IntKind.u64.min ≤ z ∧ z ≤ IntKind.u64.max := by simpa [Lit.wf] using h2
              have e1 : IntKind.u64.min = 0 := by rfl
              have e2 : IntKind.u64.max = 18446744073709551615 := by rfl
              rw [e1, e2] at h4; exact h4
            exact ⟨z.toNat, fun _ => ⟨by rw [Int.toNat_of_nonneg h3.1]; exact h1, by omega⟩⟩
          · exact ⟨0, fun h => absurd h hj⟩
        obtain ⟨f, hf⟩ := Classical.axiomOfChoice k2
        exact ⟨f, fun _ => ⟨b, o, e, hf⟩⟩
      · exact ⟨fun _ => 0, fun h => absurd h hil⟩
    obtain ⟨F, hF⟩ := Classical.axiomOfChoice key
    refine ⟨A, len, cap, (List.range len).map F, rfl, ⟨by simp, hl, hm, hnone, ?_⟩, fun f hf i hi6 => ?_⟩
    · rcases Nat.eq_zero_or_pos len with e0 | e0
      · exact .inl e0
      · right
        obtain ⟨b, o, e, _⟩ := hF 0 e0
        refine ⟨b, o, e, fun j f hj i hi6 => ?_⟩
        have hjl : j < len := by have := (List.getElem?_eq_some_iff.1 hj).1; simpa using this
        obtain ⟨b', o', e', h1⟩ := hF j hjl
        rw [e] at e'
        injection e' with e'
        injection e' with e2 e3
        subst e2 e3
        have hp : F j = f := by simpa [hjl] using hj
        rw [← hp]
        exact (h1 i hi6).1
    · obtain ⟨j, hj, rfl⟩ := List.mem_map.1 hf
      obtain ⟨_, _, _, h1⟩ := hF j (List.mem_range.1 hj)
      exact (h1 i hi6).2
end Rl
end Go.Proofs.Ytkhdamjjbjmeaaa
