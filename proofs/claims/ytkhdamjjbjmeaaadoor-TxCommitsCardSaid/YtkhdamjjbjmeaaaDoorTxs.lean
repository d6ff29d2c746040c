/-
  Transactions that come in. Own work.
-/
import Derived.Test.YtkhdamjjbjmeaaaDoorV7
import Derived.Test.YtkhdamjjbjmeaaaDoorOpn
import Derived.Test.YtkhdamjjbjmeaaaDoorR2
import Derived.SizedLaws
import Derived.OpenShut
namespace Go.Proofs.YtkhdamjjbjmeaaaDoor
open Go.ChangeShapes Go.WideShapes Go.Deep Go.RowKit
set_option linter.unusedVariables false
namespace Rl
set_option maxRecDepth 100000 in
/-- Transactions that come in. -/
theorem txs_in {H : Type} {enc : TypeId × Value → H} {w : World} {r : Reach} {b0 base : Nat} {spare : Nat → Bool} {held : Bool} {v : Value} {d : DataW H} {p : List MemPlace} (hv : Value.okWide Tryd.prog w r b0 22 v)
    (h : DataW.Trod enc Tryd.prog w base spare held 22 v d p) : ∃ a n c fs, v = .slice a n c ∧ IsT w a n c fs ∧ ∀ f ∈ fs, ∀ i, i < 6 → f i < 18446744073709551616 := by
  obtain ⟨A, len, cap, rfl⟩ := okWide_slice Tryd.underlying22 hv
  have hrec : IsRecs [.u64, .u64, .u64, .u64, .u64, .u64] w A len cap := by
    refine recs_of (ks := [.u64, .u64, .u64, .u64, .u64, .u64]) Tryd.underlying22 Tryd.underlying36 (by kernel_rfl) (by kernel_rfl) rfl (by decide) ?_ h
    intro j k hj
    rcases j with _ | j
    · injection hj with hj; subst hj; exact ⟨_, rfl, by kernel_rfl⟩
    rcases j with _ | j
    · injection hj with hj; subst hj; exact ⟨_, rfl, by kernel_rfl⟩
    rcases j with _ | j
    · injection hj with hj; subst hj; exact ⟨_, rfl, by kernel_rfl⟩
    rcases j with _ | j
    · injection hj with hj; subst hj; exact ⟨_, rfl, by kernel_rfl⟩
    rcases j with _ | j
    · injection hj with hj; subst hj; exact ⟨_, rfl, by kernel_rfl⟩
    rcases j with _ | j
    · injection hj with hj; subst hj; exact ⟨_, rfl, by kernel_rfl⟩
    · simp at hj
  have hnone : A = none → cap = 0 := by
    obtain ⟨fuel, hf⟩ := h
    rcases open_slice Tryd.underlying22 hf with ⟨h0, _⟩ | ⟨a, len', cap', m, n, D, Pl, hcs, _⟩
    · simp [Value.cells] at h0
      exact fun _ => h0.2.2
    · simp [Value.cells] at hcs
      obtain ⟨rfl, _⟩ := hcs
      exact fun e => by cases e
  rcases hrec with ⟨rfl, rfl, rfl⟩ | ⟨hl, hm, hi⟩
  · exact ⟨none, 0, 0, [], rfl, ⟨rfl, Nat.le_refl _, by decide, fun _ => rfl, .inl rfl⟩, fun f hf => by simp at hf⟩
  · have key : ∀ i, ∃ f : Nat → Nat, i < len → ∃ b o, A = some ⟨b, o, none⟩ ∧ ∀ j, j < 6 → w.cell? ⟨b, o + i * 6 + j, none⟩ = some (.int .u64 (f j)) ∧ f j < 18446744073709551616 := by
      intro i
      by_cases hil : i < len
      · obtain ⟨b, o, e, hc⟩ := hi i hil
        have k2 : ∀ j, ∃ z : Nat, j < 6 → w.cell? ⟨b, o + i * 6 + j, none⟩ = some (.int .u64 (z : Int)) ∧ z < 18446744073709551616 := by
          intro j
          by_cases hj : j < 6
          · obtain ⟨z, h1, h2⟩ := hc j .u64 (by match j, hj with | 0, _ => rfl | 1, _ => rfl | 2, _ => rfl | 3, _ => rfl | 4, _ => rfl | 5, _ => rfl)
            have h3 : 0 ≤ z ∧ z ≤ 18446744073709551615 := by
              have h4 : IntKind.u64.min ≤ z ∧ z ≤ IntKind.u64.max := by simpa [Lit.wf] using h2
              have e1 : IntKind.u64.min = 0 := by rfl
              have e2 : IntKind.u64.max = 18446744073709551615 := by rfl
              rw [e1, e2] at h4; exact h4
            exact ⟨z.toNat, fun _ => ⟨by rw [Int.toNat_of_nonneg h3.1]; exact h1, by omega⟩⟩
          · exact ⟨0, fun h => absurd h hj⟩
        obtain ⟨f, hf⟩ := Classical.axiomOfChoice k2
        exact ⟨f, fun _ => ⟨b, o, e, hf⟩⟩
      · exact ⟨fun _ => 0, fun h => absurd h hil⟩
    obtain ⟨F, hF⟩ := Classical.axiomOfChoice key
    refine ⟨A, len, cap, (List.range len).map F, rfl, ⟨by simp, hl, hm, hnone, ?_⟩, fun f hf i hi6 => ?_⟩
    · rcases Nat.eq_zero_or_pos len with e0 | e0
      · exact .inl e0
      · right
        obtain ⟨b, o, e, _⟩ := hF 0 e0
        refine ⟨b, o, e, fun j f hj i hi6 => ?_⟩
        have hjl : j < len := by have := (List.getElem?_eq_some_iff.1 hj).1; simpa using this
        obtain ⟨b', o', e', h1⟩ := hF j hjl
        rw [e] at e'
        injection e' with e'
        injection e' with e2 e3
        subst e2 e3
        have hp : F j = f := by simpa [hjl] using hj
        rw [← hp]
        exact (h1 i hi6).1
    · obtain ⟨j, hj, rfl⟩ := List.mem_map.1 hf
      obtain ⟨_, _, _, h1⟩ := hF j (List.mem_range.1 hj)
      exact (h1 i hi6).2
theorem row_sizedT {H : Type} {enc : TypeId × Value → H} {w : World} {base : Nat} {held : Bool} {a : Option Addr} {len cap : Nat} {d : DataW H} {p : List MemPlace} {ts : List TypeId} {ds : List (DataW H)} {j : Nat}
    (h : DataW.Trod enc Tryd.prog w base (fun _ => true) held 22 (.slice a len cap) d p)
    (hsz : (DataW.weightsEach Tryd.prog ts ds).all (· ≤ reachBytes) = true) (htj : ts[j]? = some 22) (hdj : ds[j]? = some d) : cap * 48 ≤ 140737488351232 := by
  have hb : Tryd.prog.bytesOf 36 = 48 := by kernel_rfl
  obtain ⟨fuel, hf⟩ := h
  rcases open_slice Tryd.underlying22 hf with ⟨h0, _⟩ | ⟨a1, len1, cap1, m, n, D, Pl, hcs, hd, hl, hm, hmm, hDl, hi⟩
  · have h1 : a = none ∧ len = 0 ∧ cap = 0 := by simpa [Value.cells] using h0
    omega
  · have hva : a = some a1 ∧ len = len1 ∧ cap = cap1 := by simpa [Value.cells] using hcs
    have hd' := congrArg Prod.fst hDl
    simp only at hd'
    have := sized_slice hsz htj (by rw [hdj, hd']) Tryd.underlying22
    rw [hb] at this
    have hr : reachBytes = 140737488351232 := by decide
    have hm2 : m = cap1 := by simpa using hmm
    simp only [List.length_map, List.length_range] at this
    rw [hr] at this
    have e : len1 + (m - len1) = cap := by omega
    rw [e] at this
    omega
theorem flat_back {gs : List (Nat → Nat)} {j : Nat} {u : Value} (h : (gs.flatMap t6)[j]? = some u) : ∃ f i, gs[j / 6]? = some f ∧ i < 6 ∧ j = j / 6 * 6 + i ∧ u = .int .u64 (f i) := by
  have hlen : ∀ gs : List (Nat → Nat), (gs.flatMap t6).length = gs.length * 6 := by
    intro gs
    induction gs with
    | nil => rfl
    | cons g r ih => rw [List.flatMap_cons, List.length_append, ih, List.length_cons]; show 6 + _ = _; omega
  have hj : j < gs.length * 6 := by rw [← hlen]; exact (List.getElem?_eq_some_iff.1 h).1
  have e : gs[j / 6]? = some (gs[j / 6]'(by omega)) := List.getElem?_eq_getElem (by omega)
  refine ⟨_, j % 6, e, by omega, by omega, ?_⟩
  have h2 := flat_at gs (j / 6) _ (j % 6) e (by omega)
  rw [show j / 6 * 6 + j % 6 = j by omega, h] at h2
  injection h2
/-- A copy of a list of transactions. -/
theorem wpList_copyT {w0 : World} {ops : Array Oper} {rest : List Oper} {o : Oper} {a : Act} {Q : Exit → Act → World → Prop} (hgd : o.guard = none) (s x : Operand)
    (ho : o.op = .call { callee := .builtin .append, args := #[s, x], argTypes := #[22, 22] }) (hs : a.eval s = .slice (some ⟨w0.heap.size, 0, none⟩) 0 0)
    (A : Option Addr) (n c : Nat) (gs : List (Nat → Nat)) (hx : a.eval x = .slice A n c) (hT : IsT w0 A n c gs) (hlen : n * 48 ≤ 140737488351232)
    (h : ∀ a1 c1 w', IsT w' a1 n c1 gs → Below w0.heap.size w0 w' → wpList Tryd.prog ops Q rest (a.put o.dst (.slice a1 n c1)) w') : wpList Tryd.prog ops Q (o :: rest) a (w0.alloc (.cells #[] 36)) := by
  obtain ⟨i, hi⟩ := infoT
  have hT2 := hT.keep (keep_below (ba w0 (.cells #[] 36)))
  refine wpList_append_any hgd s x 22 ho w0.heap.size 36 i _ 6 48 undT hi rfl (by decide) _ 0 [] hs (rowT_none w0 _ (Nat.le_refl _)) A n c (gs.flatMap t6) hx ?_ (by intro u hu; obtain ⟨f, _, hu⟩ := List.mem_flatMap.1 hu; unfold t6 at hu; simp at hu; rcases hu with rfl | rfl | rfl | rfl | rfl | rfl <;> rfl) (by have := hT.2.1; have := hT.2.2.1; omega) (by omega) (by simp) ?_
  · rcases hT2 with ⟨h1, h2, h3, h4, h5⟩
    cases A with
    | none =>
      have := h4 rfl
      have hn : n = 0 := by omega
      refine .inl ⟨rfl, hn, this, ?_⟩
      have : gs = [] := List.length_eq_zero_iff.1 (by omega)
      rw [this]; rfl
    | some ad =>
      refine .inr ⟨ad, rfl, ?_, fun j u hu => ?_⟩
      · rw [h1]
        clear h1 h2 h3 h4 h5 hT hx h hlen
        induction gs with
        | nil => rfl
        | cons g r ih => rw [List.flatMap_cons, List.length_append, ih, List.length_cons]; show 6 + _ = _; omega
      · obtain ⟨f, k, e1, e2, e3, rfl⟩ := flat_back hu
        rcases h5 with h5 | ⟨b, o, e, h6⟩
        · have := (List.getElem?_eq_some_iff.1 e1).1
          omega
        · injection e with e; subst e
          rw [add_at]
          have := h6 _ _ e1 k e2
          rw [show o + j = o + j / 6 * 6 + k by omega]
          exact this
  · intro V' w' g1 g2 g3
    have g1' : RowT w' w0.heap.size V' gs := by
      unfold RowT
      have : 0 + n = gs.length := by have := hT.1; omega
      rw [← this]; simpa using g1
    obtain ⟨a1, c1, e, hI⟩ := g1'.isT
    rw [← hT.1] at e hI
    rw [e]
    exact h a1 c1 w' hI ((ba w0 _).grown g2 (by simp) (fun k hk => by simp [Value.ownBlock] at hk; omega))
end Rl
end Go.Proofs.YtkhdamjjbjmeaaaDoor
