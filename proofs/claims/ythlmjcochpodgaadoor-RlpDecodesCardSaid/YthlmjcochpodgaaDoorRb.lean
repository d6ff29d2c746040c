/-
  rlp: rows of bytes that grow; digits. Own work, over the guide's laws of append.
-/
import Derived.Test.YthlmjcochpodgaaDoorRa
import Derived.Test.YthlmjcochpodgaaDoorApp
import Derived.Laws.AppendOwnNone
import Derived.Outline
import Derived.Deep.Cut
import Derived.IntWalk
namespace Go.Proofs.YthlmjcochpodgaaDoor
open Go.ChangeShapes Go.WideShapes Go.Deep Go.RowKit
set_option linter.unusedVariables false
set_option linter.unusedSimpArgs false
namespace Rl
theorem one1 : ∃ i, Tryd.prog.info? 5 = some i ∧ i.zero = some (.int .u8 0) ∧ i.size = 1 ∧ i.bytes = 1 := by
  refine ⟨(Tryd.prog.info? 5).get (by kernel_rfl), by kernel_rfl, by kernel_rfl, by kernel_rfl, by kernel_rfl⟩
theorem und22 : Tryd.prog.underlying 22 = some (.slice 5) := by kernel_rfl
/-- A row of bytes of the call's own. -/
def Own (w : World) (B : Nat) (V : Value) (bs : List Bt) : Prop := w.ownsRow B 5 1 V bs.length (bs.map bvb)
theorem Own.nil (w : World) (B : Nat) : Own w B (.slice none 0 0) [] := World.ownsRow_nil _ _ _ _
theorem Own.base {w : World} {B : Nat} {V : Value} {bs : List Bt} (h : Own w B V bs) {k : Nat} (hk : V.ownBlock = some k) : B ≤ k ∧ k < w.heap.size := h.lt k hk
theorem Own.below {w w' : World} {B : Nat} {V : Value} {bs : List Bt} (h : Own w B V bs) (hb : Below w.heap.size w w') : Own w' B V bs := by
  obtain ⟨h1, h2⟩ := h
  refine ⟨h1, h2.imp id ?_⟩
  rintro ⟨g, cap, cur, e1, e2, e3, e4⟩
  refine ⟨g, cap, cur, e1, e2, ?_, e4⟩
  rw [hb.block g (Array.getElem?_eq_some_iff.1 e3).1]; exact e3
theorem Own.isB {w : World} {B : Nat} {V : Value} {bs : List Bt} (h : Own w B V bs) : ∃ a c, V = .slice a bs.length c ∧ IsB w a bs.length c bs := by
  have hc := @World.ownsRow.cells w B 5 1 V bs.length (bs.map bvb) h
  rcases h.2 with ⟨h1, h2⟩ | ⟨g, cap, cur, e1, e2, e3, e4, e5, _, _⟩
  · refine ⟨none, 0, by rw [h1, h2], rfl, by omega, by decide, fun _ => rfl, .inl h2⟩
  · refine ⟨some ⟨g, 0, none⟩, cap, e1, rfl, e4, e5, fun e => (by cases e), .inr ⟨g, 0, rfl, fun i x hx => ?_⟩⟩
    have h5 := hc (g := g) (by rw [e1]; rfl) i (bvb x) (by rw [List.getElem?_map, hx]; rfl)
    rw [add_at] at h5
    exact h5
theorem IsB.src {w : World} {a : Option Addr} {n c : Nat} {bs : List Bt} (h : IsB w a n c bs) :
    (a = none ∧ n = 0 ∧ c = 0 ∧ bs.map bvb = []) ∨ ∃ ad, a = some ad ∧ (bs.map bvb).length = n * 1 ∧ ∀ j u, (bs.map bvb)[j]? = some u → w.cell? (ad.add j) = some u := by
  obtain ⟨h1, h2, h3, h4, h5⟩ := h
  cases a with
  | none =>
    have hc := h4 rfl
    have hn : n = 0 := by omega
    refine .inl ⟨rfl, hn, hc, ?_⟩
    rw [List.eq_nil_of_length_eq_zero (by omega : bs.length = 0)]; rfl
  | some ad =>
    refine .inr ⟨ad, rfl, by simp; omega, fun j u hu => ?_⟩
    rw [List.getElem?_map] at hu
    cases hx : bs[j]? with
    | none => rw [hx] at hu; cases hu
    | some x =>
      rw [hx] at hu
      injection hu with hu
      subst hu
      rcases h5 with h5 | ⟨b, o, e, h6⟩
      · have := (List.getElem?_eq_some_iff.1 hx).1; omega
      · injection e with e
        subst e
        rw [add_at]
        exact h6 j x hx
theorem wpList_appB {w : World} {ops : Array Oper} {rest : List Oper} {o : Oper} {a : Act} {Q : Exit → Act → World → Prop} (hgd : o.guard = none) (s x : Operand)
    (ho : o.op = .call { callee := .builtin .append, args := #[s, x], argTypes := #[22, 22] })
    (B : Nat) (V : Value) (xs : List Bt) (hs : a.eval s = V) (hown : Own w B V xs) (A : Option Addr) (m c : Nat) (ys : List Bt) (hx : a.eval x = .slice A m c) (hsrc : IsB w A m c ys)
    (hlen : xs.length + ys.length ≤ 1073741824) (hbase : B ≤ w.heap.size)
    (h : ∀ V' w', Own w' B V' (xs ++ ys) → w.grownBy w' V.ownBlock → (∀ k, V'.ownBlock = some k → V.ownBlock = some k ∨ k = w.heap.size) → wpList Tryd.prog ops Q rest (a.put o.dst V') w') : wpList Tryd.prog ops Q (o :: rest) a w := by
  obtain ⟨i, hi⟩ := one1
  have hm : m = ys.length := hsrc.1
  have hoo : ∀ V' w', w'.ownsRow B 5 1 V' (xs.length + m) (xs.map bvb ++ ys.map bvb) → Own w' B V' (xs ++ ys) := fun V' w' hh => by
    unfold Own; rw [List.length_append, List.map_append, ← hm]; exact hh
  rcases hsrc.src with ⟨rfl, rfl, rfl, e⟩ | ⟨ad, rfl, hl, hc⟩
  · refine wpList_append_own_none hgd s x 22 ho B 5 i 1 und22 hi.1 V xs.length (xs.map bvb) hs hown hx ?_
    exact h V w (hoo V w (by rw [e, Nat.add_zero, List.append_nil]; exact hown)) (World.grownBy.refl w _) (fun k hk => .inl hk)
  · exact wpList_append_at w hgd s x 22 ho B 5 i (.int .u8 0) 1 1 und22 hi rfl (by decide) V xs.length (xs.map bvb) hs hown ad m c (ys.map bvb) hx hl hc (by intro u hu; obtain ⟨b, _, rfl⟩ := List.mem_map.1 hu; rfl) (by unfold maxLen; omega) (by omega) hbase
      (fun V' w' h1 h2 h3 => h V' w' (hoo V' w' h1) h2 h3)
/-- One byte in new memory. -/
theorem isB_one {w : World} (x : Bt) (v : Value) (hv : v = bvb x) : IsB (w.alloc (.cells #[v] 5)) (some ⟨w.heap.size, 0, none⟩) 1 1 [x] := by
  subst hv
  refine ⟨rfl, Nat.le_refl _, by decide, fun e => (by cases e), .inr ⟨w.heap.size, 0, rfl, fun i y hy => ?_⟩⟩
  match i with
  | 0 => simp at hy; subst hy; simp
  | i + 1 => simp at hy
set_option maxHeartbeats 1000000 in
set_option maxRecDepth 100000 in
theorem digits_zero (w : World) : Calls Tryd.prog 25 #[.slice none 0 0, .int .u64 0] w fun e w' => e = .returned (.slice none 0 0) ∧ w' = w := by
  go_enter Tryd.func25, Tryd.ntmps25
  go_wp2_with (fail)
  go_ret
  exact ⟨rfl, rfl⟩
set_option maxHeartbeats 1000000 in
set_option maxRecDepth 100000 in
theorem digits_step (w : World) (v : Nat) (hv : v < 18446744073709551616) (h0 : v ≠ 0) (ds : List Bt) (hd : ds.length ≤ 8)
    (ih : Calls Tryd.prog 25 #[.slice none 0 0, .int .u64 ((v : Int) / 256)] w fun e w' => ∃ V, e = .returned V ∧ Own w' w.heap.size V ds ∧ Below w.heap.size w w') :
    Calls Tryd.prog 25 #[.slice none 0 0, .int .u64 v] w fun e w' => ∃ V, e = .returned V ∧ Own w' w.heap.size V (ds ++ [BitVec.ofNat 8 v]) ∧ Below w.heap.size w w' := by
  have hne : ((v : Int) == 0) = false := by
    have : ¬ (v : Int) = 0 := by omega
    simpa using this
  have HI := Lib.hid ih
  have HV := Lib.hid hv
  have HD := Lib.hid hd
  clear ih hv h0 hd
  go_enter Tryd.func25, Tryd.ntmps25
  go_wp2_with (first
    | (go_at_call 25; (with_reducible refine HI.out.mono ?_); rintro e y1 ⟨V, rfl, hO, hb⟩; have HO := Lib.hid hO; have HB := Lib.hid hb; clear hO hb HI)
    | (refine wpList_appB rfl (.tmp 11) (.tmp 14) rfl w.heap.size V ds rfl (HO.out.below ((Below.refl _ _).alloc (Nat.le_refl _) _)) (some ⟨y1.heap.size, 0, none⟩) 1 1 [BitVec.ofNat 8 v] rfl (isB_one _ _ (by unfold bvb; rw [BitVec.toNat_ofNat]; congr 1)) (by have := HD.out; simp; omega) (by have := HB.out.size; simp; omega) ?_
       intro V2 y2 hO2 hg hat
       have HO2 := Lib.hid hO2
       have HB2 := Lib.hid ((HB.out.alloc HB.out.size _).grown hg (by have := HB.out.size; simp; omega) (fun k hk => (HO.out.base hk).1))
       clear hO2 hg hat))
  go_ret
  exact ⟨V2, rfl, HO2.out, HB2.out⟩
theorem digits_walk : ∀ (f v : Nat), f ≤ 8 → v < 256 ^ f → ∀ w : World, Calls Tryd.prog 25 #[.slice none 0 0, .int .u64 v] w fun e w' => ∃ V, e = .returned V ∧ Own w' w.heap.size V (digs f v) ∧ Below w.heap.size w w' := by
  intro f
  induction f with
  | zero =>
    intro v _ hv w
    obtain rfl : v = 0 := by simpa using hv
    refine (digits_zero w).mono ?_
    rintro e w' ⟨rfl, rfl⟩
    exact ⟨_, rfl, Own.nil _ _, Below.refl _ _⟩
  | succ f ih =>
    intro v hf hv w
    have hp : 256 ^ (f + 1) ≤ 256 ^ 8 := Nat.pow_le_pow_right (by decide) hf
    by_cases h0 : v = 0
    · subst h0
      refine (digits_zero w).mono ?_
      rintro e w' ⟨rfl, rfl⟩
      exact ⟨_, rfl, by unfold digs; exact Own.nil _ _, Below.refl _ _⟩
    · have e : digs (f + 1) v = digs f (v / 256) ++ [BitVec.ofNat 8 v] := by rw [digs, if_neg h0]
      rw [e]
      have h1 := ih (v / 256) (by omega) (by rw [Nat.pow_succ] at hv; exact Nat.div_lt_of_lt_mul (by omega)) w
      exact digits_step w v (Nat.lt_of_lt_of_le hv hp) h0 _ (by have := digs_len_le f (v / 256); omega) h1
end Rl
end Go.Proofs.YthlmjcochpodgaaDoor
