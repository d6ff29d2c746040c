/-
  tx: Unbatch. Own work.
-/
import Derived.Test.YtkhdamjjbjmeaaaDoorV4
namespace Go.Proofs.YtkhdamjjbjmeaaaDoor
open Go.ChangeShapes Go.WideShapes Go.Deep Go.RowKit
set_option linter.unusedVariables false
set_option linter.unusedSimpArgs false
namespace Rl
/-- A batch's item as a transaction. -/
def isTx (l : Bool) (x : List Bt) : Option (Nat → Nat) := if l then none else match txd x with
  | .ok f => some f
  | _ => none
def gds : Fo → List (Nat → Nat)
  | .nil => []
  | .cons l x _ r => (isTx l x).toList ++ gds r
def bds : Nat → Fo → List Nat
  | _, .nil => []
  | i, .cons l x _ r => (if (isTx l x).isSome then [] else [i]) ++ bds (i + 1) r
inductive UnR where
  | flt : Nat → Int → UnR
  | num : Int → UnR
  | ok : List (Nat → Nat) → List Nat → UnR
def unb (bs : List Bt) : UnR := match dec bs with
  | .bad p k => .flt p k
  | .ok l _ k _ => if l = true then (if k.len ≤ 8 then .ok (gds k) (bds 0 k) else .num 5) else .num 3
/-- A row of transactions, of numbers, of the call's own. -/
def t6 (f : Nat → Nat) : List Value := [.int .u64 (f 0), .int .u64 (f 1), .int .u64 (f 2), .int .u64 (f 3), .int .u64 (f 4), .int .u64 (f 5)]
def RowT (w : World) (B : Nat) (V : Value) (fs : List (Nat → Nat)) : Prop := w.ownsRow B 36 6 V fs.length (fs.flatMap t6)
def RowN (w : World) (B : Nat) (V : Value) (is : List Nat) : Prop := w.ownsRow B 3 1 V is.length (is.map fun (i : Nat) => (.int .i64 i : Value))
theorem infoT : ∃ i, Tryd.prog.info? 36 = some i ∧ i.zero = some (.agg #[.int .u64 0, .int .u64 0, .int .u64 0, .int .u64 0, .int .u64 0, .int .u64 0]) ∧ i.size = 6 ∧ i.bytes = 48 := by
  refine ⟨(Tryd.prog.info? 36).get (by kernel_rfl), by kernel_rfl, by kernel_rfl, by kernel_rfl, by kernel_rfl⟩
theorem infoN : ∃ i, Tryd.prog.info? 3 = some i ∧ i.zero = some (.int .i64 0) ∧ i.size = 1 ∧ i.bytes = 8 := by
  refine ⟨(Tryd.prog.info? 3).get (by kernel_rfl), by kernel_rfl, by kernel_rfl, by kernel_rfl, by kernel_rfl⟩
theorem undT : Tryd.prog.underlying 22 = some (.slice 36) := by kernel_rfl
theorem undN : Tryd.prog.underlying 54 = some (.slice 3) := by kernel_rfl
theorem rowT_none (w : World) (B : Nat) (hB : B ≤ w.heap.size) : RowT (w.alloc (.cells #[] 36)) B (.slice (some ⟨w.heap.size, 0, none⟩) 0 0) [] :=
  ⟨rfl, .inr ⟨w.heap.size, 0, #[], rfl, hB, heap_alloc_new w _, Nat.le_refl _, by decide, rfl, rfl⟩⟩
theorem rowN_none (w : World) (B : Nat) (hB : B ≤ w.heap.size) : RowN (w.alloc (.cells #[] 3)) B (.slice (some ⟨w.heap.size, 0, none⟩) 0 0) [] :=
  ⟨rfl, .inr ⟨w.heap.size, 0, #[], rfl, hB, heap_alloc_new w _, Nat.le_refl _, by decide, rfl, rfl⟩⟩
theorem rowT_nil (w : World) (B : Nat) : RowT w B (.slice none 0 0) [] := World.ownsRow_nil _ _ _ _
theorem rowN_nil (w : World) (B : Nat) : RowN w B (.slice none 0 0) [] := World.ownsRow_nil _ _ _ _
theorem RowT.base {w : World} {B : Nat} {V : Value} {fs : List (Nat → Nat)} (h : RowT w B V fs) {k : Nat} (hk : V.ownBlock = some k) : B ≤ k ∧ k < w.heap.size := by
  rcases ownsRow_forms h with ⟨e, _⟩ | ⟨g, cap, e, h1, h2, _⟩
  · rw [e] at hk; cases hk
  · rw [e] at hk; injection hk with hk; subst hk; exact ⟨h1, h2⟩
theorem RowN.base {w : World} {B : Nat} {V : Value} {fs : List Nat} (h : RowN w B V fs) {k : Nat} (hk : V.ownBlock = some k) : B ≤ k ∧ k < w.heap.size := by
  rcases ownsRow_forms h with ⟨e, _⟩ | ⟨g, cap, e, h1, h2, _⟩
  · rw [e] at hk; cases hk
  · rw [e] at hk; injection hk with hk; subst hk; exact ⟨h1, h2⟩
theorem RowT.next {w w' : World} {B : Nat} {V : Value} {fs : List (Nat → Nat)} (h : RowT w B V fs) (hb : Below w.heap.size w w') : RowT w' B V fs := (Kept.ofBelow (S := fun _ => False) hb).row h (fun _ _ h => h)
theorem RowN.next {w w' : World} {B : Nat} {V : Value} {fs : List Nat} (h : RowN w B V fs) (hb : Below w.heap.size w w') : RowN w' B V fs := (Kept.ofBelow (S := fun _ => False) hb).row h (fun _ _ h => h)
theorem RowT.grown {w w' : World} {B : Nat} {V U : Value} {fs : List (Nat → Nat)} (h : RowT w B V fs) (hg : w.grownBy w' U.ownBlock) (hn : ∀ k, V.ownBlock = some k → U.ownBlock ≠ some k) : RowT w' B V fs :=
  ((Kept.refl (fun b => U.ownBlock = some b) w).grown hg (fun k hk => .inl hk)).row h (fun k hk hs => hn k hk hs)
theorem RowN.grown {w w' : World} {B : Nat} {V U : Value} {fs : List Nat} (h : RowN w B V fs) (hg : w.grownBy w' U.ownBlock) (hn : ∀ k, V.ownBlock = some k → U.ownBlock ≠ some k) : RowN w' B V fs :=
  ((Kept.refl (fun b => U.ownBlock = some b) w).grown hg (fun k hk => .inl hk)).row h (fun k hk hs => hn k hk hs)
theorem RowT.form {w : World} {B : Nat} {V : Value} {fs : List (Nat → Nat)} (h : RowT w B V fs) : ∃ a c, V = .slice a fs.length c := by
  rcases ownsRow_forms h with ⟨e, e2⟩ | ⟨g, cap, e, _⟩
  · exact ⟨none, 0, by rw [e, e2]⟩
  · exact ⟨_, cap, e⟩
theorem RowN.form {w : World} {B : Nat} {V : Value} {fs : List Nat} (h : RowN w B V fs) : ∃ a c, V = .slice a fs.length c := by
  rcases ownsRow_forms h with ⟨e, e2⟩ | ⟨g, cap, e, _⟩
  · exact ⟨none, 0, by rw [e, e2]⟩
  · exact ⟨_, cap, e⟩
theorem t6_new (w : World) (f : Nat → Nat) (t : TypeId) : ∀ j u, (t6 f)[j]? = some u → (w.alloc (.cells #[.int .u64 (f 0), .int .u64 (f 1), .int .u64 (f 2), .int .u64 (f 3), .int .u64 (f 4), .int .u64 (f 5)] t)).cell? ((⟨w.heap.size, 0, none⟩ : Addr).add j) = some u := by
  intro j u hu
  rw [add_at]
  unfold t6 at hu
  match j with
  | 0 => simp at hu; subst hu; simp
  | 1 => simp at hu; subst hu; simp
  | 2 => simp at hu; subst hu; simp
  | 3 => simp at hu; subst hu; simp
  | 4 => simp at hu; subst hu; simp
  | 5 => simp at hu; subst hu; simp
  | j + 6 => simp at hu
/-- append of a transaction. -/
theorem wpList_appT {w : World} {ops : Array Oper} {rest : List Oper} {o : Oper} {a : Act} {Q : Exit → Act → World → Prop} (hgd : o.guard = none) (s x : Operand)
    (ho : o.op = .call { callee := .builtin .append, args := #[s, x], argTypes := #[22, 22] }) (B : Nat) (V : Value) (fs : List (Nat → Nat)) (hs : a.eval s = V) (hr : RowT w B V fs) (hB : B ≤ w.heap.size)
    (ad : Addr) (c : Nat) (f : Nat → Nat) (hx : a.eval x = .slice (some ad) 1 c) (hc : ∀ j u, (t6 f)[j]? = some u → w.cell? (ad.add j) = some u) (hlen : fs.length + 1 ≤ 1073741824)
    (h : ∀ V' w', RowT w' B V' (fs ++ [f]) → w.grownBy w' V.ownBlock → (∀ k, V'.ownBlock = some k → V.ownBlock = some k ∨ k = w.heap.size) → wpList Tryd.prog ops Q rest (a.put o.dst V') w') : wpList Tryd.prog ops Q (o :: rest) a w := by
  obtain ⟨i, hi⟩ := infoT
  exact wpList_append_at w hgd s x 22 ho B 36 i _ 6 48 undT hi rfl (by decide) V fs.length _ hs hr ad 1 c (t6 f) hx rfl hc (by intro u hu; unfold t6 at hu; simp at hu; rcases hu with rfl | rfl | rfl | rfl | rfl | rfl <;> rfl) (by unfold maxLen; omega) (by omega) hB
    fun V' w' g1 g2 g3 => h V' w' (by unfold RowT; rw [List.length_append, List.flatMap_append]; simpa using g1) g2 g3
/-- append of a number. -/
theorem wpList_appN {w : World} {ops : Array Oper} {rest : List Oper} {o : Oper} {a : Act} {Q : Exit → Act → World → Prop} (hgd : o.guard = none) (s x : Operand)
    (ho : o.op = .call { callee := .builtin .append, args := #[s, x], argTypes := #[54, 54] }) (B : Nat) (V : Value) (fs : List Nat) (hs : a.eval s = V) (hr : RowN w B V fs) (hB : B ≤ w.heap.size)
    (ad : Addr) (c : Nat) (f : Nat) (hx : a.eval x = .slice (some ad) 1 c) (hc : w.cell? (ad.add 0) = some (.int .i64 f)) (hlen : fs.length + 1 ≤ 1073741824)
    (h : ∀ V' w', RowN w' B V' (fs ++ [f]) → w.grownBy w' V.ownBlock → (∀ k, V'.ownBlock = some k → V.ownBlock = some k ∨ k = w.heap.size) → wpList Tryd.prog ops Q rest (a.put o.dst V') w') : wpList Tryd.prog ops Q (o :: rest) a w := by
  obtain ⟨i, hi⟩ := infoN
  exact wpList_append_at w hgd s x 54 ho B 3 i _ 1 8 undN hi rfl (by decide) V fs.length _ hs hr ad 1 c [.int .i64 f] hx rfl (by intro j u hu; match j with | 0 => simp at hu; subst hu; exact hc | j + 1 => simp at hu) (by intro u hu; simp at hu; subst hu; rfl) (by unfold maxLen; omega) (by omega) hB
    fun V' w' g1 g2 g3 => h V' w' (by unfold RowN; rw [List.length_append, List.map_append]; exact g1) g2 g3
/-- Decode, as Unbatch asks it. -/
theorem txDecode_out (w : World) (a : Option Addr) (n c : Nat) (bs : List Bt) (hB : IsB w a n c bs) :
    Calls Tryd.prog 14 #[.slice a n c] w fun r w' => (∃ g er, r = .returned (.tuple #[txv g, er]) ∧ ((∃ f, txd bs = .ok f ∧ er = .nilIface ∧ g = f) ∨ ((∀ f, txd bs ≠ .ok f) ∧ ∃ t v, er = .iface t v))) ∧ Below w.heap.size w w' := by
  refine (txDecode_walk w a n c bs hB).mono ?_
  rintro r w' ⟨h, hb⟩
  refine ⟨?_, hb⟩
  cases hT : txd bs with
  | flt p k =>
    rw [hT] at h
    obtain ⟨v, h1, q, h2, _⟩ := h
    exact ⟨zf, v, h1, .inr ⟨(fun f h => by cases h), _, _, h2⟩⟩
  | num k => rw [hT] at h; exact ⟨zf, _, h, .inr ⟨(fun f h => by cases h), _, _, rfl⟩⟩
  | ok f => rw [hT] at h; exact ⟨f, _, h, .inl ⟨f, rfl, rfl, rfl⟩⟩
/-- What Unbatch's loop keeps. -/
structure Unb (w : World) (B2 q5 : Nat) (s1 : Value) (a' : Option Addr) (n' c' : Nat) (k : Fo) (V1 V2 : Value) (G : List (Nat → Nat)) (D : List Nat) (y : World) : Prop where
  below : Below w.heap.size w y
  kids : IsK (see (fun b => b < B2) y) a' n' c' k
  t : RowT y B2 V1 G
  n : RowN y B2 V2 D
  ap : ∀ b, V1.ownBlock = some b → V2.ownBlock ≠ some b
  h2 : w.heap.size ≤ B2
  h3 : B2 ≤ y.heap.size
section
variable {w : World} {B2 q5 : Nat} {s1 : Value} {a' : Option Addr} {n' c' : Nat} {k : Fo} {V1 V2 V' : Value} {G : List (Nat → Nat)} {D : List Nat} {y y' : World}
theorem Unb.next (h : Unb w B2 q5 s1 a' n' c' k V1 V2 G D y) (hb : Below y.heap.size y y') : Unb w B2 q5 s1 a' n' c' k V1 V2 G D y' :=
  ⟨bl h.below hb, h.kids.keep (see_below hb), h.t.next hb, h.n.next hb, h.ap, h.h2, Nat.le_trans h.h3 hb.size⟩
theorem Unb.putT {f : Nat → Nat} (h : Unb w B2 q5 s1 a' n' c' k V1 V2 G D y) (hg : y.grownBy y' V1.ownBlock) (hat : ∀ k, V'.ownBlock = some k → V1.ownBlock = some k ∨ k = y.heap.size) (hr : RowT y' B2 V' (G ++ [f])) : Unb w B2 q5 s1 a' n' c' k V' V2 (G ++ [f]) D y' :=
  ⟨h.below.grown hg h.below.size (fun k hk => by have := (h.t.base hk).1; have := h.h2; omega), h.kids.keep (keep_see fun b o v g1 g2 => ⟨g1, (grown_cell hg (inHeap g2) (fun e => by have := (h.t.base e).1; omega)).trans g2⟩), hr,
    h.n.grown hg (fun k hk e => h.ap k e hk), fun b hb e => by
      rcases hat b hb with h4 | h4
      · exact h.ap b h4 e
      · have := (h.n.base e).2; omega, h.h2, Nat.le_trans h.h3 hg.size⟩
theorem Unb.putN {f : Nat} (h : Unb w B2 q5 s1 a' n' c' k V1 V2 G D y) (hg : y.grownBy y' V2.ownBlock) (hat : ∀ k, V'.ownBlock = some k → V2.ownBlock = some k ∨ k = y.heap.size) (hr : RowN y' B2 V' (D ++ [f])) : Unb w B2 q5 s1 a' n' c' k V1 V' G (D ++ [f]) y' :=
  ⟨h.below.grown hg h.below.size (fun k hk => by have := (h.n.base hk).1; have := h.h2; omega), h.kids.keep (keep_see fun b o v g1 g2 => ⟨g1, (grown_cell hg (inHeap g2) (fun e => by have := (h.n.base e).1; omega)).trans g2⟩), h.t.grown hg h.ap,
    hr, fun b hb e => by
      rcases hat b e with h4 | h4
      · exact h.ap b hb h4
      · have := (h.t.base hb).2; omega, h.h2, Nat.le_trans h.h3 hg.size⟩
end
/-- What Unbatch answers. -/
def unOut (B : Nat) (w : World) : UnR → Ending → Prop
  | .flt p k, e => ∃ v, e = .returned (.tuple #[.slice none 0 0, .slice none 0 0, v]) ∧ IsFlt B w p k v
  | .num k, e => e = .returned (.tuple #[.slice none 0 0, .slice none 0 0, eN k])
  | .ok G D, e => ∃ V1 V2, e = .returned (.tuple #[V1, V2, .nilIface]) ∧ RowT w B V1 G ∧ RowN w B V2 D ∧ (∀ b, V1.ownBlock = some b → V2.ownBlock ≠ some b)
theorem gds_at {k r : Fo} {l : Bool} {x : List Bt} {k1 : Fo} {j : Nat} (h : k.drop j = .cons l x k1 r) : gds (k.drop j) = (isTx l x).toList ++ gds r ∧ bds j (k.drop j) = (if (isTx l x).isSome then [] else [j]) ++ bds (j + 1) r := by
  rw [h]; exact ⟨rfl, rfl⟩
set_option maxHeartbeats 2000000 in
set_option maxRecDepth 100000 in
/-- Unbatch of bytes that are no batch. -/
theorem txUnbatch_none (w : World) (a : Option Addr) (n c : Nat) (bs : List Bt) (hB : IsB w a n c bs) (hno : ∀ G D, unb bs ≠ .ok G D) :
    Calls Tryd.prog 20 #[.slice a n c] w fun r w' => unOut w.heap.size w' (unb bs) r ∧ Below w.heap.size w w' := by
  have HD := Lib.hid (decode_walk w a n c bs hB)
  clear hB
  cases hD : dec bs with
  | bad p k =>
    have e : unb bs = .flt p k := by unfold unb; rw [hD]
    rw [hD] at HD
    rw [e]
    clear hno e hD
    go_enter Tryd.func20, Tryd.ntmps20
    go_wp2_with (go_at_call 37; (with_reducible refine HD.out.mono ?_); rintro e y1 ⟨⟨v, rfl, hF⟩, hb⟩
                 have HF := Lib.hid (hF.next (ba y1 (.cells #[.bool false, .slice none 0 0, .slice none 0 0] 79)))
                 have HBL := Lib.hid (bl hb (ba y1 (.cells #[.bool false, .slice none 0 0, .slice none 0 0] 79)))
                 obtain ⟨q, rfl, _, _, _⟩ := hF
                 unfold zIt
                 clear hb HD)
    exact bodyPost_ret (v := .tuple #[.slice none 0 0, .slice none 0 0, .iface 92 (.pointer (some ⟨q, 0, none⟩))]) (by simp [results, Tryd.results20, go_sem]) rfl ⟨⟨_, rfl, HF.out⟩, HBL.out⟩
  | ok l x k j =>
    rw [hD] at HD
    cases l with
    | false =>
      have e : unb bs = .num 3 := by unfold unb; rw [hD]; rfl
      rw [e]
      clear hno e hD
      go_enter Tryd.func20, Tryd.ntmps20
      go_wp2_with (go_at_call 37; (with_reducible refine HD.out.mono ?_); rintro e y1 ⟨⟨a3, n3, c3, a4, n4, c4, rfl, hB3, hK3⟩, hb⟩
                   have HBL := Lib.hid (bl hb (ba y1 (.cells #[.bool false, .slice a3 n3 c3, .slice a4 n4 c4] 79)))
                   clear hb HD hB3 hK3)
      exact bodyPost_ret (v := .tuple #[.slice none 0 0, .slice none 0 0, eN 3]) (by simp [results, Tryd.results20, go_sem, eN]) rfl ⟨rfl, HBL.out⟩
    | true =>
      have h8 : ¬ k.len ≤ 8 := fun h => hno _ _ (by unfold unb; rw [hD]; exact if_pos h)
      have e : unb bs = .num 5 := by unfold unb; rw [hD]; exact if_neg h8
      rw [e]
      have HK8 := Lib.hid h8
      clear hno e hD h8
      go_enter Tryd.func20, Tryd.ntmps20
      go_wp2_with (go_at_call 37; (with_reducible refine HD.out.mono ?_); rintro e y1 ⟨⟨a3, n3, c3, a4, n4, c4, rfl, hB3, hK3⟩, hb⟩
                   have HBL := Lib.hid (bl hb (ba y1 (.cells #[.bool true, .slice a3 n3 c3, .slice a4 n4 c4] 79)))
                   have h9 : (8 : Int) < n4 := by have := hK3.1; have := HK8.out; omega
                   clear hb HD hB3 hK3)
      exact bodyPost_ret (v := .tuple #[.slice none 0 0, .slice none 0 0, eN 5]) (by simp [results, Tryd.results20, go_sem, eN]) rfl ⟨rfl, HBL.out⟩
set_option maxHeartbeats 2000000 in
set_option maxRecDepth 100000 in
/-- Unbatch of a batch. -/
theorem txUnbatch_ok (w : World) (a : Option Addr) (n c : Nat) (bs : List Bt) (hB : IsB w a n c bs) (x : List Bt) (k : Fo) (jj : Nat) (hD : dec bs = .ok true x k jj) (h8 : k.len ≤ 8) :
    Calls Tryd.prog 20 #[.slice a n c] w fun r w' => unOut w.heap.size w' (.ok (gds k) (bds 0 k)) r ∧ Below w.heap.size w w' := by
  have HD := Lib.hid (decode_walk w a n c bs hB)
  rw [hD] at HD
  have H8 := Lib.hid h8
  clear hB hD h8
  go_enter Tryd.func20, Tryd.ntmps20
  go_wp2_with (go_at_call 37; (with_reducible refine HD.out.mono ?_); rintro e y1 ⟨⟨a3, n3, c3, a4, N4, c4, rfl, hB3, hK3⟩, hb⟩
               have h9 : decide ((8 : Int) < N4) = false := by have := hK3.1; have := H8.out; simp; omega
               have hba := ba y1 (.cells #[.bool true, .slice a3 n3 c3, .slice a4 N4 c4] 79)
               have HU : Hid (Unb w (y1.heap.size + 1) y1.heap.size (.slice a3 n3 c3) a4 N4 c4 k (.slice (some ⟨y1.heap.size + 1, 0, none⟩) 0 0) (.slice (some ⟨y1.heap.size + 2, 0, none⟩) 0 0) [] [] (((y1.alloc (.cells #[.bool true, .slice a3 n3 c3, .slice a4 N4 c4] 79)).alloc (.cells #[] 36)).alloc (.cells #[] 3))) := Lib.hid (by
                 have hr1 := rowT_none (y1.alloc (.cells #[.bool true, .slice a3 n3 c3, .slice a4 N4 c4] 79)) (y1.heap.size + 1) (by simp)
                 have hr2 := rowN_none ((y1.alloc (.cells #[.bool true, .slice a3 n3 c3, .slice a4 N4 c4] 79)).alloc (.cells #[] 36)) (y1.heap.size + 1) (by simp)
                 rw [show (y1.alloc (.cells #[.bool true, .slice a3 n3 c3, .slice a4 N4 c4] 79)).heap.size = y1.heap.size + 1 by simp] at hr1
                 rw [show ((y1.alloc (.cells #[.bool true, .slice a3 n3 c3, .slice a4 N4 c4] 79)).alloc (.cells #[] 36)).heap.size = y1.heap.size + 2 by simp] at hr2
                 exact ⟨bl (bl (bl hb hba) (ba _ _)) (ba _ _), hK3.keep (keep_see fun b o v g1 g2 => ⟨by have := inHeap g2; omega, keep1 (bl (bl hba (ba _ _)) (ba _ _)) g2⟩), hr1.next (ba _ _), hr2,
                   fun b hb' e => by injection hb' with h1; injection e with h2; simp at h1 h2; omega, by have := hb.size; omega, by simp⟩)
               have HN := Lib.hid hK3.1
               clear hb HD hB3 hK3 hba)
  generalize ((y1.alloc (.cells #[.bool true, .slice a3 n3 c3, .slice a4 N4 c4] 79)).alloc (.cells #[] 36)).alloc (.cells #[] 3) = y0 at *
  clear h9
  go_loopw [7, 8, 35] (fun V1 V2 i y => ∃ (j : Nat) (G : List (Nat → Nat)) (D : List Nat), i = .int .i64 j ∧ Hid (j ≤ N4 ∧ G ++ gds (k.drop j) = gds k ∧ D ++ bds j (k.drop j) = bds 0 k ∧ G.length ≤ j ∧ D.length ≤ j ∧ Unb w (y1.heap.size + 1) y1.heap.size (.slice a3 n3 c3) a4 N4 c4 k V1 V2 G D y)) (fun _ _ i _ => N4 - (intOf i).toNat)
  case atStart => exact ⟨0, [], [], rfl, Lib.hid ⟨Nat.zero_le _, by rw [Fo.drop_zero]; rfl, by rw [Fo.drop_zero]; rfl, Nat.le_refl _, Nat.le_refl _, HU.out⟩⟩
  case round =>
    obtain ⟨j, G, D, rfl, hp⟩ := hrel
    clear HU
    have HL := Lib.hid hp.out.2.2.2.2.2
    by_cases hlt : (j : Int) < N4
    · obtain ⟨b, o, l1, bs1, k1, a1, n1, c1, a2, n2, c2, rfl, hdr, hb1, hk1, G0, G1, G2⟩ := (HL.out.kids.keep (see_keep _ _)).at (show j < N4 by omega)
      have HJ := Lib.hid (show j < N4 ∧ wrap64 ((j : Int) + 1) = ((j + 1 : Nat) : Int) ∧ j < 8 ∧ G.length ≤ j ∧ D.length ≤ j by have h1 := HN.out; have h2 := H8.out; have h3 := hp.out; refine ⟨by omega, by unfold wrap64; omega, by omega, h3.2.2.2.1, h3.2.2.2.2.1⟩)
      have hg := gds_at hdr
      have HG := Lib.hid (show G ++ ((isTx l1 bs1).toList ++ gds (k.drop (j + 1))) = gds k ∧ D ++ ((if (isTx l1 bs1).isSome then [] else [j]) ++ bds (j + 1) (k.drop (j + 1))) = bds 0 k by rw [← hg.1, ← hg.2]; exact ⟨hp.out.2.1, hp.out.2.2.1⟩)
      have HDC := Lib.hid (txDecode_out _ a1 n1 c1 bs1 (hb1.keep (keep_below (ba wr (.cells #[.bool l1, .slice a1 n1 c1, .slice a2 n2 c2] 79)))))
      clear hp hdr hb1 hk1 hg
      go_upto_region 14 with (go_at_call 14; (with_reducible refine HDC.out.mono ?_); rintro e y2 ⟨⟨g, er, rfl, hor⟩, hb⟩
                              have hbb := bl hb (ba y2 (txo g))
                              have HL3 := Lib.hid ((HL.out.next (ba wr (.cells #[.bool l1, .slice a1 n1 c1, .slice a2 n2 c2] 79))).next hbb)
                              have X3 := Lib.hid ((Box3.new wr (.bool l1) (.slice a1 n1 c1) (.slice a2 n2 c2) 79).keep hbb)
                              have C3 := Lib.hid (txo_at y2 g)
                              have HOR := Lib.hid hor
                              clear hb hbb hor HDC)
      clear G0 G1 G2
      generalize y2.alloc (txo g) = y3 at *
      obtain ⟨x0, x1, x2, _, _, _⟩ := X3.out
      cases l1 with
      | true =>
        have HNT := Lib.hid (show isTx true bs1 = none from rfl)
        go_wp2_with (refine wpList_appN rfl (.tmp 52) (.tmp 54) rfl (y1.heap.size + 1) u8 D rfl (HL3.out.next (ba y3 (.cells #[.int .i64 j] 3))).n (HL3.out.next (ba y3 (.cells #[.int .i64 j] 3))).h3 ⟨y3.heap.size, 0, none⟩ 1 j rfl (by rw [add_at]; simp) (by have := HJ.out; omega) ?_
                     intro V5 y5 hr hg hat
                     have HL5 := Lib.hid ((HL3.out.next (ba y3 (.cells #[.int .i64 j] 3))).putN hg hat hr)
                     clear hr hg hat)
        try rw [HJ.out.2.1]
        go_roundw
        case rel => exact ⟨j + 1, _, _, rfl, Lib.hid ⟨HJ.out.1, by rw [← HG.out.1, HNT.out]; simp, by rw [← HG.out.2, HNT.out, List.append_assoc]; rfl, by have := HJ.out; omega, by rw [List.length_append]; have := HJ.out; simp; omega, HL5.out⟩⟩
        case measure => have := HJ.out.1; show N4 - (j + 1) < N4 - j; omega
      | false =>
        rcases HOR.out with ⟨f, hf, rfl, rfl⟩ | ⟨hno, t, v, rfl⟩
        · have HNT := Lib.hid (show isTx false bs1 = some g by unfold isTx; rw [hf]; rfl)
          have z0 := C3.out 0 (by decide)
          have z1 := C3.out 1 (by decide)
          have z2 := C3.out 2 (by decide)
          have z3 := C3.out 3 (by decide)
          have z4 := C3.out 4 (by decide)
          have z5 := C3.out 5 (by decide)
          clear hf
          go_wp2_with (refine wpList_appT rfl (.tmp 56) (.tmp 58) rfl (y1.heap.size + 1) u7 G rfl (HL3.out.next (ba y3 (txo g))).t (HL3.out.next (ba y3 (txo g))).h3 ⟨y3.heap.size, 0, none⟩ 1 g rfl (t6_new y3 g _) (by have := HJ.out; omega) ?_
                       intro V5 y5 hr hg hat
                       have HL5 := Lib.hid ((HL3.out.next (ba y3 (txo g))).putT hg hat hr)
                       clear hr hg hat)
          try rw [HJ.out.2.1]
          go_roundw
          case rel => exact ⟨j + 1, _, _, rfl, Lib.hid ⟨HJ.out.1, by rw [← HG.out.1, HNT.out, List.append_assoc]; rfl, by rw [← HG.out.2, HNT.out]; rfl, by rw [List.length_append]; have := HJ.out; simp; omega, by have := HJ.out; omega, HL5.out⟩⟩
          case measure => have := HJ.out.1; show N4 - (j + 1) < N4 - j; omega
        · have HNT := Lib.hid (show isTx false bs1 = none by
            unfold isTx
            cases hT : txd bs1 with
            | ok f => exact absurd hT (hno f)
            | flt p k => rfl
            | num k => rfl)
          clear hno
          go_wp2_with (refine wpList_appN rfl (.tmp 52) (.tmp 54) rfl (y1.heap.size + 1) u8 D rfl (HL3.out.next (ba y3 (.cells #[.int .i64 j] 3))).n (HL3.out.next (ba y3 (.cells #[.int .i64 j] 3))).h3 ⟨y3.heap.size, 0, none⟩ 1 j rfl (by rw [add_at]; simp) (by have := HJ.out; omega) ?_
                       intro V5 y5 hr hg hat
                       have HL5 := Lib.hid ((HL3.out.next (ba y3 (.cells #[.int .i64 j] 3))).putN hg hat hr)
                       clear hr hg hat)
          try rw [HJ.out.2.1]
          go_roundw
          case rel => exact ⟨j + 1, _, _, rfl, Lib.hid ⟨HJ.out.1, by rw [← HG.out.1, HNT.out]; simp, by rw [← HG.out.2, HNT.out, List.append_assoc]; rfl, by have := HJ.out; omega, by rw [List.length_append]; have := HJ.out; simp; omega, HL5.out⟩⟩
          case measure => have := HJ.out.1; show N4 - (j + 1) < N4 - j; omega
    · obtain rfl : j = N4 := by have := hp.out.1; omega
      have hG := hp.out.2.1
      have hDD := hp.out.2.2.1
      rw [Fo.drop_end (by have := HN.out; omega)] at hG hDD
      have HF := Lib.hid (show G = gds k ∧ D = bds 0 k from ⟨by simpa [gds] using hG, by simpa [bds] using hDD⟩)
      clear hp hG hDD
      go_wp2_with (fail)
      refine bodyPost_ret (v := .tuple #[u7, u8, .nilIface]) (by simp [results, Tryd.results20, go_sem]) rfl ⟨?_, HL.out.below⟩
      have ht := HL.out.t
      have hn := HL.out.n
      rw [HF.out.1] at ht
      rw [HF.out.2] at hn
      exact ⟨u7, u8, rfl, ownsRow_base ht HL.out.h2, ownsRow_base hn HL.out.h2, HL.out.ap⟩
theorem txUnbatch_walk (w : World) (a : Option Addr) (n c : Nat) (bs : List Bt) (hB : IsB w a n c bs) :
    Calls Tryd.prog 20 #[.slice a n c] w fun r w' => unOut w.heap.size w' (unb bs) r ∧ Below w.heap.size w w' := by
  by_cases h : ∃ x k j, dec bs = .ok true x k j ∧ k.len ≤ 8
  · obtain ⟨x, k, j, hD, h8⟩ := h
    have e : unb bs = .ok (gds k) (bds 0 k) := by unfold unb; rw [hD]; exact if_pos h8
    rw [e]
    exact txUnbatch_ok w a n c bs hB x k j hD h8
  · refine txUnbatch_none w a n c bs hB fun G D hU => ?_
    unfold unb at hU
    split at hU
    · cases hU
    · rename_i l x k j hD
      split at hU
      · rename_i hl
        split at hU
        · rename_i h8; exact h ⟨x, k, j, by rw [hD, hl], h8⟩
        · cases hU
      · cases hU
end Rl
end Go.Proofs.YtkhdamjjbjmeaaaDoor
