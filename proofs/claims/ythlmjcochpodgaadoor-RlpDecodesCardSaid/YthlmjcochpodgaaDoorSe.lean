/-
  A world of which only some blocks are seen; rows of items that grow. Own work.
-/
import Derived.Test.YthlmjcochpodgaaDoorRb
import Derived.Laws.AppendOwnNone
namespace Go.Proofs.YthlmjcochpodgaaDoor
open Go.ChangeShapes Go.WideShapes Go.Deep Go.RowKit
set_option linter.unusedVariables false
set_option linter.unusedSimpArgs false
namespace Rl
open Classical in
noncomputable def see (S : Nat → Prop) (w : World) : World := { w with heap := w.heap.mapIdx fun i o => if S i then o else .cells #[] 0 }
theorem see_heap (S : Nat → Prop) (w : World) (k : Nat) : (see S w).heap[k]? = w.heap[k]?.map fun o => (open Classical in if S k then o else .cells #[] 0) := by
  simp [see, Array.getElem?_mapIdx]
theorem see_in {S : Nat → Prop} {w : World} {p : Addr} (h : S p.block) : (see S w).cell? p = w.cell? p := by
  apply World.cell?_of_block
  rw [see_heap]
  simp [h]
theorem see_out {S : Nat → Prop} {w : World} {p : Addr} {v : Value} (h : ¬ S p.block) : (see S w).cell? p ≠ some v := by
  unfold World.cell?
  rw [see_heap]
  cases w.heap[p.block]? with
  | none => simp
  | some o => simp [h]
theorem see_some {S : Nat → Prop} {w : World} {p : Addr} {v : Value} (h : (see S w).cell? p = some v) : S p.block ∧ w.cell? p = some v := by
  by_cases hs : S p.block
  · rw [see_in hs] at h; exact ⟨hs, h⟩
  · exact absurd h (see_out hs)
theorem see_keep (S : Nat → Prop) (w : World) : Keep (see S w) w := fun p v h => (see_some h).2
/-- What is seen is kept: block by block. -/
theorem keep_see {S T : Nat → Prop} {w w' : World} (h : ∀ b o v, S b → w.cell? ⟨b, o, none⟩ = some v → T b ∧ w'.cell? ⟨b, o, none⟩ = some v) : Keep (see S w) (see T w') := by
  intro p v e
  obtain ⟨h1, h2⟩ := see_some e
  obtain ⟨b, o, s⟩ := p
  have hs : s = none := by simpa using World.cell?_spot h2
  subst hs
  obtain ⟨h3, h4⟩ := h b o v h1 h2
  rw [see_in h3]; exact h4
theorem keep_mono {S T : Nat → Prop} {w : World} (h : ∀ b, b < w.heap.size → S b → T b) : Keep (see S w) (see T w) :=
  keep_see fun b o v h1 h2 => ⟨h b (inHeap h2) h1, h2⟩
theorem see_below {S : Nat → Prop} {w w' : World} (hb : Below w.heap.size w w') : Keep (see S w) (see S w') :=
  keep_see fun b o v h1 h2 => ⟨h1, keep1 hb h2⟩
/-- All is seen of what was there before. -/
theorem keep_old {S : Nat → Prop} {w : World} (h : ∀ b, b < w.heap.size → S b) : Keep w (see S w) := by
  intro p v e
  obtain ⟨b, o, s⟩ := p
  have hs : s = none := by simpa using World.cell?_spot e
  subst hs
  rw [see_in (h b (inHeap e))]; exact e
/-- Items by value, one behind the other. -/
def IsV (w : World) : Fo → List Value → Prop
  | .nil, xs => xs = []
  | .cons l bs k r, xs => ∃ a n c a' n' c' ys, xs = .bool l :: .slice a n c :: .slice a' n' c' :: ys ∧ IsB w a n c bs ∧ IsK w a' n' c' k ∧ IsV w r ys
theorem IsV.keep {w w' : World} (hk : Keep w w') : ∀ (k : Fo) (xs : List Value), IsV w k xs → IsV w' k xs
  | .nil, _, h => h
  | .cons l bs k r, xs, ⟨a, n, c, a', n', c', ys, h1, h2, h3, h4⟩ => ⟨a, n, c, a', n', c', ys, h1, h2.keep hk, h3.keep hk, IsV.keep hk r ys h4⟩
theorem IsV.app {w : World} : ∀ (k g : Fo) (xs zs : List Value), IsV w k xs → IsV w g zs → IsV w (k.app g) (xs ++ zs)
  | .nil, _, _, _, h, h' => by rw [show _ = [] from h]; exact h'
  | .cons l bs k r, g, xs, zs, ⟨a, n, c, a', n', c', ys, h1, h2, h3, h4⟩, h' => by
    subst h1
    exact ⟨a, n, c, a', n', c', ys ++ zs, rfl, h2, h3, IsV.app r g ys zs h4 h'⟩
theorem Fo.app_len : ∀ (k g : Fo), (k.app g).len = k.len + g.len
  | .nil, g => by show g.len = 0 + g.len; omega
  | .cons l b k r, g => by show (r.app g).len + 1 = r.len + 1 + g.len; rw [Fo.app_len r g]; omega
theorem Fo.app_nil : ∀ k : Fo, k.app .nil = k
  | .nil => rfl
  | .cons l b k r => by show Fo.cons l b k (r.app .nil) = _; rw [Fo.app_nil r]
theorem Fo.app_app : ∀ a b c : Fo, (a.app b).app c = a.app (b.app c)
  | .nil, _, _ => rfl
  | .cons l x k r, b, c => by show Fo.cons l x k ((r.app b).app c) = Fo.cons l x k (r.app (b.app c)); rw [Fo.app_app r b c]
theorem IsV.len {w : World} : ∀ (k : Fo) (xs : List Value), IsV w k xs → xs.length = 3 * k.len
  | .nil, _, h => by rw [show _ = [] from h]; rfl
  | .cons l bs k r, xs, ⟨_, _, _, _, _, _, ys, h1, _, _, h4⟩ => by
    subst h1
    have := IsV.len r ys h4
    show ys.length + 1 + 1 + 1 = 3 * (r.len + 1); omega
theorem IsV.ones {w : World} : ∀ (k : Fo) (xs : List Value), IsV w k xs → ∀ u ∈ xs, u.oneCell' = true
  | .nil, _, h => by rw [show _ = [] from h]; intro u hu; cases hu
  | .cons l bs k r, xs, ⟨_, _, _, _, _, _, ys, h1, _, _, h4⟩ => by
    subst h1
    intro u hu
    simp only [List.mem_cons] at hu
    rcases hu with rfl | rfl | rfl | hu
    · rfl
    · rfl
    · rfl
    · exact IsV.ones r ys h4 u hu
/-- Values that stand in a row are items in memory. -/
theorem IsV.fo {w : World} : ∀ (k : Fo) (xs : List Value) (b o : Nat), IsV w k xs → (∀ j u, xs[j]? = some u → w.cell? ⟨b, o + j, none⟩ = some u) → IsFo w k b o
  | .nil, _, _, _, _, _ => trivial
  | .cons l bs k r, xs, b, o, ⟨a, n, c, a', n', c', ys, h1, h2, h3, h4⟩, h => by
    subst h1
    refine ⟨by simpa using h 0 _ rfl, ⟨a, n, c, h 1 _ rfl, h2⟩, ⟨a', n', c', h 2 _ rfl, h3.1, h3.2.1, h3.2.2.1, h3.2.2.2.1, h3.2.2.2.2⟩, IsV.fo r ys b (o + 3) h4 fun j u hu => ?_⟩
    have := h (j + 3) u hu
    rw [show o + (j + 3) = o + 3 + j by omega] at this; exact this
theorem it1 : ∃ i, Tryd.prog.info? 25 = some i ∧ i.zero = some (.agg #[.bool false, .slice none 0 0, .slice none 0 0]) ∧ i.size = 3 ∧ i.bytes = 56 := by
  refine ⟨(Tryd.prog.info? 25).get (by kernel_rfl), by kernel_rfl, by kernel_rfl, by kernel_rfl, by kernel_rfl⟩
theorem undK : Tryd.prog.underlying 23 = some (.slice 25) := by kernel_rfl
/-- What is seen beside a row: what is not older than B, not the row, and not the box q. -/
def Bes (B q : Nat) (V : Value) (b : Nat) : Prop := B ≤ b ∧ b ≠ q ∧ V.ownBlock ≠ some b
/-- A row of items of the call's own. -/
def RowI (w : World) (B q : Nat) (V : Value) (k : Fo) : Prop := V.ownBlock ≠ some q ∧ ∃ xs, w.ownsRow B 25 3 V k.len xs ∧ IsV (see (Bes B q V) w) k xs
theorem RowI.nil (w : World) (B q : Nat) : RowI w B q (.slice none 0 0) .nil := ⟨by simp [Value.ownBlock], [], ⟨rfl, .inl ⟨rfl, rfl⟩⟩, rfl⟩
theorem RowI.base {w : World} {B q : Nat} {V : Value} {k : Fo} (h : RowI w B q V k) {g : Nat} (hg : V.ownBlock = some g) : B ≤ g ∧ g < w.heap.size := by
  obtain ⟨_, xs, h1, _⟩ := h
  rcases ownsRow_forms h1 with ⟨rfl, _⟩ | ⟨g', c, rfl, h2, h3, _⟩
  · cases hg
  · injection hg with hg; subst hg; exact ⟨h2, h3⟩
theorem RowI.next {w w' : World} {B q : Nat} {V : Value} {k : Fo} (h : RowI w B q V k) (hb : Below w.heap.size w w') : RowI w' B q V k := by
  have hB := fun g hg => (h.base (g := g) hg).2
  obtain ⟨hq, xs, h1, h2⟩ := h
  exact ⟨hq, xs, (Kept.ofBelow (S := fun _ => False) hb).row h1 (fun k _ h => h), h2.keep (see_below hb) k xs⟩
theorem RowI.grow {w w' : World} {B q : Nat} {V V' : Value} {k g : Fo} {xs news : List Value} (hq : V.ownBlock ≠ some q) (hqs : q < w.heap.size) (hv : IsV (see (Bes B q V) w) k xs) (hn : IsV (see (Bes B q V) w) g news)
    (ho : w'.ownsRow B 25 3 V' (k.len + g.len) (xs ++ news)) (hg : w.grownBy w' V.ownBlock) (hat : ∀ k, V'.ownBlock = some k → V.ownBlock = some k ∨ k = w.heap.size) : RowI w' B q V' (k.app g) := by
  have hk : Keep (see (Bes B q V) w) (see (Bes B q V') w') := keep_see fun b o v h1 h2 => by
    have hb := inHeap h2
    refine ⟨⟨h1.1, h1.2.1, fun e => ?_⟩, ?_⟩
    · rcases hat b e with h | h
      · exact h1.2.2 h
      · omega
    · rw [grown_cell hg hb h1.2.2]; exact h2
  refine ⟨fun e => ?_, xs ++ news, by rw [Fo.app_len]; exact ho, (hv.keep hk k xs).app k g xs news (hn.keep hk g news)⟩
  rcases hat q e with h | h
  · exact hq h
  · omega
/-- The row as a slice of items. -/
theorem RowI.isK {w : World} {B q : Nat} {V : Value} {k : Fo} (h : RowI w B q V k) : ∃ a c, V = .slice a k.len c ∧ IsK (see (fun b => B ≤ b) w) a k.len c k := by
  obtain ⟨_, xs, h1, h2⟩ := h
  have hc := @World.ownsRow.cells w B 25 3 V k.len xs h1
  rcases h1.2 with ⟨e1, e2⟩ | ⟨g, cap, cur, e1, e2, e3, e4, e5, _, _⟩
  · exact ⟨none, 0, by rw [e1, e2], rfl, by omega, by decide, fun _ => rfl, .inl e2⟩
  · refine ⟨some ⟨g, 0, none⟩, cap, e1, rfl, e4, e5, fun e => (by cases e), .inr ⟨g, 0, rfl, ?_⟩⟩
    refine IsV.fo k xs g 0 (h2.keep (keep_mono fun b _ h => h.1) k xs) fun j u hu => ?_
    have h5 := hc (g := g) (by rw [e1]; rfl) j u hu
    rw [add_at] at h5
    rw [see_in (show B ≤ g from e2)]
    exact h5
theorem RowI.drew {w : World} {B q : Nat} {V : Value} {k : Fo} (h : RowI w B q V k) : RowI w.drew B q V k := by
  obtain ⟨h0, xs, h1, h2⟩ := h
  exact ⟨h0, xs, h1, h2.keep (keep_see (S := Bes B q V) (T := Bes B q V) (w := w) (w' := w.drew) fun b o v g1 g2 => ⟨g1, g2⟩) k xs⟩
/-- An item that is written into new memory, as the row's next one. -/
theorem it_news {w : World} {S : Nat → Prop} {l : Bool} {bs : List Bt} {k : Fo} {a a' : Option Addr} {n c n' c' : Nat} (h1 : IsB (see S w) a n c bs) (h2 : IsK (see S w) a' n' c' k) : IsV (see S w) (.cons l bs k .nil) [.bool l, .slice a n c, .slice a' n' c'] :=
  ⟨a, n, c, a', n', c', [], rfl, h1, h2, rfl⟩
theorem three_new (w : World) (x y z : Value) (t : TypeId) : ∀ j u, [x, y, z][j]? = some u → (w.alloc (.cells #[x, y, z] t)).cell? ((⟨w.heap.size, 0, none⟩ : Addr).add j) = some u := by
  intro j u hu
  rw [add_at]
  match j with
  | 0 => simp at hu; subst hu; simp
  | 1 => simp at hu; subst hu; simp
  | 2 => simp at hu; subst hu; simp
  | j + 3 => simp at hu
/-- append of one item in a list of operations. -/
theorem wpList_appI {w : World} {ops : Array Oper} {rest : List Oper} {o : Oper} {a : Act} {Q : Exit → Act → World → Prop} (hgd : o.guard = none) (s x : Operand)
    (ho : o.op = .call { callee := .builtin .append, args := #[s, x], argTypes := #[23, 23] }) (B q : Nat) (V : Value) (k : Fo) (hs : a.eval s = V) (hr : RowI w B q V k) (hB : B ≤ w.heap.size) (hqs : q < w.heap.size)
    (ad : Addr) (l : Bool) (bs : List Bt) (kk : Fo) (va vb : Value) (c : Nat) (hx : a.eval x = .slice (some ad) 1 c) (hv : IsV (see (Bes B q V) w) (.cons l bs kk .nil) [.bool l, va, vb]) (hc : ∀ j u, [.bool l, va, vb][j]? = some u → w.cell? (ad.add j) = some u)
    (hlen : k.len + 1 ≤ 1073741824)
    (h : ∀ V' w', RowI w' B q V' (k.app (.cons l bs kk .nil)) → w.grownBy w' V.ownBlock → (∀ k, V'.ownBlock = some k → V.ownBlock = some k ∨ k = w.heap.size) → wpList Tryd.prog ops Q rest (a.put o.dst V') w') : wpList Tryd.prog ops Q (o :: rest) a w := by
  obtain ⟨hq, xs, h1, h2⟩ := hr
  obtain ⟨i, hi⟩ := it1
  exact wpList_append_at w hgd s x 23 ho B 25 i _ 3 56 undK hi rfl (by decide) V k.len xs hs h1 ad 1 c _ hx rfl hc (IsV.ones _ _ hv) (by unfold maxLen; omega) (by omega) hB
    fun V' w' g1 g2 g3 => h V' w' (RowI.grow hq hqs h2 hv g1 g2 g3) g2 g3
/-- The same as one operation. -/
theorem wp_appI {w : World} {o : Oper} {a : Act} {K : Act → World → Prop} {Q : Exit → Act → World → Prop} (d : Option Tmp) (s x : Operand) (hd : o.dst = d)
    (ho : o.op = .call { callee := .builtin .append, args := #[s, x], argTypes := #[23, 23] }) (B q : Nat) (V : Value) (k : Fo) (hs : a.eval s = V) (hr : RowI w B q V k) (hB : B ≤ w.heap.size) (hqs : q < w.heap.size)
    (ad : Addr) (l : Bool) (bs : List Bt) (kk : Fo) (va vb : Value) (c : Nat) (hx : a.eval x = .slice (some ad) 1 c) (hv : IsV (see (Bes B q V) w) (.cons l bs kk .nil) [.bool l, va, vb]) (hc : ∀ j u, [.bool l, va, vb][j]? = some u → w.cell? (ad.add j) = some u)
    (hlen : k.len + 1 ≤ 1073741824)
    (h : ∀ V' w', RowI w' B q V' (k.app (.cons l bs kk .nil)) → w.grownBy w' V.ownBlock → (∀ k, V'.ownBlock = some k → V.ownBlock = some k ∨ k = w.heap.size) → K (a.put d V') w') : Oper.wp Tryd.prog o a w K Q := by
  obtain ⟨hq, xs, h1, h2⟩ := hr
  obtain ⟨i, hi⟩ := it1
  obtain ⟨v', w', hr, g1, g2, _, g3⟩ := run_append_at (P := Tryd.prog) w B 23 o.type 25 i _ 3 56 undK hi.1 hi.2.1 hi.2.2.1 hi.2.2.2 rfl (by decide) V k.len xs h1 ad 1 c _ rfl hc (IsV.ones _ _ hv) (by unfold maxLen; omega) (by omega) hB
  subst hd
  have hh := h _ _ (RowI.grow hq hqs h2 hv g1 g2 g3) g2 g3
  unfold Oper.wp execOp
  simp only [ho, resolve, invoke, builtin, Sem.run_bind, Sem.run_pure, Result.andThen_ok, List.map_toArray, List.map_cons, List.map_nil, hs, hx, hr]
  exact hh
end Rl
end Go.Proofs.YthlmjcochpodgaaDoor
