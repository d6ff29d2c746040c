/- RLP: merged. Own work. -/
import Derived.Test.YthlmjcochpodgaaDoorJ1
import Derived.Laws.AppendOwnNone
import Derived.Test.YthlmjcochpodgaaDoorJ3
namespace Go.Proofs.YthlmjcochpodgaaDoor
open Go.ChangeShapes Go.WideShapes Go.Deep Go.RowKit
set_option linter.unusedVariables false
set_option linter.unusedSimpArgs false
namespace Rl
open Classical in
noncomputable def see (S : Nat → Prop) (w : World) : World := { w with heap := w.heap.mapIdx fun i o => if S i then o else .cells #[] 0 }
theorem see_heap (S : Nat → Prop) (w : World) (k : Nat) : (see S w).heap[k]? = w.heap[k]?.map fun o => (open Classical in if S k then o else .cells #[] 0) := by
  simp [see, Array.getElem?_mapIdx]
theorem see_in {S : Nat → Prop} {w : World} {p : Addr} (h : S p.block) : (see S w).cell? p = w.cell? p := by
  apply World.cell?_of_block
  rw [see_heap]
  simp [h]
theorem see_out {S : Nat → Prop} {w : World} {p : Addr} {v : Value} (h : ¬ S p.block) : (see S w).cell? p ≠ some v := by
  unfold World.cell?
  rw [see_heap]
  cases w.heap[p.block]? with
  | none => simp
  | some o => simp [h]
theorem see_some {S : Nat → Prop} {w : World} {p : Addr} {v : Value} (h : (see S w).cell? p = some v) : S p.block ∧ w.cell? p = some v := by
  by_cases hs : S p.block
  · rw [see_in hs] at h; exact ⟨hs, h⟩
  · exact absurd h (see_out hs)
theorem see_keep (S : Nat → Prop) (w : World) : Keep (see S w) w := fun p v h => (see_some h).2
/-- What is seen is kept: block by block. -/
theorem keep_see {S T : Nat → Prop} {w w' : World} (h : ∀ b o v, S b → w.cell? ⟨b, o, none⟩ = some v → T b ∧ w'.cell? ⟨b, o, none⟩ = some v) : Keep (see S w) (see T w') := by
  intro p v e
  obtain ⟨h1, h2⟩ := see_some e
  obtain ⟨b, o, s⟩ := p
  have hs : s = none := by simpa using World.cell?_spot h2
  subst hs
  obtain ⟨h3, h4⟩ := h b o v h1 h2
  rw [see_in h3]; exact h4
theorem keep_mono {S T : Nat → Prop} {w : World} (h : ∀ b, b < w.heap.size → S b → T b) : Keep (see S w) (see T w) :=
  keep_see fun b o v h1 h2 => ⟨h b (inHeap h2) h1, h2⟩
theorem see_below {S : Nat → Prop} {w w' : World} (hb : Below w.heap.size w w') : Keep (see S w) (see S w') :=
  keep_see fun b o v h1 h2 => ⟨h1, keep1 hb h2⟩
/-- All is seen of what was there before. -/
theorem keep_old {S : Nat → Prop} {w : World} (h : ∀ b, b < w.heap.size → S b) : Keep w (see S w) := by
  intro p v e
  obtain ⟨b, o, s⟩ := p
  have hs : s = none := by simpa using World.cell?_spot e
  subst hs
  rw [see_in (h b (inHeap e))]; exact e
/-- Items by value, one behind the other. -/
def IsV (w : World) : Fo → List Value → Prop
  | .nil, xs => xs = []
  | .cons l bs k r, xs => ∃ a n c a' n' c' ys, xs = .bool l :: .slice a n c :: .slice a' n' c' :: ys ∧ IsB w a n c bs ∧ IsK w a' n' c' k ∧ IsV w r ys
theorem IsV.keep {w w' : World} (hk : Keep w w') : ∀ (k : Fo) (xs : List Value), IsV w k xs → IsV w' k xs
  | .nil, _, h => h
  | .cons l bs k r, xs, ⟨a, n, c, a', n', c', ys, h1, h2, h3, h4⟩ => ⟨a, n, c, a', n', c', ys, h1, h2.keep hk, h3.keep hk, IsV.keep hk r ys h4⟩
theorem IsV.app {w : World} : ∀ (k g : Fo) (xs zs : List Value), IsV w k xs → IsV w g zs → IsV w (k.app g) (xs ++ zs)
  | .nil, _, _, _, h, h' => by rw [show _ = [] from h]; exact h'
  | .cons l bs k r, g, xs, zs, ⟨a, n, c, a', n', c', ys, h1, h2, h3, h4⟩, h' => by
    subst h1
    exact ⟨a, n, c, a', n', c', ys ++ zs, rfl, h2, h3, IsV.app r g ys zs h4 h'⟩
theorem Fo.app_len : ∀ (k g : Fo), (k.app g).len = k.len + g.len
  | .nil, g => by show g.len = 0 + g.len; omega
  | .cons l b k r, g => by show (r.app g).len + 1 = r.len + 1 + g.len; rw [Fo.app_len r g]; omega
theorem Fo.app_nil : ∀ k : Fo, k.app .nil = k
  | .nil => rfl
  | .cons l b k r => by show Fo.cons l b k (r.app .nil) = _; rw [Fo.app_nil r]
theorem Fo.app_app : ∀ a b c : Fo, (a.app b).app c = a.app (b.app c)
  | .nil, _, _ => rfl
  | .cons l x k r, b, c => by show Fo.cons l x k ((r.app b).app c) = Fo.cons l x k (r.app (b.app c)); rw [Fo.app_app r b c]
theorem IsV.len {w : World} : ∀ (k : Fo) (xs : List Value), IsV w k xs → xs.length = 3 * k.len
  | .nil, _, h => by rw [show _ = [] from h]; rfl
  | .cons l bs k r, xs, ⟨_, _, _, _, _, _, ys, h1, _, _, h4⟩ => by
    subst h1
    have := IsV.len r ys h4
    show ys.length + 1 + 1 + 1 = 3 * (r.len + 1); omega
theorem IsV.ones {w : World} : ∀ (k : Fo) (xs : List Value), IsV w k xs → ∀ u ∈ xs, u.oneCell' = true
  | .nil, _, h => by rw [show _ = [] from h]; intro u hu; cases hu
  | .cons l bs k r, xs, ⟨_, _, _, _, _, _, ys, h1, _, _, h4⟩ => by
    subst h1
    intro u hu
    simp only [List.mem_cons] at hu
    rcases hu with rfl | rfl | rfl | hu
    · rfl
    · rfl
    · rfl
    · exact IsV.ones r ys h4 u hu
/-- Values that stand in a row are items in memory. -/
theorem IsV.fo {w : World} : ∀ (k : Fo) (xs : List Value) (b o : Nat), IsV w k xs → (∀ j u, xs[j]? = some u → w.cell? ⟨b, o + j, none⟩ = some u) → IsFo w k b o
  | .nil, _, _, _, _, _ => trivial
  | .cons l bs k r, xs, b, o, ⟨a, n, c, a', n', c', ys, h1, h2, h3, h4⟩, h => by
    subst h1
    refine ⟨by simpa using h 0 _ rfl, ⟨a, n, c, h 1 _ rfl, h2⟩, ⟨a', n', c', h 2 _ rfl, h3.1, h3.2.1, h3.2.2.1, h3.2.2.2.1, h3.2.2.2.2⟩, IsV.fo r ys b (o + 3) h4 fun j u hu => ?_⟩
    have := h (j + 3) u hu
    rw [show o + (j + 3) = o + 3 + j by omega] at this; exact this
theorem it1 : ∃ i, Tryd.prog.info? 25 = some i ∧ i.zero = some (.agg #[.bool false, .slice none 0 0, .slice none 0 0]) ∧ i.size = 3 ∧ i.bytes = 56 := by
  refine ⟨(Tryd.prog.info? 25).get (by kernel_rfl), by kernel_rfl, by kernel_rfl, by kernel_rfl, by kernel_rfl⟩
theorem undK : Tryd.prog.underlying 23 = some (.slice 25) := by kernel_rfl
/-- What is seen beside a row: what is not older than B, not the row, and not the box q. -/
def Bes (B q : Nat) (V : Value) (b : Nat) : Prop := B ≤ b ∧ b ≠ q ∧ V.ownBlock ≠ some b
/-- A row of items of the call's own. -/
def RowI (w : World) (B q : Nat) (V : Value) (k : Fo) : Prop := V.ownBlock ≠ some q ∧ ∃ xs, w.ownsRow B 25 3 V k.len xs ∧ IsV (see (Bes B q V) w) k xs
theorem RowI.nil (w : World) (B q : Nat) : RowI w B q (.slice none 0 0) .nil := ⟨by simp [Value.ownBlock], [], ⟨rfl, .inl ⟨rfl, rfl⟩⟩, rfl⟩
theorem RowI.base {w : World} {B q : Nat} {V : Value} {k : Fo} (h : RowI w B q V k) {g : Nat} (hg : V.ownBlock = some g) : B ≤ g ∧ g < w.heap.size := by
  obtain ⟨_, xs, h1, _⟩ := h
  rcases ownsRow_forms h1 with ⟨rfl, _⟩ | ⟨g', c, rfl, h2, h3, _⟩
  · cases hg
  · injection hg with hg; subst hg; exact ⟨h2, h3⟩
theorem RowI.next {w w' : World} {B q : Nat} {V : Value} {k : Fo} (h : RowI w B q V k) (hb : Below w.heap.size w w') : RowI w' B q V k := by
  have hB := fun g hg => (h.base (g := g) hg).2
  obtain ⟨hq, xs, h1, h2⟩ := h
  exact ⟨hq, xs, (Kept.ofBelow (S := fun _ => False) hb).row h1 (fun k _ h => h), h2.keep (see_below hb) k xs⟩
theorem RowI.grow {w w' : World} {B q : Nat} {V V' : Value} {k g : Fo} {xs news : List Value} (hq : V.ownBlock ≠ some q) (hqs : q < w.heap.size) (hv : IsV (see (Bes B q V) w) k xs) (hn : IsV (see (Bes B q V) w) g news)
    (ho : w'.ownsRow B 25 3 V' (k.len + g.len) (xs ++ news)) (hg : w.grownBy w' V.ownBlock) (hat : ∀ k, V'.ownBlock = some k → V.ownBlock = some k ∨ k = w.heap.size) : RowI w' B q V' (k.app g) := by
  have hk : Keep (see (Bes B q V) w) (see (Bes B q V') w') := keep_see fun b o v h1 h2 => by
    have hb := inHeap h2
    refine ⟨⟨h1.1, h1.2.1, fun e => ?_⟩, ?_⟩
    · rcases hat b e with h | h
      · exact h1.2.2 h
      · omega
    · rw [grown_cell hg hb h1.2.2]; exact h2
  refine ⟨fun e => ?_, xs ++ news, by rw [Fo.app_len]; exact ho, (hv.keep hk k xs).app k g xs news (hn.keep hk g news)⟩
  rcases hat q e with h | h
  · exact hq h
  · omega
/-- The row as a slice of items. -/
theorem RowI.isK {w : World} {B q : Nat} {V : Value} {k : Fo} (h : RowI w B q V k) : ∃ a c, V = .slice a k.len c ∧ IsK (see (fun b => B ≤ b) w) a k.len c k := by
  obtain ⟨_, xs, h1, h2⟩ := h
  have hc := @World.ownsRow.cells w B 25 3 V k.len xs h1
  rcases h1.2 with ⟨e1, e2⟩ | ⟨g, cap, cur, e1, e2, e3, e4, e5, _, _⟩
  · exact ⟨none, 0, by rw [e1, e2], rfl, by omega, by decide, fun _ => rfl, .inl e2⟩
  · refine ⟨some ⟨g, 0, none⟩, cap, e1, rfl, e4, e5, fun e => (by cases e), .inr ⟨g, 0, rfl, ?_⟩⟩
    refine IsV.fo k xs g 0 (h2.keep (keep_mono fun b _ h => h.1) k xs) fun j u hu => ?_
    have h5 := hc (g := g) (by rw [e1]; rfl) j u hu
    rw [add_at] at h5
    rw [see_in (show B ≤ g from e2)]
    exact h5
theorem RowI.drew {w : World} {B q : Nat} {V : Value} {k : Fo} (h : RowI w B q V k) : RowI w.drew B q V k := by
  obtain ⟨h0, xs, h1, h2⟩ := h
  exact ⟨h0, xs, h1, h2.keep (keep_see (S := Bes B q V) (T := Bes B q V) (w := w) (w' := w.drew) fun b o v g1 g2 => ⟨g1, g2⟩) k xs⟩
/-- An item that is written into new memory, as the row's next one. -/
theorem it_news {w : World} {S : Nat → Prop} {l : Bool} {bs : List Bt} {k : Fo} {a a' : Option Addr} {n c n' c' : Nat} (h1 : IsB (see S w) a n c bs) (h2 : IsK (see S w) a' n' c' k) : IsV (see S w) (.cons l bs k .nil) [.bool l, .slice a n c, .slice a' n' c'] :=
  ⟨a, n, c, a', n', c', [], rfl, h1, h2, rfl⟩
theorem three_new (w : World) (x y z : Value) (t : TypeId) : ∀ j u, [x, y, z][j]? = some u → (w.alloc (.cells #[x, y, z] t)).cell? ((⟨w.heap.size, 0, none⟩ : Addr).add j) = some u := by
  intro j u hu
  rw [add_at]
  match j with
  | 0 => simp at hu; subst hu; simp
  | 1 => simp at hu; subst hu; simp
  | 2 => simp at hu; subst hu; simp
  | j + 3 => simp at hu
/-- append of one item in a list of operations. -/
theorem wpList_appI {w : World} {ops : Array Oper} {rest : List Oper} {o : Oper} {a : Act} {Q : Exit → Act → World → Prop} (hgd : o.guard = none) (s x : Operand)
    (ho : o.op = .call { callee := .builtin .append, args := #[s, x], argTypes := #[23, 23] }) (B q : Nat) (V : Value) (k : Fo) (hs : a.eval s = V) (hr : RowI w B q V k) (hB : B ≤ w.heap.size) (hqs : q < w.heap.size)
    (ad : Addr) (l : Bool) (bs : List Bt) (kk : Fo) (va vb : Value) (c : Nat) (hx : a.eval x = .slice (some ad) 1 c) (hv : IsV (see (Bes B q V) w) (.cons l bs kk .nil) [.bool l, va, vb]) (hc : ∀ j u, [.bool l, va, vb][j]? = some u → w.cell? (ad.add j) = some u)
    (hlen : k.len + 1 ≤ 1073741824)
    (h : ∀ V' w', RowI w' B q V' (k.app (.cons l bs kk .nil)) → w.grownBy w' V.ownBlock → (∀ k, V'.ownBlock = some k → V.ownBlock = some k ∨ k = w.heap.size) → wpList Tryd.prog ops Q rest (a.put o.dst V') w') : wpList Tryd.prog ops Q (o :: rest) a w := by
  obtain ⟨hq, xs, h1, h2⟩ := hr
  obtain ⟨i, hi⟩ := it1
  exact wpList_append_at w hgd s x 23 ho B 25 i _ 3 56 undK hi rfl (by decide) V k.len xs hs h1 ad 1 c _ hx rfl hc (IsV.ones _ _ hv) (by unfold maxLen; omega) (by omega) hB
    fun V' w' g1 g2 g3 => h V' w' (RowI.grow hq hqs h2 hv g1 g2 g3) g2 g3
/-- The same as one operation. -/
theorem wp_appI {w : World} {o : Oper} {a : Act} {K : Act → World → Prop} {Q : Exit → Act → World → Prop} (d : Option Tmp) (s x : Operand) (hd : o.dst = d)
    (ho : o.op = .call { callee := .builtin .append, args := #[s, x], argTypes := #[23, 23] }) (B q : Nat) (V : Value) (k : Fo) (hs : a.eval s = V) (hr : RowI w B q V k) (hB : B ≤ w.heap.size) (hqs : q < w.heap.size)
    (ad : Addr) (l : Bool) (bs : List Bt) (kk : Fo) (va vb : Value) (c : Nat) (hx : a.eval x = .slice (some ad) 1 c) (hv : IsV (see (Bes B q V) w) (.cons l bs kk .nil) [.bool l, va, vb]) (hc : ∀ j u, [.bool l, va, vb][j]? = some u → w.cell? (ad.add j) = some u)
    (hlen : k.len + 1 ≤ 1073741824)
    (h : ∀ V' w', RowI w' B q V' (k.app (.cons l bs kk .nil)) → w.grownBy w' V.ownBlock → (∀ k, V'.ownBlock = some k → V.ownBlock = some k ∨ k = w.heap.size) → K (a.put d V') w') : Oper.wp Tryd.prog o a w K Q := by
  obtain ⟨hq, xs, h1, h2⟩ := hr
  obtain ⟨i, hi⟩ := it1
  obtain ⟨v', w', hr, g1, g2, _, g3⟩ := run_append_at (P := Tryd.prog) w B 23 o.type 25 i _ 3 56 undK hi.1 hi.2.1 hi.2.2.1 hi.2.2.2 rfl (by decide) V k.len xs h1 ad 1 c _ rfl hc (IsV.ones _ _ hv) (by unfold maxLen; omega) (by omega) hB
  subst hd
  have hh := h _ _ (RowI.grow hq hqs h2 hv g1 g2 g3) g2 g3
  unfold Oper.wp execOp
  simp only [ho, resolve, invoke, builtin, Sem.run_bind, Sem.run_pure, Result.andThen_ok, List.map_toArray, List.map_cons, List.map_nil, hs, hx, hr]
  exact hh
end Rl
end Go.Proofs.YthlmjcochpodgaaDoor
namespace Go.Proofs.YthlmjcochpodgaaDoor
set_option linter.unusedVariables false
namespace Rl
def glue (acc : Fo) : Rn → Rn
  | .bad p w => .bad p w
  | .ok r => .ok (acc.app r)
theorem glue_nil : ∀ r : Rn, glue .nil r = r
  | .bad _ _ => rfl
  | .ok _ => rfl
theorem glue_glue (a b : Fo) : ∀ r : Rn, glue a (glue b r) = glue (a.app b) r
  | .bad _ _ => rfl
  | .ok r => by show Rn.ok (a.app (b.app r)) = Rn.ok ((a.app b).app r); rw [Fo.app_app]
theorem items_end {b : List Bt} {f i e d : Nat} (h : e ≤ i) : items b (f + 1) i e d = .ok .nil := by unfold items; rw [if_pos h]
theorem items_bad {b : List Bt} {f i e d p : Nat} {w : Int} (h : i < e) (ho : one b f i e d = .bad p w) : items b (f + 1) i e d = .bad p w := by
  unfold items; rw [if_neg (by omega), ho]
theorem items_ok {b : List Bt} {f i e d j : Nat} {l : Bool} {x : List Bt} {k : Fo} (h : i < e) (ho : one b f i e d = .ok l x k j) : items b (f + 1) i e d = glue (.cons l x k .nil) (items b f j e d) := by
  conv => lhs; unfold items
  rw [if_neg (by omega), ho]
  cases hh : items b f j e d <;> simp only [hh] <;> rfl
theorem one_deep {b : List Bt} {f i e d : Nat} (h : 16 ≤ d) : one b (f + 1) i e d = .bad i 13 := by unfold one; rw [if_pos h]
theorem one_bad {b : List Bt} {f i e d : Nat} {w : Int} (h : d < 16) (hh : hd b i e = .bad w) : one b (f + 1) i e d = .bad i w := by unfold one; rw [if_neg (by omega), hh]
theorem one_text {b : List Bt} {f i e d s n : Nat} (h : d < 16) (hh : hd b i e = .ok false s n) : one b (f + 1) i e d = .ok false (slc b (i + s) n) .nil (i + s + n) := by unfold one; rw [if_neg (by omega), hh]
def toOne (j : Nat) : Rn → R1
  | .bad p w => .bad p w
  | .ok k => .ok true [] k j
theorem one_list {b : List Bt} {f i e d s n : Nat} (h : d < 16) (hh : hd b i e = .ok true s n) : one b (f + 1) i e d = toOne (i + s + n) (items b f (i + s) (i + s + n) (d + 1)) := by
  conv => lhs; unfold one
  rw [if_neg (by omega), hh]
  cases h2 : items b f (i + s) (i + s + n) (d + 1) <;> simp only [h2] <;> rfl
/-- A list's head takes a byte at least. -/
theorem hd_skip {b : List Bt} {i e s n : Nat} (h : hd b i e = .ok true s n) : 1 ≤ s := by
  unfold hd hdL at h
  repeat' split at h
  all_goals first
    | (injection h with h1 h2 h3; omega)
    | cases h
theorem one_next {b : List Bt} {f i e d j : Nat} {l : Bool} {x : List Bt} {k : Fo} (hi : i < e) (he : e ≤ b.length) (h : one b f i e d = .ok l x k j) : i < j ∧ j ≤ e :=
  let r := (read_form b f).1 i e d l x k j hi he h
  ⟨r.1, r.2.1⟩
end Rl
end Go.Proofs.YthlmjcochpodgaaDoor
namespace Go.Proofs.YthlmjcochpodgaaDoor
open Go.ChangeShapes Go.WideShapes Go.Deep Go.RowKit
set_option linter.unusedVariables false
set_option linter.unusedSimpArgs false
namespace Rl
/-- A box of three cells that may be written. -/
structure Box3 (w : World) (q : Nat) (a b c : Value) : Prop where
  k0 : w.cell? ⟨q, 0, none⟩ = some a
  k1 : w.cell? ⟨q, 1, none⟩ = some b
  k2 : w.cell? ⟨q, 2, none⟩ = some c
  f0 : w.frozen? ⟨q, 0, none⟩ = false
  f1 : w.frozen? ⟨q, 1, none⟩ = false
  f2 : w.frozen? ⟨q, 2, none⟩ = false
theorem Box3.keep {w w' : World} {q : Nat} {a b c : Value} (h : Box3 w q a b c) (hb : Below w.heap.size w w') : Box3 w' q a b c :=
  have hl := inHeap h.k0
  ⟨keep1 hb h.k0, keep1 hb h.k1, keep1 hb h.k2, keepF hb hl h.f0, keepF hb hl h.f1, keepF hb hl h.f2⟩
theorem Box3.grown {w w' : World} {row : Option Nat} {q : Nat} {a b c : Value} (h : Box3 w q a b c) (hg : w.grownBy w' row) (hr : row ≠ some q) : Box3 w' q a b c :=
  have hl := inHeap h.k0
  ⟨(grown_cell hg hl hr).trans h.k0, (grown_cell hg hl hr).trans h.k1, (grown_cell hg hl hr).trans h.k2, (grown_frozen hg hl hr).trans h.f0, (grown_frozen hg hl hr).trans h.f1, (grown_frozen hg hl hr).trans h.f2⟩
theorem Box3.new (w : World) (a b c : Value) (t : TypeId) : Box3 (w.alloc (.cells #[a, b, c] t)) w.heap.size a b c := ⟨by simp, by simp, by simp, by simp, by simp, by simp⟩
abbrev put3 (w : World) (q : Nat) (a b c : Value) : World := ((w.setCell ⟨q, 0, none⟩ a).setCell ⟨q, 1, none⟩ b).setCell ⟨q, 2, none⟩ c
theorem Box3.put {w : World} {q : Nat} {a b c : Value} (h : Box3 w q a b c) (a' b' c' : Value) : Box3 (put3 w q a' b' c') q a' b' c' := by
  have c1 : (w.setCell ⟨q, 0, none⟩ a').cell? ⟨q, 1, none⟩ = some b := by rw [World.cell?_setCell_other _ _ _ _ (by simp)]; exact h.k1
  have c2 : ((w.setCell ⟨q, 0, none⟩ a').setCell ⟨q, 1, none⟩ b').cell? ⟨q, 2, none⟩ = some c := by
    rw [World.cell?_setCell_other _ _ _ _ (by simp), World.cell?_setCell_other _ _ _ _ (by simp)]; exact h.k2
  refine ⟨?_, ?_, World.cell?_setCell_same _ _ _ c2, by simpa using h.f0, by simpa using h.f1, by simpa using h.f2⟩
  · rw [World.cell?_setCell_other _ _ _ _ (by simp), World.cell?_setCell_other _ _ _ _ (by simp)]; exact World.cell?_setCell_same _ _ _ h.k0
  · rw [World.cell?_setCell_other _ _ _ _ (by simp)]; exact World.cell?_setCell_same _ _ _ c1
theorem put3_other (w : World) (q : Nat) (a b c : Value) {p o : Nat} (h : p ≠ q) : (put3 w q a b c).cell? ⟨p, o, none⟩ = w.cell? ⟨p, o, none⟩ := by
  rw [World.cell?_setCell_other _ _ _ _ (fun e => h (congrArg Addr.block e).symm), World.cell?_setCell_other _ _ _ _ (fun e => h (congrArg Addr.block e).symm), World.cell?_setCell_other _ _ _ _ (fun e => h (congrArg Addr.block e).symm)]
theorem put3_below {B : Nat} {w0 w : World} {q : Nat} {a b c : Value} (h : Below B w0 w) (hq : B ≤ q) : Below B w0 (put3 w q a b c) := ((h.setCell hq _).setCell hq _).setCell hq _
theorem put3_see {S : Nat → Prop} {w : World} {q : Nat} {a b c : Value} : Keep (see (fun b => S b ∧ b ≠ q) w) (see S (put3 w q a b c)) :=
  keep_see fun p o v h1 h2 => ⟨h1.1, by rw [put3_other _ _ _ _ _ h1.2]; exact h2⟩
theorem ba (w : World) (o : Obj) : Below w.heap.size w (w.alloc o) := (Below.refl _ _).alloc (Nat.le_refl _) _
/-- A fault at a place, in memory that is not older than B. -/
def IsFlt (B : Nat) (w : World) (p : Nat) (k : Int) (v : Value) : Prop := ∃ q, v = .iface 65 (.pointer (some ⟨q, 0, none⟩)) ∧ B ≤ q ∧ w.cell? ⟨q, 0, none⟩ = some (.int .i64 p) ∧ w.cell? ⟨q, 1, none⟩ = some (eN k)
theorem IsFlt.next {B : Nat} {w w' : World} {p : Nat} {k : Int} {v : Value} (h : IsFlt B w p k v) (hb : Below w.heap.size w w') : IsFlt B w' p k v := by
  obtain ⟨q, h1, h2, h3, h4⟩ := h
  exact ⟨q, h1, h2, keep1 hb h3, keep1 hb h4⟩
def zIt : Value := .agg #[.bool false, .slice none 0 0, .slice none 0 0]
/-- What item answers. -/
def itOut (B : Nat) (w : World) : R1 → Ending → Prop
  | .bad p k, e => ∃ v, e = .returned (.tuple #[zIt, .int .i64 0, v]) ∧ IsFlt B w p k v
  | .ok l x k j, e => ∃ a n c a' n' c', e = .returned (.tuple #[.agg #[.bool l, .slice a n c, .slice a' n' c'], .int .i64 j, .nilIface]) ∧ IsB (see (fun b => B ≤ b) w) a n c x ∧ IsK (see (fun b => B ≤ b) w) a' n' c' k
set_option maxHeartbeats 2000000 in
set_option maxRecDepth 100000 in
theorem item_deep (w : World) (V : Value) (i d : Nat) (hd : 16 ≤ d) :
    Calls Tryd.prog 31 #[V, .int .i64 i, .int .i64 d] w fun e w' => (∃ v, e = .returned (.tuple #[zIt, .int .i64 0, v]) ∧ IsFlt w.heap.size w' i 13 v) ∧ Below w.heap.size w w' := by
  have h1 : (16 : Int) ≤ d := by omega
  clear hd
  go_enter Tryd.func31, Tryd.ntmps31
  go_wp2_with (fail)
  refine bodyPost_ret (v := .tuple #[zIt, .int .i64 0, .iface 65 (.pointer (some ⟨w.heap.size + 1, 0, none⟩))]) (by simp [results, Tryd.results31, go_sem, zIt]) rfl ⟨⟨_, rfl, w.heap.size + 1, rfl, by omega, by simp, by simp [eN]⟩, ?_⟩
  exact ((Below.refl _ _).alloc (Nat.le_refl _) _).alloc (by simp) _
/-- The walk behind a bad head. -/
theorem item_bad (w : World) (b o i e c d : Nat) (hd : d < 16) (hi : i < e) (hc : e ≤ c) (k : Int)
    (hh : ∀ y, Below w.heap.size w y → Calls Tryd.prog 43 #[.slice (some ⟨b, o + i, none⟩) (e - i) (c - i)] y fun r w' => (∃ l : Bool, r = .returned (.tuple #[hv l 0 0, eN k])) ∧ Below y.heap.size y w') :
    Calls Tryd.prog 31 #[.slice (some ⟨b, o, none⟩) e c, .int .i64 i, .int .i64 d] w fun r w' => (∃ v, r = .returned (.tuple #[zIt, .int .i64 0, v]) ∧ IsFlt w.heap.size w' i k v) ∧ Below w.heap.size w w' := by
  have h1 : decide ((16 : Int) ≤ d) = false := by simp; omega
  have h2 : (i : Int) ≤ e := by omega
  have h3 : (e : Int) ≤ c := by omega
  have h4 : ¬ c = i := by omega
  have HH := Lib.hid hh
  have HB0 : Hid (Below w.heap.size w (w.alloc (.cells #[.bool false, .slice none 0 0, .slice none 0 0] 25))) := Lib.hid ((Below.refl _ _).alloc (Nat.le_refl _) _)
  clear hd hh
  go_enter Tryd.func31, Tryd.ntmps31
  go_wp2_with (go_at_call 43; (with_reducible refine (HH.out _ HB0.out).mono ?_); rintro r y1 ⟨⟨l, rfl⟩, hb⟩; have H1 := Lib.hid (bl HB0.out hb)
               obtain ⟨k0, k1, k2, f0, f1, f2⟩ := (((Box3.new w (.bool false) (.slice none 0 0) (.slice none 0 0) 25).keep hb).keep (ba y1 (.cells #[.bool l, .int .i64 0, .int .i64 0] 83))).keep (ba _ (.cells #[.int .i64 i, .iface 61 (.int .i64 k)] 67))
               unfold hv eN; clear hb HH)
  have X := (Box3.mk k0 k1 k2 f0 f1 f2).put (.bool false) (.slice none 0 0) (.slice none 0 0)
  have hs := H1.out.size
  refine bodyPost_ret (v := .tuple #[zIt, .int .i64 0, .iface 65 (.pointer (some ⟨y1.heap.size + 1, 0, none⟩))]) (by simp [results, Tryd.results31, go_sem, zIt, X.k0, X.k1, X.k2]) rfl ⟨⟨_, rfl, y1.heap.size + 1, rfl, by omega, ?_, ?_⟩, put3_below ((H1.out.alloc H1.out.size _).alloc (by simp; omega) _) (Nat.le_refl _)⟩
  · rw [put3_other _ _ _ _ _ (by have := inHeap k0; have := H1.out.size; simp at *; omega)]; simp
  · rw [put3_other _ _ _ _ _ (by have := inHeap k0; have := H1.out.size; simp at *; omega)]; simp [eN]
end Rl
end Go.Proofs.YthlmjcochpodgaaDoor
namespace Go.Proofs.YthlmjcochpodgaaDoor
open Go.ChangeShapes Go.WideShapes Go.Deep Go.RowKit
set_option linter.unusedVariables false
set_option linter.unusedSimpArgs false
namespace Rl
theorem Own.isBs {w : World} {B : Nat} {V : Value} {bs : List Bt} (h : Own w B V bs) : ∃ a c, V = .slice a bs.length c ∧ IsB (see (fun b => B ≤ b) w) a bs.length c bs := by
  obtain ⟨a, c, e, h1, h2, h3, h4, h5⟩ := h.isB
  refine ⟨a, c, e, h1, h2, h3, h4, h5.imp id ?_⟩
  rintro ⟨b, o, rfl, h6⟩
  have hb := h.base (k := b) (by rw [e]; rfl)
  exact ⟨b, o, rfl, fun i x hx => by rw [see_in (show B ≤ b from hb.1)]; exact h6 i x hx⟩
theorem put3_up (w : World) (B : Nat) (a b c : Value) : Keep (see (fun b => B + 1 ≤ b) w) (see (fun b => B ≤ b) (put3 w B a b c)) :=
  keep_see fun p o v h1 h2 => ⟨by omega, by rw [put3_other _ _ _ _ _ (by omega)]; exact h2⟩
theorem slc_le (bs : List Bt) (p n : Nat) : (slc bs p n).length ≤ n := by simp [slc]; omega
theorem sub_in {w : World} {b o e c p q n : Nat} {bs : List Bt} (h : IsB w (some ⟨b, o, none⟩) e c bs) (hq : p + n = q) (he : q ≤ e) : IsB w (some ⟨b, o + p, none⟩) (q - p) (c - p) (slc bs p n) := by
  rw [show q - p = n by omega]; exact h.sub (by omega)
theorem sub_end {w : World} {b o e c p q n : Nat} {bs : List Bt} (h : IsB w (some ⟨b, o, none⟩) e c bs) (hc : c = p) (hq : p + n = q) (he : q ≤ e) : IsB w (some ⟨b, o, none⟩) (q - p) 0 (slc bs p n) := by
  have h2 := h.2.1
  have h3 := h.2.2.1
  have hn : n = 0 := by omega
  subst hn
  have e1 : slc bs p 0 = [] := by simp [slc]
  rw [e1]
  exact ⟨by show q - p = 0; omega, by omega, by omega, fun e => (by cases e), .inl (by omega)⟩
set_option maxHeartbeats 2000000 in
set_option maxRecDepth 100000 in
theorem item_text (w : World) (b o i e c d s n : Nat) (bs : List Bt) (hB : IsB w (some ⟨b, o, none⟩) e c bs) (hd : d < 16) (hi : i < e) (he : e ≤ 4096) (hsn : i + s + n ≤ e)
    (hh : ∀ y, Below w.heap.size w y → Calls Tryd.prog 43 #[.slice (some ⟨b, o + i, none⟩) (e - i) (c - i)] y fun r w' => r = .returned (.tuple #[hv false s n, .nilIface]) ∧ Below y.heap.size y w') :
    Calls Tryd.prog 31 #[.slice (some ⟨b, o, none⟩) e c, .int .i64 i, .int .i64 d] w fun r w' => itOut w.heap.size w' (.ok false (slc bs (i + s) n) .nil (i + s + n)) r ∧ Below w.heap.size w w' := by
  have h1 : decide ((16 : Int) ≤ d) = false := by simp; omega
  have h2 : (i : Int) ≤ e := by omega
  have hc := hB.2.1
  have h3 : (e : Int) ≤ c := by omega
  have h4 : ¬ c = i := by omega
  have HH := Lib.hid hh
  have HB0 : Hid (Below w.heap.size w (w.alloc (.cells #[.bool false, .slice none 0 0, .slice none 0 0] 25))) := Lib.hid ((Below.refl _ _).alloc (Nat.le_refl _) _)
  have hw1 : wrap64 ((i : Int) + s) = ((i + s : Nat) : Int) := by unfold wrap64; omega
  have hw2 : wrap64 (((i + s : Nat) : Int) + n) = ((i + s + n : Nat) : Int) := by unfold wrap64; omega
  have hq2 : ((i + s + n : Nat) : Int) ≤ e := by omega
  have hq1 : ((i + s : Nat) : Int) ≤ ((i + s + n : Nat) : Int) := by omega
  have HB := Lib.hid hB
  have HN := Lib.hid (And.intro hsn he)
  clear hd hh hB hsn hc hi he
  generalize hp : i + s = p at *
  generalize hq : p + n = q at *
  have HQ := Lib.hid (And.intro hp hq)
  clear hp hq
  go_enter Tryd.func31, Tryd.ntmps31
  go_upto_region 9 with (go_at_call 43; (with_reducible refine (HH.out _ HB0.out).mono ?_); rintro r y1 ⟨rfl, hb⟩; have H1 := Lib.hid (bl HB0.out hb)
                         have X1 := Lib.hid (((Box3.new w (.bool false) (.slice none 0 0) (.slice none 0 0) 25).keep hb).keep (ba y1 (.cells #[.bool false, .int .i64 s, .int .i64 n] 83)))
                         unfold hv; clear hb HH)
  rw [hw1, hw2]
  clear hw1 hw2 h1 h4
  by_cases hcp : c = p
  · have HC := Lib.hid (And.intro hcp (show q = p by have := HN.out; have := HQ.out; have := HB.out.2.1; omega))
    obtain ⟨k0, k1, k2, f0, f1, f2⟩ := X1.out
    have hqp : q = p := HC.out.2
    clear hq1 hq2 h3
    subst hqp
    subst hcp
    go_wp2_with (fail)
    have X := (Box3.mk k0 k1 k2 f0 f1 f2).put (.bool false) (.slice none 0 0) (.slice none 0 0)
    have hn : n = 0 := by have := HQ.out; omega
    have e1 : slc bs c n = [] := by simp [slc, hn]
    rw [e1]
    refine bodyPost_ret (v := .tuple #[.agg #[.bool false, .slice none 0 0, .slice none 0 0], .int .i64 c, .nilIface]) (by simp [results, Tryd.results31, go_sem, X.k0, X.k1, X.k2]) rfl ⟨⟨none, 0, 0, none, 0, 0, rfl, ⟨rfl, Nat.le_refl _, by decide, fun _ => rfl, .inl rfl⟩, rfl, Nat.le_refl _, by decide, fun _ => rfl, .inl rfl⟩, put3_below (H1.out.alloc H1.out.size _) (Nat.le_refl _)⟩
  · skip
    go_wp2_with (refine wpList_appB rfl (.const (.slice none 0 0)) (.tmp 54) rfl (w.heap.size + 1) (.slice none 0 0) [] rfl (Own.nil _ _) _ (q - p) _ (slc bs p n) rfl (IsB.keep (w := w) (sub_in HB.out HQ.out.2 HN.out.1) (keep_below (H1.out.alloc H1.out.size _))) (by have := HN.out; have := slc_le bs p n; have := HQ.out; simp; omega) (by have := inHeap X1.out.k0; simp at this; simp; omega) ?_
                 intro V2 y2 hO2 hg hat
                 rw [List.nil_append] at hO2
                 obtain ⟨a2, c2, rfl, hB2⟩ := hO2.isBs
                 have HO2 := Lib.hid hB2
                 have H2 := Lib.hid ((H1.out.alloc H1.out.size _).grown hg (by have := H1.out.size; simp; omega) (fun k hk => by cases hk))
                 obtain ⟨k0, k1, k2, f0, f1, f2⟩ := X1.out.grown hg (by simp [Value.ownBlock])
                 clear hO2 hB2 hg hat)
    have X := (Box3.mk k0 k1 k2 f0 f1 f2).put (.bool false) (.slice a2 (slc bs p n).length c2) (.slice none 0 0)
    refine bodyPost_ret (v := .tuple #[.agg #[.bool false, .slice a2 (slc bs p n).length c2, .slice none 0 0], .int .i64 q, .nilIface]) (by simp [results, Tryd.results31, go_sem, X.k0, X.k1, X.k2]) rfl ⟨⟨a2, _, c2, none, 0, 0, rfl, HO2.out.keep (put3_up _ _ _ _ _), rfl, Nat.le_refl _, by decide, fun _ => rfl, .inl rfl⟩, put3_below H2.out (Nat.le_refl _)⟩
end Rl
end Go.Proofs.YthlmjcochpodgaaDoor
namespace Go.Proofs.YthlmjcochpodgaaDoor
open Go.ChangeShapes Go.WideShapes Go.Deep Go.RowKit
set_option linter.unusedVariables false
set_option linter.unusedSimpArgs false
namespace Rl
theorem new_bes {y w' w2 : World} {B q : Nat} {V : Value} {k : Fo} (hr : RowI y B q V k) (hq : q < y.heap.size) (hB : B ≤ y.heap.size) (hb : Below w'.heap.size w' w2) : Keep (see (fun b => y.heap.size ≤ b) w') (see (Bes B q V) w2) :=
  keep_see fun b o v h1 h2 => ⟨⟨by omega, by omega, fun e => by have := (hr.base e).2; omega⟩, keep1 hb h2⟩
theorem three_next (w : World) (o : Obj) (x y z : Value) (t : TypeId) : ∀ j u, [x, y, z][j]? = some u → ((w.alloc o).alloc (.cells #[x, y, z] t)).cell? ((⟨w.heap.size + 1, 0, none⟩ : Addr).add j) = some u := by
  have h := three_new (w.alloc o) x y z t
  rw [show (w.alloc o).heap.size = w.heap.size + 1 by simp] at h
  exact h
/-- What the loop of a list keeps. -/
structure Lst (w : World) (xq : Nat) (V : Value) (acc : Fo) (y : World) : Prop where
  below : Below w.heap.size w y
  res : Box3 y w.heap.size (.bool false) (.slice none 0 0) (.slice none 0 0)
  box : Box3 y xq (.bool true) (.slice none 0 0) V
  row : RowI y (w.heap.size + 1) xq V acc
  ne : w.heap.size < xq
theorem Lst.next {w : World} {xq : Nat} {V : Value} {acc : Fo} {y y' : World} (h : Lst w xq V acc y) (hb : Below y.heap.size y y') : Lst w xq V acc y' :=
  ⟨bl h.below hb, h.res.keep hb, h.box.keep hb, h.row.next hb, h.ne⟩
theorem RowI.set {w : World} {B q : Nat} {V : Value} {k : Fo} {v : Value} {i : Nat} (h : RowI w B q V k) : RowI (w.setCell ⟨q, i, none⟩ v) B q V k := by
  obtain ⟨h0, xs, h1, h2⟩ := h
  refine ⟨h0, xs, ?_, h2.keep (keep_see fun b o x g1 g2 => ⟨g1, ?_⟩) k xs⟩
  · refine ⟨h1.1, h1.2.imp id ?_⟩
    rintro ⟨g, cap, cur, e1, e2, e3, e4⟩
    refine ⟨g, cap, cur, e1, e2, ?_, e4⟩
    rw [Below.heap_setCell _ _ _ _ (show g ≠ q from fun e => h0 (by rw [e1, ← e]; rfl))]; exact e3
  · rw [World.cell?_setCell_other _ _ _ _ (fun e => g1.2.1 (congrArg Addr.block e).symm)]; exact g2
theorem Lst.put {w : World} {xq : Nat} {V V' : Value} {acc acc' : Fo} {y y' : World} (h : Lst w xq V acc y) (hg : y.grownBy y' V.ownBlock) (hr : RowI y' (w.heap.size + 1) xq V' acc') : Lst w xq V' acc' (y'.setCell ⟨xq, 2, none⟩ V') := by
  have hx := h.box.grown hg h.row.1
  have hne := h.ne
  have hq : V.ownBlock ≠ some w.heap.size := fun e => by have := (h.row.base e).1; omega
  have hs := h.res.grown hg hq
  refine ⟨(h.below.grown hg h.below.size (fun k hk => by have := (h.row.base hk).1; omega)).setCell (Nat.le_of_lt hne) _, ?_, ?_, hr.set, hne⟩
  · have ho : ∀ i, (y'.setCell ⟨xq, 2, none⟩ V').cell? ⟨w.heap.size, i, none⟩ = y'.cell? ⟨w.heap.size, i, none⟩ := fun i => World.cell?_setCell_other _ _ _ _ (fun e => by have := congrArg Addr.block e; simp at this; omega)
    exact ⟨(ho 0).trans hs.k0, (ho 1).trans hs.k1, (ho 2).trans hs.k2, by simpa using hs.f0, by simpa using hs.f1, by simpa using hs.f2⟩
  · exact ⟨(World.cell?_setCell_other _ _ _ _ (by simp)).trans hx.k0, (World.cell?_setCell_other _ _ _ _ (by simp)).trans hx.k1, World.cell?_setCell_same _ _ _ hx.k2, by simpa using hx.f0, by simpa using hx.f1, by simpa using hx.f2⟩
theorem w64 {a b c : Nat} (h : a + b = c) (hc : c ≤ 4096) : wrap64 ((a : Int) + b) = (c : Int) := by subst h; unfold wrap64; omega
set_option maxHeartbeats 4000000 in
set_option maxRecDepth 100000 in
theorem item_list (w : World) (b o i e c d s n F p q : Nat) (bs : List Bt) (hc : e ≤ c) (hd : d < 16) (hi : i < e) (he : e ≤ bs.length) (hN : bs.length ≤ 4096) (hp : i + s = p) (hq : p + n = q) (hqe : q ≤ e) (hF : 2 * (q - p) + 2 ≤ F)
    (hh : ∀ y, Below w.heap.size w y → Calls Tryd.prog 43 #[.slice (some ⟨b, o + i, none⟩) (e - i) (c - i)] y fun r w' => r = .returned (.tuple #[hv true s n, .nilIface]) ∧ Below y.heap.size y w')
    (ih : ∀ (y : World) (j f' : Nat), Below w.heap.size w y → j < q → 2 * (q - j) + 1 ≤ f' → f' < F → Calls Tryd.prog 31 #[.slice (some ⟨b, o, none⟩) q c, .int .i64 j, .int .i64 (d + 1 : Nat)] y fun r w' => itOut y.heap.size w' (one bs f' j q (d + 1)) r ∧ Below y.heap.size y w') :
    Calls Tryd.prog 31 #[.slice (some ⟨b, o, none⟩) e c, .int .i64 i, .int .i64 d] w fun r w' => itOut w.heap.size w' (toOne q (items bs F p q (d + 1))) r ∧ Below w.heap.size w w' := by
  have h1 : decide ((16 : Int) ≤ d) = false := by simp; omega
  have h2 : (i : Int) ≤ e := by omega
  have h3 : (e : Int) ≤ c := by omega
  have h4 : ¬ c = i := by omega
  have HH := Lib.hid hh
  have HI := Lib.hid ih
  have HB0 : Hid (Below w.heap.size w (w.alloc (.cells #[.bool false, .slice none 0 0, .slice none 0 0] 25))) := Lib.hid ((Below.refl _ _).alloc (Nat.le_refl _) _)
  have HN := Lib.hid (show p ≤ q ∧ q ≤ bs.length ∧ q ≤ c ∧ q ≤ 4096 ∧ i < e ∧ q ≤ e by omega)
  have hd1 : d + 1 ≤ 4096 := by omega
  have hw1 : wrap64 ((i : Int) + s) = (p : Int) := w64 hp (Nat.le_trans HN.out.1 HN.out.2.2.2.1)
  have hw2 : wrap64 ((p : Int) + n) = (q : Int) := w64 hq HN.out.2.2.2.1
  have hw3 : wrap64 ((d : Int) + 1) = ((d + 1 : Nat) : Int) := w64 rfl hd1
  have HF := Lib.hid hF
  have HW3 := Lib.hid hw3
  clear hd1 hd hh ih hi he hN hp hq hqe hF hc hw3
  go_enter Tryd.func31, Tryd.ntmps31
  go_upto_region 11 with (go_at_call 43; (with_reducible refine (HH.out _ HB0.out).mono ?_); rintro r y1 ⟨rfl, hb⟩; have H1 := Lib.hid (bl HB0.out hb)
                          have X1 := Lib.hid (((Box3.new w (.bool false) (.slice none 0 0) (.slice none 0 0) 25).keep hb).keep (ba y1 (.cells #[.bool true, .int .i64 s, .int .i64 n] 83)))
                          unfold hv; clear hb HH)
  rw [hw1, hw2]
  clear hw1 hw2 h1 h4 h2 h3
  have HL : Hid (Lst w (y1.heap.size + 1) (.slice none 0 0) .nil ((y1.alloc (.cells #[.bool true, .int .i64 s, .int .i64 n] 83)).alloc (.cells #[.bool true, .slice none 0 0, .slice none 0 0] 25))) := Lib.hid (by
    have hz := inHeap X1.out.k0
    simp at hz
    have hn := Box3.new (y1.alloc (.cells #[.bool true, .int .i64 s, .int .i64 n] 83)) (.bool true) (.slice none 0 0) (.slice none 0 0) 25
    simp at hn
    exact ⟨bl (bl H1.out (ba _ _)) (ba _ _), X1.out.keep (ba _ _), hn, RowI.nil _ _ _, by omega⟩)
  generalize (y1.alloc (.cells #[.bool true, .int .i64 s, .int .i64 n] 83)).alloc (.cells #[.bool true, .slice none 0 0, .slice none 0 0] 25) = y2 at *
  clear X1 HB0
  go_loopw [11] (fun t y => ∃ (j f' : Nat) (acc : Fo) (V : Value), t = .int .i64 j ∧ Hid (j ≤ q ∧ acc.len ≤ j ∧ 2 * (q - j) + 2 ≤ f' ∧ f' ≤ F ∧ items bs F p q (d + 1) = glue acc (items bs f' j q (d + 1)) ∧ Lst w (y1.heap.size + 1) V acc y)) (fun t _ => q - (intOf t).toNat)
  case atStart => exact ⟨p, F, .nil, _, rfl, Lib.hid ⟨HN.out.1, Nat.zero_le _, HF.out, Nat.le_refl _, (glue_nil _).symm, HL.out⟩⟩
  case round =>
    obtain ⟨j, f', acc, V, rfl, hp⟩ := hrel
    clear HL HF
    by_cases hlt : (j : Int) < (q : Int)
    · obtain ⟨f', rfl⟩ : ∃ g, f' = g + 1 := ⟨f' - 1, by have := hp.out.2.2.1; omega⟩
      have HC := Lib.hid (HI.out wr j f' hp.out.2.2.2.2.2.below (by omega) (by have := hp.out.2.2.1; omega) (by have := hp.out.2.2.2.1; omega))
      have HJ := Lib.hid (show j < q by omega)
      have hq0 : (0 : Int) ≤ (q : Int) := by omega
      have hq1 : (q : Int) ≤ (c : Int) := by have := HN.out; omega
      cases hone : one bs f' j q (d + 1) with
      | bad p' k =>
        have HE := Lib.hid (show items bs F p q (d + 1) = .bad p' k by rw [hp.out.2.2.2.2.1, items_bad HJ.out hone]; rfl)
        rw [hone] at HC
        clear hone HJ
        have HLs := Lib.hid hp.out.2.2.2.2.2
        clear hp
        go_wp2_with (go_at_call 31; rw [HW3.out]; (with_reducible refine HC.out.mono ?_); rintro r y3 ⟨⟨_, rfl, q2, rfl, hq2, hc1, hc2⟩, hb⟩
                     have HLn := Lib.hid (HLs.out.next hb)
                     have HQ2 := Lib.hid (And.intro hq2 (And.intro hc1 hc2))
                     obtain ⟨k0, k1, k2, f0, f1, f2⟩ := HLn.out.res.keep (ba _ (.cells #[.bool false, .slice none 0 0, .slice none 0 0] 25))
                     unfold zIt
                     clear HC hq2 hc1 hc2 hb)
        have X := (Box3.mk k0 k1 k2 f0 f1 f2).put (.bool false) (.slice none 0 0) (.slice none 0 0)
        have hz := inHeap HLs.out.res.k0
        have hs := HLs.out.below.size
        refine bodyPost_ret (v := .tuple #[zIt, .int .i64 0, .iface 65 (.pointer (some ⟨q2, 0, none⟩))]) (by simp [results, Tryd.results31, go_sem, zIt, X.k0, X.k1, X.k2]) rfl ⟨?_, put3_below (bl HLn.out.below (ba _ _)) (Nat.le_refl _)⟩
        rw [HE.out]
        refine ⟨_, rfl, q2, rfl, Nat.le_trans hs HQ2.out.1, ?_, ?_⟩
        · rw [put3_other _ _ _ _ _ (by have := HQ2.out.1; omega)]; exact keep1 (ba _ _) HQ2.out.2.1
        · rw [put3_other _ _ _ _ _ (by have := HQ2.out.1; omega)]; exact keep1 (ba _ _) HQ2.out.2.2
      | ok l x k j' =>
        rw [hone] at HC
        have hnx := one_next HJ.out HN.out.2.1 hone
        have HE := Lib.hid (show items bs F p q (d + 1) = glue (acc.app (.cons l x k .nil)) (items bs f' j' q (d + 1)) by rw [hp.out.2.2.2.2.1, items_ok HJ.out hone, glue_glue])
        have HP := Lib.hid (show j' ≤ q ∧ (acc.app (.cons l x k .nil)).len ≤ j' ∧ 2 * (q - j') + 2 ≤ f' ∧ f' ≤ F ∧ acc.len + 1 ≤ 1073741824 ∧ q - j' < q - j by
          have h1 := hp.out.1
          have h2 := hp.out.2.1
          have h3 := hp.out.2.2.1
          have h4 := hp.out.2.2.2.1
          have h5 := HN.out.2.2.2.1
          have e1 : (Fo.cons l x k .nil).len = 1 := rfl
          rw [Fo.app_len, e1]
          refine ⟨hnx.2, ?_, ?_, ?_, ?_, ?_⟩ <;> omega)
        have HLs := Lib.hid hp.out.2.2.2.2.2
        clear hp hone HJ hnx
        go_wp2_with (first
          | (go_at_call 31; rw [HW3.out]; (with_reducible refine HC.out.mono ?_); rintro r y3 ⟨⟨a3, n3, c3, a4, n4, c4, rfl, hB3, hK3⟩, hb⟩
             have HB3 := Lib.hid hB3
             have HK3 := Lib.hid hK3
             have HL3 := Lib.hid ((HLs.out.next hb).next (ba _ (.cells #[.bool l, .slice a3 n3 c3, .slice a4 n4 c4] 25)))
             have x2 := HL3.out.box.k2
             clear HC hB3 hK3 hb hlt)
          | (refine wpList_appI rfl (.tmp 78) (.tmp 80) rfl (w.heap.size + 1) (y1.heap.size + 1) V acc rfl (HL3.out.next (ba _ (.cells #[.bool l, .slice a3 n3 c3, .slice a4 n4 c4] 25))).row (by have := inHeap HL3.out.res.k0; simp at this ⊢; omega) (by have := inHeap HL3.out.box.k0; simp at this ⊢; omega) ⟨y3.heap.size + 1, 0, none⟩ l x k (.slice a3 n3 c3) (.slice a4 n4 c4) 1 rfl
               (it_news (HB3.out.keep (new_bes HLs.out.row (inHeap HLs.out.box.k0) (inHeap HLs.out.res.k0) (bl (ba _ _) (ba _ _)))) (HK3.out.keep (new_bes HLs.out.row (inHeap HLs.out.box.k0) (inHeap HLs.out.res.k0) (bl (ba _ _) (ba _ _))))) (three_next _ _ _ _ _ _) HP.out.2.2.2.2.1 ?_
             intro V' y4 hr hg hat
             obtain ⟨a6, c6, rfl, _⟩ := hr.isK
             have HL4 := Lib.hid ((HL3.out.next (ba _ (.cells #[.bool l, .slice a3 n3 c3, .slice a4 n4 c4] 25))).put hg hr)
             have hx4 := ((HL3.out.next (ba _ (.cells #[.bool l, .slice a3 n3 c3, .slice a4 n4 c4] 25))).box.grown hg HL3.out.row.1)
             have x4 := hx4.k2
             have x5 := hx4.f2
             clear hx4 hr hg hat x2 HL3))
        go_roundw
        case rel => exact ⟨j', f', _, _, rfl, Lib.hid ⟨HP.out.1, HP.out.2.1, HP.out.2.2.1, HP.out.2.2.2.1, HE.out, HL4.out⟩⟩
        case measure => exact HP.out.2.2.2.2.2
    · obtain ⟨k0, k1, k2, f0, f1, f2⟩ := hp.out.2.2.2.2.2.res
      obtain ⟨a5, c5, rfl, hK5⟩ := hp.out.2.2.2.2.2.row.isK
      have x0 := hp.out.2.2.2.2.2.box.k0
      have x1 := hp.out.2.2.2.2.2.box.k1
      have x2 := hp.out.2.2.2.2.2.box.k2
      have HE := Lib.hid (show items bs F p q (d + 1) = .ok acc by
        obtain ⟨f', rfl⟩ : ∃ g, f' = g + 1 := ⟨f' - 1, by have := hp.out.2.2.1; omega⟩
        rw [hp.out.2.2.2.2.1, items_end (by omega)]
        show Rn.ok (acc.app .nil) = _
        rw [Fo.app_nil])
      have HB := Lib.hid (And.intro hp.out.2.2.2.2.2.below hK5)
      clear hp hK5
      go_wp2_with (fail)
      have X := (Box3.mk k0 k1 k2 f0 f1 f2).put (.bool true) (.slice none 0 0) (.slice a5 acc.len c5)
      refine bodyPost_ret (v := .tuple #[.agg #[.bool true, .slice none 0 0, .slice a5 acc.len c5], .int .i64 q, .nilIface]) (by simp [results, Tryd.results31, go_sem, X.k0, X.k1, X.k2]) rfl ⟨?_, put3_below HB.out.1 (Nat.le_refl _)⟩
      rw [HE.out]
      exact ⟨none, 0, 0, a5, _, c5, rfl, ⟨rfl, Nat.le_refl _, by decide, fun _ => rfl, .inl rfl⟩, HB.out.2.keep (put3_up _ _ _ _ _)⟩
/-- item reads what stands there. -/
theorem item_walk : ∀ (f : Nat) (w : World) (b o i e c d : Nat) (bs : List Bt), IsB w (some ⟨b, o, none⟩) bs.length c bs → e ≤ bs.length → bs.length ≤ 4096 → i < e → d ≤ 16 → 2 * (e - i) + 1 ≤ f →
    Calls Tryd.prog 31 #[.slice (some ⟨b, o, none⟩) e c, .int .i64 i, .int .i64 d] w fun r w' => itOut w.heap.size w' (one bs f i e d) r ∧ Below w.heap.size w w' := by
  intro f
  induction f using Nat.strongRecOn with
  | _ f ih =>
    intro w b o i e c d bs hB he hN hi hdd hf
    obtain ⟨f, rfl⟩ : ∃ g, f = g + 1 := ⟨f - 1, by omega⟩
    by_cases h16 : 16 ≤ d
    · rw [one_deep h16]
      exact item_deep w _ i d h16
    · have hc := hB.2.1
      have hsub : ∀ y, Below w.heap.size w y → IsB y (some ⟨b, o + i, none⟩) (e - i) (c - i) (slc bs i (e - i)) := fun y hy => (hB.sub (i := i) (m := e - i) (by omega)).keep (keep_below hy)
      have hho : ∀ y, Below w.heap.size w y → Calls Tryd.prog 43 #[.slice (some ⟨b, o + i, none⟩) (e - i) (c - i)] y fun r w' => ∃ v, r = .returned v ∧ hOut (hd bs i e) v ∧ Below y.heap.size y w' := fun y hy => by
        have := headOf_walk y (e - i) (c - i) b (o + i) _ (hsub y hy) (by omega) (by omega)
        rw [hd_slc hi] at this; exact this
      have hBe : IsB w (some ⟨b, o, none⟩) e c (slc bs 0 e) := by
        have := hB.sub (i := 0) (m := e) (by omega)
        simpa using this
      cases hh : hd bs i e with
      | bad k =>
        rw [one_bad (by omega) hh]
        rw [hh] at hho
        exact item_bad w b o i e c d (by omega) hi (by omega) k fun y hy => (hho y hy).mono fun r w' ⟨v, h1, ⟨l, h2⟩, h3⟩ => ⟨⟨l, by rw [h1, h2]⟩, h3⟩
      | ok l s n =>
        rw [hh] at hho
        obtain ⟨g1, g2, g3⟩ := hd_ok hi he hh
        cases l with
        | false =>
          rw [one_text (by omega) hh]
          have := item_text w b o i e c d s n _ hBe (by omega) hi (by omega) g1 fun y hy => (hho y hy).mono fun r w' ⟨v, h1, h2, h3⟩ => ⟨by rw [h1, show v = _ from h2], h3⟩
          rw [slc_in (by omega), Nat.zero_add] at this
          exact this
        | true =>
          rw [one_list (by omega) hh]
          have g4 := hd_skip hh
          exact item_list w b o i e c d s n f (i + s) (i + s + n) bs (by omega) (by omega) hi he hN rfl rfl g1 (by omega) (fun y hy => (hho y hy).mono fun r w' ⟨v, h1, h2, h3⟩ => ⟨by rw [h1, show v = _ from h2], h3⟩)
            fun y j f' hy hj hf1 hf2 => ih f' (by omega) y b o j (i + s + n) c (d + 1) bs (hB.keep (keep_below hy)) (by omega) hN hj (by omega) hf1
end Rl
end Go.Proofs.YthlmjcochpodgaaDoor
namespace Go.Proofs.YthlmjcochpodgaaDoor
open Go.ChangeShapes Go.WideShapes Go.Deep Go.RowKit
set_option linter.unusedVariables false
set_option linter.unusedSimpArgs false
namespace Rl
def upto (n : Nat) : R1 → R1
  | .bad p k => .bad p k
  | .ok l x k j => if j < n then .bad j 11 else .ok l x k j
/-- What bytes are: an item, or what is wrong first, and where. -/
def dec (bs : List Bt) : R1 :=
  if 4096 < bs.length then .bad 0 5 else if bs.length = 0 then .bad 0 11 else upto bs.length (one bs (4 * bs.length + 4) 0 bs.length 0)
def decOut (B : Nat) (w : World) : R1 → Ending → Prop
  | .bad p k, e => ∃ v, e = .returned (.tuple #[zIt, v]) ∧ IsFlt B w p k v
  | .ok l x k j, e => ∃ a n c a' n' c', e = .returned (.tuple #[.agg #[.bool l, .slice a n c, .slice a' n' c'], .nilIface]) ∧ IsB (see (fun b => B ≤ b) w) a n c x ∧ IsK (see (fun b => B ≤ b) w) a' n' c' k
set_option maxHeartbeats 2000000 in
set_option maxRecDepth 100000 in
theorem decode_long (w : World) (a : Option Addr) (n c : Nat) (h : 4096 < n) :
    Calls Tryd.prog 14 #[.slice a n c] w fun r w' => (∃ v, r = .returned (.tuple #[zIt, v]) ∧ IsFlt w.heap.size w' 0 5 v) ∧ Below w.heap.size w w' := by
  have h1 : (4096 : Int) < n := by omega
  clear h
  go_enter Tryd.func14, Tryd.ntmps14
  go_wp2_with (fail)
  refine bodyPost_ret (v := .tuple #[zIt, .iface 65 (.pointer (some ⟨w.heap.size + 1, 0, none⟩))]) (by simp [results, Tryd.results14, go_sem, zIt]) rfl ⟨⟨_, rfl, w.heap.size + 1, rfl, by omega, by simp, by simp [eN]⟩, ?_⟩
  exact ((Below.refl _ _).alloc (Nat.le_refl _) _).alloc (by simp) _
set_option maxHeartbeats 2000000 in
set_option maxRecDepth 100000 in
theorem decode_none (w : World) (a : Option Addr) (c : Nat) :
    Calls Tryd.prog 14 #[.slice a 0 c] w fun r w' => (∃ v, r = .returned (.tuple #[zIt, v]) ∧ IsFlt w.heap.size w' 0 11 v) ∧ Below w.heap.size w w' := by
  go_enter Tryd.func14, Tryd.ntmps14
  go_wp2_with (fail)
  refine bodyPost_ret (v := .tuple #[zIt, .iface 65 (.pointer (some ⟨w.heap.size + 1, 0, none⟩))]) (by simp [results, Tryd.results14, go_sem, zIt]) rfl ⟨⟨_, rfl, w.heap.size + 1, rfl, by omega, by simp, by simp [eN]⟩, ?_⟩
  exact ((Below.refl _ _).alloc (Nat.le_refl _) _).alloc (by simp) _
set_option maxHeartbeats 4000000 in
set_option maxRecDepth 100000 in
theorem decode_some (w : World) (A : Option Addr) (n c : Nat) (R : R1) (hn : 1 ≤ n) (hn2 : n ≤ 4096) (hj : ∀ l x k j, R = .ok l x k j → j ≤ n)
    (hh : ∀ y, Below w.heap.size w y → Calls Tryd.prog 31 #[.slice A n c, .int .i64 0, .int .i64 0] y fun r w' => itOut y.heap.size w' R r ∧ Below y.heap.size y w') :
    Calls Tryd.prog 14 #[.slice A n c] w fun r w' => decOut w.heap.size w' (upto n R) r ∧ Below w.heap.size w w' := by
  have h1 : decide ((4096 : Int) < n) = false := by simp; omega
  have h2 : ((n : Int) == 0) = false := by
    have : ¬ (n : Int) = 0 := by omega
    simpa using this
  have HB0 : Hid (Below w.heap.size w (w.alloc (.cells #[.bool false, .slice none 0 0, .slice none 0 0] 25))) := Lib.hid ((Below.refl _ _).alloc (Nat.le_refl _) _)
  have HC := Lib.hid (hh _ HB0.out)
  clear hh hn hn2
  cases R with
  | bad p k =>
    go_enter Tryd.func14, Tryd.ntmps14
    go_wp2_with (go_at_call 31; (with_reducible refine HC.out.mono ?_); rintro r y1 ⟨⟨_, rfl, q2, rfl, hq2, hc1, hc2⟩, hb⟩
                 have H1 := Lib.hid (bl HB0.out hb)
                 have HQ2 := Lib.hid (And.intro hq2 (And.intro hc1 hc2))
                 obtain ⟨k0, k1, k2, f0, f1, f2⟩ := ((Box3.new w (.bool false) (.slice none 0 0) (.slice none 0 0) 25).keep hb).keep (ba y1 (.cells #[.bool false, .slice none 0 0, .slice none 0 0] 25))
                 unfold zIt
                 clear HC hq2 hc1 hc2 hb)
    have X := (Box3.mk k0 k1 k2 f0 f1 f2).put (.bool false) (.slice none 0 0) (.slice none 0 0)
    have hs := HQ2.out.1
    simp at hs
    refine bodyPost_ret (v := .tuple #[zIt, .iface 65 (.pointer (some ⟨q2, 0, none⟩))]) (by simp [results, Tryd.results14, go_sem, zIt, X.k0, X.k1, X.k2]) rfl ⟨?_, put3_below (H1.out.alloc H1.out.size _) (Nat.le_refl _)⟩
    refine ⟨_, rfl, q2, rfl, by omega, ?_, ?_⟩
    · rw [put3_other _ _ _ _ _ (by omega)]; exact keep1 (ba _ _) HQ2.out.2.1
    · rw [put3_other _ _ _ _ _ (by omega)]; exact keep1 (ba _ _) HQ2.out.2.2
  | ok l x k j =>
    have hjn := hj l x k j rfl
    by_cases hlt : (j : Int) < n
    · have hlt2 : j < n := by omega
      have HL2 := Lib.hid hlt2
      clear hj hlt2 hjn
      go_enter Tryd.func14, Tryd.ntmps14
      go_wp2_with (go_at_call 31; (with_reducible refine HC.out.mono ?_); rintro r y1 ⟨⟨a3, n3, c3, a4, n4, c4, rfl, hB3, hK3⟩, hb⟩
                   have H1 := Lib.hid (bl HB0.out hb)
                   obtain ⟨k0, k1, k2, f0, f1, f2⟩ := (((Box3.new w (.bool false) (.slice none 0 0) (.slice none 0 0) 25).keep hb).keep (ba y1 (.cells #[.bool l, .slice a3 n3 c3, .slice a4 n4 c4] 25))).keep (ba _ (.cells #[.int .i64 j, .iface 61 (.int .i64 11)] 67))
                   clear HC hB3 hK3 hb)
      have X := (Box3.mk k0 k1 k2 f0 f1 f2).put (.bool false) (.slice none 0 0) (.slice none 0 0)
      have hs := H1.out.size
      refine bodyPost_ret (v := .tuple #[zIt, .iface 65 (.pointer (some ⟨y1.heap.size + 1, 0, none⟩))]) (by simp [results, Tryd.results14, go_sem, zIt, X.k0, X.k1, X.k2]) rfl ⟨?_, put3_below ((H1.out.alloc H1.out.size _).alloc (by simp; omega) _) (Nat.le_refl _)⟩
      show decOut _ _ (if j < n then _ else _) _
      rw [if_pos HL2.out]
      refine ⟨_, rfl, y1.heap.size + 1, rfl, by omega, ?_, ?_⟩
      · rw [put3_other _ _ _ _ _ (by omega)]; simp
      · rw [put3_other _ _ _ _ _ (by omega)]; simp [eN]
    · have hlt1 : decide ((j : Int) < n) = false := by simpa using hlt
      have HL2 := Lib.hid (show ¬ j < n by omega)
      clear hj hlt hjn
      go_enter Tryd.func14, Tryd.ntmps14
      go_wp2_with (go_at_call 31; (with_reducible refine HC.out.mono ?_); rintro r y1 ⟨⟨a3, n3, c3, a4, n4, c4, rfl, hB3, hK3⟩, hb⟩
                   have H1 := Lib.hid (bl HB0.out hb)
                   have H3 := Lib.hid (And.intro hB3 hK3)
                   obtain ⟨k0, k1, k2, f0, f1, f2⟩ := (((Box3.new w (.bool false) (.slice none 0 0) (.slice none 0 0) 25).keep hb).keep (ba y1 (.cells #[.bool l, .slice a3 n3 c3, .slice a4 n4 c4] 25)))
                   clear HC hB3 hK3 hb)
      have X := (Box3.mk k0 k1 k2 f0 f1 f2).put (.bool l) (.slice a3 n3 c3) (.slice a4 n4 c4)
      have hs := H1.out.size
      refine bodyPost_ret (v := .tuple #[.agg #[.bool l, .slice a3 n3 c3, .slice a4 n4 c4], .nilIface]) (by simp [results, Tryd.results14, go_sem, zIt, X.k0, X.k1, X.k2]) rfl ⟨?_, put3_below (H1.out.alloc H1.out.size _) (Nat.le_refl _)⟩
      show decOut _ _ (if j < n then _ else _) _
      rw [if_neg HL2.out]
      have hkp : Keep (see (fun b => (w.alloc (.cells #[.bool false, .slice none 0 0, .slice none 0 0] 25)).heap.size ≤ b) y1) (see (fun b => w.heap.size ≤ b) (put3 (y1.alloc (.cells #[.bool l, .slice a3 n3 c3, .slice a4 n4 c4] 25)) w.heap.size (.bool l) (.slice a3 n3 c3) (.slice a4 n4 c4))) :=
        keep_see fun b o v h1 h2 => ⟨by simp at h1; omega, by rw [put3_other _ _ _ _ _ (by simp at h1; omega)]; exact keep1 (ba _ _) h2⟩
      exact ⟨a3, n3, c3, a4, n4, c4, rfl, H3.out.1.keep hkp, H3.out.2.keep hkp⟩
theorem decode_walk (w : World) (a : Option Addr) (n c : Nat) (bs : List Bt) (hB : IsB w a n c bs) : Calls Tryd.prog 14 #[.slice a n c] w fun r w' => decOut w.heap.size w' (dec bs) r ∧ Below w.heap.size w w' := by
  have hl := hB.1
  unfold dec
  rw [← hl]
  by_cases h1 : 4096 < n
  · rw [if_pos h1]; exact decode_long w a n c h1
  · rw [if_neg h1]
    by_cases h2 : n = 0
    · rw [if_pos h2]; subst h2; exact decode_none w a c
    · rw [if_neg h2]
      rcases hB.2.2.2.2 with h3 | ⟨b, o, rfl, h4⟩
      · exact absurd h3 h2
      · refine decode_some w _ n c (one bs (4 * n + 4) 0 n 0) (by omega) (by omega) (fun l x k j h => (one_next (by omega) (by omega) h).2) fun y hy => ?_
        have hBy := hB.keep (keep_below hy)
        rw [hl] at hBy
        have := item_walk (4 * n + 4) y b o 0 n c 0 bs hBy (by omega) (by omega) (by omega) (by omega) (by omega)
        exact this
end Rl
end Go.Proofs.YthlmjcochpodgaaDoor
namespace Go.Proofs.YthlmjcochpodgaaDoor
set_option linter.unusedVariables false
namespace Rl
theorem one_read {b : List Bt} {i e d f : Nat} {l : Bool} {x : List Bt} {k : Fo} (hr1 : (if l then x.isEmpty else k.len == 0) = true) (hr2 : k.right = true) (hd : d < 16) (hd3 : k.deep (16 - (d + 1)) = false)
    (hb1 : slc b i (wrap l x k.form).length = wrap l x k.form) (he : i + (wrap l x k.form).length ≤ e) (hlen : (wrap l x k.form).length < 2 ^ 64) (hf : k.size ≤ f) : one b (f + 1) i e d = .ok l x k (i + (wrap l x k.form).length) := by
  obtain ⟨c, hwc, hc⟩ : ∃ c, wrap l x k.form = wrapB l c ∧ c = (if l then k.form else x) := by
    refine ⟨_, ?_, rfl⟩
    cases l with
    | true => rw [empty_nil hr1, wrap_true]; rfl
    | false => rw [len_zero hr1]; exact wrap_false x
  rw [hwc] at hb1 he hlen ⊢
  have hcl : c.length ≤ (wrapB l c).length := by
    unfold wrapB; split
    · exact Nat.le_refl _
    · simp
  obtain ⟨s, h1, h2, h3⟩ := hd_wrap hb1 (e := e) (by omega) (by omega)
  unfold one
  rw [if_neg (by omega), h1]
  cases l with
  | true =>
    have hck : c = k.form := hc
    have hx := empty_nil hr1
    subst hx
    have hcl0 : k.form.length ≤ (wrapB true c).length := by rw [← hck]; exact hcl
    rw [hck] at h2 h3 hcl
    have hk := form_read b k (i + s) (i + s + k.form.length) (d + 1) f hr2 hd3 h3 rfl (by omega) (by omega)
    simp only [hck, hk]
    congr 1; omega
  | false =>
    have hcx : c = x := hc
    have hk := len_zero hr1
    subst hk
    simp only
    rw [h3, hcx]
    congr 1
    rw [← hcx]; omega
theorem enc_zero {l : Bool} {bs : List Bt} {k : Fo} : encW l bs k = 0 ↔ k.deep 15 = false ∧ (if l then bs.isEmpty else k.len == 0) = true ∧ k.right = true ∧ (wrap l bs k.form).length ≤ 4096 := by
  have e1 : dp k 16 = k.deep 15 := rfl
  have e2 : whole l bs.length k = ((if l then bs.isEmpty else k.len == 0) && k.right) := by
    have h := whole_right l bs k .nil
    have h2 : (Fo.cons l bs k .nil).right = ((if l then bs.isEmpty else k.len == 0) && k.right && Fo.nil.right) := rfl
    rw [h2] at h
    have h3 : Fo.nil.right = true := rfl
    rw [h3, Bool.and_true, Bool.and_true] at h
    exact h.symm
  unfold encW
  rw [e1, e2]
  cases h1 : k.deep 15 <;> cases h2 : (if l then bs.isEmpty else k.len == 0) <;> cases h3 : k.right <;> simp
theorem wrapB_gt {l : Bool} {c : List Bt} (h : l = true) : c.length + 1 ≤ (wrapB l c).length := by
  subst h
  unfold wrapB
  rw [if_neg (by rw [single_iff]; rintro ⟨h, _⟩; cases h), List.length_append, head_len]
  split <;> omega
theorem size_form : ∀ k : Fo, k.right = true → k.size ≤ 4 * k.form.length + 1
  | .nil, _ => by decide
  | .cons l b k r, h => by
    have hr' : ((if l then b.isEmpty else k.len == 0) && k.right && r.right) = true := h
    simp only [Bool.and_eq_true] at hr'
    obtain ⟨⟨hr1, hr2⟩, hr3⟩ := hr'
    have h1 := size_form k hr2
    have h2 := size_form r hr3
    show k.size + r.size + 2 ≤ 4 * (wrap l b k.form ++ r.form).length + 1
    rw [List.length_append]
    cases l with
    | true =>
      rw [empty_nil hr1, wrap_true]
      have := wrapB_gt (l := true) (c := k.form) rfl
      omega
    | false =>
      rw [len_zero hr1] at h1 ⊢
      have h3 : (Fo.nil).size = 1 := rfl
      rw [h3]
      have h4 := wrapB_pos false b
      have h5 : wrap false b Fo.nil.form = wrapB false b := wrap_false b
      rw [h5]
      omega
theorem slc_pre (x y : List Bt) : slc (x ++ y) 0 x.length = x := by simp [slc]
/-- Bytes behind a form. -/
theorem dec_app {l : Bool} {x : List Bt} {k : Fo} (h : encW l x k = 0) (ys : List Bt) (hl : (wrap l x k.form ++ ys).length ≤ 4096) :
    one (wrap l x k.form ++ ys) (4 * (wrap l x k.form ++ ys).length + 4) 0 (wrap l x k.form ++ ys).length 0 = .ok l x k (wrap l x k.form).length := by
  obtain ⟨h1, h2, h3, h4⟩ := enc_zero.1 h
  have hk := size_form k h3
  have hw : k.form.length ≤ (wrap l x k.form).length := by
    cases l with
    | true => rw [empty_nil h2, wrap_true]; have := wrapB_gt (l := true) (c := k.form) rfl; omega
    | false => rw [len_zero h2]; exact Nat.zero_le _
  have := one_read (b := wrap l x k.form ++ ys) (i := 0) (e := (wrap l x k.form ++ ys).length) (d := 0) (f := 4 * (wrap l x k.form ++ ys).length + 3) h2 h3 (by omega) h1 (slc_pre _ _) (by simp) (by omega) (by simp; omega)
  rw [Nat.zero_add] at this
  exact this
theorem wrap_pos {l : Bool} {x : List Bt} {k : Fo} (h : encW l x k = 0) : 0 < (wrap l x k.form).length := by
  obtain ⟨h1, h2, h3, h4⟩ := enc_zero.1 h
  cases l with
  | true => rw [empty_nil h2, wrap_true]; exact wrapB_pos _ _
  | false => rw [len_zero h2]; rw [show wrap false x Fo.nil.form = wrapB false x from wrap_false x]; exact wrapB_pos _ _
theorem enc_dec {l : Bool} {x : List Bt} {k : Fo} (h : encW l x k = 0) : dec (wrap l x k.form) = .ok l x k (wrap l x k.form).length := by
  have h4 := (enc_zero.1 h).2.2.2
  have hp := wrap_pos h
  have := dec_app h [] (by simpa using h4)
  rw [List.append_nil] at this
  unfold dec
  rw [if_neg (by omega), if_neg (by omega), this]
  show (if _ then _ else _) = _
  rw [if_neg (by omega)]
theorem dec_more {l : Bool} {x : List Bt} {k : Fo} (h : encW l x k = 0) {ys : List Bt} (hy : ys ≠ []) : ∃ p w, dec (wrap l x k.form ++ ys) = .bad p w := by
  unfold dec
  by_cases hl : 4096 < (wrap l x k.form ++ ys).length
  · rw [if_pos hl]; exact ⟨_, _, rfl⟩
  · have hp := wrap_pos h
    have hy1 : 0 < ys.length := List.length_pos_iff.2 hy
    have hll : (wrap l x k.form ++ ys).length = (wrap l x k.form).length + ys.length := List.length_append
    rw [if_neg hl, if_neg (by omega), dec_app h ys (by omega)]
    exact ⟨(wrap l x k.form).length, 11, by show (if _ then _ else _) = _; rw [if_pos (by omega)]⟩
theorem dec_ok {b : List Bt} {l : Bool} {x : List Bt} {k : Fo} {j : Nat} (h : dec b = .ok l x k j) : j = b.length ∧ wrap l x k.form = b ∧ encW l x k = 0 := by
  unfold dec at h
  split at h
  · cases h
  · split at h
    · cases h
    · rename_i h1 h2
      cases ho : one b (4 * b.length + 4) 0 b.length 0 with
      | bad p w => rw [ho] at h; cases h
      | ok l' x' k' j' =>
        rw [ho] at h
        obtain ⟨g1, g2, g3, g4, g5, g6, g7⟩ := (read_form b _).1 0 b.length 0 l' x' k' j' (by omega) (Nat.le_refl _) ho
        have h3 : (if j' < b.length then R1.bad j' 11 else .ok l' x' k' j') = .ok l x k j := h
        split at h3
        · cases h3
        · injection h3 with e1 e2 e3 e4
          subst e1 e2 e3 e4
          have hj : j' = b.length := by omega
          subst hj
          rw [Nat.sub_zero, slc_full b _ rfl] at g3
          exact ⟨rfl, g3, enc_zero.2 ⟨g7, g4, g5, by rw [g3]; omega⟩⟩
theorem enc_inj {l l' : Bool} {x x' : List Bt} {k k' : Fo} (h : encW l x k = 0) (h' : encW l' x' k' = 0) (e : wrap l x k.form = wrap l' x' k'.form) : l = l' ∧ x = x' ∧ k = k' := by
  have h1 := enc_dec h
  rw [e, enc_dec h'] at h1
  injection h1 with e1 e2 e3 _
  exact ⟨e1.symm, e2.symm, e3.symm⟩
/-- A form that is cut off is none. -/
theorem dec_cut {l : Bool} {x : List Bt} {k : Fo} (h : encW l x k = 0) {m : Nat} (hm : m < (wrap l x k.form).length) : ∃ p w, dec ((wrap l x k.form).take m) = .bad p w := by
  cases hd : dec ((wrap l x k.form).take m) with
  | bad p w => exact ⟨p, w, rfl⟩
  | ok l' x' k' j =>
    obtain ⟨h1, h2, h3⟩ := dec_ok hd
    obtain ⟨p, w, h4⟩ := dec_more h3 (ys := (wrap l x k.form).drop m) (by
      intro e
      have := congrArg List.length e
      simp at this; omega)
    rw [h2, List.take_append_drop, enc_dec h] at h4
    cases h4
end Rl
end Go.Proofs.YthlmjcochpodgaaDoor
