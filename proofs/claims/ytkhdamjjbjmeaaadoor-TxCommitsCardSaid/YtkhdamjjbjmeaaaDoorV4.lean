/-
  tx: Batch; rows of items whose bytes are anybody's. Own work.
-/
import Derived.Test.YtkhdamjjbjmeaaaDoorV3
namespace Go.Proofs.YtkhdamjjbjmeaaaDoor
open Go.ChangeShapes Go.WideShapes Go.Deep Go.RowKit
set_option linter.unusedVariables false
set_option linter.unusedSimpArgs false
namespace Rl
/-- A row of items of the call's own. -/
def RowJ (w : World) (B q : Nat) (V : Value) (k : Fo) : Prop := V.ownBlock ≠ some q ∧ ∃ xs, w.ownsRow B 79 3 V k.len xs ∧ IsV (see (Bes 0 q V) w) k xs
theorem RowJ.nil (w : World) (B q : Nat) : RowJ w B q (.slice none 0 0) .nil := ⟨by simp [Value.ownBlock], [], ⟨rfl, .inl ⟨rfl, rfl⟩⟩, rfl⟩
theorem RowJ.base {w : World} {B q : Nat} {V : Value} {k : Fo} (h : RowJ w B q V k) {g : Nat} (hg : V.ownBlock = some g) : B ≤ g ∧ g < w.heap.size := by
  obtain ⟨_, xs, h1, _⟩ := h
  rcases ownsRow_forms h1 with ⟨rfl, _⟩ | ⟨g', c, rfl, h2, h3, _⟩
  · cases hg
  · injection hg with hg; subst hg; exact ⟨h2, h3⟩
theorem RowJ.next {w w' : World} {B q : Nat} {V : Value} {k : Fo} (h : RowJ w B q V k) (hb : Below w.heap.size w w') : RowJ w' B q V k := by
  have hB := fun g hg => (h.base (g := g) hg).2
  obtain ⟨hq, xs, h1, h2⟩ := h
  exact ⟨hq, xs, (Kept.ofBelow (S := fun _ => False) hb).row h1 (fun k _ h => h), h2.keep (see_below hb) k xs⟩
theorem RowJ.grow {w w' : World} {B q : Nat} {V V' : Value} {k g : Fo} {xs news : List Value} (hq : V.ownBlock ≠ some q) (hqs : q < w.heap.size) (hv : IsV (see (Bes 0 q V) w) k xs) (hn : IsV (see (Bes 0 q V) w) g news)
    (ho : w'.ownsRow B 79 3 V' (k.len + g.len) (xs ++ news)) (hg : w.grownBy w' V.ownBlock) (hat : ∀ k, V'.ownBlock = some k → V.ownBlock = some k ∨ k = w.heap.size) : RowJ w' B q V' (k.app g) := by
  have hk : Keep (see (Bes 0 q V) w) (see (Bes 0 q V') w') := keep_see fun b o v h1 h2 => by
    have hb := inHeap h2
    refine ⟨⟨h1.1, h1.2.1, fun e => ?_⟩, ?_⟩
    · rcases hat b e with h | h
      · exact h1.2.2 h
      · omega
    · rw [grown_cell hg hb h1.2.2]; exact h2
  refine ⟨fun e => ?_, xs ++ news, by rw [Fo.app_len]; exact ho, (hv.keep hk k xs).app k g xs news (hn.keep hk g news)⟩
  rcases hat q e with h | h
  · exact hq h
  · omega
/-- The row as a slice of items. -/
theorem RowJ.isK {w : World} {B q : Nat} {V : Value} {k : Fo} (h : RowJ w B q V k) : ∃ a c, V = .slice a k.len c ∧ IsK w a k.len c k := by
  obtain ⟨_, xs, h1, h2⟩ := h
  have hc := @World.ownsRow.cells w B 79 3 V k.len xs h1
  rcases h1.2 with ⟨e1, e2⟩ | ⟨g, cap, cur, e1, e2, e3, e4, e5, _, _⟩
  · exact ⟨none, 0, by rw [e1, e2], rfl, by omega, by decide, fun _ => rfl, .inl e2⟩
  · refine ⟨some ⟨g, 0, none⟩, cap, e1, rfl, e4, e5, fun e => (by cases e), .inr ⟨g, 0, rfl, ?_⟩⟩
    refine IsV.fo k xs g 0 (h2.keep (see_keep _ _) k xs) fun j u hu => ?_
    have h5 := hc (g := g) (by rw [e1]; rfl) j u hu
    rw [add_at] at h5
    exact h5
theorem RowJ.drew {w : World} {B q : Nat} {V : Value} {k : Fo} (h : RowJ w B q V k) : RowJ w.drew B q V k := by
  obtain ⟨h0, xs, h1, h2⟩ := h
  exact ⟨h0, xs, h1, h2.keep (keep_see (S := Bes 0 q V) (T := Bes 0 q V) (w := w) (w' := w.drew) fun b o v g1 g2 => ⟨g1, g2⟩) k xs⟩
/-- append of one item in a list of operations. -/
theorem wpList_appJ {w : World} {ops : Array Oper} {rest : List Oper} {o : Oper} {a : Act} {Q : Exit → Act → World → Prop} (hgd : o.guard = none) (s x : Operand)
    (ho : o.op = .call { callee := .builtin .append, args := #[s, x], argTypes := #[77, 77] }) (B q : Nat) (V : Value) (k : Fo) (hs : a.eval s = V) (hr : RowJ w B q V k) (hB : B ≤ w.heap.size) (hqs : q < w.heap.size)
    (ad : Addr) (l : Bool) (bs : List Bt) (kk : Fo) (va vb : Value) (c : Nat) (hx : a.eval x = .slice (some ad) 1 c) (hv : IsV (see (Bes 0 q V) w) (.cons l bs kk .nil) [.bool l, va, vb]) (hc : ∀ j u, [.bool l, va, vb][j]? = some u → w.cell? (ad.add j) = some u)
    (hlen : k.len + 1 ≤ 1073741824)
    (h : ∀ V' w', RowJ w' B q V' (k.app (.cons l bs kk .nil)) → w.grownBy w' V.ownBlock → (∀ k, V'.ownBlock = some k → V.ownBlock = some k ∨ k = w.heap.size) → wpList Tryd.prog ops Q rest (a.put o.dst V') w') : wpList Tryd.prog ops Q (o :: rest) a w := by
  obtain ⟨hq, xs, h1, h2⟩ := hr
  obtain ⟨i, hi⟩ := it1
  exact wpList_append_at w hgd s x 77 ho B 79 i _ 3 56 undK hi rfl (by decide) V k.len xs hs h1 ad 1 c _ hx rfl hc (IsV.ones _ _ hv) (by unfold maxLen; omega) (by omega) hB
    fun V' w' g1 g2 g3 => h V' w' (RowJ.grow hq hqs h2 hv g1 g2 g3) g2 g3
/-- The same as one operation. -/
theorem wp_appJ {w : World} {o : Oper} {a : Act} {K : Act → World → Prop} {Q : Exit → Act → World → Prop} (d : Option Tmp) (s x : Operand) (hd : o.dst = d)
    (ho : o.op = .call { callee := .builtin .append, args := #[s, x], argTypes := #[77, 77] }) (B q : Nat) (V : Value) (k : Fo) (hs : a.eval s = V) (hr : RowJ w B q V k) (hB : B ≤ w.heap.size) (hqs : q < w.heap.size)
    (ad : Addr) (l : Bool) (bs : List Bt) (kk : Fo) (va vb : Value) (c : Nat) (hx : a.eval x = .slice (some ad) 1 c) (hv : IsV (see (Bes 0 q V) w) (.cons l bs kk .nil) [.bool l, va, vb]) (hc : ∀ j u, [.bool l, va, vb][j]? = some u → w.cell? (ad.add j) = some u)
    (hlen : k.len + 1 ≤ 1073741824)
    (h : ∀ V' w', RowJ w' B q V' (k.app (.cons l bs kk .nil)) → w.grownBy w' V.ownBlock → (∀ k, V'.ownBlock = some k → V.ownBlock = some k ∨ k = w.heap.size) → K (a.put d V') w') : Oper.wp Tryd.prog o a w K Q := by
  obtain ⟨hq, xs, h1, h2⟩ := hr
  obtain ⟨i, hi⟩ := it1
  obtain ⟨v', w', hr, g1, g2, _, g3⟩ := run_append_at (P := Tryd.prog) w B 77 o.type 79 i _ 3 56 undK hi.1 hi.2.1 hi.2.2.1 hi.2.2.2 rfl (by decide) V k.len xs h1 ad 1 c _ rfl hc (IsV.ones _ _ hv) (by unfold maxLen; omega) (by omega) hB
  subst hd
  have hh := h _ _ (RowJ.grow hq hqs h2 hv g1 g2 g3) g2 g3
  unfold Oper.wp execOp
  simp only [ho, resolve, invoke, builtin, Sem.run_bind, Sem.run_pure, Result.andThen_ok, List.map_toArray, List.map_cons, List.map_nil, hs, hx, hr]
  exact hh
theorem RowJ.set {w : World} {B q : Nat} {V : Value} {k : Fo} {v : Value} {i : Nat} (h : RowJ w B q V k) : RowJ (w.setCell ⟨q, i, none⟩ v) B q V k := by
  obtain ⟨h0, xs, h1, h2⟩ := h
  refine ⟨h0, xs, ?_, h2.keep (keep_see fun b o x g1 g2 => ⟨g1, ?_⟩) k xs⟩
  · refine ⟨h1.1, h1.2.imp id ?_⟩
    rintro ⟨g, cap, cur, e1, e2, e3, e4⟩
    refine ⟨g, cap, cur, e1, e2, ?_, e4⟩
    rw [Below.heap_setCell _ _ _ _ (show g ≠ q from fun e => h0 (by rw [e1, ← e]; rfl))]; exact e3
  · rw [World.cell?_setCell_other _ _ _ _ (fun e => g1.2.1 (congrArg Addr.block e).symm)]; exact g2
/-- A slice of slices of bytes. -/
def IsBB (w : World) (a : Option Addr) (n c : Nat) (ls : List (List Bt)) : Prop :=
  n = ls.length ∧ n ≤ c ∧ c ≤ maxLen ∧ (a = none → c = 0) ∧ (n = 0 ∨ ∃ b o, a = some ⟨b, o, none⟩ ∧ ∀ i x, ls[i]? = some x → ∃ a' n' c', w.cell? ⟨b, o + i, none⟩ = some (.slice a' n' c') ∧ IsB w a' n' c' x)
theorem IsBB.keep {w w' : World} {a : Option Addr} {n c : Nat} {ls : List (List Bt)} (h : IsBB w a n c ls) (hk : Keep w w') : IsBB w' a n c ls := by
  obtain ⟨h1, h2, h3, h4, h5⟩ := h
  refine ⟨h1, h2, h3, h4, h5.imp id ?_⟩
  rintro ⟨b, o, e, h6⟩
  exact ⟨b, o, e, fun i x hx => by obtain ⟨a', n', c', h7, h8⟩ := h6 i x hx; exact ⟨a', n', c', hk _ _ h7, h8.keep hk⟩⟩
theorem IsBB.at {w : World} {a : Option Addr} {n c : Nat} {ls : List (List Bt)} (h : IsBB w a n c ls) {j : Nat} (hj : j < n) : ∃ b o a' n' c', a = some ⟨b, o, none⟩ ∧ w.cell? ⟨b, o + j, none⟩ = some (.slice a' n' c') ∧ IsB w a' n' c' (ls.getD j []) := by
  rcases h.2.2.2.2 with h0 | ⟨b, o, e, h6⟩
  · omega
  · have hl := h.1
    have e2 : ls[j]? = some (ls.getD j []) := by
      rw [List.getD_eq_getElem?_getD, List.getElem?_eq_getElem (by omega)]; rfl
    obtain ⟨a', n', c', h7, h8⟩ := h6 j _ e2
    exact ⟨b, o, a', n', c', e, h7, h8⟩
/-- Texts, each an item. -/
def txts : List (List Bt) → Fo
  | [] => .nil
  | v :: r => .cons false v .nil (txts r)
theorem txts_len : ∀ l, (txts l).len = l.length
  | [] => rfl
  | v :: r => by show (txts r).len + 1 = r.length + 1; rw [txts_len r]
theorem txts_app : ∀ a b, txts (a ++ b) = (txts a).app (txts b)
  | [], b => rfl
  | v :: r, b => by show Fo.cons false v .nil (txts (r ++ b)) = .cons false v .nil ((txts r).app (txts b)); rw [txts_app r b]
theorem txts_next (ls : List (List Bt)) (j : Nat) (hj : j < ls.length) : txts (ls.take (j + 1)) = (txts (ls.take j)).app (.cons false (ls.getD j []) .nil .nil) := by
  rw [List.take_add_one, txts_app, List.getD_eq_getElem?_getD, List.getElem?_eq_getElem hj]; rfl
theorem txts_right : ∀ l, (txts l).right = true
  | [] => rfl
  | v :: r => by show ((Fo.nil.len == 0) && Fo.nil.right && (txts r).right) = true; rw [txts_right r]; rfl
theorem txts_deep : ∀ l (m : Nat), (txts l).deep (m + 1) = false
  | [], _ => rfl
  | v :: r, m => by show (Fo.nil.deep m || (txts r).deep (m + 1)) = false; rw [txts_deep r m]; rfl
def sumL (ls : List (List Bt)) : Nat := (ls.map List.length).sum
theorem txts_form : ∀ l, (txts l).form.length ≤ sumL l + 9 * l.length
  | [] => Nat.zero_le _
  | v :: r => by
    have h1 := txts_form r
    have h2 := wrap_le false v Fo.nil.form
    have h4 : Fo.nil.form.length = 0 := rfl
    show (wrap false v Fo.nil.form ++ (txts r).form).length ≤ ((v :: r).map List.length).sum + 9 * (r.length + 1)
    have e : ((v :: r).map List.length).sum = v.length + sumL r := by simp [sumL]
    rw [e, List.length_append]; omega
/-- A batch's bytes: may they be. -/
def btOk (ls : List (List Bt)) : Bool := decide (ls.length ≤ 8) && decide ((wrap true [] (txts ls).form).length ≤ 4096)
def btB (ls : List (List Bt)) : List Bt := wrap true [] (txts ls).form
theorem bt_enc (ls : List (List Bt)) : encW true [] (txts ls) = if (wrap true [] (txts ls).form).length ≤ 4096 then 0 else 5 := by
  unfold encW
  rw [show dp (txts ls) 16 = (txts ls).deep 15 from rfl, txts_deep ls 14]
  have e2 : whole true ([] : List Bt).length (txts ls) = true := by unfold whole; rw [txts_right]; rfl
  rw [e2]
  by_cases h : (wrap true [] (txts ls).form).length ≤ 4096
  · rw [if_pos h, if_neg (by simp), if_pos rfl, if_neg (by omega)]
  · rw [if_neg h, if_neg (by simp), if_pos rfl, if_pos (by omega)]
/-- What Batch's loop keeps. -/
structure Bte (w : World) (V : Value) (acc : Fo) (y : World) : Prop where
  below : Below w.heap.size w y
  box : Box3 y w.heap.size (.bool true) (.slice none 0 0) V
  row : RowJ y (w.heap.size + 1) w.heap.size V acc
section
variable {w : World} {V V' : Value} {acc acc' : Fo} {y y' : World}
theorem Bte.sz (h : Bte w V acc y) : w.heap.size + 1 ≤ y.heap.size := inHeap h.box.k0
theorem Bte.next (h : Bte w V acc y) (hb : Below y.heap.size y y') : Bte w V acc y' := ⟨bl h.below hb, h.box.keep hb, h.row.next hb⟩
theorem Bte.put (h : Bte w V acc y) (hg : y.grownBy y' V.ownBlock) (hr : RowJ y' (w.heap.size + 1) w.heap.size V' acc') : Bte w V' acc' (y'.setCell ⟨w.heap.size, 2, none⟩ V') := by
  have hx := h.box.grown hg h.row.1
  refine ⟨(h.below.grown hg h.below.size (fun k hk => by have := (h.row.base hk).1; omega)).setCell (Nat.le_refl _) _, ?_, hr.set⟩
  exact ⟨(World.cell?_setCell_other _ _ _ _ (by simp)).trans hx.k0, (World.cell?_setCell_other _ _ _ _ (by simp)).trans hx.k1, World.cell?_setCell_same _ _ _ hx.k2, by simpa using hx.f0, by simpa using hx.f1, by simpa using hx.f2⟩
end
theorem old_bes {w y : World} {V : Value} {k : Fo} (hb : Below w.heap.size w y) (hr : RowJ y (w.heap.size + 1) w.heap.size V k) : Keep w (see (Bes 0 w.heap.size V) y) := by
  intro p v e
  obtain ⟨b, o, s⟩ := p
  have hs : s = none := by simpa using World.cell?_spot e
  subst hs
  have hl := inHeap e
  rw [see_in (show Bes 0 w.heap.size V b from ⟨Nat.zero_le _, by omega, fun e2 => by have := (hr.base e2).1; omega⟩)]
  exact keep1 hb e
set_option maxHeartbeats 2000000 in
set_option maxRecDepth 100000 in
/-- Batch. -/
theorem txBatch_walk (w : World) (a : Option Addr) (n c : Nat) (ls : List (List Bt)) (hL : IsBB w a n c ls) (hs : n ≤ 8 → sumL ls ≤ 268435456) :
    Calls Tryd.prog 18 #[.slice a n c] w fun e w' => ∃ V, e = .returned (.tuple #[V, if btOk ls then .nilIface else eN 5]) ∧ Own w' w.heap.size V (if btOk ls then btB ls else []) ∧ Below w.heap.size w w' := by
  have hn := hL.1
  by_cases h8 : 8 < n
  · have h1 : (8 : Int) < n := by omega
    have e : btOk ls = false := by unfold btOk; rw [decide_eq_false (by omega)]; rfl
    rw [e]
    clear hL hs hn h8 e
    go_enter Tryd.func18, Tryd.ntmps18
    go_wp2_with (fail)
    exact bodyPost_ret (v := .tuple #[.slice none 0 0, eN 5]) (by simp [results, Tryd.results18, go_sem, eN]) rfl ⟨_, rfl, Own.nil _ _, Below.refl _ _⟩
  · have h1 : decide ((8 : Int) < n) = false := by simp; omega
    have HL := Lib.hid hL
    have HN := Lib.hid (show n ≤ 8 ∧ n = ls.length ∧ sumL ls ≤ 268435456 from ⟨by omega, hn, hs (by omega)⟩)
    have HT0 : Hid (Bte w (.slice none 0 0) .nil (w.alloc (.cells #[.bool true, .slice none 0 0, .slice none 0 0] 79))) := Lib.hid ⟨ba _ _, Box3.new _ _ _ _ _, RowJ.nil _ _ _⟩
    have HER0 : ((wrap true [] (txts ls).form).length ≤ 4096 → (if btOk ls then Value.nilIface else eN 5) = .nilIface ∧ (if btOk ls then btB ls else []) = btB ls) ∧ (¬ (wrap true [] (txts ls).form).length ≤ 4096 → (if btOk ls then Value.nilIface else eN 5) = eN 5 ∧ (if btOk ls then btB ls else []) = []) := by
      constructor
      · intro h
        have e : btOk ls = true := by unfold btOk; rw [decide_eq_true (by omega), decide_eq_true h]; rfl
        rw [e]; exact ⟨rfl, rfl⟩
      · intro h
        have e : btOk ls = false := by unfold btOk; rw [decide_eq_false h, Bool.and_false]
        rw [e]; exact ⟨rfl, rfl⟩
    have HER := Lib.hid HER0
    generalize (if btOk ls then Value.nilIface else eN 5) = er at *
    generalize (if btOk ls then btB ls else []) = R at *
    clear HER0 hL hs hn h8
    go_enter Tryd.func18, Tryd.ntmps18
    go_wp2_with (fail)
    generalize w.alloc (.cells #[.bool true, .slice none 0 0, .slice none 0 0] 79) = y0 at *
    go_loopw [14] (fun i y => ∃ (j : Nat) (V : Value), i = .int .i64 j ∧ Hid (j ≤ n ∧ Bte w V (txts (ls.take j)) y)) (fun i _ => n - (intOf i).toNat)
    case atStart => exact ⟨0, _, rfl, Lib.hid ⟨Nat.zero_le _, HT0.out⟩⟩
    case round =>
      obtain ⟨j, V, rfl, hp⟩ := hrel
      clear HT0
      have HLr := Lib.hid hp.out.2
      by_cases hlt : (j : Int) < n
      · obtain ⟨b, o, a1, n1, c1, rfl, hcel0, hb1⟩ := HL.out.at (show j < n by omega)
        have hcell := keep1 HLr.out.below hcel0
        have HJ := Lib.hid (show j < n ∧ wrap64 ((j : Int) + 1) = ((j + 1 : Nat) : Int) by have := HN.out; refine ⟨by omega, ?_⟩; unfold wrap64; omega)
        have HB1 := Lib.hid hb1
        have x2 := HLr.out.box.k2
        have HS3 := Lib.hid (HLr.out.next (ba wr (.cells #[.bool false, .slice a1 n1 c1, .slice none 0 0] 79)))
        have HV3 := Lib.hid (show IsV (see (Bes 0 w.heap.size V) (wr.alloc (.cells #[.bool false, .slice a1 n1 c1, .slice none 0 0] 79))) (.cons false (ls.getD j []) .nil .nil) [.bool false, .slice a1 n1 c1, .slice none 0 0] from
          it_news (hb1.keep (old_bes HS3.out.below HS3.out.row)) (noK4 _))
        have HC3 := Lib.hid (three_new wr (.bool false) (.slice a1 n1 c1) (.slice none 0 0) 79)
        clear hp hb1 hcel0
        go_wp2_with (refine wpList_appJ rfl (.tmp 19) (.tmp 22) rfl (w.heap.size + 1) w.heap.size V _ rfl HS3.out.row HS3.out.sz (inHeap HS3.out.box.k0) ⟨wr.heap.size, 0, none⟩ false (ls.getD j []) .nil (.slice a1 n1 c1) (.slice none 0 0) 1 rfl HV3.out HC3.out (by rw [txts_len]; have := HN.out; have := HJ.out.1; simp; omega) ?_
                     intro V5 y5 hr hg hat
                     obtain ⟨a6, c6, rfl, _⟩ := hr.isK
                     have HS5 := Lib.hid (HS3.out.put hg hr)
                     have hx5 := HS3.out.box.grown hg HS3.out.row.1
                     have x4 := hx5.k2
                     have x5 := hx5.f2
                     clear hr hg hat hx5 x2)
        try rw [HJ.out.2]
        go_roundw
        case rel => exact ⟨j + 1, _, rfl, Lib.hid ⟨HJ.out.1, by rw [txts_next _ _ (by rw [← HN.out.2.1]; exact HJ.out.1)]; exact HS5.out⟩⟩
        case measure => have := HJ.out.1; show n - (j + 1) < n - j; omega
      · obtain rfl : j = n := by have := hp.out.1; omega
        rw [show ls.take j = ls by rw [List.take_of_length_le (by rw [← HN.out.2.1]; exact Nat.le_refl _)]] at HLr
        obtain ⟨a5, c5, rfl, hK5⟩ := HLr.out.row.isK
        have HE := Lib.hid (encode_walk wr true 0 0 _ c5 none a5 [] (txts ls) (noB4 _) hK5 (by have h1 := txts_form ls; have h2 := wrap_le true [] (txts ls).form; have := HN.out; simp at h2; unfold B30; omega))
        rw [bt_enc ls] at HE
        obtain ⟨k0, k1, k2, _, _, _⟩ := HLr.out.box
        clear hp hK5
        by_cases hb : (wrap true [] (txts ls).form).length ≤ 4096
        · rw [if_pos hb, if_pos rfl, if_pos rfl] at HE
          have HF := Lib.hid (HER.out.1 hb)
          clear hb
          go_wp2_with (go_at_call 32; (with_reducible refine HE.out.mono ?_); rintro e y2 ⟨V7, rfl, hO, hb⟩
                       have HO := Lib.hid hO; have HB2 := Lib.hid (bl HLr.out.below hb); clear hO hb)
          rw [HF.out.1, HF.out.2]
          exact bodyPost_ret (v := .tuple #[V7, .nilIface]) (by simp [results, Tryd.results18, go_sem]) rfl ⟨_, rfl, ownsRow_base HO.out HLr.out.below.size, HB2.out⟩
        · rw [if_neg hb, if_neg (by decide), if_neg (by decide)] at HE
          have HF := Lib.hid (HER.out.2 hb)
          clear hb
          go_wp2_with (go_at_call 32; (with_reducible refine HE.out.mono ?_); rintro e y2 ⟨V7, rfl, hO, hb⟩
                       have HO := Lib.hid hO; have HB2 := Lib.hid (bl HLr.out.below hb); clear hO hb)
          rw [HF.out.1, HF.out.2]
          exact bodyPost_ret (v := .tuple #[V7, eN 5]) (by simp [results, Tryd.results18, go_sem, eN]) rfl ⟨_, rfl, ownsRow_base HO.out HLr.out.below.size, HB2.out⟩
end Rl
end Go.Proofs.YtkhdamjjbjmeaaaDoor
