/-
  mootlaw03: copied. Own work.
-/
import Derived.Test.YthlmjcochpodgaaDoorSp
import Derived.Test.YthlmjcochpodgaaDoorOt
namespace Go.Proofs.YthlmjcochpodgaaDoor
open Go.ChangeShapes Go.WideShapes Go.Deep Go.RowKit
set_option linter.unusedVariables false
set_option linter.unusedSimpArgs false
namespace Rl
/-- All parts and bytes, counted as often as they stand there. -/
def Fo.tot : Fo → Nat
  | .nil => 0
  | .cons _ b k r => 1 + b.length + k.tot + r.tot
theorem rest_tot : ∀ (k : Fo) (v : Int), 0 ≤ k.rest v → (k.tot : Int) + k.rest v ≤ v
  | .nil, v, h => by show ((0 : Nat) : Int) + v ≤ v; omega
  | .cons l b k r, v, h => by
    by_cases hv : v < 0
    · rw [rest_neg _ _ hv] at h; omega
    · have e : (Fo.cons l b k r).rest v = r.rest (k.rest (v - (1 + b.length))) := by
        show (if v < 0 then v else _) = _; rw [if_neg hv]
      rw [e] at h ⊢
      have h1 := rest_tot r _ h
      have hk : 0 ≤ k.rest (v - (1 + b.length)) := by
        apply Int.not_lt.1
        intro hc
        rw [rest_neg _ _ hc] at h; omega
      have h2 := rest_tot k _ hk
      show ((1 + b.length + k.tot + r.tot : Nat) : Int) + _ ≤ _
      omega
theorem great_tot {bs : List Bt} {k : Fo} (h : great bs.length k = false) : 1 + bs.length + k.tot ≤ 262144 := by
  unfold great at h
  have h0 : 0 ≤ k.rest (262144 - (1 + (bs.length : Int))) := by simpa using h
  have h1 := rest_tot k _ h0
  omega
theorem tot_len : ∀ k : Fo, k.len ≤ k.tot
  | .nil => Nat.le_refl _
  | .cons l b k r => by have := tot_len r; show r.len + 1 ≤ 1 + b.length + k.tot + r.tot; omega
theorem tot_drop : ∀ (k : Fo) (j : Nat), (k.drop j).tot ≤ k.tot
  | k, 0 => by rw [Fo.drop_zero]; exact Nat.le_refl _
  | .nil, _ + 1 => Nat.le_refl _
  | .cons l b k r, j + 1 => by have := tot_drop r j; show (r.drop j).tot ≤ 1 + b.length + k.tot + r.tot; omega
theorem tot_kid {k : Fo} {j : Nat} {l b k1 r} (h : k.drop j = .cons l b k1 r) : 1 + b.length + k1.tot ≤ k.tot := by
  have := tot_drop k j
  rw [h] at this
  have h2 : 1 + b.length + k1.tot + r.tot ≤ k.tot := this
  omega
/-- append in bytes, as one operation. -/
theorem wp_appB {w : World} {o : Oper} {a : Act} {K : Act → World → Prop} {Q : Exit → Act → World → Prop} (d : Option Tmp) (s x : Operand) (hd : o.dst = d)
    (ho : o.op = .call { callee := .builtin .append, args := #[s, x], argTypes := #[22, 22] })
    (B : Nat) (V : Value) (xs : List Bt) (hs : a.eval s = V) (hown : Own w B V xs) (A : Option Addr) (m c : Nat) (ys : List Bt) (hx : a.eval x = .slice A m c) (hsrc : IsB w A m c ys)
    (hlen : xs.length + ys.length ≤ 1073741824) (hbase : B ≤ w.heap.size)
    (h : ∀ V' w', Own w' B V' (xs ++ ys) → w.grownBy w' V.ownBlock → (∀ k, V'.ownBlock = some k → V.ownBlock = some k ∨ k = w.heap.size) → K (a.put d V') w') : Oper.wp Tryd.prog o a w K Q := by
  subst hd
  obtain ⟨i, hi⟩ := one1
  have hm : m = ys.length := hsrc.1
  have hoo : ∀ V' w', w'.ownsRow B 5 1 V' (xs.length + m) (xs.map bvb ++ ys.map bvb) → Own w' B V' (xs ++ ys) := fun V' w' hh => by
    unfold Own; rw [List.length_append, List.map_append, ← hm]; exact hh
  rcases hsrc.src with ⟨rfl, rfl, rfl, e⟩ | ⟨ad, rfl, hl, hc⟩
  · have hh := h V w (hoo V w (by rw [e, Nat.add_zero, List.append_nil]; exact hown)) (World.grownBy.refl w _) (fun k hk => .inl hk)
    have hr := run_append_owned_none (P := Tryd.prog) (w := w) B 22 o.type 5 i 1 und22 hi.1 V xs.length (xs.map bvb) hown
    unfold Oper.wp
    simp [execOp, ho, resolve, invoke, builtin, hs, hx, hr, Result.andThen]
    exact hh
  · obtain ⟨v', w', hr, h2, h3, _, h4⟩ := run_append_at (P := Tryd.prog) w B 22 o.type 5 i (.int .u8 0) 1 1 und22 hi.1 hi.2.1 hi.2.2.1 hi.2.2.2 rfl (by decide) V xs.length (xs.map bvb) hown ad m c (ys.map bvb) hl hc (by intro u hu; obtain ⟨b, _, rfl⟩ := List.mem_map.1 hu; rfl) (by unfold maxLen; omega) (by omega) hbase
    have hh := h _ _ (hoo _ _ h2) h3 h4
    unfold Oper.wp execOp
    simp only [ho, resolve, invoke, builtin, Sem.run_bind, Sem.run_pure, Result.andThen_ok, List.map_toArray, List.map_cons, List.map_nil, hs, hx, hr]
    exact hh
/-- What the copying loop keeps: the result's box, the copy's box, its bytes, its row of parts. -/
structure Cpy (w : World) (xq : Nat) (l : Bool) (ab : Option Addr) (nb cb : Nat) (bs : List Bt) (V : Value) (acc : Fo) (y : World) : Prop where
  below : Below w.heap.size w y
  res : Box3 y (w.heap.size + 1) (.bool false) (.slice none 0 0) (.slice none 0 0)
  box : Box3 y xq (.bool l) (.slice ab nb cb) V
  bytes : IsB (see (Bes (w.heap.size + 2) xq V) y) ab nb cb bs
  row : RowI y (w.heap.size + 2) xq V acc
  ne : w.heap.size + 1 < xq
section
variable {w : World} {xq : Nat} {l : Bool} {ab : Option Addr} {nb cb : Nat} {bs : List Bt} {V V' : Value} {acc acc' : Fo} {y y' : World}
theorem Cpy.next (h : Cpy w xq l ab nb cb bs V acc y) (hb : Below y.heap.size y y') : Cpy w xq l ab nb cb bs V acc y' :=
  ⟨bl h.below hb, h.res.keep hb, h.box.keep hb, h.bytes.keep (see_below hb), h.row.next hb, h.ne⟩
theorem Cpy.drew (h : Cpy w xq l ab nb cb bs V acc y) : Cpy w xq l ab nb cb bs V acc y.drew := h.next (Below.refl _ _).drew
theorem Cpy.put (h : Cpy w xq l ab nb cb bs V acc y) (hg : y.grownBy y' V.ownBlock) (hat : ∀ k, V'.ownBlock = some k → V.ownBlock = some k ∨ k = y.heap.size) (hr : RowI y' (w.heap.size + 2) xq V' acc') : Cpy w xq l ab nb cb bs V' acc' (y'.setCell ⟨xq, 2, none⟩ V') := by
  have hx := h.box.grown hg h.row.1
  have hne := h.ne
  have hq : V.ownBlock ≠ some (w.heap.size + 1) := fun e => by have := (h.row.base e).1; omega
  have hs := h.res.grown hg hq
  refine ⟨(h.below.grown hg h.below.size (fun k hk => by have := (h.row.base hk).1; omega)).setCell (by show w.heap.size ≤ xq; omega) _, ?_, ?_, ?_, hr.set, hne⟩
  · have ho : ∀ i, (y'.setCell ⟨xq, 2, none⟩ V').cell? ⟨w.heap.size + 1, i, none⟩ = y'.cell? ⟨w.heap.size + 1, i, none⟩ := fun i => World.cell?_setCell_other _ _ _ _ (fun e => by have := congrArg Addr.block e; simp at this; omega)
    exact ⟨(ho 0).trans hs.k0, (ho 1).trans hs.k1, (ho 2).trans hs.k2, by simpa using hs.f0, by simpa using hs.f1, by simpa using hs.f2⟩
  · exact ⟨(World.cell?_setCell_other _ _ _ _ (by simp)).trans hx.k0, (World.cell?_setCell_other _ _ _ _ (by simp)).trans hx.k1, World.cell?_setCell_same _ _ _ hx.k2, by simpa using hx.f0, by simpa using hx.f1, by simpa using hx.f2⟩
  · refine h.bytes.keep (keep_see fun b o v h1 h2 => ?_)
    have hb := inHeap h2
    refine ⟨⟨h1.1, h1.2.1, fun e => ?_⟩, ?_⟩
    · rcases hat b e with h | h
      · exact h1.2.2 h
      · omega
    · rw [World.cell?_setCell_other _ _ _ _ (fun e => h1.2.1 (congrArg Addr.block e).symm), grown_cell hg hb h1.2.2]; exact h2
end
theorem Box3.keep3 {y : World} {p q : Nat} {a b c a' b' c' : Value} (h : Box3 y p a b c) (hne : p ≠ q) : Box3 (put3 y q a' b' c') p a b c :=
  ⟨(put3_other _ _ _ _ _ hne).trans h.k0, (put3_other _ _ _ _ _ hne).trans h.k1, (put3_other _ _ _ _ _ hne).trans h.k2, by simpa using h.f0, by simpa using h.f1, by simpa using h.f2⟩
theorem cpy_mk {w : World} {q : Nat} {l : Bool} {a5 : Option Addr} {n5 c5 : Nat} {bs : List Bt} {b0 b1 b2 : Value} {y : World} (hb : Below w.heap.size w y) (hr : Box3 y (w.heap.size + 1) (.bool false) (.slice none 0 0) (.slice none 0 0)) (hx : Box3 y q b0 b1 b2)
    (ho : Own y (w.heap.size + 2) (.slice a5 n5 c5) bs) (hne : (Value.slice a5 n5 c5).ownBlock ≠ some q) (hq : w.heap.size + 1 < q) : Cpy w q l a5 n5 c5 bs (.slice none 0 0) .nil (put3 y q (.bool l) (.slice a5 n5 c5) (.slice none 0 0)) := by
  refine ⟨put3_below hb (by omega), ?_, hx.put _ _ _, ?_, RowI.nil _ _ _, hq⟩
  · have ho : ∀ i, (put3 y q (.bool l) (.slice a5 n5 c5) (.slice none 0 0)).cell? ⟨w.heap.size + 1, i, none⟩ = y.cell? ⟨w.heap.size + 1, i, none⟩ := fun i => put3_other _ _ _ _ _ (by omega)
    exact ⟨(ho 0).trans hr.k0, (ho 1).trans hr.k1, (ho 2).trans hr.k2, by simpa using hr.f0, by simpa using hr.f1, by simpa using hr.f2⟩
  · have h := ho.asB
    obtain ⟨h1, h2, h3, h4, h5⟩ := h
    refine ⟨h1, h2, h3, h4, h5.imp id ?_⟩
    rintro ⟨b, o, rfl, h6⟩
    have hbb := ho.base (k := b) rfl
    have hbq : b ≠ q := fun e => hne (by rw [← e]; rfl)
    exact ⟨b, o, rfl, fun i x hx2 => by rw [see_in (show Bes (w.heap.size + 2) q (.slice none 0 0) b from ⟨hbb.1, hbq, by simp [Value.ownBlock]⟩), put3_other _ _ _ _ _ hbq]; exact h6 i x hx2⟩
/-- What copied answers: an item in new memory. -/
def cpOut (B : Nat) (w : World) (l : Bool) (bs : List Bt) (k : Fo) (e : Ending) : Prop := ∃ a n c a' n' c', e = .returned (.agg #[.bool l, .slice a n c, .slice a' n' c']) ∧ IsB (see (fun b => B ≤ b) w) a n c bs ∧ IsK (see (fun b => B ≤ b) w) a' n' c' k
set_option maxHeartbeats 4000000 in
set_option maxRecDepth 100000 in
theorem copied_step (w : World) (l : Bool) (n c n' c' : Nat) (a a' : Option Addr) (bs : List Bt) (k : Fo) (hB : IsB w a n c bs) (hK : IsK w a' n' c' k) (ht : 1 + bs.length + k.tot ≤ 262144)
    (ih : ∀ (w : World) (l : Bool) (n c n' c' : Nat) (a a' : Option Addr) (bs : List Bt) (k1 : Fo), k1.size < k.size → IsB w a n c bs → IsK w a' n' c' k1 → 1 + bs.length + k1.tot ≤ 262144 → Calls Tryd.prog 17 #[.agg #[.bool l, .slice a n c, .slice a' n' c']] w fun e w' => cpOut w.heap.size w' l bs k1 e ∧ Below w.heap.size w w') :
    Calls Tryd.prog 17 #[.agg #[.bool l, .slice a n c, .slice a' n' c']] w fun e w' => cpOut w.heap.size w' l bs k e ∧ Below w.heap.size w w' := by
  have HBB := Lib.hid hB
  have HK := Lib.hid hK
  have HT := Lib.hid ht
  have HI := Lib.hid ih
  have HN : Hid (n' ≤ maxLen) := Lib.hid (Nat.le_trans hK.2.1 hK.2.2.1)
  have HP := Lib.hid ((Box3.new w (.bool l) (.slice a n c) (.slice a' n' c') 25).keep (ba _ (.cells #[.bool false, .slice none 0 0, .slice none 0 0] 25)))
  have HR : Hid (Box3 ((w.alloc (.cells #[.bool l, .slice a n c, .slice a' n' c'] 25)).alloc (.cells #[.bool false, .slice none 0 0, .slice none 0 0] 25)) (w.heap.size + 1) (.bool false) (.slice none 0 0) (.slice none 0 0)) := Lib.hid (by
    have := Box3.new (w.alloc (.cells #[.bool l, .slice a n c, .slice a' n' c'] 25)) (.bool false) (.slice none 0 0) (.slice none 0 0) 25
    rw [show (w.alloc (.cells #[.bool l, .slice a n c, .slice a' n' c'] 25)).heap.size = w.heap.size + 1 by simp] at this; exact this)
  have HB0 := Lib.hid (show Below w.heap.size w ((w.alloc (.cells #[.bool l, .slice a n c, .slice a' n' c'] 25)).alloc (.cells #[.bool false, .slice none 0 0, .slice none 0 0] 25)) from bl (ba _ _) (ba _ _))
  have HZ : Hid (((w.alloc (.cells #[.bool l, .slice a n c, .slice a' n' c'] 25)).alloc (.cells #[.bool false, .slice none 0 0, .slice none 0 0] 25)).heap.size = w.heap.size + 2) := Lib.hid (by simp)
  clear hB hK ht ih
  go_enter Tryd.func17, Tryd.ntmps17
  go_upto_region 1 with (fail)
  generalize (w.alloc (.cells #[.bool l, .slice a n c, .slice a' n' c'] 25)).alloc (.cells #[.bool false, .slice none 0 0, .slice none 0 0] 25) = y0 at *
  rename_i Q1 K1 hK1
  have HKK : ∀ (q : Nat) (a5 : Option Addr) (c5 : Nat) (u6 u7 u8 u9 u10 u11 u12 : Value) (y : World), Cpy w q l a5 bs.length c5 bs (.slice none 0 0) .nil y → Box3 y w.heap.size (.bool l) (.slice a n c) (.slice a' n' c') →
      (Exit.then K1 Q1) .normal { tmps := #[.agg #[.bool l, .slice a n c, .slice a' n' c'], .pointer (some ⟨w.heap.size, 0, none⟩), .pointer (some ⟨w.heap.size + 1, 0, none⟩), .pointer (some ⟨q, 0, none⟩), undef, undef, u6, u7, u8, u9, u10, u11, u12, undef, undef, undef, undef, undef, undef, undef, undef, undef, undef, undef, undef, undef, undef, undef, undef], defers := [] } y := by
    clear HP HR HB0 HZ
    intro q a5 c5 u6 u7 u8 u9 u10 u11 u12 y hC hP
    have HC := Lib.hid hC
    have g2 := hP.k2
    clear hC hP
    go_wp2_with (fail)
    clear g2
    go_loopw [16] (fun i y => ∃ (j : Nat) (V : Value) (acc : Fo), i = .int .i64 j ∧ Hid (j ≤ n' ∧ acc.len = j ∧ acc.app (k.drop j) = k ∧ Cpy w q l a5 bs.length c5 bs V acc y)) (fun i _ => n' - (intOf i).toNat)
    case atStart => exact ⟨0, _, .nil, rfl, Lib.hid ⟨Nat.zero_le _, rfl, by rw [Fo.drop_zero]; rfl, HC.out⟩⟩
    case round =>
      obtain ⟨j, V, acc, rfl, hp⟩ := hrel
      clear HC
      by_cases hlt : (j : Int) < (n' : Int)
      · obtain ⟨b, o, l1, bs1, k1, a1, n1, c1, a2, n2, c2, rfl, hd, hb1, hk1, G0, G1, G2⟩ := HK.out.at (show j < n' by omega)
        have g0 := keep_below hp.out.2.2.2.below _ _ G0
        have g1 := keep_below hp.out.2.2.2.below _ _ G1
        have g2 := keep_below hp.out.2.2.2.below _ _ G2
        have HCC := Lib.hid (fun y hy => HI.out y l1 n1 c1 n2 c2 a1 a2 bs1 k1 (Fo.drop_kid hd) (hb1.keep (keep_below hy)) (hk1.keep (keep_below hy)) (by have h1 := tot_kid hd; have h2 := HT.out; omega))
        have HZ : Hid ((acc.app (.cons l1 bs1 k1 .nil)).app (k.drop (j + 1)) = k) := Lib.hid (by
          rw [Fo.app_app]
          show acc.app (.cons l1 bs1 k1 (k.drop (j + 1))) = k
          rw [← hd]; exact hp.out.2.2.1)
        have HJ := Lib.hid (show j < n' ∧ wrap64 ((j : Int) + 1) = ((j + 1 : Nat) : Int) ∧ acc.len = j ∧ j + 1 ≤ 1073741824 by
          have h1 := HN.out
          have h2 := tot_len k
          have h3 := HT.out
          have h4 := HK.out.1
          refine ⟨by omega, ?_, hp.out.2.1, by omega⟩
          simp only [maxLen] at h1; unfold wrap64; omega)
        have HCy := Lib.hid (hp.out.2.2.2.next (ba _ (.cells #[.bool l1, .slice a1 n1 c1, .slice a2 n2 c2] 25)))
        have HZB := Lib.hid (Box3.new wr (.bool l1) (.slice a1 n1 c1) (.slice a2 n2 c2) 25)
        clear hd hb1 hk1 hp G0 G1 G2
        go_upto_region 5 with (fail)
        have HCy := Lib.hid HCy.out.drew
        have HZB := Lib.hid (HZB.out.keep (Below.refl _ _).drew)
        refine wp_region_og (fun _ => True) (.take 0 (.two 1 (.one 2 (.one 3 (.one 4 (.one 5 (.one 6 (.one 7 .done)))))) 2 (.two 1 (.one 3 (.one 4 (.one 5 (.one 6 (.one 7 .done))))) 3 (.two 1 (.one 4 (.one 5 (.one 6 (.one 7 .done)))) 4 (.one 1 (.one 5 (.one 6 (.one 7 .done)))))))) (by kernel_rfl) (by kernel_rfl) trivial ?_
        generalize (wr.alloc (.cells #[.bool l1, .slice a1 n1 c1, .slice a2 n2 c2] 25)).drew = w2 at *
        refine og_tk (some 20) (.pointer (some ⟨q, 2, none⟩)) rfl rfl (by go_simp) (fun _ _ => by simp [execOp, go_sem]) ?_
        simp only [Act.put, List.setIfInBounds_toArray, List.set_cons_zero, List.set_cons_succ]
        refine og_two ?_ ?_
        · skip
          refine og_of rfl (by go_simp) fun K hK => ?_
          have x2 := HCy.out.box.k2
          go_simp
          refine hK _ _ trivial ?_
          clear hK K x2
          refine og_f rfl (by go_simp) fun K hK => ?_
          obtain ⟨z0, z1, z2, _, _, _⟩ := HZB.out
          go_simp
          refine hK _ _ trivial ?_
          clear hK K z0 z1 z2
          refine og_f rfl (by go_simp) fun K hK => ?_
          go_simp
          refine (HCC.out _ HCy.out.below).mono ?_
          rintro e y3 ⟨⟨a3, n3, c3, a4, n4, c4, rfl, hB3, hK3⟩, hb⟩
          have HNB := Lib.hid (show ∀ y4, Below y3.heap.size y3 y4 → Keep (see (fun b => w2.heap.size ≤ b) y3) (see (Bes (w.heap.size + 2) q V) y4) from fun y4 h4 => new_bes HCy.out.row (inHeap HCy.out.box.k0) (inHeap HCy.out.res.k0) h4)
          have HB3 := Lib.hid (And.intro hB3 hK3)
          have HCy := Lib.hid (HCy.out.next hb)
          refine hK _ _ trivial ?_
          clear hK K hB3 hK3 hb
          refine og_f rfl (by go_simp) fun K hK => ?_
          go_simp
          refine hK _ _ trivial ?_
          clear hK K
          have HCy := Lib.hid (HCy.out.next (ba _ (.cells #[.bool l1, .slice a3 n3 c3, .slice a4 n4 c4] 25)))
          have HB3 := Lib.hid (show IsV (see (Bes (w.heap.size + 2) q V) (y3.alloc (.cells #[.bool l1, .slice a3 n3 c3, .slice a4 n4 c4] 25))) (.cons l1 bs1 k1 .nil) [.bool l1, .slice a3 n3 c3, .slice a4 n4 c4] from it_news (HB3.out.1.keep (HNB.out _ (ba _ _))) (HB3.out.2.keep (HNB.out _ (ba _ _))))
          have HC3 := Lib.hid (three_new y3 (.bool l1) (.slice a3 n3 c3) (.slice a4 n4 c4) 25)
          generalize y3.alloc (.cells #[.bool l1, .slice a3 n3 c3, .slice a4 n4 c4] 25) = y4 at *
          refine og_f rfl (by go_simp) fun K hK => ?_
          refine wp_appI (some 25) (.tmp 21) (.tmp 24) rfl rfl (w.heap.size + 2) q V acc rfl HCy.out.row (inHeap HCy.out.res.k0) (inHeap HCy.out.box.k0) ⟨y3.heap.size, 0, none⟩ l1 bs1 k1 (.slice a3 n3 c3) (.slice a4 n4 c4) 1 rfl HB3.out HC3.out (by have := HJ.out; omega) ?_
          intro V5 y5 hr hg hat
          obtain ⟨a6, c6, rfl, _⟩ := hr.isK
          have HC5 := Lib.hid (HCy.out.put hg hat hr)
          have hx5 := HCy.out.box.grown hg HCy.out.row.1
          have x4 := hx5.k2
          have x5 := hx5.f2
          refine hK _ _ trivial ?_
          simp only [Act.put, List.setIfInBounds_toArray, List.set_cons_zero, List.set_cons_succ]
          clear hK K hr hg hat hx5
          refine og_f rfl (by go_simp) fun K hK => ?_
          go_simp
          refine hK _ _ trivial ?_
          clear hK K
          refine og_f rfl (by go_simp) fun K hK => ?_
          go_simp
          refine hK _ _ trivial ?_
          clear hK K
          refine og_done (NoPanic.normal ?_)
          clear x4 x5
          go_wp2_with (fail)
          go_roundw
          case rel => exact ⟨j + 1, _, _, by rw [HJ.out.2.1], Lib.hid ⟨HJ.out.1, by rw [Fo.app_len, HJ.out.2.2.1]; rfl, HZ.out, HC5.out⟩⟩
          case measure => rw [HJ.out.2.1]; have := HJ.out.1; simp [intOf]; omega
        · skip
          refine og_of rfl (by go_simp) fun K hK => ?_
          obtain ⟨z0, z1, z2, _, _, _⟩ := HZB.out
          go_simp
          refine hK _ _ trivial ?_
          clear hK K z0 z1 z2
          refine og_two ?_ ?_
          · skip
            refine og_of rfl (by go_simp) fun K hK => ?_
            have x2 := HCy.out.box.k2
            go_simp
            refine hK _ _ trivial ?_
            clear hK K x2
            refine og_f rfl (by go_simp) fun K hK => ?_
            go_simp
            refine (HCC.out _ HCy.out.below).mono ?_
            rintro e y3 ⟨⟨a3, n3, c3, a4, n4, c4, rfl, hB3, hK3⟩, hb⟩
            have HNB := Lib.hid (show ∀ y4, Below y3.heap.size y3 y4 → Keep (see (fun b => w2.heap.size ≤ b) y3) (see (Bes (w.heap.size + 2) q V) y4) from fun y4 h4 => new_bes HCy.out.row (inHeap HCy.out.box.k0) (inHeap HCy.out.res.k0) h4)
            have HB3 := Lib.hid (And.intro hB3 hK3)
            have HCy := Lib.hid (HCy.out.next hb)
            refine hK _ _ trivial ?_
            clear hK K hB3 hK3 hb
            refine og_f rfl (by go_simp) fun K hK => ?_
            go_simp
            refine hK _ _ trivial ?_
            clear hK K
            have HCy := Lib.hid (HCy.out.next (ba _ (.cells #[.bool l1, .slice a3 n3 c3, .slice a4 n4 c4] 25)))
            have HB3 := Lib.hid (show IsV (see (Bes (w.heap.size + 2) q V) (y3.alloc (.cells #[.bool l1, .slice a3 n3 c3, .slice a4 n4 c4] 25))) (.cons l1 bs1 k1 .nil) [.bool l1, .slice a3 n3 c3, .slice a4 n4 c4] from it_news (HB3.out.1.keep (HNB.out _ (ba _ _))) (HB3.out.2.keep (HNB.out _ (ba _ _))))
            have HC3 := Lib.hid (three_new y3 (.bool l1) (.slice a3 n3 c3) (.slice a4 n4 c4) 25)
            generalize y3.alloc (.cells #[.bool l1, .slice a3 n3 c3, .slice a4 n4 c4] 25) = y4 at *
            refine og_f rfl (by go_simp) fun K hK => ?_
            refine wp_appI (some 25) (.tmp 21) (.tmp 24) rfl rfl (w.heap.size + 2) q V acc rfl HCy.out.row (inHeap HCy.out.res.k0) (inHeap HCy.out.box.k0) ⟨y3.heap.size, 0, none⟩ l1 bs1 k1 (.slice a3 n3 c3) (.slice a4 n4 c4) 1 rfl HB3.out HC3.out (by have := HJ.out; omega) ?_
            intro V5 y5 hr hg hat
            obtain ⟨a6, c6, rfl, _⟩ := hr.isK
            have HC5 := Lib.hid (HCy.out.put hg hat hr)
            have hx5 := HCy.out.box.grown hg HCy.out.row.1
            have x4 := hx5.k2
            have x5 := hx5.f2
            refine hK _ _ trivial ?_
            simp only [Act.put, List.setIfInBounds_toArray, List.set_cons_zero, List.set_cons_succ]
            clear hK K hr hg hat hx5
            refine og_f rfl (by go_simp) fun K hK => ?_
            go_simp
            refine hK _ _ trivial ?_
            clear hK K
            refine og_f rfl (by go_simp) fun K hK => ?_
            go_simp
            refine hK _ _ trivial ?_
            clear hK K
            refine og_done (NoPanic.normal ?_)
            clear x4 x5
            go_wp2_with (fail)
            go_roundw
            case rel => exact ⟨j + 1, _, _, by rw [HJ.out.2.1], Lib.hid ⟨HJ.out.1, by rw [Fo.app_len, HJ.out.2.2.1]; rfl, HZ.out, HC5.out⟩⟩
            case measure => rw [HJ.out.2.1]; have := HJ.out.1; simp [intOf]; omega
          · skip
            refine og_of rfl (by go_simp) fun K hK => ?_
            go_simp
            refine (HCC.out _ HCy.out.below).mono ?_
            rintro e y3 ⟨⟨a3, n3, c3, a4, n4, c4, rfl, hB3, hK3⟩, hb⟩
            have HNB := Lib.hid (show ∀ y4, Below y3.heap.size y3 y4 → Keep (see (fun b => w2.heap.size ≤ b) y3) (see (Bes (w.heap.size + 2) q V) y4) from fun y4 h4 => new_bes HCy.out.row (inHeap HCy.out.box.k0) (inHeap HCy.out.res.k0) h4)
            have HB3 := Lib.hid (And.intro hB3 hK3)
            have HCy := Lib.hid (HCy.out.next hb)
            refine hK _ _ trivial ?_
            clear hK K hB3 hK3 hb
            refine og_two ?_ ?_
            · skip
              refine og_of rfl (by go_simp) fun K hK => ?_
              have x2 := HCy.out.box.k2
              go_simp
              refine hK _ _ trivial ?_
              clear hK K x2
              refine og_f rfl (by go_simp) fun K hK => ?_
              go_simp
              refine hK _ _ trivial ?_
              clear hK K
              have HCy := Lib.hid (HCy.out.next (ba _ (.cells #[.bool l1, .slice a3 n3 c3, .slice a4 n4 c4] 25)))
              have HB3 := Lib.hid (show IsV (see (Bes (w.heap.size + 2) q V) (y3.alloc (.cells #[.bool l1, .slice a3 n3 c3, .slice a4 n4 c4] 25))) (.cons l1 bs1 k1 .nil) [.bool l1, .slice a3 n3 c3, .slice a4 n4 c4] from it_news (HB3.out.1.keep (HNB.out _ (ba _ _))) (HB3.out.2.keep (HNB.out _ (ba _ _))))
              have HC3 := Lib.hid (three_new y3 (.bool l1) (.slice a3 n3 c3) (.slice a4 n4 c4) 25)
              generalize y3.alloc (.cells #[.bool l1, .slice a3 n3 c3, .slice a4 n4 c4] 25) = y4 at *
              refine og_f rfl (by go_simp) fun K hK => ?_
              refine wp_appI (some 25) (.tmp 21) (.tmp 24) rfl rfl (w.heap.size + 2) q V acc rfl HCy.out.row (inHeap HCy.out.res.k0) (inHeap HCy.out.box.k0) ⟨y3.heap.size, 0, none⟩ l1 bs1 k1 (.slice a3 n3 c3) (.slice a4 n4 c4) 1 rfl HB3.out HC3.out (by have := HJ.out; omega) ?_
              intro V5 y5 hr hg hat
              obtain ⟨a6, c6, rfl, _⟩ := hr.isK
              have HC5 := Lib.hid (HCy.out.put hg hat hr)
              have hx5 := HCy.out.box.grown hg HCy.out.row.1
              have x4 := hx5.k2
              have x5 := hx5.f2
              refine hK _ _ trivial ?_
              simp only [Act.put, List.setIfInBounds_toArray, List.set_cons_zero, List.set_cons_succ]
              clear hK K hr hg hat hx5
              refine og_f rfl (by go_simp) fun K hK => ?_
              go_simp
              refine hK _ _ trivial ?_
              clear hK K
              refine og_f rfl (by go_simp) fun K hK => ?_
              go_simp
              refine hK _ _ trivial ?_
              clear hK K
              refine og_done (NoPanic.normal ?_)
              clear x4 x5
              go_wp2_with (fail)
              go_roundw
              case rel => exact ⟨j + 1, _, _, by rw [HJ.out.2.1], Lib.hid ⟨HJ.out.1, by rw [Fo.app_len, HJ.out.2.2.1]; rfl, HZ.out, HC5.out⟩⟩
              case measure => rw [HJ.out.2.1]; have := HJ.out.1; simp [intOf]; omega
            · skip
              refine og_of rfl (by go_simp) fun K hK => ?_
              go_simp
              refine hK _ _ trivial ?_
              clear hK K
              have HCy := Lib.hid (HCy.out.next (ba _ (.cells #[.bool l1, .slice a3 n3 c3, .slice a4 n4 c4] 25)))
              have HB3 := Lib.hid (show IsV (see (Bes (w.heap.size + 2) q V) (y3.alloc (.cells #[.bool l1, .slice a3 n3 c3, .slice a4 n4 c4] 25))) (.cons l1 bs1 k1 .nil) [.bool l1, .slice a3 n3 c3, .slice a4 n4 c4] from it_news (HB3.out.1.keep (HNB.out _ (ba _ _))) (HB3.out.2.keep (HNB.out _ (ba _ _))))
              have HC3 := Lib.hid (three_new y3 (.bool l1) (.slice a3 n3 c3) (.slice a4 n4 c4) 25)
              generalize y3.alloc (.cells #[.bool l1, .slice a3 n3 c3, .slice a4 n4 c4] 25) = y4 at *
              refine og_f rfl (by go_simp) fun K hK => ?_
              have x2 := HCy.out.box.k2
              go_simp
              refine hK _ _ trivial ?_
              clear hK K x2
              refine og_f rfl (by go_simp) fun K hK => ?_
              refine wp_appI (some 25) (.tmp 21) (.tmp 24) rfl rfl (w.heap.size + 2) q V acc rfl HCy.out.row (inHeap HCy.out.res.k0) (inHeap HCy.out.box.k0) ⟨y3.heap.size, 0, none⟩ l1 bs1 k1 (.slice a3 n3 c3) (.slice a4 n4 c4) 1 rfl HB3.out HC3.out (by have := HJ.out; omega) ?_
              intro V5 y5 hr hg hat
              obtain ⟨a6, c6, rfl, _⟩ := hr.isK
              have HC5 := Lib.hid (HCy.out.put hg hat hr)
              have hx5 := HCy.out.box.grown hg HCy.out.row.1
              have x4 := hx5.k2
              have x5 := hx5.f2
              refine hK _ _ trivial ?_
              simp only [Act.put, List.setIfInBounds_toArray, List.set_cons_zero, List.set_cons_succ]
              clear hK K hr hg hat hx5
              refine og_f rfl (by go_simp) fun K hK => ?_
              go_simp
              refine hK _ _ trivial ?_
              clear hK K
              refine og_f rfl (by go_simp) fun K hK => ?_
              go_simp
              refine hK _ _ trivial ?_
              clear hK K
              refine og_done (NoPanic.normal ?_)
              clear x4 x5
              go_wp2_with (fail)
              go_roundw
              case rel => exact ⟨j + 1, _, _, by rw [HJ.out.2.1], Lib.hid ⟨HJ.out.1, by rw [Fo.app_len, HJ.out.2.2.1]; rfl, HZ.out, HC5.out⟩⟩
              case measure => rw [HJ.out.2.1]; have := HJ.out.1; simp [intOf]; omega
      · obtain ⟨k0, k1, k2, f0, f1, f2⟩ := hp.out.2.2.2.res
        obtain ⟨a6, c6, rfl, hK6⟩ := hp.out.2.2.2.row.isK
        have x0 := hp.out.2.2.2.box.k0
        have x1 := hp.out.2.2.2.box.k1
        have x2 := hp.out.2.2.2.box.k2
        have hacc : acc = k := by
          have h := hp.out.2.2.1
          rw [Fo.drop_end (by have := HK.out.1; omega), Fo.app_nil] at h; exact h
        have HB := Lib.hid (And.intro hp.out.2.2.2.below (And.intro hK6 (And.intro hp.out.2.2.2.bytes hp.out.2.2.2.ne)))
        clear hp hK6
        subst hacc
        go_wp2_with (fail)
        have X := (Box3.mk k0 k1 k2 f0 f1 f2).put (.bool l) (.slice a5 bs.length c5) (.slice a6 acc.len c6)
        have hbn := HB.out.2.2.2
        have hkp : ∀ (S : Nat → Prop), (∀ b, S b → w.heap.size + 2 ≤ b) → Keep (see S wr) (see (fun b => w.heap.size ≤ b) (put3 wr (w.heap.size + 1) (.bool l) (.slice a5 bs.length c5) (.slice a6 acc.len c6))) := fun S hS =>
          keep_see fun b o v h1 h2 => ⟨by have := hS b h1; omega, by rw [put3_other _ _ _ _ _ (by have := hS b h1; omega)]; exact h2⟩
        refine bodyPost_ret (v := .agg #[.bool l, .slice a5 bs.length c5, .slice a6 acc.len c6]) (by simp [results, Tryd.results17, go_sem, X.k0, X.k1, X.k2]) rfl ⟨?_, put3_below HB.out.1 (by omega)⟩
        exact ⟨a5, _, c5, a6, _, c6, rfl, HB.out.2.2.1.keep (hkp _ fun b h => h.1), HB.out.2.1.keep (hkp _ fun b h => h)⟩
  have HP := Lib.hid (HP.out.keep (Below.refl y0.heap.size y0).drew)
  have HR := Lib.hid (HR.out.keep (Below.refl y0.heap.size y0).drew)
  have HB0 := Lib.hid HB0.out.drew
  have HZ : Hid (y0.drew.heap.size = w.heap.size + 2) := Lib.hid HZ.out
  refine wp_region_og (fun y => Below y0.drew.heap.size y0.drew y) (.take 0 (.take 1 (.take 3 (.take 4 (.two 2 (.two 5 (.take 6 (.one 7 (.one 8 .done))) 7 (.one 5 (.take 6 (.one 8 .done)))) 7 (.one 2 (.one 5 (.take 6 (.one 8 .done))))))))) (by kernel_rfl) (by kernel_rfl) (Below.refl _ _) ?_
  generalize y0.drew = y1 at *
  refine og_tk (some 6) (.pointer (some ⟨w.heap.size, 0, none⟩)) rfl rfl (by go_simp) (fun _ _ => by simp [execOp, go_sem]) ?_
  simp only [Act.put, List.setIfInBounds_toArray, List.set_cons_zero, List.set_cons_succ]
  refine og_ld (some 7) 4 (.tmp 6) (.pointer (some ⟨w.heap.size, 0, none⟩)) (.bool l) rfl rfl (by go_simp) rfl rfl (fun y hy => by have h := keep1 hy HP.out.k0; simp [Instr.loadAt, go_sem, h, Tryd.underlying4]) ?_
  simp only [Act.put, List.setIfInBounds_toArray, List.set_cons_zero, List.set_cons_succ]
  refine og_tk (some 9) (.pointer (some ⟨w.heap.size, 1, none⟩)) rfl rfl (by go_simp) (fun _ _ => by simp [execOp, go_sem]) ?_
  simp only [Act.put, List.setIfInBounds_toArray, List.set_cons_zero, List.set_cons_succ]
  refine og_ld (some 10) 22 (.tmp 9) (.pointer (some ⟨w.heap.size, 1, none⟩)) (.slice a n c) rfl rfl (by go_simp) rfl rfl (fun y hy => by have h := keep1 hy HP.out.k1; simp [Instr.loadAt, go_sem, h, Tryd.underlying22]) ?_
  simp only [Act.put, List.setIfInBounds_toArray, List.set_cons_zero, List.set_cons_succ]
  refine og_two ?_ ?_
  · refine og_of rfl (by go_simp) fun K hK => ?_
    go_simp
    refine hK _ _ (ba _ _) ?_
    clear hK K
    have HB2 := Lib.hid (ba y1 (.cells #[] 5))
    have HO := Lib.hid (own_none y1 (w.heap.size + 2) (Nat.le_of_eq HZ.out.symm))
    have HZ2 : Hid ((y1.alloc (.cells #[] 5)).heap.size = w.heap.size + 3) := Lib.hid (by have := HZ.out; simp; omega)
    generalize y1.alloc (.cells #[] 5) = y2 at *
    refine og_two ?_ ?_
    · skip
      refine og_of rfl (by go_simp) fun K hK => ?_
      refine wp_appB (some 11) (.tmp 8) (.tmp 10) rfl rfl (w.heap.size + 2) _ [] rfl HO.out a n c bs rfl (HBB.out.keep (keep_below (bl HB0.out HB2.out))) (by have := HT.out; simp; omega) (by have := HZ2.out; omega) ?_
      intro V5 y5 hO5 hg hat
      rw [List.nil_append] at hO5
      obtain ⟨a5, c5, rfl, hB5⟩ := hO5.isB
      have HS5 := Lib.hid (HB2.out.grown hg HB2.out.size (fun k hk => by cases hk; exact Nat.le_refl _))
      refine hK _ _ HS5.out ?_
      simp only [Act.put, List.setIfInBounds_toArray, List.set_cons_zero, List.set_cons_succ]
      have HO5 := Lib.hid hO5
      clear hK K hg hat hO5 hB5
      refine og_tk (some 12) (.agg #[.bool l, .slice a5 bs.length c5, .slice none 0 0]) rfl rfl (by go_simp) (fun _ _ => by simp [execOp, go_sem]) ?_
      simp only [Act.put, List.setIfInBounds_toArray, List.set_cons_zero, List.set_cons_succ]
      refine og_f rfl (by go_simp) fun K hK => ?_
      go_simp
      refine hK _ _ (bl HS5.out (ba _ _)) ?_
      clear hK K
      have HB7 := Lib.hid (bl HS5.out (ba y5 (.cells #[.bool false, .slice none 0 0, .slice none 0 0] 25)))
      have HX := Lib.hid (Box3.new y5 (.bool false) (.slice none 0 0) (.slice none 0 0) 25)
      have HO7 := Lib.hid (HO5.out.below (ba y5 (.cells #[.bool false, .slice none 0 0, .slice none 0 0] 25)))
      have HNE : Hid ((Value.slice a5 bs.length c5).ownBlock ≠ some y5.heap.size) := Lib.hid (fun e => by have := (HO5.out.base e).2; omega)
      have HQ : Hid (w.heap.size + 1 < y5.heap.size) := Lib.hid (by have := HS5.out.size; have := HZ.out; omega)
      generalize y5.alloc (.cells #[.bool false, .slice none 0 0, .slice none 0 0] 25) = y7 at *
      obtain ⟨x0, x1, x2, g0, g1, g2⟩ := HX.out
      refine og_f rfl (by go_simp) fun K hK => ?_
      go_simp
      refine hK _ _ (put3_below HB7.out HS5.out.size) ?_
      clear hK K
      refine og_done (NoPanic.normal ?_)
      exact HKK _ _ _ _ _ _ _ _ _ _ _ (cpy_mk (bl HB0.out HB7.out) (HR.out.keep HB7.out) HX.out HO7.out HNE.out HQ.out) ((HP.out.keep HB7.out).keep3 (by have := HQ.out; omega))
    · refine og_of rfl (by go_simp) fun K hK => ?_
      go_simp
      refine hK _ _ (bl HB2.out (ba _ _)) ?_
      clear hK K
      have HB7 := Lib.hid (bl HB2.out (ba y2 (.cells #[.bool false, .slice none 0 0, .slice none 0 0] 25)))
      have HX := Lib.hid (Box3.new y2 (.bool false) (.slice none 0 0) (.slice none 0 0) 25)
      have HO7 := Lib.hid (HO.out.below (ba y2 (.cells #[.bool false, .slice none 0 0, .slice none 0 0] 25)))
      have HZ7 : Hid ((y2.alloc (.cells #[.bool false, .slice none 0 0, .slice none 0 0] 25)).heap.size = w.heap.size + 4) := Lib.hid (by have := HZ2.out; simp; omega)
      generalize y2.alloc (.cells #[.bool false, .slice none 0 0, .slice none 0 0] 25) = y7 at *
      refine og_f rfl (by go_simp) fun K hK => ?_
      refine wp_appB (some 11) (.tmp 8) (.tmp 10) rfl rfl (w.heap.size + 2) _ [] rfl HO7.out a n c bs rfl (HBB.out.keep (keep_below (bl HB0.out HB7.out))) (by have := HT.out; simp; omega) (by have := HZ7.out; omega) ?_
      intro V5 y5 hO5 hg hat
      rw [List.nil_append] at hO5
      obtain ⟨a5, c5, rfl, hB5⟩ := hO5.isB
      have HS5 := Lib.hid (HB7.out.grown hg HB7.out.size (fun k hk => by cases hk; exact Nat.le_refl _))
      refine hK _ _ HS5.out ?_
      simp only [Act.put, List.setIfInBounds_toArray, List.set_cons_zero, List.set_cons_succ]
      have HO5 := Lib.hid hO5
      have HX5 := Lib.hid (HX.out.grown hg (fun e => by injection e with e; have e : y1.heap.size = y2.heap.size := e; have := HZ.out; have := HZ2.out; omega))
      have HNE : Hid ((Value.slice a5 bs.length c5).ownBlock ≠ some y2.heap.size) := Lib.hid (fun e => by
        rcases hat _ e with h | h
        · injection h with h
          have h : y1.heap.size = y2.heap.size := h
          have := HZ.out; have := HZ2.out; omega
        · have := HZ7.out; have := HZ2.out; omega)
      clear hK K hg hat hO5 hB5
      refine og_tk (some 12) (.agg #[.bool l, .slice a5 bs.length c5, .slice none 0 0]) rfl rfl (by go_simp) (fun _ _ => by simp [execOp, go_sem]) ?_
      simp only [Act.put, List.setIfInBounds_toArray, List.set_cons_zero, List.set_cons_succ]
      obtain ⟨x0, x1, x2, g0, g1, g2⟩ := HX5.out
      refine og_f rfl (by go_simp) fun K hK => ?_
      go_simp
      refine hK _ _ (put3_below HS5.out (by have := HZ2.out; have := HZ.out; omega)) ?_
      clear hK K
      refine og_done (NoPanic.normal ?_)
      exact HKK _ _ _ _ _ _ _ _ _ _ _ (cpy_mk (bl HB0.out HS5.out) (HR.out.keep HS5.out) HX5.out HO5.out HNE.out (by have := HZ2.out; omega)) ((HP.out.keep HS5.out).keep3 (by have := HZ2.out; omega))
  · refine og_of rfl (by go_simp) fun K hK => ?_
    go_simp
    refine hK _ _ (ba _ _) ?_
    clear hK K
    have HB7 := Lib.hid (ba y1 (.cells #[.bool false, .slice none 0 0, .slice none 0 0] 25))
    have HX := Lib.hid (Box3.new y1 (.bool false) (.slice none 0 0) (.slice none 0 0) 25)
    have HZ7 : Hid ((y1.alloc (.cells #[.bool false, .slice none 0 0, .slice none 0 0] 25)).heap.size = w.heap.size + 3) := Lib.hid (by have := HZ.out; simp; omega)
    generalize y1.alloc (.cells #[.bool false, .slice none 0 0, .slice none 0 0] 25) = y7 at *
    refine og_f rfl (by go_simp) fun K hK => ?_
    go_simp
    refine hK _ _ (bl HB7.out (ba _ _)) ?_
    clear hK K
    have HB2 := Lib.hid (bl HB7.out (ba y7 (.cells #[] 5)))
    have HX2 := Lib.hid (HX.out.keep (ba y7 (.cells #[] 5)))
    have HO := Lib.hid (own_none y7 (w.heap.size + 2) (by have := HZ7.out; omega))
    have HZ2 : Hid ((y7.alloc (.cells #[] 5)).heap.size = w.heap.size + 4) := Lib.hid (by have := HZ7.out; simp; omega)
    generalize y7.alloc (.cells #[] 5) = y2 at *
    suffices h : True by
      clear h
      refine og_f rfl (by go_simp) fun K hK => ?_
      refine wp_appB (some 11) (.tmp 8) (.tmp 10) rfl rfl (w.heap.size + 2) _ [] rfl HO.out a n c bs rfl (HBB.out.keep (keep_below (bl HB0.out HB2.out))) (by have := HT.out; simp; omega) (by have := HZ2.out; omega) ?_
      intro V5 y5 hO5 hg hat
      rw [List.nil_append] at hO5
      obtain ⟨a5, c5, rfl, hB5⟩ := hO5.isB
      have HS5 := Lib.hid (HB2.out.grown hg HB2.out.size (fun k hk => by cases hk; exact HB7.out.size))
      refine hK _ _ HS5.out ?_
      simp only [Act.put, List.setIfInBounds_toArray, List.set_cons_zero, List.set_cons_succ]
      have HO5 := Lib.hid hO5
      have HX5 := Lib.hid (HX2.out.grown hg (fun e => by injection e with e; have e : y7.heap.size = y1.heap.size := e; have := HZ.out; have := HZ7.out; omega))
      have HNE : Hid ((Value.slice a5 bs.length c5).ownBlock ≠ some y1.heap.size) := Lib.hid (fun e => by
        rcases hat _ e with h | h
        · injection h with h
          have h : y7.heap.size = y1.heap.size := h
          have := HZ.out; have := HZ7.out; omega
        · have := HZ.out; have := HZ2.out; omega)
      clear hK K hg hat hO5 hB5
      refine og_tk (some 12) (.agg #[.bool l, .slice a5 bs.length c5, .slice none 0 0]) rfl rfl (by go_simp) (fun _ _ => by simp [execOp, go_sem]) ?_
      simp only [Act.put, List.setIfInBounds_toArray, List.set_cons_zero, List.set_cons_succ]
      obtain ⟨x0, x1, x2, g0, g1, g2⟩ := HX5.out
      refine og_f rfl (by go_simp) fun K hK => ?_
      go_simp
      refine hK _ _ (put3_below HS5.out (by have := HZ.out; have := HZ.out; omega)) ?_
      clear hK K
      refine og_done (NoPanic.normal ?_)
      exact HKK _ _ _ _ _ _ _ _ _ _ _ (cpy_mk (bl HB0.out HS5.out) (HR.out.keep HS5.out) HX5.out HO5.out HNE.out (by have := HZ.out; omega)) ((HP.out.keep HS5.out).keep3 (by have := HZ.out; omega))
    trivial
theorem copied_walk (w : World) (l : Bool) (n c n' c' : Nat) (a a' : Option Addr) (bs : List Bt) (k : Fo) (hB : IsB w a n c bs) (hK : IsK w a' n' c' k) (ht : 1 + bs.length + k.tot ≤ 262144) :
    Calls Tryd.prog 17 #[.agg #[.bool l, .slice a n c, .slice a' n' c']] w fun e w' => cpOut w.heap.size w' l bs k e ∧ Below w.heap.size w w' := by
  generalize hz : k.size = z at *
  induction z using Nat.strongRecOn generalizing w l n c n' c' a a' bs k with
  | _ z ih =>
    subst hz
    exact copied_step w l n c n' c' a a' bs k hB hK ht fun w l n c n' c' a a' bs k1 h1 h2 h3 h4 => ih k1.size h1 w l n c n' c' a a' bs k1 h2 h3 h4 rfl
end Rl
end Go.Proofs.YthlmjcochpodgaaDoor
