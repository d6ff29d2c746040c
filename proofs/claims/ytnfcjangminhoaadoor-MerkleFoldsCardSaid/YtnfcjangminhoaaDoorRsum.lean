/-
  mootref02.Sum. Own work.
-/
import Derived.Test.YtnfcjangminhoaaDoorRtop
import Derived.Test.YtnfcjangminhoaaDoorApn
import Derived.Test.YtnfcjangminhoaaDoorKsm
import Derived.BigRegion
namespace Go.Proofs.YtnfcjangminhoaaDoor
open Go.RowKit
set_option linter.unusedVariables false
namespace Kc
theorem inf26' : (Tryd.prog.info? 26).map (·.size) = some 32 := by kernel_rfl
theorem inf26 (g : Nat → Value) : (Tryd.prog.info? 26).map (·.size) = some (tab 32 g).size := by rw [tab_size]; exact inf26'
theorem und26 : Tryd.prog.underlying 26 = some (.array 32 5) := by kernel_rfl
theorem zero26 (w : World) : (zeroValue 26).run Tryd.prog w = .ok (.agg (tab 32 fun _ => bv 0#8)) w := by kernel_rfl
/-- What a piece is taken into. -/
structure Rs (W : World) (V T : Value) (q g qa : Nat) (n : Nat) (l : List Bt) (c : Nat → Wd64) (y : World) : Prop where
  srow : Row8 y g n (sponge l)
  sa : IsTab y qa 75 25 fun i => wv (c i)
  sres : IsTab y q 26 32 fun _ => bv 0#8
  cons : ConsAt y V
  turn : TurnAt y T
  below : Below W.heap.size W y
  bc : ∀ u v, ConsAt u V → (∀ b o x, b < qa → u.cell? ⟨b, o, none⟩ = some x → v.cell? ⟨b, o, none⟩ = some x) → ConsAt v V
  bt : ∀ u v, TurnAt u T → (∀ b o x, b < qa → u.cell? ⟨b, o, none⟩ = some x → v.cell? ⟨b, o, none⟩ = some x) → TurnAt v T
  o1 : W.heap.size ≤ q
  o2 : q < g
  o3 : g < qa
theorem Rs.next {W : World} {V T : Value} {q g qa n : Nat} {l : List Bt} {c : Nat → Wd64} {y y' : World} (h : Rs W V T q g qa n l c y) (hb : Below y.heap.size y y') : Rs W V T q g qa n l c y' :=
  ⟨h.srow.below hb, h.sa.below hb, h.sres.below hb, ConsAt.below hb h.cons, TurnAt.below hb h.turn, bl h.below hb, h.bc, h.bt, h.o1, h.o2, h.o3⟩
theorem Rs.drew {W : World} {V T : Value} {q g qa n : Nat} {l : List Bt} {c : Nat → Wd64} {y : World} (h : Rs W V T q g qa n l c y) : Rs W V T q g qa n l c y.drew :=
  ⟨h.srow, h.sa, h.sres, h.cons, h.turn, h.below.drew, h.bc, h.bt, h.o1, h.o2, h.o3⟩
theorem Rs.set {W : World} {V T : Value} {q g qa n : Nat} {l : List Bt} {c : Nat → Wd64} {y : World} (h : Rs W V T q g qa n l c y) (i : Nat) (x : Wd64) : Rs W V T q g qa n l (upd c i x) (y.setCell ⟨qa, i, none⟩ (wv x)) :=
  ⟨h.srow.keep (by have := h.o3; omega), (h.sa.set i _).cong (fun j _ => by unfold updv upd; dsimp only; split <;> rfl), h.sres.keep (by have := h.o2; have := h.o3; omega),
   h.bc y _ h.cons (fun b o v hb hv => by rw [World.cell?_setCell_other _ _ _ _ (fun e => by have := congrArg Addr.block e; simp only at this; omega)]; exact hv),
   h.bt y _ h.turn (fun b o v hb hv => by rw [World.cell?_setCell_other _ _ _ _ (fun e => by have := congrArg Addr.block e; simp only at this; omega)]; exact hv),
   h.below.setCell (by have := h.o1; have := h.o2; have := h.o3; show W.heap.size ≤ qa; omega) _, h.bc, h.bt, h.o1, h.o2, h.o3⟩
theorem Rs.row {W : World} {V T : Value} {q g qa n : Nat} {l : List Bt} {c : Nat → Wd64} {y : World} (h : Rs W V T q g qa n l c y) (d : Nat → Wd64) : Rs W V T q g qa n l d (y.setRow qa (words d)) :=
  ⟨h.srow.row (by have := h.o3; omega), h.sa.row, h.sres.rowOther (by have := h.o2; have := h.o3; omega),
   h.bc y _ h.cons (fun b o v hb hv => by rw [cell_setRow_other _ _ _ _ (by simp only; omega)]; exact hv),
   h.bt y _ h.turn (fun b o v hb hv => by rw [cell_setRow_other _ _ _ _ (by simp only; omega)]; exact hv),
   below_setRow h.below (by have := h.o1; have := h.o2; have := h.o3; omega : W.heap.size ≤ qa) _, h.bc, h.bt, h.o1, h.o2, h.o3⟩
theorem Rs.cong {W : World} {V T : Value} {q g qa n : Nat} {l : List Bt} {c d : Nat → Wd64} {y : World} (h : Rs W V T q g qa n l c y) (e : ∀ i, i < 25 → c i = d i) : Rs W V T q g qa n l d y :=
  ⟨h.srow, h.sa.cong (fun i hi => by rw [e i hi]), h.sres, h.cons, h.turn, h.below, h.bc, h.bt, h.o1, h.o2, h.o3⟩
/-- The padded bytes so far. -/
def padJ (l : List Bt) (j : Nat) : List Bt := l ++ 1#8 :: List.replicate j 0#8
theorem padJ_len (l : List Bt) (j : Nat) : (padJ l j).length = l.length + 1 + j := by unfold padJ; simp; omega
theorem padJ_succ (l : List Bt) (j : Nat) : (padJ l (j + 1)).map bv = (padJ l j).map bv ++ [.int .u8 0] := by
  unfold padJ; rw [List.replicate_succ']; simp; rfl
theorem padN_le (l : List Bt) : padN l ≤ l.length + 136 := by unfold padN; omega
theorem owns_len {w : World} {base size n : Nat} {e : TypeId} {V : Value} {xs : List Value} (h : w.ownsRow base e size V n xs) : slLen V = n := by
  rcases ownsRow_forms h with ⟨rfl, rfl⟩ | ⟨g, c, rfl, _⟩ <;> rfl
theorem owns_base {w : World} {base size n : Nat} {e : TypeId} {V : Value} {xs : List Value} (h : w.ownsRow base e size V n xs) {k : Nat} (hk : V.ownBlock = some k) : base ≤ k := by
  rcases ownsRow_forms h with ⟨rfl, _⟩ | ⟨g, c, rfl, hg, _⟩
  · cases hk
  · injection hk with hk; subst hk; exact hg
theorem src_of {w : World} (w' : World) {a : Option Addr} {l : List Bt} {cap : Nat} (hB : IsBs w a l) (hnil : a = none → l = [] ∧ cap = 0) (hk : ∀ b o v, w.cell? ⟨b, o, none⟩ = some v → w'.cell? ⟨b, o, none⟩ = some v) :
    (a = none ∧ l.length = 0 ∧ cap = 0 ∧ l.map bv = []) ∨ ∃ ad, a = some ad ∧ (l.map bv).length = l.length * 1 ∧ ∀ j u, (l.map bv)[j]? = some u → w'.cell? (ad.add j) = some u := by
  cases a with
  | none => obtain ⟨rfl, rfl⟩ := hnil rfl; exact .inl ⟨rfl, rfl, rfl, rfl⟩
  | some ad =>
    refine .inr ⟨ad, rfl, by simp, fun j u hu => ?_⟩
    rcases hB with rfl | ⟨b, o, h1, h2⟩
    · simp at hu
    · injection h1 with h1
      subst h1
      rw [List.getElem?_map] at hu
      cases hj : l[j]? with
      | none => rw [hj] at hu; cases hu
      | some x =>
        rw [hj] at hu
        injection hu with hu
        subst hu
        have hlt : j < l.length := (List.getElem?_eq_some_iff.1 hj).1
        have := hk _ _ _ (h2 j hlt)
        rw [add_at, this, List.getD_eq_getElem?_getD, hj]; rfl
set_option maxHeartbeats 16000000 in
set_option maxRecDepth 100000 in
theorem rsum_walk (l : List Bt) (a : Option Addr) (cap : Nat) (w : World) (hB : IsBs w a l) (hnil : a = none → l = [] ∧ cap = 0) (hcap : l.length ≤ cap) (hmax : l.length ≤ 140737488351232) :
    Calls Tryd.prog 38 #[.slice a l.length cap] w fun e w' => e = .returned (.agg (tab 32 fun i => bv (sum l i))) ∧ Below w.heap.size w w' := by
  obtain ⟨i0, hi0, hi1, hi2, hi3⟩ := one1
  have HI := Lib.hid (And.intro hi0 (And.intro hi1 (And.intro hi2 hi3)))
  clear hi0 hi1 hi2 hi3
  have HB := Lib.hid hB
  have HN := Lib.hid hnil
  clear hB hnil
  have z1 := zero25
  have z2 := zero26
  generalize hz : tab 25 (fun _ => wv 0#64) = z25 at *
  have HZ25 := Lib.hid hz
  clear hz
  generalize hz : (tab 32 fun _ => bv 0#8) = z32 at *
  have HZ32 := Lib.hid hz
  clear hz
  go_enter Tryd.func38, Tryd.ntmps38
  go_upto_region 1 with (fail)
  have h1 : Hid (IsTab (w.alloc (.cells z32 26)) w.heap.size 26 32 (fun _ => bv 0#8) ∧ Below w.heap.size w (w.alloc (.cells z32 26))) := by
    rw [← HZ32.out]
    exact Lib.hid ⟨IsTab.new w _ 32 _, (Below.refl _ _).alloc (Nat.le_refl _) _⟩
  generalize w.alloc (.cells z32 26) = w1 at *
  generalize hq : w.heap.size = q at *
  have HQ := Lib.hid hq
  clear hq
  go_upto_region 2 with (first
    | (go_at_call 45; refine (cons_call _).mono ?_; rintro e w2 ⟨V, rfl, hV, hb2⟩)
    | (go_at_call 46; refine (turn_call _).mono ?_; rintro e w3 ⟨T, rfl, hT, hb3⟩))
  have h3 : Hid (IsTab w3 q 26 32 (fun _ => bv 0#8) ∧ Below w.heap.size w w3 ∧ ConsAt w3 V ∧ TurnAt w3 T) := by
    have hbb : Below w.heap.size w w1 := by rw [HQ.out]; exact h1.out.2
    exact Lib.hid ⟨IsTab.below (IsTab.below h1.out.1 hb2) hb3, bl (bl hbb hb2) hb3, ConsAt.below hb3 hV.out, hT.out⟩
  clear h1 hb2 hb3 hV hT
  have hown0 : Hid ((w3.alloc (.cells #[] 5)).ownsRow w3.heap.size 5 1 (.slice (some ⟨w3.heap.size, 0, none⟩) 0 0) 0 []) := Lib.hid ⟨rfl, .inr ⟨w3.heap.size, 0, #[], rfl, Nat.le_refl _, heap_alloc_new w3 _, Nat.le_refl _, by decide, rfl, rfl⟩⟩
  have hsrc : Hid ((a = none ∧ l.length = 0 ∧ cap = 0 ∧ l.map bv = []) ∨ ∃ ad, a = some ad ∧ (l.map bv).length = l.length * 1 ∧ ∀ j u, (l.map bv)[j]? = some u → (w3.alloc (.cells #[] 5)).cell? (ad.add j) = some u) :=
    Lib.hid (src_of (w3.alloc (.cells #[] 5)) HB.out HN.out (fun b o v hv => by
      have h := keep1 h3.out.2.1 hv
      exact keep1 ((Below.refl _ _).alloc (Nat.le_refl _) _) h))
  have hlb : Hid (0 + l.length ≤ maxLen ∧ (0 + l.length) * 1 ≤ 140737488355328) := Lib.hid ⟨by unfold maxLen; omega, by omega⟩
  go_upto_region 3 with (refine wpList_append_any rfl (.tmp 13) (.tmp 14) 57 rfl w3.heap.size 5 i0 (.int .u8 0) 1 1 und22 HI.out rfl (by decide) _ 0 [] rfl hown0.out a l.length cap (l.map bv) rfl hsrc.out (by intro u hu; obtain ⟨b, _, rfl⟩ := List.mem_map.1 hu; rfl) hlb.out.1 hlb.out.2 (by simp) ?_; intro V1 w4 hown1 hgr1 hat1)
  have h4 : Hid (w4.ownsRow w3.heap.size 5 1 V1 l.length (l.map bv) ∧ Below w3.heap.size w3 w4) := by
    refine Lib.hid ⟨by have := hown1; rw [Nat.zero_add, List.nil_append] at this; exact this, below_grown (Nat.le_refl _) ((Below.refl _ _).alloc (Nat.le_refl _) _) hgr1 (fun k hk => by injection hk with hk; subst hk; exact Nat.le_refl _)⟩
  clear hown0 hsrc hlb hown1 hgr1 hat1
  have HM := Lib.hid hmax
  clear hmax
  generalize hB3 : w3.heap.size = B at *
  have HB3 := Lib.hid hB3
  clear hB3
  have hsz4 : B ≤ w4.heap.size := by have := h4.out.2.size; have := HB3.out; omega
  have HS4 := Lib.hid hsz4
  clear hsz4
  have hlb : Hid (l.length + 1 ≤ maxLen ∧ (l.length + 1) * 1 ≤ 140737488355328) := Lib.hid ⟨by have := HM.out; unfold maxLen; omega, by have := HM.out; omega⟩
  go_upto_region 4 with (refine wpList_append_at _ rfl (.tmp 16) (.tmp 17) 57 rfl B 5 i0 (.int .u8 0) 1 1 und22 HI.out rfl (by decide) _ l.length (l.map bv) rfl (h4.out.1.alloc _) ⟨w4.heap.size, 0, none⟩ 1 1 [.int .u8 1] rfl rfl (one_at rfl _ _) (by intro u hu; simp at hu; subst hu; rfl) hlb.out.1 hlb.out.2 (by simp; have := HS4.out; omega) ?_; intro V2 w5 hown2 hgr2 hat2)
  have h5 : Hid (w5.ownsRow B 5 1 V2 (l.length + 1) ((padJ l 0).map bv) ∧ Below B w3 w5) := by
    refine Lib.hid ⟨by have := hown2; unfold padJ; simp; exact this, below_grown (by rw [HB3.out]; exact Nat.le_refl _) (h4.out.2.alloc HS4.out _) hgr2 (fun k hk => owns_base h4.out.1 hk)⟩
  clear hown2 hgr2 hat2 h4 HS4 hlb
  go_loopw [5] (fun t y => ∃ (n : Nat) (V' : Value), t = V' ∧ Hid (l.length + 1 ≤ n ∧ n ≤ padN l) ∧ Hid (y.ownsRow B 5 1 V' n ((padJ l (n - l.length - 1)).map bv) ∧ Below B w3 y)) (fun t _ => padN l - slLen t)
  case atStart => exact ⟨l.length + 1, V2, rfl, Lib.hid ⟨Nat.le_refl _, by unfold padN; omega⟩, Lib.hid ⟨by rw [show l.length + 1 - l.length - 1 = 0 from by omega]; exact h5.out.1, h5.out.2⟩⟩
  case round =>
    obtain ⟨n, V', rfl, hn, hp⟩ := hrel
    clear h5
    obtain ⟨g, c, rfl, hnc, hcm, hBg, hln, hrow⟩ := row8_of hp.out.1 (by have := hn.out; omega)
    have HROW := Lib.hid hrow
    have HBG := Lib.hid hBg
    have HLN := Lib.hid hln
    have HNC := Lib.hid hnc
    have HCM := Lib.hid hcm
    clear hrow hBg hln hnc hcm
    have hn47 : Hid (n + 1 ≤ maxLen ∧ (n + 1) * 1 ≤ 140737488355328 ∧ B ≤ wr.heap.size) := Lib.hid ⟨by have := hn.out; have := HM.out; have := padN_le l; unfold maxLen; omega, by have := hn.out; have := HM.out; have := padN_le l; omega, by have := hp.out.2.size; have := HB3.out; omega⟩
    by_cases hm : n % 136 = 0
    · have htst : ((n : Int) % 136 != 0) = false := by
        have : (n : Int) % 136 = 0 := by omega
        simpa using this
      have hnp : n = padN l := by have := hn.out; unfold padN at *; omega
      have HNP := Lib.hid hnp
      clear hm hnp
      go_upto_region 6 with (fail)
      have hpd : Row8 wr g n (fun i => (pad l).getD i 0#8) := by
        have := HROW.out
        rw [show n - l.length - 1 = padN l - l.length - 1 from by rw [HNP.out]] at this
        exact this
      have HPD := Lib.hid hpd
      have HPW := Lib.hid hp.out.2
      clear hpd hp HROW HLN
      have hn0 : Hid (0 < n) := Lib.hid (by have := hn.out; omega)
      have cN : _ = some (Value.int .u8 (Bv ((pad l).getD (n - 1) 0#8))) := HPD.out.cell (n - 1) (by have := hn0.out; omega)
      have fN := HPD.out.fz (n - 1)
      have b0 : (1 : Int) ≤ (n : Int) := by have := hn0.out; omega
      have b1 : (n : Int) ≤ 140737488355328 := by have := hn47.out.2.1; omega
      have x128 := Bv_xor128
      generalize hpv : (pad l).getD (n - 1) 0#8 = pv at *
      have HPV := Lib.hid hpv
      clear hpv
      go_upto_region 7 with (fail)
      have hr8 : Hid (Row8 (wr.setCell ⟨g, n - 1, none⟩ (.int .u8 (Bv (pv ^^^ 128#8)))) g n (sponge l) ∧ Below B w3 (wr.setCell ⟨g, n - 1, none⟩ (.int .u8 (Bv (pv ^^^ 128#8))))) :=
        Lib.hid ⟨(HPD.out.set (n - 1) (pv ^^^ 128#8)).cong (fun i hi => by
          unfold sponge
          rw [← HNP.out]
          by_cases e : i = n - 1
          · rw [if_pos e, if_pos e, e, HPV.out]
          · rw [if_neg e, if_neg e]), HPW.out.setCell HBG.out _⟩
      clear cN fN x128 HPD HPV HPW
      generalize wr.setCell ⟨g, n - 1, none⟩ (.int .u8 (Bv (pv ^^^ 128#8))) = y1 at *
      have HRS : Hid (Rs w V T q g y1.heap.size n l (stS l 0) (y1.alloc (.cells z25 75))) := by
        obtain ⟨k1, k2, k3, k4⟩ := h3.out
        have kb : Below w3.heap.size w3 y1 := by rw [HB3.out]; exact hr8.out.2
        have ka : Below w3.heap.size w3 (y1.alloc (.cells (tab 25 fun _ => wv 0#64) 75)) := kb.alloc kb.size _
        have hg := hr8.out.1.lt
        have hBg := HBG.out
        have hqB : q < B := by have := k1.lt; rw [HB3.out] at this; exact this
        rw [← HZ25.out]
        refine Lib.hid ⟨hr8.out.1.alloc _, IsTab.new y1 _ 25 _, k1.below ka, ConsAt.below ka k3, TurnAt.below ka k4, bl k2 ka, fun u v hu hk => ?_, fun u v hu hk => ?_, by rw [HQ.out]; exact Nat.le_refl _, by omega, hg⟩
        · obtain ⟨qc, cp, hV, hc⟩ := k3
          obtain ⟨qc', cp', e, hc'⟩ := hu
          have hlt := inHeap (hc 0 (by decide))
          rw [HB3.out] at hlt
          have : qc' = qc := by rw [hV] at e; injection e with e1; injection e1 with e2; injection e2 with e3; exact e3.symm
          exact ⟨qc', cp', e, fun i hi => hk _ _ _ (by omega) (hc' i hi)⟩
        · obtain ⟨qc, hV, hc⟩ := k4
          obtain ⟨qc', e, hc'⟩ := hu
          have hlt := inHeap (hc 0 (by decide))
          rw [HB3.out] at hlt
          have : qc' = qc := by rw [hV] at e; injection e with e1; injection e1 with e2; injection e2 with e3; exact e3.symm
          exact ⟨qc', e, fun i hi => hk _ _ _ (by omega) (hc' i hi)⟩
      clear hr8 h3
      go_upto_region 8 with (fail)
      generalize y1.alloc (.cells z25 75) = y2 at *
      generalize y1.heap.size = qa at *
      go_wp2_with fail
      go_loopw [7] (fun t y => ∃ m : Nat, t = .int .i64 (136 * (m : Int)) ∧ Hid (136 * m ≤ n) ∧ Hid (Rs w V T q g qa n l (stS l m) y)) (fun t _ => n - (intOf t).toNat)
      case atStart => exact ⟨0, rfl, Lib.hid (Nat.zero_le _), HRS⟩
      case round =>
        obtain ⟨m, rfl, hmn, hr⟩ := hrel
        clear HRS
        have hm47 : 136 * (m : Int) ≤ 140737488355328 := by have := hmn.out; omega
        by_cases hlt : 136 * (m : Int) < (n : Int)
        · have hst : Hid (perm (mix (stS l m) (fun j => sponge l (136 * m + j)) 136) = stS l (m + 1)) := Lib.hid rfl
          generalize stS l m = c0 at *
          have hr0 : Hid (Rs w V T q g qa n l (mix c0 (fun j => sponge l (136 * m + j)) 0) wr) := Lib.hid (hr.out.cong (fun i _ => mix_zero c0 _ i))
          clear hr
          go_wp2_with fail
          go_loopw [8] (fun t y => ∃ k : Nat, k ≤ 136 ∧ t = .int .i64 k ∧ Hid (Rs w V T q g qa n l (mix c0 (fun j => sponge l (136 * m + j)) k) y)) (fun t _ => 136 - (intOf t).toNat)
          case atStart => exact ⟨0, by decide, rfl, hr0⟩
          case round =>
            obtain ⟨k, hk, rfl, hrk⟩ := hrel
            clear hr0
            by_cases hk6 : (k : Int) < 136
            · have NE : Nonempty (Wd (Rs w V T q g qa n l (mix c0 (fun j => sponge l (136 * m + j)) k))) := ⟨⟨_, hrk.out⟩⟩
              have hmk : 136 * m + k < n := by have := hmn.out; have := HNP.out; unfold padN at *; omega
              have a1 : ∀ z : Wd (Rs w V T q g qa n l (mix c0 (fun j => sponge l (136 * m + j)) k)), z.val.cell? ⟨qa, k / 8, none⟩ = some (Value.int .u64 (W (mix c0 (fun j => sponge l (136 * m + j)) k (k / 8)))) := fun z => z.ok.sa.cell (k / 8) (by omega)
              have a2 : ∀ z : Wd (Rs w V T q g qa n l (mix c0 (fun j => sponge l (136 * m + j)) k)), z.val.cell? ⟨g, 136 * m + k, none⟩ = some (Value.int .u8 (Bv (sponge l (136 * m + k)))) := fun z => z.ok.srow.cell (136 * m + k) hmk
              have s2 : (0 : Int) ≤ 136 * (m : Int) + (k : Int) := by omega
              have s3 : 136 * (m : Int) + (k : Int) < (n : Int) := by omega
              have s4 : (136 * (m : Int) + (k : Int)).toNat = 136 * m + k := by omega
              have k0 : (0 : Int) ≤ (k : Int) := by omega
              have d2 : (0 : Int) ≤ (k : Int) / 8 := by omega
              have d3 : (k : Int) / 8 < 25 := by omega
              have d4 : ((k : Int) / 8).toNat = k / 8 := by omega
              have s1 : IntKind.i64.wrap (136 * (m : Int) + (k : Int)) = 136 * (m : Int) + (k : Int) := IntWalk.i64_in _ (by omega)
              have r0 := wrapB
              have HP2 := Lib.hid hrk.out.drew
              clear hmk
              go_upto_region 14 with (fail)
              refine wp_region_quiet_tail 18 (Rs w V T q g qa n l (mix c0 (fun j => sponge l (136 * m + j)) k)) (by kernel_rfl) (by kernel_rfl) HP2.out ?_
              simp only [List.take_succ_cons, List.take_zero, List.drop_succ_cons, List.drop_zero]
              repeat (go_big_quiet_step (fail))
              refine wpQuiet_nil ?_
              rintro _ ⟨z, rfl⟩
              have fj := z.ok.sa.fz (k / 8)
              have sj : _ = some (Value.int .u64 (W (mix c0 (fun j => sponge l (136 * m + j)) k (k / 8)))) := z.ok.sa.cell (k / 8) (by omega)
              clear a1 a2 s1 s2 s3 s4 r0 HP2 NE hrk
              go_wp2_with fail
              rw [wr_shl _ _ (by omega), W_xor]
              exact ⟨⟨k + 1, by omega, by go_num, Lib.hid ((z.ok.set (k / 8) _).cong (fun j _ => mix_step c0 _ k j))⟩, by simp [intOf]; omega⟩
            · obtain rfl : k = 136 := by omega
              clear hk
              generalize hc1 : mix c0 (fun j => sponge l (136 * m + j)) 136 = c1 at *
              have HSA := Lib.hid hrk.out.sa
              have HPC := Lib.hid (perm_call c1 V T wr hrk.out.cons hrk.out.turn)
              go_wp2_with (first
                | (refine wpList_load_row rfl 75 (.tmp 6) rfl qa rfl 75 (words c1) (0, 0) _ HSA.out und25 rfl (inf25 _) ?_)
                | (go_at_call 47; refine HPC.out.mono ?_; rintro e w7 ⟨rfl, hb7⟩)
                | (refine wpList_store_row rfl 75 (.tmp 6) (.tmp 65) rfl qa (words (perm c1)) rfl rfl 75 _ (hrk.out.next hb7).sa (inf25 _) (by rw [words, tab_size, tab_size]) (one_wv _ _) ?_))
              refine ⟨⟨m + 1, congrArg _ (by omega), Lib.hid (by have := HNP.out; unfold padN at this; omega), Lib.hid ?_⟩, by simp [intOf]; omega⟩
              rw [← hst.out]
              exact (hrk.out.next hb7).row _
        · have hmeq : 136 * m = n := by have := hmn.out; omega
          have hdg : Hid (digest (stS l m) = sum l) := Lib.hid (by
            have : m = padN l / 136 := by rw [← HNP.out, ← hmeq]; omega
            rw [this]; exact sponge_sum l)
          generalize stS l m = c0 at *
          go_upto_region 17 with (fail)
          have HD : Hid (IsTab (wr.alloc (.cells z32 26)) qa 75 25 (fun i => wv (c0 i)) ∧ IsTab (wr.alloc (.cells z32 26)) wr.heap.size 26 32 (fun i => bv (digK c0 0 i)) ∧ IsTab (wr.alloc (.cells z32 26)) q 26 32 (fun _ => bv 0#8) ∧ Below w.heap.size w (wr.alloc (.cells z32 26))) := by
            rw [← HZ32.out]
            exact Lib.hid ⟨hr.out.sa.alloc _, (IsTab.new wr _ 32 _).cong (fun i _ => by unfold digK; rw [if_neg (by omega)]), hr.out.sres.alloc _, hr.out.below.alloc hr.out.below.size _⟩
          have hne : Hid (qa ≠ wr.heap.size ∧ q ≠ wr.heap.size ∧ w.heap.size ≤ wr.heap.size ∧ w.heap.size ≤ q) := Lib.hid ⟨by have := hr.out.sa.lt; omega, by have := hr.out.sres.lt; omega, hr.out.below.size, hr.out.o1⟩
          clear hr hmn hmeq
          generalize wr.alloc (.cells z32 26) = y3 at *
          generalize wr.heap.size = qo at *
          go_wp2_with fail
          go_loopw [10] (fun t y => ∃ k : Nat, k ≤ 32 ∧ t = .int .i64 k ∧ Hid (IsTab y qa 75 25 (fun i => wv (c0 i)) ∧ IsTab y qo 26 32 (fun i => bv (digK c0 k i)) ∧ IsTab y q 26 32 (fun _ => bv 0#8) ∧ Below w.heap.size w y)) (fun t _ => 32 - (intOf t).toNat)
          case atStart => exact ⟨0, by decide, rfl, HD⟩
          case round =>
            obtain ⟨k, hk, rfl, hd⟩ := hrel
            clear HD
            by_cases hk2 : (k : Int) < 32
            · have aj : _ = some (Value.int .u64 (W (c0 (k / 8)))) := hd.out.1.cell (k / 8) (by omega)
              have oj : _ = some (Value.int .u8 (Bv (digK c0 k k))) := hd.out.2.1.cell k (by omega)
              have fj := hd.out.2.1.fz k
              go_wp2_with fail
              rw [dig_val]
              refine ⟨⟨k + 1, by omega, by go_num, Lib.hid ⟨hd.out.1.keep hne.out.1, (hd.out.2.1.set k _).cong (fun i _ => ?_), hd.out.2.2.1.keep hne.out.2.1, hd.out.2.2.2.setCell (show w.heap.size ≤ qo from hne.out.2.2.1) _⟩⟩, by simp [intOf]; omega⟩
              unfold updv digK bv
              dsimp only
              by_cases e : i = k
              · subst e; rw [if_pos rfl, if_pos (Nat.lt_succ_self _)]
              · rw [if_neg e]
                by_cases e2 : i < k
                · rw [if_pos e2, if_pos (by omega)]
                · rw [if_neg e2, if_neg (by omega)]
            · obtain rfl : k = 32 := by omega
              go_wp2_with (first
                | (refine wpList_load_row rfl 26 (.tmp 9) rfl qo rfl 26 (tab 32 fun i => bv (digK c0 32 i)) (0, 0) _ hd.out.2.1 und26 rfl (inf26 _) ?_)
                | (refine wpList_store_row rfl 26 (.tmp 2) (.tmp 82) rfl q (tab 32 fun i => bv (digK c0 32 i)) rfl rfl 26 _ hd.out.2.2.1 (inf26 _) (by rw [tab_size, tab_size]) (one_bv _ _) ?_))
              have hr : IsTab (World.setRow wr q (tab 32 fun i => bv (digK c0 32 i))) q 26 32 fun i => bv (digK c0 32 i) := hd.out.2.2.1.row
              have hbb := below_setRow hd.out.2.2.2 hne.out.2.2.2 (tab 32 fun i => bv (digK c0 32 i))
              have he : (tab 32 fun i => bv (sum l i)) = tab 32 fun i => bv (digK c0 32 i) := tab_cong fun i hi => by unfold digK; rw [if_pos hi, hdg.out]
              rw [he]
              exact bodyPost_ret (v := .agg (tab 32 fun i => bv (digK c0 32 i))) (results_cell_row rfl _ _ q 26 _ (0, 0) _ rfl hr und26 rfl (inf26 _)) rfl ⟨rfl, hbb⟩
    · have htst : ((n : Int) % 136 != 0) = true := by
        have : ¬ (n : Int) % 136 = 0 := by omega
        simpa using this
      have hlt : n < padN l := by have := hn.out; unfold padN at *; omega
      have HLT := Lib.hid hlt
      clear hm hlt
      go_wp2_with (refine wpList_append_at _ rfl (.tmp 23) (.tmp 24) 57 rfl B 5 i0 (.int .u8 0) 1 1 und22 HI.out rfl (by decide) _ n ((padJ l (n - l.length - 1)).map bv) rfl (hp.out.1.alloc _) ⟨wr.heap.size, 0, none⟩ 1 1 [.int .u8 0] rfl rfl (one_at rfl _ _) (by intro u hu; simp at hu; subst hu; rfl) hn47.out.1 hn47.out.2.1 (by simp; have := hn47.out.2.2; omega) ?_; intro V3 w6 hown3 hgr3 hat3)
      refine ⟨⟨n + 1, V3, rfl, Lib.hid ⟨by have := hn.out; omega, HLT.out⟩, Lib.hid ⟨?_, below_grown (by rw [HB3.out]; exact Nat.le_refl _) (hp.out.2.alloc hn47.out.2.2 _) hgr3 (fun k hk => owns_base hp.out.1 hk)⟩⟩, ?_⟩
      · rw [show n + 1 - l.length - 1 = (n - l.length - 1) + 1 from by have := hn.out; omega, padJ_succ]; exact hown3
      · rw [owns_len hown3]; have := HLT.out; simp [slLen]; omega
end Kc
end Go.Proofs.YtnfcjangminhoaaDoor
