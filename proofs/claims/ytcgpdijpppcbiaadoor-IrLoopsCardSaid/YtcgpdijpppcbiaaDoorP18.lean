/- Merged of Ze Zf. Own work. -/
import Derived.Test.YtcgpdijpppcbiaaDoorP17
import Derived.Test.YtcgpdijpppcbiaaDoorP07
import Derived.Outline
import Derived.Test.YtcgpdijpppcbiaaDoorP03
namespace Go.Proofs.YtcgpdijpppcbiaaDoor
open Go.RowKit
set_option linter.unusedVariables false
set_option linter.unusedSimpArgs false
section
variable {P : Program}
theorem wp_mapUpdate {o : Oper} {a : Act} {w : World} {K : Act → World → Prop} {Q : Exit → Act → World → Prop} (d : Option Tmp) (hd : o.dst = d) (t : TypeId) (m x v : Operand) (vm vx vv : Value) (ho : o.op = .mapUpdate t m x v) (hm : a.eval m = vm) (hx : a.eval x = vx) (hv : a.eval v = vv)
    (w' : World) (hr : (Instr.mapUpdate t vm vx vv).run P w = .ok () w') (h : K (a.put d undef) w') : Oper.wp P o a w K Q := by
  subst hd
  unfold Oper.wp
  simp [execOp, ho, hm, hx, hv, hr, Result.andThen]
  exact h
theorem wpList_buildE {ops : Array Oper} {rest : List Oper} {o : Oper} {a : Act} {w : World} {Q : Exit → Act → World → Prop} (hg : o.guard = none) (t : TypeId) (parts : Array (Nat × Operand)) (ho : o.op = .build t parts)
    (vs : Array (Nat × Value)) (hx : (parts.map fun (i, x) => (i, a.eval x)) = vs) (v : Value) (hl : (Instr.build t vs).run P w = .ok v w)
    (h : wpList P ops Q rest (a.put o.dst v) w) : wpList P ops Q (o :: rest) a w :=
  wpList_plain hg fun _ hK => by
    unfold Oper.wp execOp
    simp only [ho]
    rw [hx]
    simp [hl, Result.andThen]
    exact hK _ _ h
end
namespace Wt
open Kc Mk
theorem loadHb {w : World} {q : Nat} {x : Hx} (h : IsTab w q 60 32 fun i => bv (x i)) : (Instr.loadAt 60 (.pointer (some ⟨q, 0, none⟩))).run Tryd.prog w = .ok (.agg (tab 32 fun i => bv (x i))) w := by
  have h5 : At5 w q 0 1 (fun _ => x) := fun k j hk hj => by
    rw [show 0 + 32 * k + j = j from by omega]; exact h.cell j hj
  exact loadH h5 (k := 0) (p := 0) (by decide) (by decide)
theorem loadPb {w : World} {q : Nat} {p : Px} (h : IsTab w q 58 64 fun i => bv (p i)) : (Instr.loadAt 58 (.pointer (some ⟨q, 0, none⟩))).run Tryd.prog w = .ok (.agg (tab 64 fun i => bv (p i))) w := by
  refine run_loadAt_mid w q 0 _ ((List.range 64).map fun i => bv (p i)) _ (fun j v hv => ?_) undPre rfl (by rw [List.length_map, List.length_range]; exact infPre')
  obtain ⟨hj, rfl⟩ := List.getElem?_eq_some_iff.1 hv
  simp only [List.length_map, List.length_range] at hj
  have := h.cell j hj
  simpa using this
theorem undPre64 : Tryd.prog.underlying 58 = some (.array 64 5) := by kernel_rfl
def same64 (a b : Px) : Bool := (List.range 64).all fun i => Bv (a i) == Bv (b i)
theorem neq64 (a b : Px) (w : World) : (binOp .neq 58 (.agg (tab 64 fun i => bv (a i))) (.agg (tab 64 fun i => bv (b i)))).run Tryd.prog w = .ok (.bool (!same64 a b)) w := by
  have h := run_equal_tab (P := Tryd.prog) w 9998 58 5 64 .u8 undPre64 undU8 sizeU8 (fun i => Bv (a i)) (fun i => Bv (b i))
  rw [run_neq_struct]
  exact (congrArg (fun r => r.andThen fun b w' => Result.ok (Value.bool (!b)) w') h)
theorem look_pv {w : World} {b : Nat} {M : List (Hx × Px)} (h : IsMp pv w b M) (k : Hx) (r : Px) (hr : (look M k).getD zp = r) :
    (Instr.lookup 77 (.map (some b)) (.agg (tab 32 fun i => bv (k i))) true).run Tryd.prog w = .ok (.tuple #[.agg (tab 64 fun i => bv (r i)), .bool (has M k)]) w := by
  have := h.look_ok undMP (zeroP w) k
  have e : ((look M k).map pv).getD (pv zp) = pv r := by rw [← hr]; cases look M k <;> rfl
  rw [e] at this
  exact this
theorem store_pv {w : World} {b : Nat} {M : List (Hx × Px)} (h : IsMp pv w b M) (k : Hx) (p : Px) :
    ∃ w', (Instr.mapUpdate 77 (.map (some b)) (.agg (tab 32 fun i => bv (k i))) (.agg (tab 64 fun i => bv (p i)))).run Tryd.prog w = .ok () w' ∧ IsMp pv w' b (putM M k p) ∧ Kept (· = b) w w' ∧ w'.heap.size = w.heap.size := h.store undMP k p
theorem kept_of {S : Nat → Prop} {w a b : World} (h1 : Below w.heap.size w a) (h2 : Kept S a b) : Kept S w b := (Kept.ofBelow h1).trans h2 fun _ _ h => h
theorem updv_same (g : Nat → Value) (i : Nat) (x : Value) : updv g i x i = x := by simp [updv]
theorem updv_ne (g : Nat → Value) {i j : Nat} (x : Value) (h : j ≠ i) : updv g i x j = g j := by simp [updv, h]
theorem build2 (r p : Px) (w : World) : (Instr.build 90 #[(0, .agg (tab 64 fun i => bv (r i))), (1, .agg (tab 64 fun i => bv (p i)))]).run Tryd.prog w = .ok (.agg (tab 128 fun i => if i < 64 then bv (r i) else bv (p (i - 64)))) w := by kernel_rfl
theorem inf2P' : (Tryd.prog.info? 90).map (·.size) = some 128 := by kernel_rfl
theorem inf2P (g : Nat → Value) : (Tryd.prog.info? 90).map (·.size) = some (tab 128 g).size := by rw [tab_size]; exact inf2P'
theorem kept_setCells {S : Nat → Prop} {a : World} {q : Nat} (hq : S q) : ∀ (vs : List Value) (o : Nat) (w : World), Kept S a w → Kept S a (w.setCells q o vs)
  | [], _, _, h => h
  | v :: r, o, w, h => kept_setCells hq r (o + 1) _ (h.setCell (.inl hq) v)
theorem set_clash {w : World} {kb fb : Nat} {g : Nat → Value} {fd : Bool} {F : List (Hx × Px)} (h : IsKin w kb fb g fd F) (r p : Px) :
    ∃ g', IsKin (w.setCells kb 1 (tab 128 fun i => if i < 64 then bv (r i) else bv (p (i - 64))).toList) kb fb g' fd F ∧ Kept (fun k => k = kb ∨ k = fb) w (w.setCells kb 1 (tab 128 fun i => if i < 64 then bv (r i) else bv (p (i - 64))).toList) := by
  have hl : (tab 128 fun i => if i < 64 then bv (r i) else bv (p (i - 64))).toList.length = 128 := by simp [tab]
  refine ⟨_, ⟨IsTab.setCells _ 1 w g h.tab, ?_, fun i h1 h2 => ?_, ?_, h.map.kept (kept_setCells (S := fun k => k = kb) rfl _ _ _ (Kept.refl _ _)) (fun e => h.ne e.symm)⟩, kept_setCells (.inl rfl) _ _ _ (Kept.refl _ _)⟩
  · rw [if_neg (by omega)]; exact h.c0
  · rw [if_pos (by rw [hl]; omega)]
    have : (tab 128 fun i => if i < 64 then bv (r i) else bv (p (i - 64))).toList.getD (i - 1) (.int .i64 0) = if i - 1 < 64 then bv (r (i - 1)) else bv (p (i - 1 - 64)) := by
      simp [tab, show i - 1 < 128 from by omega]
    rw [this]
    split
    · exact ⟨_, rfl⟩
    · exact ⟨_, rfl⟩
  · rw [if_neg (by rw [hl]; omega)]; exact h.fd
theorem set_found {w : World} {kb fb : Nat} {g : Nat → Value} {fd : Bool} {F : List (Hx × Px)} (h : IsKin w kb fb g fd F) : IsKin (w.setCell ⟨kb, 129, none⟩ (.bool true)) kb fb (updv g 129 (.bool true)) true F :=
  ⟨h.tab.set 129 _, by rw [updv_ne _ _ (by decide)]; exact h.c0, fun i h1 h2 => by rw [updv_ne _ _ (by omega)]; exact h.cl i h1 h2, updv_same _ _ _, h.map.kept ((Kept.refl (fun k => k = kb) _).setCell (.inl rfl) _) (fun e => h.ne e.symm)⟩
set_option maxHeartbeats 4000000 in
set_option maxRecDepth 100000 in
theorem note_walk (kb fb : Nat) (h : Hx) (p : Px) (w : World) (hk : Kin w kb fb) :
    Calls Tryd.prog 30 #[.pointer (some ⟨kb, 0, none⟩), dv h, pv p] w fun e w' => e = .returned (.tuple #[]) ∧ Kin w' kb fb ∧ Kept (fun k => k = kb ∨ k = fb) w w' := by
  obtain ⟨g, fd, F, hk⟩ := hk
  have z1 := zeroPre
  generalize hz : (tab 64 fun _ => bv 0#8) = zq at *
  have HZ := Lib.hid hz
  clear hz
  have HI : Hid ((Tryd.prog.info? 58).map (·.size) = some zq.size) := Lib.hid (by rw [← HZ.out]; exact infPre _)
  generalize hr : (look F h).getD zp = r at *
  have HR := Lib.hid hr
  clear hr
  unfold dv pv
  have HK := Lib.hid hk
  clear hk
  go_enter Tryd.func30, Tryd.ntmps30
  go_upto_region 1 with (fail)
  have H1 : Hid (IsTab ((w.alloc (.cells (tab 32 fun i => bv (h i)) 60)).alloc (.cells (tab 64 fun i => bv (p i)) 58)) w.heap.size 60 32 (fun i => bv (h i)) ∧ IsTab ((w.alloc (.cells (tab 32 fun i => bv (h i)) 60)).alloc (.cells (tab 64 fun i => bv (p i)) 58)) (w.heap.size + 1) 58 64 (fun i => bv (p i)) ∧
      Below w.heap.size w ((w.alloc (.cells (tab 32 fun i => bv (h i)) 60)).alloc (.cells (tab 64 fun i => bv (p i)) 58)) ∧ ((w.alloc (.cells (tab 32 fun i => bv (h i)) 60)).alloc (.cells (tab 64 fun i => bv (p i)) 58)).heap.size = w.heap.size + 2) := by
    refine Lib.hid ⟨(IsTab.new w _ 32 _).alloc _, ?_, ((Below.refl _ _).alloc (Nat.le_refl _) _).alloc (by simp) _, by simp⟩
    have := IsTab.new (w.alloc (.cells (tab 32 fun i => bv (h i)) 60)) 58 64 fun i => bv (p i)
    simpa using this
  generalize (w.alloc (.cells (tab 32 fun i => bv (h i)) 60)).alloc (.cells (tab 64 fun i => bv (p i)) 58) = y00 at *
  have HK0 : Hid (IsKin y00 kb fb g fd F) := Lib.hid (HK.out.kept (Kept.ofBelow (S := fun _ => False) H1.out.2.2.1) id id)
  have H1 : Hid (IsTab y00.drew w.heap.size 60 32 (fun i => bv (h i)) ∧ IsTab y00.drew (w.heap.size + 1) 58 64 (fun i => bv (p i)) ∧ Below w.heap.size w y00.drew ∧ y00.drew.heap.size = w.heap.size + 2) := Lib.hid ⟨H1.out.1.drew, H1.out.2.1.drew, H1.out.2.2.1.drew, H1.out.2.2.2⟩
  have HK0 : Hid (IsKin y00.drew kb fb g fd F) := Lib.hid (HK0.out.kept (Kept.drew (Kept.refl (fun _ => False) _)) id id)
  have HB : Hid (∀ y, Below y00.drew.heap.size y00.drew y → (Instr.lookup 77 (.map (some fb)) (.agg (tab 32 fun i => bv (h i))) true).run Tryd.prog y = .ok (.tuple #[.agg (tab 64 fun i => bv (r i)), .bool (has F h)]) y) := Lib.hid fun y hy => look_pv (HK0.out.map.below hy) h r HR.out
  generalize hb : has F h = b at *
  have HBB := Lib.hid hb
  clear hb
  refine wp_region_og (fun y : World => Below y00.drew.heap.size y00.drew y) (.take 0 (.take 1 (.take 2 (.take 3 (.take 4 (.take 5 (.take 6 (.take 7 (.take 8 (.one 9 (.one 10 (.one 11 .done)))))))))))) (by kernel_rfl) (by kernel_rfl) (Below.refl _ _) ?_
  generalize y00.drew = y0 at *
  refine og_tk (some 9) (.pointer (some ⟨kb, 0, none⟩)) rfl rfl (by go_simp) (fun _ _ => by simp [execOp, go_sem]) ?_
  simp only [Act.put, pS]
  refine og_tk (some 10) (.pointer (some ⟨kb, 0, none⟩)) rfl rfl (by go_simp) (fun _ _ => by simp [execOp, go_sem]) ?_
  simp only [Act.put, pS]
  refine og_tk (some 11) (.pointer (some ⟨kb, 0, none⟩)) rfl rfl (by go_simp) (fun _ _ => by simp [execOp, go_sem]) ?_
  simp only [Act.put, pS]
  refine og_ld (some 12) 77 (.tmp 11) (.pointer (some ⟨kb, 0, none⟩)) (.map (some fb)) rfl rfl (by go_simp) rfl rfl (fun y hy => by have h := (keep1 hy (HK0.out.tab.cell 0 (by decide))).trans (congrArg some HK0.out.c0); simp [Instr.loadAt, go_sem, h, Tryd.underlying77]) ?_
  simp only [Act.put, pS]
  refine og_ld (some 13) 60 (.tmp 4) (.pointer (some ⟨w.heap.size, 0, none⟩)) (.agg (tab 32 fun i => bv (h i))) rfl rfl (by go_simp) rfl rfl (fun y hy => loadHb (H1.out.1.below hy)) ?_
  simp only [Act.put, pS]
  refine og_tk (some 14) (.tuple #[.agg (tab 64 fun i => bv (r i)), .bool b]) rfl rfl (by go_simp) (fun y hy => by have h := HB.out y hy; simp [execOp, go_sem, h, Result.andThen]) ?_
  simp only [Act.put, pS]
  refine og_tk (some 8) (.tuple #[.agg (tab 64 fun i => bv (r i)), .bool b]) rfl rfl (by go_simp) (fun _ _ => by simp [execOp, go_sem]) ?_
  simp only [Act.put, pS]
  refine og_tk (some 15) (.agg (tab 64 fun i => bv (r i))) rfl rfl (by go_simp) (fun _ _ => by simp [execOp, go_sem]) ?_
  simp only [Act.put, pS]
  refine og_tk (some 16) (.bool b) rfl rfl (by go_simp) (fun _ _ => by simp [execOp, go_sem]) ?_
  simp only [Act.put, pS]
  have HN : Hid (Below y0.heap.size y0 (y0.alloc (.cells zq 58)) ∧ IsTab (y0.alloc (.cells zq 58)) y0.heap.size 58 64 (fun _ => bv 0#8)) := Lib.hid ⟨(Below.refl _ _).alloc (Nat.le_refl _) _, by rw [← HZ.out]; exact IsTab.new y0 _ 64 _⟩
  refine og_f rfl (by go_simp) fun K hK => ?_
  go_simp
  refine hK _ _ (HN.out.1) ?_
  clear hK K
  generalize y0.alloc (.cells zq 58) = y1 at *
  have HS : Hid (Below y0.heap.size y0 (y1.setRow y0.heap.size (tab 64 fun i => bv (r i))) ∧ IsTab (y1.setRow y0.heap.size (tab 64 fun i => bv (r i))) y0.heap.size 58 64 (fun i => bv (r i))) := Lib.hid ⟨below_setRow HN.out.1 (Nat.le_refl _) _, HN.out.2.row⟩
  refine og_f rfl (by go_simp) fun K hK => ?_
  refine wp_store_row 58 (.tmp 6) (.tmp 15) rfl y0.heap.size (tab 64 fun i => bv (r i)) rfl rfl 58 _ HN.out.2 (infPre _) (by rw [tab_size, tab_size]) (one_bv _ _) ?_
  refine hK _ _ HS.out.1 ?_
  clear hK K
  simp only [Act.put, pS]
  generalize y1.setRow y0.heap.size (tab 64 fun i => bv (r i)) = y2 at *
  refine og_f rfl (by go_simp) fun K hK => ?_
  go_simp
  refine hK _ _ (HS.out.1) ?_
  clear hK K
  refine og_done (NoPanic.normal ?_)
  have HK2 : Hid (IsKin y2 kb fb g fd F) := Lib.hid (HK0.out.kept (Kept.ofBelow (S := fun _ => False) HS.out.1) id id)
  have H2 : Hid (IsTab y2 w.heap.size 60 32 (fun i => bv (h i)) ∧ IsTab y2 (w.heap.size + 1) 58 64 (fun i => bv (p i)) ∧ Below w.heap.size w y2) := Lib.hid ⟨H1.out.1.below HS.out.1, H1.out.2.1.below HS.out.1, bl H1.out.2.2.1 HS.out.1⟩
  have H3 : Hid (IsTab y2 y0.heap.size 58 64 (fun i => bv (r i))) := Lib.hid HS.out.2
  have HQ : Hid (y0.heap.size = w.heap.size + 2 ∧ kb < w.heap.size ∧ fb < w.heap.size) := Lib.hid ⟨H1.out.2.2.2, HK.out.tab.lt, HK.out.map.lt⟩
  clear HS HN HB HK0 H1 HZ HI HK
  generalize y0.heap.size = q2 at *
  cases b
  · skip
    go_upto_region 3 with (fail)
    have HK3 : Hid (IsKin y2.drew kb fb g fd F) := Lib.hid (HK2.out.kept (Kept.drew (Kept.refl (fun _ => False) _)) id id)
    have H4 : Hid (IsTab y2.drew w.heap.size 60 32 (fun i => bv (h i)) ∧ IsTab y2.drew (w.heap.size + 1) 58 64 (fun i => bv (p i)) ∧ Below w.heap.size w y2.drew) := Lib.hid ⟨H2.out.1.drew, H2.out.2.1.drew, H2.out.2.2.drew⟩
    obtain ⟨w4, hr4, hm4, hk4, hs4⟩ := store_pv HK3.out.map h p
    have HR4 := Lib.hid hr4
    have HM4 := Lib.hid (And.intro hm4 hk4)
    clear hr4 hm4 hk4 hs4
    refine wp_region_og (fun y : World => Kept (fun k => k = fb) y2.drew y) (.take 0 (.take 1 (.take 2 (.take 3 (.take 4 (.take 5 (.one 6 .done))))))) (by kernel_rfl) (by kernel_rfl) (Kept.refl _ _) ?_
    generalize y2.drew = y3 at *
    refine og_tk (some 19) (.pointer (some ⟨kb, 0, none⟩)) rfl rfl (by go_simp) (fun _ _ => by simp [execOp, go_sem]) ?_
    simp only [Act.put, pS]
    refine og_tk (some 20) (.pointer (some ⟨kb, 0, none⟩)) rfl rfl (by go_simp) (fun _ _ => by simp [execOp, go_sem]) ?_
    simp only [Act.put, pS]
    refine og_tk (some 21) (.pointer (some ⟨kb, 0, none⟩)) rfl rfl (by go_simp) (fun _ _ => by simp [execOp, go_sem]) ?_
    simp only [Act.put, pS]
    refine og_ld (some 22) 77 (.tmp 21) (.pointer (some ⟨kb, 0, none⟩)) (.map (some fb)) rfl rfl (by go_simp) rfl rfl (fun y hy => by have h := (hy.cell HK3.out.ne (HK3.out.tab.cell 0 (by decide))).trans (congrArg some HK3.out.c0); simp [Instr.loadAt, go_sem, h, Tryd.underlying77]) ?_
    simp only [Act.put, pS]
    refine og_ld (some 23) 60 (.tmp 4) (.pointer (some ⟨w.heap.size, 0, none⟩)) (.agg (tab 32 fun i => bv (h i))) rfl rfl (by go_simp) rfl rfl (fun y hy => loadHb (Wt.IsTab.kept H4.out.1 hy (by have := HQ.out; omega))) ?_
    simp only [Act.put, pS]
    refine og_ld (some 24) 58 (.tmp 5) (.pointer (some ⟨(w.heap.size + 1), 0, none⟩)) (.agg (tab 64 fun i => bv (p i))) rfl rfl (by go_simp) rfl rfl (fun y hy => loadPb (Wt.IsTab.kept H4.out.2.1 hy (by have := HQ.out; omega))) ?_
    simp only [Act.put, pS]
    refine og_f rfl (by go_simp) fun K hK => ?_
    refine wp_mapUpdate none rfl 77 (.tmp 22) (.tmp 23) (.tmp 24) _ _ _ rfl rfl rfl rfl w4 HR4.out ?_
    refine hK _ _ HM4.out.2 ?_
    clear hK K
    simp only [Act.put, pS]
    refine og_done (NoPanic.normal ?_)
    go_wp2_with (fail)
    refine bodyPost_ret (v := .tuple #[]) (by simp [results, Tryd.results30, go_sem]) rfl ⟨rfl, ⟨g, fd, putM F h p, ⟨Wt.IsTab.kept HK3.out.tab HM4.out.2 HK3.out.ne, HK3.out.c0, HK3.out.cl, HK3.out.fd, HM4.out.1⟩⟩, (kept_of H4.out.2.2 HM4.out.2).mono fun k _ hk => .inr hk⟩
  · have hne := neq64 r p
    have HL1 := Lib.hid (loadPb H3.out)
    have HL2 := Lib.hid (loadPb H2.out.2.1)
    have HNE := Lib.hid hne
    clear hne
    generalize hs : same64 r p = sm at *
    clear hs HBB
    have k129 : y2.cell? ⟨kb, 129, none⟩ = some (.bool fd) := (HK2.out.tab.cell 129 (by decide)).trans (congrArg some HK2.out.fd)
    have HKK : Hid (Kept (fun k => k = kb ∨ k = fb) w y2) := Lib.hid (Kept.ofBelow H2.out.2.2)
    cases sm
    · have hne := HNE.out
      cases fd
      · skip
        go_upto_region 5 with (first | ((with_reducible refine wpList_loadE (P := Tryd.prog) (w := y2) (ty := 58) (x := .tmp 6) (p := .pointer (some ⟨q2, 0, none⟩)) (v := .agg (tab 64 fun i => bv (r i))) ?_ ?_ ?_ HL1.out ?_); (· exact rfl); (· exact rfl); (· exact rfl)) | ((with_reducible refine wpList_loadE (P := Tryd.prog) (w := y2) (ty := 58) (x := .tmp 5) (p := .pointer (some ⟨w.heap.size + 1, 0, none⟩)) (v := .agg (tab 64 fun i => bv (p i))) ?_ ?_ ?_ HL2.out ?_); (· exact rfl); (· exact rfl); (· exact rfl)))
        have HTH : Hid (y2.there kb 1 (tab 128 fun i => if i < 64 then bv (r i) else bv (p (i - 64))).size) := Lib.hid (by rw [tab_size]; exact HK2.out.tab.thereAt 1 128 (by decide))
        have HK6 := Lib.hid (set_clash HK2.out r p)
        have HI6 := Lib.hid (inf2P fun i => if i < 64 then bv (r i) else bv (p (i - 64)))
        have HO6 : Hid ((tab 128 fun i => if i < 64 then bv (r i) else bv (p (i - 64))).all (·.oneCell') = true) := Lib.hid (tab_one fun i => by split <;> rfl)
        have HBB := Lib.hid (build2 r p)
        generalize (tab 128 fun i => if i < 64 then bv (r i) else bv (p (i - 64))) = c2 at *
        go_upto_region 6 with (first
          | (first | ((with_reducible refine wpList_loadE (P := Tryd.prog) (w := y2) (ty := 58) (x := .tmp 6) (p := .pointer (some ⟨q2, 0, none⟩)) (v := .agg (tab 64 fun i => bv (r i))) ?_ ?_ ?_ HL1.out ?_); (· exact rfl); (· exact rfl); (· exact rfl)) | ((with_reducible refine wpList_loadE (P := Tryd.prog) (w := y2) (ty := 58) (x := .tmp 5) (p := .pointer (some ⟨w.heap.size + 1, 0, none⟩)) (v := .agg (tab 64 fun i => bv (p i))) ?_ ?_ ?_ HL2.out ?_); (· exact rfl); (· exact rfl); (· exact rfl)))
          | ((with_reducible refine wpList_buildE (P := Tryd.prog) (w := y2) ?_ 90 #[(0, .tmp 36), (1, .tmp 37)] ?_ #[(0, .agg (tab 64 fun i => bv (r i))), (1, .agg (tab 64 fun i => bv (p i)))] ?_ (.agg c2) (HBB.out y2) ?_); (· exact rfl); (· exact rfl); (· simp [go_sem]))
          | ((with_reducible refine wpList_store_mid (P := Tryd.prog) (w := y2) ?_ 90 (.tmp 40) (.tmp 38) ?_ kb 1 c2 ?_ ?_ HTH.out HI6.out HO6.out ?_); (· exact rfl); (· exact rfl); (· exact rfl); (· exact rfl)))
        generalize y2.setCells kb 1 c2.toList = y6 at *
        obtain ⟨g6, hk6, ht6⟩ := HK6.out
        have HK7 := Lib.hid (And.intro hk6 ht6)
        have k1 : y6.cell? ⟨kb, 129, none⟩ = some (.bool false) := (hk6.tab.cell 129 (by decide)).trans (congrArg some hk6.fd)
        have f1 := hk6.tab.fz 129
        clear HBB hne k129 HK6 hk6 ht6
        go_wp2_with (fail)
        refine bodyPost_end (v := .tuple #[]) (by simp [results, Tryd.results30, go_sem]) rfl ⟨rfl, ⟨_, true, F, set_found HK7.out.1⟩, (HKK.out.trans HK7.out.2 fun _ _ h => h).setCell (.inl (.inl rfl)) _⟩
      · skip
        go_wp2_with (first | ((with_reducible refine wpList_loadE (P := Tryd.prog) (w := y2) (ty := 58) (x := .tmp 6) (p := .pointer (some ⟨q2, 0, none⟩)) (v := .agg (tab 64 fun i => bv (r i))) ?_ ?_ ?_ HL1.out ?_); (· exact rfl); (· exact rfl); (· exact rfl)) | ((with_reducible refine wpList_loadE (P := Tryd.prog) (w := y2) (ty := 58) (x := .tmp 5) (p := .pointer (some ⟨w.heap.size + 1, 0, none⟩)) (v := .agg (tab 64 fun i => bv (p i))) ?_ ?_ ?_ HL2.out ?_); (· exact rfl); (· exact rfl); (· exact rfl)))
        refine bodyPost_end (v := .tuple #[]) (by simp [results, Tryd.results30, go_sem]) rfl ⟨rfl, ⟨g, _, F, HK2.out⟩, HKK.out⟩
    · have hne := HNE.out
      go_wp2_with (first | ((with_reducible refine wpList_loadE (P := Tryd.prog) (w := y2) (ty := 58) (x := .tmp 6) (p := .pointer (some ⟨q2, 0, none⟩)) (v := .agg (tab 64 fun i => bv (r i))) ?_ ?_ ?_ HL1.out ?_); (· exact rfl); (· exact rfl); (· exact rfl)) | ((with_reducible refine wpList_loadE (P := Tryd.prog) (w := y2) (ty := 58) (x := .tmp 5) (p := .pointer (some ⟨w.heap.size + 1, 0, none⟩)) (v := .agg (tab 64 fun i => bv (p i))) ?_ ?_ ?_ HL2.out ?_); (· exact rfl); (· exact rfl); (· exact rfl)))
      refine bodyPost_end (v := .tuple #[]) (by simp [results, Tryd.results30, go_sem]) rfl ⟨rfl, ⟨g, _, F, HK2.out⟩, HKK.out⟩
end Wt
end Go.Proofs.YtcgpdijpppcbiaaDoor
namespace Go.Proofs.YtcgpdijpppcbiaaDoor
open Go.RowKit
set_option linter.unusedVariables false
set_option linter.unusedSimpArgs false
namespace Wt
open Kc Mk
theorem ktab_kept {U : Nat → Prop} {w w' : World} (h : Laid.KTab w) (hk : Kept U w w') (hU : ∀ k, U k → w.heap.size ≤ k ∨ lowB ≤ k) : Laid.KTab w' := fun i hi => hk.cell (fun hu => by
  have h1 := inHeap (h i hi)
  have h2 : 0 < lowB := by unfold lowB; omega
  have := hU _ hu
  omega) (h i hi)
theorem isBs_pre {w : World} {q : Nat} {p : Px} (h : IsTab w q 58 64 fun i => bv (p i)) : IsBs w (some ⟨q, 0, none⟩) (pre p) := .inr ⟨q, 0, rfl, fun j hj => by
  rw [pre_len] at hj
  rw [Nat.zero_add, h.cell j hj, pre_at p j hj]⟩
/-- The digest of a preimage, as the program asks for it. -/
theorem sumP_walk {w : World} {q : Nat} {p : Px} (h : IsTab w q 58 64 fun i => bv (p i)) (ht : Laid.KTab w) :
    Calls Tryd.prog 29 #[.slice (some ⟨q, 0, none⟩) 64 64] w fun e w' => e = .returned (.agg (tab 32 fun i => bv (hs p i))) ∧ Below w.heap.size w w' := by
  have := sum_walk permIs (pre p) (some ⟨q, 0, none⟩) 64 w ht (isBs_pre h) (fun z hz => by cases hz; exact h.lt) (by rw [pre_len]; exact Nat.le_refl _) (by decide)
  rw [pre_len] at this
  exact this
/-- What Add keeps on its way: the boxes of the preimage (q0), of the answer (q1) and of the digest (q2). -/
structure Ad (W : World) (q0 q1 : Nat) (p : Px) (y : World) : Prop where
  b0 : IsTab y q0 58 64 fun i => bv (p i)
  b1 : IsTab y q1 60 32 fun _ => bv 0#8
theorem Ad.kept {U : Nat → Prop} {W y y' : World} {q0 q1 : Nat} {p : Px} (h : Ad W q0 q1 p y) (hk : Kept U y y') (h0 : ¬ U q0) (h1 : ¬ U q1) : Ad W q0 q1 p y' := ⟨Wt.IsTab.kept h.b0 hk h0, Wt.IsTab.kept h.b1 hk h1⟩
theorem kept_none {w w' : World} (h : Below w.heap.size w w') : Kept (fun _ => False) w w' := Kept.ofBelow h
theorem kept_drew (w : World) : Kept (fun _ => False) w w.drew := Kept.drew (Kept.refl _ _)
theorem sto_put {T : Nat → Prop} {w w' : World} {s kb pb : Nat} {S : Sto} {av : Value} {sv : Option Nat} {M : List (Hx × Px)} (h : IsSto w T s kb S pb av sv) (hm : IsMp pv w' pb M) (hk : Kept (fun k => k = pb) w w') : IsSto w' T s kb ⟨M, S.asked⟩ pb av sv :=
  ⟨h.box.kept hk (map_ne h.box h.pres), hm, hk.row h.row fun k e hh => map_row h.row h.pres (by rw [e, hh]), h.seen.imp id fun ⟨qb, h1, h2, h3, h4⟩ => ⟨qb, h1, h2, h3, h4.kept hk h2⟩, h.ts, h.tp, h.ta⟩
set_option maxHeartbeats 4000000 in
set_option maxRecDepth 100000 in
theorem add_walk (T : Nat → Prop) (s kb fb : Nat) (S : Sto) (p : Px) (w : World) (ht : Laid.KTab w) (h : IsSt w T s kb fb S) (hT : ∀ k, T k → k < w.heap.size) :
    Calls Tryd.prog 17 #[.pointer (some ⟨s, 0, none⟩), pv p] w fun e w' => e = .returned (.tuple #[dv (hs p), .nilIface]) ∧ IsSt w' T s kb fb ⟨putM S.pres (hs p) p, S.asked⟩ ∧ Kept (Foot T kb fb) w w' := by
  obtain ⟨⟨pb, av, sv, ho⟩, hn, hx1, hx2, hx3⟩ := h
  have HW := Lib.hid (And.intro hT hx3)
  have z2 := zeroHash
  generalize hz : (tab 32 fun _ => bv 0#8) = zh at *
  have HA : Hid (Ad w w.heap.size (w.heap.size + 1) p ((w.alloc (.cells (tab 64 fun i => bv (p i)) 58)).alloc (.cells zh 60))) := by
    rw [← hz]
    refine Lib.hid ⟨(IsTab.new w _ 64 _).alloc _, ?_⟩
    have := IsTab.new (w.alloc (.cells (tab 64 fun i => bv (p i)) 58)) 60 32 fun _ => bv 0#8
    simpa using this
  have HBW : Hid (Below w.heap.size w ((w.alloc (.cells (tab 64 fun i => bv (p i)) 58)).alloc (.cells zh 60)) ∧ ((w.alloc (.cells (tab 64 fun i => bv (p i)) 58)).alloc (.cells zh 60)).heap.size = w.heap.size + 2) := Lib.hid ⟨((Below.refl _ _).alloc (Nat.le_refl _) _).alloc (by simp) _, by simp⟩
  have HO := Lib.hid (ho.kept (kept_none HBW.out.1) fun _ _ h => h)
  have HN := Lib.hid (hn.kept (kept_none HBW.out.1) id id)
  have HT := Lib.hid (ktab_below ht HBW.out.1)
  have HX : Hid (¬ T kb ∧ ¬ T fb ∧ w.heap.size ≠ kb ∧ w.heap.size ≠ fb ∧ w.heap.size + 1 ≠ kb ∧ w.heap.size + 1 ≠ fb) := Lib.hid ⟨hx1, hx2, by have := hn.lt.1; omega, by have := hn.lt.2; omega, by have := hn.lt.1; omega, by have := hn.lt.2; omega⟩
  clear ho hn hx1 hx2 hx3 ht hT
  unfold dv pv
  go_enter Tryd.func17, Tryd.ntmps17
  go_upto_region 1 with (fail)
  subst hz
  generalize (w.alloc (.cells (tab 64 fun i => bv (p i)) 58)).alloc (.cells (tab 32 fun _ => bv 0#8) 60) = y at *
  have k3 := HO.out.box.k3
  go_upto_region 6 with (fail)
  clear k3 z2
  have s1 := slPreA w.heap.size
  have HC := Lib.hid (sumP_walk HA.out.b0 HT.out)
  have z2 := zeroHash
  generalize hz : (tab 32 fun _ => bv 0#8) = zh at *
  have HZ : Hid (zh.size = 32) := Lib.hid (by rw [← hz, tab_size])
  go_upto_region 7 with (first
    | (go_at_call 29; (with_reducible refine HC.out.mono ?_); rintro e y1 ⟨he, hb1⟩; obtain rfl : e = _ := he; have HB1 := Lib.hid hb1; clear hb1)
    | ((with_reducible refine wpList_store_row (P := Tryd.prog) (w := y1.alloc (.cells zh 60)) ?_ 60 (.tmp 6) (.tmp 27) ?_ y1.heap.size (tab 32 fun i => bv (hs p i)) ?_ ?_ 60 zh (heap_alloc_last y1 _) (infH _) ?_ (one_bv _ _) ?_); (· exact rfl); (· exact rfl); (· exact rfl); (· exact rfl); (· rw [HZ.out, tab_size]); rw [World.setRow_alloc_new]; simp only [Act.put]))
  subst hz
  have HK2 : Hid (Kept (fun _ => False) y (y1.alloc (.cells (tab 32 fun i => bv (hs p i)) 60)).drew) := Lib.hid ((kept_none HB1.out).alloc _).drew
  have HQ2 : Hid (IsTab (y1.alloc (.cells (tab 32 fun i => bv (hs p i)) 60)).drew y1.heap.size 60 32 (fun i => bv (hs p i)) ∧ y.heap.size ≤ y1.heap.size ∧ y1.heap.size < (y1.alloc (.cells (tab 32 fun i => bv (hs p i)) 60)).drew.heap.size) := Lib.hid ⟨(IsTab.new y1 _ 32 _).drew, HB1.out.size, by show y1.heap.size < (y1.alloc _).heap.size; simp⟩
  have HO2 := Lib.hid (HO.out.kept HK2.out fun _ _ h => h)
  have HN2 := Lib.hid (HN.out.kept HK2.out id id)
  have HA2 := Lib.hid (HA.out.kept HK2.out id id)
  have HT2 := Lib.hid (ktab_kept HT.out HK2.out fun _ h => h.elim)
  obtain ⟨w4, hr4, hm4, hk4, hs4⟩ := store_pv HO2.out.pres (hs p) p
  have HR4 := Lib.hid hr4
  have HM4 := Lib.hid (And.intro hm4 (And.intro hk4 hs4))
  clear hr4 hm4 hk4 hs4 z2 s1 HC HB1 HZ
  refine wp_region_og (fun y' : World => Kept (fun k => k = pb) (y1.alloc (.cells (tab 32 fun i => bv (hs p i)) 60)).drew y') (.take 0 (.take 1 (.take 2 (.take 3 (.take 4 (.take 5 (.one 6 .done))))))) (by kernel_rfl) (by kernel_rfl) (Kept.refl _ _) ?_
  generalize (y1.alloc (.cells (tab 32 fun i => bv (hs p i)) 60)).drew = y2 at *
  generalize y1.heap.size = q2 at *
  refine og_tk (some 28) (.pointer (some ⟨s, 0, none⟩)) rfl rfl (by go_simp) (fun _ _ => by simp [execOp, go_sem]) ?_
  simp only [Act.put, pS]
  refine og_tk (some 29) (.pointer (some ⟨s, 0, none⟩)) rfl rfl (by go_simp) (fun _ _ => by simp [execOp, go_sem]) ?_
  simp only [Act.put, pS]
  refine og_tk (some 30) (.pointer (some ⟨s, 0, none⟩)) rfl rfl (by go_simp) (fun _ _ => by simp [execOp, go_sem]) ?_
  simp only [Act.put, pS]
  refine og_ld (some 31) 77 (.tmp 30) (.pointer (some ⟨s, 0, none⟩)) (.map (some pb)) rfl rfl (by go_simp) rfl rfl (fun y hy => by have h := hy.cell (map_ne HO2.out.box HO2.out.pres) HO2.out.box.k0; simp [Instr.loadAt, go_sem, h, Tryd.underlying77]) ?_
  simp only [Act.put, pS]
  refine og_ld (some 32) 60 (.tmp 6) (.pointer (some ⟨q2, 0, none⟩)) (.agg (tab 32 fun i => bv (hs p i))) rfl rfl (by go_simp) rfl rfl (fun y hy => loadHb (Wt.IsTab.kept HQ2.out.1 hy (map_ne HQ2.out.1 HO2.out.pres))) ?_
  simp only [Act.put, pS]
  refine og_ld (some 33) 58 (.tmp 3) (.pointer (some ⟨w.heap.size, 0, none⟩)) (.agg (tab 64 fun i => bv (p i))) rfl rfl (by go_simp) rfl rfl (fun y hy => loadPb (Wt.IsTab.kept HA2.out.b0 hy (map_ne HA2.out.b0 HO2.out.pres))) ?_
  simp only [Act.put, pS]
  refine og_f rfl (by go_simp) fun K hK => ?_
  refine wp_mapUpdate none rfl 77 (.tmp 31) (.tmp 32) (.tmp 33) _ _ _ rfl rfl rfl rfl w4 HR4.out ?_
  refine hK _ _ HM4.out.2.1 ?_
  clear hK K
  simp only [Act.put, pS]
  refine og_done (NoPanic.normal ?_)
  have HO4 : Hid (IsSto w4 T s kb ⟨putM S.pres (hs p) p, S.asked⟩ pb av sv) := Lib.hid (sto_put HO2.out HM4.out.1 HM4.out.2.1)
  have HN4 := Lib.hid (HN2.out.kept HM4.out.2.1 (fun e => HX.out.1 (e ▸ HO2.out.tp)) (fun e => HX.out.2.1 (e ▸ HO2.out.tp)))
  have HA4 := Lib.hid (HA2.out.kept HM4.out.2.1 (map_ne HA2.out.b0 HO2.out.pres) (map_ne HA2.out.b1 HO2.out.pres))
  have HQ4 : Hid (IsTab w4 q2 60 32 (fun i => bv (hs p i))) := Lib.hid (Wt.IsTab.kept HQ2.out.1 HM4.out.2.1 (map_ne HQ2.out.1 HO2.out.pres))
  have HK4 : Hid (Kept (Foot T kb fb) y w4) := Lib.hid ((HK2.out.mono fun _ _ h => h.elim).trans HM4.out.2.1 fun k _ hk => .inl (hk ▸ HO2.out.tp))
  have HL : Hid (y.heap.size ≤ q2 ∧ q2 < w4.heap.size ∧ kb < y.heap.size ∧ fb < y.heap.size) := Lib.hid ⟨HQ2.out.2.1, HQ4.out.lt, HN.out.lt.1, HN.out.lt.2⟩
  clear HO2 HN2 HA2 HT2 HQ2 HR4 HM4 HK2 HO HN
  go_upto_region 8 with (fail)
  have HNS : Hid (¬ (s = kb ∨ s = fb)) := Lib.hid (fun e => e.elim (fun e => HX.out.1 (e ▸ HO4.out.ts)) (fun e => HX.out.2.1 (e ▸ HO4.out.ts)))
  have HC := Lib.hid (note_walk kb fb (hs p) p w4.drew (HN4.out.kept (kept_drew w4) id id))
  refine wp_region_og (fun y' : World => Kept (fun k => k = kb ∨ k = fb) w4.drew y') (.take 0 (.take 1 (.take 2 (.take 3 (.take 4 (.take 5 (.one 6 .done))))))) (by kernel_rfl) (by kernel_rfl) (Kept.refl _ _) ?_
  have HO5 := Lib.hid (HO4.out.kept (kept_drew w4) fun _ _ h => h)
  have HA5 := Lib.hid (HA4.out.kept (kept_drew w4) id id)
  have HQ5 := Lib.hid (Wt.IsTab.kept HQ4.out (kept_drew w4) id)
  have HK5 := Lib.hid (HK4.out.drew)
  have HL : Hid (y.heap.size ≤ q2 ∧ q2 < w4.drew.heap.size ∧ kb < y.heap.size ∧ fb < y.heap.size) := Lib.hid HL.out
  clear HO4 HA4 HQ4 HK4 HN4
  generalize w4.drew = y5 at *
  refine og_tk (some 34) (.pointer (some ⟨s, 0, none⟩)) rfl rfl (by go_simp) (fun _ _ => by simp [execOp, go_sem]) ?_
  simp only [Act.put, pS]
  refine og_tk (some 35) (.pointer (some ⟨s, 0, none⟩)) rfl rfl (by go_simp) (fun _ _ => by simp [execOp, go_sem]) ?_
  simp only [Act.put, pS]
  refine og_tk (some 36) (.pointer (some ⟨s, 3, none⟩)) rfl rfl (by go_simp) (fun _ _ => by simp [execOp, go_sem]) ?_
  simp only [Act.put, pS]
  refine og_ld (some 37) 80 (.tmp 36) (.pointer (some ⟨s, 3, none⟩)) (.pointer (some ⟨kb, 0, none⟩)) rfl rfl (by go_simp) rfl rfl (fun y hy => by have h := hy.cell HNS.out HO5.out.box.k3; simp [Instr.loadAt, go_sem, h, Tryd.underlying80]) ?_
  simp only [Act.put, pS]
  refine og_ld (some 38) 60 (.tmp 6) (.pointer (some ⟨q2, 0, none⟩)) (.agg (tab 32 fun i => bv (hs p i))) rfl rfl (by go_simp) rfl rfl (fun y hy => loadHb (Wt.IsTab.kept HQ5.out hy (by have := HL.out; omega))) ?_
  simp only [Act.put, pS]
  refine og_ld (some 39) 58 (.tmp 3) (.pointer (some ⟨w.heap.size, 0, none⟩)) (.agg (tab 64 fun i => bv (p i))) rfl rfl (by go_simp) rfl rfl (fun y hy => loadPb (Wt.IsTab.kept HA5.out.b0 hy (by have := HX.out.2.2; omega))) ?_
  simp only [Act.put, pS]
  refine og_f rfl (by go_simp) fun K hK => ?_
  go_simp
  refine HC.out.mono ?_
  rintro e y6 ⟨he, hn6, hk6⟩
  obtain rfl : e = _ := he
  have HN6 := Lib.hid hn6
  have HK6 := Lib.hid hk6
  refine hK _ _ HK6.out ?_
  clear hK K hn6 hk6 HC
  refine og_done (NoPanic.normal ?_)
  have HO6 := Lib.hid (HO5.out.kept HK6.out fun k hk e => e.elim (fun e => HX.out.1 (e ▸ hk)) (fun e => HX.out.2.1 (e ▸ hk)))
  have HA6 := Lib.hid (HA5.out.kept HK6.out (by have := HX.out.2.2; omega) (by have := HX.out.2.2; omega))
  have HQ6 := Lib.hid (loadHb (Wt.IsTab.kept HQ5.out HK6.out (by have := HL.out; omega)))
  have HK7 : Hid (Kept (Foot T kb fb) y y6) := Lib.hid (HK5.out.trans HK6.out fun k _ hk => .inr hk)
  clear HO5 HA5 HQ5 HK5 HK6
  have HB1 := Lib.hid HA6.out.b1
  generalize hz : (fun _ : Nat => bv 0#8) = gz at *
  go_wp2_with (first
    | ((with_reducible refine wpList_loadE (P := Tryd.prog) (w := y6) (ty := 60) (x := .tmp 6) (p := .pointer (some ⟨q2, 0, none⟩)) (v := .agg (tab 32 fun i => bv (hs p i))) ?_ ?_ ?_ HQ6.out ?_); (· exact rfl); (· exact rfl); (· exact rfl))
    | ((with_reducible refine wpList_store_row (P := Tryd.prog) (w := y6) ?_ 60 (.tmp 4) (.tmp 41) ?_ (w.heap.size + 1) (tab 32 (fun i => bv (hs p i))) ?_ ?_ 60 (tab 32 gz) ?_ (infH _) ?_ (tab_one fun i => rfl) ?_); (· exact rfl); (· exact rfl); (· exact rfl); (· exact rfl); (· exact HB1.out); (· rw [tab_size, tab_size])))
  have hr : IsTab (World.setRow y6 (w.heap.size + 1) (tab 32 fun i => bv (hs p i))) (w.heap.size + 1) 60 32 fun i => bv (hs p i) := HB1.out.row
  have hk8 : Kept (fun k => k = w.heap.size + 1) y6 (World.setRow y6 (w.heap.size + 1) (tab 32 fun i => bv (hs p i))) := ⟨by simp, by simp, by simp, by simp, fun k _ hk => setRow_other _ _ _ _ hk⟩
  refine bodyPost_ret (Kc.results_cell_tmp rfl _ _ (w.heap.size + 1) 60 _ (0, 0) _ rfl hr undH rfl (infH _) .nilIface rfl) rfl ⟨rfl, ?_⟩
  have hkk : Kept (Foot T kb fb) w (World.setRow y6 (w.heap.size + 1) (tab 32 fun i => bv (hs p i))) := by
    have h1 : Kept (Foot T kb fb) w y6 := ((kept_none HBW.out.1).mono fun _ _ h => h.elim).trans HK7.out fun _ _ h => h
    exact (h1.trans hk8 (fun i hi e => by omega))
  have hTn : ¬ (w.heap.size + 1 = kb) ∧ ¬ (w.heap.size + 1 = fb) := by have := HX.out.2.2; omega
  exact ⟨⟨⟨pb, av, sv, HO6.out.kept hk8 fun k hk e => by have := HW.out.1 k hk; omega⟩, HN6.out.kept hk8 (fun e => hTn.1 e.symm) (fun e => hTn.2 e.symm), HX.out.1, HX.out.2.1, HW.out.2⟩, hkk⟩
end Wt
end Go.Proofs.YtcgpdijpppcbiaaDoor
