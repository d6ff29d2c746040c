/-
  KeccakSponge. Own work.
-/
import Derived.Test.YtdmbmilfclllaaaDoorKss
import Derived.Test.YtdmbmilfclllaaaDoorQtl
import Derived.Test.YtdmbmilfclllaaaDoorOrd
namespace Go.Proofs.YtdmbmilfclllaaaDoor
open Go.RowKit
set_option linter.unusedVariables false
set_option linter.unusedSimpArgs false
namespace Kc
structure Sp (W : World) (g qa n : Nat) (l : List Bt) (c : Nat → Wd64) (y : World) : Prop where
  srow : Row8 y g n (sponge l)
  sa : IsTab y qa 24 25 fun i => wv (c i)
  below : Below W.heap.size W y
  o1 : W.heap.size ≤ g
  o2 : g < qa
theorem Sp.next {W : World} {g qa n : Nat} {l : List Bt} {c : Nat → Wd64} {y y' : World} (h : Sp W g qa n l c y) (hb : Below y.heap.size y y') : Sp W g qa n l c y' :=
  ⟨h.srow.below hb, h.sa.below hb, bl h.below hb, h.o1, h.o2⟩
theorem Sp.drew {W : World} {g qa n : Nat} {l : List Bt} {c : Nat → Wd64} {y : World} (h : Sp W g qa n l c y) : Sp W g qa n l c y.drew :=
  ⟨h.srow, h.sa, h.below.drew, h.o1, h.o2⟩
theorem Sp.set {W : World} {g qa n : Nat} {l : List Bt} {c : Nat → Wd64} {y : World} (h : Sp W g qa n l c y) (i : Nat) (x : Wd64) : Sp W g qa n l (upd c i x) (y.setCell ⟨qa, i, none⟩ (wv x)) :=
  ⟨h.srow.keep (by have := h.o2; omega), (h.sa.set i _).cong (fun j _ => by unfold updv upd; dsimp only; split <;> rfl),
   h.below.setCell (by have := h.o1; have := h.o2; show W.heap.size ≤ qa; omega) _, h.o1, h.o2⟩
theorem Sp.row {W : World} {g qa n : Nat} {l : List Bt} {c : Nat → Wd64} {y : World} (h : Sp W g qa n l c y) (d : Nat → Wd64) : Sp W g qa n l d (y.setRow qa (words d)) :=
  ⟨h.srow.row (by have := h.o2; omega), h.sa.row, below_setRow h.below (by have := h.o1; have := h.o2; omega : W.heap.size ≤ qa) _, h.o1, h.o2⟩
theorem Sp.cong {W : World} {g qa n : Nat} {l : List Bt} {c d : Nat → Wd64} {y : World} (h : Sp W g qa n l c y) (e : ∀ i, i < 25 → c i = d i) : Sp W g qa n l d y :=
  ⟨h.srow, h.sa.cong (fun i hi => by rw [e i hi]), h.below, h.o1, h.o2⟩
structure Sg (W : World) (qo : Nat) (l : List Bt) (a : Option Addr) (u : World) : Prop where
  st : IsTab u qo 27 32 fun i => bv (sum l i)
  b0 : IsBs u a l
  kt : Laid.KTab u
  below : Below W.heap.size W u
theorem Sg.next {W : World} {qo : Nat} {l : List Bt} {a : Option Addr} {u v : World} (h : Sg W qo l a u) (hb : Below u.heap.size u v) : Sg W qo l a v :=
  ⟨h.st.below hb, isBs_keep h.b0 (fun _ _ _ _ => keep1 hb), ktab_below h.kt hb, bl h.below hb⟩
theorem loadH {y : World} {q : Nat} {x : Nat → Bt} (h : IsTab y q 27 32 fun i => bv (x i)) :
    (Instr.loadAt 27 (.pointer (some ⟨q, 0, none⟩))).run Tryd.prog y = .ok (.agg (tab 32 fun i => bv (x i))) y :=
  run_loadAt_mid y q 0 _ ((List.range 32).map fun i => bv (x i)) _ (h.range 0 32 _ (Nat.le_refl _) (fun j _ => by rw [Nat.zero_add])) undH rfl (by rw [List.length_map, List.length_range]; exact hInfo)
set_option maxHeartbeats 16000000 in
set_option maxRecDepth 100000 in
theorem sponge_walk (l : List Bt) (a : Option Addr) (cap : Nat) (w : World) (ht : Laid.KTab w) (hB : IsBs w a l) (hnil : a = none → l = [] ∧ cap = 0) (hcap : l.length ≤ cap) (hmax : l.length ≤ 140737488351232) :
    Calls Tryd.prog 3 #[.slice a l.length cap] w fun e w' => e = .returned (.bool true) ∧ Below w.heap.size w w' := by
  obtain ⟨i0, hi0, hi1, hi2, hi3⟩ := one1
  have HI := Lib.hid (And.intro hi0 (And.intro hi1 (And.intro hi2 hi3)))
  clear hi0 hi1 hi2 hi3
  have HT := Lib.hid ht
  have HB := Lib.hid hB
  have HN := Lib.hid hnil
  have HM := Lib.hid hmax
  clear ht hB hnil hmax
  have z1 := zero25
  have z2 := zeroHash
  generalize hz : tab 25 (fun _ => wv 0#64) = z25 at *
  have HZ25 := Lib.hid hz
  clear hz
  generalize hz : (tab 32 fun _ => bv 0#8) = z32 at *
  have HZ32 := Lib.hid hz
  clear hz
  go_enter Tryd.func3, Tryd.ntmps3
  go_upto_region 1 with (fail)
  have hown0 : Hid ((w.alloc (.cells #[] 5)).ownsRow w.heap.size 5 1 (.slice (some ⟨w.heap.size, 0, none⟩) 0 0) 0 []) := Lib.hid ⟨rfl, .inr ⟨w.heap.size, 0, #[], rfl, Nat.le_refl _, heap_alloc_new w _, Nat.le_refl _, by decide, rfl, rfl⟩⟩
  have hsrc : Hid ((a = none ∧ l.length = 0 ∧ cap = 0 ∧ l.map bv = []) ∨ ∃ ad, a = some ad ∧ (l.map bv).length = l.length * 1 ∧ ∀ j u, (l.map bv)[j]? = some u → (w.alloc (.cells #[] 5)).cell? (ad.add j) = some u) :=
    Lib.hid (src_of (w.alloc (.cells #[] 5)) HB.out HN.out (fun b o v hv => keep1 ((Below.refl _ _).alloc (Nat.le_refl _) _) hv))
  have hlb : Hid (0 + l.length ≤ maxLen ∧ (0 + l.length) * 1 ≤ 140737488355328) := Lib.hid ⟨by have := HM.out; unfold maxLen; omega, by have := HM.out; omega⟩
  have hlc : Hid (l.length + 1 ≤ maxLen ∧ (l.length + 1) * 1 ≤ 140737488355328) := Lib.hid ⟨by have := HM.out; unfold maxLen; omega, by have := HM.out; omega⟩
  go_upto_region 2 with (first
    | (refine wpList_append_any rfl (.tmp 10) (.tmp 11) 22 rfl w.heap.size 5 i0 (.int .u8 0) 1 1 und22 HI.out rfl (by decide) _ 0 [] rfl hown0.out a l.length cap (l.map bv) rfl hsrc.out (by intro u hu; obtain ⟨b, _, rfl⟩ := List.mem_map.1 hu; rfl) hlb.out.1 hlb.out.2 (by simp) ?_
       intro V1 w4 hown1 hgr1 hat1
       have h4 : Hid (w4.ownsRow w.heap.size 5 1 V1 l.length (l.map bv) ∧ Below w.heap.size w w4 ∧ w.heap.size ≤ w4.heap.size) := by
         have hb : Below w.heap.size w w4 := below_grown (Nat.le_refl _) ((Below.refl _ _).alloc (Nat.le_refl _) _) hgr1 (fun k hk => by injection hk with hk; subst hk; exact Nat.le_refl _)
         exact Lib.hid ⟨by have := hown1; rw [Nat.zero_add, List.nil_append] at this; exact this, hb, hb.size⟩
       clear hown1 hgr1 hat1)
    | (refine wpList_append_at _ rfl (.tmp 12) (.tmp 13) 22 rfl w.heap.size 5 i0 (.int .u8 0) 1 1 und22 HI.out rfl (by decide) _ l.length (l.map bv) rfl (h4.out.1.alloc _) ⟨w4.heap.size, 0, none⟩ 1 1 [.int .u8 1] rfl rfl (one_at rfl _ _) (by intro u hu; simp at hu; subst hu; rfl) hlc.out.1 hlc.out.2 (by simp; have := h4.out.2.2; omega) ?_
       intro V2 w5 hown2 hgr2 hat2
       have h5 : Hid (w5.ownsRow w.heap.size 5 1 V2 (l.length + 1) ((padJ l 0).map bv) ∧ Below w.heap.size w w5) := by
         refine Lib.hid ⟨by have := hown2; unfold padJ; simp; exact this, below_grown (Nat.le_refl _) (h4.out.2.1.alloc h4.out.2.2 _) hgr2 (fun k hk => owns_base h4.out.1 hk)⟩
       clear hown2 hgr2 hat2))
  clear hown0 hsrc hlb hlc h4
  generalize hB3 : w.heap.size = B at *
  have HB3 := Lib.hid hB3
  clear hB3
  go_loopw [3] (fun t y => ∃ (n : Nat) (V' : Value), t = V' ∧ Hid (l.length + 1 ≤ n ∧ n ≤ padN l) ∧ Hid (y.ownsRow B 5 1 V' n ((padJ l (n - l.length - 1)).map bv) ∧ Below B w y)) (fun t _ => padN l - slLen t)
  case atStart => exact ⟨l.length + 1, V2, rfl, Lib.hid ⟨Nat.le_refl _, by unfold padN; omega⟩, Lib.hid ⟨by rw [show l.length + 1 - l.length - 1 = 0 from by omega]; exact h5.out.1, h5.out.2⟩⟩
  case round =>
    obtain ⟨n, V', rfl, hn, hp⟩ := hrel
    clear h5
    obtain ⟨g, c, rfl, hnc, hcm, hBg, hln, hrow⟩ := row8_of hp.out.1 (by have := hn.out; omega)
    have HROW := Lib.hid hrow
    have HBG := Lib.hid hBg
    have HLN := Lib.hid hln
    have HNC := Lib.hid (And.intro hnc hcm)
    clear hrow hBg hln hnc hcm
    have hn47 : Hid (n + 1 ≤ maxLen ∧ (n + 1) * 1 ≤ 140737488355328 ∧ B ≤ wr.heap.size) := Lib.hid ⟨by have := hn.out; have := HM.out; have := padN_le l; unfold maxLen; omega, by have := hn.out; have := HM.out; have := padN_le l; omega, by have := hp.out.2.size; have := HB3.out; omega⟩
    by_cases hm : n % 136 = 0
    · have htst : ((n : Int) % 136 != 0) = false := by
        have : (n : Int) % 136 = 0 := by omega
        simpa using this
      have hnp : n = padN l := by have := hn.out; unfold padN at *; omega
      have HNP := Lib.hid hnp
      clear hm hnp
      go_upto_region 4 with (fail)
      have hpd : Row8 wr g n (fun i => (pad l).getD i 0#8) := by
        have := HROW.out
        rw [show n - l.length - 1 = padN l - l.length - 1 from by rw [HNP.out]] at this
        exact this
      have HPD := Lib.hid hpd
      have HPW := Lib.hid hp.out.2
      clear hpd hp HROW HLN
      have hn0 : Hid (0 < n) := Lib.hid (by have := hn.out; omega)
      have cN : _ = some (Value.int .u8 (Bv ((pad l).getD (n - 1) 0#8))) := HPD.out.cell (n - 1) (by have := hn0.out; omega)
      have fN := HPD.out.fz (n - 1)
      have b0 : (1 : Int) ≤ (n : Int) := by have := hn0.out; omega
      have b1 : (n : Int) ≤ 140737488355328 := by have := hn47.out.2.1; omega
      have x128 := Bv_xor128
      generalize hpv : (pad l).getD (n - 1) 0#8 = pv at *
      have HPV := Lib.hid hpv
      clear hpv
      go_upto_region 5 with (fail)
      have hr8 : Hid (Row8 (wr.setCell ⟨g, n - 1, none⟩ (.int .u8 (Bv (pv ^^^ 128#8)))) g n (sponge l) ∧ Below B w (wr.setCell ⟨g, n - 1, none⟩ (.int .u8 (Bv (pv ^^^ 128#8))))) :=
        Lib.hid ⟨(HPD.out.set (n - 1) (pv ^^^ 128#8)).cong (fun i hi => by
          unfold sponge
          rw [← HNP.out]
          by_cases e : i = n - 1
          · rw [if_pos e, if_pos e, e, HPV.out]
          · rw [if_neg e, if_neg e]), HPW.out.setCell HBG.out _⟩
      clear cN fN x128 HPD HPV HPW
      generalize wr.setCell ⟨g, n - 1, none⟩ (.int .u8 (Bv (pv ^^^ 128#8))) = y1 at *
      have HRS : Hid (Sp w g y1.heap.size n l (stS l 0) (y1.alloc (.cells z25 24))) := by
        have hg := hr8.out.1.lt
        have hBg := HBG.out
        rw [← HZ25.out]
        have kb : Below w.heap.size w y1 := by rw [HB3.out]; exact hr8.out.2
        exact Lib.hid ⟨hr8.out.1.alloc _, IsTab.new y1 _ 25 _, kb.alloc kb.size _, by rw [HB3.out]; exact hBg, hg⟩
      clear hr8
      go_upto_region 6 with (fail)
      generalize y1.alloc (.cells z25 24) = y2 at *
      generalize y1.heap.size = qa at *
      go_wp2_with fail
      go_loopw [5] (fun t y => ∃ m : Nat, t = .int .i64 (136 * (m : Int)) ∧ Hid (136 * m ≤ n) ∧ Hid (Sp w g qa n l (stS l m) y)) (fun t _ => n - (intOf t).toNat)
      case atStart => exact ⟨0, rfl, Lib.hid (Nat.zero_le _), HRS⟩
      case round =>
        obtain ⟨m, rfl, hmn, hr⟩ := hrel
        clear HRS
        have hm47 : 136 * (m : Int) ≤ 140737488355328 := by have := hmn.out; omega
        by_cases hlt : 136 * (m : Int) < (n : Int)
        · have hst : Hid (perm (mix (stS l m) (fun j => sponge l (136 * m + j)) 136) = stS l (m + 1)) := Lib.hid rfl
          have hup : Hid (136 * m + 136 ≤ n) := Lib.hid (by have := HNP.out; unfold padN at this; omega)
          generalize stS l m = c0 at *
          have hr0 : Hid (Sp w g qa n l (mix c0 (fun j => sponge l (136 * m + j)) 0) wr) := Lib.hid (hr.out.cong (fun i _ => mix_zero c0 _ i))
          clear hr
          have t1 : (0 : Int) ≤ 136 * (m : Int) := by omega
          have t2 : 136 * (m : Int) ≤ 136 * (m : Int) + 136 := by omega
          have t3 : 136 * (m : Int) + 136 ≤ (c : Int) := by have := hup.out; have := HNC.out.1; omega
          go_wp2_with fail
          rw [show 136 * m + 136 - 136 * m = 136 from by omega]
          clear t1 t2 t3
          go_loopw [42] (fun t y => ∃ k : Nat, k ≤ 136 ∧ t = .int .i64 k ∧ Hid (Sp w g qa n l (mix c0 (fun j => sponge l (136 * m + j)) k) y)) (fun t _ => 136 - (intOf t).toNat)
          case atStart => exact ⟨0, by decide, rfl, hr0⟩
          case round =>
            obtain ⟨k, hk, rfl, hrk⟩ := hrel
            clear hr0
            by_cases hk6 : (k : Int) < 136
            · have NE : Nonempty (Wd (Sp w g qa n l (mix c0 (fun j => sponge l (136 * m + j)) k))) := ⟨⟨_, hrk.out⟩⟩
              have hmk : 136 * m + k < n := by have := hup.out; omega
              have a0 : wr.cell? ⟨g, 136 * m + k, none⟩ = some (Value.int .u8 (Bv (sponge l (136 * m + k)))) := hrk.out.srow.cell (136 * m + k) hmk
              have k0 : (0 : Int) ≤ (k : Int) := by omega
              clear hmk
              go_upto_region 12 with (fail)
              have a1 : ∀ z : Wd (Sp w g qa n l (mix c0 (fun j => sponge l (136 * m + j)) k)), z.val.cell? ⟨qa, k / 8, none⟩ = some (Value.int .u64 (W (mix c0 (fun j => sponge l (136 * m + j)) k (k / 8)))) := fun z => z.ok.sa.cell (k / 8) (by omega)
              have d2 : (0 : Int) ≤ (k : Int) / 8 := by omega
              have d3 : (k : Int) / 8 < 25 := by omega
              have d4 : ((k : Int) / 8).toNat = k / 8 := by omega
              have r0 := wrapB
              have HP2 := Lib.hid hrk.out.drew
              refine wp_region_quiet_tail 11 (Sp w g qa n l (mix c0 (fun j => sponge l (136 * m + j)) k)) (by kernel_rfl) (by kernel_rfl) HP2.out ?_
              simp only [List.take_succ_cons, List.take_zero, List.drop_succ_cons, List.drop_zero]
              repeat (go_big_quiet_step (fail))
              refine wpQuiet_nil ?_
              rintro _ ⟨z, rfl⟩
              have fj := z.ok.sa.fz (k / 8)
              have sj : _ = some (Value.int .u64 (W (mix c0 (fun j => sponge l (136 * m + j)) k (k / 8)))) := z.ok.sa.cell (k / 8) (by omega)
              clear a1 r0 HP2 NE hrk
              go_wp2_with fail
              rw [wr_shl _ _ (by omega), W_xor]
              exact ⟨⟨k + 1, by omega, by go_num, Lib.hid ((z.ok.set (k / 8) _).cong (fun j _ => mix_step c0 _ k j))⟩, by simp [intOf]; omega⟩
            · obtain rfl : k = 136 := by omega
              clear hk
              generalize hc1 : mix c0 (fun j => sponge l (136 * m + j)) 136 = c1 at *
              have HSA := Lib.hid hrk.out.sa
              have HPC := Lib.hid (perm_walk c1 wr (ktab_below HT.out hrk.out.below))
              go_wp2_with (first
                | (refine wpList_load_row rfl 24 (.tmp 4) rfl qa rfl 24 (words c1) (0, 0) _ HSA.out und25 rfl (inf25 _) ?_)
                | (go_at_call 8; refine HPC.out.mono ?_; rintro e w7 ⟨rfl, hb7⟩)
                | (refine wpList_store_row rfl 24 (.tmp 4) (.tmp 61) rfl qa (words (perm c1)) rfl rfl 24 _ (hrk.out.next hb7).sa (inf25 _) (by rw [words, tab_size, tab_size]) (one_wv _ _) ?_))
              refine ⟨⟨m + 1, congrArg _ (by omega), Lib.hid (by have := hup.out; omega), Lib.hid ?_⟩, by simp [intOf]; have := hup.out; omega⟩
              rw [← hst.out]
              exact (hrk.out.next hb7).row _
        · have hmeq : 136 * m = n := by have := hmn.out; omega
          have hdg : Hid (digest (stS l m) = sum l) := Lib.hid (by
            have : m = padN l / 136 := by rw [← HNP.out, ← hmeq]; omega
            rw [this]; exact sponge_sum l)
          generalize stS l m = c0 at *
          go_upto_region 16 with (fail)
          have HD : Hid (IsTab (wr.alloc (.cells z32 27)) qa 24 25 (fun i => wv (c0 i)) ∧ IsTab (wr.alloc (.cells z32 27)) wr.heap.size 27 32 (fun i => bv (digK c0 0 i)) ∧ Below w.heap.size w (wr.alloc (.cells z32 27))) := by
            rw [← HZ32.out]
            exact Lib.hid ⟨hr.out.sa.alloc _, (IsTab.new wr _ 32 _).cong (fun i _ => by unfold digK; rw [if_neg (by omega)]), hr.out.below.alloc hr.out.below.size _⟩
          have hne : Hid (qa ≠ wr.heap.size ∧ w.heap.size ≤ wr.heap.size) := Lib.hid ⟨by have := hr.out.sa.lt; omega, hr.out.below.size⟩
          clear hr hmn hmeq
          generalize wr.alloc (.cells z32 27) = y3 at *
          generalize wr.heap.size = qo at *
          go_wp2_with fail
          go_loopw [62] (fun t y => ∃ k : Nat, k ≤ 32 ∧ t = .int .i64 k ∧ Hid (IsTab y qa 24 25 (fun i => wv (c0 i)) ∧ IsTab y qo 27 32 (fun i => bv (digK c0 k i)) ∧ Below w.heap.size w y)) (fun t _ => 32 - (intOf t).toNat)
          case atStart => exact ⟨0, by decide, rfl, HD⟩
          case round =>
            obtain ⟨k, hk, rfl, hd⟩ := hrel
            clear HD
            by_cases hk2 : (k : Int) < 32
            · have aj : _ = some (Value.int .u64 (W (c0 (k / 8)))) := hd.out.1.cell (k / 8) (by omega)
              have oj : _ = some (Value.int .u8 (Bv (digK c0 k k))) := hd.out.2.1.cell k (by omega)
              have fj := hd.out.2.1.fz k
              go_wp2_with fail
              rw [dig_val]
              refine ⟨⟨k + 1, by omega, by go_num, Lib.hid ⟨hd.out.1.keep hne.out.1, (hd.out.2.1.set k _).cong (fun i _ => ?_), hd.out.2.2.setCell (show w.heap.size ≤ qo from hne.out.2) _⟩⟩, by simp [intOf]; omega⟩
              unfold updv digK bv
              dsimp only
              by_cases e : i = k
              · subst e; rw [if_pos rfl, if_pos (Nat.lt_succ_self _)]
              · rw [if_neg e]
                by_cases e2 : i < k
                · rw [if_pos e2, if_pos (by omega)]
                · rw [if_neg e2, if_neg (by omega)]
            · obtain rfl : k = 32 := by omega
              have hsum : Hid (IsTab wr qo 27 32 fun i => bv (sum l i)) := Lib.hid (hd.out.2.1.cong (fun i hi => by unfold digK; rw [if_pos hi, hdg.out]))
              have hbw := Lib.hid hd.out.2.2
              clear hd hdg hne HNP
              go_upto_region 21 with (fail)
              have HS0 : Hid (Sg w qo l a wr.drew) := Lib.hid ⟨hsum.out, isBs_keep HB.out (fun b o v _ hv => keep1 hbw.out.drew hv), ktab_below HT.out hbw.out.drew, hbw.out.drew⟩
              have hld : ∀ u, Sg w qo l a u → (Instr.loadAt 27 (.pointer (some ⟨qo, 0, none⟩))).run Tryd.prog u = .ok (.agg (tab 32 fun i => bv (sum l i))) u := fun u h => loadH h.st
              have LD := Lib.hid hld
              clear hld hsum hbw
              refine wp_region_ord (Sg w qo l a) [(0, false), (1, false), (6, true), (3, true), (2, false), (4, false), (5, false), (7, false), (8, false), (9, false)] (by kernel_rfl) (by kernel_rfl) HS0.out ?_
              refine wpOrd_f rfl (by rfl) fun K hK => ?_
              go_simp
              refine (fixed_walk permIs _ HS0.out.kt).mono ?_
              rintro e w6 ⟨rfl, hb6⟩
              have HS6 := Lib.hid (HS0.out.next hb6)
              refine hK _ _ HS6.out ?_
              clear hK K
              refine wpOrd_f rfl (by rfl) fun K hK => ?_
              go_simp
              refine hK _ _ HS6.out ?_
              clear hK K
              refine wpOrd_load 27 (.tmp 8) (.pointer (some ⟨qo, 0, none⟩)) _ rfl (by rfl) rfl rfl LD.out ?_
              simp only [Act.put, List.setIfInBounds_toArray, List.set_cons_zero, List.set_cons_succ]
              refine wpOrd_t rfl (by rfl) (fun _ _ => rfl) ?_
              simp only [Act.put, List.setIfInBounds_toArray, List.set_cons_zero, List.set_cons_succ]
              refine wpOrd_f rfl (by rfl) fun K hK => ?_
              go_simp
              have hb7 : Below w6.heap.size w6 (w6.alloc (.cells #[] 5)) := (Below.refl _ _).alloc (Nat.le_refl _) _
              have HS7 := Lib.hid (HS6.out.next hb7)
              refine hK _ _ HS7.out ?_
              clear hK K
              have hown7 : Hid ((w6.alloc (.cells #[] 5)).ownsRow w6.heap.size 5 1 (.slice (some ⟨w6.heap.size, 0, none⟩) 0 0) 0 []) := Lib.hid ⟨rfl, .inr ⟨w6.heap.size, 0, #[], rfl, Nat.le_refl _, heap_alloc_new w6 _, Nat.le_refl _, by decide, rfl, rfl⟩⟩
              have hsrc7 : Hid ((a = none ∧ l.length = 0 ∧ cap = 0 ∧ l.map bv = []) ∨ ∃ ad, a = some ad ∧ (l.map bv).length = l.length * 1 ∧ ∀ j u, (l.map bv)[j]? = some u → (w6.alloc (.cells #[] 5)).cell? (ad.add j) = some u) :=
                Lib.hid (src_of (w6.alloc (.cells #[] 5)) HS6.out.b0 HN.out (fun b o v hv => keep1 hb7 hv))
              have hlb7 : Hid (0 + l.length ≤ maxLen ∧ (0 + l.length) * 1 ≤ 140737488355328) := Lib.hid ⟨by have := HM.out; unfold maxLen; omega, by have := HM.out; omega⟩
              refine wpOrd_f rfl (by rfl) fun K hK => ?_
              refine wp_append_any (.tmp 79) (.tmp 80) 22 rfl w6.heap.size 5 i0 (.int .u8 0) 1 1 und22 HI.out rfl (by decide) _ 0 [] rfl hown7.out a l.length cap (l.map bv) rfl hsrc7.out (by intro u hu; obtain ⟨b, _, rfl⟩ := List.mem_map.1 hu; rfl) hlb7.out.1 hlb7.out.2 (by simp) ?_
              intro V7 w8 hown8 hgr8 hat8
              have hb8 : Below w6.heap.size w6 w8 := below_grown (Nat.le_refl _) hb7 hgr8 (fun k hk => by injection hk with hk; subst hk; exact Nat.le_refl _)
              have HS8 := Lib.hid (HS6.out.next hb8)
              refine hK _ _ HS8.out ?_
              clear hK K
              rw [Nat.zero_add, List.nil_append] at hown8
              obtain ⟨a7, c7, rfl, b7, n7, l7, m7, t7⟩ := slice_of hown8
              simp only [Act.put, List.setIfInBounds_toArray, List.set_cons_zero, List.set_cons_succ]
              refine wpOrd_f rfl (by rfl) fun K hK => ?_
              go_simp
              refine (sum_walk permIs l a7 c7 w8 HS8.out.kt b7 t7 l7 m7).mono ?_
              rintro e w9 ⟨rfl, hb9⟩
              have HS9 := Lib.hid (HS8.out.next hb9)
              refine hK _ _ HS9.out ?_
              clear hK K
              have e1 : ∀ u, (binOp .eql 27 (.agg (tab 32 fun i => bv (sum l i))) (.agg (tab 32 fun i => bv (sum l i)))).run Tryd.prog u = .ok (.bool true) u := fun u => by rw [eql32, same32_refl]
              generalize (tab 32 fun i => bv (sum l i)) = vs at *
              refine wpOrd_f rfl (by rfl) fun K hK => ?_
              go_simp
              refine hK _ _ HS9.out ?_
              clear hK K
              refine wpOrd_f rfl (by rfl) fun K hK => ?_
              go_simp
              refine hK _ _ HS9.out ?_
              clear hK K
              refine wpOrd_f rfl (by rfl) fun K hK => ?_
              go_simp
              refine hK _ _ HS9.out ?_
              clear hK K
              refine wpOrd_done (NoPanic.normal ?_)
              go_wp2_with fail
              go_ret
              exact ⟨rfl, HS9.out.below⟩
    · have htst : ((n : Int) % 136 != 0) = true := by
        have : ¬ (n : Int) % 136 = 0 := by omega
        simpa using this
      have hlt : n < padN l := by have := hn.out; unfold padN at *; omega
      have HLT := Lib.hid hlt
      clear hm hlt
      go_wp2_with (refine wpList_append_at _ rfl (.tmp 19) (.tmp 20) 22 rfl B 5 i0 (.int .u8 0) 1 1 und22 HI.out rfl (by decide) _ n ((padJ l (n - l.length - 1)).map bv) rfl (hp.out.1.alloc _) ⟨wr.heap.size, 0, none⟩ 1 1 [.int .u8 0] rfl rfl (one_at rfl _ _) (by intro u hu; simp at hu; subst hu; rfl) hn47.out.1 hn47.out.2.1 (by simp; have := hn47.out.2.2; omega) ?_; intro V3 w6 hown3 hgr3 hat3)
      refine ⟨⟨n + 1, V3, rfl, Lib.hid ⟨by have := hn.out; omega, HLT.out⟩, Lib.hid ⟨?_, below_grown (by rw [HB3.out]; exact Nat.le_refl _) (hp.out.2.alloc hn47.out.2.2 _) hgr3 (fun k hk => owns_base hp.out.1 hk)⟩⟩, ?_⟩
      · rw [show n + 1 - l.length - 1 = (n - l.length - 1) + 1 from by have := hn.out; omega, padJ_succ]; exact hown3
      · rw [owns_len hown3]; have := HLT.out; simp [slLen]; omega
end Kc
end Go.Proofs.YtdmbmilfclllaaaDoor
