/-
  mootref02.permute whole, mootref02.Permute. Written by genrperm.py. Own work.
-/
import Derived.Test.YtnfcjangminhoaaDoorRth
import Derived.Test.YtnfcjangminhoaaDoorRrho
import Derived.Test.YtnfcjangminhoaaDoorRchi
namespace Go.Proofs.YtnfcjangminhoaaDoor
open Go.RowKit
set_option linter.unusedVariables false
namespace Kc
theorem zero25 (w : World) : (zeroValue 75).run Tryd.prog w = .ok (.agg (tab 25 fun _ => wv 0#64)) w := by kernel_rfl
theorem rnds_next (a : Nat → Wd64) (n : Nat) (h : n < 24) : rnds a (n + 1) = rnd (consts.getD n 0#64) (rnds a n) := by
  have hl : n < consts.length := h
  unfold rnds
  rw [List.take_succ_eq_append_getElem hl, List.foldl_append, List.getD_eq_getElem?_getD, List.getElem?_eq_getElem hl]
  rfl
structure Pa (W : World) (q0 qr qc qt : Nat) (a : Nat → Wd64) (y : World) : Prop where
  sa : IsTab y q0 75 25 fun i => wv (a i)
  sr : IsTab y qr 75 25 fun _ => wv 0#64
  cons : ∀ i, i < 24 → y.cell? ⟨qc, i, none⟩ = some (wv (consts.getD i 0#64))
  turn : ∀ j, j < 25 → y.cell? ⟨qt, j, none⟩ = some (tv (turns.getD j 0))
  lc : qc < W.heap.size
  lt : qt < W.heap.size
  g0 : W.heap.size ≤ q0
  o1 : q0 < qr
  below : Below W.heap.size W y
theorem Pa.two {W : World} {q0 qr qc qt : Nat} {a : Nat → Wd64} {y : World} (h : Pa W q0 qr qc qt a y) :
    Pf W q0 qr y.heap.size (y.heap.size + 1) qc qt a (fun _ => 0#64) (fun _ => 0#64) ((y.alloc (.cells (tab 25 fun _ => wv 0#64) 75)).alloc (.cells (tab 25 fun _ => wv 0#64) 75)) := by
  have e1 : (y.alloc (.cells (tab 25 fun _ => wv 0#64) 75)).heap.size = y.heap.size + 1 := by simp
  have hs := h.below.size
  have hb : Below y.heap.size y ((y.alloc (.cells (tab 25 fun _ => wv 0#64) 75)).alloc (.cells (tab 25 fun _ => wv 0#64) 75)) := ((Below.refl _ _).alloc (Nat.le_refl _) _).alloc (by simp) _
  refine ⟨(h.sa.alloc _).alloc _, (h.sr.alloc _).alloc _, (IsTab.new y _ 25 _).alloc _, ?_, fun i hi => keep1 hb (h.cons i hi), fun j hj => keep1 hb (h.turn j hj), h.lc, h.lt, h.g0, h.o1, h.sr.lt, Nat.lt_succ_self _, bl h.below hb⟩
  have := IsTab.new (y.alloc (.cells (tab 25 fun _ => wv 0#64) 75)) 75 25 fun _ => wv 0#64
  rw [e1] at this; exact this
theorem Pf.one {W : World} {q0 qr q8 q9 qc qt : Nat} {a b c : Nat → Wd64} {y : World} (h : Pf W q0 qr q8 q9 qc qt a b c y) : Pa W q0 qr qc qt a y := ⟨h.sa, h.sr, h.cons, h.turn, h.lc, h.lt, h.g0, h.o1, h.below⟩
set_option maxHeartbeats 40000000 in
set_option maxRecDepth 1000000 in
theorem permute_walk (a : Nat → Wd64) (qc qt capc : Nat) (w : World) (hc : ∀ i, i < 24 → w.cell? ⟨qc, i, none⟩ = some (wv (consts.getD i 0#64))) (ht : ∀ j, j < 25 → w.cell? ⟨qt, j, none⟩ = some (tv (turns.getD j 0))) :
    Calls Tryd.prog 47 #[.agg (words a), .slice (some ⟨qc, 0, none⟩) 24 capc, .slice (some ⟨qt, 0, none⟩) 25 25] w fun e w' => e = .returned (.agg (words (perm a))) ∧ Below w.heap.size w w' := by
  have HC := Lib.hid hc
  have HT := Lib.hid ht
  clear hc ht
  have z1 := zero25
  generalize hz : tab 25 (fun _ => wv 0#64) = zp at *
  have HZ := Lib.hid hz
  clear hz
  go_enter Tryd.func47, Tryd.ntmps47
  go_upto_region 1 with (fail)
  have h1 : Hid (Pa w w.heap.size (w.heap.size + 1) qc qt (rnds a 0) ((w.alloc (.cells (words a) 75)).alloc (.cells zp 75))) := by
    rw [← HZ.out]
    have e1 : (w.alloc (.cells (words a) 75)).heap.size = w.heap.size + 1 := by simp
    have hb : Below w.heap.size w ((w.alloc (.cells (words a) 75)).alloc (.cells (tab 25 fun _ => wv 0#64) 75)) := ((Below.refl _ _).alloc (Nat.le_refl _) _).alloc (by simp) _
    refine Lib.hid ⟨(IsTab.new w _ 25 _).alloc _, ?_, fun i hi => keep1 hb (HC.out i hi), fun j hj => keep1 hb (HT.out j hj), inHeap (HC.out 0 (by decide)), inHeap (HT.out 0 (by decide)), Nat.le_refl _, Nat.lt_succ_self _, hb⟩
    have := IsTab.new (w.alloc (.cells (words a) 75)) 75 25 fun _ => wv 0#64
    rw [e1] at this; exact this
  generalize (w.alloc (.cells (words a) 75)).alloc (.cells zp 75) = y0 at *
  generalize w.heap.size + 1 = qr at *
  generalize hq0 : w.heap.size = q0 at *
  have HQ0 := Lib.hid hq0
  clear hq0
  go_wp2_with fail
  go_loopw [7] (fun i y => ∃ n : Nat, n ≤ 24 ∧ i = .int .i64 n ∧ Hid (Pa w q0 qr qc qt (rnds a n) y)) (fun i _ => 24 - (intOf i).toNat)
  case atStart => exact ⟨0, by decide, rfl, h1⟩
  case round =>
    obtain ⟨n, hn, rfl, hp⟩ := hrel
    clear h1
    by_cases hlt : (n : Int) < 24
    · have hrn := rnds_next a n (by omega)
      generalize rnds a n = c at *
      have HRN := Lib.hid hrn
      clear hrn
      go_upto_region 5 with (fail)
      have hp2 := Lib.hid hp.out.two
      rw [HZ.out] at hp2
      clear hp
      generalize (wr.alloc (.cells zp 75)).alloc (.cells zp 75) = y1 at *
      generalize wr.heap.size + 1 = q9 at *
      generalize wr.heap.size = q8 at *
      go_wp2_with fail
      refine theta_loop q0 qr q8 q9 qc qt c (fun _ => 0#64) (fun _ => 0#64) w _ _ _ _ _ _ _ _ _ _ _ _ _ _ _ _ _ _ _ _ _ _ _ _ _ _ _ _ _ _ _ _ _ _ _ _ _ _ _ _ _ _ _ _ _ _ _ _ _ _ _ _ _ _ _ _ _ _ _ _ _ _ _ _ _ _ _ _ _ _ _ _ _ _ _ _ _ _ _ _ _ _ _ _ _ _ _ _ _ _ _ _ _ _ _ _ _ _ _ _ _ _ _ _ _ _ _ _ _ _ _ _ _ _ _ _ _ _ _ _ _ _ _ _ _ _ _ _ _ _ _ _ _ _ _ _ _ _ _ _  y1 hp2.out ?_
      intro e11 e12 e13 e14 e23 e24 e25 e26 e27 e28 e29 e30 e31 e32 e33 e34 e35 e36 e37 e38 e39 e40 e41 e42 e43 e44 e45 e46 e47 e48 e49 e50 e51 e52 e53 e54 e55 e56 e57 e58 e59 e60 e61 e62 e63 e64 e65 e66 z1' hz1
      have HZ1 := Lib.hid hz1
      clear hz1 hp2
      go_wp2_with fail
      refine rho_loop q0 qr q8 q9 qc qt c (theta c) w _ _ _ _ _ _ _ _ _ _ _ _ _ _ _ _ _ _ _ _ _ _ _ _ _ _ _ _ _ _ _ _ _ _ _ _ _ _ _ _ _ _ _ _ _ _ _ _ _ _ _ _ _ _ _ _ _ _ _ _ _ _ _ _ _ _ _ _ _ _ _ _ _ _ _ _ _ _ _ _ _ _ _ _ _ _ _ _ _ _ _ _ _ _ _ _ _ _ _ _ _ _ _ _ _ _ _ _ _ _ _ _ _ _ _ _ _ _ _ _ _ _ _ _ _ _ _ _ _ _ _ _ _ _ _ _ _ _ _ _  z1' HZ1.out ?_
      intro f16 f67 f68 f69 f70 f71 f72 f73 f74 f75 f76 f77 f78 f79 f80 f81 f82 f83 f84 f85 f86 f87 f88 f89 f90 f91 f92 f93 f94 f95 f96 f97 f98 z2' hz2
      have HZ2 := Lib.hid hz2
      clear hz2 HZ1
      go_wp2_with fail
      refine chi_loop q0 qr q8 q9 qc qt c (theta c) (rhopi (theta c)) w _ _ _ _ _ _ _ _ _ _ _ _ _ _ _ _ _ _ _ _ _ _ _ _ _ _ _ _ _ _ _ _ _ _ _ _ _ _ _ _ _ _ _ _ _ _ _ _ _ _ _ _ _ _ _ _ _ _ _ _ _ _ _ _ _ _ _ _ _ _ _ _ _ _ _ _ _ _ _ _ _ _ _ _ _ _ _ _ _ _ _ _ _ _ _ _ _ _ _ _ _ _ _ _ _ _ _ _ _ _ _ _ _ _ _ _ _ _ _ _ _ _ _ _ _ _ _ _ _ _ _ _ _ _ _ _ _ _ _ _  z2' HZ2.out ?_
      intro g18 g99 g100 g101 g102 g103 g104 g105 g106 g107 g108 g109 g110 g111 g112 g113 g114 g115 g116 g117 g118 g119 g120 g121 g122 g123 g124 g125 g126 g127 g128 g129 g130 g131 g132 g133 g134 g135 g136 z3' hz3
      have HZ3 := Lib.hid hz3
      clear hz3 HZ2
      have a0 : _ = some (Value.int .u64 (W (chi (rhopi (theta c)) 0))) := HZ3.out.sa.cell 0 (by decide)
      have k0 : _ = some (Value.int .u64 (W (consts.getD n 0#64))) := HZ3.out.cons n (by omega)
      have n0 : (0 : Int) ≤ (n : Int) := by omega
      go_upto_region 32 with (fail)
      go_still_tail 8, (by kernel_rfl)
      change wpList _ _ _ _ _ z3'.drew
      have HZ4 := Lib.hid HZ3.out.drew
      clear a0 k0 HZ3
      generalize z3'.drew = z4 at *
      have f0 := HZ4.out.sa.fz 0
      have s0 : _ = some (Value.int .u64 (W (chi (rhopi (theta c)) 0))) := HZ4.out.sa.cell 0 (by decide)
      go_wp2_with fail
      rw [W_xor]
      exact ⟨⟨n + 1, by omega, by go_num, Lib.hid (((HZ4.out.setA 0 _).congA (fun i _ => by rw [HRN.out]; rfl)).one)⟩, by simp [intOf]; omega⟩
    · obtain rfl : n = 24 := by omega
      have HPA := Lib.hid hp.out.sa
      have HPR := Lib.hid hp.out.sr
      go_wp2_with (first
        | (refine wpList_load_row rfl 75 (.tmp 3) rfl q0 rfl 75 (words (rnds a 24)) (0, 0) _ HPA.out und25 rfl (inf25 _) ?_)
        | (refine wpList_store_row rfl 75 (.tmp 6) (.tmp 145) rfl qr (words (rnds a 24)) rfl rfl 75 _ HPR.out (inf25 _) (by rw [words, tab_size, tab_size]) (one_wv _ _) ?_))
      have hr : IsTab (World.setRow wr qr (words (rnds a 24))) qr 75 25 fun i => wv (rnds a 24 i) := HPR.out.row
      have hbb := below_setRow hp.out.below (by have := hp.out.g0; have := hp.out.o1; omega : w.heap.size ≤ qr) (words (rnds a 24))
      exact bodyPost_ret (v := .agg (words (perm a))) (results_cell_row rfl _ _ qr 75 _ (0, 0) _ rfl hr und25 rfl (inf25 _)) rfl ⟨rfl, hbb⟩
end Kc
end Go.Proofs.YtnfcjangminhoaaDoor
