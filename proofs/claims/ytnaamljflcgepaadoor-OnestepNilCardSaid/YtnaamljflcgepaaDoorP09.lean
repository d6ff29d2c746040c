/- Merged of Mc Cl. Own work. -/
import Derived.Test.YtnaamljflcgepaaDoorP08
import Derived.Laws.MakeOwn
import Derived.Test.YtnaamljflcgepaaDoorP07
namespace Go.Proofs.YtnaamljflcgepaaDoor
open Go.RowKit
set_option linter.unusedVariables false
set_option linter.unusedSimpArgs false
namespace Mk
open Kc
/-- A slice of one digest, made on the spot. -/
theorem buildH (x : Hx) (w : World) : (Instr.buildSlice 54 1 #[(0, dv x)]).run Tryd.prog w = .ok (.slice (some ⟨w.heap.size, 0, none⟩) 1 1) (w.alloc (.cells (tab 32 fun i => bv (x i)) 31)) := by kernel_rfl
theorem above_zero (a : Option Addr) (c : Nat) (z z' : Hx) (w : World) (ha : (a = none ∧ c = 0) ∨ ∃ q, a = some ⟨q, 0, none⟩) (hc : c ≤ 9223372036854775807) :
    Calls Tryd.prog 57 #[.slice a 0 c, dv z, dv z'] w fun e w' => e = .returned (.slice a 0 c) ∧ Below w.heap.size w w' := by
  have hC : (c : Int) ≤ 9223372036854775807 := by omega
  unfold dv
  rcases ha with ⟨rfl, rfl⟩ | ⟨q, rfl⟩
  all_goals
    go_enter Tryd.func57, Tryd.ntmps57
    go_upto_region 2 with (fail)
    have hb : Hid (Below w.heap.size w ((w.alloc (.cells (tab 32 fun i => bv (z i)) 31)).alloc (.cells (tab 32 fun i => bv (z' i)) 31))) := Lib.hid (((Below.refl _ _).alloc (Nat.le_refl _) _).alloc (by simp) _)
    generalize (w.alloc (.cells (tab 32 fun i => bv (z i)) 31)).alloc (.cells (tab 32 fun i => bv (z' i)) 31) = y at *
    go_wp2_with fail
    go_loop [16] (fun t => t = .int .i64 0) (fun _ => 0)
    case atStart => exact rfl
    case round =>
      subst hrel
      go_wp2_with fail
      go_ret
      exact ⟨rfl, hb.out⟩
theorem xor1_i64 (a : Nat) (ha : a < 9223372036854775808) : bits .xor .i64 (a : Int) 1 = ((a ^^^ 1 : Nat) : Int) := by
  have hx : a ^^^ 1 < 2 ^ 63 := Nat.xor_lt_two_pow (by omega) (by omega)
  have h1 : (BitVec.ofInt 64 (a : Int)).toNat = a := by
    rw [BitVec.ofInt_natCast, BitVec.toNat_ofNat]; exact Nat.mod_eq_of_lt (by omega)
  show IntKind.i64.wrap ((BitVec.ofInt 64 (a : Int) ^^^ BitVec.ofInt 64 1).toNat : Int) = _
  rw [BitVec.toNat_xor, h1, show (BitVec.ofInt 64 1).toNat = 1 from rfl]
  simp [IntKind.wrap, IntKind.bits, IntKind.signed]
  omega
theorem infHs : ∃ i, Tryd.prog.info? 31 = some i ∧ i.zero = some (dv fun _ => 0#8) ∧ i.size = 32 ∧ i.bytes = 32 :=
  ⟨(Tryd.prog.info? 31).get (by kernel_rfl), by kernel_rfl, by kernel_rfl, by kernel_rfl, by kernel_rfl⟩
theorem undHs : Tryd.prog.underlying 54 = some (.slice 31) := by kernel_rfl
theorem zcells : (dv fun _ => 0#8).cells.size = 32 := by show (tab 32 _).size = 32; rw [tab_size]
/-- The state of the climb at height h, but for the path. -/
structure Cb (W : World) (B q8 q6 d n h : Nat) (f : Nat → Hx) (a9 : Option Addr) (c9 : Nat) (y : World) : Prop where
  nz : IsTab y q8 79 544 (hc (nz d))
  lv : (cnt n h = 0 ∧ ((a9 = none ∧ c9 = 0) ∨ ∃ q, a9 = some ⟨q, 0, none⟩)) ∨ ∃ q T, a9 = some ⟨q, 0, none⟩ ∧ Lv y q T (cnt n h) (lev (ext n f) h) ∧ q8 < q ∧ q < B
  hc9 : cnt n h ≤ c9 ∧ c9 ≤ maxLen
  below : Below W.heap.size W y
  sr : IsTab y q6 31 32 fun _ => bv 0#8
  o4 : W.heap.size ≤ q6 ∧ q6 < q8
  o1 : W.heap.size ≤ q8
  o2 : q8 < B
  o3 : B ≤ y.heap.size
/-- The state of the climb at height h. -/
structure Cl (W : World) (B q8 q6 d n i h : Nat) (f : Nat → Hx) (a9 : Option Addr) (c9 : Nat) (V : Value) (y : World) : Prop where
  cb : Cb W B q8 q6 d n h f a9 c9 y
  row : y.ownsRow B 31 32 V h (flat h (sib (ext n f) i))
theorem kept_tab {S : Nat → Prop} {y y' : World} {q T n : Nat} {g : Nat → Value} (h : IsTab y q T n g) (hk : Kept S y y') (hq : ¬ S q) : IsTab y' q T n g := by
  unfold IsTab at *
  rw [hk.block q (Array.getElem?_eq_some_iff.1 h).1 hq]; exact h
theorem Cb.kept {S : Nat → Prop} {W y y' : World} {B q8 q6 d n h : Nat} {f : Nat → Hx} {a9 : Option Addr} {c9 : Nat} (k : Cb W B q8 q6 d n h f a9 c9 y) (hk : Kept S y y') (hS : ∀ j, S j → B ≤ j) : Cb W B q8 q6 d n h f a9 c9 y' := by
  have hs := hk.size
  have h2 := k.o2
  refine ⟨kept_tab k.nz hk (fun e => by have := hS _ e; omega), k.lv.imp_right fun ⟨q, T, h1, ⟨m, g, h2, h3⟩, h4, h5⟩ => ⟨q, T, h1, ⟨m, g, kept_tab h2 hk (fun e => by have := hS _ e; omega), h3⟩, h4, h5⟩, k.hc9, ?_, kept_tab k.sr hk (fun e => by have := hS _ e; have := k.o4; omega), k.o4, k.o1, k.o2, by have := k.o3; omega⟩
  exact ((Kept.ofBelow (S := S) k.below).trans hk (fun _ _ h => h)).below (Nat.le_refl _) (fun j hj e => by have := k.o1; have := hS _ e; omega)
theorem Cb.next {W y y' : World} {B q8 q6 d n h : Nat} {f : Nat → Hx} {a9 : Option Addr} {c9 : Nat} (k : Cb W B q8 q6 d n h f a9 c9 y) (hb : Below y.heap.size y y') : Cb W B q8 q6 d n h f a9 c9 y' :=
  k.kept (S := fun _ => False) (Kept.ofBelow hb) (fun _ h => absurd h id)
theorem Cl.next {W y y' : World} {B q8 q6 d n i h : Nat} {f : Nat → Hx} {a9 : Option Addr} {c9 : Nat} {V : Value} (k : Cl W B q8 q6 d n i h f a9 c9 V y) (hb : Below y.heap.size y y') : Cl W B q8 q6 d n i h f a9 c9 V y' :=
  ⟨k.cb.next hb, (Kept.ofBelow (S := fun _ => False) hb).row k.row (fun _ _ h => h)⟩
theorem Cb.hs {W y : World} {B q8 q6 d n h : Nat} {f : Nat → Hx} {a9 : Option Addr} {c9 : Nat} (k : Cb W B q8 q6 d n h f a9 c9 y) : IsHs y a9 (cnt n h) (lev (ext n f) h) := by
  rcases k.lv with ⟨h1, _⟩ | ⟨q, T, h1, h2, _⟩
  · exact .inl h1
  · exact .inr ⟨q, 0, h1, h2.at5⟩
/-- Of a level, at any place. -/
theorem lev_if (n : Nat) (f : Nat → Hx) (h k : Nat) : (if k < cnt n h then lev (ext n f) h k else zero h) = lev (ext n f) h k := by
  split
  · rfl
  · exact (lev_out n f h k (by omega)).symm
theorem half_lev (n : Nat) (f : Nat → Hx) (h : Nat) : ∀ k, k < cnt n (h + 1) → half (cnt n h) (lev (ext n f) h) (zero h) (cnt n (h + 1)) k = lev (ext n f) (h + 1) k := by
  intro k hk
  unfold half
  rw [if_pos hk, lev_if, lev_if, lev_succ]
/-- The next level, if there is one. -/
theorem above_any {W y : World} {B q8 q6 d n i h N : Nat} {f : Nat → Hx} {a9 : Option Addr} {c9 : Nat} {V : Value} (k : Cb W B q8 q6 d n h f a9 c9 y) (hn : n ≤ 65536) (ht : Laid.KTab W) (hr : y.ownsRow B 31 32 V (h + 1) (flat (h + 1) (sib (ext n f) i))) (hN : N = cnt n (h + 1)) :
    Calls Tryd.prog 57 #[.slice a9 (cnt n h) c9, dv (zero h), dv (zero (h + 1))] y fun e y' => e = .returned (.slice a9 N c9) ∧ Cl W B q8 q6 d n i (h + 1) f a9 c9 V y' := by
  subst hN
  have hW : 0 < W.heap.size := inHeap (ht 0 (by decide))
  have hc9 := k.hc9
  unfold maxLen at hc9
  rcases k.lv with ⟨h1, h2⟩ | ⟨q, T, rfl, h2, h3, h4⟩
  · have e0 : cnt n (h + 1) = 0 := by show (cnt n h + 1) / 2 = 0; omega
    rw [e0, h1]
    refine (above_zero a9 c9 _ _ y h2 (by omega)).mono ?_
    rintro e y' ⟨rfl, hb⟩
    have k' := k.next hb
    exact ⟨rfl, ⟨k'.nz, .inl ⟨e0, h2⟩, ⟨by omega, k.hc9.2⟩, k'.below, k'.sr, k.o4, k.o1, k.o2, k'.o3⟩, (Kept.ofBelow (S := fun _ => False) hb).row hr (fun _ _ h => h)⟩
  · by_cases h0 : cnt n h = 0
    · have e0 : cnt n (h + 1) = 0 := by show (cnt n h + 1) / 2 = 0; omega
      rw [e0, h0]
      refine (above_zero _ c9 _ _ y (.inr ⟨q, rfl⟩) (by omega)).mono ?_
      rintro e y' ⟨rfl, hb⟩
      have k' := k.next hb
      exact ⟨rfl, ⟨k'.nz, .inl ⟨e0, .inr ⟨q, rfl⟩⟩, ⟨by omega, k.hc9.2⟩, k'.below, k'.sr, k.o4, k.o1, k.o2, k'.o3⟩, (Kept.ofBelow (S := fun _ => False) hb).row hr (fun _ _ h => h)⟩
    · have hle := cnt_le_n n h
      refine (above_walk q T (cnt n h) c9 (cnt n (h + 1)) rfl (lev (ext n f) h) (zero h) y h2 (by omega) hc9.1 (by omega) hc9.2 (ktab_below ht k.below) (by have := k.o1; omega)).mono ?_
      rintro e y' ⟨rfl, hl, hk⟩
      have hs := hk.size
      have hle2 : cnt n (h + 1) ≤ cnt n h := by show (cnt n h + 1) / 2 ≤ _; omega
      refine ⟨rfl, ⟨kept_tab k.nz hk (by omega), .inr ⟨q, T, rfl, (hl.less hle2).cong (half_lev n f h), h3, h4⟩, ⟨by omega, k.hc9.2⟩, ?_, kept_tab k.sr hk (by have := k.o4; omega), k.o4, k.o1, k.o2, by have := k.o3; omega⟩, hk.row hr (fun k1 hk1 => by have := (hr.lt k1 hk1).1; omega)⟩
      exact ((Kept.ofBelow (S := (· = q)) k.below).trans hk (fun _ _ h => h)).below (Nat.le_refl _) (fun j hj e => by have := k.o1; omega)
/-- A row as a level. -/
theorem lv_of_row {w : World} {B T : Nat} {V : Value} {n : Nat} {f : Nat → Hx} (h : w.ownsRow B T 32 V n (flat n f)) :
    ∃ a c, V = .slice a n c ∧ n ≤ c ∧ c ≤ maxLen ∧ ((n = 0 ∧ a = none ∧ c = 0) ∨ ∃ g, a = some ⟨g, 0, none⟩ ∧ B ≤ g ∧ g < w.heap.size ∧ Lv w g T n f) := by
  obtain ⟨h0, h1⟩ := h
  rcases h1 with ⟨rfl, e⟩ | ⟨g, cap, cur, rfl, hg, hc, hnc, hm, hs, ht⟩
  · have hn : n = 0 := by have := flat_len n f; rw [e] at this; simp at this; omega
    subst hn
    exact ⟨none, 0, rfl, Nat.le_refl _, by decide, .inl ⟨rfl, rfl, rfl⟩⟩
  · refine ⟨_, cap, rfl, hnc, hm, .inr ⟨g, rfl, hg, (Array.getElem?_eq_some_iff.1 hc).1, cur.size, fun i => cur.getD i (.int .i64 0), ?_, by rw [hs]; omega, fun k j hk hj => ?_⟩⟩
    · unfold IsTab
      have e : tab cur.size (fun i => cur.getD i (.int .i64 0)) = cur := by
        apply Array.ext_getElem?
        intro i
        by_cases hi : i < cur.size
        · rw [tab_at _ hi]; simp [hi]
        · rw [tab_out _ (by omega), Array.getElem?_eq_none (by omega)]
      rw [e]; exact hc
    · have e1 : (cur.toList.take (n * 32))[32 * k + j]? = (flat n f)[32 * k + j]? := by rw [ht]
      rw [List.getElem?_take, if_pos (by omega), flat_at hk hj] at e1
      simp at e1
      simp [e1]
theorem flat1 (x : Hx) : flat 1 (fun _ => x) = (tab 32 fun i => bv (x i)).toList := by
  unfold flat tab
  simp only [Nat.mul_one]
  exact List.map_congr_left fun i hi => by rw [Nat.mod_eq_of_lt (by simpa using hi)]
theorem src1 (w : World) (x : Hx) : ∀ j u, (flat 1 fun _ => x)[j]? = some u → (w.alloc (.cells (tab 32 fun i => bv (x i)) 31)).cell? ((⟨w.heap.size, 0, none⟩ : Addr).add j) = some u := by
  intro j u hu
  rw [flat1] at hu
  rw [add_at, Nat.zero_add, cell_of_row _ _ _ _ _ _ (heap_alloc_last w _)]
  simpa using hu
theorem src_one (w : World) (x : Hx) : ((some ⟨w.heap.size, 0, none⟩ : Option Addr) = none ∧ 1 = 0 ∧ 1 = 0 ∧ flat 1 (fun _ => x) = []) ∨ ∃ ad, (some ⟨w.heap.size, 0, none⟩ : Option Addr) = some ad ∧ (flat 1 fun _ => x).length = 1 * 32 ∧ ∀ j u, (flat 1 fun _ => x)[j]? = some u → (w.alloc (.cells (tab 32 fun i => bv (x i)) 31)).cell? (ad.add j) = some u :=
  .inr ⟨_, rfl, flat_len _ _, src1 w x⟩
theorem flat_step (h : Nat) (g : Nat → Hx) : flat h g ++ flat 1 (fun _ => g h) = flat (h + 1) g := by
  rw [flat_append]
  exact flat_cong fun k hk => by
    split
    · rfl
    · rw [show k = h from by omega]
set_option maxHeartbeats 1000000 in
set_option maxRecDepth 100000 in
theorem climb_walk (d : Nat) (a : Option Addr) (n c : Nat) (f : Nat → Hx) (i : Nat) (w : World) (hd : d ≤ 16) (hs : IsHs w a n f) (hnil : a = none → n = 0 ∧ c = 0) (hnc : n ≤ c) (hn : n ≤ 65536) (hi : i ≤ 65536) (ht : Laid.KTab w) :
    Calls Tryd.prog 43 #[.int .i64 d, .slice a n c, .int .i64 i] w fun e w' => ∃ V, e = .returned (.tuple #[dv (und (ext n f) d 0), V]) ∧ w'.ownsRow w.heap.size 31 32 V d (flat d (sib (ext n f) i)) ∧ Below w.heap.size w w' := by
  have hW0 : 0 < w.heap.size := inHeap (ht 0 (by decide))
  have HS := Lib.hid hs
  have HT := Lib.hid ht
  have HN := Lib.hid hnil
  have HW0 := Lib.hid hW0
  clear hs ht hnil hW0
  have z2 := zeroHash
  generalize hz : (tab 32 fun _ => bv 0#8) = zh at *
  have HZ := Lib.hid hz
  clear hz
  have z3 := zeroN
  generalize hz : (tab 544 (hc fun _ => zero 0)) = zn at *
  have HZN := Lib.hid hz
  clear hz
  have hzs : zn.size = 544 := by rw [← HZN.out, tab_size]
  have HZS := Lib.hid hzs
  clear hzs
  have T6 := Lib.hid (put_new w (fun _ => 0#8) zh HZ.out)
  have B6 : Hid (Below w.heap.size w (w.alloc (.cells zh 31))) := Lib.hid ((Below.refl _ _).alloc (Nat.le_refl _) _)
  have HNO := Lib.hid (noughts_walk d hd (w.alloc (.cells zh 31)) (ktab_below HT.out B6.out))
  go_enter Tryd.func43, Tryd.ntmps43
  go_upto_region 2 with (first
    | (go_at_call 22; refine HNO.out.mono ?_; rintro e w1 ⟨rfl, hb1⟩)
    | (refine wpList_store_row rfl 79 (.tmp 8) (.tmp 13) rfl w1.heap.size (tab 544 (hc (nz d))) rfl rfl 79 zn (heap_alloc_last w1 _) (infN _) (by rw [HZS.out, tab_size]) (tab_one fun i => rfl) ?_; rw [World.setRow_alloc_new]; simp only [Act.put]))
  have hb2 : Below w1.heap.size w1 (w1.alloc (.cells (tab 544 (hc (nz d))) 79)) := (Below.refl _ _).alloc (Nat.le_refl _) _
  have hb1' : Below (w.alloc (.cells zh 31)).heap.size (w.alloc (.cells zh 31)) (w1.alloc (.cells (tab 544 (hc (nz d))) 79)) := bl hb1 hb2
  have H2 : Hid (IsTab (w1.alloc (.cells (tab 544 (hc (nz d))) 79)) w1.heap.size 79 544 (hc (nz d)) ∧ IsTab (w1.alloc (.cells (tab 544 (hc (nz d))) 79)) w.heap.size 31 32 (fun _ => bv 0#8) ∧ Below w.heap.size w (w1.alloc (.cells (tab 544 (hc (nz d))) 79)) ∧ w.heap.size < w1.heap.size ∧ w1.heap.size < (w1.alloc (.cells (tab 544 (hc (nz d))) 79)).heap.size) := by
    have hz := hb1.size
    simp at hz
    exact Lib.hid ⟨IsTab.new w1 _ 544 _, T6.out.below hb1', bl B6.out hb1', by omega, by simp⟩
  clear hb1 hb2 hb1' HNO T6 B6
  generalize w1.alloc (.cells (tab 544 (hc (nz d))) 79) = y2 at *
  generalize w1.heap.size = q8 at *
  clear HZN HZS
  obtain ⟨i0, hi0, hi1, hi2, hi3⟩ := infHs
  have HI := Lib.hid (And.intro hi0 (And.intro hi1 (And.intro hi2 hi3)))
  clear hi0 hi1 hi2 hi3
  have hsrc := Lib.hid (src_hs (HS.out.below H2.out.2.2.1) HN.out)
  have hlb : Hid (0 + n ≤ maxLen ∧ (0 + n) * 32 ≤ 140737488355328) := Lib.hid ⟨by unfold maxLen; omega, by omega⟩
  go_upto_region 3 with (refine wpList_append_any rfl (.const (.slice none 0 0)) (.tmp 14) 54 rfl y2.heap.size 31 i0 (dv fun _ => 0#8) 32 32 undHs HI.out zcells (by decide) (.slice none 0 0) 0 [] rfl (World.ownsRow_nil _ _ _ _) a n c (flat n f) rfl hsrc.out (flat_one n f) hlb.out.1 hlb.out.2 (Nat.le_refl _) ?_; intro V1 w4 hown1 hgr1 hat1)
  have hown : w4.ownsRow y2.heap.size 31 32 V1 n (flat n f) := by rw [Nat.zero_add, List.nil_append] at hown1; exact hown1
  obtain ⟨a9, c9, rfl, hc1, hc2, hlv⟩ := lv_of_row hown
  have hb4 : Below y2.heap.size y2 w4 := below_grown (Nat.le_refl _) (Below.refl _ _) hgr1 (fun k hk => by simp [Value.ownBlock] at hk)
  have H4 := Lib.hid (And.intro hc1 (And.intro hc2 (And.intro hlv hb4)))
  clear hown hown1 hgr1 hat1 hsrc hlb hc1 hc2 hlv hb4
  obtain ⟨w5, hmk, hown5, hg5⟩ := run_makeSlice_owned (P := Tryd.prog) w4 w4.heap.size 54 31 i0 (dv fun _ => 0#8) 32 undHs HI.out.1 HI.out.2.1 HI.out.2.2.1 .i64 .i64 d (by omega) (by rw [HI.out.2.2.2]; omega) (by unfold maxLen; omega) (Nat.le_refl _)
  have H5 := Lib.hid (And.intro hown5 hg5)
  clear hown5 hg5
  have HC : Hid (Cl w w4.heap.size q8 w.heap.size d n i 0 f a9 c9 (.slice (some ⟨w4.heap.size, 0, none⟩) 0 d) w5) := by
    obtain ⟨k1, k2, k3, k4, k5⟩ := H2.out
    obtain ⟨l1, l2, l3, l4⟩ := H4.out
    have hb5 : Below w4.heap.size w4 w5 := below_grown (Nat.le_refl _) (Below.refl _ _) H5.out.2 (fun k hk => by cases hk)
    have hs4 := l4.size
    refine Lib.hid ⟨⟨(k1.below l4).below hb5, ?_, ⟨l1, l2⟩, bl (bl k3 l4) hb5, (k2.below l4).below hb5, ⟨Nat.le_refl _, k4⟩, by omega, by omega, hb5.size⟩, H5.out.1⟩
    rcases l3 with ⟨m1, m2, m3⟩ | ⟨g, m1, m2, m3, m4⟩
    · exact .inl ⟨m1, .inl ⟨m2, m3⟩⟩
    · refine .inr ⟨g, _, m1, (m4.below hb5).cong fun k hk => ?_, by omega, m3⟩
      rw [lev_zero, ext_in f hk]
  clear H2 H4
  go_upto_region 5 with (fail)
  clear H5 hmk
  generalize w4.heap.size = B at *
  generalize (Value.slice (some ⟨B, 0, none⟩) 0 d) = V0 at *
  generalize hq6 : w.heap.size = q6 at *
  have HQ6 := Lib.hid hq6
  clear hq6
  go_loopw [2, 9, 10, 19] (fun ti tl tp tc y => ∃ (r m : Nat), r ≤ d ∧ tc = .int .i64 r ∧ ti = .int .i64 m ∧ Hid (m = i / 2 ^ r) ∧ tl = .slice a9 (cnt n r) c9 ∧ Hid (Cl w B q8 q6 d n i r f a9 c9 tp y)) (fun _ _ _ tc _ => d - (intOf tc).toNat)
  case atStart => exact ⟨0, i, Nat.zero_le _, rfl, rfl, Lib.hid (by simp), rfl, HC⟩
  case round =>
    obtain ⟨r, m, hh, rfl, rfl, hm, rfl, hp⟩ := hrel
    generalize u10 = V at *
    clear HC
    have hmi : m ≤ i := by rw [hm.out]; exact Nat.div_le_self _ _
    have hx1 := xor1_i64 m (by omega)
    have hcn := cnt_le_n n r
    have HCN := Lib.hid hcn
    have HMI := Lib.hid hmi
    have hmb : (m : Int) ≤ 65536 := by omega
    clear hmi hcn
    by_cases hlt : (r : Int) < (d : Int)
    · have hd17 : (r : Int) + 1 < 17 := by omega
      have D8 := Lib.hid (loadH (at5_of (n := 17) hp.out.cb.nz (by omega)) (k := r) (p := r * 32) (by omega) (by omega))
      rw [nz_at (show r ≤ d by omega)] at D8
      have hxm : Hid (m ^^^ 1 ≤ 9223372036854775807) := Lib.hid (by
        have h1 : m ^^^ 1 ≤ m + 1 := by rw [xor1]; split <;> omega
        have := HMI.out
        omega)
      have HAT := Lib.hid (at_any a9 c9 (cnt n r) (lev (ext n f) r) (m ^^^ 1) (zero r) wr hp.out.cb.hs hp.out.cb.hc9.1 hp.out.cb.hc9.2 hxm.out)
      rw [lev_if] at HAT
      have hsib : lev (ext n f) r (m ^^^ 1) = sib (ext n f) i r := by rw [hm.out]; rfl
      rw [hsib] at HAT
      clear hsib
      have H32 : Hid (0 < 32) := Lib.hid (by decide)
      have hlb : Hid (r + 1 ≤ maxLen ∧ (r + 1) * 32 ≤ 140737488355328) := Lib.hid ⟨by unfold maxLen; omega, by omega⟩
      go_upto_region 8 with (first
        | ((with_reducible refine wpList_loadE (P := Tryd.prog) (w := wr) (ty := 31) (x := .tmp 27) (p := .pointer (some ⟨q8, r * 32, none⟩)) (v := dv (zero r)) ?_ ?_ ?_ D8.out ?_); (· exact rfl); (· exact rfl); (· exact rfl))
        | (go_at_call 56; refine HAT.out.mono ?_; rintro e w6 ⟨rfl, hb6⟩; have H6 := Lib.hid (hp.out.next hb6); have HBD := Lib.hid (buildH (sib (ext n f) i r) w6); have HSR := Lib.hid (src_one w6 (sib (ext n f) i r)); have HOW := Lib.hid (H6.out.row.alloc (.cells (tab 32 fun j => bv (sib (ext n f) i r j)) 31)); have HBS : Hid (B ≤ (w6.alloc (.cells (tab 32 fun j => bv (sib (ext n f) i r j)) 31)).heap.size) := Lib.hid (by have := H6.out.cb.o3; simp; omega); clear hb6)
        | ((with_reducible refine wpList_build1 (P := Tryd.prog) (w := w6) (t := 54) (x := .tmp 29) (p := dv (sib (ext n f) i r)) (v := .slice (some ⟨w6.heap.size, 0, none⟩) 1 1) (w' := w6.alloc (.cells (tab 32 fun j => bv (sib (ext n f) i r j)) 31)) ?_ ?_ ?_ HBD.out ?_); (· exact rfl); (· exact rfl); (· exact rfl))
        | (at_builtin; (with_reducible refine wpList_append_any (P := Tryd.prog) (w := w6.alloc (.cells (tab 32 fun j => bv (sib (ext n f) i r j)) 31)) ?_ (.tmp 22) (.tmp 30) 54 ?_ B 31 i0 (dv fun _ => 0#8) 32 32 undHs HI.out zcells H32.out V r (flat r (sib (ext n f) i)) ?_ HOW.out (some ⟨w6.heap.size, 0, none⟩) 1 1 (flat 1 fun _ => sib (ext n f) i r) ?_ HSR.out (flat_one _ _) hlb.out.1 hlb.out.2 HBS.out ?_); (· exact rfl); (· exact rfl); (· exact rfl); (· exact rfl); intro V7 w7 hown7 hgr7 hat7))
      have hown : w7.ownsRow B 31 32 V7 (r + 1) (flat (r + 1) (sib (ext n f) i)) := by rw [flat_step] at hown7; exact hown7
      have hk7 : Kept (fun k => V.ownBlock = some k) w6 w7 := ((Kept.ofBelow (S := fun k => V.ownBlock = some k) ((Below.refl _ _).alloc (Nat.le_refl _) _)).trans ⟨hgr7.os, hgr7.tape, hgr7.output, hgr7.size, fun k hk hn => hgr7.block k hk (fun e => hn e.symm)⟩ (fun _ _ r => r))
      have H7 := Lib.hid (And.intro (H6.out.cb.kept hk7 (fun j hj => (H6.out.row.lt j hj).1)) hown)
      clear hown hk7 hown7 hgr7 hat7 H6 HBD HSR HOW HBS H32 hlb D8 HAT hp
      go_upto_region 9 with (fail)
      have hnz1 : ∀ u, IsTab u q8 79 544 (hc (nz d)) → (Instr.loadAt 31 (.pointer (some ⟨q8, r * 32, none⟩))).run Tryd.prog u = .ok (dv (zero r)) u := fun u hu => by
        have := loadH (at5_of (n := 17) hu (by omega)) (k := r) (p := r * 32) (by omega) (by omega)
        rw [nz_at (show r ≤ d by omega)] at this
        exact this
      have hnz2 : ∀ u, IsTab u q8 79 544 (hc (nz d)) → (Instr.loadAt 31 (.pointer (some ⟨q8, (r + 1) * 32, none⟩))).run Tryd.prog u = .ok (dv (zero (r + 1))) u := fun u hu => by
        have := loadH (at5_of (n := 17) hu (by omega)) (k := r + 1) (p := (r + 1) * 32) (by omega) (by omega)
        rw [nz_at (show r + 1 ≤ d by omega)] at this
        exact this
      have L1 := Lib.hid hnz1
      have L2 := Lib.hid hnz2
      clear hnz1 hnz2
      have hw1 : IntKind.i64.wrap ((r : Int) + 1) = (r : Int) + 1 := IntWalk.i64_in _ (by omega)
      have hi2 : ((r : Int) + 1).toNat = r + 1 := by omega
      have hi3 : (0 : Int) ≤ (r : Int) ∧ (r : Int) < 17 ∧ (0 : Int) ≤ (r : Int) + 1 := by omega
      have HF := Lib.hid (And.intro hw1 (And.intro hi2 hi3))
      clear hw1 hi2 hi3
      refine wp_region_ord (fun u => IsTab u q8 79 544 (hc (nz d))) [(0, true), (1, true), (2, true), (3, true), (4, true), (5, true), (6, true), (7, true), (8, false), (9, false)] (by kernel_rfl) (by kernel_rfl) H7.out.1.nz ?_
      refine wpOrd_tk (some 34) (.slice a9 (cnt n r) c9) rfl rfl (by rfl) (fun _ _ => rfl) ?_
      simp only [Act.put, List.setIfInBounds_toArray, List.set_cons_zero, List.set_cons_succ]
      refine wpOrd_tk (some 35) (.int .i64 r) rfl rfl (by rfl) (fun _ _ => rfl) ?_
      simp only [Act.put, List.setIfInBounds_toArray, List.set_cons_zero, List.set_cons_succ]
      refine wpOrd_tk (some 36) (.pointer (some ⟨q8, r * 32, none⟩)) rfl rfl (by rfl) (fun _ _ => by have := HF.out.2.2; simp [execOp, go_sem, this]) ?_
      simp only [Act.put, List.setIfInBounds_toArray, List.set_cons_zero, List.set_cons_succ]
      refine wpOrd_ld (some 37) 31 (.tmp 36) (.pointer (some ⟨q8, r * 32, none⟩)) (dv (zero r)) rfl rfl (by rfl) rfl rfl L1.out ?_
      simp only [Act.put, List.setIfInBounds_toArray, List.set_cons_zero, List.set_cons_succ]
      refine wpOrd_tk (some 38) (.int .i64 r) rfl rfl (by rfl) (fun _ _ => rfl) ?_
      simp only [Act.put, List.setIfInBounds_toArray, List.set_cons_zero, List.set_cons_succ]
      refine wpOrd_tk (some 39) (.int .i64 ((r : Int) + 1)) rfl rfl (by rfl) (fun _ _ => by have := HF.out.1; simp [execOp, go_sem, this]) ?_
      simp only [Act.put, List.setIfInBounds_toArray, List.set_cons_zero, List.set_cons_succ]
      refine wpOrd_tk (some 40) (.pointer (some ⟨q8, (r + 1) * 32, none⟩)) rfl rfl (by rfl) (fun _ _ => by have h1 := HF.out.2.1; have h2 := HF.out.2.2.2.2; have h3 : (r : Int) + 1 < 17 := hd17; simp [execOp, go_sem, h1, h2, h3]) ?_
      simp only [Act.put, List.setIfInBounds_toArray, List.set_cons_zero, List.set_cons_succ]
      refine wpOrd_ld (some 41) 31 (.tmp 40) (.pointer (some ⟨q8, (r + 1) * 32, none⟩)) (dv (zero (r + 1))) rfl rfl (by rfl) rfl rfl L2.out ?_
      simp only [Act.put, List.setIfInBounds_toArray, List.set_cons_zero, List.set_cons_succ]
      have hcb := H7.out.1
      have HCB2 : Cb w B q8 q6 d n r f a9 c9 w7.drew := ⟨hcb.nz, hcb.lv, hcb.hc9, hcb.below.drew, hcb.sr, hcb.o4, hcb.o1, hcb.o2, hcb.o3⟩
      obtain ⟨N, hN⟩ : ∃ N, N = cnt n (r + 1) := ⟨_, rfl⟩
      have HAB := Lib.hid (above_any (i := i) (V := V7) HCB2 hn HT.out H7.out.2 hN)
      have HN2 := Lib.hid hN
      clear hcb HCB2 hN
      refine wpOrd_f (o := ⟨some 42, .call { callee := .value (.func 57), args := #[.tmp 34, .tmp 37, .tmp 41], argTypes := #[54, 31, 31] }, 54, "merkle.go:87", _, none⟩) rfl (by rfl) fun J hJ => ?_
      go_simp
      refine HAB.out.mono ?_
      rintro e w8 ⟨rfl, hcl⟩
      have H8 := Lib.hid hcl
      clear hcl
      refine hJ _ _ H8.out.cb.nz ?_
      clear hJ J
      refine wpOrd_f (o := ⟨some 9, .assign (.tmp 42), 54, "merkle.go:87", _, none⟩) rfl (by rfl) fun J hJ => ?_
      go_simp
      refine hJ _ _ H8.out.cb.nz ?_
      clear hJ J
      refine wpOrd_done (NoPanic.normal ?_)
      clear L1 L2 HF H7 HAB hx1
      go_wp2_with fail
      go_roundw
      case rel =>
        refine ⟨r + 1, m / 2, by omega, by go_num, ?_, Lib.hid ?_, ?_, H8⟩
        · show Value.int .i64 _ = .int .i64 _
          congr 1
        · rw [hm.out, Nat.pow_succ, Nat.div_div_eq_div_mul]
        · rw [HN2.out]
      case measure => simp [intOf]; omega
    · obtain rfl : r = d := by omega
      have D8 := Lib.hid (loadH (at5_of (n := 17) hp.out.cb.nz (by omega)) (k := r) (p := r * 32) (by omega) (by omega))
      rw [nz_at (Nat.le_refl r)] at D8
      have hat := at_any a9 c9 (cnt n r) (lev (ext n f) r) 0 (zero r) wr hp.out.cb.hs hp.out.cb.hc9.1 hp.out.cb.hc9.2 (by decide)
      rw [lev_if, ← und_lev, show ((0 : Nat) : Int) = 0 from rfl] at hat
      have HAT := Lib.hid hat
      clear hat
      have h17 : (r : Int) < 17 := by omega
      clear hx1
      go_wp2_with (first
        | ((with_reducible refine wpList_loadE (P := Tryd.prog) (w := wr) (ty := 31) (x := .tmp 46) (p := .pointer (some ⟨q8, r * 32, none⟩)) (v := dv (zero r)) ?_ ?_ ?_ D8.out ?_); (· exact rfl); (· exact rfl); (· exact rfl))
        | (go_at_call 56; refine HAT.out.mono ?_; rintro e w6 ⟨rfl, hb6⟩; have H6 := Lib.hid (hp.out.next hb6); clear hb6)
        | ((with_reducible refine wpList_store_row (P := Tryd.prog) (w := w6) ?_ 31 (.tmp 6) (.tmp 48) ?_ q6 (tab 32 fun j => bv (und (ext n f) r 0 j)) ?_ ?_ 31 (tab 32 fun _ => bv 0#8) ?_ (infH _) ?_ (one_bv _ _) ?_); (· exact rfl); (· exact rfl); (· exact rfl); (· exact rfl); (· exact H6.out.cb.sr); (· rw [tab_size, tab_size])))
      have hr : IsTab (World.setRow w6 q6 (tab 32 fun j => bv (und (ext n f) r 0 j))) q6 31 32 fun j => bv (und (ext n f) r 0 j) := H6.out.cb.sr.row
      have h6 := H6.out
      have hbb := below_setRow h6.cb.below h6.cb.o4.1 (tab 32 fun j => bv (und (ext n f) r 0 j))
      have hV : ∀ k, V.ownBlock = some k → k ≠ q6 := fun k hk e => by have := (h6.row.lt k hk).1; have := h6.cb.o4.2; have := h6.cb.o2; omega
      have hrow : (World.setRow w6 q6 (tab 32 fun j => bv (und (ext n f) r 0 j))).ownsRow q6 31 32 V r (flat r (sib (ext n f) i)) :=
        ownsRow_base ((kept_setRow (S := (· = q6)) (Kept.refl _ _) (.inl rfl) _).row h6.row (fun k hk e => hV k hk e)) (by have := h6.cb.o4.2; have := h6.cb.o2; omega)
      exact bodyPost_ret (Kc.results_cell_tmp rfl _ _ q6 31 _ (0, 0) _ rfl hr undH rfl (infH _) V rfl) rfl ⟨V, rfl, by rw [HQ6.out]; exact hrow, hbb⟩
end Mk
end Go.Proofs.YtnaamljflcgepaaDoor
/-
  merkle.Root, Path. Own work.
-/
namespace Go.Proofs.YtnaamljflcgepaaDoor
open Go.RowKit
set_option linter.unusedVariables false
set_option linter.unusedSimpArgs false
namespace Mk
open Kc
theorem wrong_ok {d : Int} {n : Nat} (h : wrong d n = 0) : ∃ k : Nat, d = k ∧ k ≤ 16 ∧ n ≤ 2 ^ k := by
  unfold wrong at h
  by_cases h1 : d < 0 ∨ 16 < d
  · rw [if_pos h1] at h; cases h
  · rw [if_neg h1] at h
    by_cases h2 : (2 : Int) ^ d.toNat < n
    · rw [if_pos h2] at h; cases h
    · refine ⟨d.toNat, by omega, by omega, ?_⟩
      have e : ((2 ^ d.toNat : Nat) : Int) = (2 : Int) ^ d.toNat := by rw [Int.natCast_pow]; rfl
      omega
theorem two16 {k : Nat} (h : k ≤ 16) : 2 ^ k ≤ 65536 := by have := Nat.pow_le_pow_right (n := 2) (by decide) h; simpa using this
theorem errV_ne {k : Int} (h : k ≠ 0) : errV k = .iface 49 (.int .i64 k) := by unfold errV; rw [if_neg h]
/-- What Root answers. -/
def rootOf (d : Int) (n : Nat) (f : Nat → Hx) : Hx := if wrong d n = 0 then und (ext n f) d.toNat 0 else zero 0
set_option maxHeartbeats 2000000 in
set_option maxRecDepth 100000 in
theorem root_any (d : Int) (a : Option Addr) (n c : Nat) (f : Nat → Hx) (w : World) (hs : IsHs w a n f) (hnil : a = none → n = 0 ∧ c = 0) (hnc : n ≤ c) (hn : n ≤ 9223372036854775807) (ht : Laid.KTab w) :
    Calls Tryd.prog 26 #[.int .i64 d, .slice a n c] w fun e w' => e = .returned (.tuple #[dv (rootOf d n f), errV (wrong d n)]) ∧ Below w.heap.size w w' := by
  have HS := Lib.hid hs
  have HT := Lib.hid ht
  have HN := Lib.hid hnil
  clear hs ht hnil
  have z2 := zeroHash
  generalize hz : (tab 32 fun _ => bv 0#8) = zh at *
  have HZ := Lib.hid hz
  clear hz
  have hzl : zh.size = 32 := by rw [← HZ.out, tab_size]
  have HZL := Lib.hid hzl
  have hzi : (Tryd.prog.info? 31).map (·.size) = some zh.size := by rw [hzl]; exact infHh
  have HZI := Lib.hid hzi
  have hzo : zh.all (·.oneCell') = true := by rw [← HZ.out]; exact one_bv _ _
  have HZO := Lib.hid hzo
  clear hzi hzo hzl
  have T4 := Lib.hid (put_new w (fun _ => 0#8) zh HZ.out)
  have B4 : Hid (Below w.heap.size w (w.alloc (.cells zh 31))) := Lib.hid ((Below.refl _ _).alloc (Nat.le_refl _) _)
  have HCK := Lib.hid (check_any d a n c (w.alloc (.cells zh 31)) hn)
  by_cases h0 : wrong d n = 0
  · obtain ⟨k, rfl, hk, hnk⟩ := wrong_ok h0
    have h16 := two16 hk
    have hro : rootOf (k : Int) n f = und (ext n f) k 0 := by unfold rootOf; rw [if_pos h0]; rfl
    rw [hro, h0, err0]
    rw [h0, err0] at HCK
    have HCL := Lib.hid (climb_walk k a n c f 0 (w.alloc (.cells zh 31)) hk (HS.out.below B4.out) HN.out hnc (by omega) (by decide) (ktab_below HT.out B4.out))
    rw [show ((0 : Nat) : Int) = 0 from rfl] at HCL
    clear h0 hnk h16 hro hn
    go_enter Tryd.func26, Tryd.ntmps26
    go_upto_region 5 with (first
      | (go_at_call 42; refine HCK.out.mono ?_; rintro e _ ⟨rfl, rfl⟩)
      | (go_at_call 43; refine HCL.out.mono ?_; rintro e w1 ⟨V, rfl, hrow, hb1⟩; have HB1 := Lib.hid hb1; clear hrow hb1)
      | ((with_reducible refine wpList_store_row (P := Tryd.prog) (w := w1.alloc (.cells zh 31)) ?_ 31 (.tmp 7) (.tmp 20) ?_ w1.heap.size (tab 32 fun i => bv (und (ext n f) k 0 i)) ?_ ?_ 31 zh (heap_alloc_last w1 _) (infH _) ?_ (one_bv _ _) ?_); (· exact rfl); (· exact rfl); (· exact rfl); (· exact rfl); (· rw [HZL.out, tab_size]); rw [World.setRow_alloc_new]; simp only [Act.put]))
    have hb7 : Below w1.heap.size w1 (w1.alloc (.cells (tab 32 fun i => bv (und (ext n f) k 0 i)) 31)) := (Below.refl _ _).alloc (Nat.le_refl _) _
    have hb8 := bl HB1.out hb7
    have H7 : Hid (IsTab (w1.alloc (.cells (tab 32 fun i => bv (und (ext n f) k 0 i)) 31)) w1.heap.size 31 32 (fun i => bv (und (ext n f) k 0 i)) ∧ IsTab (w1.alloc (.cells (tab 32 fun i => bv (und (ext n f) k 0 i)) 31)) w.heap.size 31 32 (fun _ => bv 0#8) ∧ Below w.heap.size w (w1.alloc (.cells (tab 32 fun i => bv (und (ext n f) k 0 i)) 31))) :=
      Lib.hid ⟨IsTab.new w1 _ 32 _, T4.out.below hb8, bl B4.out hb8⟩
    clear hb7 hb8 HB1 HCL HCK B4 T4
    generalize w1.alloc (.cells (tab 32 fun i => bv (und (ext n f) k 0 i)) 31) = y at *
    have D7 := Lib.hid (load32h H7.out.1)
    go_wp2_with (first
      | ((with_reducible refine wpList_loadE (P := Tryd.prog) (w := y) (ty := 31) (x := .tmp 7) (p := .pointer (some ⟨w1.heap.size, 0, none⟩)) (v := dv (und (ext n f) k 0)) ?_ ?_ ?_ D7.out ?_); (· exact rfl); (· exact rfl); (· exact rfl))
      | ((with_reducible refine wpList_store_row (P := Tryd.prog) (w := y) ?_ 31 (.tmp 4) (.tmp 22) ?_ w.heap.size (tab 32 fun j => bv (und (ext n f) k 0 j)) ?_ ?_ 31 (tab 32 fun _ => bv 0#8) ?_ (infH _) ?_ (one_bv _ _) ?_); (· exact rfl); (· exact rfl); (· exact rfl); (· exact rfl); (· exact H7.out.2.1); (· rw [tab_size, tab_size])))
    have hr : IsTab (World.setRow y w.heap.size (tab 32 fun j => bv (und (ext n f) k 0 j))) w.heap.size 31 32 fun j => bv (und (ext n f) k 0 j) := H7.out.2.1.row
    exact bodyPost_ret (Kc.results_cell_tmp rfl _ _ w.heap.size 31 _ (0, 0) _ rfl hr undH rfl (infH _) .nilIface rfl) rfl ⟨rfl, below_setRow H7.out.2.2 (Nat.le_refl _) _⟩
  · have hro : rootOf d n f = zero 0 := by unfold rootOf; rw [if_neg h0]
    rw [hro]
    have hv : errV (wrong d n) = .iface 49 (.int .i64 (wrong d n)) := errV_ne h0
    rw [hv]
    rw [hv] at HCK
    generalize wrong d n = k at *
    clear hv hro h0 hn
    go_enter Tryd.func26, Tryd.ntmps26
    go_wp2_with (first
      | (go_at_call 42; refine HCK.out.mono ?_; rintro e _ ⟨rfl, rfl⟩)
      | ((with_reducible refine wpList_store_row (P := Tryd.prog) (w := w.alloc (.cells zh 31)) ?_ 31 (.tmp 4) (.tmp 14) ?_ w.heap.size zh ?_ ?_ 31 zh (heap_alloc_last w _) HZI.out ?_ HZO.out ?_); (· exact rfl); (· exact rfl); (· exact rfl); (· exact rfl); (· exact rfl)))
    have hr2 : IsTab (World.setRow (w.alloc (.cells zh 31)) w.heap.size zh) w.heap.size 31 32 fun _ => bv 0#8 := by
      have hr := IsTab.row (g := fun _ => bv 0#8) T4.out
      rw [HZ.out] at hr
      exact hr
    exact bodyPost_ret (Kc.results_cell_tmp rfl _ _ w.heap.size 31 _ (0, 0) _ rfl hr2 undH rfl (infH _) (.iface 49 (.int .i64 k)) rfl) rfl ⟨rfl, below_setRow B4.out (Nat.le_refl _) _⟩
/-! ## Path -/
/-- What is wrong with a path's place. -/
def wrongP (d : Int) (n : Nat) (i : Int) : Int := if wrong d n ≠ 0 then wrong d n else if i < 0 ∨ (2 : Int) ^ d.toNat ≤ i then 2 else 0
/-- What Path answers: a row of digests, or nil. -/
def pathLen (d : Int) (n : Nat) (i : Int) : Nat := if wrongP d n i = 0 then d.toNat else 0
set_option maxHeartbeats 2000000 in
set_option maxRecDepth 100000 in
theorem path_any (d : Int) (a : Option Addr) (n c : Nat) (f : Nat → Hx) (i : Int) (w : World) (hs : IsHs w a n f) (hnil : a = none → n = 0 ∧ c = 0) (hnc : n ≤ c) (hn : n ≤ 9223372036854775807) (ht : Laid.KTab w) :
    Calls Tryd.prog 94 #[.int .i64 d, .slice a n c, .int .i64 i] w fun e w' => ∃ V, e = .returned (.tuple #[V, errV (wrongP d n i)]) ∧ w'.ownsRow w.heap.size 31 32 V (pathLen d n i) (flat (pathLen d n i) (sib (ext n f) i.toNat)) ∧ Below w.heap.size w w' := by
  have HCK := Lib.hid (check_any d a n c w hn)
  by_cases h0 : wrong d n = 0
  · obtain ⟨k, rfl, hk, hnk⟩ := wrong_ok h0
    have h16 := two16 hk
    rw [h0, err0] at HCK
    by_cases h1 : i < 0 ∨ (2 : Int) ^ k ≤ i
    · have hw : wrongP (k : Int) n i = 2 := by unfold wrongP; rw [if_neg (by simp [h0]), if_pos (by simpa using h1)]
      have hl : pathLen (k : Int) n i = 0 := by unfold pathLen; rw [hw, if_neg (by decide)]
      rw [hw, hl, err2]
      have HPL := Lib.hid (place_no i k hk w h1)
      clear h0 hnk h16 hw hl h1 hn
      go_enter Tryd.func94, Tryd.ntmps94
      go_wp2_with (first
        | (go_at_call 42; refine HCK.out.mono ?_; rintro e _ ⟨rfl, rfl⟩)
        | (go_at_call 96; refine HPL.out.mono ?_; rintro e _ ⟨rfl, rfl⟩))
      go_ret2
      exact ⟨_, rfl, World.ownsRow_nil _ _ _ _, Below.refl _ _⟩
    · have hw : wrongP (k : Int) n i = 0 := by unfold wrongP; rw [if_neg (by simp [h0]), if_neg (by simpa using h1)]
      have hl : pathLen (k : Int) n i = k := by unfold pathLen; rw [hw, if_pos rfl]; rfl
      rw [hw, hl, err0]
      obtain ⟨j, rfl⟩ : ∃ j : Nat, i = j := ⟨i.toNat, by omega⟩
      have h2 : (2 : Int) ^ k ≤ 65536 := by have := p2_nat k 16 hk; simpa using this
      have HPL := Lib.hid (place_yes (j : Int) k hk w (by omega) (by omega))
      have HCL := Lib.hid (climb_walk k a n c f j w hk hs hnil hnc (by omega) (by omega) ht)
      rw [Int.toNat_natCast]
      have z2 := zeroHash
      generalize hz : (tab 32 fun _ => bv 0#8) = zh at *
      have HZ := Lib.hid hz
      clear hz
      have hzl : zh.size = 32 := by rw [← HZ.out, tab_size]
      have HZL := Lib.hid hzl
      clear h0 hnk h16 hw hl h1 hn h2 hzl hs hnil ht
      go_enter Tryd.func94, Tryd.ntmps94
      go_upto_region 7 with (first
        | (go_at_call 42; refine HCK.out.mono ?_; rintro e _ ⟨rfl, rfl⟩)
        | (go_at_call 96; refine HPL.out.mono ?_; rintro e _ ⟨rfl, rfl⟩)
        | (go_at_call 43; refine HCL.out.mono ?_; rintro e w1 ⟨V, rfl, hrow, hb1⟩; have HR := Lib.hid (And.intro hrow hb1); clear hrow hb1)
        | ((with_reducible refine wpList_store_row (P := Tryd.prog) (w := w1.alloc (.cells zh 31)) ?_ 31 (.tmp 9) (.tmp 27) ?_ w1.heap.size (tab 32 fun i => bv (und (ext n f) k 0 i)) ?_ ?_ 31 zh (heap_alloc_last w1 _) (infH _) ?_ (one_bv _ _) ?_); (· exact rfl); (· exact rfl); (· exact rfl); (· exact rfl); (· rw [HZL.out, tab_size]); rw [World.setRow_alloc_new]; simp only [Act.put]))
      have hb7 : Below w1.heap.size w1 (w1.alloc (.cells (tab 32 fun i => bv (und (ext n f) k 0 i)) 31)) := (Below.refl _ _).alloc (Nat.le_refl _) _
      have H7 := Lib.hid (And.intro ((Kept.ofBelow (S := fun _ => False) hb7).row HR.out.1 (fun _ _ h => h)) (bl HR.out.2 hb7))
      clear hb7 HR
      generalize w1.alloc (.cells (tab 32 fun i => bv (und (ext n f) k 0 i)) 31) = y at *
      go_wp2_with fail
      go_ret2
      exact ⟨_, rfl, H7.out.1, H7.out.2⟩
  · have hw : wrongP d n i = wrong d n := by unfold wrongP; rw [if_pos h0]
    have hl : pathLen d n i = 0 := by unfold pathLen; rw [hw, if_neg h0]
    rw [hw, hl]
    have hv : errV (wrong d n) = .iface 49 (.int .i64 (wrong d n)) := errV_ne h0
    rw [hv]
    rw [hv] at HCK
    generalize wrong d n = k at *
    clear hv hw hl h0 hn
    go_enter Tryd.func94, Tryd.ntmps94
    go_wp2_with (go_at_call 42; refine HCK.out.mono ?_; rintro e _ ⟨rfl, rfl⟩)
    go_ret2
    exact ⟨_, rfl, World.ownsRow_nil _ _ _ _, Below.refl _ _⟩
end Mk
end Go.Proofs.YtnaamljflcgepaaDoor
namespace Go.Proofs.YtnaamljflcgepaaDoor
open Go.RowKit
set_option linter.unusedVariables false
set_option linter.unusedSimpArgs false
namespace Co
open Kc Mk Vm
def wb (v j : Nat) : Bt := BitVec.ofNat 8 (Rl.byteOf v j)
theorem byte_lt (v j : Nat) : Rl.byteOf v j < 256 := Nat.mod_lt _ (by decide)
theorem wb_nat (v j : Nat) : (wb v j).toNat = Rl.byteOf v j := by unfold wb; rw [BitVec.toNat_ofNat]; exact Nat.mod_eq_of_lt (byte_lt v j)
theorem ub_wb (v j : Nat) : Rl.ub (Rl.byteOf v j) = bv (wb v j) := by
  show Value.int .u8 ((Rl.byteOf v j : Nat) : Int) = .int .u8 (Bv (wb v j))
  unfold Bv; rw [wb_nat]
/-- A word as a leaf. -/
def lfX (v : Nat) : Hx := fun i => if 24 ≤ i ∧ i < 32 then wb v (i - 24) else 0#8
theorem put_lf (v j : Nat) : Rl.putv (fun _ => bv 0#8) 3 v 8 j = bv (lfX v j) := by
  unfold Rl.putv lfX
  by_cases h : 8 * 3 ≤ j ∧ j < 8 * 3 + 8
  · rw [if_pos h, if_pos (by omega), ub_wb]
  · rw [if_neg h, if_neg (by omega)]
theorem zero_0 : Mk.zero 0 = fun _ => 0#8 := rfl
theorem wb_zero (j : Nat) : wb 0 j = 0#8 := by unfold wb Rl.byteOf; simp
theorem lf_zero : lfX 0 = Mk.zero 0 := by
  rw [zero_0]
  funext i
  unfold lfX
  split
  · exact wb_zero _
  · rfl
/-- A machine's leaves. -/
def mlf (M : Mac) : Nat → Hx := fun k => lfX (M.mem k)
def mg (M : Mac) : Nat → Hx := ext 8192 (mlf M)
def mroot (M : Mac) : Hx := und (mg M) 13 0
theorem mg_m0 (M : Mac) (h : ∀ i, i < 8192 → M.mem i = 0) : mg M = fun _ => Mk.zero 0 := by
  funext k
  unfold mg ext mlf
  split
  · next hk => rw [h k hk, lf_zero]
  · rfl
theorem und_noughts (h k : Nat) : und (fun _ => Mk.zero 0) h k = Mk.zero h := und_out (n := 0) (fun _ _ => rfl) h k (Nat.zero_le _)
theorem root_m0 (M : Mac) (h : ∀ i, i < 8192 → M.mem i = 0) : mroot M = Mk.zero 13 := by unfold mroot; rw [mg_m0 M h, und_noughts]
theorem wrong_mem (n : Nat) (h : n ≤ 8192) : wrong 13 n = 0 := by
  have e : (2 : Int) ^ Int.toNat 13 = 8192 := by decide
  unfold wrong
  rw [if_neg (by decide), e, if_neg (by omega)]
theorem rootOf_mem (n : Nat) (h : n ≤ 8192) (f : Nat → Hx) : rootOf 13 n f = und (ext n f) 13 0 := by
  unfold rootOf; rw [wrong_mem n h, if_pos rfl]; rfl
theorem wrongP_mem (n : Nat) (h : n ≤ 8192) (i : Nat) (hi : i < 8192) : wrongP 13 n i = 0 := by
  have e : (2 : Int) ^ Int.toNat 13 = 8192 := by decide
  unfold wrongP
  rw [wrong_mem n h, if_neg (by decide), e, if_neg (by omega)]
theorem pathLen_mem (n : Nat) (h : n ≤ 8192) (i : Nat) (hi : i < 8192) : pathLen 13 n i = 13 := by
  unfold pathLen; rw [wrongP_mem n h i hi, if_pos rfl]; rfl
end Co
end Go.Proofs.YtnaamljflcgepaaDoor
