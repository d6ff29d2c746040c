/-
  merkle.noughts, merkle.Zero. Own work.
-/
import Derived.Test.YtjfpbponjhpdhaaDoorMa
import Derived.Test.YtjfpbponjhpdhaaDoorFlt
import Derived.Test.YtjfpbponjhpdhaaDoorPis
import Derived.IntWalk
import Derived.Outline
namespace Go.Proofs.YtjfpbponjhpdhaaDoor
open Go.RowKit
set_option linter.unusedVariables false
namespace Mk
open Kc
/-- The cells of an array of digests. -/
def hc (f : Nat → Hx) : Nat → Value := fun i => bv (f (i / 32) (i % 32))
theorem zeroN (w : World) : (zeroValue 135).run Tryd.prog w = .ok (.agg (tab 544 (hc fun _ => zero 0))) w := by kernel_rfl
theorem undN : Tryd.prog.underlying 135 = some (.array 17 42) := by kernel_rfl
theorem infN' : (Tryd.prog.info? 135).map (·.size) = some 544 := by kernel_rfl
theorem infN (g : Nat → Value) : (Tryd.prog.info? 135).map (·.size) = some (tab 544 g).size := by rw [tab_size]; exact infN'
/-- A block of an array of digests holds them one behind the other. -/
theorem at5_of {w : World} {q T n m : Nat} {f : Nat → Hx} (h : IsTab w q T m (hc f)) (hm : 32 * n ≤ m) : At5 w q 0 n f := fun k j hk hj => by
  rw [show 0 + 32 * k + j = 32 * k + j from by omega, h.cell (32 * k + j) (by omega)]
  unfold hc
  rw [show (32 * k + j) / 32 = k from by omega, show (32 * k + j) % 32 = j from by omega]
/-- One of them is set. -/
theorem hc_set {w : World} {q T m : Nat} {f : Nat → Hx} (h : IsTab w q T m (hc f)) (k : Nat) (x : Hx) (p : Nat) (hp : p = 32 * k) :
    IsTab (w.setCells q p (tab 32 fun i => bv (x i)).toList) q T m (hc fun i => if i = k then x else f i) := by
  subst hp
  refine (IsTab.setCells ((List.range 32).map fun i => bv (x i)) (32 * k) _ _ h).cong fun i hi => ?_
  simp only [List.length_map, List.length_range]
  unfold hc
  dsimp only
  by_cases h1 : 32 * k ≤ i ∧ i < 32 * k + 32
  · rw [if_pos h1, if_pos (by omega), show i % 32 = i - 32 * k from by omega]
    simp [show i - 32 * k < 32 from by omega]
  · rw [if_neg h1, if_neg (by omega)]
theorem below_setCells {B : Nat} {W : World} {q : Nat} (hq : B ≤ q) : ∀ (vs : List Value) (o : Nat) (w : World), Below B W w → Below B W (w.setCells q o vs)
  | [], _, w, h => h
  | v :: r, o, w, h => below_setCells hq r (o + 1) _ (h.setCell hq v)
theorem IsTab.cellsOther {w : World} {q p T n : Nat} {g : Nat → Value} (hn : q ≠ p) : ∀ (vs : List Value) (o : Nat) (w : World), IsTab w q T n g → IsTab (w.setCells p o vs) q T n g
  | [], _, w, h => h
  | v :: r, o, w, h => IsTab.cellsOther (w := w) hn r (o + 1) _ (h.keep hn)
theorem pair_dv (x y : Hx) (w : World) (ht : Laid.KTab w) : Calls Tryd.prog 39 #[dv x, dv y] w fun e w' => e = .returned (dv (pr x y)) ∧ Below w.heap.size w w' := pair_walk permIs x y w ht
theorem rpair_dv (x y : Hx) (w : World) : Calls Tryd.prog 48 #[dv x, dv y] w fun e w' => e = .returned (dv (pr x y)) ∧ Below w.heap.size w w' := rpair_walk x y w
/-- Noughts up to n. -/
def nz (n : Nat) : Nat → Hx := fun k => if k ≤ n then zero k else zero 0
theorem nz_step (k : Nat) : (fun i => if i = k + 1 then pr (zero k) (zero k) else nz k i) = nz (k + 1) := by
  show (fun i => if i = k + 1 then zero (k + 1) else nz k i) = nz (k + 1)
  funext i
  unfold nz
  by_cases h : i = k + 1
  · subst h; rw [if_pos rfl, if_pos (Nat.le_refl _)]
  · rw [if_neg h]
    by_cases h2 : i ≤ k
    · rw [if_pos h2, if_pos (by omega)]
    · rw [if_neg h2, if_neg (by omega)]
theorem nz_at {n k : Nat} (h : k ≤ n) : nz n k = zero k := by unfold nz; rw [if_pos h]
structure Nw (W : World) (q qr : Nat) (f : Nat → Hx) (y : World) : Prop where
  st : IsTab y q 135 544 (hc f)
  sr : IsTab y qr 135 544 (hc fun _ => zero 0)
  below : Below W.heap.size W y
  ne : qr ≠ q
  g1 : W.heap.size ≤ q
  g2 : W.heap.size ≤ qr
theorem Nw.next {W y y' : World} {q qr : Nat} {f : Nat → Hx} (h : Nw W q qr f y) (hb : Below y.heap.size y y') : Nw W q qr f y' := ⟨h.st.below hb, h.sr.below hb, bl h.below hb, h.ne, h.g1, h.g2⟩
theorem Nw.drew {W y : World} {q qr : Nat} {f : Nat → Hx} (h : Nw W q qr f y) : Nw W q qr f y.drew := ⟨h.st, h.sr, h.below.drew, h.ne, h.g1, h.g2⟩
theorem Nw.set {W y : World} {q qr : Nat} {f : Nat → Hx} (h : Nw W q qr f y) (k : Nat) (x : Hx) (p : Nat) (hp : p = 32 * k) : Nw W q qr (fun i => if i = k then x else f i) (y.setCells q p (tab 32 fun i => bv (x i)).toList) :=
  ⟨hc_set h.st k x p hp, IsTab.cellsOther (w := y) h.ne _ _ _ h.sr, below_setCells h.g1 _ _ _ h.below, h.ne, h.g1, h.g2⟩
set_option maxHeartbeats 1000000 in
set_option maxRecDepth 100000 in
theorem noughts_walk (n : Nat) (hn : n ≤ 16) (w : World) (ht : Laid.KTab w) :
    Calls Tryd.prog 54 #[.int .i64 n] w fun e w' => e = .returned (.agg (tab 544 (hc (nz n)))) ∧ Below w.heap.size w w' := by
  have z2 := zeroN
  generalize hz : (tab 544 (hc fun _ => zero 0)) = zh at *
  have HZ := Lib.hid hz
  clear hz
  have HT := Lib.hid ht
  clear ht
  have hzi : (Tryd.prog.info? 135).map (·.size) = some zh.size := by rw [← HZ.out]; exact infN _
  have HZI := Lib.hid hzi
  have hzo : zh.all (·.oneCell') = true := by rw [← HZ.out]; exact tab_one fun i => rfl
  have HZO := Lib.hid hzo
  clear hzi hzo
  go_enter Tryd.func54, Tryd.ntmps54
  go_upto_region 2 with (refine wpList_store_row rfl 135 (.tmp 3) (.tmp 5) rfl (w.heap.size + 1) zh rfl rfl 135 zh (by have := heap_alloc_last (w.alloc (.cells zh 135)) (.cells zh 135); simpa using this) HZI.out rfl HZO.out ?_)
  have H1 : Hid (Nw w (w.heap.size + 1) w.heap.size (nz 0) (World.setRow ((w.alloc (.cells zh 135)).alloc (.cells zh 135)) (w.heap.size + 1) zh)) := by
    have e : World.setRow ((w.alloc (.cells zh 135)).alloc (.cells zh 135)) (w.heap.size + 1) zh = (w.alloc (.cells zh 135)).alloc (.cells zh 135) := by
      have := World.setRow_alloc_new (w.alloc (.cells zh 135)) zh zh 135
      simpa using this
    rw [e, ← HZ.out]
    have h1 := IsTab.new (w.alloc (.cells (tab 544 (hc fun _ => zero 0)) 135)) 135 544 (hc fun _ => zero 0)
    have e2 : (w.alloc (.cells (tab 544 (hc fun _ => zero 0)) 135)).heap.size = w.heap.size + 1 := by simp
    rw [e2] at h1
    have e3 : nz 0 = fun _ => zero 0 := by
      funext i; unfold nz; split
      · rename_i h; rw [Nat.le_zero.1 h]
      · rfl
    exact Lib.hid ⟨by rw [e3]; exact h1, (IsTab.new w _ 544 _).alloc _, ((Below.refl _ _).alloc (Nat.le_refl _) _).alloc (by simp) _, by omega, by omega, by omega⟩
  generalize World.setRow ((w.alloc (.cells zh 135)).alloc (.cells zh 135)) (w.heap.size + 1) zh = y0 at *
  generalize w.heap.size + 1 = q at *
  generalize hqr : w.heap.size = qr at *
  have HQ := Lib.hid hqr
  clear hqr
  go_wp2_with fail
  go_loopw [7] (fun t y => ∃ k : Nat, k ≤ n ∧ t = .int .i64 k ∧ Hid (Nw w q qr (nz k) y)) (fun t _ => n - (intOf t).toNat)
  case atStart => exact ⟨0, Nat.zero_le _, rfl, H1⟩
  case round =>
    obtain ⟨k, hk, rfl, hp⟩ := hrel
    clear H1
    by_cases hlt : (k : Int) < (n : Int)
    · have h17 : (k : Int) + 1 < 17 := by omega
      have hw1 : IntKind.i64.wrap ((k : Int) + 1) = (k : Int) + 1 := IntWalk.i64_in _ (by omega)
      have HW := Lib.hid hw1
      clear hw1
      go_upto_region 5 with (fail)
      have hw1 := HW.out
      have NE : Nonempty (Wd (Nw w q qr (nz k))) := ⟨⟨_, hp.out.drew⟩⟩
      have hld : ∀ u, (∃ z : Wd (Nw w q qr (nz k)), u = z.val) → (Instr.loadAt 42 (.pointer (some ⟨q, k * 32, none⟩))).run Tryd.prog u = .ok (dv (zero k)) u := fun u ⟨z, hz⟩ => by
        rw [hz]
        have := loadH (at5_of (n := 17) z.ok.st (by omega)) (k := k) (p := k * 32) (by omega) (by omega)
        rw [nz_at (Nat.le_refl k)] at this
        exact this
      have LD := Lib.hid hld
      clear hld
      have Q1 := Lib.hid (fun z : Wd (Nw w q qr (nz k)) => in_of_below z (fun y hb => z.ok.next hb) (pair_dv (zero k) (zero k) z.val (ktab_below HT.out z.ok.below)))
      refine wp_region_quiet_tail 10 (Nw w q qr (nz k)) (by kernel_rfl) (by kernel_rfl) hp.out.drew ?_
      simp only [List.take_succ_cons, List.take_zero, List.drop_succ_cons, List.drop_zero]
      repeat (first
        | (refine wpQuiet_load 42 _ (.pointer (some ⟨q, k * 32, none⟩)) _ rfl rfl rfl LD.out ?_; simp only [Act.put, List.setIfInBounds_toArray, List.set_cons_zero, List.set_cons_succ])
        | (go_big_quiet_step (with_reducible exact Q1.out _)))
      refine wpQuiet_nil ?_
      rintro _ ⟨z, rfl⟩
      have hth : z.val.there q ((k + 1) * 32) (tab 32 fun i => bv (pr (zero k) (zero k) i)).size := by rw [tab_size]; exact z.ok.st.thereAt ((k + 1) * 32) 32 (by omega)
      have HTH := Lib.hid hth
      have HN := Lib.hid (z.ok.set (k + 1) (pr (zero k) (zero k)) ((k + 1) * 32) (by omega))
      rw [nz_step] at HN
      clear hth hw1 LD Q1 NE hp
      refine wpList_store_mid (w := z.val) rfl 42 (.tmp 19) (.tmp 18) rfl q ((k + 1) * 32) (tab 32 fun i => bv (pr (zero k) (zero k) i)) ?_ ?_ ?_ ?_ ?_ ?_
      · rfl
      · rfl
      · exact HTH.out
      · exact infH _
      · exact one_bv _ _
      go_wp2_with fail
      go_roundw
      case rel => exact ⟨k + 1, by omega, by go_num, HN⟩
      case measure => simp [intOf]; omega
    · obtain rfl : k = n := by omega
      go_wp2_with (first
        | (refine wpList_load_row rfl 135 (.tmp 3) rfl q rfl 135 (tab 544 (hc (nz k))) (0, 0) _ hp.out.st undN rfl (infN _) ?_)
        | (refine wpList_store_row rfl 135 (.tmp 2) (.tmp 21) rfl qr (tab 544 (hc (nz k))) rfl rfl 135 _ hp.out.sr (infN _) (by rw [tab_size, tab_size]) (tab_one fun i => rfl) ?_))
      have hr : IsTab (World.setRow wr qr (tab 544 (hc (nz k)))) qr 135 544 (hc (nz k)) := hp.out.sr.row
      have hbb := below_setRow hp.out.below hp.out.g2 (tab 544 (hc (nz k)))
      rw [HQ.out] at hbb
      exact bodyPost_ret (results_cell_row rfl _ _ qr 135 _ (0, 0) _ rfl hr undN rfl (infN _)) rfl ⟨rfl, by rw [HQ.out]; exact hbb⟩
/-! ## Zero -/
theorem tab_extract {m : Nat} (g : Nat → Value) (o n : Nat) (h : o + n ≤ m) : (tab m g).extract o (o + n) = tab n fun i => g (o + i) := by
  apply Array.ext_getElem?
  intro i
  rw [Array.getElem?_extract]
  by_cases hi : i < n
  · rw [tab_at _ hi, if_pos (by rw [tab_size]; omega), tab_at _ (by omega)]
  · rw [if_neg (by rw [tab_size]; omega), tab_out _ (by omega)]
theorem aggH (w : World) : (isAgg 42).run Tryd.prog w = .ok true w := by kernel_rfl
theorem sizeHh (w : World) : (sizeOf 42).run Tryd.prog w = .ok 32 w := by kernel_rfl
theorem idxN (f : Nat → Hx) (k : Nat) (hk : k < 17) (w : World) : (Instr.index 135 (.agg (tab 544 (hc f))) (.int .i64 k)).run Tryd.prog w = .ok (dv (f k)) w := by
  have h0 : (0 : Int) ≤ k ∧ (k : Int) < (17 : Nat) := by omega
  unfold Instr.index
  simp only [asIntOf, Sem.run_bind, Sem.run_pure, Result.andThen_ok, run_underlying undN, sizeHh, part, aggH, if_pos h0, Int.toNat_natCast, if_true]
  rw [tab_extract _ _ _ (by omega)]
  congr 2
  exact tab_cong fun i hi => by unfold hc; rw [show (k * 32 + i) / 32 = k from by omega, show (k * 32 + i) % 32 = i from by omega]
set_option maxHeartbeats 1000000 in
set_option maxRecDepth 100000 in
theorem zero_ok (n : Nat) (hn : n ≤ 16) (w : World) (ht : Laid.KTab w) :
    Calls Tryd.prog 32 #[.int .i64 n] w fun e w' => e = .returned (.tuple #[dv (zero n), .nilIface]) ∧ Below w.heap.size w w' := by
  have z2 := zeroHash
  generalize hz : (tab 32 fun _ => bv 0#8) = zh at *
  have HZ := Lib.hid hz
  clear hz
  have h1 : (n : Int) ≤ 16 := by omega
  have hi := idxN (nz n) n (by omega)
  rw [nz_at (Nat.le_refl n)] at hi
  have HT := Lib.hid (noughts_walk n hn (w.alloc (.cells zh 42)) (ktab_below ht ((Below.refl _ _).alloc (Nat.le_refl _) _)))
  clear ht
  generalize (tab 544 (hc (nz n))) = nv at *
  have hq := put_new w (fun _ => 0#8) zh HZ.out
  have HS := Lib.hid hq
  clear hq
  go_enter Tryd.func32, Tryd.ntmps32
  go_wp2_with (first
    | (go_at_call 54; refine HT.out.mono ?_; rintro e w1 ⟨rfl, hb⟩)
    | (refine wpList_store_row rfl 42 (.tmp 2) (.tmp 15) rfl w.heap.size (tab 32 fun j => bv (zero n j)) rfl rfl 42 _ (HS.out.below hb) (infH _) (by rw [tab_size, tab_size]) (one_bv _ _) ?_))
  have hr : IsTab (World.setRow w1 w.heap.size (tab 32 fun j => bv (zero n j))) w.heap.size 42 32 fun j => bv (zero n j) := (HS.out.below hb).row
  exact bodyPost_ret (Kc.results_cell_tmp rfl _ _ w.heap.size 42 _ (0, 0) _ rfl hr undH rfl (infH _) .nilIface rfl) rfl ⟨rfl, below_setRow (((Below.refl _ _).alloc (Nat.le_refl _) _).trans (hb.mono (by simp))) (Nat.le_refl _) _⟩
set_option maxHeartbeats 1000000 in
set_option maxRecDepth 100000 in
theorem zero_bad (i : Int) (hi : i < 0 ∨ 16 < i) (w : World) :
    Calls Tryd.prog 32 #[.int .i64 i] w fun e w' => e = .returned (.tuple #[dv (zero 0), .iface 85 (.int .i64 2)]) ∧ Below w.heap.size w w' := by
  have z2 := zeroHash
  generalize hz : (tab 32 fun _ => bv 0#8) = zh at *
  have HZ := Lib.hid hz
  clear hz
  have hq := put_new w (fun _ => 0#8) zh HZ.out
  have HS := Lib.hid hq
  clear hq
  have hzi : (Tryd.prog.info? 42).map (·.size) = some zh.size := by rw [← HZ.out]; exact infH _
  have HZI := Lib.hid hzi
  have hzo : zh.all (·.oneCell') = true := by rw [← HZ.out]; exact one_bv _ _
  have HZO := Lib.hid hzo
  clear hzi hzo
  have hzs : (tab 32 fun _ => bv 0#8).size = zh.size := by rw [HZ.out]
  have HZS := Lib.hid hzs
  clear hzs
  rcases hi with hi | hi
  all_goals
    go_enter Tryd.func32, Tryd.ntmps32
    go_wp2_with (refine wpList_store_row rfl 42 (.tmp 2) (.tmp 10) rfl w.heap.size zh rfl rfl 42 _ HS.out HZI.out HZS.out HZO.out ?_)
    have hr := IsTab.row (g := fun _ => bv 0#8) HS.out
    rw [HZ.out] at hr
    have hr2 : IsTab (World.setRow (w.alloc (.cells zh 42)) w.heap.size zh) w.heap.size 42 32 fun _ => bv 0#8 := hr
    exact bodyPost_ret (Kc.results_cell_tmp rfl _ _ w.heap.size 42 _ (0, 0) _ rfl hr2 undH rfl (infH _) (.iface 85 (.int .i64 2)) rfl) rfl ⟨rfl, below_setRow ((Below.refl _ _).alloc (Nat.le_refl _) _) (Nat.le_refl _) _⟩
end Mk
end Go.Proofs.YtjfpbponjhpdhaaDoor
