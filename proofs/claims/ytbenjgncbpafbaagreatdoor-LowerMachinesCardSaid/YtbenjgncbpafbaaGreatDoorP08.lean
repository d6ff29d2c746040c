/- Merged of Mn Zh Ye Oz. Own work. -/
import Derived.Test.YtbenjgncbpafbaaGreatDoorP07
import Derived.Test.YtbenjgncbpafbaaGreatDoorP05
import Derived.IntWalk
import Derived.Outline
import Derived.Test.YtbenjgncbpafbaaGreatDoorP01
import Derived.Test.YtbenjgncbpafbaaGreatDoorP06
namespace Go.Proofs.YtbenjgncbpafbaaGreatDoor
open Go.RowKit
set_option linter.unusedVariables false
namespace Mk
open Kc
/-- The cells of an array of digests. -/
def hc (f : Nat → Hx) : Nat → Value := fun i => bv (f (i / 32) (i % 32))
theorem zeroN (w : World) : (zeroValue 118).run Tryz.prog w = .ok (.agg (tab 544 (hc fun _ => zero 0))) w := by kernel_rfl
theorem undN : Tryz.prog.underlying 118 = some (.array 17 81) := by kernel_rfl
theorem infN' : (Tryz.prog.info? 118).map (·.size) = some 544 := by kernel_rfl
theorem infN (g : Nat → Value) : (Tryz.prog.info? 118).map (·.size) = some (tab 544 g).size := by rw [tab_size]; exact infN'
/-- A block of an array of digests holds them one behind the other. -/
theorem at5_of {w : World} {q T n m : Nat} {f : Nat → Hx} (h : IsTab w q T m (hc f)) (hm : 32 * n ≤ m) : At5 w q 0 n f := fun k j hk hj => by
  rw [show 0 + 32 * k + j = 32 * k + j from by omega, h.cell (32 * k + j) (by omega)]
  unfold hc
  rw [show (32 * k + j) / 32 = k from by omega, show (32 * k + j) % 32 = j from by omega]
/-- One of them is set. -/
theorem hc_set {w : World} {q T m : Nat} {f : Nat → Hx} (h : IsTab w q T m (hc f)) (k : Nat) (x : Hx) (p : Nat) (hp : p = 32 * k) :
    IsTab (w.setCells q p (tab 32 fun i => bv (x i)).toList) q T m (hc fun i => if i = k then x else f i) := by
  subst hp
  refine (IsTab.setCells ((List.range 32).map fun i => bv (x i)) (32 * k) _ _ h).cong fun i hi => ?_
  simp only [List.length_map, List.length_range]
  unfold hc
  dsimp only
  by_cases h1 : 32 * k ≤ i ∧ i < 32 * k + 32
  · rw [if_pos h1, if_pos (by omega), show i % 32 = i - 32 * k from by omega]
    simp [show i - 32 * k < 32 from by omega]
  · rw [if_neg h1, if_neg (by omega)]
theorem below_setCells {B : Nat} {W : World} {q : Nat} (hq : B ≤ q) : ∀ (vs : List Value) (o : Nat) (w : World), Below B W w → Below B W (w.setCells q o vs)
  | [], _, w, h => h
  | v :: r, o, w, h => below_setCells hq r (o + 1) _ (h.setCell hq v)
theorem IsTab.cellsOther {w : World} {q p T n : Nat} {g : Nat → Value} (hn : q ≠ p) : ∀ (vs : List Value) (o : Nat) (w : World), IsTab w q T n g → IsTab (w.setCells p o vs) q T n g
  | [], _, w, h => h
  | v :: r, o, w, h => IsTab.cellsOther (w := w) hn r (o + 1) _ (h.keep hn)
theorem pair_dv (x y : Hx) (w : World) (ht : Laid.KTab w) : Calls Tryz.prog 59 #[dv x, dv y] w fun e w' => e = .returned (dv (pr x y)) ∧ Below w.heap.size w w' := pair_walk permIs x y w ht
/-- Noughts up to n. -/
def nz (n : Nat) : Nat → Hx := fun k => if k ≤ n then zero k else zero 0
theorem nz_step (k : Nat) : (fun i => if i = k + 1 then pr (zero k) (zero k) else nz k i) = nz (k + 1) := by
  show (fun i => if i = k + 1 then zero (k + 1) else nz k i) = nz (k + 1)
  funext i
  unfold nz
  by_cases h : i = k + 1
  · subst h; rw [if_pos rfl, if_pos (Nat.le_refl _)]
  · rw [if_neg h]
    by_cases h2 : i ≤ k
    · rw [if_pos h2, if_pos (by omega)]
    · rw [if_neg h2, if_neg (by omega)]
theorem nz_at {n k : Nat} (h : k ≤ n) : nz n k = zero k := by unfold nz; rw [if_pos h]
structure Nw (W : World) (q qr : Nat) (f : Nat → Hx) (y : World) : Prop where
  st : IsTab y q 118 544 (hc f)
  sr : IsTab y qr 118 544 (hc fun _ => zero 0)
  below : Below W.heap.size W y
  ne : qr ≠ q
  g1 : W.heap.size ≤ q
  g2 : W.heap.size ≤ qr
theorem Nw.next {W y y' : World} {q qr : Nat} {f : Nat → Hx} (h : Nw W q qr f y) (hb : Below y.heap.size y y') : Nw W q qr f y' := ⟨h.st.below hb, h.sr.below hb, bl h.below hb, h.ne, h.g1, h.g2⟩
theorem Nw.drew {W y : World} {q qr : Nat} {f : Nat → Hx} (h : Nw W q qr f y) : Nw W q qr f y.drew := ⟨h.st, h.sr, h.below.drew, h.ne, h.g1, h.g2⟩
theorem Nw.set {W y : World} {q qr : Nat} {f : Nat → Hx} (h : Nw W q qr f y) (k : Nat) (x : Hx) (p : Nat) (hp : p = 32 * k) : Nw W q qr (fun i => if i = k then x else f i) (y.setCells q p (tab 32 fun i => bv (x i)).toList) :=
  ⟨hc_set h.st k x p hp, IsTab.cellsOther (w := y) h.ne _ _ _ h.sr, below_setCells h.g1 _ _ _ h.below, h.ne, h.g1, h.g2⟩
set_option maxHeartbeats 1000000 in
set_option maxRecDepth 100000 in
theorem noughts_walk (n : Nat) (hn : n ≤ 16) (w : World) (ht : Laid.KTab w) :
    Calls Tryz.prog 38 #[.int .i64 n] w fun e w' => e = .returned (.agg (tab 544 (hc (nz n)))) ∧ Below w.heap.size w w' := by
  have z2 := zeroN
  generalize hz : (tab 544 (hc fun _ => zero 0)) = zh at *
  have HZ := Lib.hid hz
  clear hz
  have HT := Lib.hid ht
  clear ht
  have hzi : (Tryz.prog.info? 118).map (·.size) = some zh.size := by rw [← HZ.out]; exact infN _
  have HZI := Lib.hid hzi
  have hzo : zh.all (·.oneCell') = true := by rw [← HZ.out]; exact tab_one fun i => rfl
  have HZO := Lib.hid hzo
  clear hzi hzo
  go_enter Tryz.func38, Tryz.ntmps38
  go_upto_region 2 with (refine wpList_store_row rfl 118 (.tmp 3) (.tmp 5) rfl (w.heap.size + 1) zh rfl rfl 118 zh (by have := heap_alloc_last (w.alloc (.cells zh 118)) (.cells zh 118); simpa using this) HZI.out rfl HZO.out ?_)
  have H1 : Hid (Nw w (w.heap.size + 1) w.heap.size (nz 0) (World.setRow ((w.alloc (.cells zh 118)).alloc (.cells zh 118)) (w.heap.size + 1) zh)) := by
    have e : World.setRow ((w.alloc (.cells zh 118)).alloc (.cells zh 118)) (w.heap.size + 1) zh = (w.alloc (.cells zh 118)).alloc (.cells zh 118) := by
      have := World.setRow_alloc_new (w.alloc (.cells zh 118)) zh zh 118
      simpa using this
    rw [e, ← HZ.out]
    have h1 := IsTab.new (w.alloc (.cells (tab 544 (hc fun _ => zero 0)) 118)) 118 544 (hc fun _ => zero 0)
    have e2 : (w.alloc (.cells (tab 544 (hc fun _ => zero 0)) 118)).heap.size = w.heap.size + 1 := by simp
    rw [e2] at h1
    have e3 : nz 0 = fun _ => zero 0 := by
      funext i; unfold nz; split
      · rename_i h; rw [Nat.le_zero.1 h]
      · rfl
    exact Lib.hid ⟨by rw [e3]; exact h1, (IsTab.new w _ 544 _).alloc _, ((Below.refl _ _).alloc (Nat.le_refl _) _).alloc (by simp) _, by omega, by omega, by omega⟩
  generalize World.setRow ((w.alloc (.cells zh 118)).alloc (.cells zh 118)) (w.heap.size + 1) zh = y0 at *
  generalize w.heap.size + 1 = q at *
  generalize hqr : w.heap.size = qr at *
  have HQ := Lib.hid hqr
  clear hqr
  go_wp2_with fail
  go_loopw [7] (fun t y => ∃ k : Nat, k ≤ n ∧ t = .int .i64 k ∧ Hid (Nw w q qr (nz k) y)) (fun t _ => n - (intOf t).toNat)
  case atStart => exact ⟨0, Nat.zero_le _, rfl, H1⟩
  case round =>
    obtain ⟨k, hk, rfl, hp⟩ := hrel
    clear H1
    by_cases hlt : (k : Int) < (n : Int)
    · have h17 : (k : Int) + 1 < 17 := by omega
      have hw1 : IntKind.i64.wrap ((k : Int) + 1) = (k : Int) + 1 := IntWalk.i64_in _ (by omega)
      have HW := Lib.hid hw1
      clear hw1
      go_upto_region 5 with (fail)
      have hw1 := HW.out
      have NE : Nonempty (Wd (Nw w q qr (nz k))) := ⟨⟨_, hp.out.drew⟩⟩
      have hld : ∀ u, (∃ z : Wd (Nw w q qr (nz k)), u = z.val) → (Instr.loadAt 81 (.pointer (some ⟨q, k * 32, none⟩))).run Tryz.prog u = .ok (dv (zero k)) u := fun u ⟨z, hz⟩ => by
        rw [hz]
        have := loadH (at5_of (n := 17) z.ok.st (by omega)) (k := k) (p := k * 32) (by omega) (by omega)
        rw [nz_at (Nat.le_refl k)] at this
        exact this
      have LD := Lib.hid hld
      clear hld
      have Q1 := Lib.hid (fun z : Wd (Nw w q qr (nz k)) => in_of_below z (fun y hb => z.ok.next hb) (pair_dv (zero k) (zero k) z.val (ktab_below HT.out z.ok.below)))
      refine wp_region_quiet_tail 10 (Nw w q qr (nz k)) (by kernel_rfl) (by kernel_rfl) hp.out.drew ?_
      simp only [List.take_succ_cons, List.take_zero, List.drop_succ_cons, List.drop_zero]
      repeat (first
        | (refine wpQuiet_load 81 _ (.pointer (some ⟨q, k * 32, none⟩)) _ rfl rfl rfl LD.out ?_; simp only [Act.put, List.setIfInBounds_toArray, List.set_cons_zero, List.set_cons_succ])
        | (go_big_quiet_step (with_reducible exact Q1.out _)))
      refine wpQuiet_nil ?_
      rintro _ ⟨z, rfl⟩
      have hth : z.val.there q ((k + 1) * 32) (tab 32 fun i => bv (pr (zero k) (zero k) i)).size := by rw [tab_size]; exact z.ok.st.thereAt ((k + 1) * 32) 32 (by omega)
      have HTH := Lib.hid hth
      have HN := Lib.hid (z.ok.set (k + 1) (pr (zero k) (zero k)) ((k + 1) * 32) (by omega))
      rw [nz_step] at HN
      clear hth hw1 LD Q1 NE hp
      refine wpList_store_mid (w := z.val) rfl 81 (.tmp 19) (.tmp 18) rfl q ((k + 1) * 32) (tab 32 fun i => bv (pr (zero k) (zero k) i)) ?_ ?_ ?_ ?_ ?_ ?_
      · rfl
      · rfl
      · exact HTH.out
      · exact infH _
      · exact one_bv _ _
      go_wp2_with fail
      go_roundw
      case rel => exact ⟨k + 1, by omega, by go_num, HN⟩
      case measure => simp [intOf]; omega
    · obtain rfl : k = n := by omega
      go_wp2_with (first
        | (refine wpList_load_row rfl 118 (.tmp 3) rfl q rfl 118 (tab 544 (hc (nz k))) (0, 0) _ hp.out.st undN rfl (infN _) ?_)
        | (refine wpList_store_row rfl 118 (.tmp 2) (.tmp 21) rfl qr (tab 544 (hc (nz k))) rfl rfl 118 _ hp.out.sr (infN _) (by rw [tab_size, tab_size]) (tab_one fun i => rfl) ?_))
      have hr : IsTab (World.setRow wr qr (tab 544 (hc (nz k)))) qr 118 544 (hc (nz k)) := hp.out.sr.row
      have hbb := below_setRow hp.out.below hp.out.g2 (tab 544 (hc (nz k)))
      rw [HQ.out] at hbb
      exact bodyPost_ret (results_cell_row rfl _ _ qr 118 _ (0, 0) _ rfl hr undN rfl (infN _)) rfl ⟨rfl, by rw [HQ.out]; exact hbb⟩
/-! ## Zero -/
theorem tab_extract {m : Nat} (g : Nat → Value) (o n : Nat) (h : o + n ≤ m) : (tab m g).extract o (o + n) = tab n fun i => g (o + i) := by
  apply Array.ext_getElem?
  intro i
  rw [Array.getElem?_extract]
  by_cases hi : i < n
  · rw [tab_at _ hi, if_pos (by rw [tab_size]; omega), tab_at _ (by omega)]
  · rw [if_neg (by rw [tab_size]; omega), tab_out _ (by omega)]
theorem aggH (w : World) : (isAgg 81).run Tryz.prog w = .ok true w := by kernel_rfl
theorem sizeHh (w : World) : (sizeOf 81).run Tryz.prog w = .ok 32 w := by kernel_rfl
theorem idxN (f : Nat → Hx) (k : Nat) (hk : k < 17) (w : World) : (Instr.index 118 (.agg (tab 544 (hc f))) (.int .i64 k)).run Tryz.prog w = .ok (dv (f k)) w := by
  have h0 : (0 : Int) ≤ k ∧ (k : Int) < (17 : Nat) := by omega
  unfold Instr.index
  simp only [asIntOf, Sem.run_bind, Sem.run_pure, Result.andThen_ok, run_underlying undN, sizeHh, part, aggH, if_pos h0, Int.toNat_natCast, if_true]
  rw [tab_extract _ _ _ (by omega)]
  congr 2
  exact tab_cong fun i hi => by unfold hc; rw [show (k * 32 + i) / 32 = k from by omega, show (k * 32 + i) % 32 = i from by omega]
set_option maxHeartbeats 1000000 in
set_option maxRecDepth 100000 in
theorem zero_ok (n : Nat) (hn : n ≤ 16) (w : World) (ht : Laid.KTab w) :
    Calls Tryz.prog 20 #[.int .i64 n] w fun e w' => e = .returned (.tuple #[dv (zero n), .nilIface]) ∧ Below w.heap.size w w' := by
  have z2 := zeroHash
  generalize hz : (tab 32 fun _ => bv 0#8) = zh at *
  have HZ := Lib.hid hz
  clear hz
  have h1 : (n : Int) ≤ 16 := by omega
  have hi := idxN (nz n) n (by omega)
  rw [nz_at (Nat.le_refl n)] at hi
  have HT := Lib.hid (noughts_walk n hn (w.alloc (.cells zh 81)) (ktab_below ht ((Below.refl _ _).alloc (Nat.le_refl _) _)))
  clear ht
  generalize (tab 544 (hc (nz n))) = nv at *
  have hq := put_new w (fun _ => 0#8) zh HZ.out
  have HS := Lib.hid hq
  clear hq
  go_enter Tryz.func20, Tryz.ntmps20
  go_wp2_with (first
    | (go_at_call 38; refine HT.out.mono ?_; rintro e w1 ⟨rfl, hb⟩)
    | (refine wpList_store_row rfl 81 (.tmp 2) (.tmp 15) rfl w.heap.size (tab 32 fun j => bv (zero n j)) rfl rfl 81 _ (HS.out.below hb) (infH _) (by rw [tab_size, tab_size]) (one_bv _ _) ?_))
  have hr : IsTab (World.setRow w1 w.heap.size (tab 32 fun j => bv (zero n j))) w.heap.size 81 32 fun j => bv (zero n j) := (HS.out.below hb).row
  exact bodyPost_ret (Kc.results_cell_tmp rfl _ _ w.heap.size 81 _ (0, 0) _ rfl hr undH rfl (infH _) .nilIface rfl) rfl ⟨rfl, below_setRow (((Below.refl _ _).alloc (Nat.le_refl _) _).trans (hb.mono (by simp))) (Nat.le_refl _) _⟩
end Mk
end Go.Proofs.YtbenjgncbpafbaaGreatDoor
namespace Go.Proofs.YtbenjgncbpafbaaGreatDoor
open Go.RowKit
set_option linter.unusedVariables false
set_option linter.unusedSimpArgs false
namespace Wt
open Kc Mk
/-- The nought of a height, twice. -/
def zz (k : Nat) : Px := jn (zero k) (zero k)
/-- The preimages of the noughts below a height. -/
def zs : Nat → List (Hx × Px)
  | 0 => []
  | k + 1 => putM (zs k) (hs (zz k)) (zz k)
def nw : Sto := ⟨zs 16, []⟩
/-- What New's loop keeps. -/
structure NwR (W : World) (s k : Nat) (y : World) : Prop where
  below : Below W.heap.size W y
  ss : W.heap.size ≤ s ∧ s < y.heap.size
  kt : Laid.KTab y
  lo : lowB ≤ W.heap.size
  st : (k = 0 ∧ St0 y s) ∨ (0 < k ∧ ∃ T kb fb, IsSt y T s kb fb ⟨zs k, []⟩ ∧ (∀ j, T j → W.heap.size ≤ j ∧ j < y.heap.size) ∧ W.heap.size ≤ kb ∧ W.heap.size ≤ fb)
theorem NwR.next {W y y' : World} {s k : Nat} (h : NwR W s k y) (hb : Below y.heap.size y y') : NwR W s k y' :=
  ⟨bl h.below hb, ⟨h.ss.1, Nat.lt_of_lt_of_le h.ss.2 hb.size⟩, ktab_below h.kt hb, h.lo, h.st.imp (fun ⟨e, h0⟩ => ⟨e, h0.kept (kept_none hb) id⟩) fun ⟨e, T, kb, fb, h1, h2, h3⟩ => ⟨e, T, kb, fb, h1.below hb, fun j hj => ⟨(h2 j hj).1, Nat.lt_of_lt_of_le (h2 j hj).2 hb.size⟩, h3⟩⟩
theorem NwR.drew {W y : World} {s k : Nat} (h : NwR W s k y) : NwR W s k y.drew := h.next (Below.refl _ _).drew
theorem below_of {W y y' : World} {U : Nat → Prop} (h : Below W.heap.size W y) (hk : Kept U y y') (hU : ∀ j, j < y.heap.size → U j → W.heap.size ≤ j) : Below W.heap.size W y' := h.trans (hk.below h.size hU)
theorem addN_walk {W y : World} {s k : Nat} (h : NwR W s k y) (v : Value) (hv : v = pv (zz k)) :
    Calls Tryz.prog 21 #[.pointer (some ⟨s, 0, none⟩), v] y fun e w' => (∃ r, e = .returned r) ∧ NwR W s (k + 1) w' := by
  subst hv
  have hlo : lowB ≤ s := Nat.le_trans h.lo h.ss.1
  rcases h.st with ⟨rfl, h0⟩ | ⟨hk, T, kb, fb, h1, h2, h3⟩
  · refine (add_first s (zz 0) y h.kt h0 hlo).mono ?_
    rintro e w' ⟨he, pb, kb, fb, h1, h2, h3⟩
    have hb : Below W.heap.size W w' := below_of h.below h3 fun j _ hj => by rw [hj]; exact h.ss.1
    have hsz := h.below.size
    obtain ⟨pb', av, sv, ho⟩ := h1.own
    refine ⟨⟨_, he⟩, hb, ⟨h.ss.1, ho.box.lt⟩, ktab_kept h.kt h3 (fun j hj => .inr (by rw [hj]; exact hlo)), h.lo, .inr ⟨by omega, _, kb, fb, h1, fun j hj => ?_, by omega, by omega⟩⟩
    rcases hj with rfl | rfl
    · exact ⟨h.ss.1, ho.box.lt⟩
    · exact ⟨by omega, h2.2.2.2⟩
  · refine (add_walk T s kb fb ⟨zs k, []⟩ (zz k) y h.kt h1 fun j hj => (h2 j hj).2).mono ?_
    rintro e w' ⟨he, h4, h5⟩
    have hU : ∀ j, Foot T kb fb j → W.heap.size ≤ j := fun j hj => hj.elim (fun hj => (h2 j hj).1) fun hj => hj.elim (fun e => e ▸ h3.1) fun e => e ▸ h3.2
    exact ⟨⟨_, he⟩, below_of h.below h5 fun j _ hj => hU j hj, ⟨h.ss.1, Nat.lt_of_lt_of_le h.ss.2 h5.size⟩, ktab_kept h.kt h5 (fun j hj => .inr (Nat.le_trans h.lo (hU j hj))), h.lo, .inr ⟨by omega, T, kb, fb, h4, fun j hj => ⟨(h2 j hj).1, Nat.lt_of_lt_of_le (h2 j hj).2 h5.size⟩, h3⟩⟩
set_option maxHeartbeats 4000000 in
set_option maxRecDepth 100000 in
theorem New_walk (w : World) (ht : Laid.KTab w) (hlo : lowB ≤ w.heap.size) :
    Calls Tryz.prog 12 #[] w fun e w' => ∃ s T kb fb, e = .returned (.pointer (some ⟨s, 0, none⟩)) ∧ IsSt w' T s kb fb nw ∧ Below w.heap.size w w' ∧ (∀ j, Foot T kb fb j → w.heap.size ≤ j) ∧ (∀ j, T j → j < w'.heap.size) ∧ Laid.KTab w' := by
  have H0 : Hid (NwR w w.heap.size 0 (w.alloc (.cells #[.map none, .slice none 0 0, .map none, .pointer none] 79))) := Lib.hid
    ⟨(Below.refl _ _).alloc (Nat.le_refl _) _, ⟨Nat.le_refl _, by simp⟩, ktab_below ht ((Below.refl _ _).alloc (Nat.le_refl _) _), hlo, .inl ⟨rfl, Box4.new w _ _ _ _ _⟩⟩
  clear ht hlo
  have z2 := zeroHash
  generalize hz : (tab 32 fun _ => bv 0#8) = zh at *
  have HZ : Hid (zh.size = 32) := Lib.hid (by rw [← hz, tab_size])
  clear hz
  go_enter Tryz.func12, Tryz.ntmps12
  go_upto_region 3 with (fail)
  have HSS : Hid (lowB ≤ w.heap.size) := Lib.hid H0.out.lo
  generalize w.alloc (.cells #[.map none, .slice none 0 0, .map none, .pointer none] 79) = y0 at *
  generalize hs : w.heap.size = s at *
  have HS := Lib.hid hs
  clear hs
  go_loopw [7] (fun t y => ∃ k : Nat, k ≤ 16 ∧ t = .int .i64 k ∧ Hid (NwR w s k y)) (fun t _ => 16 - (intOf t).toNat)
  case atStart => exact ⟨0, Nat.zero_le _, rfl, H0⟩
  case round =>
    obtain ⟨k, hk, rfl, hp⟩ := hrel
    have HP := Lib.hid hp.out
    clear hp H0
    by_cases hlt : (k : Int) < 16
    · have hw1 : wrap64 ((k : Int) + 1) = ((k + 1 : Nat) : Int) := by unfold wrap64; omega
      have HW := Lib.hid (And.intro hw1 hk)
      have HZW := Lib.hid (zero_ok k (by omega) wr HP.out.kt)
      clear hw1 hk
      go_upto_region 6 with (first
        | (go_at_call 20; (with_reducible refine HZW.out.mono ?_); rintro e y1 ⟨he, hb⟩; obtain rfl : e = _ := he; have HB1 := Lib.hid hb; clear hb)
        | ((with_reducible refine wpList_store_row (P := Tryz.prog) (w := y1.alloc (.cells zh 81)) ?_ 81 (.tmp 3) (.tmp 13) ?_ y1.heap.size (tab 32 fun i => bv (zero k i)) ?_ ?_ 81 zh (heap_alloc_last y1 _) (infH _) ?_ (one_bv _ _) ?_); (· exact rfl); (· exact rfl); (· exact rfl); (· exact rfl); (· rw [HZ.out, tab_size]); rw [World.setRow_alloc_new]; simp only [Act.put]))
      have HP2 : Hid (NwR w s k (y1.alloc (.cells (tab 32 fun i => bv (zero k i)) 81))) := Lib.hid ((HP.out.next HB1.out).next ((Below.refl _ _).alloc (Nat.le_refl _) _))
      have HL := Lib.hid (loadHb (IsTab.new y1 81 32 fun i => bv (zero k i)))
      clear HP HB1 HZW
      generalize y1.alloc (.cells (tab 32 fun i => bv (zero k i)) 81) = y2 at *
      generalize y1.heap.size = q at *
      have hj := join_walk (zero k) (zero k) y2
      unfold dv at hj
      have HJ := Lib.hid hj
      clear hj
      go_upto_region 7 with (first
        | ((with_reducible refine wpList_loadE (P := Tryz.prog) (w := y2) (ty := 81) (x := .tmp 3) (p := .pointer (some ⟨q, 0, none⟩)) (v := .agg (tab 32 fun i => bv (zero k i))) ?_ ?_ ?_ HL.out ?_); (· exact rfl); (· exact rfl); (· exact rfl))
        | (go_at_call 22; (with_reducible refine HJ.out.mono ?_); rintro e y3 ⟨he, hb⟩; obtain rfl : e = _ := he; have HP3 := Lib.hid (addN_walk (HP2.out.next hb) (pv (jn (zero k) (zero k))) rfl); clear hb)
        | (go_at_call 21; (with_reducible refine HP3.out.mono ?_); rintro e y4 ⟨⟨r, he⟩, hp4⟩; obtain rfl : e = _ := he; have HP4 := Lib.hid hp4; clear hp4))
      have hw1 := HW.out.1
      go_wp2_with (fail)
      go_roundw
      case rel => exact ⟨k + 1, by have := HW.out; omega, by go_num, HP4⟩
      case measure => simp [intOf]; omega
    · obtain rfl : k = 16 := by omega
      go_wp2_with (fail)
      rcases HP.out.st with ⟨h, _⟩ | ⟨_, T, kb, fb, h1, h2, h3⟩
      · cases h
      · refine bodyPost_ret (v := .pointer (some ⟨s, 0, none⟩)) (by simp [results, Tryz.results12, go_sem]) rfl ?_
        exact ⟨s, rfl, T, kb, fb, h1, HP.out.below, fun j hj => by
          rcases hj with hj | hj | hj
          · exact (h2 j hj).1
          · rw [hj]; exact h3.1
          · rw [hj]; exact h3.2, fun j hj => (h2 j hj).2, HP.out.kt⟩
end Wt
end Go.Proofs.YtbenjgncbpafbaaGreatDoor
namespace Go.Proofs.YtbenjgncbpafbaaGreatDoor
open Go.RowKit
set_option linter.unusedVariables false
set_option linter.unusedSimpArgs false
namespace Vm
open Kc
/-- A machine, plain. -/
structure Mac where
  mem : Nat → Nat
  reg : Nat → Nat
  pc : Nat
  halted : Bool
  exit : Nat
def mc (M : Mac) : Nat → Value := fun i =>
  if i < 8192 then .int .u64 (M.mem i) else if i < 8208 then .int .u64 (M.reg (i - 8192)) else if i = 8208 then .int .u64 M.pc else if i = 8209 then .bool M.halted else .int .u64 M.exit
def m0 : Mac := ⟨fun _ => 0, fun _ => 0, 0, false, 0⟩
set_option maxRecDepth 100000 in
theorem buildM0 (w : World) : (Instr.build 40 #[]).run Tryz.prog w = .ok (.agg (tab 8211 (mc m0))) w := by kernel_rfl
/-- All its words are words. -/
structure OkM (M : Mac) : Prop where
  mem : ∀ i, M.mem i < 18446744073709551616
  reg : ∀ i, M.reg i < 18446744073709551616
  pc : M.pc < 18446744073709551616
  exit : M.exit < 18446744073709551616
/-- A block is a machine. -/
def IsMac (w : World) (b : Nat) (M : Mac) : Prop := IsTab w b 40 8211 (mc M)
section
variable {w w' : World} {b : Nat} {M M' : Mac}
theorem IsMac.mem (h : IsMac w b M) {p : Nat} (hp : p < 8192) : w.cell? ⟨b, p, none⟩ = some (.int .u64 (M.mem p)) := by
  have := h.cell p (by omega); rw [this]; unfold mc; rw [if_pos hp]
theorem IsMac.reg (h : IsMac w b M) {p : Nat} (hp : p < 16) : w.cell? ⟨b, 8192 + p, none⟩ = some (.int .u64 (M.reg p)) := by
  have := h.cell (8192 + p) (by omega); rw [this]; unfold mc; rw [if_neg (by omega), if_pos (by omega), show 8192 + p - 8192 = p from by omega]
theorem IsMac.pc (h : IsMac w b M) : w.cell? ⟨b, 8208, none⟩ = some (.int .u64 M.pc) := by
  have := h.cell 8208 (by omega); rw [this]; rfl
theorem IsMac.halted (h : IsMac w b M) : w.cell? ⟨b, 8209, none⟩ = some (.bool M.halted) := by
  have := h.cell 8209 (by omega); rw [this]; rfl
theorem IsMac.exit (h : IsMac w b M) : w.cell? ⟨b, 8210, none⟩ = some (.int .u64 M.exit) := by
  have := h.cell 8210 (by omega); rw [this]; rfl
theorem IsMac.fz (h : IsMac w b M) (i : Nat) : w.frozen? ⟨b, i, none⟩ = false := IsTab.fz h i
theorem IsMac.lt (h : IsMac w b M) : b < w.heap.size := IsTab.lt h
theorem IsMac.below (h : IsMac w b M) (hb : Below w.heap.size w w') : IsMac w' b M := IsTab.below h hb
theorem IsMac.kept {S : Nat → Prop} (h : IsMac w b M) (hk : Kept S w w') (hn : ¬ S b) : IsMac w' b M := Wt.IsTab.kept h hk hn
theorem IsMac.set (h : IsMac w b M) (i : Nat) (v : Value) (he : ∀ j, j < 8211 → updv (mc M) i v j = mc M' j) : IsMac (w.setCell ⟨b, i, none⟩ v) b M' := IsTab.cong (IsTab.set h i v) he
theorem IsMac.setPc (h : IsMac w b M) (x : Nat) : IsMac (w.setCell ⟨b, 8208, none⟩ (.int .u64 (x : Int))) b { M with pc := x } := h.set 8208 _ fun j hj => by
  unfold updv mc
  by_cases e : j = 8208
  · subst e; rfl
  · rw [if_neg e]
    by_cases h1 : j < 8192
    · rw [if_pos h1, if_pos h1]
    · rw [if_neg h1, if_neg h1]
      by_cases h2 : j < 8208
      · rw [if_pos h2, if_pos h2]
      · rw [if_neg h2, if_neg h2, if_neg e, if_neg e]
theorem IsMac.setHalted (h : IsMac w b M) (x : Bool) : IsMac (w.setCell ⟨b, 8209, none⟩ (.bool x)) b { M with halted := x } := h.set 8209 _ fun j hj => by
  unfold updv mc
  by_cases e : j = 8209
  · subst e; rfl
  · rw [if_neg e]
    by_cases h1 : j < 8192
    · rw [if_pos h1, if_pos h1]
    · rw [if_neg h1, if_neg h1]
      by_cases h2 : j < 8208
      · rw [if_pos h2, if_pos h2]
      · rw [if_neg h2, if_neg h2]
        by_cases h3 : j = 8208
        · rw [if_pos h3, if_pos h3]
        · rw [if_neg h3, if_neg h3, if_neg e, if_neg e]
theorem IsMac.setExit (h : IsMac w b M) (x : Nat) : IsMac (w.setCell ⟨b, 8210, none⟩ (.int .u64 (x : Int))) b { M with exit := x } := h.set 8210 _ fun j hj => by
  unfold updv mc
  by_cases e : j = 8210
  · subst e; rfl
  · rw [if_neg e]
    by_cases h1 : j < 8192
    · rw [if_pos h1, if_pos h1]
    · rw [if_neg h1, if_neg h1]
      by_cases h2 : j < 8208
      · rw [if_pos h2, if_pos h2]
      · rw [if_neg h2, if_neg h2]
        by_cases h3 : j = 8208
        · rw [if_pos h3, if_pos h3]
        · rw [if_neg h3, if_neg h3, if_pos (by omega), if_pos (by omega)]
def setR (M : Mac) (d v : Nat) : Mac := { M with reg := fun i => if i = d then v else M.reg i }
theorem IsMac.setReg (h : IsMac w b M) {d : Nat} (hd : d < 16) (v : Nat) : IsMac (w.setCell ⟨b, 8192 + d, none⟩ (.int .u64 (v : Int))) b (setR M d v) := h.set (8192 + d) _ fun j hj => by
  unfold updv mc setR
  by_cases e : j = 8192 + d
  · subst e; rw [if_pos rfl, if_neg (by omega), if_pos (by omega)]; simp
  · rw [if_neg e]
    by_cases h1 : j < 8192
    · rw [if_pos h1, if_pos h1]
    · rw [if_neg h1, if_neg h1]
      by_cases h2 : j < 8208
      · rw [if_pos h2, if_pos h2]
        simp only
        rw [if_neg (by omega)]
      · rw [if_neg h2, if_neg h2]
end
theorem kept_set {S : Nat → Prop} {a w : World} (h : Kept S a w) (q i : Nat) (hq : S q) (v : Value) : Kept S a (w.setCell ⟨q, i, none⟩ v) := h.setCell (.inl hq) v
def stopM (M : Mac) (x : Nat) : Mac := { M with halted := true, exit := x }
set_option maxHeartbeats 1000000 in
set_option maxRecDepth 100000 in
theorem stop_walk (w : World) (b x : Nat) (M : Mac) (h : IsMac w b M) :
    Calls Tryz.prog 32 #[.pointer (some ⟨b, 0, none⟩), .int .u64 x] w fun e w' => e = .returned (.tuple #[]) ∧ IsMac w' b (stopM M x) ∧ Kept (fun k => k = b) w w' := by
  have k1 := h.halted
  have f1 := h.fz 8209
  have k2 := (h.setHalted true).exit
  have f2 := (h.setHalted true).fz 8210
  have HH := Lib.hid ((h.setHalted true).setExit x)
  have HK : Hid (Kept (fun k => k = b) w ((w.setCell ⟨b, 8209, none⟩ (.bool true)).setCell ⟨b, 8210, none⟩ (.int .u64 (x : Int)))) := Lib.hid (kept_set (kept_set (Kept.refl (fun k => k = b) w) b _ rfl _) b _ rfl _)
  clear h
  go_enter Tryz.func32, Tryz.ntmps32
  go_wp2_with (fail)
  exact bodyPost_end (v := .tuple #[]) (by simp [results, Tryz.results32, go_sem]) rfl ⟨rfl, HH.out, HK.out⟩
end Vm
end Go.Proofs.YtbenjgncbpafbaaGreatDoor
namespace Go.Proofs.YtbenjgncbpafbaaGreatDoor
open Go.RowKit
set_option linter.unusedVariables false
section
variable {P : Program} {ops : Array Oper} {Q : Exit → Act → World → Prop} {S T : World → Prop} {z : Nat}
def wpAnyZ (P : Program) (ops : Array Oper) (Q : Exit → Act → World → Prop) (S : World → Prop) (z : Nat) : Nat → Array Bool → Act → World → Prop
  | 0, listed, a, w => Region.ready .any ops listed = [] ∧ Q .normal a w
  | fuel + 1, listed, a, w =>
    (Region.ready .any ops listed = [] → Q .normal a w) ∧
    ∀ i ∈ Region.ready .any ops listed, wpOp P ops Q i (fun a' w' => ((listed.setIfInBounds i true).getD z true = false → S w') ∧ wpAnyZ P ops Q S z fuel (listed.setIfInBounds i true) a' w') a w
theorem wpAny_of_Z : ∀ (fuel : Nat) (listed : Array Bool) (a : Act) (w : World), wpAnyZ P ops Q S z fuel listed a w → wpAny P .any ops Q fuel listed a w
  | 0, _, _, _, h => h
  | fuel + 1, _, _, _, h => ⟨h.1, fun i hi => wpOp_mono (fun a' w' h' => wpAny_of_Z fuel _ a' w' h'.2) (h.2 i hi)⟩
theorem getD_set_ne' {l : Array Bool} {i j : Nat} (h : i ≠ j) : (l.setIfInBounds i true).getD j true = l.getD j true := getD_set_ne true h
theorem wpAnyZ_first {i : Nat} {oi : Oper} {v : Value} (J : Array Bool → Prop) (hi : ops[i]? = some oi) (hsel : ∀ (j : Nat) (o : Oper) cs b, ops[j]? = some o → o.op ≠ .select cs b) (hiz : i ≠ z)
    (hQ : ∀ c a w, Q (.panic c) (a.put oi.dst v) w → Q (.panic c) a w)
    (hJ : ∀ listed j, J listed → i ∈ Region.ready .any ops listed → j ∈ Region.ready .any ops listed → j ≠ i → J (listed.setIfInBounds j true))
    (hST : ∀ listed w, J listed → (listed.getD z true = false → S w) → T w) :
    ∀ (fuel : Nat) (listed : Array Bool) (a : Act) (w : World), J listed →
      (∀ j oj, ops[j]? = some oj → j ≠ i → listed.getD j true = false → (∀ e ∈ oj.after, Region.binds .any e = true → e.on ≠ i) → oi.apart ops oj = true) →
      i ∈ Region.ready .any ops listed → YieldsIf P ops T oi v a → (listed.getD z true = false → S w) →
      wpAnyZ P ops Q S z fuel (listed.setIfInBounds i true) (a.put oi.dst v) w → wpAnyZ P ops Q S z (fuel + 1) listed a w := by
  intro fuel
  induction fuel with
  | zero =>
    intro listed a w hJ0 _ hr hy hS H
    refine ⟨fun h => (by rw [h] at hr; cases hr), fun j hj => ?_⟩
    by_cases hji : j = i
    · subst hji; exact hy.wpOp hi (hST _ _ hJ0 hS) ⟨fun h => hS (by rw [getD_set_ne' hiz] at h; exact h), H⟩
    · have := ready_mono hj hji
      rw [H.1] at this
      cases this
  | succ fuel ih =>
    intro listed a w hJ0 hfree hr hy hS H
    refine ⟨fun h => (by rw [h] at hr; cases hr), fun j hj => ?_⟩
    by_cases hji : j = i
    · subst hji; exact hy.wpOp hi (hST _ _ hJ0 hS) ⟨fun h => hS (by rw [getD_set_ne' hiz] at h; exact h), H⟩
    · have h1 := H.2 j (ready_mono hj hji)
      obtain ⟨hjun, oj, hoj, hall⟩ := mem_ready.1 hj
      have hnot : ∀ e ∈ oj.after, Region.binds .any e = true → e.on ≠ i := fun e he hb heq => by
        have h1 := hall e he hb
        have h0 := (mem_ready.1 hr).1
        rw [heq] at h1
        rcases Nat.lt_or_ge i listed.size with h' | h'
        · simp [h'] at h0 h1; rw [h0] at h1; cases h1
        · simp [Array.getElem?_eq_none h'] at h1
      have h2 := wpOp_putIf hoj (hfree j oj hoj hji hjun hnot) (fun cs b => hsel i oi cs b hi) (fun cs b => hsel j oj cs b hoj) hQ hy h1
      have hfree' : ∀ k ok, ops[k]? = some ok → k ≠ i → (listed.setIfInBounds j true).getD k true = false →
          (∀ e ∈ ok.after, Region.binds .any e = true → e.on ≠ i) → oi.apart ops ok = true := fun k ok hk hki hun hno => by
        refine hfree k ok hk hki ?_ hno
        by_cases hjk : j = k
        · subst hjk; exact hjun
        · rw [getD_set_ne true hjk] at hun; exact hun
      refine wpOp_mono (fun a' w' h3 => ?_) h2
      obtain ⟨g1, g2, g3⟩ := h3
      have g2' : (listed.setIfInBounds j true).getD z true = false → S w' := fun h => g2 (by
        rw [Array.setIfInBounds_comm _ _ (Ne.symm hji), getD_set_ne' hiz]; exact h)
      refine ⟨g2', ih (listed.setIfInBounds j true) a' w' (hJ _ _ hJ0 hr hj hji) hfree' (ready_mono hr (Ne.symm hji)) g1 g2' ?_⟩
      rw [Array.setIfInBounds_comm _ _ hji]
      exact g3
inductive OZ where
  | done : OZ
  | take : Nat → OZ → OZ
  | free : Nat → OZ → OZ
  | one : Nat → OZ → OZ
def OZ.size : OZ → Nat
  | .done => 0
  | .take _ r => r.size + 1
  | .free _ r => r.size + 1
  | .one _ r => r.size + 1
def wpOz (P : Program) (ops : Array Oper) (Q : Exit → Act → World → Prop) (S : World → Prop) (z : Nat) : OZ → Act → World → Prop
  | .done, a, w => Q .normal a w
  | .take k r, a, w => ∃ o v, ops[k]? = some o ∧ YieldsIf P ops S o v a ∧ wpOz P ops Q S z r (a.put o.dst v) w
  | .free k r, a, w => ∃ o v, ops[k]? = some o ∧ YieldsIf P ops (fun _ => True) o v a ∧ wpOz P ops Q S z r (a.put o.dst v) w
  | .one k r, a, w => ∃ o, ops[k]? = some o ∧ Region.wanted o (yielded ops a.tmps) = true ∧ o.wp P a w (fun a' w' => (k ≠ z → S w') ∧ wpOz P ops Q S z r a' w') Q
theorem oz_done {a : Act} {w : World} (h : Q .normal a w) : wpOz P ops Q S z .done a w := h
theorem oz_tk {k : Nat} {r : OZ} {o : Oper} {a : Act} {w : World} (d : Option Tmp) (v : Value) (ho : ops[k]? = some o) (hd : o.dst = d) (hw : Region.wanted o (yielded ops a.tmps) = true)
    (hy : ∀ w, S w → (execOp a.eval o).run P w = .ok (.value v) w) (h : wpOz P ops Q S z r (a.put d v) w) : wpOz P ops Q S z (.take k r) a w :=
  ⟨o, v, ho, .inl ⟨hw, hy⟩, by rw [hd]; exact h⟩
theorem oz_fr {k : Nat} {r : OZ} {o : Oper} {a : Act} {w : World} (d : Option Tmp) (v : Value) (ho : ops[k]? = some o) (hd : o.dst = d) (hw : Region.wanted o (yielded ops a.tmps) = true)
    (hy : ∀ w, (execOp a.eval o).run P w = .ok (.value v) w) (h : wpOz P ops Q S z r (a.put d v) w) : wpOz P ops Q S z (.free k r) a w :=
  ⟨o, v, ho, .inl ⟨hw, fun w _ => hy w⟩, by rw [hd]; exact h⟩
theorem oz_ld {k : Nat} {r : OZ} {o : Oper} {a : Act} {w : World} (d : Option Tmp) (ty : TypeId) (x : Operand) (p v : Value) (ho : ops[k]? = some o) (hd : o.dst = d) (hw : Region.wanted o (yielded ops a.tmps) = true) (hop : o.op = .load ty x) (hx : a.eval x = p)
    (hl : ∀ w, S w → (Instr.loadAt ty p).run P w = .ok v w) (h : wpOz P ops Q S z r (a.put d v) w) : wpOz P ops Q S z (.take k r) a w :=
  oz_tk d v ho hd hw (fun w hw => by unfold execOp; simp only [hop, hx]; simp [hl w hw, Result.andThen]) h
/-- An operation that is carried out ahead of the last store. -/
theorem oz_f {k : Nat} {r : OZ} {o : Oper} {a : Act} {w : World} (ho : ops[k]? = some o) (hw : Region.wanted o (yielded ops a.tmps) = true)
    (h : ∀ K : Act → World → Prop, (∀ a' w', S w' → wpOz P ops Q S z r a' w' → K a' w') → o.wp P a w K Q) : wpOz P ops Q S z (.one k r) a w :=
  ⟨o, ho, hw, h _ fun _ _ h1 h2 => ⟨fun _ => h1, h2⟩⟩
/-- The last store. -/
theorem oz_z {r : OZ} {o : Oper} {a : Act} {w : World} (ho : ops[z]? = some o) (hw : Region.wanted o (yielded ops a.tmps) = true)
    (h : ∀ K : Act → World → Prop, (∀ a' w', wpOz P ops Q S z r a' w' → K a' w') → o.wp P a w K Q) : wpOz P ops Q S z (.one z r) a w :=
  ⟨o, ho, hw, h _ fun _ _ h2 => ⟨fun h => absurd rfl h, h2⟩⟩
def awaits (ops : Array Oper) (z k : Nat) : Bool := match ops[z]? with
  | some oz => oz.after.any fun e => Region.binds .any e && e.on == k
  | none => false
def ozB (ops : Array Oper) (z : Nat) : OZ → Array Bool → Bool
  | .done, l => (Region.ready .any ops l).isEmpty
  | .take k r, l => (k != z) && !(l.getD z true) && awaits ops z k && (Region.ready .any ops l).contains k && Region.free .any ops l k && ozB ops z r (l.setIfInBounds k true)
  | .free k r, l => (k != z) && (Region.ready .any ops l).contains k && Region.free .any ops l k && ozB ops z r (l.setIfInBounds k true)
  | .one k r, l => decide (Region.ready .any ops l = [k]) && ((k == z) || !(l.getD z true)) && ozB ops z r (l.setIfInBounds k true)
theorem not_ready {listed : Array Bool} {k : Nat} (hw : awaits ops z k = true) (hk : k ∈ Region.ready .any ops listed) : ¬ z ∈ Region.ready .any ops listed := fun hz => by
  obtain ⟨_, oz, hoz, hall⟩ := mem_ready.1 hz
  unfold awaits at hw
  rw [hoz] at hw
  obtain ⟨n, hn, he⟩ := Array.any_eq_true.1 hw
  simp only [Bool.and_eq_true, beq_iff_eq] at he
  have h1 := hall _ (Array.getElem_mem hn) he.1
  have h0 := (mem_ready.1 hk).1
  rw [he.2] at h1
  rcases Nat.lt_or_ge k listed.size with h' | h'
  · simp [h'] at h0 h1; rw [h0] at h1; cases h1
  · simp [Array.getElem?_eq_none h'] at h1
theorem oz_any (hs : Region.noSelect ops = true) (hQ : ∀ c a d v w, Q (.panic c) (a.put d v) w → Q (.panic c) a w) : ∀ (l : OZ) (listed : Array Bool) (a : Act) (w : World), (listed.getD z true = false → S w) →
    ozB ops z l listed = true → wpOz P ops Q S z l a w → wpAnyZ P ops Q S z l.size listed a w
  | .done, _, _, _, _, hB, h => ⟨by simpa [ozB] using hB, h⟩
  | .take k r, listed, a, w, hS, hB, ⟨o, v, h0, hy, h⟩ => by
    simp only [ozB, Bool.and_eq_true, bne_iff_ne, ne_eq, Bool.not_eq_true'] at hB
    obtain ⟨⟨⟨⟨⟨b1, b2⟩, b3⟩, b4⟩, b5⟩, b6⟩ := hB
    exact wpAnyZ_first (fun l => l.getD z true = false) h0 (Region.noSelect_spec hs) b1 (fun c a w => hQ c a _ _ w)
      (fun l j hl hk hj hjk => by
        have hne : j ≠ z := fun e => not_ready b3 hk (by rw [← e]; exact hj)
        rw [getD_set_ne' hne]; exact hl) (fun l w hl h => h hl) r.size listed a w b2 (Region.free_spec h0 b5) (by simpa using b4) hy hS
      (oz_any hs hQ r _ _ _ (fun h => hS b2) b6 h)
  | .free k r, listed, a, w, hS, hB, ⟨o, v, h0, hy, h⟩ => by
    simp only [ozB, Bool.and_eq_true, bne_iff_ne, ne_eq] at hB
    obtain ⟨⟨⟨b1, b4⟩, b5⟩, b6⟩ := hB
    exact wpAnyZ_first (fun l => True) h0 (Region.noSelect_spec hs) b1 (fun c a w => hQ c a _ _ w)
      (fun l j hl hk hj hjk => trivial) (fun l w hl h => trivial) r.size listed a w trivial (Region.free_spec h0 b5) (by simpa using b4) hy hS
      (oz_any hs hQ r _ _ _ (fun h => hS (by rw [getD_set_ne' b1] at h; exact h)) b6 h)
  | .one k r, listed, a, w, hS, hB, ⟨o, h0, hw, h⟩ => by
    simp only [ozB, Bool.and_eq_true, decide_eq_true_eq, Bool.or_eq_true, beq_iff_eq, Bool.not_eq_true'] at hB
    obtain ⟨⟨b1, b2⟩, b3⟩ := hB
    show wpAnyZ P ops Q S z (r.size + 1) listed a w
    refine ⟨fun hh => (by rw [b1] at hh; cases hh), fun i hi => ?_⟩
    have hik : i = k := by rw [b1] at hi; simpa using hi
    subst hik
    unfold wpOp
    simp only [h0]
    rw [if_pos hw]
    refine .inl (Oper.wp_mono (fun a' w' gg => ?_) h)
    have g1 := gg.1
    have g2 := gg.2
    have g : (listed.setIfInBounds i true).getD z true = false → S w' := fun hz => by
      refine g1 fun e => ?_
      subst e
      rcases Nat.lt_or_ge i listed.size with h' | h'
      · simp [h'] at hz
      · simp [h'] at hz
    exact ⟨g, oz_any hs hQ r _ _ _ g b3 g2⟩
theorem wp_region_oz {id : Nat} {a : Act} {w : World} {l : List Oper} (S : World → Prop) (z : Nat) (t : OZ) (hm : P.follows .mixedOrders = true) (hB : (decide (t.size = l.length) && Region.noSelect l.toArray && ozB l.toArray z t (Array.replicate l.length false)) = true) (hS : S w.drew)
    (h : wpOz P l.toArray (NoPanic Q) S z t a w.drew) : (Code.region id l.toArray true).wp P Q a w := by
  refine wp_region_noPanic ?_
  have hQ : ∀ c a d v w, NoPanic Q (.panic c) (a.put d v) w → NoPanic Q (.panic c) a w := fun _ _ _ _ _ h => h
  simp only [Bool.and_eq_true, decide_eq_true_eq] at hB
  refine wp_region_any hm (wpAny_of_Z (S := S) (z := z) _ _ _ _ ?_)
  have h1 := oz_any (P := P) (Q := NoPanic Q) (ops := l.toArray) hB.1.2 hQ t (Array.replicate l.length false) a w.drew (fun _ => hS) hB.2 h
  rw [hB.1.1] at h1
  simpa using h1
end
end Go.Proofs.YtbenjgncbpafbaaGreatDoor
