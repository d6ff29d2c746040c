/- Merged. Own work. -/
import Derived.Test.YtdmffnjbholkkaaDoorUp
import Derived.Test.YtdmffnjbholkkaaDoorZz
namespace Go.Proofs.YtdmffnjbholkkaaDoor
open Go.RowKit
set_option linter.unusedVariables false
set_option linter.unusedSimpArgs false
set_option linter.unusedVariables false
set_option linter.unusedSimpArgs false
namespace Wt
open Kc Mk
/-- How many stand before a place when the k-th is left out, and which. -/
def cnt (k i : Nat) : Nat := if i ≤ k then i else i - 1
def lft {β : Type} (f : Nat → β) (k : Nat) : Nat → β := fun j => if j < k then f j else f (j + 1)
theorem cnt_next {k i : Nat} (h : i ≠ k) : cnt k (i + 1) = cnt k i + 1 := by unfold cnt; split <;> split <;> omega
theorem lft_cnt {β : Type} (f : Nat → β) {k i : Nat} (h : i ≠ k) : lft f k (cnt k i) = f i := by
  unfold lft cnt
  split <;> split <;> first | omega | (congr 1; omega) | rfl
/-- What Drop's loop keeps. -/
structure Rd (W : World) (k i : Nat) (M : List (Hx × Px)) (V6 V7 : Value) (y : World) : Prop where
  r6 : y.ownsRow (W.heap.size + 1) 28 32 V6 (cnt k i) (flat (cnt k i) (lft (kf M) k))
  r7 : y.ownsRow (W.heap.size + 1) 37 64 V7 (cnt k i) (flp (cnt k i) (lft (pf M) k))
  ne : ∀ q, V6.ownBlock = some q → V7.ownBlock ≠ some q
  bel : Below W.heap.size W y
  sz : W.heap.size + 1 ≤ y.heap.size
section
variable {W y y' : World} {k i : Nat} {M : List (Hx × Px)} {V6 V7 V' : Value}
theorem Rd.next (H : Rd W k i M V6 V7 y) (hb : Below y.heap.size y y') : Rd W k i M V6 V7 y' :=
  ⟨(Kept.ofBelow (S := fun _ => False) hb).row H.r6 (fun _ _ h => h), (Kept.ofBelow (S := fun _ => False) hb).row H.r7 (fun _ _ h => h), H.ne, bl H.bel hb, Nat.le_trans H.sz hb.size⟩
/-- The rows while the first has grown. -/
structure Rd1 (W : World) (k i : Nat) (M : List (Hx × Px)) (V6 V7 : Value) (y : World) : Prop where
  r6 : y.ownsRow (W.heap.size + 1) 28 32 V6 (cnt k i + 1) (flat (cnt k i + 1) (lft (kf M) k))
  r7 : y.ownsRow (W.heap.size + 1) 37 64 V7 (cnt k i) (flp (cnt k i) (lft (pf M) k))
  ne : ∀ q, V6.ownBlock = some q → V7.ownBlock ≠ some q
  bel : Below W.heap.size W y
  sz : W.heap.size + 1 ≤ y.heap.size
theorem Rd1.next (H : Rd1 W k i M V6 V7 y) (hb : Below y.heap.size y y') : Rd1 W k i M V6 V7 y' :=
  ⟨(Kept.ofBelow (S := fun _ => False) hb).row H.r6 (fun _ _ h => h), (Kept.ofBelow (S := fun _ => False) hb).row H.r7 (fun _ _ h => h), H.ne, bl H.bel hb, Nat.le_trans H.sz hb.size⟩
theorem Rd.first (H : Rd W k i M V6 V7 y) (hik : i ≠ k) (hr : y'.ownsRow (W.heap.size + 1) 28 32 V' (cnt k i + 1) (flat (cnt k i) (lft (kf M) k) ++ flat 1 fun _ => kf M i)) (hg : y.grownBy y' V6.ownBlock) (hV : ∀ q, V'.ownBlock = some q → V6.ownBlock = some q ∨ q = y.heap.size) : Rd1 W k i M V' V7 y' := by
  have hk : Kept (fun q => V6.ownBlock = some q) y y' := ⟨hg.os, hg.tape, hg.output, hg.size, fun q hq hn => hg.block q hq (fun e => hn e.symm)⟩
  have hB : ∀ q, V6.ownBlock = some q → W.heap.size + 1 ≤ q := fun q hq => owns_base H.r6 hq
  refine ⟨?_, hk.row H.r7 fun q e e2 => H.ne q e2 e, fun q e e2 => ?_, below_of H.bel hk fun q _ e => by have := hB q e; omega, Nat.le_trans H.sz hk.size⟩
  · rw [flat_append] at hr
    refine (flat_cong fun j hj => ?_) ▸ hr
    show _ = _
    split
    · rfl
    · rw [show j = cnt k i from by omega, lft_cnt _ hik]
  · rcases hV q e with e3 | e3
    · exact H.ne q e3 e2
    · have := own_lt H.r7 e2; omega
theorem Rd1.second (H : Rd1 W k i M V6 V7 y) (hik : i ≠ k) (hr : y'.ownsRow (W.heap.size + 1) 37 64 V' (cnt k i + 1) (flp (cnt k i) (lft (pf M) k) ++ flp 1 fun _ => pf M i)) (hg : y.grownBy y' V7.ownBlock) (hV : ∀ q, V'.ownBlock = some q → V7.ownBlock = some q ∨ q = y.heap.size) : Rd W k (i + 1) M V6 V' y' := by
  have hk : Kept (fun q => V7.ownBlock = some q) y y' := ⟨hg.os, hg.tape, hg.output, hg.size, fun q hq hn => hg.block q hq (fun e => hn e.symm)⟩
  have hB : ∀ q, V7.ownBlock = some q → W.heap.size + 1 ≤ q := fun q hq => owns_base H.r7 hq
  refine ⟨by rw [cnt_next hik]; exact hk.row H.r6 fun q e e2 => H.ne q e e2, ?_, fun q e e2 => ?_, below_of H.bel hk fun q _ e => by have := hB q e; omega, Nat.le_trans H.sz hk.size⟩
  · rw [cnt_next hik, ← flp_step, lft_cnt _ hik]
    exact hr
  · rcases hV q e2 with e3 | e3
    · exact H.ne q e e3
    · have := own_lt H.r6 e; omega
/-- What Drop leaves. -/
theorem Rd.done {T : Nat → Prop} {r : Nat} {S : Sto} {met : Bool} {vh vp va : Value} {M' : List (Hx × Px)} (hr : IsRo W T r S met vh vp va) (hT : ∀ j, T j → j < W.heap.size) (H : Rd W k S.pres.length S.pres V6 V7 y) (hk : k < S.pres.length) (hl : M'.length = S.pres.length - 1) (hkf : ∀ j, j < S.pres.length - 1 → kf M' j = lft (kf S.pres) k j) (hpf : ∀ j, j < S.pres.length - 1 → pf M' j = lft (pf S.pres) k j) (hap : Apart M') :
    IsRo ((y.setCell ⟨r, 0, none⟩ V6).setCell ⟨r, 1, none⟩ V7) (fun j => T j ∨ V6.ownBlock = some j ∨ V7.ownBlock = some j) r ⟨M', S.asked⟩ met V6 V7 va ∧ (∀ j, (T j ∨ V6.ownBlock = some j ∨ V7.ownBlock = some j) → (T j ∨ W.heap.size ≤ j) ∧ j < ((y.setCell ⟨r, 0, none⟩ V6).setCell ⟨r, 1, none⟩ V7).heap.size) ∧ Kept T W ((y.setCell ⟨r, 0, none⟩ V6).setCell ⟨r, 1, none⟩ V7) := by
  have hy := hr.below H.bel
  have k1 : Kept (fun q => q = r) y (y.setCell ⟨r, 0, none⟩ V6) := (Kept.refl (fun q => q = r) _).setCell (.inl rfl) _
  have k2 : Kept (fun q => q = r) y ((y.setCell ⟨r, 0, none⟩ V6).setCell ⟨r, 1, none⟩ V7) := k1.setCell (.inl rfl) _
  have hrl := hr.box.lt
  have hc : cnt k S.pres.length = S.pres.length - 1 := by unfold cnt; rw [if_neg (by omega)]
  have h6 := H.r6
  have h7 := H.r7
  rw [hc] at h6 h7
  have b6 : ∀ q, V6.ownBlock = some q → W.heap.size + 1 ≤ q := fun q e => owns_base h6 e
  have b7 : ∀ q, V7.ownBlock = some q → W.heap.size + 1 ≤ q := fun q e => owns_base h7 e
  have bv' : ∀ q, va.ownBlock = some q → q < W.heap.size := fun q e => own_lt hr.arow e
  have hz : ((y.setCell ⟨r, 0, none⟩ V6).setCell ⟨r, 1, none⟩ V7).heap.size = y.heap.size := by simp
  refine ⟨⟨(hy.box.p0 V6).p1 V7, ?_, ?_, k2.row hy.arow fun q e e2 => (hr.ta q e).2.1 e2, hap, .inl hr.tr, fun q e => ⟨.inr (.inl e), by have := b6 q e; omega⟩, fun q e => ⟨.inr (.inr e), by have := b7 q e; omega, fun e2 => H.ne q e2 e⟩, fun q e => ⟨.inl (hr.ta q e).1, (hr.ta q e).2.1, fun e2 => by have := b6 q e2; have := bv' q e; omega, fun e2 => by have := b7 q e2; have := bv' q e; omega⟩⟩, fun j hj => ?_, (Kept.ofBelow H.bel).trans k2 fun q _ e => by rw [e]; exact hr.tr⟩
  · show World.ownsRow _ 0 _ 32 V6 M'.length (flat M'.length (kf M'))
    rw [hl, flat_cong hkf]
    exact k2.row (row_base h6 (Nat.zero_le _)) fun q e e2 => by have := b6 q e; omega
  · show World.ownsRow _ 0 _ 64 V7 M'.length (flp M'.length (pf M'))
    rw [hl]
    have e : flp (S.pres.length - 1) (pf M') = flp (S.pres.length - 1) (lft (pf S.pres) k) := by
      unfold flp
      refine List.map_congr_left fun j hj => ?_
      have hj' : j < 64 * (S.pres.length - 1) := by simpa using hj
      rw [hpf (j / 64) (by omega)]
    rw [e]
    exact k2.row (row_base h7 (Nat.zero_le _)) fun q e e2 => by have := b7 q e; omega
  · rw [hz]
    rcases hj with h | h | h
    · exact ⟨.inl h, Nat.lt_of_lt_of_le (hT j h) H.bel.size⟩
    · exact ⟨.inr (by have := b6 j h; omega), own_lt h6 h⟩
    · exact ⟨.inr (by have := b7 j h; omega), own_lt h7 h⟩
end
/-- A pair, as it is read. -/
def sight (q : Hx × Px) : List Bt × List Bt := (key q.1, pre q.2)
/-- Lists of preimages that are read alike. -/
def Alike (M N : List (Hx × Px)) : Prop := M.map sight = N.map sight
theorem Alike.refl (M : List (Hx × Px)) : Alike M M := rfl
section
variable {M N : List (Hx × Px)} {h h' : Hx} {p p' : Px}
theorem has_sight (M : List (Hx × Px)) (h : Hx) : has M h = (M.map sight).any fun t => t.1 == key h := by unfold has; rw [List.any_map]; rfl
theorem look_sight (M : List (Hx × Px)) (h : Hx) : (look M h).map pre = ((M.map sight).find? fun t => t.1 == key h).map (·.2) := by
  unfold look
  rw [List.find?_map, Option.map_map, Option.map_map]
  rfl
theorem Alike.has (H : Alike M N) (h : Hx) : Wt.has M h = Wt.has N h := by rw [has_sight, has_sight, H]
theorem Alike.look (H : Alike M N) (h : Hx) : (Wt.look M h).map pre = (Wt.look N h).map pre := by rw [look_sight, look_sight, H]
theorem Alike.len (H : Alike M N) : M.length = N.length := by have := congrArg List.length H; simpa using this
theorem Alike.px (H : Alike M N) (h : Hx) : pre ((Wt.look M h).getD zp) = pre ((Wt.look N h).getD zp) := by
  have e := H.look h
  cases h1 : Wt.look M h <;> cases h2 : Wt.look N h <;> rw [h1, h2] at e <;> simp at e
  exact e
theorem Alike.put (H : Alike M N) (hp : pre p = pre p') (h : Hx) : Alike (putM M h p) (putM N h p') := by
  unfold Alike putM
  rw [H.has h]
  split
  · have g : ∀ (L : List (Hx × Px)) (x : Px), (L.map fun q => if key q.1 == key h then (q.1, x) else q).map sight = (L.map sight).map fun t => if t.1 == key h then (t.1, pre x) else t := fun L x => by
      rw [List.map_map, List.map_map]
      refine List.map_congr_left fun q _ => ?_
      show sight (if key q.1 == key h then (q.1, x) else q) = if key q.1 == key h then (key q.1, pre x) else sight q
      split <;> rfl
    rw [g, g, H, hp]
  · rw [List.map_append, List.map_append, H]
    unfold sight
    simp [hp]
theorem Alike.drop (H : Alike M N) (h : Hx) : Alike (dropM M h) (dropM N h) := by
  have g : ∀ L : List (Hx × Px), (dropM L h).map sight = (L.map sight).filter fun t => !(t.1 == key h) := fun L => by
    unfold dropM
    rw [List.filter_map]
    rfl
  unfold Alike
  rw [g, g, H]
end
theorem hs_pre {p q : Px} (h : pre p = pre q) : hs p = hs q := by unfold hs; rw [h]
theorem pre_get {p q : Px} (h : pre p = pre q) (i : Nat) (hi : i < 64) : p i = q i := by rw [← pre_at p i hi, ← pre_at q i hi, h]
/-- A half laid anew, as two halves joined. -/
theorem wput_jn (p q : Px) (b : Nat) (x : Hx) (hb : b < 2) (hpq : pre p = pre q) : pre (wput p b x) = pre (if b = 1 then jn (hfb q false) x else jn x (hfb q true)) := by
  refine pre_of fun i hi => ?_
  have e := pre_get hpq i hi
  unfold wput
  rcases (by omega : b = 0 ∨ b = 1) with rfl | rfl
  · rw [show (if (0 : Nat) = 1 then jn (hfb q false) x else jn x (hfb q true)) = jn x (hfb q true) from if_neg (by decide)]
    unfold jn hfb
    by_cases h : i < 32
    · rw [if_pos ⟨by omega, by omega⟩, if_pos h]; congr 1
    · rw [if_neg (by omega), if_neg h, e]
      simp only [if_true]
      congr 1; omega
  · rw [show (if (1 : Nat) = 1 then jn (hfb q false) x else jn x (hfb q true)) = jn (hfb q false) x from if_pos rfl]
    unfold jn hfb
    by_cases h : i < 32
    · rw [if_neg (by omega), if_pos h, e]; simp
    · rw [if_pos ⟨by omega, by omega⟩, if_neg h]
theorem wpre_wjn (f : Nat → Px) (M : List (Hx × Px)) (hh : Nat → Hx) (d i j : Nat) (x : Hx) (hj : j < d) (hf : pre (f (d - 1 - j)) = pre (px M hh (d - 1 - j))) : pre (wput (f (d - 1 - j)) (i / 2 ^ j % 2) x) = pre (wjn (sdv M hh d i) d i j x) := by
  rw [wput_jn _ _ _ x (Nat.mod_lt _ (by decide)) hf]
  have e : d - 1 - (d - 1 - j) = j := by omega
  unfold wjn sdv bt
  rw [e]
  by_cases h : i / 2 ^ j % 2 = 1
  · simp [h]
  · simp [h]
/-- The digests on the way up are the same. -/
theorem wleaf_wlf (f : Nat → Px) (M : List (Hx × Px)) (hh : Nat → Hx) (d i : Nat) (x : Hx) (hf : ∀ l, l < d → pre (f l) = pre (px M hh l)) : ∀ j, j ≤ d → wleaf f d i x j = wlf (sdv M hh d i) d i x j
  | 0, _ => by rw [wleaf, wlf]
  | j + 1, hj => by
    rw [wleaf, wlf, ← wleaf_wlf f M hh d i x hf j (by omega)]
    exact hs_pre (wpre_wjn f M hh d i j _ (by omega) (hf _ (by omega)))
/-- So are the preimages that are held. -/
theorem wpres_wpr (f : Nat → Px) (N M : List (Hx × Px)) (hh : Nat → Hx) (d i : Nat) (x : Hx) (hN : Alike N M) (hf : ∀ l, l < d → pre (f l) = pre (px M hh l)) : ∀ j, j ≤ d → Alike (wpres N f d i x j) (wpr M (sdv M hh d i) d i x j)
  | 0, _ => by rw [wpres, wpr]; exact hN
  | j + 1, hj => by
    have e1 : pre (wpre f d i x j) = pre (wjn (sdv M hh d i) d i j (wlf (sdv M hh d i) d i x j)) := by
      unfold wpre
      rw [wleaf_wlf f M hh d i x hf j (by omega)]
      exact wpre_wjn f M hh d i j _ (by omega) (hf _ (by omega))
    rw [wpres, wpr, hs_pre e1]
    exact (wpres_wpr f N M hh d i x hN hf j (by omega)).put e1 _
/-- The digests on the way down. -/
def hhw (N : List (Hx × Px)) (d i : Nat) (rt : Hx) : Nat → Hx
  | 0 => rt
  | j + 1 => hfb ((look N (hhw N d i rt j)).getD zp) (bt d i j)
theorem hhw_zero (N : List (Hx × Px)) (d i : Nat) (rt : Hx) : hhw N d i rt 0 = rt := by rw [hhw]
theorem hhw_succ (N : List (Hx × Px)) (d i : Nat) (rt : Hx) (j : Nat) : hhw N d i rt (j + 1) = hfb (px N (hhw N d i rt) j) (bt d i j) := by rw [hhw, px]
theorem px_alike {M N : List (Hx × Px)} (H : Alike M N) (hh : Nat → Hx) (j : Nat) : pre (px M hh j) = pre (px N hh j) := H.px (hh j)
/-- A step down, as the program takes it. -/
theorem hhw_step {M N : List (Hx × Px)} (H : Alike M N) (d i : Nat) (rt : Hx) (j : Nat) (x : Nat) (hx : x < 32) : hhw N d i rt (j + 1) x = px M (hhw N d i rt) j (32 * (i / 2 ^ (d - 1 - j) % 2) + x) := by
  rw [hhw_succ]
  have hb : i / 2 ^ (d - 1 - j) % 2 < 2 := Nat.mod_lt _ (by decide)
  have e := pre_get (px_alike H (hhw N d i rt) j) (32 * (i / 2 ^ (d - 1 - j) % 2) + x) (by omega)
  rw [e]
  unfold hfb bt
  rcases (by omega : i / 2 ^ (d - 1 - j) % 2 = 0 ∨ i / 2 ^ (d - 1 - j) % 2 = 1) with h | h
  · simp [h]
  · simp [h]
/-- What the way to a leaf comes to: the digest, the number and the place of what is wrong, what is asked. -/
def Out (N : List (Hx × Px)) (d i : Int) (rt : Hx) (x : Hx) (n p : Int) (f : List Hx → List Hx) : Prop :=
  (¬ place d i ∧ x = (fun _ => 0#8) ∧ n = 2 ∧ p = -1 ∧ f = id) ∨
  ∃ D I k : Nat, d = D ∧ i = I ∧ D ≤ 16 ∧ I < 2 ^ D ∧ k ≤ D ∧ (∀ j, j < k → has N (hhw N D I rt j) = true) ∧ (k = D ∨ has N (hhw N D I rt k) = false) ∧
    (k = D → x = hhw N D I rt D ∧ n = 0 ∧ p = -1) ∧ (k < D → x = (fun _ => 0#8) ∧ n = 14 ∧ p = k) ∧ f = fun A => askN A (hhw N D I rt) (if k < D then k + 1 else D)
/-- An error in memory, as Why tells it. -/
def Tells (b : Nat) (E : Value) (n p : Int) (y : World) : Prop :=
  (E = .nilIface ∧ n = 0 ∧ p = -1) ∨ (E = .iface 62 (.int .i64 n) ∧ p = -1) ∨ ∃ (q P : Nat), p = (P : Int) ∧ b ≤ q ∧ E = .iface 156 (.pointer (some ⟨q, 0, none⟩)) ∧ y.cell? ⟨q, 0, none⟩ = some (.int .i64 (P : Int)) ∧ y.cell? ⟨q, 1, none⟩ = some (.iface 62 (.int .i64 n))
theorem read_out (T : Nat → Prop) (s kb fb : Nat) (M N : List (Hx × Px)) (A : List Hx) (d i : Int) (rt x : Hx) (n p : Int) (f : List Hx → List Hx) (w : World) (ho : Out N d i rt x n p f) (hMN : Alike M N) (hs : IsSt w T s kb fb ⟨M, A⟩) (hT : ∀ j, T j → j < w.heap.size) (hn : A.length + 17 < 1073741824) :
    Calls Tryd.prog 24 #[.pointer (some ⟨s, 0, none⟩), .int .i64 d, dv rt, .int .i64 i] w fun e w' => ∃ E, e = .returned (.tuple #[dv x, E]) ∧ Tells w.heap.size E n p w' ∧ ∃ T', IsSt w' T' s kb fb ⟨M, f A⟩ ∧ (∀ j, T' j → (T j ∨ w.heap.size ≤ j) ∧ j < w'.heap.size) ∧ Kept T w w' := by
  rcases ho with ⟨hp, rfl, rfl, rfl, rfl⟩ | ⟨D, I, k, rfl, rfl, hD, hI, hk, hhas, hend, hit, miss, rfl⟩
  · refine (read_range s d i rt w hp).mono ?_
    rintro e w' ⟨he, hb⟩
    exact ⟨_, he, .inr (.inl ⟨rfl, rfl⟩), T, hs.below hb, fun j hj => ⟨.inl hj, Nat.lt_of_lt_of_le (hT j hj) hb.size⟩, Kept.ofBelow hb⟩
  · have h := read_walk T s kb fb M A D I k (hhw N D I rt) w hs hT hn hD hI hk (fun j _ y hy => hhw_step hMN D I rt j y hy) (fun j hj => (hMN.has _).trans (hhas j hj)) (hend.imp id fun h => (hMN.has _).trans h)
    rw [hhw_zero] at h
    refine h.mono ?_
    rintro e w' ⟨x', E, he, T', hR⟩
    rcases Nat.lt_or_ge k D with h1 | h1
    · obtain ⟨rfl, q, hE, c0, c1, _, hq⟩ := hR.miss h1
      obtain ⟨rfl, rfl, rfl⟩ := miss h1
      exact ⟨E, he, .inr (.inr ⟨q, k, rfl, hq, hE, c0, c1⟩), T', hR.st, hR.tt, hR.kp⟩
    · obtain ⟨rfl, hE⟩ := hR.hit (by omega)
      obtain ⟨rfl, rfl, rfl⟩ := hit (by omega)
      exact ⟨E, he, .inl ⟨hE, rfl, rfl⟩, T', hR.st, hR.tt, hR.kp⟩
/-- What a write comes to: the root, the number and the place of what is wrong, what is asked, what is held, whether two met. -/
def OutW (N : List (Hx × Px)) (d i : Int) (rt lf : Hx) (x : Hx) (n p : Int) (f : List Hx → List Hx) (N' : List (Hx × Px)) (cl : Bool → Bool) : Prop :=
  (¬ place d i ∧ x = (fun _ => 0#8) ∧ n = 2 ∧ p = -1 ∧ f = id ∧ N' = N ∧ cl = id) ∨
  ∃ D I k : Nat, d = D ∧ i = I ∧ D ≤ 16 ∧ I < 2 ^ D ∧ k ≤ D ∧ (∀ j, j < k → has N (hhw N D I rt j) = true) ∧ (k = D ∨ has N (hhw N D I rt k) = false) ∧
    (k = D → x = wlf (sdv N (hhw N D I rt) D I) D I lf D ∧ n = 0 ∧ p = -1 ∧ N' = wpr N (sdv N (hhw N D I rt) D I) D I lf D ∧ cl = (fun met => wmt met N (sdv N (hhw N D I rt) D I) D I lf D) ∧ f = fun A => askN A (hhw N D I rt) D) ∧
    (k < D → x = (fun _ => 0#8) ∧ n = 14 ∧ p = k ∧ N' = N ∧ cl = id ∧ f = fun A => askN A (hhw N D I rt) (k + 1))
theorem write_out (T : Nat → Prop) (s kb fb : Nat) (M N N' : List (Hx × Px)) (A : List Hx) (d i : Int) (rt lf x : Hx) (n p : Int) (f : List Hx → List Hx) (cl : Bool → Bool) (w : World) (ht : Laid.KTab w) (ho : OutW N d i rt lf x n p f N' cl) (hMN : Alike M N) (hs : IsSt w T s kb fb ⟨M, A⟩) (hT : ∀ j, T j → j < w.heap.size) (hn : A.length + 17 < 1073741824) :
    Calls Tryd.prog 26 #[.pointer (some ⟨s, 0, none⟩), .int .i64 d, dv rt, .int .i64 i, dv lf] w fun e w' => ∃ E, e = .returned (.tuple #[dv x, E]) ∧ Tells w.heap.size E n p w' ∧ ∃ T' M', IsSt w' T' s kb fb ⟨M', f A⟩ ∧ Alike M' N' ∧ (∀ j, T' j → (T j ∨ w.heap.size ≤ j) ∧ j < w'.heap.size) ∧ Kept (Foot T kb fb) w w' := by
  rcases ho with ⟨hp, rfl, rfl, rfl, rfl, rfl, rfl⟩ | ⟨D, I, k, rfl, rfl, hD, hI, hk, hhas, hend, hit, miss⟩
  · refine (write_range s d i rt lf w hp).mono ?_
    rintro e w' ⟨he, hb⟩
    exact ⟨_, he, .inr (.inl ⟨rfl, rfl⟩), T, M, hs.below hb, hMN, fun j hj => ⟨.inl hj, Nat.lt_of_lt_of_le (hT j hj) hb.size⟩, Kept.ofBelow hb⟩
  · rcases Nat.lt_or_ge k D with h1 | h1
    · obtain ⟨rfl, rfl, rfl, rfl, rfl, rfl⟩ := miss h1
      have h := write_miss T s kb fb M A D I k (hhw N' D I rt) lf w hs hT hn hD hI h1 (fun j _ y hy => hhw_step hMN D I rt j y hy) (fun j hj => (hMN.has _).trans (hhas j hj)) ((hMN.has _).trans (hend.resolve_left (by omega)))
      rw [hhw_zero] at h
      refine h.mono ?_
      rintro e w' ⟨x', E, he, T', hR⟩
      obtain ⟨rfl, q, hE, c0, c1, _, hq⟩ := hR.miss h1
      have hst := hR.st
      rw [if_pos h1] at hst
      exact ⟨E, he, .inr (.inr ⟨q, k, rfl, hq, hE, c0, c1⟩), T', M, hst, hMN, hR.tt, hR.kp.mono fun j _ hj => .inl hj⟩
    · obtain rfl : k = D := by omega
      obtain ⟨rfl, rfl, rfl, rfl, rfl, rfl⟩ := hit rfl
      have h := write_walk T s kb fb M A k I (hhw N k I rt) lf w ht hs hT hn hD hI (fun j _ y hy => hhw_step hMN k I rt j y hy) (fun j hj => (hMN.has _).trans (hhas j hj))
      have hf : ∀ l, l < k → pre (px M (hhw N k I rt) l) = pre (px N (hhw N k I rt) l) := fun l _ => px_alike hMN _ l
      rw [hhw_zero, wleaf_wlf _ N (hhw N k I rt) k I lf hf k (Nat.le_refl _)] at h
      refine h.mono ?_
      rintro e w' ⟨he, T', hR⟩
      exact ⟨_, he, .inl ⟨rfl, rfl, rfl⟩, T', _, hR.st, wpres_wpr _ M N (hhw N k I rt) k I lf hMN hf k (Nat.le_refl _), hR.tt, hR.kp⟩
theorem rwrite_out (T : Nat → Prop) (r : Nat) (N N' : List (Hx × Px)) (B : List Hx) (met : Bool) (d i : Int) (rt x lf : Hx) (n p : Int) (f : List Hx → List Hx) (cl : Bool → Bool) (w : World) (ho : OutW N d i rt lf x n p f N' cl) (hs : IsR w T r ⟨N, B⟩ met) (hT : ∀ j, T j → j < w.heap.size) (hl : N.length + 17 < 1073741824) (hn : B.length + 17 < 1073741824) :
    Calls Tryd.prog 25 #[.pointer (some ⟨r, 0, none⟩), .int .i64 d, dv rt, .int .i64 i, dv lf, .bool true] w fun e w' => ∃ y, e = .returned (.tuple #[dv y, dv x, .int .i64 p, .int .i64 n]) ∧ ∃ T', IsR w' T' r ⟨N', f B⟩ (cl met) ∧ (∀ j, T' j → (T j ∨ w.heap.size ≤ j) ∧ j < w'.heap.size) ∧ Kept T w w' := by
  rcases ho with ⟨hp, rfl, rfl, rfl, rfl, rfl, rfl⟩ | ⟨D, I, k, rfl, rfl, hD, hI, hk, hhas, hend, hit, miss⟩
  · refine (rwrite_range r d i rt lf true w hp).mono ?_
    rintro e w' ⟨he, hb⟩
    exact ⟨_, he, T, hs.below hb, fun j hj => ⟨.inl hj, Nat.lt_of_lt_of_le (hT j hj) hb.size⟩, Kept.ofBelow hb⟩
  · have h := fun a y S' met' => rwrite_walk T r ⟨N, B⟩ met D I k (hhw N D I rt) lf w hs hT hl hn hD hI hk (fun j _ => hhw_succ N D I rt j) hhas hend a y p n S' met'
    rw [hhw_zero] at h
    rcases Nat.lt_or_ge k D with h1 | h1
    · obtain ⟨rfl, rfl, rfl, rfl, rfl, rfl⟩ := miss h1
      refine (h (fun _ => 0#8) (fun _ => 0#8) ⟨N', askN B (hhw N' D I rt) (k + 1)⟩ met ⟨fun e => by omega, fun _ => ⟨rfl, rfl, rfl, rfl, rfl, rfl⟩⟩).mono ?_
      rintro e w' ⟨he, h2⟩
      exact ⟨_, he, h2⟩
    · obtain ⟨rfl, rfl, rfl, rfl, rfl, rfl⟩ := hit (by omega)
      refine (h (hhw N D I rt D) _ _ _ ⟨fun _ => ⟨rfl, rfl, rfl, rfl, rfl, rfl⟩, fun e => by omega⟩).mono ?_
      rintro e w' ⟨he, h2⟩
      exact ⟨_, he, h2⟩
/-- An error stays what it tells. -/
theorem Tells.kept {b : Nat} {E : Value} {n p : Int} {w w' : World} {U : Nat → Prop} (h : Tells b E n p w) (hk : Kept U w w') (hU : ∀ k, U k → k < b) : Tells b E n p w' := by
  rcases h with h | h | ⟨q, P, h1, h2, h3, h4, h5⟩
  · exact .inl h
  · exact .inr (.inl h)
  · have hn : ¬ U q := fun h => by have := hU q h; omega
    exact .inr (.inr ⟨q, P, h1, h2, h3, keptC hk hn h4, keptC hk hn h5⟩)
end Wt
end Go.Proofs.YtdmffnjbholkkaaDoor
