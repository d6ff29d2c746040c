/-
  tx: plain facts of batches; slices of transactions, numbers, texts; mootlaw04.same, mootref04.Right. Own work.
-/
import Derived.Test.YtkhdamjjbjmeaaaDoorV6
namespace Go.Proofs.YtkhdamjjbjmeaaaDoor
open Go.ChangeShapes Go.WideShapes Go.Deep Go.RowKit
set_option linter.unusedVariables false
set_option linter.unusedSimpArgs false
namespace Rl
/-- A transaction that is right. -/
def TxG (f : Nat → Nat) : Prop := txOk f = true ∧ ∀ i, i < 6 → f i < 18446744073709551616
theorem drop_cons {k : Fo} {i : Nat} (h : i < k.len) : ∃ l x k1 r, k.drop i = .cons l x k1 r := by
  have := Fo.drop_len k i
  cases e : k.drop i with
  | nil => rw [e] at this; have : 0 = k.len - i := this; omega
  | cons l x k1 r => exact ⟨l, x, k1, r, rfl⟩
theorem val_lt {l : Bool} {x : List Bt} (h : valW l x = 0) : num 0 x < 18446744073709551616 := by
  unfold valW at h
  split at h
  · omega
  · split at h
    · omega
    · rename_i h1 h2
      have h8 : x.length ≤ 8 := by omega
      have hb := num_bound x 0
      have : 256 ^ x.length ≤ 256 ^ 8 := Nat.pow_le_pow_right (by decide) h8
      omega
theorem isTx_good {l : Bool} {x : List Bt} {f : Nat → Nat} (h : isTx l x = some f) : TxG f := by
  unfold isTx at h
  split at h
  · cases h
  · cases hT : txd x with
    | flt p k => rw [hT] at h; cases h
    | num k => rw [hT] at h; cases h
    | ok g =>
      rw [hT] at h
      injection h with h
      subst h
      unfold txd at hT
      split at hT
      · cases hT
      · split at hT
        · rename_i l2 y k j hd h6
          unfold txd' at hT
          split at hT
          · cases hT
          · rename_i hn
            injection hT with hT
            subst hT
            rw [List.find?_eq_none] at hn
            have hs : ∀ i, i < 6 → valW (match k.drop i with | .cons l _ _ _ => l | .nil => false) (match k.drop i with | .cons _ x _ _ => x | .nil => []) = 0 ∧ inOk i (txf k i) = true ∧ txf k i < 18446744073709551616 := fun i hi => by
              have h0 : stO k i = 0 := by have := hn i (List.mem_range.2 hi); simpa using this
              obtain ⟨l3, x3, k3, r3, hdr⟩ := drop_cons (k := k) (i := i) (by have := h6.2; omega)
              obtain ⟨h1, h2⟩ := stO_at hdr
              rw [h1] at h0
              rw [hdr, h2]
              by_cases hv : valW l3 x3 = 0
              · rw [if_pos hv] at h0
                refine ⟨hv, ?_, val_lt hv⟩
                by_cases hi2 : inOk i (num 0 x3) = true
                · exact hi2
                · rw [if_neg hi2] at h0; omega
              · rw [if_neg hv] at h0; exact absurd h0 hv
            exact ⟨txOk_iff.2 fun i hi => (hs i hi).2.1, fun i hi => (hs i hi).2.2⟩
        · cases hT
theorem gds_good : ∀ (k : Fo) f, f ∈ gds k → TxG f
  | .nil, f, h => by cases h
  | .cons l x k1 r, f, h => by
    rcases List.mem_append.1 (show f ∈ (isTx l x).toList ++ gds r from h) with h | h
    · cases hi : isTx l x with
      | none => rw [hi] at h; cases h
      | some g => rw [hi] at h; simp at h; subst h; exact isTx_good hi
    · exact gds_good r f h
theorem bds_in : ∀ (k : Fo) (i p : Nat), p ∈ bds i k → i ≤ p ∧ p < i + k.len
  | .nil, i, p, h => by cases h
  | .cons l x k1 r, i, p, h => by
    rcases List.mem_append.1 (show p ∈ (if (isTx l x).isSome then [] else [i]) ++ bds (i + 1) r from h) with h | h
    · split at h
      · cases h
      · simp at h; subst h; exact ⟨Nat.le_refl _, by show p < p + (r.len + 1); omega⟩
    · have := bds_in r (i + 1) p h
      exact ⟨by omega, by show p < i + (r.len + 1); omega⟩
theorem bds_sorted : ∀ (k : Fo) (i : Nat), (bds i k).Pairwise (· < ·)
  | .nil, i => .nil
  | .cons l x k1 r, i => by
    show ((if (isTx l x).isSome then [] else [i]) ++ bds (i + 1) r).Pairwise (· < ·)
    have h := bds_sorted r (i + 1)
    split
    · exact h
    · exact List.pairwise_cons.2 ⟨fun p hp => by have := (bds_in r (i + 1) p hp).1; omega, h⟩
theorem both_len : ∀ (k : Fo) (i : Nat), (gds k).length + (bds i k).length = k.len
  | .nil, i => rfl
  | .cons l x k1 r, i => by
    have h := both_len r (i + 1)
    show ((isTx l x).toList ++ gds r).length + ((if (isTx l x).isSome then [] else [i]) ++ bds (i + 1) r).length = r.len + 1
    cases isTx l x with
    | none => simp; omega
    | some g => simp; omega
theorem t6_cong {f g : Nat → Nat} (h : ∀ i, i < 6 → g i = f i) : t6 g = t6 f := by
  unfold t6; rw [h 0 (by decide), h 1 (by decide), h 2 (by decide), h 3 (by decide), h 4 (by decide), h 5 (by decide)]
/-- Right transactions, laid into a batch, are it alone. -/
theorem again_fs : ∀ (fs : List (Nat → Nat)), (∀ f ∈ fs, TxG f) → (gds (txts (fs.map txB))).map t6 = fs.map t6 ∧ ∀ i, bds i (txts (fs.map txB)) = []
  | [], _ => ⟨rfl, fun _ => rfl⟩
  | f :: r, h => by
    obtain ⟨h1, h2⟩ := again_fs r (fun g hg => h g (List.mem_cons_of_mem _ hg))
    obtain ⟨ho, hf⟩ := h f (List.mem_cons_self ..)
    obtain ⟨g, hg, hgf⟩ := txd_txB hf ho
    have hi : isTx false (txB f) = some g := by unfold isTx; rw [hg]; rfl
    constructor
    · show ((isTx false (txB f)).toList ++ gds (txts (r.map txB))).map t6 = t6 f :: r.map t6
      rw [hi, List.map_append, h1]
      show t6 g :: r.map t6 = _
      rw [t6_cong hgf]
    · intro i
      show (if (isTx false (txB f)).isSome then [] else [i]) ++ bds (i + 1) (txts (r.map txB)) = []
      rw [hi, h2 (i + 1)]; rfl
theorem sum_le {ls : List (List Bt)} (h : ∀ x ∈ ls, x.length ≤ 120) : sumL ls ≤ 120 * ls.length := by
  induction ls with
  | nil => exact Nat.le_refl _
  | cons x r ih =>
    have h1 := ih (fun y hy => h y (List.mem_cons_of_mem _ hy))
    have h2 := h x (List.mem_cons_self ..)
    have e : sumL (x :: r) = x.length + sumL r := by simp [sumL]
    rw [e, List.length_cons]; omega
theorem bt_small {ls : List (List Bt)} (h : ∀ x ∈ ls, x.length ≤ 120) (h8 : ls.length ≤ 8) : btOk ls = true ∧ unb (btB ls) = .ok (gds (txts ls)) (bds 0 (txts ls)) := by
  have h1 := sum_le h
  have h2 := txts_form ls
  have h3 := wrap_le true [] (txts ls).form
  have h4 : (wrap true [] (txts ls).form).length ≤ 4096 := by simp at h3; omega
  refine ⟨by unfold btOk; rw [decide_eq_true h8, decide_eq_true h4]; rfl, ?_⟩
  unfold unb btB
  rw [enc_dec (by rw [bt_enc, if_pos h4])]
  show (if true = true then (if (txts ls).len ≤ 8 then _ else _) else _) = _
  rw [if_pos rfl, if_pos (by rw [txts_len]; exact h8)]
/-- A slice of transactions. -/
def IsT (w : World) (a : Option Addr) (n c : Nat) (fs : List (Nat → Nat)) : Prop :=
  n = fs.length ∧ n ≤ c ∧ c ≤ maxLen ∧ (a = none → c = 0) ∧ (n = 0 ∨ ∃ b o, a = some ⟨b, o, none⟩ ∧ ∀ j f, fs[j]? = some f → ∀ i, i < 6 → w.cell? ⟨b, o + j * 6 + i, none⟩ = some (.int .u64 (f i)))
theorem IsT.keep {w w' : World} {a : Option Addr} {n c : Nat} {fs : List (Nat → Nat)} (h : IsT w a n c fs) (hk : Keep w w') : IsT w' a n c fs := by
  obtain ⟨h1, h2, h3, h4, h5⟩ := h
  refine ⟨h1, h2, h3, h4, h5.imp id ?_⟩
  rintro ⟨b, o, e, h6⟩
  exact ⟨b, o, e, fun j f hf i hi => hk _ _ (h6 j f hf i hi)⟩
theorem IsT.at {w : World} {a : Option Addr} {n c : Nat} {fs : List (Nat → Nat)} (h : IsT w a n c fs) {j : Nat} (hj : j < n) : ∃ b o f, a = some ⟨b, o, none⟩ ∧ fs[j]? = some f ∧ w.cell? ⟨b, o + j * 6, none⟩ = some (.int .u64 (f 0)) ∧ w.cell? ⟨b, o + j * 6 + 1, none⟩ = some (.int .u64 (f 1)) ∧ w.cell? ⟨b, o + j * 6 + 2, none⟩ = some (.int .u64 (f 2)) ∧
    w.cell? ⟨b, o + j * 6 + 3, none⟩ = some (.int .u64 (f 3)) ∧ w.cell? ⟨b, o + j * 6 + 4, none⟩ = some (.int .u64 (f 4)) ∧ w.cell? ⟨b, o + j * 6 + 5, none⟩ = some (.int .u64 (f 5)) := by
  rcases h.2.2.2.2 with h0 | ⟨b, o, e, h6⟩
  · omega
  · have hl := h.1
    have e2 : fs[j]? = some (fs[j]'(by omega)) := List.getElem?_eq_getElem (by omega)
    have := h6 j _ e2
    exact ⟨b, o, _, e, e2, this 0 (by decide), this 1 (by decide), this 2 (by decide), this 3 (by decide), this 4 (by decide), this 5 (by decide)⟩
theorem flat_at : ∀ (fs : List (Nat → Nat)) (j : Nat) (f : Nat → Nat) (i : Nat), fs[j]? = some f → i < 6 → (fs.flatMap t6)[j * 6 + i]? = some (.int .u64 (f i))
  | [], j, f, i, h, _ => by simp at h
  | g :: r, 0, f, i, h, hi => by
    simp at h; subst h
    rw [List.flatMap_cons, List.getElem?_append_left (by show 0 * 6 + i < 6; omega)]
    match i, hi with
    | 0, _ => rfl
    | 1, _ => rfl
    | 2, _ => rfl
    | 3, _ => rfl
    | 4, _ => rfl
    | 5, _ => rfl
  | g :: r, j + 1, f, i, h, hi => by
    rw [List.flatMap_cons, List.getElem?_append_right (by show 6 ≤ (j + 1) * 6 + i; omega)]
    rw [show (j + 1) * 6 + i - (t6 g).length = j * 6 + i by show (j + 1) * 6 + i - 6 = _; omega]
    exact flat_at r j f i (by simpa using h) hi
theorem RowT.isT {w : World} {B : Nat} {V : Value} {fs : List (Nat → Nat)} (h : RowT w B V fs) : ∃ a c, V = .slice a fs.length c ∧ IsT w a fs.length c fs := by
  have hc := @World.ownsRow.cells w B 36 6 V fs.length (fs.flatMap t6) h
  rcases h.2 with ⟨h1, h2⟩ | ⟨g, cap, cur, e1, e2, e3, e4, e5, _, _⟩
  · exact ⟨none, 0, by rw [h1, h2], rfl, by omega, by decide, fun _ => rfl, .inl h2⟩
  · refine ⟨some ⟨g, 0, none⟩, cap, e1, rfl, e4, e5, fun e => (by cases e), .inr ⟨g, 0, rfl, fun j f hf i hi => ?_⟩⟩
    have h5 := hc (g := g) (by rw [e1]; rfl) (j * 6 + i) _ (flat_at fs j f i hf hi)
    rw [add_at] at h5
    rw [show 0 + j * 6 + i = 0 + (j * 6 + i) by omega]
    exact h5
/-- A slice of numbers. -/
def IsN (w : World) (a : Option Addr) (n c : Nat) (D : List Nat) : Prop :=
  n = D.length ∧ n ≤ c ∧ c ≤ maxLen ∧ (a = none → c = 0) ∧ (n = 0 ∨ ∃ b o, a = some ⟨b, o, none⟩ ∧ ∀ (j d : Nat), D[j]? = some d → w.cell? ⟨b, o + j, none⟩ = some (.int .i64 d))
theorem IsN.keep {w w' : World} {a : Option Addr} {n c : Nat} {D : List Nat} (h : IsN w a n c D) (hk : Keep w w') : IsN w' a n c D := by
  obtain ⟨h1, h2, h3, h4, h5⟩ := h
  refine ⟨h1, h2, h3, h4, h5.imp id ?_⟩
  rintro ⟨b, o, e, h6⟩
  exact ⟨b, o, e, fun j d hd => hk _ _ (h6 j d hd)⟩
theorem RowN.isN {w : World} {B : Nat} {V : Value} {D : List Nat} (h : RowN w B V D) : ∃ a c, V = .slice a D.length c ∧ IsN w a D.length c D := by
  have hc := @World.ownsRow.cells w B 3 1 V D.length _ h
  rcases h.2 with ⟨h1, h2⟩ | ⟨g, cap, cur, e1, e2, e3, e4, e5, _, _⟩
  · exact ⟨none, 0, by rw [h1, h2], rfl, by omega, by decide, fun _ => rfl, .inl h2⟩
  · refine ⟨some ⟨g, 0, none⟩, cap, e1, rfl, e4, e5, fun e => (by cases e), .inr ⟨g, 0, rfl, fun j d hd => ?_⟩⟩
    have h5 := hc (g := g) (by rw [e1]; rfl) j (.int .i64 d) (by rw [List.getElem?_map, hd]; rfl)
    rw [add_at] at h5
    exact h5
set_option maxHeartbeats 2000000 in
set_option maxRecDepth 100000 in
/-- Two lists of the same transactions. -/
theorem same4_walk (w : World) (a : Option Addr) (n c : Nat) (b : Option Addr) (m d : Nat) (fs gs : List (Nat → Nat)) (h1 : IsT w a n c fs) (h2 : IsT w b m d gs) (he : fs.map t6 = gs.map t6) (hn : n ≤ 1073741824) :
    Calls Tryd.prog 22 #[.slice a n c, .slice b m d] w fun e w' => e = .returned (.bool true) ∧ Below w.heap.size w w' := by
  have hl : fs.length = gs.length := by have := congrArg List.length he; simpa using this
  obtain rfl : n = m := by rw [h1.1, h2.1, hl]
  have HA := Lib.hid h1
  have HB := Lib.hid h2
  have HE := Lib.hid he
  have HN := Lib.hid hn
  clear h1 h2 he hl hn
  go_enter Tryd.func22, Tryd.ntmps22
  go_wp2_with (fail)
  go_loopw [13] (fun i y => ∃ j : Nat, i = .int .i64 j ∧ Hid (j ≤ n ∧ Below w.heap.size w y)) (fun i _ => n - (intOf i).toNat)
  case atStart => exact ⟨0, rfl, Lib.hid ⟨Nat.zero_le _, Below.refl _ _⟩⟩
  case round =>
    obtain ⟨j, rfl, hp⟩ := hrel
    have HP := Lib.hid hp.out
    clear hp
    by_cases hlt : (j : Int) < n
    · obtain ⟨p, o, f, rfl, hf, G0, G1, G2, G3, G4, G5⟩ := (HA.out.keep (keep_below HP.out.2)).at (show j < n by omega)
      obtain ⟨q, u, g, rfl, hg, F0, F1, F2, F3, F4, F5⟩ := (HB.out.keep (keep_below HP.out.2)).at (show j < n by omega)
      have ht : t6 f = t6 g := by
        have := congrArg (fun l : List (List Value) => l[j]?) HE.out
        rw [List.getElem?_map, List.getElem?_map, hf, hg] at this
        exact Option.some.inj this
      unfold t6 at ht
      simp only [List.cons.injEq, and_true] at ht
      obtain ⟨e0, e1, e2, e3, e4, e5⟩ := ht
      rw [← e0] at F0
      rw [← e1] at F1
      rw [← e2] at F2
      rw [← e3] at F3
      rw [← e4] at F4
      rw [← e5] at F5
      have HJ := Lib.hid (show j < n ∧ wrap64 ((j : Int) + 1) = ((j + 1 : Nat) : Int) by have := HN.out; refine ⟨by omega, ?_⟩; unfold wrap64; omega)
      clear hf hg e0 e1 e2 e3 e4 e5
      go_upto_region 6 with (fail)
      have s0 : Below wr.heap.size wr wr.drew := (Below.refl _ _).drew
      have NE : Nonempty (Wd (Below wr.heap.size wr)) := ⟨⟨_, s0⟩⟩
      have S0 := Lib.hid s0
      clear s0
      have j0 : ∀ s : Wd (Below wr.heap.size wr), s.val.cell? ⟨p, o + j * 6, none⟩ = some (.int .u64 (f 0)) := fun s => keep1 s.ok G0
      have j1 : ∀ s : Wd (Below wr.heap.size wr), s.val.cell? ⟨p, o + j * 6 + 1, none⟩ = some (.int .u64 (f 1)) := fun s => keep1 s.ok G1
      have j2 : ∀ s : Wd (Below wr.heap.size wr), s.val.cell? ⟨p, o + j * 6 + 2, none⟩ = some (.int .u64 (f 2)) := fun s => keep1 s.ok G2
      have j3 : ∀ s : Wd (Below wr.heap.size wr), s.val.cell? ⟨p, o + j * 6 + 3, none⟩ = some (.int .u64 (f 3)) := fun s => keep1 s.ok G3
      have j4 : ∀ s : Wd (Below wr.heap.size wr), s.val.cell? ⟨p, o + j * 6 + 4, none⟩ = some (.int .u64 (f 4)) := fun s => keep1 s.ok G4
      have j5 : ∀ s : Wd (Below wr.heap.size wr), s.val.cell? ⟨p, o + j * 6 + 5, none⟩ = some (.int .u64 (f 5)) := fun s => keep1 s.ok G5
      have l0 : ∀ s : Wd (Below wr.heap.size wr), s.val.cell? ⟨q, u + j * 6, none⟩ = some (.int .u64 (f 0)) := fun s => keep1 s.ok F0
      have l1 : ∀ s : Wd (Below wr.heap.size wr), s.val.cell? ⟨q, u + j * 6 + 1, none⟩ = some (.int .u64 (f 1)) := fun s => keep1 s.ok F1
      have l2 : ∀ s : Wd (Below wr.heap.size wr), s.val.cell? ⟨q, u + j * 6 + 2, none⟩ = some (.int .u64 (f 2)) := fun s => keep1 s.ok F2
      have l3 : ∀ s : Wd (Below wr.heap.size wr), s.val.cell? ⟨q, u + j * 6 + 3, none⟩ = some (.int .u64 (f 3)) := fun s => keep1 s.ok F3
      have l4 : ∀ s : Wd (Below wr.heap.size wr), s.val.cell? ⟨q, u + j * 6 + 4, none⟩ = some (.int .u64 (f 4)) := fun s => keep1 s.ok F4
      have l5 : ∀ s : Wd (Below wr.heap.size wr), s.val.cell? ⟨q, u + j * 6 + 5, none⟩ = some (.int .u64 (f 5)) := fun s => keep1 s.ok F5
      refine wp_region_in (Below wr.heap.size wr) (by kernel_rfl) (by kernel_rfl) S0.out ?_
      repeat (go_big_quiet_step (fail))
      clear j0 j1 j2 j3 j4 j5 l0 l1 l2 l3 l4 l5 G0 G1 G2 G3 G4 G5 F0 F1 F2 F3 F4 F5
      refine wpQuiet_nil ?_
      rintro y ⟨⟨_, hby⟩, rfl⟩
      have HY := Lib.hid (bl HP.out.2 hby)
      clear hby S0 NE
      go_wp2_with (fail)
      try rw [HJ.out.2]
      go_roundw
      case rel => exact ⟨j + 1, rfl, Lib.hid ⟨HJ.out.1, HY.out⟩⟩
      case measure => have := HJ.out.1; show n - (j + 1) < n - j; omega
    · have HY := Lib.hid HP.out.2
      go_wp2_with (fail)
      go_ret
      exact ⟨rfl, HY.out⟩
set_option maxHeartbeats 2000000 in
set_option maxRecDepth 100000 in
theorem right4_walk (w : World) (f : Nat → Nat) (h : txOk f = true) : Calls Tryd.prog 33 #[txv f] w fun e w' => e = .returned (.bool true) ∧ Below w.heap.size w w' := by
  have h0 : (f 0 : Int) < 64 := by have h2 : decide (f 0 < 64) = true := txOk_iff.1 h 0 (by decide); have := of_decide_eq_true h2; omega
  have h1 : (f 1 : Int) < 64 := by have h2 : decide (f 1 < 64) = true := txOk_iff.1 h 1 (by decide); have := of_decide_eq_true h2; omega
  have h4 : (f 4 : Int) ≤ 96 := by have h2 : decide (f 4 ≤ 96) = true := txOk_iff.1 h 4 (by decide); have := of_decide_eq_true h2; omega
  have C := Lib.hid (txo_at w f)
  have HB := Lib.hid (ba w (txo f))
  have z0 := C.out 0 (by decide)
  have z1 := C.out 1 (by decide)
  have z4 := C.out 4 (by decide)
  clear h
  go_enter Tryd.func33, Tryd.ntmps33
  go_wp2_with (fail)
  go_ret
  exact ⟨rfl, HB.out⟩
end Rl
end Go.Proofs.YtkhdamjjbjmeaaaDoor
