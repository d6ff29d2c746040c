/-
  MerkleHalves. Own work.
-/
import Derived.Test.YtnfcjangminhoaaDoorMp
import Derived.Test.YtnfcjangminhoaaDoorApz
import Derived.Test.YtnfcjangminhoaaDoorMm
namespace Go.Proofs.YtnfcjangminhoaaDoor
open Go.RowKit
set_option linter.unusedVariables false
set_option linter.unusedSimpArgs false
namespace Mk
open Kc
/-- What the law keeps: the digests, boxed digests, the old memory. -/
structure Tb (W : World) (a : Option Addr) (N : Nat) (f : Nat → Hx) (l : List (Nat × Hx)) (y : World) : Prop where
  hs : IsHs y a N f
  ts : ∀ p ∈ l, IsTab y p.1 27 32 fun i => bv (p.2 i)
  below : Below W.heap.size W y
theorem Tb.next {W y y' : World} {a : Option Addr} {N : Nat} {f : Nat → Hx} {l : List (Nat × Hx)} (h : Tb W a N f l y) (hb : Below y.heap.size y y') : Tb W a N f l y' :=
  ⟨h.hs.below hb, fun p hp => (h.ts p hp).below hb, bl h.below hb⟩
theorem Tb.add {W y : World} {a : Option Addr} {N : Nat} {f : Nat → Hx} {l : List (Nat × Hx)} (h : Tb W a N f l y) (x : Hx) : Tb W a N f ((y.heap.size, x) :: l) (y.alloc (.cells (tab 32 fun i => bv (x i)) 27)) := by
  have hb : Below y.heap.size y (y.alloc (.cells (tab 32 fun i => bv (x i)) 27)) := (Below.refl _ _).alloc (Nat.le_refl _) _
  refine ⟨h.hs.below hb, fun p hp => ?_, bl h.below hb⟩
  rcases List.mem_cons.1 hp with rfl | hp
  · exact IsTab.new y _ 32 _
  · exact (h.ts p hp).below hb
theorem Tb.load {W y : World} {a : Option Addr} {N : Nat} {f : Nat → Hx} {l : List (Nat × Hx)} {q : Nat} {x : Hx} (h : Tb W a N f l y) (hp : (q, x) ∈ l) : (Instr.loadAt 27 (.pointer (some ⟨q, 0, none⟩))).run Tryd.prog y = .ok (dv x) y :=
  load32h (h.ts (q, x) hp)
theorem run_neq_tab {P : Program} (w : World) (t e : TypeId) (n : Nat) (k : IntKind) (ht : P.underlying t = some (.array n e)) (he : P.underlying e = some (.int k)) (hsz : ∀ w, (sizeOf e).run P w = .ok 1 w) (f g : Nat → Int) :
    (binOp .neq t (.agg (tab n fun i => .int k (f i))) (.agg (tab n fun i => .int k (g i)))).run P w = .ok (.bool (!((List.range n).all fun i => f i == g i))) w := by
  rw [run_neq_struct, run_equal_tab w 9998 t e n k ht he hsz]; rfl
theorem neqT (a : Hx) (w : World) : (binOp .neq 27 (dv a) (dv a)).run Tryd.prog w = .ok (.bool false) w := by
  show (binOp .neq 27 (.agg (tab 32 fun i => bv (a i))) (.agg (tab 32 fun i => bv (a i)))).run Tryd.prog w = _
  have h := run_neq_tab (P := Tryd.prog) w 27 5 32 .u8 (by kernel_rfl) undU8 sizeU8 (fun i => Bv (a i)) (fun i => Bv (a i))
  rw [show ((List.range 32).all fun i => Bv (a i) == Bv (a i)) = true from by simp] at h
  exact h
theorem undInt : Tryd.prog.underlying 3 = some (.int .i64) := by kernel_rfl
theorem undHs' : Tryd.prog.underlying 24 = some (.slice (Tryd.prog.elem 24)) := by kernel_rfl
theorem sizeE (w : World) : (sizeOf (Tryd.prog.elem 24)).run Tryd.prog w = .ok 32 w := by kernel_rfl
theorem rest_hs {w : World} {a : Option Addr} {n c H : Nat} {f : Nat → Hx} (hH : H ≤ n) (hnc : n ≤ c) (hs : IsHs w a n f) (hnil : a = none → n = 0 ∧ c = 0) :
    ∃ A C, (∀ u : World, (Instr.slice 24 (.slice a n c) (some (.int .i64 (H : Int))) none none).run Tryd.prog u = .ok (.slice A (n - H) C) u) ∧ IsHs w A (n - H) (fun k => f (H + k)) ∧ (A = none → n - H = 0 ∧ C = 0) ∧ n - H ≤ C := by
  refine ⟨if c = H then a else a.map (·.add (H * 32)), c - H, fun u => ?_, ?_, ?_, by omega⟩
  · rw [run_slice_l (a := a) (len := n) (cap := c) u 24 undHs' .i64 H (by omega) (by omega), sizeE]
    simp [sliced]
  · by_cases hc : c = H
    · exact .inl (by omega)
    · rw [if_neg hc]
      rcases hs with h0 | ⟨b, o, rfl, h5⟩
      · exact .inl (by omega)
      · refine .inr ⟨b, o + 32 * H, ?_, h5.from H⟩
        show some ((⟨b, o, none⟩ : Addr).add (H * 32)) = _
        rw [add_at, show o + H * 32 = o + 32 * H from by omega]
  · intro h
    have ha : a = none := by
      by_cases hc : c = H
      · rw [if_pos hc] at h; exact h
      · rw [if_neg hc] at h; cases a with
        | none => rfl
        | some x => cases h
    have := hnil ha
    omega
theorem und_shift (g : Nat → Hx) (m : Nat) : ∀ h k, und g h (k + m) = und (fun i => g (i + m)) h k
  | 0, k => rfl
  | h + 1, k => by
    show pr _ _ = pr _ _
    rw [und_shift g m h k, show k + m + 2 ^ h = k + 2 ^ h + m from by omega, und_shift g m h (k + 2 ^ h)]
theorem und_halves (D N : Nat) (f : Nat → Hx) : und (ext N f) (D + 1) 0 = pr (und (ext (min N (2 ^ D)) f) D 0) (und (ext (N - min N (2 ^ D)) fun k => f (min N (2 ^ D) + k)) D 0) := by
  show pr (und (ext N f) D 0) (und (ext N f) D (0 + 2 ^ D)) = _
  rw [und_shift]
  congr 1
  · exact und_cong D 0 fun i _ h => by
      unfold ext
      by_cases hi : i < N
      · rw [if_pos hi, if_pos (by omega)]
      · rw [if_neg hi, if_neg (by omega)]
  · exact und_cong D 0 fun i _ h => by
      show ext N f (i + 2 ^ D) = _
      unfold ext
      by_cases hi : i + 2 ^ D < N
      · rw [if_pos hi, if_pos (by omega)]; show f (i + 2 ^ D) = f (min N (2 ^ D) + i); rw [show min N (2 ^ D) + i = i + 2 ^ D from by omega]
      · rw [if_neg hi, if_neg (by omega)]
theorem ext_ext (N m : Nat) (f : Nat → Hx) : ext (N + m) (ext N f) = ext N f := by
  funext k
  unfold ext
  by_cases hk : k < N
  · rw [if_pos (by omega)]
  · rw [if_neg hk]; split <;> rfl
theorem flat_zeros (m : Nat) : (Builtin.zeroCells (dv fun _ => 0#8).cells m).toList = flat m fun _ => zero 0 := by
  apply List.ext_getElem?
  intro i
  have hz : (dv fun _ => 0#8).cells.size = 32 := zcells
  by_cases hi : i < m * 32
  · have e2 := flat_at (n := m) (f := fun _ => zero 0) (k := i / 32) (j := i % 32) (by omega) (by omega)
    rw [show 32 * (i / 32) + i % 32 = i from by omega] at e2
    rw [e2]
    have h1 : (dv fun _ => 0#8).cells[i % 32]! = bv 0#8 := by
      show (tab 32 fun i => bv ((fun _ => 0#8 : Hx) i))[i % 32]! = _
      simp [tab, Nat.mod_lt]
    simp [Builtin.zeroCells, hz, hi, h1, zero]
  · rw [List.getElem?_eq_none (by simp [Builtin.zeroCells, hz]; omega), List.getElem?_eq_none (by rw [flat_len]; omega)]
theorem flat_more (N m : Nat) (f : Nat → Hx) : flat N f ++ flat m (fun _ => zero 0) = flat (N + m) (ext N f) := by
  rw [flat_append]; rfl
set_option maxHeartbeats 4000000 in
set_option maxRecDepth 100000 in
theorem halves_walk (d : Int) (a : Option Addr) (n c : Nat) (f : Nat → Hx) (i : Int) (w : World) (hs : IsHs w a n f) (hnil : a = none → n = 0 ∧ c = 0) (hnc : n ≤ c) (hn : n ≤ 4398046511104) (hd : -9223372036854775808 ≤ d ∧ d ≤ 9223372036854775807) (hi : -9223372036854775808 ≤ i ∧ i ≤ 9223372036854775807) (ht : Laid.KTab w) :
    Calls Tryd.prog 3 #[.int .i64 d, .slice a n c, .int .i64 i] w fun e w' => e = .returned (.bool true) ∧ Below w.heap.size w w' := by
  have HT := Lib.hid ht
  have HHS := Lib.hid (hashes_walk a n c f w hs hnc hn)
  clear hs ht hnil hd hi
  obtain ⟨j0, hj0, hj1, hj2, hj3⟩ := infHs
  have HJ := Lib.hid (And.intro hj0 (And.intro hj1 (And.intro hj2 hj3)))
  clear hj0 hj1 hj2 hj3
  obtain ⟨D, hD0, hDb⟩ := u64_mod d 10 (by decide)
  obtain ⟨E, hE⟩ : ∃ E : Nat, (D : Int) + 1 = (E : Int) := ⟨D + 1, by omega⟩
  have hEE : E = D + 1 := by omega
  have HEE := Lib.hid hEE
  clear hEE
  have hDn : (D : Int) ≤ 9 := by omega
  have hEn : (E : Int) ≤ 10 := by omega
  obtain ⟨m5, hm5, hm5b⟩ := u64_mod i 5 (by decide)
  have HM5 := Lib.hid hm5
  clear hm5 hDb
  have z2 := zeroHash
  generalize hz : (tab 32 fun _ => bv 0#8) = zh at *
  have HZ := Lib.hid hz
  clear hz
  have hzl : zh.size = 32 := by rw [← HZ.out, tab_size]
  have HZL := Lib.hid hzl
  clear hzl
  go_enter Tryd.func3, Tryd.ntmps3
  go_upto_region 2 with (fail)
  clear hD0
  go_upto_region 3 with (go_at_call 7; (with_reducible refine HHS.out.mono ?_); rintro e y0 ⟨V9, rfl, hrow, hb⟩; have H1 := Lib.hid (And.intro hrow hb); clear hrow hb)
  obtain ⟨a9, c9, rfl, hc1, hc2, hlv⟩ := lv_of_row H1.out.1
  have H2 := Lib.hid (And.intro hc1 (And.intro hc2 hlv))
  have hc2' := hc2
  unfold maxLen at hc2'
  have hcI : (c9 : Int) ≤ 9223372036854775807 := by omega
  have hnI : (n : Int) ≤ (c9 : Int) := by omega
  clear hlv hc1 hc2 hc2'
  have hp : (2 : Int) ^ E ≤ 1024 := by have := p2_nat E 10 (by omega); simpa using this
  have hp0 := p2_pos E
  have hpd : (2 : Int) ^ D ≤ 512 := by have := p2_nat D 9 (by omega); simpa using this
  have hpd0 := p2_pos D
  obtain ⟨N, hN⟩ : ∃ N : Nat, N = min n (2 ^ E) := ⟨_, rfl⟩
  have hpe : ((2 ^ E : Nat) : Int) = (2 : Int) ^ E := by rw [Int.natCast_pow]; rfl
  have hpdd : ((2 ^ D : Nat) : Int) = (2 : Int) ^ D := by rw [Int.natCast_pow]; rfl
  have hpn : ((2 : Int) ^ E).toNat = 2 ^ E := by omega
  have HNN : Hid (N ≤ n ∧ N ≤ 2 ^ E ∧ N ≤ 1024) := Lib.hid (by omega)
  have HPE := Lib.hid (And.intro hpe (And.intro hpn hpdd))
  clear hpe hpn hpdd
  have HM : Hid (Tb w a9 N f [] y0 ∧ (a9 = none → N = 0 ∧ c9 = 0) ∧ N ≤ c9) := by
    have h := hs_row (row_less H1.out.1 HNN.out.1)
    exact Lib.hid ⟨⟨h.1, (fun _ h => by cases h), H1.out.2⟩, h.2.1, h.2.2.1⟩
  by_cases hgt : (2 : Int) ^ E < (n : Int)
  case' pos =>
    have hex : ∃ g, a9 = some ⟨g, 0, none⟩ := by
      rcases H2.out.2.2 with ⟨h0, _⟩ | ⟨g, h, _⟩
      · exfalso; omega
      · exact ⟨g, h⟩
    obtain ⟨g, rfl⟩ := hex
    have hNe : ((2 : Int) ^ E).toNat = N := by rw [HPE.out.2.1, hN]; have := HPE.out.1; omega
    have HNE := Lib.hid hNe
    clear hNe hN
    go_upto_region 5 with (fail)
    rw [HNE.out]
    clear hgt HNE
    generalize hA : (some (⟨g, 0, none⟩ : Addr)) = a9 at *
    clear hA
  case' neg =>
    have hNe : n = N := by rw [hN]; have := HPE.out.1; omega
    have HNE := Lib.hid hNe
    clear hNe hN
    go_upto_region 5 with (fail)
    rw [show Value.slice a9 n c9 = Value.slice a9 N c9 from by rw [← HNE.out]]
    clear hgt HNE
  all_goals
    clear H1 H2 hnI
    obtain ⟨h, hh⟩ : ∃ h : Nat, min (N : Int) ((2 : Int) ^ D) = (h : Int) := ⟨min N (2 ^ D), by have := HPE.out.2.2; omega⟩
    have HH : Hid (h = min N (2 ^ D) ∧ h ≤ N ∧ h ≤ 2 ^ D ∧ N - h ≤ 2 ^ D ∧ N + 4 ≤ 1028) := Lib.hid (by
      have h1 := HPE.out.2.2
      have h2 := HNN.out
      have h3 : 2 ^ E = 2 ^ D + 2 ^ D := by rw [HEE.out, Nat.pow_succ]; omega
      omega)
    have hhN : (h : Int) ≤ (N : Int) := by have := HH.out; omega
    have hNc : (N : Int) ≤ (c9 : Int) := by have := HM.out.2.2; omega
    have mn := fun ts t k a b w => Mm.run_min2 (P := Tryd.prog) (ts := ts) (t := t) (k := k) a b w
    go_upto_region 6 with (fail)
    clear mn hh
    obtain ⟨A, hA⟩ : ∃ A, und (ext h f) D 0 = A := ⟨_, rfl⟩
    obtain ⟨B, hB⟩ : ∃ B, und (ext (N - h) fun k => f (h + k)) D 0 = B := ⟨_, rfl⟩
    have HAB := Lib.hid (And.intro hA hB)
    clear hA hB
    have HUE : Hid (und (ext N f) E 0 = pr A B) := Lib.hid (by rw [HEE.out, und_halves, ← HH.out.1, HAB.out.1, HAB.out.2])
    have T0 := Lib.hid HM.out.1
    have HC9 := Lib.hid HM.out.2
    have hr6 := root_any (E : Int) a9 N c9 f y0 T0.out.hs HC9.out.1 HC9.out.2 (by have := HNN.out; omega) (ktab_below HT.out T0.out.below)
    rw [wrong_in (by omega) HNN.out.2.1, rootOf_in (by omega) HNN.out.2.1, err0, HUE.out] at hr6
    have HR6 := Lib.hid hr6
    clear hr6
    go_upto_region 7 with (first
      | (go_at_call 8; (with_reducible refine HR6.out.mono ?_); rintro e v6 ⟨rfl, hb⟩; have K6 := Lib.hid (T0.out.next hb); clear hb)
      | ((with_reducible refine wpList_store_row (P := Tryd.prog) (w := v6.alloc (.cells zh 27)) ?_ 27 (.tmp 9) (.tmp 51) ?_ v6.heap.size (tab 32 fun i => bv (pr A B i)) ?_ ?_ 27 zh (heap_alloc_last v6 _) (infH _) ?_ (one_bv _ _) ?_); (· exact rfl); (· exact rfl); (· exact rfl); (· exact rfl); (· rw [HZL.out, tab_size]); rw [World.setRow_alloc_new]; simp only [Act.put]))
    have T6 := Lib.hid (K6.out.add (pr A B))
    clear K6 HR6
    generalize v6.alloc (.cells (tab 32 fun i => bv (pr A B i)) 27) = y6 at *
    generalize v6.heap.size = q9 at *
    have HSL := Lib.hid (show (h : Int) ≤ N ∧ (0:Int) ≤ h from by omega)
    have hr7 := root_any (D : Int) a9 h c9 f y6 (T6.out.hs.less HH.out.2.1) (fun e => by have := HC9.out.1 e; have := HH.out; omega) (by have := HC9.out.2; have := HH.out; omega) (by have := HNN.out; have := HH.out; omega) (ktab_below HT.out T6.out.below)
    rw [wrong_in (by omega) HH.out.2.2.1, rootOf_in (by omega) HH.out.2.2.1, err0, HAB.out.1] at hr7
    have HR7 := Lib.hid hr7
    clear hr7
    go_upto_region 8 with (first
      | (go_at_call 8; (with_reducible refine HR7.out.mono ?_); rintro e v7 ⟨rfl, hb⟩; have K7 := Lib.hid (T6.out.next hb); clear hb)
      | ((with_reducible refine wpList_store_row (P := Tryd.prog) (w := v7.alloc (.cells zh 27)) ?_ 27 (.tmp 11) (.tmp 59) ?_ v7.heap.size (tab 32 fun i => bv (A i)) ?_ ?_ 27 zh (heap_alloc_last v7 _) (infH _) ?_ (one_bv _ _) ?_); (· exact rfl); (· exact rfl); (· exact rfl); (· exact rfl); (· rw [HZL.out, tab_size]); rw [World.setRow_alloc_new]; simp only [Act.put]))
    have T7 := Lib.hid (K7.out.add (A))
    clear K7 HR7
    generalize v7.alloc (.cells (tab 32 fun i => bv (A i)) 27) = y7 at *
    generalize v7.heap.size = q11 at *
    obtain ⟨a8, c8, hsl, hs8, hn8, hl8⟩ := rest_hs HH.out.2.1 HC9.out.2 T7.out.hs HC9.out.1
    have HS8 := Lib.hid (And.intro hs8 (And.intro hn8 hl8))
    clear hs8 hn8 hl8
    have hr8 := root_any (D : Int) a8 (N - h) c8 (fun k => f (h + k)) y7 HS8.out.1 HS8.out.2.1 HS8.out.2.2 (by have := HNN.out; omega) (ktab_below HT.out T7.out.below)
    rw [wrong_in (by omega) HH.out.2.2.2.1, rootOf_in (by omega) HH.out.2.2.2.1, err0, HAB.out.2] at hr8
    have HR8 := Lib.hid hr8
    clear hr8
    go_upto_region 9 with (first
      | (go_at_call 8; (with_reducible refine HR8.out.mono ?_); rintro e v8 ⟨rfl, hb⟩; have K8 := Lib.hid (T7.out.next hb); clear hb)
      | ((with_reducible refine wpList_store_row (P := Tryd.prog) (w := v8.alloc (.cells zh 27)) ?_ 27 (.tmp 13) (.tmp 67) ?_ v8.heap.size (tab 32 fun i => bv (B i)) ?_ ?_ 27 zh (heap_alloc_last v8 _) (infH _) ?_ (one_bv _ _) ?_); (· exact rfl); (· exact rfl); (· exact rfl); (· exact rfl); (· rw [HZL.out, tab_size]); rw [World.setRow_alloc_new]; simp only [Act.put]))
    have T8 := Lib.hid (K8.out.add (B))
    clear K8 HR8
    generalize v8.alloc (.cells (tab 32 fun i => bv (B i)) 27) = y8 at *
    generalize v8.heap.size = q13 at *
    clear hsl
    have T8' := T8.out
    have NE : Nonempty (Wd (Tb w a9 N f [(q13, B), (q11, A), (q9, pr A B)])) := ⟨⟨_, T8'⟩⟩
    have l9 : ∀ u, (∃ z : Wd (Tb w a9 N f [(q13, B), (q11, A), (q9, pr A B)]), u = z.val) → (Instr.loadAt 27 (.pointer (some ⟨q9, 0, none⟩))).run Tryd.prog u = .ok (dv (pr A B)) u := fun u ⟨z, hz⟩ => by rw [hz]; exact z.ok.load (by simp)
    have l11 : ∀ u, (∃ z : Wd (Tb w a9 N f [(q13, B), (q11, A), (q9, pr A B)]), u = z.val) → (Instr.loadAt 27 (.pointer (some ⟨q11, 0, none⟩))).run Tryd.prog u = .ok (dv A) u := fun u ⟨z, hz⟩ => by rw [hz]; exact z.ok.load (by simp)
    have l13 : ∀ u, (∃ z : Wd (Tb w a9 N f [(q13, B), (q11, A), (q9, pr A B)]), u = z.val) → (Instr.loadAt 27 (.pointer (some ⟨q13, 0, none⟩))).run Tryd.prog u = .ok (dv B) u := fun u ⟨z, hz⟩ => by rw [hz]; exact z.ok.load (by simp)
    have L9 := Lib.hid l9
    have L11 := Lib.hid l11
    have L13 := Lib.hid l13
    clear l9 l11 l13
    have c1 := fun z : Wd (Tb w a9 N f [(q13, B), (q11, A), (q9, pr A B)]) => in_of_below z (fun y hb => z.ok.next hb) (pair_dv A B z.val (ktab_below HT.out z.ok.below))
    have c2 := fun z : Wd (Tb w a9 N f [(q13, B), (q11, A), (q9, pr A B)]) => in_of_below z (fun y hb => z.ok.next hb) (fixed5 z.val (ktab_below HT.out z.ok.below))
    have Q1 := Lib.hid c1
    have Q2 := Lib.hid c2
    clear c1 c2
    have eN := neqT (pr A B)
    have eG := guardN
    have HR : Hid (Tb w a9 N f [(q13, B), (q11, A), (q9, pr A B)] y8.drew) := Lib.hid ⟨T8'.hs, T8'.ts, T8'.below.drew⟩
    clear T8'
    refine wp_region_in (Tb w a9 N f [(q13, B), (q11, A), (q9, pr A B)]) (by kernel_rfl) (by kernel_rfl) HR.out ?_
    repeat (first
      | (refine wpQuiet_loadg 27 _ (.pointer (some ⟨q9, 0, none⟩)) _ (by rfl) rfl rfl L9.out ?_; simp only [Act.put, List.setIfInBounds_toArray, List.set_cons_zero, List.set_cons_succ])
      | (refine wpQuiet_loadg 27 _ (.pointer (some ⟨q11, 0, none⟩)) _ (by rfl) rfl rfl L11.out ?_; simp only [Act.put, List.setIfInBounds_toArray, List.set_cons_zero, List.set_cons_succ])
      | (refine wpQuiet_loadg 27 _ (.pointer (some ⟨q13, 0, none⟩)) _ (by rfl) rfl rfl L13.out ?_; simp only [Act.put, List.setIfInBounds_toArray, List.set_cons_zero, List.set_cons_succ])
      | (go_big_quiet_step (first | with_reducible exact Q1.out _ | with_reducible exact Q2.out _)))
    refine wpQuiet_nil ?_
    rintro _ ⟨z, rfl⟩
    obtain ⟨y9, ok9⟩ := z
    have T9 := Lib.hid ok9
    dsimp only
    clear ok9 NE L9 L11 L13 Q1 Q2 eN eG HR T0 T6 T7 T8 HS8
    go_upto_region 11 with (fail)
    obtain ⟨m, hm⟩ : ∃ m : Nat, min (m5 : Int) (2 ^ E - (N : Int)) = (m : Int) := ⟨min m5 (2 ^ E - N), by have := HPE.out; have := HNN.out; omega⟩
    have HMM : Hid (m ≤ 4 ∧ N + m ≤ 2 ^ E ∧ N + m ≤ 1028) := Lib.hid (by have := HPE.out; have := HNN.out; omega)
    have hm5 := HM5.out
    have mn := fun ts t k a b w => Mm.run_min2 (P := Tryd.prog) (ts := ts) (t := t) (k := k) a b w
    have hNE : (N : Int) ≤ 2 ^ E := by have := HPE.out; have := HNN.out; omega
    have BL0 : Hid (Below y9.heap.size y9 (y9.alloc (.cells #[] 27))) := Lib.hid ((Below.refl _ _).alloc (Nat.le_refl _) _)
    have OW0 := Lib.hid (owns_none y9 27 32)
    have SRC := Lib.hid (src_hs (c := c9) (T9.out.hs.below BL0.out) HC9.out.1)
    have H32 : Hid (0 < 32) := Lib.hid (by decide)
    have HL1 : Hid (0 + N ≤ maxLen ∧ (0 + N) * 32 ≤ 140737488355328) := Lib.hid (by have := HNN.out; unfold maxLen; omega)
    have HL2 : Hid (0 + N + m ≤ maxLen ∧ (0 + N + m) * 32 ≤ 140737488355328) := Lib.hid (by have := HMM.out; unfold maxLen; omega)
    have bld0 : ∀ u : World, (Instr.buildSlice 24 0 #[]).run Tryd.prog u = .ok (.slice (some ⟨u.heap.size, 0, none⟩) 0 0) (u.alloc (.cells #[] 27)) := fun u => by kernel_rfl
    go_upto_region 12 with (first
      | (at_builtin; (with_reducible refine wpList_append_any (P := Tryd.prog) (w := y9.alloc (.cells #[] 27)) ?_ (.tmp 90) (.tmp 91) 24 ?_ y9.heap.size 27 j0 (dv fun _ => 0#8) 32 32 undHs HJ.out zcells H32.out (.slice (some ⟨y9.heap.size, 0, none⟩) 0 0) 0 [] ?_ OW0.out a9 N c9 (flat N f) ?_ SRC.out (flat_one _ _) HL1.out.1 HL1.out.2 BL0.out.size ?_); (· exact rfl); (· exact rfl); (· exact rfl); (· exact rfl); intro V7 w7 hown7 hgr7 hat7; have BL1 := Lib.hid (And.intro (grown_below BL0.out OW0.out hgr7) hown7); clear hown7 hgr7 hat7)
      | (at_builtin; (with_reducible refine wpList_append_zeros (P := Tryd.prog) (w := w7) ?_ (.tmp 92) (.tmp 104) 24 3 ?_ y9.heap.size 27 .i64 j0 (dv fun _ => 0#8) 32 32 undHs undInt HJ.out zcells H32.out V7 (0 + N) ([] ++ flat N f) ?_ BL1.out.2 m ?_ (by rw [flat_zeros]; exact flat_one _ _) HL2.out.1 HL2.out.2 BL1.out.1.size ?_); (· exact rfl); (· exact rfl); (· exact rfl); (· exact rfl); intro V8 w8 hown8 hgr8; have BL2 := Lib.hid (And.intro (grown_below BL1.out.1 BL1.out.2 hgr8) hown8); clear hown8 hgr8))
    have T11 : Hid (Tb w a9 N f [(q13, B), (q11, A), (q9, pr A B)] w8 ∧ w8.ownsRow y9.heap.size 27 32 V8 (N + m) (flat (N + m) (ext N f))) := Lib.hid ⟨T9.out.next BL2.out.1, by
      have h := BL2.out.2
      rw [flat_zeros, List.nil_append, flat_more, Nat.zero_add] at h
      exact h⟩
    clear bld0 hm5 hm mn hNE BL0 OW0 SRC H32 HL1 HL2 BL1 BL2 T9
    obtain ⟨a15, c15, rfl, hs15, hn15, hl15, _⟩ := hs_of T11.out.2
    have HS15 := Lib.hid (And.intro hs15 (And.intro hn15 hl15))
    have T10 := Lib.hid T11.out.1
    clear T11 hs15 hn15 hl15
    have hr12 := root_any (E : Int) a15 (N + m) c15 (ext N f) w8 HS15.out.1 HS15.out.2.1 HS15.out.2.2 (by have := HMM.out; omega) (ktab_below HT.out T10.out.below)
    rw [wrong_in (by omega) HMM.out.2.1, rootOf_in (by omega) HMM.out.2.1, err0, ext_ext, HUE.out] at hr12
    have HR12 := Lib.hid hr12
    clear hr12
    go_upto_region 13 with (first
      | (go_at_call 8; (with_reducible refine HR12.out.mono ?_); rintro e v12 ⟨rfl, hb⟩; have K12 := Lib.hid (T10.out.next hb); clear hb)
      | ((with_reducible refine wpList_store_row (P := Tryd.prog) (w := v12.alloc (.cells zh 27)) ?_ 27 (.tmp 16) (.tmp 111) ?_ v12.heap.size (tab 32 fun i => bv (pr A B i)) ?_ ?_ 27 zh (heap_alloc_last v12 _) (infH _) ?_ (one_bv _ _) ?_); (· exact rfl); (· exact rfl); (· exact rfl); (· exact rfl); (· rw [HZL.out, tab_size]); rw [World.setRow_alloc_new]; simp only [Act.put]))
    have T12 := Lib.hid (K12.out.add (pr A B))
    clear K12 HR12
    generalize v12.alloc (.cells (tab 32 fun i => bv (pr A B i)) 27) = y12 at *
    generalize v12.heap.size = q16 at *
    obtain ⟨Z, hZ⟩ : ∃ Z, zero D = Z := ⟨_, rfl⟩
    have HZZ := Lib.hid hZ
    clear hZ
    have HZE : Hid (zero E = pr Z Z) := Lib.hid (by rw [HEE.out, ← HZZ.out]; rfl)
    have hr13 := zero_ok D (by omega) y12 (ktab_below HT.out T12.out.below)
    rw [HZZ.out] at hr13
    have HR13 := Lib.hid hr13
    clear hr13
    go_upto_region 14 with (first
      | (go_at_call 11; (with_reducible refine HR13.out.mono ?_); rintro e v13 ⟨rfl, hb⟩; have K13 := Lib.hid (T12.out.next hb); clear hb)
      | ((with_reducible refine wpList_store_row (P := Tryd.prog) (w := v13.alloc (.cells zh 27)) ?_ 27 (.tmp 17) (.tmp 116) ?_ v13.heap.size (tab 32 fun i => bv (Z i)) ?_ ?_ 27 zh (heap_alloc_last v13 _) (infH _) ?_ (one_bv _ _) ?_); (· exact rfl); (· exact rfl); (· exact rfl); (· exact rfl); (· rw [HZL.out, tab_size]); rw [World.setRow_alloc_new]; simp only [Act.put]))
    have T13 := Lib.hid (K13.out.add (Z))
    clear K13 HR13
    generalize v13.alloc (.cells (tab 32 fun i => bv (Z i)) 27) = y13 at *
    generalize v13.heap.size = q17 at *
    have hr14 := root_any (D : Int) none 0 0 (fun _ => zero 0) y13 (.inl rfl) (fun _ => ⟨rfl, rfl⟩) (Nat.le_refl _) (by omega) (ktab_below HT.out T13.out.below)
    rw [wrong_in (by omega) (Nat.zero_le _), rootOf_in (by omega) (Nat.zero_le _), err0, und_ext_out 0 _ D 0 (Nat.le_refl _), HZZ.out] at hr14
    have HR14 := Lib.hid hr14
    clear hr14
    go_upto_region 15 with (first
      | (go_at_call 8; (with_reducible refine HR14.out.mono ?_); rintro e v14 ⟨rfl, hb⟩; have K14 := Lib.hid (T13.out.next hb); clear hb)
      | ((with_reducible refine wpList_store_row (P := Tryd.prog) (w := v14.alloc (.cells zh 27)) ?_ 27 (.tmp 18) (.tmp 121) ?_ v14.heap.size (tab 32 fun i => bv (Z i)) ?_ ?_ 27 zh (heap_alloc_last v14 _) (infH _) ?_ (one_bv _ _) ?_); (· exact rfl); (· exact rfl); (· exact rfl); (· exact rfl); (· rw [HZL.out, tab_size]); rw [World.setRow_alloc_new]; simp only [Act.put]))
    have T14 := Lib.hid (K14.out.add (Z))
    clear K14 HR14
    generalize v14.alloc (.cells (tab 32 fun i => bv (Z i)) 27) = y14 at *
    generalize v14.heap.size = q18 at *
    have hr15 := zero_ok E (by omega) y14 (ktab_below HT.out T14.out.below)
    rw [HZE.out] at hr15
    have HR15 := Lib.hid hr15
    clear hr15
    go_upto_region 16 with (first
      | (go_at_call 11; (with_reducible refine HR15.out.mono ?_); rintro e v15 ⟨rfl, hb⟩; have K15 := Lib.hid (T14.out.next hb); clear hb)
      | ((with_reducible refine wpList_store_row (P := Tryd.prog) (w := v15.alloc (.cells zh 27)) ?_ 27 (.tmp 19) (.tmp 127) ?_ v15.heap.size (tab 32 fun i => bv (pr Z Z i)) ?_ ?_ 27 zh (heap_alloc_last v15 _) (infH _) ?_ (one_bv _ _) ?_); (· exact rfl); (· exact rfl); (· exact rfl); (· exact rfl); (· rw [HZL.out, tab_size]); rw [World.setRow_alloc_new]; simp only [Act.put]))
    have T15 := Lib.hid (K15.out.add (pr Z Z))
    clear K15 HR15
    generalize v15.alloc (.cells (tab 32 fun i => bv (pr Z Z i)) 27) = y15 at *
    generalize v15.heap.size = q19 at *
    have T15' := T15.out
    have NE : Nonempty (Wd (Tb w a9 N f [(q19, pr Z Z), (q18, Z), (q17, Z), (q16, pr A B), (q13, B), (q11, A), (q9, pr A B)])) := ⟨⟨_, T15'⟩⟩
    have l9 : ∀ u, (∃ z : Wd (Tb w a9 N f [(q19, pr Z Z), (q18, Z), (q17, Z), (q16, pr A B), (q13, B), (q11, A), (q9, pr A B)]), u = z.val) → (Instr.loadAt 27 (.pointer (some ⟨q9, 0, none⟩))).run Tryd.prog u = .ok (dv (pr A B)) u := fun u ⟨z, hz⟩ => by rw [hz]; exact z.ok.load (by simp)
    have L9 := Lib.hid l9
    clear l9
    have l16 : ∀ u, (∃ z : Wd (Tb w a9 N f [(q19, pr Z Z), (q18, Z), (q17, Z), (q16, pr A B), (q13, B), (q11, A), (q9, pr A B)]), u = z.val) → (Instr.loadAt 27 (.pointer (some ⟨q16, 0, none⟩))).run Tryd.prog u = .ok (dv (pr A B)) u := fun u ⟨z, hz⟩ => by rw [hz]; exact z.ok.load (by simp)
    have L16 := Lib.hid l16
    clear l16
    have l17 : ∀ u, (∃ z : Wd (Tb w a9 N f [(q19, pr Z Z), (q18, Z), (q17, Z), (q16, pr A B), (q13, B), (q11, A), (q9, pr A B)]), u = z.val) → (Instr.loadAt 27 (.pointer (some ⟨q17, 0, none⟩))).run Tryd.prog u = .ok (dv (Z)) u := fun u ⟨z, hz⟩ => by rw [hz]; exact z.ok.load (by simp)
    have L17 := Lib.hid l17
    clear l17
    have l18 : ∀ u, (∃ z : Wd (Tb w a9 N f [(q19, pr Z Z), (q18, Z), (q17, Z), (q16, pr A B), (q13, B), (q11, A), (q9, pr A B)]), u = z.val) → (Instr.loadAt 27 (.pointer (some ⟨q18, 0, none⟩))).run Tryd.prog u = .ok (dv (Z)) u := fun u ⟨z, hz⟩ => by rw [hz]; exact z.ok.load (by simp)
    have L18 := Lib.hid l18
    clear l18
    have l19 : ∀ u, (∃ z : Wd (Tb w a9 N f [(q19, pr Z Z), (q18, Z), (q17, Z), (q16, pr A B), (q13, B), (q11, A), (q9, pr A B)]), u = z.val) → (Instr.loadAt 27 (.pointer (some ⟨q19, 0, none⟩))).run Tryd.prog u = .ok (dv (pr Z Z)) u := fun u ⟨z, hz⟩ => by rw [hz]; exact z.ok.load (by simp)
    have L19 := Lib.hid l19
    clear l19
    have c1 := fun z : Wd (Tb w a9 N f [(q19, pr Z Z), (q18, Z), (q17, Z), (q16, pr A B), (q13, B), (q11, A), (q9, pr A B)]) => in_of_below z (fun y hb => z.ok.next hb) (pair_dv Z Z z.val (ktab_below HT.out z.ok.below))
    have Q1 := Lib.hid c1
    clear c1
    have e1 := eqlT (pr A B)
    have e2 := eqlT Z
    have e3 := eqlT (pr Z Z)
    have eG := guardE
    have HR : Hid (Tb w a9 N f [(q19, pr Z Z), (q18, Z), (q17, Z), (q16, pr A B), (q13, B), (q11, A), (q9, pr A B)] y15.drew) := Lib.hid ⟨T15'.hs, T15'.ts, T15'.below.drew⟩
    clear T15'
    refine wp_region_in (Tb w a9 N f [(q19, pr Z Z), (q18, Z), (q17, Z), (q16, pr A B), (q13, B), (q11, A), (q9, pr A B)]) (by kernel_rfl) (by kernel_rfl) HR.out ?_
    repeat (first
      | (refine wpQuiet_loadg 27 _ (.pointer (some ⟨q9, 0, none⟩)) _ (by rfl) rfl rfl L9.out ?_; simp only [Act.put, List.setIfInBounds_toArray, List.set_cons_zero, List.set_cons_succ])
      | (refine wpQuiet_loadg 27 _ (.pointer (some ⟨q16, 0, none⟩)) _ (by rfl) rfl rfl L16.out ?_; simp only [Act.put, List.setIfInBounds_toArray, List.set_cons_zero, List.set_cons_succ])
      | (refine wpQuiet_loadg 27 _ (.pointer (some ⟨q17, 0, none⟩)) _ (by rfl) rfl rfl L17.out ?_; simp only [Act.put, List.setIfInBounds_toArray, List.set_cons_zero, List.set_cons_succ])
      | (refine wpQuiet_loadg 27 _ (.pointer (some ⟨q18, 0, none⟩)) _ (by rfl) rfl rfl L18.out ?_; simp only [Act.put, List.setIfInBounds_toArray, List.set_cons_zero, List.set_cons_succ])
      | (refine wpQuiet_loadg 27 _ (.pointer (some ⟨q19, 0, none⟩)) _ (by rfl) rfl rfl L19.out ?_; simp only [Act.put, List.setIfInBounds_toArray, List.set_cons_zero, List.set_cons_succ])
      | (go_big_quiet_step (first | with_reducible exact Q1.out _)))
    refine wpQuiet_nil ?_
    rintro _ ⟨z, rfl⟩
    go_wp2_with fail
    go_ret
    exact ⟨rfl, z.ok.below⟩
end Mk
theorem merkleHalves_walk {w : World} (a0 : Int) (a1 : Option Addr) (len1 cap1 : Nat) (f1 : Nat → Mk.Hx) (a2 : Int) (w0 : (Lit.int .i64 a0).wf = true) (w1 : Mk.IsHs w a1 len1 f1) (n1 : a1 = none → len1 = 0 ∧ cap1 = 0) (l1 : len1 ≤ cap1) (s1 : cap1 * 32 ≤ 140737488351232) (w2 : (Lit.int .i64 a2).wf = true) (ht : Laid.KTab w) :
    Calls Tryd.prog 3 #[.int .i64 a0, .slice a1 len1 cap1, .int .i64 a2] w fun e w' => e = .returned (.bool true) ∧ Below w.heap.size w w' :=
  Mk.halves_walk a0 a1 len1 cap1 f1 a2 w w1 n1 l1 (by omega) (by have := bounds_i64 w0; omega) (by have := bounds_i64 w2; omega) ht
end Go.Proofs.YtnfcjangminhoaaDoor
