/-
  tx: Decode. Own work.
-/
import Derived.Test.YtkhdamjjbjmeaaaDoorV2
namespace Go.Proofs.YtkhdamjjbjmeaaaDoor
open Go.ChangeShapes Go.WideShapes Go.Deep Go.RowKit
set_option linter.unusedVariables false
set_option linter.unusedSimpArgs false
namespace Rl
/-- What is wrong with an item as a field (0: nothing); its number. -/
def stO (k : Fo) (i : Nat) : Int := match k.drop i with
  | .nil => 0
  | .cons l x _ _ => if valW l x = 0 then (if inOk i (num 0 x) then 0 else 2) else valW l x
def txf (k : Fo) (i : Nat) : Nat := match k.drop i with
  | .nil => 0
  | .cons _ x _ _ => num 0 x
inductive TxR where
  | flt : Nat → Int → TxR
  | num : Int → TxR
  | ok : (Nat → Nat) → TxR
def txd' (k : Fo) : TxR := match (List.range 6).find? (fun i => stO k i != 0) with
  | some i => .flt i (stO k i)
  | none => .ok (txf k)
/-- What bytes are as a transaction. -/
def txd (bs : List Bt) : TxR := match dec bs with
  | .bad p k => .flt p k
  | .ok l _ k _ => if l = true ∧ k.len = 6 then txd' k else .num 3
theorem txd_bad {k : Fo} {j : Nat} (hj : j < 6) (h0 : ∀ i, i < j → stO k i = 0) (h : stO k j ≠ 0) : txd' k = .flt j (stO k j) := by
  have : (List.range 6).find? (fun i => stO k i != 0) = some j := by
    rw [List.find?_range_eq_some]
    exact ⟨by simpa using h, List.mem_range.2 hj, fun i hi => by simpa using h0 i hi⟩
  unfold txd'; rw [this]
theorem txd_good {k : Fo} (h0 : ∀ i, i < 6 → stO k i = 0) : txd' k = .ok (txf k) := by
  have : (List.range 6).find? (fun i => stO k i != 0) = none := by
    rw [List.find?_eq_none]
    intro i hi; have := h0 i (List.mem_range.1 hi); simp [this]
  unfold txd'; rw [this]
abbrev zf : Nat → Nat := fun _ => 0
/-- What Decode answers. -/
def txOut (B : Nat) (w : World) : TxR → Ending → Prop
  | .flt p k, e => ∃ v, e = .returned (.tuple #[txv zf, v]) ∧ IsFlt B w p k v
  | .num k, e => e = .returned (.tuple #[txv zf, eN k])
  | .ok f, e => e = .returned (.tuple #[txv f, .nilIface])
theorem Box3.oth {w : World} {q p o : Nat} {a b c : Value} (h : Box3 w q a b c) (hp : p ≠ q) (u : Value) : Box3 (w.setCell ⟨p, o, none⟩ u) q a b c :=
  ⟨by rw [World.cell?_setCell_other _ _ _ _ (fun e => hp (congrArg Addr.block e))]; exact h.k0, by rw [World.cell?_setCell_other _ _ _ _ (fun e => hp (congrArg Addr.block e))]; exact h.k1,
    by rw [World.cell?_setCell_other _ _ _ _ (fun e => hp (congrArg Addr.block e))]; exact h.k2, by simpa using h.f0, by simpa using h.f1, by simpa using h.f2⟩
/-- A box of six cells that may be written. -/
structure Box6 (w : World) (q : Nat) (g : Nat → Value) : Prop where
  k : ∀ i, i < 6 → w.cell? ⟨q, i, none⟩ = some (g i)
  f : ∀ i, i < 6 → w.frozen? ⟨q, i, none⟩ = false
theorem Box6.lt {w : World} {q : Nat} {g : Nat → Value} (h : Box6 w q g) : q < w.heap.size := inHeap (h.k 0 (by decide))
theorem Box6.keep {w w' : World} {q : Nat} {g : Nat → Value} (h : Box6 w q g) (hb : Below w.heap.size w w') : Box6 w' q g :=
  ⟨fun i hi => keep1 hb (h.k i hi), fun i hi => keepF hb h.lt (h.f i hi)⟩
theorem Box6.other {w : World} {q p o : Nat} {g : Nat → Value} (h : Box6 w q g) (hp : p ≠ q) (u : Value) : Box6 (w.setCell ⟨p, o, none⟩ u) q g :=
  ⟨fun i hi => by rw [World.cell?_setCell_other _ _ _ _ (fun e => hp (congrArg Addr.block e))]; exact h.k i hi, fun i hi => by simpa using h.f i hi⟩
theorem Box6.set {w : World} {q j : Nat} {g : Nat → Value} (h : Box6 w q g) (hj : j < 6) (u : Value) : Box6 (w.setCell ⟨q, j, none⟩ u) q (fun i => if i = j then u else g i) :=
  ⟨fun i hi => by
    by_cases e : i = j
    · rw [if_pos e, e]; exact World.cell?_setCell_same _ _ _ (h.k j hj)
    · rw [if_neg e, World.cell?_setCell_other _ _ _ _ (fun e2 => e (congrArg Addr.off e2).symm)]; exact h.k i hi, fun i hi => by simpa using h.f i hi⟩
theorem Box6.cong {w : World} {q : Nat} {g g' : Nat → Value} (h : Box6 w q g) (he : ∀ i, i < 6 → g i = g' i) : Box6 w q g' := ⟨fun i hi => by rw [← he i hi]; exact h.k i hi, h.f⟩
abbrev put6 (w : World) (q : Nat) (v0 v1 v2 v3 v4 v5 : Value) : World := (((((w.setCell ⟨q, 0, none⟩ v0).setCell ⟨q, 1, none⟩ v1).setCell ⟨q, 2, none⟩ v2).setCell ⟨q, 3, none⟩ v3).setCell ⟨q, 4, none⟩ v4).setCell ⟨q, 5, none⟩ v5
theorem Box6.put {w : World} {q : Nat} {g : Nat → Value} (h : Box6 w q g) (v0 v1 v2 v3 v4 v5 : Value) :
    (put6 w q v0 v1 v2 v3 v4 v5).cell? ⟨q, 0, none⟩ = some v0 ∧ (put6 w q v0 v1 v2 v3 v4 v5).cell? ⟨q, 1, none⟩ = some v1 ∧ (put6 w q v0 v1 v2 v3 v4 v5).cell? ⟨q, 2, none⟩ = some v2 ∧ (put6 w q v0 v1 v2 v3 v4 v5).cell? ⟨q, 3, none⟩ = some v3 ∧ (put6 w q v0 v1 v2 v3 v4 v5).cell? ⟨q, 4, none⟩ = some v4 ∧ (put6 w q v0 v1 v2 v3 v4 v5).cell? ⟨q, 5, none⟩ = some v5 := by
  have h6 := (((((h.set (j := 0) (by decide) v0).set (j := 1) (by decide) v1).set (j := 2) (by decide) v2).set (j := 3) (by decide) v3).set (j := 4) (by decide) v4).set (j := 5) (by decide) v5
  exact ⟨h6.k 0 (by decide), h6.k 1 (by decide), h6.k 2 (by decide), h6.k 3 (by decide), h6.k 4 (by decide), h6.k 5 (by decide)⟩
theorem put6_other (w : World) (q : Nat) (v0 v1 v2 v3 v4 v5 : Value) {p o : Nat} (h : p ≠ q) : (put6 w q v0 v1 v2 v3 v4 v5).cell? ⟨p, o, none⟩ = w.cell? ⟨p, o, none⟩ := by
  have e : ∀ (y : World) (i : Nat) (v : Value), (y.setCell ⟨q, i, none⟩ v).cell? ⟨p, o, none⟩ = y.cell? ⟨p, o, none⟩ := fun y i v => World.cell?_setCell_other _ _ _ _ (fun e => h (congrArg Addr.block e).symm)
  unfold put6
  rw [e, e, e, e, e, e]
theorem put6_below {B : Nat} {w0 w : World} {q : Nat} {v0 v1 v2 v3 v4 v5 : Value} (h : Below B w0 w) (hq : B ≤ q) : Below B w0 (put6 w q v0 v1 v2 v3 v4 v5) := (((((h.setCell hq _).setCell hq _).setCell hq _).setCell hq _).setCell hq _).setCell hq _
theorem Box6.new (w : World) (g : Nat → Value) (t : TypeId) : Box6 (w.alloc (.cells #[g 0, g 1, g 2, g 3, g 4, g 5] t)) w.heap.size g :=
  ⟨fun i hi => by
    match i, hi with
    | 0, _ => simp
    | 1, _ => simp
    | 2, _ => simp
    | 3, _ => simp
    | 4, _ => simp
    | 5, _ => simp, fun i hi => by simp⟩
theorem IsFlt.put6 {B p q : Nat} {w : World} {k : Int} {v : Value} {v0 v1 v2 v3 v4 v5 : Value} (h : IsFlt B w p k v) (hq : q < B) : IsFlt B (Rl.put6 w q v0 v1 v2 v3 v4 v5) p k v := by
  obtain ⟨q2, h1, h2, h3, h4⟩ := h
  exact ⟨q2, h1, h2, by rw [put6_other _ _ _ _ _ _ _ _ (by omega)]; exact h3, by rw [put6_other _ _ _ _ _ _ _ _ (by omega)]; exact h4⟩
theorem IsFlt.low {B B' p : Nat} {w : World} {k : Int} {v : Value} (h : IsFlt B w p k v) (hB : B' ≤ B) : IsFlt B' w p k v := by
  obtain ⟨q2, h1, h2, h3, h4⟩ := h
  exact ⟨q2, h1, Nat.le_trans hB h2, h3, h4⟩
abbrev gz : Nat → Value := fun _ => .int .u64 0
/-- The fields so far. -/
abbrev gj (k : Fo) (j : Nat) : Nat → Value := fun i => if i < j then .int .u64 (txf k i) else .int .u64 0
/-- What the loop over the fields keeps. -/
structure Txd (w : World) (q4 q6 : Nat) (s1 : Value) (a' : Option Addr) (c' : Nat) (k : Fo) (j : Nat) (y : World) : Prop where
  below : Below w.heap.size w y
  res : Box6 y w.heap.size gz
  it : Box3 y q4 (.bool true) s1 (.slice a' 6 c')
  tx : Box6 y q6 (gj k j)
  kids : IsK (see (fun b => b ≠ q6) y) a' 6 c' k
  n4 : w.heap.size < q4
  n6 : q4 < q6
section
variable {w : World} {q4 q6 : Nat} {s1 : Value} {a' : Option Addr} {c' : Nat} {k : Fo} {j : Nat} {y y' : World}
theorem Txd.next (h : Txd w q4 q6 s1 a' c' k j y) (hb : Below y.heap.size y y') : Txd w q4 q6 s1 a' c' k j y' :=
  ⟨bl h.below hb, h.res.keep hb, h.it.keep hb, h.tx.keep hb, h.kids.keep (see_below hb), h.n4, h.n6⟩
theorem Txd.put (h : Txd w q4 q6 s1 a' c' k j y) (hj : j < 6) : Txd w q4 q6 s1 a' c' k (j + 1) (y.setCell ⟨q6, j, none⟩ (.int .u64 (txf k j))) := by
  have h4 := h.n4
  have h6 := h.n6
  refine ⟨h.below.setCell (by show w.heap.size ≤ q6; omega) _, h.res.other (by omega) _, h.it.oth (by omega) _, (h.tx.set hj _).cong fun i hi => ?_, h.kids.keep (keep_see fun b o v g1 g2 => ⟨g1, ?_⟩), h4, h6⟩
  · show (if i = j then _ else if i < j then _ else _) = if i < j + 1 then _ else _
    by_cases e : i = j
    · rw [if_pos e, if_pos (by omega), e]
    · rw [if_neg e]
      by_cases e2 : i < j
      · rw [if_pos e2, if_pos (by omega)]
      · rw [if_neg e2, if_neg (by omega)]
  · rw [World.cell?_setCell_other _ _ _ _ (fun e => g1 (congrArg Addr.block e).symm)]; exact g2
end
set_option maxHeartbeats 1000000 in
set_option maxRecDepth 100000 in
/-- Decode of bytes that are no item, or none of six parts. -/
theorem txDecode_none (w : World) (a : Option Addr) (n c : Nat) (bs : List Bt) (hB : IsB w a n c bs) (hno : ∀ l x k j, dec bs = .ok l x k j → ¬ (l = true ∧ k.len = 6)) :
    Calls Tryd.prog 14 #[.slice a n c] w fun r w' => txOut w.heap.size w' (txd bs) r ∧ Below w.heap.size w w' := by
  have HB1 := Lib.hid (ba w (.cells #[.int .u64 0, .int .u64 0, .int .u64 0, .int .u64 0, .int .u64 0, .int .u64 0] 36))
  have HR1 : Hid (Box6 (w.alloc (.cells #[.int .u64 0, .int .u64 0, .int .u64 0, .int .u64 0, .int .u64 0, .int .u64 0] 36)) w.heap.size gz) := Lib.hid (Box6.new w gz _)
  have HD := Lib.hid (decode_walk _ a n c bs (hB.keep (keep_below HB1.out)))
  have HZ1 : Hid (w.heap.size < (w.alloc (.cells #[.int .u64 0, .int .u64 0, .int .u64 0, .int .u64 0, .int .u64 0, .int .u64 0] 36)).heap.size) := Lib.hid (by simp)
  have HT : Hid (∀ R, dec bs = R → txd bs = match R with | .bad p k => .flt p k | .ok l _ k _ => if l = true ∧ k.len = 6 then txd' k else .num 3) := Lib.hid (fun R h => by unfold txd; rw [h])
  clear hB
  cases hD : dec bs with
  | bad p k =>
    rw [hD] at HD
    have HX := Lib.hid (HT.out _ hD)
    clear hD HT hno
    go_enter Tryd.func14, Tryd.ntmps14
    go_upto_region 1 with (fail)
    generalize w.alloc (.cells #[.int .u64 0, .int .u64 0, .int .u64 0, .int .u64 0, .int .u64 0, .int .u64 0] 36) = y0 at *
    go_upto_region 3 with (go_at_call 37; (with_reducible refine HD.out.mono ?_); rintro e y1 ⟨⟨v, rfl, hF⟩, hb⟩
                           have HF := Lib.hid (hF.next (ba y1 (.cells #[.bool false, .slice none 0 0, .slice none 0 0] 79)))
                           have HR := Lib.hid ((HR1.out.keep hb).keep (ba y1 (.cells #[.bool false, .slice none 0 0, .slice none 0 0] 79)))
                           have HBL := Lib.hid (bl (bl HB1.out hb) (ba y1 (.cells #[.bool false, .slice none 0 0, .slice none 0 0] 79)))
                           obtain ⟨q, rfl, _, _, _⟩ := hF
                           unfold zIt
                           clear hb HD)
    generalize y1.alloc (.cells #[.bool false, .slice none 0 0, .slice none 0 0] 79) = y2 at *
    have g0 := HR.out.k 0 (by decide)
    have g1 := HR.out.k 1 (by decide)
    have g2 := HR.out.k 2 (by decide)
    have g3 := HR.out.k 3 (by decide)
    have g4 := HR.out.k 4 (by decide)
    have g5 := HR.out.k 5 (by decide)
    have e0 := HR.out.f 0 (by decide)
    have e1 := HR.out.f 1 (by decide)
    have e2 := HR.out.f 2 (by decide)
    have e3 := HR.out.f 3 (by decide)
    have e4 := HR.out.f 4 (by decide)
    have e5 := HR.out.f 5 (by decide)
    go_wp2_with (fail)
    obtain ⟨z0, z1, z2, z3, z4, z5⟩ := HR.out.put (.int .u64 0) (.int .u64 0) (.int .u64 0) (.int .u64 0) (.int .u64 0) (.int .u64 0)
    refine bodyPost_ret (v := .tuple #[txv zf, .iface 92 (.pointer (some ⟨q, 0, none⟩))]) (by simp [results, Tryd.results14, go_sem, z0, z1, z2, z3, z4, z5]) rfl ⟨?_, put6_below HBL.out (Nat.le_refl _)⟩
    rw [HX.out]
    exact ⟨_, rfl, (HF.out.put6 HZ1.out).low (Nat.le_of_lt HZ1.out)⟩
  | ok l x k j =>
    rw [hD] at HD
    have HX := Lib.hid (HT.out _ hD)
    have hn := hno l x k j hD
    have HNN := Lib.hid (show txd bs = .num 3 by rw [HX.out]; exact if_neg hn)
    have HL : (l = true ∧ ((k.len : Int) != 6) = true) ∨ l = false := by
      cases l
      · exact .inr rfl
      · exact .inl ⟨rfl, by simp; intro h; exact hn ⟨rfl, by omega⟩⟩
    clear hD HT hno hn HX
    rcases HL with ⟨rfl, h6⟩ | rfl
    · skip
      go_enter Tryd.func14, Tryd.ntmps14
      go_upto_region 1 with (fail)
      generalize w.alloc (.cells #[.int .u64 0, .int .u64 0, .int .u64 0, .int .u64 0, .int .u64 0, .int .u64 0] 36) = y0 at *
      go_upto_region 4 with (go_at_call 37; (with_reducible refine HD.out.mono ?_); rintro e y1 ⟨⟨a3, n3, c3, a4, n4, c4, rfl, hB3, hK3⟩, hb⟩; obtain rfl : n4 = k.len := hK3.1
                             have HR := Lib.hid ((HR1.out.keep hb).keep (ba y1 (.cells #[.bool true, .slice a3 n3 c3, .slice a4 k.len c4] 79)))
                             have HBL := Lib.hid (bl (bl HB1.out hb) (ba y1 (.cells #[.bool true, .slice a3 n3 c3, .slice a4 k.len c4] 79)))
                             have HI := Lib.hid (Box3.new y1 (.bool true) (.slice a3 n3 c3) (.slice a4 k.len c4) 79)
                             clear hb HD hB3 hK3)
      generalize y1.alloc (.cells #[.bool true, .slice a3 n3 c3, .slice a4 k.len c4] 79) = y2 at *
      obtain ⟨k0, k1, k2, _, _, _⟩ := HI.out
      have g0 := HR.out.k 0 (by decide)
      have g1 := HR.out.k 1 (by decide)
      have g2 := HR.out.k 2 (by decide)
      have g3 := HR.out.k 3 (by decide)
      have g4 := HR.out.k 4 (by decide)
      have g5 := HR.out.k 5 (by decide)
      have e0 := HR.out.f 0 (by decide)
      have e1 := HR.out.f 1 (by decide)
      have e2 := HR.out.f 2 (by decide)
      have e3 := HR.out.f 3 (by decide)
      have e4 := HR.out.f 4 (by decide)
      have e5 := HR.out.f 5 (by decide)
      go_wp2_with (fail)
      obtain ⟨z0, z1, z2, z3, z4, z5⟩ := HR.out.put (.int .u64 0) (.int .u64 0) (.int .u64 0) (.int .u64 0) (.int .u64 0) (.int .u64 0)
      refine bodyPost_ret (v := .tuple #[txv zf, eN 3]) (by simp [results, Tryd.results14, go_sem, eN, z0, z1, z2, z3, z4, z5]) rfl ⟨?_, put6_below HBL.out (Nat.le_refl _)⟩
      rw [HNN.out]
      rfl
    · skip
      go_enter Tryd.func14, Tryd.ntmps14
      go_upto_region 1 with (fail)
      generalize w.alloc (.cells #[.int .u64 0, .int .u64 0, .int .u64 0, .int .u64 0, .int .u64 0, .int .u64 0] 36) = y0 at *
      go_upto_region 4 with (go_at_call 37; (with_reducible refine HD.out.mono ?_); rintro e y1 ⟨⟨a3, n3, c3, a4, n4, c4, rfl, hB3, hK3⟩, hb⟩; obtain rfl : n4 = k.len := hK3.1
                             have HR := Lib.hid ((HR1.out.keep hb).keep (ba y1 (.cells #[.bool false, .slice a3 n3 c3, .slice a4 k.len c4] 79)))
                             have HBL := Lib.hid (bl (bl HB1.out hb) (ba y1 (.cells #[.bool false, .slice a3 n3 c3, .slice a4 k.len c4] 79)))
                             have HI := Lib.hid (Box3.new y1 (.bool false) (.slice a3 n3 c3) (.slice a4 k.len c4) 79)
                             clear hb HD hB3 hK3)
      generalize y1.alloc (.cells #[.bool false, .slice a3 n3 c3, .slice a4 k.len c4] 79) = y2 at *
      obtain ⟨k0, k1, k2, _, _, _⟩ := HI.out
      have g0 := HR.out.k 0 (by decide)
      have g1 := HR.out.k 1 (by decide)
      have g2 := HR.out.k 2 (by decide)
      have g3 := HR.out.k 3 (by decide)
      have g4 := HR.out.k 4 (by decide)
      have g5 := HR.out.k 5 (by decide)
      have e0 := HR.out.f 0 (by decide)
      have e1 := HR.out.f 1 (by decide)
      have e2 := HR.out.f 2 (by decide)
      have e3 := HR.out.f 3 (by decide)
      have e4 := HR.out.f 4 (by decide)
      have e5 := HR.out.f 5 (by decide)
      go_wp2_with (fail)
      obtain ⟨z0, z1, z2, z3, z4, z5⟩ := HR.out.put (.int .u64 0) (.int .u64 0) (.int .u64 0) (.int .u64 0) (.int .u64 0) (.int .u64 0)
      refine bodyPost_ret (v := .tuple #[txv zf, eN 3]) (by simp [results, Tryd.results14, go_sem, eN, z0, z1, z2, z3, z4, z5]) rfl ⟨?_, put6_below HBL.out (Nat.le_refl _)⟩
      rw [HNN.out]
      rfl
theorem stO_at {k r : Fo} {l : Bool} {x : List Bt} {k1 : Fo} {j : Nat} (h : k.drop j = .cons l x k1 r) : stO k j = (if valW l x = 0 then (if inOk j (num 0 x) then 0 else 2) else valW l x) ∧ txf k j = num 0 x := by
  unfold stO txf; rw [h]; exact ⟨rfl, rfl⟩
theorem flt_new {B p : Nat} {y : World} {k : Int} (hB : B ≤ y.heap.size) : IsFlt B (y.alloc (.cells #[.int .i64 p, .iface 64 (.int .i64 k)] 94)) p k (.iface 92 (.pointer (some ⟨y.heap.size, 0, none⟩))) :=
  ⟨y.heap.size, rfl, hB, by simp, by simp [eN]⟩
set_option maxHeartbeats 2000000 in
set_option maxRecDepth 100000 in
/-- Decode of bytes that are a list of six. -/
theorem txDecode_six (w : World) (a : Option Addr) (n c : Nat) (bs : List Bt) (hB : IsB w a n c bs) (x : List Bt) (k : Fo) (jj : Nat) (hD : dec bs = .ok true x k jj) (h6 : k.len = 6) :
    Calls Tryd.prog 14 #[.slice a n c] w fun r w' => txOut w.heap.size w' (txd' k) r ∧ Below w.heap.size w w' := by
  have HB1 := Lib.hid (ba w (.cells #[.int .u64 0, .int .u64 0, .int .u64 0, .int .u64 0, .int .u64 0, .int .u64 0] 36))
  have HR1 : Hid (Box6 (w.alloc (.cells #[.int .u64 0, .int .u64 0, .int .u64 0, .int .u64 0, .int .u64 0, .int .u64 0] 36)) w.heap.size gz) := Lib.hid (Box6.new w gz _)
  have HD := Lib.hid (decode_walk _ a n c bs (hB.keep (keep_below HB1.out)))
  rw [hD] at HD
  have HZ1 : Hid (w.heap.size < (w.alloc (.cells #[.int .u64 0, .int .u64 0, .int .u64 0, .int .u64 0, .int .u64 0, .int .u64 0] 36)).heap.size) := Lib.hid (by simp)
  have H6 := Lib.hid h6
  clear hB hD h6
  go_enter Tryd.func14, Tryd.ntmps14
  go_upto_region 1 with (fail)
  generalize w.alloc (.cells #[.int .u64 0, .int .u64 0, .int .u64 0, .int .u64 0, .int .u64 0, .int .u64 0] 36) = y0 at *
  go_wp2_with (first
    | (go_at_call 37; (with_reducible refine HD.out.mono ?_); rintro e y1 ⟨⟨a3, n3, c3, a4, n4, c4, rfl, hB3, hK3⟩, hb⟩; obtain rfl : n4 = 6 := by rw [hK3.1]; exact H6.out
       have HK := Lib.hid hK3
       have HR := Lib.hid (HR1.out.keep hb)
       have HBL := Lib.hid (bl HB1.out hb)
       have HZ := Lib.hid (show w.heap.size < y1.heap.size by have := HZ1.out; have := hb.size; omega)
       have HI := Lib.hid (Box3.new y1 (.bool true) (.slice a3 n3 c3) (.slice a4 6 c4) 79)
       obtain ⟨k0, k1, k2, _, _, _⟩ := HI.out
       clear hb HD hB3 hK3)
    | (go_at_call 27; (with_reducible refine (fields_walk _ (y1.heap.size + 1)).mono ?_); rintro e y4 ⟨rfl, hb⟩
       have h14 : Below y1.heap.size y1 y4 := bl (bl (ba y1 (.cells #[.bool true, .slice a3 n3 c3, .slice a4 6 c4] 79)) (ba _ (.cells #[.int .u64 0, .int .u64 0, .int .u64 0, .int .u64 0, .int .u64 0, .int .u64 0] 36))) hb
       have h6b : Box6 ((y1.alloc (.cells #[.bool true, .slice a3 n3 c3, .slice a4 6 c4] 79)).alloc (.cells #[.int .u64 0, .int .u64 0, .int .u64 0, .int .u64 0, .int .u64 0, .int .u64 0] 36)) (y1.heap.size + 1) gz := by
         have := Box6.new (y1.alloc (.cells #[.bool true, .slice a3 n3 c3, .slice a4 6 c4] 79)) gz 36
         rw [show (y1.alloc (.cells #[.bool true, .slice a3 n3 c3, .slice a4 6 c4] 79)).heap.size = y1.heap.size + 1 by simp] at this; exact this
       have HT := Lib.hid (show Txd w y1.heap.size (y1.heap.size + 1) (.slice a3 n3 c3) a4 c4 k 0 y4 from
         ⟨bl HBL.out h14, HR.out.keep h14, HI.out.keep (bl (ba _ _) hb), (h6b.keep hb).cong (fun i _ => rfl), HK.out.keep (keep_see fun b o v g1 g2 => ⟨by have := inHeap g2; omega, keep1 h14 g2⟩), HZ.out, Nat.lt_succ_self _⟩)
       clear hb h14 h6b k0 k1 k2))
  clear HK HR HBL HI HR1 HB1
  generalize y1.heap.size + 1 = q6 at *
  go_loopw [33] (fun i y => ∃ j : Nat, i = .int .i64 j ∧ Hid (j ≤ 6 ∧ (∀ i, i < j → stO k i = 0) ∧ Txd w y1.heap.size q6 (.slice a3 n3 c3) a4 c4 k j y)) (fun i _ => 6 - (intOf i).toNat)
  case atStart => exact ⟨0, rfl, Lib.hid ⟨Nat.zero_le _, fun i h => absurd h (Nat.not_lt_zero i), HT.out⟩⟩
  case round =>
    obtain ⟨j, rfl, hp⟩ := hrel
    clear HT
    have HL := Lib.hid hp.out.2.2
    by_cases hlt : (j : Int) < 6
    · have HST := Lib.hid hp.out.2.1
      have HJ := Lib.hid (show j < 6 ∧ wrap64 ((j : Int) + 1) = ((j + 1 : Nat) : Int) by refine ⟨by omega, ?_⟩; unfold wrap64; omega)
      obtain ⟨b, o, l1, bs1, k1, a1, n1, c1, a2, n2, c2, rfl, hdr, hb1, hk1, G0, G1, G2⟩ := (HL.out.kids.keep (see_keep _ _)).at (show j < 6 by omega)
      obtain ⟨hst, htx⟩ := stO_at hdr
      have HVW := Lib.hid (value_walk wr l1 n1 c1 n2 c2 a1 a2 bs1 hb1).1
      obtain ⟨x0, x1, x2, _, _, _⟩ := HL.out.it
      have HNJ := Lib.hid hst
      have HTX := Lib.hid htx
      clear hp hdr hb1 hk1 hst htx
      by_cases hval : valW l1 bs1 = 0
      · rw [if_pos hval, if_pos hval] at HVW
        rw [if_pos hval] at HNJ
        clear hval
        by_cases hin : inOk j (num 0 bs1) = true
        · rw [if_pos hin] at HNJ
          have hx : ∀ y, Txd w y1.heap.size q6 (.slice a3 n3 c3) (some ⟨b, o, none⟩) c4 k j y → y.cell? ⟨q6, j, none⟩ = some (.int .u64 0) := fun y h => by have := h.tx.k j HJ.out.1; simpa [gj] using this
          have HX := Lib.hid hx
          clear hx
          go_wp2_with (first
            | (refine wpList_six rfl (.tmp 32) (.tmp 33) rfl q6 j HJ.out.1 rfl rfl ?_)
            | (go_at_call 38; (with_reducible refine HVW.out.mono ?_); rintro e y5 ⟨rfl, hb⟩; have HL5 := Lib.hid (HL.out.next hb); have c0 := HX.out _ HL5.out; have c1 := HL5.out.tx.f j HJ.out.1; clear hb HVW)
            | (go_at_call 30; (with_reducible refine (inRange_walk _ j (num 0 bs1)).mono ?_); rintro e y6 ⟨rfl, rfl⟩; rw [hin]))
          try rw [HJ.out.2]
          go_roundw
          case rel => exact ⟨j + 1, rfl, Lib.hid ⟨HJ.out.1, fun i hi => by
            by_cases e : i = j
            · rw [e]; exact HNJ.out
            · exact HST.out i (by omega), by have := HL5.out.put HJ.out.1; rw [HTX.out] at this; exact this⟩⟩
          case measure => have := HJ.out.1; show 6 - (j + 1) < 6 - j; omega
        · have hinf : inOk j (num 0 bs1) = false := by simpa using hin
          rw [if_neg hin] at HNJ
          clear hin
          go_wp2_with (first
            | (refine wpList_six rfl (.tmp 32) (.tmp 33) rfl q6 j HJ.out.1 rfl rfl ?_)
            | (go_at_call 38; (with_reducible refine HVW.out.mono ?_); rintro e y5 ⟨rfl, hb⟩; have HL5 := Lib.hid (HL.out.next hb)
               have HR := Lib.hid (HL5.out.res.keep (ba _ (.cells #[.int .i64 j, .iface 64 (.int .i64 2)] 94)))
               have g0 := HR.out.k 0 (by decide)
               have g1 := HR.out.k 1 (by decide)
               have g2 := HR.out.k 2 (by decide)
               have g3 := HR.out.k 3 (by decide)
               have g4 := HR.out.k 4 (by decide)
               have g5 := HR.out.k 5 (by decide)
               have e0 := HR.out.f 0 (by decide)
               have e1 := HR.out.f 1 (by decide)
               have e2 := HR.out.f 2 (by decide)
               have e3 := HR.out.f 3 (by decide)
               have e4 := HR.out.f 4 (by decide)
               have e5 := HR.out.f 5 (by decide)
               clear hb HVW)
            | (go_at_call 30; (with_reducible refine (inRange_walk _ j (num 0 bs1)).mono ?_); rintro e y6 ⟨rfl, rfl⟩; rw [hinf]))
          obtain ⟨z0, z1, z2, z3, z4, z5⟩ := HR.out.put (.int .u64 0) (.int .u64 0) (.int .u64 0) (.int .u64 0) (.int .u64 0) (.int .u64 0)
          refine bodyPost_ret (v := .tuple #[txv zf, .iface 92 (.pointer (some ⟨y5.heap.size, 0, none⟩))]) (by simp [results, Tryd.results14, go_sem, z0, z1, z2, z3, z4, z5]) rfl ⟨?_, put6_below (bl HL5.out.below (ba _ _)) (Nat.le_refl _)⟩
          rw [txd_bad HJ.out.1 HST.out (by rw [HNJ.out]; decide), HNJ.out]
          exact ⟨_, rfl, ((flt_new (B := w.heap.size + 1) (by have := HL5.out.res.lt; omega)).put6 (Nat.lt_succ_self _)).low (Nat.le_succ _)⟩
      · rw [if_neg hval, if_neg hval] at HVW
        rw [if_neg hval] at HNJ
        have HVN := Lib.hid hval
        generalize valW l1 bs1 = K at *
        unfold eN at HVW
        clear hval
        go_wp2_with (first
          | (refine wpList_six rfl (.tmp 32) (.tmp 33) rfl q6 j HJ.out.1 rfl rfl ?_)
          | (go_at_call 38; (with_reducible refine HVW.out.mono ?_); rintro e y5 ⟨rfl, hb⟩; have HL5 := Lib.hid (HL.out.next hb)
             have HR := Lib.hid (HL5.out.res.keep (ba _ (.cells #[.int .i64 j, .iface 64 (.int .i64 K)] 94)))
             have g0 := HR.out.k 0 (by decide)
             have g1 := HR.out.k 1 (by decide)
             have g2 := HR.out.k 2 (by decide)
             have g3 := HR.out.k 3 (by decide)
             have g4 := HR.out.k 4 (by decide)
             have g5 := HR.out.k 5 (by decide)
             have e0 := HR.out.f 0 (by decide)
             have e1 := HR.out.f 1 (by decide)
             have e2 := HR.out.f 2 (by decide)
             have e3 := HR.out.f 3 (by decide)
             have e4 := HR.out.f 4 (by decide)
             have e5 := HR.out.f 5 (by decide)
             clear hb HVW))
        obtain ⟨z0, z1, z2, z3, z4, z5⟩ := HR.out.put (.int .u64 0) (.int .u64 0) (.int .u64 0) (.int .u64 0) (.int .u64 0) (.int .u64 0)
        refine bodyPost_ret (v := .tuple #[txv zf, .iface 92 (.pointer (some ⟨y5.heap.size, 0, none⟩))]) (by simp [results, Tryd.results14, go_sem, z0, z1, z2, z3, z4, z5]) rfl ⟨?_, put6_below (bl HL5.out.below (ba _ _)) (Nat.le_refl _)⟩
        rw [txd_bad HJ.out.1 HST.out (by rw [HNJ.out]; exact HVN.out), HNJ.out]
        exact ⟨_, rfl, ((flt_new (B := w.heap.size + 1) (by have := HL5.out.res.lt; omega)).put6 (Nat.lt_succ_self _)).low (Nat.le_succ _)⟩
    · obtain rfl : j = 6 := by have := hp.out.1; omega
      have HG := Lib.hid (txd_good hp.out.2.1)
      clear hp
      have c0 : wr.cell? ⟨q6, 0, none⟩ = some (.int .u64 (txf k 0)) := HL.out.tx.k 0 (by decide)
      have c1 : wr.cell? ⟨q6, 1, none⟩ = some (.int .u64 (txf k 1)) := HL.out.tx.k 1 (by decide)
      have c2 : wr.cell? ⟨q6, 2, none⟩ = some (.int .u64 (txf k 2)) := HL.out.tx.k 2 (by decide)
      have c3 : wr.cell? ⟨q6, 3, none⟩ = some (.int .u64 (txf k 3)) := HL.out.tx.k 3 (by decide)
      have c4 : wr.cell? ⟨q6, 4, none⟩ = some (.int .u64 (txf k 4)) := HL.out.tx.k 4 (by decide)
      have c5 : wr.cell? ⟨q6, 5, none⟩ = some (.int .u64 (txf k 5)) := HL.out.tx.k 5 (by decide)
      have HR := Lib.hid HL.out.res
      have g0 := HR.out.k 0 (by decide)
      have g1 := HR.out.k 1 (by decide)
      have g2 := HR.out.k 2 (by decide)
      have g3 := HR.out.k 3 (by decide)
      have g4 := HR.out.k 4 (by decide)
      have g5 := HR.out.k 5 (by decide)
      have e0 := HR.out.f 0 (by decide)
      have e1 := HR.out.f 1 (by decide)
      have e2 := HR.out.f 2 (by decide)
      have e3 := HR.out.f 3 (by decide)
      have e4 := HR.out.f 4 (by decide)
      have e5 := HR.out.f 5 (by decide)
      go_wp2_with (fail)
      obtain ⟨z0, z1, z2, z3, z4, z5⟩ := HR.out.put (.int .u64 (txf k 0)) (.int .u64 (txf k 1)) (.int .u64 (txf k 2)) (.int .u64 (txf k 3)) (.int .u64 (txf k 4)) (.int .u64 (txf k 5))
      refine bodyPost_ret (v := .tuple #[txv (txf k), .nilIface]) (by simp [results, Tryd.results14, go_sem, z0, z1, z2, z3, z4, z5]) rfl ⟨?_, put6_below HL.out.below (Nat.le_refl _)⟩
      rw [HG.out]
      rfl
theorem txDecode_walk (w : World) (a : Option Addr) (n c : Nat) (bs : List Bt) (hB : IsB w a n c bs) :
    Calls Tryd.prog 14 #[.slice a n c] w fun r w' => txOut w.heap.size w' (txd bs) r ∧ Below w.heap.size w w' := by
  by_cases h : ∃ x k j, dec bs = .ok true x k j ∧ k.len = 6
  · obtain ⟨x, k, j, hD, h6⟩ := h
    have e : txd bs = txd' k := by unfold txd; rw [hD]; exact if_pos ⟨rfl, h6⟩
    rw [e]
    exact txDecode_six w a n c bs hB x k j hD h6
  · refine txDecode_none w a n c bs hB fun l x k j hD hh => h ⟨x, k, j, ?_, hh.2⟩
    rw [hD, hh.1]
end Rl
end Go.Proofs.YtkhdamjjbjmeaaaDoor
