/-
  mootref03: rest, Great. Own work.
-/
import Derived.Test.YthlmjcochpodgaaDoorRi
import Derived.Test.YthlmjcochpodgaaDoorFz
namespace Go.Proofs.YthlmjcochpodgaaDoor
open Go.ChangeShapes Go.WideShapes Go.Deep Go.RowKit
set_option linter.unusedVariables false
set_option linter.unusedSimpArgs false
namespace Rl
theorem rest_bd : ∀ (k : Fo) (v : Int), k.fit → -281474976710656 ≤ v → k.rest v ≤ v ∧ -281474976710656 ≤ k.rest v
  | .nil, v, _, h => ⟨Int.le_refl _, h⟩
  | .cons l b k r, v, hf, h => by
    show (if v < 0 then v else r.rest (k.rest (v - (1 + b.length)))) ≤ v ∧ -281474976710656 ≤ (if v < 0 then v else r.rest (k.rest (v - (1 + b.length))))
    split
    · exact ⟨Int.le_refl _, h⟩
    · have hb : b.length ≤ 140737488351232 := hf.1
      have h1 := rest_bd k (v - (1 + b.length)) hf.2.1 (by omega)
      have h2 := rest_bd r _ hf.2.2 h1.2
      omega
theorem rest_neg (k : Fo) (v : Int) (h : v < 0) : k.rest v = v := by
  cases k with
  | nil => rfl
  | cons l b k r => show (if v < 0 then v else _) = v; rw [if_pos h]
theorem Fo.drop_fit : ∀ (k : Fo) (j : Nat), k.fit → (k.drop j).fit
  | k, 0, h => by rw [Fo.drop_zero]; exact h
  | .nil, j + 1, _ => trivial
  | .cons l b k r, j + 1, h => Fo.drop_fit r j h.2.2
set_option maxHeartbeats 2000000 in
set_option maxRecDepth 100000 in
theorem rest_step (w : World) (l : Bool) (n c n' c' : Nat) (a a' : Option Addr) (k : Fo) (v : Int) (hk : IsK w a' n' c' k) (hf : k.fit) (hn : n ≤ 140737488351232) (h0 : 0 ≤ v) (h1 : v ≤ 262144)
    (ih : ∀ (w : World) (l : Bool) (n c n' c' : Nat) (a a' : Option Addr) (k1 : Fo) (v : Int), k1.size < k.size → IsK w a' n' c' k1 → k1.fit → n ≤ 140737488351232 → 0 ≤ v → v ≤ 262144 →
      Calls Tryd.prog 33 #[.agg #[.bool l, .slice a n c, .slice a' n' c'], .int .i64 v] w fun e w' => e = .returned (.int .i64 (k1.rest (v - (1 + n)))) ∧ Below w.heap.size w w') :
    Calls Tryd.prog 33 #[.agg #[.bool l, .slice a n c, .slice a' n' c'], .int .i64 v] w fun e w' => e = .returned (.int .i64 (k.rest (v - (1 + n)))) ∧ Below w.heap.size w w' := by
  have HK := Lib.hid hk
  have HI := Lib.hid ih
  have HF := Lib.hid hf
  have HN : Hid (n' ≤ maxLen) := Lib.hid (Nat.le_trans hk.2.1 hk.2.2.1)
  have HV : Hid (wrap64 (v - wrap64 (1 + (n : Int))) = v - (1 + n) ∧ -281474976710656 ≤ v - (1 + n) ∧ v - (1 + n) ≤ 262144) := Lib.hid (by refine ⟨?_, by omega, by omega⟩; unfold wrap64; omega)
  have HB : Hid (Below w.heap.size w (w.alloc (.cells #[.bool l, .slice a n c, .slice a' n' c'] 25)) ∧ (w.alloc (.cells #[.bool l, .slice a n c, .slice a' n' c'] 25)).cell? ⟨w.heap.size, 2, none⟩ = some (.slice a' n' c')) := Lib.hid ⟨(Below.refl _ _).alloc (Nat.le_refl _) _, by simp⟩
  clear hk ih hf hn h0 h1
  go_enter Tryd.func33, Tryd.ntmps33
  go_wp2_with (fail)
  rw [HV.out.1]
  generalize hq : v - (1 + (n : Int)) = q at *
  have HQ := Lib.hid hq
  clear hq
  generalize w.alloc (.cells #[.bool l, .slice a n c, .slice a' n' c'] 25) = y0 at *
  go_loopw [1, 5] (fun t i y => ∃ (j : Nat) (u : Int), j ≤ n' ∧ i = .int .i64 j ∧ t = .int .i64 u ∧ Hid (k.rest q = (k.drop j).rest u ∧ -281474976710656 ≤ u ∧ u ≤ 262144 ∧ Below w.heap.size w y ∧ y.cell? ⟨w.heap.size, 2, none⟩ = some (.slice a' n' c'))) (fun _ i _ => n' - (intOf i).toNat)
  case atStart => exact ⟨0, q, Nat.zero_le _, rfl, rfl, Lib.hid ⟨by rw [Fo.drop_zero], HV.out.2.1, HV.out.2.2, HB.out.1, HB.out.2⟩⟩
  case round =>
    obtain ⟨j, u, hj, rfl, rfl, hp⟩ := hrel
    clear HB HV
    have gb := hp.out.2.2.2.2
    by_cases hlt : (j : Int) < (n' : Int)
    · by_cases hu : 0 ≤ u
      · obtain ⟨b, o, l1, bs, k1, a1, n1, c1, a2, n2, c2, rfl, hd, hb1, hk1, g0, g1, g2⟩ := (HK.out.keep (keep_below hp.out.2.2.2.1)).at (show j < n' by omega)
        have hfd := Fo.drop_fit k j HF.out
        rw [hd] at hfd
        have hn1 : n1 ≤ 140737488351232 := by rw [hb1.1]; exact hfd.1
        have HC := Lib.hid (HI.out wr l1 n1 c1 n2 c2 a1 a2 k1 u (Fo.drop_kid hd) hk1 hfd.2.1 hn1 hu hp.out.2.2.1)
        have hbd := rest_bd k1 (u - (1 + n1)) hfd.2.1 (by omega)
        have hu2 := hp.out.2.2.1
        have HZ : Hid (k.rest q = (k.drop (j + 1)).rest (k1.rest (u - (1 + n1))) ∧ -281474976710656 ≤ k1.rest (u - (1 + n1)) ∧ k1.rest (u - (1 + n1)) ≤ 262144) := Lib.hid (by
          refine ⟨?_, hbd.2, by omega⟩
          rw [hp.out.1, hd]
          show (if u < 0 then u else _) = _
          rw [if_neg (by omega), hb1.1])
        have HS := Lib.hid hp.out.2.2.2.1
        have HJ := Lib.hid (show j < n' ∧ wrap64 ((j : Int) + 1) = ((j + 1 : Nat) : Int) by refine ⟨by omega, ?_⟩; have := HN.out; simp only [maxLen] at this; unfold wrap64; omega)
        clear hk1 hp hj hd hb1 hfd hn1 hbd hu2
        generalize k1.rest (u - (1 + (n1 : Int))) = R at *
        go_wp2_with (go_at_call 33; (with_reducible refine HC.out.mono ?_); rintro e y1 ⟨rfl, hb⟩; have H1 := Lib.hid (And.intro (bl HS.out hb) (keep1 hb gb)); clear hb HC g0 g1 g2 gb HS hlt hu)
        go_roundw
        case rel => exact ⟨j + 1, R, HJ.out.1, by rw [HJ.out.2], rfl, Lib.hid ⟨HZ.out.1, HZ.out.2.1, HZ.out.2.2, H1.out.1, H1.out.2⟩⟩
        case measure => rw [HJ.out.2]; have := HJ.out.1; simp [intOf]; omega
      · have hu1 : decide ((0 : Int) ≤ u) = false := by simpa using hu
        have HU : Hid (u < 0) := Lib.hid (by omega)
        clear hu
        go_wp2_with (fail)
        go_ret
        refine ⟨?_, hp.out.2.2.2.1⟩
        rw [HQ.out, hp.out.1, rest_neg _ _ HU.out]; rfl
    · go_wp2_with (fail)
      go_ret
      refine ⟨?_, hp.out.2.2.2.1⟩
      rw [HQ.out, hp.out.1, Fo.drop_end (by have := HK.out.1; omega)]; rfl
theorem rest_walk (w : World) (l : Bool) (n c n' c' : Nat) (a a' : Option Addr) (k : Fo) (v : Int) (hk : IsK w a' n' c' k) (hf : k.fit) (hn : n ≤ 140737488351232) (h0 : 0 ≤ v) (h1 : v ≤ 262144) :
    Calls Tryd.prog 33 #[.agg #[.bool l, .slice a n c, .slice a' n' c'], .int .i64 v] w fun e w' => e = .returned (.int .i64 (k.rest (v - (1 + n)))) ∧ Below w.heap.size w w' := by
  generalize hz : k.size = z at *
  induction z using Nat.strongRecOn generalizing w l n c n' c' a a' k v with
  | _ z ih =>
    subst hz
    exact rest_step w l n c n' c' a a' k v hk hf hn h0 h1 fun w l n c n' c' a a' k1 v g1 g2 g3 g4 g5 g6 => ih k1.size g1 w l n c n' c' a a' k1 v g2 g3 g4 g5 g6 rfl
/-- Is it greater than a statement goes through? -/
def great (n : Nat) (k : Fo) : Bool := decide (k.rest (262144 - (1 + n)) < 0)
set_option maxHeartbeats 1000000 in
set_option maxRecDepth 100000 in
theorem great_walk (w : World) (l : Bool) (n c n' c' : Nat) (a a' : Option Addr) (k : Fo) (hk : IsK w a' n' c' k) (hf : k.fit) (hn : n ≤ 140737488351232) :
    Calls Tryd.prog 16 #[.agg #[.bool l, .slice a n c, .slice a' n' c']] w fun e w' => e = .returned (.bool (great n k)) ∧ Below w.heap.size w w' := by
  have HB : Hid (Below w.heap.size w (w.alloc (.cells #[.bool l, .slice a n c, .slice a' n' c'] 25))) := Lib.hid ((Below.refl _ _).alloc (Nat.le_refl _) _)
  have HC := Lib.hid (rest_walk (w.alloc (.cells #[.bool l, .slice a n c, .slice a' n' c'] 25)) l n c n' c' a a' k 262144 (hk.keep (keep_below HB.out)) hf hn (by decide) (by decide))
  clear hk hf hn
  unfold great
  generalize k.rest (262144 - (1 + (n : Int))) = R at *
  go_enter Tryd.func16, Tryd.ntmps16
  go_wp2_with (go_at_call 33; (with_reducible refine HC.out.mono ?_); rintro e y1 ⟨rfl, hb⟩; have H1 := Lib.hid (bl HB.out hb); clear hb HC)
  go_ret
  exact ⟨rfl, H1.out⟩
end Rl
end Go.Proofs.YthlmjcochpodgaaDoor
