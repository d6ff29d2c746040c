/-
  rlp: Decode. Own work.
-/
import Derived.Test.YthlmjcochpodgaaDoorSk
namespace Go.Proofs.YthlmjcochpodgaaDoor
open Go.ChangeShapes Go.WideShapes Go.Deep Go.RowKit
set_option linter.unusedVariables false
set_option linter.unusedSimpArgs false
namespace Rl
def upto (n : Nat) : R1 → R1
  | .bad p k => .bad p k
  | .ok l x k j => if j < n then .bad j 11 else .ok l x k j
/-- What bytes are: an item, or what is wrong first, and where. -/
def dec (bs : List Bt) : R1 :=
  if 4096 < bs.length then .bad 0 5 else if bs.length = 0 then .bad 0 11 else upto bs.length (one bs (4 * bs.length + 4) 0 bs.length 0)
def decOut (B : Nat) (w : World) : R1 → Ending → Prop
  | .bad p k, e => ∃ v, e = .returned (.tuple #[zIt, v]) ∧ IsFlt B w p k v
  | .ok l x k j, e => ∃ a n c a' n' c', e = .returned (.tuple #[.agg #[.bool l, .slice a n c, .slice a' n' c'], .nilIface]) ∧ IsB (see (fun b => B ≤ b) w) a n c x ∧ IsK (see (fun b => B ≤ b) w) a' n' c' k
set_option maxHeartbeats 2000000 in
set_option maxRecDepth 100000 in
theorem decode_long (w : World) (a : Option Addr) (n c : Nat) (h : 4096 < n) :
    Calls Tryd.prog 14 #[.slice a n c] w fun r w' => (∃ v, r = .returned (.tuple #[zIt, v]) ∧ IsFlt w.heap.size w' 0 5 v) ∧ Below w.heap.size w w' := by
  have h1 : (4096 : Int) < n := by omega
  clear h
  go_enter Tryd.func14, Tryd.ntmps14
  go_wp2_with (fail)
  refine bodyPost_ret (v := .tuple #[zIt, .iface 65 (.pointer (some ⟨w.heap.size + 1, 0, none⟩))]) (by simp [results, Tryd.results14, go_sem, zIt]) rfl ⟨⟨_, rfl, w.heap.size + 1, rfl, by omega, by simp, by simp [eN]⟩, ?_⟩
  exact ((Below.refl _ _).alloc (Nat.le_refl _) _).alloc (by simp) _
set_option maxHeartbeats 2000000 in
set_option maxRecDepth 100000 in
theorem decode_none (w : World) (a : Option Addr) (c : Nat) :
    Calls Tryd.prog 14 #[.slice a 0 c] w fun r w' => (∃ v, r = .returned (.tuple #[zIt, v]) ∧ IsFlt w.heap.size w' 0 11 v) ∧ Below w.heap.size w w' := by
  go_enter Tryd.func14, Tryd.ntmps14
  go_wp2_with (fail)
  refine bodyPost_ret (v := .tuple #[zIt, .iface 65 (.pointer (some ⟨w.heap.size + 1, 0, none⟩))]) (by simp [results, Tryd.results14, go_sem, zIt]) rfl ⟨⟨_, rfl, w.heap.size + 1, rfl, by omega, by simp, by simp [eN]⟩, ?_⟩
  exact ((Below.refl _ _).alloc (Nat.le_refl _) _).alloc (by simp) _
set_option maxHeartbeats 4000000 in
set_option maxRecDepth 100000 in
theorem decode_some (w : World) (A : Option Addr) (n c : Nat) (R : R1) (hn : 1 ≤ n) (hn2 : n ≤ 4096) (hj : ∀ l x k j, R = .ok l x k j → j ≤ n)
    (hh : ∀ y, Below w.heap.size w y → Calls Tryd.prog 31 #[.slice A n c, .int .i64 0, .int .i64 0] y fun r w' => itOut y.heap.size w' R r ∧ Below y.heap.size y w') :
    Calls Tryd.prog 14 #[.slice A n c] w fun r w' => decOut w.heap.size w' (upto n R) r ∧ Below w.heap.size w w' := by
  have h1 : decide ((4096 : Int) < n) = false := by simp; omega
  have h2 : ((n : Int) == 0) = false := by
    have : ¬ (n : Int) = 0 := by omega
    simpa using this
  have HB0 : Hid (Below w.heap.size w (w.alloc (.cells #[.bool false, .slice none 0 0, .slice none 0 0] 25))) := Lib.hid ((Below.refl _ _).alloc (Nat.le_refl _) _)
  have HC := Lib.hid (hh _ HB0.out)
  clear hh hn hn2
  cases R with
  | bad p k =>
    go_enter Tryd.func14, Tryd.ntmps14
    go_wp2_with (go_at_call 31; (with_reducible refine HC.out.mono ?_); rintro r y1 ⟨⟨_, rfl, q2, rfl, hq2, hc1, hc2⟩, hb⟩
                 have H1 := Lib.hid (bl HB0.out hb)
                 have HQ2 := Lib.hid (And.intro hq2 (And.intro hc1 hc2))
                 obtain ⟨k0, k1, k2, f0, f1, f2⟩ := ((Box3.new w (.bool false) (.slice none 0 0) (.slice none 0 0) 25).keep hb).keep (ba y1 (.cells #[.bool false, .slice none 0 0, .slice none 0 0] 25))
                 unfold zIt
                 clear HC hq2 hc1 hc2 hb)
    have X := (Box3.mk k0 k1 k2 f0 f1 f2).put (.bool false) (.slice none 0 0) (.slice none 0 0)
    have hs := HQ2.out.1
    simp at hs
    refine bodyPost_ret (v := .tuple #[zIt, .iface 65 (.pointer (some ⟨q2, 0, none⟩))]) (by simp [results, Tryd.results14, go_sem, zIt, X.k0, X.k1, X.k2]) rfl ⟨?_, put3_below (H1.out.alloc H1.out.size _) (Nat.le_refl _)⟩
    refine ⟨_, rfl, q2, rfl, by omega, ?_, ?_⟩
    · rw [put3_other _ _ _ _ _ (by omega)]; exact keep1 (ba _ _) HQ2.out.2.1
    · rw [put3_other _ _ _ _ _ (by omega)]; exact keep1 (ba _ _) HQ2.out.2.2
  | ok l x k j =>
    have hjn := hj l x k j rfl
    by_cases hlt : (j : Int) < n
    · have hlt2 : j < n := by omega
      have HL2 := Lib.hid hlt2
      clear hj hlt2 hjn
      go_enter Tryd.func14, Tryd.ntmps14
      go_wp2_with (go_at_call 31; (with_reducible refine HC.out.mono ?_); rintro r y1 ⟨⟨a3, n3, c3, a4, n4, c4, rfl, hB3, hK3⟩, hb⟩
                   have H1 := Lib.hid (bl HB0.out hb)
                   obtain ⟨k0, k1, k2, f0, f1, f2⟩ := (((Box3.new w (.bool false) (.slice none 0 0) (.slice none 0 0) 25).keep hb).keep (ba y1 (.cells #[.bool l, .slice a3 n3 c3, .slice a4 n4 c4] 25))).keep (ba _ (.cells #[.int .i64 j, .iface 61 (.int .i64 11)] 67))
                   clear HC hB3 hK3 hb)
      have X := (Box3.mk k0 k1 k2 f0 f1 f2).put (.bool false) (.slice none 0 0) (.slice none 0 0)
      have hs := H1.out.size
      refine bodyPost_ret (v := .tuple #[zIt, .iface 65 (.pointer (some ⟨y1.heap.size + 1, 0, none⟩))]) (by simp [results, Tryd.results14, go_sem, zIt, X.k0, X.k1, X.k2]) rfl ⟨?_, put3_below ((H1.out.alloc H1.out.size _).alloc (by simp; omega) _) (Nat.le_refl _)⟩
      show decOut _ _ (if j < n then _ else _) _
      rw [if_pos HL2.out]
      refine ⟨_, rfl, y1.heap.size + 1, rfl, by omega, ?_, ?_⟩
      · rw [put3_other _ _ _ _ _ (by omega)]; simp
      · rw [put3_other _ _ _ _ _ (by omega)]; simp [eN]
    · have hlt1 : decide ((j : Int) < n) = false := by simpa using hlt
      have HL2 := Lib.hid (show ¬ j < n by omega)
      clear hj hlt hjn
      go_enter Tryd.func14, Tryd.ntmps14
      go_wp2_with (go_at_call 31; (with_reducible refine HC.out.mono ?_); rintro r y1 ⟨⟨a3, n3, c3, a4, n4, c4, rfl, hB3, hK3⟩, hb⟩
                   have H1 := Lib.hid (bl HB0.out hb)
                   have H3 := Lib.hid (And.intro hB3 hK3)
                   obtain ⟨k0, k1, k2, f0, f1, f2⟩ := (((Box3.new w (.bool false) (.slice none 0 0) (.slice none 0 0) 25).keep hb).keep (ba y1 (.cells #[.bool l, .slice a3 n3 c3, .slice a4 n4 c4] 25)))
                   clear HC hB3 hK3 hb)
      have X := (Box3.mk k0 k1 k2 f0 f1 f2).put (.bool l) (.slice a3 n3 c3) (.slice a4 n4 c4)
      have hs := H1.out.size
      refine bodyPost_ret (v := .tuple #[.agg #[.bool l, .slice a3 n3 c3, .slice a4 n4 c4], .nilIface]) (by simp [results, Tryd.results14, go_sem, zIt, X.k0, X.k1, X.k2]) rfl ⟨?_, put3_below (H1.out.alloc H1.out.size _) (Nat.le_refl _)⟩
      show decOut _ _ (if j < n then _ else _) _
      rw [if_neg HL2.out]
      have hkp : Keep (see (fun b => (w.alloc (.cells #[.bool false, .slice none 0 0, .slice none 0 0] 25)).heap.size ≤ b) y1) (see (fun b => w.heap.size ≤ b) (put3 (y1.alloc (.cells #[.bool l, .slice a3 n3 c3, .slice a4 n4 c4] 25)) w.heap.size (.bool l) (.slice a3 n3 c3) (.slice a4 n4 c4))) :=
        keep_see fun b o v h1 h2 => ⟨by simp at h1; omega, by rw [put3_other _ _ _ _ _ (by simp at h1; omega)]; exact keep1 (ba _ _) h2⟩
      exact ⟨a3, n3, c3, a4, n4, c4, rfl, H3.out.1.keep hkp, H3.out.2.keep hkp⟩
theorem decode_walk (w : World) (a : Option Addr) (n c : Nat) (bs : List Bt) (hB : IsB w a n c bs) : Calls Tryd.prog 14 #[.slice a n c] w fun r w' => decOut w.heap.size w' (dec bs) r ∧ Below w.heap.size w w' := by
  have hl := hB.1
  unfold dec
  rw [← hl]
  by_cases h1 : 4096 < n
  · rw [if_pos h1]; exact decode_long w a n c h1
  · rw [if_neg h1]
    by_cases h2 : n = 0
    · rw [if_pos h2]; subst h2; exact decode_none w a c
    · rw [if_neg h2]
      rcases hB.2.2.2.2 with h3 | ⟨b, o, rfl, h4⟩
      · exact absurd h3 h2
      · refine decode_some w _ n c (one bs (4 * n + 4) 0 n 0) (by omega) (by omega) (fun l x k j h => (one_next (by omega) (by omega) h).2) fun y hy => ?_
        have hBy := hB.keep (keep_below hy)
        rw [hl] at hBy
        have := item_walk (4 * n + 4) y b o 0 n c 0 bs hBy (by omega) (by omega) (by omega) (by omega) (by omega)
        exact this
end Rl
end Go.Proofs.YthlmjcochpodgaaDoor
