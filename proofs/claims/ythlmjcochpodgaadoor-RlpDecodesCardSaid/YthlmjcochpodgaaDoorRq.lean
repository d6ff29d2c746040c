/-
  mootref03: Head. Own work.
-/
import Derived.Test.YthlmjcochpodgaaDoorRp
namespace Go.Proofs.YthlmjcochpodgaaDoor
open Go.ChangeShapes Go.WideShapes Go.Deep Go.RowKit
set_option linter.unusedVariables false
set_option linter.unusedSimpArgs false
namespace Rl
set_option maxHeartbeats 2000000 in
set_option maxRecDepth 100000 in
theorem rhead_short (w : World) (s n : Nat) (hs : s ≤ 192) (hn : n < 56) :
    Calls Tryd.prog 46 #[.int .i64 s, .int .i64 n] w fun e w' => ∃ V, e = .returned V ∧ Own w' w.heap.size V (head s n) ∧ Below w.heap.size w w' := by
  have h1 : (n : Int) < 56 := by omega
  have HH := Lib.hid (show head s n = [BitVec.ofNat 8 (s + n)] by unfold head; rw [if_pos hn])
  have hw : wrap64 ((s : Int) + n) = (s : Int) + n := by unfold wrap64; omega
  have hw2 : IntKind.u8.wrap ((s : Int) + n) = ((s + n : Nat) : Int) := by show ((s : Int) + n) % 256 = _; omega
  have HM := Lib.hid (show s + n < 256 by omega)
  clear hs hn
  go_enter Tryd.func46, Tryd.ntmps46
  go_wp2_with (fail)
  go_ret
  refine ⟨_, rfl, ?_, (Below.refl _ _).alloc (Nat.le_refl _) _⟩
  rw [HH.out]
  refine ⟨rfl, .inr ⟨w.heap.size, 1, #[bvb (BitVec.ofNat 8 (s + n))], rfl, Nat.le_refl _, ?_, Nat.le_refl _, by decide, rfl, rfl⟩⟩
  rw [← bvb_of _ (s + n) rfl HM.out]
  exact heap_alloc_new w _
theorem own_one (w : World) (B : Nat) (hB : B ≤ w.heap.size) (x : Bt) (v : Value) (hv : v = bvb x) : Own (w.alloc (.cells #[v] 5)) B (.slice (some ⟨w.heap.size, 0, none⟩) 1 1) [x] := by
  subst hv
  exact ⟨rfl, .inr ⟨w.heap.size, 1, #[bvb x], rfl, hB, heap_alloc_new w _, Nat.le_refl _, by decide, rfl, rfl⟩⟩
set_option maxHeartbeats 2000000 in
set_option maxRecDepth 100000 in
theorem rhead_long (w : World) (s n : Nat) (hs : s ≤ 192) (hn : 56 ≤ n) (hn2 : n < 9223372036854775808) :
    Calls Tryd.prog 46 #[.int .i64 s, .int .i64 n] w fun e w' => ∃ V, e = .returned V ∧ Own w' w.heap.size V (head s n) ∧ Below w.heap.size w w' := by
  have h1 : decide ((n : Int) < 56) = false := by simp; omega
  have HH := Lib.hid (show head s n = BitVec.ofNat 8 (s + 55 + (big n).length) :: big n by unfold head; rw [if_neg (by omega)])
  have hw : IntKind.u64.wrap (n : Int) = (n : Int) := by show (n : Int) % 18446744073709551616 = _; omega
  have HM := Lib.hid (show (big n).length ≤ 8 ∧ s + 55 + (big n).length < 256 by have := big_le n; omega)
  have HG := Lib.hid (big_walk w n (by omega))
  have hs2 : (s : Int) ≤ 192 := by omega
  have hs3 : wrap64 ((s : Int) + 55) = (s : Int) + 55 := by unfold wrap64; omega
  have hs4 : wrap64 ((s : Int) + 55 + ((big n).length : Int)) = ((s + 55 + (big n).length : Nat) : Int) := by have := HM.out; unfold wrap64; omega
  have hs5 : IntKind.u8.wrap ((s + 55 + (big n).length : Nat) : Int) = ((s + 55 + (big n).length : Nat) : Int) := by have := HM.out; show ((s + 55 + (big n).length : Nat) : Int) % 256 = _; omega
  clear hn hn2 hs hs2
  go_enter Tryd.func46, Tryd.ntmps46
  go_wp2_with (first
    | (go_at_call 24; (with_reducible refine HG.out.mono ?_); rintro e y1 ⟨VD, rfl, hO, hb⟩; obtain ⟨ad, cd, rfl, hBd⟩ := hO.isB; have HD := Lib.hid hBd; have HB := Lib.hid hb; clear hO hb hBd HG)
    | (refine wpList_appB rfl (.tmp 22) (.tmp 23) rfl w.heap.size (.slice (some ⟨y1.heap.size, 0, none⟩) 1 1) [BitVec.ofNat 8 (s + 55 + (big n).length)] rfl (own_one y1 w.heap.size HB.out.size _ _ (bvb_of _ _ (by have := HM.out.2; omega) HM.out.2)) ad (big n).length cd (big n) rfl (HD.out.keep (keep_below ((Below.refl _ _).alloc (Nat.le_refl _) _))) (by have := HM.out.1; simp; omega) (by have := HB.out.size; simp; omega) ?_
       intro V2 y2 hO2 hg hat
       have H2 := Lib.hid (And.intro hO2 ((HB.out.alloc HB.out.size _).grown hg (by have := HB.out.size; simp; omega) (fun k hk => by injection hk with hk; subst hk; exact HB.out.size)))
       clear hO2 hg hat))
  go_ret
  exact ⟨V2, rfl, by rw [HH.out]; exact H2.out.1, H2.out.2⟩
theorem rhead_walk (w : World) (s n : Nat) (hs : s ≤ 192) (hn2 : n < 9223372036854775808) :
    Calls Tryd.prog 46 #[.int .i64 s, .int .i64 n] w fun e w' => ∃ V, e = .returned V ∧ Own w' w.heap.size V (head s n) ∧ Below w.heap.size w w' := by
  by_cases h : n < 56
  · exact rhead_short w s n hs h
  · exact rhead_long w s n hs (by omega) hn2
end Rl
end Go.Proofs.YthlmjcochpodgaaDoor
