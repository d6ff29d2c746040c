/- RLP: merged. Own work. -/
import Derived.Test.YthlmjcochpodgaaDoorJ3
import Derived.Test.YthlmjcochpodgaaDoorJ4
namespace Go.Proofs.YthlmjcochpodgaaDoor
open Go.ChangeShapes Go.WideShapes Go.Deep Go.RowKit
set_option linter.unusedVariables false
set_option linter.unusedSimpArgs false
namespace Rl
theorem digs_next (f v d : Nat) (hd : d < 256) : digs (f + 1) (v * 256 + d) = if v * 256 + d = 0 then [] else digs f v ++ [BitVec.ofNat 8 d] := by
  rw [digs]
  split
  · rfl
  · have e1 : (v * 256 + d) / 256 = v := by omega
    have e2 : BitVec.ofNat 8 (v * 256 + d) = BitVec.ofNat 8 d := by
      apply BitVec.eq_of_toNat_eq
      rw [BitVec.toNat_ofNat, BitVec.toNat_ofNat]
      omega
    rw [e1, e2]
set_option maxHeartbeats 4000000 in
set_option maxRecDepth 100000 in
theorem big_walk (w : World) (v : Nat) (hv : v < 18446744073709551616) :
    Calls Tryd.prog 24 #[.int .u64 v] w fun e w' => ∃ V, e = .returned V ∧ Own w' w.heap.size V (big v) ∧ Below w.heap.size w w' := by
  have HV := Lib.hid hv
  clear hv
  go_enter Tryd.func24, Tryd.ntmps24
  go_wp2_with (fail)
  go_loopw [3, 4, 5] (fun V st i y => ∃ (j : Nat) (U : Value) (S : Bool), j ≤ 8 ∧ i = .int .i64 j ∧ V = U ∧ st = .bool S ∧ Hid (S = decide (v / 256 ^ (8 - j) ≠ 0) ∧ Own y w.heap.size U (digs j (v / 256 ^ (8 - j))) ∧ Below w.heap.size w y)) (fun _ _ i _ => 8 - (intOf i).toNat)
  case atStart => exact ⟨0, _, _, by decide, rfl, rfl, rfl, Lib.hid ⟨by have := HV.out; rw [Nat.div_eq_of_lt (by simpa using this)]; rfl, Own.nil _ _, Below.refl _ _⟩⟩
  case round =>
    obtain ⟨j, U, S, hj, rfl, rfl, rfl, hp⟩ := hrel
    by_cases h8 : j = 8
    · subst h8
      go_wp2_with (fail)
      go_ret
      refine ⟨_, rfl, ?_, hp.out.2.2⟩
      have := hp.out.2.1
      simpa [big] using this
    · have hj7 : j = 0 ∨ j = 1 ∨ j = 2 ∨ j = 3 ∨ j = 4 ∨ j = 5 ∨ j = 6 ∨ j = 7 := by omega
      clear hj h8
      rcases hj7 with rfl | rfl | rfl | rfl | rfl | rfl | rfl | rfl
      · have hA := hp.out.1
        have hO := hp.out.2.1
        rw [show 256 ^ (8 - 0) = 18446744073709551616 from rfl] at hA hO
        have HS := Lib.hid hA
        have HO := Lib.hid hO
        have HB := Lib.hid hp.out.2.2
        have HD := Lib.hid (digs_next 0 (v / 18446744073709551616) (v / 72057594037927936 % 256) (by omega))
        have HQ := Lib.hid (show v / 18446744073709551616 * 256 + (v / 72057594037927936 % 256) = v / 72057594037927936 by omega)
        have HL := Lib.hid (digs_len_le 0 (v / 18446744073709551616))
        clear hA hO hp
        go_wp2_with (refine wpList_appB rfl (.tmp 24) (.tmp 26) rfl w.heap.size _ (digs 0 (v / 18446744073709551616)) rfl (HO.out.below ((Below.refl _ _).alloc (Nat.le_refl _) _)) (some ⟨wr.heap.size, 0, none⟩) 1 1 [BitVec.ofNat 8 (v / 72057594037927936 % 256)] rfl (isB_one _ _ (bvb_of _ _ (by omega) (by omega))) (by have := HL.out; simp; omega) (by have := HB.out.size; simp; omega) ?_; intro V2 y2 hO2 hg hat; have H2 := Lib.hid (And.intro hO2 ((HB.out.alloc HB.out.size _).grown hg (by have := HB.out.size; simp; omega) (fun k hk => (HO.out.base hk).1))); clear hO2 hg hat)
        · have hv0 : v / 18446744073709551616 ≠ 0 := by have := HS.out; rw [‹S = true›] at this; exact of_decide_eq_true this.symm
          have hne : v / 18446744073709551616 * 256 + (v / 72057594037927936 % 256) ≠ 0 := by omega
          have e : digs 1 (v / 72057594037927936) = digs 0 (v / 18446744073709551616) ++ [BitVec.ofNat 8 (v / 72057594037927936 % 256)] := by
            have h := HD.out
            rw [if_neg hne, HQ.out] at h
            exact h
          refine ⟨⟨1, V2, true, by decide, rfl, rfl, rfl, Lib.hid ⟨?_, ?_, H2.out.2⟩⟩, by decide⟩
          · rw [show 256 ^ (8 - 1) = 72057594037927936 from rfl]; exact (decide_eq_true (by have := HQ.out; omega)).symm
          · rw [show 256 ^ (8 - 1) = 72057594037927936 from rfl]; rw [e]; exact H2.out.1
        · have hd0 : v / 72057594037927936 % 256 ≠ 0 := by have h := ‹(_ != (0 : Int)) = true›; simp at h; omega
          have hne : v / 18446744073709551616 * 256 + (v / 72057594037927936 % 256) ≠ 0 := by omega
          have e : digs 1 (v / 72057594037927936) = digs 0 (v / 18446744073709551616) ++ [BitVec.ofNat 8 (v / 72057594037927936 % 256)] := by
            have h := HD.out
            rw [if_neg hne, HQ.out] at h
            exact h
          refine ⟨⟨1, V2, true, by decide, rfl, rfl, rfl, Lib.hid ⟨?_, ?_, H2.out.2⟩⟩, by decide⟩
          · rw [show 256 ^ (8 - 1) = 72057594037927936 from rfl]; exact (decide_eq_true (by have := HQ.out; omega)).symm
          · rw [show 256 ^ (8 - 1) = 72057594037927936 from rfl]; rw [e]; exact H2.out.1
        · have hv0 : v / 18446744073709551616 = 0 := by
            have h := HS.out
            rw [show S = false by simpa using ‹¬S = true›] at h
            have h2 := of_decide_eq_false h.symm
            omega
          have hq0 : v / 72057594037927936 = 0 := by have h := ‹(_ != (0 : Int)) = false›; simp at h; have := HQ.out; omega
          have hb : ((_ : Int) != (0 : Int)) = false := ‹(_ != (0 : Int)) = false›
          refine ⟨⟨1, _, false, by decide, rfl, rfl, by rw [hb], Lib.hid ⟨?_, ?_, HB.out⟩⟩, by decide⟩
          · rw [show 256 ^ (8 - 1) = 72057594037927936 from rfl]; rw [hq0]; rfl
          · rw [show 256 ^ (8 - 1) = 72057594037927936 from rfl]; rw [hq0]
            have h := HO.out
            rw [hv0] at h
            exact h
      · have hA := hp.out.1
        have hO := hp.out.2.1
        rw [show 256 ^ (8 - 1) = 72057594037927936 from rfl] at hA hO
        have HS := Lib.hid hA
        have HO := Lib.hid hO
        have HB := Lib.hid hp.out.2.2
        have HD := Lib.hid (digs_next 1 (v / 72057594037927936) (v / 281474976710656 % 256) (by omega))
        have HQ := Lib.hid (show v / 72057594037927936 * 256 + (v / 281474976710656 % 256) = v / 281474976710656 by omega)
        have HL := Lib.hid (digs_len_le 1 (v / 72057594037927936))
        clear hA hO hp
        go_wp2_with (refine wpList_appB rfl (.tmp 24) (.tmp 26) rfl w.heap.size _ (digs 1 (v / 72057594037927936)) rfl (HO.out.below ((Below.refl _ _).alloc (Nat.le_refl _) _)) (some ⟨wr.heap.size, 0, none⟩) 1 1 [BitVec.ofNat 8 (v / 281474976710656 % 256)] rfl (isB_one _ _ (bvb_of _ _ (by omega) (by omega))) (by have := HL.out; simp; omega) (by have := HB.out.size; simp; omega) ?_; intro V2 y2 hO2 hg hat; have H2 := Lib.hid (And.intro hO2 ((HB.out.alloc HB.out.size _).grown hg (by have := HB.out.size; simp; omega) (fun k hk => (HO.out.base hk).1))); clear hO2 hg hat)
        · have hv0 : v / 72057594037927936 ≠ 0 := by have := HS.out; rw [‹S = true›] at this; exact of_decide_eq_true this.symm
          have hne : v / 72057594037927936 * 256 + (v / 281474976710656 % 256) ≠ 0 := by omega
          have e : digs 2 (v / 281474976710656) = digs 1 (v / 72057594037927936) ++ [BitVec.ofNat 8 (v / 281474976710656 % 256)] := by
            have h := HD.out
            rw [if_neg hne, HQ.out] at h
            exact h
          refine ⟨⟨2, V2, true, by decide, rfl, rfl, rfl, Lib.hid ⟨?_, ?_, H2.out.2⟩⟩, by decide⟩
          · rw [show 256 ^ (8 - 2) = 281474976710656 from rfl]; exact (decide_eq_true (by have := HQ.out; omega)).symm
          · rw [show 256 ^ (8 - 2) = 281474976710656 from rfl]; rw [e]; exact H2.out.1
        · have hd0 : v / 281474976710656 % 256 ≠ 0 := by have h := ‹(_ != (0 : Int)) = true›; simp at h; omega
          have hne : v / 72057594037927936 * 256 + (v / 281474976710656 % 256) ≠ 0 := by omega
          have e : digs 2 (v / 281474976710656) = digs 1 (v / 72057594037927936) ++ [BitVec.ofNat 8 (v / 281474976710656 % 256)] := by
            have h := HD.out
            rw [if_neg hne, HQ.out] at h
            exact h
          refine ⟨⟨2, V2, true, by decide, rfl, rfl, rfl, Lib.hid ⟨?_, ?_, H2.out.2⟩⟩, by decide⟩
          · rw [show 256 ^ (8 - 2) = 281474976710656 from rfl]; exact (decide_eq_true (by have := HQ.out; omega)).symm
          · rw [show 256 ^ (8 - 2) = 281474976710656 from rfl]; rw [e]; exact H2.out.1
        · have hv0 : v / 72057594037927936 = 0 := by
            have h := HS.out
            rw [show S = false by simpa using ‹¬S = true›] at h
            have h2 := of_decide_eq_false h.symm
            omega
          have hq0 : v / 281474976710656 = 0 := by have h := ‹(_ != (0 : Int)) = false›; simp at h; have := HQ.out; omega
          have hb : ((_ : Int) != (0 : Int)) = false := ‹(_ != (0 : Int)) = false›
          refine ⟨⟨2, _, false, by decide, rfl, rfl, by rw [hb], Lib.hid ⟨?_, ?_, HB.out⟩⟩, by decide⟩
          · rw [show 256 ^ (8 - 2) = 281474976710656 from rfl]; rw [hq0]; rfl
          · rw [show 256 ^ (8 - 2) = 281474976710656 from rfl]; rw [hq0]
            have h := HO.out
            rw [hv0] at h
            exact h
      · have hA := hp.out.1
        have hO := hp.out.2.1
        rw [show 256 ^ (8 - 2) = 281474976710656 from rfl] at hA hO
        have HS := Lib.hid hA
        have HO := Lib.hid hO
        have HB := Lib.hid hp.out.2.2
        have HD := Lib.hid (digs_next 2 (v / 281474976710656) (v / 1099511627776 % 256) (by omega))
        have HQ := Lib.hid (show v / 281474976710656 * 256 + (v / 1099511627776 % 256) = v / 1099511627776 by omega)
        have HL := Lib.hid (digs_len_le 2 (v / 281474976710656))
        clear hA hO hp
        go_wp2_with (refine wpList_appB rfl (.tmp 24) (.tmp 26) rfl w.heap.size _ (digs 2 (v / 281474976710656)) rfl (HO.out.below ((Below.refl _ _).alloc (Nat.le_refl _) _)) (some ⟨wr.heap.size, 0, none⟩) 1 1 [BitVec.ofNat 8 (v / 1099511627776 % 256)] rfl (isB_one _ _ (bvb_of _ _ (by omega) (by omega))) (by have := HL.out; simp; omega) (by have := HB.out.size; simp; omega) ?_; intro V2 y2 hO2 hg hat; have H2 := Lib.hid (And.intro hO2 ((HB.out.alloc HB.out.size _).grown hg (by have := HB.out.size; simp; omega) (fun k hk => (HO.out.base hk).1))); clear hO2 hg hat)
        · have hv0 : v / 281474976710656 ≠ 0 := by have := HS.out; rw [‹S = true›] at this; exact of_decide_eq_true this.symm
          have hne : v / 281474976710656 * 256 + (v / 1099511627776 % 256) ≠ 0 := by omega
          have e : digs 3 (v / 1099511627776) = digs 2 (v / 281474976710656) ++ [BitVec.ofNat 8 (v / 1099511627776 % 256)] := by
            have h := HD.out
            rw [if_neg hne, HQ.out] at h
            exact h
          refine ⟨⟨3, V2, true, by decide, rfl, rfl, rfl, Lib.hid ⟨?_, ?_, H2.out.2⟩⟩, by decide⟩
          · rw [show 256 ^ (8 - 3) = 1099511627776 from rfl]; exact (decide_eq_true (by have := HQ.out; omega)).symm
          · rw [show 256 ^ (8 - 3) = 1099511627776 from rfl]; rw [e]; exact H2.out.1
        · have hd0 : v / 1099511627776 % 256 ≠ 0 := by have h := ‹(_ != (0 : Int)) = true›; simp at h; omega
          have hne : v / 281474976710656 * 256 + (v / 1099511627776 % 256) ≠ 0 := by omega
          have e : digs 3 (v / 1099511627776) = digs 2 (v / 281474976710656) ++ [BitVec.ofNat 8 (v / 1099511627776 % 256)] := by
            have h := HD.out
            rw [if_neg hne, HQ.out] at h
            exact h
          refine ⟨⟨3, V2, true, by decide, rfl, rfl, rfl, Lib.hid ⟨?_, ?_, H2.out.2⟩⟩, by decide⟩
          · rw [show 256 ^ (8 - 3) = 1099511627776 from rfl]; exact (decide_eq_true (by have := HQ.out; omega)).symm
          · rw [show 256 ^ (8 - 3) = 1099511627776 from rfl]; rw [e]; exact H2.out.1
        · have hv0 : v / 281474976710656 = 0 := by
            have h := HS.out
            rw [show S = false by simpa using ‹¬S = true›] at h
            have h2 := of_decide_eq_false h.symm
            omega
          have hq0 : v / 1099511627776 = 0 := by have h := ‹(_ != (0 : Int)) = false›; simp at h; have := HQ.out; omega
          have hb : ((_ : Int) != (0 : Int)) = false := ‹(_ != (0 : Int)) = false›
          refine ⟨⟨3, _, false, by decide, rfl, rfl, by rw [hb], Lib.hid ⟨?_, ?_, HB.out⟩⟩, by decide⟩
          · rw [show 256 ^ (8 - 3) = 1099511627776 from rfl]; rw [hq0]; rfl
          · rw [show 256 ^ (8 - 3) = 1099511627776 from rfl]; rw [hq0]
            have h := HO.out
            rw [hv0] at h
            exact h
      · have hA := hp.out.1
        have hO := hp.out.2.1
        rw [show 256 ^ (8 - 3) = 1099511627776 from rfl] at hA hO
        have HS := Lib.hid hA
        have HO := Lib.hid hO
        have HB := Lib.hid hp.out.2.2
        have HD := Lib.hid (digs_next 3 (v / 1099511627776) (v / 4294967296 % 256) (by omega))
        have HQ := Lib.hid (show v / 1099511627776 * 256 + (v / 4294967296 % 256) = v / 4294967296 by omega)
        have HL := Lib.hid (digs_len_le 3 (v / 1099511627776))
        clear hA hO hp
        go_wp2_with (refine wpList_appB rfl (.tmp 24) (.tmp 26) rfl w.heap.size _ (digs 3 (v / 1099511627776)) rfl (HO.out.below ((Below.refl _ _).alloc (Nat.le_refl _) _)) (some ⟨wr.heap.size, 0, none⟩) 1 1 [BitVec.ofNat 8 (v / 4294967296 % 256)] rfl (isB_one _ _ (bvb_of _ _ (by omega) (by omega))) (by have := HL.out; simp; omega) (by have := HB.out.size; simp; omega) ?_; intro V2 y2 hO2 hg hat; have H2 := Lib.hid (And.intro hO2 ((HB.out.alloc HB.out.size _).grown hg (by have := HB.out.size; simp; omega) (fun k hk => (HO.out.base hk).1))); clear hO2 hg hat)
        · have hv0 : v / 1099511627776 ≠ 0 := by have := HS.out; rw [‹S = true›] at this; exact of_decide_eq_true this.symm
          have hne : v / 1099511627776 * 256 + (v / 4294967296 % 256) ≠ 0 := by omega
          have e : digs 4 (v / 4294967296) = digs 3 (v / 1099511627776) ++ [BitVec.ofNat 8 (v / 4294967296 % 256)] := by
            have h := HD.out
            rw [if_neg hne, HQ.out] at h
            exact h
          refine ⟨⟨4, V2, true, by decide, rfl, rfl, rfl, Lib.hid ⟨?_, ?_, H2.out.2⟩⟩, by decide⟩
          · rw [show 256 ^ (8 - 4) = 4294967296 from rfl]; exact (decide_eq_true (by have := HQ.out; omega)).symm
          · rw [show 256 ^ (8 - 4) = 4294967296 from rfl]; rw [e]; exact H2.out.1
        · have hd0 : v / 4294967296 % 256 ≠ 0 := by have h := ‹(_ != (0 : Int)) = true›; simp at h; omega
          have hne : v / 1099511627776 * 256 + (v / 4294967296 % 256) ≠ 0 := by omega
          have e : digs 4 (v / 4294967296) = digs 3 (v / 1099511627776) ++ [BitVec.ofNat 8 (v / 4294967296 % 256)] := by
            have h := HD.out
            rw [if_neg hne, HQ.out] at h
            exact h
          refine ⟨⟨4, V2, true, by decide, rfl, rfl, rfl, Lib.hid ⟨?_, ?_, H2.out.2⟩⟩, by decide⟩
          · rw [show 256 ^ (8 - 4) = 4294967296 from rfl]; exact (decide_eq_true (by have := HQ.out; omega)).symm
          · rw [show 256 ^ (8 - 4) = 4294967296 from rfl]; rw [e]; exact H2.out.1
        · have hv0 : v / 1099511627776 = 0 := by
            have h := HS.out
            rw [show S = false by simpa using ‹¬S = true›] at h
            have h2 := of_decide_eq_false h.symm
            omega
          have hq0 : v / 4294967296 = 0 := by have h := ‹(_ != (0 : Int)) = false›; simp at h; have := HQ.out; omega
          have hb : ((_ : Int) != (0 : Int)) = false := ‹(_ != (0 : Int)) = false›
          refine ⟨⟨4, _, false, by decide, rfl, rfl, by rw [hb], Lib.hid ⟨?_, ?_, HB.out⟩⟩, by decide⟩
          · rw [show 256 ^ (8 - 4) = 4294967296 from rfl]; rw [hq0]; rfl
          · rw [show 256 ^ (8 - 4) = 4294967296 from rfl]; rw [hq0]
            have h := HO.out
            rw [hv0] at h
            exact h
      · have hA := hp.out.1
        have hO := hp.out.2.1
        rw [show 256 ^ (8 - 4) = 4294967296 from rfl] at hA hO
        have HS := Lib.hid hA
        have HO := Lib.hid hO
        have HB := Lib.hid hp.out.2.2
        have HD := Lib.hid (digs_next 4 (v / 4294967296) (v / 16777216 % 256) (by omega))
        have HQ := Lib.hid (show v / 4294967296 * 256 + (v / 16777216 % 256) = v / 16777216 by omega)
        have HL := Lib.hid (digs_len_le 4 (v / 4294967296))
        clear hA hO hp
        go_wp2_with (refine wpList_appB rfl (.tmp 24) (.tmp 26) rfl w.heap.size _ (digs 4 (v / 4294967296)) rfl (HO.out.below ((Below.refl _ _).alloc (Nat.le_refl _) _)) (some ⟨wr.heap.size, 0, none⟩) 1 1 [BitVec.ofNat 8 (v / 16777216 % 256)] rfl (isB_one _ _ (bvb_of _ _ (by omega) (by omega))) (by have := HL.out; simp; omega) (by have := HB.out.size; simp; omega) ?_; intro V2 y2 hO2 hg hat; have H2 := Lib.hid (And.intro hO2 ((HB.out.alloc HB.out.size _).grown hg (by have := HB.out.size; simp; omega) (fun k hk => (HO.out.base hk).1))); clear hO2 hg hat)
        · have hv0 : v / 4294967296 ≠ 0 := by have := HS.out; rw [‹S = true›] at this; exact of_decide_eq_true this.symm
          have hne : v / 4294967296 * 256 + (v / 16777216 % 256) ≠ 0 := by omega
          have e : digs 5 (v / 16777216) = digs 4 (v / 4294967296) ++ [BitVec.ofNat 8 (v / 16777216 % 256)] := by
            have h := HD.out
            rw [if_neg hne, HQ.out] at h
            exact h
          refine ⟨⟨5, V2, true, by decide, rfl, rfl, rfl, Lib.hid ⟨?_, ?_, H2.out.2⟩⟩, by decide⟩
          · rw [show 256 ^ (8 - 5) = 16777216 from rfl]; exact (decide_eq_true (by have := HQ.out; omega)).symm
          · rw [show 256 ^ (8 - 5) = 16777216 from rfl]; rw [e]; exact H2.out.1
        · have hd0 : v / 16777216 % 256 ≠ 0 := by have h := ‹(_ != (0 : Int)) = true›; simp at h; omega
          have hne : v / 4294967296 * 256 + (v / 16777216 % 256) ≠ 0 := by omega
          have e : digs 5 (v / 16777216) = digs 4 (v / 4294967296) ++ [BitVec.ofNat 8 (v / 16777216 % 256)] := by
            have h := HD.out
            rw [if_neg hne, HQ.out] at h
            exact h
          refine ⟨⟨5, V2, true, by decide, rfl, rfl, rfl, Lib.hid ⟨?_, ?_, H2.out.2⟩⟩, by decide⟩
          · rw [show 256 ^ (8 - 5) = 16777216 from rfl]; exact (decide_eq_true (by have := HQ.out; omega)).symm
          · rw [show 256 ^ (8 - 5) = 16777216 from rfl]; rw [e]; exact H2.out.1
        · have hv0 : v / 4294967296 = 0 := by
            have h := HS.out
            rw [show S = false by simpa using ‹¬S = true›] at h
            have h2 := of_decide_eq_false h.symm
            omega
          have hq0 : v / 16777216 = 0 := by have h := ‹(_ != (0 : Int)) = false›; simp at h; have := HQ.out; omega
          have hb : ((_ : Int) != (0 : Int)) = false := ‹(_ != (0 : Int)) = false›
          refine ⟨⟨5, _, false, by decide, rfl, rfl, by rw [hb], Lib.hid ⟨?_, ?_, HB.out⟩⟩, by decide⟩
          · rw [show 256 ^ (8 - 5) = 16777216 from rfl]; rw [hq0]; rfl
          · rw [show 256 ^ (8 - 5) = 16777216 from rfl]; rw [hq0]
            have h := HO.out
            rw [hv0] at h
            exact h
      · have hA := hp.out.1
        have hO := hp.out.2.1
        rw [show 256 ^ (8 - 5) = 16777216 from rfl] at hA hO
        have HS := Lib.hid hA
        have HO := Lib.hid hO
        have HB := Lib.hid hp.out.2.2
        have HD := Lib.hid (digs_next 5 (v / 16777216) (v / 65536 % 256) (by omega))
        have HQ := Lib.hid (show v / 16777216 * 256 + (v / 65536 % 256) = v / 65536 by omega)
        have HL := Lib.hid (digs_len_le 5 (v / 16777216))
        clear hA hO hp
        go_wp2_with (refine wpList_appB rfl (.tmp 24) (.tmp 26) rfl w.heap.size _ (digs 5 (v / 16777216)) rfl (HO.out.below ((Below.refl _ _).alloc (Nat.le_refl _) _)) (some ⟨wr.heap.size, 0, none⟩) 1 1 [BitVec.ofNat 8 (v / 65536 % 256)] rfl (isB_one _ _ (bvb_of _ _ (by omega) (by omega))) (by have := HL.out; simp; omega) (by have := HB.out.size; simp; omega) ?_; intro V2 y2 hO2 hg hat; have H2 := Lib.hid (And.intro hO2 ((HB.out.alloc HB.out.size _).grown hg (by have := HB.out.size; simp; omega) (fun k hk => (HO.out.base hk).1))); clear hO2 hg hat)
        · have hv0 : v / 16777216 ≠ 0 := by have := HS.out; rw [‹S = true›] at this; exact of_decide_eq_true this.symm
          have hne : v / 16777216 * 256 + (v / 65536 % 256) ≠ 0 := by omega
          have e : digs 6 (v / 65536) = digs 5 (v / 16777216) ++ [BitVec.ofNat 8 (v / 65536 % 256)] := by
            have h := HD.out
            rw [if_neg hne, HQ.out] at h
            exact h
          refine ⟨⟨6, V2, true, by decide, rfl, rfl, rfl, Lib.hid ⟨?_, ?_, H2.out.2⟩⟩, by decide⟩
          · rw [show 256 ^ (8 - 6) = 65536 from rfl]; exact (decide_eq_true (by have := HQ.out; omega)).symm
          · rw [show 256 ^ (8 - 6) = 65536 from rfl]; rw [e]; exact H2.out.1
        · have hd0 : v / 65536 % 256 ≠ 0 := by have h := ‹(_ != (0 : Int)) = true›; simp at h; omega
          have hne : v / 16777216 * 256 + (v / 65536 % 256) ≠ 0 := by omega
          have e : digs 6 (v / 65536) = digs 5 (v / 16777216) ++ [BitVec.ofNat 8 (v / 65536 % 256)] := by
            have h := HD.out
            rw [if_neg hne, HQ.out] at h
            exact h
          refine ⟨⟨6, V2, true, by decide, rfl, rfl, rfl, Lib.hid ⟨?_, ?_, H2.out.2⟩⟩, by decide⟩
          · rw [show 256 ^ (8 - 6) = 65536 from rfl]; exact (decide_eq_true (by have := HQ.out; omega)).symm
          · rw [show 256 ^ (8 - 6) = 65536 from rfl]; rw [e]; exact H2.out.1
        · have hv0 : v / 16777216 = 0 := by
            have h := HS.out
            rw [show S = false by simpa using ‹¬S = true›] at h
            have h2 := of_decide_eq_false h.symm
            omega
          have hq0 : v / 65536 = 0 := by have h := ‹(_ != (0 : Int)) = false›; simp at h; have := HQ.out; omega
          have hb : ((_ : Int) != (0 : Int)) = false := ‹(_ != (0 : Int)) = false›
          refine ⟨⟨6, _, false, by decide, rfl, rfl, by rw [hb], Lib.hid ⟨?_, ?_, HB.out⟩⟩, by decide⟩
          · rw [show 256 ^ (8 - 6) = 65536 from rfl]; rw [hq0]; rfl
          · rw [show 256 ^ (8 - 6) = 65536 from rfl]; rw [hq0]
            have h := HO.out
            rw [hv0] at h
            exact h
      · have hA := hp.out.1
        have hO := hp.out.2.1
        rw [show 256 ^ (8 - 6) = 65536 from rfl] at hA hO
        have HS := Lib.hid hA
        have HO := Lib.hid hO
        have HB := Lib.hid hp.out.2.2
        have HD := Lib.hid (digs_next 6 (v / 65536) (v / 256 % 256) (by omega))
        have HQ := Lib.hid (show v / 65536 * 256 + (v / 256 % 256) = v / 256 by omega)
        have HL := Lib.hid (digs_len_le 6 (v / 65536))
        clear hA hO hp
        go_wp2_with (refine wpList_appB rfl (.tmp 24) (.tmp 26) rfl w.heap.size _ (digs 6 (v / 65536)) rfl (HO.out.below ((Below.refl _ _).alloc (Nat.le_refl _) _)) (some ⟨wr.heap.size, 0, none⟩) 1 1 [BitVec.ofNat 8 (v / 256 % 256)] rfl (isB_one _ _ (bvb_of _ _ (by omega) (by omega))) (by have := HL.out; simp; omega) (by have := HB.out.size; simp; omega) ?_; intro V2 y2 hO2 hg hat; have H2 := Lib.hid (And.intro hO2 ((HB.out.alloc HB.out.size _).grown hg (by have := HB.out.size; simp; omega) (fun k hk => (HO.out.base hk).1))); clear hO2 hg hat)
        · have hv0 : v / 65536 ≠ 0 := by have := HS.out; rw [‹S = true›] at this; exact of_decide_eq_true this.symm
          have hne : v / 65536 * 256 + (v / 256 % 256) ≠ 0 := by omega
          have e : digs 7 (v / 256) = digs 6 (v / 65536) ++ [BitVec.ofNat 8 (v / 256 % 256)] := by
            have h := HD.out
            rw [if_neg hne, HQ.out] at h
            exact h
          refine ⟨⟨7, V2, true, by decide, rfl, rfl, rfl, Lib.hid ⟨?_, ?_, H2.out.2⟩⟩, by decide⟩
          · rw [show 256 ^ (8 - 7) = 256 from rfl]; exact (decide_eq_true (by have := HQ.out; omega)).symm
          · rw [show 256 ^ (8 - 7) = 256 from rfl]; rw [e]; exact H2.out.1
        · have hd0 : v / 256 % 256 ≠ 0 := by have h := ‹(_ != (0 : Int)) = true›; simp at h; omega
          have hne : v / 65536 * 256 + (v / 256 % 256) ≠ 0 := by omega
          have e : digs 7 (v / 256) = digs 6 (v / 65536) ++ [BitVec.ofNat 8 (v / 256 % 256)] := by
            have h := HD.out
            rw [if_neg hne, HQ.out] at h
            exact h
          refine ⟨⟨7, V2, true, by decide, rfl, rfl, rfl, Lib.hid ⟨?_, ?_, H2.out.2⟩⟩, by decide⟩
          · rw [show 256 ^ (8 - 7) = 256 from rfl]; exact (decide_eq_true (by have := HQ.out; omega)).symm
          · rw [show 256 ^ (8 - 7) = 256 from rfl]; rw [e]; exact H2.out.1
        · have hv0 : v / 65536 = 0 := by
            have h := HS.out
            rw [show S = false by simpa using ‹¬S = true›] at h
            have h2 := of_decide_eq_false h.symm
            omega
          have hq0 : v / 256 = 0 := by have h := ‹(_ != (0 : Int)) = false›; simp at h; have := HQ.out; omega
          have hb : ((_ : Int) != (0 : Int)) = false := ‹(_ != (0 : Int)) = false›
          refine ⟨⟨7, _, false, by decide, rfl, rfl, by rw [hb], Lib.hid ⟨?_, ?_, HB.out⟩⟩, by decide⟩
          · rw [show 256 ^ (8 - 7) = 256 from rfl]; rw [hq0]; rfl
          · rw [show 256 ^ (8 - 7) = 256 from rfl]; rw [hq0]
            have h := HO.out
            rw [hv0] at h
            exact h
      · have hA := hp.out.1
        have hO := hp.out.2.1
        rw [show 256 ^ (8 - 7) = 256 from rfl] at hA hO
        have HS := Lib.hid hA
        have HO := Lib.hid hO
        have HB := Lib.hid hp.out.2.2
        have HD := Lib.hid (digs_next 7 (v / 256) (v % 256) (by omega))
        have HQ := Lib.hid (show v / 256 * 256 + (v % 256) = v by omega)
        have HL := Lib.hid (digs_len_le 7 (v / 256))
        clear hA hO hp
        go_wp2_with (refine wpList_appB rfl (.tmp 24) (.tmp 26) rfl w.heap.size _ (digs 7 (v / 256)) rfl (HO.out.below ((Below.refl _ _).alloc (Nat.le_refl _) _)) (some ⟨wr.heap.size, 0, none⟩) 1 1 [BitVec.ofNat 8 (v % 256)] rfl (isB_one _ _ (bvb_of _ _ (by omega) (by omega))) (by have := HL.out; simp; omega) (by have := HB.out.size; simp; omega) ?_; intro V2 y2 hO2 hg hat; have H2 := Lib.hid (And.intro hO2 ((HB.out.alloc HB.out.size _).grown hg (by have := HB.out.size; simp; omega) (fun k hk => (HO.out.base hk).1))); clear hO2 hg hat)
        · have hv0 : v / 256 ≠ 0 := by have := HS.out; rw [‹S = true›] at this; exact of_decide_eq_true this.symm
          have hne : v / 256 * 256 + (v % 256) ≠ 0 := by omega
          have e : digs 8 (v) = digs 7 (v / 256) ++ [BitVec.ofNat 8 (v % 256)] := by
            have h := HD.out
            rw [if_neg hne, HQ.out] at h
            exact h
          refine ⟨⟨8, V2, true, by decide, rfl, rfl, rfl, Lib.hid ⟨?_, ?_, H2.out.2⟩⟩, by decide⟩
          · rw [show 256 ^ (8 - 8) = 1 from rfl, Nat.div_one]; exact (decide_eq_true (by have := HQ.out; omega)).symm
          · rw [show 256 ^ (8 - 8) = 1 from rfl, Nat.div_one]; rw [e]; exact H2.out.1
        · have hd0 : v % 256 ≠ 0 := by have h := ‹(_ != (0 : Int)) = true›; simp at h; omega
          have hne : v / 256 * 256 + (v % 256) ≠ 0 := by omega
          have e : digs 8 (v) = digs 7 (v / 256) ++ [BitVec.ofNat 8 (v % 256)] := by
            have h := HD.out
            rw [if_neg hne, HQ.out] at h
            exact h
          refine ⟨⟨8, V2, true, by decide, rfl, rfl, rfl, Lib.hid ⟨?_, ?_, H2.out.2⟩⟩, by decide⟩
          · rw [show 256 ^ (8 - 8) = 1 from rfl, Nat.div_one]; exact (decide_eq_true (by have := HQ.out; omega)).symm
          · rw [show 256 ^ (8 - 8) = 1 from rfl, Nat.div_one]; rw [e]; exact H2.out.1
        · have hv0 : v / 256 = 0 := by
            have h := HS.out
            rw [show S = false by simpa using ‹¬S = true›] at h
            have h2 := of_decide_eq_false h.symm
            omega
          have hq0 : v = 0 := by have h := ‹(_ != (0 : Int)) = false›; simp at h; have := HQ.out; omega
          have hb : ((_ : Int) != (0 : Int)) = false := ‹(_ != (0 : Int)) = false›
          refine ⟨⟨8, _, false, by decide, rfl, rfl, by rw [hb], Lib.hid ⟨?_, ?_, HB.out⟩⟩, by decide⟩
          · rw [show 256 ^ (8 - 8) = 1 from rfl, Nat.div_one]; rw [hq0]; rfl
          · rw [show 256 ^ (8 - 8) = 1 from rfl, Nat.div_one]; rw [hq0]
            have h := HO.out
            rw [hv0] at h
            exact h
end Rl
end Go.Proofs.YthlmjcochpodgaaDoor
namespace Go.Proofs.YthlmjcochpodgaaDoor
open Go.ChangeShapes Go.WideShapes Go.Deep Go.RowKit
set_option linter.unusedVariables false
set_option linter.unusedSimpArgs false
namespace Rl
set_option maxHeartbeats 2000000 in
set_option maxRecDepth 100000 in
theorem rhead_short (w : World) (s n : Nat) (hs : s ≤ 192) (hn : n < 56) :
    Calls Tryd.prog 46 #[.int .i64 s, .int .i64 n] w fun e w' => ∃ V, e = .returned V ∧ Own w' w.heap.size V (head s n) ∧ Below w.heap.size w w' := by
  have h1 : (n : Int) < 56 := by omega
  have HH := Lib.hid (show head s n = [BitVec.ofNat 8 (s + n)] by unfold head; rw [if_pos hn])
  have hw : wrap64 ((s : Int) + n) = (s : Int) + n := by unfold wrap64; omega
  have hw2 : IntKind.u8.wrap ((s : Int) + n) = ((s + n : Nat) : Int) := by show ((s : Int) + n) % 256 = _; omega
  have HM := Lib.hid (show s + n < 256 by omega)
  clear hs hn
  go_enter Tryd.func46, Tryd.ntmps46
  go_wp2_with (fail)
  go_ret
  refine ⟨_, rfl, ?_, (Below.refl _ _).alloc (Nat.le_refl _) _⟩
  rw [HH.out]
  refine ⟨rfl, .inr ⟨w.heap.size, 1, #[bvb (BitVec.ofNat 8 (s + n))], rfl, Nat.le_refl _, ?_, Nat.le_refl _, by decide, rfl, rfl⟩⟩
  rw [← bvb_of _ (s + n) rfl HM.out]
  exact heap_alloc_new w _
theorem own_one (w : World) (B : Nat) (hB : B ≤ w.heap.size) (x : Bt) (v : Value) (hv : v = bvb x) : Own (w.alloc (.cells #[v] 5)) B (.slice (some ⟨w.heap.size, 0, none⟩) 1 1) [x] := by
  subst hv
  exact ⟨rfl, .inr ⟨w.heap.size, 1, #[bvb x], rfl, hB, heap_alloc_new w _, Nat.le_refl _, by decide, rfl, rfl⟩⟩
set_option maxHeartbeats 2000000 in
set_option maxRecDepth 100000 in
theorem rhead_long (w : World) (s n : Nat) (hs : s ≤ 192) (hn : 56 ≤ n) (hn2 : n < 9223372036854775808) :
    Calls Tryd.prog 46 #[.int .i64 s, .int .i64 n] w fun e w' => ∃ V, e = .returned V ∧ Own w' w.heap.size V (head s n) ∧ Below w.heap.size w w' := by
  have h1 : decide ((n : Int) < 56) = false := by simp; omega
  have HH := Lib.hid (show head s n = BitVec.ofNat 8 (s + 55 + (big n).length) :: big n by unfold head; rw [if_neg (by omega)])
  have hw : IntKind.u64.wrap (n : Int) = (n : Int) := by show (n : Int) % 18446744073709551616 = _; omega
  have HM := Lib.hid (show (big n).length ≤ 8 ∧ s + 55 + (big n).length < 256 by have := big_le n; omega)
  have HG := Lib.hid (big_walk w n (by omega))
  have hs2 : (s : Int) ≤ 192 := by omega
  have hs3 : wrap64 ((s : Int) + 55) = (s : Int) + 55 := by unfold wrap64; omega
  have hs4 : wrap64 ((s : Int) + 55 + ((big n).length : Int)) = ((s + 55 + (big n).length : Nat) : Int) := by have := HM.out; unfold wrap64; omega
  have hs5 : IntKind.u8.wrap ((s + 55 + (big n).length : Nat) : Int) = ((s + 55 + (big n).length : Nat) : Int) := by have := HM.out; show ((s + 55 + (big n).length : Nat) : Int) % 256 = _; omega
  clear hn hn2 hs hs2
  go_enter Tryd.func46, Tryd.ntmps46
  go_wp2_with (first
    | (go_at_call 24; (with_reducible refine HG.out.mono ?_); rintro e y1 ⟨VD, rfl, hO, hb⟩; obtain ⟨ad, cd, rfl, hBd⟩ := hO.isB; have HD := Lib.hid hBd; have HB := Lib.hid hb; clear hO hb hBd HG)
    | (refine wpList_appB rfl (.tmp 22) (.tmp 23) rfl w.heap.size (.slice (some ⟨y1.heap.size, 0, none⟩) 1 1) [BitVec.ofNat 8 (s + 55 + (big n).length)] rfl (own_one y1 w.heap.size HB.out.size _ _ (bvb_of _ _ (by have := HM.out.2; omega) HM.out.2)) ad (big n).length cd (big n) rfl (HD.out.keep (keep_below ((Below.refl _ _).alloc (Nat.le_refl _) _))) (by have := HM.out.1; simp; omega) (by have := HB.out.size; simp; omega) ?_
       intro V2 y2 hO2 hg hat
       have H2 := Lib.hid (And.intro hO2 ((HB.out.alloc HB.out.size _).grown hg (by have := HB.out.size; simp; omega) (fun k hk => by injection hk with hk; subst hk; exact HB.out.size)))
       clear hO2 hg hat))
  go_ret
  exact ⟨V2, rfl, by rw [HH.out]; exact H2.out.1, H2.out.2⟩
theorem rhead_walk (w : World) (s n : Nat) (hs : s ≤ 192) (hn2 : n < 9223372036854775808) :
    Calls Tryd.prog 46 #[.int .i64 s, .int .i64 n] w fun e w' => ∃ V, e = .returned V ∧ Own w' w.heap.size V (head s n) ∧ Below w.heap.size w w' := by
  by_cases h : n < 56
  · exact rhead_short w s n hs h
  · exact rhead_long w s n hs (by omega) hn2
end Rl
end Go.Proofs.YthlmjcochpodgaaDoor
namespace Go.Proofs.YthlmjcochpodgaaDoor
open Go.ChangeShapes Go.WideShapes Go.Deep Go.RowKit
set_option linter.unusedVariables false
set_option linter.unusedSimpArgs false
namespace Rl
theorem own_none (w : World) (B : Nat) (hB : B ≤ w.heap.size) : Own (w.alloc (.cells #[] 5)) B (.slice (some ⟨w.heap.size, 0, none⟩) 0 0) [] :=
  ⟨rfl, .inr ⟨w.heap.size, 0, #[], rfl, hB, heap_alloc_new w _, Nat.le_refl _, by decide, rfl, rfl⟩⟩
theorem Own.lower {w : World} {B B' : Nat} {V : Value} {bs : List Bt} (h : Own w B V bs) (hB : B' ≤ B) : Own w B' V bs := ownsRow_base h hB
theorem Own.asB {w : World} {B n c : Nat} {a : Option Addr} {bs : List Bt} (h : Own w B (.slice a n c) bs) : IsB w a n c bs := by
  obtain ⟨a', c', e, hb⟩ := h.isB
  injection e with e1 e2 e3
  subst e1 e2 e3
  exact hb
theorem fm0 (w : World) (l s1 s2 : Value) : Fm w w.heap.size l s1 s2 (.slice (some ⟨w.heap.size + 1, 0, none⟩) 0 0) [] ((w.alloc (.cells #[l, s1, s2] 25)).alloc (.cells #[] 5)) := by
  have h1 := own_none (w.alloc (.cells #[l, s1, s2] 25)) w.heap.size (by simp)
  have h2 := Box3.new w l s1 s2 25
  have h3 := h2.keep (ba _ (.cells #[] 5))
  rw [show (w.alloc (.cells #[l, s1, s2] 25)).heap.size = w.heap.size + 1 by simp] at h1
  exact ⟨h1, bl (ba _ _) (ba _ _), Nat.le_refl _, by simp [Value.ownBlock], by simp; omega, h3.k0, h3.k1, h3.k2⟩
/-- What form answers. -/
def fmOut (B : Nat) (w : World) (F : List Bt) (e : Ending) : Prop := ∃ V ys, e = .returned (.tuple #[V, .bool (decide (F.length ≤ 4096))]) ∧ Own w B V ys ∧ (F.length ≤ 4096 → ys = F) ∧ ys.length ≤ F.length
set_option maxHeartbeats 4000000 in
set_option maxRecDepth 100000 in
theorem rform_list (w : World) (c n' c' : Nat) (a a' : Option Addr) (k : Fo) (hB : IsB w a 0 c []) (hK : IsK w a' n' c' k) (hr : k.right = true) (hl : (wrap true [] k.form).length < B30)
    (ih : ∀ (w : World) (l : Bool) (n c n' c' : Nat) (a a' : Option Addr) (bs : List Bt) (k1 : Fo), k1.size < k.size → whole l bs.length k1 = true → IsB w a n c bs → IsK w a' n' c' k1 → (wrap l bs k1.form).length < B30 →
      Calls Tryd.prog 36 #[.agg #[.bool l, .slice a n c, .slice a' n' c']] w fun e w' => fmOut w.heap.size w' (wrap l bs k1.form) e ∧ Below w.heap.size w w') :
    Calls Tryd.prog 36 #[.agg #[.bool true, .slice a 0 c, .slice a' n' c']] w fun e w' => fmOut w.heap.size w' (wrap true [] k.form) e ∧ Below w.heap.size w w' := by
  have HBB := Lib.hid hB
  have HK := Lib.hid hK
  have HR := Lib.hid hr
  have HI := Lib.hid ih
  have HLL := Lib.hid hl
  have HN : Hid (n' ≤ maxLen) := Lib.hid (Nat.le_trans hK.2.1 hK.2.2.1)
  have HW : Hid (wrap true [] k.form = head 192 k.form.length ++ k.form ∧ k.form.length + 1 ≤ (wrap true [] k.form).length) := Lib.hid ⟨rfl, by rw [wrap_true]; exact wrapB_gt rfl⟩
  have HF0 : Hid (Fm w w.heap.size (.bool true) (.slice a 0 c) (.slice a' n' c') (.slice (some ⟨w.heap.size + 1, 0, none⟩) 0 0) [] ((w.alloc (.cells #[.bool true, .slice a 0 c, .slice a' n' c'] 25)).alloc (.cells #[] 5))) := Lib.hid (by
    have h1 := own_none (w.alloc (.cells #[.bool true, .slice a 0 c, .slice a' n' c'] 25)) w.heap.size (by simp)
    have h2 := Box3.new w (.bool true) (.slice a 0 c) (.slice a' n' c') 25
    have h3 := h2.keep (ba _ (.cells #[] 5))
    rw [show (w.alloc (.cells #[.bool true, .slice a 0 c, .slice a' n' c'] 25)).heap.size = w.heap.size + 1 by simp] at h1
    exact ⟨h1, bl (ba _ _) (ba _ _), Nat.le_refl _, by simp [Value.ownBlock], by simp; omega, h3.k0, h3.k1, h3.k2⟩)
  clear hB hK hr ih hl
  go_enter Tryd.func36, Tryd.ntmps36
  go_upto_region 7 with (refine wpList_appB rfl (.tmp 30) (.tmp 32) rfl w.heap.size (.slice (some ⟨w.heap.size + 1, 0, none⟩) 0 0) [] rfl HF0.out.own a 0 c [] rfl (HBB.out.keep (keep_below HF0.out.below)) (by simp) HF0.out.below.size ?_
                         intro V1 y1 hO hg hat
                         have HF1 := Lib.hid (HF0.out.grow hO hg hat)
                         have g0 := HF1.out.k0
                         have g2 := HF1.out.k2
                         clear hO hg hat HF0)
  simp only [List.append_nil] at HF1
  obtain ⟨a1, c1, e1, _⟩ := HF1.out.own.isB
  rw [show ([] : List Bt).length = 0 from rfl] at e1
  subst e1
  clear g0
  go_wp2_with (fail)
  clear g2
  go_loopw [4, 6] (fun t i y => ∃ (j : Nat) (au : Option Addr) (cu : Nat) (us : List Bt), i = .int .i64 j ∧ t = .slice au us.length cu ∧ Hid (j ≤ n' ∧ us.length ≤ 4096 ∧ us ++ (k.drop j).form = k.form ∧ Fm w w.heap.size (.bool true) (.slice a 0 c) (.slice a' n' c') (.slice au us.length cu) us y)) (fun _ i _ => n' - (intOf i).toNat)
  case atStart => exact ⟨0, a1, c1, [], rfl, rfl, Lib.hid ⟨Nat.zero_le _, by simp, by rw [Fo.drop_zero]; rfl, HF1.out⟩⟩
  case round =>
    obtain ⟨j, au, cu, us, rfl, rfl, hp⟩ := hrel
    clear HF1
    have gb := hp.out.2.2.2.k2
    by_cases hlt : (j : Int) < (n' : Int)
    · have hkk := HK.out.keep (keep_below hp.out.2.2.2.below)
      obtain ⟨b, o, l1, bs1, k1, a1, n1, c1, a2, n2, c2, rfl, hd, hb1, hk1, g0, g1, g2⟩ := hkk.at (show j < n' by omega)
      have hz : (us ++ wrap l1 bs1 k1.form) ++ (k.drop (j + 1)).form = k.form := by
        have := hp.out.2.2.1; rw [hd, Fo.form_cons, ← List.append_assoc] at this; exact this
      have hlen : us.length + (wrap l1 bs1 k1.form).length ≤ k.form.length := by
        have h1 := congrArg List.length hz
        simp only [List.length_append] at h1; omega
      have HC := Lib.hid (HI.out wr l1 n1 c1 n2 c2 a1 a2 bs1 k1 (Fo.drop_kid hd) (Fo.kid_right HR.out hd) hb1 hk1 (by have := HLL.out; have := HW.out.2; omega))
      generalize wrap l1 bs1 k1.form = F at *
      have HZ := Lib.hid (And.intro hz hlen)
      have HJ := Lib.hid (show j < n' ∧ wrap64 ((j : Int) + 1) = ((j + 1 : Nat) : Int) by
        refine ⟨by omega, ?_⟩
        have := HN.out; simp only [maxLen] at this; unfold wrap64; omega)
      have HM := Lib.hid hp.out.2.2.2
      clear hd hb1 hk1 hp hz hlen hkk
      by_cases hF : F.length ≤ 4096
      · have HFF := Lib.hid hF
        clear hF
        go_wp2_with (first
          | (go_at_call 36; (with_reducible refine HC.out.mono ?_); rintro e y2 ⟨⟨V3, ys, rfl, hO3, h3, h4⟩, hb⟩
             obtain rfl : ys = F := h3 HFF.out
             rw [show decide (ys.length ≤ 4096) = true from decide_eq_true HFF.out]
             obtain ⟨a3, c3, rfl, hB3⟩ := hO3.isB
             have HB3 := Lib.hid hB3
             have HM2 := Lib.hid (HM.out.next hb)
             clear hb hO3 h3 h4 hB3 HC g0 g1 g2 gb hlt HM)
          | (refine wpList_appB rfl (.tmp 52) (.tmp 53) rfl w.heap.size _ us rfl HM2.out.own a3 ys.length c3 ys rfl HB3.out (by have := HZ.out.2; have := HLL.out; have := HW.out.2; unfold B30 at *; omega) HM2.out.below.size ?_
             intro V4 y4 hO hg hat
             have HM4 := Lib.hid (HM2.out.grow hO hg hat)
             have HZ2 := Lib.hid (show (us ++ ys).length ≤ k.form.length by rw [List.length_append]; exact HZ.out.2)
             have HZ3 := Lib.hid HZ.out.1
             clear hO hg hat HM2 HB3 HZ
             generalize us ++ ys = zs at *
             obtain ⟨a4, c4, rfl, _⟩ := HM4.out.own.isB))
        · have hno : ¬ (wrap true [] k.form).length ≤ 4096 := by have := HZ2.out; have := HW.out.2; omega
          exact bodyPost_ret (v := .tuple #[.slice none 0 0, .bool false]) (by simp [results, Tryd.results36, go_sem]) rfl ⟨⟨_, [], by rw [decide_eq_false hno], Own.nil _ _, fun h => absurd h hno, Nat.zero_le _⟩, HM4.out.below⟩
        · go_roundw
          case rel => exact ⟨j + 1, a4, c4, zs, by rw [HJ.out.2], rfl, Lib.hid ⟨HJ.out.1, by omega, HZ3.out, HM4.out⟩⟩
          case measure => rw [HJ.out.2]; have := HJ.out.1; simp [intOf]; omega
      · have HFF := Lib.hid hF
        clear hF
        go_wp2_with (first
          | (go_at_call 36; (with_reducible refine HC.out.mono ?_); rintro e y2 ⟨⟨V3, ys, rfl, hO3, h3, h4⟩, hb⟩
             rw [show decide (F.length ≤ 4096) = false from decide_eq_false HFF.out]
             obtain ⟨a3, c3, rfl, hB3⟩ := hO3.isB
             have HB3 := Lib.hid (And.intro hB3 h4)
             have HM2 := Lib.hid (HM.out.next hb)
             clear hb hO3 h3 h4 hB3 HC g0 g1 g2 gb hlt HM)
          | (refine wpList_appB rfl (.tmp 52) (.tmp 53) rfl w.heap.size _ us rfl HM2.out.own a3 ys.length c3 ys rfl HB3.out.1 (by have := HZ.out.2; have := HB3.out.2; have := HLL.out; have := HW.out.2; unfold B30 at *; omega) HM2.out.below.size ?_
             intro V4 y4 hO hg hat
             have HM4 := Lib.hid (HM2.out.grow hO hg hat)
             clear hO hg hat HM2 HB3))
        have hno : ¬ (wrap true [] k.form).length ≤ 4096 := by have := HZ.out.2; have := HW.out.2; have := HFF.out; omega
        exact bodyPost_ret (v := .tuple #[.slice none 0 0, .bool false]) (by simp [results, Tryd.results36, go_sem]) rfl ⟨⟨_, [], by rw [decide_eq_false hno], Own.nil _ _, fun h => absurd h hno, Nat.zero_le _⟩, HM4.out.below⟩
    · have hend : us = k.form := by
        have e := hp.out.2.2.1
        rw [Fo.drop_end (by have := HK.out.1; omega)] at e
        rw [← e]; exact (List.append_nil us).symm
      subst hend
      have HH := Lib.hid (rhead_walk wr 192 k.form.length (by decide) (by have := HLL.out; have := HW.out.2; unfold B30 at *; omega))
      have HM := Lib.hid hp.out.2.2.2
      rw [show ((192 : Nat) : Int) = 192 from rfl] at HH
      clear hp
      go_wp2_with (first
        | (go_at_call 46; (with_reducible refine HH.out.mono ?_); rintro e y2 ⟨V3, rfl, hO3, hb⟩
           have H3 := Lib.hid (And.intro hO3 hb)
           have HM2 := Lib.hid (HM.out.next hb)
           clear hb hO3 HH gb hlt)
        | (refine wpList_appB rfl (.tmp 65) (.tmp 66) rfl w.heap.size V3 (head 192 k.form.length) rfl (H3.out.1.lower HM.out.below.size) au k.form.length cu k.form rfl HM2.out.own.asB (by have := HLL.out; rw [HW.out.1, List.length_append] at this; unfold B30 at this; omega) HM2.out.below.size ?_
           intro V4 y4 hO hg hat
           rw [← HW.out.1] at hO
           have HM4 := Lib.hid (And.intro hO (HM2.out.below.grown hg HM2.out.below.size (fun k hk => Nat.le_trans HM.out.below.size (H3.out.1.base hk).1)))
           clear hO hg hat
           obtain ⟨a4, c4, rfl, _⟩ := HM4.out.1.isB))
      exact bodyPost_ret (v := .tuple #[.slice a4 (wrap true [] k.form).length c4, .bool (decide ((wrap true [] k.form).length ≤ 4096))]) (by simp [results, Tryd.results36, go_sem]; omega) rfl ⟨⟨_, _, rfl, HM4.out.1, fun h => rfl, Nat.le_refl _⟩, HM4.out.2⟩
set_option maxHeartbeats 4000000 in
set_option maxRecDepth 100000 in
theorem rform_one (w : World) (c c' b o : Nat) (a' : Option Addr) (x : Bt) (hB : IsB w (some ⟨b, o, none⟩) 1 c [x]) (hx : x.toNat < 128) :
    Calls Tryd.prog 36 #[.agg #[.bool false, .slice (some ⟨b, o, none⟩) 1 c, .slice a' 0 c']] w fun e w' => fmOut w.heap.size w' [x] e ∧ Below w.heap.size w w' := by
  have hcell : w.cell? ⟨b, o, none⟩ = some (bvb x) := by
    rcases hB.2.2.2.2 with h | ⟨b1, o1, e, h⟩
    · cases h
    · injection e with e
      injection e with e1 e2
      subst e1 e2
      simpa using h 0 x rfl
  have HBB := Lib.hid hB
  have h1 : (x.toNat : Int) < 128 := by omega
  have HF0 := Lib.hid (fm0 w (.bool false) (.slice (some ⟨b, o, none⟩) 1 c) (.slice a' 0 c'))
  have gx := keep_below (ba w (.cells #[.bool false, .slice (some ⟨b, o, none⟩) 1 c, .slice a' 0 c'] 25)) _ _ hcell
  unfold bvb at gx
  clear hB hcell hx
  go_enter Tryd.func36, Tryd.ntmps36
  go_wp2_with (refine wpList_appB rfl (.tmp 26) (.tmp 28) rfl w.heap.size (.slice (some ⟨w.heap.size + 1, 0, none⟩) 0 0) [] rfl HF0.out.own (some ⟨b, o, none⟩) 1 c [x] rfl (HBB.out.keep (keep_below HF0.out.below)) (by simp) HF0.out.below.size ?_
               intro V1 y1 hO hg hat
               have HF1 := Lib.hid (HF0.out.grow hO hg hat)
               clear hO hg hat HF0)
  exact bodyPost_ret (v := .tuple #[V1, .bool true]) (by simp [results, Tryd.results36, go_sem]) rfl ⟨⟨_, _, rfl, HF1.out.own, fun h => rfl, Nat.le_refl _⟩, HF1.out.below⟩
set_option maxHeartbeats 4000000 in
set_option maxRecDepth 100000 in
theorem rform_text (w : World) (n c c' : Nat) (a a' : Option Addr) (bs : List Bt) (hs : single false bs = false) (hB : IsB w a n c bs) (hl : (wrap false bs []).length < B30) :
    Calls Tryd.prog 36 #[.agg #[.bool false, .slice a n c, .slice a' 0 c']] w fun e w' => fmOut w.heap.size w' (wrap false bs []) e ∧ Below w.heap.size w w' := by
  have HBB := Lib.hid hB
  have HLL := Lib.hid hl
  have hnn := hB.1
  have HW : Hid (wrap false bs [] = head 128 bs.length ++ bs) := Lib.hid (by unfold wrap; rw [hs, List.append_nil]; rfl)
  have HF0 := Lib.hid (fm0 w (.bool false) (.slice a n c) (.slice a' 0 c'))
  subst hnn
  have HLN : Hid (bs.length < B30) := Lib.hid (by have := HLL.out; rw [HW.out, List.length_append] at this; omega)
  clear hB hl
  by_cases h1 : bs.length = 1
  · have hne : ((bs.length : Int) == 1) = true := by simp; omega
    obtain ⟨b, o, rfl, hcell⟩ : ∃ b o, a = some ⟨b, o, none⟩ ∧ w.cell? ⟨b, o, none⟩ = some (.int .u8 ((bs.getD 0 0#8).toNat : Int)) := by
      rcases HBB.out.2.2.2.2 with h | ⟨b, o, e, h⟩
      · omega
      · refine ⟨b, o, e, ?_⟩
        have h2 := h 0 (bs.getD 0 0#8) (by rw [List.getD_eq_getElem?_getD, List.getElem?_eq_getElem (by omega)]; rfl)
        simpa [bvb] using h2
    have hx : decide (((bs.getD 0 0#8).toNat : Int) < 128) = false := by
      obtain ⟨x, rfl⟩ : ∃ x, bs = [x] := List.length_eq_one_iff.1 h1
      have hs2 : ¬ x.toNat < 128 := fun h => by
        have : single false [x] = true := single_iff.2 ⟨rfl, x, rfl, h⟩
        rw [this] at hs; cases hs
      simp at hs2 ⊢; omega
    have gx := keep_below (ba w (.cells #[.bool false, .slice (some ⟨b, o, none⟩) bs.length c, .slice a' 0 c'] 25)) _ _ hcell
    generalize ((bs.getD 0 0#8).toNat : Int) = X at *
    have hpos : (0 : Int) < bs.length := by omega
    clear hcell h1 hs
    go_enter Tryd.func36, Tryd.ntmps36
    go_wp2_with (refine wpList_appB rfl (.tmp 30) (.tmp 32) rfl w.heap.size (.slice (some ⟨w.heap.size + 1, 0, none⟩) 0 0) [] rfl HF0.out.own (some ⟨b, o, none⟩) bs.length c bs rfl (HBB.out.keep (keep_below HF0.out.below)) (by have := HLN.out; unfold B30 at this; simp at this ⊢; omega) HF0.out.below.size ?_
                 intro V1 y1 hO hg hat
                 have HF1 := Lib.hid (HF0.out.grow hO hg hat)
                 rw [List.nil_append] at HF1
                 obtain ⟨au, cu, rfl, _⟩ := HF1.out.own.isB
                 have g0 := HF1.out.k0
                 have g2 := HF1.out.k2
                 clear hO hg hat HF0)
    go_loopw [4, 6] (fun t i y => t = .slice au bs.length cu ∧ i = .int .i64 0 ∧ y = y1) (fun _ _ _ => 0)
    case atStart => exact ⟨rfl, rfl, rfl⟩
    case round =>
      obtain ⟨rfl, rfl, rfl⟩ := hrel
      have HH := Lib.hid (rhead_walk wr 128 bs.length (by decide) (by have := HLN.out; unfold B30 at this; omega))
      rw [show ((128 : Nat) : Int) = 128 from rfl] at HH
      go_wp2_with (first
        | (go_at_call 46; (with_reducible refine HH.out.mono ?_); rintro e y2 ⟨V3, rfl, hO3, hb⟩
           have H3 := Lib.hid (And.intro hO3 hb)
           have HM2 := Lib.hid (HF1.out.next hb)
           clear hb hO3 HH g0 g2)
        | (refine wpList_appB rfl (.tmp 65) (.tmp 66) rfl w.heap.size V3 (head 128 bs.length) rfl (H3.out.1.lower HF1.out.below.size) au bs.length cu bs rfl HM2.out.own.asB (by have := HLL.out; rw [HW.out, List.length_append] at this; unfold B30 at this; omega) HM2.out.below.size ?_
           intro V4 y4 hO hg hat
           rw [← HW.out] at hO
           have HM4 := Lib.hid (And.intro hO (HM2.out.below.grown hg HM2.out.below.size (fun k hk => Nat.le_trans HF1.out.below.size (H3.out.1.base hk).1)))
           clear hO hg hat
           obtain ⟨a4, c4, rfl, _⟩ := HM4.out.1.isB))
      exact bodyPost_ret (v := .tuple #[.slice a4 (wrap false bs []).length c4, .bool (decide ((wrap false bs []).length ≤ 4096))]) (by simp [results, Tryd.results36, go_sem]; omega) rfl ⟨⟨_, _, rfl, HM4.out.1, fun h => rfl, Nat.le_refl _⟩, HM4.out.2⟩
  · have hne : ((bs.length : Int) == 1) = false := by simp; omega
    clear h1 hs
    go_enter Tryd.func36, Tryd.ntmps36
    go_wp2_with (refine wpList_appB rfl (.tmp 30) (.tmp 32) rfl w.heap.size (.slice (some ⟨w.heap.size + 1, 0, none⟩) 0 0) [] rfl HF0.out.own a bs.length c bs rfl (HBB.out.keep (keep_below HF0.out.below)) (by have := HLN.out; unfold B30 at this; simp at this ⊢; omega) HF0.out.below.size ?_
                 intro V1 y1 hO hg hat
                 have HF1 := Lib.hid (HF0.out.grow hO hg hat)
                 rw [List.nil_append] at HF1
                 obtain ⟨au, cu, rfl, _⟩ := HF1.out.own.isB
                 have g0 := HF1.out.k0
                 have g2 := HF1.out.k2
                 clear hO hg hat HF0)
    go_loopw [4, 6] (fun t i y => t = .slice au bs.length cu ∧ i = .int .i64 0 ∧ y = y1) (fun _ _ _ => 0)
    case atStart => exact ⟨rfl, rfl, rfl⟩
    case round =>
      obtain ⟨rfl, rfl, rfl⟩ := hrel
      have HH := Lib.hid (rhead_walk wr 128 bs.length (by decide) (by have := HLN.out; unfold B30 at this; omega))
      rw [show ((128 : Nat) : Int) = 128 from rfl] at HH
      go_wp2_with (first
        | (go_at_call 46; (with_reducible refine HH.out.mono ?_); rintro e y2 ⟨V3, rfl, hO3, hb⟩
           have H3 := Lib.hid (And.intro hO3 hb)
           have HM2 := Lib.hid (HF1.out.next hb)
           clear hb hO3 HH g0 g2)
        | (refine wpList_appB rfl (.tmp 65) (.tmp 66) rfl w.heap.size V3 (head 128 bs.length) rfl (H3.out.1.lower HF1.out.below.size) au bs.length cu bs rfl HM2.out.own.asB (by have := HLL.out; rw [HW.out, List.length_append] at this; unfold B30 at this; omega) HM2.out.below.size ?_
           intro V4 y4 hO hg hat
           rw [← HW.out] at hO
           have HM4 := Lib.hid (And.intro hO (HM2.out.below.grown hg HM2.out.below.size (fun k hk => Nat.le_trans HF1.out.below.size (H3.out.1.base hk).1)))
           clear hO hg hat
           obtain ⟨a4, c4, rfl, _⟩ := HM4.out.1.isB))
      exact bodyPost_ret (v := .tuple #[.slice a4 (wrap false bs []).length c4, .bool (decide ((wrap false bs []).length ≤ 4096))]) (by simp [results, Tryd.results36, go_sem]; omega) rfl ⟨⟨_, _, rfl, HM4.out.1, fun h => rfl, Nat.le_refl _⟩, HM4.out.2⟩
theorem rform_walk (w : World) (l : Bool) (n c n' c' : Nat) (a a' : Option Addr) (bs : List Bt) (k : Fo) (hr : whole l bs.length k = true) (hB : IsB w a n c bs) (hK : IsK w a' n' c' k) (hl : (wrap l bs k.form).length < B30) :
    Calls Tryd.prog 36 #[.agg #[.bool l, .slice a n c, .slice a' n' c']] w fun e w' => fmOut w.heap.size w' (wrap l bs k.form) e ∧ Below w.heap.size w w' := by
  generalize hz : k.size = z at *
  induction z using Nat.strongRecOn generalizing w l n c n' c' a a' bs k with
  | _ z ih =>
    subst hz
    have hn := hB.1
    have hn' := hK.1
    cases l with
    | true =>
      have hb : bs = [] := by
        have h := (Bool.and_eq_true_iff.1 hr).1
        have h2 : ((bs.length : Int) == 0) = true := h
        exact List.eq_nil_of_length_eq_zero (by simpa using h2)
      subst hb
      obtain rfl : n = 0 := hn
      exact rform_list w c n' c' a a' k hB hK (whole_kids hr) hl fun w l n c n' c' a a' bs k1 h1 h2 h3 h4 h5 => ih k1.size h1 w l n c n' c' a a' bs k1 h2 h3 h4 h5 rfl
    | false =>
      have hk : k = .nil := by
        have h := (Bool.and_eq_true_iff.1 hr).1
        have h2 : ((k.len : Int) == 0) = true := h
        exact len_zero (by simpa using h2)
      subst hk
      obtain rfl : n' = 0 := hn'
      by_cases hs : single false bs = true
      · obtain ⟨_, x, rfl, hx⟩ := single_iff.1 hs
        have e : wrap false [x] Fo.nil.form = [x] := by unfold wrap; rw [if_pos hs]
        rw [e]
        rcases hB.2.2.2.2 with h | ⟨b, o, rfl, h⟩
        · rw [hn] at h; cases h
        · rw [show n = 1 from hn] at hB ⊢
          exact rform_one w c c' b o a' x hB hx
      · exact rform_text w n c c' a a' bs (by simpa using hs) hB hl
end Rl
end Go.Proofs.YthlmjcochpodgaaDoor
