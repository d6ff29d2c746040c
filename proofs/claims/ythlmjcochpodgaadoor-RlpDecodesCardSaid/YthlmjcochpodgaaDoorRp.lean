/-
  mootref03: Big. Own work.
-/
import Derived.Test.YthlmjcochpodgaaDoorRn
namespace Go.Proofs.YthlmjcochpodgaaDoor
open Go.ChangeShapes Go.WideShapes Go.Deep Go.RowKit
set_option linter.unusedVariables false
set_option linter.unusedSimpArgs false
namespace Rl
theorem digs_next (f v d : Nat) (hd : d < 256) : digs (f + 1) (v * 256 + d) = if v * 256 + d = 0 then [] else digs f v ++ [BitVec.ofNat 8 d] := by
  rw [digs]
  split
  · rfl
  · have e1 : (v * 256 + d) / 256 = v := by omega
    have e2 : BitVec.ofNat 8 (v * 256 + d) = BitVec.ofNat 8 d := by
      apply BitVec.eq_of_toNat_eq
      rw [BitVec.toNat_ofNat, BitVec.toNat_ofNat]
      omega
    rw [e1, e2]
set_option maxHeartbeats 4000000 in
set_option maxRecDepth 100000 in
theorem big_walk (w : World) (v : Nat) (hv : v < 18446744073709551616) :
    Calls Tryd.prog 24 #[.int .u64 v] w fun e w' => ∃ V, e = .returned V ∧ Own w' w.heap.size V (big v) ∧ Below w.heap.size w w' := by
  have HV := Lib.hid hv
  clear hv
  go_enter Tryd.func24, Tryd.ntmps24
  go_wp2_with (fail)
  go_loopw [3, 4, 5] (fun V st i y => ∃ (j : Nat) (U : Value) (S : Bool), j ≤ 8 ∧ i = .int .i64 j ∧ V = U ∧ st = .bool S ∧ Hid (S = decide (v / 256 ^ (8 - j) ≠ 0) ∧ Own y w.heap.size U (digs j (v / 256 ^ (8 - j))) ∧ Below w.heap.size w y)) (fun _ _ i _ => 8 - (intOf i).toNat)
  case atStart => exact ⟨0, _, _, by decide, rfl, rfl, rfl, Lib.hid ⟨by have := HV.out; rw [Nat.div_eq_of_lt (by simpa using this)]; rfl, Own.nil _ _, Below.refl _ _⟩⟩
  case round =>
    obtain ⟨j, U, S, hj, rfl, rfl, rfl, hp⟩ := hrel
    by_cases h8 : j = 8
    · subst h8
      go_wp2_with (fail)
      go_ret
      refine ⟨_, rfl, ?_, hp.out.2.2⟩
      have := hp.out.2.1
      simpa [big] using this
    · have hj7 : j = 0 ∨ j = 1 ∨ j = 2 ∨ j = 3 ∨ j = 4 ∨ j = 5 ∨ j = 6 ∨ j = 7 := by omega
      clear hj h8
      rcases hj7 with rfl | rfl | rfl | rfl | rfl | rfl | rfl | rfl
      · have hA := hp.out.1
        have hO := hp.out.2.1
        rw [show 256 ^ (8 - 0) = 18446744073709551616 from rfl] at hA hO
        have HS := Lib.hid hA
        have HO := Lib.hid hO
        have HB := Lib.hid hp.out.2.2
        have HD := Lib.hid (digs_next 0 (v / 18446744073709551616) (v / 72057594037927936 % 256) (by omega))
        have HQ := Lib.hid (show v / 18446744073709551616 * 256 + (v / 72057594037927936 % 256) = v / 72057594037927936 by omega)
        have HL := Lib.hid (digs_len_le 0 (v / 18446744073709551616))
        clear hA hO hp
        go_wp2_with (refine wpList_appB rfl (.tmp 24) (.tmp 26) rfl w.heap.size _ (digs 0 (v / 18446744073709551616)) rfl (HO.out.below ((Below.refl _ _).alloc (Nat.le_refl _) _)) (some ⟨wr.heap.size, 0, none⟩) 1 1 [BitVec.ofNat 8 (v / 72057594037927936 % 256)] rfl (isB_one _ _ (bvb_of _ _ (by omega) (by omega))) (by have := HL.out; simp; omega) (by have := HB.out.size; simp; omega) ?_; intro V2 y2 hO2 hg hat; have H2 := Lib.hid (And.intro hO2 ((HB.out.alloc HB.out.size _).grown hg (by have := HB.out.size; simp; omega) (fun k hk => (HO.out.base hk).1))); clear hO2 hg hat)
        · have hv0 : v / 18446744073709551616 ≠ 0 := by have := HS.out; rw [‹S = true›] at this; exact of_decide_eq_true this.symm
          have hne : v / 18446744073709551616 * 256 + (v / 72057594037927936 % 256) ≠ 0 := by omega
          have e : digs 1 (v / 72057594037927936) = digs 0 (v / 18446744073709551616) ++ [BitVec.ofNat 8 (v / 72057594037927936 % 256)] := by
            have h := HD.out
            rw [if_neg hne, HQ.out] at h
            exact h
          refine ⟨⟨1, V2, true, by decide, rfl, rfl, rfl, Lib.hid ⟨?_, ?_, H2.out.2⟩⟩, by decide⟩
          · rw [show 256 ^ (8 - 1) = 72057594037927936 from rfl]; exact (decide_eq_true (by have := HQ.out; omega)).symm
          · rw [show 256 ^ (8 - 1) = 72057594037927936 from rfl]; rw [e]; exact H2.out.1
        · have hd0 : v / 72057594037927936 % 256 ≠ 0 := by have h := ‹(_ != (0 : Int)) = true›; simp at h; omega
          have hne : v / 18446744073709551616 * 256 + (v / 72057594037927936 % 256) ≠ 0 := by omega
          have e : digs 1 (v / 72057594037927936) = digs 0 (v / 18446744073709551616) ++ [BitVec.ofNat 8 (v / 72057594037927936 % 256)] := by
            have h := HD.out
            rw [if_neg hne, HQ.out] at h
            exact h
          refine ⟨⟨1, V2, true, by decide, rfl, rfl, rfl, Lib.hid ⟨?_, ?_, H2.out.2⟩⟩, by decide⟩
          · rw [show 256 ^ (8 - 1) = 72057594037927936 from rfl]; exact (decide_eq_true (by have := HQ.out; omega)).symm
          · rw [show 256 ^ (8 - 1) = 72057594037927936 from rfl]; rw [e]; exact H2.out.1
        · have hv0 : v / 18446744073709551616 = 0 := by
            have h := HS.out
            rw [show S = false by simpa using ‹¬S = true›] at h
            have h2 := of_decide_eq_false h.symm
            omega
          have hq0 : v / 72057594037927936 = 0 := by have h := ‹(_ != (0 : Int)) = false›; simp at h; have := HQ.out; omega
          have hb : ((_ : Int) != (0 : Int)) = false := ‹(_ != (0 : Int)) = false›
          refine ⟨⟨1, _, false, by decide, rfl, rfl, by rw [hb], Lib.hid ⟨?_, ?_, HB.out⟩⟩, by decide⟩
          · rw [show 256 ^ (8 - 1) = 72057594037927936 from rfl]; rw [hq0]; rfl
          · rw [show 256 ^ (8 - 1) = 72057594037927936 from rfl]; rw [hq0]
            have h := HO.out
            rw [hv0] at h
            exact h
      · have hA := hp.out.1
        have hO := hp.out.2.1
        rw [show 256 ^ (8 - 1) = 72057594037927936 from rfl] at hA hO
        have HS := Lib.hid hA
        have HO := Lib.hid hO
        have HB := Lib.hid hp.out.2.2
        have HD := Lib.hid (digs_next 1 (v / 72057594037927936) (v / 281474976710656 % 256) (by omega))
        have HQ := Lib.hid (show v / 72057594037927936 * 256 + (v / 281474976710656 % 256) = v / 281474976710656 by omega)
        have HL := Lib.hid (digs_len_le 1 (v / 72057594037927936))
        clear hA hO hp
        go_wp2_with (refine wpList_appB rfl (.tmp 24) (.tmp 26) rfl w.heap.size _ (digs 1 (v / 72057594037927936)) rfl (HO.out.below ((Below.refl _ _).alloc (Nat.le_refl _) _)) (some ⟨wr.heap.size, 0, none⟩) 1 1 [BitVec.ofNat 8 (v / 281474976710656 % 256)] rfl (isB_one _ _ (bvb_of _ _ (by omega) (by omega))) (by have := HL.out; simp; omega) (by have := HB.out.size; simp; omega) ?_; intro V2 y2 hO2 hg hat; have H2 := Lib.hid (And.intro hO2 ((HB.out.alloc HB.out.size _).grown hg (by have := HB.out.size; simp; omega) (fun k hk => (HO.out.base hk).1))); clear hO2 hg hat)
        · have hv0 : v / 72057594037927936 ≠ 0 := by have := HS.out; rw [‹S = true›] at this; exact of_decide_eq_true this.symm
          have hne : v / 72057594037927936 * 256 + (v / 281474976710656 % 256) ≠ 0 := by omega
          have e : digs 2 (v / 281474976710656) = digs 1 (v / 72057594037927936) ++ [BitVec.ofNat 8 (v / 281474976710656 % 256)] := by
            have h := HD.out
            rw [if_neg hne, HQ.out] at h
            exact h
          refine ⟨⟨2, V2, true, by decide, rfl, rfl, rfl, Lib.hid ⟨?_, ?_, H2.out.2⟩⟩, by decide⟩
          · rw [show 256 ^ (8 - 2) = 281474976710656 from rfl]; exact (decide_eq_true (by have := HQ.out; omega)).symm
          · rw [show 256 ^ (8 - 2) = 281474976710656 from rfl]; rw [e]; exact H2.out.1
        · have hd0 : v / 281474976710656 % 256 ≠ 0 := by have h := ‹(_ != (0 : Int)) = true›; simp at h; omega
          have hne : v / 72057594037927936 * 256 + (v / 281474976710656 % 256) ≠ 0 := by omega
          have e : digs 2 (v / 281474976710656) = digs 1 (v / 72057594037927936) ++ [BitVec.ofNat 8 (v / 281474976710656 % 256)] := by
            have h := HD.out
            rw [if_neg hne, HQ.out] at h
            exact h
          refine ⟨⟨2, V2, true, by decide, rfl, rfl, rfl, Lib.hid ⟨?_, ?_, H2.out.2⟩⟩, by decide⟩
          · rw [show 256 ^ (8 - 2) = 281474976710656 from rfl]; exact (decide_eq_true (by have := HQ.out; omega)).symm
          · rw [show 256 ^ (8 - 2) = 281474976710656 from rfl]; rw [e]; exact H2.out.1
        · have hv0 : v / 72057594037927936 = 0 := by
            have h := HS.out
            rw [show S = false by simpa using ‹¬S = true›] at h
            have h2 := of_decide_eq_false h.symm
            omega
          have hq0 : v / 281474976710656 = 0 := by have h := ‹(_ != (0 : Int)) = false›; simp at h; have := HQ.out; omega
          have hb : ((_ : Int) != (0 : Int)) = false := ‹(_ != (0 : Int)) = false›
          refine ⟨⟨2, _, false, by decide, rfl, rfl, by rw [hb], Lib.hid ⟨?_, ?_, HB.out⟩⟩, by decide⟩
          · rw [show 256 ^ (8 - 2) = 281474976710656 from rfl]; rw [hq0]; rfl
          · rw [show 256 ^ (8 - 2) = 281474976710656 from rfl]; rw [hq0]
            have h := HO.out
            rw [hv0] at h
            exact h
      · have hA := hp.out.1
        have hO := hp.out.2.1
        rw [show 256 ^ (8 - 2) = 281474976710656 from rfl] at hA hO
        have HS := Lib.hid hA
        have HO := Lib.hid hO
        have HB := Lib.hid hp.out.2.2
        have HD := Lib.hid (digs_next 2 (v / 281474976710656) (v / 1099511627776 % 256) (by omega))
        have HQ := Lib.hid (show v / 281474976710656 * 256 + (v / 1099511627776 % 256) = v / 1099511627776 by omega)
        have HL := Lib.hid (digs_len_le 2 (v / 281474976710656))
        clear hA hO hp
        go_wp2_with (refine wpList_appB rfl (.tmp 24) (.tmp 26) rfl w.heap.size _ (digs 2 (v / 281474976710656)) rfl (HO.out.below ((Below.refl _ _).alloc (Nat.le_refl _) _)) (some ⟨wr.heap.size, 0, none⟩) 1 1 [BitVec.ofNat 8 (v / 1099511627776 % 256)] rfl (isB_one _ _ (bvb_of _ _ (by omega) (by omega))) (by have := HL.out; simp; omega) (by have := HB.out.size; simp; omega) ?_; intro V2 y2 hO2 hg hat; have H2 := Lib.hid (And.intro hO2 ((HB.out.alloc HB.out.size _).grown hg (by have := HB.out.size; simp; omega) (fun k hk => (HO.out.base hk).1))); clear hO2 hg hat)
        · have hv0 : v / 281474976710656 ≠ 0 := by have := HS.out; rw [‹S = true›] at this; exact of_decide_eq_true this.symm
          have hne : v / 281474976710656 * 256 + (v / 1099511627776 % 256) ≠ 0 := by omega
          have e : digs 3 (v / 1099511627776) = digs 2 (v / 281474976710656) ++ [BitVec.ofNat 8 (v / 1099511627776 % 256)] := by
            have h := HD.out
            rw [if_neg hne, HQ.out] at h
            exact h
          refine ⟨⟨3, V2, true, by decide, rfl, rfl, rfl, Lib.hid ⟨?_, ?_, H2.out.2⟩⟩, by decide⟩
          · rw [show 256 ^ (8 - 3) = 1099511627776 from rfl]; exact (decide_eq_true (by have := HQ.out; omega)).symm
          · rw [show 256 ^ (8 - 3) = 1099511627776 from rfl]; rw [e]; exact H2.out.1
        · have hd0 : v / 1099511627776 % 256 ≠ 0 := by have h := ‹(_ != (0 : Int)) = true›; simp at h; omega
          have hne : v / 281474976710656 * 256 + (v / 1099511627776 % 256) ≠ 0 := by omega
          have e : digs 3 (v / 1099511627776) = digs 2 (v / 281474976710656) ++ [BitVec.ofNat 8 (v / 1099511627776 % 256)] := by
            have h := HD.out
            rw [if_neg hne, HQ.out] at h
            exact h
          refine ⟨⟨3, V2, true, by decide, rfl, rfl, rfl, Lib.hid ⟨?_, ?_, H2.out.2⟩⟩, by decide⟩
          · rw [show 256 ^ (8 - 3) = 1099511627776 from rfl]; exact (decide_eq_true (by have := HQ.out; omega)).symm
          · rw [show 256 ^ (8 - 3) = 1099511627776 from rfl]; rw [e]; exact H2.out.1
        · have hv0 : v / 281474976710656 = 0 := by
            have h := HS.out
            rw [show S = false by simpa using ‹¬S = true›] at h
            have h2 := of_decide_eq_false h.symm
            omega
          have hq0 : v / 1099511627776 = 0 := by have h := ‹(_ != (0 : Int)) = false›; simp at h; have := HQ.out; omega
          have hb : ((_ : Int) != (0 : Int)) = false := ‹(_ != (0 : Int)) = false›
          refine ⟨⟨3, _, false, by decide, rfl, rfl, by rw [hb], Lib.hid ⟨?_, ?_, HB.out⟩⟩, by decide⟩
          · rw [show 256 ^ (8 - 3) = 1099511627776 from rfl]; rw [hq0]; rfl
          · rw [show 256 ^ (8 - 3) = 1099511627776 from rfl]; rw [hq0]
            have h := HO.out
            rw [hv0] at h
            exact h
      · have hA := hp.out.1
        have hO := hp.out.2.1
        rw [show 256 ^ (8 - 3) = 1099511627776 from rfl] at hA hO
        have HS := Lib.hid hA
        have HO := Lib.hid hO
        have HB := Lib.hid hp.out.2.2
        have HD := Lib.hid (digs_next 3 (v / 1099511627776) (v / 4294967296 % 256) (by omega))
        have HQ := Lib.hid (show v / 1099511627776 * 256 + (v / 4294967296 % 256) = v / 4294967296 by omega)
        have HL := Lib.hid (digs_len_le 3 (v / 1099511627776))
        clear hA hO hp
        go_wp2_with (refine wpList_appB rfl (.tmp 24) (.tmp 26) rfl w.heap.size _ (digs 3 (v / 1099511627776)) rfl (HO.out.below ((Below.refl _ _).alloc (Nat.le_refl _) _)) (some ⟨wr.heap.size, 0, none⟩) 1 1 [BitVec.ofNat 8 (v / 4294967296 % 256)] rfl (isB_one _ _ (bvb_of _ _ (by omega) (by omega))) (by have := HL.out; simp; omega) (by have := HB.out.size; simp; omega) ?_; intro V2 y2 hO2 hg hat; have H2 := Lib.hid (And.intro hO2 ((HB.out.alloc HB.out.size _).grown hg (by have := HB.out.size; simp; omega) (fun k hk => (HO.out.base hk).1))); clear hO2 hg hat)
        · have hv0 : v / 1099511627776 ≠ 0 := by have := HS.out; rw [‹S = true›] at this; exact of_decide_eq_true this.symm
          have hne : v / 1099511627776 * 256 + (v / 4294967296 % 256) ≠ 0 := by omega
          have e : digs 4 (v / 4294967296) = digs 3 (v / 1099511627776) ++ [BitVec.ofNat 8 (v / 4294967296 % 256)] := by
            have h := HD.out
            rw [if_neg hne, HQ.out] at h
            exact h
          refine ⟨⟨4, V2, true, by decide, rfl, rfl, rfl, Lib.hid ⟨?_, ?_, H2.out.2⟩⟩, by decide⟩
          · rw [show 256 ^ (8 - 4) = 4294967296 from rfl]; exact (decide_eq_true (by have := HQ.out; omega)).symm
          · rw [show 256 ^ (8 - 4) = 4294967296 from rfl]; rw [e]; exact H2.out.1
        · have hd0 : v / 4294967296 % 256 ≠ 0 := by have h := ‹(_ != (0 : Int)) = true›; simp at h; omega
          have hne : v / 1099511627776 * 256 + (v / 4294967296 % 256) ≠ 0 := by omega
          have e : digs 4 (v / 4294967296) = digs 3 (v / 1099511627776) ++ [BitVec.ofNat 8 (v / 4294967296 % 256)] := by
            have h := HD.out
            rw [if_neg hne, HQ.out] at h
            exact h
          refine ⟨⟨4, V2, true, by decide, rfl, rfl, rfl, Lib.hid ⟨?_, ?_, H2.out.2⟩⟩, by decide⟩
          · rw [show 256 ^ (8 - 4) = 4294967296 from rfl]; exact (decide_eq_true (by have := HQ.out; omega)).symm
          · rw [show 256 ^ (8 - 4) = 4294967296 from rfl]; rw [e]; exact H2.out.1
        · have hv0 : v / 1099511627776 = 0 := by
            have h := HS.out
            rw [show S = false by simpa using ‹¬S = true›] at h
            have h2 := of_decide_eq_false h.symm
            omega
          have hq0 : v / 4294967296 = 0 := by have h := ‹(_ != (0 : Int)) = false›; simp at h; have := HQ.out; omega
          have hb : ((_ : Int) != (0 : Int)) = false := ‹(_ != (0 : Int)) = false›
          refine ⟨⟨4, _, false, by decide, rfl, rfl, by rw [hb], Lib.hid ⟨?_, ?_, HB.out⟩⟩, by decide⟩
          · rw [show 256 ^ (8 - 4) = 4294967296 from rfl]; rw [hq0]; rfl
          · rw [show 256 ^ (8 - 4) = 4294967296 from rfl]; rw [hq0]
            have h := HO.out
            rw [hv0] at h
            exact h
      · have hA := hp.out.1
        have hO := hp.out.2.1
        rw [show 256 ^ (8 - 4) = 4294967296 from rfl] at hA hO
        have HS := Lib.hid hA
        have HO := Lib.hid hO
        have HB := Lib.hid hp.out.2.2
        have HD := Lib.hid (digs_next 4 (v / 4294967296) (v / 16777216 % 256) (by omega))
        have HQ := Lib.hid (show v / 4294967296 * 256 + (v / 16777216 % 256) = v / 16777216 by omega)
        have HL := Lib.hid (digs_len_le 4 (v / 4294967296))
        clear hA hO hp
        go_wp2_with (refine wpList_appB rfl (.tmp 24) (.tmp 26) rfl w.heap.size _ (digs 4 (v / 4294967296)) rfl (HO.out.below ((Below.refl _ _).alloc (Nat.le_refl _) _)) (some ⟨wr.heap.size, 0, none⟩) 1 1 [BitVec.ofNat 8 (v / 16777216 % 256)] rfl (isB_one _ _ (bvb_of _ _ (by omega) (by omega))) (by have := HL.out; simp; omega) (by have := HB.out.size; simp; omega) ?_; intro V2 y2 hO2 hg hat; have H2 := Lib.hid (And.intro hO2 ((HB.out.alloc HB.out.size _).grown hg (by have := HB.out.size; simp; omega) (fun k hk => (HO.out.base hk).1))); clear hO2 hg hat)
        · have hv0 : v / 4294967296 ≠ 0 := by have := HS.out; rw [‹S = true›] at this; exact of_decide_eq_true this.symm
          have hne : v / 4294967296 * 256 + (v / 16777216 % 256) ≠ 0 := by omega
          have e : digs 5 (v / 16777216) = digs 4 (v / 4294967296) ++ [BitVec.ofNat 8 (v / 16777216 % 256)] := by
            have h := HD.out
            rw [if_neg hne, HQ.out] at h
            exact h
          refine ⟨⟨5, V2, true, by decide, rfl, rfl, rfl, Lib.hid ⟨?_, ?_, H2.out.2⟩⟩, by decide⟩
          · rw [show 256 ^ (8 - 5) = 16777216 from rfl]; exact (decide_eq_true (by have := HQ.out; omega)).symm
          · rw [show 256 ^ (8 - 5) = 16777216 from rfl]; rw [e]; exact H2.out.1
        · have hd0 : v / 16777216 % 256 ≠ 0 := by have h := ‹(_ != (0 : Int)) = true›; simp at h; omega
          have hne : v / 4294967296 * 256 + (v / 16777216 % 256) ≠ 0 := by omega
          have e : digs 5 (v / 16777216) = digs 4 (v / 4294967296) ++ [BitVec.ofNat 8 (v / 16777216 % 256)] := by
            have h := HD.out
            rw [if_neg hne, HQ.out] at h
            exact h
          refine ⟨⟨5, V2, true, by decide, rfl, rfl, rfl, Lib.hid ⟨?_, ?_, H2.out.2⟩⟩, by decide⟩
          · rw [show 256 ^ (8 - 5) = 16777216 from rfl]; exact (decide_eq_true (by have := HQ.out; omega)).symm
          · rw [show 256 ^ (8 - 5) = 16777216 from rfl]; rw [e]; exact H2.out.1
        · have hv0 : v / 4294967296 = 0 := by
            have h := HS.out
            rw [show S = false by simpa using ‹¬S = true›] at h
            have h2 := of_decide_eq_false h.symm
            omega
          have hq0 : v / 16777216 = 0 := by have h := ‹(_ != (0 : Int)) = false›; simp at h; have := HQ.out; omega
          have hb : ((_ : Int) != (0 : Int)) = false := ‹(_ != (0 : Int)) = false›
          refine ⟨⟨5, _, false, by decide, rfl, rfl, by rw [hb], Lib.hid ⟨?_, ?_, HB.out⟩⟩, by decide⟩
          · rw [show 256 ^ (8 - 5) = 16777216 from rfl]; rw [hq0]; rfl
          · rw [show 256 ^ (8 - 5) = 16777216 from rfl]; rw [hq0]
            have h := HO.out
            rw [hv0] at h
            exact h
      · have hA := hp.out.1
        have hO := hp.out.2.1
        rw [show 256 ^ (8 - 5) = 16777216 from rfl] at hA hO
        have HS := Lib.hid hA
        have HO := Lib.hid hO
        have HB := Lib.hid hp.out.2.2
        have HD := Lib.hid (digs_next 5 (v / 16777216) (v / 65536 % 256) (by omega))
        have HQ := Lib.hid (show v / 16777216 * 256 + (v / 65536 % 256) = v / 65536 by omega)
        have HL := Lib.hid (digs_len_le 5 (v / 16777216))
        clear hA hO hp
        go_wp2_with (refine wpList_appB rfl (.tmp 24) (.tmp 26) rfl w.heap.size _ (digs 5 (v / 16777216)) rfl (HO.out.below ((Below.refl _ _).alloc (Nat.le_refl _) _)) (some ⟨wr.heap.size, 0, none⟩) 1 1 [BitVec.ofNat 8 (v / 65536 % 256)] rfl (isB_one _ _ (bvb_of _ _ (by omega) (by omega))) (by have := HL.out; simp; omega) (by have := HB.out.size; simp; omega) ?_; intro V2 y2 hO2 hg hat; have H2 := Lib.hid (And.intro hO2 ((HB.out.alloc HB.out.size _).grown hg (by have := HB.out.size; simp; omega) (fun k hk => (HO.out.base hk).1))); clear hO2 hg hat)
        · have hv0 : v / 16777216 ≠ 0 := by have := HS.out; rw [‹S = true›] at this; exact of_decide_eq_true this.symm
          have hne : v / 16777216 * 256 + (v / 65536 % 256) ≠ 0 := by omega
          have e : digs 6 (v / 65536) = digs 5 (v / 16777216) ++ [BitVec.ofNat 8 (v / 65536 % 256)] := by
            have h := HD.out
            rw [if_neg hne, HQ.out] at h
            exact h
          refine ⟨⟨6, V2, true, by decide, rfl, rfl, rfl, Lib.hid ⟨?_, ?_, H2.out.2⟩⟩, by decide⟩
          · rw [show 256 ^ (8 - 6) = 65536 from rfl]; exact (decide_eq_true (by have := HQ.out; omega)).symm
          · rw [show 256 ^ (8 - 6) = 65536 from rfl]; rw [e]; exact H2.out.1
        · have hd0 : v / 65536 % 256 ≠ 0 := by have h := ‹(_ != (0 : Int)) = true›; simp at h; omega
          have hne : v / 16777216 * 256 + (v / 65536 % 256) ≠ 0 := by omega
          have e : digs 6 (v / 65536) = digs 5 (v / 16777216) ++ [BitVec.ofNat 8 (v / 65536 % 256)] := by
            have h := HD.out
            rw [if_neg hne, HQ.out] at h
            exact h
          refine ⟨⟨6, V2, true, by decide, rfl, rfl, rfl, Lib.hid ⟨?_, ?_, H2.out.2⟩⟩, by decide⟩
          · rw [show 256 ^ (8 - 6) = 65536 from rfl]; exact (decide_eq_true (by have := HQ.out; omega)).symm
          · rw [show 256 ^ (8 - 6) = 65536 from rfl]; rw [e]; exact H2.out.1
        · have hv0 : v / 16777216 = 0 := by
            have h := HS.out
            rw [show S = false by simpa using ‹¬S = true›] at h
            have h2 := of_decide_eq_false h.symm
            omega
          have hq0 : v / 65536 = 0 := by have h := ‹(_ != (0 : Int)) = false›; simp at h; have := HQ.out; omega
          have hb : ((_ : Int) != (0 : Int)) = false := ‹(_ != (0 : Int)) = false›
          refine ⟨⟨6, _, false, by decide, rfl, rfl, by rw [hb], Lib.hid ⟨?_, ?_, HB.out⟩⟩, by decide⟩
          · rw [show 256 ^ (8 - 6) = 65536 from rfl]; rw [hq0]; rfl
          · rw [show 256 ^ (8 - 6) = 65536 from rfl]; rw [hq0]
            have h := HO.out
            rw [hv0] at h
            exact h
      · have hA := hp.out.1
        have hO := hp.out.2.1
        rw [show 256 ^ (8 - 6) = 65536 from rfl] at hA hO
        have HS := Lib.hid hA
        have HO := Lib.hid hO
        have HB := Lib.hid hp.out.2.2
        have HD := Lib.hid (digs_next 6 (v / 65536) (v / 256 % 256) (by omega))
        have HQ := Lib.hid (show v / 65536 * 256 + (v / 256 % 256) = v / 256 by omega)
        have HL := Lib.hid (digs_len_le 6 (v / 65536))
        clear hA hO hp
        go_wp2_with (refine wpList_appB rfl (.tmp 24) (.tmp 26) rfl w.heap.size _ (digs 6 (v / 65536)) rfl (HO.out.below ((Below.refl _ _).alloc (Nat.le_refl _) _)) (some ⟨wr.heap.size, 0, none⟩) 1 1 [BitVec.ofNat 8 (v / 256 % 256)] rfl (isB_one _ _ (bvb_of _ _ (by omega) (by omega))) (by have := HL.out; simp; omega) (by have := HB.out.size; simp; omega) ?_; intro V2 y2 hO2 hg hat; have H2 := Lib.hid (And.intro hO2 ((HB.out.alloc HB.out.size _).grown hg (by have := HB.out.size; simp; omega) (fun k hk => (HO.out.base hk).1))); clear hO2 hg hat)
        · have hv0 : v / 65536 ≠ 0 := by have := HS.out; rw [‹S = true›] at this; exact of_decide_eq_true this.symm
          have hne : v / 65536 * 256 + (v / 256 % 256) ≠ 0 := by omega
          have e : digs 7 (v / 256) = digs 6 (v / 65536) ++ [BitVec.ofNat 8 (v / 256 % 256)] := by
            have h := HD.out
            rw [if_neg hne, HQ.out] at h
            exact h
          refine ⟨⟨7, V2, true, by decide, rfl, rfl, rfl, Lib.hid ⟨?_, ?_, H2.out.2⟩⟩, by decide⟩
          · rw [show 256 ^ (8 - 7) = 256 from rfl]; exact (decide_eq_true (by have := HQ.out; omega)).symm
          · rw [show 256 ^ (8 - 7) = 256 from rfl]; rw [e]; exact H2.out.1
        · have hd0 : v / 256 % 256 ≠ 0 := by have h := ‹(_ != (0 : Int)) = true›; simp at h; omega
          have hne : v / 65536 * 256 + (v / 256 % 256) ≠ 0 := by omega
          have e : digs 7 (v / 256) = digs 6 (v / 65536) ++ [BitVec.ofNat 8 (v / 256 % 256)] := by
            have h := HD.out
            rw [if_neg hne, HQ.out] at h
            exact h
          refine ⟨⟨7, V2, true, by decide, rfl, rfl, rfl, Lib.hid ⟨?_, ?_, H2.out.2⟩⟩, by decide⟩
          · rw [show 256 ^ (8 - 7) = 256 from rfl]; exact (decide_eq_true (by have := HQ.out; omega)).symm
          · rw [show 256 ^ (8 - 7) = 256 from rfl]; rw [e]; exact H2.out.1
        · have hv0 : v / 65536 = 0 := by
            have h := HS.out
            rw [show S = false by simpa using ‹¬S = true›] at h
            have h2 := of_decide_eq_false h.symm
            omega
          have hq0 : v / 256 = 0 := by have h := ‹(_ != (0 : Int)) = false›; simp at h; have := HQ.out; omega
          have hb : ((_ : Int) != (0 : Int)) = false := ‹(_ != (0 : Int)) = false›
          refine ⟨⟨7, _, false, by decide, rfl, rfl, by rw [hb], Lib.hid ⟨?_, ?_, HB.out⟩⟩, by decide⟩
          · rw [show 256 ^ (8 - 7) = 256 from rfl]; rw [hq0]; rfl
          · rw [show 256 ^ (8 - 7) = 256 from rfl]; rw [hq0]
            have h := HO.out
            rw [hv0] at h
            exact h
      · have hA := hp.out.1
        have hO := hp.out.2.1
        rw [show 256 ^ (8 - 7) = 256 from rfl] at hA hO
        have HS := Lib.hid hA
        have HO := Lib.hid hO
        have HB := Lib.hid hp.out.2.2
        have HD := Lib.hid (digs_next 7 (v / 256) (v % 256) (by omega))
        have HQ := Lib.hid (show v / 256 * 256 + (v % 256) = v by omega)
        have HL := Lib.hid (digs_len_le 7 (v / 256))
        clear hA hO hp
        go_wp2_with (refine wpList_appB rfl (.tmp 24) (.tmp 26) rfl w.heap.size _ (digs 7 (v / 256)) rfl (HO.out.below ((Below.refl _ _).alloc (Nat.le_refl _) _)) (some ⟨wr.heap.size, 0, none⟩) 1 1 [BitVec.ofNat 8 (v % 256)] rfl (isB_one _ _ (bvb_of _ _ (by omega) (by omega))) (by have := HL.out; simp; omega) (by have := HB.out.size; simp; omega) ?_; intro V2 y2 hO2 hg hat; have H2 := Lib.hid (And.intro hO2 ((HB.out.alloc HB.out.size _).grown hg (by have := HB.out.size; simp; omega) (fun k hk => (HO.out.base hk).1))); clear hO2 hg hat)
        · have hv0 : v / 256 ≠ 0 := by have := HS.out; rw [‹S = true›] at this; exact of_decide_eq_true this.symm
          have hne : v / 256 * 256 + (v % 256) ≠ 0 := by omega
          have e : digs 8 (v) = digs 7 (v / 256) ++ [BitVec.ofNat 8 (v % 256)] := by
            have h := HD.out
            rw [if_neg hne, HQ.out] at h
            exact h
          refine ⟨⟨8, V2, true, by decide, rfl, rfl, rfl, Lib.hid ⟨?_, ?_, H2.out.2⟩⟩, by decide⟩
          · rw [show 256 ^ (8 - 8) = 1 from rfl, Nat.div_one]; exact (decide_eq_true (by have := HQ.out; omega)).symm
          · rw [show 256 ^ (8 - 8) = 1 from rfl, Nat.div_one]; rw [e]; exact H2.out.1
        · have hd0 : v % 256 ≠ 0 := by have h := ‹(_ != (0 : Int)) = true›; simp at h; omega
          have hne : v / 256 * 256 + (v % 256) ≠ 0 := by omega
          have e : digs 8 (v) = digs 7 (v / 256) ++ [BitVec.ofNat 8 (v % 256)] := by
            have h := HD.out
            rw [if_neg hne, HQ.out] at h
            exact h
          refine ⟨⟨8, V2, true, by decide, rfl, rfl, rfl, Lib.hid ⟨?_, ?_, H2.out.2⟩⟩, by decide⟩
          · rw [show 256 ^ (8 - 8) = 1 from rfl, Nat.div_one]; exact (decide_eq_true (by have := HQ.out; omega)).symm
          · rw [show 256 ^ (8 - 8) = 1 from rfl, Nat.div_one]; rw [e]; exact H2.out.1
        · have hv0 : v / 256 = 0 := by
            have h := HS.out
            rw [show S = false by simpa using ‹¬S = true›] at h
            have h2 := of_decide_eq_false h.symm
            omega
          have hq0 : v = 0 := by have h := ‹(_ != (0 : Int)) = false›; simp at h; have := HQ.out; omega
          have hb : ((_ : Int) != (0 : Int)) = false := ‹(_ != (0 : Int)) = false›
          refine ⟨⟨8, _, false, by decide, rfl, rfl, by rw [hb], Lib.hid ⟨?_, ?_, HB.out⟩⟩, by decide⟩
          · rw [show 256 ^ (8 - 8) = 1 from rfl, Nat.div_one]; rw [hq0]; rfl
          · rw [show 256 ^ (8 - 8) = 1 from rfl, Nat.div_one]; rw [hq0]
            have h := HO.out
            rw [hv0] at h
            exact h
end Rl
end Go.Proofs.YthlmjcochpodgaaDoor
