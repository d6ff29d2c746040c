/-
  Layer 18: the document's ledger: Sum, Balance. Own work.
-/
import Derived.Test.YtmelkbainjfkeaaDoorLdgR
import Derived.LoopTactic
import Derived.Outline
namespace Go.Proofs.YtmelkbainjfkeaaDoor
open Go.RowKit
set_option linter.unusedVariables false
namespace Ev
set_option maxHeartbeats 1000000 in
set_option maxRecDepth 100000 in
theorem sum_is (k p : Int) (l : List Ev) (V : Value) (B : Nat) (w : World) (hown : w.ownsRow B 46 4 V l.length (cells l)) (hl : (l.length : Int) ≤ 1000) (nn : ∀ x ∈ l, 0 ≤ x.v ∧ x.v ≤ 281474976710656) :
    Calls Tryd.prog 17 #[.agg #[V], .int .i64 k, .int .i64 p] w fun e w' => e = .returned (.int .u64 (sumF k p l)) ∧ Below w.heap.size w w' := by
  have hb := sumF_bd k p l (fun x hx => (nn x hx).1)
  have htot := tot_le l nn
  obtain ⟨A, c, rfl⟩ : ∃ A c, V = .slice A l.length c := by
    rcases ownsRow_forms hown with ⟨rfl, h0⟩ | ⟨g, c, rfl, _⟩
    · exact ⟨none, 0, by rw [h0]⟩
    · exact ⟨_, _, rfl⟩
  have HO := Lib.hid hown
  have HN := Lib.hid nn
  have HT := Lib.hid htot
  clear hown nn htot hb
  go_enter Tryd.func17, Tryd.ntmps17
  go_wp2_with fail
  have hbl : Below w.heap.size w (w.alloc (.cells #[.slice A l.length c] 28)) := (Below.refl _ _).alloc (Nat.le_refl _) _
  have ho1 := HO.out.alloc (.cells #[.slice A l.length c] 28)
  have hbx : (w.alloc (.cells #[.slice A l.length c] 28)).cell? ⟨w.heap.size, 0, none⟩ = some (.slice A l.length c) := by simp
  have HO1 := Lib.hid ho1
  have HBL := Lib.hid hbl
  clear ho1 hbl HO
  generalize w.alloc (.cells #[.slice A l.length c] 28) = w1 at *
  generalize hq : w.heap.size = q at *
  have HQ := Lib.hid hq
  clear hq
  go_loop [7, 8] (fun s i => ∃ n : Nat, n ≤ l.length ∧ i = .int .i64 n ∧ s = .int .u64 (sumF k p (l.take n))) (fun _ i => l.length - (intOf i).toNat)
  case atStart => exact ⟨0, Nat.zero_le _, rfl, rfl⟩
  case round =>
    obtain ⟨n, hn, rfl, rfl⟩ := hrel
    by_cases hlt : n < l.length
    · obtain ⟨g, rfl⟩ : ∃ g, A = some ⟨g, 0, none⟩ := by
        rcases ownsRow_forms HO1.out with ⟨_, h0⟩ | ⟨g, c, h1, _⟩
        · omega
        · injection h1 with h1; exact ⟨g, h1⟩
      obtain ⟨c0, c1, c2, c3⟩ := cells_at l n hlt
      have hcl := cells_len l
      have d0 := (HO1.out.cellAt (n * 4) (by omega)).trans c0
      have d1 := (HO1.out.cellAt (n * 4 + 1) (by omega)).trans c1
      have d3 := (HO1.out.cellAt (n * 4 + 3) (by omega)).trans c3
      have HS : Hid (sumF k p (l.take (n + 1)) = sumF k p (l.take n) + if l[n].k = k ∧ (p < 0 ∨ l[n].p = p) then l[n].v else 0) := by rw [take_succ hlt, sumF_app]; rfl
      have hv := HN.out l[n] (List.getElem_mem hlt)
      have hs1 := sumF_bd k p (l.take n) (fun x hx => (HN.out x (List.mem_of_mem_take hx)).1)
      have hs2 := tot_take l n (fun x hx => (HN.out x hx).1)
      have hs3 := HT.out
      have hv0 := hv.1
      have hadd : sumF k p (l.take n) + l[n].v ≤ 18446744073709551615 := by omega
      have hnn := hs1.1
      generalize l[n] = x at *
      clear c0 c1 c2 c3 hcl hs1 hs2 hs3 hv
      generalize sumF k p (l.take n) = S at *
      by_cases hk : x.k = k
      · have hkb : (x.k == k) = true := by simp [hk]
        by_cases hp : p < 0
        · have hs := HS.out.trans (by rw [if_pos ⟨hk, .inl hp⟩])
          have HS2 := Lib.hid hs
          have hpd : decide (p < 0) = true := by simpa using hp
          clear HS hs hk hp
          go_wp2
          all_goals
            go_round
            case rel => exact ⟨n + 1, by omega, by go_num, by rw [HS2.out]⟩
            case measure => simp [intOf]; omega
        · have hpd : decide (p < 0) = false := by simpa using hp
          by_cases hq : x.p = p
          · have hs := HS.out.trans (by rw [if_pos ⟨hk, .inr hq⟩])
            have HS2 := Lib.hid hs
            have hqb : (x.p == p) = true := by simp [hq]
            clear HS hs hk hp hq
            go_wp2
            all_goals
              go_round
              case rel => exact ⟨n + 1, by omega, by go_num, by rw [HS2.out]⟩
              case measure => simp [intOf]; omega
          · have hs := HS.out.trans (by rw [if_neg (by rintro ⟨_, h | h⟩; exact hp h; exact hq h), Int.add_zero])
            have HS2 := Lib.hid hs
            have hqb : (x.p == p) = false := by simp [hq]
            clear HS hs hk hp hq
            go_wp2
            all_goals
              go_round
              case rel => exact ⟨n + 1, by omega, by go_num, by rw [HS2.out]⟩
              case measure => simp [intOf]; omega
      · have hkb : (x.k == k) = false := by simp [hk]
        have hs := HS.out.trans (by rw [if_neg (by rintro ⟨h, _⟩; exact hk h), Int.add_zero])
        have HS2 := Lib.hid hs
        clear HS hs hk
        go_wp2
        all_goals
          go_round
          case rel => exact ⟨n + 1, by omega, by go_num, by rw [HS2.out]⟩
          case measure => simp [intOf]; omega
    · have hnl : l.take n = l := List.take_of_length_le (by omega)
      have HNL := Lib.hid hnl
      clear hnl
      have hge : ¬ ((n : Int) < (l.length : Int)) := by omega
      go_wp2
      go_ret
      exact ⟨by rw [HNL.out]; rfl, by rw [HQ.out]; exact HBL.out⟩
/-- The box of a ledger by value, and its events. -/
def InBox (W : World) (q : Nat) (V : Value) (B : Nat) (l : List Ev) (x : World) : Prop :=
  x.cell? ⟨q, 0, none⟩ = some V ∧ x.ownsRow B 46 4 V l.length (cells l) ∧ Below W.heap.size W x
theorem InBox.next {W : World} {q : Nat} {V : Value} {B : Nat} {l : List Ev} {x y : World} (h : InBox W q V B l x) (hb : Below x.heap.size x y) : InBox W q V B l y :=
  ⟨keep1 hb h.1, (Kept.ofBelow (S := fun _ => False) hb).row h.2.1 (fun _ _ hf => hf), bl h.2.2 hb⟩
theorem sum_q (k p : Int) (l : List Ev) (V : Value) (B q : Nat) (W : World) (hl : (l.length : Int) ≤ 1000) (nn : ∀ x ∈ l, 0 ≤ x.v ∧ x.v ≤ 281474976710656) (s : Wd (InBox W q V B l)) :
    Calls Tryd.prog 17 #[.agg #[V], .int .i64 k, .int .i64 p] s.val fun e w' => e = .returned (.int .u64 (sumF k p l)) ∧ ∃ s' : Wd (InBox W q V B l), w' = s'.val :=
  (sum_is k p l V B s.val s.ok.2.1 hl nn).mono fun e w' ⟨he, hb⟩ => ⟨he, ⟨w', s.ok.next hb⟩, rfl⟩
theorem balance_is (i : Nat) (l : List Ev) (V : Value) (B : Nat) (w : World) (hown : w.ownsRow B 46 4 V l.length (cells l)) (hl : (l.length : Int) ≤ 1000) (nn : ∀ x ∈ l, 0 ≤ x.v ∧ x.v ≤ 281474976710656)
    (h2 : sumF 2 i l ≤ sumF 1 i l + sumF 4 i l) (h3 : sumF 3 i l ≤ sumF 1 i l + sumF 4 i l - sumF 2 i l) :
    Calls Tryd.prog 12 #[.agg #[V], .int .i64 i] w fun e w' => e = .returned (.int .u64 (sumF 1 i l + sumF 4 i l - sumF 2 i l - sumF 3 i l)) ∧ Below w.heap.size w w' := by
  have b1 := sumF_bd 1 i l (fun x hx => (nn x hx).1)
  have b2 := sumF_bd 2 i l (fun x hx => (nn x hx).1)
  have b3 := sumF_bd 3 i l (fun x hx => (nn x hx).1)
  have b4 := sumF_bd 4 i l (fun x hx => (nn x hx).1)
  have htot := tot_le l nn
  have hR : InBox w w.heap.size V B l (w.alloc (.cells #[V] 28)).drew := ⟨by simp, hown.alloc _, ((Below.refl _ _).alloc (Nat.le_refl _) _).drew⟩
  have hcell : ∀ s : Wd (InBox w w.heap.size V B l), s.val.cell? ⟨w.heap.size, 0, none⟩ = some V := fun s => s.ok.1
  have q1 := fun s => sum_q 1 i l V B w.heap.size w hl nn s
  have q2 := fun s => sum_q 2 i l V B w.heap.size w hl nn s
  have q3 := fun s => sum_q 3 i l V B w.heap.size w hl nn s
  have q4 := fun s => sum_q 4 i l V B w.heap.size w hl nn s
  have Q1 := Lib.hid q1
  have Q2 := Lib.hid q2
  have Q3 := Lib.hid q3
  have Q4 := Lib.hid q4
  have HR := Lib.hid hR
  have hw1 : IntKind.u64.wrap (sumF 1 i l + sumF 4 i l) = sumF 1 i l + sumF 4 i l := by simp [IntKind.wrap, IntKind.bits, IntKind.signed]; omega
  have hw2 : IntKind.u64.wrap (sumF 1 i l + sumF 4 i l - sumF 2 i l) = sumF 1 i l + sumF 4 i l - sumF 2 i l := by simp [IntKind.wrap, IntKind.bits, IntKind.signed]; omega
  have hw3 : IntKind.u64.wrap (sumF 1 i l + sumF 4 i l - sumF 2 i l - sumF 3 i l) = sumF 1 i l + sumF 4 i l - sumF 2 i l - sumF 3 i l := by simp [IntKind.wrap, IntKind.bits, IntKind.signed]; omega
  clear hown nn htot q1 q2 q3 q4 hR b1 b2 b3 b4 h2 h3
  generalize sumF 1 i l = s1 at *
  generalize sumF 2 i l = s2 at *
  generalize sumF 3 i l = s3 at *
  generalize sumF 4 i l = s4 at *
  go_enter Tryd.func12, Tryd.ntmps12
  go_wp2_with fail
  have NE : Nonempty (Wd (InBox w w.heap.size V B l)) := ⟨⟨_, HR.out⟩⟩
  refine wp_region_in (InBox w w.heap.size V B l) (by kernel_rfl) (by kernel_rfl) HR.out ?_
  repeat (go_big_quiet_step (first
    | with_reducible exact Q1.out _
    | with_reducible exact Q2.out _
    | with_reducible exact Q3.out _
    | with_reducible exact Q4.out _))
  refine wpQuiet_nil ?_
  rintro _ ⟨s, rfl⟩
  go_wp2_with fail
  go_ret
  exact ⟨rfl, s.ok.2.2⟩
end Ev
end Go.Proofs.YtmelkbainjfkeaaDoor
