/-
  Layer 18: Lock done. Own work.
-/
import Derived.Test.YtmelkbainjfkeaaDoorLed8
import Derived.Test.YtmelkbainjfkeaaDoorApp
import Derived.Deep.DeepFit
namespace Go.Proofs.YtmelkbainjfkeaaDoor
open Go.RowKit
set_option linter.unusedVariables false
namespace Led
theorem bondInfo : (Tryd.prog.info? 59).map (fun i => (i.zero, i.size, i.bytes)) = some (some (.agg #[.int .u64 0, .bool false]), 2, 16) := by kernel_rfl
set_option maxRecDepth 100000 in
theorem lock_ok (b : Nat) (p v x k : Int) (V : Value) (l : Nat) (xs : List Value) (w : World) (h0 : 0 ≤ p) (h1 : p < 8) (v0 : 0 ≤ v) (xv : v ≤ x) (k0 : 0 ≤ k) (x1 : x + k ≤ 281474976710656) (hl : (l : Int) < (65536 : Int)) (hf : ∀ o, w.frozen? ⟨b, o, none⟩ = false)
    (hx : w.cell? ⟨b, p.toNat, none⟩ = some (.int .u64 x)) (h8 : w.cell? ⟨b, 8, none⟩ = some V) (hk : w.cell? ⟨b, 11, none⟩ = some (.int .u64 k)) (hown : w.ownsRow (b + 1) 59 2 V l xs) :
    Calls Tryd.prog 8 #[.pointer (some ⟨b, 0, none⟩), .int .i64 p, .int .u64 v] w fun e w' => e = .returned (.tuple #[.int .i64 l, .nilIface]) ∧
      ∃ V' w1 m, w1.ownsRow (b + 1) 59 2 V' (l + 1) (xs ++ [.int .u64 v, .bool false]) ∧ Kept (fun k => k = b ∨ V.ownBlock = some k) w w1 ∧ w1.heap[b]? = ((w.setCell ⟨b, p.toNat, none⟩ (.int .u64 (x - v))).setCell ⟨b, 11, none⟩ (.int .u64 (k + v))).heap[b]? ∧
       (∀ k, V'.ownBlock = some k → V.ownBlock = some k ∨ w.heap.size ≤ k) ∧ w' = (w1.setCell ⟨b, 8, none⟩ V').drewN m := by
  have hb : b < w.heap.size := inHeap h8
  obtain ⟨i0, HI'⟩ := info_parts bondInfo
  have HI := Lib.hid HI'
  clear HI'
  obtain ⟨A, c, rfl⟩ : ∃ A c, V = .slice A l c := by
    rcases ownsRow_forms hown with ⟨rfl, rfl⟩ | ⟨g, c, rfl, _⟩
    · exact ⟨_, _, rfl⟩
    · exact ⟨_, _, rfl⟩
  have HO := Lib.hid hown
  have HB := Lib.hid hb
  clear hb
  clear hown
  go_enter Tryd.func8, Tryd.ntmps8
  go_wp2_with fail
  refine (check_ok b _ _ h0 h1).mono ?_
  rintro e w' ⟨rfl, q, rfl⟩
  have hd : decide ((65536 : Int) ≤ (l : Int)) = false := by simpa using hl

  clear hl
  have hx2 : (w.drewN q).cell? ⟨b, p.toNat, none⟩ = some (.int .u64 x) := hx
  have h82 : (w.drewN q).cell? ⟨b, 8, none⟩ = some (.slice A l c) := h8
  have hfp : (w.drewN q).frozen? ⟨b, p.toNat, none⟩ = false := hf _
  go_wp2_with fail
  go_region
  have e11 : ((w.drewN q).setCell ⟨b, p.toNat, none⟩ (.int .u64 (x - v))).cell? ⟨b, 11, none⟩ = some (.int .u64 k) := by
    rw [World.cell?_setCell_other _ _ _ _ (by simp <;> omega)]; exact hk
  have e8 : ((w.drewN q).setCell ⟨b, p.toNat, none⟩ (.int .u64 (x - v))).cell? ⟨b, 8, none⟩ = some (.slice A l c) := by
    rw [World.cell?_setCell_other _ _ _ _ (by simp <;> omega)]; exact h8
  have ef : ((w.drewN q).setCell ⟨b, p.toNat, none⟩ (.int .u64 (x - v))).frozen? ⟨b, 11, none⟩ = false := by simpa using hf 11
  have own1 : ((w.drewN q).setCell ⟨b, p.toNat, none⟩ (.int .u64 (x - v))).ownsRow (b + 1) 59 2 (.slice A l c) l xs := ownsRow_setCell_below (ownsRow_drewN HO.out q) (by simp) _
  have kep1 : Kept (fun k => k = b ∨ (Value.slice A l c).ownBlock = some k) w ((w.drewN q).setCell ⟨b, p.toNat, none⟩ (.int .u64 (x - v))) := ((Kept.refl _ w).drewN q).setCell (.inl (.inl rfl)) _
  have hkk := Lib.hid kep1
  clear kep1
  have h8b : (((w.drewN q).setCell ⟨b, p.toNat, none⟩ (.int .u64 (x - v))).setCell ⟨b, 11, none⟩ (.int .u64 (k + v))).cell? ⟨b, 8, none⟩ = some (.slice A l c) := by
    rw [World.cell?_setCell_other _ _ _ _ (by simp <;> omega)]; exact e8
  have hsz : (((w.drewN q).setCell ⟨b, p.toNat, none⟩ (.int .u64 (x - v))).setCell ⟨b, 11, none⟩ (.int .u64 (k + v))).heap.size = w.heap.size := by simp [World.setCell]
  have own2 : (((w.drewN q).setCell ⟨b, p.toNat, none⟩ (.int .u64 (x - v))).setCell ⟨b, 11, none⟩ (.int .u64 (k + v))).ownsRow (b + 1) 59 2 (.slice A l c) l xs := ownsRow_setCell_below own1 (by simp) _
  have HO2 := Lib.hid own2
  clear own1 own2
  go_wp2_with (at_builtin; refine wpList_append_at _ rfl _ _ 54 rfl (b + 1) 59 i0 (.agg #[.int .u64 0, .bool false]) 2 16 Tryd.underlying54 HI.out rfl (by decide) _ _ _ rfl (HO2.out.alloc _) ⟨w.heap.size, 0, none⟩ 1 1 [.int .u64 v, .bool false] rfl rfl ?c1 ?c2 ?c3 ?c4 ?c5 ?_)
  case c1 => exact two_at (by rw [size_setCell, size_setCell]; rfl) _ _ _
  case c2 => intro u hu; simp at hu; rcases hu with rfl | rfl <;> rfl
  case c3 => have := decide_eq_false_iff_not.1 hd; unfold maxLen; omega
  case c4 => have := decide_eq_false_iff_not.1 hd; omega
  case c5 => have := HB.out; simp [World.setCell]; omega
  intro V' w1 hown1 hgrow hwhere
  have hbw : b < ((((w.drewN (q + 1)).setCell ⟨b, p.toNat, none⟩ (.int .u64 (x - v))).setCell ⟨b, 11, none⟩ (.int .u64 (k + v))).alloc (Obj.cells #[.int .u64 v, .bool false] 59)).heap.size := by have := HB.out; simp [World.setCell]; omega
  have hne : (Value.slice A l c).ownBlock ≠ some b := by
    intro e
    have := (HO.out.lt b e).1
    omega
  have c8 := (grown_cell (o := 8) hgrow hbw hne).trans ((World.cell?_alloc_lt _ _ _ (by have := HB.out; simpa [World.setCell] using this)).trans h8b)
  have f8 : w1.frozen? ⟨b, 8, none⟩ = false := (grown_frozen (o := 8) hgrow hbw hne).trans ((World.frozen?_alloc_old _ _ _ (by have := HB.out; simp [World.setCell]; omega)).trans (by simpa using hf 8))
  obtain ⟨A', c', rfl⟩ : ∃ A c, V' = .slice A (l + 1) c := by
    rcases ownsRow_forms hown1 with ⟨rfl, h⟩ | ⟨g, c, rfl, _⟩
    · omega
    · exact ⟨_, _, rfl⟩
  have c8' : (w1.setCell ⟨b, 8, none⟩ (.slice A' (l + 1) c')).cell? ⟨b, 8, none⟩ = some (.slice A' (l + 1) c') := World.cell?_setCell_same _ _ _ c8
  have HW := Lib.hid hown1
  have HG := Lib.hid hgrow
  have HBW := Lib.hid hbw
  have HN := Lib.hid hne
  have HH := Lib.hid hwhere
  clear hown1 hgrow hbw hne hwhere
  go_wp2_with fail
  go_ret2
  have hw : wrap64 (l : Int) = l := by have := decide_eq_false_iff_not.1 hd; simp only [wrap64]; omega
  refine ⟨?_, .slice A' (l + 1) c', w1, 0, HW.out, ?_, ?_, ?_, rfl⟩
  · show Ending.returned (.tuple #[.int .i64 (wrap64 (l : Int)), .nilIface]) = _
    rw [hw]
  · exact (((hkk.out.drewN 1).setCell (.inl (.inl rfl)) _).alloc _).grown HG.out (fun k hk => .inl (.inr hk))
  · exact (HG.out.block b HBW.out (fun e => HN.out e.symm)).trans (Below.heap_alloc _ _ _ (by have := HB.out; simpa [World.setCell] using this))
  · intro k hk
    rcases HH.out k hk with h | h
    · exact .inl h
    · exact .inr (by rw [h]; simp)
end Led
end Go.Proofs.YtmelkbainjfkeaaDoor
