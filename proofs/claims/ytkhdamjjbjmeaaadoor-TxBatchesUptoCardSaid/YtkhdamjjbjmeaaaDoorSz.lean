/-
  Slices of integers as they come in: how big, and as bytes. Own work.
-/
import Derived.Test.YtkhdamjjbjmeaaaDoorArr
import Derived.Test.YtkhdamjjbjmeaaaDoorKhs
import Derived.Test.YtkhdamjjbjmeaaaDoorRow
import Derived.SizedLaws
import Derived.WideShapes
namespace Go.Proofs.YtkhdamjjbjmeaaaDoor
open Go.ChangeShapes Go.WideShapes Go.RowKit
set_option linter.unusedVariables false
theorem row_sized {H : Type} {enc : TypeId × Value → H} {P : Program} {w : World} {base : Nat} {held : Bool} {t e : TypeId} {k : IntKind} {a : Option Addr} {len cap : Nat} {d : DataW H} {p : List MemPlace} {ts : List TypeId} {ds : List (DataW H)} {j : Nat}
    (ht : P.underlying t = some (.slice e)) (he : P.underlying e = some (.int k)) (hC : P.cellsOf e = 1) (hb : P.bytesOf e = 1) (h : DataW.Trod enc P w base (fun _ => true) held t (.slice a len cap) d p)
    (hsz : (DataW.weightsEach P ts ds).all (· ≤ reachBytes) = true) (htj : ts[j]? = some t) (hdj : ds[j]? = some d) : cap ≤ 140737488351232 := by
  obtain ⟨fuel, hf⟩ := h
  rcases open_ints ht he hC hf with ⟨hcs, _⟩ | ⟨x, l, c, zs, hcs, _, hl, hm, hz, hx, _, _⟩
  · simp [Value.cells] at hcs
    omega
  · simp [Value.cells] at hcs
    obtain ⟨rfl, rfl, rfl⟩ := hcs
    injection hx with hd _
    have := sized_slice hsz htj (by rw [hdj, hd]) ht
    rw [hb] at this
    have hr : reachBytes = 140737488351232 := by decide
    simp [lits] at this hz
    omega
theorem bytes_row {w : World} {a : Option Addr} {len cap : Nat} {zs : List Int} (h : IsRow .u8 w a len cap zs) :
    ∃ l : List Kc.Bt, l.length = len ∧ Kc.IsBs w a l ∧ (a = none → l = [] ∧ cap = 0) ∧ l.length ≤ cap ∧ cap ≤ maxLen := by
  rcases h with ⟨rfl, rfl, rfl, rfl⟩ | ⟨x, rfl, h1, h2, h3, h4, h5⟩
  · exact ⟨[], rfl, .inl rfl, fun _ => ⟨rfl, rfl⟩, Nat.le_refl _, by decide⟩
  · refine ⟨(zs.take len).map Kc.bof, by simp; omega, ?_, fun h => (by cases h), by simp; omega, h2⟩
    rcases Nat.eq_zero_or_pos len with e | e
    · exact .inl (by subst e; rfl)
    · right
      obtain ⟨b, o, s⟩ := x
      have hs : s = none := by
        cases s with
        | none => rfl
        | some s0 =>
          have hc0 := h4 0 (by omega)
          have e0 : ((⟨b, o, some s0⟩ : Addr).add 0) = ⟨b, o, some s0⟩ := by rfl
          rw [e0] at hc0
          simp only [World.cell?] at hc0
          split at hc0 <;> simp at hc0
      subst hs
      refine ⟨b, o, rfl, fun j hj => ?_⟩
      have hj' : j < len := by simp at hj; omega
      have hjz : j < zs.length := by omega
      have hc := h4 j hjz
      rw [add_at] at hc
      rw [hc]
      have hwf := h5 (zs.getD j 0) (by rw [List.getD_eq_getElem?_getD, List.getElem?_eq_getElem hjz]; exact List.getElem_mem _)
      have hb := Kc.wf_u8 hwf
      have hv : ((zs.take len).map Kc.bof).getD j 0#8 = Kc.bof (zs.getD j 0) := by
        rw [List.getD_eq_getElem?_getD, List.getElem?_map, List.getElem?_take, if_pos hj', List.getElem?_eq_getElem hjz, List.getD_eq_getElem?_getD, List.getElem?_eq_getElem hjz]
        rfl
      rw [hv]
      show some (Value.int .u8 (zs.getD j 0)) = some (Value.int .u8 (Kc.Bv (Kc.bof (zs.getD j 0))))
      rw [Kc.Bv_bof hb.1 hb.2]
end Go.Proofs.YtkhdamjjbjmeaaaDoor
