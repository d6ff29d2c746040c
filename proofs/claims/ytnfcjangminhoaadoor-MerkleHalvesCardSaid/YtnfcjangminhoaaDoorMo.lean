/-
  A slice of digests that comes in. Own work, over the guide's lemmas of slices and arrays.
-/
import Derived.Test.YtnfcjangminhoaaDoorMf
import Derived.Test.YtnfcjangminhoaaDoorArr
import Derived.Deep.Slices
import Derived.Deep.Fields
import Derived.ChangeSame
import Derived.OpenShut
import Derived.SizedLaws
namespace Go.Proofs.YtnfcjangminhoaaDoor
open Go.ChangeShapes Go.WideShapes Go.Deep Go.RowKit
set_option linter.unusedVariables false
namespace Mk
open Kc
section
variable {H : Type} {enc : TypeId × Value → H} {P : Program} {w : World} {base : Nat} {spare : Nat → Bool} {held : Bool}
/-- What stands at a place, as a byte. -/
def byteAt (w : World) (b o : Nat) : Bt := match w.cell? ⟨b, o, none⟩ with
  | some (.int _ z) => bof z
  | _ => 0#8
theorem rows32_of {t e u : TypeId} {a0 : Option Addr} {l0 c0 : Nat} {d : DataW H} {ps : List MemPlace} (ht : P.underlying t = some (.slice e)) (he : P.underlying e = some (.array 32 u)) (hu : P.underlying u = some (.int .u8))
    (hC : P.cellsOf e = 32) (hCu : P.cellsOf u = 1) (h : DataW.Trod enc P w base spare held t (.slice a0 l0 c0) d ps) :
    ∃ f : Nat → Hx, IsHs w a0 l0 f ∧ (a0 = none → l0 = 0 ∧ c0 = 0) ∧ l0 ≤ c0 ∧ c0 ≤ maxLen := by
  obtain ⟨fuel, hf⟩ := h
  rcases open_slice ht hf with ⟨h0, _⟩ | ⟨a, len, cap, m, n, D, Pl, hcs, _, hl, hm, hmm, _, hi⟩
  · have h1 : a0 = none ∧ l0 = 0 ∧ c0 = 0 := by simpa [Value.cells] using h0
    obtain ⟨rfl, rfl, rfl⟩ := h1
    exact ⟨fun _ _ => 0#8, .inl rfl, fun _ => ⟨rfl, rfl⟩, Nat.le_refl _, by decide⟩
  · have hva : a0 = some a ∧ l0 = len ∧ c0 = cap := by simpa [Value.cells] using hcs
    obtain ⟨rfl, rfl, rfl⟩ := hva
    have key : ∀ i, i < l0 → ∀ j, j < 32 → ∃ z : Int, w.cell? (a.add (i * 32 + j)) = some (.int .u8 z) ∧ (Lit.int .u8 z).wf = true := by
      intro i hil j hj
      have him : i < m := by rw [hmm]; split <;> omega
      obtain ⟨cs, hc, htr⟩ := hi i him
      rw [hC] at hc
      obtain ⟨_, hlen, hat⟩ := World.cells?_some hc
      obtain ⟨xs, m', _, _, hlen', hx, hel⟩ := DataW.trod_array he htr
      have e1 := hel j hj
      rw [hCu, Nat.mul_one, List.getElem?_eq_getElem (by omega)] at e1
      obtain ⟨z, e2, _, e3⟩ := DataW.trod_int hu e1
      refine ⟨z, ?_, e3⟩
      have h9 : ((cs.drop j).take 1)[0]? = some (.int .u8 z) := by rw [e2]; rfl
      have h8 : cs[j]? = some (.int .u8 z) := by simpa using h9
      have hcell := hat j hj
      rw [h8, add_add] at hcell
      exact hcell
    rcases Nat.eq_zero_or_pos l0 with h0 | h0
    · exact ⟨fun _ _ => 0#8, .inl h0, fun e => (by cases e), hl, hm⟩
    · obtain ⟨b, off, spot⟩ := a
      have hspot : spot = none := by
        obtain ⟨z, hz, _⟩ := key 0 h0 0 (by decide)
        simpa [Addr.add] using World.cell?_spot hz
      subst hspot
      refine ⟨fun i j => byteAt w b (off + 32 * i + j), .inr ⟨b, off, rfl, fun i j hi hj => ?_⟩, fun e => (by cases e), hl, hm⟩
      obtain ⟨z, hz, hw⟩ := key i hi j hj
      rw [add_at, show off + (i * 32 + j) = off + 32 * i + j from by omega] at hz
      have hb := wf_u8 hw
      rw [hz]
      show some (Value.int .u8 z) = some (bv (byteAt w b (off + 32 * i + j)))
      unfold byteAt bv
      rw [hz]
      show _ = some (Value.int .u8 (Bv (bof z)))
      rw [Bv_bof hb.1 hb.2]
end
theorem row_sized32 {H : Type} {enc : TypeId × Value → H} {P : Program} {w : World} {base : Nat} {held : Bool} {t e : TypeId} {a : Option Addr} {len cap : Nat} {d : DataW H} {p : List MemPlace} {ts : List TypeId} {ds : List (DataW H)} {j : Nat}
    (ht : P.underlying t = some (.slice e)) (hb : P.bytesOf e = 32) (h : DataW.Trod enc P w base (fun _ => true) held t (.slice a len cap) d p)
    (hsz : (DataW.weightsEach P ts ds).all (· ≤ reachBytes) = true) (htj : ts[j]? = some t) (hdj : ds[j]? = some d) : cap * 32 ≤ 140737488351232 := by
  obtain ⟨fuel, hf⟩ := h
  rcases open_slice ht hf with ⟨h0, _⟩ | ⟨a1, len1, cap1, m, n, D, Pl, hcs, hd, hl, hm, hmm, hDl, hi⟩
  · have h1 : a = none ∧ len = 0 ∧ cap = 0 := by simpa [Value.cells] using h0
    omega
  · have hva : a = some a1 ∧ len = len1 ∧ cap = cap1 := by simpa [Value.cells] using hcs
    have hd' := congrArg Prod.fst hDl
    simp only at hd'
    have := sized_slice hsz htj (by rw [hdj, hd']) ht
    rw [hb] at this
    have hr : reachBytes = 140737488351232 := by decide
    have hm2 : m = cap1 := by simpa using hmm
    simp only [List.length_map, List.length_range] at this
    rw [hr] at this
    have e : len1 + (m - len1) = cap := by omega
    rw [e] at this
    omega
end Mk
end Go.Proofs.YtnfcjangminhoaaDoor
