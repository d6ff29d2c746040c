/-
  What the tied condition gives a walk: the cells of the listed variables. Own work, after the guide's worked example Toyas.
-/
import Derived.Test.YtjfpbponjhpdhaaDoorRows
import Derived.WalkKit
import Derived.LaidLaws
import Derived.LaidHandle
import Derived.LaidSub
import Derived.Stop.Joined
import Derived.ChangeVars
import Derived.RowKitTokens
import Derived.OpenShut
import Derived.Test.YtjfpbponjhpdhaaDoorKw
namespace Go.Proofs.YtjfpbponjhpdhaaDoor
open Go.RowKit
namespace Laid
theorem mem {P : Program} {w : World} {n : String} {d : DataW Unit} : ∀ {l : List (String × DataW Unit)} {ps : List MemPlace}, DataW.LaidVars P w l ps → (n, d) ∈ l →
    ∃ g t cs fuel p, P.globalNamed n = some g ∧ (P.globals[g]?).map (·.type) = some t ∧ w.var? P n = some cs ∧ DataW.trod (fun _ => ()) P w 0 (fun _ => true) false fuel t cs.toList = some (d, p) := by
  intro l
  induction l with
  | nil => intro ps h hx; cases hx
  | cons x r ih =>
    intro ps h hx
    obtain ⟨n', d'⟩ := x
    obtain ⟨g, t, cs, fuel, p, q, h1, h2, h3, h4, h5, h6⟩ := h
    rcases List.mem_cons.1 hx with e | hm
    · cases e
      exact ⟨g, t, cs, fuel, p, h1, h2, h3, h4⟩
    · exact ih h5 hm
/-- The table of the permutation's constants. -/
def KTab (w : World) : Prop := ∀ i, i < 24 → w.cell? ⟨0, i, none⟩ = some (.int .u64 (Kc.W (Kc.consts.getD i 0#64)))
theorem kNamed : Tryd.prog.globalNamed "moot/keccak.constants" = some 0 := by kernel_rfl
theorem kType : (Tryd.prog.globals[0]?).map (·.type) = some 205 := by kernel_rfl
theorem kCells : Tryd.prog.cellsOf 33 = 1 := by kernel_rfl
theorem kDatum : (Rows.laid_moot_keccak_constants : DataW Unit) = .agg (Kc.consts.map fun c => .lit (.int .u64 (Kc.W c))) := by kernel_rfl
theorem of_moot_keccak_constants {l : List (String × DataW Unit)} {W : World} (h : laidMetH Tryd.prog l W) (hx : ("moot/keccak.constants", Rows.laid_moot_keccak_constants) ∈ l) : KTab W := by
  obtain ⟨ps, hl, _⟩ := (laidMetH_iff.1 h).1
  obtain ⟨g, t, cs, fuel, p, h1, h2, h3, h4⟩ := mem hl (List.mem_filter.2 ⟨hx, by rfl⟩)
  obtain rfl := Option.some.inj (kNamed.symm.trans h1)
  obtain rfl := Option.some.inj (kType.symm.trans h2)
  obtain ⟨xs, m, rfl, hx1, hlen, hn, hel⟩ := DataW.trod_array Tryd.underlying205 h4
  rw [kDatum] at hx1
  simp only [Prod.mk.injEq, DataW.agg.injEq] at hx1
  intro j hj
  have e := hel j hj
  rw [kCells, Nat.mul_one, List.getElem?_eq_getElem (by omega)] at e
  obtain ⟨k, e1, e2, _⟩ := DataW.trod_int Tryd.underlying33 e
  have e3 : (xs.map (·.1))[j]? = some (.lit (.int .u64 k)) := by rw [List.getElem?_map, List.getElem?_eq_getElem (by omega), e2]; rfl
  have hjc : j < Kc.consts.length := hj
  rw [← hx1.1, List.getElem?_map, List.getElem?_eq_getElem hjc] at e3
  have e4 : Kc.W Kc.consts[j] = k := by have e8 := e3; simp at e8; exact e8
  have e5 : cs.toList[j]? = some (.int .u64 k) := by
    have h9 : ((cs.toList.drop j).take 1)[0]? = some (.int .u64 k) := by rw [e1]; rfl
    simpa using h9
  have e6 := World.var?_cell kNamed h3 j
  have e7 : cs[j]? = some (.int .u64 k) := by simpa using e5
  rw [List.getD_eq_getElem?_getD, List.getElem?_eq_getElem hjc]
  rw [show (some Kc.consts[j]).getD 0#64 = Kc.consts[j] by rfl, e4, ← e7]
  exact e6
end Laid
end Go.Proofs.YtjfpbponjhpdhaaDoor
