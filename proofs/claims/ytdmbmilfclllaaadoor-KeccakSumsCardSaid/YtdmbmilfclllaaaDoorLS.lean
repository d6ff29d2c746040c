/-
  KeccakSums for what comes in. Own work.
-/
import Derived.Test.YtdmbmilfclllaaaDoorKss
import Derived.Test.YtdmbmilfclllaaaDoorSz
namespace Go.Proofs.YtdmbmilfclllaaaDoor
open Go.ChangeShapes Go.WideShapes Go.RowKit
set_option linter.unusedVariables false
theorem keccakSums_walk {H : Type} {enc : TypeId × Value → H} {base base' : Nat} {spare : Nat → Bool} {held : Bool} {w : World} (a0 : Option Addr) (len0 cap0 : Nat) (z0 : List Int) (v1 : Value) (d1 : DataW H) (p1 : List MemPlace) (v2 : Value) (d2 : DataW H) (p2 : List MemPlace)
    (w0 : IsRow .u8 w a0 len0 cap0 z0) (s0 : cap0 ≤ 140737488351232) (ok1 : Value.okWide Tryd.prog w .any base 26 v1) (k1 : DataW.Trod enc Tryd.prog w base' spare held 26 v1 d1 p1) (ok2 : Value.okWide Tryd.prog w .any base 26 v2) (k2 : DataW.Trod enc Tryd.prog w base' spare held 26 v2 d2 p2) (ht : Laid.KTab w) :
    Calls Tryd.prog 5 #[.slice a0 len0 cap0, v1, v2] w fun e w' => e = .returned (.bool true) ∧ Below w.heap.size w w' := by
  obtain ⟨f1, rfl, h1⟩ := Kc.arr_ints Kc.und26 Kc.undU8 (by kernel_rfl) (by kernel_rfl) ok1 k1
  obtain ⟨f2, rfl, h2⟩ := Kc.arr_ints Kc.und26 Kc.undU8 (by kernel_rfl) (by kernel_rfl) ok2 k2
  obtain ⟨l, rfl, hB, hn, hc, _⟩ := bytes_row w0
  rw [Kc.bytes_of h1, Kc.bytes_of h2]
  exact Kc.sums_walk l a0 cap0 _ _ w ht hB hn hc (by omega)
end Go.Proofs.YtdmbmilfclllaaaDoor
