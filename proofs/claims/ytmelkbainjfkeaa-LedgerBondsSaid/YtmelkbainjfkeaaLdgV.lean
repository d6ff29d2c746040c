/-
  Layer 18: LedgerBonds for every input. Own work.
-/
import Derived.Test.YtmelkbainjfkeaaLdgV1
import Derived.Test.YtmelkbainjfkeaaLdgV2
import Derived.Test.YtmelkbainjfkeaaLdgV3
import Derived.Test.YtmelkbainjfkeaaLdgV4
import Derived.Test.YtmelkbainjfkeaaLdgV5
import Derived.OpenShut
namespace Go.Proofs.Ytmelkbainjfkeaa
open Go.RowKit Go.ChangeShapes
namespace Led
theorem row_cells {k : IntKind} {w : World} {a : Option Addr} {len cap : Nat} {zs : List Int} (h : IsRow k w a len cap zs) (hp : 0 < len) :
    ∃ c off, a = some ⟨c, off, none⟩ ∧ len ≤ cap ∧ cap ≤ maxLen ∧ zs.length = cap ∧ (∀ i, i < len → w.cell? ⟨c, off + i, none⟩ = some (.int k (zs.getD i 0))) ∧ ∀ n ∈ zs, (Lit.int k n).wf = true := by
  rcases h with ⟨rfl, rfl, rfl, rfl⟩ | ⟨x, rfl, hl, hm, hz, hcell, hwz⟩
  · omega
  · obtain ⟨b, off, spot⟩ := x
    have hc := hcell 0 (by omega)
    have hspot : spot = none := by simpa [Addr.add] using World.cell?_spot hc
    subst hspot
    exact ⟨b, off, rfl, hl, hm, hz, fun i hi => by rw [← add_at]; exact hcell i (by omega), hwz⟩
theorem nn_of {zs : List Int} (h : ∀ n ∈ zs, (Lit.int .u64 n).wf = true) (i : Nat) : 0 ≤ zs.getD i 0 := by
  by_cases hi : i < zs.length
  · rw [List.getD_eq_getElem?_getD, List.getElem?_eq_getElem hi]
    exact (bounds_u64 (h _ (List.getElem_mem hi))).1
  · rw [List.getD_eq_getElem?_getD, List.getElem?_eq_none (by omega)]; exact Int.le_refl _
theorem ledgerBonds_walk (a0 : Option Addr) (len0 cap0 : Nat) (z0 : List Int) (a1 : Option Addr) (len1 cap1 : Nat) (z1 : List Int) (t : Int) (w : World) (w0 : IsRow .u64 w a0 len0 cap0 z0) (w1 : IsRow .i64 w a1 len1 cap1 z1) (wt : (Lit.int .i64 t).wf = true) :
    Calls Try.prog 4 #[.slice a0 len0 cap0, .slice a1 len1 cap1, .int .i64 t] w fun e w' => e = .returned (.bool true) ∧ Below w.heap.size w w' := by
  have ht := bounds_i64 wt
  by_cases h0 : len0 = 0
  · subst h0; exact bonds_none a0 cap0 a1 len1 cap1 t w
  · obtain ⟨c, off, rfl, hl, hm, hz, hc, hw⟩ := row_cells w0 (by omega)
    unfold maxLen at hm
    by_cases h1 : len1 = 0
    · subst h1
      by_cases h20 : len0 ≤ 20
      · exact bonds_few_e c off len0 cap0 z0 a1 cap1 t w ht.1 ht.2 hc (nn_of hw) (by omega) (by omega)
      · exact bonds_many_e c off len0 cap0 z0 a1 cap1 t w ht.1 ht.2 hc (nn_of hw) (by omega) (by omega) (by omega)
    · obtain ⟨c1, off1, rfl, hl1, hm1, hz1, hc1, hw1⟩ := row_cells w1 (by omega)
      unfold maxLen at hm1
      by_cases h20 : len0 ≤ 20
      · exact bonds_few c off len0 cap0 z0 c1 off1 len1 cap1 z1 t w ht.1 ht.2 hc (nn_of hw) (by omega) (by omega) (by omega) (by omega) hc1
      · exact bonds_many c off len0 cap0 z0 c1 off1 len1 cap1 z1 t w ht.1 ht.2 hc (nn_of hw) (by omega) (by omega) (by omega) (by omega) (by omega) hc1
end Led
end Go.Proofs.Ytmelkbainjfkeaa
