/-
  Blocks of memory that hold n values by their index; bytes as bit vectors. Own work.
-/
import Derived.Test.YtjfpbponjhpdhaaDoorKprm
import Derived.Deep.MidRow
namespace Go.Proofs.YtjfpbponjhpdhaaDoor
open Go.RowKit
set_option linter.unusedVariables false
namespace Kc
/-- n values. -/
def tab (n : Nat) (g : Nat → Value) : Array Value := ((List.range n).map g).toArray
theorem tab_size (n : Nat) (g : Nat → Value) : (tab n g).size = n := by simp [tab]
theorem tab_at {n : Nat} (g : Nat → Value) {i : Nat} (h : i < n) : (tab n g)[i]? = some (g i) := by simp [tab, h]
theorem tab_out {n : Nat} (g : Nat → Value) {i : Nat} (h : n ≤ i) : (tab n g)[i]? = none := by simp [tab, h]
theorem tab_cong {n : Nat} {f g : Nat → Value} (h : ∀ i, i < n → f i = g i) : tab n f = tab n g := by
  unfold tab
  congr 1
  apply List.map_congr_left
  intro i hi
  rw [h i (by simpa using hi)]
theorem tab_ext {n : Nat} {f g : Nat → Value} (h : tab n f = tab n g) : ∀ i, i < n → f i = g i := by
  intro i hi
  have := congrArg (fun a : Array Value => a[i]?) h
  rw [tab_at _ hi, tab_at _ hi] at this
  exact Option.some.inj this
theorem tab_one {n : Nat} {g : Nat → Value} (h : ∀ i, (g i).oneCell' = true) : (tab n g).all (·.oneCell') = true := by simp [tab]; intro i _; exact h i
def updv (g : Nat → Value) (i : Nat) (x : Value) : Nat → Value := fun j => if j = i then x else g j
theorem tab_upd {n : Nat} (g : Nat → Value) (i : Nat) (x : Value) : (tab n g).setIfInBounds i x = tab n (updv g i x) := by
  apply Array.ext_getElem?
  intro j
  rw [Array.getElem?_setIfInBounds]
  by_cases hj : j < n
  · rw [tab_at _ hj, tab_at _ hj, tab_size]
    by_cases e : i = j
    · subst e; simp [updv, hj]
    · have e' : ¬ j = i := fun h => e h.symm
      simp [updv, e, e']
  · rw [Array.getElem?_eq_none (by rw [tab_size]; omega), Array.getElem?_eq_none (by rw [tab_size]; omega), tab_size]
    split
    · split
      · omega
      · rfl
    · rfl
/-- A block that holds n values. -/
def IsTab (w : World) (q T n : Nat) (g : Nat → Value) : Prop := w.heap[q]? = some (.cells (tab n g) T (0, 0))
theorem IsTab.cell {w : World} {q T n : Nat} {g : Nat → Value} (h : IsTab w q T n g) (i : Nat) (hi : i < n) : w.cell? ⟨q, i, none⟩ = some (g i) := by
  rw [cell_of_row w q i _ _ _ h]; exact tab_at g hi
theorem IsTab.fz {w : World} {q T n : Nat} {g : Nat → Value} (h : IsTab w q T n g) (i : Nat) : w.frozen? ⟨q, i, none⟩ = false := frozen_of_row w q i _ _ h
theorem IsTab.lt {w : World} {q T n : Nat} {g : Nat → Value} (h : IsTab w q T n g) : q < w.heap.size := (Array.getElem?_eq_some_iff.1 h).1
theorem IsTab.set {w : World} {q T n : Nat} {g : Nat → Value} (h : IsTab w q T n g) (i : Nat) (x : Value) : IsTab (w.setCell ⟨q, i, none⟩ x) q T n (updv g i x) := by
  unfold IsTab at *
  rw [heap_setCell_same w q i _ _ _ h, tab_upd]
theorem IsTab.keep {w : World} {q p i T n : Nat} {v : Value} {g : Nat → Value} (h : IsTab w q T n g) (hn : q ≠ p) : IsTab (w.setCell ⟨p, i, none⟩ v) q T n g := by
  unfold IsTab at *
  rw [Below.heap_setCell _ _ _ _ hn]; exact h
theorem IsTab.cong {w : World} {q T n : Nat} {f g : Nat → Value} (h : IsTab w q T n f) (e : ∀ i, i < n → f i = g i) : IsTab w q T n g := by
  unfold IsTab at *
  rw [← tab_cong e]; exact h
theorem IsTab.drewN {w : World} {q T n : Nat} {g : Nat → Value} (h : IsTab w q T n g) (k : Nat) : IsTab (w.drewN k) q T n g := h
theorem IsTab.drew {w : World} {q T n : Nat} {g : Nat → Value} (h : IsTab w q T n g) : IsTab w.drew q T n g := h
theorem IsTab.below {W w : World} {q T n : Nat} {g : Nat → Value} (h : IsTab W q T n g) (hb : Below W.heap.size W w) : IsTab w q T n g := by
  unfold IsTab at *
  rw [hb.block q (Array.getElem?_eq_some_iff.1 h).1]; exact h
theorem IsTab.alloc {w : World} {q T n : Nat} {g : Nat → Value} (h : IsTab w q T n g) (o : Obj) : IsTab (w.alloc o) q T n g := by
  unfold IsTab at *
  rw [Below.heap_alloc w o q (Array.getElem?_eq_some_iff.1 h).1]; exact h
theorem IsTab.new (w : World) (T n : Nat) (g : Nat → Value) : IsTab (w.alloc (.cells (tab n g) T)) w.heap.size T n g := heap_alloc_new w _
theorem IsTab.row {w : World} {q T n : Nat} {f g : Nat → Value} (h : IsTab w q T n f) : IsTab (w.setRow q (tab n g)) q T n g := setRow_heap w q _ _ _ _ h
theorem IsTab.rowOther {w : World} {q p T n : Nat} {g : Nat → Value} {cs : Array Value} (h : IsTab w q T n g) (hn : q ≠ p) : IsTab (w.setRow p cs) q T n g := by
  unfold IsTab at *
  rw [setRow_other _ _ _ _ hn]; exact h
theorem below_setRow {B : Nat} {W w : World} (h : Below B W w) {q : Nat} (hq : B ≤ q) (cs : Array Value) : Below B W (w.setRow q cs) :=
  ⟨by simp; exact h.os, by simp; exact h.tape, by simp; exact h.output, by simp; exact h.size, fun k hk => by rw [setRow_other _ _ _ _ (by omega)]; exact h.block k hk⟩
/-! ## bytes -/
abbrev Bt := BitVec 8
def Bv (x : Bt) : Int := (x.toNat : Int)
theorem Bv_bd (x : Bt) : 0 ≤ Bv x ∧ Bv x < 256 := by have := x.isLt; unfold Bv; omega
theorem Bv_inj {x y : Bt} (h : Bv x = Bv y) : x = y := by unfold Bv at h; exact BitVec.eq_of_toNat_eq (by omega)
/-- The value of a word, of a byte. -/
def wv (x : Wd64) : Value := .int .u64 (W x)
def bv (x : Bt) : Value := .int .u8 (Bv x)
def words (a : Nat → Wd64) : Array Value := tab 25 fun i => wv (a i)
theorem arr_words (a : Nat → Wd64) : arr a = words a := rfl
/-- A byte as a word. -/
def wd (x : Bt) : Wd64 := x.setWidth 64
theorem W_wd (x : Bt) : W (wd x) = Bv x := by
  unfold W wd Bv
  rw [BitVec.toNat_setWidth]
  have := x.isLt
  omega
/-- Eight bytes as a word. -/
def lane (p : Nat → Bt) (i : Nat) : Wd64 :=
  wd (p (8 * i)) ||| wd (p (8 * i + 1)) <<< 8 ||| wd (p (8 * i + 2)) <<< 16 ||| wd (p (8 * i + 3)) <<< 24 ||| wd (p (8 * i + 4)) <<< 32 ||| wd (p (8 * i + 5)) <<< 40 ||| wd (p (8 * i + 6)) <<< 48 ||| wd (p (8 * i + 7)) <<< 56
theorem wd_bit (x : Bt) (s n : Nat) (hn : n < 64) (hs : s ≤ 56) : (wd x <<< s).getLsbD n = (decide (s ≤ n) && x.getLsbD (n - s)) := by
  rw [BitVec.getLsbD_shiftLeft, decide_eq_true hn, wd, BitVec.getLsbD_setWidth]
  by_cases h : s ≤ n
  · rw [decide_eq_true h, decide_eq_false (by omega : ¬ n < s), decide_eq_true (by omega : n - s < 64)]; simp
  · rw [decide_eq_false h, decide_eq_true (by omega : n < s)]; simp
def absorbK (a : Nat → Wd64) (p : Nat → Bt) (k : Nat) : Nat → Wd64 := fun i => if i < k then a i ^^^ lane p i else a i
def absorb (a : Nat → Wd64) (p : Nat → Bt) : Nat → Wd64 := perm (absorbK a p 17)
def digest (a : Nat → Wd64) (i : Nat) : Bt := (a (i / 8) >>> (8 * (i % 8))).setWidth 8
/-- Behind k whole pieces. -/
def st (l : List Bt) : Nat → Nat → Wd64
  | 0 => fun _ => 0#64
  | k + 1 => absorb (st l k) fun j => l.getD (136 * k + j) 0#8
/-- The last piece. -/
def last (l : List Bt) : Nat → Bt := fun j =>
  (if j < l.length % 136 then l.getD (136 * (l.length / 136) + j) 0#8 else 0#8) ^^^ (if j = l.length % 136 then 1#8 else 0#8) ^^^ (if j = 135 then 128#8 else 0#8)
def sum (l : List Bt) : Nat → Bt := digest (absorb (st l (l.length / 136)) (last l))
theorem wrapW (x : Wd64) : IntKind.u64.wrap (W x) = W x := by have := W_bd x; exact wrap_nn _ this.1 this.2
theorem wrapB (x : Bt) : IntKind.u64.wrap (Bv x) = W (wd x) := by rw [← W_wd]; exact wrapW _
theorem wr_shl (x : Wd64) (s : Nat) (hs : s < 64) : IntKind.u64.wrap (W x * 2 ^ s) = W (x <<< s) := by
  rw [show IntKind.u64.wrap (W x * 2 ^ s) = W x * 2 ^ s % 18446744073709551616 from by simp [IntKind.wrap, IntKind.bits, IntKind.signed]]; exact W_shl x s hs
theorem wr_s8 (x : Wd64) : IntKind.u64.wrap (W x * 256) = W (x <<< 8) := wr_shl x 8 (by decide)
theorem wr_s16 (x : Wd64) : IntKind.u64.wrap (W x * 65536) = W (x <<< 16) := wr_shl x 16 (by decide)
theorem wr_s24 (x : Wd64) : IntKind.u64.wrap (W x * 16777216) = W (x <<< 24) := wr_shl x 24 (by decide)
theorem wr_s32 (x : Wd64) : IntKind.u64.wrap (W x * 4294967296) = W (x <<< 32) := wr_shl x 32 (by decide)
theorem wr_s40 (x : Wd64) : IntKind.u64.wrap (W x * 1099511627776) = W (x <<< 40) := wr_shl x 40 (by decide)
theorem wr_s48 (x : Wd64) : IntKind.u64.wrap (W x * 281474976710656) = W (x <<< 48) := wr_shl x 48 (by decide)
theorem wr_s56 (x : Wd64) : IntKind.u64.wrap (W x * 72057594037927936) = W (x <<< 56) := wr_shl x 56 (by decide)
theorem ktab_below {W w : World} (ht : Laid.KTab W) (h : Below W.heap.size W w) : Laid.KTab w := fun i hi => keep1 h (ht i hi)
theorem und25 : Tryd.prog.underlying 173 = some (.array 25 33) := by kernel_rfl
theorem und136' : Tryd.prog.underlying 174 = some (.array 136 5) := by kernel_rfl
theorem inf25 (g : Nat → Value) : (Tryd.prog.info? 173).map (·.size) = some (tab 25 g).size := by rw [tab_size]; exact kInfo
theorem inf136' : (Tryd.prog.info? 174).map (·.size) = some 136 := by kernel_rfl
theorem inf136 (g : Nat → Value) : (Tryd.prog.info? 174).map (·.size) = some (tab 136 g).size := by rw [tab_size]; exact inf136'
theorem one_wv (a : Nat → Wd64) (n : Nat) : (tab n fun i => wv (a i)).all (·.oneCell') = true := tab_one fun i => rfl
theorem one_bv (a : Nat → Bt) (n : Nat) : (tab n fun i => bv (a i)).all (·.oneCell') = true := tab_one fun i => rfl
/-- What the permutation is said to do. -/
def PermIs : Prop := ∀ (a : Nat → Wd64) (w : World), Laid.KTab w → Calls Tryd.prog 95 #[.agg (arr a)] w fun e w' => e = .returned (.agg (arr (perm a))) ∧ Below w.heap.size w w'
end Kc
end Go.Proofs.YtjfpbponjhpdhaaDoor
