/- Merged of Err Ma Ord Flt Mn Ors. Own work. -/
import Derived.Test.YtnaamljflcgepaaDoorRows
import Derived.WalkKit
import Derived.LaidEql
import Derived.Stop.Asserts
import Derived.RowKitTokens
import Derived.Test.YtnaamljflcgepaaDoorP05
import Derived.IntWalk
import Derived.Outline
import Derived.Test.YtnaamljflcgepaaDoorP04
namespace Go.Proofs.YtnaamljflcgepaaDoor
open Go.RowKit Go.Extern.Stop Go.Stop Go.Extern
namespace Err
section
variable {P : Program} (w : World)
theorem run_equalIn_num (d : Nat) {ti tn : TypeId} {ms : Array (String × TypeId)} {i : TypeInfo} {k : IntKind} (a b : Int)
    (hi : P.underlying ti = some (.interface ms)) (hn : P.underlying tn = some (.int k)) (hinfo : P.info? tn = some i) (hcomp : i.comparable = true) :
    (Op.equalIn (d + 2) ti (.iface tn (.int k a)) (.iface tn (.int k b))).run P w = .ok (a == b) w := by
  simp [Op.equalIn, run_underlying hi, run_underlying hn, typeInfo, hinfo, hcomp]
theorem run_eql_num {ti tn : TypeId} {ms : Array (String × TypeId)} {i : TypeInfo} {k : IntKind} (a b : Int)
    (hi : P.underlying ti = some (.interface ms)) (hn : P.underlying tn = some (.int k)) (hinfo : P.info? tn = some i) (hcomp : i.comparable = true) :
    (binOp .eql ti (.iface tn (.int k a)) (.iface tn (.int k b))).run P w = .ok (.bool (a == b)) w := by
  simp only [binOp]
  simp [Op.equal, Op.maxDepth, run_equalIn_num w 9998 a b hi hn hinfo hcomp]
end
/-! closed facts: what 'reflectlite.TypeOf(target).Comparable()' gives at such a target -/
theorem isTypeOf (v : Value) (w : World) : (Extern.ReflectliteType.typeOf #[.iface 49 v]).run Tryd.prog w = .ok (.iface 105 (.agg #[.pointer (some ⟨3, 49, none⟩)])) w := by kernel_rfl
/-- The entry of (rtype).Comparable, under a name that the walk does not open. -/
noncomputable def cmpM : Array Value → Sem Value := Extern.ReflectliteType.method fun t => do Extern.Rtype.noPackHeld "Comparable" t; pure (.bool (← typeInfo t).comparable)
theorem isComparable (w : World) : (cmpM #[.agg #[.pointer (some ⟨3, 49, none⟩)]]).run Tryd.prog w = .ok (.bool true) w := by kernel_rfl
theorem isMethodComparable (v : Value) (w : World) : (Go.method 309 105 v "Comparable").run Tryd.prog w = .ok (107, v) w := by kernel_rfl
theorem isComp : (Tryd.prog.info? 49).map (·.comparable) = some true := by kernel_rfl
theorem noIs (v : Value) (xT : TypeId) (w : World) : (Instr.typeAssert (.iface 49 v) xT 107 true).run Tryd.prog w = .ok (.tuple #[.nilIface, .bool false]) w := run_typeAssert_lacksB Tryd.underlying107 (by kernel_rfl) (by kernel_rfl) v xT w
theorem noUnwrap (v : Value) (xT : TypeId) (w : World) : (Instr.typeAssert (.iface 49 v) xT 110 true).run Tryd.prog w = .ok (.tuple #[.nilIface, .bool false]) w := run_typeAssert_lacksB Tryd.underlying110 (by kernel_rfl) (by kernel_rfl) v xT w
theorem noUnwraps (v : Value) (xT : TypeId) (w : World) : (Instr.typeAssert (.iface 49 v) xT 112 true).run Tryd.prog w = .ok (.tuple #[.nilIface, .bool false]) w := run_typeAssert_lacksB Tryd.underlying112 (by kernel_rfl) (by kernel_rfl) v xT w
/-- errors.Is of two numbers. -/
theorem is_num (m n : Int) (w : World) :
    Calls Tryd.prog 10 #[.iface 49 (.int .i64 m), .iface 49 (.int .i64 n)] w fun e w' => e = .returned (.bool (m == n)) ∧ w = w' := by
  obtain ⟨i, hi, hcmp⟩ := Option.map_eq_some_iff.1 isComp
  have h8 := @run_callFunc_extern Tryd.prog 20 _ Extern.ReflectliteType.typeOf Tryd.func20 (by kernel_rfl) (by kernel_rfl) (by kernel_rfl) (by kernel_rfl)
  have h32 := @run_callFunc_extern Tryd.prog 107 _ cmpM Tryd.func107 (by kernel_rfl) (by kernel_rfl) (by kernel_rfl) (by kernel_rfl)
  have tT := isTypeOf
  have cT := isComparable
  have mR := isMethodComparable
  have nE := noIs
  have uE := noUnwrap
  have vE := noUnwraps
  have heq := run_eql_num (P := Tryd.prog) w m n Tryd.underlying25 Tryd.underlying49 hi hcmp
  by_cases hmn : (m == n) = true
  · rw [hmn] at heq ⊢
    go_enter Tryd.func10, Tryd.ntmps10
    go_wp2
    refine wp_loop_rounds 1 ?_
    rw [rounds_succ]
    go_wp2
    go_ret
    exact ⟨rfl, rfl⟩
  · have hmn' : (m == n) = false := by simpa using hmn
    clear hmn
    rw [hmn'] at heq ⊢
    go_enter Tryd.func10, Tryd.ntmps10
    go_wp2
    refine wp_loop_rounds 1 ?_
    rw [rounds_succ]
    go_wp2
    go_ret
    exact ⟨rfl, rfl⟩
end Err
end Go.Proofs.YtnaamljflcgepaaDoor
namespace Go.Proofs.YtnaamljflcgepaaDoor
open Go.RowKit
set_option linter.unusedVariables false
namespace Mk
open Kc
/-- A block of one digest. -/
theorem put_new (w : World) (x : Hx) (zh : Array Value) (hz : (tab 32 fun _ => bv 0#8) = zh) : IsTab (w.alloc (.cells zh 31)) w.heap.size 31 32 fun _ => bv 0#8 := by
  rw [← hz]; exact IsTab.new w _ 32 _
set_option maxRecDepth 100000 in
theorem at_in (b o c n : Nat) (f : Nat → Hx) (i : Nat) (z : Hx) (w : World) (h : At5 w b o n f) (hi : i < n) (hn : n ≤ c) (hc : c ≤ 9223372036854775807) :
    Calls Tryd.prog 56 #[.slice (some ⟨b, o, none⟩) n c, .int .i64 i, dv z] w fun e w' => e = .returned (dv (f i)) ∧ Below w.heap.size w w' := by
  have z2 := zeroHash
  generalize hz : (tab 32 fun _ => bv 0#8) = zh at *
  have HZ := Lib.hid hz
  clear hz
  have H := Lib.hid h
  clear h
  have hlt : (i : Int) < (n : Int) := by omega
  have hN : (n : Int) ≤ 9223372036854775807 := by omega
  unfold dv
  go_enter Tryd.func56, Tryd.ntmps56
  go_upto_region 2 with (fail)
  have H1 : Hid (IsTab ((w.alloc (.cells (tab 32 fun i => bv (z i)) 31)).alloc (.cells zh 31)) (w.heap.size + 1) 31 32 (fun _ => bv 0#8) ∧ Below w.heap.size w ((w.alloc (.cells (tab 32 fun i => bv (z i)) 31)).alloc (.cells zh 31))) := by
    have := put_new (w.alloc (.cells (tab 32 fun i => bv (z i)) 31)) z zh HZ.out
    exact Lib.hid ⟨by simpa using this, ((Below.refl _ _).alloc (Nat.le_refl _) _).alloc (by simp) _⟩
  generalize (w.alloc (.cells (tab 32 fun i => bv (z i)) 31)).alloc (.cells zh 31) = y at *
  generalize hq : w.heap.size + 1 = q1 at *
  have HQ := Lib.hid hq
  clear hq
  have hld := loadH (H.out.below H1.out.2) hi (p := o + i * 32) (by omega)
  unfold dv at hld
  have HL := Lib.hid hld
  clear hld
  go_wp2_with (first
    | (refine wpList_loadE rfl 31 (.tmp 13) rfl _ _ rfl HL.out ?_)
    | (refine wpList_store_row rfl 31 (.tmp 6) (.tmp 14) rfl q1 (tab 32 fun j => bv (f i j)) rfl rfl 31 _ H1.out.1 (infH _) (by rw [tab_size, tab_size]) (one_bv _ _) ?_))
  have hr : IsTab (World.setRow y q1 (tab 32 fun j => bv (f i j))) q1 31 32 fun j => bv (f i j) := H1.out.1.row
  exact bodyPost_ret (results_cell_row rfl _ _ q1 31 _ (0, 0) _ rfl hr undH rfl (infH _)) rfl ⟨rfl, below_setRow H1.out.2 (by have := HQ.out; omega) _⟩
set_option maxRecDepth 100000 in
theorem at_out (a : Option Addr) (c n : Nat) (i : Nat) (z : Hx) (w : World) (hi : n ≤ i) (hi2 : i ≤ 9223372036854775807) :
    Calls Tryd.prog 56 #[.slice a n c, .int .i64 i, dv z] w fun e w' => e = .returned (dv z) ∧ Below w.heap.size w w' := by
  have z2 := zeroHash
  generalize hz : (tab 32 fun _ => bv 0#8) = zh at *
  have HZ := Lib.hid hz
  clear hz
  have hlt : ¬ (i : Int) < (n : Int) := by omega
  have hN : (n : Int) ≤ 9223372036854775807 := by omega
  unfold dv
  go_enter Tryd.func56, Tryd.ntmps56
  go_upto_region 3 with (fail)
  have H1 : Hid (IsTab ((w.alloc (.cells (tab 32 fun i => bv (z i)) 31)).alloc (.cells zh 31)) (w.heap.size + 1) 31 32 (fun _ => bv 0#8) ∧ IsTab ((w.alloc (.cells (tab 32 fun i => bv (z i)) 31)).alloc (.cells zh 31)) w.heap.size 31 32 (fun i => bv (z i)) ∧ Below w.heap.size w ((w.alloc (.cells (tab 32 fun i => bv (z i)) 31)).alloc (.cells zh 31))) := by
    have := put_new (w.alloc (.cells (tab 32 fun i => bv (z i)) 31)) z zh HZ.out
    exact Lib.hid ⟨by simpa using this, (IsTab.new w _ 32 _).alloc _, ((Below.refl _ _).alloc (Nat.le_refl _) _).alloc (by simp) _⟩
  generalize (w.alloc (.cells (tab 32 fun i => bv (z i)) 31)).alloc (.cells zh 31) = y at *
  generalize hq : w.heap.size + 1 = q1 at *
  have HQ := Lib.hid hq
  clear hq
  go_wp2_with (first
    | (refine wpList_load_row rfl 31 (.tmp 5) rfl w.heap.size rfl 31 (tab 32 fun i => bv (z i)) (0, 0) _ H1.out.2.1 undH rfl (infH _) ?_)
    | (refine wpList_store_row rfl 31 (.tmp 6) (.tmp 15) rfl q1 (tab 32 fun j => bv (z j)) rfl rfl 31 _ H1.out.1 (infH _) (by rw [tab_size, tab_size]) (one_bv _ _) ?_))
  have hr : IsTab (World.setRow y q1 (tab 32 fun j => bv (z j))) q1 31 32 fun j => bv (z j) := H1.out.1.row
  exact bodyPost_ret (results_cell_row rfl _ _ q1 31 _ (0, 0) _ rfl hr undH rfl (infH _)) rfl ⟨rfl, below_setRow H1.out.2.2 (by have := HQ.out; omega) _⟩
/-- One of the digests, or what stands behind them. -/
theorem at_any (a : Option Addr) (c n : Nat) (f : Nat → Hx) (i : Nat) (z : Hx) (w : World) (h : IsHs w a n f) (hn : n ≤ c) (hc : c ≤ 9223372036854775807) (hi : i ≤ 9223372036854775807) :
    Calls Tryd.prog 56 #[.slice a n c, .int .i64 i, dv z] w fun e w' => e = .returned (dv (if i < n then f i else z)) ∧ Below w.heap.size w w' := by
  by_cases h1 : i < n
  · rw [if_pos h1]
    obtain ⟨b, o, rfl, h2⟩ := h.at h1
    exact at_in b o c n f i z w h2 h1 hn hc
  · rw [if_neg h1]
    exact at_out a c n i z w (by omega) hi
/-! ## check, isPlace -/
theorem p2_pos (n : Nat) : (0 : Int) < 2 ^ n := Int.pow_pos (by decide)
theorem p2_nat (d k : Nat) (h1 : d ≤ k) : (2 : Int) ^ d ≤ 2 ^ k := by
  have h2 : ((2 ^ d : Nat) : Int) ≤ ((2 ^ k : Nat) : Int) := by exact_mod_cast Nat.pow_le_pow_right (by decide) h1
  simpa [Int.natCast_pow] using h2
def errV (n : Int) : Value := if n = 0 then .nilIface else .iface 49 (.int .i64 n)
theorem err0 : errV 0 = .nilIface := rfl
theorem err2 : errV 2 = .iface 49 (.int .i64 2) := rfl
/-- What is wrong with a tree. -/
def wrong (d : Int) (n : Nat) : Int := if d < 0 ∨ 16 < d then 2 else if (2 : Int) ^ d.toNat < n then 5 else 0
theorem check_any (d : Int) (a : Option Addr) (n c : Nat) (w : World) (hn : n ≤ 9223372036854775807) :
    Calls Tryd.prog 42 #[.int .i64 d, .slice a n c] w fun e w' => e = .returned (errV (wrong d n)) ∧ w = w' := by
  by_cases h0 : d < 0
  · rw [show wrong d n = 2 from by unfold wrong; rw [if_pos (.inl h0)], err2]
    go_enter Tryd.func42, Tryd.ntmps42
    go_wp2
    go_ret
    exact ⟨rfl, rfl⟩
  · by_cases h1 : 16 < d
    · rw [show wrong d n = 2 from by unfold wrong; rw [if_pos (.inr h1)], err2]
      go_enter Tryd.func42, Tryd.ntmps42
      go_wp2
      go_ret
      exact ⟨rfl, rfl⟩
    · obtain ⟨k, rfl⟩ : ∃ k : Nat, d = k := ⟨d.toNat, by omega⟩
      have hk : k ≤ 16 := by omega
      have hp : (2 : Int) ^ k ≤ 65536 := by have := p2_nat k 16 hk; simpa using this
      have hp0 := p2_pos k
      by_cases h2 : (2 : Int) ^ k < n
      · go_enter Tryd.func42, Tryd.ntmps42
        go_wp2
        go_ret
        refine ⟨?_, rfl⟩
        unfold wrong
        rw [if_neg (by omega), if_pos (by simpa using h2)]
        rfl
      · go_enter Tryd.func42, Tryd.ntmps42
        go_wp2
        go_ret
        refine ⟨?_, rfl⟩
        unfold wrong
        rw [if_neg (by omega), if_neg (by simpa using h2)]
        rfl
theorem place_yes (i : Int) (d : Nat) (hd : d ≤ 16) (w : World) (h0 : 0 ≤ i) (h1 : i < 2 ^ d) :
    Calls Tryd.prog 96 #[.int .i64 i, .int .i64 d] w fun e w' => e = .returned (.bool true) ∧ w = w' := by
  have hp : (2 : Int) ^ d ≤ 65536 := by have := p2_nat d 16 hd; simpa using this
  have hp0 := p2_pos d
  go_enter Tryd.func96, Tryd.ntmps96
  go_wp2
  go_ret
  exact ⟨rfl, rfl⟩
theorem place_no (i : Int) (d : Nat) (hd : d ≤ 16) (w : World) (h : i < 0 ∨ 2 ^ d ≤ i) :
    Calls Tryd.prog 96 #[.int .i64 i, .int .i64 d] w fun e w' => e = .returned (.bool false) ∧ w = w' := by
  have hp : (2 : Int) ^ d ≤ 65536 := by have := p2_nat d 16 hd; simpa using this
  have hp0 := p2_pos d
  rcases h with h | h
  · go_enter Tryd.func96, Tryd.ntmps96
    go_wp2
    go_ret
    exact ⟨rfl, rfl⟩
  · have h0 : 0 ≤ i := by omega
    have h1 : decide (i < 2 ^ d) = false := decide_eq_false (by omega)
    go_enter Tryd.func96, Tryd.ntmps96
    go_wp2
    go_ret
    exact ⟨rfl, rfl⟩
end Mk
end Go.Proofs.YtnaamljflcgepaaDoor
namespace Go.Proofs.YtnaamljflcgepaaDoor
open Go.RowKit
set_option linter.unusedVariables false
section
variable {P : Program} {ops : Array Oper} {Q : Exit → Act → World → Prop} {S : World → Prop}
def wpOrd (P : Program) (ops : Array Oper) (Q : Exit → Act → World → Prop) (S : World → Prop) : List (Nat × Bool) → Act → World → Prop
  | [], a, w => Q .normal a w
  | (k, true) :: r, a, w => ∃ o v, ops[k]? = some o ∧ YieldsIf P ops S o v a ∧ wpOrd P ops Q S r (a.put o.dst v) w
  | (k, false) :: r, a, w => ∃ o, ops[k]? = some o ∧ Region.wanted o (yielded ops a.tmps) = true ∧ o.wp P a w (fun a' w' => S w' ∧ wpOrd P ops Q S r a' w') Q
theorem wpOrd_done {a : Act} {w : World} (h : Q .normal a w) : wpOrd P ops Q S [] a w := h
theorem wpOrd_f {k : Nat} {r : List (Nat × Bool)} {o : Oper} {a : Act} {w : World} (ho : ops[k]? = some o) (hw : Region.wanted o (yielded ops a.tmps) = true)
    (h : ∀ K : Act → World → Prop, (∀ a' w', S w' → wpOrd P ops Q S r a' w' → K a' w') → o.wp P a w K Q) : wpOrd P ops Q S ((k, false) :: r) a w :=
  ⟨o, ho, hw, h _ fun _ _ h1 h2 => ⟨h1, h2⟩⟩
theorem wpOrd_t {k : Nat} {r : List (Nat × Bool)} {o : Oper} {v : Value} {a : Act} {w : World} (ho : ops[k]? = some o) (hw : Region.wanted o (yielded ops a.tmps) = true)
    (hy : ∀ w, S w → (execOp a.eval o).run P w = .ok (.value v) w) (h : wpOrd P ops Q S r (a.put o.dst v) w) : wpOrd P ops Q S ((k, true) :: r) a w :=
  ⟨o, v, ho, .inl ⟨hw, hy⟩, h⟩
theorem wpOrd_load {k : Nat} {r : List (Nat × Bool)} {o : Oper} {a : Act} {w : World} (ty : TypeId) (x : Operand) (p v : Value) (ho : ops[k]? = some o) (hw : Region.wanted o (yielded ops a.tmps) = true) (hop : o.op = .load ty x) (hx : a.eval x = p)
    (hl : ∀ w, S w → (Instr.loadAt ty p).run P w = .ok v w) (h : wpOrd P ops Q S r (a.put o.dst v) w) : wpOrd P ops Q S ((k, true) :: r) a w :=
  wpOrd_t ho hw (fun w hw => by unfold execOp; simp only [hop, hx]; simp [hl w hw, Result.andThen]) h
def ordB (ops : Array Oper) : List (Nat × Bool) → Array Bool → Bool
  | [], l => (Region.ready .any ops l).isEmpty
  | (k, true) :: r, l => (Region.ready .any ops l).contains k && Region.free .any ops l k && ordB ops r (l.setIfInBounds k true)
  | (k, false) :: r, l => decide (Region.ready .any ops l = [k]) && ordB ops r (l.setIfInBounds k true)
theorem ord_any (hs : Region.noSelect ops = true) (hQ : ∀ c a d v w, Q (.panic c) (a.put d v) w → Q (.panic c) a w) : ∀ (l : List (Nat × Bool)) (listed : Array Bool) (a : Act) (w : World), S w →
    ordB ops l listed = true → wpOrd P ops Q S l a w → wpAnyH P .any ops Q S l.length listed a w
  | [], _, _, _, _, hB, h => ⟨by simpa [ordB] using hB, h⟩
  | (k, true) :: r, listed, a, w, hS, hB, ⟨o, v, h0, hy, h⟩ => by
    simp only [ordB, Bool.and_eq_true] at hB
    exact wpAnyH_take h0 hs hB.1.2 hB.1.1 (fun c a w => hQ c a _ _ w) hy hS (ord_any hs hQ r _ _ _ hS hB.2 h)
  | (k, false) :: r, listed, a, w, hS, hB, ⟨o, h0, hw, h⟩ => by
    simp only [ordB, Bool.and_eq_true, decide_eq_true_eq] at hB
    refine wpAnyH_all hB.1 (by simp) fun i hi => ?_
    have hik : i = k := by simpa using hi
    subst hik
    unfold wpOp
    simp only [h0]
    rw [if_pos hw]
    exact .inl (Oper.wp_mono (fun a' w' h' => ⟨h'.1, ord_any hs hQ r _ _ _ h'.1 hB.2 h'.2⟩) h)
theorem wp_region_ord {id : Nat} {a : Act} {w : World} {l : List Oper} (S : World → Prop) (ord : List (Nat × Bool)) (hm : P.follows .mixedOrders = true) (hB : (decide (ord.length = l.length) && Region.noSelect l.toArray && ordB l.toArray ord (Array.replicate l.length false)) = true) (hS : S w.drew)
    (h : wpOrd P l.toArray (NoPanic Q) S ord a w.drew) : (Code.region id l.toArray true).wp P Q a w := by
  refine wp_region_noPanic ?_
  have hQ : ∀ c a d v w, NoPanic Q (.panic c) (a.put d v) w → NoPanic Q (.panic c) a w := fun _ _ _ _ _ h => h
  simp only [Bool.and_eq_true, decide_eq_true_eq] at hB
  refine wp_region_held (S := S) hm ?_
  have h1 := ord_any (P := P) (Q := NoPanic Q) (S := S) (ops := l.toArray) hB.1.2 hQ ord (Array.replicate l.length false) a w.drew hS hB.2 h
  rw [hB.1.1] at h1
  simpa using h1
/-- append as one operation. -/
theorem wp_append_any {w : World} {o : Oper} {a : Act} {K : Act → World → Prop} {Q : Exit → Act → World → Prop} (s x : Operand) (t : TypeId)
    (ho : o.op = .call { callee := .builtin .append, args := #[s, x], argTypes := #[t, t] })
    (base : Nat) (e : TypeId) (i : TypeInfo) (z : Value) (size bytes : Nat) (ht : P.underlying t = some (.slice e)) (hi : P.info? e = some i ∧ i.zero = some z ∧ i.size = size ∧ i.bytes = bytes)
    (hzs : z.cells.size = size) (hsz : 0 < size)
    (v : Value) (n : Nat) (xs : List Value) (hs : a.eval s = v) (hown : w.ownsRow base e size v n xs)
    (A : Option Addr) (m c : Nat) (news : List Value) (hx : a.eval x = .slice A m c) (hsrc : (A = none ∧ m = 0 ∧ c = 0 ∧ news = []) ∨ ∃ ad, A = some ad ∧ news.length = m * size ∧ ∀ j u, news[j]? = some u → w.cell? (ad.add j) = some u) (h1 : ∀ u ∈ news, u.oneCell' = true)
    (h63 : n + m ≤ maxLen) (hbytes : (n + m) * bytes ≤ 140737488355328) (hbase : base ≤ w.heap.size)
    (h : ∀ v' w', w'.ownsRow base e size v' (n + m) (xs ++ news) → w.grownBy w' v.ownBlock → (∀ k, v'.ownBlock = some k → v.ownBlock = some k ∨ k = w.heap.size) → K (a.put o.dst v') w') : Oper.wp P o a w K Q := by
  rcases hsrc with ⟨rfl, rfl, rfl, rfl⟩ | ⟨ad, rfl, hl, hc⟩
  · have hh := h v w (by simpa using hown) (World.grownBy.refl w _) (fun k hk => .inl hk)
    have hr := run_append_owned_none (P := P) (w := w) base t o.type e i size ht hi.1 v n xs hown
    unfold Oper.wp
    simp [execOp, ho, resolve, invoke, builtin, hs, hx, hr, Result.andThen]
    exact hh
  · obtain ⟨v', w', hr, h2, h3, _, h4⟩ := run_append_at (P := P) w base t o.type e i z size bytes ht hi.1 hi.2.1 hi.2.2.1 hi.2.2.2 hzs hsz v n xs hown ad m c news hl hc h1 h63 hbytes hbase
    have hh := h _ _ h2 h3 h4
    unfold Oper.wp execOp
    simp only [ho, resolve, invoke, builtin, Sem.run_bind, Sem.run_pure, Result.andThen_ok, List.map_toArray, List.map_cons, List.map_nil, hs, hx, hr]
    exact hh
end
end Go.Proofs.YtnaamljflcgepaaDoor
namespace Go.Proofs.YtnaamljflcgepaaDoor
open Go.RowKit
set_option linter.unusedVariables false
section
variable {P : Program} {ops : Array Oper} {Q : Exit → Act → World → Prop} {S : World → Prop}
/-- As wpOrd, with K at its end. -/
def wpOrdK (P : Program) (ops : Array Oper) (Q : Exit → Act → World → Prop) (S : World → Prop) (K : Act → World → Prop) : List (Nat × Bool) → Act → World → Prop
  | [], a, w => K a w
  | (k, true) :: r, a, w => ∃ o v, ops[k]? = some o ∧ YieldsIf P ops S o v a ∧ wpOrdK P ops Q S K r (a.put o.dst v) w
  | (k, false) :: r, a, w => ∃ o, ops[k]? = some o ∧ Region.wanted o (yielded ops a.tmps) = true ∧ o.wp P a w (fun a' w' => S w' ∧ wpOrdK P ops Q S K r a' w') Q
theorem wpOrdK_done {K : Act → World → Prop} {a : Act} {w : World} (h : K a w) : wpOrdK P ops Q S K [] a w := h
theorem wpOrdK_t {K : Act → World → Prop} {k : Nat} {r : List (Nat × Bool)} {o : Oper} {v : Value} {a : Act} {w : World} (ho : ops[k]? = some o) (hw : Region.wanted o (yielded ops a.tmps) = true)
    (hy : ∀ w, S w → (execOp a.eval o).run P w = .ok (.value v) w) (h : wpOrdK P ops Q S K r (a.put o.dst v) w) : wpOrdK P ops Q S K ((k, true) :: r) a w :=
  ⟨o, v, ho, .inl ⟨hw, hy⟩, h⟩
theorem wpOrdK_load {K : Act → World → Prop} {k : Nat} {r : List (Nat × Bool)} {o : Oper} {a : Act} {w : World} (ty : TypeId) (x : Operand) (p v : Value) (ho : ops[k]? = some o) (hw : Region.wanted o (yielded ops a.tmps) = true) (hop : o.op = .load ty x) (hx : a.eval x = p)
    (hl : ∀ w, S w → (Instr.loadAt ty p).run P w = .ok v w) (h : wpOrdK P ops Q S K r (a.put o.dst v) w) : wpOrdK P ops Q S K ((k, true) :: r) a w :=
  wpOrdK_t ho hw (fun w hw => by unfold execOp; simp only [hop, hx]; simp [hl w hw, Result.andThen]) h
/-- With the slot that is written, told ahead. -/
theorem wpOrdK_tk {K : Act → World → Prop} {k : Nat} {r : List (Nat × Bool)} {o : Oper} {a : Act} {w : World} (d : Option Tmp) (v : Value) (ho : ops[k]? = some o) (hd : o.dst = d) (hw : Region.wanted o (yielded ops a.tmps) = true)
    (hy : ∀ w, S w → (execOp a.eval o).run P w = .ok (.value v) w) (h : wpOrdK P ops Q S K r (a.put d v) w) : wpOrdK P ops Q S K ((k, true) :: r) a w :=
  wpOrdK_t ho hw hy (by rw [hd]; exact h)
theorem wpOrdK_ld {K : Act → World → Prop} {k : Nat} {r : List (Nat × Bool)} {o : Oper} {a : Act} {w : World} (d : Option Tmp) (ty : TypeId) (x : Operand) (p v : Value) (ho : ops[k]? = some o) (hd : o.dst = d) (hw : Region.wanted o (yielded ops a.tmps) = true) (hop : o.op = .load ty x) (hx : a.eval x = p)
    (hl : ∀ w, S w → (Instr.loadAt ty p).run P w = .ok v w) (h : wpOrdK P ops Q S K r (a.put d v) w) : wpOrdK P ops Q S K ((k, true) :: r) a w :=
  wpOrdK_load ty x p v ho hw hop hx hl (by rw [hd]; exact h)
theorem wpOrd_tk {k : Nat} {r : List (Nat × Bool)} {o : Oper} {a : Act} {w : World} (d : Option Tmp) (v : Value) (ho : ops[k]? = some o) (hd : o.dst = d) (hw : Region.wanted o (yielded ops a.tmps) = true)
    (hy : ∀ w, S w → (execOp a.eval o).run P w = .ok (.value v) w) (h : wpOrd P ops Q S r (a.put d v) w) : wpOrd P ops Q S ((k, true) :: r) a w :=
  wpOrd_t ho hw hy (by rw [hd]; exact h)
theorem wpOrd_ld {k : Nat} {r : List (Nat × Bool)} {o : Oper} {a : Act} {w : World} (d : Option Tmp) (ty : TypeId) (x : Operand) (p v : Value) (ho : ops[k]? = some o) (hd : o.dst = d) (hw : Region.wanted o (yielded ops a.tmps) = true) (hop : o.op = .load ty x) (hx : a.eval x = p)
    (hl : ∀ w, S w → (Instr.loadAt ty p).run P w = .ok v w) (h : wpOrd P ops Q S r (a.put d v) w) : wpOrd P ops Q S ((k, true) :: r) a w :=
  wpOrd_load ty x p v ho hw hop hx hl (by rw [hd]; exact h)
def ordTo (ops : Array Oper) : List (Nat × Bool) → Array Bool → Option (Array Bool)
  | [], l => some l
  | (k, true) :: r, l => if (Region.ready .any ops l).contains k && Region.free .any ops l k then ordTo ops r (l.setIfInBounds k true) else none
  | (k, false) :: r, l => if decide (Region.ready .any ops l = [k]) then ordTo ops r (l.setIfInBounds k true) else none
theorem ordTo_any (hs : Region.noSelect ops = true) (hQ : ∀ c a d v w, Q (.panic c) (a.put d v) w → Q (.panic c) a w) {K : Act → World → Prop} {g : Nat} {end' : Array Bool} (hK : ∀ a w, S w → K a w → wpAnyH P .any ops Q S g end' a w) :
    ∀ (l : List (Nat × Bool)) (listed : Array Bool) (a : Act) (w : World), S w → ordTo ops l listed = some end' → wpOrdK P ops Q S K l a w → wpAnyH P .any ops Q S (l.length + g) listed a w
  | [], listed, a, w, hS, hB, h => by
    injection hB with hB; subst hB
    simpa using hK a w hS h
  | (k, true) :: r, listed, a, w, hS, hB, ⟨o, v, h0, hy, h⟩ => by
    unfold ordTo at hB
    split at hB
    · rename_i hc
      simp only [Bool.and_eq_true] at hc
      rw [List.length_cons, show r.length + 1 + g = (r.length + g) + 1 from by omega]
      exact wpAnyH_take h0 hs hc.2 hc.1 (fun c a w => hQ c a _ _ w) hy hS (ordTo_any hs hQ hK r _ _ _ hS hB h)
    · cases hB
  | (k, false) :: r, listed, a, w, hS, hB, ⟨o, h0, hw, h⟩ => by
    unfold ordTo at hB
    split at hB
    · rename_i hc
      rw [List.length_cons, show r.length + 1 + g = (r.length + g) + 1 from by omega]
      refine wpAnyH_all (of_decide_eq_true hc) (by simp) fun i hi => ?_
      have hik : i = k := by simpa using hi
      subst hik
      unfold wpOp
      simp only [h0]
      rw [if_pos hw]
      exact .inl (Oper.wp_mono (fun a' w' h' => ⟨h'.1, ordTo_any hs hQ hK r _ _ _ h'.1 hB h'.2⟩) h)
    · cases hB
/-- A few that come up in any order. -/
def wpFloat (P : Program) (ops : Array Oper) (Q : Exit → Act → World → Prop) (S : World → Prop) (K : Act → World → Prop) : Nat → List Nat → Act → World → Prop
  | 0, _, a, w => K a w
  | f + 1, ks, a, w => ∀ k ∈ ks, ∃ o, ops[k]? = some o ∧ Region.wanted o (yielded ops a.tmps) = true ∧ o.wp P a w (fun a' w' => S w' ∧ wpFloat P ops Q S K f (ks.filter (· != k)) a' w') Q
def floatB (ops : Array Oper) (ord2 : List (Nat × Bool)) : Nat → List Nat → Array Bool → Bool
  | 0, ks, l => ks.isEmpty && ordB ops ord2 l
  | f + 1, ks, l => decide (Region.ready .any ops l = ks) && !ks.isEmpty && ks.all fun k => floatB ops ord2 f (ks.filter (· != k)) (l.setIfInBounds k true)
theorem float_any (ord2 : List (Nat × Bool)) (hs : Region.noSelect ops = true) (hQ : ∀ c a d v w, Q (.panic c) (a.put d v) w → Q (.panic c) a w) {K : Act → World → Prop} (hK : ∀ a w, S w → K a w → wpOrd P ops Q S ord2 a w) :
    ∀ (f : Nat) (ks : List Nat) (listed : Array Bool) (a : Act) (w : World), S w → floatB ops ord2 f ks listed = true → wpFloat P ops Q S K f ks a w → wpAnyH P .any ops Q S (f + ord2.length) listed a w
  | 0, ks, listed, a, w, hS, hB, h => by
    simp only [floatB, Bool.and_eq_true] at hB
    rw [Nat.zero_add]
    exact ord_any hs hQ ord2 listed a w hS hB.2 (hK a w hS h)
  | f + 1, ks, listed, a, w, hS, hB, h => by
    simp only [floatB, Bool.and_eq_true, decide_eq_true_eq, List.all_eq_true] at hB
    rw [show f + 1 + ord2.length = (f + ord2.length) + 1 from by omega]
    refine wpAnyH_all hB.1.1 (by have := hB.1.2; cases ks <;> simp_all) fun i hi => ?_
    obtain ⟨o, h0, hw, hh⟩ := h i hi
    unfold wpOp
    simp only [h0]
    rw [if_pos hw]
    exact .inl (Oper.wp_mono (fun a' w' h' => ⟨h'.1, float_any ord2 hs hQ hK f _ _ a' w' h'.1 (hB.2 i hi) h'.2⟩) hh)
def ordFloatB (ops : Array Oper) (ord : List (Nat × Bool)) (ks : List Nat) (ord2 : List (Nat × Bool)) : Bool :=
  decide (ord.length + (ks.length + ord2.length) = ops.size) && Region.noSelect ops && match ordTo ops ord (Array.replicate ops.size false) with
    | some l => floatB ops ord2 ks.length ks l
    | none => false
/-- A prefix in one order, a few in any order (behind which K holds), and one order for the rest. -/
theorem wp_region_float {id : Nat} {a : Act} {w : World} {l : List Oper} (S : World → Prop) (ord : List (Nat × Bool)) (ks : List Nat) (ord2 : List (Nat × Bool)) (K : Act → World → Prop) (hm : P.follows .mixedOrders = true) (hB : ordFloatB l.toArray ord ks ord2 = true) (hS : S w.drew)
    (h : wpOrdK P l.toArray (NoPanic Q) S (wpFloat P l.toArray (NoPanic Q) S K ks.length ks) ord a w.drew) (hK : ∀ a w, S w → K a w → wpOrd P l.toArray (NoPanic Q) S ord2 a w) : (Code.region id l.toArray true).wp P Q a w := by
  refine wp_region_noPanic ?_
  have hQ : ∀ c a d v w, NoPanic Q (.panic c) (a.put d v) w → NoPanic Q (.panic c) a w := fun _ _ _ _ _ h => h
  simp only [ordFloatB, Bool.and_eq_true, decide_eq_true_eq] at hB
  obtain ⟨⟨hlen, hsel⟩, hB⟩ := hB
  split at hB
  · rename_i end' he
    refine wp_region_held (S := S) hm ?_
    have h1 := ordTo_any (P := P) (Q := NoPanic Q) (S := S) (ops := l.toArray) hsel hQ (K := wpFloat P l.toArray (NoPanic Q) S K ks.length ks) (g := ks.length + ord2.length) (end' := end')
      (fun a w hS hk => float_any (P := P) (Q := NoPanic Q) (S := S) (ops := l.toArray) ord2 hsel hQ (K := K) hK ks.length ks end' a w hS hB hk) ord _ a w.drew hS he h
    rw [hlen] at h1
    simpa using h1
  · cases hB
theorem wpFloat_all {K : Act → World → Prop} {f : Nat} {ks : List Nat} {a : Act} {w : World} (h : ∀ k ∈ ks, ∃ o, ops[k]? = some o ∧ Region.wanted o (yielded ops a.tmps) = true ∧ o.wp P a w (fun a' w' => S w' ∧ wpFloat P ops Q S K f (ks.filter (· != k)) a' w') Q) : wpFloat P ops Q S K (f + 1) ks a w := h
theorem wpFloat_done {K : Act → World → Prop} {ks : List Nat} {a : Act} {w : World} (h : K a w) : wpFloat P ops Q S K 0 ks a w := h
theorem wpFloat_one {K : Act → World → Prop} {f k : Nat} {ks : List Nat} {o : Oper} {a : Act} {w : World} (ho : ops[k]? = some o) (hw : Region.wanted o (yielded ops a.tmps) = true)
    (h : ∀ J : Act → World → Prop, (∀ a' w', S w' → wpFloat P ops Q S K f (ks.filter (· != k)) a' w' → J a' w') → o.wp P a w J Q) : ∃ o, ops[k]? = some o ∧ Region.wanted o (yielded ops a.tmps) = true ∧ o.wp P a w (fun a' w' => S w' ∧ wpFloat P ops Q S K f (ks.filter (· != k)) a' w') Q :=
  ⟨o, ho, hw, h _ fun _ _ h1 h2 => ⟨h1, h2⟩⟩
end
end Go.Proofs.YtnaamljflcgepaaDoor
namespace Go.Proofs.YtnaamljflcgepaaDoor
open Go.RowKit
set_option linter.unusedVariables false
namespace Mk
open Kc
/-- The cells of an array of digests. -/
def hc (f : Nat → Hx) : Nat → Value := fun i => bv (f (i / 32) (i % 32))
theorem zeroN (w : World) : (zeroValue 79).run Tryd.prog w = .ok (.agg (tab 544 (hc fun _ => zero 0))) w := by kernel_rfl
theorem undN : Tryd.prog.underlying 79 = some (.array 17 31) := by kernel_rfl
theorem infN' : (Tryd.prog.info? 79).map (·.size) = some 544 := by kernel_rfl
theorem infN (g : Nat → Value) : (Tryd.prog.info? 79).map (·.size) = some (tab 544 g).size := by rw [tab_size]; exact infN'
/-- A block of an array of digests holds them one behind the other. -/
theorem at5_of {w : World} {q T n m : Nat} {f : Nat → Hx} (h : IsTab w q T m (hc f)) (hm : 32 * n ≤ m) : At5 w q 0 n f := fun k j hk hj => by
  rw [show 0 + 32 * k + j = 32 * k + j from by omega, h.cell (32 * k + j) (by omega)]
  unfold hc
  rw [show (32 * k + j) / 32 = k from by omega, show (32 * k + j) % 32 = j from by omega]
/-- One of them is set. -/
theorem hc_set {w : World} {q T m : Nat} {f : Nat → Hx} (h : IsTab w q T m (hc f)) (k : Nat) (x : Hx) (p : Nat) (hp : p = 32 * k) :
    IsTab (w.setCells q p (tab 32 fun i => bv (x i)).toList) q T m (hc fun i => if i = k then x else f i) := by
  subst hp
  refine (IsTab.setCells ((List.range 32).map fun i => bv (x i)) (32 * k) _ _ h).cong fun i hi => ?_
  simp only [List.length_map, List.length_range]
  unfold hc
  dsimp only
  by_cases h1 : 32 * k ≤ i ∧ i < 32 * k + 32
  · rw [if_pos h1, if_pos (by omega), show i % 32 = i - 32 * k from by omega]
    simp [show i - 32 * k < 32 from by omega]
  · rw [if_neg h1, if_neg (by omega)]
theorem below_setCells {B : Nat} {W : World} {q : Nat} (hq : B ≤ q) : ∀ (vs : List Value) (o : Nat) (w : World), Below B W w → Below B W (w.setCells q o vs)
  | [], _, w, h => h
  | v :: r, o, w, h => below_setCells hq r (o + 1) _ (h.setCell hq v)
theorem IsTab.cellsOther {w : World} {q p T n : Nat} {g : Nat → Value} (hn : q ≠ p) : ∀ (vs : List Value) (o : Nat) (w : World), IsTab w q T n g → IsTab (w.setCells p o vs) q T n g
  | [], _, w, h => h
  | v :: r, o, w, h => IsTab.cellsOther (w := w) hn r (o + 1) _ (h.keep hn)
theorem pair_dv (x y : Hx) (w : World) (ht : Laid.KTab w) : Calls Tryd.prog 34 #[dv x, dv y] w fun e w' => e = .returned (dv (pr x y)) ∧ Below w.heap.size w w' := pair_walk permIs x y w ht
/-- Noughts up to n. -/
def nz (n : Nat) : Nat → Hx := fun k => if k ≤ n then zero k else zero 0
theorem nz_step (k : Nat) : (fun i => if i = k + 1 then pr (zero k) (zero k) else nz k i) = nz (k + 1) := by
  show (fun i => if i = k + 1 then zero (k + 1) else nz k i) = nz (k + 1)
  funext i
  unfold nz
  by_cases h : i = k + 1
  · subst h; rw [if_pos rfl, if_pos (Nat.le_refl _)]
  · rw [if_neg h]
    by_cases h2 : i ≤ k
    · rw [if_pos h2, if_pos (by omega)]
    · rw [if_neg h2, if_neg (by omega)]
theorem nz_at {n k : Nat} (h : k ≤ n) : nz n k = zero k := by unfold nz; rw [if_pos h]
structure Nw (W : World) (q qr : Nat) (f : Nat → Hx) (y : World) : Prop where
  st : IsTab y q 79 544 (hc f)
  sr : IsTab y qr 79 544 (hc fun _ => zero 0)
  below : Below W.heap.size W y
  ne : qr ≠ q
  g1 : W.heap.size ≤ q
  g2 : W.heap.size ≤ qr
theorem Nw.next {W y y' : World} {q qr : Nat} {f : Nat → Hx} (h : Nw W q qr f y) (hb : Below y.heap.size y y') : Nw W q qr f y' := ⟨h.st.below hb, h.sr.below hb, bl h.below hb, h.ne, h.g1, h.g2⟩
theorem Nw.drew {W y : World} {q qr : Nat} {f : Nat → Hx} (h : Nw W q qr f y) : Nw W q qr f y.drew := ⟨h.st, h.sr, h.below.drew, h.ne, h.g1, h.g2⟩
theorem Nw.set {W y : World} {q qr : Nat} {f : Nat → Hx} (h : Nw W q qr f y) (k : Nat) (x : Hx) (p : Nat) (hp : p = 32 * k) : Nw W q qr (fun i => if i = k then x else f i) (y.setCells q p (tab 32 fun i => bv (x i)).toList) :=
  ⟨hc_set h.st k x p hp, IsTab.cellsOther (w := y) h.ne _ _ _ h.sr, below_setCells h.g1 _ _ _ h.below, h.ne, h.g1, h.g2⟩
set_option maxHeartbeats 1000000 in
set_option maxRecDepth 100000 in
theorem noughts_walk (n : Nat) (hn : n ≤ 16) (w : World) (ht : Laid.KTab w) :
    Calls Tryd.prog 22 #[.int .i64 n] w fun e w' => e = .returned (.agg (tab 544 (hc (nz n)))) ∧ Below w.heap.size w w' := by
  have z2 := zeroN
  generalize hz : (tab 544 (hc fun _ => zero 0)) = zh at *
  have HZ := Lib.hid hz
  clear hz
  have HT := Lib.hid ht
  clear ht
  have hzi : (Tryd.prog.info? 79).map (·.size) = some zh.size := by rw [← HZ.out]; exact infN _
  have HZI := Lib.hid hzi
  have hzo : zh.all (·.oneCell') = true := by rw [← HZ.out]; exact tab_one fun i => rfl
  have HZO := Lib.hid hzo
  clear hzi hzo
  go_enter Tryd.func22, Tryd.ntmps22
  go_upto_region 2 with (refine wpList_store_row rfl 79 (.tmp 3) (.tmp 5) rfl (w.heap.size + 1) zh rfl rfl 79 zh (by have := heap_alloc_last (w.alloc (.cells zh 79)) (.cells zh 79); simpa using this) HZI.out rfl HZO.out ?_)
  have H1 : Hid (Nw w (w.heap.size + 1) w.heap.size (nz 0) (World.setRow ((w.alloc (.cells zh 79)).alloc (.cells zh 79)) (w.heap.size + 1) zh)) := by
    have e : World.setRow ((w.alloc (.cells zh 79)).alloc (.cells zh 79)) (w.heap.size + 1) zh = (w.alloc (.cells zh 79)).alloc (.cells zh 79) := by
      have := World.setRow_alloc_new (w.alloc (.cells zh 79)) zh zh 79
      simpa using this
    rw [e, ← HZ.out]
    have h1 := IsTab.new (w.alloc (.cells (tab 544 (hc fun _ => zero 0)) 79)) 79 544 (hc fun _ => zero 0)
    have e2 : (w.alloc (.cells (tab 544 (hc fun _ => zero 0)) 79)).heap.size = w.heap.size + 1 := by simp
    rw [e2] at h1
    have e3 : nz 0 = fun _ => zero 0 := by
      funext i; unfold nz; split
      · rename_i h; rw [Nat.le_zero.1 h]
      · rfl
    exact Lib.hid ⟨by rw [e3]; exact h1, (IsTab.new w _ 544 _).alloc _, ((Below.refl _ _).alloc (Nat.le_refl _) _).alloc (by simp) _, by omega, by omega, by omega⟩
  generalize World.setRow ((w.alloc (.cells zh 79)).alloc (.cells zh 79)) (w.heap.size + 1) zh = y0 at *
  generalize w.heap.size + 1 = q at *
  generalize hqr : w.heap.size = qr at *
  have HQ := Lib.hid hqr
  clear hqr
  go_wp2_with fail
  go_loopw [7] (fun t y => ∃ k : Nat, k ≤ n ∧ t = .int .i64 k ∧ Hid (Nw w q qr (nz k) y)) (fun t _ => n - (intOf t).toNat)
  case atStart => exact ⟨0, Nat.zero_le _, rfl, H1⟩
  case round =>
    obtain ⟨k, hk, rfl, hp⟩ := hrel
    clear H1
    by_cases hlt : (k : Int) < (n : Int)
    · have h17 : (k : Int) + 1 < 17 := by omega
      have hw1 : IntKind.i64.wrap ((k : Int) + 1) = (k : Int) + 1 := IntWalk.i64_in _ (by omega)
      have HW := Lib.hid hw1
      clear hw1
      go_upto_region 5 with (fail)
      have hw1 := HW.out
      have NE : Nonempty (Wd (Nw w q qr (nz k))) := ⟨⟨_, hp.out.drew⟩⟩
      have hld : ∀ u, (∃ z : Wd (Nw w q qr (nz k)), u = z.val) → (Instr.loadAt 31 (.pointer (some ⟨q, k * 32, none⟩))).run Tryd.prog u = .ok (dv (zero k)) u := fun u ⟨z, hz⟩ => by
        rw [hz]
        have := loadH (at5_of (n := 17) z.ok.st (by omega)) (k := k) (p := k * 32) (by omega) (by omega)
        rw [nz_at (Nat.le_refl k)] at this
        exact this
      have LD := Lib.hid hld
      clear hld
      have Q1 := Lib.hid (fun z : Wd (Nw w q qr (nz k)) => in_of_below z (fun y hb => z.ok.next hb) (pair_dv (zero k) (zero k) z.val (ktab_below HT.out z.ok.below)))
      refine wp_region_quiet_tail 10 (Nw w q qr (nz k)) (by kernel_rfl) (by kernel_rfl) hp.out.drew ?_
      simp only [List.take_succ_cons, List.take_zero, List.drop_succ_cons, List.drop_zero]
      repeat (first
        | (refine wpQuiet_load 31 _ (.pointer (some ⟨q, k * 32, none⟩)) _ rfl rfl rfl LD.out ?_; simp only [Act.put, List.setIfInBounds_toArray, List.set_cons_zero, List.set_cons_succ])
        | (go_big_quiet_step (with_reducible exact Q1.out _)))
      refine wpQuiet_nil ?_
      rintro _ ⟨z, rfl⟩
      have hth : z.val.there q ((k + 1) * 32) (tab 32 fun i => bv (pr (zero k) (zero k) i)).size := by rw [tab_size]; exact z.ok.st.thereAt ((k + 1) * 32) 32 (by omega)
      have HTH := Lib.hid hth
      have HN := Lib.hid (z.ok.set (k + 1) (pr (zero k) (zero k)) ((k + 1) * 32) (by omega))
      rw [nz_step] at HN
      clear hth hw1 LD Q1 NE hp
      refine wpList_store_mid (w := z.val) rfl 31 (.tmp 19) (.tmp 18) rfl q ((k + 1) * 32) (tab 32 fun i => bv (pr (zero k) (zero k) i)) ?_ ?_ ?_ ?_ ?_ ?_
      · rfl
      · rfl
      · exact HTH.out
      · exact infH _
      · exact one_bv _ _
      go_wp2_with fail
      go_roundw
      case rel => exact ⟨k + 1, by omega, by go_num, HN⟩
      case measure => simp [intOf]; omega
    · obtain rfl : k = n := by omega
      go_wp2_with (first
        | (refine wpList_load_row rfl 79 (.tmp 3) rfl q rfl 79 (tab 544 (hc (nz k))) (0, 0) _ hp.out.st undN rfl (infN _) ?_)
        | (refine wpList_store_row rfl 79 (.tmp 2) (.tmp 21) rfl qr (tab 544 (hc (nz k))) rfl rfl 79 _ hp.out.sr (infN _) (by rw [tab_size, tab_size]) (tab_one fun i => rfl) ?_))
      have hr : IsTab (World.setRow wr qr (tab 544 (hc (nz k)))) qr 79 544 (hc (nz k)) := hp.out.sr.row
      have hbb := below_setRow hp.out.below hp.out.g2 (tab 544 (hc (nz k)))
      rw [HQ.out] at hbb
      exact bodyPost_ret (results_cell_row rfl _ _ qr 79 _ (0, 0) _ rfl hr undN rfl (infN _)) rfl ⟨rfl, by rw [HQ.out]; exact hbb⟩
/-! ## Zero -/
theorem tab_extract {m : Nat} (g : Nat → Value) (o n : Nat) (h : o + n ≤ m) : (tab m g).extract o (o + n) = tab n fun i => g (o + i) := by
  apply Array.ext_getElem?
  intro i
  rw [Array.getElem?_extract]
  by_cases hi : i < n
  · rw [tab_at _ hi, if_pos (by rw [tab_size]; omega), tab_at _ (by omega)]
  · rw [if_neg (by rw [tab_size]; omega), tab_out _ (by omega)]
theorem aggH (w : World) : (isAgg 31).run Tryd.prog w = .ok true w := by kernel_rfl
theorem sizeHh (w : World) : (sizeOf 31).run Tryd.prog w = .ok 32 w := by kernel_rfl
theorem idxN (f : Nat → Hx) (k : Nat) (hk : k < 17) (w : World) : (Instr.index 79 (.agg (tab 544 (hc f))) (.int .i64 k)).run Tryd.prog w = .ok (dv (f k)) w := by
  have h0 : (0 : Int) ≤ k ∧ (k : Int) < (17 : Nat) := by omega
  unfold Instr.index
  simp only [asIntOf, Sem.run_bind, Sem.run_pure, Result.andThen_ok, run_underlying undN, sizeHh, part, aggH, if_pos h0, Int.toNat_natCast, if_true]
  rw [tab_extract _ _ _ (by omega)]
  congr 2
  exact tab_cong fun i hi => by unfold hc; rw [show (k * 32 + i) / 32 = k from by omega, show (k * 32 + i) % 32 = i from by omega]
set_option maxHeartbeats 1000000 in
set_option maxRecDepth 100000 in
theorem zero_ok (n : Nat) (hn : n ≤ 16) (w : World) (ht : Laid.KTab w) :
    Calls Tryd.prog 11 #[.int .i64 n] w fun e w' => e = .returned (.tuple #[dv (zero n), .nilIface]) ∧ Below w.heap.size w w' := by
  have z2 := zeroHash
  generalize hz : (tab 32 fun _ => bv 0#8) = zh at *
  have HZ := Lib.hid hz
  clear hz
  have h1 : (n : Int) ≤ 16 := by omega
  have hi := idxN (nz n) n (by omega)
  rw [nz_at (Nat.le_refl n)] at hi
  have HT := Lib.hid (noughts_walk n hn (w.alloc (.cells zh 31)) (ktab_below ht ((Below.refl _ _).alloc (Nat.le_refl _) _)))
  clear ht
  generalize (tab 544 (hc (nz n))) = nv at *
  have hq := put_new w (fun _ => 0#8) zh HZ.out
  have HS := Lib.hid hq
  clear hq
  go_enter Tryd.func11, Tryd.ntmps11
  go_wp2_with (first
    | (go_at_call 22; refine HT.out.mono ?_; rintro e w1 ⟨rfl, hb⟩)
    | (refine wpList_store_row rfl 31 (.tmp 2) (.tmp 15) rfl w.heap.size (tab 32 fun j => bv (zero n j)) rfl rfl 31 _ (HS.out.below hb) (infH _) (by rw [tab_size, tab_size]) (one_bv _ _) ?_))
  have hr : IsTab (World.setRow w1 w.heap.size (tab 32 fun j => bv (zero n j))) w.heap.size 31 32 fun j => bv (zero n j) := (HS.out.below hb).row
  exact bodyPost_ret (Kc.results_cell_tmp rfl _ _ w.heap.size 31 _ (0, 0) _ rfl hr undH rfl (infH _) .nilIface rfl) rfl ⟨rfl, below_setRow (((Below.refl _ _).alloc (Nat.le_refl _) _).trans (hb.mono (by simp))) (Nat.le_refl _) _⟩
end Mk
end Go.Proofs.YtnaamljflcgepaaDoor
namespace Go.Proofs.YtnaamljflcgepaaDoor
open Go.RowKit
set_option linter.unusedVariables false
section
variable {P : Program} {ops : Array Oper} {Q : Exit → Act → World → Prop}
theorem wpAnyH_weaken {md : Region.Mode} {S S' : World → Prop} (hS : ∀ y, S' y → S y) : ∀ (fuel : Nat) (listed : Array Bool) (a : Act) (w : World), wpAnyH P md ops Q S' fuel listed a w → wpAnyH P md ops Q S fuel listed a w
  | 0, _, _, _, h => h
  | fuel + 1, listed, a, w, h => ⟨h.1, fun i hi => wpOp_mono (fun a' w' h' => ⟨hS _ h'.1, wpAnyH_weaken hS fuel _ a' w' h'.2⟩) (h.2 i hi)⟩
end
end Go.Proofs.YtnaamljflcgepaaDoor
