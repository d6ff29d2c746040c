/-
  A region that draws its order: a prefix in one order that serves every order (as in Ord), then a few operations that come up in any order among themselves, then a forced tail. Own work, over the guide's laws of held regions.
-/
import Derived.Test.YtjfpbponjhpdhaaDoorOrd
namespace Go.Proofs.YtjfpbponjhpdhaaDoor
open Go.RowKit
set_option linter.unusedVariables false
section
variable {P : Program} {ops : Array Oper} {Q : Exit → Act → World → Prop} {S : World → Prop}
/-- As wpOrd, with K at its end. -/
def wpOrdK (P : Program) (ops : Array Oper) (Q : Exit → Act → World → Prop) (S : World → Prop) (K : Act → World → Prop) : List (Nat × Bool) → Act → World → Prop
  | [], a, w => K a w
  | (k, true) :: r, a, w => ∃ o v, ops[k]? = some o ∧ YieldsIf P ops S o v a ∧ wpOrdK P ops Q S K r (a.put o.dst v) w
  | (k, false) :: r, a, w => ∃ o, ops[k]? = some o ∧ Region.wanted o (yielded ops a.tmps) = true ∧ o.wp P a w (fun a' w' => S w' ∧ wpOrdK P ops Q S K r a' w') Q
theorem wpOrdK_done {K : Act → World → Prop} {a : Act} {w : World} (h : K a w) : wpOrdK P ops Q S K [] a w := h
theorem wpOrdK_f {K : Act → World → Prop} {k : Nat} {r : List (Nat × Bool)} {o : Oper} {a : Act} {w : World} (ho : ops[k]? = some o) (hw : Region.wanted o (yielded ops a.tmps) = true)
    (h : ∀ J : Act → World → Prop, (∀ a' w', S w' → wpOrdK P ops Q S K r a' w' → J a' w') → o.wp P a w J Q) : wpOrdK P ops Q S K ((k, false) :: r) a w :=
  ⟨o, ho, hw, h _ fun _ _ h1 h2 => ⟨h1, h2⟩⟩
theorem wpOrdK_t {K : Act → World → Prop} {k : Nat} {r : List (Nat × Bool)} {o : Oper} {v : Value} {a : Act} {w : World} (ho : ops[k]? = some o) (hw : Region.wanted o (yielded ops a.tmps) = true)
    (hy : ∀ w, S w → (execOp a.eval o).run P w = .ok (.value v) w) (h : wpOrdK P ops Q S K r (a.put o.dst v) w) : wpOrdK P ops Q S K ((k, true) :: r) a w :=
  ⟨o, v, ho, .inl ⟨hw, hy⟩, h⟩
theorem wpOrdK_load {K : Act → World → Prop} {k : Nat} {r : List (Nat × Bool)} {o : Oper} {a : Act} {w : World} (ty : TypeId) (x : Operand) (p v : Value) (ho : ops[k]? = some o) (hw : Region.wanted o (yielded ops a.tmps) = true) (hop : o.op = .load ty x) (hx : a.eval x = p)
    (hl : ∀ w, S w → (Instr.loadAt ty p).run P w = .ok v w) (h : wpOrdK P ops Q S K r (a.put o.dst v) w) : wpOrdK P ops Q S K ((k, true) :: r) a w :=
  wpOrdK_t ho hw (fun w hw => by unfold execOp; simp only [hop, hx]; simp [hl w hw, Result.andThen]) h
/-- With the slot that is written, told ahead. -/
theorem wpOrdK_tk {K : Act → World → Prop} {k : Nat} {r : List (Nat × Bool)} {o : Oper} {a : Act} {w : World} (d : Option Tmp) (v : Value) (ho : ops[k]? = some o) (hd : o.dst = d) (hw : Region.wanted o (yielded ops a.tmps) = true)
    (hy : ∀ w, S w → (execOp a.eval o).run P w = .ok (.value v) w) (h : wpOrdK P ops Q S K r (a.put d v) w) : wpOrdK P ops Q S K ((k, true) :: r) a w :=
  wpOrdK_t ho hw hy (by rw [hd]; exact h)
theorem wpOrdK_ld {K : Act → World → Prop} {k : Nat} {r : List (Nat × Bool)} {o : Oper} {a : Act} {w : World} (d : Option Tmp) (ty : TypeId) (x : Operand) (p v : Value) (ho : ops[k]? = some o) (hd : o.dst = d) (hw : Region.wanted o (yielded ops a.tmps) = true) (hop : o.op = .load ty x) (hx : a.eval x = p)
    (hl : ∀ w, S w → (Instr.loadAt ty p).run P w = .ok v w) (h : wpOrdK P ops Q S K r (a.put d v) w) : wpOrdK P ops Q S K ((k, true) :: r) a w :=
  wpOrdK_load ty x p v ho hw hop hx hl (by rw [hd]; exact h)
theorem wpOrd_tk {k : Nat} {r : List (Nat × Bool)} {o : Oper} {a : Act} {w : World} (d : Option Tmp) (v : Value) (ho : ops[k]? = some o) (hd : o.dst = d) (hw : Region.wanted o (yielded ops a.tmps) = true)
    (hy : ∀ w, S w → (execOp a.eval o).run P w = .ok (.value v) w) (h : wpOrd P ops Q S r (a.put d v) w) : wpOrd P ops Q S ((k, true) :: r) a w :=
  wpOrd_t ho hw hy (by rw [hd]; exact h)
theorem wpOrd_ld {k : Nat} {r : List (Nat × Bool)} {o : Oper} {a : Act} {w : World} (d : Option Tmp) (ty : TypeId) (x : Operand) (p v : Value) (ho : ops[k]? = some o) (hd : o.dst = d) (hw : Region.wanted o (yielded ops a.tmps) = true) (hop : o.op = .load ty x) (hx : a.eval x = p)
    (hl : ∀ w, S w → (Instr.loadAt ty p).run P w = .ok v w) (h : wpOrd P ops Q S r (a.put d v) w) : wpOrd P ops Q S ((k, true) :: r) a w :=
  wpOrd_load ty x p v ho hw hop hx hl (by rw [hd]; exact h)
def ordTo (ops : Array Oper) : List (Nat × Bool) → Array Bool → Option (Array Bool)
  | [], l => some l
  | (k, true) :: r, l => if (Region.ready .any ops l).contains k && Region.free .any ops l k then ordTo ops r (l.setIfInBounds k true) else none
  | (k, false) :: r, l => if decide (Region.ready .any ops l = [k]) then ordTo ops r (l.setIfInBounds k true) else none
theorem ordTo_any (hs : Region.noSelect ops = true) (hQ : ∀ c a d v w, Q (.panic c) (a.put d v) w → Q (.panic c) a w) {K : Act → World → Prop} {g : Nat} {end' : Array Bool} (hK : ∀ a w, S w → K a w → wpAnyH P .any ops Q S g end' a w) :
    ∀ (l : List (Nat × Bool)) (listed : Array Bool) (a : Act) (w : World), S w → ordTo ops l listed = some end' → wpOrdK P ops Q S K l a w → wpAnyH P .any ops Q S (l.length + g) listed a w
  | [], listed, a, w, hS, hB, h => by
    injection hB with hB; subst hB
    simpa using hK a w hS h
  | (k, true) :: r, listed, a, w, hS, hB, ⟨o, v, h0, hy, h⟩ => by
    unfold ordTo at hB
    split at hB
    · rename_i hc
      simp only [Bool.and_eq_true] at hc
      rw [List.length_cons, show r.length + 1 + g = (r.length + g) + 1 from by omega]
      exact wpAnyH_take h0 hs hc.2 hc.1 (fun c a w => hQ c a _ _ w) hy hS (ordTo_any hs hQ hK r _ _ _ hS hB h)
    · cases hB
  | (k, false) :: r, listed, a, w, hS, hB, ⟨o, h0, hw, h⟩ => by
    unfold ordTo at hB
    split at hB
    · rename_i hc
      rw [List.length_cons, show r.length + 1 + g = (r.length + g) + 1 from by omega]
      refine wpAnyH_all (of_decide_eq_true hc) (by simp) fun i hi => ?_
      have hik : i = k := by simpa using hi
      subst hik
      unfold wpOp
      simp only [h0]
      rw [if_pos hw]
      exact .inl (Oper.wp_mono (fun a' w' h' => ⟨h'.1, ordTo_any hs hQ hK r _ _ _ h'.1 hB h'.2⟩) h)
    · cases hB
/-- A few that come up in any order. -/
def wpFloat (P : Program) (ops : Array Oper) (Q : Exit → Act → World → Prop) (S : World → Prop) (K : Act → World → Prop) : Nat → List Nat → Act → World → Prop
  | 0, _, a, w => K a w
  | f + 1, ks, a, w => ∀ k ∈ ks, ∃ o, ops[k]? = some o ∧ Region.wanted o (yielded ops a.tmps) = true ∧ o.wp P a w (fun a' w' => S w' ∧ wpFloat P ops Q S K f (ks.filter (· != k)) a' w') Q
def floatB (ops : Array Oper) (ord2 : List (Nat × Bool)) : Nat → List Nat → Array Bool → Bool
  | 0, ks, l => ks.isEmpty && ordB ops ord2 l
  | f + 1, ks, l => decide (Region.ready .any ops l = ks) && !ks.isEmpty && ks.all fun k => floatB ops ord2 f (ks.filter (· != k)) (l.setIfInBounds k true)
theorem float_any (ord2 : List (Nat × Bool)) (hs : Region.noSelect ops = true) (hQ : ∀ c a d v w, Q (.panic c) (a.put d v) w → Q (.panic c) a w) {K : Act → World → Prop} (hK : ∀ a w, S w → K a w → wpOrd P ops Q S ord2 a w) :
    ∀ (f : Nat) (ks : List Nat) (listed : Array Bool) (a : Act) (w : World), S w → floatB ops ord2 f ks listed = true → wpFloat P ops Q S K f ks a w → wpAnyH P .any ops Q S (f + ord2.length) listed a w
  | 0, ks, listed, a, w, hS, hB, h => by
    simp only [floatB, Bool.and_eq_true] at hB
    rw [Nat.zero_add]
    exact ord_any hs hQ ord2 listed a w hS hB.2 (hK a w hS h)
  | f + 1, ks, listed, a, w, hS, hB, h => by
    simp only [floatB, Bool.and_eq_true, decide_eq_true_eq, List.all_eq_true] at hB
    rw [show f + 1 + ord2.length = (f + ord2.length) + 1 from by omega]
    refine wpAnyH_all hB.1.1 (by have := hB.1.2; cases ks <;> simp_all) fun i hi => ?_
    obtain ⟨o, h0, hw, hh⟩ := h i hi
    unfold wpOp
    simp only [h0]
    rw [if_pos hw]
    exact .inl (Oper.wp_mono (fun a' w' h' => ⟨h'.1, float_any ord2 hs hQ hK f _ _ a' w' h'.1 (hB.2 i hi) h'.2⟩) hh)
def ordFloatB (ops : Array Oper) (ord : List (Nat × Bool)) (ks : List Nat) (ord2 : List (Nat × Bool)) : Bool :=
  decide (ord.length + (ks.length + ord2.length) = ops.size) && Region.noSelect ops && match ordTo ops ord (Array.replicate ops.size false) with
    | some l => floatB ops ord2 ks.length ks l
    | none => false
/-- A prefix in one order, a few in any order (behind which K holds), and one order for the rest. -/
theorem wp_region_float {id : Nat} {a : Act} {w : World} {l : List Oper} (S : World → Prop) (ord : List (Nat × Bool)) (ks : List Nat) (ord2 : List (Nat × Bool)) (K : Act → World → Prop) (hm : P.follows .mixedOrders = true) (hB : ordFloatB l.toArray ord ks ord2 = true) (hS : S w.drew)
    (h : wpOrdK P l.toArray (NoPanic Q) S (wpFloat P l.toArray (NoPanic Q) S K ks.length ks) ord a w.drew) (hK : ∀ a w, S w → K a w → wpOrd P l.toArray (NoPanic Q) S ord2 a w) : (Code.region id l.toArray true).wp P Q a w := by
  refine wp_region_noPanic ?_
  have hQ : ∀ c a d v w, NoPanic Q (.panic c) (a.put d v) w → NoPanic Q (.panic c) a w := fun _ _ _ _ _ h => h
  simp only [ordFloatB, Bool.and_eq_true, decide_eq_true_eq] at hB
  obtain ⟨⟨hlen, hsel⟩, hB⟩ := hB
  split at hB
  · rename_i end' he
    refine wp_region_held (S := S) hm ?_
    have h1 := ordTo_any (P := P) (Q := NoPanic Q) (S := S) (ops := l.toArray) hsel hQ (K := wpFloat P l.toArray (NoPanic Q) S K ks.length ks) (g := ks.length + ord2.length) (end' := end')
      (fun a w hS hk => float_any (P := P) (Q := NoPanic Q) (S := S) (ops := l.toArray) ord2 hsel hQ (K := K) hK ks.length ks end' a w hS hB hk) ord _ a w.drew hS he h
    rw [hlen] at h1
    simpa using h1
  · cases hB
theorem wpFloat_all {K : Act → World → Prop} {f : Nat} {ks : List Nat} {a : Act} {w : World} (h : ∀ k ∈ ks, ∃ o, ops[k]? = some o ∧ Region.wanted o (yielded ops a.tmps) = true ∧ o.wp P a w (fun a' w' => S w' ∧ wpFloat P ops Q S K f (ks.filter (· != k)) a' w') Q) : wpFloat P ops Q S K (f + 1) ks a w := h
theorem wpFloat_done {K : Act → World → Prop} {ks : List Nat} {a : Act} {w : World} (h : K a w) : wpFloat P ops Q S K 0 ks a w := h
theorem wpFloat_one {K : Act → World → Prop} {f k : Nat} {ks : List Nat} {o : Oper} {a : Act} {w : World} (ho : ops[k]? = some o) (hw : Region.wanted o (yielded ops a.tmps) = true)
    (h : ∀ J : Act → World → Prop, (∀ a' w', S w' → wpFloat P ops Q S K f (ks.filter (· != k)) a' w' → J a' w') → o.wp P a w J Q) : ∃ o, ops[k]? = some o ∧ Region.wanted o (yielded ops a.tmps) = true ∧ o.wp P a w (fun a' w' => S w' ∧ wpFloat P ops Q S K f (ks.filter (· != k)) a' w') Q :=
  ⟨o, ho, hw, h _ fun _ _ h1 h2 => ⟨h1, h2⟩⟩
/-- append, with the old slice still good behind it. -/
theorem run_append_old {w : World} (base : Nat) (t ty e : TypeId) (i : TypeInfo) (z : Value) (size bytes : Nat) (ht : P.underlying t = some (.slice e)) (hi : P.info? e = some i) (hz : i.zero = some z)
    (hsize : i.size = size) (hby : i.bytes = bytes) (hzs : z.cells.size = size) (hsz : 0 < size)
    (v : Value) (n : Nat) (xs : List Value) (hown : w.ownsRow base e size v n xs)
    (a : Addr) (m c : Nat) (news : List Value) (hl : news.length = m * size) (hnews : ∀ j u, news[j]? = some u → w.cell? (a.add j) = some u) (h1 : ∀ u ∈ news, u.oneCell' = true)
    (h63 : n + m ≤ maxLen) (hbytes : (n + m) * bytes ≤ 140737488355328) (hbase : base ≤ w.heap.size) :
    ∃ v' w', (Builtin.append_ #[t, t] ty #[v, .slice (some a) m c]).run P w = .ok v' w' ∧ w'.ownsRow base e size v' (n + m) (xs ++ news) ∧ w.grownBy w' v.ownBlock ∧ w'.ownsRow base e size v n xs := by
  obtain ⟨v', w', hr, h2, h3, h4, h5⟩ := run_append_at (P := P) w base t ty e i z size bytes ht hi hz hsize hby hzs hsz v n xs hown a m c news hl hnews h1 h63 hbytes hbase
  refine ⟨v', w', hr, h2, h3, ?_⟩
  have hsmall : n + m ≤ 9223372036854775807 := by simp only [maxLen] at h63; omega
  have key : ∀ (u : Value) (x : World), (Builtin.append_ #[t, t] ty #[v, .slice (some a) m c]).run P w = .ok u x → w' = x := by
    intro u x hx
    rw [hr] at hx
    injection hx
  subst hsize
  subst hby
  rcases hown.2 with ⟨rfl, rfl⟩ | ⟨g, cap, cur, rfl, hbg, hg, hnc, hcm, hcs, htake⟩
  · exact ⟨hown.1, .inl ⟨rfl, rfl⟩⟩
  · by_cases hroom : n + m ≤ cap
    · have hfit : n * i.size + news.length ≤ cur.size := by rw [hl, hcs, ← Nat.add_mul]; exact Nat.mul_le_mul_right _ hroom
      have hr2 := run_append_room (P := P) w t ty e i ht hi g n cap cur hg a m c news hl hnews h1 hroom hfit
      rw [key _ _ hr2]
      refine ⟨hown.1, .inr ⟨g, cap, _, rfl, hbg, setRow_heap w g _ _ _ _ hg, hnc, hcm, ?_, ?_⟩⟩
      · simp; omega
      · have hle : n * i.size ≤ cur.toList.length := by simp; omega
        simp only [List.append_assoc]
        rw [List.take_append_of_le_length (by rw [List.length_take]; omega), List.take_take, Nat.min_self]
        exact htake
    · have holds : ∀ j u, xs[j]? = some u → w.cell? ((⟨g, 0, none⟩ : Addr).add j) = some u := hown.cells (g := g) rfl
      have hr2 := run_append_grow (P := P) w t ty e i z ht hi hz ⟨g, 0, none⟩ n cap xs hown.1 holds a m c news hl hnews (by omega) (by omega) (growslice_fits (by omega) hbytes)
      rw [key _ _ hr2]
      exact (show (w.drew).ownsRow base e i.size _ n xs from hown).alloc _
theorem wp_append_old {w : World} {o : Oper} {a : Act} {K : Act → World → Prop} {Q : Exit → Act → World → Prop} (s x : Operand) (t : TypeId)
    (ho : o.op = .call { callee := .builtin .append, args := #[s, x], argTypes := #[t, t] })
    (base : Nat) (e : TypeId) (i : TypeInfo) (z : Value) (size bytes : Nat) (ht : P.underlying t = some (.slice e)) (hi : P.info? e = some i ∧ i.zero = some z ∧ i.size = size ∧ i.bytes = bytes)
    (hzs : z.cells.size = size) (hsz : 0 < size)
    (v : Value) (n : Nat) (xs : List Value) (hs : a.eval s = v) (hown : w.ownsRow base e size v n xs)
    (ad : Addr) (m c : Nat) (news : List Value) (hx : a.eval x = .slice (some ad) m c) (hl : news.length = m * size) (hc : ∀ j u, news[j]? = some u → w.cell? (ad.add j) = some u) (h1 : ∀ u ∈ news, u.oneCell' = true)
    (h63 : n + m ≤ maxLen) (hbytes : (n + m) * bytes ≤ 140737488355328) (hbase : base ≤ w.heap.size)
    (h : ∀ v' w', w'.ownsRow base e size v' (n + m) (xs ++ news) → w.grownBy w' v.ownBlock → w'.ownsRow base e size v n xs → K (a.put o.dst v') w') : Oper.wp P o a w K Q := by
  obtain ⟨v', w', hr, h2, h3, h4⟩ := run_append_old (P := P) (w := w) base t o.type e i z size bytes ht hi.1 hi.2.1 hi.2.2.1 hi.2.2.2 hzs hsz v n xs hown ad m c news hl hc h1 h63 hbytes hbase
  have hh := h _ _ h2 h3 h4
  unfold Oper.wp execOp
  simp only [ho, resolve, invoke, builtin, Sem.run_bind, Sem.run_pure, Result.andThen_ok, List.map_toArray, List.map_cons, List.map_nil, hs, hx, hr]
  exact hh
end
end Go.Proofs.YtjfpbponjhpdhaaDoor
