/- Merged of R2. Own work. -/
import Derived.Test.YtcgpdijpppcbiaaGreatDoorQ04
import Derived.Test.YtcgpdijpppcbiaaGreatDoorQ05
import Derived.Laws.AppendOwnNone
import Derived.Test.YtcgpdijpppcbiaaGreatDoorQ06
import Derived.BigRegion
namespace Go.Proofs.YtcgpdijpppcbiaaGreatDoor
open Go.RowKit
set_option linter.unusedVariables false
namespace Kc
/-- The first k bytes of lane j. -/
def acc (p : Nat → Bt) (j : Nat) : Nat → Wd64
  | 0 => 0#64
  | k + 1 => acc p j k ^^^ (wd (p (8 * j + k)) <<< (8 * k))
/-- A state with the first i bytes. -/
def mix (a : Nat → Wd64) (p : Nat → Bt) (i : Nat) : Nat → Wd64 := fun j => if j < i / 8 then a j ^^^ acc p j 8 else if j = i / 8 then a j ^^^ acc p j (i % 8) else a j
theorem mix_zero (a : Nat → Wd64) (p : Nat → Bt) (j : Nat) : a j = mix a p 0 j := by
  unfold mix
  rw [if_neg (by omega)]
  split
  · show a j = a j ^^^ 0#64; rw [BitVec.xor_zero]
  · rfl
theorem mix_step (a : Nat → Wd64) (p : Nat → Bt) (i : Nat) (j : Nat) : upd (mix a p i) (i / 8) (mix a p i (i / 8) ^^^ (wd (p i) <<< (8 * (i % 8)))) j = mix a p (i + 1) j := by
  have hat : mix a p i (i / 8) = a (i / 8) ^^^ acc p (i / 8) (i % 8) := by unfold mix; rw [if_neg (by omega), if_pos rfl]
  have hstep : acc p (i / 8) (i % 8) ^^^ (wd (p i) <<< (8 * (i % 8))) = acc p (i / 8) (i % 8 + 1) := by
    show _ = acc p (i / 8) (i % 8) ^^^ (wd (p (8 * (i / 8) + i % 8)) <<< (8 * (i % 8)))
    rw [show 8 * (i / 8) + i % 8 = i from by omega]
  unfold upd
  by_cases e : j = i / 8
  · rw [if_pos e, hat, BitVec.xor_assoc, hstep, e]
    unfold mix
    by_cases h7 : i % 8 = 7
    · rw [if_pos (by omega), h7]
    · rw [if_neg (by omega), if_pos (by omega), show (i + 1) % 8 = i % 8 + 1 from by omega]
  · rw [if_neg e]
    unfold mix
    by_cases h1 : j < i / 8
    · rw [if_pos h1, if_pos (by omega)]
    · rw [if_neg h1, if_neg e]
      by_cases h2 : j < (i + 1) / 8
      · omega
      · rw [if_neg h2]
        by_cases h3 : j = (i + 1) / 8
        · rw [if_pos h3, show (i + 1) % 8 = 0 from by omega]
          show a j = a j ^^^ 0#64
          rw [BitVec.xor_zero]
        · rw [if_neg h3]
theorem byte_bit (x : Bt) (k n : Nat) (hn : n < 64) (hk : k < 8) : (wd x <<< (8 * k)).getLsbD n = (decide (n / 8 = k) && x.getLsbD (n % 8)) := by
  rw [wd_bit x (8 * k) n hn (by omega)]
  by_cases h : n / 8 = k
  · rw [decide_eq_true h, decide_eq_true (by omega), show n - 8 * k = n % 8 from by omega]
  · rw [decide_eq_false h]
    by_cases h2 : 8 * k ≤ n
    · rw [decide_eq_true h2, BitVec.getLsbD_of_ge x (n - 8 * k) (by omega)]; rfl
    · rw [decide_eq_false h2]; rfl
theorem acc_lane (p : Nat → Bt) (j : Nat) : acc p j 8 = lane p j := by
  have e0 : wd (p (8 * j)) = wd (p (8 * j)) <<< (8 * 0) := by simp
  unfold lane
  rw [e0]
  show 0#64 ^^^ (wd (p (8 * j + 0)) <<< (8 * 0)) ^^^ (wd (p (8 * j + 1)) <<< (8 * 1)) ^^^ (wd (p (8 * j + 2)) <<< (8 * 2)) ^^^ (wd (p (8 * j + 3)) <<< (8 * 3)) ^^^ (wd (p (8 * j + 4)) <<< (8 * 4)) ^^^ (wd (p (8 * j + 5)) <<< (8 * 5)) ^^^ (wd (p (8 * j + 6)) <<< (8 * 6)) ^^^ (wd (p (8 * j + 7)) <<< (8 * 7)) =
    (wd (p (8 * j + 0)) <<< (8 * 0)) ||| (wd (p (8 * j + 1)) <<< (8 * 1)) ||| (wd (p (8 * j + 2)) <<< (8 * 2)) ||| (wd (p (8 * j + 3)) <<< (8 * 3)) ||| (wd (p (8 * j + 4)) <<< (8 * 4)) ||| (wd (p (8 * j + 5)) <<< (8 * 5)) ||| (wd (p (8 * j + 6)) <<< (8 * 6)) ||| (wd (p (8 * j + 7)) <<< (8 * 7))
  rw [BitVec.zero_xor]
  apply BitVec.eq_of_getLsbD_eq
  intro n hn
  simp only [BitVec.getLsbD_xor, BitVec.getLsbD_or]
  rw [byte_bit _ 0 n hn (by decide), byte_bit _ 1 n hn (by decide), byte_bit _ 2 n hn (by decide), byte_bit _ 3 n hn (by decide), byte_bit _ 4 n hn (by decide), byte_bit _ 5 n hn (by decide), byte_bit _ 6 n hn (by decide), byte_bit _ 7 n hn (by decide)]
  have hc : n / 8 = 0 ∨ n / 8 = 1 ∨ n / 8 = 2 ∨ n / 8 = 3 ∨ n / 8 = 4 ∨ n / 8 = 5 ∨ n / 8 = 6 ∨ n / 8 = 7 := by omega
  rcases hc with h | h | h | h | h | h | h | h <;> simp [h]
theorem mix_all (a : Nat → Wd64) (p : Nat → Bt) (j : Nat) : mix a p 136 j = absorbK a p 17 j := by
  unfold mix absorbK
  by_cases h : j < 17
  · rw [if_pos h, if_pos h, acc_lane]
  · rw [if_neg h, if_neg h]
    split
    · show a j ^^^ 0#64 = a j; rw [BitVec.xor_zero]
    · rfl
/-- All bytes with the 1 and the noughts behind them, and the last bit. -/
def padN (l : List Bt) : Nat := 136 * (l.length / 136 + 1)
def pad (l : List Bt) : List Bt := l ++ 1#8 :: List.replicate (padN l - l.length - 1) 0#8
theorem pad_at (l : List Bt) (i : Nat) (hi : i < padN l) : (pad l).getD i 0#8 = if i < l.length then l.getD i 0#8 else if i = l.length then 1#8 else 0#8 := by
  unfold pad
  by_cases h : i < l.length
  · rw [if_pos h, getD_append_left h]
  · rw [if_neg h, getD_append_right (by omega)]
    by_cases h2 : i = l.length
    · rw [if_pos h2, h2]; simp
    · rw [if_neg h2]
      obtain ⟨k, hk⟩ : ∃ k, i - l.length = k + 1 := ⟨i - l.length - 1, by omega⟩
      rw [hk]
      unfold padN at *
      simp [show k < 136 * (l.length / 136 + 1) - l.length - 1 from by omega]
/-- The bytes as the sponge takes them. -/
def sponge (l : List Bt) (i : Nat) : Bt := if i = padN l - 1 then (pad l).getD i 0#8 ^^^ 128#8 else (pad l).getD i 0#8
/-- Behind m pieces of the sponge. -/
def stS (l : List Bt) : Nat → Nat → Wd64
  | 0 => fun _ => 0#64
  | m + 1 => perm (mix (stS l m) (fun j => sponge l (136 * m + j)) 136)
theorem perm_fun {a b : Nat → Wd64} (h : ∀ j, a j = b j) : perm a = perm b := by rw [show a = b from funext h]
theorem stS_st (l : List Bt) : ∀ m, m ≤ l.length / 136 → stS l m = st l m
  | 0, _ => rfl
  | m + 1, h => by
    show perm (mix (stS l m) (fun j => sponge l (136 * m + j)) 136) = absorb (st l m) fun j => l.getD (136 * m + j) 0#8
    rw [stS_st l m (by omega), perm_fun (mix_all _ _)]
    refine absorb_cong (st l m) fun j hj => ?_
    unfold sponge
    rw [if_neg (by unfold padN; omega), pad_at l _ (by unfold padN; omega), if_pos (by omega)]
theorem stS_last (l : List Bt) : stS l (l.length / 136 + 1) = absorb (st l (l.length / 136)) (last l) := by
  show perm (mix (stS l (l.length / 136)) (fun j => sponge l (136 * (l.length / 136) + j)) 136) = _
  rw [stS_st l _ (Nat.le_refl _), perm_fun (mix_all _ _)]
  refine absorb_cong _ fun j hj => ?_
  unfold sponge last
  rw [pad_at l _ (by unfold padN; omega)]
  by_cases h1 : j < l.length % 136
  · rw [if_neg (by unfold padN; omega), if_pos (by omega), if_pos h1, if_neg (by omega), if_neg (by omega)]; simp
  · rw [if_neg (show ¬ 136 * (l.length / 136) + j < l.length from by omega), if_neg h1]
    by_cases h2 : j = l.length % 136
    · rw [if_pos (show 136 * (l.length / 136) + j = l.length from by omega), if_pos h2]
      by_cases h3 : j = 135
      · rw [if_pos (by unfold padN; omega), if_pos h3]; simp
      · rw [if_neg (by unfold padN; omega), if_neg h3]; simp
    · rw [if_neg (show ¬ 136 * (l.length / 136) + j = l.length from by omega), if_neg h2]
      by_cases h3 : j = 135
      · rw [if_pos (by unfold padN; omega), if_pos h3]; simp
      · rw [if_neg (by unfold padN; omega), if_neg h3]; simp
theorem sponge_sum (l : List Bt) : digest (stS l (padN l / 136)) = sum l := by
  rw [show padN l / 136 = l.length / 136 + 1 from by unfold padN; omega, stS_last]; rfl
end Kc
end Go.Proofs.YtcgpdijpppcbiaaGreatDoor
namespace Go.Proofs.YtcgpdijpppcbiaaGreatDoor
open Go.RowKit
set_option linter.unusedVariables false
theorem wpList_append_any {P : Program} {w : World} {ops : Array Oper} {rest : List Oper} {o : Oper} {a : Act} {Q : Exit → Act → World → Prop} (hgd : o.guard = none) (s x : Operand) (t : TypeId)
    (ho : o.op = .call { callee := .builtin .append, args := #[s, x], argTypes := #[t, t] })
    (base : Nat) (e : TypeId) (i : TypeInfo) (z : Value) (size bytes : Nat) (ht : P.underlying t = some (.slice e)) (hi : P.info? e = some i ∧ i.zero = some z ∧ i.size = size ∧ i.bytes = bytes)
    (hzs : z.cells.size = size) (hsz : 0 < size)
    (v : Value) (n : Nat) (xs : List Value) (hs : a.eval s = v) (hown : w.ownsRow base e size v n xs)
    (A : Option Addr) (m c : Nat) (news : List Value) (hx : a.eval x = .slice A m c) (hsrc : (A = none ∧ m = 0 ∧ c = 0 ∧ news = []) ∨ ∃ ad, A = some ad ∧ news.length = m * size ∧ ∀ j u, news[j]? = some u → w.cell? (ad.add j) = some u) (h1 : ∀ u ∈ news, u.oneCell' = true)
    (h63 : n + m ≤ maxLen) (hbytes : (n + m) * bytes ≤ 140737488355328) (hbase : base ≤ w.heap.size)
    (h : ∀ v' w', w'.ownsRow base e size v' (n + m) (xs ++ news) → w.grownBy w' v.ownBlock → (∀ k, v'.ownBlock = some k → v.ownBlock = some k ∨ k = w.heap.size) → wpList P ops Q rest (a.put o.dst v') w') : wpList P ops Q (o :: rest) a w := by
  rcases hsrc with ⟨rfl, rfl, rfl, rfl⟩ | ⟨ad, rfl, hl, hc⟩
  · refine wpList_append_own_none hgd s x t ho base e i size ht hi.1 v n xs hs hown hx ?_
    exact h v w (by simpa using hown) (World.grownBy.refl w _) (fun k hk => .inl hk)
  · exact wpList_append_at w hgd s x t ho base e i z size bytes ht hi hzs hsz v n xs hs hown ad m c news hx hl hc h1 h63 hbytes hbase h
namespace Kc
/-- A block whose first n cells are bytes. -/
def Row8 (w : World) (g n : Nat) (f : Nat → Bt) : Prop := ∃ cur : Array Value, w.heap[g]? = some (.cells cur 5 (0, 0)) ∧ n ≤ cur.size ∧ ∀ i, i < n → cur[i]? = some (bv (f i))
theorem Row8.cell {w : World} {g n : Nat} {f : Nat → Bt} (h : Row8 w g n f) (i : Nat) (hi : i < n) : w.cell? ⟨g, i, none⟩ = some (bv (f i)) := by
  obtain ⟨cur, h1, h2, h3⟩ := h
  rw [cell_of_row w g i _ _ _ h1]; exact h3 i hi
theorem Row8.fz {w : World} {g n : Nat} {f : Nat → Bt} (h : Row8 w g n f) (i : Nat) : w.frozen? ⟨g, i, none⟩ = false := by
  obtain ⟨cur, h1, _⟩ := h
  exact frozen_of_row w g i _ _ h1
theorem Row8.lt {w : World} {g n : Nat} {f : Nat → Bt} (h : Row8 w g n f) : g < w.heap.size := by obtain ⟨cur, h1, _⟩ := h; exact (Array.getElem?_eq_some_iff.1 h1).1
theorem Row8.set {w : World} {g n : Nat} {f : Nat → Bt} (h : Row8 w g n f) (i : Nat) (x : Bt) : Row8 (w.setCell ⟨g, i, none⟩ (bv x)) g n fun j => if j = i then x else f j := by
  obtain ⟨cur, h1, h2, h3⟩ := h
  refine ⟨_, heap_setCell_same w g i _ _ _ h1, by simpa using h2, fun j hj => ?_⟩
  rw [Array.getElem?_setIfInBounds]
  dsimp only
  by_cases e : i = j
  · subst e; rw [if_pos rfl, if_pos (by omega), if_pos rfl]
  · rw [if_neg e, if_neg (fun h : j = i => e h.symm)]; exact h3 j hj
theorem Row8.keep {w : World} {g p i n : Nat} {v : Value} {f : Nat → Bt} (h : Row8 w g n f) (hn : g ≠ p) : Row8 (w.setCell ⟨p, i, none⟩ v) g n f := by
  obtain ⟨cur, h1, h2, h3⟩ := h
  exact ⟨cur, by rw [Below.heap_setCell _ _ _ _ hn]; exact h1, h2, h3⟩
theorem Row8.row {w : World} {g p n : Nat} {cs : Array Value} {f : Nat → Bt} (h : Row8 w g n f) (hn : g ≠ p) : Row8 (w.setRow p cs) g n f := by
  obtain ⟨cur, h1, h2, h3⟩ := h
  exact ⟨cur, by rw [setRow_other _ _ _ _ hn]; exact h1, h2, h3⟩
theorem Row8.drew {w : World} {g n : Nat} {f : Nat → Bt} (h : Row8 w g n f) : Row8 w.drew g n f := h
theorem Row8.below {w w' : World} {g n : Nat} {f : Nat → Bt} (h : Row8 w g n f) (hb : Below w.heap.size w w') : Row8 w' g n f := by
  obtain ⟨cur, h1, h2, h3⟩ := h
  exact ⟨cur, by rw [hb.block g (Array.getElem?_eq_some_iff.1 h1).1]; exact h1, h2, h3⟩
theorem Row8.alloc {w : World} {g n : Nat} {f : Nat → Bt} (h : Row8 w g n f) (o : Obj) : Row8 (w.alloc o) g n f := by
  obtain ⟨cur, h1, h2, h3⟩ := h
  exact ⟨cur, by rw [Below.heap_alloc w o g (Array.getElem?_eq_some_iff.1 h1).1]; exact h1, h2, h3⟩
theorem Row8.cong {w : World} {g n : Nat} {f f' : Nat → Bt} (h : Row8 w g n f) (e : ∀ i, i < n → f i = f' i) : Row8 w g n f' := by
  obtain ⟨cur, h1, h2, h3⟩ := h
  exact ⟨cur, h1, h2, fun i hi => by rw [← e i hi]; exact h3 i hi⟩
/-- A row of the call's own, as a slice over such a block. -/
theorem row8_of {w : World} {q : Nat} {V : Value} {n : Nat} {l : List Bt} (h : w.ownsRow q 5 1 V n (l.map bv)) (hn : 0 < n) :
    ∃ g cap, V = .slice (some ⟨g, 0, none⟩) n cap ∧ n ≤ cap ∧ cap ≤ maxLen ∧ q ≤ g ∧ l.length = n ∧ Row8 w g n fun i => l.getD i 0#8 := by
  obtain ⟨h0, h1⟩ := h
  rcases h1 with ⟨_, e⟩ | ⟨g, cap, cur, rfl, hg, hc, hnc, hm, hs, ht⟩
  · omega
  · have hl : l.length = n := by simpa using h0
    refine ⟨g, cap, rfl, hnc, hm, hg, hl, cur, hc, by omega, fun i hi => ?_⟩
    have e1 : (cur.toList.take (n * 1))[i]? = (l.map bv)[i]? := by rw [ht]
    rw [List.getElem?_take, if_pos (by omega), List.getElem?_map, List.getElem?_eq_getElem (show i < l.length from by omega)] at e1
    show _ = some (bv (l.getD i 0#8))
    rw [List.getD_eq_getElem?_getD, List.getElem?_eq_getElem (show i < l.length from by omega)]
    simpa using e1
theorem one1 : ∃ i, Tryz.prog.info? 5 = some i ∧ i.zero = some (.int .u8 0) ∧ i.size = 1 ∧ i.bytes = 1 := by
  refine ⟨(Tryz.prog.info? 5).get (by kernel_rfl), by kernel_rfl, by kernel_rfl, by kernel_rfl, by kernel_rfl⟩
end Kc
end Go.Proofs.YtcgpdijpppcbiaaGreatDoor
namespace Go.Proofs.YtcgpdijpppcbiaaGreatDoor
open Go.RowKit
set_option linter.unusedVariables false
namespace Kc
theorem inf26' : (Tryz.prog.info? 74).map (·.size) = some 32 := by kernel_rfl
theorem inf26 (g : Nat → Value) : (Tryz.prog.info? 74).map (·.size) = some (tab 32 g).size := by rw [tab_size]; exact inf26'
theorem und26 : Tryz.prog.underlying 74 = some (.array 32 5) := by kernel_rfl
theorem zero26 (w : World) : (zeroValue 74).run Tryz.prog w = .ok (.agg (tab 32 fun _ => bv 0#8)) w := by kernel_rfl
/-- What a piece is taken into. -/
structure Rs (W : World) (V T : Value) (q g qa : Nat) (n : Nat) (l : List Bt) (c : Nat → Wd64) (y : World) : Prop where
  srow : Row8 y g n (sponge l)
  sa : IsTab y qa 141 25 fun i => wv (c i)
  sres : IsTab y q 74 32 fun _ => bv 0#8
  cons : ConsAt y V
  turn : TurnAt y T
  below : Below W.heap.size W y
  bc : ∀ u v, ConsAt u V → (∀ b o x, b < qa → u.cell? ⟨b, o, none⟩ = some x → v.cell? ⟨b, o, none⟩ = some x) → ConsAt v V
  bt : ∀ u v, TurnAt u T → (∀ b o x, b < qa → u.cell? ⟨b, o, none⟩ = some x → v.cell? ⟨b, o, none⟩ = some x) → TurnAt v T
  o1 : W.heap.size ≤ q
  o2 : q < g
  o3 : g < qa
theorem Rs.next {W : World} {V T : Value} {q g qa n : Nat} {l : List Bt} {c : Nat → Wd64} {y y' : World} (h : Rs W V T q g qa n l c y) (hb : Below y.heap.size y y') : Rs W V T q g qa n l c y' :=
  ⟨h.srow.below hb, h.sa.below hb, h.sres.below hb, ConsAt.below hb h.cons, TurnAt.below hb h.turn, bl h.below hb, h.bc, h.bt, h.o1, h.o2, h.o3⟩
theorem Rs.drew {W : World} {V T : Value} {q g qa n : Nat} {l : List Bt} {c : Nat → Wd64} {y : World} (h : Rs W V T q g qa n l c y) : Rs W V T q g qa n l c y.drew :=
  ⟨h.srow, h.sa, h.sres, h.cons, h.turn, h.below.drew, h.bc, h.bt, h.o1, h.o2, h.o3⟩
theorem Rs.set {W : World} {V T : Value} {q g qa n : Nat} {l : List Bt} {c : Nat → Wd64} {y : World} (h : Rs W V T q g qa n l c y) (i : Nat) (x : Wd64) : Rs W V T q g qa n l (upd c i x) (y.setCell ⟨qa, i, none⟩ (wv x)) :=
  ⟨h.srow.keep (by have := h.o3; omega), (h.sa.set i _).cong (fun j _ => by unfold updv upd; dsimp only; split <;> rfl), h.sres.keep (by have := h.o2; have := h.o3; omega),
   h.bc y _ h.cons (fun b o v hb hv => by rw [World.cell?_setCell_other _ _ _ _ (fun e => by have := congrArg Addr.block e; simp only at this; omega)]; exact hv),
   h.bt y _ h.turn (fun b o v hb hv => by rw [World.cell?_setCell_other _ _ _ _ (fun e => by have := congrArg Addr.block e; simp only at this; omega)]; exact hv),
   h.below.setCell (by have := h.o1; have := h.o2; have := h.o3; show W.heap.size ≤ qa; omega) _, h.bc, h.bt, h.o1, h.o2, h.o3⟩
theorem Rs.row {W : World} {V T : Value} {q g qa n : Nat} {l : List Bt} {c : Nat → Wd64} {y : World} (h : Rs W V T q g qa n l c y) (d : Nat → Wd64) : Rs W V T q g qa n l d (y.setRow qa (words d)) :=
  ⟨h.srow.row (by have := h.o3; omega), h.sa.row, h.sres.rowOther (by have := h.o2; have := h.o3; omega),
   h.bc y _ h.cons (fun b o v hb hv => by rw [cell_setRow_other _ _ _ _ (by simp only; omega)]; exact hv),
   h.bt y _ h.turn (fun b o v hb hv => by rw [cell_setRow_other _ _ _ _ (by simp only; omega)]; exact hv),
   below_setRow h.below (by have := h.o1; have := h.o2; have := h.o3; omega : W.heap.size ≤ qa) _, h.bc, h.bt, h.o1, h.o2, h.o3⟩
theorem Rs.cong {W : World} {V T : Value} {q g qa n : Nat} {l : List Bt} {c d : Nat → Wd64} {y : World} (h : Rs W V T q g qa n l c y) (e : ∀ i, i < 25 → c i = d i) : Rs W V T q g qa n l d y :=
  ⟨h.srow, h.sa.cong (fun i hi => by rw [e i hi]), h.sres, h.cons, h.turn, h.below, h.bc, h.bt, h.o1, h.o2, h.o3⟩
/-- The padded bytes so far. -/
def padJ (l : List Bt) (j : Nat) : List Bt := l ++ 1#8 :: List.replicate j 0#8
theorem padJ_succ (l : List Bt) (j : Nat) : (padJ l (j + 1)).map bv = (padJ l j).map bv ++ [.int .u8 0] := by
  unfold padJ; rw [List.replicate_succ']; simp; rfl
theorem padN_le (l : List Bt) : padN l ≤ l.length + 136 := by unfold padN; omega
theorem owns_len {w : World} {base size n : Nat} {e : TypeId} {V : Value} {xs : List Value} (h : w.ownsRow base e size V n xs) : slLen V = n := by
  rcases ownsRow_forms h with ⟨rfl, rfl⟩ | ⟨g, c, rfl, _⟩ <;> rfl
theorem owns_base {w : World} {base size n : Nat} {e : TypeId} {V : Value} {xs : List Value} (h : w.ownsRow base e size V n xs) {k : Nat} (hk : V.ownBlock = some k) : base ≤ k := by
  rcases ownsRow_forms h with ⟨rfl, _⟩ | ⟨g, c, rfl, hg, _⟩
  · cases hk
  · injection hk with hk; subst hk; exact hg
theorem src_of {w : World} (w' : World) {a : Option Addr} {l : List Bt} {cap : Nat} (hB : IsBs w a l) (hnil : a = none → l = [] ∧ cap = 0) (hk : ∀ b o v, w.cell? ⟨b, o, none⟩ = some v → w'.cell? ⟨b, o, none⟩ = some v) :
    (a = none ∧ l.length = 0 ∧ cap = 0 ∧ l.map bv = []) ∨ ∃ ad, a = some ad ∧ (l.map bv).length = l.length * 1 ∧ ∀ j u, (l.map bv)[j]? = some u → w'.cell? (ad.add j) = some u := by
  cases a with
  | none => obtain ⟨rfl, rfl⟩ := hnil rfl; exact .inl ⟨rfl, rfl, rfl, rfl⟩
  | some ad =>
    refine .inr ⟨ad, rfl, by simp, fun j u hu => ?_⟩
    rcases hB with rfl | ⟨b, o, h1, h2⟩
    · simp at hu
    · injection h1 with h1
      subst h1
      rw [List.getElem?_map] at hu
      cases hj : l[j]? with
      | none => rw [hj] at hu; cases hu
      | some x =>
        rw [hj] at hu
        injection hu with hu
        subst hu
        have hlt : j < l.length := (List.getElem?_eq_some_iff.1 hj).1
        have := hk _ _ _ (h2 j hlt)
        rw [add_at, this, List.getD_eq_getElem?_getD, hj]; rfl
set_option maxHeartbeats 16000000 in
set_option maxRecDepth 100000 in
theorem rsum_walk (l : List Bt) (a : Option Addr) (cap : Nat) (w : World) (hB : IsBs w a l) (hnil : a = none → l = [] ∧ cap = 0) (hcap : l.length ≤ cap) (hmax : l.length ≤ 140737488351232) :
    Calls Tryz.prog 52 #[.slice a l.length cap] w fun e w' => e = .returned (.agg (tab 32 fun i => bv (sum l i))) ∧ Below w.heap.size w w' := by
  obtain ⟨i0, hi0, hi1, hi2, hi3⟩ := one1
  have HI := Lib.hid (And.intro hi0 (And.intro hi1 (And.intro hi2 hi3)))
  clear hi0 hi1 hi2 hi3
  have HB := Lib.hid hB
  have HN := Lib.hid hnil
  clear hB hnil
  have z1 := zero25
  have z2 := zero26
  generalize hz : tab 25 (fun _ => wv 0#64) = z25 at *
  have HZ25 := Lib.hid hz
  clear hz
  generalize hz : (tab 32 fun _ => bv 0#8) = z32 at *
  have HZ32 := Lib.hid hz
  clear hz
  go_enter Tryz.func52, Tryz.ntmps52
  go_upto_region 1 with (fail)
  have h1 : Hid (IsTab (w.alloc (.cells z32 74)) w.heap.size 74 32 (fun _ => bv 0#8) ∧ Below w.heap.size w (w.alloc (.cells z32 74))) := by
    rw [← HZ32.out]
    exact Lib.hid ⟨IsTab.new w _ 32 _, (Below.refl _ _).alloc (Nat.le_refl _) _⟩
  generalize w.alloc (.cells z32 74) = w1 at *
  generalize hq : w.heap.size = q at *
  have HQ := Lib.hid hq
  clear hq
  go_upto_region 2 with (first
    | (go_at_call 63; refine (cons_call _).mono ?_; rintro e w2 ⟨V, rfl, hV, hb2⟩)
    | (go_at_call 64; refine (turn_call _).mono ?_; rintro e w3 ⟨T, rfl, hT, hb3⟩))
  have h3 : Hid (IsTab w3 q 74 32 (fun _ => bv 0#8) ∧ Below w.heap.size w w3 ∧ ConsAt w3 V ∧ TurnAt w3 T) := by
    have hbb : Below w.heap.size w w1 := by rw [HQ.out]; exact h1.out.2
    exact Lib.hid ⟨IsTab.below (IsTab.below h1.out.1 hb2) hb3, bl (bl hbb hb2) hb3, ConsAt.below hb3 hV.out, hT.out⟩
  clear h1 hb2 hb3 hV hT
  have hown0 : Hid ((w3.alloc (.cells #[] 5)).ownsRow w3.heap.size 5 1 (.slice (some ⟨w3.heap.size, 0, none⟩) 0 0) 0 []) := Lib.hid ⟨rfl, .inr ⟨w3.heap.size, 0, #[], rfl, Nat.le_refl _, heap_alloc_new w3 _, Nat.le_refl _, by decide, rfl, rfl⟩⟩
  have hsrc : Hid ((a = none ∧ l.length = 0 ∧ cap = 0 ∧ l.map bv = []) ∨ ∃ ad, a = some ad ∧ (l.map bv).length = l.length * 1 ∧ ∀ j u, (l.map bv)[j]? = some u → (w3.alloc (.cells #[] 5)).cell? (ad.add j) = some u) :=
    Lib.hid (src_of (w3.alloc (.cells #[] 5)) HB.out HN.out (fun b o v hv => by
      have h := keep1 h3.out.2.1 hv
      exact keep1 ((Below.refl _ _).alloc (Nat.le_refl _) _) h))
  have hlb : Hid (0 + l.length ≤ maxLen ∧ (0 + l.length) * 1 ≤ 140737488355328) := Lib.hid ⟨by unfold maxLen; omega, by omega⟩
  go_upto_region 3 with (refine wpList_append_any rfl (.tmp 13) (.tmp 14) 114 rfl w3.heap.size 5 i0 (.int .u8 0) 1 1 und22 HI.out rfl (by decide) _ 0 [] rfl hown0.out a l.length cap (l.map bv) rfl hsrc.out (by intro u hu; obtain ⟨b, _, rfl⟩ := List.mem_map.1 hu; rfl) hlb.out.1 hlb.out.2 (by simp) ?_; intro V1 w4 hown1 hgr1 hat1)
  have h4 : Hid (w4.ownsRow w3.heap.size 5 1 V1 l.length (l.map bv) ∧ Below w3.heap.size w3 w4) := by
    refine Lib.hid ⟨by have := hown1; rw [Nat.zero_add, List.nil_append] at this; exact this, below_grown (Nat.le_refl _) ((Below.refl _ _).alloc (Nat.le_refl _) _) hgr1 (fun k hk => by injection hk with hk; subst hk; exact Nat.le_refl _)⟩
  clear hown0 hsrc hlb hown1 hgr1 hat1
  have HM := Lib.hid hmax
  clear hmax
  generalize hB3 : w3.heap.size = B at *
  have HB3 := Lib.hid hB3
  clear hB3
  have hsz4 : B ≤ w4.heap.size := by have := h4.out.2.size; have := HB3.out; omega
  have HS4 := Lib.hid hsz4
  clear hsz4
  have hlb : Hid (l.length + 1 ≤ maxLen ∧ (l.length + 1) * 1 ≤ 140737488355328) := Lib.hid ⟨by have := HM.out; unfold maxLen; omega, by have := HM.out; omega⟩
  go_upto_region 4 with (refine wpList_append_at _ rfl (.tmp 16) (.tmp 17) 114 rfl B 5 i0 (.int .u8 0) 1 1 und22 HI.out rfl (by decide) _ l.length (l.map bv) rfl (h4.out.1.alloc _) ⟨w4.heap.size, 0, none⟩ 1 1 [.int .u8 1] rfl rfl (one_at rfl _ _) (by intro u hu; simp at hu; subst hu; rfl) hlb.out.1 hlb.out.2 (by simp; have := HS4.out; omega) ?_; intro V2 w5 hown2 hgr2 hat2)
  have h5 : Hid (w5.ownsRow B 5 1 V2 (l.length + 1) ((padJ l 0).map bv) ∧ Below B w3 w5) := by
    refine Lib.hid ⟨by have := hown2; unfold padJ; simp; exact this, below_grown (by rw [HB3.out]; exact Nat.le_refl _) (h4.out.2.alloc HS4.out _) hgr2 (fun k hk => owns_base h4.out.1 hk)⟩
  clear hown2 hgr2 hat2 h4 HS4 hlb
  go_loopw [5] (fun t y => ∃ (n : Nat) (V' : Value), t = V' ∧ Hid (l.length + 1 ≤ n ∧ n ≤ padN l) ∧ Hid (y.ownsRow B 5 1 V' n ((padJ l (n - l.length - 1)).map bv) ∧ Below B w3 y)) (fun t _ => padN l - slLen t)
  case atStart => exact ⟨l.length + 1, V2, rfl, Lib.hid ⟨Nat.le_refl _, by unfold padN; omega⟩, Lib.hid ⟨by rw [show l.length + 1 - l.length - 1 = 0 from by omega]; exact h5.out.1, h5.out.2⟩⟩
  case round =>
    obtain ⟨n, V', rfl, hn, hp⟩ := hrel
    clear h5
    obtain ⟨g, c, rfl, hnc, hcm, hBg, hln, hrow⟩ := row8_of hp.out.1 (by have := hn.out; omega)
    have HROW := Lib.hid hrow
    have HBG := Lib.hid hBg
    have HLN := Lib.hid hln
    have HNC := Lib.hid hnc
    have HCM := Lib.hid hcm
    clear hrow hBg hln hnc hcm
    have hn47 : Hid (n + 1 ≤ maxLen ∧ (n + 1) * 1 ≤ 140737488355328 ∧ B ≤ wr.heap.size) := Lib.hid ⟨by have := hn.out; have := HM.out; have := padN_le l; unfold maxLen; omega, by have := hn.out; have := HM.out; have := padN_le l; omega, by have := hp.out.2.size; have := HB3.out; omega⟩
    by_cases hm : n % 136 = 0
    · have htst : ((n : Int) % 136 != 0) = false := by
        have : (n : Int) % 136 = 0 := by omega
        simpa using this
      have hnp : n = padN l := by have := hn.out; unfold padN at *; omega
      have HNP := Lib.hid hnp
      clear hm hnp
      go_upto_region 6 with (fail)
      have hpd : Row8 wr g n (fun i => (pad l).getD i 0#8) := by
        have := HROW.out
        rw [show n - l.length - 1 = padN l - l.length - 1 from by rw [HNP.out]] at this
        exact this
      have HPD := Lib.hid hpd
      have HPW := Lib.hid hp.out.2
      clear hpd hp HROW HLN
      have hn0 : Hid (0 < n) := Lib.hid (by have := hn.out; omega)
      have cN : _ = some (Value.int .u8 (Bv ((pad l).getD (n - 1) 0#8))) := HPD.out.cell (n - 1) (by have := hn0.out; omega)
      have fN := HPD.out.fz (n - 1)
      have b0 : (1 : Int) ≤ (n : Int) := by have := hn0.out; omega
      have b1 : (n : Int) ≤ 140737488355328 := by have := hn47.out.2.1; omega
      have x128 := Bv_xor128
      generalize hpv : (pad l).getD (n - 1) 0#8 = pv at *
      have HPV := Lib.hid hpv
      clear hpv
      go_upto_region 7 with (fail)
      have hr8 : Hid (Row8 (wr.setCell ⟨g, n - 1, none⟩ (.int .u8 (Bv (pv ^^^ 128#8)))) g n (sponge l) ∧ Below B w3 (wr.setCell ⟨g, n - 1, none⟩ (.int .u8 (Bv (pv ^^^ 128#8))))) :=
        Lib.hid ⟨(HPD.out.set (n - 1) (pv ^^^ 128#8)).cong (fun i hi => by
          unfold sponge
          rw [← HNP.out]
          by_cases e : i = n - 1
          · rw [if_pos e, if_pos e, e, HPV.out]
          · rw [if_neg e, if_neg e]), HPW.out.setCell HBG.out _⟩
      clear cN fN x128 HPD HPV HPW
      generalize wr.setCell ⟨g, n - 1, none⟩ (.int .u8 (Bv (pv ^^^ 128#8))) = y1 at *
      have HRS : Hid (Rs w V T q g y1.heap.size n l (stS l 0) (y1.alloc (.cells z25 141))) := by
        obtain ⟨k1, k2, k3, k4⟩ := h3.out
        have kb : Below w3.heap.size w3 y1 := by rw [HB3.out]; exact hr8.out.2
        have ka : Below w3.heap.size w3 (y1.alloc (.cells (tab 25 fun _ => wv 0#64) 141)) := kb.alloc kb.size _
        have hg := hr8.out.1.lt
        have hBg := HBG.out
        have hqB : q < B := by have := k1.lt; rw [HB3.out] at this; exact this
        rw [← HZ25.out]
        refine Lib.hid ⟨hr8.out.1.alloc _, IsTab.new y1 _ 25 _, k1.below ka, ConsAt.below ka k3, TurnAt.below ka k4, bl k2 ka, fun u v hu hk => ?_, fun u v hu hk => ?_, by rw [HQ.out]; exact Nat.le_refl _, by omega, hg⟩
        · obtain ⟨qc, cp, hV, hc⟩ := k3
          obtain ⟨qc', cp', e, hc'⟩ := hu
          have hlt := inHeap (hc 0 (by decide))
          rw [HB3.out] at hlt
          have : qc' = qc := by rw [hV] at e; injection e with e1; injection e1 with e2; injection e2 with e3; exact e3.symm
          exact ⟨qc', cp', e, fun i hi => hk _ _ _ (by omega) (hc' i hi)⟩
        · obtain ⟨qc, hV, hc⟩ := k4
          obtain ⟨qc', e, hc'⟩ := hu
          have hlt := inHeap (hc 0 (by decide))
          rw [HB3.out] at hlt
          have : qc' = qc := by rw [hV] at e; injection e with e1; injection e1 with e2; injection e2 with e3; exact e3.symm
          exact ⟨qc', e, fun i hi => hk _ _ _ (by omega) (hc' i hi)⟩
      clear hr8 h3
      go_upto_region 8 with (fail)
      generalize y1.alloc (.cells z25 141) = y2 at *
      generalize y1.heap.size = qa at *
      go_wp2_with fail
      go_loopw [7] (fun t y => ∃ m : Nat, t = .int .i64 (136 * (m : Int)) ∧ Hid (136 * m ≤ n) ∧ Hid (Rs w V T q g qa n l (stS l m) y)) (fun t _ => n - (intOf t).toNat)
      case atStart => exact ⟨0, rfl, Lib.hid (Nat.zero_le _), HRS⟩
      case round =>
        obtain ⟨m, rfl, hmn, hr⟩ := hrel
        clear HRS
        have hm47 : 136 * (m : Int) ≤ 140737488355328 := by have := hmn.out; omega
        by_cases hlt : 136 * (m : Int) < (n : Int)
        · have hst : Hid (perm (mix (stS l m) (fun j => sponge l (136 * m + j)) 136) = stS l (m + 1)) := Lib.hid rfl
          generalize stS l m = c0 at *
          have hr0 : Hid (Rs w V T q g qa n l (mix c0 (fun j => sponge l (136 * m + j)) 0) wr) := Lib.hid (hr.out.cong (fun i _ => mix_zero c0 _ i))
          clear hr
          go_wp2_with fail
          go_loopw [8] (fun t y => ∃ k : Nat, k ≤ 136 ∧ t = .int .i64 k ∧ Hid (Rs w V T q g qa n l (mix c0 (fun j => sponge l (136 * m + j)) k) y)) (fun t _ => 136 - (intOf t).toNat)
          case atStart => exact ⟨0, by decide, rfl, hr0⟩
          case round =>
            obtain ⟨k, hk, rfl, hrk⟩ := hrel
            clear hr0
            by_cases hk6 : (k : Int) < 136
            · have NE : Nonempty (Wd (Rs w V T q g qa n l (mix c0 (fun j => sponge l (136 * m + j)) k))) := ⟨⟨_, hrk.out⟩⟩
              have hmk : 136 * m + k < n := by have := hmn.out; have := HNP.out; unfold padN at *; omega
              have a1 : ∀ z : Wd (Rs w V T q g qa n l (mix c0 (fun j => sponge l (136 * m + j)) k)), z.val.cell? ⟨qa, k / 8, none⟩ = some (Value.int .u64 (W (mix c0 (fun j => sponge l (136 * m + j)) k (k / 8)))) := fun z => z.ok.sa.cell (k / 8) (by omega)
              have a2 : ∀ z : Wd (Rs w V T q g qa n l (mix c0 (fun j => sponge l (136 * m + j)) k)), z.val.cell? ⟨g, 136 * m + k, none⟩ = some (Value.int .u8 (Bv (sponge l (136 * m + k)))) := fun z => z.ok.srow.cell (136 * m + k) hmk
              have s2 : (0 : Int) ≤ 136 * (m : Int) + (k : Int) := by omega
              have s3 : 136 * (m : Int) + (k : Int) < (n : Int) := by omega
              have s4 : (136 * (m : Int) + (k : Int)).toNat = 136 * m + k := by omega
              have k0 : (0 : Int) ≤ (k : Int) := by omega
              have d2 : (0 : Int) ≤ (k : Int) / 8 := by omega
              have d3 : (k : Int) / 8 < 25 := by omega
              have d4 : ((k : Int) / 8).toNat = k / 8 := by omega
              have s1 : IntKind.i64.wrap (136 * (m : Int) + (k : Int)) = 136 * (m : Int) + (k : Int) := IntWalk.i64_in _ (by omega)
              have r0 := wrapB
              have HP2 := Lib.hid hrk.out.drew
              clear hmk
              go_upto_region 14 with (fail)
              refine wp_region_quiet_tail 18 (Rs w V T q g qa n l (mix c0 (fun j => sponge l (136 * m + j)) k)) (by kernel_rfl) (by kernel_rfl) HP2.out ?_
              simp only [List.take_succ_cons, List.take_zero, List.drop_succ_cons, List.drop_zero]
              repeat (go_big_quiet_step (fail))
              refine wpQuiet_nil ?_
              rintro _ ⟨z, rfl⟩
              have fj := z.ok.sa.fz (k / 8)
              have sj : _ = some (Value.int .u64 (W (mix c0 (fun j => sponge l (136 * m + j)) k (k / 8)))) := z.ok.sa.cell (k / 8) (by omega)
              clear a1 a2 s1 s2 s3 s4 r0 HP2 NE hrk
              go_wp2_with fail
              rw [wr_shl _ _ (by omega), W_xor]
              exact ⟨⟨k + 1, by omega, by go_num, Lib.hid ((z.ok.set (k / 8) _).cong (fun j _ => mix_step c0 _ k j))⟩, by simp [intOf]; omega⟩
            · obtain rfl : k = 136 := by omega
              clear hk
              generalize hc1 : mix c0 (fun j => sponge l (136 * m + j)) 136 = c1 at *
              have HSA := Lib.hid hrk.out.sa
              have HPC := Lib.hid (perm_call c1 V T wr hrk.out.cons hrk.out.turn)
              go_wp2_with (first
                | (refine wpList_load_row rfl 141 (.tmp 6) rfl qa rfl 141 (words c1) (0, 0) _ HSA.out und25 rfl (inf25 _) ?_)
                | (go_at_call 65; refine HPC.out.mono ?_; rintro e w7 ⟨rfl, hb7⟩)
                | (refine wpList_store_row rfl 141 (.tmp 6) (.tmp 65) rfl qa (words (perm c1)) rfl rfl 141 _ (hrk.out.next hb7).sa (inf25 _) (by rw [words, tab_size, tab_size]) (one_wv _ _) ?_))
              refine ⟨⟨m + 1, congrArg _ (by omega), Lib.hid (by have := HNP.out; unfold padN at this; omega), Lib.hid ?_⟩, by simp [intOf]; omega⟩
              rw [← hst.out]
              exact (hrk.out.next hb7).row _
        · have hmeq : 136 * m = n := by have := hmn.out; omega
          have hdg : Hid (digest (stS l m) = sum l) := Lib.hid (by
            have : m = padN l / 136 := by rw [← HNP.out, ← hmeq]; omega
            rw [this]; exact sponge_sum l)
          generalize stS l m = c0 at *
          go_upto_region 17 with (fail)
          have HD : Hid (IsTab (wr.alloc (.cells z32 74)) qa 141 25 (fun i => wv (c0 i)) ∧ IsTab (wr.alloc (.cells z32 74)) wr.heap.size 74 32 (fun i => bv (digK c0 0 i)) ∧ IsTab (wr.alloc (.cells z32 74)) q 74 32 (fun _ => bv 0#8) ∧ Below w.heap.size w (wr.alloc (.cells z32 74))) := by
            rw [← HZ32.out]
            exact Lib.hid ⟨hr.out.sa.alloc _, (IsTab.new wr _ 32 _).cong (fun i _ => by unfold digK; rw [if_neg (by omega)]), hr.out.sres.alloc _, hr.out.below.alloc hr.out.below.size _⟩
          have hne : Hid (qa ≠ wr.heap.size ∧ q ≠ wr.heap.size ∧ w.heap.size ≤ wr.heap.size ∧ w.heap.size ≤ q) := Lib.hid ⟨by have := hr.out.sa.lt; omega, by have := hr.out.sres.lt; omega, hr.out.below.size, hr.out.o1⟩
          clear hr hmn hmeq
          generalize wr.alloc (.cells z32 74) = y3 at *
          generalize wr.heap.size = qo at *
          go_wp2_with fail
          go_loopw [10] (fun t y => ∃ k : Nat, k ≤ 32 ∧ t = .int .i64 k ∧ Hid (IsTab y qa 141 25 (fun i => wv (c0 i)) ∧ IsTab y qo 74 32 (fun i => bv (digK c0 k i)) ∧ IsTab y q 74 32 (fun _ => bv 0#8) ∧ Below w.heap.size w y)) (fun t _ => 32 - (intOf t).toNat)
          case atStart => exact ⟨0, by decide, rfl, HD⟩
          case round =>
            obtain ⟨k, hk, rfl, hd⟩ := hrel
            clear HD
            by_cases hk2 : (k : Int) < 32
            · have aj : _ = some (Value.int .u64 (W (c0 (k / 8)))) := hd.out.1.cell (k / 8) (by omega)
              have oj : _ = some (Value.int .u8 (Bv (digK c0 k k))) := hd.out.2.1.cell k (by omega)
              have fj := hd.out.2.1.fz k
              go_wp2_with fail
              rw [dig_val]
              refine ⟨⟨k + 1, by omega, by go_num, Lib.hid ⟨hd.out.1.keep hne.out.1, (hd.out.2.1.set k _).cong (fun i _ => ?_), hd.out.2.2.1.keep hne.out.2.1, hd.out.2.2.2.setCell (show w.heap.size ≤ qo from hne.out.2.2.1) _⟩⟩, by simp [intOf]; omega⟩
              unfold updv digK bv
              dsimp only
              by_cases e : i = k
              · subst e; rw [if_pos rfl, if_pos (Nat.lt_succ_self _)]
              · rw [if_neg e]
                by_cases e2 : i < k
                · rw [if_pos e2, if_pos (by omega)]
                · rw [if_neg e2, if_neg (by omega)]
            · obtain rfl : k = 32 := by omega
              go_wp2_with (first
                | (refine wpList_load_row rfl 74 (.tmp 9) rfl qo rfl 74 (tab 32 fun i => bv (digK c0 32 i)) (0, 0) _ hd.out.2.1 und26 rfl (inf26 _) ?_)
                | (refine wpList_store_row rfl 74 (.tmp 2) (.tmp 82) rfl q (tab 32 fun i => bv (digK c0 32 i)) rfl rfl 74 _ hd.out.2.2.1 (inf26 _) (by rw [tab_size, tab_size]) (one_bv _ _) ?_))
              have hr : IsTab (World.setRow wr q (tab 32 fun i => bv (digK c0 32 i))) q 74 32 fun i => bv (digK c0 32 i) := hd.out.2.2.1.row
              have hbb := below_setRow hd.out.2.2.2 hne.out.2.2.2 (tab 32 fun i => bv (digK c0 32 i))
              have he : (tab 32 fun i => bv (sum l i)) = tab 32 fun i => bv (digK c0 32 i) := tab_cong fun i hi => by unfold digK; rw [if_pos hi, hdg.out]
              rw [he]
              exact bodyPost_ret (v := .agg (tab 32 fun i => bv (digK c0 32 i))) (results_cell_row rfl _ _ q 74 _ (0, 0) _ rfl hr und26 rfl (inf26 _)) rfl ⟨rfl, hbb⟩
    · have htst : ((n : Int) % 136 != 0) = true := by
        have : ¬ (n : Int) % 136 = 0 := by omega
        simpa using this
      have hlt : n < padN l := by have := hn.out; unfold padN at *; omega
      have HLT := Lib.hid hlt
      clear hm hlt
      go_wp2_with (refine wpList_append_at _ rfl (.tmp 23) (.tmp 24) 114 rfl B 5 i0 (.int .u8 0) 1 1 und22 HI.out rfl (by decide) _ n ((padJ l (n - l.length - 1)).map bv) rfl (hp.out.1.alloc _) ⟨wr.heap.size, 0, none⟩ 1 1 [.int .u8 0] rfl rfl (one_at rfl _ _) (by intro u hu; simp at hu; subst hu; rfl) hn47.out.1 hn47.out.2.1 (by simp; have := hn47.out.2.2; omega) ?_; intro V3 w6 hown3 hgr3 hat3)
      refine ⟨⟨n + 1, V3, rfl, Lib.hid ⟨by have := hn.out; omega, HLT.out⟩, Lib.hid ⟨?_, below_grown (by rw [HB3.out]; exact Nat.le_refl _) (hp.out.2.alloc hn47.out.2.2 _) hgr3 (fun k hk => owns_base hp.out.1 hk)⟩⟩, ?_⟩
      · rw [show n + 1 - l.length - 1 = (n - l.length - 1) + 1 from by have := hn.out; omega, padJ_succ]; exact hown3
      · rw [owns_len hown3]; have := HLT.out; simp [slLen]; omega
end Kc
end Go.Proofs.YtcgpdijpppcbiaaGreatDoor
namespace Go.Proofs.YtcgpdijpppcbiaaGreatDoor
open Go.RowKit
set_option linter.unusedVariables false
namespace Kc
theorem len26 : Tryz.prog.arrayLen 74 = 32 := by kernel_rfl
theorem und26' : Tryz.prog.underlying 74 = some (.array (Tryz.prog.arrayLen 74) (Tryz.prog.elem 74)) := by kernel_rfl
theorem sizeE26 (w : World) : (sizeOf (Tryz.prog.elem 74)).run Tryz.prog w = .ok 1 w := by kernel_rfl
theorem sl26 (q : Nat) (w : World) : (Instr.sliceAt 74 (.pointer (some ⟨q, 0, none⟩)) none none none).run Tryz.prog w = .ok (.slice (some ⟨q, 0, none⟩) 32 32) w := by
  rw [run_sliceAt_array_all w _ ⟨q, 0, none⟩ und26', sizeE26]
  simp [slicedAt, len26, add_at]
def list32 (x : Nat → Bt) : List Bt := (List.range 32).map x
theorem src_tab {w : World} {q : Nat} {t : TypeId} (x : Nat → Bt) (h : IsTab w q t 32 fun i => bv (x i)) :
    ∀ j u, ((list32 x).map bv)[j]? = some u → w.cell? ((⟨q, 0, none⟩ : Addr).add j) = some u := by
  intro j u hu
  unfold list32 at hu
  have hj : j < 32 := by have := (List.getElem?_eq_some_iff.1 hu).1; simpa using this
  rw [add_at, Nat.zero_add, h.cell j hj]
  simpa [hj] using hu
theorem list32_len (x : Nat → Bt) : ((list32 x).map bv).length = 32 * 1 := by simp [list32]
theorem list32_one (x : Nat → Bt) : ∀ u ∈ (list32 x).map bv, u.oneCell' = true := by intro u hu; obtain ⟨b, _, rfl⟩ := List.mem_map.1 hu; rfl
set_option maxHeartbeats 16000000 in
set_option maxRecDepth 100000 in
theorem rpair_walk (x y : Nat → Bt) (w : World) :
    Calls Tryz.prog 60 #[.agg (tab 32 fun i => bv (x i)), .agg (tab 32 fun i => bv (y i))] w fun e w' => e = .returned (.agg (tab 32 fun i => bv (sum (both x y) i))) ∧ Below w.heap.size w w' := by
  obtain ⟨i0, hi0, hi1, hi2, hi3⟩ := one1
  have HI := Lib.hid (And.intro hi0 (And.intro hi1 (And.intro hi2 hi3)))
  clear hi0 hi1 hi2 hi3
  have z2 := zero26
  generalize hz : (tab 32 fun _ => bv 0#8) = z32 at *
  have HZ32 := Lib.hid hz
  clear hz
  go_enter Tryz.func60, Tryz.ntmps60
  go_upto_region 1 with (fail)
  have h1 : Hid (IsTab (((w.alloc (.cells (tab 32 fun i => bv (x i)) 74)).alloc (.cells (tab 32 fun i => bv (y i)) 74)).alloc (.cells z32 74)) w.heap.size 74 32 (fun i => bv (x i)) ∧
      IsTab (((w.alloc (.cells (tab 32 fun i => bv (x i)) 74)).alloc (.cells (tab 32 fun i => bv (y i)) 74)).alloc (.cells z32 74)) (w.heap.size + 1) 74 32 (fun i => bv (y i)) ∧
      IsTab (((w.alloc (.cells (tab 32 fun i => bv (x i)) 74)).alloc (.cells (tab 32 fun i => bv (y i)) 74)).alloc (.cells z32 74)) (w.heap.size + 1 + 1) 74 32 (fun _ => bv 0#8) ∧
      (((w.alloc (.cells (tab 32 fun i => bv (x i)) 74)).alloc (.cells (tab 32 fun i => bv (y i)) 74)).alloc (.cells z32 74)).heap.size = w.heap.size + 3 ∧
      Below w.heap.size w (((w.alloc (.cells (tab 32 fun i => bv (x i)) 74)).alloc (.cells (tab 32 fun i => bv (y i)) 74)).alloc (.cells z32 74))) := by
    rw [← HZ32.out]
    have e1 : (w.alloc (.cells (tab 32 fun i => bv (x i)) 74)).heap.size = w.heap.size + 1 := by simp
    have e2 : ((w.alloc (.cells (tab 32 fun i => bv (x i)) 74)).alloc (.cells (tab 32 fun i => bv (y i)) 74)).heap.size = w.heap.size + 1 + 1 := by simp
    refine Lib.hid ⟨((IsTab.new w _ 32 _).alloc _).alloc _, ?_, ?_, by simp, (((Below.refl _ _).alloc (Nat.le_refl _) _).alloc (by simp) _).alloc (by simp; omega) _⟩
    · have := (IsTab.new (w.alloc (.cells (tab 32 fun i => bv (x i)) 74)) 74 32 fun i => bv (y i)).alloc (.cells (tab 32 fun _ => bv 0#8) 74)
      rw [e1] at this; exact this
    · have := IsTab.new ((w.alloc (.cells (tab 32 fun i => bv (x i)) 74)).alloc (.cells (tab 32 fun i => bv (y i)) 74)) 74 32 fun _ => bv 0#8
      rw [e2] at this; exact this
  generalize ((w.alloc (.cells (tab 32 fun i => bv (x i)) 74)).alloc (.cells (tab 32 fun i => bv (y i)) 74)).alloc (.cells z32 74) = w1 at *
  have hq : w.heap.size < w.heap.size + 1 ∧ w.heap.size + 1 < w.heap.size + 1 + 1 ∧ w.heap.size + 1 + 1 < w.heap.size + 3 := by omega
  have HQ := Lib.hid hq
  clear hq
  generalize w.heap.size + 1 + 1 = q2 at *
  generalize w.heap.size + 1 = q1 at *
  generalize hq0 : w.heap.size = q0 at *
  have HQ0 := Lib.hid hq0
  clear hq0
  have s1 := sl26 q0
  have s2 := sl26 q1
  have hown0 : Hid ((w1.alloc (.cells #[] 5)).ownsRow w1.heap.size 5 1 (.slice (some ⟨w1.heap.size, 0, none⟩) 0 0) 0 []) := Lib.hid ⟨rfl, .inr ⟨w1.heap.size, 0, #[], rfl, Nat.le_refl _, heap_alloc_new w1 _, Nat.le_refl _, by decide, rfl, rfl⟩⟩
  have HS0 := Lib.hid (src_tab x (h1.out.1.alloc (.cells #[] 5)))
  go_upto_region 2 with (refine wpList_append_at _ rfl (.tmp 6) (.tmp 7) 114 rfl w1.heap.size 5 i0 (.int .u8 0) 1 1 und22 HI.out rfl (by decide) _ 0 [] rfl hown0.out ⟨q0, 0, none⟩ 32 32 ((list32 x).map bv) rfl (list32_len x) HS0.out (list32_one x) (by decide) (by decide) (by simp) ?_; intro V1 w2 hown1 hgr1 hat1)
  have h2 : Hid (w2.ownsRow w1.heap.size 5 1 V1 32 ((list32 x).map bv) ∧ Below w1.heap.size w1 w2) :=
    Lib.hid ⟨by simpa using hown1, below_grown (Nat.le_refl _) ((Below.refl _ _).alloc (Nat.le_refl _) _) hgr1 (fun k hk => by injection hk with hk; subst hk; exact Nat.le_refl _)⟩
  clear hown0 HS0 hown1 hgr1 hat1 s1
  have HS1 := Lib.hid (src_tab y (h1.out.2.1.below h2.out.2))
  have HSZ := Lib.hid h2.out.2.size
  go_wp2_with (first
    | (refine wpList_append_at _ rfl (.tmp 9) (.tmp 10) 114 rfl w1.heap.size 5 i0 (.int .u8 0) 1 1 und22 HI.out rfl (by decide) _ 32 ((list32 x).map bv) rfl h2.out.1 ⟨q1, 0, none⟩ 32 32 ((list32 y).map bv) rfl (list32_len y) HS1.out (list32_one y) (by decide) (by decide) HSZ.out ?_
       intro V2 w3 hown2 hgr2 hat2
       have h3 : Hid (w3.ownsRow w1.heap.size 5 1 V2 64 ((both x y).map bv) ∧ Below w1.heap.size w1 w3) := Lib.hid ⟨by rw [← List.map_append] at hown2; exact hown2, below_grown (Nat.le_refl _) h2.out.2 hgr2 (fun k hk => owns_base h2.out.1 hk)⟩
       clear hown2 hgr2 hat2
       obtain ⟨g, cap, rfl, hnc, hcm, hBg, hln, hrow⟩ := row8_of h3.out.1 (by decide)
       have HR := Lib.hid (And.intro hnc hrow)
       clear hnc hcm hBg hln hrow)
    | (go_at_call 52
       have HS := rsum_walk (both x y) (some ⟨g, 0, none⟩) cap w3 (.inr ⟨g, 0, rfl, fun j hj => by rw [Nat.zero_add]; exact HR.out.2.cell j (by rw [both_len] at hj; exact hj)⟩) (fun h => by cases h) (by rw [both_len]; exact HR.out.1) (by rw [both_len]; decide)
       rw [both_len] at HS
       refine HS.mono ?_
       rintro e w4 ⟨rfl, hb4⟩
       have ha2 := (h1.out.2.2.1.below h3.out.2).below hb4)
    | (refine wpList_store_row rfl 74 (.tmp 4) (.tmp 12) rfl q2 (tab 32 fun i => bv (sum (both x y) i)) rfl rfl 74 _ ha2 (inf26 _) (by rw [tab_size, tab_size]) (one_bv _ _) ?_))
  have hr : IsTab (World.setRow w4 q2 (tab 32 fun i => bv (sum (both x y) i))) q2 74 32 fun i => bv (sum (both x y) i) := ha2.row
  have hbb : Below w.heap.size w w4 := by
    have h9 : Below q0 w w1 := h1.out.2.2.2.2
    rw [← HQ0.out] at h9
    exact bl (bl h9 h3.out.2) hb4
  have hqq : w.heap.size ≤ q2 := by rw [HQ0.out]; have := HQ.out; omega
  exact bodyPost_ret (v := .agg (tab 32 fun i => bv (sum (both x y) i))) (results_cell_row rfl _ _ q2 74 _ (0, 0) _ rfl hr und26 rfl (inf26 _)) rfl ⟨rfl, below_setRow hbb hqq _⟩
end Kc
end Go.Proofs.YtcgpdijpppcbiaaGreatDoor
