/- RLP: tools. Own work. -/
import Derived.Test.YthlmjcochpodgaaDoorJ6
import Derived.Test.YthlmjcochpodgaaDoorJ4
import Derived.Test.YthlmjcochpodgaaDoorApp
import Derived.Laws.IdiomStrings
import Derived.Laws.BytesString
import Derived.Laws.Strings
import Derived.Laws.AppendOwnNone
import Derived.Deep.Cut
namespace Go.Proofs.YthlmjcochpodgaaDoor
open Go.ChangeShapes Go.WideShapes Go.Deep Go.RowKit
set_option linter.unusedVariables false
set_option linter.unusedSimpArgs false
namespace Rl
def str (bs : List Bt) : ByteArray := ⟨(bs.map fun x => UInt8.ofBitVec x).toArray⟩
theorem str_inj {a b : List Bt} (h : str a = str b) : a = b := by
  have h1 : (a.map fun x => UInt8.ofBitVec x) = b.map fun x => UInt8.ofBitVec x := by
    have := congrArg (fun s : ByteArray => s.data.toList) h
    simpa [str] using this
  exact (List.map_inj_right (fun x y h => by simpa using h)).1 h1
/-- 'string(b)'. -/
theorem conv_str {w : World} {a : Option Addr} {n c : Nat} {bs : List Bt} (h : IsB w a n c bs) : (convert 22 9 (.slice a n c)).run Tryd.prog w = .ok (.string (str bs)) w := by
  obtain ⟨h1, h2, h3, h4, h5⟩ := h
  rcases Nat.eq_zero_or_pos n with h0 | h0
  · subst h0
    have hb : bs = [] := List.eq_nil_of_length_eq_zero h1.symm
    subst hb
    rw [run_convert_bytes_string w 22 9 5 a 0 c und22 Tryd.underlying5 Tryd.underlying9]
    cases a <;> rfl
  · rcases h5 with h5 | ⟨b, o, rfl, h6⟩
    · omega
    · have := run_convert_bytes_back (P := Tryd.prog) w 22 9 5 ⟨b, o, none⟩ c (bs.map fun x => UInt8.ofBitVec x) und22 Tryd.underlying5 Tryd.underlying9 (fun j hj => by
        have hj2 : j < bs.length := by simpa using hj
        rw [add_at, h6 j bs[j] (List.getElem?_eq_getElem hj2)]
        simp [bvb])
      rw [List.length_map, ← h1] at this
      exact this
/-- append in bytes, as one operation. -/
theorem wp_appB {w : World} {o : Oper} {a : Act} {K : Act → World → Prop} {Q : Exit → Act → World → Prop} (d : Option Tmp) (s x : Operand) (hd : o.dst = d)
    (ho : o.op = .call { callee := .builtin .append, args := #[s, x], argTypes := #[22, 22] })
    (B : Nat) (V : Value) (xs : List Bt) (hs : a.eval s = V) (hown : Own w B V xs) (A : Option Addr) (m c : Nat) (ys : List Bt) (hx : a.eval x = .slice A m c) (hsrc : IsB w A m c ys)
    (hlen : xs.length + ys.length ≤ 1073741824) (hbase : B ≤ w.heap.size)
    (h : ∀ V' w', Own w' B V' (xs ++ ys) → w.grownBy w' V.ownBlock → (∀ k, V'.ownBlock = some k → V.ownBlock = some k ∨ k = w.heap.size) → K (a.put d V') w') : Oper.wp Tryd.prog o a w K Q := by
  subst hd
  obtain ⟨i, hi⟩ := one1
  have hm : m = ys.length := hsrc.1
  have hoo : ∀ V' w', w'.ownsRow B 5 1 V' (xs.length + m) (xs.map bvb ++ ys.map bvb) → Own w' B V' (xs ++ ys) := fun V' w' hh => by
    unfold Own; rw [List.length_append, List.map_append, ← hm]; exact hh
  rcases hsrc.src with ⟨rfl, rfl, rfl, e⟩ | ⟨ad, rfl, hl, hc⟩
  · have hh := h V w (hoo V w (by rw [e, Nat.add_zero, List.append_nil]; exact hown)) (World.grownBy.refl w _) (fun k hk => .inl hk)
    have hr := run_append_owned_none (P := Tryd.prog) (w := w) B 22 o.type 5 i 1 und22 hi.1 V xs.length (xs.map bvb) hown
    unfold Oper.wp
    simp [execOp, ho, resolve, invoke, builtin, hs, hx, hr, Result.andThen]
    exact hh
  · obtain ⟨v', w', hr, h2, h3, _, h4⟩ := run_append_at (P := Tryd.prog) w B 22 o.type 5 i (.int .u8 0) 1 1 und22 hi.1 hi.2.1 hi.2.2.1 hi.2.2.2 rfl (by decide) V xs.length (xs.map bvb) hown ad m c (ys.map bvb) hl hc (by intro u hu; obtain ⟨b, _, rfl⟩ := List.mem_map.1 hu; rfl) (by unfold maxLen; omega) (by omega) hbase
    have hh := h _ _ (hoo _ _ h2) h3 h4
    unfold Oper.wp execOp
    simp only [ho, resolve, invoke, builtin, Sem.run_bind, Sem.run_pure, Result.andThen_ok, List.map_toArray, List.map_cons, List.map_nil, hs, hx, hr]
    exact hh
theorem wpList_appW {w : World} {ops : Array Oper} {rest : List Oper} {o : Oper} {a : Act} {Q : Exit → Act → World → Prop} (hgd : o.guard = none) (s x : Operand)
    (ho : o.op = .call { callee := .builtin .append, args := #[s, x], argTypes := #[22, 22] })
    (B : Nat) (V : Value) (xs : List Bt) (hs : a.eval s = V) (hown : Own w B V xs) (A : Option Addr) (m c : Nat) (ys : List Bt) (hx : a.eval x = .slice A m c) (hsrc : IsB w A m c ys)
    (hlen : xs.length + ys.length ≤ 140737488355328) (hbase : B ≤ w.heap.size)
    (h : ∀ V' w', Own w' B V' (xs ++ ys) → w.grownBy w' V.ownBlock → (∀ k, V'.ownBlock = some k → V.ownBlock = some k ∨ k = w.heap.size) → wpList Tryd.prog ops Q rest (a.put o.dst V') w') : wpList Tryd.prog ops Q (o :: rest) a w := by
  obtain ⟨i, hi⟩ := one1
  have hm : m = ys.length := hsrc.1
  have hoo : ∀ V' w', w'.ownsRow B 5 1 V' (xs.length + m) (xs.map bvb ++ ys.map bvb) → Own w' B V' (xs ++ ys) := fun V' w' hh => by
    unfold Own; rw [List.length_append, List.map_append, ← hm]; exact hh
  rcases hsrc.src with ⟨rfl, rfl, rfl, e⟩ | ⟨ad, rfl, hl, hc⟩
  · refine wpList_append_own_none hgd s x 22 ho B 5 i 1 und22 hi.1 V xs.length (xs.map bvb) hs hown hx ?_
    exact h V w (hoo V w (by rw [e, Nat.add_zero, List.append_nil]; exact hown)) (World.grownBy.refl w _) (fun k hk => .inl hk)
  · exact wpList_append_at w hgd s x 22 ho B 5 i (.int .u8 0) 1 1 und22 hi rfl (by decide) V xs.length (xs.map bvb) hs hown ad m c (ys.map bvb) hx hl hc (by intro u hu; obtain ⟨b, _, rfl⟩ := List.mem_map.1 hu; rfl) (by unfold maxLen; omega) (by omega) hbase
      (fun V' w' h1 h2 h3 => h V' w' (hoo V' w' h1) h2 h3)
theorem own_nx (y : World) (B : Nat) (o : Obj) (h : B ≤ (y.alloc o).heap.size) : Own ((y.alloc o).alloc (.cells #[] 5)) B (.slice (some ⟨y.heap.size + 1, 0, none⟩) 0 0) [] := by
  have := own_none (y.alloc o) B h
  rw [show (y.alloc o).heap.size = y.heap.size + 1 by simp] at this; exact this
theorem enc_good (w : World) (l : Bool) (n c n' c' : Nat) (a a' : Option Addr) (bs : List Bt) (k : Fo) (hB : IsB w a n c bs) (hK : IsK w a' n' c' k) (hE : encW l bs k = 0) :
    Calls Tryd.prog 13 #[.agg #[.bool l, .slice a n c, .slice a' n' c']] w fun e w' => ∃ a5 c5, e = .returned (.tuple #[.slice a5 (wrap l bs k.form).length c5, .nilIface]) ∧ Own w' w.heap.size (.slice a5 (wrap l bs k.form).length c5) (wrap l bs k.form) ∧ Below w.heap.size w w' := by
  refine (encode_walk w l n c n' c' a a' bs k hB hK (by have := (enc_zero.1 hE).2.2.2; unfold B30; omega)).mono ?_
  rintro e w' ⟨V, h1, h2, h3⟩
  rw [if_pos hE] at h1 h2
  obtain ⟨a5, c5, rfl, _⟩ := h2.isB
  exact ⟨a5, c5, h1, h2, h3⟩
theorem str_beq (a b : List Bt) : ((str a).toList == (str b).toList) = decide (a = b) := by
  have e : ∀ x : List Bt, (str x).toList = x.map fun y => UInt8.ofBitVec y := fun x => ByteArray.toList_mk _
  by_cases h : a = b
  · subst h; simp
  · rw [decide_eq_false h, beq_eq_false_iff_ne]
    intro h2
    rw [e, e] at h2
    exact h ((List.map_inj_right (fun x y h => by simpa using h)).1 h2)
theorem run_min2 {P : Program} {ts : Array TypeId} {t : TypeId} {k : IntKind} (a b : Int) (w : World) :
    (Builtin.min_ ts t #[.int k a, .int k b]).run P w = .ok (.int k (min a b)) w := by
  have e : (if b < a then b else a) = min a b := by split <;> omega
  simp [Builtin.min_, Builtin.min2, e]
/-- The cells of a row of the call's own. -/
theorem Own.cells_at {w : World} {B n c : Nat} {a : Addr} {bs : List Bt} (h : Own w B (.slice (some a) n c) bs) : ∃ g, a = ⟨g, 0, none⟩ ∧ B ≤ g ∧ g < w.heap.size ∧ ∀ i, i < bs.length → ∃ v : Bt, w.cell? ⟨g, i, none⟩ = some (bvb v) ∧ w.frozen? ⟨g, i, none⟩ = false := by
  have hb := h.asB
  rcases h.2 with ⟨e, _⟩ | ⟨g, cap, cur, e, hg, hc, _⟩
  · cases e
  · injection e with e1 e2 e3
    injection e1 with e1
    subst e1
    refine ⟨g, rfl, hg, (Array.getElem?_eq_some_iff.1 hc).1, fun i hi => ?_⟩
    rcases hb.2.2.2.2 with h0 | ⟨b, o, e4, h5⟩
    · have := hb.1; omega
    · injection e4 with e4
      injection e4 with e5 e6
      subst e5 e6
      refine ⟨bs[i], ?_, ?_⟩
      · have := h5 i bs[i] (List.getElem?_eq_getElem hi)
        simpa using this
      · simp [World.frozen?, hc]
end Rl
end Go.Proofs.YthlmjcochpodgaaDoor
