/-
  mootref04: Words, Record. Own work.
-/
import Derived.Test.YtkhdamjjbjmeaaaDoorRec
import Derived.Test.YtkhdamjjbjmeaaaDoorVd
namespace Go.Proofs.YtkhdamjjbjmeaaaDoor
open Go.ChangeShapes Go.WideShapes Go.Deep Go.RowKit
set_option linter.unusedVariables false
set_option linter.unusedSimpArgs false
namespace Rl
open Kc (tab IsTab)
theorem undQ5 : Tryd.prog.underlying 31 = some (.array 64 5) := by kernel_rfl
/-- The first m bytes. -/
def recW (f : Nat → Nat) (m : Nat) : Nat → Value := fun j => if j < m then ub (recB f j) else ub 0
theorem recW_zero (f : Nat → Nat) : recW f 0 = fun _ => ub 0 := by funext j; unfold recW; rw [if_neg (by omega)]
theorem recW_next (f : Nat → Nat) (m : Nat) : Kc.updv (recW f m) m (ub (recB f m)) = recW f (m + 1) := by
  funext j
  unfold Kc.updv recW
  by_cases h : j = m
  · rw [if_pos h, if_pos (by omega), h]
  · rw [if_neg h]
    by_cases h2 : j < m
    · rw [if_pos h2, if_pos (by omega)]
    · rw [if_neg h2, if_neg (by omega)]
/-- What Words' loop keeps. -/
structure Wr (w : World) (b o q2 q3 : Nat) (f : Nat → Nat) (m : Nat) (y : World) : Prop where
  below : Below w.heap.size w y
  src : ∀ i, i < 8 → y.cell? ⟨b, o + i, none⟩ = some (.int .u64 (wordAt f i))
  res : IsTab y q2 32 64 fun _ => ub 0
  row : IsTab y q3 32 64 (recW f m)
  n1 : b ≠ q3
  n2 : q2 ≠ q3
  g2 : w.heap.size ≤ q2
  g3 : w.heap.size ≤ q3
theorem Wr.step {w y : World} {b o q2 q3 m : Nat} {f : Nat → Nat} (h : Wr w b o q2 q3 f m y) : Wr w b o q2 q3 f (m + 1) (y.setCell ⟨q3, m, none⟩ (ub (recB f m))) :=
  ⟨h.below.setCell h.g3 _, fun i hi => by rw [World.cell?_setCell_other _ _ _ _ (fun e => h.n1 (congrArg Addr.block e).symm)]; exact h.src i hi, h.res.keep h.n2, by have := h.row.set m (ub (recB f m)); rw [recW_next] at this; exact this, h.n1, h.n2, h.g2, h.g3⟩
set_option maxHeartbeats 2000000 in
set_option maxRecDepth 100000 in
theorem words_walk (w : World) (b o n c : Nat) (f : Nat → Nat) (hs : ∀ i, i < 8 → w.cell? ⟨b, o + i, none⟩ = some (.int .u64 (wordAt f i))) (hn : n = 8) :
    Calls Tryd.prog 42 #[.slice (some ⟨b, o, none⟩) n c] w fun e w' => e = .returned (recV f) ∧ Below w.heap.size w w' := by
  subst hn
  have HS := Lib.hid hs
  have z1 := zeroP4
  obtain ⟨zp, hz⟩ : ∃ z, tab 64 (fun _ => ub 0) = z := ⟨_, rfl⟩
  rw [hz] at z1
  have HB := Lib.hid (inHeap (hs 0 (by decide)))
  have HZ := Lib.hid hz
  clear hz hs
  go_enter Tryd.func42, Tryd.ntmps42
  go_upto_region 3 with (fail)
  have HR0 : Hid (Wr w b o w.heap.size (w.heap.size + 1) f 0 ((w.alloc (.cells zp 32)).alloc (.cells zp 32))) := Lib.hid (by
    have hb := HB.out
    have h1 := IsTab.new w 32 64 fun _ => ub 0
    have h2 := IsTab.new (w.alloc (.cells zp 32)) 32 64 fun _ => ub 0
    rw [HZ.out] at h1 h2
    rw [show (w.alloc (.cells zp 32)).heap.size = w.heap.size + 1 by simp] at h2
    exact ⟨bl (ba _ _) (ba _ _), fun i hi => keep1 (bl (ba _ _) (ba _ _)) (HS.out i hi), h1.alloc _, by rw [recW_zero]; exact h2, by omega, by omega, by omega, by omega⟩)
  clear HS HB HZ z1
  generalize (w.alloc (.cells zp 32)).alloc (.cells zp 32) = y0 at *
  generalize w.heap.size + 1 = q3 at *
  generalize hq2 : w.heap.size = q2 at *
  have HQ := Lib.hid hq2
  clear hq2
  go_wp2_with (fail)
  go_loopw [4] (fun i y => ∃ n : Nat, n ≤ 64 ∧ i = .int .i64 n ∧ Wr w b o q2 q3 f n y) (fun i _ => 64 - (intOf i).toNat)
  case atStart => exact ⟨0, by decide, rfl, HR0.out⟩
  case round =>
    obtain ⟨n, hn, rfl, hp⟩ := hrel
    clear HR0
    have HPP := Lib.hid hp
    clear hp
    by_cases hlt : (n : Int) < 64
    · have aj := HPP.out.src (n / 8) (by omega)
      have hj := HPP.out.row.cell n (by omega)
      have fj := HPP.out.row.fz n
      go_wp2_with fail
      refine ⟨⟨n + 1, by omega, by simp, ?_⟩, by simp [intOf]; omega⟩
      have h9 := HPP.out.step
      have e9 : ub (recB f n) = .int .u8 ((wordAt f (n / 8) : Int) / 2 ^ (56 - 8 * (n % 8)) % 256) := by unfold ub recB byteOf; push_cast; rfl
      rw [← e9]; exact h9
    · obtain rfl : n = 64 := by omega
      have HR7 := Lib.hid (HPP.out.row.cong (g := fun j => ub (recB f j)) (fun j hj => by unfold recW; rw [if_pos hj]))
      clear hlt hn
      go_wp2_with (first
        | (refine wpList_load_row rfl 32 (.tmp 3) rfl q3 rfl 32 (tab 64 fun j => ub (recB f j)) (0, 0) _ HR7.out undP5 rfl (infP4 _) ?_)
        | (refine wpList_store_row rfl 32 (.tmp 2) (.tmp 23) rfl q2 (tab 64 fun j => ub (recB f j)) rfl rfl 32 _ HPP.out.res (infP4 _) (by rw [Kc.tab_size, Kc.tab_size]) (Kc.tab_one fun i => rfl) ?_))
      have hr : IsTab (World.setRow wr q2 (tab 64 fun j => ub (recB f j))) q2 32 64 fun j => ub (recB f j) := HPP.out.res.row
      have hbb := Kc.below_setRow HPP.out.below HPP.out.g2 (tab 64 fun j => ub (recB f j))
      exact bodyPost_ret (results_cell_row rfl _ _ q2 32 _ (0, 0) _ rfl hr undP5 rfl (infP4 _)) rfl ⟨rfl, hbb⟩
theorem infoU : ∃ i, Tryd.prog.info? 34 = some i ∧ i.zero = some (.int .u64 0) ∧ i.size = 1 ∧ i.bytes = 8 := by
  refine ⟨(Tryd.prog.info? 34).get (by kernel_rfl), by kernel_rfl, by kernel_rfl, by kernel_rfl, by kernel_rfl⟩
theorem undU : Tryd.prog.underlying 84 = some (.slice 34) := by kernel_rfl
theorem one_u64 {l : List Nat} : ∀ u ∈ l.map (fun (n : Nat) => (.int .u64 n : Value)), u.oneCell' = true := by
  intro u hu; obtain ⟨n, _, rfl⟩ := List.mem_map.1 hu; rfl
/-- append of words. -/
theorem wpList_appU {w : World} {ops : Array Oper} {rest : List Oper} {o : Oper} {a : Act} {Q : Exit → Act → World → Prop} (hgd : o.guard = none) (s x : Operand)
    (ho : o.op = .call { callee := .builtin .append, args := #[s, x], argTypes := #[84, 84] }) (B : Nat) (V : Value) (l : List Nat) (hs : a.eval s = V) (hr : w.ownsRow B 34 1 V l.length (l.map fun (n : Nat) => (.int .u64 n : Value))) (hB : B ≤ w.heap.size)
    (ad : Addr) (m c : Nat) (news : List Nat) (hx : a.eval x = .slice (some ad) m c) (hm : m = news.length) (hc : ∀ (j n : Nat), news[j]? = some n → w.cell? (ad.add j) = some (.int .u64 n)) (hlen : l.length + news.length ≤ 1048576)
    (h : ∀ V' w', w'.ownsRow B 34 1 V' (l ++ news).length ((l ++ news).map fun (n : Nat) => (.int .u64 n : Value)) → w.grownBy w' V.ownBlock → wpList Tryd.prog ops Q rest (a.put o.dst V') w') : wpList Tryd.prog ops Q (o :: rest) a w := by
  obtain ⟨i, hi⟩ := infoU
  subst hm
  exact wpList_append_at w hgd s x 84 ho B 34 i _ 1 8 undU hi rfl (by decide) V l.length _ hs hr ad news.length c (news.map fun (n : Nat) => (.int .u64 n : Value)) hx (by simp) (by
      intro j u hu
      rw [List.getElem?_map] at hu
      cases hn : news[j]? with
      | none => rw [hn] at hu; cases hu
      | some n => rw [hn] at hu; injection hu with hu; subst hu; exact hc j n hn) one_u64 (by unfold maxLen; omega) (by omega) hB
    fun V' w' g1 g2 g3 => h V' w' (by rw [List.length_append, List.map_append]; exact g1) g2
theorem tab_grown {w w' : World} {q T n : Nat} {g : Nat → Value} {row : Option Nat} (h : IsTab w q T n g) (hg : w.grownBy w' row) (hr : row ≠ some q) : IsTab w' q T n g := by
  unfold IsTab at *
  rw [hg.block q (Array.getElem?_eq_some_iff.1 h).1 (fun e => hr e.symm)]; exact h
/-- Eight words in a row of the call's own. -/
theorem row_u8 {w : World} {B : Nat} {V : Value} {f : Nat → Nat} (h : w.ownsRow B 34 1 V ([1] ++ [f 0, f 1, f 2, f 3, f 4, f 5] ++ [0]).length (([1] ++ [f 0, f 1, f 2, f 3, f 4, f 5] ++ [0]).map fun (n : Nat) => (.int .u64 n : Value))) :
    ∃ b c, V = .slice (some ⟨b, 0, none⟩) 8 c ∧ ∀ i, i < 8 → w.cell? ⟨b, 0 + i, none⟩ = some (.int .u64 (wordAt f i)) := by
  have hc := @World.ownsRow.cells w B 34 1 V _ _ h
  rcases ownsRow_forms h with ⟨_, e⟩ | ⟨g, cap, e, _⟩
  · simp at e
  · refine ⟨g, cap, e, fun i hi => ?_⟩
    have h5 := hc (g := g) (by rw [e]; rfl) i (.int .u64 (wordAt f i)) (by
      match i, hi with
      | 0, _ => rfl
      | 1, _ => rfl
      | 2, _ => rfl
      | 3, _ => rfl
      | 4, _ => rfl
      | 5, _ => rfl
      | 6, _ => rfl
      | 7, _ => rfl)
    rw [add_at] at h5
    exact h5
set_option maxHeartbeats 2000000 in
set_option maxRecDepth 100000 in
theorem rrecord_walk (w : World) (f : Nat → Nat) : Calls Tryd.prog 17 #[txv f] w fun e w' => e = .returned (recV f) ∧ Below w.heap.size w w' := by
  have z1 := zeroP4
  obtain ⟨zp, hz⟩ : ∃ z, tab 64 (fun _ => ub 0) = z := ⟨_, rfl⟩
  rw [hz] at z1
  have HZ := Lib.hid hz
  clear hz
  go_enter Tryd.func17, Tryd.ntmps17
  go_upto_region 1 with (fail)
  have HS0 : Hid (IsTab ((w.alloc (txo f)).alloc (.cells zp 32)) (w.heap.size + 1) 32 64 fun _ => ub 0) := Lib.hid (by
    have := IsTab.new (w.alloc (txo f)) 32 64 fun _ => ub 0
    rw [HZ.out] at this
    simpa using this)
  have HB0 : Hid (Below w.heap.size w ((w.alloc (txo f)).alloc (.cells zp 32))) := Lib.hid (bl (ba _ _) (ba _ _))
  have HC0 : Hid (∀ i, i < 6 → ((w.alloc (txo f)).alloc (.cells zp 32)).cell? ⟨w.heap.size, i, none⟩ = some (.int .u64 (f i))) := Lib.hid (fun i hi => keep1 (ba _ _) (txo_at w f i hi))
  generalize (w.alloc (txo f)).alloc (.cells zp 32) = y0 at *
  have hba := ba y0 (.cells #[.int .u64 1] 34)
  have HO1 : Hid ((y0.alloc (.cells #[.int .u64 1] 34)).ownsRow y0.heap.size 34 1 (.slice (some ⟨y0.heap.size, 0, none⟩) 1 1) [1].length ([1].map fun (n : Nat) => (.int .u64 n : Value))) := Lib.hid
    ⟨rfl, .inr ⟨y0.heap.size, 1, _, rfl, Nat.le_refl _, heap_alloc_new y0 _, Nat.le_refl _, by decide, rfl, rfl⟩⟩
  have HS1 := Lib.hid (HS0.out.alloc (.cells #[.int .u64 1] 34))
  have HB1 := Lib.hid (bl HB0.out hba)
  have z0 := keep1 hba (HC0.out 0 (by decide))
  have z1 := keep1 hba (HC0.out 1 (by decide))
  have z2 := keep1 hba (HC0.out 2 (by decide))
  have z3 := keep1 hba (HC0.out 3 (by decide))
  have z4 := keep1 hba (HC0.out 4 (by decide))
  have z5 := keep1 hba (HC0.out 5 (by decide))
  have HZQ := Lib.hid (show w.heap.size + 1 < y0.heap.size from HS0.out.lt)
  clear hba HZ
  go_wp2_with (first
    | (go_at_call 34; (with_reducible refine (rfields_walk _ f).mono ?_); rintro e y2 ⟨qf, rfl, hq1, hq2, hc, hb⟩
       have HO2 := Lib.hid ((Kept.ofBelow (S := fun _ => False) hb).row HO1.out (fun _ _ h => h))
       have HS2 := Lib.hid (HS1.out.below hb)
       have HB2 := Lib.hid (bl HB1.out hb)
       have HC2 := Lib.hid (And.intro hc (show y0.heap.size ≤ y2.heap.size by have := hb.size; simp at this; omega))
       clear hb hq1 hq2 hc z0 z1 z2 z3 z4 z5 HO1 HS1 HB1)
    | (refine wpList_appU rfl (.tmp 3) (.tmp 5) rfl y0.heap.size (.slice (some ⟨y0.heap.size, 0, none⟩) 1 1) [1] rfl HO2.out HC2.out.2 ⟨qf, 0, none⟩ 6 6 [f 0, f 1, f 2, f 3, f 4, f 5] rfl rfl (by
         intro j n hj
         rw [add_at, Nat.zero_add]
         match j with
         | 0 => simp at hj; subst hj; exact HC2.out.1 0 (by decide)
         | 1 => simp at hj; subst hj; exact HC2.out.1 1 (by decide)
         | 2 => simp at hj; subst hj; exact HC2.out.1 2 (by decide)
         | 3 => simp at hj; subst hj; exact HC2.out.1 3 (by decide)
         | 4 => simp at hj; subst hj; exact HC2.out.1 4 (by decide)
         | 5 => simp at hj; subst hj; exact HC2.out.1 5 (by decide)
         | j + 6 => simp at hj) (by simp) ?_
       intro V3 y3 hr hg
       have HO3 := Lib.hid ((Kept.ofBelow (S := fun _ => False) (ba y3 (.cells #[.int .u64 0] 34))).row hr (fun _ _ h => h))
       have HS3 := Lib.hid ((tab_grown HS2.out hg (fun e => by have e : some y0.heap.size = some (w.heap.size + 1) := e; injection e with e; have := HZQ.out; omega)).alloc (.cells #[.int .u64 0] 34))
       have HB3 := Lib.hid (((HB2.out.grown hg HB2.out.size (fun k hk => by have hk : some y0.heap.size = some k := hk; injection hk with hk; have := HZQ.out; omega))).alloc (Nat.le_trans HB2.out.size hg.size) (.cells #[.int .u64 0] 34))
       have HG3 := Lib.hid (show y0.heap.size ≤ (y3.alloc (.cells #[.int .u64 0] 34)).heap.size from Nat.le_trans (Nat.le_trans HC2.out.2 hg.size) (by simp))
       clear hr hg HO2 HS2 HB2)
    | (refine wpList_appU rfl (.tmp 6) (.tmp 7) rfl y0.heap.size V3 ([1] ++ [f 0, f 1, f 2, f 3, f 4, f 5]) rfl HO3.out HG3.out ⟨y3.heap.size, 0, none⟩ 1 1 [0] rfl rfl (by
         intro j n hj
         match j with
         | 0 => simp at hj; subst hj; rw [add_at]; simp
         | j + 1 => simp at hj) (by simp) ?_
       intro V4 y4 hr hg
       have hbk : ∀ k, V3.ownBlock = some k → y0.heap.size ≤ k := fun k hk => by
         rcases ownsRow_forms HO3.out with ⟨e, _⟩ | ⟨g, cap, e, h1, h2, _⟩
         · rw [e] at hk; cases hk
         · rw [e] at hk; injection hk with hk; subst hk; exact h1
       have HS4 := Lib.hid (tab_grown HS3.out hg (fun e => by have := hbk _ e; have := HZQ.out; omega))
       have HB4 := Lib.hid (HB3.out.grown hg HB3.out.size (fun k hk => by have := hbk _ hk; have := HZQ.out; omega))
       obtain ⟨b4, c4, rfl, hc4⟩ := row_u8 (f := f) hr
       have HW4 := Lib.hid (words_walk y4 b4 0 8 c4 f hc4 rfl)
       clear hr hg hbk HO3 HS3 HB3 hc4)
    | (go_at_call 42; (with_reducible refine HW4.out.mono ?_); rintro e y5 ⟨rfl, hb⟩
       have HS5 := Lib.hid (HS4.out.below hb)
       have HB5 := Lib.hid (bl HB4.out hb)
       clear hb HW4)
    | (refine wpList_store_row rfl 32 (.tmp 2) (.tmp 9) rfl (w.heap.size + 1) (tab 64 fun j => ub (recB f j)) rfl rfl 32 _ HS5.out (infP4 _) (by rw [Kc.tab_size, Kc.tab_size]) (Kc.tab_one fun i => rfl) ?_))
  have hr : IsTab (World.setRow y5 (w.heap.size + 1) (tab 64 fun j => ub (recB f j))) (w.heap.size + 1) 32 64 fun j => ub (recB f j) := HS5.out.row
  have hbb := Kc.below_setRow HB5.out (Nat.le_succ _) (tab 64 fun j => ub (recB f j))
  exact bodyPost_ret (results_cell_row rfl _ _ (w.heap.size + 1) 32 _ (0, 0) _ rfl hr undP5 rfl (infP4 _)) rfl ⟨rfl, hbb⟩
end Rl
end Go.Proofs.YtkhdamjjbjmeaaaDoor
