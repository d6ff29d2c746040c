/- RLP: merged. Own work. -/
import Derived.Test.YthlmjcochpodgaaDoorJ6
import Derived.Test.YthlmjcochpodgaaDoorAsf
import Derived.BigQuiet
import Derived.Deep.QuietTactic
namespace Go.Proofs.YthlmjcochpodgaaDoor
open Go.ChangeShapes Go.WideShapes Go.Deep Go.RowKit
set_option linter.unusedVariables false
set_option linter.unusedSimpArgs false
namespace Rl
set_option maxHeartbeats 4000000 in
set_option maxRecDepth 100000 in
theorem rencode_walk (w : World) (l : Bool) (n c n' c' : Nat) (a a' : Option Addr) (bs : List Bt) (k : Fo) (hB : IsB w a n c bs) (hK : IsK w a' n' c' k) (hs : (wrap l bs k.form).length < B30) :
    Calls Tryd.prog 18 #[.agg #[.bool l, .slice a n c, .slice a' n' c']] w fun e w' => ∃ V, e = .returned (.tuple #[V, .int .i64 (encW l bs k)]) ∧ Own w' w.heap.size V (if encW l bs k = 0 then wrap l bs k.form else []) ∧ Below w.heap.size w w' := by
  have HB0 : Hid (Below w.heap.size w (w.alloc (.cells #[.bool l, .slice a n c, .slice a' n' c'] 25))) := Lib.hid ((Below.refl _ _).alloc (Nat.le_refl _) _)
  have HX0 := Lib.hid (Box3.new w (.bool l) (.slice a n c) (.slice a' n' c') 25)
  have HEN : n = bs.length := hB.1
  have HBB := Lib.hid hB
  have HK := Lib.hid hK
  have HS := Lib.hid hs
  clear hB hK hs
  have HD := Lib.hid (rdeep_walk 16 (by decide) (w.alloc (.cells #[.bool l, .slice a n c, .slice a' n' c'] 25)) l n c n' c' a a' k (HK.out.keep (keep_below HB0.out)))
  rw [show ((16 : Nat) : Int) = 16 from rfl] at HD
  have HR : Hid (∀ y, Below w.heap.size w y → Calls Tryd.prog 35 #[.agg #[.bool l, .slice a n c, .slice a' n' c']] y fun e w' => e = .returned (.bool (whole l bs.length k)) ∧ Below y.heap.size y w') := Lib.hid (fun y hy => by
    have := rright_walk y l n c n' c' a a' k (HK.out.keep (keep_below hy))
    rw [HEN] at this ⊢; exact this)
  have HF : Hid (∀ y, whole l bs.length k = true → Below w.heap.size w y → Calls Tryd.prog 36 #[.agg #[.bool l, .slice a n c, .slice a' n' c']] y fun e w' => fmOut y.heap.size w' (wrap l bs k.form) e ∧ Below y.heap.size y w') :=
    Lib.hid (fun y h hy => rform_walk y l n c n' c' a a' bs k h (HBB.out.keep (keep_below hy)) (HK.out.keep (keep_below hy)) HS.out)
  clear HEN
  generalize hR : (if encW l bs k = 0 then wrap l bs k.form else []) = R
  generalize hE : encW l bs k = E at *
  cases hd : dp k 16 with
  | true =>
    have h0 : E = 13 := by rw [← hE]; unfold encW; rw [hd]; rfl
    have HE := Lib.hid (And.intro h0 (show R = [] by rw [← hR, h0]; rfl))
    rw [hd] at HD
    clear hd hR hE h0
    go_enter Tryd.func18, Tryd.ntmps18
    go_wp2_with (go_at_call 34; (with_reducible refine HD.out.mono ?_); rintro e y1 ⟨rfl, hb⟩; have H1 := Lib.hid (bl HB0.out hb); clear hb HD)
    rw [HE.out.1, HE.out.2]
    exact bodyPost_ret (v := .tuple #[.slice none 0 0, .int .i64 13]) (by simp [results, Tryd.results18, go_sem]) rfl ⟨_, rfl, Own.nil _ _, H1.out⟩
  | false =>
    rw [hd] at HD
    cases hw : whole l bs.length k with
    | false =>
      have h0 : E = 3 := by rw [← hE]; unfold encW; rw [hd, hw]; rfl
      have HE := Lib.hid (And.intro h0 (show R = [] by rw [← hR, h0]; rfl))
      rw [hw] at HR
      clear hd hw hR hE h0
      go_enter Tryd.func18, Tryd.ntmps18
      go_wp2_with (first
        | (go_at_call 34; (with_reducible refine HD.out.mono ?_); rintro e y1 ⟨rfl, hb⟩; have H1 := Lib.hid (bl HB0.out hb); obtain ⟨k0, k1, k2, _, _, _⟩ := HX0.out.keep hb; clear hb HD)
        | (go_at_call 35; (with_reducible refine (HR.out _ H1.out).mono ?_); rintro e y2 ⟨rfl, hb⟩; have H2 := Lib.hid (bl H1.out hb); clear hb HR k0 k1 k2))
      rw [HE.out.1, HE.out.2]
      exact bodyPost_ret (v := .tuple #[.slice none 0 0, .int .i64 3]) (by simp [results, Tryd.results18, go_sem]) rfl ⟨_, rfl, Own.nil _ _, H2.out⟩
    | true =>
      have HFF := Lib.hid (fun y => HF.out y hw)
      rw [hw] at HR
      by_cases hl : (wrap l bs k.form).length ≤ 4096
      · have h0 : E = 0 := by rw [← hE]; unfold encW; rw [hd, hw]; simp; omega
        have HE := Lib.hid (And.intro h0 (show R = wrap l bs k.form by rw [← hR, h0]; rfl))
        have HL := Lib.hid hl
        clear hd hw hl HF hR hE h0
        go_enter Tryd.func18, Tryd.ntmps18
        go_wp2_with (first
          | (go_at_call 34; (with_reducible refine HD.out.mono ?_); rintro e y1 ⟨rfl, hb⟩; have H1 := Lib.hid (bl HB0.out hb); have HX1 := Lib.hid (HX0.out.keep hb); obtain ⟨k0, k1, k2, _, _, _⟩ := HX1.out; clear hb HD)
          | (go_at_call 35; (with_reducible refine (HR.out _ H1.out).mono ?_); rintro e y2 ⟨rfl, hb⟩; have H2 := Lib.hid (bl H1.out hb); clear k0 k1 k2; obtain ⟨k0, k1, k2, _, _, _⟩ := HX1.out.keep hb; clear hb HR)
          | (go_at_call 36; (with_reducible refine (HFF.out _ H2.out).mono ?_); rintro e y3 ⟨⟨V, ys, rfl, hO, h3, h4⟩, hb⟩; obtain rfl := h3 HL.out; rw [show decide ((wrap l bs k.form).length ≤ 4096) = true from decide_eq_true HL.out]
             have H3 := Lib.hid (And.intro (hO.lower H2.out.size) (bl H2.out hb)); clear hb hO h3 h4 HFF k0 k1 k2))
        rw [HE.out.1, HE.out.2]
        exact bodyPost_ret (v := .tuple #[V, .int .i64 0]) (by simp [results, Tryd.results18, go_sem]) rfl ⟨_, rfl, H3.out.1, H3.out.2⟩
      · have h0 : E = 5 := by rw [← hE]; unfold encW; rw [hd, hw]; simp; omega
        have HE := Lib.hid (And.intro h0 (show R = [] by rw [← hR, h0]; rfl))
        have HL := Lib.hid hl
        clear hd hw hl HF hR hE h0
        go_enter Tryd.func18, Tryd.ntmps18
        go_wp2_with (first
          | (go_at_call 34; (with_reducible refine HD.out.mono ?_); rintro e y1 ⟨rfl, hb⟩; have H1 := Lib.hid (bl HB0.out hb); have HX1 := Lib.hid (HX0.out.keep hb); obtain ⟨k0, k1, k2, _, _, _⟩ := HX1.out; clear hb HD)
          | (go_at_call 35; (with_reducible refine (HR.out _ H1.out).mono ?_); rintro e y2 ⟨rfl, hb⟩; have H2 := Lib.hid (bl H1.out hb); clear k0 k1 k2; obtain ⟨k0, k1, k2, _, _, _⟩ := HX1.out.keep hb; clear hb HR)
          | (go_at_call 36; (with_reducible refine (HFF.out _ H2.out).mono ?_); rintro e y3 ⟨⟨V, ys, rfl, hO, h3, h4⟩, hb⟩; rw [show decide ((wrap l bs k.form).length ≤ 4096) = false from decide_eq_false HL.out]
             have H3 := Lib.hid (bl H2.out hb); clear hb hO h3 h4 HFF k0 k1 k2))
        rw [HE.out.1, HE.out.2]
        exact bodyPost_ret (v := .tuple #[.slice none 0 0, .int .i64 5]) (by simp [results, Tryd.results18, go_sem]) rfl ⟨_, rfl, Own.nil _ _, H3.out⟩
/-- The cell of errors.errorType. -/
def Et (w : World) : Prop := w.cell? ⟨0, 0, none⟩ = some (.iface 103 (.agg #[.pointer (some ⟨1, 32, none⟩)]))
theorem Et.next {w w' : World} (h : Et w) (hb : Below w.heap.size w w') : Et w' := keep1 hb h
set_option maxHeartbeats 4000000 in
set_option maxRecDepth 100000 in
theorem why_flt (w : World) (q p : Nat) (k : Int) (hg : Et w) (h0 : w.cell? ⟨q, 0, none⟩ = some (.int .i64 p)) (h1 : w.cell? ⟨q, 1, none⟩ = some (eN k)) :
    Calls Tryd.prog 19 #[.iface 65 (.pointer (some ⟨q, 0, none⟩))] w fun e w' => e = .returned (.tuple #[.int .i64 k, .int .i64 p]) ∧ Below w.heap.size w w' := by
  have HB1 := Lib.hid (ba w (.cells #[.int .i64 0] 61))
  have HG1 := Lib.hid (hg.next HB1.out)
  have HC := Lib.hid (As.as_fault_num q k ⟨w.heap.size, 0, none⟩ (.int .i64 0) (w.alloc (.cells #[.int .i64 0] 61)) HG1.out (by simp) (by simp) (keep1 HB1.out h1))
  have H0 := Lib.hid (And.intro h0 (inHeap h0))
  have HE0 := Lib.hid hg
  clear hg h0 h1
  go_enter Tryd.func19, Tryd.ntmps19
  go_wp2_with (fail)
  refine HC.out.mono ?_
  rintro e y1 ⟨rfl, y2, rfl, hb⟩
  have HB2 := Lib.hid ((bl HB1.out hb).setCell (p := ⟨w.heap.size, 0, none⟩) (Nat.le_refl _) (.int .i64 k))
  have hz := hb.size
  simp at hz
  have c1 := keep1 (x := .int .i64 0) (o := 0) (b := w.heap.size) hb (by simp)
  have he0 := inHeap HE0.out
  have hq0 := H0.out.2
  have HY : Hid (Et (y2.setCell ⟨w.heap.size, 0, none⟩ (.int .i64 k)) ∧ (y2.setCell ⟨w.heap.size, 0, none⟩ (.int .i64 k)).cell? ⟨w.heap.size, 0, none⟩ = some (.int .i64 k) ∧ (y2.setCell ⟨w.heap.size, 0, none⟩ (.int .i64 k)).cell? ⟨q, 0, none⟩ = some (.int .i64 p)) := Lib.hid (by
    refine ⟨?_, World.cell?_setCell_same _ _ _ c1, ?_⟩
    · exact (World.cell?_setCell_other _ _ _ _ (fun e => by have h9 : w.heap.size = 0 := congrArg Addr.block e; omega)).trans (HG1.out.next hb)
    · rw [World.cell?_setCell_other _ _ _ _ (fun e => by have := congrArg Addr.block e; simp at this; omega)]
      exact keep1 hb (keep1 HB1.out H0.out.1))
  have hy2 : y2.heap.size = (y2.setCell ⟨w.heap.size, 0, none⟩ (.int .i64 k)).heap.size := (size_setCell _ _ _).symm
  clear hb c1 HC he0 hq0
  generalize y2.setCell ⟨w.heap.size, 0, none⟩ (.int .i64 k) = y3 at *
  have HD := Lib.hid (As.as_fault_fault ⟨q, 0, none⟩ ⟨y3.heap.size, 0, none⟩ (.pointer none) (y3.alloc (.cells #[.pointer none] 65)) (HY.out.1.next (ba _ _)) (by simp) (by simp))
  have HZ := Lib.hid (And.intro hz hy2)
  clear hz hy2
  go_wp2_with (fail)
  refine HD.out.mono ?_
  rintro e y4 ⟨rfl, y5, rfl, hb⟩
  have B3 := Lib.hid ((bl (HB2.out.alloc HB2.out.size (.cells #[.pointer none] 65)) hb).setCell (p := ⟨y3.heap.size, 0, none⟩) HB2.out.size (.pointer (some ⟨q, 0, none⟩)))
  have c4 := keep1 (x := .pointer none) (o := 0) (b := y3.heap.size) hb (by simp)
  have c5 := keep1 hb (keep1 (ba _ (.cells #[.pointer none] 65)) HY.out.2.1)
  have c6 := keep1 hb (keep1 (ba _ (.cells #[.pointer none] 65)) HY.out.2.2)
  have n5 := inHeap HY.out.2.1
  have n6 := inHeap HY.out.2.2
  have c7 := World.cell?_setCell_same y5 ⟨y3.heap.size, 0, none⟩ (.pointer (some ⟨q, 0, none⟩)) c4
  have c8 : (y5.setCell ⟨y3.heap.size, 0, none⟩ (.pointer (some ⟨q, 0, none⟩))).cell? ⟨w.heap.size, 0, none⟩ = some (.int .i64 k) := by
    rw [World.cell?_setCell_other _ _ _ _ (fun e => by have := congrArg Addr.block e; simp at this; omega)]; exact c5
  have c9 : (y5.setCell ⟨y3.heap.size, 0, none⟩ (.pointer (some ⟨q, 0, none⟩))).cell? ⟨q, 0, none⟩ = some (.int .i64 p) := by
    rw [World.cell?_setCell_other _ _ _ _ (fun e => by have := congrArg Addr.block e; simp at this; omega)]; exact c6
  clear hb c4 c5 c6 n5 n6 HD
  generalize y5.setCell ⟨y3.heap.size, 0, none⟩ (.pointer (some ⟨q, 0, none⟩)) = y6 at *
  go_wp2_with (fail)
  go_quiet (fail)
  go_wp2_with (fail)
  exact bodyPost_ret (v := .tuple #[.int .i64 k, .int .i64 p]) (by simp [results, Tryd.results19, go_sem]) rfl ⟨rfl, below_drewN B3.out nq⟩
end Rl
end Go.Proofs.YthlmjcochpodgaaDoor
