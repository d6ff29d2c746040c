/- Merged of Evo Evl Evp. Own work. -/
import Derived.Test.YtbenjgncbpafbaaGreatDoorP10
import Derived.Test.YtbenjgncbpafbaaGreatDoorP09
namespace Go.Proofs.YtbenjgncbpafbaaGreatDoor
open Go.RowKit
set_option linter.unusedVariables false
set_option linter.unusedSimpArgs false
namespace Ir
open Kc
def AllS (Q : Int → Int → Int → Nat → Ef → Int → Nat → Ef → Sf → Sf → Prop) : Sf → Prop
  | .nil => True
  | .cons kind n ao an ak bo bn bk body els rest => Q kind n ao an ak bo bn bk body els ∧ AllS Q rest
/-- A list is not too deep. -/
def DS (d : Nat) (x : Sf) : Prop := ∀ (w : World) (D : Nat → Prop) (V : Value), SlS w D V x → Calls Tryz.prog 23 #[V, .int .i64 d] w fun e w' => e = .returned (.bool false) ∧ Kept (fun _ => False) w w'
def QD (d : Nat) (kind n ao : Int) (an : Nat) (ak : Ef) (bo : Int) (bn : Nat) (bk : Ef) (body els : Sf) : Prop := (1 ≤ kind ∧ kind ≤ 7) ∧ All (DX 8) (exprs kind ao an ak bo bn bk) ∧ ∀ l ∈ lists kind body els, DS d l
theorem dx8 {op : Int} {n : Nat} {kids : Ef} (h : DX 8 op n kids) (w : World) (D : Nat → Prop) (V : Value) (hV : SlE w D V kids) : Calls Tryz.prog 42 #[.agg #[.int .i64 op, .int .u64 n, V], .int .i64 8] w fun e w' => e = .returned (.bool false) ∧ Kept (fun _ => False) w w' := h w D V hV
theorem deepNil (d : Nat) : DS d .nil := by
  intro w D V hV
  obtain ⟨a, c, rfl, hl, hV⟩ := hV
  show Calls _ _ #[.slice a 0 c, _] _ _
  clear hl hV
  go_enter Tryz.func23, Tryz.ntmps23
  go_upto_region 4 with (fail)
  go_loopw [22] (fun t y => t = .int .i64 0 ∧ y = w) (fun _ _ => 0)
  case atStart => exact ⟨rfl, rfl⟩
  case round =>
    obtain ⟨rfl, rfl⟩ := hrel
    go_wp2_with (fail)
    exact bodyPost_ret (v := .bool false) (by simp [results, Tryz.results23, go_sem]) rfl ⟨rfl, Kept.refl _ _⟩
set_option maxHeartbeats 8000000 in
set_option maxRecDepth 100000 in
theorem deepS_walk (d : Nat) (x : Sf) (hd : d < 1000) (hx : x ≠ .nil) (hall : AllS (QD d) x) : DS (d + 1) x := by
  intro w D V hV
  have td : ((((d + 1 : Nat) : Nat) : Int) == 0) = false := by simp; omega
  have hwd : wrap64 (((d + 1 : Nat) : Int) - 1) = (d : Int) := by unfold wrap64; omega
  generalize hdd : ((d + 1 : Nat) : Int) = dd at *
  clear hdd
  obtain ⟨a, c, rfl, hl, hV⟩ := hV
  obtain ⟨n, hn⟩ : ∃ n, x.len = n := ⟨_, rfl⟩
  have HN := Lib.hid (And.intro hl hn)
  have HV := Lib.hid hV
  rw [hn] at ⊢
  have tn : decide (0 < n) = true := by
    cases x with
    | nil => exact absurd rfl hx
    | cons => simp [Sf.len] at hn; simp; omega
  have HAL := Lib.hid hall
  clear hall hx
  clear hl hV
  clear hn
  go_enter Tryz.func23, Tryz.ntmps23
  go_upto_region 4 with (fail)
  go_loopw [22] (fun t wr => ∃ i : Nat, t = .int .i64 i ∧ Hid (∃ y, i + y.len = n ∧ AllS (QD d) y ∧ (y = .nil ∨ ∃ b o, a = some ⟨b, o, none⟩ ∧ SfAt wr D y b (o + i * 10)) ∧ Kept (fun _ => False) w wr)) (fun t _ => n - (intOf t).toNat)
  case atStart => exact ⟨0, rfl, Lib.hid ⟨x, by have := HN.out.2; omega, HAL.out, by simpa using HV.out, Kept.refl _ _⟩⟩
  case round =>
    obtain ⟨i, rfl, hp⟩ := hrel
    obtain ⟨y, hi, hall, hat, hkp⟩ := hp.out
    clear hp
    have HKP := Lib.hid hkp
    clear hkp
    cases y with
    | nil =>
      have t1 : decide (i < n) = false := by simp [Sf.len] at hi; simp; omega
      go_wp2_with (fail)
      exact bodyPost_ret (v := .bool false) (by simp [results, Tryz.results23, go_sem]) rfl ⟨rfl, HKP.out⟩
    | cons kind nn ao an ak bo bn bk body els rest =>
      obtain ⟨b, o, ha, hb⟩ : ∃ b o, a = some ⟨b, o, none⟩ ∧ SfAt wr D (.cons kind nn ao an ak bo bn bk body els rest) b (o + i * 10) := by
        rcases hat with h | h
        · cases h
        · exact h
      clear hat
      subst ha
      have hin : i < n := by simp [Sf.len] at hi; omega
      have t1 : decide (i < n) = true := by simp; omega
      have hi0 : (i : Int) < (n : Int) := by omega
      have HI : Hid (i + 1 + rest.len = n ∧ i < n ∧ wrap64 ((i : Int) + 1) = ((i + 1 : Nat) : Int)) := Lib.hid ⟨by simp [Sf.len] at hi; omega, hin, wrap_i (by have := HN.out.1; have := HN.out.2; omega)⟩
      unfold SfAt at hb
      obtain ⟨h1, h2, h3, h4, h5, h6, h7, ⟨VA, h8, h9⟩, h10, h11, ⟨VB, h12, h13⟩, ⟨a8, c8, h14, l8, h15⟩, ⟨a9, c9, h16, l9, h17⟩, h18⟩ := hb
      obtain ⟨aA, cA, rfl, lA, hA⟩ := h9
      obtain ⟨aB, cB, rfl, lB, hB⟩ := h13
      have HL := Lib.hid (loadT h4 h5 h6 h7 h8 h10 h11 h12 h14 h16)
      have hk1 := kept_alloc9 wr (.cells #[.int .i64 kind, .int .i64 nn, .int .i64 ao, .int .u64 an, .slice aA ak.len cA, .int .i64 bo, .int .u64 bn, .slice aB bk.len cB, .slice a8 body.len c8, .slice a9 els.len c9] 50)
      have HBT := Lib.hid (Bt10.new wr (.int .i64 kind) (.int .i64 nn) (.int .i64 ao) (.int .u64 an) (.slice aA ak.len cA) (.int .i64 bo) (.int .u64 bn) (.slice aB bk.len cB) (.slice a8 body.len c8) (.slice a9 els.len c9) 50)
      have HD1 := Lib.hid (SfAt.kept hk1 (fun _ _ => id) rest b (o + i * 10 + 10) h18)
      have HQ := Lib.hid hall
      have HK1 := Lib.hid (HKP.out.trans hk1 fun _ _ h => h)
      have HSL := Lib.hid (And.intro (SlE.kept hk1 (fun _ _ => id) (show SlE wr D (.slice aA ak.len cA) ak from ⟨aA, cA, rfl, lA, hA⟩)) (And.intro (SlE.kept hk1 (fun _ _ => id) (show SlE wr D (.slice aB bk.len cB) bk from ⟨aB, cB, rfl, lB, hB⟩)) (And.intro (SlS.kept hk1 (fun _ _ => id) (show SlS wr D (.slice a8 body.len c8) body from ⟨a8, c8, rfl, l8, h15⟩)) (And.intro (SlS.kept hk1 (fun _ _ => id) (show SlS wr D (.slice a9 els.len c9) els from ⟨a9, c9, rfl, l9, h17⟩)) (And.intro h2 (And.intro h3 hall.1.1))))))
      have HI9 : Hid ((Tryz.prog.info? 50).map (·.size) = some (#[.int .i64 kind, .int .i64 nn, .int .i64 ao, .int .u64 an, .slice aA ak.len cA, .int .i64 bo, .int .u64 bn, .slice aB bk.len cB, .slice a8 body.len c8, .slice a9 els.len c9] : Array Value).size ∧ zT.size = (#[.int .i64 kind, .int .i64 nn, .int .i64 ao, .int .u64 an, .slice aA ak.len cA, .int .i64 bo, .int .u64 bn, .slice aB bk.len cB, .slice a8 body.len c8, .slice a9 els.len c9] : Array Value).size ∧ (#[.int .i64 kind, .int .i64 nn, .int .i64 ao, .int .u64 an, .slice aA ak.len cA, .int .i64 bo, .int .u64 bn, .slice aB bk.len cB, .slice a8 body.len c8, .slice a9 els.len c9] : Array Value).all (·.oneCell') = true) := Lib.hid ⟨infT, rfl, by simp [Value.oneCell']⟩
      
      clear h1 h2 h3 h4 h5 h6 h7 h8 h10 h11 h12 h14 h15 h16 h17 h18 l8 l9 lA hA lB hB hk1 HKP hi hin hall
      generalize hag : (#[.int .i64 kind, .int .i64 nn, .int .i64 ao, .int .u64 an, .slice aA ak.len cA, .int .i64 bo, .int .u64 bn, .slice aB bk.len cB, .slice a8 body.len c8, .slice a9 els.len c9] : Array Value) = ag at HL HI9 HBT HSL HK1 HD1
      have HAG := Lib.hid hag
      clear hag
      go_upto_region 6 with (first
        | ((with_reducible refine wpList_loadE (P := Tryz.prog) (w := wr) (ty := 50) (x := .tmp 24) (p := .pointer (some ⟨b, o + i * 10, none⟩)) (v := .agg ag) ?_ ?_ ?_ HL.out ?_); (· exact rfl); (· exact rfl); (· exact rfl))
        | ((with_reducible refine wpList_store_row (P := Tryz.prog) (w := wr.alloc (.cells zT 50)) ?_ 50 (.tmp 6) (.tmp 25) ?_ wr.heap.size ag ?_ ?_ 50 zT (heap_alloc_last wr _) HI9.out.1 HI9.out.2.1 HI9.out.2.2 ?_); (· exact rfl); (· exact rfl); (· exact rfl); (· exact rfl); rw [World.setRow_alloc_new]; simp only [Act.put]))
      clear HL HI9
      generalize wr.alloc (.cells ag 50) = y1 at *
      generalize wr.heap.size = qa at *
      
      have HLT := Lib.hid (show (Instr.loadAt 50 (.pointer (some ⟨qa, 0, none⟩))).run Tryz.prog y1 = .ok (.agg ag) y1 from HAG.out ▸ HBT.out.load)
      have HPA := Lib.hid (HAG.out ▸ parts_walk kind nn ao an ak bo bn bk body els HSL.out.2.2.2.2.2.2 y1 D aA aB a8 a9 ak.len cA bk.len cB body.len c8 els.len c9 HSL.out.1 HSL.out.2.1 HSL.out.2.2.1 HSL.out.2.2.2.1 HSL.out.2.2.2.2.1 HSL.out.2.2.2.2.2.1 (fun _ => True) (fun _ _ => trivial) fun _ _ => trivial)
      clear HAG HSL HBT
      go_upto_region 7 with (first
        | ((with_reducible refine wpList_loadE (P := Tryz.prog) (w := y1) (ty := 50) (x := .tmp 6) (p := .pointer (some ⟨qa, 0, none⟩)) (v := .agg ag) ?_ ?_ ?_ HLT.out ?_); (· exact rfl); (· exact rfl); (· exact rfl))
        | (go_at_call 41; (with_reducible refine HPA.out.mono ?_); rintro e y2 ⟨a1, m1, c1, a2, m2, c2, he, hE, hS, hk2⟩; obtain rfl : e = _ := he; have HE2 := Lib.hid hE.of; have HS2 := Lib.hid hS; have HK2 := Lib.hid (HK1.out.trans hk2 fun _ _ h => h); have HD2 := Lib.hid (SfAt.kept hk2 (fun _ _ => id) rest b (o + i * 10 + 10) HD1.out); clear hE hS hk2 HPA))
      clear HLT HK1 HD1
      go_upto_region 8 with (fail)
      go_loopw [33] (fun t wr => ∃ j : Nat, t = .int .i64 j ∧ Hid (∃ y, j + y.len = m1 ∧ All (DX 8) y ∧ (y = .nil ∨ ∃ b o, a1 = some ⟨b, o, none⟩ ∧ EfAt wr (fun _ => True) y b (o + j * 3)) ∧ Kept (fun _ => False) y2 wr)) (fun t _ => m1 - (intOf t).toNat)
      case atStart => exact ⟨0, rfl, Lib.hid ⟨exprs kind ao an ak bo bn bk, by have := HE2.out.2.1; omega, HQ.out.1.2.1, by simpa using HE2.out.2.2, Kept.refl _ _⟩⟩
      case round =>
        obtain ⟨j, rfl, hp⟩ := hrel
        obtain ⟨ye, hj, halle, hate, hkpe⟩ := hp.out
        clear hp
        have HKE := Lib.hid hkpe
        clear hkpe
        cases ye with
        | nil =>
          have t2 : decide (j < m1) = false := by simp [Ef.len] at hj; simp; omega
          clear hj halle hate
          obtain ⟨a9', c9', hl9e, hl2, hlat⟩ := HS2.out
          injection hl9e with e1 e2 e3
          subst e1
          subst e2
          subst e3
          obtain ⟨m2, hm2⟩ : ∃ m, (lists kind body els).length = m := ⟨_, rfl⟩
          rw [hm2] at hl2 ⊢
          have HL2 := Lib.hid (And.intro hl2 (And.intro hm2 hlat))
          clear hl2 hlat
          clear hm2
          go_upto_region 14 with (fail)
          go_loopw [42] (fun t wr => ∃ j : Nat, t = .int .i64 j ∧ Hid (j ≤ m2 ∧ Kept (fun _ => False) y2 wr)) (fun t _ => m2 - (intOf t).toNat)
          case atStart => exact ⟨0, rfl, Lib.hid ⟨Nat.zero_le _, HKE.out⟩⟩
          case round =>
            obtain ⟨k, rfl, hp⟩ := hrel
            have HP := Lib.hid hp.out
            clear hp
            by_cases hkm : k < m2
            · have t3 : decide (k < m2) = true := by simp; omega
              have hk0 : (k : Int) < (m2 : Int) := by omega
              have hkl : k < (lists kind body els).length := by have := HL2.out.2.1; omega
              obtain ⟨xl, hxl⟩ : ∃ xl, (lists kind body els)[k]? = some xl := ⟨_, List.getElem?_eq_getElem hkl⟩
              obtain ⟨b7, o7, ha7, hcell⟩ : ∃ b o, a2 = some ⟨b, o, none⟩ ∧ ∀ i x, (lists kind body els)[i]? = some x → ∃ b8 n8 c8, y2.cell? ⟨b, o + i, none⟩ = some (.slice b8 n8 c8) ∧ SlS y2 (fun _ => True) (.slice b8 n8 c8) x ∧ True := by
                rcases HL2.out.2.2 with e | ⟨b, o, e, h⟩
                · rw [e] at hkl; simp at hkl
                · exact ⟨b, o, e, h⟩
              subst ha7
              obtain ⟨b6, n6, c6, kc, hs6, _⟩ := hcell k xl hxl
              have kc := HP.out.2.cell id kc
              have hw2 : wrap64 ((k : Int) + 1) = ((k + 1 : Nat) : Int) := wrap_i (by have := HL2.out.1; omega)
              have HW2 := Lib.hid hw2
              have HKM := Lib.hid hkm
              have hmem := List.mem_of_getElem? hxl
              have hs7 := hs6.kept (HP.out.2) fun _ _ => id
              have HC2 := Lib.hid (HQ.out.1.2.2 xl hmem _ _ _ hs7)
              clear hcell hs6 hs7 hmem hxl hkl hkm
              go_wp2_with (first
                | (go_at_call 23; (with_reducible refine HC2.out.mono ?_); rintro e y8 ⟨he, hk8⟩; obtain rfl : e = _ := he; have HK8 := Lib.hid (HP.out.2.trans hk8 fun _ _ h => h); clear hk8 HC2))
              
              go_roundw
              case rel => exact ⟨k + 1, by go_num, Lib.hid ⟨HKM.out, HK8.out⟩⟩
              case measure => first | exact meas9 HKM.out HW2.out | exact meas9b HKM.out
            · obtain rfl : k = m2 := by have := HP.out.1; omega
              have t3 : decide (k < k) = false := by simp
              have hw1 := HI.out.2.2
              clear hkm
              go_wp2_with (fail)
              go_roundw
              case rel => exact ⟨i + 1, by go_num, Lib.hid ⟨rest, HI.out.1, HQ.out.2, .inr ⟨b, o, rfl, by rw [show o + (i + 1) * 10 = o + i * 10 + 10 from by omega]; exact SfAt.kept HP.out.2 (fun _ _ => id) rest b (o + i * 10 + 10) HD2.out⟩, HK2.out.trans HP.out.2 fun _ _ h => h⟩⟩
              case measure => first | exact meas9 HI.out.2.1 HI.out.2.2 | exact meas9b HI.out.2.1
        | cons op1 n1 kd reste =>
          obtain ⟨be, oe, hae, hbe⟩ : ∃ b o, a1 = some ⟨b, o, none⟩ ∧ EfAt wr (fun _ => True) (.cons op1 n1 kd reste) b (o + j * 3) := by
            rcases hate with h | h
            · cases h
            · exact h
          clear hate
          subst hae
          have hjn : j < m1 := by simp [Ef.len] at hj; omega
          have t2 : decide (j < m1) = true := by simp; omega
          have hj0 : (j : Int) < (m1 : Int) := by omega
          have HJ : Hid (j + 1 + reste.len = m1 ∧ j < m1 ∧ wrap64 ((j : Int) + 1) = ((j + 1 : Nat) : Int)) := Lib.hid ⟨by simp [Ef.len] at hj; omega, hjn, wrap_i (by have := HE2.out.1; have := HE2.out.2.1; omega)⟩
          unfold EfAt at hbe
          obtain ⟨h1, h2, h3, h4, ⟨a1', c1', h5, h6, h7⟩, h8⟩ := hbe
          have hk1 := kept_alloc9 wr (.cells #[.int .i64 op1, .int .u64 n1, .slice a1' kd.len c1'] 47)
          have HLE := Lib.hid (loadX h3 h4 h5)
          have HX2 := Lib.hid (Bx.new wr (.int .i64 op1) (.int .u64 n1) (.slice a1' kd.len c1') 47).load
          have HE5 := Lib.hid (EfAt.kept hk1 (fun _ _ => id) reste be (oe + j * 3 + 3) h8)
          have HS5 := SlE.kept hk1 (fun _ _ => id) (show SlE wr (fun _ => True) (.slice a1' kd.len c1') kd from ⟨a1', c1', rfl, h6, h7⟩)
          have HC := Lib.hid (dx8 halle.1 _ (fun _ => True) _ HS5)
          have HG9 : Hid ((Tryz.prog.info? 47).map (·.size) = some (#[.int .i64 op1, .int .u64 n1, .slice a1' kd.len c1'] : Array Value).size ∧ zX.size = (#[.int .i64 op1, .int .u64 n1, .slice a1' kd.len c1'] : Array Value).size ∧ (#[.int .i64 op1, .int .u64 n1, .slice a1' kd.len c1'] : Array Value).all (·.oneCell') = true) := Lib.hid ⟨infX, rfl, by simp [Value.oneCell']⟩
          have HR := Lib.hid halle
          have HK5 := Lib.hid (HKE.out.trans hk1 fun _ _ h => h)
          clear h1 h2 h3 h4 h5 h6 h7 h8 hk1 hj hjn halle HKE HS5
          generalize (#[.int .i64 op1, .int .u64 n1, .slice a1' kd.len c1'] : Array Value) = ax at *
          go_upto_region 10 with (first
            | ((with_reducible refine wpList_loadE (P := Tryz.prog) (w := wr) (ty := 47) (x := .tmp 35) (p := .pointer (some ⟨be, oe + j * 3, none⟩)) (v := .agg ax) ?_ ?_ ?_ HLE.out ?_); (· exact rfl); (· exact rfl); (· exact rfl))
            | ((with_reducible refine wpList_store_row (P := Tryz.prog) (w := wr.alloc (.cells zX 47)) ?_ 47 (.tmp 10) (.tmp 36) ?_ wr.heap.size ax ?_ ?_ 47 zX (heap_alloc_last wr _) HG9.out.1 HG9.out.2.1 HG9.out.2.2 ?_); (· exact rfl); (· exact rfl); (· exact rfl); (· exact rfl); rw [World.setRow_alloc_new]; simp only [Act.put]))
          clear HLE HG9
          generalize wr.alloc (.cells ax 47) = y5 at *
          generalize wr.heap.size = qx at *
          have hw3 := HJ.out.2.2
          go_wp2_with (first
            | ((with_reducible refine wpList_loadE (P := Tryz.prog) (w := y5) (ty := 47) (x := .tmp 10) (p := .pointer (some ⟨qx, 0, none⟩)) (v := .agg ax) ?_ ?_ ?_ HX2.out ?_); (· exact rfl); (· exact rfl); (· exact rfl))
            | (go_at_call 42; (with_reducible refine HC.out.mono ?_); rintro e y6 ⟨he, hk6⟩; obtain rfl : e = _ := he; have HK6 := Lib.hid hk6; clear hk6 HC))
          have HE6 := Lib.hid (EfAt.kept HK6.out (fun _ _ => id) reste be (oe + j * 3 + 3) HE5.out)
          go_roundw
          case rel => exact ⟨j + 1, by go_num, Lib.hid ⟨reste, HJ.out.1, HR.out.2, .inr ⟨be, oe, rfl, by rw [show oe + (j + 1) * 3 = oe + j * 3 + 3 from by omega]; exact HE6.out⟩, HK5.out.trans HK6.out fun _ _ h => h⟩⟩
          case measure => first | exact meas9 HJ.out.2.1 HJ.out.2.2 | exact meas9b HJ.out.2.1
end Ir
end Go.Proofs.YtbenjgncbpafbaaGreatDoor
namespace Go.Proofs.YtbenjgncbpafbaaGreatDoor
open Go.RowKit
set_option linter.unusedVariables false
set_option linter.unusedSimpArgs false
namespace Ir
open Kc
/-- Expressions are counted. -/
def CX (op : Int) (n : Nat) (kids : Ef) : Prop := ∀ (w : World) (D : Nat → Prop) (V : Value) (k K : Nat), SlE w D V kids → k + 1 + cntE kids = K → K ≤ 6000 → Calls Tryz.prog 43 #[.agg #[.int .i64 op, .int .u64 n, V], .int .i64 k] w fun e w' => e = .returned (.int .i64 K) ∧ Kept (fun _ => False) w w'
set_option maxHeartbeats 4000000 in
set_option maxRecDepth 100000 in
theorem countX_walk (op : Int) (n : Nat) (kids : Ef) (hall : All CX kids) : CX op n kids := by
  intro w D V k K hK hkK hK6
  have hwk : wrap64 ((k : Int) + 1) = ((k + 1 : Nat) : Int) := by unfold wrap64; omega
  obtain ⟨a, c, rfl, hkl, hK⟩ := hK
  obtain ⟨m, hm⟩ : ∃ m, kids.len = m := ⟨_, rfl⟩
  rw [hm] at hkl ⊢
  have hk0 := kept_alloc9 w (.cells #[.int .i64 op, .int .u64 n, .slice a m c] 47)
  have HB := Lib.hid (Bx.new w (.int .i64 op) (.int .u64 n) (.slice a m c) 47)
  have HE := Lib.hid (show kids = .nil ∨ ∃ b o, a = some ⟨b, o, none⟩ ∧ EfAt (w.alloc (.cells #[.int .i64 op, .int .u64 n, .slice a m c] 47)) D kids b o by
    rcases hK with e | ⟨b, o, e, h⟩
    · exact .inl e
    · exact .inr ⟨b, o, e, EfAt.kept hk0 (fun _ _ => id) kids b o h⟩)
  have HK0 := Lib.hid hk0
  have HM := Lib.hid (And.intro hkl hm)
  have HAL := Lib.hid hall
  have HKK := Lib.hid (And.intro hkK hK6)
  clear hall hkK hK6
  clear hk0 hK hkl
  clear hm
  go_enter Tryz.func43, Tryz.ntmps43
  go_upto_region 1 with (fail)
  generalize w.alloc (.cells #[.int .i64 op, .int .u64 n, .slice a m c] 47) = y0 at *
  generalize w.heap.size = q at *
  have k2 := HB.out.c2
  have HWK := Lib.hid hwk
  clear hwk
  go_upto_region 3 with (fail)
  generalize wrap64 ((k : Int) + 1) = k1 at *
  clear k2
  go_loopw [12, 1] (fun t nv wr => ∃ i : Nat, t = .int .i64 i ∧ ∃ j : Nat, nv = .int .i64 j ∧ Hid (∃ y, i + y.len = m ∧ All CX y ∧ (y = .nil ∨ ∃ b o, a = some ⟨b, o, none⟩ ∧ EfAt wr D y b (o + i * 3)) ∧ Kept (fun _ => False) w wr ∧ j + cntE y = K)) (fun t _ _ => m - (intOf t).toNat)
  case atStart => exact ⟨0, rfl, k + 1, by rw [HWK.out], Lib.hid ⟨kids, by have := HM.out.2; omega, HAL.out, by simpa using HE.out, HK0.out, HKK.out.1⟩⟩
  case round =>
    obtain ⟨i, rfl, j, rfl, hp⟩ := hrel
    obtain ⟨y, hi, hall, hat, hkp, hj⟩ := hp.out
    clear hp
    have HKP := Lib.hid hkp
    clear hkp
    cases y with
    | nil =>
      have t1 : decide (i < m) = false := by simp [Ef.len] at hi; simp; omega
      obtain rfl : j = K := by simpa [cntE] using hj
      go_wp2_with (fail)
      exact bodyPost_ret (v := .int .i64 j) (by simp [results, Tryz.results43, go_sem]) rfl ⟨rfl, HKP.out⟩
    | cons op1 n1 kd rest =>
      obtain ⟨b, o, ha, hb⟩ : ∃ b o, a = some ⟨b, o, none⟩ ∧ EfAt wr D (.cons op1 n1 kd rest) b (o + i * 3) := by
        rcases hat with h | h
        · cases h
        · exact h
      clear hat
      subst ha
      have hin : i < m := by simp [Ef.len] at hi; omega
      have t1 : decide (i < m) = true := by simp; omega
      have hi0 : (i : Int) < (m : Int) := by omega
      have HI : Hid (i + 1 + rest.len = m ∧ i < m ∧ wrap64 ((i : Int) + 1) = ((i + 1 : Nat) : Int)) := Lib.hid ⟨by simp [Ef.len] at hi; omega, hin, wrap_i (by have := HM.out.1; omega)⟩
      unfold EfAt at hb
      obtain ⟨h1, h2, h3, h4, ⟨a1, c1, h5, h6, h7⟩, h8⟩ := hb
      have hk1 := kept_alloc9 wr (.cells #[.int .i64 op1, .int .u64 n1, .slice a1 kd.len c1] 47)
      have HLE := Lib.hid (loadX h3 h4 h5)
      have HL2 := Lib.hid (Bx.new wr (.int .i64 op1) (.int .u64 n1) (.slice a1 kd.len c1) 47).load
      have HE5 := Lib.hid (EfAt.kept hk1 (fun _ _ => id) rest b (o + i * 3 + 3) h8)
      have HS5 := SlE.kept hk1 (fun _ _ => id) (show SlE wr D (.slice a1 kd.len c1) kd from ⟨a1, c1, rfl, h6, h7⟩)
      have HJ : Hid (j + 1 + cntE kd + cntE rest = K) := Lib.hid (by simp [cntE] at hj; omega)
      obtain ⟨j2, hj2⟩ : ∃ x, j + 1 + cntE kd = x := ⟨_, rfl⟩
      have HC := Lib.hid (hall.1 _ D _ j j2 HS5 hj2 (by have := HKK.out.2; have := HJ.out; omega))
      have t6 : decide (6000 < (j : Int)) = false := by have := HKK.out.2; have := HJ.out; simp; omega
      have HJ2 : Hid (j2 + cntE rest = K) := Lib.hid (by have := HJ.out; omega)
      clear hj2 hj HJ
      have HG9 : Hid ((Tryz.prog.info? 47).map (·.size) = some (#[.int .i64 op1, .int .u64 n1, .slice a1 kd.len c1] : Array Value).size ∧ zX.size = (#[.int .i64 op1, .int .u64 n1, .slice a1 kd.len c1] : Array Value).size ∧ (#[.int .i64 op1, .int .u64 n1, .slice a1 kd.len c1] : Array Value).all (·.oneCell') = true) := Lib.hid ⟨infX, rfl, by simp [Value.oneCell']⟩
      have HR := Lib.hid hall
      have HK5 := Lib.hid (HKP.out.trans hk1 fun _ _ h => h)
      clear h1 h2 h3 h4 h5 h6 h7 h8 hk1 hi hin hall HKP HS5
      generalize (#[.int .i64 op1, .int .u64 n1, .slice a1 kd.len c1] : Array Value) = ag at *
      go_upto_region 5 with (first
        | ((with_reducible refine wpList_loadE (P := Tryz.prog) (w := wr) (ty := 47) (x := .tmp 14) (p := .pointer (some ⟨b, o + i * 3, none⟩)) (v := .agg ag) ?_ ?_ ?_ HLE.out ?_); (· exact rfl); (· exact rfl); (· exact rfl))
        | ((with_reducible refine wpList_store_row (P := Tryz.prog) (w := wr.alloc (.cells zX 47)) ?_ 47 (.tmp 6) (.tmp 15) ?_ wr.heap.size ag ?_ ?_ 47 zX (heap_alloc_last wr _) HG9.out.1 HG9.out.2.1 HG9.out.2.2 ?_); (· exact rfl); (· exact rfl); (· exact rfl); (· exact rfl); rw [World.setRow_alloc_new]; simp only [Act.put]))
      clear HLE HG9
      generalize wr.alloc (.cells ag 47) = y5 at *
      generalize wr.heap.size = qa at *
      have hw1 := HI.out.2.2
      go_wp2_with (first
        | ((with_reducible refine wpList_loadE (P := Tryz.prog) (w := y5) (ty := 47) (x := .tmp 6) (p := .pointer (some ⟨qa, 0, none⟩)) (v := .agg ag) ?_ ?_ ?_ HL2.out ?_); (· exact rfl); (· exact rfl); (· exact rfl))
        | (go_at_call 43; (with_reducible refine HC.out.mono ?_); rintro e y6 ⟨he, hk6⟩; obtain rfl : e = _ := he; have HK6 := Lib.hid hk6; clear hk6 HC))
      have HE6 := Lib.hid (EfAt.kept HK6.out (fun _ _ => id) rest b (o + i * 3 + 3) HE5.out)
      go_roundw
      case rel => exact ⟨i + 1, by go_num, j2, rfl, Lib.hid ⟨rest, HI.out.1, HR.out.2, .inr ⟨b, o, rfl, by rw [show o + (i + 1) * 3 = o + i * 3 + 3 from by omega]; exact HE6.out⟩, HK5.out.trans HK6.out fun _ _ h => h, HJ2.out⟩⟩
      case measure => first | exact meas9 HI.out.2.1 HI.out.2.2 | exact meas9b HI.out.2.1
theorem countX_all : ∀ x : Ef, All CX x
  | .nil => trivial
  | .cons op n kids rest => ⟨countX_walk op n kids (countX_all kids), countX_all rest⟩
end Ir
end Go.Proofs.YtbenjgncbpafbaaGreatDoor
namespace Go.Proofs.YtbenjgncbpafbaaGreatDoor
open Go.RowKit
set_option linter.unusedVariables false
set_option linter.unusedSimpArgs false
namespace Ir
open Kc
def cntL : List Sf → Nat
  | [] => 0
  | x :: r => cntS x + cntL r
theorem cnt_lists (kind : Int) (body els : Sf) : cntL (lists kind body els) = if kind = 3 then cntS body + cntS els else if kind = 4 then cntS body else 0 := by
  unfold lists
  split
  · simp [cntL]
  · split <;> simp [cntL]
theorem cnt_drop (l : List Sf) (k : Nat) (x : Sf) (h : l[k]? = some x) : cntL (l.drop k) = cntS x + cntL (l.drop (k + 1)) := by
  obtain ⟨hk, rfl⟩ := List.getElem?_eq_some_iff.1 h
  rw [List.drop_eq_getElem_cons hk, cntL]
/-- A list is counted. -/
def CS (x : Sf) : Prop := ∀ (w : World) (D : Nat → Prop) (V : Value) (k K : Nat), SlS w D V x → k + cntS x = K → K ≤ 6000 → Calls Tryz.prog 24 #[V, .int .i64 k] w fun e w' => e = .returned (.int .i64 K) ∧ Kept (fun _ => False) w w'
def QC (kind n ao : Int) (an : Nat) (ak : Ef) (bo : Int) (bn : Nat) (bk : Ef) (body els : Sf) : Prop := (1 ≤ kind ∧ kind ≤ 7) ∧ All CX (exprs kind ao an ak bo bn bk) ∧ ∀ l ∈ lists kind body els, CS l
set_option maxHeartbeats 8000000 in
set_option maxRecDepth 100000 in
theorem countS_walk (x : Sf) (hall : AllS QC x) : CS x := by
  intro w D V k K hV hkK hK6
  obtain ⟨a, c, rfl, hl, hV⟩ := hV
  obtain ⟨n, hn⟩ : ∃ n, x.len = n := ⟨_, rfl⟩
  have HN := Lib.hid (And.intro hl hn)
  have HV := Lib.hid hV
  rw [hn] at ⊢
  have HAL := Lib.hid hall
  have HKK := Lib.hid (And.intro hkK hK6)
  clear hall hkK hK6
  clear hl hV
  clear hn
  go_enter Tryz.func24, Tryz.ntmps24
  go_upto_region 2 with (fail)
  go_loopw [15, 1] (fun t nv wr => ∃ i : Nat, t = .int .i64 i ∧ ∃ jj : Nat, nv = .int .i64 jj ∧ Hid (∃ y, i + y.len = n ∧ AllS (QC) y ∧ (y = .nil ∨ ∃ b o, a = some ⟨b, o, none⟩ ∧ SfAt wr D y b (o + i * 10)) ∧ Kept (fun _ => False) w wr ∧ jj + cntS y = K)) (fun t _ _ => n - (intOf t).toNat)
  case atStart => exact ⟨0, rfl, k, rfl, Lib.hid ⟨x, by have := HN.out.2; omega, HAL.out, by simpa using HV.out, Kept.refl _ _, HKK.out.1⟩⟩
  case round =>
    obtain ⟨i, rfl, jj, rfl, hp⟩ := hrel
    obtain ⟨y, hi, hall, hat, hkp, hjj⟩ := hp.out
    clear hp
    have HKP := Lib.hid hkp
    clear hkp
    cases y with
    | nil =>
      have t1 : decide (i < n) = false := by simp [Sf.len] at hi; simp; omega
      obtain rfl : jj = K := by simpa [cntS] using hjj
      go_wp2_with (fail)
      exact bodyPost_ret (v := .int .i64 jj) (by simp [results, Tryz.results24, go_sem]) rfl ⟨rfl, HKP.out⟩
    | cons kind nn ao an ak bo bn bk body els rest =>
      obtain ⟨b, o, ha, hb⟩ : ∃ b o, a = some ⟨b, o, none⟩ ∧ SfAt wr D (.cons kind nn ao an ak bo bn bk body els rest) b (o + i * 10) := by
        rcases hat with h | h
        · cases h
        · exact h
      clear hat
      subst ha
      have hin : i < n := by simp [Sf.len] at hi; omega
      have t1 : decide (i < n) = true := by simp; omega
      have hi0 : (i : Int) < (n : Int) := by omega
      have HI : Hid (i + 1 + rest.len = n ∧ i < n ∧ wrap64 ((i : Int) + 1) = ((i + 1 : Nat) : Int)) := Lib.hid ⟨by simp [Sf.len] at hi; omega, hin, wrap_i (by have := HN.out.1; have := HN.out.2; omega)⟩
      unfold SfAt at hb
      obtain ⟨h1, h2, h3, h4, h5, h6, h7, ⟨VA, h8, h9⟩, h10, h11, ⟨VB, h12, h13⟩, ⟨a8, c8, h14, l8, h15⟩, ⟨a9, c9, h16, l9, h17⟩, h18⟩ := hb
      obtain ⟨aA, cA, rfl, lA, hA⟩ := h9
      obtain ⟨aB, cB, rfl, lB, hB⟩ := h13
      have HL := Lib.hid (loadT h4 h5 h6 h7 h8 h10 h11 h12 h14 h16)
      have hk1 := kept_alloc9 wr (.cells #[.int .i64 kind, .int .i64 nn, .int .i64 ao, .int .u64 an, .slice aA ak.len cA, .int .i64 bo, .int .u64 bn, .slice aB bk.len cB, .slice a8 body.len c8, .slice a9 els.len c9] 50)
      have HBT := Lib.hid (Bt10.new wr (.int .i64 kind) (.int .i64 nn) (.int .i64 ao) (.int .u64 an) (.slice aA ak.len cA) (.int .i64 bo) (.int .u64 bn) (.slice aB bk.len cB) (.slice a8 body.len c8) (.slice a9 els.len c9) 50)
      have HD1 := Lib.hid (SfAt.kept hk1 (fun _ _ => id) rest b (o + i * 10 + 10) h18)
      have HQ := Lib.hid hall
      have HK1 := Lib.hid (HKP.out.trans hk1 fun _ _ h => h)
      have HSL := Lib.hid (And.intro (SlE.kept hk1 (fun _ _ => id) (show SlE wr D (.slice aA ak.len cA) ak from ⟨aA, cA, rfl, lA, hA⟩)) (And.intro (SlE.kept hk1 (fun _ _ => id) (show SlE wr D (.slice aB bk.len cB) bk from ⟨aB, cB, rfl, lB, hB⟩)) (And.intro (SlS.kept hk1 (fun _ _ => id) (show SlS wr D (.slice a8 body.len c8) body from ⟨a8, c8, rfl, l8, h15⟩)) (And.intro (SlS.kept hk1 (fun _ _ => id) (show SlS wr D (.slice a9 els.len c9) els from ⟨a9, c9, rfl, l9, h17⟩)) (And.intro h2 (And.intro h3 hall.1.1))))))
      have HI9 : Hid ((Tryz.prog.info? 50).map (·.size) = some (#[.int .i64 kind, .int .i64 nn, .int .i64 ao, .int .u64 an, .slice aA ak.len cA, .int .i64 bo, .int .u64 bn, .slice aB bk.len cB, .slice a8 body.len c8, .slice a9 els.len c9] : Array Value).size ∧ zT.size = (#[.int .i64 kind, .int .i64 nn, .int .i64 ao, .int .u64 an, .slice aA ak.len cA, .int .i64 bo, .int .u64 bn, .slice aB bk.len cB, .slice a8 body.len c8, .slice a9 els.len c9] : Array Value).size ∧ (#[.int .i64 kind, .int .i64 nn, .int .i64 ao, .int .u64 an, .slice aA ak.len cA, .int .i64 bo, .int .u64 bn, .slice aB bk.len cB, .slice a8 body.len c8, .slice a9 els.len c9] : Array Value).all (·.oneCell') = true) := Lib.hid ⟨infT, rfl, by simp [Value.oneCell']⟩
      obtain ⟨M1, hM1⟩ : ∃ m, jj + 1 + cntE (exprs kind ao an ak bo bn bk) = m := ⟨_, rfl⟩
      obtain ⟨M2, hM2⟩ : ∃ m, M1 + cntL (lists kind body els) = m := ⟨_, rfl⟩
      have HMM : Hid (jj + 1 + cntE (exprs kind ao an ak bo bn bk) = M1 ∧ M1 + cntL (lists kind body els) = M2 ∧ M2 + cntS rest = K ∧ M1 ≤ 6000 ∧ M2 ≤ 6000 ∧ jj ≤ 6000) := Lib.hid (by
        have e := cnt_lists kind body els
        have h6 := HKK.out.2
        unfold cntS at hjj
        omega)
      have t6 : decide (6000 < (jj : Int)) = false := by have := HMM.out.2.2.2.2.2; simp; omega
      have HWJ : Hid (wrap64 ((jj : Int) + 1) = ((jj + 1 : Nat) : Int)) := Lib.hid (by have := HMM.out.2.2.2.2.2; unfold wrap64; omega)
      clear hM1 hM2 hjj
      clear h1 h2 h3 h4 h5 h6 h7 h8 h10 h11 h12 h14 h15 h16 h17 h18 l8 l9 lA hA lB hB hk1 HKP hi hin hall
      generalize hag : (#[.int .i64 kind, .int .i64 nn, .int .i64 ao, .int .u64 an, .slice aA ak.len cA, .int .i64 bo, .int .u64 bn, .slice aB bk.len cB, .slice a8 body.len c8, .slice a9 els.len c9] : Array Value) = ag at HL HI9 HBT HSL HK1 HD1
      have HAG := Lib.hid hag
      clear hag
      go_upto_region 4 with (first
        | ((with_reducible refine wpList_loadE (P := Tryz.prog) (w := wr) (ty := 50) (x := .tmp 17) (p := .pointer (some ⟨b, o + i * 10, none⟩)) (v := .agg ag) ?_ ?_ ?_ HL.out ?_); (· exact rfl); (· exact rfl); (· exact rfl))
        | ((with_reducible refine wpList_store_row (P := Tryz.prog) (w := wr.alloc (.cells zT 50)) ?_ 50 (.tmp 6) (.tmp 18) ?_ wr.heap.size ag ?_ ?_ 50 zT (heap_alloc_last wr _) HI9.out.1 HI9.out.2.1 HI9.out.2.2 ?_); (· exact rfl); (· exact rfl); (· exact rfl); (· exact rfl); rw [World.setRow_alloc_new]; simp only [Act.put]))
      clear HL HI9
      generalize wr.alloc (.cells ag 50) = y1 at *
      generalize wr.heap.size = qa at *
      
      have HLT := Lib.hid (show (Instr.loadAt 50 (.pointer (some ⟨qa, 0, none⟩))).run Tryz.prog y1 = .ok (.agg ag) y1 from HAG.out ▸ HBT.out.load)
      have HPA := Lib.hid (HAG.out ▸ parts_walk kind nn ao an ak bo bn bk body els HSL.out.2.2.2.2.2.2 y1 D aA aB a8 a9 ak.len cA bk.len cB body.len c8 els.len c9 HSL.out.1 HSL.out.2.1 HSL.out.2.2.1 HSL.out.2.2.2.1 HSL.out.2.2.2.2.1 HSL.out.2.2.2.2.2.1 (fun _ => True) (fun _ _ => trivial) fun _ _ => trivial)
      clear HAG HSL HBT
      go_upto_region 8 with (first
        | ((with_reducible refine wpList_loadE (P := Tryz.prog) (w := y1) (ty := 50) (x := .tmp 6) (p := .pointer (some ⟨qa, 0, none⟩)) (v := .agg ag) ?_ ?_ ?_ HLT.out ?_); (· exact rfl); (· exact rfl); (· exact rfl))
        | (go_at_call 41; (with_reducible refine HPA.out.mono ?_); rintro e y2 ⟨a1, m1, c1, a2, m2, c2, he, hE, hS, hk2⟩; obtain rfl : e = _ := he; have HE2 := Lib.hid hE.of; have HS2 := Lib.hid hS; have HK2 := Lib.hid (HK1.out.trans hk2 fun _ _ h => h); have HD2 := Lib.hid (SfAt.kept hk2 (fun _ _ => id) rest b (o + i * 10 + 10) HD1.out); clear hE hS hk2 HPA))
      clear HLT HK1 HD1
      go_upto_region 9 with (fail)
      generalize wrap64 ((jj : Int) + 1) = k1 at *
      go_loopw [31, 1] (fun t nv wr => ∃ j : Nat, t = .int .i64 j ∧ ∃ je : Nat, nv = .int .i64 je ∧ Hid (∃ y, j + y.len = m1 ∧ All (CX) y ∧ (y = .nil ∨ ∃ b o, a1 = some ⟨b, o, none⟩ ∧ EfAt wr (fun _ => True) y b (o + j * 3)) ∧ Kept (fun _ => False) y2 wr ∧ je + cntE y = M1)) (fun t _ _ => m1 - (intOf t).toNat)
      case atStart => exact ⟨0, rfl, jj + 1, by rw [HWJ.out], Lib.hid ⟨exprs kind ao an ak bo bn bk, by have := HE2.out.2.1; omega, HQ.out.1.2.1, by simpa using HE2.out.2.2, Kept.refl _ _, HMM.out.1⟩⟩
      case round =>
        obtain ⟨j, rfl, je, rfl, hp⟩ := hrel
        obtain ⟨ye, hj, halle, hate, hkpe, hje⟩ := hp.out
        clear hp
        have HKE := Lib.hid hkpe
        clear hkpe
        cases ye with
        | nil =>
          have t2 : decide (j < m1) = false := by simp [Ef.len] at hj; simp; omega
          clear hj halle hate
          obtain ⟨a9', c9', hl9e, hl2, hlat⟩ := HS2.out
          injection hl9e with e1 e2 e3
          subst e1
          subst e2
          subst e3
          obtain ⟨m2, hm2⟩ : ∃ m, (lists kind body els).length = m := ⟨_, rfl⟩
          rw [hm2] at hl2 ⊢
          have HL2 := Lib.hid (And.intro hl2 (And.intro hm2 hlat))
          clear hl2 hlat
          clear hm2
          obtain rfl : je = M1 := by simpa [cntE] using hje
          go_upto_region 14 with (fail)
          go_loopw [41, 1] (fun t nv wr => ∃ j : Nat, t = .int .i64 j ∧ ∃ jl : Nat, nv = .int .i64 jl ∧ Hid (j ≤ m2 ∧ Kept (fun _ => False) y2 wr ∧ jl + cntL ((lists kind body els).drop j) = M2)) (fun t _ _ => m2 - (intOf t).toNat)
          case atStart => exact ⟨0, rfl, je, rfl, Lib.hid ⟨Nat.zero_le _, HKE.out, by rw [List.drop_zero]; exact HMM.out.2.1⟩⟩
          case round =>
            obtain ⟨k, rfl, jl, rfl, hp⟩ := hrel
            have HP := Lib.hid hp.out
            clear hp
            by_cases hkm : k < m2
            · have t3 : decide (k < m2) = true := by simp; omega
              have hk0 : (k : Int) < (m2 : Int) := by omega
              have hkl : k < (lists kind body els).length := by have := HL2.out.2.1; omega
              obtain ⟨xl, hxl⟩ : ∃ xl, (lists kind body els)[k]? = some xl := ⟨_, List.getElem?_eq_getElem hkl⟩
              obtain ⟨b7, o7, ha7, hcell⟩ : ∃ b o, a2 = some ⟨b, o, none⟩ ∧ ∀ i x, (lists kind body els)[i]? = some x → ∃ b8 n8 c8, y2.cell? ⟨b, o + i, none⟩ = some (.slice b8 n8 c8) ∧ SlS y2 (fun _ => True) (.slice b8 n8 c8) x ∧ True := by
                rcases HL2.out.2.2 with e | ⟨b, o, e, h⟩
                · rw [e] at hkl; simp at hkl
                · exact ⟨b, o, e, h⟩
              subst ha7
              obtain ⟨b6, n6, c6, kc, hs6, _⟩ := hcell k xl hxl
              have kc := HP.out.2.1.cell id kc
              have hw2 : wrap64 ((k : Int) + 1) = ((k + 1 : Nat) : Int) := wrap_i (by have := HL2.out.1; omega)
              have HW2 := Lib.hid hw2
              have HKM := Lib.hid hkm
              have hmem := List.mem_of_getElem? hxl
              have hs7 := hs6.kept (HP.out.2.1) fun _ _ => id
              have hdr := cnt_drop _ _ _ hxl
              obtain ⟨jl2, hjl2⟩ : ∃ m, jl + cntS xl = m := ⟨_, rfl⟩
              have HJL : Hid (jl2 + cntL ((lists kind body els).drop (k + 1)) = M2) := Lib.hid (by have := HP.out.2.2; omega)
              have HC2 := Lib.hid (HQ.out.1.2.2 xl hmem _ _ _ jl jl2 hs7 hjl2 (by have := HJL.out; have := HMM.out.2.2.2.2.1; omega))
              clear hjl2 hdr
              clear hcell hs6 hs7 hmem hxl hkl hkm
              go_wp2_with (first
                | (go_at_call 24; (with_reducible refine HC2.out.mono ?_); rintro e y8 ⟨he, hk8⟩; obtain rfl : e = _ := he; have HK8 := Lib.hid (HP.out.2.1.trans hk8 fun _ _ h => h); clear hk8 HC2))
              
              go_roundw
              case rel => exact ⟨k + 1, by go_num, jl2, rfl, Lib.hid ⟨HKM.out, HK8.out, HJL.out⟩⟩
              case measure => first | exact meas9 HKM.out HW2.out | exact meas9b HKM.out
            · obtain rfl : k = m2 := by have := HP.out.1; omega
              have t3 : decide (k < k) = false := by simp
              have hw1 := HI.out.2.2
              clear hkm
              go_wp2_with (fail)
              go_roundw
              case rel => exact ⟨i + 1, by go_num, jl, rfl, Lib.hid ⟨rest, HI.out.1, HQ.out.2, .inr ⟨b, o, rfl, by rw [show o + (i + 1) * 10 = o + i * 10 + 10 from by omega]; exact SfAt.kept HP.out.2.1 (fun _ _ => id) rest b (o + i * 10 + 10) HD2.out⟩, HK2.out.trans HP.out.2.1 fun _ _ h => h, by have h1 := HP.out.2.2; have h2 := HL2.out.2.1; rw [← h2, List.drop_length] at h1; have h3 := HMM.out.2.2.1; simp only [cntL] at h1; omega⟩⟩
              case measure => first | exact meas9 HI.out.2.1 HI.out.2.2 | exact meas9b HI.out.2.1
        | cons op1 n1 kd reste =>
          obtain ⟨be, oe, hae, hbe⟩ : ∃ b o, a1 = some ⟨b, o, none⟩ ∧ EfAt wr (fun _ => True) (.cons op1 n1 kd reste) b (o + j * 3) := by
            rcases hate with h | h
            · cases h
            · exact h
          clear hate
          subst hae
          have hjn : j < m1 := by simp [Ef.len] at hj; omega
          have t2 : decide (j < m1) = true := by simp; omega
          have hj0 : (j : Int) < (m1 : Int) := by omega
          have HJ : Hid (j + 1 + reste.len = m1 ∧ j < m1 ∧ wrap64 ((j : Int) + 1) = ((j + 1 : Nat) : Int)) := Lib.hid ⟨by simp [Ef.len] at hj; omega, hjn, wrap_i (by have := HE2.out.1; have := HE2.out.2.1; omega)⟩
          unfold EfAt at hbe
          obtain ⟨h1, h2, h3, h4, ⟨a1', c1', h5, h6, h7⟩, h8⟩ := hbe
          have hk1 := kept_alloc9 wr (.cells #[.int .i64 op1, .int .u64 n1, .slice a1' kd.len c1'] 47)
          have HLE := Lib.hid (loadX h3 h4 h5)
          have HX2 := Lib.hid (Bx.new wr (.int .i64 op1) (.int .u64 n1) (.slice a1' kd.len c1') 47).load
          have HE5 := Lib.hid (EfAt.kept hk1 (fun _ _ => id) reste be (oe + j * 3 + 3) h8)
          have HS5 := SlE.kept hk1 (fun _ _ => id) (show SlE wr (fun _ => True) (.slice a1' kd.len c1') kd from ⟨a1', c1', rfl, h6, h7⟩)
          have HJE : Hid (je + 1 + cntE kd + cntE reste = M1) := Lib.hid (by simp [cntE] at hje; omega)
          obtain ⟨je2, hje2⟩ : ∃ m, je + 1 + cntE kd = m := ⟨_, rfl⟩
          have HC := Lib.hid (halle.1 _ (fun _ => True) _ je je2 HS5 hje2 (by have := HJE.out; have := HMM.out.2.2.2.1; omega))
          have HJ2 : Hid (je2 + cntE reste = M1) := Lib.hid (by have := HJE.out; omega)
          clear hje2 hje HJE
          have HG9 : Hid ((Tryz.prog.info? 47).map (·.size) = some (#[.int .i64 op1, .int .u64 n1, .slice a1' kd.len c1'] : Array Value).size ∧ zX.size = (#[.int .i64 op1, .int .u64 n1, .slice a1' kd.len c1'] : Array Value).size ∧ (#[.int .i64 op1, .int .u64 n1, .slice a1' kd.len c1'] : Array Value).all (·.oneCell') = true) := Lib.hid ⟨infX, rfl, by simp [Value.oneCell']⟩
          have HR := Lib.hid halle
          have HK5 := Lib.hid (HKE.out.trans hk1 fun _ _ h => h)
          clear h1 h2 h3 h4 h5 h6 h7 h8 hk1 hj hjn halle HKE HS5
          generalize (#[.int .i64 op1, .int .u64 n1, .slice a1' kd.len c1'] : Array Value) = ax at *
          go_upto_region 11 with (first
            | ((with_reducible refine wpList_loadE (P := Tryz.prog) (w := wr) (ty := 47) (x := .tmp 33) (p := .pointer (some ⟨be, oe + j * 3, none⟩)) (v := .agg ax) ?_ ?_ ?_ HLE.out ?_); (· exact rfl); (· exact rfl); (· exact rfl))
            | ((with_reducible refine wpList_store_row (P := Tryz.prog) (w := wr.alloc (.cells zX 47)) ?_ 47 (.tmp 10) (.tmp 34) ?_ wr.heap.size ax ?_ ?_ 47 zX (heap_alloc_last wr _) HG9.out.1 HG9.out.2.1 HG9.out.2.2 ?_); (· exact rfl); (· exact rfl); (· exact rfl); (· exact rfl); rw [World.setRow_alloc_new]; simp only [Act.put]))
          clear HLE HG9
          generalize wr.alloc (.cells ax 47) = y5 at *
          generalize wr.heap.size = qx at *
          have hw3 := HJ.out.2.2
          go_wp2_with (first
            | ((with_reducible refine wpList_loadE (P := Tryz.prog) (w := y5) (ty := 47) (x := .tmp 10) (p := .pointer (some ⟨qx, 0, none⟩)) (v := .agg ax) ?_ ?_ ?_ HX2.out ?_); (· exact rfl); (· exact rfl); (· exact rfl))
            | (go_at_call 43; (with_reducible refine HC.out.mono ?_); rintro e y6 ⟨he, hk6⟩; obtain rfl : e = _ := he; have HK6 := Lib.hid hk6; clear hk6 HC))
          have HE6 := Lib.hid (EfAt.kept HK6.out (fun _ _ => id) reste be (oe + j * 3 + 3) HE5.out)
          go_roundw
          case rel => exact ⟨j + 1, by go_num, je2, rfl, Lib.hid ⟨reste, HJ.out.1, HR.out.2, .inr ⟨be, oe, rfl, by rw [show oe + (j + 1) * 3 = oe + j * 3 + 3 from by omega]; exact HE6.out⟩, HK5.out.trans HK6.out fun _ _ h => h, HJ2.out⟩⟩
          case measure => first | exact meas9 HJ.out.2.1 HJ.out.2.2 | exact meas9b HJ.out.2.1
end Ir
end Go.Proofs.YtbenjgncbpafbaaGreatDoor
