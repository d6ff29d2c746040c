/- Merged of Evq. Own work. -/
import Derived.Test.YtbenjgncbpafbaaGreatDoorP11
namespace Go.Proofs.YtbenjgncbpafbaaGreatDoor
open Go.RowKit
set_option linter.unusedVariables false
set_option linter.unusedSimpArgs false
namespace Ir
open Kc
theorem SlP.mono {w : World} {D D' : Nat → Prop} (hd : ∀ k, D k → D' k) {V : Value} {p : List Fn} (h : SlP w D V p) : SlP w D' V p := by
  obtain ⟨a, c, rfl, hl, h⟩ := h
  refine ⟨a, c, rfl, hl, ?_⟩
  rcases h with h | ⟨b, o, rfl, h⟩
  · exact .inl h
  · refine .inr ⟨b, o, rfl, fun i fn hi => ?_⟩
    obtain ⟨h1, h2, h3, U, h4, h5⟩ := h i fn hi
    exact ⟨hd _ h1, h2, h3, U, h4, h5.mono hd⟩
/-- A list is right, in the function at. -/
def RS (prog : List Fn) (at_ : Nat) (x : Sf) : Prop := ∀ (w : World) (D : Nat → Prop) (pv V : Value), SlP w D pv prog → SlS w D V x → Calls Tryz.prog 25 #[pv, .int .i64 at_, V] w fun e w' => e = .returned (.bool true) ∧ Kept (fun _ => False) w w'
def QR (prog : List Fn) (at_ : Nat) (kind n ao : Int) (an : Nat) (ak : Ef) (bo : Int) (bn : Nat) (bk : Ef) (body els : Sf) : Prop := (1 ≤ kind ∧ kind ≤ 7) ∧ All (RX prog at_) (exprs kind ao an ak bo bn bk) ∧ (∀ l ∈ lists kind body els, RS prog at_ l) ∧ (kind = 1 → 0 ≤ n ∧ ∃ fn, prog[at_]? = some fn ∧ n < fn.locals)
set_option maxHeartbeats 8000000 in
set_option maxRecDepth 100000 in
theorem rightS_walk (prog : List Fn) (at_ : Nat) (x : Sf) (hall : AllS (QR prog at_) x) : RS prog at_ x := by
  intro w D pv V hpv hV
  obtain ⟨pa, pc, rfl, hpl, hpp⟩ := hpv
  have HPV := Lib.hid (show SlP w D (.slice pa prog.length pc) prog from ⟨pa, pc, rfl, hpl, hpp⟩)
  obtain ⟨np, hnp⟩ : ∃ m, prog.length = m := ⟨_, rfl⟩
  rw [hnp] at HPV hpl ⊢
  have HNP := Lib.hid (And.intro hpl hnp)
  clear hpl hpp
  clear hnp
  obtain ⟨a, c, rfl, hl, hV⟩ := hV
  obtain ⟨n, hn⟩ : ∃ n, x.len = n := ⟨_, rfl⟩
  have HN := Lib.hid (And.intro hl hn)
  have HV := Lib.hid hV
  rw [hn] at ⊢
  have HAL := Lib.hid hall
  clear hall
  clear hl hV
  clear hn
  go_enter Tryz.func25, Tryz.ntmps25
  go_upto_region 2 with (fail)
  go_loopw [17] (fun t wr => ∃ i : Nat, t = .int .i64 i ∧ Hid (∃ y, i + y.len = n ∧ AllS (QR prog at_) y ∧ (y = .nil ∨ ∃ b o, a = some ⟨b, o, none⟩ ∧ SfAt wr D y b (o + i * 10)) ∧ Kept (fun _ => False) w wr)) (fun t _ => n - (intOf t).toNat)
  case atStart => exact ⟨0, rfl, Lib.hid ⟨x, by have := HN.out.2; omega, HAL.out, by simpa using HV.out, Kept.refl _ _⟩⟩
  case round =>
    obtain ⟨i, rfl, hp⟩ := hrel
    obtain ⟨y, hi, hall, hat, hkp⟩ := hp.out
    clear hp
    have HKP := Lib.hid hkp
    clear hkp
    cases y with
    | nil =>
      have t1 : decide (i < n) = false := by simp [Sf.len] at hi; simp; omega
      go_wp2_with (fail)
      exact bodyPost_ret (v := .bool true) (by simp [results, Tryz.results25, go_sem]) rfl ⟨rfl, HKP.out⟩
    | cons kind nn ao an ak bo bn bk body els rest =>
      obtain ⟨b, o, ha, hb⟩ : ∃ b o, a = some ⟨b, o, none⟩ ∧ SfAt wr D (.cons kind nn ao an ak bo bn bk body els rest) b (o + i * 10) := by
        rcases hat with h | h
        · cases h
        · exact h
      clear hat
      subst ha
      have hin : i < n := by simp [Sf.len] at hi; omega
      have t1 : decide (i < n) = true := by simp; omega
      have hi0 : (i : Int) < (n : Int) := by omega
      have HI : Hid (i + 1 + rest.len = n ∧ i < n ∧ wrap64 ((i : Int) + 1) = ((i + 1 : Nat) : Int)) := Lib.hid ⟨by simp [Sf.len] at hi; omega, hin, wrap_i (by have := HN.out.1; have := HN.out.2; omega)⟩
      unfold SfAt at hb
      obtain ⟨h1, h2, h3, h4, h5, h6, h7, ⟨VA, h8, h9⟩, h10, h11, ⟨VB, h12, h13⟩, ⟨a8, c8, h14, l8, h15⟩, ⟨a9, c9, h16, l9, h17⟩, h18⟩ := hb
      obtain ⟨aA, cA, rfl, lA, hA⟩ := h9
      obtain ⟨aB, cB, rfl, lB, hB⟩ := h13
      have HL := Lib.hid (loadT h4 h5 h6 h7 h8 h10 h11 h12 h14 h16)
      have hk1 := kept_alloc9 wr (.cells #[.int .i64 kind, .int .i64 nn, .int .i64 ao, .int .u64 an, .slice aA ak.len cA, .int .i64 bo, .int .u64 bn, .slice aB bk.len cB, .slice a8 body.len c8, .slice a9 els.len c9] 50)
      have HBT := Lib.hid (Bt10.new wr (.int .i64 kind) (.int .i64 nn) (.int .i64 ao) (.int .u64 an) (.slice aA ak.len cA) (.int .i64 bo) (.int .u64 bn) (.slice aB bk.len cB) (.slice a8 body.len c8) (.slice a9 els.len c9) 50)
      have HD1 := Lib.hid (SfAt.kept hk1 (fun _ _ => id) rest b (o + i * 10 + 10) h18)
      have HQ := Lib.hid hall
      have HK1 := Lib.hid (HKP.out.trans hk1 fun _ _ h => h)
      have HSL := Lib.hid (And.intro (SlE.kept hk1 (fun _ _ => id) (show SlE wr D (.slice aA ak.len cA) ak from ⟨aA, cA, rfl, lA, hA⟩)) (And.intro (SlE.kept hk1 (fun _ _ => id) (show SlE wr D (.slice aB bk.len cB) bk from ⟨aB, cB, rfl, lB, hB⟩)) (And.intro (SlS.kept hk1 (fun _ _ => id) (show SlS wr D (.slice a8 body.len c8) body from ⟨a8, c8, rfl, l8, h15⟩)) (And.intro (SlS.kept hk1 (fun _ _ => id) (show SlS wr D (.slice a9 els.len c9) els from ⟨a9, c9, rfl, l9, h17⟩)) (And.intro h2 (And.intro h3 hall.1.1))))))
      have HI9 : Hid ((Tryz.prog.info? 50).map (·.size) = some (#[.int .i64 kind, .int .i64 nn, .int .i64 ao, .int .u64 an, .slice aA ak.len cA, .int .i64 bo, .int .u64 bn, .slice aB bk.len cB, .slice a8 body.len c8, .slice a9 els.len c9] : Array Value).size ∧ zT.size = (#[.int .i64 kind, .int .i64 nn, .int .i64 ao, .int .u64 an, .slice aA ak.len cA, .int .i64 bo, .int .u64 bn, .slice aB bk.len cB, .slice a8 body.len c8, .slice a9 els.len c9] : Array Value).size ∧ (#[.int .i64 kind, .int .i64 nn, .int .i64 ao, .int .u64 an, .slice aA ak.len cA, .int .i64 bo, .int .u64 bn, .slice aB bk.len cB, .slice a8 body.len c8, .slice a9 els.len c9] : Array Value).all (·.oneCell') = true) := Lib.hid ⟨infT, rfl, by simp [Value.oneCell']⟩
      
      clear h1 h2 h3 h4 h5 h6 h7 h8 h10 h11 h12 h14 h15 h16 h17 h18 l8 l9 lA hA lB hB hk1 HKP hi hin hall
      generalize hag : (#[.int .i64 kind, .int .i64 nn, .int .i64 ao, .int .u64 an, .slice aA ak.len cA, .int .i64 bo, .int .u64 bn, .slice aB bk.len cB, .slice a8 body.len c8, .slice a9 els.len c9] : Array Value) = ag at HL HI9 HBT HSL HK1 HD1
      have HAG := Lib.hid hag
      clear hag
      go_upto_region 4 with (first
        | ((with_reducible refine wpList_loadE (P := Tryz.prog) (w := wr) (ty := 50) (x := .tmp 19) (p := .pointer (some ⟨b, o + i * 10, none⟩)) (v := .agg ag) ?_ ?_ ?_ HL.out ?_); (· exact rfl); (· exact rfl); (· exact rfl))
        | ((with_reducible refine wpList_store_row (P := Tryz.prog) (w := wr.alloc (.cells zT 50)) ?_ 50 (.tmp 8) (.tmp 20) ?_ wr.heap.size ag ?_ ?_ 50 zT (heap_alloc_last wr _) HI9.out.1 HI9.out.2.1 HI9.out.2.2 ?_); (· exact rfl); (· exact rfl); (· exact rfl); (· exact rfl); rw [World.setRow_alloc_new]; simp only [Act.put]))
      clear HL HI9
      generalize wr.alloc (.cells ag 50) = y1 at *
      generalize wr.heap.size = qa at *
      by_cases hk1 : kind = 1
      · have kk := HBT.out.c0
        have kn := HBT.out.c1
        have ta : decide (kind < 1) = false := by have := HQ.out.1.1.1; simp; omega
        have tb : decide (7 < kind) = false := by have := HQ.out.1.1.2; simp; omega
        have tk : (kind == 1) = true := by simp [hk1]
        obtain ⟨hn0, fn, hfn, hnl⟩ := HQ.out.1.2.2.2 hk1
        obtain ⟨pb, po, hpa, hF⟩ : ∃ b o, pa = some ⟨b, o, none⟩ ∧ FnAt y1 D fn b (o + 3 * at_) := by
          obtain ⟨pa', pc', e, _, hpp⟩ := HPV.out.kept HK1.out fun _ _ => id
          injection e with e1 e2 e3
          subst e1
          rcases hpp with e | ⟨b, o, e, hF⟩
          · rw [e] at hfn; simp at hfn
          · exact ⟨b, o, e, hF at_ fn hfn⟩
        subst hpa
        have kl : y1.cell? ⟨pb, po + at_ * 3 + 1, none⟩ = some (.int .i64 fn.locals) := by rw [Nat.mul_comm]; exact hF.2.2.1
        have hat0 : (at_ : Int) < (np : Int) := by have := (List.getElem?_eq_some_iff.1 hfn).1; have := HNP.out.2; omega
        have tc : decide (nn < 0) = false := by simp; omega
        have td : decide (fn.locals ≤ nn) = false := by simp; omega
        clear hF hfn hnl hn0 hk1
        generalize fn.locals = lc at *
        go_quiet (fail)
        rename_i nq
        have hkd : Kept (fun _ => False) y1 (y1.drewN nq) := (Kept.refl _ y1).drewN nq
        have HBT := Lib.hid (HBT.out.kept hkd id)
        have HSL := Lib.hid (And.intro (HSL.out.1.kept hkd fun _ _ => id) (And.intro (HSL.out.2.1.kept hkd fun _ _ => id) (And.intro (HSL.out.2.2.1.kept hkd fun _ _ => id) (And.intro (HSL.out.2.2.2.1.kept hkd fun _ _ => id) HSL.out.2.2.2.2))))
        have HK1 := Lib.hid (HK1.out.trans hkd fun _ _ h => h)
        have HD1 := Lib.hid (SfAt.kept hkd (fun _ _ => id) rest b (o + i * 10 + 10) HD1.out)
        clear hkd kk kn kl
        generalize y1.drewN nq = y1d at *
        have HLT := Lib.hid (show (Instr.loadAt 50 (.pointer (some ⟨qa, 0, none⟩))).run Tryz.prog y1d = .ok (.agg ag) y1d from HAG.out ▸ HBT.out.load)
        have HPA := Lib.hid (HAG.out ▸ parts_walk kind nn ao an ak bo bn bk body els HSL.out.2.2.2.2.2.2 y1d D aA aB a8 a9 ak.len cA bk.len cB body.len c8 els.len c9 HSL.out.1 HSL.out.2.1 HSL.out.2.2.1 HSL.out.2.2.2.1 HSL.out.2.2.2.2.1 HSL.out.2.2.2.2.2.1 (fun _ => True) (fun _ _ => trivial) fun _ _ => trivial)
        clear HAG HSL HBT
        go_upto_region 7 with (first
          | ((with_reducible refine wpList_loadE (P := Tryz.prog) (w := y1d) (ty := 50) (x := .tmp 8) (p := .pointer (some ⟨qa, 0, none⟩)) (v := .agg ag) ?_ ?_ ?_ HLT.out ?_); (· exact rfl); (· exact rfl); (· exact rfl))
          | (go_at_call 41; (with_reducible refine HPA.out.mono ?_); rintro e y2 ⟨a1, m1, c1, a2, m2, c2, he, hE, hS, hk2⟩; obtain rfl : e = _ := he; have HE2 := Lib.hid hE.of; have HS2 := Lib.hid hS; have HK2 := Lib.hid (HK1.out.trans hk2 fun _ _ h => h); have HD2 := Lib.hid (SfAt.kept hk2 (fun _ _ => id) rest b (o + i * 10 + 10) HD1.out); clear hE hS hk2 HPA))
        clear HLT HK1 HD1
        go_upto_region 8 with (fail)
        go_loopw [56] (fun t wr => ∃ j : Nat, t = .int .i64 j ∧ Hid (∃ y, j + y.len = m1 ∧ All (RX prog at_) y ∧ (y = .nil ∨ ∃ b o, a1 = some ⟨b, o, none⟩ ∧ EfAt wr (fun _ => True) y b (o + j * 3)) ∧ Kept (fun _ => False) y2 wr)) (fun t _ => m1 - (intOf t).toNat)
        case atStart => exact ⟨0, rfl, Lib.hid ⟨exprs kind ao an ak bo bn bk, by have := HE2.out.2.1; omega, HQ.out.1.2.1, by simpa using HE2.out.2.2, Kept.refl _ _⟩⟩
        case round =>
          obtain ⟨j, rfl, hp⟩ := hrel
          obtain ⟨ye, hj, halle, hate, hkpe⟩ := hp.out
          clear hp
          have HKE := Lib.hid hkpe
          clear hkpe
          cases ye with
          | nil =>
            have t2 : decide (j < m1) = false := by simp [Ef.len] at hj; simp; omega
            clear hj halle hate
            obtain ⟨a9', c9', hl9e, hl2, hlat⟩ := HS2.out
            injection hl9e with e1 e2 e3
            subst e1
            subst e2
            subst e3
            obtain ⟨m2, hm2⟩ : ∃ m, (lists kind body els).length = m := ⟨_, rfl⟩
            rw [hm2] at hl2 ⊢
            have HL2 := Lib.hid (And.intro hl2 (And.intro hm2 hlat))
            clear hl2 hlat
            clear hm2
            go_upto_region 14 with (fail)
            go_loopw [68] (fun t wr => ∃ j : Nat, t = .int .i64 j ∧ Hid (j ≤ m2 ∧ Kept (fun _ => False) y2 wr)) (fun t _ => m2 - (intOf t).toNat)
            case atStart => exact ⟨0, rfl, Lib.hid ⟨Nat.zero_le _, HKE.out⟩⟩
            case round =>
              obtain ⟨k, rfl, hp⟩ := hrel
              have HP := Lib.hid hp.out
              clear hp
              by_cases hkm : k < m2
              · have t3 : decide (k < m2) = true := by simp; omega
                have hk0 : (k : Int) < (m2 : Int) := by omega
                have hkl : k < (lists kind body els).length := by have := HL2.out.2.1; omega
                obtain ⟨xl, hxl⟩ : ∃ xl, (lists kind body els)[k]? = some xl := ⟨_, List.getElem?_eq_getElem hkl⟩
                obtain ⟨b7, o7, ha7, hcell⟩ : ∃ b o, a2 = some ⟨b, o, none⟩ ∧ ∀ i x, (lists kind body els)[i]? = some x → ∃ b8 n8 c8, y2.cell? ⟨b, o + i, none⟩ = some (.slice b8 n8 c8) ∧ SlS y2 (fun _ => True) (.slice b8 n8 c8) x ∧ True := by
                  rcases HL2.out.2.2 with e | ⟨b, o, e, h⟩
                  · rw [e] at hkl; simp at hkl
                  · exact ⟨b, o, e, h⟩
                subst ha7
                obtain ⟨b6, n6, c6, kc, hs6, _⟩ := hcell k xl hxl
                have kc := HP.out.2.cell id kc
                have hw2 : wrap64 ((k : Int) + 1) = ((k + 1 : Nat) : Int) := wrap_i (by have := HL2.out.1; omega)
                have HW2 := Lib.hid hw2
                have HKM := Lib.hid hkm
                have hmem := List.mem_of_getElem? hxl
                have hs7 := hs6.kept (HP.out.2) fun _ _ => id
                have HC2 := Lib.hid (HQ.out.1.2.2.1 xl hmem _ (fun _ => True) _ _ ((HPV.out.kept (HK2.out.trans HP.out.2 fun _ _ h => h) fun _ _ => id).mono fun _ _ => trivial) hs7)
                clear hcell hs6 hs7 hmem hxl hkl hkm
                go_wp2_with (first
                  | (go_at_call 25; (with_reducible refine HC2.out.mono ?_); rintro e y8 ⟨he, hk8⟩; obtain rfl : e = _ := he; have HK8 := Lib.hid (HP.out.2.trans hk8 fun _ _ h => h); clear hk8 HC2))
                
                go_roundw
                case rel => exact ⟨k + 1, by go_num, Lib.hid ⟨HKM.out, HK8.out⟩⟩
                case measure => first | exact meas9 HKM.out HW2.out | exact meas9b HKM.out
              · obtain rfl : k = m2 := by have := HP.out.1; omega
                have t3 : decide (k < k) = false := by simp
                have hw1 := HI.out.2.2
                clear hkm
                go_wp2_with (fail)
                go_roundw
                case rel => exact ⟨i + 1, by go_num, Lib.hid ⟨rest, HI.out.1, HQ.out.2, .inr ⟨b, o, rfl, by rw [show o + (i + 1) * 10 = o + i * 10 + 10 from by omega]; exact SfAt.kept HP.out.2 (fun _ _ => id) rest b (o + i * 10 + 10) HD2.out⟩, HK2.out.trans HP.out.2 fun _ _ h => h⟩⟩
                case measure => first | exact meas9 HI.out.2.1 HI.out.2.2 | exact meas9b HI.out.2.1
          | cons op1 n1 kd reste =>
            obtain ⟨be, oe, hae, hbe⟩ : ∃ b o, a1 = some ⟨b, o, none⟩ ∧ EfAt wr (fun _ => True) (.cons op1 n1 kd reste) b (o + j * 3) := by
              rcases hate with h | h
              · cases h
              · exact h
            clear hate
            subst hae
            have hjn : j < m1 := by simp [Ef.len] at hj; omega
            have t2 : decide (j < m1) = true := by simp; omega
            have hj0 : (j : Int) < (m1 : Int) := by omega
            have HJ : Hid (j + 1 + reste.len = m1 ∧ j < m1 ∧ wrap64 ((j : Int) + 1) = ((j + 1 : Nat) : Int)) := Lib.hid ⟨by simp [Ef.len] at hj; omega, hjn, wrap_i (by have := HE2.out.1; have := HE2.out.2.1; omega)⟩
            unfold EfAt at hbe
            obtain ⟨h1, h2, h3, h4, ⟨a1', c1', h5, h6, h7⟩, h8⟩ := hbe
            have hk1 := kept_alloc9 wr (.cells #[.int .i64 op1, .int .u64 n1, .slice a1' kd.len c1'] 47)
            have HLE := Lib.hid (loadX h3 h4 h5)
            have HX2 := Lib.hid (Bx.new wr (.int .i64 op1) (.int .u64 n1) (.slice a1' kd.len c1') 47).load
            have HE5 := Lib.hid (EfAt.kept hk1 (fun _ _ => id) reste be (oe + j * 3 + 3) h8)
            have HS5 := SlE.kept hk1 (fun _ _ => id) (show SlE wr (fun _ => True) (.slice a1' kd.len c1') kd from ⟨a1', c1', rfl, h6, h7⟩)
            have HC := Lib.hid (halle.1 _ (fun _ => True) _ _ ((HPV.out.kept (HK2.out.trans (HKE.out.trans hk1 fun _ _ h => h) fun _ _ h => h) fun _ _ => id).mono fun _ _ => trivial) HS5)
            have HG9 : Hid ((Tryz.prog.info? 47).map (·.size) = some (#[.int .i64 op1, .int .u64 n1, .slice a1' kd.len c1'] : Array Value).size ∧ zX.size = (#[.int .i64 op1, .int .u64 n1, .slice a1' kd.len c1'] : Array Value).size ∧ (#[.int .i64 op1, .int .u64 n1, .slice a1' kd.len c1'] : Array Value).all (·.oneCell') = true) := Lib.hid ⟨infX, rfl, by simp [Value.oneCell']⟩
            have HR := Lib.hid halle
            have HK5 := Lib.hid (HKE.out.trans hk1 fun _ _ h => h)
            clear h1 h2 h3 h4 h5 h6 h7 h8 hk1 hj hjn halle HKE HS5
            generalize (#[.int .i64 op1, .int .u64 n1, .slice a1' kd.len c1'] : Array Value) = ax at *
            go_upto_region 10 with (first
              | ((with_reducible refine wpList_loadE (P := Tryz.prog) (w := wr) (ty := 47) (x := .tmp 58) (p := .pointer (some ⟨be, oe + j * 3, none⟩)) (v := .agg ax) ?_ ?_ ?_ HLE.out ?_); (· exact rfl); (· exact rfl); (· exact rfl))
              | ((with_reducible refine wpList_store_row (P := Tryz.prog) (w := wr.alloc (.cells zX 47)) ?_ 47 (.tmp 12) (.tmp 59) ?_ wr.heap.size ax ?_ ?_ 47 zX (heap_alloc_last wr _) HG9.out.1 HG9.out.2.1 HG9.out.2.2 ?_); (· exact rfl); (· exact rfl); (· exact rfl); (· exact rfl); rw [World.setRow_alloc_new]; simp only [Act.put]))
            clear HLE HG9
            generalize wr.alloc (.cells ax 47) = y5 at *
            generalize wr.heap.size = qx at *
            have hw3 := HJ.out.2.2
            go_wp2_with (first
              | ((with_reducible refine wpList_loadE (P := Tryz.prog) (w := y5) (ty := 47) (x := .tmp 12) (p := .pointer (some ⟨qx, 0, none⟩)) (v := .agg ax) ?_ ?_ ?_ HX2.out ?_); (· exact rfl); (· exact rfl); (· exact rfl))
              | (go_at_call 44; (with_reducible refine HC.out.mono ?_); rintro e y6 ⟨he, hk6⟩; obtain rfl : e = _ := he; have HK6 := Lib.hid hk6; clear hk6 HC))
            have HE6 := Lib.hid (EfAt.kept HK6.out (fun _ _ => id) reste be (oe + j * 3 + 3) HE5.out)
            go_roundw
            case rel => exact ⟨j + 1, by go_num, Lib.hid ⟨reste, HJ.out.1, HR.out.2, .inr ⟨be, oe, rfl, by rw [show oe + (j + 1) * 3 = oe + j * 3 + 3 from by omega]; exact HE6.out⟩, HK5.out.trans HK6.out fun _ _ h => h⟩⟩
            case measure => first | exact meas9 HJ.out.2.1 HJ.out.2.2 | exact meas9b HJ.out.2.1
      · have kk := HBT.out.c0
        have kn := HBT.out.c1
        have ta : decide (kind < 1) = false := by have := HQ.out.1.1.1; simp; omega
        have tb : decide (7 < kind) = false := by have := HQ.out.1.1.2; simp; omega
        have tk : (kind == 1) = false := by simp [hk1]
        clear hk1
        go_quiet (fail)
        rename_i nq
        have hkd : Kept (fun _ => False) y1 (y1.drewN nq) := (Kept.refl _ y1).drewN nq
        have HBT := Lib.hid (HBT.out.kept hkd id)
        have HSL := Lib.hid (And.intro (HSL.out.1.kept hkd fun _ _ => id) (And.intro (HSL.out.2.1.kept hkd fun _ _ => id) (And.intro (HSL.out.2.2.1.kept hkd fun _ _ => id) (And.intro (HSL.out.2.2.2.1.kept hkd fun _ _ => id) HSL.out.2.2.2.2))))
        have HK1 := Lib.hid (HK1.out.trans hkd fun _ _ h => h)
        have HD1 := Lib.hid (SfAt.kept hkd (fun _ _ => id) rest b (o + i * 10 + 10) HD1.out)
        clear hkd kk kn
        generalize y1.drewN nq = y1d at *
        have HLT := Lib.hid (show (Instr.loadAt 50 (.pointer (some ⟨qa, 0, none⟩))).run Tryz.prog y1d = .ok (.agg ag) y1d from HAG.out ▸ HBT.out.load)
        have HPA := Lib.hid (HAG.out ▸ parts_walk kind nn ao an ak bo bn bk body els HSL.out.2.2.2.2.2.2 y1d D aA aB a8 a9 ak.len cA bk.len cB body.len c8 els.len c9 HSL.out.1 HSL.out.2.1 HSL.out.2.2.1 HSL.out.2.2.2.1 HSL.out.2.2.2.2.1 HSL.out.2.2.2.2.2.1 (fun _ => True) (fun _ _ => trivial) fun _ _ => trivial)
        clear HAG HSL HBT
        go_upto_region 7 with (first
          | ((with_reducible refine wpList_loadE (P := Tryz.prog) (w := y1d) (ty := 50) (x := .tmp 8) (p := .pointer (some ⟨qa, 0, none⟩)) (v := .agg ag) ?_ ?_ ?_ HLT.out ?_); (· exact rfl); (· exact rfl); (· exact rfl))
          | (go_at_call 41; (with_reducible refine HPA.out.mono ?_); rintro e y2 ⟨a1, m1, c1, a2, m2, c2, he, hE, hS, hk2⟩; obtain rfl : e = _ := he; have HE2 := Lib.hid hE.of; have HS2 := Lib.hid hS; have HK2 := Lib.hid (HK1.out.trans hk2 fun _ _ h => h); have HD2 := Lib.hid (SfAt.kept hk2 (fun _ _ => id) rest b (o + i * 10 + 10) HD1.out); clear hE hS hk2 HPA))
        clear HLT HK1 HD1
        go_upto_region 8 with (fail)
        go_loopw [56] (fun t wr => ∃ j : Nat, t = .int .i64 j ∧ Hid (∃ y, j + y.len = m1 ∧ All (RX prog at_) y ∧ (y = .nil ∨ ∃ b o, a1 = some ⟨b, o, none⟩ ∧ EfAt wr (fun _ => True) y b (o + j * 3)) ∧ Kept (fun _ => False) y2 wr)) (fun t _ => m1 - (intOf t).toNat)
        case atStart => exact ⟨0, rfl, Lib.hid ⟨exprs kind ao an ak bo bn bk, by have := HE2.out.2.1; omega, HQ.out.1.2.1, by simpa using HE2.out.2.2, Kept.refl _ _⟩⟩
        case round =>
          obtain ⟨j, rfl, hp⟩ := hrel
          obtain ⟨ye, hj, halle, hate, hkpe⟩ := hp.out
          clear hp
          have HKE := Lib.hid hkpe
          clear hkpe
          cases ye with
          | nil =>
            have t2 : decide (j < m1) = false := by simp [Ef.len] at hj; simp; omega
            clear hj halle hate
            obtain ⟨a9', c9', hl9e, hl2, hlat⟩ := HS2.out
            injection hl9e with e1 e2 e3
            subst e1
            subst e2
            subst e3
            obtain ⟨m2, hm2⟩ : ∃ m, (lists kind body els).length = m := ⟨_, rfl⟩
            rw [hm2] at hl2 ⊢
            have HL2 := Lib.hid (And.intro hl2 (And.intro hm2 hlat))
            clear hl2 hlat
            clear hm2
            go_upto_region 14 with (fail)
            go_loopw [68] (fun t wr => ∃ j : Nat, t = .int .i64 j ∧ Hid (j ≤ m2 ∧ Kept (fun _ => False) y2 wr)) (fun t _ => m2 - (intOf t).toNat)
            case atStart => exact ⟨0, rfl, Lib.hid ⟨Nat.zero_le _, HKE.out⟩⟩
            case round =>
              obtain ⟨k, rfl, hp⟩ := hrel
              have HP := Lib.hid hp.out
              clear hp
              by_cases hkm : k < m2
              · have t3 : decide (k < m2) = true := by simp; omega
                have hk0 : (k : Int) < (m2 : Int) := by omega
                have hkl : k < (lists kind body els).length := by have := HL2.out.2.1; omega
                obtain ⟨xl, hxl⟩ : ∃ xl, (lists kind body els)[k]? = some xl := ⟨_, List.getElem?_eq_getElem hkl⟩
                obtain ⟨b7, o7, ha7, hcell⟩ : ∃ b o, a2 = some ⟨b, o, none⟩ ∧ ∀ i x, (lists kind body els)[i]? = some x → ∃ b8 n8 c8, y2.cell? ⟨b, o + i, none⟩ = some (.slice b8 n8 c8) ∧ SlS y2 (fun _ => True) (.slice b8 n8 c8) x ∧ True := by
                  rcases HL2.out.2.2 with e | ⟨b, o, e, h⟩
                  · rw [e] at hkl; simp at hkl
                  · exact ⟨b, o, e, h⟩
                subst ha7
                obtain ⟨b6, n6, c6, kc, hs6, _⟩ := hcell k xl hxl
                have kc := HP.out.2.cell id kc
                have hw2 : wrap64 ((k : Int) + 1) = ((k + 1 : Nat) : Int) := wrap_i (by have := HL2.out.1; omega)
                have HW2 := Lib.hid hw2
                have HKM := Lib.hid hkm
                have hmem := List.mem_of_getElem? hxl
                have hs7 := hs6.kept (HP.out.2) fun _ _ => id
                have HC2 := Lib.hid (HQ.out.1.2.2.1 xl hmem _ (fun _ => True) _ _ ((HPV.out.kept (HK2.out.trans HP.out.2 fun _ _ h => h) fun _ _ => id).mono fun _ _ => trivial) hs7)
                clear hcell hs6 hs7 hmem hxl hkl hkm
                go_wp2_with (first
                  | (go_at_call 25; (with_reducible refine HC2.out.mono ?_); rintro e y8 ⟨he, hk8⟩; obtain rfl : e = _ := he; have HK8 := Lib.hid (HP.out.2.trans hk8 fun _ _ h => h); clear hk8 HC2))
                
                go_roundw
                case rel => exact ⟨k + 1, by go_num, Lib.hid ⟨HKM.out, HK8.out⟩⟩
                case measure => first | exact meas9 HKM.out HW2.out | exact meas9b HKM.out
              · obtain rfl : k = m2 := by have := HP.out.1; omega
                have t3 : decide (k < k) = false := by simp
                have hw1 := HI.out.2.2
                clear hkm
                go_wp2_with (fail)
                go_roundw
                case rel => exact ⟨i + 1, by go_num, Lib.hid ⟨rest, HI.out.1, HQ.out.2, .inr ⟨b, o, rfl, by rw [show o + (i + 1) * 10 = o + i * 10 + 10 from by omega]; exact SfAt.kept HP.out.2 (fun _ _ => id) rest b (o + i * 10 + 10) HD2.out⟩, HK2.out.trans HP.out.2 fun _ _ h => h⟩⟩
                case measure => first | exact meas9 HI.out.2.1 HI.out.2.2 | exact meas9b HI.out.2.1
          | cons op1 n1 kd reste =>
            obtain ⟨be, oe, hae, hbe⟩ : ∃ b o, a1 = some ⟨b, o, none⟩ ∧ EfAt wr (fun _ => True) (.cons op1 n1 kd reste) b (o + j * 3) := by
              rcases hate with h | h
              · cases h
              · exact h
            clear hate
            subst hae
            have hjn : j < m1 := by simp [Ef.len] at hj; omega
            have t2 : decide (j < m1) = true := by simp; omega
            have hj0 : (j : Int) < (m1 : Int) := by omega
            have HJ : Hid (j + 1 + reste.len = m1 ∧ j < m1 ∧ wrap64 ((j : Int) + 1) = ((j + 1 : Nat) : Int)) := Lib.hid ⟨by simp [Ef.len] at hj; omega, hjn, wrap_i (by have := HE2.out.1; have := HE2.out.2.1; omega)⟩
            unfold EfAt at hbe
            obtain ⟨h1, h2, h3, h4, ⟨a1', c1', h5, h6, h7⟩, h8⟩ := hbe
            have hk1 := kept_alloc9 wr (.cells #[.int .i64 op1, .int .u64 n1, .slice a1' kd.len c1'] 47)
            have HLE := Lib.hid (loadX h3 h4 h5)
            have HX2 := Lib.hid (Bx.new wr (.int .i64 op1) (.int .u64 n1) (.slice a1' kd.len c1') 47).load
            have HE5 := Lib.hid (EfAt.kept hk1 (fun _ _ => id) reste be (oe + j * 3 + 3) h8)
            have HS5 := SlE.kept hk1 (fun _ _ => id) (show SlE wr (fun _ => True) (.slice a1' kd.len c1') kd from ⟨a1', c1', rfl, h6, h7⟩)
            have HC := Lib.hid (halle.1 _ (fun _ => True) _ _ ((HPV.out.kept (HK2.out.trans (HKE.out.trans hk1 fun _ _ h => h) fun _ _ h => h) fun _ _ => id).mono fun _ _ => trivial) HS5)
            have HG9 : Hid ((Tryz.prog.info? 47).map (·.size) = some (#[.int .i64 op1, .int .u64 n1, .slice a1' kd.len c1'] : Array Value).size ∧ zX.size = (#[.int .i64 op1, .int .u64 n1, .slice a1' kd.len c1'] : Array Value).size ∧ (#[.int .i64 op1, .int .u64 n1, .slice a1' kd.len c1'] : Array Value).all (·.oneCell') = true) := Lib.hid ⟨infX, rfl, by simp [Value.oneCell']⟩
            have HR := Lib.hid halle
            have HK5 := Lib.hid (HKE.out.trans hk1 fun _ _ h => h)
            clear h1 h2 h3 h4 h5 h6 h7 h8 hk1 hj hjn halle HKE HS5
            generalize (#[.int .i64 op1, .int .u64 n1, .slice a1' kd.len c1'] : Array Value) = ax at *
            go_upto_region 10 with (first
              | ((with_reducible refine wpList_loadE (P := Tryz.prog) (w := wr) (ty := 47) (x := .tmp 58) (p := .pointer (some ⟨be, oe + j * 3, none⟩)) (v := .agg ax) ?_ ?_ ?_ HLE.out ?_); (· exact rfl); (· exact rfl); (· exact rfl))
              | ((with_reducible refine wpList_store_row (P := Tryz.prog) (w := wr.alloc (.cells zX 47)) ?_ 47 (.tmp 12) (.tmp 59) ?_ wr.heap.size ax ?_ ?_ 47 zX (heap_alloc_last wr _) HG9.out.1 HG9.out.2.1 HG9.out.2.2 ?_); (· exact rfl); (· exact rfl); (· exact rfl); (· exact rfl); rw [World.setRow_alloc_new]; simp only [Act.put]))
            clear HLE HG9
            generalize wr.alloc (.cells ax 47) = y5 at *
            generalize wr.heap.size = qx at *
            have hw3 := HJ.out.2.2
            go_wp2_with (first
              | ((with_reducible refine wpList_loadE (P := Tryz.prog) (w := y5) (ty := 47) (x := .tmp 12) (p := .pointer (some ⟨qx, 0, none⟩)) (v := .agg ax) ?_ ?_ ?_ HX2.out ?_); (· exact rfl); (· exact rfl); (· exact rfl))
              | (go_at_call 44; (with_reducible refine HC.out.mono ?_); rintro e y6 ⟨he, hk6⟩; obtain rfl : e = _ := he; have HK6 := Lib.hid hk6; clear hk6 HC))
            have HE6 := Lib.hid (EfAt.kept HK6.out (fun _ _ => id) reste be (oe + j * 3 + 3) HE5.out)
            go_roundw
            case rel => exact ⟨j + 1, by go_num, Lib.hid ⟨reste, HJ.out.1, HR.out.2, .inr ⟨be, oe, rfl, by rw [show oe + (j + 1) * 3 = oe + j * 3 + 3 from by omega]; exact HE6.out⟩, HK5.out.trans HK6.out fun _ _ h => h⟩⟩
            case measure => first | exact meas9 HJ.out.2.1 HJ.out.2.2 | exact meas9b HJ.out.2.1
end Ir
end Go.Proofs.YtbenjgncbpafbaaGreatDoor
