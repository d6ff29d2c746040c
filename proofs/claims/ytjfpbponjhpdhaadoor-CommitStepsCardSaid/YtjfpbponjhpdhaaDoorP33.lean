/- Merged of Eb. Own work. -/
import Derived.Test.YtjfpbponjhpdhaaDoorP31
import Derived.Test.YtjfpbponjhpdhaaDoorP32
namespace Go.Proofs.YtjfpbponjhpdhaaDoor
open Go.RowKit Go.ChangeShapes
set_option linter.unusedVariables false
set_option linter.unusedSimpArgs false
namespace Vm
open Kc Mk Wt Co
/-- The last place where two memories are unlike, and how many there are. -/
def dfA (f g : Nat → Nat) : Nat → Nat
  | 0 => 0
  | j + 1 => if f j = g j then dfA f g j else j
def dfC (f g : Nat → Nat) : Nat → Nat
  | 0 => 0
  | j + 1 => if f j = g j then dfC f g j else dfC f g j + 1
theorem dfC_le (f g : Nat → Nat) : ∀ n, dfC f g n ≤ n
  | 0 => Nat.le_refl _
  | n + 1 => by
    have := dfC_le f g n
    unfold dfC
    split <;> omega
theorem dfA_lt (f g : Nat → Nat) : ∀ n, dfA f g n ≤ n
  | 0 => Nat.le_refl _
  | n + 1 => by
    have := dfA_lt f g n
    unfold dfA
    split <;> omega
theorem df_zero (f g : Nat → Nat) : ∀ n, dfC f g n = 0 → ∀ j, j < n → f j = g j
  | 0, _, j, hj => absurd hj (Nat.not_lt_zero j)
  | n + 1, h, j, hj => by
    unfold dfC at h
    by_cases e : f n = g n
    · rw [if_pos e] at h
      rcases Nat.lt_or_ge j n with h1 | h1
      · exact df_zero f g n h j h1
      · obtain rfl : j = n := by omega
        exact e
    · rw [if_neg e] at h; omega
theorem df_one (f g : Nat → Nat) : ∀ n, dfC f g n ≤ 1 → (0 < n → dfA f g n < n) ∧ ∀ j, j < n → j ≠ dfA f g n → f j = g j
  | 0, _ => ⟨fun h => absurd h (Nat.lt_irrefl 0), fun j hj => absurd hj (Nat.not_lt_zero j)⟩
  | n + 1, h => by
    unfold dfC at h
    unfold dfA
    by_cases e : f n = g n
    · rw [if_pos e] at h
      rw [if_pos e]
      obtain ⟨h1, h2⟩ := df_one f g n h
      have h3 := dfA_lt f g n
      refine ⟨fun _ => by omega, fun j hj hne => ?_⟩
      rcases Nat.lt_or_ge j n with h4 | h4
      · exact h2 j h4 hne
      · obtain rfl : j = n := by omega
        exact e
    · rw [if_neg e] at h
      rw [if_neg e]
      refine ⟨fun _ => Nat.lt_succ_self n, fun j hj hne => df_zero f g n (by omega) j (by omega)⟩
theorem dfA_eq {f g : Nat → Nat} {j : Nat} (h : f j = g j) : dfA f g (j + 1) = dfA f g j := if_pos h
theorem dfC_eq {f g : Nat → Nat} {j : Nat} (h : f j = g j) : dfC f g (j + 1) = dfC f g j := if_pos h
theorem dfA_ne {f g : Nat → Nat} {j : Nat} (h : ¬ f j = g j) : dfA f g (j + 1) = j := if_neg h
theorem dfC_ne {f g : Nat → Nat} {j : Nat} (h : ¬ f j = g j) : dfC f g (j + 1) = dfC f g j + 1 := if_neg h
theorem mroot_cong {M M' : Mac} (h : ∀ i, i < 8192 → M.mem i = M'.mem i) : mroot M = mroot M' := by
  have e : mg M = mg M' := by
    funext k
    rcases Nat.lt_or_ge k 8192 with hk | hk
    · rw [mg_at M hk, mg_at M' hk, h k hk]
    · unfold mg
      unfold ext
      rw [if_neg (by omega), if_neg (by omega)]
  unfold mroot
  rw [e]
theorem loadMm {w : World} {b : Nat} {M : Mac} (h : IsMac w b M) : (Instr.loadAt 34 (.pointer (some ⟨b, 0, none⟩))).run Tryd.prog w = .ok (.agg (tab 8192 (Co.uv M.mem))) w := by
  have hi : (Tryd.prog.info? 34).map (·.size) = some 8192 := by kernel_rfl
  have hu : Tryd.prog.underlying 34 = some (.array 8192 33) := by kernel_rfl
  refine run_loadAt_mid w b 0 _ ((List.range 8192).map (Co.uv M.mem)) _ (fun j v hv => ?_) hu rfl (by rw [List.length_map, List.length_range]; exact hi)
  obtain ⟨hj, rfl⟩ := List.getElem?_eq_some_iff.1 hv
  simp only [List.length_map, List.length_range] at hj
  have := IsMac.mem h hj
  simpa [Co.uv] using this
theorem run_index_in {P : Program} {w : World} (t e : TypeId) (n : Nat) (cs : Array Value) (k : IntKind) (i : Nat) (v : Value) (h : P.underlying t = some (.array n e)) (h1 : (0 : Int) ≤ (i : Int) ∧ (i : Int) < (n : Int)) (hs : (sizeOf e).run P w = .ok 1 w) (hp : (part e cs (i * 1)).run P w = .ok v w) : (Instr.index t (.agg cs) (.int k i)).run P w = .ok v w := by
  have h2 : i < n := by omega
  rw [Nat.mul_one] at hp
  simp [go_sem, hs] at hp
  simp [Instr.index, run_underlying h, asIntOf, h2, go_sem, hs]
  exact hp
theorem idxMm (f : Nat → Nat) (i : Nat) (hi : i < 8192) (w : World) : (Instr.index 34 (.agg (tab 8192 (Co.uv f))) (.int .i64 i)).run Tryd.prog w = .ok (.int .u64 (f i)) w := by
  have hu : Tryd.prog.underlying 34 = some (.array 8192 33) := by kernel_rfl
  have hs : (sizeOf 33).run Tryd.prog w = .ok 1 w := by kernel_rfl
  have hp : (part 33 (tab 8192 (Co.uv f)) (i * 1)).run Tryd.prog w = .ok (.int .u64 (f i)) w := by
    have h2 := tab_at (n := 8192) (Co.uv f) hi
    have h3 : (sizeOf 33).run Tryd.prog w = .ok 1 w := hs
    unfold part
    simp [go_sem, h2, h3, Co.uv, Tryd.underlying33]
  exact run_index_in 34 33 8192 _ .i64 i _ hu ⟨by omega, by omega⟩ hs hp
/-- One machine with its store, all of it below a number. -/
structure Sg (w : World) (n a s k1 f1 : Nat) (p : Mac × Sto) (y : World) : Prop where
  ma : IsMac y a p.1
  st : ∃ T1, IsSt y T1 s k1 f1 p.2 ∧ (∀ j, UU a T1 k1 f1 j → w.heap.size ≤ j ∧ j < n) ∧ ¬ Foot T1 k1 f1 a
  le : n ≤ y.heap.size
  below : Below w.heap.size w y
theorem Sg.next {w y y' : World} {n a s k1 f1 : Nat} {p : Mac × Sto} (h : Sg w n a s k1 f1 p y) (hb : Below y.heap.size y y') : Sg w n a s k1 f1 p y' := by
  obtain ⟨T1, h1, h2, h3⟩ := h.st
  exact ⟨h.ma.below hb, ⟨T1, h1.below hb, h2, h3⟩, Nat.le_trans h.le hb.size, bl h.below hb⟩
theorem Sg.more {w y : World} {n a s k1 f1 : Nat} {p : Mac × Sto} (h : Sg w n a s k1 f1 p y) : Sg w y.heap.size a s k1 f1 p y := by
  obtain ⟨T1, h1, h2, h3⟩ := h.st
  exact ⟨h.ma, ⟨T1, h1, fun j hj => ⟨(h2 j hj).1, Nat.lt_of_lt_of_le (h2 j hj).2 h.le⟩, h3⟩, Nat.le_refl _, h.below⟩
/-- A word of the machine's box is written. -/
theorem Sg.cell {w y : World} {n a s k1 f1 : Nat} {p : Mac × Sto} {M : Mac} (h : Sg w n a s k1 f1 p y) (i : Nat) (v : Value) (hm : IsMac (y.setCell ⟨a, i, none⟩ v) a M) : Sg w n a s k1 f1 (M, p.2) (y.setCell ⟨a, i, none⟩ v) := by
  obtain ⟨T1, h1, h2, h3⟩ := h.st
  have hk : Kept (fun k => k = a) y (y.setCell ⟨a, i, none⟩ v) := kept_set (S := fun k => k = a) (Kept.refl _ _) a i rfl v
  exact ⟨hm, ⟨T1, h1.kept hk (fun j hj e => h3 (e ▸ .inl hj)) (fun e => h3 (e ▸ .inr (.inl rfl))) (fun e => h3 (e ▸ .inr (.inr rfl))), h2, h3⟩, by simpa using h.le, h.below.setCell (h2 a (.inl rfl)).1 _⟩
theorem Sg.go {w y : World} {n a s k1 f1 : Nat} {p : Mac × Sto} (hT : Laid.KTab w) (h : Sg w n a s k1 f1 p y) :
    ∃ U : Nat → Prop, Om y U a s k1 f1 p.1 p.2 y ∧ (∀ j, U j → j < n) ∧ ∀ (p' : Mac × Sto) (y' : World), Om y U a s k1 f1 p'.1 p'.2 y' → Sg w y'.heap.size a s k1 f1 p' y' := by
  obtain ⟨T1, h1, h3, h5⟩ := h.st
  have hc := inHeap (hT 0 (by decide))
  have hle := h.le
  refine ⟨UU a T1 k1 f1, ⟨h.ma, ⟨T1, h1, fun j hj => ⟨.inl (.inr (.inl hj)), by have := (h3 j (.inr (.inl hj))).2; omega, fun e => h5 (e ▸ .inl hj)⟩⟩, Kept.refl _ _, ktab_below hT h.below, fun hj => by have := (h3 _ hj).1; omega, .inl rfl, fun e => h5 (e ▸ .inr (.inl rfl)), fun e => h5 (e ▸ .inr (.inr rfl)), .inr (.inr (.inl rfl)), .inr (.inr (.inr rfl))⟩, fun j hj => (h3 j hj).2, fun p' y' ho => ?_⟩
  obtain ⟨T', hst', hT'⟩ := ho.st
  have hk := ho.kept
  have z1 := hk.size
  have z2 := h.below.size
  refine ⟨ho.mac, ⟨T', hst', fun j hj => ?_, ?_⟩, Nat.le_refl _, Wt.below_of h.below hk fun i _ hi => (h3 i hi).1⟩
  · rcases hj with hj | hj | hj | hj
    · rw [hj]; exact ⟨(h3 a (.inl rfl)).1, ho.mac.lt⟩
    · refine ⟨?_, (hT' j hj).2.1⟩
      rcases (hT' j hj).1 with g | g
      · exact (h3 j g).1
      · omega
    · have := h3 j (.inr (.inr (.inl hj))); exact ⟨this.1, by omega⟩
    · have := h3 j (.inr (.inr (.inr hj))); exact ⟨this.1, by omega⟩
  · rintro (hj | hj | hj)
    · exact (hT' a hj).2.2 rfl
    · exact h5 (.inr (.inl hj))
    · exact h5 (.inr (.inr hj))
theorem layR_ok {M : Mac} (h : OkM M) (g : Nat → Nat) (hg : ∀ i, g i < 18446744073709551616) : ∀ n, OkM (layR g n M)
  | 0 => h
  | n + 1 => ok_setR (layR_ok h g hg n) n (g n) (hg n)
theorem exec_neqX {o : Oper} {ev : Operand → Value} {u : World} (x y : Operand) (yt : TypeId) (a : Hx) (ho : o.op = .binOp .neq 42 x y yt) (hx : ev x = dv a) (hy : ev y = dv a) : (execOp ev o).run Tryd.prog u = .ok (.value (.bool false)) u := by
  unfold execOp
  simp only [ho, hx, hy, Sem.run_bind, Sem.run_pure, Result.andThen_ok, guardN, neqT]
set_option maxHeartbeats 16000000 in
set_option maxRecDepth 100000 in
theorem commitSteps_in (C : Value) (l : List Nat) (hl : l.length ≤ 8192) (hw : ∀ x ∈ l, x < 18446744073709551616) (a1 : Option Addr) (n1 c1 : Nat) (g : Nat → Nat) (w : World)
    (hC : ∀ y, Below w.heap.size w y → Calls Tryd.prog 8 #[C] y fun e w' => ∃ V q, e = .returned V ∧ w'.ownsRow q 33 1 V l.length (l.map wv') ∧ Below y.heap.size y w')
    (hg : IsUs w a1 n1 g) (hgb : ∀ i, g i < 18446744073709551616) (h1 : n1 ≤ maxLen) (st : Int) (hT : Laid.KTab w) :
    Calls Tryd.prog 3 #[C, .slice a1 n1 c1, .int .i64 st] w fun e w' => e = .returned (.bool true) ∧ Below w.heap.size w w' := by
  obtain ⟨N, hN, hN1⟩ : ∃ N : Nat, wrap64 ((IntKind.u64.wrap st).tmod 30) = (N : Int) ∧ N < 30 := by
    obtain ⟨X, hX, hXl⟩ : ∃ X : Nat, IntKind.u64.wrap st = X ∧ X < 18446744073709551616 := ⟨wN st, wN_eq st, wN_lt st⟩
    refine ⟨X % 30, ?_, Nat.mod_lt _ (by decide)⟩
    rw [hX, Int.tmod_eq_emod_of_nonneg (by omega)]
    unfold wrap64; omega
  obtain ⟨N1, e1⟩ : ∃ N1, N1 = min 16 n1 := ⟨_, rfl⟩
  obtain ⟨M0, hM0⟩ : ∃ M0, loaded l.length (fun j => l.getD j 0) = M0 := ⟨_, rfl⟩
  have HOK : Hid (OkM M0) := Lib.hid (by
    rw [← hM0]
    refine ok_loaded _ _ fun i => ?_
    rw [List.getD_eq_getElem?_getD]
    cases h : l[i]? with
    | none => decide
    | some x => exact hw x (List.mem_of_getElem? h))
  have HN := Lib.hid (And.intro hN hN1)
  have HF := Lib.hid (And.intro hg (And.intro hgb (And.intro h1 e1)))
  have mn := fun ts t k a b w => run_minC (P := Tryd.prog) (ts := ts) (t := t) (k := k) a b w
  have emn : min (16 : Int) (n1 : Int) = (N1 : Int) := by omega
  have HT := Lib.hid hT
  have HL := Lib.hid hl
  have HM0 := Lib.hid hM0
  have HC := Lib.hid hC
  clear hN hN1 hT hl hM0 hC hw hg hgb h1 e1
  have z2 := zeroHash
  have HBH := Lib.hid (fun u : World => buildH0 u)
  generalize hz : (tab 32 fun _ => bv 0#8) = zh at *
  have HZ := Lib.hid hz
  clear hz
  have HZI : Hid ((Tryd.prog.info? 42).map (·.size) = some zh.size ∧ zh.all (·.oneCell') = true ∧ zh.size = 32) := Lib.hid ⟨by rw [← HZ.out]; exact infH _, by rw [← HZ.out]; exact one_bv _ _, by rw [← HZ.out, tab_size]⟩
  go_enter Tryd.func3, Tryd.ntmps3
  have HCW := Lib.hid (HC.out w (Below.refl _ _))
  go_upto_region 2 with (first
    | (go_at_call 8; (with_reducible refine HCW.out.mono ?_); rintro e y2 ⟨V, q, he, hrow, hb⟩; obtain rfl : e = _ := he; have HBW := Lib.hid hb; have HLD := Lib.hid (load_any y2 q V l.length l rfl hrow HL.out); clear hrow hb HCW)
    | (go_at_call 7; (with_reducible refine HLD.out.mono ?_); rintro e y3 ⟨he, hm, hb⟩; obtain rfl : e = _ := he; have H3 : Hid (IsMac y3 y2.heap.size M0 ∧ Below w.heap.size w y3 ∧ w.heap.size ≤ y2.heap.size) := Lib.hid ⟨HM0.out ▸ hm, bl HBW.out hb, HBW.out.size⟩; clear hm hb HLD HBW))
  generalize y2.heap.size = a at *
  have hT3 := ktab_below HT.out H3.out.2.1
  have HN1 := Lib.hid (New_walk y3 hT3 (lowB_le' hT3))
  clear hT3
  go_upto_region 3 with (go_at_call 9; (with_reducible refine HN1.out.mono ?_); rintro e y4 ⟨s, T1, k1, f1, he, hst, hb, hF, hTl, hkt⟩; obtain rfl : e = _ := he; have H4 := Lib.hid (And.intro hst (And.intro hb (And.intro hF hTl))); have HFX := Lib.hid (fixed11_walk y4 hkt); clear hst hb hF hTl hkt HN1)
  go_upto_region 5 with (go_at_call 10; (with_reducible refine HFX.out.mono ?_); rintro e y6 ⟨he, hb⟩; obtain rfl : e = _ := he; have HB6 := Lib.hid hb; clear hb HFX)
  have HSG : Hid (Sg w y4.heap.size a s k1 f1 (M0, nw) y6) := Lib.hid (by
    obtain ⟨g1, g2, g3⟩ := H3.out
    obtain ⟨d1, d2, d3, d4⟩ := H4.out
    have z1 := g1.lt
    have z2 := d1.kin.lt
    have z3 := d2.size
    have z4 := g2.size
    refine ⟨(g1.below d2).below HB6.out, ⟨T1, d1.below HB6.out, ?_, fun h => by have := d3 _ h; omega⟩, HB6.out.size, bl (bl g2 d2) HB6.out⟩
    rintro j (hj | hj | hj | hj)
    · omega
    · exact ⟨by have := d3 j (.inl hj); omega, d4 j hj⟩
    · have := d3 j (.inr (.inl hj)); omega
    · have := d3 j (.inr (.inr hj)); omega)
  generalize y4.heap.size = n at *
  clear H3 H4 HB6
  go_upto_region 6 with (fail)
  try rw [emn]
  clear emn mn
  go_loopw [48] (fun t y => ∃ j : Nat, t = .int .i64 j ∧ Hid (j ≤ N1 ∧ Sg w n a s k1 f1 (layR g j M0, nw) y)) (fun t _ => N1 - (intOf t).toNat)
  case atStart => exact ⟨0, rfl, Lib.hid ⟨Nat.zero_le _, HSG.out⟩⟩
  case round =>
    obtain ⟨j, rfl, hp⟩ := hrel
    have HP := Lib.hid hp.out
    clear hp HSG
    by_cases hlt : j < N1
    · generalize hM : layR g j M0 = M at *
      have HM := Lib.hid hM
      clear hM
      have t1 : decide (j < N1) = true := by simp; omega
      have HJ : Hid (j + 1 ≤ N1 ∧ wrap64 ((j : Int) + 1) = ((j + 1 : Nat) : Int) ∧ j < 16) := Lib.hid ⟨hlt, by have := HF.out.2.2.2; unfold wrap64; omega, by have := HF.out.2.2.2; omega⟩
      have hj1 : (j : Int) < (n1 : Int) := by have := HF.out.2.2.2; omega
      obtain ⟨bq, o, rfl, hcl⟩ := HF.out.1.resolve_left (by have := HF.out.2.2.2; omega)
      have hc2 := hcl j (by have := HF.out.2.2.2; omega)
      generalize hV : g j = V at *
      have HXV := Lib.hid hV
      have HNE : Hid (a ≠ bq) := Lib.hid (by have h1 := inHeap hc2; obtain ⟨T, _, h2, _⟩ := HP.out.2.st; have := (h2 a (.inl rfl)).1; omega)
      have HL9 : Hid (Sg w n a s k1 f1 (M, nw) wr.drew) := Lib.hid (HP.out.2.next (Below.refl _ _).drew)
      have HS : Hid ((fun z : World => z.cell? ⟨bq, o + j, none⟩ = some (.int .u64 V)) wr.drew) := Lib.hid (keep1 HL9.out.below hc2)
      clear hcl hc2 hV hlt
      go_upto_region 8 with (fail)
      clear t1
      refine wp_region_og (fun z : World => z.cell? ⟨bq, o + j, none⟩ = some (.int .u64 V)) (.take 0 (.take 1 (.take 2 (.take 3 (.take 4 (.take 5 (.take 6 (.take 7 (.take 8 (.one 9 .done)))))))))) (by kernel_rfl) (by kernel_rfl) (HS.out) ?_
      generalize wr.drew = z1 at *
      refine og_tk (some 51) (.pointer (some ⟨a, 0, none⟩)) rfl rfl (by go_simp) (fun _ _ => by simp [execOp, go_sem]) ?_
      simp only [Act.put, pS]
      refine og_tk (some 52) (.int .i64 j) rfl rfl (by go_simp) (fun _ _ => by simp [execOp, go_sem]) ?_
      simp only [Act.put, pS]
      refine og_tk (some 53) (.slice (some ⟨bq, o, none⟩) n1 c1) rfl rfl (by go_simp) (fun _ _ => by simp [execOp, go_sem]) ?_
      simp only [Act.put, pS]
      refine og_tk (some 54) (.int .i64 j) rfl rfl (by go_simp) (fun _ _ => by simp [execOp, go_sem]) ?_
      simp only [Act.put, pS]
      refine og_tk (some 55) (.pointer (some ⟨bq, o + j, none⟩)) rfl rfl (by go_simp) (fun _ _ => by simp [execOp, go_sem, hj1, Result.andThen]) ?_
      simp only [Act.put, pS]
      refine og_ld (some 56) 33 (.tmp 55) (.pointer (some ⟨bq, o + j, none⟩)) (.int .u64 V) rfl rfl (by go_simp) rfl rfl (fun y hy => by have h := hy; simp [Instr.loadAt, go_sem, h, Tryd.underlying33]) ?_
      simp only [Act.put, pS]
      refine og_tk (some 57) (.pointer (some ⟨a, 0, none⟩)) rfl rfl (by go_simp) (fun _ _ => by simp [execOp, go_sem]) ?_
      simp only [Act.put, pS]
      refine og_tk (some 58) (.pointer (some ⟨a, 8192, none⟩)) rfl rfl (by go_simp) (fun _ _ => by simp [execOp, go_sem]) ?_
      simp only [Act.put, pS]
      refine og_tk (some 59) (.pointer (some ⟨a, 8192 + j, none⟩)) rfl rfl (by go_simp) (fun y hy => by have h := ix16U a j HJ.out.2.2 y; simp [execOp, go_sem, h, Result.andThen]) ?_
      simp only [Act.put, pS]
      have kd := HL9.out.ma.reg HJ.out.2.2
      have fd := HL9.out.ma.fz (8192 + j)
      have HL10 : Hid (Sg w n a s k1 f1 (setR M j V, nw) (z1.setCell ⟨a, 8192 + j, none⟩ (.int .u64 (V : Int)))) := Lib.hid (HL9.out.cell (8192 + j) (.int .u64 (V : Int)) (HL9.out.ma.setReg HJ.out.2.2 V))
      have HSB : Hid ((fun z : World => z.cell? ⟨bq, o + j, none⟩ = some (.int .u64 V)) (z1.setCell ⟨a, 8192 + j, none⟩ (.int .u64 (V : Int)))) := Lib.hid (by show (z1.setCell ⟨a, 8192 + j, none⟩ (.int .u64 (V : Int))).cell? ⟨bq, o + j, none⟩ = _; rw [cell_setN (Ne.symm HNE.out)]; exact HS.out)
      refine og_f rfl (by go_simp) fun K hK => ?_
      go_simp
      refine hK _ _ HSB.out ?_
      clear hK K kd fd HSB HL9 HS
      try simp only [List.getElem_toArray, List.getElem_cons_succ, List.getElem_cons_zero, Act.put, pS]
      refine og_done (NoPanic.normal ?_)
      generalize z1.setCell ⟨a, 8192 + j, none⟩ (.int .u64 (V : Int)) = z2 at *
      clear hj1
      have hw1 := HJ.out.2.1
      go_wp2_with (fail)
      go_roundw
      case rel => exact ⟨j + 1, by go_num, Lib.hid ⟨HJ.out.1, by show Sg w n a s k1 f1 (setR (layR g j M0) j (g j), nw) z2; rw [HM.out, HXV.out]; exact HL10.out⟩⟩
      case measure => exact meas_loop HJ.out.1 HJ.out.2.1
    · obtain rfl : j = N1 := by have := HP.out.1; omega
      have t1 : decide (j < j) = false := by simp
      clear hlt
      have HOR : Hid (OkM (layR g j M0)) := Lib.hid (layR_ok HOK.out g HF.out.2.1 j)
      generalize layR g j M0 = Mr at *
      have HSQ := Lib.hid (seq_all (Mr, nw) HOR.out 40 (by show 0 + 40 < 1073741824; decide))
      obtain ⟨k, hk1, hk2, hk3, hk4⟩ := first_halt (seqG (Mr, nw)) N (fun i hi => (HSQ.out i (by have := HN.out.2; omega)).2.2.2.2.1)
      have HK := Lib.hid (And.intro hk1 (And.intro hk2 (And.intro hk3 hk4)))
      clear hk1 hk2 hk3 hk4
      have HSG := Lib.hid HP.out.2
      clear HP
      go_upto_region 10 with (fail)
      clear t1
      obtain ⟨U1, ho1, hub, hu1⟩ := Sg.go HT.out HSG.out
      have HU1 := Lib.hid hu1
      have HRUN := Lib.hid (run_walk a s N k (fun i => (seqG (Mr, nw) i).1) (fun i y => Om wr U1 a s k1 f1 (seqG (Mr, nw) i).1 (seqG (Mr, nw) i).2 y) (fun i y h => h.mac)
        (fun i y hi ho => (HSQ.out i (by have := HN.out.2; have := HK.out.1; omega)).2.2.2.2.2 _ _ _ _ _ _ y ho) HK.out.1 HK.out.2.1 HK.out.2.2.1 (by have := HN.out.2; omega) wr ho1)
      rw [← HN.out.1] at HRUN
      clear ho1 hu1 hub HSG
      go_upto_region 11 with (go_at_call 11; (with_reducible refine HRUN.out.mono ?_); rintro e y5 ⟨he, hom⟩; obtain rfl : e = _ := he; have HO5 := Lib.hid hom; clear hom HRUN)
      have HSG : Hid (Sg w y5.heap.size a s k1 f1 (seqG (Mr, nw) N) y5) := Lib.hid (by
        have h := HU1.out (seqG (Mr, nw) k) y5 HO5.out
        rw [HK.out.2.2.2 N HK.out.1 (Nat.le_refl _)]
        exact h)
      have HGN := Lib.hid (HSQ.out N (by have := HN.out.2; omega))
      have HGS := Lib.hid (HSQ.out (N + 1) (by have := HN.out.2; omega)).1
      clear HU1 HO5 HSQ HK
      obtain ⟨p1, hp1⟩ : ∃ p1, seqG (Mr, nw) N = p1 := ⟨_, rfl⟩
      obtain ⟨p2, hp2⟩ : ∃ p2, seqG (Mr, nw) (N + 1) = p2 := ⟨_, rfl⟩
      rw [hp1] at HSG HGN
      rw [hp2] at HGN HGS
      clear hp1 hp2 HOR HOK HF
      have HRO := Lib.hid (Root_walk y5 a p1.1 HSG.out.ma HGN.out.1.mem (ktab_below HT.out HSG.out.below))
      obtain ⟨n5, hn5⟩ : ∃ n5, y5.heap.size = n5 := ⟨_, rfl⟩
      rw [hn5] at HSG
      clear hn5
      go_upto_region 12 with (first
        | (go_at_call 12; (with_reducible refine HRO.out.mono ?_); rintro e y6 ⟨he, hb⟩; obtain rfl : e = _ := he; have H6 := Lib.hid (HSG.out.next hb); clear hb HRO)
        | ((with_reducible refine wpList_store_row (P := Tryd.prog) (w := y6.alloc (.cells zh 42)) ?_ 42 (.tmp 11) (.tmp 71) ?_ y6.heap.size (tab 32 fun i => bv (mroot p1.1 i)) ?_ ?_ 42 zh (heap_alloc_last y6 _) (infH _) ?_ (one_bv _ _) ?_); (· exact rfl); (· exact rfl); (· exact rfl); (· exact rfl); (· rw [HZI.out.2.2, tab_size]); rw [World.setRow_alloc_new]; simp only [Act.put]))
      have H7 : Hid (Sg w n5 a s k1 f1 p1 (y6.alloc (.cells (tab 32 fun i => bv (mroot p1.1 i)) 42)) ∧ (IsTab (y6.alloc (.cells (tab 32 fun i => bv (mroot p1.1 i)) 42)) y6.heap.size 42 32 fun i => bv (mroot p1.1 i)) ∧ n5 ≤ y6.heap.size) := Lib.hid ⟨H6.out.next (ba _ _), IsTab.new y6 _ 32 _, H6.out.le⟩
      clear H6 HSG
      generalize (y6.alloc (.cells (tab 32 fun i => bv (mroot p1.1 i)) 42)) = y7 at *
      generalize y6.heap.size = q11 at *
      have HCP := Lib.hid (Copy_walk y7 a p1.1 H7.out.1.ma)
      go_upto_region 13 with (go_at_call 13; (with_reducible refine HCP.out.mono ?_); rintro e y8 ⟨c, he, hmc, hcl, hb⟩; obtain rfl : e = _ := he; have H8 : Hid (Sg w n5 a s k1 f1 p1 y8 ∧ (IsTab y8 q11 42 32 fun i => bv (mroot p1.1 i)) ∧ n5 ≤ q11 ∧ IsMac y8 c p1.1 ∧ n5 ≤ c) := Lib.hid ⟨H7.out.1.next hb, H7.out.2.1.below hb, H7.out.2.2, hmc, Nat.le_trans H7.out.1.le hcl⟩; clear hb hmc hcl HCP)
      clear H7
      go_upto_region 15 with (fail)
      obtain ⟨U2, ho2, hub2, hu2⟩ := Sg.go HT.out H8.out.1
      have HU2 := Lib.hid (And.intro hub2 hu2)
      have HST := Lib.hid (Step_walk y8 a s (fun w' => Om y8 U2 a s k1 f1 p2.1 p2.2 w') (HGN.out.2.2.2.2.2 _ _ _ _ _ _ y8 ho2))
      clear ho2 hub2 hu2
      go_upto_region 16 with (go_at_call 14; (with_reducible refine HST.out.mono ?_); rintro e y9 ⟨he, ho⟩; obtain rfl : e = _ := he; have HO9 := Lib.hid ho; clear ho HST)
      have H9 : Hid (IsMac y9 a p2.1 ∧ (IsTab y9 q11 42 32 fun i => bv (mroot p1.1 i)) ∧ IsMac y9 c p1.1 ∧ Below w.heap.size w y9) := Lib.hid (by
        obtain ⟨g1, g2, g3, g4, g5⟩ := H8.out
        have hk := HO9.out.kept
        have n1 : ¬ U2 q11 := fun h => by have := HU2.out.1 _ h; omega
        have n2 : ¬ U2 c := fun h => by have := HU2.out.1 _ h; omega
        exact ⟨HO9.out.mac, (hk.block _ (IsTab.lt g2) n1).trans g2, g4.kept hk n2, (HU2.out.2 p2 y9 HO9.out).below⟩)
      have HG : Hid (OkM p1.1 ∧ OkM p2.1) := Lib.hid ⟨HGN.out.1, HGN.out.2.2.1⟩
      clear H8 HO9 HU2 HGN HGS HN HL HM0 HC
      obtain ⟨M1, hM1⟩ : ∃ M1, p1.1 = M1 := ⟨_, rfl⟩
      obtain ⟨M2, hM2⟩ : ∃ M2, p2.1 = M2 := ⟨_, rfl⟩
      rw [hM1, hM2] at H9 HG
      clear hM1 hM2
      have HRO := Lib.hid (Root_walk y9 a M2 H9.out.1 HG.out.2.mem (ktab_below HT.out H9.out.2.2.2))
      go_upto_region 17 with (first
        | (go_at_call 12; (with_reducible refine HRO.out.mono ?_); rintro e y10 ⟨he, hb⟩; obtain rfl : e = _ := he; have H10 : Hid (IsMac y10 a M2 ∧ (IsTab y10 q11 42 32 fun i => bv (mroot M1 i)) ∧ IsMac y10 c M1 ∧ Below w.heap.size w y10) := Lib.hid ⟨H9.out.1.below hb, H9.out.2.1.below hb, H9.out.2.2.1.below hb, bl H9.out.2.2.2 hb⟩; clear hb HRO)
        | ((with_reducible refine wpList_store_row (P := Tryd.prog) (w := y10.alloc (.cells zh 42)) ?_ 42 (.tmp 13) (.tmp 87) ?_ y10.heap.size (tab 32 fun i => bv (mroot M2 i)) ?_ ?_ 42 zh (heap_alloc_last y10 _) (infH _) ?_ (one_bv _ _) ?_); (· exact rfl); (· exact rfl); (· exact rfl); (· exact rfl); (· rw [HZI.out.2.2, tab_size]); rw [World.setRow_alloc_new]; simp only [Act.put]))
      have H11 : Hid (IsMac (y10.alloc (.cells (tab 32 fun i => bv (mroot M2 i)) 42)) a M2 ∧ (IsTab (y10.alloc (.cells (tab 32 fun i => bv (mroot M2 i)) 42)) q11 42 32 fun i => bv (mroot M1 i)) ∧ IsMac (y10.alloc (.cells (tab 32 fun i => bv (mroot M2 i)) 42)) c M1 ∧ Below w.heap.size w (y10.alloc (.cells (tab 32 fun i => bv (mroot M2 i)) 42)) ∧ (IsTab (y10.alloc (.cells (tab 32 fun i => bv (mroot M2 i)) 42)) y10.heap.size 42 32 fun i => bv (mroot M2 i))) := Lib.hid ⟨H10.out.1.below (ba _ _), H10.out.2.1.below (ba _ _), H10.out.2.2.1.below (ba _ _), bl H10.out.2.2.2 (ba _ _), IsTab.new y10 _ 32 _⟩
      clear H9 H10
      generalize (y10.alloc (.cells (tab 32 fun i => bv (mroot M2 i)) 42)) = y11 at *
      generalize y10.heap.size = q13 at *
      have zHd := zeroHd
      have hzs : (tab 19 (hv m0)).size = 19 := tab_size _ _
      have hin := infHd m0
      have hon := oneHd m0
      generalize hz : (tab 19 (hv m0)) = zd at *
      have HZS := Lib.hid (And.intro hzs (And.intro hin hon))
      clear hzs hz hin hon
      have HHO := Lib.hid (HeadOf_ok y11 a M2 H11.out.1)
      go_upto_region 18 with (first
        | (go_at_call 15; (with_reducible refine HHO.out.mono ?_); rintro e y12 ⟨he, hb⟩; obtain rfl : e = _ := he; have H12 : Hid (IsMac y12 a M2 ∧ (IsTab y12 q11 42 32 fun i => bv (mroot M1 i)) ∧ IsMac y12 c M1 ∧ Below w.heap.size w y12 ∧ (IsTab y12 q13 42 32 fun i => bv (mroot M2 i))) := Lib.hid ⟨H11.out.1.below hb, H11.out.2.1.below hb, H11.out.2.2.1.below hb, bl H11.out.2.2.2.1 hb, H11.out.2.2.2.2.below hb⟩; clear hb HHO)
        | ((with_reducible refine wpList_store_row (P := Tryd.prog) (w := y12.alloc (.cells zd 48)) ?_ 48 (.tmp 14) (.tmp 92) ?_ y12.heap.size (tab 19 (hv M2)) ?_ ?_ 48 zd (heap_alloc_last y12 _) (infHd M2) ?_ (oneHd M2) ?_); (· exact rfl); (· exact rfl); (· exact rfl); (· exact rfl); (· rw [HZS.out.1, tab_size]); rw [World.setRow_alloc_new]; simp only [Act.put]))
      have H13 : Hid ((IsMac (y12.alloc (.cells (tab 19 (hv M2)) 48)) a M2 ∧ (IsTab (y12.alloc (.cells (tab 19 (hv M2)) 48)) q11 42 32 fun i => bv (mroot M1 i)) ∧ IsMac (y12.alloc (.cells (tab 19 (hv M2)) 48)) c M1 ∧ Below w.heap.size w (y12.alloc (.cells (tab 19 (hv M2)) 48)) ∧ (IsTab (y12.alloc (.cells (tab 19 (hv M2)) 48)) q13 42 32 fun i => bv (mroot M2 i))) ∧ IsTab (y12.alloc (.cells (tab 19 (hv M2)) 48)) y12.heap.size 48 19 (hv M2)) := Lib.hid ⟨⟨H12.out.1.below (ba _ _), H12.out.2.1.below (ba _ _), H12.out.2.2.1.below (ba _ _), bl H12.out.2.2.2.1 (ba _ _), H12.out.2.2.2.2.below (ba _ _)⟩, IsTab.new y12 48 19 (hv M2)⟩
      clear H11 H12 zHd HZS
      generalize y12.alloc (.cells (tab 19 (hv M2)) 48) = y13 at *
      generalize y12.heap.size = q14 at *
      have HOF := Lib.hid (of_ok y13 a M2 H13.out.1.1 HG.out.2.mem HG.out.2.w (ktab_below HT.out H13.out.1.2.2.2.1))
      go_upto_region 19 with (first
        | (go_at_call 16; (with_reducible refine HOF.out.mono ?_); rintro e y14 ⟨he, hb⟩; obtain rfl : e = _ := he; have H14 : Hid ((IsMac y14 a M2 ∧ (IsTab y14 q11 42 32 fun i => bv (mroot M1 i)) ∧ IsMac y14 c M1 ∧ Below w.heap.size w y14 ∧ (IsTab y14 q13 42 32 fun i => bv (mroot M2 i))) ∧ IsTab y14 q14 48 19 (hv M2)) := Lib.hid ⟨⟨H13.out.1.1.below hb, H13.out.1.2.1.below hb, H13.out.1.2.2.1.below hb, bl H13.out.1.2.2.2.1 hb, H13.out.1.2.2.2.2.below hb⟩, H13.out.2.below hb⟩; clear hb HOF)
        | ((with_reducible refine wpList_store_row (P := Tryd.prog) (w := y14.alloc (.cells zh 42)) ?_ 42 (.tmp 16) (.tmp 97) ?_ y14.heap.size (tab 32 fun i => bv (ofX M2 i)) ?_ ?_ 42 zh (heap_alloc_last y14 _) (infH _) ?_ (one_bv _ _) ?_); (· exact rfl); (· exact rfl); (· exact rfl); (· exact rfl); (· rw [HZI.out.2.2, tab_size]); rw [World.setRow_alloc_new]; simp only [Act.put]))
      have HB17 : Hid (IsMac (y14.alloc (.cells (tab 32 fun i => bv (ofX M2 i)) 42)).drew a M2 ∧ (IsTab (y14.alloc (.cells (tab 32 fun i => bv (ofX M2 i)) 42)).drew q11 42 32 fun i => bv (mroot M1 i)) ∧ IsMac (y14.alloc (.cells (tab 32 fun i => bv (ofX M2 i)) 42)).drew c M1 ∧ Below w.heap.size w (y14.alloc (.cells (tab 32 fun i => bv (ofX M2 i)) 42)).drew ∧ (IsTab (y14.alloc (.cells (tab 32 fun i => bv (ofX M2 i)) 42)).drew q13 42 32 fun i => bv (mroot M2 i))) := Lib.hid (by
        have hb := (ba y14 (.cells (tab 32 fun i => bv (ofX M2 i)) 42)).drew
        exact ⟨H14.out.1.1.below hb, H14.out.1.2.1.below hb, H14.out.1.2.2.1.below hb, bl H14.out.1.2.2.2.1 hb, H14.out.1.2.2.2.2.below hb⟩)
      have HS : Hid ((fun z : World => (IsTab z q13 42 32 fun i => bv (mroot M2 i)) ∧ IsTab z q14 48 19 (hv M2) ∧ (IsTab z y14.heap.size 42 32 fun i => bv (ofX M2 i))) (y14.alloc (.cells (tab 32 fun i => bv (ofX M2 i)) 42)).drew) := Lib.hid ⟨HB17.out.2.2.2.2, (H14.out.2.below (ba _ _)).drew, (IsTab.new y14 _ 32 _).drew⟩
      clear H13 H14
      generalize (y14.alloc (.cells (tab 32 fun i => bv (ofX M2 i)) 42)) = y16 at *
      generalize y14.heap.size = q16 at *
      refine wp_region_og (fun z : World => (IsTab z q13 42 32 fun i => bv (mroot M2 i)) ∧ IsTab z q14 48 19 (hv M2) ∧ (IsTab z q16 42 32 fun i => bv (ofX M2 i))) (.take 0 (.take 1 (.take 2 (.take 3 (.take 4 (.take 5 (.take 6 (.take 7 (.take 8 (.take 9 (.take 10 (.take 11 (.take 12 (.take 13 (.one 14 (.take 15 (.take 16 .done))))))))))))))))) (by kernel_rfl) (by kernel_rfl) (HS.out) ?_
      generalize y16.drew = y17 at *
      refine og_tk (some 99) (.nilIface) rfl rfl (by go_simp) (fun _ _ => by simp [execOp, go_sem]) ?_
      simp only [Act.put, pS]
      refine og_tk (some 100) (.bool false) rfl rfl (by go_simp) (fun _ _ => by simp [execOp, go_sem]) ?_
      simp only [Act.put, pS]
      refine og_tk (some 101) (.bool false) rfl rfl (by go_simp) (fun _ _ => by simp [execOp, go_sem]) ?_
      simp only [Act.put, pS]
      refine og_tk (some 102) (.nilIface) rfl rfl (by go_simp) (fun _ _ => by simp [execOp, go_sem]) ?_
      simp only [Act.put, pS]
      refine og_tk (some 103) (.bool false) rfl rfl (by go_simp) (fun _ _ => by simp [execOp, go_sem]) ?_
      simp only [Act.put, pS]
      refine og_tk (some 104) (.bool false) rfl rfl (by go_simp) (fun _ _ => by simp [execOp, go_sem]) ?_
      simp only [Act.put, pS]
      refine og_tk (some 105) (.bool false) rfl rfl (by go_simp) (fun _ _ => by simp [execOp, go_sem]) ?_
      simp only [Act.put, pS]
      refine og_tk (some 106) (.nilIface) rfl rfl (by go_simp) (fun _ _ => by simp [execOp, go_sem]) ?_
      simp only [Act.put, pS]
      refine og_tk (some 107) (.bool false) rfl rfl (by go_simp) (fun _ _ => by simp [execOp, go_sem]) ?_
      simp only [Act.put, pS]
      refine og_tk (some 108) (.bool false) rfl rfl (by go_simp) (fun _ _ => by simp [execOp, go_sem]) ?_
      simp only [Act.put, pS]
      refine og_tk (some 109) (.bool false) rfl rfl (by go_simp) (fun _ _ => by simp [execOp, go_sem]) ?_
      simp only [Act.put, pS]
      refine og_ld (some 110) 42 (.tmp 16) (.pointer (some ⟨q16, 0, none⟩)) (dv (ofX M2)) rfl rfl (by go_simp) rfl rfl (fun y hy => load32h hy.2.2) ?_
      simp only [Act.put, pS]
      refine og_ld (some 111) 42 (.tmp 13) (.pointer (some ⟨q13, 0, none⟩)) (dv (mroot M2)) rfl rfl (by go_simp) rfl rfl (fun y hy => load32h hy.1) ?_
      simp only [Act.put, pS]
      refine og_ld (some 112) 48 (.tmp 14) (.pointer (some ⟨q14, 0, none⟩)) (.agg (tab 19 (hv M2))) rfl rfl (by go_simp) rfl rfl (fun y hy => loadHd hy.2.1) ?_
      simp only [Act.put, pS]
      have HJN := Lib.hid (join_walk y17 (mroot M2) M2 HG.out.2.w (ktab_below HT.out HB17.out.2.2.2.1))
      refine og_f rfl (by go_simp) fun K hK => ?_
      go_simp
      refine HJN.out.mono ?_
      rintro e y18 ⟨he, hb⟩
      obtain rfl : e = _ := he
      have H18 : Hid (IsMac y18 a M2 ∧ (IsTab y18 q11 42 32 fun i => bv (mroot M1 i)) ∧ IsMac y18 c M1 ∧ Below w.heap.size w y18 ∧ (IsTab y18 q13 42 32 fun i => bv (mroot M2 i))) := Lib.hid ⟨HB17.out.1.below hb, HB17.out.2.1.below hb, HB17.out.2.2.1.below hb, bl HB17.out.2.2.2.1 hb, HB17.out.2.2.2.2.below hb⟩
      have HS18 : Hid ((fun z : World => (IsTab z q13 42 32 fun i => bv (mroot M2 i)) ∧ IsTab z q14 48 19 (hv M2) ∧ (IsTab z q16 42 32 fun i => bv (ofX M2 i))) y18) := Lib.hid ⟨HS.out.1.below hb, HS.out.2.1.below hb, HS.out.2.2.below hb⟩
      refine hK _ _ HS18.out ?_
      clear hK K hb HJN HS HB17
      try simp only [List.getElem_toArray, List.getElem_cons_succ, List.getElem_cons_zero, Act.put, pS]
      refine og_tk (some 114) (.bool false) rfl rfl (by go_simp) (fun y hy => exec_neqX (.tmp 110) (.tmp 113) 42 (ofX M2) rfl rfl rfl) ?_
      simp only [Act.put, pS]
      refine og_tk (some 115) (.bool false) rfl rfl (by go_simp) (fun _ _ => by simp [execOp, go_sem]) ?_
      simp only [Act.put, pS]
      refine og_done (NoPanic.normal ?_)
      clear HS18
      have HLM := Lib.hid (loadMm H18.out.1)
      obtain ⟨cm, hcm⟩ : ∃ cm, tab 8192 (Co.uv M2.mem) = cm := ⟨_, rfl⟩
      have HCM := Lib.hid hcm
      rw [hcm] at HLM
      clear hcm
      go_upto_region 23 with ((with_reducible refine wpList_loadE (P := Tryd.prog) (w := y18) (ty := 34) (x := .tmp 118) (p := .pointer (some ⟨a, 0, none⟩)) (v := .agg cm) ?_ ?_ ?_ HLM.out ?_); (· exact rfl); (· exact rfl); (· exact rfl))
      go_loopw [120, 18, 19] (fun t u v y => ∃ j A D : Nat, t = .int .i64 j ∧ u = .int .u64 A ∧ v = .int .i64 D ∧ Hid (j ≤ 8192 ∧ A = dfA M2.mem M1.mem j ∧ D = dfC M2.mem M1.mem j ∧ IsMac y a M2 ∧ (IsTab y q11 42 32 fun i => bv (mroot M1 i)) ∧ IsMac y c M1 ∧ Below w.heap.size w y ∧ (IsTab y q13 42 32 fun i => bv (mroot M2 i)))) (fun t _ _ _ => 8192 - (intOf t).toNat)
      case atStart => exact ⟨0, 0, 0, rfl, rfl, rfl, Lib.hid ⟨Nat.zero_le _, rfl, rfl, H18.out⟩⟩
      case round =>
        obtain ⟨j, A, D, rfl, rfl, rfl, hp⟩ := hrel
        have HP := Lib.hid hp.out
        clear hp H18 HLM
        by_cases hlt : (j : Int) < 8192
        · have hl8 : j < 8192 := by omega
          have hix := fun u : World => idxMm M2.mem j hl8 u
          rw [HCM.out] at hix
          have hia := fun u : World => ixMem c j hl8 u
          have kc := IsMac.mem HP.out.2.2.2.2.2.1 hl8
          have HJ : Hid (j < 8192 ∧ wrap64 ((j : Int) + 1) = ((j + 1 : Nat) : Int)) := Lib.hid ⟨hl8, wrap_up j (by omega)⟩
          have HD : Hid (wrap64 ((D : Int) + 1) = ((D + 1 : Nat) : Int)) := Lib.hid (wrap_up D (by have h1 := HP.out.2.2.1; have h2 := dfC_le M2.mem M1.mem j; omega))
          have huj : IntKind.u64.wrap (j : Int) = (j : Int) := wrap_nn _ (by omega) (by omega)
          clear hl8
          by_cases he : M2.mem j = M1.mem j
          · have HE := Lib.hid he
            obtain ⟨X, hX⟩ : ∃ X, M1.mem j = X := ⟨_, rfl⟩
            rw [hX] at kc
            rw [he, hX] at hix
            clear he hX
            have hw1 := HJ.out.2
            go_wp2_with (fail)
            go_roundw
            case rel => exact ⟨j + 1, A, D, by go_num, rfl, rfl, Lib.hid ⟨HJ.out.1, HP.out.2.1.trans (dfA_eq HE.out).symm, HP.out.2.2.1.trans (dfC_eq HE.out).symm, HP.out.2.2.2⟩⟩
            case measure => exact (show 8192 - (j + 1) < 8192 - j from Nat.sub_lt_sub_left HJ.out.1 (Nat.lt_succ_self j))
          · have HE := Lib.hid he
            obtain ⟨X, hX⟩ : ∃ X, M1.mem j = X := ⟨_, rfl⟩
            obtain ⟨Y, hY⟩ : ∃ Y, M2.mem j = Y := ⟨_, rfl⟩
            rw [hX] at kc he
            rw [hY] at hix he
            have HXY := Lib.hid (And.intro hX hY)
            clear hX hY
            have t3 : ((Y : Int) == (X : Int)) = false := by simp; omega
            have t4 : ¬ ((Y : Int) = (X : Int)) := by omega
            clear he
            have hw1 := HJ.out.2
            have hw2 := HD.out
            go_wp2_with (fail)
            go_roundw
            case rel => exact ⟨j + 1, j, D + 1, by go_num, by first | rfl | (rw [huj]), by go_num, Lib.hid ⟨HJ.out.1, (dfA_ne HE.out).symm, (by rw [dfC_ne HE.out, HP.out.2.2.1]), HP.out.2.2.2⟩⟩
            case measure => exact (show 8192 - (j + 1) < 8192 - j from Nat.sub_lt_sub_left HJ.out.1 (Nat.lt_succ_self j))
        · obtain rfl : j = 8192 := by have := HP.out.1; omega
          have t1 : decide (((8192 : Nat) : Int) < 8192) = false := by decide
          have t1' : decide ((8192 : Int) < 8192) = false := by decide
          clear hlt
          have HDF := Lib.hid (And.intro HP.out.2.1 HP.out.2.2.1)
          have H18 := Lib.hid HP.out.2.2.2
          clear HP
          rcases Nat.lt_or_ge 1 D with hD | hD
          · have t2 : decide ((1 : Int) < (D : Int)) = true := by simp; omega
            clear hD
            go_wp2_with (fail)
            exact bodyPost_ret (v := .bool true) (by simp [results, Tryd.results3, go_sem]) rfl ⟨rfl, H18.out.2.2.2.1⟩
          · have t2 : decide ((1 : Int) < (D : Int)) = false := by simp; omega
            have HA : Hid (A < 8192 ∧ ∀ j, j < 8192 → j ≠ A → M2.mem j = M1.mem j) := Lib.hid (by
              have h := df_one M2.mem M1.mem 8192 (by rw [← HDF.out.2]; exact hD)
              rw [← HDF.out.1] at h
              exact ⟨h.1 (by decide), h.2⟩)
            have HFO : Hid (fold A (lfX (M1.mem A)) (sib (mg M1) A) 13 = mroot M1 ∧ fold A (lfX (M2.mem A)) (sib (mg M1) A) 13 = mroot M2) := Lib.hid ⟨own_fold M1 HA.out.1, (other_fold M1 HA.out.1 _).trans (mroot_cong fun i hi => by
              show (if i = A then M2.mem A else M1.mem i) = M2.mem i
              by_cases e : i = A
              · rw [if_pos e, e]
              · rw [if_neg e]; exact (HA.out.2 i hi e).symm)⟩
            rcases Nat.eq_zero_or_pos D with hD0 | hD0
            · have HR : Hid (mroot M2 = mroot M1) := Lib.hid (mroot_cong fun i hi => df_zero M2.mem M1.mem 8192 (by rw [← HDF.out.2]; exact hD0) i hi)
              subst hD0
              have t5 : decide ((0 : Int) < ((0 : Nat) : Int)) = false := by decide
              clear hD
              have HPR := Lib.hid (Prove_ok wr c A M1 H18.out.2.2.1 HG.out.1.mem HA.out.1 (ktab_below HT.out H18.out.2.2.2.1))
              go_upto_region 32 with (first
                | (go_at_call 18; (with_reducible refine HPR.out.mono ?_); rintro e y19 ⟨a9, cp, he, hc, hcm, hna, hrow, hb⟩; obtain rfl : e = _ := he; obtain ⟨a8, c8, ev, _, _, hlv⟩ := lv_of_row hrow; obtain ⟨rfl, _, rfl⟩ := Value.slice.inj ev; obtain ⟨ga, rfl, hg1, hg2, hlv⟩ := hlv.resolve_left (fun h => absurd h.1 (by decide)); have H19 : Hid ((IsMac y19 a M2 ∧ (IsTab y19 q11 42 32 fun i => bv (mroot M1 i)) ∧ IsMac y19 c M1 ∧ Below w.heap.size w y19 ∧ (IsTab y19 q13 42 32 fun i => bv (mroot M2 i))) ∧ Lv y19 ga 42 13 (sib (mg M1) A) ∧ 13 ≤ cp) := Lib.hid ⟨⟨H18.out.1.below hb, H18.out.2.1.below hb, H18.out.2.2.1.below hb, bl H18.out.2.2.2.1 hb, H18.out.2.2.2.2.below hb⟩, hlv, hc⟩; clear hb hc hcm hna hrow hlv hg1 hg2 HPR ev)
                | ((with_reducible refine wpList_store_row (P := Tryd.prog) (w := y19.alloc (.cells #[.int .u64 0, .slice none 0 0] 54)) ?_ 54 (.tmp 22) (.tmp 143) ?_ y19.heap.size #[.int .u64 (M1.mem A), .slice (some ⟨ga, 0, none⟩) 13 cp] ?_ ?_ 54 #[.int .u64 0, .slice none 0 0] (heap_alloc_last y19 _) infPt ?_ rfl ?_); (· exact rfl); (· exact rfl); (· exact rfl); (· exact rfl); (· exact rfl); rw [World.setRow_alloc_new]; simp only [Act.put]))
              have H20 : Hid ((IsMac (y19.alloc (.cells #[.int .u64 (M1.mem A), .slice (some ⟨ga, 0, none⟩) 13 cp] 54)).drew a M2 ∧ (IsTab (y19.alloc (.cells #[.int .u64 (M1.mem A), .slice (some ⟨ga, 0, none⟩) 13 cp] 54)).drew q11 42 32 fun i => bv (mroot M1 i)) ∧ IsMac (y19.alloc (.cells #[.int .u64 (M1.mem A), .slice (some ⟨ga, 0, none⟩) 13 cp] 54)).drew c M1 ∧ Below w.heap.size w (y19.alloc (.cells #[.int .u64 (M1.mem A), .slice (some ⟨ga, 0, none⟩) 13 cp] 54)).drew ∧ (IsTab (y19.alloc (.cells #[.int .u64 (M1.mem A), .slice (some ⟨ga, 0, none⟩) 13 cp] 54)).drew q13 42 32 fun i => bv (mroot M2 i))) ∧ Lv (y19.alloc (.cells #[.int .u64 (M1.mem A), .slice (some ⟨ga, 0, none⟩) 13 cp] 54)).drew ga 42 13 (sib (mg M1) A) ∧ 13 ≤ cp ∧ Box2 (y19.alloc (.cells #[.int .u64 (M1.mem A), .slice (some ⟨ga, 0, none⟩) 13 cp] 54)).drew y19.heap.size 54 (.int .u64 (M1.mem A)) (.slice (some ⟨ga, 0, none⟩) 13 cp)) := Lib.hid (by
                have hb := (ba y19 (.cells #[.int .u64 (M1.mem A), .slice (some ⟨ga, 0, none⟩) 13 cp] 54)).drew
                exact ⟨⟨H19.out.1.1.below hb, H19.out.1.2.1.below hb, H19.out.1.2.2.1.below hb, bl H19.out.1.2.2.2.1 hb, H19.out.1.2.2.2.2.below hb⟩, H19.out.2.1.below hb, H19.out.2.2, (Box2.new y19 54 _ _).below (Below.refl _ _).drew⟩)
              clear H18 H19 t1 t1' t2
              generalize y19.alloc (.cells #[.int .u64 (M1.mem A), .slice (some ⟨ga, 0, none⟩) 13 cp] 54) = y20 at *
              generalize y19.heap.size = q22 at *
              refine wp_region_og (fun z : World => (IsTab z q11 42 32 fun i => bv (mroot M1 i)) ∧ Box2 z q22 54 (.int .u64 (M1.mem A)) (.slice (some ⟨ga, 0, none⟩) 13 cp) ∧ IsMac z a M2) (.take 0 (.take 1 (.take 2 (.take 3 (.take 4 (.take 5 (.take 6 (.take 7 (.take 8 (.two 9 (.take 10 (.take 11 (.take 12 (.one 13 (.one 14 (.take 15 .done)))))) 13 (.one 9 (.take 10 (.take 11 (.take 12 (.one 14 (.take 15 .done)))))))))))))))) (by kernel_rfl) (by kernel_rfl) ⟨H20.out.1.2.1, H20.out.2.2.2, H20.out.1.1⟩ ?_
              generalize y20.drew = y21 at *
              refine og_ld (some 146) 42 (.tmp 11) (.pointer (some ⟨q11, 0, none⟩)) (dv (mroot M1)) rfl rfl (by go_simp) rfl rfl (fun y hy => load32h hy.1) ?_
              simp only [Act.put, pS]
              refine og_tk (some 147) (.int .u64 A) rfl rfl (by go_simp) (fun _ _ => by simp [execOp, go_sem]) ?_
              simp only [Act.put, pS]
              refine og_ld (some 148) 54 (.tmp 22) (.pointer (some ⟨q22, 0, none⟩)) (.agg #[.int .u64 (M1.mem A), .slice (some ⟨ga, 0, none⟩) 13 cp]) rfl rfl (by go_simp) rfl rfl (fun y hy => loadPt hy.2.1) ?_
              simp only [Act.put, pS]
              refine og_tk (some 149) (.pointer (some ⟨a, 0, none⟩)) rfl rfl (by go_simp) (fun _ _ => by simp [execOp, go_sem]) ?_
              simp only [Act.put, pS]
              refine og_tk (some 150) (.int .u64 A) rfl rfl (by go_simp) (fun _ _ => by simp [execOp, go_sem]) ?_
              simp only [Act.put, pS]
              refine og_tk (some 151) (.pointer (some ⟨a, 0, none⟩)) rfl rfl (by go_simp) (fun _ _ => by simp [execOp, go_sem]) ?_
              simp only [Act.put, pS]
              refine og_tk (some 152) (.pointer (some ⟨a, 0, none⟩)) rfl rfl (by go_simp) (fun _ _ => by simp [execOp, go_sem]) ?_
              simp only [Act.put, pS]
              refine og_tk (some 153) (.pointer (some ⟨a, A, none⟩)) rfl rfl (by go_simp) (fun y hy => by have h := ixMemU a A HA.out.1 y; simp [execOp, go_sem, h, Result.andThen]) ?_
              simp only [Act.put, pS]
              refine og_ld (some 154) 33 (.tmp 153) (.pointer (some ⟨a, A, none⟩)) (.int .u64 (M2.mem A)) rfl rfl (by go_simp) rfl rfl (fun y hy => by have h := IsMac.mem hy.2.2 HA.out.1; simp [Instr.loadAt, go_sem, h, Tryd.underlying33]) ?_
              simp only [Act.put, pS]
              have hh := Write_ok y21 (mroot M1) A (M1.mem A) (M2.mem A) 13 cp (some ⟨ga, 0, none⟩) (sib (mg M1) A) (Or.inr ⟨ga, 0, rfl, H20.out.2.1.at5⟩) H20.out.2.2.1 HA.out.1 (HG.out.1.mem A) (HG.out.2.mem A) (ktab_below HT.out H20.out.1.2.2.2.1) rfl (by rw [HFO.out.1, same_refl])
              rw [HFO.out.2] at hh
              have HW := Lib.hid hh
              clear hh
              refine og_two (og_of rfl (by go_simp) fun K hK => ?_) (og_of rfl (by go_simp) fun K hK => ?_)
              · go_simp
                refine HW.out.mono ?_
                rintro e y22 ⟨he, hb⟩
                obtain rfl : e = _ := he
                have HB := Lib.hid hb
                refine hK _ _ ⟨H20.out.1.2.1.below hb, H20.out.2.2.2.below hb, H20.out.1.1.below hb⟩ ?_
                clear hK K hb HW
                try simp only [List.getElem_toArray, List.getElem_cons_succ, List.getElem_cons_zero, Act.put, pS]
                refine og_tk (some 145) (.tuple #[dv (mroot M2), .nilIface]) rfl rfl (by go_simp) (fun _ _ => by simp [execOp, go_sem]) ?_
                simp only [Act.put, pS]
                refine og_tk (some 156) (dv (mroot M2)) rfl rfl (by go_simp) (fun _ _ => by simp [execOp, go_sem]) ?_
                simp only [Act.put, pS]
                refine og_tk (some 157) (.nilIface) rfl rfl (by go_simp) (fun _ _ => by simp [execOp, go_sem]) ?_
                simp only [Act.put, pS]
                refine og_f rfl (by go_simp) fun K hK => ?_
                go_simp
                have hb2 : Below y21.heap.size y21 (y22.alloc (.cells zh 42)) := HB.out.trans ((ba _ _).mono HB.out.size)
                refine hK _ _ ⟨H20.out.1.2.1.below hb2, H20.out.2.2.2.below hb2, H20.out.1.1.below hb2⟩ ?_
                clear hK K hb2
                try simp only [List.getElem_toArray, List.getElem_cons_succ, List.getElem_cons_zero, Act.put, pS]
                have HQ : Hid ((y22.alloc (.cells zh 42)).heap[y22.heap.size]? = some (.cells zh 42 (0, 0)) ∧ (IsTab (y22.alloc (.cells zh 42)) q13 42 32 fun i => bv (mroot M2 i)) ∧ q13 ≠ y22.heap.size ∧ (IsTab (y22.alloc (.cells zh 42)) q11 42 32 fun i => bv (mroot M1 i)) ∧ q11 ≠ y22.heap.size ∧ Below w.heap.size w (y22.alloc (.cells zh 42)) ∧ w.heap.size ≤ y22.heap.size ∧ Box2 (y22.alloc (.cells zh 42)) q22 54 (.int .u64 (M1.mem A)) (.slice (some ⟨ga, 0, none⟩) 13 cp) ∧ q22 ≠ y22.heap.size ∧ IsMac (y22.alloc (.cells zh 42)) a M2 ∧ a ≠ y22.heap.size) := Lib.hid (by
                  have g := H20.out
                  have hb : Below y21.heap.size y21 (y22.alloc (.cells zh 42)) := HB.out.trans ((ba _ _).mono HB.out.size)
                  have z1 := IsTab.lt g.1.2.2.2.2
                  have z2 := IsTab.lt g.1.2.1
                  have z3 := IsTab.lt g.2.2.2
                  have z4 := g.1.1.lt
                  have z5 := g.1.2.2.2.1.size
                  have z6 : y21.heap.size ≤ y22.heap.size := HB.out.size
                  exact ⟨heap_alloc_last y22 _, g.1.2.2.2.2.below hb, by omega, g.1.2.1.below hb, by omega, bl g.1.2.2.2.1 hb, by omega, g.2.2.2.below hb, by omega, g.1.1.below hb, by omega⟩)
                clear H20 HB
                generalize y22.alloc (.cells zh 42) = y23 at *
                generalize y22.heap.size = q23 at *
                refine og_f rfl (by go_simp) fun K hK => ?_
                refine wp_store_row 42 (.tmp 23) (.tmp 156) rfl q23 (tab 32 fun i => bv (mroot M2 i)) rfl rfl 42 zh HQ.out.1 (infH _) (by rw [HZI.out.2.2, tab_size]) (one_bv _ _) ?_
                have HFN : Hid (IsTab (y23.setRow q23 (tab 32 fun i => bv (mroot M2 i))) q23 42 32 (fun i => bv (mroot M2 i)) ∧ (IsTab (y23.setRow q23 (tab 32 fun i => bv (mroot M2 i))) q13 42 32 fun i => bv (mroot M2 i)) ∧ (IsTab (y23.setRow q23 (tab 32 fun i => bv (mroot M2 i))) q11 42 32 fun i => bv (mroot M1 i)) ∧ Below w.heap.size w (y23.setRow q23 (tab 32 fun i => bv (mroot M2 i)))) := Lib.hid ⟨setRow_heap y23 q23 _ _ _ _ HQ.out.1, HQ.out.2.1.rowOther HQ.out.2.2.1, HQ.out.2.2.2.1.rowOther HQ.out.2.2.2.2.1, below_setRow HQ.out.2.2.2.2.2.1 HQ.out.2.2.2.2.2.2.1 _⟩
                refine hK _ _ ⟨HQ.out.2.2.2.1.rowOther HQ.out.2.2.2.2.1, IsTab.rowOther HQ.out.2.2.2.2.2.2.2.1 HQ.out.2.2.2.2.2.2.2.2.1, IsTab.rowOther HQ.out.2.2.2.2.2.2.2.2.2.1 HQ.out.2.2.2.2.2.2.2.2.2.2⟩ ?_
                clear hK K HQ
                try simp only [List.getElem_toArray, List.getElem_cons_succ, List.getElem_cons_zero, Act.put, pS]
                refine og_tk (some 15) (.nilIface) rfl rfl (by go_simp) (fun _ _ => by simp [execOp, go_sem]) ?_
                simp only [Act.put, pS]
                refine og_done (NoPanic.normal ?_)
                generalize (y23.setRow q23 (tab 32 fun i => bv (mroot M2 i))) = yf at *
                have HL23 := Lib.hid (load32h HFN.out.1)
                have HL13 := Lib.hid (load32h HFN.out.2.1)
                have HL11 := Lib.hid (load32h HFN.out.2.2.1)
                rw [HR.out] at HL23 HL13
                go_wp2_with (first
                  | ((with_reducible refine wpList_loadG (P := Tryd.prog) (w := yf) (ty := 42) (x := .tmp 23) (p := .pointer (some ⟨q23, 0, none⟩)) (v := dv (mroot M1)) ?_ ?_ ?_ HL23.out ?_); rotate_left; (· exact rfl); (· exact rfl); rotate_left; (· go_simp))
                  | ((with_reducible refine wpList_loadG (P := Tryd.prog) (w := yf) (ty := 42) (x := .tmp 13) (p := .pointer (some ⟨q13, 0, none⟩)) (v := dv (mroot M1)) ?_ ?_ ?_ HL13.out ?_); rotate_left; (· exact rfl); (· exact rfl); rotate_left; (· go_simp))
                  | ((with_reducible refine wpList_loadG (P := Tryd.prog) (w := yf) (ty := 42) (x := .tmp 11) (p := .pointer (some ⟨q11, 0, none⟩)) (v := dv (mroot M1)) ?_ ?_ ?_ HL11.out ?_); rotate_left; (· exact rfl); (· exact rfl); rotate_left; (· go_simp))
                  | (refine wpList_eqG (by go_simp) (.tmp 165) (.tmp 166) 42 (mroot M1) (mroot M1) rfl rfl rfl ?_; rw [same_refl])
                  | (refine wpList_eqG (by go_simp) (.tmp 173) (.tmp 174) 42 (mroot M1) (mroot M1) rfl rfl rfl ?_; rw [same_refl]))
                exact bodyPost_ret (v := .bool true) (by simp [results, Tryd.results3, go_sem]) rfl ⟨rfl, HFN.out.2.2.2⟩
              · clear HW
                go_simp
                have hb2 : Below y21.heap.size y21 (y21.alloc (.cells zh 42)) := ba _ _
                refine hK _ _ ⟨H20.out.1.2.1.below hb2, H20.out.2.2.2.below hb2, H20.out.1.1.below hb2⟩ ?_
                clear hK K
                try simp only [List.getElem_toArray, List.getElem_cons_succ, List.getElem_cons_zero, Act.put, pS]
                have HB2 : Hid (Below y21.heap.size y21 (y21.alloc (.cells zh 42)) ∧ (y21.alloc (.cells zh 42)).heap[y21.heap.size]? = some (.cells zh 42 (0, 0))) := Lib.hid ⟨hb2, heap_alloc_last y21 _⟩
                have hh := Write_ok (y21.alloc (.cells zh 42)) (mroot M1) A (M1.mem A) (M2.mem A) 13 cp (some ⟨ga, 0, none⟩) (sib (mg M1) A) (Or.inr ⟨ga, 0, rfl, (H20.out.2.1.below hb2).at5⟩) H20.out.2.2.1 HA.out.1 (HG.out.1.mem A) (HG.out.2.mem A) (ktab_below HT.out (bl H20.out.1.2.2.2.1 hb2)) rfl (by rw [HFO.out.1, same_refl])
                rw [HFO.out.2] at hh
                have HW := Lib.hid hh
                clear hh
                clear hb2
                generalize y21.alloc (.cells zh 42) = y22 at *
                refine og_f rfl (by go_simp) fun K hK => ?_
                go_simp
                refine HW.out.mono ?_
                rintro e y23 ⟨he, hb⟩
                obtain rfl : e = _ := he
                have HB : Hid (Below y21.heap.size y21 y23 ∧ y23.heap[y21.heap.size]? = some (.cells zh 42 (0, 0))) := Lib.hid ⟨HB2.out.1.trans (hb.mono HB2.out.1.size), by rw [hb.block _ (Array.getElem?_eq_some_iff.1 HB2.out.2).1]; exact HB2.out.2⟩
                refine hK _ _ ⟨H20.out.1.2.1.below HB.out.1, H20.out.2.2.2.below HB.out.1, H20.out.1.1.below HB.out.1⟩ ?_
                clear hK K hb HW HB2
                try simp only [List.getElem_toArray, List.getElem_cons_succ, List.getElem_cons_zero, Act.put, pS]
                refine og_tk (some 145) (.tuple #[dv (mroot M2), .nilIface]) rfl rfl (by go_simp) (fun _ _ => by simp [execOp, go_sem]) ?_
                simp only [Act.put, pS]
                refine og_tk (some 156) (dv (mroot M2)) rfl rfl (by go_simp) (fun _ _ => by simp [execOp, go_sem]) ?_
                simp only [Act.put, pS]
                refine og_tk (some 157) (.nilIface) rfl rfl (by go_simp) (fun _ _ => by simp [execOp, go_sem]) ?_
                simp only [Act.put, pS]
                have HQ : Hid (y23.heap[y21.heap.size]? = some (.cells zh 42 (0, 0)) ∧ (IsTab y23 q13 42 32 fun i => bv (mroot M2 i)) ∧ q13 ≠ y21.heap.size ∧ (IsTab y23 q11 42 32 fun i => bv (mroot M1 i)) ∧ q11 ≠ y21.heap.size ∧ Below w.heap.size w y23 ∧ w.heap.size ≤ y21.heap.size ∧ Box2 y23 q22 54 (.int .u64 (M1.mem A)) (.slice (some ⟨ga, 0, none⟩) 13 cp) ∧ q22 ≠ y21.heap.size ∧ IsMac y23 a M2 ∧ a ≠ y21.heap.size) := Lib.hid (by
                  have g := H20.out
                  have hb : Below y21.heap.size y21 y23 := HB.out.1
                  have z1 := IsTab.lt g.1.2.2.2.2
                  have z2 := IsTab.lt g.1.2.1
                  have z3 := IsTab.lt g.2.2.2
                  have z4 := g.1.1.lt
                  have z5 := g.1.2.2.2.1.size
                  have z6 : y21.heap.size ≤ y21.heap.size := Nat.le_refl _
                  exact ⟨HB.out.2, g.1.2.2.2.2.below hb, by omega, g.1.2.1.below hb, by omega, bl g.1.2.2.2.1 hb, by omega, g.2.2.2.below hb, by omega, g.1.1.below hb, by omega⟩)
                clear H20 HB
                generalize y21.heap.size = q23 at *
                refine og_f rfl (by go_simp) fun K hK => ?_
                refine wp_store_row 42 (.tmp 23) (.tmp 156) rfl q23 (tab 32 fun i => bv (mroot M2 i)) rfl rfl 42 zh HQ.out.1 (infH _) (by rw [HZI.out.2.2, tab_size]) (one_bv _ _) ?_
                have HFN : Hid (IsTab (y23.setRow q23 (tab 32 fun i => bv (mroot M2 i))) q23 42 32 (fun i => bv (mroot M2 i)) ∧ (IsTab (y23.setRow q23 (tab 32 fun i => bv (mroot M2 i))) q13 42 32 fun i => bv (mroot M2 i)) ∧ (IsTab (y23.setRow q23 (tab 32 fun i => bv (mroot M2 i))) q11 42 32 fun i => bv (mroot M1 i)) ∧ Below w.heap.size w (y23.setRow q23 (tab 32 fun i => bv (mroot M2 i)))) := Lib.hid ⟨setRow_heap y23 q23 _ _ _ _ HQ.out.1, HQ.out.2.1.rowOther HQ.out.2.2.1, HQ.out.2.2.2.1.rowOther HQ.out.2.2.2.2.1, below_setRow HQ.out.2.2.2.2.2.1 HQ.out.2.2.2.2.2.2.1 _⟩
                refine hK _ _ ⟨HQ.out.2.2.2.1.rowOther HQ.out.2.2.2.2.1, IsTab.rowOther HQ.out.2.2.2.2.2.2.2.1 HQ.out.2.2.2.2.2.2.2.2.1, IsTab.rowOther HQ.out.2.2.2.2.2.2.2.2.2.1 HQ.out.2.2.2.2.2.2.2.2.2.2⟩ ?_
                clear hK K HQ
                try simp only [List.getElem_toArray, List.getElem_cons_succ, List.getElem_cons_zero, Act.put, pS]
                refine og_tk (some 15) (.nilIface) rfl rfl (by go_simp) (fun _ _ => by simp [execOp, go_sem]) ?_
                simp only [Act.put, pS]
                refine og_done (NoPanic.normal ?_)
                generalize (y23.setRow q23 (tab 32 fun i => bv (mroot M2 i))) = yf at *
                have HL23 := Lib.hid (load32h HFN.out.1)
                have HL13 := Lib.hid (load32h HFN.out.2.1)
                have HL11 := Lib.hid (load32h HFN.out.2.2.1)
                rw [HR.out] at HL23 HL13
                go_wp2_with (first
                  | ((with_reducible refine wpList_loadG (P := Tryd.prog) (w := yf) (ty := 42) (x := .tmp 23) (p := .pointer (some ⟨q23, 0, none⟩)) (v := dv (mroot M1)) ?_ ?_ ?_ HL23.out ?_); rotate_left; (· exact rfl); (· exact rfl); rotate_left; (· go_simp))
                  | ((with_reducible refine wpList_loadG (P := Tryd.prog) (w := yf) (ty := 42) (x := .tmp 13) (p := .pointer (some ⟨q13, 0, none⟩)) (v := dv (mroot M1)) ?_ ?_ ?_ HL13.out ?_); rotate_left; (· exact rfl); (· exact rfl); rotate_left; (· go_simp))
                  | ((with_reducible refine wpList_loadG (P := Tryd.prog) (w := yf) (ty := 42) (x := .tmp 11) (p := .pointer (some ⟨q11, 0, none⟩)) (v := dv (mroot M1)) ?_ ?_ ?_ HL11.out ?_); rotate_left; (· exact rfl); (· exact rfl); rotate_left; (· go_simp))
                  | (refine wpList_eqG (by go_simp) (.tmp 165) (.tmp 166) 42 (mroot M1) (mroot M1) rfl rfl rfl ?_; rw [same_refl])
                  | (refine wpList_eqG (by go_simp) (.tmp 173) (.tmp 174) 42 (mroot M1) (mroot M1) rfl rfl rfl ?_; rw [same_refl]))
                exact bodyPost_ret (v := .bool true) (by simp [results, Tryd.results3, go_sem]) rfl ⟨rfl, HFN.out.2.2.2⟩
            · obtain rfl : D = 1 := by omega
              have t5 : decide ((0 : Int) < ((1 : Nat) : Int)) = true := by decide
              clear hD hD0
              have HPR := Lib.hid (Prove_ok wr c A M1 H18.out.2.2.1 HG.out.1.mem HA.out.1 (ktab_below HT.out H18.out.2.2.2.1))
              go_upto_region 32 with (first
                | (go_at_call 18; (with_reducible refine HPR.out.mono ?_); rintro e y19 ⟨a9, cp, he, hc, hcm, hna, hrow, hb⟩; obtain rfl : e = _ := he; obtain ⟨a8, c8, ev, _, _, hlv⟩ := lv_of_row hrow; obtain ⟨rfl, _, rfl⟩ := Value.slice.inj ev; obtain ⟨ga, rfl, hg1, hg2, hlv⟩ := hlv.resolve_left (fun h => absurd h.1 (by decide)); have H19 : Hid ((IsMac y19 a M2 ∧ (IsTab y19 q11 42 32 fun i => bv (mroot M1 i)) ∧ IsMac y19 c M1 ∧ Below w.heap.size w y19 ∧ (IsTab y19 q13 42 32 fun i => bv (mroot M2 i))) ∧ Lv y19 ga 42 13 (sib (mg M1) A) ∧ 13 ≤ cp) := Lib.hid ⟨⟨H18.out.1.below hb, H18.out.2.1.below hb, H18.out.2.2.1.below hb, bl H18.out.2.2.2.1 hb, H18.out.2.2.2.2.below hb⟩, hlv, hc⟩; clear hb hc hcm hna hrow hlv hg1 hg2 HPR ev)
                | ((with_reducible refine wpList_store_row (P := Tryd.prog) (w := y19.alloc (.cells #[.int .u64 0, .slice none 0 0] 54)) ?_ 54 (.tmp 22) (.tmp 143) ?_ y19.heap.size #[.int .u64 (M1.mem A), .slice (some ⟨ga, 0, none⟩) 13 cp] ?_ ?_ 54 #[.int .u64 0, .slice none 0 0] (heap_alloc_last y19 _) infPt ?_ rfl ?_); (· exact rfl); (· exact rfl); (· exact rfl); (· exact rfl); (· exact rfl); rw [World.setRow_alloc_new]; simp only [Act.put]))
              have H20 : Hid ((IsMac (y19.alloc (.cells #[.int .u64 (M1.mem A), .slice (some ⟨ga, 0, none⟩) 13 cp] 54)).drew a M2 ∧ (IsTab (y19.alloc (.cells #[.int .u64 (M1.mem A), .slice (some ⟨ga, 0, none⟩) 13 cp] 54)).drew q11 42 32 fun i => bv (mroot M1 i)) ∧ IsMac (y19.alloc (.cells #[.int .u64 (M1.mem A), .slice (some ⟨ga, 0, none⟩) 13 cp] 54)).drew c M1 ∧ Below w.heap.size w (y19.alloc (.cells #[.int .u64 (M1.mem A), .slice (some ⟨ga, 0, none⟩) 13 cp] 54)).drew ∧ (IsTab (y19.alloc (.cells #[.int .u64 (M1.mem A), .slice (some ⟨ga, 0, none⟩) 13 cp] 54)).drew q13 42 32 fun i => bv (mroot M2 i))) ∧ Lv (y19.alloc (.cells #[.int .u64 (M1.mem A), .slice (some ⟨ga, 0, none⟩) 13 cp] 54)).drew ga 42 13 (sib (mg M1) A) ∧ 13 ≤ cp ∧ Box2 (y19.alloc (.cells #[.int .u64 (M1.mem A), .slice (some ⟨ga, 0, none⟩) 13 cp] 54)).drew y19.heap.size 54 (.int .u64 (M1.mem A)) (.slice (some ⟨ga, 0, none⟩) 13 cp)) := Lib.hid (by
                have hb := (ba y19 (.cells #[.int .u64 (M1.mem A), .slice (some ⟨ga, 0, none⟩) 13 cp] 54)).drew
                exact ⟨⟨H19.out.1.1.below hb, H19.out.1.2.1.below hb, H19.out.1.2.2.1.below hb, bl H19.out.1.2.2.2.1 hb, H19.out.1.2.2.2.2.below hb⟩, H19.out.2.1.below hb, H19.out.2.2, (Box2.new y19 54 _ _).below (Below.refl _ _).drew⟩)
              clear H18 H19 t1 t1' t2
              generalize y19.alloc (.cells #[.int .u64 (M1.mem A), .slice (some ⟨ga, 0, none⟩) 13 cp] 54) = y20 at *
              generalize y19.heap.size = q22 at *
              refine wp_region_og (fun z : World => (IsTab z q11 42 32 fun i => bv (mroot M1 i)) ∧ Box2 z q22 54 (.int .u64 (M1.mem A)) (.slice (some ⟨ga, 0, none⟩) 13 cp) ∧ IsMac z a M2) (.take 0 (.take 1 (.take 2 (.take 3 (.take 4 (.take 5 (.take 6 (.take 7 (.take 8 (.two 9 (.take 10 (.take 11 (.take 12 (.one 13 (.one 14 (.take 15 .done)))))) 13 (.one 9 (.take 10 (.take 11 (.take 12 (.one 14 (.take 15 .done)))))))))))))))) (by kernel_rfl) (by kernel_rfl) ⟨H20.out.1.2.1, H20.out.2.2.2, H20.out.1.1⟩ ?_
              generalize y20.drew = y21 at *
              refine og_ld (some 146) 42 (.tmp 11) (.pointer (some ⟨q11, 0, none⟩)) (dv (mroot M1)) rfl rfl (by go_simp) rfl rfl (fun y hy => load32h hy.1) ?_
              simp only [Act.put, pS]
              refine og_tk (some 147) (.int .u64 A) rfl rfl (by go_simp) (fun _ _ => by simp [execOp, go_sem]) ?_
              simp only [Act.put, pS]
              refine og_ld (some 148) 54 (.tmp 22) (.pointer (some ⟨q22, 0, none⟩)) (.agg #[.int .u64 (M1.mem A), .slice (some ⟨ga, 0, none⟩) 13 cp]) rfl rfl (by go_simp) rfl rfl (fun y hy => loadPt hy.2.1) ?_
              simp only [Act.put, pS]
              refine og_tk (some 149) (.pointer (some ⟨a, 0, none⟩)) rfl rfl (by go_simp) (fun _ _ => by simp [execOp, go_sem]) ?_
              simp only [Act.put, pS]
              refine og_tk (some 150) (.int .u64 A) rfl rfl (by go_simp) (fun _ _ => by simp [execOp, go_sem]) ?_
              simp only [Act.put, pS]
              refine og_tk (some 151) (.pointer (some ⟨a, 0, none⟩)) rfl rfl (by go_simp) (fun _ _ => by simp [execOp, go_sem]) ?_
              simp only [Act.put, pS]
              refine og_tk (some 152) (.pointer (some ⟨a, 0, none⟩)) rfl rfl (by go_simp) (fun _ _ => by simp [execOp, go_sem]) ?_
              simp only [Act.put, pS]
              refine og_tk (some 153) (.pointer (some ⟨a, A, none⟩)) rfl rfl (by go_simp) (fun y hy => by have h := ixMemU a A HA.out.1 y; simp [execOp, go_sem, h, Result.andThen]) ?_
              simp only [Act.put, pS]
              refine og_ld (some 154) 33 (.tmp 153) (.pointer (some ⟨a, A, none⟩)) (.int .u64 (M2.mem A)) rfl rfl (by go_simp) rfl rfl (fun y hy => by have h := IsMac.mem hy.2.2 HA.out.1; simp [Instr.loadAt, go_sem, h, Tryd.underlying33]) ?_
              simp only [Act.put, pS]
              have hh := Write_ok y21 (mroot M1) A (M1.mem A) (M2.mem A) 13 cp (some ⟨ga, 0, none⟩) (sib (mg M1) A) (Or.inr ⟨ga, 0, rfl, H20.out.2.1.at5⟩) H20.out.2.2.1 HA.out.1 (HG.out.1.mem A) (HG.out.2.mem A) (ktab_below HT.out H20.out.1.2.2.2.1) rfl (by rw [HFO.out.1, same_refl])
              rw [HFO.out.2] at hh
              have HW := Lib.hid hh
              clear hh
              refine og_two (og_of rfl (by go_simp) fun K hK => ?_) (og_of rfl (by go_simp) fun K hK => ?_)
              · go_simp
                refine HW.out.mono ?_
                rintro e y22 ⟨he, hb⟩
                obtain rfl : e = _ := he
                have HB := Lib.hid hb
                refine hK _ _ ⟨H20.out.1.2.1.below hb, H20.out.2.2.2.below hb, H20.out.1.1.below hb⟩ ?_
                clear hK K hb HW
                try simp only [List.getElem_toArray, List.getElem_cons_succ, List.getElem_cons_zero, Act.put, pS]
                refine og_tk (some 145) (.tuple #[dv (mroot M2), .nilIface]) rfl rfl (by go_simp) (fun _ _ => by simp [execOp, go_sem]) ?_
                simp only [Act.put, pS]
                refine og_tk (some 156) (dv (mroot M2)) rfl rfl (by go_simp) (fun _ _ => by simp [execOp, go_sem]) ?_
                simp only [Act.put, pS]
                refine og_tk (some 157) (.nilIface) rfl rfl (by go_simp) (fun _ _ => by simp [execOp, go_sem]) ?_
                simp only [Act.put, pS]
                refine og_f rfl (by go_simp) fun K hK => ?_
                go_simp
                have hb2 : Below y21.heap.size y21 (y22.alloc (.cells zh 42)) := HB.out.trans ((ba _ _).mono HB.out.size)
                refine hK _ _ ⟨H20.out.1.2.1.below hb2, H20.out.2.2.2.below hb2, H20.out.1.1.below hb2⟩ ?_
                clear hK K hb2
                try simp only [List.getElem_toArray, List.getElem_cons_succ, List.getElem_cons_zero, Act.put, pS]
                have HQ : Hid ((y22.alloc (.cells zh 42)).heap[y22.heap.size]? = some (.cells zh 42 (0, 0)) ∧ (IsTab (y22.alloc (.cells zh 42)) q13 42 32 fun i => bv (mroot M2 i)) ∧ q13 ≠ y22.heap.size ∧ (IsTab (y22.alloc (.cells zh 42)) q11 42 32 fun i => bv (mroot M1 i)) ∧ q11 ≠ y22.heap.size ∧ Below w.heap.size w (y22.alloc (.cells zh 42)) ∧ w.heap.size ≤ y22.heap.size ∧ Box2 (y22.alloc (.cells zh 42)) q22 54 (.int .u64 (M1.mem A)) (.slice (some ⟨ga, 0, none⟩) 13 cp) ∧ q22 ≠ y22.heap.size ∧ IsMac (y22.alloc (.cells zh 42)) a M2 ∧ a ≠ y22.heap.size) := Lib.hid (by
                  have g := H20.out
                  have hb : Below y21.heap.size y21 (y22.alloc (.cells zh 42)) := HB.out.trans ((ba _ _).mono HB.out.size)
                  have z1 := IsTab.lt g.1.2.2.2.2
                  have z2 := IsTab.lt g.1.2.1
                  have z3 := IsTab.lt g.2.2.2
                  have z4 := g.1.1.lt
                  have z5 := g.1.2.2.2.1.size
                  have z6 : y21.heap.size ≤ y22.heap.size := HB.out.size
                  exact ⟨heap_alloc_last y22 _, g.1.2.2.2.2.below hb, by omega, g.1.2.1.below hb, by omega, bl g.1.2.2.2.1 hb, by omega, g.2.2.2.below hb, by omega, g.1.1.below hb, by omega⟩)
                clear H20 HB
                generalize y22.alloc (.cells zh 42) = y23 at *
                generalize y22.heap.size = q23 at *
                refine og_f rfl (by go_simp) fun K hK => ?_
                refine wp_store_row 42 (.tmp 23) (.tmp 156) rfl q23 (tab 32 fun i => bv (mroot M2 i)) rfl rfl 42 zh HQ.out.1 (infH _) (by rw [HZI.out.2.2, tab_size]) (one_bv _ _) ?_
                have HFN : Hid (IsTab (y23.setRow q23 (tab 32 fun i => bv (mroot M2 i))) q23 42 32 (fun i => bv (mroot M2 i)) ∧ (IsTab (y23.setRow q23 (tab 32 fun i => bv (mroot M2 i))) q13 42 32 fun i => bv (mroot M2 i)) ∧ (IsTab (y23.setRow q23 (tab 32 fun i => bv (mroot M2 i))) q11 42 32 fun i => bv (mroot M1 i)) ∧ Below w.heap.size w (y23.setRow q23 (tab 32 fun i => bv (mroot M2 i)))) := Lib.hid ⟨setRow_heap y23 q23 _ _ _ _ HQ.out.1, HQ.out.2.1.rowOther HQ.out.2.2.1, HQ.out.2.2.2.1.rowOther HQ.out.2.2.2.2.1, below_setRow HQ.out.2.2.2.2.2.1 HQ.out.2.2.2.2.2.2.1 _⟩
                refine hK _ _ ⟨HQ.out.2.2.2.1.rowOther HQ.out.2.2.2.2.1, IsTab.rowOther HQ.out.2.2.2.2.2.2.2.1 HQ.out.2.2.2.2.2.2.2.2.1, IsTab.rowOther HQ.out.2.2.2.2.2.2.2.2.2.1 HQ.out.2.2.2.2.2.2.2.2.2.2⟩ ?_
                clear hK K HQ
                try simp only [List.getElem_toArray, List.getElem_cons_succ, List.getElem_cons_zero, Act.put, pS]
                refine og_tk (some 15) (.nilIface) rfl rfl (by go_simp) (fun _ _ => by simp [execOp, go_sem]) ?_
                simp only [Act.put, pS]
                refine og_done (NoPanic.normal ?_)
                generalize (y23.setRow q23 (tab 32 fun i => bv (mroot M2 i))) = yf at *
                have HL23 := Lib.hid (load32h HFN.out.1)
                have HL13 := Lib.hid (load32h HFN.out.2.1)
                have HL11 := Lib.hid (load32h HFN.out.2.2.1)
                go_wp2_with (first
                  | ((with_reducible refine wpList_loadG (P := Tryd.prog) (w := yf) (ty := 42) (x := .tmp 23) (p := .pointer (some ⟨q23, 0, none⟩)) (v := dv (mroot M2)) ?_ ?_ ?_ HL23.out ?_); rotate_left; (· exact rfl); (· exact rfl); rotate_left; (· go_simp))
                  | ((with_reducible refine wpList_loadG (P := Tryd.prog) (w := yf) (ty := 42) (x := .tmp 13) (p := .pointer (some ⟨q13, 0, none⟩)) (v := dv (mroot M2)) ?_ ?_ ?_ HL13.out ?_); rotate_left; (· exact rfl); (· exact rfl); rotate_left; (· go_simp))
                  | ((with_reducible refine wpList_loadG (P := Tryd.prog) (w := yf) (ty := 42) (x := .tmp 11) (p := .pointer (some ⟨q11, 0, none⟩)) (v := dv (mroot M1)) ?_ ?_ ?_ HL11.out ?_); rotate_left; (· exact rfl); (· exact rfl); rotate_left; (· go_simp))
                  | (refine wpList_eqG (by go_simp) (.tmp 165) (.tmp 166) 42 (mroot M2) (mroot M2) rfl rfl rfl ?_; rw [same_refl])
                  | (refine wpList_eqG (by go_simp) (.tmp 173) (.tmp 174) 42 (mroot M2) (mroot M2) rfl rfl rfl ?_; rw [same_refl]))
                exact bodyPost_ret (v := .bool true) (by simp [results, Tryd.results3, go_sem]) rfl ⟨rfl, HFN.out.2.2.2⟩
              · clear HW
                go_simp
                have hb2 : Below y21.heap.size y21 (y21.alloc (.cells zh 42)) := ba _ _
                refine hK _ _ ⟨H20.out.1.2.1.below hb2, H20.out.2.2.2.below hb2, H20.out.1.1.below hb2⟩ ?_
                clear hK K
                try simp only [List.getElem_toArray, List.getElem_cons_succ, List.getElem_cons_zero, Act.put, pS]
                have HB2 : Hid (Below y21.heap.size y21 (y21.alloc (.cells zh 42)) ∧ (y21.alloc (.cells zh 42)).heap[y21.heap.size]? = some (.cells zh 42 (0, 0))) := Lib.hid ⟨hb2, heap_alloc_last y21 _⟩
                have hh := Write_ok (y21.alloc (.cells zh 42)) (mroot M1) A (M1.mem A) (M2.mem A) 13 cp (some ⟨ga, 0, none⟩) (sib (mg M1) A) (Or.inr ⟨ga, 0, rfl, (H20.out.2.1.below hb2).at5⟩) H20.out.2.2.1 HA.out.1 (HG.out.1.mem A) (HG.out.2.mem A) (ktab_below HT.out (bl H20.out.1.2.2.2.1 hb2)) rfl (by rw [HFO.out.1, same_refl])
                rw [HFO.out.2] at hh
                have HW := Lib.hid hh
                clear hh
                clear hb2
                generalize y21.alloc (.cells zh 42) = y22 at *
                refine og_f rfl (by go_simp) fun K hK => ?_
                go_simp
                refine HW.out.mono ?_
                rintro e y23 ⟨he, hb⟩
                obtain rfl : e = _ := he
                have HB : Hid (Below y21.heap.size y21 y23 ∧ y23.heap[y21.heap.size]? = some (.cells zh 42 (0, 0))) := Lib.hid ⟨HB2.out.1.trans (hb.mono HB2.out.1.size), by rw [hb.block _ (Array.getElem?_eq_some_iff.1 HB2.out.2).1]; exact HB2.out.2⟩
                refine hK _ _ ⟨H20.out.1.2.1.below HB.out.1, H20.out.2.2.2.below HB.out.1, H20.out.1.1.below HB.out.1⟩ ?_
                clear hK K hb HW HB2
                try simp only [List.getElem_toArray, List.getElem_cons_succ, List.getElem_cons_zero, Act.put, pS]
                refine og_tk (some 145) (.tuple #[dv (mroot M2), .nilIface]) rfl rfl (by go_simp) (fun _ _ => by simp [execOp, go_sem]) ?_
                simp only [Act.put, pS]
                refine og_tk (some 156) (dv (mroot M2)) rfl rfl (by go_simp) (fun _ _ => by simp [execOp, go_sem]) ?_
                simp only [Act.put, pS]
                refine og_tk (some 157) (.nilIface) rfl rfl (by go_simp) (fun _ _ => by simp [execOp, go_sem]) ?_
                simp only [Act.put, pS]
                have HQ : Hid (y23.heap[y21.heap.size]? = some (.cells zh 42 (0, 0)) ∧ (IsTab y23 q13 42 32 fun i => bv (mroot M2 i)) ∧ q13 ≠ y21.heap.size ∧ (IsTab y23 q11 42 32 fun i => bv (mroot M1 i)) ∧ q11 ≠ y21.heap.size ∧ Below w.heap.size w y23 ∧ w.heap.size ≤ y21.heap.size ∧ Box2 y23 q22 54 (.int .u64 (M1.mem A)) (.slice (some ⟨ga, 0, none⟩) 13 cp) ∧ q22 ≠ y21.heap.size ∧ IsMac y23 a M2 ∧ a ≠ y21.heap.size) := Lib.hid (by
                  have g := H20.out
                  have hb : Below y21.heap.size y21 y23 := HB.out.1
                  have z1 := IsTab.lt g.1.2.2.2.2
                  have z2 := IsTab.lt g.1.2.1
                  have z3 := IsTab.lt g.2.2.2
                  have z4 := g.1.1.lt
                  have z5 := g.1.2.2.2.1.size
                  have z6 : y21.heap.size ≤ y21.heap.size := Nat.le_refl _
                  exact ⟨HB.out.2, g.1.2.2.2.2.below hb, by omega, g.1.2.1.below hb, by omega, bl g.1.2.2.2.1 hb, by omega, g.2.2.2.below hb, by omega, g.1.1.below hb, by omega⟩)
                clear H20 HB
                generalize y21.heap.size = q23 at *
                refine og_f rfl (by go_simp) fun K hK => ?_
                refine wp_store_row 42 (.tmp 23) (.tmp 156) rfl q23 (tab 32 fun i => bv (mroot M2 i)) rfl rfl 42 zh HQ.out.1 (infH _) (by rw [HZI.out.2.2, tab_size]) (one_bv _ _) ?_
                have HFN : Hid (IsTab (y23.setRow q23 (tab 32 fun i => bv (mroot M2 i))) q23 42 32 (fun i => bv (mroot M2 i)) ∧ (IsTab (y23.setRow q23 (tab 32 fun i => bv (mroot M2 i))) q13 42 32 fun i => bv (mroot M2 i)) ∧ (IsTab (y23.setRow q23 (tab 32 fun i => bv (mroot M2 i))) q11 42 32 fun i => bv (mroot M1 i)) ∧ Below w.heap.size w (y23.setRow q23 (tab 32 fun i => bv (mroot M2 i)))) := Lib.hid ⟨setRow_heap y23 q23 _ _ _ _ HQ.out.1, HQ.out.2.1.rowOther HQ.out.2.2.1, HQ.out.2.2.2.1.rowOther HQ.out.2.2.2.2.1, below_setRow HQ.out.2.2.2.2.2.1 HQ.out.2.2.2.2.2.2.1 _⟩
                refine hK _ _ ⟨HQ.out.2.2.2.1.rowOther HQ.out.2.2.2.2.1, IsTab.rowOther HQ.out.2.2.2.2.2.2.2.1 HQ.out.2.2.2.2.2.2.2.2.1, IsTab.rowOther HQ.out.2.2.2.2.2.2.2.2.2.1 HQ.out.2.2.2.2.2.2.2.2.2.2⟩ ?_
                clear hK K HQ
                try simp only [List.getElem_toArray, List.getElem_cons_succ, List.getElem_cons_zero, Act.put, pS]
                refine og_tk (some 15) (.nilIface) rfl rfl (by go_simp) (fun _ _ => by simp [execOp, go_sem]) ?_
                simp only [Act.put, pS]
                refine og_done (NoPanic.normal ?_)
                generalize (y23.setRow q23 (tab 32 fun i => bv (mroot M2 i))) = yf at *
                have HL23 := Lib.hid (load32h HFN.out.1)
                have HL13 := Lib.hid (load32h HFN.out.2.1)
                have HL11 := Lib.hid (load32h HFN.out.2.2.1)
                go_wp2_with (first
                  | ((with_reducible refine wpList_loadG (P := Tryd.prog) (w := yf) (ty := 42) (x := .tmp 23) (p := .pointer (some ⟨q23, 0, none⟩)) (v := dv (mroot M2)) ?_ ?_ ?_ HL23.out ?_); rotate_left; (· exact rfl); (· exact rfl); rotate_left; (· go_simp))
                  | ((with_reducible refine wpList_loadG (P := Tryd.prog) (w := yf) (ty := 42) (x := .tmp 13) (p := .pointer (some ⟨q13, 0, none⟩)) (v := dv (mroot M2)) ?_ ?_ ?_ HL13.out ?_); rotate_left; (· exact rfl); (· exact rfl); rotate_left; (· go_simp))
                  | ((with_reducible refine wpList_loadG (P := Tryd.prog) (w := yf) (ty := 42) (x := .tmp 11) (p := .pointer (some ⟨q11, 0, none⟩)) (v := dv (mroot M1)) ?_ ?_ ?_ HL11.out ?_); rotate_left; (· exact rfl); (· exact rfl); rotate_left; (· go_simp))
                  | (refine wpList_eqG (by go_simp) (.tmp 165) (.tmp 166) 42 (mroot M2) (mroot M2) rfl rfl rfl ?_; rw [same_refl])
                  | (refine wpList_eqG (by go_simp) (.tmp 173) (.tmp 174) 42 (mroot M2) (mroot M2) rfl rfl rfl ?_; rw [same_refl]))
                exact bodyPost_ret (v := .bool true) (by simp [results, Tryd.results3, go_sem]) rfl ⟨rfl, HFN.out.2.2.2⟩
end Vm
end Go.Proofs.YtjfpbponjhpdhaaDoor
