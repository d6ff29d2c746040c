/- Merged of Cz Cf Fc Fd Fe Cw Ff. Own work. -/
import Derived.Test.YtnaamljflcgepaaDoorP18
import Derived.Test.YtnaamljflcgepaaDoorP11
import Derived.Test.YtnaamljflcgepaaDoorP16
import Derived.Test.YtnaamljflcgepaaDoorP15
import Derived.Test.YtnaamljflcgepaaDoorP13
namespace Go.Proofs.YtnaamljflcgepaaDoor
open Go.RowKit
set_option linter.unusedVariables false
namespace Mk
open Kc
/-- A step: the digest of two digests that are reckoned. -/
theorem next_two (x y : Hx) (l m : List Wd64) (a : List Wd64) (r : List (List Wd64)) (hx : ∀ i, i < 32 → x i = digest (ofw l) i) (hy : ∀ i, i < 32 → y i = digest (ofw m) i)
    (hs : ((List.range 25).all fun j => absorbK (fun _ => 0#64) (last (both (digest (ofw l)) (digest (ofw m)))) 17 j == ofw a j) = true) (hr : okB consts (a :: r) = true) :
    ∀ i, i < 32 → pr x y i = digest (ofw ((a :: r).getLastD [])) i := by
  intro i hi
  have e : pr x y = sum (both (digest (ofw l)) (digest (ofw m))) := by unfold pr; rw [both_cong hx hy]
  have hl := both_len (digest (ofw l)) (digest (ofw m))
  rw [e]
  generalize both (digest (ofw l)) (digest (ofw m)) = L at *
  have h0 : ∀ j, j < 25 → absorbK (fun _ => 0#64) (last L) 17 j = ofw a j := fun j hj => by simpa using List.all_eq_true.1 hs j (List.mem_range.2 hj)
  have h4 := ok_fold consts a r _ hr h0 (i / 8) (by omega)
  rw [← perm_all] at h4
  have h5 : sum L = digest (perm (absorbK (fun _ => 0#64) (last L) 17)) := by
    unfold sum absorb
    rw [hl, show 64 / 136 = 0 from rfl, st_zero]
  rw [h5]
  unfold digest
  rw [h4]
theorem Z0_is : ∀ i, i < 32 → zero 0 i = digest (ofw N0z) i := fun i hi => by unfold zero; exact (by simpa using List.all_eq_true.1 N_none i (List.mem_range.2 hi))
end Mk
end Go.Proofs.YtnaamljflcgepaaDoor
namespace Go.Proofs.YtnaamljflcgepaaDoor
open Go.RowKit
set_option linter.unusedVariables false
set_option linter.unusedSimpArgs false
namespace Co
open Kc Mk Vm
theorem same_refl (x : Hx) : same32 x x = true := (same32_iff _ _).2 fun _ _ => rfl
theorem loadPt {w : World} {q : Nat} {x y : Value} (h : Box2 w q 176 x y) : (Instr.loadAt 176 (.pointer (some ⟨q, 0, none⟩))).run Tryd.prog w = .ok (.agg #[x, y]) w := by
  refine run_loadAt_mid w q 0 _ [x, y] _ (fun j v hv => ?_) undPt rfl (by rw [infPt]; rfl)
  obtain ⟨hj, rfl⟩ := List.getElem?_eq_some_iff.1 hv
  simp only [List.length_cons, List.length_nil] at hj
  have e : j = 0 ∨ j = 1 := by omega
  rcases e with rfl | rfl
  · simpa using h.k0
  · simpa using h.k1
end Co
end Go.Proofs.YtnaamljflcgepaaDoor
namespace Go.Proofs.YtnaamljflcgepaaDoor
open Go.RowKit
set_option linter.unusedVariables false
set_option linter.unusedSimpArgs false
namespace Os
open Kc Mk Co
open Vm (Mac IsMac)
/-- A machine's memory that notes its proofs. -/
def mmv (b s : Nat) (V : Value) (pre : Nat → Bt) : Nat → Value := fun i => if i = 0 then .pointer (some ⟨b, 0, none⟩) else if i = 1 then .pointer (some ⟨s, 0, none⟩) else if i = 2 then V else bv (pre (i - 3))
theorem mmv_V (b s : Nat) (V V' : Value) (pre : Nat → Bt) : updv (mmv b s V pre) 2 V' = mmv b s V' pre := by
  funext i
  unfold updv mmv
  by_cases e : i = 2
  · subst e; rfl
  · rw [if_neg e]
    by_cases h0 : i = 0
    · rw [if_pos h0, if_pos h0]
    · rw [if_neg h0, if_neg h0]
      by_cases h1 : i = 1
      · rw [if_pos h1, if_pos h1]
      · rw [if_neg h1, if_neg h1, if_neg e, if_neg e]
def IsMm (w : World) (q b s : Nat) (V : Value) (pre : Nat → Bt) : Prop := IsTab w q 68 67 (mmv b s V pre)
theorem IsMm.k0 {w : World} {q b s : Nat} {V : Value} {pre : Nat → Bt} (h : IsMm w q b s V pre) : w.cell? ⟨q, 0, none⟩ = some (.pointer (some ⟨b, 0, none⟩)) := IsTab.cell h 0 (by decide)
theorem IsMm.k2 {w : World} {q b s : Nat} {V : Value} {pre : Nat → Bt} (h : IsMm w q b s V pre) : w.cell? ⟨q, 2, none⟩ = some V := IsTab.cell h 2 (by decide)
theorem IsMm.put {w : World} {q b s : Nat} {V : Value} {pre : Nat → Bt} (h : IsMm w q b s V pre) (V' : Value) : IsMm (w.setCell ⟨q, 2, none⟩ V') q b s V' pre := by
  have h1 := IsTab.set h 2 V'
  rw [mmv_V] at h1
  exact h1
theorem undPs : Tryd.prog.underlying 36 = some (.slice 176) := by kernel_rfl
theorem infoPt : ∃ i, Tryd.prog.info? 176 = some i ∧ i.zero = some (.agg #[.int .u64 0, .slice none 0 0]) ∧ i.size = 2 ∧ i.bytes = 32 :=
  ⟨(Tryd.prog.info? 176).get (by kernel_rfl), by kernel_rfl, by kernel_rfl, by kernel_rfl, by kernel_rfl⟩
theorem bldPs (v : Int) (a : Option Addr) (n c : Nat) (w : World) : (Instr.buildSlice 36 1 #[(0, .agg #[.int .u64 v, .slice a n c])]).run Tryd.prog w = .ok (.slice (some ⟨w.heap.size, 0, none⟩) 1 1) (w.alloc (.cells #[.int .u64 v, .slice a n c] 176)) := by kernel_rfl
/-- A slice of one proof. -/
structure Pf1 (w : World) (V : Value) (v : Nat) (p : Nat → Hx) (B T : Nat) : Prop where
  ex : ∃ a c g cg, V = .slice (some ⟨a, 0, none⟩) 1 c ∧ 1 ≤ c ∧ c ≤ maxLen ∧ w.cell? ⟨a, 0, none⟩ = some (.int .u64 v) ∧ w.cell? ⟨a, 1, none⟩ = some (.slice (some ⟨g, 0, none⟩) 13 cg) ∧ Lv w g 31 13 p ∧ 13 ≤ cg ∧ B ≤ a ∧ B ≤ g ∧ a < T ∧ g < T
  top : T ≤ w.heap.size
theorem Lv.kept' {w w' : World} {S : Nat → Prop} {g T n : Nat} {f : Nat → Hx} (h : Lv w g T n f) (hg : g < w.heap.size) (hk : Kept S w w') (hn : ¬ S g) : Lv w' g T n f := by
  obtain ⟨m, x, h1, h2⟩ := h
  exact ⟨m, x, (hk.block _ hg hn).trans h1, h2⟩
theorem Pf1.kept {w w' : World} {V : Value} {v B T : Nat} {p : Nat → Hx} {S : Nat → Prop} (h : Pf1 w V v p B T) (hk : Kept S w w') (hS : ∀ k, S k → k < B ∨ T ≤ k) : Pf1 w' V v p B T := by
  obtain ⟨a, c, g, cg, e, h1, h2, h3, h4, h5, h6, h7, h8, h9, h10⟩ := h.ex
  have z := hk.size
  have t := h.top
  have na : ¬ S a := fun h => by have := hS a h; omega
  have ng : ¬ S g := fun h => by have := hS g h; omega
  refine ⟨⟨a, c, g, cg, e, h1, h2, ?_, ?_, Lv.kept' h5 (by omega) hk ng, h6, h7, h8, h9, h10⟩, by omega⟩
  · exact (World.cell?_of_block (hk.block a (by omega) na)).trans h3
  · exact (World.cell?_of_block (hk.block a (by omega) na)).trans h4
theorem pf_of {w : World} {B : Nat} {V x y : Value} (h : w.ownsRow B 176 2 V 1 [x, y]) : ∃ a c, V = .slice (some ⟨a, 0, none⟩) 1 c ∧ 1 ≤ c ∧ c ≤ maxLen ∧ B ≤ a ∧ a < w.heap.size ∧ w.cell? ⟨a, 0, none⟩ = some x ∧ w.cell? ⟨a, 1, none⟩ = some y := by
  rcases h.2 with ⟨_, e⟩ | ⟨a, cap, cur, rfl, hq, hc, hn, hm, hs, ht⟩
  · simp at e
  · have h0 : (cur.toList.take (1 * 2))[0]? = some x := by rw [ht]; rfl
    have h1 : (cur.toList.take (1 * 2))[1]? = some y := by rw [ht]; rfl
    rw [List.getElem?_take, if_pos (by omega)] at h0 h1
    refine ⟨a, cap, rfl, hn, hm, hq, (Array.getElem?_eq_some_iff.1 hc).1, ?_, ?_⟩
    · rw [cell_of_row w a 0 _ _ _ hc]; simpa using h0
    · rw [cell_of_row w a 1 _ _ _ hc]; simpa using h1
set_option maxHeartbeats 8000000 in
set_option maxRecDepth 100000 in
theorem mread_first (w : World) (q b s P : Nat) (pre : Nat → Bt) (M : Mac) (hq : IsMm w q b s (.slice none 0 0) pre) (hm : IsMac w b M) (hmem : ∀ i, M.mem i < 18446744073709551616) (hP : P < 8192) (ht : Laid.KTab w) :
    Calls Tryd.prog 89 #[.pointer (some ⟨q, 0, none⟩), .int .u64 P] w fun e w' => e = .returned (.tuple #[.int .u64 (M.mem P), .nilIface]) ∧ ∃ V, IsMm w' q b s V pre ∧ (∃ T, Pf1 w' V (M.mem P) (sib (mg M) P) w.heap.size T) ∧ Kept (fun k => k = q) w w' := by
  have HQW := Lib.hid hq
  have HPR := Lib.hid (Prove_ok w b P M hm hmem hP ht)
  have k0 := hq.k0
  obtain ⟨i0, hi0, hi1, hi2, hi3⟩ := infoPt
  have HI := Lib.hid (And.intro hi0 (And.intro hi1 (And.intro hi2 hi3)))
  clear hq hm hmem hP ht hi0 hi1 hi2 hi3
  go_enter Tryd.func89, Tryd.ntmps89
  go_upto_region 2 with (first
    | (go_at_call 92; (with_reducible refine HPR.out.mono ?_); rintro e y1 ⟨a9, cg, he, hc, hcm, hna, hrow, hb⟩; obtain rfl : e = _ := he; obtain ⟨a8, c8, ev, _, _, hlv⟩ := lv_of_row hrow; obtain ⟨rfl, _, rfl⟩ := Value.slice.inj ev; obtain ⟨ga, rfl, hg1, hg2, hlv⟩ := hlv.resolve_left (fun h => absurd h.1 (by decide)); have H1 : Hid (IsMm y1 q b s (.slice none 0 0) pre ∧ Lv y1 ga 31 13 (sib (mg M) P) ∧ Below w.heap.size w y1 ∧ 13 ≤ cg ∧ w.heap.size ≤ ga ∧ ga < y1.heap.size) := Lib.hid ⟨IsTab.below HQW.out hb, hlv, hb, hc, hg1, hg2⟩; clear hb hc hcm hna hrow hlv hg1 hg2 HPR ev)
    | ((with_reducible refine wpList_store_row (P := Tryd.prog) (w := y1.alloc (.cells #[.int .u64 0, .slice none 0 0] 176)) ?_ 176 (.tmp 6) (.tmp 15) ?_ y1.heap.size #[.int .u64 (M.mem P), .slice (some ⟨ga, 0, none⟩) 13 cg] ?_ ?_ 176 #[.int .u64 0, .slice none 0 0] (heap_alloc_last y1 _) infPt ?_ rfl ?_); (· exact rfl); (· exact rfl); (· exact rfl); (· exact rfl); (· exact rfl); rw [World.setRow_alloc_new]; simp only [Act.put]))
  have H2 : Hid (IsMm (y1.alloc (.cells #[.int .u64 (M.mem P), .slice (some ⟨ga, 0, none⟩) 13 cg] 176)).drew q b s (.slice none 0 0) pre ∧ Box2 (y1.alloc (.cells #[.int .u64 (M.mem P), .slice (some ⟨ga, 0, none⟩) 13 cg] 176)).drew y1.heap.size 176 (.int .u64 (M.mem P)) (.slice (some ⟨ga, 0, none⟩) 13 cg) ∧ Lv (y1.alloc (.cells #[.int .u64 (M.mem P), .slice (some ⟨ga, 0, none⟩) 13 cg] 176)).drew ga 31 13 (sib (mg M) P) ∧ Below w.heap.size w (y1.alloc (.cells #[.int .u64 (M.mem P), .slice (some ⟨ga, 0, none⟩) 13 cg] 176)).drew ∧ 13 ≤ cg ∧ w.heap.size ≤ ga ∧ ga < (y1.alloc (.cells #[.int .u64 (M.mem P), .slice (some ⟨ga, 0, none⟩) 13 cg] 176)).drew.heap.size) := Lib.hid (by
    have hb := (ba y1 (.cells #[.int .u64 (M.mem P), .slice (some ⟨ga, 0, none⟩) 13 cg] 176)).drew
    have z := hb.size
    exact ⟨IsTab.below H1.out.1 hb, (Box2.new y1 176 _ _).below (Below.refl _ _).drew, H1.out.2.1.below hb, bl H1.out.2.2.1 hb, H1.out.2.2.2.1, H1.out.2.2.2.2.1, by have := H1.out.2.2.2.2.2; omega⟩)
  have HQ : Hid (q < w.heap.size ∧ y1.heap.size ≠ q) := Lib.hid (by have h1 := IsTab.lt HQW.out; have h2 := H1.out.2.2.1.size; exact ⟨h1, by omega⟩)
  clear H1 k0 HQW
  generalize y1.alloc (.cells #[.int .u64 (M.mem P), .slice (some ⟨ga, 0, none⟩) 13 cg] 176) = y2 at *
  generalize y1.heap.size = q6 at *
  refine wp_region_oz (fun z : World => IsMm z q b s (.slice none 0 0) pre ∧ Box2 z q6 176 (.int .u64 (M.mem P)) (.slice (some ⟨ga, 0, none⟩) 13 cg)) 10 (.take 0 (.take 1 (.take 2 (.take 3 (.take 4 (.take 5 (.one 6 (.one 7 (.free 8 (.take 9 (.one 10 .done))))))))))) (by kernel_rfl) (by kernel_rfl) ⟨H2.out.1, H2.out.2.1⟩ ?_
  generalize y2.drew = z0 at *
  refine oz_tk (some 17) (.pointer (some ⟨q, 0, none⟩)) rfl rfl (by go_simp) (fun _ _ => by simp [execOp, go_sem]) ?_
  simp only [Act.put, pS]
  refine oz_tk (some 18) (.pointer (some ⟨q, 0, none⟩)) rfl rfl (by go_simp) (fun _ _ => by simp [execOp, go_sem]) ?_
  simp only [Act.put, pS]
  refine oz_tk (some 19) (.pointer (some ⟨q, 0, none⟩)) rfl rfl (by go_simp) (fun _ _ => by simp [execOp, go_sem]) ?_
  simp only [Act.put, pS]
  refine oz_tk (some 20) (.pointer (some ⟨q, 2, none⟩)) rfl rfl (by go_simp) (fun _ _ => by simp [execOp, go_sem]) ?_
  simp only [Act.put, pS]
  refine oz_ld (some 21) 36 (.tmp 20) (.pointer (some ⟨q, 2, none⟩)) (.slice none 0 0) rfl rfl (by go_simp) rfl rfl (fun y hy => by have h := IsMm.k2 hy.1; simp [Instr.loadAt, go_sem, h, Tryd.underlying36]) ?_
  simp only [Act.put, pS]
  refine oz_ld (some 22) 176 (.tmp 6) (.pointer (some ⟨q6, 0, none⟩)) (.agg #[.int .u64 (M.mem P), .slice (some ⟨ga, 0, none⟩) 13 cg]) rfl rfl (by go_simp) rfl rfl (fun y hy => loadPt hy.2) ?_
  simp only [Act.put, pS]
  refine oz_f rfl (by go_simp) fun K hK => ?_
  simp only [List.getElem_toArray, List.getElem_cons_succ, List.getElem_cons_zero]
  refine wp_build1 36 (.tmp 22) rfl (.agg #[.int .u64 (M.mem P), .slice (some ⟨ga, 0, none⟩) 13 cg]) (.slice (some ⟨z0.heap.size, 0, none⟩) 1 1) rfl (z0.alloc (.cells #[.int .u64 (M.mem P), .slice (some ⟨ga, 0, none⟩) 13 cg] 176)) (bldPs _ _ _ _ z0) ?_
  have H3 : Hid ((fun z : World => IsMm z q b s (.slice none 0 0) pre ∧ Box2 z q6 176 (.int .u64 (M.mem P)) (.slice (some ⟨ga, 0, none⟩) 13 cg)) (z0.alloc (.cells #[.int .u64 (M.mem P), .slice (some ⟨ga, 0, none⟩) 13 cg] 176)) ∧ Lv (z0.alloc (.cells #[.int .u64 (M.mem P), .slice (some ⟨ga, 0, none⟩) 13 cg] 176)) ga 31 13 (sib (mg M) P) ∧ Below w.heap.size w (z0.alloc (.cells #[.int .u64 (M.mem P), .slice (some ⟨ga, 0, none⟩) 13 cg] 176))) := Lib.hid ⟨⟨IsTab.alloc H2.out.1 _, IsTab.alloc H2.out.2.1 _⟩, H2.out.2.2.1.below (ba _ _), bl H2.out.2.2.2.1 (ba _ _)⟩
  have HSZ : Hid ((z0.alloc (.cells #[.int .u64 (M.mem P), .slice (some ⟨ga, 0, none⟩) 13 cg] 176)).heap.size = z0.heap.size + 1) := Lib.hid (by simp)
  refine hK _ _ H3.out.1 ?_
  clear hK K
  try simp only [List.getElem_toArray, List.getElem_cons_succ, List.getElem_cons_zero, Act.put, pS]
  have OW0 := Lib.hid (World.ownsRow_nil (z0.alloc (.cells #[.int .u64 (M.mem P), .slice (some ⟨ga, 0, none⟩) 13 cg] 176)) z0.heap.size 176 2)
  have SRC : Hid (((some ⟨z0.heap.size, 0, none⟩ : Option Addr) = none ∧ 1 = 0 ∧ 1 = 0 ∧ ([.int .u64 (M.mem P), .slice (some ⟨ga, 0, none⟩) 13 cg] : List Value) = []) ∨ ∃ ad, (some ⟨z0.heap.size, 0, none⟩ : Option Addr) = some ad ∧ ([.int .u64 (M.mem P), .slice (some ⟨ga, 0, none⟩) 13 cg] : List Value).length = 1 * 2 ∧ ∀ j u, ([.int .u64 (M.mem P), .slice (some ⟨ga, 0, none⟩) 13 cg] : List Value)[j]? = some u → (z0.alloc (.cells #[.int .u64 (M.mem P), .slice (some ⟨ga, 0, none⟩) 13 cg] 176)).cell? (ad.add j) = some u) := Lib.hid (.inr ⟨_, rfl, rfl, fun j u hj => by
    rw [add_at, Nat.zero_add, cell_of_row _ _ _ _ _ _ (heap_alloc_last z0 _)]
    simpa using hj⟩)
  have ONE : Hid (∀ u ∈ ([.int .u64 (M.mem P), .slice (some ⟨ga, 0, none⟩) 13 cg] : List Value), u.oneCell' = true) := Lib.hid (by
    intro u hu
    simp at hu
    rcases hu with rfl | rfl <;> rfl)
  refine oz_f rfl (by go_simp) fun K hK => ?_
  simp only [List.getElem_toArray, List.getElem_cons_succ, List.getElem_cons_zero]
  with_reducible refine wp_append_any (P := Tryd.prog) (.tmp 21) (.tmp 23) 36 ?_ z0.heap.size 176 i0 (.agg #[.int .u64 0, .slice none 0 0]) 2 32 undPs HI.out ?_ ?_ (.slice none 0 0) 0 [] ?_ OW0.out (some ⟨z0.heap.size, 0, none⟩) 1 1 [.int .u64 (M.mem P), .slice (some ⟨ga, 0, none⟩) 13 cg] ?_ SRC.out ONE.out ?_ ?_ ?_ ?_
  · exact rfl
  · exact rfl
  · decide
  · exact rfl
  · exact rfl
  · decide
  · decide
  · have := HSZ.out; omega
  intro V7 w7 hown hgr hat
  rw [Nat.zero_add, List.nil_append] at hown
  obtain ⟨a9, c9, rfl, g1, g2, g3, g4, g5, g6⟩ := pf_of hown
  have hb7 : Below (z0.alloc (.cells #[.int .u64 (M.mem P), .slice (some ⟨ga, 0, none⟩) 13 cg] 176)).heap.size (z0.alloc (.cells #[.int .u64 (M.mem P), .slice (some ⟨ga, 0, none⟩) 13 cg] 176)) w7 := grown_below (Below.refl _ _) (World.ownsRow_nil _ _ 176 2) hgr
  have H4 : Hid ((fun z : World => IsMm z q b s (.slice none 0 0) pre ∧ Box2 z q6 176 (.int .u64 (M.mem P)) (.slice (some ⟨ga, 0, none⟩) 13 cg)) w7 ∧ Lv w7 ga 31 13 (sib (mg M) P) ∧ Below w.heap.size w w7) := Lib.hid ⟨⟨IsTab.below H3.out.1.1 hb7, Box2.below H3.out.1.2 hb7⟩, H3.out.2.1.below hb7, bl H3.out.2.2 hb7⟩
  have HPF : Hid (Pf1 w7 (.slice (some ⟨a9, 0, none⟩) 1 c9) (M.mem P) (sib (mg M) P) w.heap.size w7.heap.size) := Lib.hid (by
    have z1 := H2.out.2.2.2.1.size
    have z2 := H2.out.2.2.2.2.2
    have z3 := hb7.size
    have z4 := HSZ.out
    exact ⟨⟨a9, c9, ga, cg, rfl, g1, g2, g5, g6, H4.out.2.1, H2.out.2.2.2.2.1, by omega, z2.1, g4, by omega⟩, Nat.le_refl _⟩)
  refine hK _ _ H4.out.1 ?_
  clear hK K hown hgr hat hb7 g1 g2 g3 g4 g5 g6 OW0 SRC ONE H3 HSZ
  try simp only [List.getElem_toArray, List.getElem_cons_succ, List.getElem_cons_zero, Act.put, pS]
  refine oz_fr (some 25) (.pointer (some ⟨q, 0, none⟩)) rfl rfl (by go_simp) (fun _ => by simp [execOp, go_sem]) ?_
  simp only [Act.put, pS]
  refine oz_tk (some 26) (.pointer (some ⟨q, 2, none⟩)) rfl rfl (by go_simp) (fun _ _ => by simp [execOp, go_sem]) ?_
  simp only [Act.put, pS]
  have kd := IsMm.k2 H4.out.1.1
  have fd := IsTab.fz H4.out.1.1 2
  have H5 : Hid (IsMm (w7.setCell ⟨q, 2, none⟩ (.slice (some ⟨a9, 0, none⟩) 1 c9)) q b s (.slice (some ⟨a9, 0, none⟩) 1 c9) pre ∧ Pf1 (w7.setCell ⟨q, 2, none⟩ (.slice (some ⟨a9, 0, none⟩) 1 c9)) (.slice (some ⟨a9, 0, none⟩) 1 c9) (M.mem P) (sib (mg M) P) w.heap.size w7.heap.size ∧ Kept (fun k => k = q) w (w7.setCell ⟨q, 2, none⟩ (.slice (some ⟨a9, 0, none⟩) 1 c9)) ∧ Box2 (w7.setCell ⟨q, 2, none⟩ (.slice (some ⟨a9, 0, none⟩) 1 c9)) q6 176 (.int .u64 (M.mem P)) (.slice (some ⟨ga, 0, none⟩) 13 cg)) := Lib.hid (by
    have hk : Kept (fun k => k = q) w7 (w7.setCell ⟨q, 2, none⟩ (.slice (some ⟨a9, 0, none⟩) 1 c9)) := Vm.kept_set (S := fun k => k = q) (Kept.refl _ _) q 2 rfl _
    refine ⟨H4.out.1.1.put _, HPF.out.kept hk (fun k e => by rw [e]; exact .inl HQ.out.1), ?_, IsTab.keep H4.out.1.2 HQ.out.2⟩
    exact (Kept.ofBelow H4.out.2.2).trans hk fun _ _ h => h)
  refine oz_z rfl (by go_simp) fun K hK => ?_
  go_simp
  refine hK _ _ ?_
  clear hK K kd fd H4 HPF H2
  try simp only [List.getElem_toArray, List.getElem_cons_succ, List.getElem_cons_zero, Act.put, pS]
  refine oz_done (NoPanic.normal ?_)
  generalize w7.setCell ⟨q, 2, none⟩ (.slice (some ⟨a9, 0, none⟩) 1 c9) = z9 at *
  have k28 := H5.out.2.2.2.k0
  go_wp2_with (fail)
  exact bodyPost_ret (v := .tuple #[.int .u64 (M.mem P), .nilIface]) (by simp [results, Tryd.results89, go_sem]) rfl ⟨rfl, _, H5.out.1, ⟨_, H5.out.2.1⟩, H5.out.2.2.1⟩
end Os
end Go.Proofs.YtnaamljflcgepaaDoor
namespace Go.Proofs.YtnaamljflcgepaaDoor
open Go.RowKit
set_option linter.unusedVariables false
set_option linter.unusedSimpArgs false
namespace Os
open Kc Mk Co
open Vm (Mac IsMac)
def pmv (R : Hx) (V : Value) (pre : Nat → Bt) : Nat → Value := fun i => if i < 32 then bv (R i) else if i = 32 then V else bv (pre (i - 33))
theorem pmv_V (R : Hx) (V V' : Value) (pre : Nat → Bt) : updv (pmv R V pre) 32 V' = pmv R V' pre := by
  funext i
  unfold updv pmv
  by_cases e : i = 32
  · subst e; rfl
  · rw [if_neg e]
    by_cases h0 : i < 32
    · rw [if_pos h0, if_pos h0]
    · rw [if_neg h0, if_neg h0, if_neg e, if_neg e]
def IsPm (w : World) (q : Nat) (R : Hx) (V : Value) (pre : Nat → Bt) : Prop := IsTab w q 74 97 (pmv R V pre)
theorem IsPm.kV {w : World} {q : Nat} {R : Hx} {V : Value} {pre : Nat → Bt} (h : IsPm w q R V pre) : w.cell? ⟨q, 32, none⟩ = some V := IsTab.cell h 32 (by decide)
theorem IsPm.put {w : World} {q : Nat} {R : Hx} {V : Value} {pre : Nat → Bt} (h : IsPm w q R V pre) (V' : Value) : IsPm (w.setCell ⟨q, 32, none⟩ V') q R V' pre := by
  have h1 := IsTab.set h 32 V'
  rw [pmv_V] at h1
  exact h1
theorem IsPm.root {w : World} {q : Nat} {R : Hx} {V : Value} {pre : Nat → Bt} (h : IsPm w q R V pre) : (Instr.loadAt 31 (.pointer (some ⟨q, 0, none⟩))).run Tryd.prog w = .ok (dv R) w := by
  refine run_loadAt_mid w q 0 _ ((List.range 32).map fun i => bv (R i)) _ (fun j v hv => ?_) undH rfl (by rw [List.length_map, List.length_range]; exact (infH (fun _ => .nilIface)).trans (by rw [tab_size]))
  obtain ⟨hj, rfl⟩ := List.getElem?_eq_some_iff.1 hv
  simp only [List.length_map, List.length_range] at hj
  have := IsTab.cell h j (by omega)
  unfold pmv at this
  rw [if_pos hj] at this
  simpa using this
theorem loadPtA {w : World} {a : Nat} {x y : Value} (h0 : w.cell? ⟨a, 0, none⟩ = some x) (h1 : w.cell? ⟨a, 1, none⟩ = some y) : (Instr.loadAt 176 (.pointer (some ⟨a, 0, none⟩))).run Tryd.prog w = .ok (.agg #[x, y]) w := by
  refine run_loadAt_mid w a 0 _ [x, y] _ (fun j v hv => ?_) undPt rfl infPt
  obtain ⟨hj, rfl⟩ := List.getElem?_eq_some_iff.1 hv
  simp only [List.length_cons, List.length_nil] at hj
  have e : j = 0 ∨ j = 1 := by omega
  rcases e with rfl | rfl
  · simpa using h0
  · simpa using h1
end Os
namespace Mk
open Kc
theorem Lv.cellOther' {w : World} {q T N p i : Nat} {v : Value} {f : Nat → Hx} (h : Lv w q T N f) (hn : p ≠ q) : Lv (w.setCell ⟨p, i, none⟩ v) q T N f := by
  obtain ⟨m, x, h1, h2⟩ := h
  exact ⟨m, x, IsTab.keep h1 (Ne.symm hn), h2⟩
end Mk
namespace Os
open Kc Mk Co
open Vm (Mac IsMac)
set_option maxHeartbeats 2000000 in
set_option maxRecDepth 100000 in
theorem pnext_one (w : World) (q v B T : Nat) (R : Hx) (V : Value) (p : Nat → Hx) (pre : Nat → Bt) (hq : IsPm w q R V pre) (hp : Pf1 w V v p B T) (hB : q < B ∨ T ≤ q) :
    Calls Tryd.prog 100 #[.pointer (some ⟨q, 0, none⟩)] w fun e w' => ∃ g cg, e = .returned (.tuple #[.agg #[.int .u64 v, .slice (some ⟨g, 0, none⟩) 13 cg], .nilIface]) ∧ Lv w' g 31 13 p ∧ 13 ≤ cg ∧ (∃ x c', IsPm w' q R (.slice x 0 c') pre) ∧ Kept (fun k => k = q) w w' := by
  obtain ⟨a, c, g, cg, rfl, h1, h2, h3, h4, h5, h6, h7, h8, h9, h10⟩ := hp.ex
  have HC := Lib.hid (And.intro h1 (And.intro h2 h6))
  have HNE : Hid (q ≠ a ∧ q ≠ g ∧ q < w.heap.size ∧ a < w.heap.size ∧ g < w.heap.size) := Lib.hid ⟨by omega, by omega, IsTab.lt hq, by have := hp.top; omega, by have := hp.top; omega⟩
  have H0 : Hid (IsPm (w.alloc (.cells #[.int .u64 0, .slice none 0 0] 176)) q R (.slice (some ⟨a, 0, none⟩) 1 c) pre ∧ ((w.alloc (.cells #[.int .u64 0, .slice none 0 0] 176)).cell? ⟨a, 0, none⟩ = some (.int .u64 v) ∧ (w.alloc (.cells #[.int .u64 0, .slice none 0 0] 176)).cell? ⟨a, 1, none⟩ = some (.slice (some ⟨g, 0, none⟩) 13 cg) ∧ Lv (w.alloc (.cells #[.int .u64 0, .slice none 0 0] 176)) g 31 13 p) ∧ Box2 (w.alloc (.cells #[.int .u64 0, .slice none 0 0] 176)) w.heap.size 176 (.int .u64 0) (.slice none 0 0) ∧ Below w.heap.size w (w.alloc (.cells #[.int .u64 0, .slice none 0 0] 176))) := Lib.hid ⟨IsTab.alloc hq _, ⟨keep1 (ba _ _) h3, keep1 (ba _ _) h4, h5.below (ba _ _)⟩, Box2.new w 176 _ _, ba _ _⟩
  have HSZ : Hid (w.heap.size < (w.alloc (.cells #[.int .u64 0, .slice none 0 0] 176)).heap.size) := Lib.hid (by simp)
  clear hq hp h1 h2 h3 h4 h5 h6 h7 h8 h9 h10 hB
  go_enter Tryd.func100, Tryd.ntmps100
  go_upto_region 1 with (fail)
  generalize w.alloc (.cells #[.int .u64 0, .slice none 0 0] 176) = y0 at *
  obtain ⟨q2, hq2⟩ : ∃ q2, w.heap.size = q2 := ⟨_, rfl⟩
  have HQ2 := Lib.hid hq2
  have H0b : Hid (Box2 y0 q2 176 (.int .u64 0) (.slice none 0 0)) := Lib.hid (hq2 ▸ H0.out.2.2.1)
  rw [hq2]
  clear hq2
  have k32 := IsPm.kV H0.out.1
  go_upto_region 3 with (fail)
  have HLP := Lib.hid (loadPtA H0.out.2.1.1 H0.out.2.1.2.1)
  go_upto_region 4 with (first
    | ((with_reducible refine wpList_loadE (P := Tryd.prog) (w := y0) (ty := 176) (x := .tmp 17) (p := .pointer (some ⟨a, 0, none⟩)) (v := .agg #[.int .u64 v, .slice (some ⟨g, 0, none⟩) 13 cg]) ?_ ?_ ?_ HLP.out ?_); (· exact rfl); (· exact rfl); (· exact rfl))
    | ((with_reducible refine wpList_store_row (P := Tryd.prog) (w := y0.alloc (.cells #[.int .u64 0, .slice none 0 0] 176)) ?_ 176 (.tmp 4) (.tmp 18) ?_ y0.heap.size #[.int .u64 v, .slice (some ⟨g, 0, none⟩) 13 cg] ?_ ?_ 176 #[.int .u64 0, .slice none 0 0] (heap_alloc_last y0 _) infPt ?_ rfl ?_); (· exact rfl); (· exact rfl); (· exact rfl); (· exact rfl); (· exact rfl); rw [World.setRow_alloc_new]; simp only [Act.put]))
  have H1 : Hid (IsPm (y0.alloc (.cells #[.int .u64 v, .slice (some ⟨g, 0, none⟩) 13 cg] 176)) q R (.slice (some ⟨a, 0, none⟩) 1 c) pre ∧ Lv (y0.alloc (.cells #[.int .u64 v, .slice (some ⟨g, 0, none⟩) 13 cg] 176)) g 31 13 p ∧ Box2 (y0.alloc (.cells #[.int .u64 v, .slice (some ⟨g, 0, none⟩) 13 cg] 176)) q2 176 (.int .u64 0) (.slice none 0 0) ∧ Box2 (y0.alloc (.cells #[.int .u64 v, .slice (some ⟨g, 0, none⟩) 13 cg] 176)) y0.heap.size 176 (.int .u64 v) (.slice (some ⟨g, 0, none⟩) 13 cg) ∧ Below w.heap.size w (y0.alloc (.cells #[.int .u64 v, .slice (some ⟨g, 0, none⟩) 13 cg] 176)) ∧ q2 ≠ y0.heap.size ∧ y0.heap.size ≠ q) := Lib.hid ⟨IsTab.alloc H0.out.1 _, H0.out.2.1.2.2.below (ba _ _), IsTab.alloc H0b.out _, Box2.new y0 176 _ _, bl H0.out.2.2.2 (ba _ _), by have := HSZ.out; have := HQ2.out; omega, by have := HSZ.out; have := HNE.out.2.2.1; omega⟩
  clear k32 HLP H0 H0b HSZ
  generalize y0.alloc (.cells #[.int .u64 v, .slice (some ⟨g, 0, none⟩) 13 cg] 176) = y1 at *
  generalize y0.heap.size = q4 at *
  have k32 := IsPm.kV H1.out.1
  have f32 := IsTab.fz H1.out.1 32
  have hc1 : (1 : Int) ≤ (c : Int) := by have := HC.out.1; omega
  have hc2 : ¬ ((c : Int) < 1) := by omega
  go_upto_region 5 with (fail)
  clear k32 f32 hc1 hc2
  generalize (if c = 1 then some (⟨a, 0, none⟩ : Addr) else some ⟨a, 2, none⟩) = x9 at *
  have hfin : Kept (fun k => k = q) w (y1.setCell ⟨q, 32, none⟩ (.slice x9 0 (c - 1))) := (Kept.ofBelow H1.out.2.2.2.2.1).trans (Vm.kept_set (S := fun k => k = q) (Kept.refl _ _) q 32 rfl _) fun _ _ h => h
  have H2 : Hid (IsPm (y1.setCell ⟨q, 32, none⟩ (.slice x9 0 (c - 1))) q R (.slice x9 0 (c - 1)) pre ∧ Lv (y1.setCell ⟨q, 32, none⟩ (.slice x9 0 (c - 1))) g 31 13 p ∧ Box2 (y1.setCell ⟨q, 32, none⟩ (.slice x9 0 (c - 1))) q2 176 (.int .u64 0) (.slice none 0 0) ∧ Box2 (y1.setCell ⟨q, 32, none⟩ (.slice x9 0 (c - 1))) q4 176 (.int .u64 v) (.slice (some ⟨g, 0, none⟩) 13 cg) ∧ Kept (fun k => k = q) w (y1.setCell ⟨q, 32, none⟩ (.slice x9 0 (c - 1))) ∧ q2 ≠ q) := Lib.hid (by
    have n1 : q2 ≠ q := by have := HQ2.out; have := HNE.out.2.2.1; omega
    exact ⟨H1.out.1.put _, H1.out.2.1.cellOther' HNE.out.2.1, IsTab.keep H1.out.2.2.1 n1, IsTab.keep H1.out.2.2.2.1 H1.out.2.2.2.2.2.2, hfin, n1⟩)
  have HN4 : Hid (q2 ≠ q4) := Lib.hid H1.out.2.2.2.2.2.1
  clear hfin H1
  generalize y1.setCell ⟨q, 32, none⟩ (.slice x9 0 (c - 1)) = y2 at *
  have HL4 := Lib.hid (loadPtA H2.out.2.2.2.1.k0 H2.out.2.2.2.1.k1)
  have m0 := H2.out.2.2.1.k0
  have m1 := (H2.out.2.2.1.p0 (.int .u64 v)).k1
  have g0 := H2.out.2.2.1.f 0
  have g1 := (H2.out.2.2.1.p0 (.int .u64 v)).f 1
  have H3 : Hid (Box2 ((y2.setCell ⟨q2, 0, none⟩ (.int .u64 v)).setCell ⟨q2, 1, none⟩ (.slice (some ⟨g, 0, none⟩) 13 cg)) q2 176 (.int .u64 v) (.slice (some ⟨g, 0, none⟩) 13 cg) ∧ IsPm ((y2.setCell ⟨q2, 0, none⟩ (.int .u64 v)).setCell ⟨q2, 1, none⟩ (.slice (some ⟨g, 0, none⟩) 13 cg)) q R (.slice x9 0 (c - 1)) pre ∧ Lv ((y2.setCell ⟨q2, 0, none⟩ (.int .u64 v)).setCell ⟨q2, 1, none⟩ (.slice (some ⟨g, 0, none⟩) 13 cg)) g 31 13 p ∧ Kept (fun k => k = q) w ((y2.setCell ⟨q2, 0, none⟩ (.int .u64 v)).setCell ⟨q2, 1, none⟩ (.slice (some ⟨g, 0, none⟩) 13 cg))) := Lib.hid (by
    have n1 := H2.out.2.2.2.2.2
    have n2 : q2 ≠ g := by have := HQ2.out; have := HNE.out.2.2.2.2; omega
    refine ⟨(H2.out.2.2.1.p0 _).p1 _, IsTab.keep (IsTab.keep H2.out.1 (Ne.symm n1)) (Ne.symm n1), (H2.out.2.1.cellOther' n2).cellOther' n2, ?_⟩
    have hk := H2.out.2.2.2.2.1
    have e := HQ2.out
    exact (hk.setCell (p := ⟨q2, 0, none⟩) (.inr (by show w.heap.size ≤ q2; omega)) _).setCell (p := ⟨q2, 1, none⟩) (.inr (by show w.heap.size ≤ q2; omega)) _)
  go_wp2_with ((with_reducible refine wpList_loadE (P := Tryd.prog) (w := y2) (ty := 176) (x := .tmp 4) (p := .pointer (some ⟨q4, 0, none⟩)) (v := .agg #[.int .u64 v, .slice (some ⟨g, 0, none⟩) 13 cg]) ?_ ?_ ?_ HL4.out ?_); (· exact rfl); (· exact rfl); (· exact rfl))
  exact bodyPost_ret (Kc.results_cell_tmp rfl _ _ q2 176 _ (0, 0) _ rfl H3.out.1 undPt rfl infPt .nilIface rfl) rfl ⟨g, cg, rfl, H3.out.2.2.1, HC.out.2.2, ⟨_, _, H3.out.2.1⟩, H3.out.2.2.2⟩
end Os
end Go.Proofs.YtnaamljflcgepaaDoor
namespace Go.Proofs.YtnaamljflcgepaaDoor
open Go.RowKit
set_option linter.unusedVariables false
set_option linter.unusedSimpArgs false
namespace Os
open Kc Mk Co
open Vm (Mac IsMac)
set_option maxHeartbeats 2000000 in
set_option maxRecDepth 100000 in
theorem pread_first (w : World) (q v B T P : Nat) (R : Hx) (V : Value) (p : Nat → Hx) (pre : Nat → Bt) (hq : IsPm w q R V pre) (hp : Pf1 w V v p B T) (hB : q < B ∨ T ≤ q) (hP : P < 8192) (hv : v < 18446744073709551616) (hok : same32 (fold P (lfX v) p 13) R = true) (ht : Laid.KTab w) (hqk : q ≠ 0) :
    Calls Tryd.prog 98 #[.pointer (some ⟨q, 0, none⟩), .int .u64 P] w fun e w' => e = .returned (.tuple #[.int .u64 v, .nilIface]) ∧ (∃ x c, IsPm w' q R (.slice x 0 c) pre) ∧ Kept (fun k => k = q) w w' := by
  have HNX := Lib.hid (pnext_one w q v B T R V p pre hq hp hB)
  have HQL := Lib.hid (And.intro (IsTab.lt hq) (And.intro ht hqk))
  have HC0 := Lib.hid (And.intro hP (And.intro hv hok))
  clear hq hp hB hP hv hok ht hqk
  go_enter Tryd.func98, Tryd.ntmps98
  go_upto_region 4 with (first
    | (go_at_call 100; (with_reducible refine HNX.out.mono ?_); rintro e y1 ⟨g, cg, he, hlv, hcg, ⟨sx, sc, hpm⟩, hk⟩; obtain rfl : e = _ := he; have H1 := Lib.hid (And.intro hlv (And.intro hcg (And.intro hpm hk))); clear hlv hcg hpm hk HNX)
    | ((with_reducible refine wpList_store_row (P := Tryd.prog) (w := y1.alloc (.cells #[.int .u64 0, .slice none 0 0] 176)) ?_ 176 (.tmp 6) (.tmp 12) ?_ y1.heap.size #[.int .u64 v, .slice (some ⟨g, 0, none⟩) 13 cg] ?_ ?_ 176 #[.int .u64 0, .slice none 0 0] (heap_alloc_last y1 _) infPt ?_ rfl ?_); (· exact rfl); (· exact rfl); (· exact rfl); (· exact rfl); (· exact rfl); rw [World.setRow_alloc_new]; simp only [Act.put]))
  have HC : Hid (13 ≤ cg ∧ P < 8192 ∧ v < 18446744073709551616 ∧ same32 (fold P (lfX v) p 13) R = true) := Lib.hid ⟨H1.out.2.1, HC0.out⟩
  have H2 : Hid (IsPm (y1.alloc (.cells #[.int .u64 v, .slice (some ⟨g, 0, none⟩) 13 cg] 176)).drew q R (.slice sx 0 sc) pre ∧ Box2 (y1.alloc (.cells #[.int .u64 v, .slice (some ⟨g, 0, none⟩) 13 cg] 176)).drew y1.heap.size 176 (.int .u64 v) (.slice (some ⟨g, 0, none⟩) 13 cg) ∧ Lv (y1.alloc (.cells #[.int .u64 v, .slice (some ⟨g, 0, none⟩) 13 cg] 176)).drew g 31 13 p ∧ Kept (fun k => k = q) w (y1.alloc (.cells #[.int .u64 v, .slice (some ⟨g, 0, none⟩) 13 cg] 176)).drew ∧ Laid.KTab (y1.alloc (.cells #[.int .u64 v, .slice (some ⟨g, 0, none⟩) 13 cg] 176)).drew) := Lib.hid (by
    have hb := (ba y1 (.cells #[.int .u64 v, .slice (some ⟨g, 0, none⟩) 13 cg] 176)).drew
    have hk : Kept (fun k => k = q) w (y1.alloc (.cells #[.int .u64 v, .slice (some ⟨g, 0, none⟩) 13 cg] 176)).drew := H1.out.2.2.2.trans (Kept.ofBelow (S := fun k => k = q) hb) fun _ _ h => h
    exact ⟨IsTab.below H1.out.2.2.1 hb, (Box2.new y1 176 _ _).below (Below.refl _ _).drew, H1.out.1.below hb, hk, fun i hi => hk.cell (fun e => HQL.out.2.2 e.symm) (HQL.out.2.1 i hi)⟩)
  clear H1
  generalize y1.alloc (.cells #[.int .u64 v, .slice (some ⟨g, 0, none⟩) 13 cg] 176) = y2 at *
  generalize y1.heap.size = q6 at *
  refine wp_region_og (fun z : World => IsPm z q R (.slice sx 0 sc) pre ∧ Box2 z q6 176 (.int .u64 v) (.slice (some ⟨g, 0, none⟩) 13 cg)) (.take 0 (.take 1 (.take 2 (.take 3 (.take 4 (.take 5 (.one 6 (.take 7 (.take 8 (.take 9 (.take 10 (.take 11 .done)))))))))))) (by kernel_rfl) (by kernel_rfl) (⟨H2.out.1, H2.out.2.1⟩) ?_
  generalize y2.drew = z0 at *
  refine og_tk (some 18) (.pointer (some ⟨q, 0, none⟩)) rfl rfl (by go_simp) (fun _ _ => by simp [execOp, go_sem]) ?_
  simp only [Act.put, pS]
  refine og_tk (some 19) (.pointer (some ⟨q, 0, none⟩)) rfl rfl (by go_simp) (fun _ _ => by simp [execOp, go_sem]) ?_
  simp only [Act.put, pS]
  refine og_tk (some 20) (.pointer (some ⟨q, 0, none⟩)) rfl rfl (by go_simp) (fun _ _ => by simp [execOp, go_sem]) ?_
  simp only [Act.put, pS]
  refine og_ld (some 21) 31 (.tmp 20) (.pointer (some ⟨q, 0, none⟩)) (dv R) rfl rfl (by go_simp) rfl rfl (fun y hy => IsPm.root hy.1) ?_
  simp only [Act.put, pS]
  refine og_tk (some 22) (.int .u64 P) rfl rfl (by go_simp) (fun _ _ => by simp [execOp, go_sem]) ?_
  simp only [Act.put, pS]
  refine og_ld (some 23) 176 (.tmp 6) (.pointer (some ⟨q6, 0, none⟩)) (.agg #[.int .u64 v, .slice (some ⟨g, 0, none⟩) 13 cg]) rfl rfl (by go_simp) rfl rfl (fun y hy => loadPt hy.2) ?_
  simp only [Act.put, pS]
  have hh := Holds_ok z0 R P v cg (some ⟨g, 0, none⟩) p (Or.inr ⟨g, 0, rfl, H2.out.2.2.1.at5⟩) HC.out.1 HC.out.2.1 HC.out.2.2.1 H2.out.2.2.2.2
  rw [HC.out.2.2.2] at hh
  have HH := Lib.hid hh
  clear hh
  refine og_f rfl (by go_simp) fun K hK => ?_
  go_simp
  refine HH.out.mono ?_
  rintro e z1 ⟨he, hb⟩
  obtain rfl : e = _ := he
  have H3 : Hid (IsPm z1 q R (.slice sx 0 sc) pre ∧ Box2 z1 q6 176 (.int .u64 v) (.slice (some ⟨g, 0, none⟩) 13 cg) ∧ Kept (fun k => k = q) w z1) := Lib.hid ⟨IsTab.below H2.out.1 hb, H2.out.2.1.below hb, H2.out.2.2.2.1.trans (Kept.ofBelow (S := fun k => k = q) hb) fun _ _ h => h⟩
  refine hK _ _ ⟨H3.out.1, H3.out.2.1⟩ ?_
  clear hK K hb HH H2
  try simp only [List.getElem_toArray, List.getElem_cons_succ, List.getElem_cons_zero, Act.put, pS]
  refine og_tk (some 17) (.tuple #[.bool true, .nilIface]) rfl rfl (by go_simp) (fun _ _ => by simp [execOp, go_sem]) ?_
  simp only [Act.put, pS]
  refine og_tk (some 25) (.bool true) rfl rfl (by go_simp) (fun _ _ => by simp [execOp, go_sem]) ?_
  simp only [Act.put, pS]
  refine og_tk (some 26) (.nilIface) rfl rfl (by go_simp) (fun _ _ => by simp [execOp, go_sem]) ?_
  simp only [Act.put, pS]
  refine og_tk (some 8) (.bool true) rfl rfl (by go_simp) (fun _ _ => by simp [execOp, go_sem]) ?_
  simp only [Act.put, pS]
  refine og_tk (some 7) (.nilIface) rfl rfl (by go_simp) (fun _ _ => by simp [execOp, go_sem]) ?_
  simp only [Act.put, pS]
  refine og_done (NoPanic.normal ?_)
  have k34 := H3.out.2.1.k0
  go_wp2_with (fail)
  exact bodyPost_ret (v := .tuple #[.int .u64 v, .nilIface]) (by simp [results, Tryd.results98, go_sem]) rfl ⟨rfl, ⟨sx, sc, H3.out.1⟩, H3.out.2.2⟩
end Os
end Go.Proofs.YtnaamljflcgepaaDoor
namespace Go.Proofs.YtnaamljflcgepaaDoor
open Go.RowKit
set_option linter.unusedVariables false
set_option linter.unusedSimpArgs false
namespace Co
open Kc Mk Vm
theorem infMc : (Tryd.prog.info? 45).map (·.size) = some 8211 := by kernel_rfl
theorem undMac : Tryd.prog.underlying 45 = some (.struct (Tryd.prog.fieldsOf 45)) := by kernel_rfl
theorem loadMac {w : World} {b : Nat} {M : Mac} (h : IsMac w b M) : (Instr.loadAt 45 (.pointer (some ⟨b, 0, none⟩))).run Tryd.prog w = .ok (.agg (tab 8211 (mc M))) w := by
  refine run_loadAt_mid w b 0 _ ((List.range 8211).map (mc M)) _ (fun j v hv => ?_) undMac rfl (by rw [List.length_map, List.length_range]; exact infMc)
  obtain ⟨hj, rfl⟩ := List.getElem?_eq_some_iff.1 hv
  simp only [List.length_map, List.length_range] at hj
  have := IsTab.cell h j hj
  simpa using this
set_option maxHeartbeats 2000000 in
set_option maxRecDepth 100000 in
theorem Copy_walk (w : World) (b : Nat) (M : Mac) (hm : IsMac w b M) :
    Calls Tryd.prog 17 #[.pointer (some ⟨b, 0, none⟩)] w fun e w' => ∃ q, e = .returned (.pointer (some ⟨q, 0, none⟩)) ∧ IsMac w' q M ∧ w.heap.size ≤ q ∧ Below w.heap.size w w' := by
  have HLM := Lib.hid (loadMac hm)
  have z9 := zeroMac' w
  have HPQ : Hid (IsMac (w.alloc (.cells (tab 8211 (mc M)) 45)) w.heap.size M ∧ Below w.heap.size w (w.alloc (.cells (tab 8211 (mc M)) 45))) := Lib.hid ⟨IsTab.new w _ 8211 _, ba _ _⟩
  obtain ⟨cm, hcm⟩ : ∃ cm, tab 8211 (mc M) = cm := ⟨_, rfl⟩
  have HCM := Lib.hid hcm
  rw [hcm] at HLM HPQ
  clear hcm hm
  generalize hzm : tab 8211 (mc m0) = zm at *
  have HZ : Hid (zm.size = 8211) := Lib.hid (by rw [← hzm, tab_size])
  clear hzm
  go_enter Tryd.func17, Tryd.ntmps17
  go_wp2_with (first
    | ((with_reducible refine wpList_loadE (P := Tryd.prog) (w := w) (ty := 45) (x := .tmp 7) (p := .pointer (some ⟨b, 0, none⟩)) (v := .agg cm) ?_ ?_ ?_ HLM.out ?_); (· exact rfl); (· exact rfl); (· exact rfl))
    | ((with_reducible refine wpList_store_row (P := Tryd.prog) (w := w.alloc (.cells zm 45)) ?_ 45 (.tmp 3) (.tmp 8) ?_ w.heap.size cm ?_ ?_ 45 zm (heap_alloc_last w _) ?_ ?_ ?_ ?_); (· exact rfl); (· exact rfl); (· exact rfl); (· exact rfl); (· rw [← HCM.out]; exact infM _); (· rw [← HCM.out, HZ.out, tab_size]); (· rw [← HCM.out]; exact one_mc' _); rw [World.setRow_alloc_new]; simp only [Act.put]))
  exact bodyPost_ret (v := .pointer (some ⟨w.heap.size, 0, none⟩)) (by simp [results, Tryd.results17, go_sem]) rfl ⟨w.heap.size, rfl, HPQ.out.1, Nat.le_refl _, HPQ.out.2⟩
end Co
end Go.Proofs.YtnaamljflcgepaaDoor
namespace Go.Proofs.YtnaamljflcgepaaDoor
open Go.RowKit
set_option linter.unusedVariables false
set_option linter.unusedSimpArgs false
namespace Os
open Kc Mk Co
open Vm (Mac IsMac m0)
/-- A step's proof. -/
def stv (R : Hx) (M : Mac) (V : Value) (pre : Nat → Bt) : Nat → Value := fun i => if i < 32 then bv (R i) else if i < 51 then Co.hv M (i - 32) else if i = 51 then V else bv (pre (i - 52))
theorem zeroSt (w : World) : (zeroValue 40).run Tryd.prog w = .ok (.agg (tab 116 (stv (fun _ => 0#8) m0 (.slice none 0 0) fun _ => 0#8))) w := by kernel_rfl
theorem buildSt0 (w : World) : (Instr.build 40 #[]).run Tryd.prog w = .ok (.agg (tab 116 (stv (fun _ => 0#8) m0 (.slice none 0 0) fun _ => 0#8))) w := by kernel_rfl
theorem infSt (g : Nat → Value) : (Tryd.prog.info? 40).map (·.size) = some (tab 116 g).size := by rw [tab_size]; kernel_rfl
theorem undSt : Tryd.prog.underlying 40 = some (.struct (Tryd.prog.fieldsOf 40)) := by kernel_rfl
theorem buildSt (R : Hx) (M : Mac) (a : Option Addr) (n c : Nat) (pre : Nat → Bt) (w : World) : (Instr.build 40 #[(0, dv R), (1, .agg (tab 19 (Co.hv M))), (2, .slice a n c), (3, .agg (tab 64 fun i => bv (pre i)))]).run Tryd.prog w = .ok (.agg (tab 116 (stv R M (.slice a n c) pre))) w := by kernel_rfl
theorem oneSt (R : Hx) (M : Mac) (a : Option Addr) (n c : Nat) (pre : Nat → Bt) : (tab 116 (stv R M (.slice a n c) pre)).all (·.oneCell') = true := tab_one fun i => by
  unfold stv Co.hv
  repeat' split
  all_goals rfl
theorem buildMm (b s : Nat) (w : World) : (Instr.build 68 #[(0, .pointer (some ⟨b, 0, none⟩)), (1, .pointer (some ⟨s, 0, none⟩))]).run Tryd.prog w = .ok (.agg (tab 67 (mmv b s (.slice none 0 0) fun _ => 0#8))) w := by kernel_rfl
theorem undPr : Tryd.prog.underlying 38 = some (.array 64 5) := by kernel_rfl
theorem infPr : (Tryd.prog.info? 38).map (·.size) = some 64 := by kernel_rfl
/-- A preimage in the midst of a block. -/
theorem loadPreA {w : World} {q o T n : Nat} {g : Nat → Value} {pre : Nat → Bt} (h : IsTab w q T n g) (hn : o + 64 ≤ n) (hg : ∀ i, i < 64 → g (o + i) = bv (pre i)) : (Instr.loadAt 38 (.pointer (some ⟨q, o, none⟩))).run Tryd.prog w = .ok (.agg (tab 64 fun i => bv (pre i))) w := by
  refine run_loadAt_mid w q o _ ((List.range 64).map fun i => bv (pre i)) _ (fun j v hv => ?_) undPr rfl (by rw [List.length_map, List.length_range]; exact infPr)
  obtain ⟨hj, rfl⟩ := List.getElem?_eq_some_iff.1 hv
  simp only [List.length_map, List.length_range] at hj
  have := IsTab.cell h (o + j) (by omega)
  rw [hg j hj] at this
  simpa using this
theorem IsMm.pre {w : World} {q b s : Nat} {V : Value} {pre : Nat → Bt} (h : IsMm w q b s V pre) : (Instr.loadAt 38 (.pointer (some ⟨q, 3, none⟩))).run Tryd.prog w = .ok (.agg (tab 64 fun i => bv (pre i))) w := loadPreA h (by decide) fun i hi => by
  unfold mmv
  rw [if_neg (by omega), if_neg (by omega), if_neg (by omega), show 3 + i - 3 = i from by omega]
end Os
end Go.Proofs.YtnaamljflcgepaaDoor
