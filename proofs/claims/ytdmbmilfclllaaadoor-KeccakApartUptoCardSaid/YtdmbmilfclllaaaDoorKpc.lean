/-
  KeccakPieces. Own work.
-/
import Derived.Test.YtdmbmilfclllaaaDoorPcs
import Derived.Test.YtdmbmilfclllaaaDoorKss
import Derived.Test.YtdmbmilfclllaaaDoorOrd
import Derived.Test.YtdmbmilfclllaaaDoorErr
namespace Go.Proofs.YtdmbmilfclllaaaDoor
open Go.RowKit
set_option linter.unusedVariables false
set_option linter.unusedSimpArgs false
namespace Kc
theorem IsH.below {w w' : World} {q : Nat} {l : List Bt} (h : IsH w q l) (hb : Below w.heap.size w w') : IsH w' q l := by
  obtain ⟨pc, h1, h2⟩ := h
  exact ⟨pc, IsTab.below h1 hb, h2⟩
theorem IsH.kept {S : Nat → Prop} {w w' : World} {q : Nat} {l : List Bt} (h : IsH w q l) (hk : Kept S w w') (hn : ¬ S q) : IsH w' q l := by
  obtain ⟨pc, h1, h2⟩ := h
  refine ⟨pc, ?_, h2⟩
  unfold IsHv IsTab at *
  rw [hk.block q (Array.getElem?_eq_some_iff.1 h1).1 hn]; exact h1
theorem IsH.lt {w : World} {q : Nat} {l : List Bt} (h : IsH w q l) : q < w.heap.size := by
  obtain ⟨pc, h1, _⟩ := h
  exact (Array.getElem?_eq_some_iff.1 h1).1
structure Pi (W : World) (B q : Nat) (V : Value) (lh l : List Bt) (y : World) : Prop where
  hh : IsH y q lh
  all : y.ownsRow B 5 1 V l.length (l.map bv)
  below : Below W.heap.size W y
  o1 : W.heap.size ≤ q
  o2 : q < B
  o3 : B ≤ y.heap.size
theorem Pi.next {W y y' : World} {B q : Nat} {V : Value} {lh l : List Bt} (h : Pi W B q V lh l y) (hb : Below y.heap.size y y') : Pi W B q V lh l y' :=
  ⟨h.hh.below hb, (Kept.ofBelow (S := fun _ => False) hb).row h.all (fun _ _ h => h), bl h.below hb, h.o1, h.o2, Nat.le_trans h.o3 hb.size⟩
theorem Pi.kept {S : Nat → Prop} {W y y' : World} {B q : Nat} {V : Value} {lh l : List Bt} (h : Pi W B q V lh l y) (hk : Kept S y y') (hq : ¬ S q) (hV : ∀ k, V.ownBlock = some k → ¬ S k) (hW : ∀ k, k < W.heap.size → ¬ S k) : Pi W B q V lh l y' :=
  ⟨h.hh.kept hk hq, hk.row h.all hV, ((Kept.ofBelow (S := S) h.below).trans hk (fun _ _ h => h)).below (Nat.le_refl _) (fun k _ e => by rcases Nat.lt_or_ge k W.heap.size with h1 | h1; exact absurd e (hW k h1); exact h1), h.o1, h.o2, Nat.le_trans h.o3 hk.size⟩
/-- The same, with a digest and the row as bytes. -/
structure Pq (W : World) (B q q8 : Nat) (V : Value) (a : Option Addr) (l : List Bt) (y : World) : Prop where
  pi : Pi W B q V l l y
  st : IsTab y q8 27 32 fun i => bv (sum l i)
  bs : IsBs y a l
  lt : ∀ x, a = some x → x.block < y.heap.size
theorem Pq.next {W y y' : World} {B q q8 : Nat} {V : Value} {a : Option Addr} {l : List Bt} (h : Pq W B q q8 V a l y) (hb : Below y.heap.size y y') : Pq W B q q8 V a l y' :=
  ⟨h.pi.next hb, h.st.below hb, isBs_keep h.bs (fun _ _ _ _ => keep1 hb), fun x hx => Nat.lt_of_lt_of_le (h.lt x hx) hb.size⟩
theorem Pq.drew {W y : World} {B q q8 : Nat} {V : Value} {a : Option Addr} {l : List Bt} (h : Pq W B q q8 V a l y) : Pq W B q q8 V a l y.drew :=
  ⟨⟨h.pi.hh, h.pi.all, h.pi.below.drew, h.pi.o1, h.pi.o2, h.pi.o3⟩, h.st, h.bs, h.lt⟩
theorem loadHs {y : World} {q : Nat} {x : Nat → Bt} (h : IsTab y q 27 32 fun i => bv (x i)) :
    (Instr.loadAt 27 (.pointer (some ⟨q, 0, none⟩))).run Tryd.prog y = .ok (.agg (tab 32 fun i => bv (x i))) y :=
  run_loadAt_mid y q 0 _ ((List.range 32).map fun i => bv (x i)) _ (h.range 0 32 _ (Nat.le_refl _) (fun j _ => by rw [Nat.zero_add])) undH rfl (by rw [List.length_map, List.length_range]; exact hInfo)
theorem run_neq_tab {P : Program} (w : World) (t e : TypeId) (n : Nat) (k : IntKind) (ht : P.underlying t = some (.array n e)) (he : P.underlying e = some (.int k)) (hsz : ∀ w, (sizeOf e).run P w = .ok 1 w) (f g : Nat → Int) :
    (binOp .neq t (.agg (tab n fun i => .int k (f i))) (.agg (tab n fun i => .int k (g i)))).run P w = .ok (.bool (!((List.range n).all fun i => f i == g i))) w := by
  rw [run_neq_struct, run_equal_tab w 9998 t e n k ht he hsz]; rfl
theorem neq32 (a : Nat → Bt) (w : World) : (binOp .neq 27 (.agg (tab 32 fun i => bv (a i))) (.agg (tab 32 fun i => bv (a i)))).run Tryd.prog w = .ok (.bool false) w := by
  have h := run_neq_tab (P := Tryd.prog) w 27 5 32 .u8 (by kernel_rfl) undU8 sizeU8 (fun i => Bv (a i)) (fun i => Bv (a i))
  rw [show ((List.range 32).all fun i => Bv (a i) == Bv (a i)) = true from by simp] at h
  exact h
theorem Pi.grown {W y y' : World} {B q : Nat} {V V' : Value} {lh l bs : List Bt} (h : Pi W B q V lh l y) (hown : y'.ownsRow B 5 1 V' (l.length + bs.length) (l.map bv ++ bs.map bv)) (hg : y.grownBy y' V.ownBlock) : Pi W B q V' lh (l ++ bs) y' := by
  have hk : Kept (fun k => V.ownBlock = some k) y y' := ⟨hg.os, hg.tape, hg.output, hg.size, fun k hk hn => hg.block k hk (fun e => hn e.symm)⟩
  have hlow : ∀ k, V.ownBlock = some k → B ≤ k := fun k hk => (h.all.lt k hk).1
  refine ⟨h.hh.kept hk (fun e => by have := hlow _ e; have := h.o2; omega), ?_, ((Kept.ofBelow (S := fun k => V.ownBlock = some k) h.below).trans hk (fun _ _ h => h)).below (Nat.le_refl _) (fun k _ e => by have := hlow _ e; have := h.o1; have := h.o2; omega), h.o1, h.o2, Nat.le_trans h.o3 hk.size⟩
  rw [List.length_append, List.map_append]; exact hown
/-- The bytes of the first i pieces. -/
def joined (ls : List Pc) (i : Nat) : List Bt := (ls.take i).flatMap fun p => p.2.2
theorem joined_succ {ls : List Pc} {i : Nat} {p : Pc} (h : ls[i]? = some p) : joined ls (i + 1) = joined ls i ++ p.2.2 := by
  unfold joined
  rw [List.take_add_one, h]
  simp
theorem joined_le (ls : List Pc) : ∀ i, (joined ls i).length ≤ lens ls := by
  intro i
  unfold joined lens
  rw [List.length_flatMap]
  induction ls generalizing i with
  | nil => simp
  | cons p r ih =>
    cases i with
    | zero => simp
    | succ i => simp only [List.take_succ_cons, List.map_cons, List.sum_cons]; have := ih i; omega
set_option maxHeartbeats 16000000 in
set_option maxRecDepth 100000 in
theorem pieces_walk (ls : List Pc) (A : Option Addr) (cap : Nat) (w : World) (ht : Laid.KTab w) (hL : IsPcs w A ls) (hnil : A = none → ls = [] ∧ cap = 0) (hcap : ls.length ≤ cap) (hcm : cap ≤ maxLen) (hb : lens ls ≤ 1048576) :
    Calls Tryd.prog 7 #[.slice A ls.length cap] w fun e w' => e = .returned (.bool true) ∧ Below w.heap.size w w' := by
  obtain ⟨i0, hi0, hi1, hi2, hi3⟩ := one1
  have HI := Lib.hid (And.intro hi0 (And.intro hi1 (And.intro hi2 hi3)))
  clear hi0 hi1 hi2 hi3
  have HT := Lib.hid ht
  have HL := Lib.hid hL
  have HN := Lib.hid hnil
  have HC := Lib.hid (And.intro hcap (And.intro hcm hb))
  clear ht hL hnil hcap hcm hb
  have z2 := zeroHash
  have hzz := Lib.hid (rfl : (tab 32 fun _ => bv 0#8) = tab 32 fun _ => bv 0#8)
  generalize hz : (tab 32 fun _ => bv 0#8) = z32 at *
  have HZ32 := Lib.hid hz
  clear hz hzz
  have hzi : (Tryd.prog.info? 27).map (·.size) = some z32.size := by rw [← HZ32.out]; exact infH _
  have hzo : z32.all (·.oneCell') = true := by rw [← HZ32.out]; exact one_bv _ _
  have HZI := Lib.hid hzi
  have HZO := Lib.hid hzo
  clear hzi hzo
  go_enter Tryd.func7, Tryd.ntmps7
  go_upto_region 4 with (first
    | (go_at_call 11; refine (new_walk _).mono ?_; rintro e w1 ⟨rfl, hT1, hb1, hs1⟩; have H1 := Lib.hid (And.intro (isH_nil hT1) (And.intro hb1 hs1)); clear hT1 hb1 hs1)
    | (go_at_call 12; refine (hsum_nil _).mono ?_; rw [HZ32.out]; rintro e w2 ⟨rfl, hb2⟩)
    | (refine wpList_store_row rfl 27 (.tmp 5) (.tmp 19) rfl w2.heap.size z32 rfl rfl 27 z32 (heap_alloc_last w2 _) HZI.out rfl HZO.out ?_; rw [World.setRow_alloc_new]; simp only [Act.put]))
  have HP0 : Hid (Pi w w1.heap.size w.heap.size (.slice none 0 0) [] [] (w2.alloc (.cells z32 27))) := by
    obtain ⟨k1, k2, k3⟩ := H1.out
    have kb : Below w1.heap.size w1 (w2.alloc (.cells z32 27)) := hb2.alloc hb2.size _
    exact Lib.hid ⟨k1.below kb, World.ownsRow_nil _ _ _ _, bl k2 kb, Nat.le_refl _, k3, kb.size⟩
  clear H1 hb2
  generalize w2.alloc (.cells z32 27) = y0 at *
  generalize w1.heap.size = B at *
  generalize hq : w.heap.size = q at *
  have HQ := Lib.hid hq
  clear hq
  have HP0' := Lib.hid (ktab_below HT.out HP0.out.below)
  go_upto_region 8 with (first
    | (go_at_call 9; refine (fixed_walk permIs _ HP0'.out).mono ?_; rintro e w3 ⟨rfl, hb3⟩; have HP3 := Lib.hid (HP0.out.next hb3); clear hb3)
    | (go_at_call 13; refine (Err.is_num 1 1 _).mono ?_; rintro e _ ⟨rfl, rfl⟩)
    | (go_at_call 14; refine (add_nil _ _).mono ?_; rintro e _ ⟨rfl, rfl⟩))
  clear HP0 HP0'
  go_wp2_with fail
  go_loopw [7, 42] (fun t s y => ∃ (i : Nat) (V : Value), i ≤ ls.length ∧ i ≤ 30 ∧ s = .int .i64 i ∧ t = V ∧ Hid (Pi w B q V (joined ls i) (joined ls i) y)) (fun _ s _ => ls.length - (intOf s).toNat)
  case atStart => exact ⟨0, _, Nat.zero_le _, by decide, rfl, rfl, by unfold joined; simpa using HP3⟩
  case round =>
    obtain ⟨i, V, hil, hi30, rfl, rfl, hp⟩ := hrel
    clear HP3
    by_cases hlt : (i : Int) < (ls.length : Int)
    · obtain ⟨p, hpi⟩ : ∃ p, ls[i]? = some p := ⟨_, List.getElem?_eq_getElem (by omega)⟩
      rcases HL.out with h0 | ⟨b, o, hA, hcell⟩
      · rw [h0] at hpi; simp at hpi
      obtain ⟨u, hu, hpc⟩ := hcell i p hpi
      obtain ⟨a1, c1, bs⟩ := p
      obtain ⟨hv, hbs, hbn, hbc, hbm⟩ := hpc
      dsimp only at hv hbs hbn hbc hbm
      subst hv
      subst hA
      have hu2 : wr.cell? ⟨b, o + i, none⟩ = some (.slice a1 bs.length c1) := keep1 hp.out.below hu
      by_cases h30 : (i : Int) ≥ 30
      · clear hcell hu hbs hbn hbc hbm hpi
        have hl7 : (joined ls i).length ≤ 1048576 := Nat.le_trans (joined_le ls i) HC.out.2.2
        have HL7 := Lib.hid hl7
        clear hl7
        generalize joined ls i = l7 at *
        have HS7 := Lib.hid (hsum_walk permIs q l7 wr (ktab_below HT.out hp.out.below) hp.out.hh)
        have hzl : z32.size = 32 := by rw [← HZ32.out, tab_size]
        have HZL := Lib.hid hzl
        clear hzl
        go_upto_region 25 with (first
          | (go_at_call 12; refine HS7.out.mono ?_; rintro e w8 ⟨rfl, hb8⟩)
          | (refine wpList_store_row rfl 27 (.tmp 14) (.tmp 85) rfl w8.heap.size (tab 32 fun i => bv (sum l7 i)) rfl rfl 27 z32 (heap_alloc_last w8 _) (infH _) (by rw [HZL.out, tab_size]) (one_bv _ _) ?_; rw [World.setRow_alloc_new]; simp only [Act.put]))
        obtain ⟨aa, cc, rfl, bA, nA, lA, mA, tA⟩ := slice_of hp.out.all
        have hq8 : Hid (Pq w B q w8.heap.size (.slice aa l7.length cc) aa l7 (w8.alloc (.cells (tab 32 fun i => bv (sum l7 i)) 27)).drew) := by
          have kb : Below wr.heap.size wr (w8.alloc (.cells (tab 32 fun i => bv (sum l7 i)) 27)) := hb8.alloc hb8.size _
          have hx : Pq w B q w8.heap.size (.slice aa l7.length cc) aa l7 (w8.alloc (.cells (tab 32 fun i => bv (sum l7 i)) 27)) :=
            ⟨hp.out.next kb, IsTab.new w8 _ 32 _, isBs_keep bA (fun _ _ _ _ => keep1 kb), fun x hx => Nat.lt_of_lt_of_le (tA x hx) kb.size⟩
          exact Lib.hid hx.drew
        have HAA := Lib.hid (And.intro nA (And.intro lA mA))
        clear nA lA mA bA tA hb8 hp HS7
        generalize w8.alloc (.cells (tab 32 fun i => bv (sum l7 i)) 27) = y8 at *
        generalize w8.heap.size = q8 at *
        have NE : Nonempty (Wd (Pq w B q q8 (.slice aa l7.length cc) aa l7)) := ⟨⟨_, hq8.out⟩⟩
        have hld : ∀ u, (∃ z : Wd (Pq w B q q8 (.slice aa l7.length cc) aa l7), u = z.val) → (Instr.loadAt 27 (.pointer (some ⟨q8, 0, none⟩))).run Tryd.prog u = .ok (.agg (tab 32 fun i => bv (sum l7 i))) u := fun u ⟨z, hz⟩ => by
          rw [hz]; exact loadHs z.ok.st
        have LD := Lib.hid hld
        clear hld
        have QS := Lib.hid (fun z : Wd (Pq w B q q8 (.slice aa l7.length cc) aa l7) => in_of_below z (fun y hb => z.ok.next hb) (sum_walk permIs l7 aa cc z.val (ktab_below HT.out z.ok.pi.below) z.ok.bs z.ok.lt HAA.out.2.1 HAA.out.2.2))
        have e1 : ∀ u, (binOp .eql 27 (.agg (tab 32 fun i => bv (sum l7 i))) (.agg (tab 32 fun i => bv (sum l7 i)))).run Tryd.prog u = .ok (.bool true) u := fun u => by rw [eql32, same32_refl]
        generalize (tab 32 fun i => bv (sum l7 i)) = vs at *
        refine wp_region_in (Pq w B q q8 (.slice aa l7.length cc) aa l7) (by kernel_rfl) (by kernel_rfl) hq8.out ?_
        repeat (first
          | (refine wpQuiet_loadg 27 _ (.pointer (some ⟨q8, 0, none⟩)) _ (by rfl) rfl rfl LD.out ?_; simp only [Act.put, List.setIfInBounds_toArray, List.set_cons_zero, List.set_cons_succ])
          | (go_big_quiet_step (with_reducible exact QS.out _)))
        refine wpQuiet_nil ?_
        rintro _ ⟨z, rfl⟩
        go_wp2_with fail
        go_ret
        exact ⟨rfl, z.ok.pi.below⟩
      · have HBS := Lib.hid (isBs_keep (w := wr) hbs (fun b o v _ hv => keep1 hp.out.below hv))
        have HBN := Lib.hid hbn
        have HB0 := Lib.hid hbs
        have HBC := Lib.hid (And.intro hbc hbm)
        have HPI := Lib.hid hpi
        clear hcell hu hbs hbn hbc hbm hpi
        go_upto_region 11 with (fail)
        have hown0 : Hid ((wr.alloc (.cells #[] 5)).ownsRow wr.heap.size 5 1 (.slice (some ⟨wr.heap.size, 0, none⟩) 0 0) 0 []) := Lib.hid ⟨rfl, .inr ⟨wr.heap.size, 0, #[], rfl, Nat.le_refl _, heap_alloc_new wr _, Nat.le_refl _, by decide, rfl, rfl⟩⟩
        have hsrc : Hid ((a1 = none ∧ bs.length = 0 ∧ c1 = 0 ∧ bs.map bv = []) ∨ ∃ ad, a1 = some ad ∧ (bs.map bv).length = bs.length * 1 ∧ ∀ j u, (bs.map bv)[j]? = some u → (wr.alloc (.cells #[] 5)).cell? (ad.add j) = some u) :=
          Lib.hid (src_of (wr.alloc (.cells #[] 5)) HBS.out HBN.out (fun b o v hv => keep1 ((Below.refl _ _).alloc (Nat.le_refl _) _) hv))
        have hj : bs.length ≤ (joined ls (i + 1)).length := by rw [joined_succ HPI.out]; simp
        have hlb : Hid (0 + bs.length ≤ maxLen ∧ (0 + bs.length) * 1 ≤ 140737488355328) := Lib.hid ⟨by have := HC.out.2.2; have := joined_le ls (i + 1); unfold maxLen; omega, by have := HC.out.2.2; have := joined_le ls (i + 1); omega⟩
        have hsum : Hid ((joined ls i).length + bs.length ≤ maxLen ∧ ((joined ls i).length + bs.length) * 1 ≤ 140737488355328 ∧ (joined ls i ++ bs).length ≤ 1048576) := by
          have h1 := HC.out.2.2
          have h2 := joined_le ls (i + 1)
          have h4 : joined ls (i + 1) = joined ls i ++ bs := joined_succ HPI.out
          rw [h4] at h2
          have h3 : (joined ls i ++ bs).length = (joined ls i).length + bs.length := List.length_append
          exact Lib.hid ⟨by unfold maxLen; omega, by omega, by omega⟩
        clear hj hu2
        go_upto_region 12 with (refine wpList_append_any rfl (.tmp 49) (.tmp 50) 22 rfl wr.heap.size 5 i0 (.int .u8 0) 1 1 und22 HI.out rfl (by decide) _ 0 [] rfl hown0.out a1 bs.length c1 (bs.map bv) rfl hsrc.out (by intro u hu; obtain ⟨b, _, rfl⟩ := List.mem_map.1 hu; rfl) hlb.out.1 hlb.out.2 (by simp) ?_; intro V4 w4 hown4 hgr4 hat4)
        have h4 : Hid (w4.ownsRow wr.heap.size 5 1 V4 bs.length (bs.map bv) ∧ Below wr.heap.size wr w4) := by
          refine Lib.hid ⟨by have := hown4; rw [Nat.zero_add, List.nil_append] at this; exact this, below_grown (Nat.le_refl _) ((Below.refl _ _).alloc (Nat.le_refl _) _) hgr4 (fun k hk => by injection hk with hk; subst hk; exact Nat.le_refl _)⟩
        clear hown0 hsrc hlb hown4 hgr4 hat4
        obtain ⟨a7, c7, rfl, b7, n7, l7, m7, t7⟩ := slice_of h4.out.1
        have hp4 := Lib.hid (hp.out.next h4.out.2)
        have hge : ∀ x, a7 = some x → wr.heap.size ≤ x.block := fun x hx => by subst hx; exact owns_base h4.out.1 (k := x.block) (by obtain ⟨b, o, s⟩ := x; rcases ownsRow_forms h4.out.1 with ⟨h, _⟩ | ⟨g, c, h, _⟩ <;> simp at h; obtain ⟨⟨rfl, rfl, rfl⟩, _⟩ := h; rfl)
        have H7 := Lib.hid (And.intro n7 (And.intro hge t7))
        have hqlt : q < wr.heap.size := hp.out.hh.lt
        have HA := Lib.hid (add_walk permIs q (joined ls i) bs a7 c7 w4 (ktab_below HT.out hp4.out.below) hp4.out.hh b7 (fun x hx e => by have := hge x hx; omega) l7 m7 (fun e => by have := inHeap (HT.out 0 (by decide)); have := hp.out.o1; omega))
        clear n7 b7 l7 m7 hge t7
        go_upto_region 14 with (go_at_call 14; refine HA.out.mono ?_; rintro e w5 ⟨rfl, hH5, hK5⟩)
        have hlow : ∀ k, u7.ownBlock = some k → B ≤ k ∧ k < wr.heap.size := hp.out.all.lt
        have hP5 : Hid (Pi w B q u7 (joined ls i ++ bs) (joined ls i) w5) := by
          have hk := (Kept.ofBelow (S := (· = q)) hp4.out.below).trans hK5 (fun _ _ h => h)
          exact Lib.hid ⟨hH5, hK5.row hp4.out.all (fun k hk e => by have := (hlow k hk).1; have := hp.out.o2; omega), hk.below (Nat.le_refl _) (fun k _ e => by rw [e]; exact hp.out.o1), hp.out.o1, hp.out.o2, Nat.le_trans hp4.out.o3 hK5.size⟩
        have hM5 : w5.ownsRow wr.heap.size 5 1 (.slice a7 bs.length c7) bs.length (bs.map bv) := hK5.row h4.out.1 (fun k hk e => by have := owns_base h4.out.1 hk; omega)
        have hR5 : 0 < bs.length → ∃ (g : Nat) (f : Nat → Bt), a7 = some ⟨g, 0, none⟩ ∧ Row8 w5 g bs.length f := fun h0 => by
          obtain ⟨g, cap', e, _, _, _, _, hr⟩ := row8_of hM5 h0
          injection e with e1
          exact ⟨g, _, e1, hr⟩
        have HR5 := Lib.hid hR5
        have HLW := Lib.hid hlow
        clear hH5 hK5 hM5 hR5 hp4 HA hlow
        have hbl : (bs.length : Int) ≤ 1048576 := by have := hsum.out.2.2; rw [List.length_append] at this; omega
        go_wp2_with fail
        go_loopw [58] (fun t y => ∃ k : Nat, k ≤ bs.length ∧ t = .int .i64 k ∧ Hid (Kept (fun b => ∃ x, a7 = some x ∧ x.block = b) w5 y ∧ (0 < bs.length → ∃ (g : Nat) (f : Nat → Bt), a7 = some ⟨g, 0, none⟩ ∧ Row8 y g bs.length f))) (fun t _ => bs.length - (intOf t).toNat)
        case atStart => exact ⟨0, Nat.zero_le _, rfl, Lib.hid ⟨Kept.refl _ _, HR5.out⟩⟩
        case round =>
          obtain ⟨k, hk, rfl, hkk⟩ := hrel
          clear HR5
          by_cases hklt : (k : Int) < (bs.length : Int)
          · have HKL := Lib.hid (show k < bs.length by omega)
            obtain ⟨g, f, rfl, hrow⟩ := hkk.out.2 (by omega)
            have ck : _ = some (Value.int .u8 (Bv (f k))) := hrow.cell k (by omega)
            have fk := hrow.fz k
            go_wp2_with fail
            exact ⟨⟨k + 1, HKL.out, by go_num, Lib.hid ⟨hkk.out.1.setCell (p := ⟨g, k, none⟩) (.inl ⟨⟨g, 0, none⟩, rfl, rfl⟩) _, fun _ => ⟨g, _, rfl, hrow.set k 238#8⟩⟩⟩, by have := HKL.out; simp [intOf]; omega⟩
          · obtain rfl : k = bs.length := by omega
            go_upto_region 19 with (fail)
            have hqlt := hp.out.hh.lt
            have hP6 : Hid (Pi w B q u7 (joined ls i ++ bs) (joined ls i) wr) := Lib.hid (hP5.out.kept hkk.out.1 (fun ⟨x, hx, e⟩ => by have := H7.out.2.1 x hx; omega) (fun k hk ⟨x, hx, e⟩ => by have := H7.out.2.1 x hx; have := (HLW.out k hk).2; omega) (fun k hk ⟨x, hx, e⟩ => by have := H7.out.2.1 x hx; have := hp.out.o1; omega))
            have hsrc : Hid ((a1 = none ∧ bs.length = 0 ∧ c1 = 0 ∧ bs.map bv = []) ∨ ∃ ad, a1 = some ad ∧ (bs.map bv).length = bs.length * 1 ∧ ∀ j u, (bs.map bv)[j]? = some u → wr.cell? (ad.add j) = some u) :=
              Lib.hid (src_of wr HB0.out HBN.out (fun b o v hv => keep1 hP6.out.below hv))
            have HLT : Hid (i < ls.length ∧ i < 30) := Lib.hid ⟨by omega, by omega⟩
            clear hP5 hkk hk hklt hlt h30 hbl hqlt
            go_upto_region 20 with (refine wpList_append_any rfl (.tmp 65) (.tmp 66) 22 rfl B 5 i0 (.int .u8 0) 1 1 und22 HI.out rfl (by decide) _ (joined ls i).length ((joined ls i).map bv) rfl hP6.out.all a1 bs.length c1 (bs.map bv) rfl hsrc.out (by intro u hu; obtain ⟨b, _, rfl⟩ := List.mem_map.1 hu; rfl) hsum.out.1 hsum.out.2.1 hP6.out.o3 ?_; intro V7 w7 hown7 hgr7 hat7)
            have hP7 : Hid (Pi w B q V7 (joined ls i ++ bs) (joined ls i ++ bs) w7) := Lib.hid (hP6.out.grown hown7 hgr7)
            clear hown7 hgr7 hat7 hsrc hP6
            have HJ : Hid (joined ls (i + 1) = joined ls i ++ bs) := Lib.hid (joined_succ HPI.out)
            generalize joined ls i ++ bs = l7 at *
            have HS7 := Lib.hid (hsum_walk permIs q l7 w7 (ktab_below HT.out hP7.out.below) hP7.out.hh)
            have hzl : z32.size = 32 := by rw [← HZ32.out, tab_size]
            have HZL := Lib.hid hzl
            clear hzl
            go_upto_region 21 with (first
              | (go_at_call 12; refine HS7.out.mono ?_; rintro e w8 ⟨rfl, hb8⟩)
              | (refine wpList_store_row rfl 27 (.tmp 12) (.tmp 71) rfl w8.heap.size (tab 32 fun i => bv (sum l7 i)) rfl rfl 27 z32 (heap_alloc_last w8 _) (infH _) (by rw [HZL.out, tab_size]) (one_bv _ _) ?_; rw [World.setRow_alloc_new]; simp only [Act.put]))
            obtain ⟨aa, cc, rfl, bA, nA, lA, mA, tA⟩ := slice_of hP7.out.all
            have hq8 : Hid (Pq w B q w8.heap.size (.slice aa l7.length cc) aa l7 (w8.alloc (.cells (tab 32 fun i => bv (sum l7 i)) 27)).drew) := by
              have kb : Below w7.heap.size w7 (w8.alloc (.cells (tab 32 fun i => bv (sum l7 i)) 27)) := hb8.alloc hb8.size _
              have hx : Pq w B q w8.heap.size (.slice aa l7.length cc) aa l7 (w8.alloc (.cells (tab 32 fun i => bv (sum l7 i)) 27)) :=
                ⟨hP7.out.next kb, IsTab.new w8 _ 32 _, isBs_keep bA (fun _ _ _ _ => keep1 kb), fun x hx => Nat.lt_of_lt_of_le (tA x hx) kb.size⟩
              exact Lib.hid hx.drew
            have HAA := Lib.hid (And.intro nA (And.intro lA mA))
            clear nA lA mA bA tA hb8 hP7 HS7
            generalize w8.alloc (.cells (tab 32 fun i => bv (sum l7 i)) 27) = y8 at *
            generalize w8.heap.size = q8 at *
            have NE : Nonempty (Wd (Pq w B q q8 (.slice aa l7.length cc) aa l7)) := ⟨⟨_, hq8.out⟩⟩
            have hld : ∀ u, (∃ z : Wd (Pq w B q q8 (.slice aa l7.length cc) aa l7), u = z.val) → (Instr.loadAt 27 (.pointer (some ⟨q8, 0, none⟩))).run Tryd.prog u = .ok (.agg (tab 32 fun i => bv (sum l7 i))) u := fun u ⟨z, hz⟩ => by
              rw [hz]; exact loadHs z.ok.st
            have LD := Lib.hid hld
            clear hld
            have QS := Lib.hid (fun z : Wd (Pq w B q q8 (.slice aa l7.length cc) aa l7) => in_of_below z (fun y hb => z.ok.next hb) (rsum_walk l7 aa cc z.val z.ok.bs HAA.out.1 HAA.out.2.1 (by have := hsum.out.2.2; omega)))
            have e1 := neq32 (sum l7)
            generalize (tab 32 fun i => bv (sum l7 i)) = vs at *
            refine wp_region_in (Pq w B q q8 (.slice aa l7.length cc) aa l7) (by kernel_rfl) (by kernel_rfl) hq8.out ?_
            repeat (first
              | (refine wpQuiet_loadg 27 _ (.pointer (some ⟨q8, 0, none⟩)) _ (by rfl) rfl rfl LD.out ?_; simp only [Act.put, List.setIfInBounds_toArray, List.set_cons_zero, List.set_cons_succ])
              | (go_big_quiet_step (with_reducible exact QS.out _)))
            refine wpQuiet_nil ?_
            rintro _ ⟨z, rfl⟩
            go_wp2_with fail
            exact ⟨⟨i + 1, _, HLT.out.1, HLT.out.2, by have := HLT.out.2; go_num, rfl, Lib.hid (by rw [HJ.out]; exact z.ok.pi)⟩, by have := HLT.out.1; simp [intOf]; omega⟩
    · have hl7 : (joined ls i).length ≤ 1048576 := Nat.le_trans (joined_le ls i) HC.out.2.2
      have HL7 := Lib.hid hl7
      clear hl7
      generalize joined ls i = l7 at *
      have HS7 := Lib.hid (hsum_walk permIs q l7 wr (ktab_below HT.out hp.out.below) hp.out.hh)
      have hzl : z32.size = 32 := by rw [← HZ32.out, tab_size]
      have HZL := Lib.hid hzl
      clear hzl
      go_upto_region 25 with (first
        | (go_at_call 12; refine HS7.out.mono ?_; rintro e w8 ⟨rfl, hb8⟩)
        | (refine wpList_store_row rfl 27 (.tmp 14) (.tmp 85) rfl w8.heap.size (tab 32 fun i => bv (sum l7 i)) rfl rfl 27 z32 (heap_alloc_last w8 _) (infH _) (by rw [HZL.out, tab_size]) (one_bv _ _) ?_; rw [World.setRow_alloc_new]; simp only [Act.put]))
      obtain ⟨aa, cc, rfl, bA, nA, lA, mA, tA⟩ := slice_of hp.out.all
      have hq8 : Hid (Pq w B q w8.heap.size (.slice aa l7.length cc) aa l7 (w8.alloc (.cells (tab 32 fun i => bv (sum l7 i)) 27)).drew) := by
        have kb : Below wr.heap.size wr (w8.alloc (.cells (tab 32 fun i => bv (sum l7 i)) 27)) := hb8.alloc hb8.size _
        have hx : Pq w B q w8.heap.size (.slice aa l7.length cc) aa l7 (w8.alloc (.cells (tab 32 fun i => bv (sum l7 i)) 27)) :=
          ⟨hp.out.next kb, IsTab.new w8 _ 32 _, isBs_keep bA (fun _ _ _ _ => keep1 kb), fun x hx => Nat.lt_of_lt_of_le (tA x hx) kb.size⟩
        exact Lib.hid hx.drew
      have HAA := Lib.hid (And.intro nA (And.intro lA mA))
      clear nA lA mA bA tA hb8 hp HS7
      generalize w8.alloc (.cells (tab 32 fun i => bv (sum l7 i)) 27) = y8 at *
      generalize w8.heap.size = q8 at *
      have NE : Nonempty (Wd (Pq w B q q8 (.slice aa l7.length cc) aa l7)) := ⟨⟨_, hq8.out⟩⟩
      have hld : ∀ u, (∃ z : Wd (Pq w B q q8 (.slice aa l7.length cc) aa l7), u = z.val) → (Instr.loadAt 27 (.pointer (some ⟨q8, 0, none⟩))).run Tryd.prog u = .ok (.agg (tab 32 fun i => bv (sum l7 i))) u := fun u ⟨z, hz⟩ => by
        rw [hz]; exact loadHs z.ok.st
      have LD := Lib.hid hld
      clear hld
      have QS := Lib.hid (fun z : Wd (Pq w B q q8 (.slice aa l7.length cc) aa l7) => in_of_below z (fun y hb => z.ok.next hb) (sum_walk permIs l7 aa cc z.val (ktab_below HT.out z.ok.pi.below) z.ok.bs z.ok.lt HAA.out.2.1 HAA.out.2.2))
      have e1 : ∀ u, (binOp .eql 27 (.agg (tab 32 fun i => bv (sum l7 i))) (.agg (tab 32 fun i => bv (sum l7 i)))).run Tryd.prog u = .ok (.bool true) u := fun u => by rw [eql32, same32_refl]
      generalize (tab 32 fun i => bv (sum l7 i)) = vs at *
      refine wp_region_in (Pq w B q q8 (.slice aa l7.length cc) aa l7) (by kernel_rfl) (by kernel_rfl) hq8.out ?_
      repeat (first
        | (refine wpQuiet_loadg 27 _ (.pointer (some ⟨q8, 0, none⟩)) _ (by rfl) rfl rfl LD.out ?_; simp only [Act.put, List.setIfInBounds_toArray, List.set_cons_zero, List.set_cons_succ])
        | (go_big_quiet_step (with_reducible exact QS.out _)))
      refine wpQuiet_nil ?_
      rintro _ ⟨z, rfl⟩
      go_wp2_with fail
      go_ret
      exact ⟨rfl, z.ok.pi.below⟩
end Kc
end Go.Proofs.YtdmbmilfclllaaaDoor
