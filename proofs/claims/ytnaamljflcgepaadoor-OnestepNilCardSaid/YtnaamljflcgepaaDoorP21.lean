/- Merged of Fi. Own work. -/
import Derived.Test.YtnaamljflcgepaaDoorP20
namespace Go.Proofs.YtnaamljflcgepaaDoor
open Go.RowKit
set_option linter.unusedVariables false
set_option linter.unusedSimpArgs false
namespace Os
open Kc Mk Co
open Vm (Mac IsMac OkM pOk pOp pA pA_lt)
theorem IsMm.kept {w w' : World} {q b s : Nat} {V : Value} {pre : Nat → Bt} {S : Nat → Prop} (h : IsMm w q b s V pre) (hk : Kept S w w') (hn : ¬ S q) : IsMm w' q b s V pre := (hk.block _ (IsTab.lt h) hn).trans h
theorem IsPm.kept {w w' : World} {q : Nat} {R : Hx} {V : Value} {pre : Nat → Bt} {S : Nat → Prop} (h : IsPm w q R V pre) (hk : Kept S w w') (hn : ¬ S q) : IsPm w' q R V pre := (hk.block _ (IsTab.lt h) hn).trans h
theorem prove_still (w : World) (b s : Nat) (M : Mac) (hm : IsMac w b M) (hmem : ∀ i, M.mem i < 18446744073709551616) (ht : Laid.KTab w) (hh : M.halted = true) :
    Calls Tryd.prog 7 #[.pointer (some ⟨b, 0, none⟩), .pointer (some ⟨s, 0, none⟩)] w fun e w' => e = .returned (.tuple #[.agg (tab 116 (stv (mroot M) M (.slice none 0 0) (fun _ => 0#8))), .nilIface]) ∧ Below w.heap.size w w' := by
  refine (prove_by w b s M (fun a n cc pre z => a = none ∧ n = 0 ∧ cc = 0 ∧ pre = (fun _ => 0#8)) hm hmem ht (fun y q qm c hq hqm hc hk hb hne => ?_) (fun a n cc pre y y' h _ => h)).mono ?_
  · refine (adv_still y q _ M hq hh).mono ?_
    rintro e w' ⟨he, rfl⟩
    exact ⟨he, none, 0, 0, (fun _ => 0#8), hqm, ⟨rfl, rfl, rfl, rfl⟩, Kept.refl _ _⟩
  · rintro e w' ⟨a, n, cc, pre, he, ⟨rfl, rfl, rfl, rfl⟩, hb⟩
    exact ⟨he, hb⟩
theorem prove_halt (w : World) (b s : Nat) (M : Mac) (hm : IsMac w b M) (hok : OkM M) (ht : Laid.KTab w) (hh : M.halted = false) (hpc : M.pc < 8192) (hp : pOk (M.mem M.pc) = true) (hop : pOp (M.mem M.pc) = 0) :
    Calls Tryd.prog 7 #[.pointer (some ⟨b, 0, none⟩), .pointer (some ⟨s, 0, none⟩)] w fun e w' => ∃ a c, e = .returned (.tuple #[.agg (tab 116 (stv (mroot M) M (.slice (some ⟨a, 0, none⟩) 1 c) (fun _ => 0#8))), .nilIface]) ∧ (∃ B T, Pf1 w' (.slice (some ⟨a, 0, none⟩) 1 c) (M.mem M.pc) (sib (mg M) M.pc) B T) ∧ Below w.heap.size w w' := by
  refine (prove_by w b s M (fun a n cc pre z => n = 1 ∧ (∃ x, a = some ⟨x, 0, none⟩) ∧ pre = (fun _ => 0#8) ∧ ∃ B T, Pf1 z (.slice a n cc) (M.mem M.pc) (sib (mg M) M.pc) B T ∧ w.heap.size < B) hm hok.mem ht (fun y q qm c hq hqm hc hk hb hne => ?_) (fun a n cc pre y y' h hk => ?_)).mono ?_
  · refine (adv_halt_m y q qm (M.mem M.pc) M (fun z => Below y.heap.size y z) (fun z => ∃ V, IsMm z qm c s V (fun _ => 0#8) ∧ (∃ B T, Pf1 z V (M.mem M.pc) (sib (mg M) M.pc) B T ∧ y.heap.size ≤ B) ∧ Kept (fun k => k = qm) y z) hq hh hpc (hok.reg _) (hok.mem _) hp hop (Below.refl _ _).drew (fun z hz => ?_) (fun z hz => ?_)).mono ?_
    · refine (mread_first z qm c s M.pc (fun _ => 0#8) M (IsTab.below hqm hz) (hc.below hz) hok.mem hpc (ktab_below hk hz)).mono ?_
      rintro e w' ⟨he, V, g1, ⟨T, g2⟩, g3⟩
      exact ⟨he, V, g1, ⟨_, T, g2, hz.size⟩, (Kept.ofBelow hz).trans g3 fun _ _ h => h⟩
    · obtain ⟨V, _, _, g⟩ := hz
      exact hq.kept g hne.2.2.2.1
    · rintro e w' ⟨he, z, ⟨V, g1, ⟨B, T, g2, g3⟩, g4⟩, g5, g6⟩
      obtain ⟨a, c9, g, cg, rfl, g7⟩ := g2.ex
      have hql := hq.lt
      refine ⟨he, some ⟨a, 0, none⟩, 1, c9, (fun _ => 0#8), g1.kept g6 (fun e => hne.2.2.2.1 e.symm), ⟨rfl, ⟨a, rfl⟩, rfl, B, T, g2.kept g6 (fun k e => .inl (by rw [e]; omega)), ?_⟩, (g4.mono fun _ _ h => .inr (.inl h)).trans g6 fun _ _ h => .inl h⟩
      have := hb.size
      have := hne.1
      omega
  · obtain ⟨h1, h2, h3, B, T, h4, h5⟩ := h
    exact ⟨h1, h2, h3, B, T, h4.kept hk (fun k e => .inl (by rw [e]; exact h5)), h5⟩
  · rintro e w' ⟨a, n, cc, pre, he, ⟨rfl, ⟨x, rfl⟩, rfl, B, T, h4, h5⟩, hb⟩
    exact ⟨x, cc, he, ⟨B, T, h4⟩, hb⟩
theorem verify_still (w : World) (M : Mac) (pre : Nat → Bt) (hok : OkM M) (ht : Laid.KTab w) (hh : M.halted = true) :
    Calls Tryd.prog 9 #[dv (ofX M), .agg (tab 116 (stv (mroot M) M (.slice none 0 0) pre))] w fun e w' => e = .returned (.tuple #[dv (ofX M), .nilIface]) ∧ Below w.heap.size w w' := by
  refine verify_by w (ofX M) (mroot M) M none 0 0 pre ⟨hok.reg, hok.pc, hok.exit⟩ ht (same_refl _) M (mroot M) ⟨hok.reg, hok.pc, hok.exit⟩ fun y q qm hq hqm hk hb hne => ?_
  refine (adv_still y q _ M hq hh).mono ?_
  rintro e w' ⟨he, rfl⟩
  exact ⟨he, hq, ⟨none, 0, hqm⟩, Kept.refl _ _⟩
theorem verify_halt (w : World) (a c B T : Nat) (M : Mac) (pre : Nat → Bt) (hok : OkM M) (ht : Laid.KTab w) (hh : M.halted = false) (hpc : M.pc < 8192) (hp : pOk (M.mem M.pc) = true) (hop : pOp (M.mem M.pc) = 0) (hpf : Pf1 w (.slice (some ⟨a, 0, none⟩) 1 c) (M.mem M.pc) (sib (mg M) M.pc) B T) :
    Calls Tryd.prog 9 #[dv (ofX M), .agg (tab 116 (stv (mroot M) M (.slice (some ⟨a, 0, none⟩) 1 c) pre))] w fun e w' => e = .returned (.tuple #[dv (ofX (stopH { M with pc := M.pc + 1 } (M.reg (pA (M.mem M.pc))))), .nilIface]) ∧ Below w.heap.size w w' := by
  refine verify_by w (ofX M) (mroot M) M (some ⟨a, 0, none⟩) 1 c pre ⟨hok.reg, hok.pc, hok.exit⟩ ht (same_refl _) (stopH { M with pc := M.pc + 1 } (M.reg (pA (M.mem M.pc)))) (mroot M) ⟨hok.reg, (by show M.pc + 1 < 18446744073709551616; omega), hok.reg _⟩ fun y q qm hq hqm hk hb hne => ?_
  have hc := inHeap (ht 0 (by decide))
  refine (adv_halt_p y q qm (M.mem M.pc) M (fun z => Below y.heap.size y z) (fun z => (∃ x cc, IsPm z qm (mroot M) (.slice x 0 cc) pre) ∧ Kept (fun k => k = qm) y z) hq hh hpc (hok.reg _) (hok.mem _) hp hop (Below.refl _ _).drew (fun z hz => ?_) (fun z hz => ?_)).mono ?_
  · have hpz : Pf1 z (.slice (some ⟨a, 0, none⟩) 1 c) (M.mem M.pc) (sib (mg M) M.pc) B T := hpf.kept (S := fun _ => False) (Kept.ofBelow (bl hb hz)) (fun k e => e.elim)
    refine (pread_first z qm (M.mem M.pc) B T M.pc (mroot M) _ (sib (mg M) M.pc) pre (IsTab.below hqm hz) hpz (.inr (by have := hpf.top; have := hne.2.1; omega)) hpc (hok.mem _) (by rw [own_fold M hpc]; exact same_refl _) (ktab_below hk hz) (by have := hne.2.1; omega)).mono ?_
    rintro e w' ⟨he, g1, g2⟩
    exact ⟨he, g1, (Kept.ofBelow hz).trans g2 fun _ _ h => h⟩
  · exact hq.kept hz.2 hne.2.2
  · rintro e w' ⟨he, z, ⟨⟨x, cc, g1⟩, g4⟩, g5, g6⟩
    exact ⟨he, g5, ⟨x, cc, g1.kept g6 (fun e => hne.2.2 e.symm)⟩, (g4.mono fun _ _ h => .inr h).trans g6 fun _ _ h => .inl h⟩
end Os
end Go.Proofs.YtnaamljflcgepaaDoor
