/- Contracts of package crater, fourth part: valid. -/
import Derived.Test.YtcneilhhpblclaaCr3
namespace Go.Proofs.Ytcneilhhpblclaa
open Go.RowKit Go.Shelf
set_option linter.unusedVariables false
attribute [local go_sem] Oper.semAt_some

theorem results_cell_bool {fn : Func} {p : Tmp} (h : fn.results = #[.cell p 4]) (tmps : Array Value) (w : World) (g : Nat) (b : Bool) (hp : tmps.getD p undef = .pointer (some ⟨g, 0, none⟩)) (hc : w.cell? ⟨g, 0, none⟩ = some (.bool b)) :
    (results fn tmps).run Try.prog w = .ok (.bool b) w := by
  have hp' : tmps[p]?.getD undef = .pointer (some ⟨g, 0, none⟩) := by simpa using hp
  simp [results, h, hp', asAddr, go_sem, hc]

set_option maxRecDepth 100000 in
set_option maxHeartbeats 2000000 in
theorem valid_any (gb N c : Nat) (A : Option Addr) (h : Nat → Ht) (b : Bool) (hb : b = true ↔ ∀ q, q < N → Ok9 (h q)) (w : World) (hN : N ≤ maxLen) (hB : Boxed w gb 31 (.slice A N c)) (hH : Hs w A N h) :
    Calls Try.prog 41 #[.func (.func 43) #[] #[.pointer (some ⟨gb, 0, none⟩)]] w (Ret (.bool b) w) := by
  have HBb := Lib.hid hb
  obtain ⟨V, hV⟩ : ∃ V, w.alloc (.cells #[.bool false] 4) = V := ⟨_, rfl⟩
  have b0 : Below w.heap.size w V := by rw [← hV]; exact (Below.refl _ _).alloc (Nat.le_refl _) _
  have hs0 : V.heap.size = w.heap.size + 1 := by rw [← hV]; simp
  have I0 : Hid (Boxed V w.heap.size 4 (.bool false) ∧ Below w.heap.size w V) := ⟨by rw [← hV]; exact Boxed.new w _ _, b0⟩
  have HSq := Lib.hid (each_seq (3 - 1) gb N c A h w (by decide) hN hB hH)
  have HV := Lib.hid hV
  clear hV hb hB hH b0
  have hn3 : 1 ≤ 3 := by decide
  refine (callsIn_wide (n := 3)).1 ?_
  refine callsIn_of_wp_marks Try.func41 rfl trivial ?_ rfl
  simp only [Try.ntmps41, List.size_toArray, List.length_cons, List.length_nil, Nat.reduceAdd, Nat.reduceSub, Array.replicate_succ, Array.replicate_zero, List.push_toArray, List.append_toArray, List.nil_append, List.cons_append]
  gi_wp2
  rw [HV.out]
  refine range9 rfl hn3 (gf := 43) (lb := #[.pointer (some ⟨gb, 0, none⟩)]) rfl trivial (enters_of Try.func43 (by kernel_rfl) rfl)
    HSq.out I0.out.2 (fun _ => rfl)
    (fun q W => (∀ k, k < q → Ok9 (h k)) ∧ Boxed W w.heap.size 4 (.bool false) ∧ Below w.heap.size w W) (fun q W => ¬ Ok9 (h q) ∧ Boxed W w.heap.size 4 (.bool false) ∧ Below w.heap.size w W) ?own ?ownx ⟨fun k hk => absurd hk (Nat.not_lt_zero _), I0.out⟩
    (fun q a' W => ∃ g3, H4 W g3 (h q) ∧ a' = { tmps := #[.func (.func 43) #[] #[.pointer (some ⟨gb, 0, none⟩)], undef, .pointer (some ⟨w.heap.size, 0, none⟩), .pointer (some ⟨g3, 0, none⟩), .func (.func 43) #[] #[.pointer (some ⟨gb, 0, none⟩)], hv (h q), undef, undef, undef], defers := [] }) ?ax ?assign ?body ?done ?stop
  case own =>
    rintro q X Y row ⟨i1, i2, i3⟩ hg hr
    exact ⟨i1, i2.kept hg (fun e => by have := hr _ e.symm; omega), i3.trans ((Below.refl _ _).grown hg i3.size (fun k e => by have := hr k e; omega))⟩
  case ownx =>
    rintro q X Y row ⟨i1, i2, i3⟩ hg hr
    exact ⟨i1, i2.kept hg (fun e => by have := hr _ e.symm; omega), i3.trans ((Below.refl _ _).grown hg i3.size (fun k e => by have := hr k e; omega))⟩
  case ax =>
    rintro q a' - X Y row ⟨g3, hp, e⟩ hg hr
    exact ⟨g3, hp.block (hg.block g3 hp.lt (fun e' => by obtain ⟨_, o, ho, hc⟩ := hr g3 e'.symm; rw [show X.heap[g3]? = _ from hp] at ho; cases ho; cases hc)), e⟩
  case assign =>
    rintro l q X K hq ⟨i1, i2, i3⟩ hK
    have J1 := Lib.hid i1
    have J2 := Lib.hid i2
    have J3 := Lib.hid i3
    have HK := Lib.hid hK
    clear i1 i2 i3 hK
    unfold hv
    gi_wp2
    exact HK.out _ _ ((KeepsOthers.alloc X _).from _) (Kb.below ((Below.refl _ _).alloc (Nat.le_refl _) _)) ⟨J1.out, J2.out.alloc _, J3.out.alloc J3.out.size _⟩ ⟨X.heap.size, H4.new X _, rfl⟩
  case body =>
    rintro l q a' X hq ⟨i1, i2, i3⟩ ⟨g3, hP, rfl⟩
    obtain ⟨t0, t1, t2, t3⟩ := hP.c
    have J1 := Lib.hid i1
    have J2 := Lib.hid i2
    have J3 := Lib.hid i3
    clear i1 i2 i3 hP
    by_cases ho : Ok9 (h q)
    · have M := Lib.hid (may_yes (h q) X ho)
      have HI : Hid (∀ k, k < q + 1 → Ok9 (h k)) := by
        intro k hk
        rcases Nat.lt_or_ge k q with h' | h'
        · exact J1.out k h'
        · obtain rfl : k = q := by omega
          exact ho
      clear ho
      unfold hv at *
      gi_wp2_with fail
      refine ⟨trivial, ?_⟩
      refine (CallsIn.inRound l (callsIn_wide.2 M.out)).mono ?_
      rintro e X2 ⟨rfl, b2⟩
      have B2 := Lib.hid b2
      clear b2 t0 t1 t2 t3 M
      gi_wp2
      exact ⟨(KeepsOthers.of_grownBy (row := none) (below_grownBy B2.out) (fun j o e => by cases e)).from _, Kb.below B2.out, HI.out, box_keepB J2.out B2.out J2.out.lt, J3.out.trans (B2.out.mono J3.out.size)⟩
    · have M := Lib.hid (may_no (h q) X ho)
      have HO := Lib.hid ho
      clear ho
      unfold hv at *
      gi_wp2_with fail
      refine ⟨trivial, ?_⟩
      refine (CallsIn.inRound l (callsIn_wide.2 M.out)).mono ?_
      rintro e X2 ⟨rfl, b2⟩
      have B2 := Lib.hid b2
      have JJ := Lib.hid (box_keepB J2.out b2 J2.out.lt)
      have c3 := JJ.out.cell
      have c4 := JJ.out.frozen
      clear b2 t0 t1 t2 t3 M
      gi_wp2
      exact ⟨((KeepsOthers.of_grownBy (row := none) (below_grownBy B2.out) (fun j o e => by cases e)).trans (KeepsOthers.setCell _ _ _)).from _, HO.out, JJ.out.set _, (J3.out.trans (B2.out.mono J3.out.size)).setCell (p := ⟨w.heap.size, 0, none⟩) (Nat.le_refl _) _⟩
  case done =>
    rintro Dm X hD ⟨i1, i2, i3⟩ hK
    have H1 : Hid (b = true) := HBb.out.2 i1
    have H2 := Lib.hid (i2.set (.bool true))
    have H3 : Hid (Below w.heap.size w (X.setCell ⟨w.heap.size, 0, none⟩ (.bool true))) := i3.setCell (p := ⟨w.heap.size, 0, none⟩) (Nat.le_refl _) _
    have c3 := i2.cell
    have c4 := i2.frozen
    have HK : Hid ((X.setCell ⟨w.heap.size, 0, none⟩ (.bool true)).heap[Dm]? = some (.deferred (some []))) := (heap_setCell_other _ _ _ _ (by simp; omega)).trans hK
    clear i1 i2 i3 hK
    gi_wp2
    refine ⟨by simp, .inl ⟨Dm, _, rfl, run_takeDeferred HK.out, ?_⟩⟩
    have hgP := grownBy_putObj' (X.setCell ⟨w.heap.size, 0, none⟩ (.bool true)) Dm (.deferred none)
    have hB2 := H2.out.kept hgP (fun e => by injection e with e; omega)
    refine ⟨_, results_cell_bool rfl _ _ w.heap.size true rfl hB2.cell, ?_⟩
    exact Ret.mk (congrArg Value.bool H1.out.symm) (H3.out.trans ((Below.refl _ _).grown hgP H3.out.size (fun r e => by cases e; omega)))
  case stop =>
    rintro Dm q X hD hq ⟨i1, i2, i3⟩ hK
    have H1 : Hid (b = false) := by
      cases b with
      | false => rfl
      | true => exact absurd (HBb.out.1 rfl q hq) i1
    have H2 := Lib.hid i2
    have H3 := Lib.hid i3
    have HK := Lib.hid hK
    clear i1 i2 i3 hK
    gi_wp2
    refine ⟨by simp, .inl ⟨Dm, _, rfl, run_takeDeferred HK.out, ?_⟩⟩
    have hgP := grownBy_putObj' X Dm (.deferred none)
    have hB2 := H2.out.kept hgP (fun e => by injection e with e; omega)
    refine ⟨_, results_cell_bool rfl _ _ w.heap.size false rfl hB2.cell, ?_⟩
    exact Ret.mk (congrArg Value.bool H1.out.symm) (H3.out.trans ((Below.refl _ _).grown hgP H3.out.size (fun r e => by cases e; omega)))

end Go.Proofs.Ytcneilhhpblclaa
