/- Contracts, fourth part: Order. -/
import Derived.Test.YtlpoholdphihfaaRng3
namespace Go.Proofs.Ytlpoholdphihfaa
open Go.RowKit
set_option linter.unusedVariables false

theorem rngBelow_of {x y : Int} (s n m : Nat) (w : World) (hx : x = (n : Int)) (hy : y = (m : Int)) (hs : s < 18446744073709551616) (hn : n < 18446744073709551616) (hm : m < 18446744073709551616) :
    Calls Try.prog 12 #[.int .u64 (s : Int), .int .u64 x, .int .u64 y] w (Ret (.int .u64 ((belowN s n m : Nat) : Int)) w) := by
  subst hx hy
  exact rngBelow_any s n m w hs hn hm
theorem place_lt (n i : Nat) : place n i < 18446744073709551616 := Nat.mod_lt _ (by decide)
theorem place_eq (n i : Nat) : IntKind.u64.wrap ((n : Int) + (i : Int)) = ((place n i : Nat) : Int) := by
  unfold place
  rw [wrU]; omega

/-- An order comes back, in new memory. -/
def RetOrd (c : Nat) (p : Nat → Nat) (w : World) (e : Ending) (w' : World) : Prop :=
  ∃ g, e = .returned (.tuple #[.slice (some ⟨g, 0, none⟩) c c, .int .i64 0]) ∧ Arr w' w.heap.size g c p ∧ Below w.heap.size w w'

set_option maxHeartbeats 400000 in
theorem order_out (s n : Nat) (c : Int) (w : World) (h : c < 0 ∨ 256 < c) :
    Calls Try.prog 15 #[.int .u64 (s : Int), .int .u64 (n : Int), .int .i64 c] w (Ret (.tuple #[.slice none 0 0, .int .i64 1]) w) := by
  rcases h with h | h
  · go_enter Try.func15, Try.ntmps15
    go_wp2
    go_ret2
    exact Ret.mk rfl (Below.refl _ _)
  · have h0 : ¬ c < 0 := by omega
    go_enter Try.func15, Try.ntmps15
    go_wp2
    go_ret2
    exact Ret.mk rfl (Below.refl _ _)

set_option maxHeartbeats 1000000 in
theorem order_any (s n c : Nat) (w : World) (hs : s < 18446744073709551616) (hn : n < 18446744073709551616) (hc : c ≤ 256) :
    Calls Try.prog 15 #[.int .u64 (s : Int), .int .u64 (n : Int), .int .i64 (c : Int)] w (RetOrd c (ord s n c (c - 1)) w) := by
  go_enter Try.func15, Try.ntmps15
  go_wp2_with fail
  refine (ascending_any c _ hc).mono ?_
  rintro e w1 ⟨g, rfl, hA, hB⟩
  have HA := Lib.hid hA
  have HB := Lib.hid hB
  clear hA hB
  go_wp2
  go_loopw [9] (fun i wr => ∃ k : Nat, (k + 1 ≤ c ∨ k = 0) ∧ i = .int .i64 ((c : Int) - 1 - (k : Int)) ∧ Arr wr w.heap.size g c (ord s n c k) ∧ Below w.heap.size w wr) (fun i _ => (intOf i).toNat)
  case atStart =>
    refine ⟨0, Or.inr rfl, by go_num, HA.out, HB.out⟩
  case round =>
    obtain ⟨k, hk, rfl, hA, hB⟩ := hrel
    clear HA HB
    by_cases hlt : 1 ≤ (c : Int) - 1 - (k : Int)
    · obtain ⟨I, hI⟩ : ∃ I : Nat, c - 1 - k = I := ⟨_, rfl⟩
      have e1 : (c : Int) - 1 - (k : Int) = (I : Int) := by omega
      rw [e1] at hlt ⊢
      have HS : Hid (ord s n c (k + 1) = swp (ord s n c k) I (belowN s (place n I) (I + 1))) := by
        show _ = _
        rw [ord, hI]
      have hJ : belowN s (place n I) (I + 1) < I + 1 := belowN_lt (by omega)
      have hIc : I < c := by omega
      have hkc : k + 1 < c := by omega
      have hI2 : 1 ≤ I := by omega
      have HA := Lib.hid hA
      have HB := Lib.hid hB
      have HE := Lib.hid (show c - 1 - (k + 1) = I - 1 by omega)
      have hmeas : ((I : Int) - 1) = (c : Int) - 1 - ((k + 1 : Nat) : Int) := by omega
      have HM := Lib.hid hmeas
      clear hA hB hI e1 hmeas hk hlt
      have hI3 : (1 : Int) ≤ (I : Int) := by omega
      go_wp2_with fail
      refine (rngBelow_of s (place n I) (I + 1) _ (place_eq n I) ?_ hs (place_lt n I) (by omega)).mono ?_
      · omega
      rintro e w2 ⟨rfl, b2⟩
      have HA2 := Lib.hid (HA.out.keep b2)
      have HB2 := Lib.hid (HB.out.trans (b2.mono HB.out.size))
      clear HA HB b2
      obtain ⟨J, eJ⟩ : ∃ J, belowN s (place n I) (I + 1) = J := ⟨_, rfl⟩
      rw [eJ] at hJ HS ⊢
      have EJ := Lib.hid eJ
      clear eJ
      have hJc : J < c := by omega
      obtain ⟨p, ep⟩ : ∃ p, ord s n c k = p := ⟨_, rfl⟩
      rw [ep] at HA2 HS
      have EP := Lib.hid ep
      clear ep
      have hci := HA2.out.cell I hIc
      have hcj := HA2.out.cell J hJc
      have hfi := HA2.out.free I hIc
      have hfj := HA2.out.free J hJc
      have j0 : (0 : Int) ≤ (J : Int) := by omega
      have j1 : (J : Int) < (c : Int) := by omega
      have j2 : (I : Int) < (c : Int) := by omega
      have HX := Lib.hid (And.intro hs hn)
      clear hs hn
      obtain ⟨u, hu⟩ : ∃ u, (w2.setCell ⟨g, I, none⟩ (.int .i64 (p J : Int))).cell? ⟨g, J, none⟩ = some u := cell?_setCell_some hcj
      have HA3 := Lib.hid (HA2.out.swap hIc hJc)
      have HB3 := Lib.hid ((HB2.out.setCell (p := ⟨g, I, none⟩) HA2.out.lo (.int .i64 (p J : Int))).setCell (p := ⟨g, J, none⟩) HA2.out.lo (.int .i64 (p I : Int)))
      clear HA2 HB2
      go_wp2
      go_region
      go_wp2
      go_roundw
      case rel => exact ⟨k + 1, by omega, congrArg (Value.int .i64) HM.out, by rw [HS.out]; exact HA3.out.drew, HB3.out.drew⟩
      case measure => simp [intOf]; omega
    · have HE : Hid (c - 1 = k) := by
        show _ = _
        omega
      have HA := Lib.hid hA
      have HB := Lib.hid hB
      clear hA hB
      go_wp2
      go_ret2
      exact ⟨g, rfl, by rw [HE.out]; exact HA.out, HB.out⟩

end Go.Proofs.Ytlpoholdphihfaa
