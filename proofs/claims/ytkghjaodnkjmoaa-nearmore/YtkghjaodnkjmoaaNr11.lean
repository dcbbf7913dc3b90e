/- Contracts: some, nearest, Nearest. -/
import Derived.Test.YtkghjaodnkjmoaaNr10
namespace Go.Proofs.Ytkghjaodnkjmoaa
open Go.RowKit Go.Shelf
set_option linter.unusedVariables false

/-- The k-th reach. -/
def rk (k : Nat) : Int := 4194304 * 2 ^ k
theorem rk_succ (k : Nat) : rk (k + 1) = rk k * 2 := by unfold rk; rw [Int.pow_succ, Int.mul_assoc]
theorem rk_small {k : Nat} (h : k ≤ 5) : 4194304 ≤ rk k ∧ rk k ≤ 134217728 := by
  match k, h with
  | 0, _ => decide
  | 1, _ => decide
  | 2, _ => decide
  | 3, _ => decide
  | 4, _ => decide
  | 5, _ => decide

section
variable (X Y : Nat → Int)
/-- In the greatest reach are all. -/
theorem win_all {n : Nat} {x y : Int} (hO : oks X Y n) (hx : 0 ≤ x ∧ x ≤ 67108864) (hy : 0 ≤ y ∧ y ≤ 67108864) : win X Y n x y (rk 5) = List.range n := by
  unfold win
  rw [List.filter_eq_self]
  intro i hi
  obtain ⟨h1, h2⟩ := hO i (by simpa using hi)
  rw [sp_iff] at h1 h2
  obtain ⟨-, b⟩ := sqd_bound h1 h2 hx hy
  unfold sqd at b
  unfold okd dst
  refine decide_eq_true ?_
  have : rk 5 * rk 5 = 18014398509481984 := by decide
  rw [this]
  omega
/-- What some hands back: those of a reach, one at least. -/
def RetSome (n : Nat) (x y : Int) (w : World) (e : Ending) (w' : World) : Prop :=
  ∃ k A c, k ≤ 5 ∧ 0 < (wlist X Y n x y (rk k)).length ∧ e = .returned (.slice A (wlist X Y n x y (rk k)).length c) ∧ (wlist X Y n x y (rk k)).length ≤ c ∧ c ≤ maxLen ∧ Es X Y w' A (wlist X Y n x y (rk k)) ∧ Below w.heap.size w w'

set_option maxHeartbeats 2000000 in
theorem some_any (p n : Nat) (x y : Int) (w : World) (hI : Ix X Y w p n) (hO : oks X Y n) (h0 : 0 < n) (hn : n ≤ 256) (hx : 0 ≤ x ∧ x ≤ 67108864) (hy : 0 ≤ y ∧ y ≤ 67108864) :
    Calls Try.prog 23 #[.pointer (some ⟨p, 0, none⟩), .int .i64 x, .int .i64 y] w (RetSome X Y n x y w) := by
  have HI := Lib.hid hI
  have HW := Lib.hid (fun r => within_any p x y r)
  have HC := Lib.hid (fun gx gr gy gn r u hB hwa hr => collect_any X Y gx gr gy gn p n x y r u w hB hI hwa hO hn hx hy hr)
  have HLn : Hid (∀ k, (wlist X Y n x y (rk k)).length ≤ 256) := fun k => Nat.le_trans (wlist_len X Y n x y (rk k) (by unfold rk; exact Int.mul_nonneg (by decide) (Int.pow_nonneg (by decide)))) hn
  have HAll : Hid (0 < (wlist X Y n x y (rk 5)).length) := by
    show _ < _
    rw [(wlist_perm X Y n x y (rk 5) (by decide)).length_eq, win_all X Y hO hx hy, List.length_range]
    exact h0
  clear hI hO hx hy
  go_enter Try.func23, Try.ntmps23
  go_wp2
  go_loopw [7, 8] (fun s7 s8 wr => ∃ k : Nat, k ≤ 6 ∧ s8 = .int .i64 (rk k) ∧ Hid (Below w.heap.size w wr) ∧
    ((∃ A c, s7 = .slice A 0 c ∧ Hid (∀ j, j < k → (wlist X Y n x y (rk j)).length = 0)) ∨ (∃ j A c, j + 1 = k ∧ s7 = .slice A (wlist X Y n x y (rk j)).length c ∧ Hid (0 < (wlist X Y n x y (rk j)).length ∧ (wlist X Y n x y (rk j)).length ≤ c ∧ c ≤ maxLen ∧ Es X Y wr A (wlist X Y n x y (rk j)))))) (fun _ s8 _ => (536870912 - intOf s8).toNat)
  case atStart => exact ⟨0, by omega, rfl, Below.refl _ _, .inl ⟨none, 0, rfl, fun j hj => absurd hj (by omega)⟩⟩
  case round =>
    obtain ⟨k, hk, rfl, hB, ⟨A0, c00, rfl, hE⟩ | ⟨j, A, c, rfl, rfl, hE⟩⟩ := hrel
    · have hk5 : k ≤ 5 := by
        rcases Nat.lt_or_ge k 6 with h | h
        · omega
        · exfalso
          have := hE.out 5 (by omega)
          have := HAll.out
          omega
      obtain ⟨r1, r2⟩ := rk_small hk5
      have hr2 := rk_succ k
      have HE2 := Lib.hid hr2
      clear hr2
      obtain ⟨R, hR⟩ : ∃ R, rk k = R := ⟨_, rfl⟩
      rw [hR] at r1 r2 HE2
      have HR := Lib.hid hR
      rw [hR]
      clear hR
      go_wp2_with fail
      refine (HW.out R wr).mono ?_
      rintro e w1 ⟨gx, gr, gy, gn, rfl, hb, b1, -⟩
      have HC1 := Lib.hid (HC.out gx gr gy gn R w1 hb (hB.out.trans (b1.mono hB.out.size)) ⟨by omega, by omega⟩)
      have HB1 : Hid (Below w.heap.size w w1) := hB.out.trans (b1.mono hB.out.size)
      clear hb b1
      go_wp2_with fail
      refine HC1.out.mono ?_
      rintro e w2 ⟨v, rfl, hRe, b2⟩
      obtain ⟨A, c, rfl, q1, q2, q3⟩ := hRe.es X Y
      have HB2 : Hid (Below w.heap.size w w2) := HB1.out.trans (b2.mono HB1.out.size)
      have HQ := Lib.hid (And.intro q1 (And.intro q2 q3))
      clear b2 hRe q1 q2 q3
      go_wp2
      go_roundw
      case rel =>
        refine ⟨k + 1, by omega, by rw [HE2.out], HB2.out, ?_⟩
        rw [← HR.out] at HQ ⊢
        by_cases hz : (wlist X Y n x y (rk k)).length = 0
        · refine .inl ⟨A, c, by rw [hz], fun j hj => ?_⟩
          rcases Nat.lt_or_ge j k with h | h
          · exact hE.out j h
          · obtain rfl : j = k := by omega
            exact hz
        · exact .inr ⟨k, A, c, rfl, rfl, by omega, HQ.out.1, HQ.out.2.1, HQ.out.2.2⟩
      case measure => simp [intOf]; omega
    · obtain ⟨e1, e2, e3, e4⟩ := hE.out
      have HRet : Hid (RetSome X Y n x y w (.returned (.slice A (wlist X Y n x y (rk j)).length c)) wr) := ⟨j, A, c, by omega, e1, rfl, e2, e3, e4, hB.out⟩
      clear hE e2 e3 e4
      generalize (wlist X Y n x y (rk j)).length = L at *
      generalize rk (j + 1) = r1 at *
      have hne : ¬ (L : Int) = 0 := by omega
      have hne2 : ¬ L = 0 := by omega
      go_wp2
      go_ret
      exact HRet.out
end
end Go.Proofs.Ytkghjaodnkjmoaa
