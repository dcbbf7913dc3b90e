/- Contracts: the reference's Costs. -/
import Derived.Test.YtcipedijjemghaaDoorRt3
import Derived.Test.YtcipedijjemghaaDoorRt6
import Derived.Deep.LoopGhost
namespace Go.Proofs.YtcipedijjemghaaDoor
open Go.RowKit Go.Sort Go.Shelf
set_option linter.unusedVariables false
set_option linter.unusedSimpArgs false
attribute [local go_sem] Oper.semAt_some

theorem price13_eq (s : Nat) (w : World) (hs : s < 8) : Calls Tryd.prog 19 #[.int .i64 (s : Int)] w fun e w' => e = .returned (.int .i64 (prc s)) ∧ w = w' := by
  have : s = 0 ∨ s = 1 ∨ s = 2 ∨ s = 3 ∨ s = 4 ∨ s = 5 ∨ s = 6 ∨ s = 7 := by omega
  rcases this with rfl | rfl | rfl | rfl | rfl | rfl | rfl | rfl <;>
  · go_enter Tryd.func19, Tryd.ntmps19
    go_wp2
    go_ret
    exact ⟨rfl, rfl⟩

/-- What the reference holds, as the program would. -/
def gR (R : Nat → Int) : Nat → Int := fun i => fin13 (R i)
section
variable (W H : Int) (O : Nat → Bool) (n b : Nat)
/-- What the reference holds. -/
def Rj (R : Nat → Int) : Prop := (O b = true ∧ Wj W H O n b (gR R) ∧ ∀ k, k < n → R k = -1 ∨ (0 ≤ R k ∧ R k ≤ 12285)) ∨ (O b = false ∧ ∀ k, k < n → R k = -1)
/-- k's first s steps lead to no cell by which it would cost less. -/
def Pul (R : Nat → Int) (k s : Nat) : Prop := ∀ t, t < 8 → t < s → ∀ m : Nat, m < n → goL W H O k t = (m : Int) → R m ≠ -1 → R k ≠ -1 ∧ R k ≤ R m + prc t
end
section
variable {W H : Int} {O : Nat → Bool} {n b : Nat}
theorem gR_upd (R : Nat → Int) (k : Nat) {v : Int} (hv : 0 ≤ v) : gR (upd R k v) = upd (gR R) k v := by
  funext i
  unfold gR upd
  split
  · unfold fin13; rw [if_neg (by omega)]
  · rfl
theorem Rj.vals {R : Nat → Int} (h : Rj W H O n b R) {k : Nat} (hk : k < n) : R k = -1 ∨ (0 ≤ R k ∧ R k ≤ 12285) := by
  rcases h with ⟨_, _, h⟩ | ⟨_, h⟩
  · exact h k hk
  · exact .inl (h k hk)
theorem Rj.fall {R : Nat → Int} (h : Rj W H O n b R) (hN : n ≤ 4096) {k m s : Nat} (hs : s < 8) (hk : k < n) (hm : m < n) (e : goL W H O k s = (m : Int)) (hf : R m ≠ -1) (hl : R k = -1 ∨ R m + prc s < R k) :
    Rj W H O n b (upd R k (R m + prc s)) ∧ sumR (gR (upd R k (R m + prc s))) n < sumR (gR R) n := by
  rcases h with ⟨ho, hw, hv⟩ | ⟨_, hv⟩
  · have hp := prc_bd s
    have hm2 := (hv m hm).resolve_left hf
    have eg : gR R m = R m := by unfold gR fin13; rw [if_neg hf]
    have hlt : gR R m + prc s < gR R k := by
      rw [eg]
      unfold gR fin13
      rcases hl with hl | hl
      · rw [if_pos hl]; omega
      · rw [if_neg (by omega)]; exact hl
    have hw2 := hw.fall hN hs hk hm e (by rw [eg]; omega) hlt
    rw [eg] at hw2 hlt
    rw [← gR_upd R k (by omega)] at hw2
    refine ⟨.inl ⟨ho, hw2, fun j hj => ?_⟩, ?_⟩
    · by_cases ej : j = k
      · subst ej
        rw [upd_same]
        have := (hw2.bd hN hj).2.2 (by unfold gR fin13; rw [upd_same, if_neg (by omega)]; omega)
        have e2 : gR (upd R j (R m + prc s)) j = R m + prc s := by unfold gR fin13; rw [upd_same, if_neg (by omega)]
        rw [e2] at this
        omega
      · rw [upd_other _ _ _ ej]; exact hv j hj
    · rw [gR_upd R k (by omega)]
      exact sumR_upd (by omega) hlt hk
  · exact absurd (hv m hm) hf
/-- Once nothing changes. -/
theorem Rj.done {R : Nat → Int} (h : Rj W H O n b R) (hN : n ≤ 4096) (hA : (n : Int) = W * H) (hp : ∀ k, k < n → Pul W H O n R k 8) {k : Nat} (hk : k < n) : R k = cst W H O b k := by
  rcases h with ⟨ho, hw, hv⟩ | ⟨ho, hv⟩
  · have hr : ∀ k, k < n → gR R k ≠ 1048576 → Rlx W H O n (gR R) k 8 := by
      intro k hk hf t ht _ m hm e
      have hb2 := go_back ht (by rw [e]; omega)
      rw [e] at hb2
      have hRk : R k ≠ -1 := by
        intro e; apply hf; unfold gR fin13; rw [if_pos e]
      obtain ⟨h1, h2⟩ := hp m hm (opp t) (opp_lt t) (opp_lt t) k hk hb2 hRk
      rw [(opp_all ht).2.2.1] at h2
      unfold gR fin13
      rw [if_neg h1, if_neg hRk]
      exact h2
    obtain ⟨h1, h2⟩ := hw.exact hN hA hr hk
    unfold gR at h1
    have := hv k hk
    have hc := cst_or (W := W) (H := H) (O := O) b k
    unfold fin13 at h1
    split at h1 <;> split at h1 <;> omega
  · rw [hv k hk]
    exact (cst_none fun c hc => by
      have := hc.ends.2.2.2
      rw [Int.toNat_natCast, ho] at this
      cases this).symm
/-- A pass: nothing has changed so far, or all is less. -/
def Ps13 (W H : Int) (O : Nat → Bool) (n b : Nat) (R0 R : Nat → Int) (chg : Bool) (Q : Prop) : Prop :=
  Rj W H O n b R ∧ ((chg = false ∧ (∀ i, i < n → R i = R0 i) ∧ Q) ∨ (chg = true ∧ sumR (gR R) n < sumR (gR R0) n))
theorem Pul.next {R : Nat → Int} {k s : Nat} (h : Pul W H O n R k s) (f : ∀ m : Nat, m < n → goL W H O k s = (m : Int) → R m ≠ -1 → R k ≠ -1 ∧ R k ≤ R m + prc s) : Pul W H O n R k (s + 1) := by
  intro t ht8 ht m hm e hf
  by_cases et : t = s
  · subst et; exact f m hm e hf
  · exact h t ht8 (by omega) m hm e hf
theorem Ps13.mono {R0 R : Nat → Int} {chg : Bool} {Q Q' : Prop} (h : Ps13 W H O n b R0 R chg Q) (f : Q → Q') : Ps13 W H O n b R0 R chg Q' :=
  ⟨h.1, h.2.imp (fun x => ⟨x.1, x.2.1, f x.2.2⟩) (fun x => x)⟩
theorem Ps13.fall {R0 R : Nat → Int} {chg : Bool} {Q Q' : Prop} (h : Ps13 W H O n b R0 R chg Q) (hN : n ≤ 4096) {k m s : Nat} (hs : s < 8) (hk : k < n) (hm : m < n) (e : goL W H O k s = (m : Int)) (hf : R m ≠ -1) (hl : R k = -1 ∨ R m + prc s < R k) :
    Ps13 W H O n b R0 (upd R k (R m + prc s)) true Q' := by
  obtain ⟨h1, h2⟩ := h.1.fall hN hs hk hm e hf hl
  refine ⟨h1, .inr ⟨rfl, ?_⟩⟩
  rcases h.2 with ⟨_, he, _⟩ | ⟨_, hlt⟩
  · rw [sumR_congr (R := gR R) (Q := gR R0) (fun i hi => by unfold gR; rw [he i hi])] at h2
    exact h2
  · omega
end
/-- The measure of the passes. -/
def mr13 (n rg : Nat) (s7 : Value) (wr : World) : Nat := sumR (gR fun i => valAt wr rg i) n + (match s7 with | .bool true => 1 | _ => 0)
theorem mr13_is {n rg : Nat} {R : Nat → Int} {wr : World} (hi : Ir wr rg n R) (ok : Bool) : mr13 n rg (.bool ok) wr = sumR (gR R) n + (if ok = true then 1 else 0) := by
  unfold mr13
  rw [sumR_congr (R := gR fun i => valAt wr rg i) (Q := gR R) (fun i h => by show fin13 (valAt wr rg i) = fin13 (R i); rw [hi.val h])]
  cases ok <;> rfl
/-- The reference's costs come back. -/
def RetRc (W H : Int) (O : Nat → Bool) (n b : Nat) (w : World) (e : Ending) (w' : World) : Prop :=
  RowKit.Below w.heap.size w w' ∧ ∃ rg, e = .returned (.slice (some ⟨rg, 0, none⟩) n n) ∧ Ir w' rg n (fun k => cst W H O b k) ∧ ∀ k : Nat, k < n → -1 ≤ cst W H O b k ∧ cst W H O b k ≤ 12285
end Go.Proofs.YtcipedijjemghaaDoor
