/- Contracts of package kinds: the reader's bits and number. -/
import Derived.Test.YtpgifcgidelmaaaKe3
namespace Go.Proofs.Ytpgifcgidelmaaa
open Go.RowKit
set_option linter.unusedVariables false

/-- A reader's cells. -/
abbrev rcs (A : Option Addr) (N c q : Nat) : Array Value := #[.slice A N c, .int .i64 (q : Int)]
/-- Block g of W is a reader, at place q. -/
def Rd (W : World) (g : Nat) (A : Option Addr) (N c q : Nat) : Prop := W.heap[g]? = some (.cells (rcs A N c q) 62 (0, 0))
theorem Rd.lt {W : World} {g : Nat} {A : Option Addr} {N c q : Nat} (h : Rd W g A N c q) : g < W.heap.size := (Array.getElem?_eq_some_iff.1 h).1
theorem Rd.c0 {W : World} {g : Nat} {A : Option Addr} {N c q : Nat} (h : Rd W g A N c q) : W.cell? ⟨g, 0, none⟩ = some (.slice A N c) := by rw [cell_of_row W g 0 _ _ (0, 0) h]; rfl
theorem Rd.c1 {W : World} {g : Nat} {A : Option Addr} {N c q : Nat} (h : Rd W g A N c q) : W.cell? ⟨g, 1, none⟩ = some (.int .i64 (q : Int)) := by rw [cell_of_row W g 1 _ _ (0, 0) h]; rfl
theorem Rd.f1 {W : World} {g : Nat} {A : Option Addr} {N c q : Nat} (h : Rd W g A N c q) (i : Nat) : W.frozen? ⟨g, i, none⟩ = false := by simp [World.frozen?, show W.heap[g]? = _ from h]
theorem Rd.drewN {W : World} {g : Nat} {A : Option Addr} {N c q : Nat} (h : Rd W g A N c q) (k : Nat) : Rd (W.drewN k) g A N c q := h
theorem Rd.keep {W W' : World} {g : Nat} {A : Option Addr} {N c q : Nat} (h : Rd W g A N c q) (hb : Below W.heap.size W W') : Rd W' g A N c q := (hb.block g h.lt).trans h
theorem Rd.set {W : World} {g : Nat} {A : Option Addr} {N c q : Nat} (h : Rd W g A N c q) (r : Nat) : Rd (W.setCell ⟨g, 1, none⟩ (.int .i64 (r : Int))) g A N c r := by
  have := setCell_blk (i := 1) h (.int .i64 (r : Int))
  exact this
theorem grown_set {W : World} (g i : Nat) (v : Value) : W.grownBy (W.setCell ⟨g, i, none⟩ v) (some g) :=
  ⟨rfl, rfl, rfl, by simp [World.setCell], fun k _ hk => Below.heap_setCell _ _ _ k (fun e => hk (by rw [e]))⟩
theorem grown_trans {W X Y : World} {row : Option Nat} (h : W.grownBy X row) (k : X.grownBy Y row) : W.grownBy Y row :=
  ⟨k.os.trans h.os, k.tape.trans h.tape, k.output.trans h.output, Nat.le_trans h.size k.size, fun b hb hne => (k.block b (Nat.lt_of_lt_of_le hb h.size) hne).trans (h.block b hb hne)⟩
theorem grown_refl (W : World) (row : Option Nat) : W.grownBy W row := ⟨rfl, rfl, rfl, Nat.le_refl _, fun _ _ _ => rfl⟩
theorem grown_drewN {W X : World} {row : Option Nat} (h : W.grownBy X row) (k : Nat) : W.grownBy (X.drewN k) row := ⟨h.os, h.tape, h.output, h.size, h.block⟩
theorem Bs.grown {W X : World} {row : Option Nat} {A : Option Addr} {N : Nat} {p : Nat → Nat} (h : Bs W A N p) (hg : W.grownBy X row) (hne : ∀ g o, A = some ⟨g, o, none⟩ → 0 < N → some g ≠ row) : Bs X A N p := by
  intro hn
  obtain ⟨g, o, e, hl, hc⟩ := h hn
  exact ⟨g, o, e, Nat.lt_of_lt_of_le hl hg.size, fun i hi => (World.cell?_of_block (w := W) (hg.block g hl (hne g o e hn))).trans (hc i hi)⟩
/-- The reader is not among the bytes. -/
theorem Rd.ne {W : World} {g : Nat} {A : Option Addr} {N c q : Nat} {p : Nat → Nat} {A' : Option Addr} {M : Nat} (h : Rd W g A N c q) (hB : Bs W A' M p) : ∀ b o, A' = some ⟨b, o, none⟩ → 0 < M → some b ≠ some g := by
  intro b o e hM eq
  injection eq with eq
  subst eq
  obtain ⟨b', o', e', -, hc⟩ := hB hM
  rw [e] at e'
  injection e' with e'
  injection e' with e1 e2
  subst e1 e2
  have h0 := hc 0 hM
  rw [cell_of_row W b (o + 0) _ _ (0, 0) h] at h0
  match o, h0 with
  | 0, h0 => simp at h0
  | 1, h0 => simp at h0
  | o + 2, h0 => simp at h0

theorem or_add (x b k : Nat) (hx : x < 256 ^ k) : x ||| b * 256 ^ k = x + 256 ^ k * b := by
  have e : 256 ^ k = 2 ^ (8 * k) := by rw [Nat.pow_mul]
  rw [e] at hx ⊢
  rw [← Nat.shiftLeft_eq, Nat.or_comm, ← Nat.shiftLeft_add_eq_or_of_lt hx, Nat.shiftLeft_eq]
  grind

set_option maxRecDepth 100000 in
set_option maxHeartbeats 2000000 in
theorem rbits_any (g N c q s : Nat) (A : Option Addr) (p : Nat → Nat) (w : World) (hR : Rd w g A N c q) (hB : Bs w A N p) (hp : ∀ i, p i < 256) (h1 : 1 ≤ s) (h8 : s ≤ 8) (hq : q + s ≤ N) (hc : N ≤ c) (hm : c ≤ maxLen) :
    Calls Try.prog 51 #[.pointer (some ⟨g, 0, none⟩), .int .i64 (s : Int)] w fun e w' => e = .returned (.int .u64 ((num p q s : Nat) : Int)) ∧ Rd w' g A N c (q + s) ∧ w.grownBy w' (some g) := by
  unfold maxLen at hm
  have HNE := Lib.hid (hR.ne hB)
  obtain ⟨b, o, rfl, hb, hcell⟩ := hB (by omega)
  have HC : Hid (∀ i, i < s → w.cell? ⟨b, o + q + i, none⟩ = some (.int .u8 (p (q + i) : Int))) := fun i hi => by rw [Nat.add_assoc]; exact hcell (q + i) (by omega)
  have HP := Lib.hid hp
  have HR := Lib.hid hR
  have c0 := hR.c0
  have c1 := hR.c1
  have hbg : b ≠ g := fun e => HNE.out b o rfl (by omega) (by rw [e])
  clear hcell hp hR hB hb
  obtain ⟨Q, hQ⟩ : ∃ Q, q + s = Q := ⟨_, rfl⟩
  have eQ : (q : Int) + (s : Int) = (Q : Int) := by omega
  have q1 : (Q : Int) ≤ (c : Int) := by omega
  have q2 : (q : Int) ≤ (Q : Int) := by omega
  have q3 : (Q : Int) ≤ 9223372036854775807 := by omega
  have hsl : ∀ u : World, (Instr.slice 34 (.slice (some ⟨b, o, none⟩) N c) (some (.int .i64 (q : Int))) (some (.int .i64 (Q : Int))) none).run Try.prog u = .ok (.slice (some ⟨b, o + q, none⟩) s (c - q)) u := by
    intro u
    have z1 : Q - q = s := by omega
    have z2 : ¬ c - q = 0 := by omega
    have z3 : Q ≤ c := by omega
    have z4 : q ≤ Q := by omega
    go_simp
    simp_all
    intro hx
    omega
  have HQ := Lib.hid hQ
  clear hQ
  rw [HQ.out]
  go_enter Try.func51, Try.ntmps51
  go_wp2
  go_quiet (fail)
  clear hsl c0 c1
  have HR1 := Lib.hid (HR.out.drewN nq)
  have HG1 := Lib.hid (grown_drewN (grown_refl w (some g)) nq)
  have HC1 : Hid (∀ i, i < s → (w.drewN nq).cell? ⟨b, o + q + i, none⟩ = some (.int .u8 (p (q + i) : Int))) := HC.out
  clear HC HR
  generalize w.drewN nq = w1 at *
  go_wp2
  go_loop [5, 24] (fun t5 i => ∃ k : Nat, k ≤ s ∧ i = .int .i64 (k : Int) ∧ t5 = .int .u64 ((num p q k : Nat) : Int)) (fun _ i => s - (intOf i).toNat)
  case atStart => exact ⟨0, by omega, rfl, rfl⟩
  case round =>
    obtain ⟨k, hk, rfl, rfl⟩ := hrel
    by_cases hlt : k < s
    · have hlt' : (k : Int) < (s : Int) := by omega
      have hck := HC1.out k hlt
      have HS := Lib.hid (num_end p k q)
      have hx := num_lt p HP.out k q
      have hp' := HP.out (q + k)
      obtain ⟨y, ey⟩ : ∃ y, p (q + k) = y := ⟨_, rfl⟩
      obtain ⟨x, ex⟩ : ∃ x, num p q k = x := ⟨_, rfl⟩
      rw [ey] at hck HS hp'
      rw [ex] at HS hx ⊢
      clear ey ex
      have h256 : 256 ^ k ≤ 256 ^ 7 := Nat.pow_le_pow_right (by decide) (by omega)
      have hz : y * 256 ^ k < 18446744073709551616 := by
        have : y * 256 ^ k ≤ 255 * 256 ^ 7 := Nat.mul_le_mul (by omega) h256
        omega
      have e2 : (2 : Int) ^ ((8 * (k : Int)).toNat) = ((256 ^ k : Nat) : Int) := by
        have e : (8 * (k : Int)).toNat = 8 * k := by omega
        rw [e, Int.pow_mul, Int.natCast_pow]
        rfl
      have hor := or_add x y k hx
      have hx64 : x < 18446744073709551616 := by omega
      have u0 : IntKind.u64.wrap (y : Int) = (y : Int) := by simp [IntKind.wrap, IntKind.bits, IntKind.signed]; omega
      have u3 : IntKind.u64.wrap ((y : Int) * 2 ^ ((8 * (k : Int)).toNat)) = ((y * 256 ^ k : Nat) : Int) := by
        rw [e2, ← Int.natCast_mul]
        generalize y * 256 ^ k = z at *
        simp [IntKind.wrap, IntKind.bits, IntKind.signed]
        omega
      have u4 : bits BinOp.or IntKind.u64 (x : Int) ((y * 256 ^ k : Nat) : Int) = ((x + 256 ^ k * y : Nat) : Int) := by
        rw [u64_or _ _ (by omega) (by omega) (by omega) (by omega)]
        rw [← hor]
        rfl
      rw [← HS.out] at u4
      obtain ⟨z, ez⟩ : ∃ z, y * 256 ^ k = z := ⟨_, rfl⟩
      rw [ez] at u3 u4
      have HK8 : Hid (k < 8) := by show _ < _; omega
      clear ez hz h256 e2 hor HS hx hx64
      go_wp2
      go_round
      case rel => exact ⟨k + 1, by omega, by go_num, rfl⟩
      case measure => simp [intOf]; omega
    · have e : k = s := by omega
      subst e
      have hge : ¬ (k : Int) < (k : Int) := by omega
      have c1 := HR1.out.c1
      have f1 := HR1.out.f1 1
      clear HC1
      go_wp2
      go_ret
      exact ⟨rfl, HR1.out.set Q, grown_trans HG1.out (grown_set _ _ _)⟩
end Go.Proofs.Ytpgifcgidelmaaa
