/- Contracts of the reference of layer 7, second part: Beside, Regions. -/
import Derived.Test.YtoikahdffpadoaaGr8
namespace Go.Proofs.Ytoikahdffpadoaa
open Go.RowKit
set_option linter.unusedVariables false

theorem sq_bd {z : Int} (h0 : -4096 ≤ z) (h1 : z ≤ 4096) : 0 ≤ z * z ∧ z * z ≤ 16777216 := by
  constructor
  · rcases Int.le_total 0 z with h | h
    · exact Int.mul_nonneg h h
    · exact Int.mul_nonneg_of_nonpos_of_nonpos h h
  · rcases Int.le_total 0 z with h | h
    · exact Int.mul_le_mul h1 h1 h (by decide)
    · have e : z * z = (-z) * (-z) := by rw [Int.neg_mul_neg]
      rw [e]
      exact Int.mul_le_mul (show -z ≤ 4096 by omega) (show -z ≤ 4096 by omega) (by omega) (by decide)

set_option maxHeartbeats 1000000 in
theorem beside_any (wd ht k n : Nat) (r : Bool) (w : World) (h1 : 1 ≤ wd) (h2 : wd ≤ 64) (hk : k < wd * ht) (hn : n < wd * ht) (hA : wd * ht ≤ 4096) (h4 : n + wd = k ∨ n + 1 = k ∨ k + 1 = n ∨ k + wd = n) (hr : r = true ↔ Adj wd (wd * ht) k n) :
    Calls Try.prog 29 #[.int .i64 (k : Int), .int .i64 (n : Int), .int .i64 (wd : Int)] w fun e w' => e = .returned (.bool r) ∧ ∃ m, w' = w.drewN m := by
  have HR : Hid (r = true ↔ (((k % wd : Nat) : Int) - ((n % wd : Nat) : Int)) * (((k % wd : Nat) : Int) - ((n % wd : Nat) : Int)) + (((k / wd : Nat) : Int) - ((n / wd : Nat) : Int)) * (((k / wd : Nat) : Int) - ((n / wd : Nat) : Int)) = 1) :=
    hr.trans (beside_iff (by omega) hk hn h4).symm
  have ek : Hid ((k : Int) % (wd : Int) = ((k % wd : Nat) : Int)) := (Int.natCast_emod _ _).symm
  have en : Hid ((n : Int) % (wd : Int) = ((n % wd : Nat) : Int)) := (Int.natCast_emod _ _).symm
  have fk : Hid ((k : Int) / (wd : Int) = ((k / wd : Nat) : Int)) := (Int.natCast_ediv _ _).symm
  have fn : Hid ((n : Int) / (wd : Int) = ((n / wd : Nat) : Int)) := (Int.natCast_ediv _ _).symm
  have hz : ((wd : Int) == 0) = false := by simp; omega
  have hz2 : ¬ (wd : Int) = 0 := by omega
  have q1 : k / wd ≤ k := Nat.div_le_self k wd
  have q2 : n / wd ≤ n := Nat.div_le_self n wd
  have q3 : k % wd ≤ k := Nat.mod_le k wd
  have q4 : n % wd ≤ n := Nat.mod_le n wd
  have hk' : k ≤ 4096 := by omega
  have hn' : n ≤ 4096 := by omega
  obtain ⟨di, ed⟩ : ∃ di, ((k % wd : Nat) : Int) - ((n % wd : Nat) : Int) = di := ⟨_, rfl⟩
  obtain ⟨dj, ej⟩ : ∃ dj, ((k / wd : Nat) : Int) - ((n / wd : Nat) : Int) = dj := ⟨_, rfl⟩
  obtain ⟨g1, g2, g3, g4⟩ : -4096 ≤ di ∧ di ≤ 4096 ∧ -4096 ≤ dj ∧ dj ≤ 4096 := by
    have a1 : (0 : Int) ≤ ((k / wd : Nat) : Int) ∧ ((k / wd : Nat) : Int) ≤ 4096 := ⟨Int.natCast_nonneg _, by have := Int.ofNat_le.2 (Nat.le_trans q1 hk'); exact this⟩
    have a2 : (0 : Int) ≤ ((n / wd : Nat) : Int) ∧ ((n / wd : Nat) : Int) ≤ 4096 := ⟨Int.natCast_nonneg _, by have := Int.ofNat_le.2 (Nat.le_trans q2 hn'); exact this⟩
    have a3 : (0 : Int) ≤ ((k % wd : Nat) : Int) ∧ ((k % wd : Nat) : Int) ≤ 4096 := ⟨Int.natCast_nonneg _, by have := Int.ofNat_le.2 (Nat.le_trans q3 hk'); exact this⟩
    have a4 : (0 : Int) ≤ ((n % wd : Nat) : Int) ∧ ((n % wd : Nat) : Int) ≤ 4096 := ⟨Int.natCast_nonneg _, by have := Int.ofNat_le.2 (Nat.le_trans q4 hn'); exact this⟩
    clear hk hn hA h4 hr HR q1 q2 q3 q4
    omega
  obtain ⟨p0, p1⟩ := sq_bd (z := di) (by omega) (by omega)
  obtain ⟨p2, p3⟩ := sq_bd (z := dj) (by omega) (by omega)
  have b1 : -4096 ≤ di := by omega
  have b2 : di ≤ 4096 := by omega
  have b3 : -4096 ≤ dj := by omega
  have b4 : dj ≤ 4096 := by omega
  rw [ed, ej] at HR
  have ED : Hid ((k : Int) % (wd : Int) - (n : Int) % (wd : Int) = di) := by show _ = _; rw [ek.out, en.out]; exact ed
  have wr : ∀ z : Int, -4096 ≤ z → z ≤ 4096 → wrap64 z = z := by intro z z0 z1; unfold wrap64; omega
  have EJ : Hid (wrap64 (wrap64 ((k : Int) / (wd : Int)) - wrap64 ((n : Int) / (wd : Int))) = dj) := by
    show _ = _
    rw [fk.out, fn.out, wr _ (Int.le_trans (by decide) (Int.natCast_nonneg _)) (Int.ofNat_le.2 (Nat.le_trans q1 hk')), wr _ (Int.le_trans (by decide) (Int.natCast_nonneg _)) (Int.ofNat_le.2 (Nat.le_trans q2 hn')), ej, wr _ g3 g4]
  have HB : Hid (r = (di * di + dj * dj == 1)) := by show _ = _; rw [Bool.eq_iff_iff, HR.out]; simp
  clear hr hk hn hA h4 ed ej wr HR
  go_enter Try.func29, Try.ntmps29
  go_wp2
  go_quiet (fail)
  rw [ED.out, EJ.out]
  go_wp2
  go_ret
  exact ⟨bool_back HB.out.symm, _, rfl⟩

/-- The four numbers that the reference looks at. -/
def nv (wd k t : Nat) : Int := if t = 0 then (k : Int) - (wd : Int) else if t = 1 then (k : Int) - 1 else if t = 2 then (k : Int) + 1 else (k : Int) + (wd : Int)
theorem nv_four {wd k t m : Nat} (ht : t < 4) (h : nv wd k t = (m : Int)) : m + wd = k ∨ m + 1 = k ∨ k + 1 = m ∨ k + wd = m := by
  unfold nv at h
  split at h
  · omega
  · split at h
    · omega
    · split at h <;> omega
theorem nv_all {wd N k m : Nat} (h : Adj wd N k m) : ∃ t, t < 4 ∧ nv wd k t = (m : Int) := by
  rcases h.2.2 with e | ⟨e, _⟩ | ⟨e, _⟩ | e
  · exact ⟨0, by omega, by simp [nv]; omega⟩
  · exact ⟨1, by omega, by simp [nv]; omega⟩
  · exact ⟨2, by omega, by simp [nv]; omega⟩
  · exact ⟨3, by omega, by simp [nv]; omega⟩
/-- How far a pass has come: something has fallen, or nothing has, and Q. -/
def St (N : Nat) (Rs R : Nat → Int) (chg : Bool) (Q : Prop) : Prop :=
  (chg = true ∧ sumR R N < sumR Rs N) ∨ (chg = false ∧ (∀ i, i < N → R i = Rs i) ∧ Q)
theorem St.mono {N : Nat} {Rs R : Nat → Int} {chg : Bool} {Q Q' : Prop} (h : St N Rs R chg Q) (f : (∀ i, i < N → R i = Rs i) → Q → Q') : St N Rs R chg Q' := by
  rcases h with h | ⟨h1, h2, h3⟩
  · exact .inl h
  · exact .inr ⟨h1, h2, f h2 h3⟩
theorem St.fall {N : Nat} {Rs R : Nat → Int} {chg : Bool} {Q Q' : Prop} (h : St N Rs R chg Q) {k : Nat} {v : Int} (hk : k < N) (h0 : 0 ≤ v) (hv : v < R k) : St N Rs (upd R k v) true Q' := by
  have h1 := sumR_upd h0 hv hk
  rcases h with ⟨_, h⟩ | ⟨_, h2, _⟩
  · exact .inl ⟨rfl, by omega⟩
  · rw [sumR_congr h2] at h1
    exact .inl ⟨rfl, h1⟩
/-- What was looked at, cells before k. -/
def Low (adj : Nat → Nat → Prop) (g : Nat → Bool) (Rs : Nat → Int) (k : Nat) : Prop := ∀ i n, i < k → adj i n → g i = true → g n = true → Rs i ≤ Rs n
/-- What was looked at, k's first numbers. -/
def Few (adj : Nat → Nat → Prop) (g : Nat → Bool) (Rs : Nat → Int) (wd k t : Nat) : Prop := ∀ i n, i < t → nv wd k i = ((n : Nat) : Int) → adj k n → g k = true → g n = true → Rs k ≤ Rs n
theorem Few.next {adj : Nat → Nat → Prop} {g : Nat → Bool} {Rs : Nat → Int} {wd k t : Nat} (h : Few adj g Rs wd k t) (f : ∀ n : Nat, nv wd k t = (n : Int) → adj k n → g k = true → g n = true → Rs k ≤ Rs n) : Few adj g Rs wd k (t + 1) := by
  intro i n hi
  by_cases e : i = t
  · subst e; exact f n
  · exact h i n (by omega)
theorem Low.next {wd N : Nat} {g : Nat → Bool} {Rs : Nat → Int} {k : Nat} (h : Low (Adj wd N) g Rs k) (f : Few (Adj wd N) g Rs wd k 4) : Low (Adj wd N) g Rs (k + 1) := by
  intro i n hi ha
  by_cases e : i = k
  · subst e
    obtain ⟨t, ht, e⟩ := nv_all ha
    exact f t n ht e ha
  · exact h i n (by omega) ha
/-- A bool as a number. -/
def bn : Value → Nat
  | .bool true => 1
  | _ => 0

theorem Ir.four (W : World) (a b c d : Int) (R : Nat → Int) (h0 : a = R 0) (h1 : b = R 1) (h2 : c = R 2) (h3 : d = R 3) : Ir (W.alloc (.cells #[.int .i64 a, .int .i64 b, .int .i64 c, .int .i64 d] 3)) W.heap.size 4 R := by
  subst h0 h1 h2 h3
  refine ⟨_, World.alloc_heap_new W _, fun i hi => ?_⟩
  match i, hi with
  | 0, _ => rfl
  | 1, _ => rfl
  | 2, _ => rfl
  | 3, _ => rfl
theorem Ir.drewN {W : World} {rg N : Nat} {R : Nat → Int} (h : Ir W rg N R) (k : Nat) : Ir (W.drewN k) rg N R := h
theorem bdrewN {B : Nat} {a w : World} (h : Below B a w) (k : Nat) : Below B a (w.drewN k) := ⟨h.os, h.tape, h.output, h.size, h.block⟩

def RetRL (wd N : Nat) (g : Nat → Bool) (w : World) (e : Ending) (w' : World) : Prop :=
  ∃ rg R, e = .returned (.slice (some ⟨rg, 0, none⟩) N N) ∧ Ir w' rg N R ∧ IsLab (Adj wd N) g N R ∧ Below w.heap.size w w'

set_option maxRecDepth 100000 in
set_option maxHeartbeats 4000000 in
theorem refRegions_any (wd ht : Nat) (T c : Int) (A : Option Addr) (n k0 : Nat) (p : Nat → Nat) (w : World) (hb : Bs w A n p) (hp : ∀ i, p i < 256) (hv : Val wd ht T n) (hc : Cls c) :
    Calls Try.prog 18 #[.agg #[.int .i64 (wd : Int), .int .i64 (ht : Int), .int .i64 T, .slice A n k0], .int .i64 c] w (RetRL wd (wd * ht) (gr p wd T c) w) := by
  obtain ⟨hW1, hW2, hH1, hH2, hT, hT2⟩ := hv.s
  have C := Lib.hid (refGrid_any wd ht T c A n k0 p _ (hb.alloc (.cells #[.int .i64 (wd : Int), .int .i64 (ht : Int), .int .i64 T, .slice A n k0] 25)) hp hv hc)
  have HX := Lib.hid (Bx.new w (.int .i64 (wd : Int)) (.int .i64 (ht : Int)) (.int .i64 T) (.slice A n k0) 25)
  have hA : wd * ht ≤ 4096 := land_bd (by omega) (by omega)
  have hN0 : 0 < wd * ht := Nat.mul_pos (by omega) (by omega)
  have h1 : 1 ≤ wd := by omega
  have h2 : wd ≤ 64 := by omega
  clear hv hb hp hc
  have HBs : Hid (∀ (k m : Nat) (r : Bool) (u : World), k < wd * ht → m < wd * ht → (m + wd = k ∨ m + 1 = k ∨ k + 1 = m ∨ k + wd = m) → (r = true ↔ Adj wd (wd * ht) k m) →
    Calls Try.prog 29 #[.int .i64 (k : Int), .int .i64 (m : Int), .int .i64 (wd : Int)] u fun e w' => e = .returned (.bool r) ∧ ∃ m, w' = u.drewN m) :=
    fun k m r u a b d e => beside_any wd ht k m r u h1 h2 a b hA d e
  obtain ⟨N, eN⟩ : ∃ N, wd * ht = N := ⟨_, rfl⟩
  rw [eN] at C hA hN0 HBs ⊢
  clear eN
  generalize gr p wd T c = g at *
  go_enter Try.func18, Try.ntmps18
  go_wp2_with fail
  refine C.out.mono ?_
  rintro e w1 ⟨A', K, rfl, k1, k2, hV, b1⟩
  have X1 := Lib.hid (HX.out.keep b1)
  have HV := Lib.hid hV
  clear b1 HX hV C
  obtain ⟨gb, rfl, hgb, hG⟩ := HV.out
  have HG := Lib.hid hG
  clear hG HV
  have hmk := run_make_row' (P := Try.prog) 39 3 (.int .i64 0) 8 Try.underlying39 Try.infoI rfl .i64 .i64 N (by omega) (by omega)
  have HM := Lib.hid (Ir.made w1 N)
  have hB1 : w.heap.size + 1 ≤ w1.heap.size := World.block_lt_of_cell? w1 _ X1.out.c0
  go_wp2
  go_loopw [7] (fun t wr => ∃ (k : Nat) (R : Nat → Int), k ≤ N ∧ t = .int .i64 (k : Int) ∧ Ir wr w1.heap.size N R ∧ (∀ i, i < k → R i = if g i = true then (i : Int) else -1) ∧ Below w1.heap.size w1 wr) (fun t _ => N - (intOf t).toNat)
  case atStart => exact ⟨0, _, by omega, rfl, HM.out, fun i hi => by omega, (Below.refl _ _).alloc (Nat.le_refl _) _⟩
  case round =>
    obtain ⟨k, R, hk, rfl, hI, hR, hB⟩ := hrel
    clear HM hmk
    rename World => W1
    by_cases hlt : k < N
    · have e1 := hI.cell hlt
      have e2 := hI.frozen k
      have hkI : (k : Int) < (N : Int) := by omega
      have e3 : (W1.setCell ⟨w1.heap.size, k, none⟩ (.int .i64 (-1))).cell? ⟨gb, k, none⟩ = some (.bool (g k)) := ((hB.setCell (p := ⟨w1.heap.size, k, none⟩) (Nat.le_refl _) (.int .i64 (-1))).cell (p := ⟨gb, k, none⟩) hgb).trans (HG.out k hlt)
      have HI := Lib.hid (hI.set hlt (-1))
      have HB := Lib.hid (hB.setCell (p := ⟨w1.heap.size, k, none⟩) (Nat.le_refl _) (.int .i64 (-1)))
      have HR := Lib.hid hR
      clear hI hB hR
      obtain ⟨W2, hW2⟩ : ∃ W2, W1.setCell ⟨w1.heap.size, k, none⟩ (.int .i64 (-1)) = W2 := ⟨_, rfl⟩
      rw [hW2] at e3 HI HB
      cases hg : g k with
      | false =>
        rw [hg] at e3
        have HGk := Lib.hid hg
        clear hg
        go_wp2
        go_roundw
        case rel =>
          refine ⟨k + 1, _, by omega, by go_num, HI.out, fun i hi => ?_, HB.out⟩
          by_cases e : i = k
          · subst e; rw [upd_same, HGk.out]; rfl
          · rw [upd_other _ _ _ e]; exact HR.out i (by omega)
        case measure => simp [intOf]; omega
      | true =>
        rw [hg] at e3
        have HGk := Lib.hid hg
        clear hg
        have e4 := HI.out.cell hlt
        have e5 := HI.out.frozen k
        go_wp2
        go_roundw
        case rel =>
          refine ⟨k + 1, _, by omega, by go_num, HI.out.set hlt (k : Int), fun i hi => ?_, HB.out.setCell (p := ⟨w1.heap.size, k, none⟩) (Nat.le_refl _) _⟩
          by_cases e : i = k
          · subst e; rw [upd_same, HGk.out]; rfl
          · rw [upd_other _ _ _ e, upd_other _ _ _ e]; exact HR.out i (by omega)
        case measure => simp [intOf]; omega
    · have e : N = k := by omega
      subst e
      have HA : Hid (Ir W1 w1.heap.size N (fun i => if g i = true then (i : Int) else -1)) := hI.congr hR
      have HB := Lib.hid hB
      clear hI hB hR hlt hk
      go_wp2
      go_loopw [8] (fun t wr => ∃ (chg : Bool) (Rs : Nat → Int), t = .bool chg ∧ Ir wr w1.heap.size N Rs ∧ Fall (Adj wd N) g N Rs ∧ (chg = false → Low (Adj wd N) g Rs N) ∧ Below w1.heap.size w1 wr) (fun t wr => sumR (fun i => valAt wr w1.heap.size i) N + bn t)
      case atStart => exact ⟨true, _, rfl, HA.out, Fall.start _ _ _, fun h => (by cases h), HB.out⟩
      case round =>
        obtain ⟨chg, Rs, rfl, hI, hF, hL, hB⟩ := hrel
        clear HA HB W1
        have HI := Lib.hid hI
        have HF := Lib.hid hF
        have HB := Lib.hid hB
        have HL := Lib.hid hL
        clear hI hF hB hL
        cases chg with
        | false =>
          have HL2 := Lib.hid (HL.out rfl)
          clear HL
          go_wp2
          go_ret
          exact ⟨_, Rs, rfl, HI.out, HF.out.isLab (fun _ _ => Adj.symm) (fun i m a => HL2.out i m a.1 a), X1.out.below.trans (HB.out.mono X1.out.below.size)⟩
        | true =>
          clear HL
          go_wp2
          rename World => Wo
          go_loopw [8, 9] (fun v t wr => ∃ (k : Nat) (R : Nat → Int) (ch : Bool), k ≤ N ∧ v = .bool ch ∧ t = .int .i64 (k : Int) ∧ Ir wr w1.heap.size N R ∧ Fall (Adj wd N) g N R ∧ St N Rs R ch (Low (Adj wd N) g Rs k) ∧ Below w1.heap.size w1 wr) (fun _ t _ => N - (intOf t).toNat)
          case atStart => exact ⟨0, Rs, false, by omega, rfl, rfl, HI.out, HF.out, .inr ⟨rfl, fun _ _ => rfl, fun i m h => by omega⟩, HB.out⟩
          case round =>
            obtain ⟨k, R, ch, hk, rfl, rfl, hI, hF, hS, hB⟩ := hrel
            rename World => Wk
            have HI3 := Lib.hid hI
            have HF3 := Lib.hid hF
            have HS3 := Lib.hid hS
            have HB3 := Lib.hid hB
            clear hI hF hS hB
            by_cases hlt : k < N
            · have X3 := Lib.hid (X1.out.keep HB3.out)
              obtain ⟨-, c0, c1, c2, c3, -, -, -, -, -⟩ := X3.out
              have HFo := Lib.hid (Ir.four Wk ((k : Int) - (wd : Int)) ((k : Int) - 1) ((k : Int) + 1) ((k : Int) + (wd : Int)) (nv wd k) rfl rfl rfl rfl)
              have HI3' := Lib.hid (HI3.out.keep ((Below.refl _ _).alloc (Nat.le_refl _) (.cells #[.int .i64 ((k : Int) - (wd : Int)), .int .i64 ((k : Int) - 1), .int .i64 ((k : Int) + 1), .int .i64 ((k : Int) + (wd : Int))] 3)))
              have HB3' := Lib.hid (HB3.out.alloc HB3.out.size (.cells #[.int .i64 ((k : Int) - (wd : Int)), .int .i64 ((k : Int) - 1), .int .i64 ((k : Int) + 1), .int .i64 ((k : Int) + (wd : Int))] 3))
              have hnb : w1.heap.size < Wk.heap.size := HI3.out.lt
              go_wp2
              clear c0 c1 c2 c3 X3
              go_loopw [8, 56] (fun v tt wr => ∃ (t : Nat) (R : Nat → Int) (ch : Bool), t ≤ 4 ∧ v = .bool ch ∧ tt = .int .i64 (t : Int) ∧ Ir wr w1.heap.size N R ∧ Fall (Adj wd N) g N R ∧ St N Rs R ch (Low (Adj wd N) g Rs k ∧ Few (Adj wd N) g Rs wd k t) ∧ Ir wr Wk.heap.size 4 (nv wd k) ∧ Below w1.heap.size w1 wr) (fun _ t _ => 4 - (intOf t).toNat)
              case atStart => exact ⟨0, R, ch, by omega, rfl, rfl, HI3'.out, HF3.out, HS3.out.mono (fun _ q => ⟨q, fun i m h => by omega⟩), HFo.out, HB3'.out⟩
              case round =>
                obtain ⟨t, R, ch, ht4, rfl, rfl, hI, hF, hS, hV, hB⟩ := hrel
                clear HFo HI3' HB3' HI3 HF3 HS3 HB3
                have HI4 := Lib.hid hI
                have HF4 := Lib.hid hF
                have HS4 := Lib.hid hS
                have HV4 := Lib.hid hV
                have HB4 := Lib.hid hB
                clear hI hF hS hV hB
                by_cases ht : t < 4
                · have htI : (t : Int) < 4 := by omega
                  have en := HV4.out.cell ht
                  obtain ⟨z, ez⟩ : ∃ z, nv wd k t = z := ⟨_, rfl⟩
                  rw [ez] at en
                  have EZ := Lib.hid ez
                  clear ez
                  have hkI : (k : Int) < (N : Int) := by omega
                  by_cases z0 : 0 ≤ z
                  · by_cases zN : z < (N : Int)
                    · obtain ⟨m, rfl⟩ : ∃ m : Nat, z = (m : Int) := ⟨z.toNat, by omega⟩
                      have hm : m < N := by omega
                      have eo1 : wr.cell? ⟨gb, k, none⟩ = some (.bool (g k)) := (HB4.out.cell (p := ⟨gb, k, none⟩) hgb).trans (HG.out k hlt)
                      have eo2 : wr.cell? ⟨gb, m, none⟩ = some (.bool (g m)) := (HB4.out.cell (p := ⟨gb, m, none⟩) hgb).trans (HG.out m hm)
                      have el1 := HI4.out.cell hlt
                      have el2 := HI4.out.cell hm
                      have el3 := HI4.out.frozen k
                      have X4 := Lib.hid (X1.out.keep HB4.out)
                      have c0 := X4.out.c0
                      cases hgk : g k with
                      | false =>
                        have HS5 : Hid (St N Rs R ch (Low (Adj wd N) g Rs k ∧ Few (Adj wd N) g Rs wd k (t + 1))) := HS4.out.mono (fun he hq => ⟨hq.1, hq.2.next (fun q eq aq gk gq => absurd gk (by rw [hgk]; simp))⟩)
                        rw [hgk] at eo1
                        clear hgk
                        go_wp2
                        go_quiet (fail)
                        go_wp2
                        go_roundw
                        case rel => exact ⟨t + 1, R, ch, by omega, rfl, by go_num, HI4.out.drewN _, HF4.out, HS5.out, HV4.out.drewN _, bdrewN HB4.out _⟩
                        case measure => simp [intOf]; omega
                      | true =>
                        rw [hgk] at eo1
                        have HGk := Lib.hid hgk
                        clear hgk
                        cases hgm : g m with
                        | false =>
                          have HGm := Lib.hid hgm
                          have HS5 : Hid (St N Rs R ch (Low (Adj wd N) g Rs k ∧ Few (Adj wd N) g Rs wd k (t + 1))) := HS4.out.mono (fun he hq => ⟨hq.1, hq.2.next (fun q eq aq gk gq => absurd gq (by rw [EZ.out] at eq; have e : q = m := (by omega); rw [e, HGm.out]; simp))⟩)
                          rw [hgm] at eo2
                          clear hgm
                          go_wp2
                          go_quiet (fail)
                          go_wp2
                          go_roundw
                          case rel => exact ⟨t + 1, R, ch, by omega, rfl, by go_num, HI4.out.drewN _, HF4.out, HS5.out, HV4.out.drewN _, bdrewN HB4.out _⟩
                          case measure => simp [intOf]; omega
                        | true =>
                          rw [hgm] at eo2
                          have HGm := Lib.hid hgm
                          clear hgm
                          by_cases ha : Adj wd N k m
                          · have HAd := Lib.hid ha
                            have HC : Hid (∀ u, Calls Try.prog 29 #[.int .i64 (k : Int), .int .i64 (m : Int), .int .i64 (wd : Int)] u fun e w' => e = .returned (.bool true) ∧ ∃ m, w' = u.drewN m) :=
                              fun u => HBs.out k m true u hlt hm (nv_four ht EZ.out) ⟨fun _ => HAd.out, fun _ => rfl⟩
                            clear ha
                            by_cases hl : R m < R k
                            · have HL := Lib.hid hl
                              obtain ⟨v1, ev1⟩ : ∃ v, R m = v := ⟨_, rfl⟩
                              obtain ⟨v2, ev2⟩ : ∃ v, R k = v := ⟨_, rfl⟩
                              have EV1 := Lib.hid ev1
                              rw [ev1] at el2 hl
                              rw [ev2] at el1 hl
                              clear ev1 ev2
                              have HF5 := Lib.hid (HF4.out.set (fun _ _ => Adj.symm) (fun _ _ h => h.lt) HAd.out HGk.out HGm.out HL.out)
                              have HS5 : Hid (St N Rs (upd R k (R m)) true (Low (Adj wd N) g Rs k ∧ Few (Adj wd N) g Rs wd k (t + 1))) := HS4.out.fall hlt (HF4.out.free m hm HGm.out).1 HL.out
                              go_wp2
                              go_quiet ((go_at_call 29; exact Calls.quiet_of (HC.out _)))
                              go_wp2
                              go_roundw
                              case rel =>
                                rw [← EV1.out]
                                exact ⟨t + 1, _, true, by omega, rfl, by go_num, (HI4.out.drewN _).set hlt (R m), HF5.out, HS5.out, (HV4.out.drewN _).block (heap_setCell_other _ _ _ _ (by simp; omega)), (bdrewN HB4.out _).setCell (p := ⟨w1.heap.size, k, none⟩) (Nat.le_refl _) _⟩
                              case measure => simp [intOf]; omega
                            · have HS5 : Hid (St N Rs R ch (Low (Adj wd N) g Rs k ∧ Few (Adj wd N) g Rs wd k (t + 1))) := HS4.out.mono (fun he hq => ⟨hq.1, hq.2.next (fun q eq aq gk gq => by rw [EZ.out] at eq; have e : q = m := (by omega); subst e; rw [← he k hlt, ← he q hm]; omega)⟩)
                              obtain ⟨v1, ev1⟩ : ∃ v, R m = v := ⟨_, rfl⟩
                              obtain ⟨v2, ev2⟩ : ∃ v, R k = v := ⟨_, rfl⟩
                              rw [ev1] at el2 hl
                              rw [ev2] at el1 hl
                              have hl2 : decide (v1 < v2) = false := by simpa using hl
                              clear ev1 ev2 hl
                              go_wp2
                              go_quiet ((go_at_call 29; exact Calls.quiet_of (HC.out _)))
                              go_wp2
                              go_roundw
                              case rel => exact ⟨t + 1, R, ch, by omega, rfl, by go_num, HI4.out.drewN _, HF4.out, HS5.out, HV4.out.drewN _, bdrewN HB4.out _⟩
                              case measure => simp [intOf]; omega
                          · have HS5 : Hid (St N Rs R ch (Low (Adj wd N) g Rs k ∧ Few (Adj wd N) g Rs wd k (t + 1))) := HS4.out.mono (fun he hq => ⟨hq.1, hq.2.next (fun q eq aq gk gq => absurd aq (by rw [EZ.out] at eq; have e : q = m := (by omega); rw [e]; exact ha))⟩)
                            have HC : Hid (∀ u, Calls Try.prog 29 #[.int .i64 (k : Int), .int .i64 (m : Int), .int .i64 (wd : Int)] u fun e w' => e = .returned (.bool false) ∧ ∃ m, w' = u.drewN m) :=
                              fun u => HBs.out k m false u hlt hm (nv_four ht EZ.out) ⟨fun h => (by cases h), fun h => absurd h ha⟩
                            clear ha
                            go_wp2
                            go_quiet ((go_at_call 29; exact Calls.quiet_of (HC.out _)))
                            go_wp2
                            go_roundw
                            case rel => exact ⟨t + 1, R, ch, by omega, rfl, by go_num, HI4.out.drewN _, HF4.out, HS5.out, HV4.out.drewN _, bdrewN HB4.out _⟩
                            case measure => simp [intOf]; omega
                    · have HS5 : Hid (St N Rs R ch (Low (Adj wd N) g Rs k ∧ Few (Adj wd N) g Rs wd k (t + 1))) := HS4.out.mono (fun he hq => ⟨hq.1, hq.2.next (fun q eq aq gk gq => absurd aq.2.1 (by rw [EZ.out] at eq; omega))⟩)
                      have zN2 : decide (z < (N : Int)) = false := by simpa using zN
                      clear zN
                      go_wp2
                      go_quiet (fail)
                      go_wp2
                      go_roundw
                      case rel => exact ⟨t + 1, R, ch, by omega, rfl, by go_num, HI4.out.drewN _, HF4.out, HS5.out, HV4.out.drewN _, bdrewN HB4.out _⟩
                      case measure => simp [intOf]; omega
                  · have HS5 : Hid (St N Rs R ch (Low (Adj wd N) g Rs k ∧ Few (Adj wd N) g Rs wd k (t + 1))) := HS4.out.mono (fun he hq => ⟨hq.1, hq.2.next (fun q eq aq gk gq => absurd z0 (by rw [EZ.out] at eq; omega))⟩)
                    have z02 : decide (0 ≤ z) = false := by simpa using z0
                    clear z0
                    go_wp2
                    go_quiet (fail)
                    go_wp2
                    go_roundw
                    case rel => exact ⟨t + 1, R, ch, by omega, rfl, by go_num, HI4.out.drewN _, HF4.out, HS5.out, HV4.out.drewN _, bdrewN HB4.out _⟩
                    case measure => simp [intOf]; omega
                · have e : t = 4 := by omega
                  have HS5 : Hid (St N Rs R ch (Low (Adj wd N) g Rs (k + 1))) := HS4.out.mono (fun _ q => Low.next q.1 (by rw [← e]; exact q.2))
                  have hge : ¬ (t : Int) < 4 := by omega
                  clear e ht ht4
                  go_wp2
                  go_roundw
                  case rel => exact ⟨k + 1, R, ch, by omega, rfl, by go_num, HI4.out, HF4.out, HS5.out, HB4.out⟩
                  case measure => simp [intOf]; omega
            · have e : N = k := by omega
              subst e
              clear hlt hk
              have HU : Hid (sumR (fun i => valAt Wk w1.heap.size i) N + bn (.bool ch) < sumR (fun i => valAt Wo w1.heap.size i) N + bn (.bool true)) := by
                show _ < _
                rw [sumR_congr (fun i hi => HI3.out.val hi), sumR_congr (fun i hi => HI.out.val hi)]
                rcases HS3.out with ⟨rfl, h⟩ | ⟨rfl, h, _⟩
                · simp [bn]; exact h
                · rw [sumR_congr h]; simp [bn]
              have HLo : Hid (ch = false → Low (Adj wd N) g R N) := by
                intro hch
                rcases HS3.out with ⟨h, _⟩ | ⟨_, h, hq⟩
                · rw [h] at hch; cases hch
                · intro i m hi ha gi gm
                  rw [h i hi, h m ha.2.1]
                  exact hq i m hi ha gi gm
              go_wp2
              go_roundw
              case rel => exact ⟨ch, R, rfl, HI3.out, HF3.out, HLo.out, HB3.out⟩
              case measure => exact HU.out

end Go.Proofs.Ytoikahdffpadoaa
