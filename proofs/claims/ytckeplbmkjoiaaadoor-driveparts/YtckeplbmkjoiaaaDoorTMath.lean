/- Plain mathematics of layer 3: sines by a table, winds, turns. No Go program in sight. -/
import Derived.WalkKit
namespace Go.Proofs.YtckeplbmkjoiaaaDoor
open Go.RowKit
set_option linter.unusedVariables false
set_option maxRecDepth 100000

/-- The sines of a quarter. -/
def tab : List Int := [0, 1608, 3216, 4821, 6424, 8022, 9616, 11204, 12785, 14359, 15924, 17479, 19024, 20557, 22078, 23586, 25080, 26558, 28020, 29466, 30893, 32303, 33692, 35062, 36410, 37736, 39040, 40320, 41576, 42806, 44011, 45190, 46341, 47464, 48559, 49624, 50660, 51665, 52639, 53581, 54491, 55368, 56212, 57022, 57798, 58538, 59244, 59914, 60547, 61145, 61705, 62228, 62714, 63162, 63572, 63944, 64277, 64571, 64827, 65043, 65220, 65358, 65457, 65516, 65536]
def tb (i : Int) : Int := tab.getD i.toNat 0
theorem tb_step : ∀ i : Nat, i < 64 → tb i ≤ tb ((i : Int) + 1) := by decide +kernel
theorem tb_nat {i : Int} (h0 : 0 ≤ i) (h1 : i < 64) : tb i ≤ tb (i + 1) := by
  have := tb_step i.toNat (by omega)
  rwa [show ((i.toNat : Nat) : Int) = i by omega] at this
theorem tb_mono {i j : Int} (h0 : 0 ≤ i) (h1 : i ≤ j) (h2 : j ≤ 64) : tb i ≤ tb j := by
  have key : ∀ n : Nat, i + n ≤ 64 → tb i ≤ tb (i + n) := by
    intro n
    induction n with
    | zero => intro _; simp
    | succ n ih =>
      intro h
      have h3 := ih (by omega)
      have h4 := tb_nat (i := i + n) (by omega) (by omega)
      rw [show i + ((n + 1 : Nat) : Int) = i + (n : Int) + 1 by omega]
      omega
  have := key (j - i).toNat (by omega)
  rwa [show i + (((j - i).toNat : Nat) : Int) = j by omega] at this
theorem tb_zero : tb 0 = 0 := by decide +kernel
theorem tb_last : tb 64 = 65536 := by decide +kernel
theorem tb_range {i : Int} (h0 : 0 ≤ i) (h1 : i ≤ 64) : 0 ≤ tb i ∧ tb i ≤ 65536 := by
  have a := tb_mono (Int.le_refl 0) h0 h1
  have b := tb_mono h0 h1 (Int.le_refl 64)
  rw [tb_zero] at a
  rw [tb_last] at b
  exact ⟨a, b⟩

/-- What lies on the line: no less than nothing, no more than the whole. -/
theorem line_in {d f : Int} (hd : 0 ≤ d) (h0 : 0 ≤ f) (h1 : f < 256) : 0 ≤ d * f ∧ d * f ≤ d * 256 ∧ 0 ≤ d * f / 256 ∧ d * f / 256 ≤ d := by
  have a := Int.mul_nonneg hd h0
  have b := Int.mul_le_mul_of_nonneg_left (by omega : f ≤ 256) hd
  exact ⟨a, b, by omega, by omega⟩

/-- The sine of an angle of the first quarter, both ends included. -/
def quart (r : Int) : Int := tb (r / 256) + (tb (r / 256 + 1) - tb (r / 256)) * (r % 256) / 256
theorem quart_entry {r : Int} (h : r % 256 = 0) : quart r = tb (r / 256) := by
  unfold quart
  rw [h]
  simp
theorem quart_between {r : Int} (h0 : 0 ≤ r) (h1 : r < 16384) : tb (r / 256) ≤ quart r ∧ quart r ≤ tb (r / 256 + 1) := by
  have a := tb_nat (i := r / 256) (by omega) (by omega)
  have b := line_in (d := tb (r / 256 + 1) - tb (r / 256)) (f := r % 256) (by omega) (by omega) (by omega)
  unfold quart
  omega
theorem quart_last : quart 16384 = 65536 := by decide +kernel
theorem quart_zero : quart 0 = 0 := by decide +kernel
theorem quart_mono {r s : Int} (h0 : 0 ≤ r) (h1 : r ≤ s) (h2 : s ≤ 16384) : quart r ≤ quart s := by
  by_cases hs : s = 16384
  · subst hs
    by_cases hr : r = 16384
    · subst hr; exact Int.le_refl _
    · have a := quart_between h0 (by omega)
      have b := tb_range (i := r / 256 + 1) (by omega) (by omega)
      rw [quart_last]
      omega
  · have a := quart_between h0 (by omega : r < 16384)
    have b := quart_between (r := s) (by omega) (by omega)
    by_cases he : r / 256 = s / 256
    · have c := tb_nat (i := s / 256) (by omega) (by omega)
      unfold quart
      rw [he]
      have d := Int.mul_le_mul_of_nonneg_left (by omega : r % 256 ≤ s % 256) (by omega : 0 ≤ tb (s / 256 + 1) - tb (s / 256))
      omega
    · have c := tb_mono (i := r / 256 + 1) (j := s / 256) (by omega) (by omega) (by omega)
      omega
theorem quart_range {r : Int} (h0 : 0 ≤ r) (h1 : r ≤ 16384) : 0 ≤ quart r ∧ quart r ≤ 65536 := by
  have a := quart_mono (Int.le_refl 0) h0 h1
  have b := quart_mono h0 h1 (Int.le_refl _)
  rw [quart_zero] at a
  rw [quart_last] at b
  exact ⟨a, b⟩

/-- The sine of any angle, by the document's words. -/
def sn (a : Int) : Int :=
  if a % 65536 < 16384 then quart (a % 65536)
  else if a % 65536 < 32768 then quart (32768 - a % 65536)
  else if a % 65536 < 49152 then -quart (a % 65536 - 32768)
  else -quart (65536 - a % 65536)
def cs (a : Int) : Int := sn (a % 65536 + 16384)
theorem sn_q0 {a p : Int} (hp : a % 65536 = p) (h : p < 16384) : sn a = quart p := by
  subst hp; unfold sn; rw [if_pos h]
theorem sn_q1 {a p : Int} (hp : a % 65536 = p) (h : 16384 ≤ p) (h' : p < 32768) : sn a = quart (32768 - p) := by
  subst hp; unfold sn; rw [if_neg (by omega), if_pos h']
theorem sn_q2 {a p : Int} (hp : a % 65536 = p) (h : 32768 ≤ p) (h' : p < 49152) : sn a = -quart (p - 32768) := by
  subst hp; unfold sn; rw [if_neg (by omega), if_neg (by omega), if_pos h']
theorem sn_q3 {a p : Int} (hp : a % 65536 = p) (h : 49152 ≤ p) : sn a = -quart (65536 - p) := by
  subst hp; unfold sn; rw [if_neg (by omega), if_neg (by omega), if_neg (by omega)]
/-- In a closed quarter the sine goes by one formula, both ends included. -/
theorem sn_c0 {a p : Int} (hp : a % 65536 = p) (h : p ≤ 16384) : sn a = quart p := by
  by_cases e : p = 16384
  · rw [sn_q1 hp (by omega) (by omega), show 32768 - p = p by omega]
  · exact sn_q0 hp (by omega)
theorem sn_range (a : Int) : -65536 ≤ sn a ∧ sn a ≤ 65536 := by
  unfold sn
  split
  · have := quart_range (r := a % 65536) (by omega) (by omega); omega
  · split
    · have := quart_range (r := 32768 - a % 65536) (by omega) (by omega); omega
    · split
      · have := quart_range (r := a % 65536 - 32768) (by omega) (by omega); omega
      · have := quart_range (r := 65536 - a % 65536) (by omega) (by omega); omega
theorem cs_range (a : Int) : -65536 ≤ cs a ∧ cs a ≤ 65536 := sn_range _
theorem sn_norm (a : Int) : sn (a % 65536) = sn a := by
  unfold sn
  rw [show a % 65536 % 65536 = a % 65536 by omega]
theorem sn_congr {a b : Int} (h : a % 65536 = b % 65536) : sn a = sn b := by rw [← sn_norm a, ← sn_norm b, h]
theorem sn_half (a b : Int) (h : b % 65536 = (a + 32768) % 65536) : sn b = -sn a := by
  rcases Int.lt_or_le (a % 65536) 16384 with h1 | h1
  · rw [sn_q0 (a := a) rfl h1, sn_q2 (a := b) (p := a % 65536 + 32768) (by omega) (by omega) (by omega)]
    congr 2; omega
  · rcases Int.lt_or_le (a % 65536) 32768 with h2 | h2
    · rw [sn_q1 (a := a) rfl h1 h2, sn_q3 (a := b) (p := a % 65536 + 32768) (by omega) (by omega)]
      congr 2; omega
    · rcases Int.lt_or_le (a % 65536) 49152 with h3 | h3
      · rw [sn_q2 (a := a) rfl h2 h3, sn_q0 (a := b) (p := a % 65536 - 32768) (by omega) (by omega)]
        omega
      · rw [sn_q3 (a := a) rfl h3, sn_q1 (a := b) (p := a % 65536 - 32768) (by omega) (by omega) (by omega), Int.neg_neg]
        congr 1; omega
theorem sn_mirror (a b : Int) (h : b % 65536 = (32768 - a) % 65536) : sn b = sn a := by
  rcases Int.lt_or_le (a % 65536) 16384 with h1 | h1
  · rw [sn_q0 (a := a) rfl h1]
    by_cases e : a % 65536 = 0
    · rw [e, sn_q2 (a := b) (p := 32768) (by omega) (by omega) (by omega)]
      decide +kernel
    · rw [sn_q1 (a := b) (p := 32768 - a % 65536) (by omega) (by omega) (by omega)]
      congr 1; omega
  · rcases Int.lt_or_le (a % 65536) 32768 with h2 | h2
    · rw [sn_q1 (a := a) rfl h1 h2, sn_c0 (a := b) (p := 32768 - a % 65536) (by omega) (by omega)]
    · rcases Int.lt_or_le (a % 65536) 49152 with h3 | h3
      · rw [sn_q2 (a := a) rfl h2 h3]
        by_cases e : a % 65536 = 32768
        · rw [e, sn_q0 (a := b) (p := 0) (by omega) (by omega)]
          decide +kernel
        · rw [sn_q3 (a := b) (p := 98304 - a % 65536) (by omega) (by omega)]
          congr 2; omega
      · rw [sn_q3 (a := a) rfl h3]
        by_cases e : a % 65536 = 49152
        · rw [e, sn_q3 (a := b) (p := 49152) (by omega) (by omega)]
        · rw [sn_q2 (a := b) (p := 98304 - a % 65536) (by omega) (by omega) (by omega)]
          congr 2; omega
theorem sn_rise {x y : Int} (h0 : 0 ≤ x) (h1 : x ≤ y) (h2 : y ≤ 16384) : 0 ≤ sn x ∧ sn x ≤ sn y := by
  rw [sn_c0 (a := x) (p := x) (by omega) (by omega), sn_c0 (a := y) (p := y) (by omega) h2]
  exact ⟨(quart_range h0 (by omega)).1, quart_mono h0 h1 h2⟩
theorem cs_fall {x y : Int} (h0 : 0 ≤ x) (h1 : x ≤ y) (h2 : y ≤ 16384) : cs y ≤ cs x := by
  unfold cs
  rw [← sn_mirror (x % 65536 + 16384) (16384 - x) (by omega), ← sn_mirror (y % 65536 + 16384) (16384 - y) (by omega)]
  exact (sn_rise (by omega) (by omega) (by omega)).2

/-! ### winds -/
def sw (j : Nat) : Int := sn (256 * (j : Int))
def cw (j : Nat) : Int := cs (256 * (j : Int))
/-- How far one goes along the wind j. -/
def wv (x y : Int) (j : Nat) : Int := x * cw j + y * sw j
/-- The first wind along which one goes farthest. -/
def IsHead (x y : Int) (d : Nat) : Prop := d < 256 ∧ ∀ j : Nat, j < 256 → wv x y j ≤ wv x y d ∧ (j < d → wv x y j < wv x y d)
instance (x y : Int) (d : Nat) : Decidable (IsHead x y d) := inferInstanceAs (Decidable (_ ∧ _))
theorem IsHead.same {x y : Int} {d e : Nat} (h : IsHead x y d) (g : IsHead x y e) : d = e := by
  have a := h.2 e g.1
  have b := g.2 d h.1
  rcases Nat.lt_trichotomy d e with c | c | c
  · have := b.2 c; omega
  · exact c
  · have := a.2 c; omega

def m1 (j : Nat) : Nat := if j ≤ 64 then j else if j ≤ 128 then 128 - j else if j ≤ 192 then j - 128 else 256 - j
def m2 (j : Nat) : Nat := if j < 64 then 128 - j else if j ≤ 128 then j else if j < 192 then 256 - j else 64
def m3 (j : Nat) : Nat := if j ≤ 64 then 128 + j else if j < 128 then 256 - j else if j ≤ 192 then j else 384 - j
def m4 (j : Nat) : Nat := if j = 0 then 0 else if j ≤ 64 then 256 - j else if j < 192 then 192 else j
theorem q1 : ∀ j : Nat, j < 256 → m1 j ≤ 64 ∧ m1 j ≤ j ∧ cw j ≤ cw (m1 j) ∧ sw j ≤ sw (m1 j) := by decide +kernel
theorem q2 : ∀ j : Nat, j < 256 → 64 ≤ m2 j ∧ m2 j ≤ 128 ∧ cw (m2 j) ≤ cw j ∧ sw j ≤ sw (m2 j) ∧ (m2 j ≤ j ∨ cw (m2 j) < cw j) := by decide +kernel
theorem q3 : ∀ j : Nat, j < 256 → 128 ≤ m3 j ∧ m3 j ≤ 192 ∧ cw (m3 j) ≤ cw j ∧ sw (m3 j) ≤ sw j ∧ (m3 j ≤ j ∨ cw (m3 j) < cw j ∨ sw (m3 j) < sw j) := by decide +kernel
theorem q4 : ∀ j : Nat, j < 256 → (m4 j = 0 ∨ 192 ≤ m4 j) ∧ m4 j < 256 ∧ cw j ≤ cw (m4 j) ∧ sw (m4 j) ≤ sw j ∧ (m4 j ≤ j ∨ sw (m4 j) < sw j) := by decide +kernel

theorem mul_up {x a b : Int} (hx : 0 ≤ x) (h : a ≤ b) : x * a ≤ x * b := Int.mul_le_mul_of_nonneg_left h hx
theorem mul_down {x a b : Int} (hx : x < 0) (h : a ≤ b) : x * b ≤ x * a := Int.mul_le_mul_of_nonpos_left (by omega) h
theorem mul_down_lt {x a b : Int} (hx : x < 0) (h : a < b) : x * b < x * a := Int.mul_lt_mul_of_neg_left h hx

/-- What has been found behind wind 0 and the winds from f to below d. -/
structure Seek (x y : Int) (f d b : Nat) (m : Int) : Prop where
  place : b = 0 ∨ f ≤ b ∧ b < d
  low : 0 ≤ m
  zero : wv x y 0 ≤ m
  all : ∀ j, f ≤ j → j < d → wv x y j ≤ m
  what : m = 0 ∧ b = 0 ∨ m = wv x y b ∧ 0 < m
  zero' : 0 < b → wv x y 0 < m
  all' : ∀ j, f ≤ j → j < d → j < b → wv x y j < m
/-- Before any wind but 0. -/
theorem Seek.start_yes {x y : Int} (f : Nat) (h : 0 < wv x y 0) : Seek x y f f 0 (wv x y 0) :=
  ⟨Or.inl rfl, by omega, by omega, fun j a b => by omega, Or.inr ⟨rfl, h⟩, fun h => by omega, fun j a b => by omega⟩
theorem Seek.start_no {x y : Int} (f : Nat) (h : ¬ 0 < wv x y 0) : Seek x y f f 0 0 :=
  ⟨Or.inl rfl, by omega, by omega, fun j a b => by omega, Or.inl ⟨rfl, rfl⟩, fun h => by omega, fun j a b => by omega⟩
theorem Seek.yes {x y : Int} {f d b : Nat} {m : Int} (h : Seek x y f d b m) (hf : f ≤ d) (hv : m < wv x y d) : Seek x y f (d + 1) d (wv x y d) := by
  refine ⟨Or.inr ⟨hf, by omega⟩, by have := h.low; omega, by have := h.zero; omega, ?_, Or.inr ⟨rfl, by have := h.low; omega⟩, fun _ => by have := h.zero; omega, ?_⟩
  · intro j a b
    by_cases e : j = d
    · subst e; exact Int.le_refl _
    · have := h.all j a (by omega); omega
  · intro j a b c
    have := h.all j a (by omega); omega
theorem Seek.no {x y : Int} {f d b : Nat} {m : Int} (h : Seek x y f d b m) (hf : f ≤ d) (hv : ¬ m < wv x y d) : Seek x y f (d + 1) b m := by
  have hp := h.place
  refine ⟨by omega, h.low, h.zero, ?_, h.what, h.zero', ?_⟩
  · intro j a b
    by_cases e : j = d
    · subst e; omega
    · exact h.all j a (by omega)
  · intro j a b c
    by_cases e : j = d
    · subst e
      rcases hp with p | p
      · omega
      · omega
    · exact h.all' j a (by omega) c
/-- At the end: where each wind is mirrored into what was tried. -/
theorem Seek.done {x y : Int} {f e b : Nat} {m : Int} (h : Seek x y f e b m) (he : e ≤ 256) (mq : Nat → Nat)
    (hq : ∀ j, j < 256 → (mq j = 0 ∨ f ≤ mq j ∧ mq j < e) ∧ wv x y j ≤ wv x y (mq j) ∧ (mq j ≤ j ∨ wv x y j < wv x y (mq j)))
    (hz : 0 ≤ wv x y 0 ∨ ∃ i, f ≤ i ∧ i < e ∧ 0 < wv x y i) : IsHead x y b := by
  have hm : m = wv x y b := by
    rcases h.what with ⟨a, c⟩ | ⟨a, c⟩
    · rcases hz with z | ⟨i, i0, i1, i2⟩
      · have := h.zero
        subst a c
        omega
      · have := h.all i i0 i1
        omega
    · exact a
  have hle : ∀ j, (mq j = 0 ∨ f ≤ mq j ∧ mq j < e) → wv x y (mq j) ≤ m := by
    intro j hj
    rcases hj with a | a
    · rw [a]; exact h.zero
    · exact h.all _ a.1 a.2
  refine ⟨by rcases h.place with p | p <;> omega, fun j hj => ?_⟩
  obtain ⟨a, c, d⟩ := hq j hj
  have := hle j a
  rw [← hm]
  refine ⟨by omega, fun hjb => ?_⟩
  rcases d with d | d
  · have : wv x y (mq j) < m := by
      rcases a with a | a
      · rw [a]; exact h.zero' (by omega)
      · exact h.all' _ a.1 a.2 (by omega)
    omega
  · omega
theorem cw_128 : cw 128 = -65536 := by decide +kernel
theorem sw_128 : sw 128 = 0 := by decide +kernel
theorem cw_0 : cw 0 = 65536 := by decide +kernel
theorem sw_0 : sw 0 = 0 := by decide +kernel
theorem cw_192 : cw 192 = 0 := by decide +kernel
theorem sw_192 : sw 192 = -65536 := by decide +kernel
/-- Where the quarter of a vector begins, and where the search ends. -/
def fw (x y : Int) : Nat := if 0 ≤ x ∧ 0 ≤ y then 0 else if 0 ≤ y then 64 else if x < 0 then 128 else 192
def ew (x y : Int) : Nat := if 0 ≤ x ∧ 0 ≤ y then 65 else if 0 ≤ y then 129 else if x < 0 then 193 else 256
theorem Seek.head {x y : Int} {b : Nat} {m : Int} (h : Seek x y (fw x y) (ew x y) b m) : IsHead x y b := by
  unfold fw ew at h
  by_cases h1 : 0 ≤ x ∧ 0 ≤ y
  · rw [if_pos h1, if_pos h1] at h
    refine h.done (by omega) m1 (fun j hj => ?_) (Or.inl ?_)
    · obtain ⟨a, b, c, d⟩ := q1 j hj
      have e1 := mul_up h1.1 c
      have e2 := mul_up h1.2 d
      exact ⟨Or.inr ⟨by omega, by omega⟩, by unfold wv; omega, Or.inl b⟩
    · unfold wv
      rw [cw_0, sw_0]
      omega
  · rw [if_neg h1, if_neg h1] at h
    by_cases h2 : 0 ≤ y
    · rw [if_pos h2, if_pos h2] at h
      have hx : x < 0 := by omega
      refine h.done (by omega) m2 (fun j hj => ?_) (Or.inr ⟨128, by omega, by omega, ?_⟩)
      · obtain ⟨a, b, c, d, e⟩ := q2 j hj
        have e1 := mul_down hx c
        have e2 := mul_up h2 d
        refine ⟨Or.inr ⟨by omega, by omega⟩, by unfold wv; omega, ?_⟩
        rcases e with e | e
        · exact Or.inl e
        · have e3 := mul_down_lt hx e
          exact Or.inr (by unfold wv; omega)
      · unfold wv
        rw [cw_128, sw_128]
        omega
    · rw [if_neg h2, if_neg h2] at h
      have hy : y < 0 := by omega
      by_cases h3 : x < 0
      · rw [if_pos h3, if_pos h3] at h
        refine h.done (by omega) m3 (fun j hj => ?_) (Or.inr ⟨128, by omega, by omega, ?_⟩)
        · obtain ⟨a, b, c, d, e⟩ := q3 j hj
          have e1 := mul_down h3 c
          have e2 := mul_down hy d
          refine ⟨Or.inr ⟨by omega, by omega⟩, by unfold wv; omega, ?_⟩
          rcases e with e | e | e
          · exact Or.inl e
          · have e3 := mul_down_lt h3 e
            exact Or.inr (by unfold wv; omega)
          · have e3 := mul_down_lt hy e
            exact Or.inr (by unfold wv; omega)
        · unfold wv
          rw [cw_128, sw_128]
          omega
      · rw [if_neg h3, if_neg h3] at h
        refine h.done (by omega) m4 (fun j hj => ?_) (Or.inr ⟨192, by omega, by omega, ?_⟩)
        · obtain ⟨a, b, c, d, e⟩ := q4 j hj
          have e1 := mul_up (by omega : 0 ≤ x) c
          have e2 := mul_down hy d
          refine ⟨by omega, by unfold wv; omega, ?_⟩
          rcases e with e | e
          · exact Or.inl e
          · have e3 := mul_down_lt hy e
            exact Or.inr (by unfold wv; omega)
        · unfold wv
          rw [cw_192, sw_192]
          omega

/-- The document's own search: what has been found of the winds below d. -/
structure RSeek (x y : Int) (d b : Nat) (m : Int) : Prop where
  place : b < d
  what : m = wv x y b
  all : ∀ j, j < d → wv x y j ≤ m
  all' : ∀ j, j < b → wv x y j < m
theorem RSeek.start (x y : Int) : RSeek x y 1 0 (wv x y 0) := by
  refine ⟨by omega, rfl, fun j h => ?_, fun j h => by omega⟩
  rw [show j = 0 by omega]
  exact Int.le_refl _
theorem RSeek.yes {x y : Int} {d b : Nat} {m : Int} (h : RSeek x y d b m) (hv : m < wv x y d) : RSeek x y (d + 1) d (wv x y d) := by
  refine ⟨by omega, rfl, fun j hj => ?_, fun j hj => ?_⟩
  · by_cases e : j = d
    · subst e; exact Int.le_refl _
    · have := h.all j (by omega); omega
  · have := h.all j (by omega); omega
theorem RSeek.no {x y : Int} {d b : Nat} {m : Int} (h : RSeek x y d b m) (hv : ¬ m < wv x y d) : RSeek x y (d + 1) b m := by
  refine ⟨by have := h.place; omega, h.what, fun j hj => ?_, h.all'⟩
  by_cases e : j = d
  · subst e; omega
  · exact h.all j (by omega)
theorem RSeek.head {x y : Int} {b : Nat} {m : Int} (h : RSeek x y 256 b m) : IsHead x y b := by
  refine ⟨h.place, fun j hj => ?_⟩
  have := h.all j hj
  have := h.what
  exact ⟨by omega, fun hjb => by have := h.all' j hjb; omega⟩

/-- No way within reach goes too far along a wind. -/
theorem wv_bound {x y c s : Int} (h : -1073741824 ≤ x ∧ x ≤ 1073741824 ∧ -1073741824 ≤ y ∧ y ≤ 1073741824) (hc : -65536 ≤ c ∧ c ≤ 65536) (hs : -65536 ≤ s ∧ s ≤ 65536) :
    (-70368744177664 ≤ x * c ∧ x * c ≤ 70368744177664) ∧ (-70368744177664 ≤ y * s ∧ y * s ≤ 70368744177664) := by
  have key : ∀ u v : Int, -1073741824 ≤ u → u ≤ 1073741824 → -65536 ≤ v → v ≤ 65536 → -70368744177664 ≤ u * v ∧ u * v ≤ 70368744177664 := by
    intro u v a b c d
    have h1 : (u * v).natAbs = u.natAbs * v.natAbs := Int.natAbs_mul u v
    have h2 : u.natAbs * v.natAbs ≤ 1073741824 * 65536 := Nat.mul_le_mul (by omega) (by omega)
    omega
  exact ⟨key x c h.1 h.2.1 hc.1 hc.2, key y s h.2.2.1 h.2.2.2 hs.1 hs.2⟩

/-! ### turns -/
/-- Where one ends that turns from one angle towards another one, by so much at most. -/
def tw (a b most : Int) : Int :=
  if most < 0 then a % 65536
  else if (b % 65536 - a % 65536) % 65536 ≤ 32768 then (a % 65536 + min ((b % 65536 - a % 65536) % 65536) most) % 65536
  else (a % 65536 - min (65536 - (b % 65536 - a % 65536) % 65536) most) % 65536
/-- The shorter way's length. -/
def gap (a b : Int) : Int := if (b - a) % 65536 ≤ 32768 then (b - a) % 65536 else 65536 - (b - a) % 65536
theorem gap_zero {a b : Int} (h0 : 0 ≤ a) (h1 : a < 65536) : gap a b = 0 ↔ a = b % 65536 := by
  unfold gap
  split <;> constructor <;> intro h <;> omega
theorem gap_range (a b : Int) : 0 ≤ gap a b ∧ gap a b ≤ 32768 := by
  unfold gap
  split <;> omega
theorem tw_range (a b most : Int) : 0 ≤ tw a b most ∧ tw a b most < 65536 := by
  unfold tw
  split
  · omega
  · split <;> omega
theorem tw_gap (a b most : Int) (h : 0 ≤ most) : gap (tw a b most) b = if gap a b ≤ most then 0 else gap a b - most := by
  unfold tw
  rw [if_neg (by omega)]
  by_cases hu : (b % 65536 - a % 65536) % 65536 ≤ 32768
  · rw [if_pos hu]
    have e : gap a b = (b % 65536 - a % 65536) % 65536 := by unfold gap; rw [if_pos (by omega)]; omega
    rw [e]
    split
    · rw [Int.min_eq_left (by omega)]; unfold gap; split <;> omega
    · rw [Int.min_eq_right (by omega)]; unfold gap; split <;> omega
  · rw [if_neg hu]
    have e : gap a b = 65536 - (b % 65536 - a % 65536) % 65536 := by unfold gap; rw [if_neg (by omega)]; omega
    rw [e]
    split
    · rw [Int.min_eq_left (by omega)]; unfold gap; split <;> omega
    · rw [Int.min_eq_right (by omega)]; unfold gap; split <;> omega
theorem tw_stay {a b most : Int} (h0 : 0 ≤ a) (h1 : a < 65536) (h : a = b % 65536) : tw a b most = a := by
  unfold tw
  split
  · omega
  · rename_i hm
    rw [if_pos (by omega), show (b % 65536 - a % 65536) % 65536 = 0 by omega, Int.min_eq_left (by omega)]
    omega

/-- Turning part by part: behind k parts, none beyond the end. -/
def way (a b : Int) : Int := if 32768 < (b % 65536 - a % 65536) % 65536 then -1 else 1
structure Part (a b : Int) (k : Nat) (c : Int) : Prop where
  here : c = (a % 65536 + way a b * k) % 65536
  within : (k : Int) ≤ gap a b
theorem Part.start (a b : Int) : Part a b 0 (a % 65536) := ⟨by simp, (gap_range a b).1⟩
theorem Part.range {a b c : Int} {k : Nat} (h : Part a b k c) : 0 ≤ c ∧ c < 65536 := by
  have := h.here; omega
theorem Part.more {a b c : Int} {k : Nat} (h : Part a b k c) (hc : c ≠ b % 65536) : Part a b (k + 1) ((c + way a b) % 65536) := by
  obtain ⟨h1, h2⟩ := h
  unfold way gap at *
  split at h1 <;> split at h2
  · omega
  · exact ⟨by unfold way; rw [if_pos (by omega)] at *; omega, by unfold gap; rw [if_neg (by omega)]; omega⟩
  · exact ⟨by unfold way; rw [if_neg (by omega)] at *; omega, by unfold gap; rw [if_pos (by omega)]; omega⟩
  · omega
/-- Turned as often as may be: where one turn at once ends. -/
theorem Part.most {a b c : Int} {k : Nat} {most : Int} (h : Part a b k c) (hk : (k : Int) = most) : c = tw a b most := by
  obtain ⟨h1, h2⟩ := h
  unfold way gap at *
  unfold tw
  rw [if_neg (by omega)]
  split at h1 <;> split at h2
  · omega
  · rw [if_neg (by omega), Int.min_eq_right (by omega)]; omega
  · rw [if_pos (by omega), Int.min_eq_right (by omega)]; omega
  · omega
theorem Part.there {a b c : Int} {k : Nat} {most : Int} (h : Part a b k c) (hc : c = b % 65536) (hk : (k : Int) ≤ most) : c = tw a b most := by
  obtain ⟨h1, h2⟩ := h
  unfold way gap at *
  unfold tw
  rw [if_neg (by omega)]
  split at h1 <;> split at h2
  · omega
  · rw [if_neg (by omega), Int.min_eq_left (by omega)]; omega
  · rw [if_pos (by omega), Int.min_eq_left (by omega)]; omega
  · omega

/-- Of so many turns: i are too few just if i times the most is less than the way. -/
theorem rounds_lt {D most i : Int} (hm : 0 < most) : i < (D + most - 1) / most ↔ i * most < D := by
  rw [← Int.add_one_le_iff, Int.le_ediv_iff_mul_le hm, Int.add_mul, Int.one_mul]
  omega

end Go.Proofs.YtckeplbmkjoiaaaDoor
