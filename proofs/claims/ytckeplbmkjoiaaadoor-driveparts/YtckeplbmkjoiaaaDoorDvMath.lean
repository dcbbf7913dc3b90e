/- Plain mathematics of layer 14: how far off two angles are, a step, and many of them. No Go program in sight. -/
import Derived.Test.YtckeplbmkjoiaaaDoorTMath
import Derived.Test.YtckeplbmkjoiaaaDoorRefRoot
namespace Go.Proofs.YtckeplbmkjoiaaaDoor
open Go.RowKit
set_option linter.unusedVariables false

/-- The wind along which one goes farthest, by choice. -/
noncomputable def hd (x y : Int) : Nat := open Classical in if h : ∃ d, IsHead x y d then h.choose else 0
theorem hd_of {x y : Int} {d : Nat} (h : IsHead x y d) : hd x y = d := by
  have e : ∃ d, IsHead x y d := ⟨d, h⟩
  unfold hd
  rw [dif_pos e]
  exact e.choose_spec.same h
/-- The greatest number whose square is not above, by choice. -/
noncomputable def rt (n : Int) : Int := open Classical in if h : ∃ r, IsRoot n r then h.choose else 0
theorem rt_of {n r : Int} (h : IsRoot n r) : rt n = r := by
  have e : ∃ d, IsRoot n d := ⟨r, h⟩
  unfold rt
  rw [dif_pos e]
  exact e.choose_spec.same h
theorem root_is : ∀ n : Nat, ∃ r, IsRoot (n : Int) r := by
  intro n
  induction n with
  | zero => exact ⟨0, by decide, by decide, by decide⟩
  | succ n ih =>
    obtain ⟨r, h0, h1, h2⟩ := ih
    by_cases c : (r + 1) * (r + 1) ≤ ((n + 1 : Nat) : Int)
    · refine ⟨r + 1, by omega, c, ?_⟩
      have : (r + 1) * (r + 1) < (r + 1 + 1) * (r + 1 + 1) := by
        have e : (r + 1 + 1) * (r + 1 + 1) = (r + 1) * (r + 1) + (2 * r + 3) := by
          simp only [Int.add_mul, Int.mul_add, Int.mul_one, Int.one_mul]; omega
        omega
      omega
    · exact ⟨r, h0, by omega, by omega⟩
theorem rt_is {n : Int} (h : 0 ≤ n) : IsRoot n (rt n) := by
  obtain ⟨r, hr⟩ := root_is n.toNat
  rw [show ((n.toNat : Nat) : Int) = n by omega] at hr
  rw [rt_of hr]; exact hr
/-- No side is longer than the way. -/
theorem rt_side {x y : Int} : x ≤ rt (x * x + y * y) ∧ -x ≤ rt (x * x + y * y) ∧ y ≤ rt (x * x + y * y) ∧ -y ≤ rt (x * x + y * y) := by
  have sq : ∀ z : Int, 0 ≤ z * z := fun z => by
    have e : ((z.natAbs * z.natAbs : Nat) : Int) = z * z := Int.natAbs_mul_self
    rw [← e]; exact Int.natCast_nonneg _
  have hx := sq x
  have hy := sq y
  have hr := rt_is (show 0 ≤ x * x + y * y by omega)
  generalize rt (x * x + y * y) = r at *
  have key : ∀ z : Int, z * z ≤ x * x + y * y → z ≤ r ∧ -z ≤ r := by
    intro z hz
    have h1 := hr.lt
    have h0 := hr.pos
    constructor
    · apply Int.le_of_lt_add_one
      refine Int.lt_of_not_ge fun c => ?_
      have := sq_mono (a := r + 1) (b := z) (by omega) c
      omega
    · apply Int.le_of_lt_add_one
      refine Int.lt_of_not_ge fun c => ?_
      have := sq_mono (a := r + 1) (b := -z) (by omega) c
      rw [Int.neg_mul_neg] at this
      omega
  have a := key x (by omega)
  have b := key y (by omega)
  omega

/-! ### angles -/
/-- How far off two angles are. -/
def off (a b : Int) : Int :=
  if (a % 65536 - b % 65536) % 65536 ≤ (-((a % 65536 - b % 65536) % 65536)) % 65536 then (a % 65536 - b % 65536) % 65536 else (-((a % 65536 - b % 65536) % 65536)) % 65536
theorem off_symm (a b : Int) : off a b = off b a := by unfold off; split <;> split <;> omega
theorem off_range (a b : Int) : 0 ≤ off a b ∧ off a b ≤ 32768 := by unfold off; split <;> omega
theorem off_self (a : Int) : off a a = 0 := by unfold off; split <;> omega
/-- Whoever turns goes no farther than it may. -/
theorem off_tw {a b t : Int} (h : 0 ≤ t) : off (tw a b t) a ≤ t := by
  unfold tw
  rw [if_neg (by omega)]
  split
  · rcases Int.le_total ((b % 65536 - a % 65536) % 65536) t with c | c
    · rw [Int.min_eq_left c]; unfold off; split <;> omega
    · rw [Int.min_eq_right c]; unfold off; split <;> omega
  · rcases Int.le_total (65536 - (b % 65536 - a % 65536) % 65536) t with c | c
    · rw [Int.min_eq_left c]; unfold off; split <;> omega
    · rw [Int.min_eq_right c]; unfold off; split <;> omega

/-! ### the land -/
/-- The coordinate among so many cells that is nearest. -/
def cl (v n : Int) : Int := if v < 0 then 0 else if n * 65536 ≤ v then n * 65536 - 1 else v
theorem cl_in {n : Int} (v : Int) (h : 1 ≤ n) : 0 ≤ cl v n ∧ cl v n < n * 65536 := by unfold cl; split <;> (try split) <;> omega
theorem cl_max {n : Int} (v : Int) (h : 1 ≤ n) : max 0 (min v (n * 65536 - 1)) = cl v n := by
  unfold cl
  split
  · rw [Int.min_eq_left (by omega), Int.max_eq_left (by omega)]
  · split
    · rw [Int.min_eq_right (by omega), Int.max_eq_right (by omega)]
    · rw [Int.min_eq_left (by omega), Int.max_eq_right (by omega)]
theorem cl_same {n : Int} (v : Int) (h : 1 ≤ n) : cl v n = v ↔ 0 ≤ v ∧ v < n * 65536 := by
  unfold cl; split <;> (try split) <;> omega

/-! ### movers -/
structure Mv where
  x : Int
  y : Int
  a : Int
structure Eg where
  s : Int
  t : Int
  w : Int
  h : Int
def okE (E : Eg) : Prop := 0 ≤ E.s ∧ E.s ≤ 65536 ∧ 0 ≤ E.t ∧ E.t ≤ 32768 ∧ 1 ≤ E.w ∧ E.w ≤ 64 ∧ 1 ≤ E.h ∧ E.h ≤ 64
instance (E : Eg) : Decidable (okE E) := inferInstanceAs (Decidable (_ ∧ _))
def onL (E : Eg) (x y : Int) : Prop := 0 ≤ x ∧ x < E.w * 65536 ∧ 0 ≤ y ∧ y < E.h * 65536
instance (E : Eg) (x y : Int) : Decidable (onL E x y) := inferInstanceAs (Decidable (_ ∧ _))
def okM (E : Eg) (tx ty : Int) (m : Mv) : Prop := okE E ∧ onL E tx ty ∧ onL E m.x m.y ∧ 0 ≤ m.a ∧ m.a < 65536
instance (E : Eg) (tx ty : Int) (m : Mv) : Decidable (okM E tx ty m) := inferInstanceAs (Decidable (_ ∧ _))
/-- The angle of the wind that leads to the target. -/
noncomputable def wn (tx ty : Int) (m : Mv) : Int := 256 * (hd (tx - m.x) (ty - m.y) : Int)
/-- The angle behind the turn. -/
noncomputable def an (E : Eg) (tx ty : Int) (m : Mv) : Int := tw m.a (wn tx ty m) E.t
noncomputable def far (tx ty : Int) (m : Mv) : Int := rt ((tx - m.x) * (tx - m.x) + (ty - m.y) * (ty - m.y))
/-- A step, and whether one is there. -/
noncomputable def dvS (E : Eg) (tx ty : Int) (m : Mv) : Mv × Bool :=
  if m.x = tx ∧ m.y = ty then (m, true)
  else if 8192 < off (an E tx ty m) (wn tx ty m) then (⟨m.x, m.y, an E tx ty m⟩, false)
  else if far tx ty m ≤ E.s then (⟨tx, ty, an E tx ty m⟩, true)
  else (⟨cl (m.x + E.s * cs (an E tx ty m) / 65536) E.w, cl (m.y + E.s * sn (an E tx ty m) / 65536) E.h, an E tx ty m⟩, false)
theorem dvS_at {E : Eg} {tx ty : Int} {m : Mv} (h : m.x = tx ∧ m.y = ty) : dvS E tx ty m = (m, true) := by unfold dvS; rw [if_pos h]
theorem dvS_turn {E : Eg} {tx ty : Int} {m : Mv} (h : ¬ (m.x = tx ∧ m.y = ty)) (h2 : 8192 < off (an E tx ty m) (wn tx ty m)) :
    dvS E tx ty m = (⟨m.x, m.y, an E tx ty m⟩, false) := by unfold dvS; rw [if_neg h, if_pos h2]
theorem dvS_end {E : Eg} {tx ty : Int} {m : Mv} (h : ¬ (m.x = tx ∧ m.y = ty)) (h2 : ¬ 8192 < off (an E tx ty m) (wn tx ty m)) (h3 : far tx ty m ≤ E.s) :
    dvS E tx ty m = (⟨tx, ty, an E tx ty m⟩, true) := by unfold dvS; rw [if_neg h, if_neg h2, if_pos h3]
theorem dvS_go {E : Eg} {tx ty : Int} {m : Mv} (h : ¬ (m.x = tx ∧ m.y = ty)) (h2 : ¬ 8192 < off (an E tx ty m) (wn tx ty m)) (h3 : ¬ far tx ty m ≤ E.s) :
    dvS E tx ty m = (⟨cl (m.x + E.s * cs (an E tx ty m) / 65536) E.w, cl (m.y + E.s * sn (an E tx ty m) / 65536) E.h, an E tx ty m⟩, false) := by
  unfold dvS; rw [if_neg h, if_neg h2, if_neg h3]
theorem an_range (E : Eg) (tx ty : Int) (m : Mv) : 0 ≤ an E tx ty m ∧ an E tx ty m < 65536 := tw_range _ _ _
/-- A speed's part by a sine is no more than the speed. -/
theorem part_in {s c : Int} (h0 : 0 ≤ s) (hc : -65536 ≤ c ∧ c ≤ 65536) : -s ≤ s * c / 65536 ∧ s * c / 65536 ≤ s := by
  have a := Int.mul_le_mul_of_nonneg_left hc.1 h0
  have b := Int.mul_le_mul_of_nonneg_left hc.2 h0
  omega
/-- What a step leaves: the mover stays valid, goes no farther than its speed, turns no farther than it may. -/
theorem dvS_keeps {E : Eg} {tx ty : Int} {m : Mv} (h : okM E tx ty m) :
    okM E tx ty (dvS E tx ty m).1 ∧ ((dvS E tx ty m).2 = true → (dvS E tx ty m).1.x = tx ∧ (dvS E tx ty m).1.y = ty)
    ∧ (-E.s ≤ (dvS E tx ty m).1.x - m.x ∧ (dvS E tx ty m).1.x - m.x ≤ E.s ∧ -E.s ≤ (dvS E tx ty m).1.y - m.y ∧ (dvS E tx ty m).1.y - m.y ≤ E.s)
    ∧ off (dvS E tx ty m).1.a m.a ≤ E.t := by
  obtain ⟨he, ht, hm, a0, a1⟩ := h
  have he' := he
  obtain ⟨e0, e1, e2, e3, e4, e5, e6, e7⟩ := he'
  have hm' := hm
  obtain ⟨m0, m1, m2, m3⟩ := hm'
  have r := an_range E tx ty m
  have ho : off (an E tx ty m) m.a ≤ E.t := off_tw e2
  by_cases c1 : m.x = tx ∧ m.y = ty
  · rw [dvS_at c1]
    refine ⟨⟨he, ht, hm, a0, a1⟩, fun _ => c1, ⟨by dsimp only; omega, by dsimp only; omega, by dsimp only; omega, by dsimp only; omega⟩, ?_⟩
    show off m.a m.a ≤ _
    rw [off_self]; exact e2
  · by_cases c2 : 8192 < off (an E tx ty m) (wn tx ty m)
    · rw [dvS_turn c1 c2]
      exact ⟨⟨he, ht, hm, r.1, r.2⟩, fun h => by simp at h, ⟨by dsimp only; omega, by dsimp only; omega, by dsimp only; omega, by dsimp only; omega⟩, ho⟩
    · by_cases c3 : far tx ty m ≤ E.s
      · rw [dvS_end c1 c2 c3]
        have hs := rt_side (x := tx - m.x) (y := ty - m.y)
        unfold far at c3
        exact ⟨⟨he, ht, ht, r.1, r.2⟩, fun _ => ⟨rfl, rfl⟩, ⟨by dsimp only; omega, by dsimp only; omega, by dsimp only; omega, by dsimp only; omega⟩, ho⟩
      · rw [dvS_go c1 c2 c3]
        have p1 := part_in e0 (cs_range (an E tx ty m))
        have p2 := part_in e0 (sn_range (an E tx ty m))
        have l1 := cl_in (m.x + E.s * cs (an E tx ty m) / 65536) e4
        have l2 := cl_in (m.y + E.s * sn (an E tx ty m) / 65536) e6
        generalize E.s * cs (an E tx ty m) / 65536 = p at *
        generalize E.s * sn (an E tx ty m) / 65536 = q at *
        have b1 : -E.s ≤ cl (m.x + p) E.w - m.x ∧ cl (m.x + p) E.w - m.x ≤ E.s := by unfold cl; split <;> (try split) <;> omega
        have b2 : -E.s ≤ cl (m.y + q) E.h - m.y ∧ cl (m.y + q) E.h - m.y ≤ E.s := by unfold cl; split <;> (try split) <;> omega
        exact ⟨⟨he, ht, ⟨l1.1, l1.2, l2.1, l2.2⟩, r.1, r.2⟩, fun h => by simp at h, ⟨b1.1, b1.2, b2.1, b2.2⟩, ho⟩
theorem okM.dvS {E : Eg} {tx ty : Int} {m : Mv} (h : okM E tx ty m) : okM E tx ty (dvS E tx ty m).1 := (dvS_keeps h).1

/-! ### many steps -/
/-- So many steps, and how many were made. -/
noncomputable def dvN (E : Eg) (tx ty : Int) : Nat → Mv → Mv × Nat
  | 0, m => (m, 0)
  | n + 1, m => if (dvS E tx ty m).2 then ((dvS E tx ty m).1, 1) else ((dvN E tx ty n (dvS E tx ty m).1).1, (dvN E tx ty n (dvS E tx ty m).1).2 + 1)
theorem dvN_zero (E : Eg) (tx ty : Int) (m : Mv) : dvN E tx ty 0 m = (m, 0) := rfl
theorem dvN_there {E : Eg} {tx ty : Int} {m : Mv} (n : Nat) (h : (dvS E tx ty m).2 = true) : dvN E tx ty (n + 1) m = ((dvS E tx ty m).1, 1) := by
  rw [dvN, if_pos h]
theorem dvN_more {E : Eg} {tx ty : Int} {m : Mv} (n : Nat) (h : (dvS E tx ty m).2 = false) :
    dvN E tx ty (n + 1) m = ((dvN E tx ty n (dvS E tx ty m).1).1, (dvN E tx ty n (dvS E tx ty m).1).2 + 1) := by
  rw [dvN, if_neg (by simp [h])]
/-- A step that changes nothing: nor do the others. -/
theorem dvN_still {E : Eg} {tx ty : Int} {m : Mv} (h : dvS E tx ty m = (m, false)) : ∀ n, dvN E tx ty n m = (m, n) := by
  intro n
  induction n with
  | zero => rfl
  | succ n ih => rw [dvN_more n (by rw [h]), h, ih]
theorem okM.dvN {E : Eg} {tx ty : Int} : ∀ (n : Nat) {m : Mv}, okM E tx ty m → okM E tx ty (dvN E tx ty n m).1 := by
  intro n
  induction n with
  | zero => intro m h; exact h
  | succ n ih =>
    intro m h
    cases hb : (Go.Proofs.YtckeplbmkjoiaaaDoor.dvS E tx ty m).2 with
    | true => rw [dvN_there n hb]; exact h.dvS
    | false => rw [dvN_more n hb]; exact ih h.dvS
theorem dvN_le (E : Eg) (tx ty : Int) : ∀ (n : Nat) (m : Mv), (dvN E tx ty n m).2 ≤ n := by
  intro n
  induction n with
  | zero => intro m; exact Nat.le_refl 0
  | succ n ih =>
    intro m
    cases hb : (dvS E tx ty m).2 with
    | true => rw [dvN_there n hb]; show 1 ≤ _; omega
    | false => rw [dvN_more n hb]; have := ih (dvS E tx ty m).1; show _ + 1 ≤ _; omega
/-- Who is there stays there, in a step at most. -/
theorem dvN_at {E : Eg} {tx ty : Int} {m : Mv} (h : m.x = tx ∧ m.y = ty) (n : Nat) : (dvN E tx ty n m).1 = m ∧ (dvN E tx ty n m).2 ≤ 1 := by
  cases n with
  | zero => exact ⟨rfl, Nat.zero_le _⟩
  | succ n => rw [dvN_there n (by rw [dvS_at h]), dvS_at h]; exact ⟨rfl, Nat.le_refl _⟩
/-- So many steps, and more. -/
theorem dvN_add {E : Eg} {tx ty : Int} (q : Nat) : ∀ (n : Nat) {m : Mv}, okM E tx ty m →
    ((dvN E tx ty n m).1.x = tx ∧ (dvN E tx ty n m).1.y = ty ∧ 0 < (dvN E tx ty n m).2 → (dvN E tx ty (n + q) m).1 = (dvN E tx ty n m).1 ∧ (dvN E tx ty (n + q) m).2 ≤ (dvN E tx ty n m).2 + 1)
    ∧ (¬ ((dvN E tx ty n m).1.x = tx ∧ (dvN E tx ty n m).1.y = ty ∧ 0 < (dvN E tx ty n m).2) →
      (dvN E tx ty (n + q) m).1 = (dvN E tx ty q (dvN E tx ty n m).1).1 ∧ (dvN E tx ty (n + q) m).2 = (dvN E tx ty n m).2 + (dvN E tx ty q (dvN E tx ty n m).1).2) := by
  intro n
  induction n with
  | zero =>
    intro m h
    refine ⟨fun h => absurd h.2.2 (by simp [dvN_zero]), fun _ => ?_⟩
    rw [Nat.zero_add, dvN_zero]
    exact ⟨rfl, by simp⟩
  | succ n ih =>
    intro m h
    cases hb : (dvS E tx ty m).2 with
    | true =>
      rw [show n + 1 + q = n + q + 1 by omega, dvN_there n hb, dvN_there (n + q) hb]
      have := (dvS_keeps h).2.1 hb
      exact ⟨fun _ => ⟨rfl, by simp⟩, fun hn => absurd ⟨this.1, this.2, by simp⟩ hn⟩
    | false =>
      rw [show n + 1 + q = n + q + 1 by omega, dvN_more n hb, dvN_more (n + q) hb]
      obtain ⟨i1, i2⟩ := ih (m := (dvS E tx ty m).1) h.dvS
      generalize (dvS E tx ty m).1 = m' at *
      by_cases c : (dvN E tx ty n m').1.x = tx ∧ (dvN E tx ty n m').1.y = ty ∧ 0 < (dvN E tx ty n m').2
      · obtain ⟨j1, j2⟩ := i1 c
        exact ⟨fun _ => ⟨j1, by dsimp only; omega⟩, fun hn => absurd ⟨c.1, c.2.1, by simp⟩ hn⟩
      · obtain ⟨j1, j2⟩ := i2 c
        refine ⟨fun hc => ?_, fun hn => ⟨j1, by dsimp only; omega⟩⟩
        have s := dvN_at (E := E) (m := (dvN E tx ty n m').1) ⟨hc.1, hc.2.1⟩ q
        exact ⟨j1.trans s.1, by dsimp only; omega⟩

/-- So many steps have been made, and where that leads. -/
def Mde (E : Eg) (tx ty : Int) (n : Nat) (m0 : Mv) (k : Nat) (m : Mv) : Prop :=
  okM E tx ty m ∧ k ≤ n ∧ (dvN E tx ty n m0).1 = (dvN E tx ty (n - k) m).1 ∧ (dvN E tx ty n m0).2 = k + (dvN E tx ty (n - k) m).2
theorem Mde.start {E : Eg} {tx ty : Int} (n : Nat) {m : Mv} (h : okM E tx ty m) : Mde E tx ty n m 0 m := ⟨h, by omega, rfl, by simp⟩
theorem Mde.there {E : Eg} {tx ty : Int} {n k : Nat} {m0 m : Mv} (h : Mde E tx ty n m0 k m) (hk : k < n) (hb : (dvS E tx ty m).2 = true) :
    (dvN E tx ty n m0).1 = (dvS E tx ty m).1 ∧ (dvN E tx ty n m0).2 = k + 1 := by
  obtain ⟨_, _, a, b⟩ := h
  rw [a, b, show n - k = (n - k - 1) + 1 by omega, dvN_there _ hb]
  exact ⟨rfl, rfl⟩
theorem Mde.more {E : Eg} {tx ty : Int} {n k : Nat} {m0 m : Mv} (h : Mde E tx ty n m0 k m) (hk : k < n) (hb : (dvS E tx ty m).2 = false) :
    Mde E tx ty n m0 (k + 1) (dvS E tx ty m).1 := by
  obtain ⟨o, _, a, b⟩ := h
  rw [show n - k = (n - (k + 1)) + 1 by omega, dvN_more _ hb] at a b
  exact ⟨o.dvS, hk, a, by rw [b]; dsimp only; omega⟩
theorem Mde.still {E : Eg} {tx ty : Int} {n k : Nat} {m0 m : Mv} (h : Mde E tx ty n m0 k m) (hb : dvS E tx ty m = (m, false)) :
    (dvN E tx ty n m0).1 = m ∧ (dvN E tx ty n m0).2 = n := by
  obtain ⟨o, hk, a, b⟩ := h
  rw [a, b, dvN_still hb]
  exact ⟨rfl, by dsimp only; omega⟩
theorem Mde.done {E : Eg} {tx ty : Int} {n : Nat} {m0 m : Mv} (h : Mde E tx ty n m0 n m) : (dvN E tx ty n m0).1 = m ∧ (dvN E tx ty n m0).2 = n := by
  obtain ⟨o, hk, a, b⟩ := h
  rw [Nat.sub_self, dvN_zero] at a b
  exact ⟨a, b⟩

end Go.Proofs.YtckeplbmkjoiaaaDoor
